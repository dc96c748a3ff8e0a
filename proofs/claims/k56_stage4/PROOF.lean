import PyProof.Rows.All
import Wide.All
import OpenK.AllK
import Wide.FinOn
import Lean
import KE.KIntText
import KE.KRevIter
import PyProof.StrLawsTight
import PyProof.StrLawsChain
import PyProof.Rows.CatFin
import PyProof.CollectIter
import PyProof.JoinWalk
import PyProof.Rows.StrDigitsNeg
import PyProof.Rows.StrJoinMade
import PyProof.Rows.StrBin
import KE.KSortTup
import KE.KLam
import KE.KNestM
import PyProof.EqAt
import PyProof.EqKinds
import PyProof.TupleCall
import PyProof.P3Eq
import PyProof.NeData
import PySem.Challenge.RW_sampleyard_k56_floors_refused
set_option Elab.async false
set_option linter.all false
set_option maxRecDepth 100000
noncomputable section
def Hd.said:PySem.W.OpenLaw.wellSaid PySem.Challenge.rw_sampleyard_k56_floors_refused=true:=by kernel_rfl
abbrev Vaa:=@decide_eq_false
abbrev Vab:=@beq_eq_false_iff_ne
abbrev Vac:=@PySem.Heap.lt_size
abbrev Vad:=@Nat.lt_of_lt_of_le
abbrev Vae:=@Nat.lt_irrefl
abbrev Vaf:=@Nat.ne_of_lt
abbrev Vag:=@PySem.W.hideAll_get
abbrev Vah:=@PySem.W.of_hideAll
abbrev Vai:=@List.mem_range
abbrev Vaj:=@Nat.le_trans
abbrev Vak:=@Nat.le_of_lt
abbrev Vam:=@List.filterMap_cons
abbrev Van:=@List.mem_cons_self
abbrev Vao:=@List.mem_cons_of_mem
abbrev Vap:=@PySem.Heap.get?_none_of_le
abbrev Vaq:=@List.mem_cons
abbrev Var:=@List.mem_append
abbrev Vas:=@List.mem_append_left
abbrev Vat:=@List.getElem?_eq_some_iff
abbrev Vau:=@Option.some.inj
abbrev Vav:=@PySem.wpAny_mono
abbrev Vaw:=@Array.length_toList
abbrev Vax:=@congrArg
abbrev Vay:=@PySem.wpAny_execs_nil
abbrev Vaz:=@PySem.wpAny_bind
abbrev VaA:=@PySem.wpAny_holding
abbrev VaB:=@PySem.wpAny_passesOwn
abbrev VaC:=@Bool.false_ne_true
abbrev VaD:=@Nat.ne_of_gt
abbrev VaE:=@PySem.wpAny_pure
abbrev VaF:=@PySem.Heap.get?_push_of_some
abbrev VaG:=@PySem.Heap.get?_push_size
abbrev VaH:=@Nat.le_refl
abbrev VaI:=@PyProof.Rows.callWith_type1
abbrev VaJ:=@List.mem_filterMap
abbrev VaK:=@List.mem_append_right
abbrev VaL:=@beq_iff_eq
abbrev VaM:=@List.length_cons
abbrev VaN:=@List.map_cons
abbrev VaO:=@List.length_map
abbrev VaP:=@PySem.Heap.size_push
abbrev VaQ:=@Nat.lt_succ_self
abbrev VaR:=@Nat.zero_le
abbrev VaS:=@PySem.W.kia_one
abbrev VaT:=@PySem.Calls.spliced_cons
abbrev VaU:=@List.append_nil
abbrev VaV:=@PySem.codeAny_mono
abbrev VaW:=@PySem.wpAny_Call_Name_kw
abbrev VaX:=@List.nodup_cons
abbrev VaY:=@List.length_take
abbrev VaZ:=@PySem.mem_of_lookup
abbrev Va0:=@List.getElem?_append_right
abbrev Va1:=@List.getElem?_replicate
abbrev Va2:=@List.getElem?_append_left
abbrev Va3:=@List.getElem?_map
abbrev Va4:=@List.mem_of_getElem?
abbrev Va5:=@List.length_append
abbrev Va6:=@List.length_replicate
abbrev Va7:=@List.size_toArray
abbrev Va8:=@if_false
abbrev Va9:=@if_true
abbrev Vba:=@PySem.wpAny_field
abbrev Vbb:=@PySem.wpAny_callSpecial?_slot
abbrev Vbc:=@PyProof.Rows.slot_tuple_getitem
abbrev Vbd:=@PySem.wpAny_call_entry
abbrev Vbe:=@PySem.wpAny_typeOf
abbrev Vbf:=@Bool.and_eq_true
abbrev Vbg:=@PySem.wpAny_newObj_type
abbrev Vbh:=@PySem.Heap.get?_update_self
abbrev Vbi:=@PySem.Heap.get?_update_other
abbrev Vbj:=@List.length_set
abbrev Vbk:=@List.replicate_succ
abbrev Vbl:=@List.flatten_cons
abbrev Vbm:=@decide_eq_true
abbrev Vbn:=@Nat.lt_of_le_of_lt
abbrev Vbo:=@List.forIn_cons
abbrev Vbp:=@List.forIn_nil
abbrev Vbq:=@Nat.lt_succ_of_lt
abbrev Vbr:=@List.lookup_cons
abbrev Vbs:=@Nat.lt_trans
abbrev Vbt:=@List.mem_map
abbrev Vbu:=@List.all_eq_true
abbrev Vbv:=@Array.getElem?_eq_some_iff
abbrev Vbw:=@PySem.codeAny_builtin
abbrev Vbx:=@List.drop_eq_getElem_cons
abbrev Vby:=@Bool.false_eq_true
abbrev Vbz:=@PySem.wpAny_pyIter_list
abbrev VbA:=@PySem.F.slot_tuple_iterator_next
abbrev VbB:=@PySem.wpAny_seqItems
abbrev VbC:=@PySem.wpAny_setField
abbrev VbD:=@PySem.Heap.SameBut.update
abbrev VbE:=@PySem.Obj.data_mapFields
abbrev VbF:=@List.getElem?_eq_getElem
abbrev VbG:=@List.drop_eq_nil_of_le
abbrev VbH:=@List.map_map
abbrev VbI:=@PySem.F.plainAttrs_list
abbrev VbJ:=@PySem.wpAny_updateSeq
abbrev VbK:=@PySem.wpAny_setField_rec
abbrev VbL:=@PySem.wpAny_onRaise
abbrev VbM:=@Array.forIn_toList
abbrev VbN:=@List.not_mem_nil
abbrev VbO:=@PySem.Around.under_plainId
abbrev VbP:=@PySem.F.plain_extend_loop
abbrev VbQ:=@List.map_append
abbrev VbR:=@List.mem_singleton
abbrev VbS:=@List.mem_iff_getElem
abbrev VbT:=@List.pairwise_iff_getElem
abbrev VbU:=@Array.getElem?_eq_getElem
abbrev VbV:=@List.getElem_mem
abbrev VbW:=@List.pairwise_cons
abbrev VbX:=@Classical.byContradiction
abbrev VbY:=@Array.getElem?_toList
abbrev VbZ:=@PySem.wpAny_setState_of
abbrev Vb0:=@PySem.Heap.size_update
abbrev Vb1:=@PySem.Heap.get?_push_ne
abbrev Vb2:=@List.forall_mem_cons
abbrev Vb3:=@PySem.PassesOwn.leaving
abbrev Vb4:=@PySem.W.mg_of
abbrev Vb5:=@PySem.W.mg_none_of
abbrev Vb6:=@PySem.BindsTo.of_defaults
namespace L2
open PySem
def inClass(s:Stmt)(j:Nat):Stmt:=match s with
 | .ClassDef _ _ _ body _ _ _ _ _ _ _=>body.getD j (.Pass ⟨0,0,0,0⟩)
 | _=>.Pass ⟨0,0,0,0⟩
def ZaY(s:Stmt):Arguments:=match s with
 | .FunctionDef _ a _ _ _ _ _ _ _ _=>a
 | _=>{ posonlyargs:=[],args:=[],vararg:=none,kwonlyargs:=[],kw_defaults:=[],kwarg:=none,defaults:=[] }
def Zav(s:Stmt):List Stmt:=match s with
 | .FunctionDef _ _ b _ _ _ _ _ _ _=>b
 | _=>[]
def Zac(s:Stmt):Scope:=match s with
 | .FunctionDef _ _ _ _ _ _ sc _ _ _=>sc
 | _=>{ kind:=.function,names:=[],isGenerator:=false,isCoroutine:=false }
end L2
namespace Hd
open PySem PySem.W L2
abbrev top(i:Nat):Stmt:=PySem.Challenge.pw_sampleyard_k56_floors_refused.main.body.getD i (.Pass ⟨0,0,0,0⟩)
def view:Program:={ PySem.Challenge.pw_sampleyard_k56_floors_refused with main:={ PySem.Challenge.pw_sampleyard_k56_floors_refused.main with body:=[top 0,top 2,top 3,top 4,top 5,top 6,top 7,top 9,top 10,top 11,top 12,top 14,top 15,top 16,top 17,top 18,top 19,top 20,top 21,top 22,top 24,top 25,top 26,top 27,top 28,top 29,top 31,top 32,top 33,top 35,top 37,top 38,top 39,top 40,top 41,top 42,top 43,top 44,top 45,top 46,top 47,top 48,top 50,top 51,top 52,top 54,top 56,top 57,top 58,top 59,top 60,top 61,top 63,top 64,top 65,top 66,top 67,top 68,top 70,top 71,top 72,top 73,top 75,top 76,top 77,top 79,top 80,top 81,top 82,top 83,top 84,top 85,top 86,top 87] } }
abbrev S(x:String):Str:=Str.ofString x
abbrev st(x:String)(t:Nat):Value:=.str (Str.ofString x) t
abbrev en(P:Params)(x:String)(t:Nat)(v:Value):DictEntry:=⟨PyData.keyHash P (Str.ofString x),.str (Str.ofString x) t,v⟩
abbrev fd(s:Stmt)(n q:String)(an:Option Addr)(d k c e m t:Value):Data:=.func { name:=Str.ofString n,qualname:=Str.ofString q,params:=ZaY s,body:=.stmts (Zav s),scope:=Zac s,globals:=mainGlobals,closure:=[],defaults:=d,kwdefaults:=k,doc:=e,pyModule:=m,annotations:=an,code:=c,closureTuple:=t,builtins:=builtinsNs }
abbrev T(xs:Array Value):Obj:=⟨.type "tuple", none,.seq xs 0,#[]⟩
abbrev F(s:Stmt)(n q:String)(an:Option Addr)(d k c e m t:Value):Obj:=⟨.type "function", none,fd s n q an d k c e m t,#[]⟩
abbrev G(i:Nat)(n:String)(c:Nat)(m:String)(t:Nat):Obj:=F (top i) n n none .none .none (.ref c) .none (st m t) .none
abbrev D(es:List DictEntry)(n:Nat):Obj:=⟨.type "dict", none,.dict (List.toArray es) n,#[]⟩
abbrev C(n:String)(a:Nat)(q:String)(b c:Nat)(d e f g h:Int)(i:Value)(j:Bool)(k:Int)(l m o p r:Value)(s t:Int)(u:Nat):Obj:=⟨.type "code", none,.fields #[st n a,st q b,st "/claim/cut.py" c,.int d 0,.int e 0,.int f 0,.int g 0,.int h 0,i,.bool j,.int k 0,l,m,o,p,r,.int s 0,.int t 0,st "/claim/cut.py" u],#[]⟩
abbrev B(n:String)(a b c:Nat)(d e:Int)(i l o p r:Nat)(s:Int)(u:Nat):Obj:=C n a n b c d e 0 0 3 (.ref i) true 181 (.ref l) .none (.ref o) (.ref p) (.ref r) s d u
abbrev E(n:String)(a b c:Nat)(d e:Int)(i l r:Nat)(s:Int)(u:Nat):Obj:=C n a n b c d e 0 0 3 (.ref i) true 181 (.ref l) .none .none .none (.ref r) s d u
abbrev L(n:String)(b m:List Value)(a:Addr)(s:List Value)(sl:Array (Option Value)):Obj:=⟨.type "type", none,.cls { name:=Str.ofString n,bases:=b,mro:=m,ns:=a,qualname:=Str.ofString n,hasDict:=true,slotNames:=[],subclasses:=s,abstract:=false,collection:=none,hasDel:=false },sl⟩
def heap:Params->Frag:=λP =>
  (nat_lit 2,⟨.none,none,(.dict (List.toArray []) 0),#[]⟩)::
(nat_lit 3,(D [(en P "__name__" 165 (st "law_sampleyard_k56_floors_refused" 853)),(en P "__doc__" 166 .none),(en P "__package__" 167 .none),(en P "__loader__" 168 (.builtin "__main__.__loader__#opaque")),(en P "__spec__" 169 .none),(en P "__annotations__" 170 (.ref 6)),(en P "__builtins__" 171 (.ref 4)),(en P "__file__" 173 (st "/claim/cut.py" 172)),(en P "__cached__" 174 .none),(en P "_wall" 193 (.ref 21)),(en P "YardError" 213 (.ref 31)),(en P "BadTriangle" 229 (.ref 44)),(en P "BadThing" 245 (.ref 56)),(en P "BadFloor" 261 (.ref 68)),(en P "BadPattern" 277 (.ref 80)),(en P "NoRow" 302 (.ref 99)),(en P "is_whole" 311 (.ref 108)),(en P "is_between" 320 (.ref 115)),(en P "greatest_divisor" 331 (.ref 122)),(en P "summed_products" 339 (.ref 129)),(en P "ratio" 350 (.ref 136)),(en P "plus" 358 (.ref 143)),(en P "minus" 366 (.ref 150)),(en P "product" 374 (.ref 157)),(en P "mean_of" 383 (.ref 164)),(en P "under" 391 (.ref 171)),(en P "least_of" 400 (.ref 178)),(en P "greatest_of" 409 (.ref 185)),(en P "is_fraction" 416 (.ref 192)),(en P "side" 429 (.ref 199)),(en P "edge_numbers" 437 (.ref 206)),(en P "edge_sum" 446 (.ref 213)),(en P "check_before_eye" 454 (.ref 220)),(en P "had" 463 (.ref 227)),(en P "weights" 471 (.ref 234)),(en P "seen_at" 481 (.ref 241)),(en P "depth_and_values" 487 (.ref 246)),(en P "weighed_h" 493 (.ref 251)),(en P "spot_at" 504 (.ref 258)),(en P "MOST_CELLS" 508 (.int (64) 507)),(en P "MOST_SPOTS" 510 (.int (16) 509)),(en P "check_floor" 518 (.ref 265)),(en P "check_spots" 524 (.ref 270)),(en P "is_spot" 531 (.ref 277)),(en P "spots_or_middle" 538 (.ref 284)),(en P "ground_or_none" 545 (.ref 291)),(en P "sights_at" 556 (.ref 298)),(en P "colour_of" 567 (.ref 305)),(en P "nearest_of" 576 (.ref 312)),(en P "layers_over" 582 (.ref 317)),(en P "laid_over" 591 (.ref 324)),(en P "paint" 597 (.ref 330)),(en P "painted_row" 603 (.ref 335)),(en P "sights_in" 609 (.ref 340)),(en P "cell_colour" 615 (.ref 345)),(en P "doubtful" 621 (.ref 351)),(en P "has_alike_depths" 627 (.ref 356)),(en P "MOST_WIDE" 631 (.int (64) 630)),(en P "tiles_along" 639 (.ref 363)),(en P "tile_cells" 655 (.ref 370)),(en P "near_depth" 661 (.ref 375)),(en P "check_wide" 668 (.ref 382)),(en P "order_or_rising" 674 (.ref 387)),(en P "paint_tiles" 680 (.ref 393)),(en P "points_in" 686 (.ref 398)),(en P "looked_at" 692 (.ref 403)),(en P "far_depth" 699 (.ref 410)),(en P "look_at" 712 (.ref 417)),(en P "lesser" 720 (.ref 424)),(en P "paint_cells" 734 (.ref 431)),(en P "MOST_VALUES" 738 (.int (3) 737)),(en P "check_triangle" 746 (.ref 438)),(en P "is_corner" 752 (.ref 443)),(en P "are_values" 758 (.ref 448)),(en P "Thing" 796 (.ref 472)),(en P "Plain" 845 (.ref 514)),(en P "check_colour" 852 (.ref 523)),(en P "_law_cell_at" 862 (.ref 530)),(en P "_law_mixed" 871 (.ref 537)),(en P "_law_draws" 877 (.ref 542)),(en P "_law_refused" 887 (.ref 549)),(en P "_law_bad_number" 896 (.ref 556)),(en P "_law_bad_spots" 902 (.ref 561)),(en P "_law_bad_order" 912 (.ref 568)),(en P "_law_all_refused" 926 (.ref 575)),(en P "law" 932 (.ref 580))] 86))::
(nat_lit 20,(B "_wall" 187 188 189 1 1 15 16 17 18 19 191 192))::
(nat_lit 21,(G 0 "_wall" 20 "__main__" 164))::
(nat_lit 22,(T #[(.type "ValueError")]))::
(nat_lit 30,(D [(en P "__module__" 203 (st "sampleyard.errors" 194)),(en P "__firstlineno__" 207 (.int (5) 206)),(en P "__static_attributes__" 208 (.ref 29)),(en P "__weakref__" 210 (.ref 32)),(en P "__doc__" 211 .none)] 3))::
(nat_lit 31,(L "YardError" [(.type "ValueError")] [(.ref 31),(.type "ValueError"),(.type "Exception"),(.type "BaseException"),(.type "object")] 30 [(.ref 44),(.ref 56),(.ref 68),(.ref 80),(.ref 99)] #[(some (.ref 22)),none,(some (st "YardError" 196)),(some (st "YardError" 204)),(some (.builtin "ValueError.__new__")),(some (.bool true))]))::
(nat_lit 32,⟨(.type "getset_descriptor"),none,(.fields #[(st "__weakref__" 209),(.ref 31),(.builtin "ExceptionGroup.__weakref__"),.none]),#[]⟩)::
(nat_lit 35,(T #[(.ref 31)]))::
(nat_lit 43,(D [(en P "__module__" 221 (st "sampleyard.errors" 194)),(en P "__firstlineno__" 225 (.int (7) 224)),(en P "__static_attributes__" 226 (.ref 42)),(en P "__doc__" 227 .none)] 2))::
(nat_lit 44,(L "BadTriangle" [(.ref 31)] [(.ref 44),(.ref 31),(.type "ValueError"),(.type "Exception"),(.type "BaseException"),(.type "object")] 43 [] #[(some (.ref 35)),none,(some (st "BadTriangle" 214)),(some (st "BadTriangle" 222)),(some (.builtin "ValueError.__new__")),(some (.bool true))]))::
(nat_lit 47,(T #[(.ref 31)]))::
(nat_lit 55,(D [(en P "__module__" 237 (st "sampleyard.errors" 194)),(en P "__firstlineno__" 241 (.int (9) 240)),(en P "__static_attributes__" 242 (.ref 54)),(en P "__doc__" 243 .none)] 2))::
(nat_lit 56,(L "BadThing" [(.ref 31)] [(.ref 56),(.ref 31),(.type "ValueError"),(.type "Exception"),(.type "BaseException"),(.type "object")] 55 [] #[(some (.ref 47)),none,(some (st "BadThing" 230)),(some (st "BadThing" 238)),(some (.builtin "ValueError.__new__")),(some (.bool true))]))::
(nat_lit 59,(T #[(.ref 31)]))::
(nat_lit 67,(D [(en P "__module__" 253 (st "sampleyard.errors" 194)),(en P "__firstlineno__" 257 (.int (11) 256)),(en P "__static_attributes__" 258 (.ref 66)),(en P "__doc__" 259 .none)] 2))::
(nat_lit 68,(L "BadFloor" [(.ref 31)] [(.ref 68),(.ref 31),(.type "ValueError"),(.type "Exception"),(.type "BaseException"),(.type "object")] 67 [] #[(some (.ref 59)),none,(some (st "BadFloor" 246)),(some (st "BadFloor" 254)),(some (.builtin "ValueError.__new__")),(some (.bool true))]))::
(nat_lit 71,(T #[(.ref 31)]))::
(nat_lit 79,(D [(en P "__module__" 269 (st "sampleyard.errors" 194)),(en P "__firstlineno__" 273 (.int (13) 272)),(en P "__static_attributes__" 274 (.ref 78)),(en P "__doc__" 275 .none)] 2))::
(nat_lit 80,(L "BadPattern" [(.ref 31)] [(.ref 80),(.ref 31),(.type "ValueError"),(.type "Exception"),(.type "BaseException"),(.type "object")] 79 [] #[(some (.ref 71)),none,(some (st "BadPattern" 262)),(some (st "BadPattern" 270)),(some (.builtin "ValueError.__new__")),(some (.bool true))]))::
(nat_lit 83,(T #[(.ref 31)]))::
(nat_lit 95,(C "__init__" 290 "NoRow.__init__" 291 292 17 2 0 0 3 (.ref 90) true 181 (.ref 91) .none (.ref 92) (.ref 93) (.ref 94) 295 17 296))::
(nat_lit 96,(F (inClass (top 7) 0) "__init__" "NoRow.__init__" none .none .none (.ref 95) .none (st "sampleyard.errors" 194) .none))::
(nat_lit 98,(D [(en P "__module__" 285 (st "sampleyard.errors" 194)),(en P "__firstlineno__" 289 (.int (15) 288)),(en P "__init__" 297 (.ref 96)),(en P "__static_attributes__" 299 (.ref 97)),(en P "__doc__" 300 .none)] 2))::
(nat_lit 99,(L "NoRow" [(.ref 31)] [(.ref 99),(.ref 31),(.type "ValueError"),(.type "Exception"),(.type "BaseException"),(.type "object")] 98 [] #[(some (.ref 83)),none,(some (st "NoRow" 278)),(some (st "NoRow" 286)),(some (.builtin "ValueError.__new__")),(some (.bool true))]))::
(nat_lit 107,(B "is_whole" 305 306 307 20 1 102 103 104 105 106 309 310))::
(nat_lit 108,(G 9 "is_whole" 107 "sampleyard.whole" 303))::
(nat_lit 114,(B "is_between" 312 313 314 22 3 109 110 111 112 113 318 319))::
(nat_lit 115,(G 10 "is_between" 114 "sampleyard.whole" 303))::
(nat_lit 121,(B "greatest_divisor" 321 322 323 24 1 116 117 118 119 120 329 330))::
(nat_lit 122,(G 11 "greatest_divisor" 121 "sampleyard.whole" 303))::
(nat_lit 128,(B "summed_products" 332 333 334 33 2 123 124 125 126 127 337 338))::
(nat_lit 129,(G 12 "summed_products" 128 "sampleyard.whole" 303))::
(nat_lit 135,(B "ratio" 342 343 344 36 2 130 131 132 133 134 348 349))::
(nat_lit 136,(G 14 "ratio" 135 "sampleyard.fractions" 340))::
(nat_lit 142,(B "plus" 351 352 353 41 2 137 138 139 140 141 356 357))::
(nat_lit 143,(G 15 "plus" 142 "sampleyard.fractions" 340))::
(nat_lit 149,(B "minus" 359 360 361 43 2 144 145 146 147 148 364 365))::
(nat_lit 150,(G 16 "minus" 149 "sampleyard.fractions" 340))::
(nat_lit 156,(B "product" 367 368 369 45 2 151 152 153 154 155 372 373))::
(nat_lit 157,(G 17 "product" 156 "sampleyard.fractions" 340))::
(nat_lit 163,(B "mean_of" 375 376 377 47 1 158 159 160 161 162 381 382))::
(nat_lit 164,(G 18 "mean_of" 163 "sampleyard.fractions" 340))::
(nat_lit 170,(B "under" 384 385 386 52 2 165 166 167 168 169 389 390))::
(nat_lit 171,(G 19 "under" 170 "sampleyard.fractions" 340))::
(nat_lit 177,(B "least_of" 392 393 394 54 1 172 173 174 175 176 398 399))::
(nat_lit 178,(G 20 "least_of" 177 "sampleyard.fractions" 340))::
(nat_lit 184,(B "greatest_of" 401 402 403 60 1 179 180 181 182 183 407 408))::
(nat_lit 185,(G 21 "greatest_of" 184 "sampleyard.fractions" 340))::
(nat_lit 191,(B "is_fraction" 410 411 412 66 1 186 187 188 189 190 414 415))::
(nat_lit 192,(G 22 "is_fraction" 191 "sampleyard.fractions" 340))::
(nat_lit 198,(B "side" 419 420 421 73 3 193 194 195 196 197 427 428))::
(nat_lit 199,(G 24 "side" 198 "sampleyard.edges" 417))::
(nat_lit 205,(B "edge_numbers" 430 431 432 79 2 200 201 202 203 204 435 436))::
(nat_lit 206,(G 25 "edge_numbers" 205 "sampleyard.edges" 417))::
(nat_lit 212,(B "edge_sum" 438 439 440 81 3 207 208 209 210 211 444 445))::
(nat_lit 213,(G 26 "edge_sum" 212 "sampleyard.edges" 417))::
(nat_lit 219,(B "check_before_eye" 447 448 449 83 1 214 215 216 217 218 452 453))::
(nat_lit 220,(G 27 "check_before_eye" 219 "sampleyard.edges" 417))::
(nat_lit 226,(B "had" 455 456 457 87 2 221 222 223 224 225 461 462))::
(nat_lit 227,(G 28 "had" 226 "sampleyard.edges" 417))::
(nat_lit 233,(B "weights" 464 465 466 93 2 228 229 230 231 232 469 470))::
(nat_lit 234,(G 29 "weights" 233 "sampleyard.edges" 417))::
(nat_lit 240,(B "seen_at" 474 475 476 96 2 235 236 237 238 239 479 480))::
(nat_lit 241,(G 31 "seen_at" 240 "sampleyard.seen" 472))::
(nat_lit 245,(E "depth_and_values" 482 483 484 100 2 242 243 244 485 486))::
(nat_lit 246,(G 32 "depth_and_values" 245 "sampleyard.seen" 472))::
(nat_lit 250,(E "weighed_h" 488 489 490 105 2 247 248 249 491 492))::
(nat_lit 251,(G 33 "weighed_h" 250 "sampleyard.seen" 472))::
(nat_lit 257,(B "spot_at" 496 497 498 108 3 252 253 254 255 256 502 503))::
(nat_lit 258,(G 35 "spot_at" 257 "sampleyard.spots" 494))::
(nat_lit 264,(B "check_floor" 511 512 513 113 2 259 260 261 262 263 516 517))::
(nat_lit 265,(G 39 "check_floor" 264 "sampleyard.paint" 505))::
(nat_lit 269,(E "check_spots" 519 520 521 116 1 266 267 268 522 523))::
(nat_lit 270,(G 40 "check_spots" 269 "sampleyard.paint" 505))::
(nat_lit 276,(B "is_spot" 525 526 527 123 1 271 272 273 274 275 529 530))::
(nat_lit 277,(G 41 "is_spot" 276 "sampleyard.paint" 505))::
(nat_lit 283,(B "spots_or_middle" 532 533 534 127 1 278 279 280 281 282 536 537))::
(nat_lit 284,(G 42 "spots_or_middle" 283 "sampleyard.paint" 505))::
(nat_lit 290,(B "ground_or_none" 539 540 541 132 1 285 286 287 288 289 543 544))::
(nat_lit 291,(G 43 "ground_or_none" 290 "sampleyard.paint" 505))::
(nat_lit 297,(B "sights_at" 546 547 548 134 2 292 293 294 295 296 554 555))::
(nat_lit 298,(G 44 "sights_at" 297 "sampleyard.paint" 505))::
(nat_lit 304,(B "colour_of" 557 558 559 141 2 299 300 301 302 303 565 566))::
(nat_lit 305,(G 45 "colour_of" 304 "sampleyard.paint" 505))::
(nat_lit 311,(B "nearest_of" 568 569 570 149 1 306 307 308 309 310 574 575))::
(nat_lit 312,(G 46 "nearest_of" 311 "sampleyard.paint" 505))::
(nat_lit 316,(E "layers_over" 577 578 579 157 2 313 314 315 580 581))::
(nat_lit 317,(G 47 "layers_over" 316 "sampleyard.paint" 505))::
(nat_lit 323,(B "laid_over" 583 584 585 164 2 318 319 320 321 322 589 590))::
(nat_lit 324,(G 48 "laid_over" 323 "sampleyard.paint" 505))::
(nat_lit 325,(T #[.none,.none]))::
(nat_lit 329,(E "paint" 592 593 594 167 5 326 327 328 595 596))::
(nat_lit 330,(F (top 49) "paint" "paint" none (.ref 325) .none (.ref 329) .none (st "sampleyard.paint" 505) .none))::
(nat_lit 334,(E "painted_row" 598 599 600 172 5 331 332 333 601 602))::
(nat_lit 335,(G 50 "painted_row" 334 "sampleyard.paint" 505))::
(nat_lit 339,(E "sights_in" 604 605 606 174 4 336 337 338 607 608))::
(nat_lit 340,(G 51 "sights_in" 339 "sampleyard.paint" 505))::
(nat_lit 344,(E "cell_colour" 610 611 612 176 2 341 342 343 613 614))::
(nat_lit 345,(G 52 "cell_colour" 344 "sampleyard.paint" 505))::
(nat_lit 346,(T #[.none]))::
(nat_lit 350,(E "doubtful" 616 617 618 178 4 347 348 349 619 620))::
(nat_lit 351,(F (top 53) "doubtful" "doubtful" none (.ref 346) .none (.ref 350) .none (st "sampleyard.paint" 505) .none))::
(nat_lit 355,(E "has_alike_depths" 622 623 624 187 1 352 353 354 625 626))::
(nat_lit 356,(G 54 "has_alike_depths" 355 "sampleyard.paint" 505))::
(nat_lit 362,(B "tiles_along" 632 633 634 192 2 357 358 359 360 361 637 638))::
(nat_lit 363,(G 57 "tiles_along" 362 "sampleyard.tiles" 628))::
(nat_lit 369,(B "tile_cells" 640 641 642 194 4 364 365 366 367 368 653 654))::
(nat_lit 370,(G 58 "tile_cells" 369 "sampleyard.tiles" 628))::
(nat_lit 374,(E "near_depth" 656 657 658 203 1 371 372 373 659 660))::
(nat_lit 375,(G 59 "near_depth" 374 "sampleyard.tiles" 628))::
(nat_lit 381,(B "check_wide" 662 663 664 205 1 376 377 378 379 380 666 667))::
(nat_lit 382,(G 60 "check_wide" 381 "sampleyard.tiles" 628))::
(nat_lit 386,(E "order_or_rising" 669 670 671 208 2 383 384 385 672 673))::
(nat_lit 387,(G 61 "order_or_rising" 386 "sampleyard.tiles" 628))::
(nat_lit 388,(T #[.none,.none,.none]))::
(nat_lit 392,(E "paint_tiles" 675 676 677 216 7 389 390 391 678 679))::
(nat_lit 393,(F (top 62) "paint_tiles" "paint_tiles" none (.ref 388) .none (.ref 392) .none (st "sampleyard.tiles" 628) .none))::
(nat_lit 397,(E "points_in" 681 682 683 230 2 394 395 396 684 685))::
(nat_lit 398,(G 63 "points_in" 397 "sampleyard.tiles" 628))::
(nat_lit 402,(E "looked_at" 687 688 689 235 2 399 400 401 690 691))::
(nat_lit 403,(G 64 "looked_at" 402 "sampleyard.tiles" 628))::
(nat_lit 409,(B "far_depth" 693 694 695 247 1 404 405 406 407 408 697 698))::
(nat_lit 410,(G 65 "far_depth" 409 "sampleyard.tiles" 628))::
(nat_lit 416,(B "look_at" 700 701 702 251 4 411 412 413 414 415 710 711))::
(nat_lit 417,(G 66 "look_at" 416 "sampleyard.tiles" 628))::
(nat_lit 423,(B "lesser" 713 714 715 259 2 418 419 420 421 422 718 719))::
(nat_lit 424,(G 67 "lesser" 423 "sampleyard.tiles" 628))::
(nat_lit 430,(B "paint_cells" 721 722 723 261 4 425 426 427 428 429 732 733))::
(nat_lit 431,(G 68 "paint_cells" 430 "sampleyard.tiles" 628))::
(nat_lit 437,(B "check_triangle" 739 740 741 268 1 432 433 434 435 436 744 745))::
(nat_lit 438,(G 71 "check_triangle" 437 "sampleyard.corners" 735))::
(nat_lit 442,(E "is_corner" 747 748 749 276 1 439 440 441 750 751))::
(nat_lit 443,(G 72 "is_corner" 442 "sampleyard.corners" 735))::
(nat_lit 447,(E "are_values" 753 754 755 282 1 444 445 446 756 757))::
(nat_lit 448,(G 73 "are_values" 447 "sampleyard.corners" 735))::
(nat_lit 461,(C "__init__" 773 "Thing.__init__" 774 775 289 2 0 0 3 (.ref 456) true 181 (.ref 457) .none (.ref 458) (.ref 459) (.ref 460) 778 289 779))::
(nat_lit 462,(F (inClass (top 75) 0) "__init__" "Thing.__init__" none .none .none (.ref 461) .none (st "sampleyard.things" 759) .none))::
(nat_lit 468,(C "is_glass" 781 "Thing.is_glass" 782 783 294 1 0 0 3 (.ref 463) true 181 (.ref 464) .none (.ref 465) (.ref 466) (.ref 467) 785 294 786))::
(nat_lit 469,(F (inClass (top 75) 1) "is_glass" "Thing.is_glass" none .none .none (.ref 468) .none (st "sampleyard.things" 759) .none))::
(nat_lit 471,(D [(en P "__module__" 768 (st "sampleyard.things" 759)),(en P "__firstlineno__" 772 (.int (287) 771)),(en P "__init__" 780 (.ref 462)),(en P "is_glass" 787 (.ref 469)),(en P "__static_attributes__" 789 (.ref 470)),(en P "__dict__" 791 (.ref 473)),(en P "__weakref__" 793 (.ref 474)),(en P "__doc__" 794 .none)] 4))::
(nat_lit 472,(L "Thing" [(.type "object")] [(.ref 472),(.type "object")] 471 [(.ref 514)] #[none,none,(some (st "Thing" 761)),(some (st "Thing" 769)),(some (.builtin "object.__new__")),(some (.bool true))]))::
(nat_lit 473,⟨(.type "getset_descriptor"),none,(.fields #[(st "__dict__" 790),(.ref 472),(.builtin "function.__dict__"),(.builtin "function.__dict__#set")]),#[]⟩)::
(nat_lit 474,⟨(.type "getset_descriptor"),none,(.fields #[(st "__weakref__" 792),(.ref 472),(.builtin "ExceptionGroup.__weakref__"),.none]),#[]⟩)::
(nat_lit 477,(T #[(.ref 472)]))::
(nat_lit 489,(C "__init__" 809 "Plain.__init__" 810 811 298 3 0 0 3 (.ref 484) true 181 (.ref 485) .none (.ref 486) (.ref 487) (.ref 488) 815 298 816))::
(nat_lit 490,(F (inClass (top 76) 0) "__init__" "Plain.__init__" none .none .none (.ref 489) .none (st "sampleyard.things" 759) .none))::
(nat_lit 496,(C "word" 818 "Plain.word" 819 820 303 1 0 0 3 (.ref 491) true 181 (.ref 492) .none (.ref 493) (.ref 494) (.ref 495) 822 303 823))::
(nat_lit 497,(F (inClass (top 76) 1) "word" "Plain.word" none .none .none (.ref 496) .none (st "sampleyard.things" 759) .none))::
(nat_lit 503,(C "colour_at" 825 "Plain.colour_at" 826 827 306 2 0 0 3 (.ref 498) true 181 (.ref 499) .none (.ref 500) (.ref 501) (.ref 502) 830 306 831))::
(nat_lit 504,(F (inClass (top 76) 2) "colour_at" "Plain.colour_at" none .none .none (.ref 503) .none (st "sampleyard.things" 759) .none))::
(nat_lit 510,(C "like" 833 "Plain.like" 834 835 309 2 0 0 3 (.ref 505) true 181 (.ref 506) .none (.ref 507) (.ref 508) (.ref 509) 838 309 839))::
(nat_lit 511,(F (inClass (top 76) 3) "like" "Plain.like" none .none .none (.ref 510) .none (st "sampleyard.things" 759) .none))::
(nat_lit 513,(D [(en P "__module__" 804 (st "sampleyard.things" 759)),(en P "__firstlineno__" 808 (.int (296) 807)),(en P "__init__" 817 (.ref 490)),(en P "word" 824 (.ref 497)),(en P "colour_at" 832 (.ref 504)),(en P "like" 840 (.ref 511)),(en P "__static_attributes__" 842 (.ref 512)),(en P "__doc__" 843 .none)] 2))::
(nat_lit 514,(L "Plain" [(.ref 472)] [(.ref 514),(.ref 472),(.type "object")] 513 [] #[(some (.ref 477)),none,(some (st "Plain" 797)),(some (st "Plain" 805)),(some (.builtin "object.__new__")),(some (.bool true))]))::
(nat_lit 522,(B "check_colour" 846 847 848 311 1 517 518 519 520 521 850 851))::
(nat_lit 523,(G 77 "check_colour" 522 "sampleyard.things" 759))::
(nat_lit 529,(B "_law_cell_at" 855 856 857 315 2 524 525 526 527 528 860 861))::
(nat_lit 530,(G 79 "_law_cell_at" 529 "law_sampleyard_k56_floors_refused" 853))::
(nat_lit 536,(B "_law_mixed" 863 864 865 319 2 531 532 533 534 535 869 870))::
(nat_lit 537,(G 80 "_law_mixed" 536 "law_sampleyard_k56_floors_refused" 853))::
(nat_lit 541,(E "_law_draws" 872 873 874 325 2 538 539 540 875 876))::
(nat_lit 542,(G 81 "_law_draws" 541 "law_sampleyard_k56_floors_refused" 853))::
(nat_lit 548,(B "_law_refused" 878 879 880 327 1 543 544 545 546 547 885 886))::
(nat_lit 549,(G 82 "_law_refused" 548 "law_sampleyard_k56_floors_refused" 853))::
(nat_lit 555,(B "_law_bad_number" 888 889 890 335 2 550 551 552 553 554 894 895))::
(nat_lit 556,(G 83 "_law_bad_number" 555 "law_sampleyard_k56_floors_refused" 853))::
(nat_lit 560,(E "_law_bad_spots" 897 898 899 338 1 557 558 559 900 901))::
(nat_lit 561,(G 84 "_law_bad_spots" 560 "law_sampleyard_k56_floors_refused" 853))::
(nat_lit 567,(B "_law_bad_order" 903 904 905 345 2 562 563 564 565 566 910 911))::
(nat_lit 568,(G 85 "_law_bad_order" 567 "law_sampleyard_k56_floors_refused" 853))::
(nat_lit 574,(B "_law_all_refused" 913 914 915 350 4 569 570 571 572 573 924 925))::
(nat_lit 575,(G 86 "_law_all_refused" 574 "law_sampleyard_k56_floors_refused" 853))::
(nat_lit 579,(E "law" 927 928 929 356 1 576 577 578 930 931))::
(nat_lit 580,(G 87 "law" 579 "law_sampleyard_k56_floors_refused" 853))::
[]
abbrev addrs:List Addr:=[2,3,20,21,22,30,31,32,35,43,44,47,55,56,59,67,68,71,79,80,83,95,96,98,99,107,108,114,115,121,122,128,129,135,136,142,143,149,150,156,157,163,164,170,171,177,178,184,185,191,192,198,199,205,206,212,213,219,220,226,227,233,234,240,241,245,246,250,251,257,258,264,265,269,270,276,277,283,284,290,291,297,298,304,305,311,312,316,317,323,324,325,329,330,334,335,339,340,344,345,346,350,351,355,356,362,363,369,370,374,375,381,382,386,387,388,392,393,397,398,402,403,409,410,416,417,423,424,430,431,437,438,442,443,447,448,461,462,468,469,471,472,473,474,477,489,490,496,497,503,504,510,511,513,514,522,523,529,530,536,537,541,542,548,549,555,556,560,561,567,568,574,575,579,580]
abbrev most:Nat:=7984
def Zdn(P:Params):addrs=(heap P).map (·.1):=rfl
abbrev hook:Hook:=kHook heap addrs Zdn
end Hd
namespace Hd
open PySem PySem.W PyProof.Rows
def Zfe(tb:String->Option Builtin)(p:Program)(w:World)(n₀:Nat)(ann:Option Value):Nat->SharedT->Thread->Option SharedT
 | 0,_,_=>none
 | n+1,s,t=>match through t with
  | true=>some s
  | false=>match stepOk n₀ ann t with
   | false=>none
   | true=>match stepT (denote tb) p w s t with
    | some (s',t')=>Zfe tb p w n₀ ann n s' t'
    | none=>none
def Zgn{tb:String->Option Builtin}{p:Program}{w:World}{n₀:Nat}{ann:Option Value}:∀{n:Nat} {s s':SharedT} {t:Thread},Zfe tb p w n₀ ann n s t=some s'->topRun tb p w n₀ ann n s.abs t=some s'.abs
 | 0,_,_,_,h=>by cases h
 | n+1,s,s',t,h=>by
  unfold Zfe at h;unfold topRun;cases he:through t with
  | true=>rw [he] at h;cases h;rfl
  | false =>
   rw [he] at h;cases hk:stepOk n₀ ann t with
   | false=>rw [hk] at h;cases h
   | true =>
    rw [hk] at h;cases hs:stepT (denote tb) p w s t with
    | none=>rw [hs] at h;cases h
    | some r=>obtain ⟨s₂,t₂⟩:=r;rw [hs] at h;rw [stepT_spec hs];exact Zgn h
def ZgV(p:Program)(w:World)(n₀:Nat)(ann:Option Value):Nat->SharedT->Thread->Option SharedT
 | 0,_,_=>none
 | n+1,s,t=>match through t with
  | true=>some s
  | false=>match Fast.tw6613529449190102663 n₀ ann t with
   | false=>none
   | true=>match Fast.tw10156331382660048174 (Fast.tw11892475500146522536 Fast.tw14364793385576792824) p w s t with
    | some (s',t')=>ZgV p w n₀ ann n s' t'
    | none=>none
def Zf7(p:Program)(w:World)(n₀:Nat)(ann:Option Value):∀(n:Nat) (s:SharedT) (t:Thread),Zfe treeTable p w n₀ ann n s t=ZgV p w n₀ ann n s t
 | 0,_,_=>rfl
 | n+1,s,t=>by
  unfold Zfe ZgV;rw [Fast.te6613529449190102663,Fast.te10156331382660048174,Fast.te11892475500146522536,Fast.te14364793385576792824];cases through t with
  | true=>rfl
  | false =>
   cases Fast.tw6613529449190102663 n₀ ann t with
   | false=>rfl
   | true =>
    cases Fast.tw10156331382660048174 (Fast.tw11892475500146522536 Fast.tw14364793385576792824) p w s t with
    | none=>rfl
    | some r =>
     obtain ⟨s',t'⟩:=r;have:=Zf7 p w n₀ ann n s' t';rw [Fast.te14364793385576792824] at this;exact this
def Zi8(i:Nat)(t:BT):List Obj->BT
 | []=>t
 | o::r=>Zi8 (i+1) (t.ins i o) r
def Zrm(w:World)(os:OsState):SharedT:=⟨Zi8 0 .nil (boot_heap w.params).objs.toList,(boot_heap w.params).objs.size,(boot_heap w.params).life,Array.mk [],boot_drawn,boot_toks,os⟩
def ZkL(w:World)(os:OsState):(Zrm w os).abs=⟨boot_heap w.params,Array.mk [],boot_drawn,boot_toks,os⟩:=by kernel_rfl
def obsT(as:List Addr)(s:SharedT):List (Option Obj):=as.map λa=>match Nat.blt a s.n with
 | true=>alive ((s.tree.get a).getD default)
 | false=>none
def Zpi(as:List Addr)(s:SharedT):as.map s.abs.heap.get?=obsT as s:=by
 unfold obsT;refine List.map_congr_left λa _=>?_;show (absHeap s.tree s.n s.life).get? a=_;unfold Heap.get?;rw [absHeap_at];by_cases h:a<s.n
 ·rw [if_pos h,show Nat.blt a s.n=true from Nat.ble_eq.mpr h];generalize (s.tree.get a).getD default=o;obtain ⟨c,d,dt,sl⟩:=o;cases dt<;>rfl
 ·rw [if_neg h,show Nat.blt a s.n=false from Bool.eq_false_iff.mpr λz=>h (Nat.le_of_ble_eq_true z)]
def Zke{p q:Program}{loose:List Str}{Xt:Shared->Bool}{α:Type}{Yf:Shared->α}{Yt:SharedT->α}{Ya:World->α}{N m₀:Nat}{ann:Option Value}{g0:Bool}(hY:∀s,Yf s.abs=Yt s)
  (e:opening p=plainProg p.main.scope.names) (hN:Nat.ble 600 N=true) (f:∀s,fenceModules? p s=some s)
  (hz:∀w:World,((boot_heap w.params).isNs mainGlobals,(boot_heap w.params).objs.size,(boot_heap w.params).nsMap mainGlobals "__annotations__")=(true,m₀,ann))
  (h:∀(w:World) (os:OsState),(ZgV p w m₀ ann N (Zrm w os) (topStub p)).map (λs=>((staticsOk (importedModules p.main.body) (boot_heap w.params) s.abs.heap&&namesBound p s.abs.heap&&gensDone s.abs&&laidKept (boot_heap w.params) s.abs.heap),Fast.tw4187177175401517315 q loose (importedModules p.main.body) Xt g0 s.abs,Yt s))=some (true,openGood q loose,Ya w)) :
  LeftO p q loose Xt Yf Ya N g0:=λw=>by
 obtain ⟨s,hs,hv⟩:=Option.map_eq_some_iff.mp (boot_open e hN f w);unfold openEnds;rw [hs];obtain ⟨hp,g,d,k,os⟩:=s;obtain ⟨rfl,rfl,rfl,rfl⟩ : hp=boot_heap w.params/\g=Array.mk []/\d=boot_drawn/\k=boot_toks:=by simpa using hv
 obtain ⟨s₁,h1,h2⟩:=Option.map_eq_some_iff.mp (h w os);rw [<-Zf7] at h1;rw [<-Fast.te4187177175401517315] at h2;have r:=Zgn h1;rw [ZkL] at r;obtain ⟨z1,z2,z3⟩ : _/\_/\_:=by simpa only [Prod.mk.injEq] using hz w
 obtain ⟨l1,l2,l3⟩ : _/\_/\_:=by simpa only [Prod.mk.injEq] using h2
 show (topFrom treeTable p w N ⟨boot_heap w.params,Array.mk [],boot_drawn,boot_toks,os⟩).map _=_;unfold topFrom;dsimp only;rw [z1]
 show (((topRun treeTable p w (boot_heap w.params).objs.size ((boot_heap w.params).nsMap mainGlobals "__annotations__") N ⟨boot_heap w.params,Array.mk [],boot_drawn,boot_toks,os⟩ (topStub p)).bind λs₁=>match staticsOk (importedModules p.main.body) (boot_heap w.params) s₁.heap&&namesBound p s₁.heap&&gensDone s₁&&laidKept (boot_heap w.params) s₁.heap with
   | true=>some s₁
   | false=>none).map _)=_
 rw [z2,z3,r]
 show ((match staticsOk (importedModules p.main.body) (boot_heap w.params) s₁.abs.heap&&namesBound p s₁.abs.heap&&gensDone s₁.abs&&laidKept (boot_heap w.params) s₁.abs.heap with
   | true=>some s₁.abs
   | false=>none).map _)=_
 rw [l1];show some (openSeen q loose (importedModules p.main.body) Xt g0 s₁.abs,Yf s₁.abs)=_;rw [l2,hY,l3]
set_option maxRecDepth 100000 in
set_option maxHeartbeats 0 in
def left:LeftO PySem.Challenge.pw_sampleyard_k56_floors_refused view ["paint", "doubtful", "paint_tiles"] (λs=>xlAt view [] s&&recOk (RowW.records PySem.Challenge.rw_sampleyard_k56_floors_refused.row.toRowW) s) (Hook.obs hook) (Hook.val hook) most :=
 Zke (Zpi addrs) (by kernel_rfl) (by decide) (λs=>by kernel_rfl) (m₀:=11) (ann:=some (.ref 6)) (λw=>by kernel_rfl) (λw os=>by kernel_rfl)
end Hd
set_option maxHeartbeats 4000000
section
open PySem PySem.Spec PyProof.Rows
namespace L2
abbrev Key:=Sum Int Str
def ZrW:Key->Value->Bool
 | .inl k,v=>Value.isInt k v
 | .inr x,v=>Value.isStrOf x v
def keyH(w:World):Key->Int
 | .inl k=>hashInt k
 | .inr x=>hashStr w x
def ZaN:∀{k:Key} {v:Value},ZrW k v=true->(∃i t,k=Sum.inl i/\v=Value.int i t)\/(∃x t,k=Sum.inr x/\v=Value.str x t)
 | .inl i,v,h=>by
  obtain ⟨t,e⟩:=Value.isInt_shape (k:=i) (v:=v) h;exact .inl ⟨i,t,rfl,e⟩
 | .inr x,v,h=>by
  obtain ⟨t,e⟩:=Value.isStrOf_shape (x:=x) (v:=v) h;exact .inr ⟨x,t,rfl,e⟩
def ZqT(a b):decide ((Sum.inl a:Key)=Sum.inl b)=(a==b):=by
 by_cases e:a=b
 ·subst e;simp
 ·have h:¬(Sum.inl a:Key)=Sum.inl b:=λq=>e (Sum.inl.inj q);rw [Vaa h];exact (Vab.mpr e).symm
def Zqz(a b):decide ((Sum.inr a:Key)=Sum.inr b)=decide (a=b):=by
 by_cases e:a=b
 ·subst e;simp
 ·have h:¬(Sum.inr a:Key)=Sum.inr b:=λq=>e (Sum.inr.inj q);rw [Vaa h,Vaa e]
def ZqA(a)(b):decide ((Sum.inl a:Key)=Sum.inr b)=false:=Vaa (λq=>nomatch q)
def Zqq(a)(b):decide ((Sum.inr a:Key)=Sum.inl b)=false:=Vaa (λq=>nomatch q)
def Zks(prog)(w):PySem.KeyKind prog w Key where
 is:=ZrW
 hash:=keyH w
 inj:=λv a b ha hb=>by
  rcases ZaN ha with ⟨i,t,rfl,rfl⟩ | ⟨x,t,rfl,rfl⟩
  ·rcases ZaN hb with ⟨j,u,rfl,e⟩ | ⟨y,u,rfl,e⟩
   ·injection e with e1 _;rw [e1]
   ·exact nomatch e
  ·rcases ZaN hb with ⟨j,u,rfl,e⟩ | ⟨y,u,rfl,e⟩
   ·exact nomatch e
   ·injection e with e1 _;rw [e1]
 byValue:=λk v h=>by
  rcases ZaN h with ⟨i,t,rfl,rfl⟩ | ⟨x,t,rfl,rfl⟩<;>rfl
 pyHash:=λhv h=>by
  rcases ZaN hv with ⟨i,t,rfl,rfl⟩ | ⟨x,t,rfl,rfl⟩
  ·exact wpAny_pyHash_int h
  ·exact wpAny_pyHash_str h
 eqBool:=λhu hv h=>by
  rcases ZaN hu with ⟨i,t,rfl,rfl⟩ | ⟨x,t,rfl,rfl⟩
  ·rcases ZaN hv with ⟨j,u,rfl,rfl⟩ | ⟨y,u,rfl,rfl⟩
   ·rw [ZqT] at h;exact wpAny_eqBool_int h
   ·rw [ZqA] at h;exact SeqAt.EqAt.int_str i t y u _ _ _ _ h
  ·rcases ZaN hv with ⟨j,u,rfl,rfl⟩ | ⟨y,u,rfl,rfl⟩
   ·rw [Zqq] at h;exact SeqAt.EqAt.str_int x t j u _ _ _ _ h
   ·rw [Zqz] at h;exact wpAny_eqBool_str h
 «strs»:=λk x t v h=>by
  rcases ZaN h with ⟨i,u,rfl,e⟩ | ⟨y,u,rfl,e⟩
  ·exact nomatch e
  ·injection e with e1 _
   subst e1;cases v<;>rfl
inductive V where
 | non | bl (b:Bool) | int (i:Int) | str (x:Str) | byt (b:Array UInt8) | flt (b:UInt64) | ref (a:Addr) | ty (n:String)
 deriving DecidableEq
def RelV:V->Value->Prop
 | .non,u=>u=Value.none
 | .bl b,u=>u=Value.bool b
 | .int i,u=>∃t,u=Value.int i t
 | .str x,u=>∃t,u=Value.str x t
 | .byt b,u=>∃t,u=Value.bytes b t
 | .flt b,u=>∃t,u=Value.float b t
 | .ref a,u=>u=Value.ref a
 | .ty n,u=>u=Value.type n
abbrev Vals:List V->List Value->Prop:=Paired RelV
def Vals.length(r:Vals xs us):xs.length=us.length:=Paired.length r
def Vals.get:∀{xs:List V} {us:List Value} {i:Nat} {x:V},Vals xs us->xs[i]?=some x->∃u,us[i]?=some u/\RelV x u
 | _,_,_,_,.nil,e=>by simp at e
 | _,_,0,_,.cons r _,e=>by simp at e;subst e;exact ⟨_,rfl,r⟩
 | _,_,i+1,x,.cons _ t,e=>by
  obtain ⟨u,h1,h2⟩:=Vals.get (i:=i) (x:=x) t (by simpa using e);exact ⟨u,by simpa using h1,h2⟩
def Vals.set(r:RelV x u):∀{xs:List V} {us:List Value} (i:Nat),Vals xs us->Vals (xs.set i x) (us.set i u)
 | _,_,_,.nil=>.nil
 | _,_,0,.cons _ t=>.cons r t
 | _,_,i+1,.cons q t=>.cons q (Vals.set r i t)
def Vals.append:∀{xs ys:List V} {us ws:List Value},Vals xs us->Vals ys ws->Vals (xs++ys) (us++ws)
 | _,_,_,_,.nil,s=>s
 | _,_,_,_,.cons r t,s=>.cons r (Vals.append t s)
def Vals.take:∀{xs:List V} {us:List Value} (n:Nat),Vals xs us->Vals (xs.take n) (us.take n)
 | _,_,0,_=>.nil
 | _,_,_+1,.nil=>.nil
 | _,_,n+1,.cons r t=>.cons r (Vals.take n t)
def Vals.drop:∀{xs:List V} {us:List Value} (n:Nat),Vals xs us->Vals (xs.drop n) (us.drop n)
 | _,_,0,r=>r
 | _,_,_+1,.nil=>.nil
 | _,_,n+1,.cons _ t=>Vals.drop n t
def RelO:Option V->Option Value->Prop
 | some v,some u=>RelV v u
 | none,none=>True
 | _,_=>False
def KV:List (κ×V)->List (κ×Value)->Prop:=Paired λ(p:κ×V) (q:κ×Value)=>p.1=q.1/\RelV p.2 q.2
def kV:Key->V
 | .inl i=>.int i
 | .inr x=>.str x
inductive HO where
 | lst (xs:List V)
 | tup (xs:List V)
 | dK (kvs:List (Key×V)) | dT (kvs:List (List Key×V))
 | set (S:Int->Bool) (n:Nat)
 | ins (C dx:Addr) (fs:List (Str×V))
 | own (x:Addr)
 | xd (fs:List (Str×V))
 | met (f x:Addr)
 | rng (lo hi:Int)
 | frz (o:Obj) (u:HO)
 | tbl (ps:Array Value)
 | ext (φ:Heap->Prop)
abbrev Hp:=Addr->Option HO
def upd(H:Hp)(a:Addr)(o:HO):Hp:=λb=>if b=a then some o else H b
def Zaf:upd H a o a=some o:=by unfold upd;rw [if_pos rfl]
def Zad(h:b≠a):upd H a o b=H b:=by unfold upd;rw [if_neg h]
def Zae{H:Hp}{a b:Addr}{o:HO}(h:H a=some o)(h':H b=none):a≠b:=by
 intro e;subst e;rw [h] at h';cases h'
section
variable(P:Program)(w:World)
def Zbt(H:Hp)(h:Heap)(a:Addr):HO->Prop
 | .lst xs=>xs.length<=sizeLine/\∃its n,Vals xs its/\h.get? a=some { cls:=.type "list", data:=.seq its.toArray n }
 | .tup xs=>xs.length<=sizeLine/\∃its,Vals xs its/\IsTup h a its.toArray
 | .dK kvs=>kvs.length<=sizeLine/\(a==sysModules)=false/\∃vs,KV kvs vs/\h.DictOf (Zks P w) a vs
 | .dT kvs=>kvs.length<=sizeLine/\(a==sysModules)=false/\∃xs,
   Paired (λ(p:List Key×V) (q:List Key×Addr×Value)=>p.1=q.1/\H q.2.1=some (.tup (p.1.map kV))/\RelV p.2 q.2.2) kvs xs /\
   ∃o es ep,h.get? a=some o/\o.ExactDict/\o.data=.dict es ep/\es.toList=xs.map (entryOfKey (tupleKind (Zks P w)))/\(xs.map (·.1)).Nodup
 | .set S n=>h.SetOf (intKind P w) a S n
 | .ins C dx fs=>H dx=some (.own a)/\fs.length<=1000/\dx≠a/\h.get? a=some (W.instObj C dx) /\
   ∃mA,h.Ns1 dx mA/\(∀f,RelO (fs.lookup f) (mA f))/\PySem.Within mA (fs.map (·.1))
 | .own _=>∃o,h.get? a=some o
 | .xd fs=>∃mA,h.Ns1 a mA/\∀f,RelO (fs.lookup f) (mA f)
 | .rng lo hi=>∃t u v,h.get? a=some { cls:=.type "range", data:=.fields #[.int lo t,.int hi u,.int 1 v] }
 | .frz o u=>h.get? a=some o/\Zbt H h a u
 | .tbl ps=>h.get? a=some { cls:=.none,data:=.fields ps }
 | .met f x=>h.get? a=some (W.methodObj (.ref f) (.ref x))
 | .ext φ=>φ h/\(∃o,h.get? a=some o)/\∀h1 h2,φ h1->(∀o,h1.get? a=some o->h2.get? a=some o)->φ h2
def HOk(H:Hp)(h:Heap):Prop:=∀a o,H a=some o->Zbt P w H h a o
end
section
variable{P:Program}{w:World}{H H':Hp}{h h':Heap}{a:Addr}{o:HO}
def Zbt.lt(x:Zbt P w H h a o):a<h.objs.size:=by
 cases o with
 | lst xs=>obtain ⟨_,_,_,_,e⟩:=x;exact Vac e
 | tup xs=>obtain ⟨_,_,_,p⟩:=x;exact p.lt
 | dK kvs=>obtain ⟨_,_,_,_,o,_,_,e,_⟩:=x;exact Vac e
 | dT kvs=>obtain ⟨_,_,_,_,o,_,_,e,_⟩:=x;exact Vac e
 | set S n=>obtain ⟨o,_,_,_,e,_⟩:=x;exact Vac e
 | ins C dx fs=>obtain ⟨_,_,_,e,_⟩:=x;exact Vac e
 | own y=>obtain ⟨_,e⟩:=x;exact Vac e
 | xd fs=>obtain ⟨_,⟨_,_,_,e,_⟩,_⟩:=x;exact Vac e
 | rng lo hi=>obtain ⟨_,_,_,e⟩:=x;exact Vac e
 | frz ob u=>obtain ⟨e,_⟩:=x;exact Vac e
 | tbl ps=>exact Vac (show h.get? a=some _ from x)
 | met f y=>exact Vac (show h.get? a=some _ from x)
 | ext φ=>obtain ⟨_,⟨_,e⟩,_⟩:=x;exact Vac e
def Paired.mapP{F:α->β->Prop}:∀{l₁:List α} {l₂:List β},Paired F l₁ l₂->(∀a b,F a b->G a b)->Paired G l₁ l₂
 | _,_,.nil,_=>.nil
 | _,_,.cons r t,f=>.cons (f _ _ r) (Paired.mapP t f)
def Zbt.stay(x:Zbt P w H h a o)(k:∀b u,(b=a\/H b=some (.own a))->h.get? b=some u->h'.get? b=some u)(ho:∀b,H b=some (.own a)->H' b=some (.own a))(ht:∀b xs,H b=some (.tup xs)->H' b=some (.tup xs)):Zbt P w H' h' a o:=by
 induction o with
 | lst xs=>obtain ⟨z,its,n,r,e⟩:=x;exact ⟨z,its,n,r,k _ _ (.inl rfl) e⟩
 | tup xs=>obtain ⟨z,its,r,ob,e,c⟩:=x;exact ⟨z,its,r,ob,k _ _ (.inl rfl) e,c⟩
 | dK kvs=>obtain ⟨z,y,vs,r,ob,es,ep,e,c⟩:=x;exact ⟨z,y,vs,r,ob,es,ep,k _ _ (.inl rfl) e,c⟩
 | dT kvs =>
  obtain ⟨z,y,xs,r,ob,es,ep,e,c⟩:=x;exact ⟨z,y,xs,Paired.mapP r λp q z=>⟨z.1,ht _ _ z.2.1,z.2.2⟩,ob,es,ep,k _ _ (.inl rfl) e,c⟩
 | set S n=>obtain ⟨ob,es,ep,t,e,c⟩:=x;exact ⟨ob,es,ep,t,k _ _ (.inl rfl) e,c⟩
 | ins C dx fs =>
  obtain ⟨d,z,ne,e,mA,⟨od,es,ep,e2,c⟩,r⟩:=x;exact ⟨ho _ d,z,ne,k _ _ (.inl rfl) e,mA,⟨od,es,ep,k _ _ (.inr d) e2,c⟩,r⟩
 | own y=>obtain ⟨ob,e⟩:=x;exact ⟨ob,k _ _ (.inl rfl) e⟩
 | xd fs=>obtain ⟨mA,⟨od,es,ep,e,c⟩,r⟩:=x;exact ⟨mA,⟨od,es,ep,k _ _ (.inl rfl) e,c⟩,r⟩
 | rng lo hi=>obtain ⟨t,u,v,e⟩:=x;exact ⟨t,u,v,k _ _ (.inl rfl) e⟩
 | frz ob u ih=>obtain ⟨e,q⟩:=x;exact ⟨k _ _ (.inl rfl) e,ih q⟩
 | tbl ps =>
  have e:h.get? a=some { cls:=.none,data:=.fields ps }:=x;show h'.get? a=some { cls:=.none,data:=.fields ps };exact k a _ (.inl rfl) e
 | met f y =>
  have e:h.get? a=some (W.methodObj (.ref f) (.ref y)):=x;show h'.get? a=some (W.methodObj (.ref f) (.ref y));exact k a _ (.inl rfl) e
 | ext φ=>obtain ⟨p,⟨o,e⟩,st⟩:=x;exact ⟨st _ _ p λo q=>k _ _ (.inl rfl) q,⟨o,k _ _ (.inl rfl) e⟩,st⟩
def HOk.lt(x:HOk P w H h)(e:H a=some o):a<h.objs.size:=(x a o e).lt
def HOk.fresh(x:HOk P w H h)(e:h.objs.size<=a):H a=none:=by
 cases q:H a with
 | none=>rfl
 | some u=>exact absurd (Vad (x.lt q) e) (Vae _)
def HOk.kept(x:HOk P w H h)(k:∀b u,h.get? b=some u->h'.get? b=some u):HOk P w H h':=λa o e =>
 (x a o e).stay (λb u _ q=>k b u q) (λ_ q=>q) λ_ _ q=>q
def HOk.laid(x:HOk P w H h)(k:∀b u,h.get? b=some u->h'.get? b=some u)(hp:h.objs.size<=a)(new:Zbt P w (upd H a o) h' a o):HOk P w (upd H a o) h':=λb u e=>by
 have hn:=x.fresh hp;by_cases hb:b=a
 ·subst hb;rw [Zaf] at e;cases e;exact new
 ·rw [Zad hb] at e;exact (x b u e).stay (λc v _ q=>k c v q) (λc q=>by rw [Zad (Zae q hn)];exact q) λc xs q=>by rw [Zad (Zae q hn)];exact q
end
def Rd(H:Hp)(a:Addr)(u:HO):Prop:=H a=some u\/∃o,H a=some (.frz o u)
def Rd.ok(r:Rd H a u)(x:HOk P w H h):Zbt P w H h a u:=by
 rcases r with r | ⟨o,r⟩
 ·exact x a u r
 ·obtain ⟨_,q⟩:=x a _ r;exact q
def Mut:Option HO->Prop
 | some (.lst _)=>True
 | some (.dK _)=>True
 | some (.dT _)=>True
 | some (.set _ _)=>True
 | some (.ins _ _ _)=>True
 | some (.ext _)=>True
 | _=>False
section
variable{P:Program}{w:World}{H:Hp}{h h':Heap}{x e:Addr}{o':HO}
def HOk.write(ok:HOk P w H h)(mu:Mut (H x))(he:e=x\/H e=some (.own x))(k:∀b u,b≠e->h.get? b=some u->h'.get? b=some u)(heo:∃u,h'.get? e=some u)(new:Zbt P w (upd H x o') h' x o'):HOk P w (upd H x o') h':=λb u q=>by
 have nown:∀c y,H c=some (.own y)->c≠x:=λc y r z=>by subst z;rw [r] at mu;exact mu
 have ntup:∀c xs,H c=some (.tup xs)->c≠x:=λc xs r z=>by subst z;rw [r] at mu;exact mu
 by_cases hb:b=x
 ·subst hb;rw [Zaf] at q;cases q;exact new
 ·rw [Zad hb] at q;by_cases hbe:b=e
  ·have q':H b=some (.own x):=by
    rcases he with z | z
    ·exact absurd (hbe.trans z) hb
    ·rw [hbe];exact z
   rw [q] at q';cases q';obtain ⟨v,hv⟩:=heo;exact ⟨v,by rw [hbe];exact hv⟩
  ·refine (ok b u q).stay (λc v hc r=>k c v ?_ r) (λc r=>by rw [Zad (nown c b r)];exact r) λc xs r=>by rw [Zad (ntup c xs r)];exact r
   rcases hc with rfl | hc
   ·exact hbe
   ·rintro rfl;rcases he with z | z
    ·exact nown c b hc z
    ·rw [hc] at z;cases z;exact hb rfl
end
structure Un(fs ex:List Addr)(H H':Hp)(h h':Heap):Prop where
 keep:∀b o,h.get? b=some o->H b=none->b∉fs->b∉ex->h'.get? b=some o
 slot:∀b o,h.get? b=some o->H b=none->b∈fs->b∉ex->∃sl,h'.get? b=some { o with slots:=sl }
 free:∀b o,h.get? b=some o->H b=none->b∉ex->H' b=none
 there:∀b o,h.get? b=some o->b∉ex->∃o',h'.get? b=some o'
 tups:∀b xs,H b=some (.tup xs)->H' b=some (.tup xs)
 frzs:∀b o u,H b=some (.frz o u)->H' b=some (.frz o u)
 tbls:∀b ps,H b=some (.tbl ps)->∃more,H' b=some (.tbl (ps++more))
section
variable{fs fs' ex ex':List Addr}{H H1 H2:Hp}{h h1 h2 h':Heap}{a x e:Addr}{o:HO}
def Un.any(u:Un fs ex H H1 h h1)(q:h.get? b=some ob)(n:H b=none)(hx:b∉ex):∃sl,h1.get? b=some { ob with slots:=sl }:=by
 by_cases hb:b∈fs
 ·exact u.slot b ob q n hb hx
 ·exact ⟨ob.slots,u.keep b ob q n hb hx⟩
def Un.trans(a:Un fs ex H H1 h h1)(b:Un fs ex H1 H2 h1 h2):Un fs ex H H2 h h2 where
 keep:=λc ob q n hc hx=>b.keep c ob (a.keep c ob q n hc hx) (a.free c ob q n hx) hc hx
 slot:=λc ob q n hc hx=>by
  obtain ⟨sl,e1⟩:=a.slot c ob q n hc hx;obtain ⟨sl',e2⟩:=b.slot c _ e1 (a.free c ob q n hx) hc hx;exact ⟨sl',e2⟩
 free:=λc ob q n hx=>by
  obtain ⟨o',e1⟩:=a.there c ob q hx;exact b.free c o' e1 (a.free c ob q n hx) hx
 there:=λc ob q hx=>by
  obtain ⟨o',e1⟩:=a.there c ob q hx;exact b.there c o' e1 hx
 tups:=λc xs q=>b.tups c xs (a.tups c xs q)
 frzs:=λc ob xs q=>b.frzs c ob xs (a.frzs c ob xs q)
 tbls:=λc ps q=>by
  obtain ⟨m1,e1⟩:=a.tbls c ps q;obtain ⟨m2,e2⟩:=b.tbls c _ e1;exact ⟨m1++m2,by rw [e2,Array.append_assoc]⟩
def Un.kept(k:∀b u,h.get? b=some u->h'.get? b=some u):Un fs ex H H h h' :=
 ⟨λb ob q _ _ _=>k b ob q,λb ob q _ _ _=>⟨ob.slots,k b ob q⟩,λ_ _ _ n _=>n,λb ob q _=>⟨ob,k b ob q⟩,λ_ _ q=>q,λ_ _ _ q=>q,λ_ ps q=>⟨#[],by rw [q];simp⟩⟩
def Un.refl:Un fs ex H H h h:=Un.kept λ_ _ q=>q
def Un.laid(k:∀b u,h.get? b=some u->h'.get? b=some u)(hp:h.objs.size<=a)(hn:H a=none):Un fs ex H (upd H a o) h h' where
 keep:=λb u q _ _ _=>k b u q
 slot:=λb u q _ _ _=>⟨u.slots,k b u q⟩
 free:=λb u q n _=>by rw [Zad (Vaf (Vad (Vac q) hp))];exact n
 there:=λb u q _=>⟨u,k b u q⟩
 tups:=λb xs q=>by rw [Zad (Zae q hn)];exact q
 frzs:=λb u xs q=>by rw [Zad (Zae q hn)];exact q
 tbls:=λb ps q=>⟨#[],by rw [Zad (Zae q hn),q];simp⟩
def Un.write(mu:Mut (H x))(he:e=x\/H e=some (.own x))(k:∀b u,b≠e->h.get? b=some u->h'.get? b=some u)(heo:∃u,h'.get? e=some u):Un fs ex H (upd H x o) h h':=by
 have hx:∀b,H b=none->b≠x:=λb n z=>by subst z;rw [n] at mu;exact mu
 have hb:∀b,H b=none->b≠e:=λb n z=>by
  subst z;rcases he with r | r
  ·exact hx b n r
  ·rw [n] at r;cases r
 have hm:∀b u,H b=some u->¬Mut (some u)->b≠x:=λb u q nm z=>by subst z;rw [q] at mu;exact nm mu
 refine ⟨λb u q n _ _=>k b u (hb b n) q,λb u q n _ _=>⟨u.slots,k b u (hb b n) q⟩,λb u q n _=>by rw [Zad (hx b n)];exact n,λb u q _=>?_,
  λb xs q=>by rw [Zad (hm b _ q λz=>z)];exact q,λb u xs q=>by rw [Zad (hm b _ q λz=>z)];exact q,λb ps q=>⟨#[],by rw [Zad (hm b _ q λz=>z),q];simp⟩⟩
 by_cases hbe:b=e
 ·subst hbe;exact heo
 ·exact ⟨u,k b u hbe q⟩
def Un.mono(u:Un fs ex H H1 h h1)(hs:∀b∈fs,b∈fs')(hx:∀b∈ex,b∈ex'):Un fs' ex' H H1 h h1 :=
 ⟨λb ob q n hb he=>u.keep b ob q n (λz=>hb (hs b z)) λz=>he (hx b z),λ_ _ q n _ he=>u.any q n λz=>he (hx _ z),λb ob q n he=>u.free b ob q n λz=>he (hx b z),λb ob q he=>u.there b ob q λz=>he (hx b z),u.tups,u.frzs,u.tbls⟩
end
def trk(h:Heap)(H:Hp):List Addr:=(List.range h.objs.size).filter λa=>(H a).isSome
def hidT(h:Heap)(H:Hp):Heap:=W.hideAll h (trk h H)
def Zlq(h)(H):(hidT h H).objs.size=h.objs.size:=W.hideAll_size _ _
def Zl2(e:h.get? b=some o)(n:H b=none):(hidT h H).get? b=some o :=
 Vag _ e λhm=>by
  have q:(H b).isSome=true:=(List.mem_filter.mp hm).2;rw [n] at q;simp at q
def Zpw(e:(hidT h H).get? b=some o):h.get? b=some o/\H b=none:=by
 have e':h.get? b=some o:=Vah (trk h H) e;refine ⟨e',?_⟩;cases q:H b with
 | none=>rfl
 | some x =>
  have hm:b∈trk h H:=List.mem_filter.mpr ⟨Vai.mpr (Vac e'),by simp [q]⟩;have z:(hidT h H).get? b=none:=W.hideAll_none (trk h H) hm;rw [z] at e;cases e
structure Mod(K:W.Frag)(mg:Str->Option Value)(base:Heap):Prop where
 kin:K.In base
 glob:base.Ns mainGlobals mg
 blt:∃mb,base.Ns builtinsNs mb/\∀x:Str,x ≠ "__name__"->mb x=bootBuiltins x
 nolimit:base.NoLimit
structure Cx where
 prog:Program
 w:World
 K:W.Frag
 mg:Str->Option Value
 base:Heap
 A:Around
 N:List Str
 s₀:Shared
 H₀:Hp
 env:Env
 outer:List Env
 stack:List Env
 ex:List Addr
 fn:Str->Bool
 calm:Bool
 pn:List (Addr×Obj)
 xe:Value->Shared->Prop
def frs(l:List Env):List Addr:=l.filterMap (·.frame)
abbrev Cx.fs(X:Cx):List Addr:=frs X.outer
def Vis(sc:Scope)(x:Str):Prop:=sc.names.lookup x=some .local\/sc.names.lookup x=some .cell\/sc.names.lookup x=some .free
def Loc(sc:Scope)(x:Str):Prop:=sc.names.lookup x=some .local\/sc.names.lookup x=some .cell
def Look(env:Env)(h:Heap)(m:Str->Option Value)(x:Str)(u:Value):Prop :=
 (env.kindOf x=some .local/\m x=some u)\/((env.kindOf x=some .cell\/env.kindOf x=some .free)/\∃c,env.cells.lookup x=some c/\h.IsCell c (some u))
structure Cx.Ok(X:Cx):Prop where
 mod:Mod X.K X.mg X.base
 kind:X.env.scope.kind=.function
 glob:X.env.globals=mainGlobals
 blt:X.env.builtins=builtinsNs
 above:X.s₀.heap.objs.size<=X.env.locals
 inj:∀x y c,X.env.cells.lookup x=some c->X.env.cells.lookup y=some c->x=y
 has:∀x,(X.env.kindOf x=some .cell\/X.env.kindOf x=some .free)->∃c,X.env.cells.lookup x=some c
 cab:∀x c,X.fn x=true->X.env.cells.lookup x=some c->X.s₀.heap.objs.size<=c
 hd:X.calm=true->X.A.handled=none
 frames:X.A.frames=some X.stack
 stk:X.stack=X.outer\/(X.stack=X.env::X.outer/\X.env.frame=some X.env.locals)
 exf:∀b∈X.ex,b≠X.env.locals/\∀x c,X.env.cells.lookup x=some c->c≠b
 bs:∀b o,X.base.get? b=some o->X.s₀.heap.get? b=some o/\X.H₀ b=none
 bsz:X.base.objs.size<=X.s₀.heap.objs.size
 noex:∀b o,X.base.get? b=some o->b∉X.ex
 exfs:∀b∈X.ex,b∉X.fs
 funs:X.s₀.heap.FunFrames X.base X.outer
 frf:∀b∈X.fs,X.H₀ b=none
structure Inv(X:Cx)(pins:List (Addr×Obj))(σ:List (Option V))(H:Hp)(s:Shared):Prop where
 ok:X.Ok
 os:s.os=X.s₀.os
 bare:AllBare s.gens
 base:Un X.fs X.ex X.H₀ H X.s₀.heap s.heap
 loc:∃m,s.heap.Ns X.env.locals m/\∀(i:Nat) (x:Str) (v:V),X.N[i]?=some x->σ[i]?=some (some v)->Vis X.env.scope x->∃u,RelV v u/\Look X.env s.heap m x u
 cell:∀x c,X.env.cells.lookup x=some c->∃v,s.heap.IsCell c v
 free:H X.env.locals=none
 freeC:∀x c,X.env.cells.lookup x=some c->H c=none
 pin:∀p∈X.pn++pins,s.heap.get? p.1=some p.2/\H p.1=none/\p.1≠X.env.locals/\p.1∉X.fs/\∀v,p.2.data≠.cell v
 hok:HOk X.prog X.w H s.heap
 len:σ.length=X.N.length
section
variable{X:Cx}{pins:List (Addr×Obj)}{σ:List (Option V)}{H H':Hp}{s:Shared}{h':Heap}
def Cx.Ok.nofr(ok:X.Ok)(e:X.base.get? b=some o):b∉X.fs:=λhb=>by
 have:=(ok.funs.mem hb).1;rw [e] at this;cases this
def Inv.bs(I:Inv X pins σ H s):∀b o,X.base.get? b=some o->s.heap.get? b=some o/\H b=none:=λb o e =>
 ⟨I.base.keep b o (I.ok.bs b o e).1 (I.ok.bs b o e).2 (I.ok.nofr e) (I.ok.noex b o e),I.base.free b o (I.ok.bs b o e).1 (I.ok.bs b o e).2 (I.ok.noex b o e)⟩
def Inv.bk(I:Inv X pins σ H s):∀b o,X.base.get? b=some o->s.heap.get? b=some o:=λb o e=>(I.bs b o e).1
def Inv.mod(I:Inv X pins σ H s):Mod X.K X.mg X.base:=I.ok.mod
def Inv.kIn(I:Inv X pins σ H s):X.K.In s.heap:=I.ok.mod.kin.keeps I.bk
def Inv.lt(I:Inv X pins σ H s):X.env.locals<s.heap.objs.size:=let ⟨_,hn,_⟩:=I.loc;hn.lt
def Inv.sz(I:Inv X pins σ H s):X.s₀.heap.objs.size<=s.heap.objs.size:=Vaj I.ok.above (Vak I.lt)
def Inv.nofs(I:Inv X pins σ H s)(h:s.heap.objs.size<=a):a∉X.fs:=λhb=>by
 obtain ⟨_,o,ho,_⟩:=I.ok.funs.mem hb;exact absurd (Vad (Vac ho) (Vaj I.sz h)) (Vae _)
def Inv.cne(I:Inv X pins σ H s):∀x c,X.env.cells.lookup x=some c->c≠X.env.locals:=λx c e z=>by
 obtain ⟨v,o,ho,hd⟩:=I.cell x c e;obtain ⟨m,⟨o',es,ep,ho',hd',_⟩,_⟩:=I.loc;rw [z,ho'] at ho;cases ho;rw [hd'] at hd;cases hd
def Inv.funs(I:Inv X pins σ H s):s.heap.FunFrames X.base X.outer:=by
 have all:∀l,(∀b∈frs l,b∈X.fs)->X.s₀.heap.FunFrames X.base l->s.heap.FunFrames X.base l:=by
  intro l
  induction l with
  | nil=>intro _ _;trivial
  | cons env r ih =>
   intro hs hl;obtain ⟨hk,⟨L,o,hf,hn,ho,hd⟩,hr⟩:=hl;have hL:L∈X.fs:=hs L (by unfold frs;rw [List.filterMap_cons,hf];exact List.mem_cons_self);obtain ⟨sl,e⟩:=I.base.slot L o ho (I.ok.frf L hL) hL λz=>I.ok.exfs L z hL;exact ⟨hk,⟨L,_,hf,hn,e,hd⟩,ih (λb hb=>hs b (by unfold frs;rw [List.filterMap_cons,hf];exact List.mem_cons_of_mem _ hb)) hr⟩
 exact all X.outer (λ_ hb=>hb) I.ok.funs
def Inv.stack(I:Inv X pins σ H s):s.heap.FunFrames X.base X.stack:=by
 rcases I.ok.stk with e | ⟨e,hf⟩
 ·rw [e];exact I.funs
 ·rw [e];obtain ⟨m,hn,_⟩:=I.loc;refine .cons (by rw [I.ok.kind];decide) hf hn ?_ I.funs;exact Vap (Vaj I.ok.bsz I.ok.above)
def Inv.stkSub(I:Inv X pins σ H s):∀b∈frs X.stack,b∈X.env.locals::X.fs:=λb hb=>by
 rcases I.ok.stk with e | ⟨e,hf⟩
 ·rw [e] at hb;exact Vao _ hb
 ·rw [e] at hb;unfold frs at hb;rw [Vam,hf] at hb;exact hb
def Inv.stkFree(I:Inv X pins σ H s):∀b∈frs X.stack,H b=none:=λb hb=>by
 rcases Vaq.mp (I.stkSub b hb) with e | hb
 ·rw [e];exact I.free
 ·obtain ⟨_,o,ho,_⟩:=I.ok.funs.mem hb;exact I.base.free b o ho (I.ok.frf b hb) λz=>I.ok.exfs b z hb
def Inv.step{g':Array GenState}{t':Nat}{d':Drawn}{ch:List Addr}(I:Inv X pins σ H s)(hch:∀b∈ch,(b∈X.ex\/X.s₀.heap.objs.size<=b)/\b≠X.env.locals/\(∀x c,X.env.cells.lookup x=some c->c≠b)/\∀p∈X.pn++pins,p.1≠b)(keep:∀b o,b≠X.env.locals->b∉X.fs->b∉ch->s.heap.get? b=some o->H b=none->h'.get? b=some o)(slot:∀b o,b≠X.env.locals->b∈X.fs->b∉ch->s.heap.get? b=some o->H b=none->∃sl,h'.get? b=some { o with slots:=sl })(free:∀b o,b∉ch->s.heap.get? b=some o->H b=none->H' b=none)(there:∀b o,b∉ch->s.heap.get? b=some o->∃o',h'.get? b=some o')(tups:∀b xs,H b=some (.tup xs)->H' b=some (.tup xs))(frzs:∀b o u,H b=some (.frz o u)->H' b=some (.frz o u))(tbls:∀b ps,H b=some (.tbl ps)->∃more,H' b=some (.tbl (ps++more)))(ns:∀m,s.heap.Ns X.env.locals m->h'.Ns X.env.locals m)(hok:HOk X.prog X.w H' h')(hg:AllBare g') :
  Inv X pins σ H' { s with heap:=h',gens:=g',drawn:=d',toks:=t' }:=by
 have neL:∀b o,X.s₀.heap.get? b=some o->b≠X.env.locals:=λb o e=>Vaf (Vad (Vac e) I.ok.above);have neC:∀b o,X.s₀.heap.get? b=some o->b∉X.ex->b∉ch:=λb o e hx hb=>by
  rcases (hch b hb).1 with z | z
  ·exact hx z
  ·exact absurd (Vad (Vac e) z) (Vae _)
 have cellK:∀x c,X.env.cells.lookup x=some c->∀v,s.heap.IsCell c v->h'.IsCell c v:=λx c e v ⟨o,ho,hd⟩=>by
  have nch:c∉ch:=λz=>(hch c z).2.2.1 x c e rfl;by_cases hc:c∈X.fs
  ·obtain ⟨sl,q⟩:=slot c o (I.cne x c e) hc nch ho (I.freeC x c e);exact ⟨_,q,hd⟩
  ·exact ⟨o,keep c o (I.cne x c e) hc nch ho (I.freeC x c e),hd⟩
 refine ⟨I.ok,I.os,hg,⟨λb o e n hb hx=>?_,λb o e n hb hx=>?_,λb o e n hx=>?_,λb o e hx=>?_,λb xs e=>tups b xs (I.base.tups b xs e),λb o xs e=>frzs b o xs (I.base.frzs b o xs e),λb ps e=>?_⟩,?_,λx c e=>?_,?_,λx c e=>?_,λp hp=>?_,hok,I.len⟩
 ·exact keep b o (neL b o e) hb (neC b o e hx) (I.base.keep b o e n hb hx) (I.base.free b o e n hx)
 ·obtain ⟨sl,e1⟩:=I.base.slot b o e n hb hx;obtain ⟨sl',e2⟩:=slot b _ (neL b o e) hb (neC b o e hx) e1 (I.base.free b o e n hx);exact ⟨sl',e2⟩
 ·obtain ⟨o',e1⟩:=I.base.there b o e hx;exact free b o' (neC b o e hx) e1 (I.base.free b o e n hx)
 ·obtain ⟨o',e1⟩:=I.base.there b o e hx;exact there b o' (neC b o e hx) e1
 ·obtain ⟨m1,e1⟩:=I.base.tbls b ps e;obtain ⟨m2,e2⟩:=tbls b _ e1;exact ⟨m1++m2,by rw [e2,Array.append_assoc]⟩
 ·obtain ⟨m,hn,hl⟩:=I.loc;refine ⟨m,ns m hn,λi x v e1 e2 e3=>?_⟩;obtain ⟨u,r,l⟩:=hl i x v e1 e2 e3;refine ⟨u,r,?_⟩;rcases l with l | ⟨k,c,e,z⟩
  ·exact .inl l
  ·exact .inr ⟨k,c,e,cellK x c e _ z⟩
 ·obtain ⟨v,z⟩:=I.cell x c e;exact ⟨v,cellK x c e v z⟩
 ·obtain ⟨m,⟨o,_,_,ho,_⟩,_⟩:=I.loc;exact free _ o (λz=>(hch _ z).2.1 rfl) ho I.free
 ·obtain ⟨v,o,ho,hd⟩:=I.cell x c e;exact free c o (λz=>(hch c z).2.2.1 x c e rfl) ho (I.freeC x c e)
 ·obtain ⟨e,n,ne,nf,d⟩:=I.pin p hp;have nch:p.1∉ch:=λz=>(hch p.1 z).2.2.2 p hp rfl;exact ⟨keep p.1 p.2 ne nf nch e n,free p.1 p.2 nch e n,ne,nf,d⟩
def Inv.un{t':Nat}(I:Inv X pins σ H s)(u:Un X.fs [] H H' s.heap h')(hok:HOk X.prog X.w H' h'):Inv X pins σ H' { s with heap:=h',toks:=t' }:=by
 obtain ⟨m,⟨o,es,ep,ho,r⟩,_⟩:=id I.loc;obtain ⟨sl,hL⟩:=u.any ho I.free (by simp)
 exact I.step (g':=s.gens) (d':=s.drawn) (ch:=[]) (λ_ z=>nomatch z) (λb o _ hb _ e n=>u.keep b o e n hb (by simp)) (λb o _ hb _ e n=>u.slot b o e n hb (by simp)) (λb o _ e n=>u.free b o e n (by simp)) (λb o _ e=>u.there b o e (by simp)) u.tups u.frzs u.tbls (λm' hm=>by
  obtain ⟨o',es',ep',ho',r'⟩:=hm;rw [ho] at ho';cases ho'
  exact ⟨_,es',ep',hL,r'⟩) hok I.bare
def Inv.call{g':Array GenState}{t':Nat}{d':Drawn}{ch:List Addr}(I:Inv X pins σ H s)(u:Un (frs X.stack) ch H H' s.heap h')(hok:HOk X.prog X.w H' h')(hg:AllBare g')(hch:∀b∈ch,(b∈X.ex\/X.s₀.heap.objs.size<=b)/\b≠X.env.locals/\(∀x c,X.env.cells.lookup x=some c->c≠b)/\∀p∈X.pn++pins,p.1≠b) :
  Inv X pins σ H' { s with heap:=h',gens:=g',drawn:=d',toks:=t' }:=by
 obtain ⟨m,⟨o,es,ep,ho,r⟩,_⟩:=id I.loc;obtain ⟨sl,hL⟩:=u.any ho I.free λz=>(hch _ z).2.1 rfl
 exact I.step (ch:=ch) hch (λb o hL hb hc e n=>u.keep b o e n (λz=>(Vaq.mp (I.stkSub b z)).elim hL hb) hc) (λb o _ _ hc e n=>u.any e n hc) (λb o hc e n=>u.free b o e n hc) (λb o hc e=>u.there b o e hc) u.tups u.frzs u.tbls (λm' hm=>by
  obtain ⟨o',es',ep',ho',r'⟩:=hm;rw [ho] at ho';cases ho'
  exact ⟨_,es',ep',hL,r'⟩) hok hg
def Inv.turned{t':Nat}{it:Addr}(I:Inv X pins σ H s)(k:∀b o,b≠it->s.heap.get? b=some o->h'.get? b=some o)(hn:H it=none)(hL:it≠X.env.locals)(h1:it∈X.ex\/X.s₀.heap.objs.size<=it)(h2:∀x c,X.env.cells.lookup x=some c->c≠it)(h3:∀p∈X.pn++pins,p.1≠it):Inv X pins σ H { s with heap:=h',toks:=t' }:=by
 have nit:∀b u,H b=some u->b≠it:=λb u e z=>by rw [z,hn] at e;cases e
 refine I.step (g':=s.gens) (d':=s.drawn) (ch:=[it]) (λb hb=>?_) (λb o _ _ hc e _=>k b o (λz=>hc (by simp [z])) e) (λb o _ _ hc e _=>⟨o.slots,k b o (λz=>hc (by simp [z])) e⟩) (λ_ _ _ _ n=>n)
  (λb o hc e=>⟨o,k b o (λz=>hc (by simp [z])) e⟩) (λ_ _ e=>e) (λ_ _ _ e=>e) (λb ps e=>⟨#[],by rw [e];simp⟩) (λm hm=>?_) (λb u e=>?_) I.bare
 ·have e:b=it:=by simpa using hb
  subst e;exact ⟨h1,hL,h2,h3⟩
 ·obtain ⟨o,es,ep,ho,r⟩:=hm;exact ⟨o,es,ep,k _ o (Ne.symm hL) ho,r⟩
 ·refine (I.hok b u e).stay (λc v hc q=>k c v ?_ q) (λ_ q=>q) λ_ _ q=>q;rcases hc with z | z
  ·rw [z];exact nit b u e
  ·exact nit c _ z
def Inv.tok(I:Inv X pins σ H s)(t):Inv X pins σ H { s with toks:=t }:=I.un (h':=s.heap) (t':=t) Un.refl I.hok
def Inv.kept(I:Inv X pins σ H s)(k:∀b u,s.heap.get? b=some u->h'.get? b=some u):Inv X pins σ H { s with heap:=h',toks:=t' }:=I.un (Un.kept k) (I.hok.kept k)
def Inv.laid(I:Inv X pins σ H s)(k:∀b u,s.heap.get? b=some u->h'.get? b=some u)(hp:s.heap.objs.size<=a)(new:Zbt X.prog X.w (upd H a o) h' a o) :
  Inv X pins σ (upd H a o) { s with heap:=h',toks:=t' }:=I.un (Un.laid k hp (I.hok.fresh hp)) (I.hok.laid k hp new)
def Inv.write(I:Inv X pins σ H s)(mu:Mut (H x))(he:e=x\/H e=some (.own x))(k:∀b u,b≠e->s.heap.get? b=some u->h'.get? b=some u)(heo:∃u,h'.get? e=some u)(new:Zbt X.prog X.w (upd H x o) h' x o):Inv X pins σ (upd H x o) { s with heap:=h',toks:=t' }:=I.un (Un.write mu he k heo) (I.hok.write mu he k heo new)
def Inv.weak{σ':List (Option V)}(I:Inv X pins σ H s)(hl:σ'.length=σ.length)(w:∀(i:Nat) v,σ'[i]?=some (some v)->σ[i]?=some (some v)):Inv X pins σ' H s :=
 ⟨I.ok,I.os,I.bare,I.base,let ⟨m,hn,hl'⟩:=I.loc;⟨m,hn,λi x v e1 e2 e3=>hl' i x v e1 (w i v e2) e3⟩,I.cell,I.free,I.freeC,I.pin,I.hok,hl.trans I.len⟩
def Inv.pins_of(I:Inv X pins σ H s)(h:∀p∈pins',s.heap.get? p.1=some p.2/\H p.1=none/\p.1≠X.env.locals/\p.1∉X.fs/\∀v,p.2.data≠.cell v):Inv X pins' σ H s :=
 ⟨I.ok,I.os,I.bare,I.base,I.loc,I.cell,I.free,I.freeC,λp hp=>(Var.mp hp).elim (λz=>I.pin p (Vas _ z)) (h p),I.hok,I.len⟩
def Zdq{N:List Str}(hN:N.Nodup){i j:Nat}{x:Str}(a:N[i]?=some x)(b:N[j]?=some x):i=j:=by
 obtain ⟨h1,e1⟩:=Vat.mp a;obtain ⟨h2,e2⟩:=Vat.mp b;exact (List.getElem_inj hN).mp (e1.trans e2.symm)
def ZlM(I:Inv X pins σ H s)(hN:X.N.Nodup)(hi:X.N[i]?=some x)(hx:Loc X.env.scope x)(r:RelV v u)(h:∀s',Inv X pins (σ.set i (some v)) H s'->(∃a,Heap.SameBut a s.heap s'.heap/\(a=X.env.locals\/X.env.cells.lookup x=some a))->Q () s')(hf:X.fn x=true\/X.env.scope.names.lookup x=some .local:=by first | exact .inl rfl | exact .inr rfl | assumption):wpAny M A (storeName X.env x u) Q E s:=by
 obtain ⟨m,hn,hl⟩:=id I.loc;have hcls:(X.env.scope.kind==.class||(X.env.scope.kind==.module&&X.env.locals != X.env.globals))=false:=by rw [I.ok.kind];rfl
 have hiσ:i<σ.length:=by rw [I.len];exact (Vat.mp hi).1
 have cne:=I.cne;have tracked:∀{a:Addr} {h':Heap},(∃o,s.heap.get? a=some o/\H a=none)->Heap.SameBut a s.heap h'->HOk X.prog X.w H h':=λ{a h'} ha hs b ob e=>by
  obtain ⟨_,_,hfree⟩:=ha;refine (I.hok b ob e).stay (λc w' hc q=>(hs.2 c ?_).trans q) (λ_ q=>q) λ_ _ q=>q;rintro rfl;rcases hc with rfl | hc
  ·rw [hfree] at e;cases e
  ·rw [hfree] at hc;cases hc
 rcases hx with hk | hk
 ·refine wpAny_storeName_local hk hn (λh' hn' hs=>?_) hcls;obtain ⟨oL,_,_,hoL,_⟩:=id hn;refine h _ ⟨I.ok,I.os,I.bare,⟨λb o e n hb hx=>?_,λb o e n hb hx=>?_,I.base.free,λb o e hx=>?_,I.base.tups,I.base.frzs,I.base.tbls⟩,⟨_,hn',λj y v' e1 e2 e3=>?_⟩,λy c e=>?_,I.free,I.freeC,λp hp=>?_,tracked ⟨oL,hoL,I.free⟩ hs,by simpa using I.len⟩ ⟨_,hs,.inl rfl⟩
  ·exact (hs.2 b (Vaf (Vad (Vac e) I.ok.above))).trans (I.base.keep b o e n hb hx)
  ·obtain ⟨sl,e1⟩:=I.base.slot b o e n hb hx;exact ⟨sl,(hs.2 b (Vaf (Vad (Vac e) I.ok.above))).trans e1⟩
  ·obtain ⟨o',e1⟩:=I.base.there b o e hx;exact ⟨o',(hs.2 b (Vaf (Vad (Vac e) I.ok.above))).trans e1⟩
  ·by_cases hj:j=i
   ·subst hj;rw [hi] at e1;cases e1;rw [List.getElem?_set_self hiσ] at e2;cases e2;exact ⟨u,r,.inl ⟨hk,by simp⟩⟩
   ·rw [List.getElem?_set_ne (Ne.symm hj)] at e2;obtain ⟨u',r',q⟩:=hl j y v' e1 e2 e3;refine ⟨u',r',?_⟩;rcases q with ⟨k,e⟩ | ⟨k,c,e,z⟩
    ·refine .inl ⟨k,?_⟩;have:y≠x:=λe=>hj (Zdq hN e1 (e▸hi));simp [this,e]
    ·exact .inr ⟨k,c,e,z.sameBut hs (cne y c e)⟩
  ·obtain ⟨w',z⟩:=I.cell y c e;exact ⟨w',z.sameBut hs (cne y c e)⟩
  ·obtain ⟨e,n,ne,nf,d⟩:=I.pin p hp;exact ⟨(hs.2 p.1 ne).trans e,n,ne,nf,d⟩
 ·have hfn:X.fn x=true:=by
   rcases hf with z | z
   ·exact z
   ·rw [z] at hk;cases hk
  obtain ⟨c,hc⟩:=I.ok.has x (.inl hk);obtain ⟨w',z⟩:=I.cell x c hc;refine wpAny_storeName_cell I.ok.kind hk hc z (λh' hc' hs=>?_);obtain ⟨oc,hoc,hocd⟩:=id z;refine h { s with heap:=h' } ⟨I.ok,I.os,I.bare,⟨λb o e n hb hx=>?_,λb o e n hb hx=>?_,I.base.free,λb o e hx=>?_,I.base.tups,I.base.frzs,I.base.tbls⟩,⟨m,hn.sameBut hs (Ne.symm (cne x c hc)),λj y v' e1 e2 e3=>?_⟩,λy c' e=>?_,I.free,I.freeC,λp hp=>?_,tracked ⟨oc,hoc,I.freeC x c hc⟩ hs,by simpa using I.len⟩ ⟨c,hs,.inr hc⟩
  ·exact (hs.2 b (Vaf (Vad (Vac e) (I.ok.cab x c hfn hc)))).trans (I.base.keep b o e n hb hx)
  ·obtain ⟨sl,e1⟩:=I.base.slot b o e n hb hx;exact ⟨sl,(hs.2 b (Vaf (Vad (Vac e) (I.ok.cab x c hfn hc)))).trans e1⟩
  ·obtain ⟨o',e1⟩:=I.base.there b o e hx;exact ⟨o',(hs.2 b (Vaf (Vad (Vac e) (I.ok.cab x c hfn hc)))).trans e1⟩
  ·by_cases hj:j=i
   ·subst hj;rw [hi] at e1;cases e1;rw [List.getElem?_set_self hiσ] at e2;cases e2;exact ⟨u,r,.inr ⟨.inl hk,c,hc,hc'⟩⟩
   ·rw [List.getElem?_set_ne (Ne.symm hj)] at e2;obtain ⟨u',r',q⟩:=hl j y v' e1 e2 e3;refine ⟨u',r',?_⟩;rcases q with q | ⟨k,c',e,z'⟩
    ·exact .inl q
    ·refine .inr ⟨k,c',e,z'.sameBut hs ?_⟩;rintro rfl;exact hj (Zdq hN e1 (I.ok.inj _ _ _ e hc▸hi))
  ·by_cases hcc:c'=c
   ·subst hcc;exact ⟨_,hc'⟩
   ·obtain ⟨w2,z2⟩:=I.cell y c' e;exact ⟨w2,z2.sameBut hs hcc⟩
  ·obtain ⟨e,n,ne,nf,d⟩:=I.pin p hp;refine ⟨(hs.2 p.1 ?_).trans e,n,ne,nf,d⟩;intro q;rw [q,hoc] at e;have q':oc=p.2:=Vau e;exact d w' (by rw [<-q'];exact hocd)
def Zfa(I:Inv X pins σ H s)(hN:X.N.Nodup)(hi:X.N[i]?=some x)(hx:Loc X.env.scope x)(r:RelV v u)(h:∀s',Inv X pins (σ.set i (some v)) H s'->Q () s')(hf:X.fn x=true\/X.env.scope.names.lookup x=some .local:=by first | exact .inl rfl | exact .inr rfl | assumption):wpAny M A (storeName X.env x u) Q E s :=
 ZlM I hN hi hx r (λs' I' _=>h s' I') hf
def Inv.call'(I:Inv X pins σ H s)(ho:s'.os=s.os)(u:Un (frs X.stack) ch H H' s.heap s'.heap)(hok:HOk X.prog X.w H' s'.heap)(hg:AllBare s'.gens)(hch:∀b∈ch,(b∈X.ex\/X.s₀.heap.objs.size<=b)/\b≠X.env.locals/\(∀x c,X.env.cells.lookup x=some c->c≠b)/\∀p∈X.pn++pins,p.1≠b):Inv X pins σ H' s':=by
 obtain ⟨h',g',d',t',o'⟩:=s';have e:o'=s.os:=ho;subst e;exact I.call (g':=g') (t':=t') (d':=d') u hok hg hch
end
abbrev XK:=Value->Option Addr->Hp->Prop
abbrev St:=List (Option V)
abbrev VK:=V->Hp->Prop
abbrev TE:=St->Hp->VK->Prop
abbrev TT:=St->Hp->(Bool->Hp->Prop)->Prop
abbrev TA:=St->Hp->(List V->Hp->Prop)->Prop
structure Ends where
 nx:St->Hp->Prop
 rt:VK
 bk:St->Hp->Prop:=λ_ _=>False
 ct:St->Hp->Prop:=λ_ _=>False
abbrev TS:=Ends->St->Hp->Prop
def EP(X:Cx)(pins:List (Addr×Obj))(σ:St)(Q:VK)(u:Value)(s':Shared):Prop:=∃v H',Inv X pins σ H' s'/\RelV v u/\Q v H'
def TP(X:Cx)(pins:List (Addr×Obj))(σ:St)(Q:Bool->Hp->Prop)(b:Bool)(s':Shared):Prop:=∃H',Inv X pins σ H' s'/\Q b H'
def AP(X:Cx)(pins:List (Addr×Obj))(σ:St)(Q:List V->Hp->Prop)(us:List Value)(s':Shared):Prop:=∃vs H',Inv X pins σ H' s'/\Vals vs us/\Q vs H'
def SP(X:Cx)(pins:List (Addr×Obj))(D:Ends)(f:Flow)(s':Shared):Prop :=
 match f with
 | .next=>∃σ' H',Inv X pins σ' H' s'/\D.nx σ' H'
 | .brk=>∃σ' H',Inv X pins σ' H' s'/\D.bk σ' H'
 | .cont=>∃σ' H',Inv X pins σ' H' s'/\D.ct σ' H'
 | .ret u=>∃v σ' H',Inv X pins σ' H' s'/\RelV v u/\D.rt v H'
def PE(X:Cx)(e:Expr)(t:TE):Prop :=
 ∀pins s σ H Q,Inv X pins σ H s->t σ H Q->wpAny (model X.prog X.w) X.A (eval e X.env) (EP X pins σ Q) X.xe s
def PT(X:Cx)(e:Expr)(t:TT):Prop :=
 ∀pins s σ H Q,Inv X pins σ H s->t σ H Q->wpAny (model X.prog X.w) X.A (isTrue e X.env (eval e X.env)) (TP X pins σ Q) X.xe s
def PW(X:Cx)(e:Expr)(t:TT):Prop :=
 ∀whole pins s σ H Q,Inv X pins σ H s->t σ H Q->wpAny (model X.prog X.w) X.A (isTrue e X.env whole) (TP X pins σ Q) X.xe s
def PW.pt(h:PW X e t):PT X e t:=h _
def PA(X:Cx)(es:List Expr)(t:TA):Prop :=
 ∀pos pins s σ H Q,Inv X pins σ H s->t σ H Q->wpAny (model X.prog X.w) X.A (spliced (backTo pos (starEach es X.env))) (AP X pins σ Q) X.xe s
def PS(X:Cx)(st:Stmt)(t:TS):Prop :=
 ∀pins s σ H D,Inv X pins σ H s->t D σ H->wpAny (model X.prog X.w) X.A (exec st X.env) (SP X pins D) X.xe s
def PSs(X:Cx)(st:List Stmt)(t:TS):Prop :=
 ∀pins s σ H D,Inv X pins σ H s->t D σ H->wpAny (model X.prog X.w) X.A (execs st X.env) (SP X pins D) X.xe s
def thn(h:wpAny M A t Q E s)(hQ:∀a s,Q a s->Q' a s):wpAny M A t Q' E s:=Vav h hQ λ_ _ x=>x
section
variable{X:Cx}
def tVar(i:Nat):TE:=λσ H Q=>∃v,σ[i]?=some (some v)/\Q v H
def tC(v:V):TE:=λ_ H Q=>Q v H
def ZbW(hN:X.N[i]?=some x)(hv:Vis X.env.scope x)(hd:(x==("__debug__" : Str))=false:=by decide)(hcd:(x==("__classdict__" : Str))=false:=by decide):PE X (.Name x pos) (tVar i):=by
 intro pins s σ H Q I h;obtain ⟨v,e,h⟩:=h;obtain ⟨m,hn,hl⟩:=I.loc;obtain ⟨u,r,l⟩:=hl i x v hN e hv;have fin:EP X pins σ Q u s:=⟨v,H,I,r,h⟩;rcases l with ⟨hk,hm⟩ | ⟨hk,c,hc,hcell⟩
 ·exact wpAny_Name (wpAny_loadName_local I.ok.kind hk hn hm fin) hd
 ·rcases hk with hk | hk
  ·exact wpAny_Name (wpAny_loadName_cell I.ok.kind hk hc hcell fin) hd
  ·exact wpAny_Name (wpAny_loadName_free I.ok.kind hk hc hcell fin hcd) hd
def ZqQ{i j pos}:PE X (.Constant (.int i) j pos) (tC (.int i)):=λ_ _ _ H _ I h=>wpAny_Constant_int ⟨.int i,H,I.tok _,⟨_,rfl⟩,h⟩
def Zp5{b j pos}:PE X (.Constant (.bool b) j pos) (tC (.bl b)):=λ_ _ _ H _ I h=>Constant_bool ⟨.bl b,H,I,rfl,h⟩
def ZkI{j pos}:PE X (.Constant .none j pos) (tC .non):=λ_ _ _ H _ I h=>Constant_none ⟨.non,H,I,rfl,h⟩
def ZrF{x j pos}:PE X (.Constant (.str x) j pos) (tC (.str x)):=λ_ _ _ H _ I h=>Calls.Constant_str ⟨.str x,H,I.tok _,⟨_,rfl⟩,h⟩
def Gl(X:Cx)(x:Str):Prop:=X.env.kindOf x=some .globalImplicit
def ZeI(I:Inv X pins σ H s)(hg:Gl X x)(hm:X.mg x=some u)(h:Q u s)(hd:(x==("__debug__" : Str))=false:=by decide):wpAny (model X.prog X.w) X.A (eval (.Name x pos) X.env) Q E s :=
 Calls.Name_function_global I.ok.kind hg (Calls.loadGlobal_global (by rw [I.ok.glob];exact I.mod.glob.keeps I.bk) hm h) hd
def Zdt(I:Inv X pins σ H s)(hg:Gl X x)(hm:X.mg x=none)(hv:bootBuiltins x=some u)(h:Q u s)(hn:x ≠ "__name__" := by decide)(hd:(x==("__debug__" : Str))=false:=by decide):wpAny (model X.prog X.w) X.A (eval (.Name x pos) X.env) Q E s:=by
 obtain ⟨mb,h1,h2⟩:=I.mod.blt;exact Calls.Name_function_global I.ok.kind hg (Calls.loadGlobal_builtin (by rw [I.ok.glob];exact I.mod.glob.keeps I.bk) hm (by rw [I.ok.blt];exact h1.keeps I.bk) ((h2 x hn).trans hv) h) hd
def Zir(hg:Gl X x)(hm:X.mg x=some u)(r:RelV v u)(hd:(x==("__debug__" : Str))=false:=by decide):PE X (.Name x pos) (tC v) :=
 λ_ _ _ H _ I h=>ZeI I hg hm ⟨v,H,I,r,h⟩ hd
def Zog(hg:Gl X x)(hm:X.mg x=none)(hv:bootBuiltins x=some u)(r:RelV v u)(hn:x ≠ "__name__" := by decide)(hd:(x==("__debug__" : Str))=false:=by decide):PE X (.Name x pos) (tC v) :=
 λ_ _ _ H _ I h=>Zdt I hg hm hv ⟨v,H,I,r,h⟩ hn hd
variable{a b:Expr}{ta tb:TE}{pos:Pos}
def tB(t:TE):TT:=λσ H Q=>t σ H λx H1=>∃c,x=.bl c/\Q c H1
def ZnI(h:PE X e t)(he:∀whole,isTrue e X.env whole=(do let v <-whole;standAt e.pos;holding [v] (truthy v)):=by intro _;rfl):PT X e (tB t):=by
 intro pins s σ H Q I hw;refine isTrue_plain (thn (h pins s σ H _ I hw) λv s1 ⟨x,H1,I1,r1,q1⟩=>?_) (he _);obtain ⟨d,rfl,q⟩:=q1;cases r1;exact wpAny_truthy_bool ⟨H1,I1,q⟩
variable{tA tB':TT}{rest:List Expr}
def tAnd(t u:TT):TT:=λσ H Q=>t σ H λc H1=>if c=true then u σ H1 Q else Q false H1
def tOr(t u:TT):TT:=λσ H Q=>t σ H λc H1=>if c=true then Q true H1 else u σ H1 Q
def tNot(t:TT):TT:=λσ H Q=>t σ H λc H1=>Q (!c) H1
def Zoo(ha:PT X a tA):PW X (.BoolOp .And [a] pos) tA:=by
 intro wh pins s σ H Q I h;refine isTrue_and (thn (ha pins s σ H Q I h) λc s1 e=>?_);cases c with
 | true=>exact isTrue_and_nil e
 | false=>exact e
def Zqx(ha:PT X a tA):PW X (.BoolOp .Or [a] pos) tA:=by
 intro wh pins s σ H Q I h;refine isTrue_or (thn (ha pins s σ H Q I h) λc s1 e=>?_);cases c with
 | false=>exact isTrue_or_nil e
 | true=>exact e
def Zqb(ha:PT X a tA)(hb:PW X (.BoolOp .And (b::rest) pos) tB'):PW X (.BoolOp .And (a::b::rest) pos) (tAnd tA tB'):=by
 intro wh pins s σ H Q I h;refine isTrue_and (thn (ha pins s σ H _ I h) λc s1 ⟨H1,I1,q1⟩=>?_);cases c with
 | true=>exact hb wh pins s1 σ H1 Q I1 q1
 | false=>exact ⟨H1,I1,q1⟩
def Zs3(ha:PT X a tA)(hb:PW X (.BoolOp .Or (b::rest) pos) tB'):PW X (.BoolOp .Or (a::b::rest) pos) (tOr tA tB'):=by
 intro wh pins s σ H Q I h;refine isTrue_or (thn (ha pins s σ H _ I h) λc s1 ⟨H1,I1,q1⟩=>?_);cases c with
 | true=>exact ⟨H1,I1,q1⟩
 | false=>exact hb wh pins s1 σ H1 Q I1 q1
def Znw(ha:PT X a tA):PT X (.UnaryOp .Not a pos) (tNot tA):=by
 intro pins s σ H Q I h;exact isTrue_not (ha pins s σ H (λc H1=>Q (!c) H1) I h)
def Zoy(ta tb:TE):TE:=λσ H Q=>ta σ H λx H1=>∃c,x=.bl c/\if c=true then tb σ H1 Q else Q (.bl false) H1
def Zot(ta:TE):TE:=λσ H Q=>ta σ H λx H1=>∃c,x=.bl c/\Q (.bl (!c)) H1
def Zp6{op}(h:PE X a t):PE X (.BoolOp op [a] pos) t:=λpins s σ H Q I hw=>BoolOp_one (h pins s σ H Q I hw)
def Zqc(ha:PE X a ta)(hb:PE X (.BoolOp .And (b::rest) pos) tb):PE X (.BoolOp .And (a::b::rest) pos) (Zoy ta tb):=by
 intro pins s σ H Q I h;refine BoolOp_and (thn (ha pins s σ H _ I h) λv s1 ⟨x,H1,I1,r1,q1⟩=>?_);obtain ⟨c,rfl,q1⟩:=q1;cases r1;refine wpAny_truthy_bool ?_;cases c with
 | true=>exact hb pins s1 σ H1 Q I1 q1
 | false=>exact ⟨.bl false,H1,I1,rfl,q1⟩
def ZqB(ha:PE X a ta):PE X (.UnaryOp .Not a pos) (Zot ta):=by
 intro pins s σ H Q I h;refine UnaryOp_ (thn (ha pins s σ H _ I h) λv s1 ⟨x,H1,I1,r1,q1⟩=>?_);obtain ⟨c,rfl,q1⟩:=q1;cases r1;exact not_of (wpAny_truthy_bool ⟨.bl (!c),H1,I1,rfl,q1⟩)
def tIf(t:TT)(ta tb:TE):TE:=λσ H Q=>t σ H λc H1=>if c=true then ta σ H1 Q else tb σ H1 Q
def Zmx(hc:PT X c tA)(ha:PE X a ta)(hb:PE X b tb):PE X (.IfExp c a b pos) (tIf tA ta tb):=by
 intro pins s σ H Q I h;refine wpAny_IfExp (thn (hc pins s σ H _ I h) λd s1 ⟨H1,I1,q1⟩=>?_);cases d with
 | true=>exact ha pins s1 σ H1 Q I1 q1
 | false=>exact hb pins s1 σ H1 Q I1 q1
end
def SqL(K:W.Frag)(H:Hp)(a:Addr)(xs:List V):Prop :=
 Rd H a (.lst xs) \/
  ∃o its n,K.lookup a=some o/\o.cls=.type "list"/\o.dict=none/\o.data=.seq its n/\its.size<=sizeLine/\Vals xs its.toList
def SqT(K:W.Frag)(H:Hp)(a:Addr)(xs:List V):Prop :=
 Rd H a (.tup xs) \/
  ∃o its n,K.lookup a=some o/\o.cls=.type "tuple"/\o.data=.seq its n/\its.size<=sizeLine/\Vals xs its.toList
def absV:Value->Option V
 | .none=>some .non
 | .bool b=>some (.bl b)
 | .int i _=>some (.int i)
 | .str x _=>some (.str x)
 | .bytes b _=>some (.byt b)
 | .float b _=>some (.flt b)
 | .ref a=>some (.ref a)
 | .type n=>some (.ty n)
 | _=>none
def RelV.abs(r:RelV x u):absV u=some x:=by
 cases x with
 | non=>cases r;rfl
 | bl _=>cases r;rfl
 | int _=>obtain ⟨t,rfl⟩:=r;rfl
 | str _=>obtain ⟨t,rfl⟩:=r;rfl
 | byt _=>obtain ⟨t,rfl⟩:=r;rfl
 | flt _=>obtain ⟨t,rfl⟩:=r;rfl
 | ref _=>cases r;rfl
 | ty _=>cases r;rfl
def RelV.inj(r:RelV x u)(q:RelV y u):x=y:=Vau (r.abs.symm.trans q.abs)
def Vals.inj:∀{xs ys:List V} {us:List Value},Vals xs us->Vals ys us->xs=ys
 | _,_,_,.nil,.nil=>rfl
 | _,_,_,.cons r t,.cons r' t'=>by rw [r.inj r',Vals.inj t t']
section
variable{X:Cx}{pins:List (Addr×Obj)}{σ:St}{H:Hp}{s:Shared}{a:Addr}{xs ys:List V}
def SqL.of{K:W.Frag}(h:H a=some (.lst xs)):SqL K H a xs:=.inl (.inl h)
def SqT.of{K:W.Frag}(h:H a=some (.tup xs)):SqT K H a xs:=.inl (.inl h)
def Inv.list(I:Inv X pins σ H s)(h:SqL X.K H a xs):∃its,Vals xs its/\PlainL s.heap a its.toArray/\xs.length<=sizeLine:=by
 rcases h with h | ⟨o,its,n,hk,hc,hd,hs,hz,r⟩
 ·obtain ⟨z,its,n,r,e⟩:=h.ok I.hok;exact ⟨its,r,⟨_,n,e,rfl,rfl,rfl⟩,z⟩
 ·refine ⟨its.toList,r,⟨o,n,I.kIn a o hk,hc,hd,by simpa using hs⟩,?_⟩;have e:=r.length;simp only [Vaw] at e;omega
def Inv.tuple(I:Inv X pins σ H s)(h:SqT X.K H a xs):∃its,Vals xs its/\IsTup s.heap a its.toArray/\xs.length<=sizeLine:=by
 rcases h with h | ⟨o,its,n,hk,hc,hs,hz,r⟩
 ·obtain ⟨z,its,r,p⟩:=h.ok I.hok;exact ⟨its,r,p,z⟩
 ·refine ⟨its.toList,r,⟨o,I.kIn a o hk,hc,n,by simpa using hs⟩,?_⟩;have e:=r.length;simp only [Vaw] at e;omega
def Inv.list_inj(I:Inv X pins σ H s)(h:SqL X.K H a xs)(h':SqL X.K H a ys):xs=ys:=by
 obtain ⟨its,r,⟨o,n,e,_,_,d⟩,_⟩:=I.list h;obtain ⟨its',r',⟨o',n',e',_,_,d'⟩,_⟩:=I.list h';rw [e] at e';cases e';rw [d] at d';injection d' with d1 _
 have:its=its':=by simpa using Vax Array.toList d1
 subst this;exact r.inj r'
def Inv.tuple_inj(I:Inv X pins σ H s)(h:SqT X.K H a xs)(h':SqT X.K H a ys):xs=ys:=by
 obtain ⟨its,r,⟨o,e,_,n,d⟩,_⟩:=I.tuple h;obtain ⟨its',r',⟨o',e',_,n',d'⟩,_⟩:=I.tuple h';rw [e] at e';cases e';rw [d] at d';injection d' with d1 _
 have:its=its':=by simpa using Vax Array.toList d1
 subst this;exact r.inj r'
end
abbrev Cx.wish(X:Cx)(E:Value->Shared->Prop):Cx:={ X with xe:=E }
abbrev Cx.nox(X:Cx):Cx:=X.wish λ_ _=>False
def Cx.Ok.wish{X:Cx}(ok:X.Ok)(E):(X.wish E).Ok :=
 ⟨ok.mod,ok.kind,ok.glob,ok.blt,ok.above,ok.inj,ok.has,ok.cab,ok.hd,ok.frames,ok.stk,ok.exf,ok.bs,ok.bsz,ok.noex,ok.exfs,ok.funs,ok.frf⟩
def Cx.Ok.unwish{X:Cx}(ok:(X.wish E).Ok):X.Ok :=
 ⟨ok.mod,ok.kind,ok.glob,ok.blt,ok.above,ok.inj,ok.has,ok.cab,ok.hd,ok.frames,ok.stk,ok.exf,ok.bs,ok.bsz,ok.noex,ok.exfs,ok.funs,ok.frf⟩
section
variable{X:Cx}{pins:List (Addr×Obj)}{σ:St}{H:Hp}{s:Shared}{E:Value->Shared->Prop}
def Inv.wish(I:Inv X pins σ H s)(E):Inv (X.wish E) pins σ H s:=⟨I.ok.wish E,I.os,I.bare,I.base,I.loc,I.cell,I.free,I.freeC,I.pin,I.hok,I.len⟩
def Inv.unwish(I:Inv (X.wish E) pins σ H s):Inv X pins σ H s:=⟨I.ok.unwish,I.os,I.bare,I.base,I.loc,I.cell,I.free,I.freeC,I.pin,I.hok,I.len⟩
end
section
variable{X:Cx}{st:Stmt}{rest:List Stmt}{t u:TS}{e:Expr}{te:TE}{pos:Pos}
def ZjN:TS:=λD σ H=>D.nx σ H
def tSeq(t u:TS):TS:=λD σ H=>t { D with nx:=u D } σ H
def Ziv:PSs X [] ZjN:=λ_ _ σ H _ I h=>Vay ⟨σ,H,I,h⟩
def ZbU(h1:PS X st t)(h2:PSs X rest u):PSs X (st::rest) (tSeq t u):=by
 intro pins s σ H D I h;refine wpAny_execs_cons (thn (h1 pins s σ H { D with nx:=u D } I h) λf s1 q=>?_)
 cases f with
 | next =>
  obtain ⟨σ',H',I',q⟩:=q;exact h2 pins s1 σ' H' D I' q
 | ret v=>exact q
 | brk=>exact q
 | cont=>exact q
def Zgv(h1:PS X st t):PSs X [st] t:=by
 intro pins s σ H D I h;refine wpAny_execs_cons (thn (h1 pins s σ H D I h) λf s1 q=>?_);cases f with
 | next=>exact Vay q
 | ret v=>exact q
 | brk=>exact q
 | cont=>exact q
def Zj6:TS:=λD σ H=>D.ct σ H
def ZiE:PS X (.Continue pos) Zj6:=λ_ _ σ H _ I h=>wpAny_Continue ⟨σ,H,I,h⟩
def Inv.quiet(I:Inv X pins σ H s):interactive X.env=false:=by simp [interactive,I.ok.kind]
def Zb3(te:TE):TS:=λD σ H=>te σ H λ_ H1=>D.nx σ H1
def Zdc(he:PE X e te)(hs:swapsWith e none pos.line X.env=pure false:=by rfl):PS X (.Expr e pos) (Zb3 te):=by
 intro pins s σ H D I h;exact wpAny_Expr_any (thn (he pins s σ H _ I h) λv s1 ⟨x,H1,I1,r1,q1⟩=>⟨σ,H1,I1,q1⟩) I.quiet hs
def tRet(te:TE):TS:=λD σ H=>te σ H D.rt
def Zjz(he:PE X e te):PS X (.Return (some e) pos) (tRet te):=by
 intro pins s σ H D I h;exact wpAny_Return_some (thn (he pins s σ H _ I h) λv s1 ⟨x,H1,I1,r1,q1⟩=>⟨x,σ,H1,I1,r1,q1⟩)
def tIfS(c:TT)(t u:TS):TS:=λD σ H=>c σ H λb H1=>if b=true then t D σ H1 else u D σ H1
def Zpt(hc:PT X c tc)(ha:PSs X a t)(hb:PSs X b u):PS X (.If c a b pos) (tIfS tc t u):=by
 intro pins s σ H D I h;refine wpAny_If (thn (hc pins s σ H _ I h) λd s1 ⟨H1,I1,q1⟩=>?_);cases d with
 | true=>exact ha pins s1 σ H1 D I1 q1
 | false=>exact hb pins s1 σ H1 D I1 q1
end
abbrev TG:=V->St->Hp->(St->Hp->Prop)->Prop
abbrev TGs:=List V->St->Hp->(St->Hp->Prop)->Prop
def PG(X:Cx)(target:Expr)(t:TG):Prop :=
 ∀pins s σ H v u Q,Inv X pins σ H s->RelV v u->t v σ H Q ->
  wpAny (model X.prog X.w) X.A (assign target X.env u) (λ_ s'=>∃σ' H',Inv X pins σ' H' s'/\Q σ' H') X.xe s
def PGs(X:Cx)(ts:List Expr)(t:TGs):Prop :=
 ∀pins s σ H vs us Q,Inv X pins σ H s->Vals vs us->t vs σ H Q ->
  wpAny (model X.prog X.w) X.A (assignInOrder ((assignEach ts X.env).map (·.2)) us) (λ_ s'=>∃σ' H',Inv X pins σ' H' s'/\Q σ' H') X.xe s
abbrev TSet:=V->V->V->Hp->(Hp->Prop)->Prop
def PSet(X:Cx)(t:TSet):Prop :=
 ∀pins s σ H o i v ov iv u Q,Inv X pins σ H s->RelV o ov->RelV i iv->RelV v u->t o i v H Q ->
  wpAny (model X.prog X.w) X.A (setItem ov iv u) (λ_ s'=>∃H',Inv X pins σ H' s'/\Q H') X.xe s
section
variable{X:Cx}{pos:Pos}
def ZbT(i:Nat):TG:=λv σ H Q=>Q (σ.set i (some v)) H
def Zoh(hN:X.N.Nodup)(hi:X.N[i]?=some x)(hx:Loc X.env.scope x)(hf:X.fn x=true\/X.env.scope.names.lookup x=some .local:=by first | exact .inl rfl | exact .inr rfl | assumption):PG X (.Name x pos) (ZbT i):=by
 intro pins s σ H v u Q I r h;exact wpAny_assign_Name (Zfa I hN hi hx r (λs' I'=>⟨_,H,I',h⟩) hf)
def gNil:TGs:=λvs σ H Q=>vs=[]/\Q σ H
def Zm9(t:TG)(u:TGs):TGs:=λvs σ H Q=>∃v r,vs=v::r/\t v σ H λσ' H'=>u r σ' H' Q
def Zpb:PGs X [] gNil:=by
 intro pins s σ H vs us Q I r h;obtain ⟨e,h⟩:=h;subst e;cases r;exact assignInOrder_nil ⟨σ,H,I,h⟩
def ZmF(h1:PG X e t)(h2:PGs X es u)(hs:(assignEach (e::es) X.env).map (·.2)=assign e X.env::(assignEach es X.env).map (·.2):=by rfl):PGs X (e::es) (Zm9 t u):=by
 intro pins s σ H vs us Q I r h;obtain ⟨v,vr,e1,h⟩:=h;subst e1;cases r with
 | cons r rr =>
  rw [hs];refine assignInOrder_cons (thn (h1 pins s σ H _ _ _ I r h) λ_ s1 ⟨σ1,H1,I1,q1⟩=>?_);exact h2 pins s1 σ1 H1 _ _ Q I1 rr q1
def gTup(K:W.Frag)(n:Nat)(t:TGs):TG:=λv σ H Q=>∃a xs,v=.ref a/\SqT K H a xs/\xs.length=n/\t xs σ H Q
def Zq8(hc:X.calm=true)(h:PGs X es t)(hn:(assignEach es X.env).length=n:=by rfl)(hst:(assignEach es X.env).findIdx? (·.1)=none:=by rfl):PG X (.Tuple es k pos) (gTup X.K n t):=by
 intro pins s σ H v u Q I r hw;obtain ⟨a,xs,e1,hq,hl,hw⟩:=hw;subst e1;cases r;obtain ⟨its,rv,ht,hz⟩:=I.tuple hq;refine assign_Tuple_tuple (I.ok.hd hc) ht (by simp [hn,<-hl,rv.length]) hst λh' hx=>?_;have I1:Inv X pins σ H { s with heap:=h' }:=I.kept (t':=s.toks) λb o e=>hx b o (Vaf (Vac e)) e
 exact h pins _ σ H xs _ Q I1 (by simpa using rv) hw
def gSub(to ti:TE)(t:TSet):TG:=λv σ H Q=>to σ H λo H1=>ti σ H1 λi H2=>t o i v H2 λH3=>Q σ H3
def Znm(ho:PE X o to)(hi:PE X i ti)(hs:PSet X t) (ha:∀v,assign (.Subscript o i pos) X.env v=(do
   let ov <-holding [v] (eval o X.env)
   let iv <-holding [v,ov] (eval i X.env)
   standAt pos
   holding [v,ov,iv] (setItem ov iv v)
   release [v,ov,iv] []):=by intro _;rfl):PG X (.Subscript o i pos) (gSub to ti t):=by
 intro pins s σ H v u Q I r h;rw [ha];refine Vaz (VaA (thn (ho pins s σ H _ I h) λov s1 ⟨x,H1,I1,r1,q1⟩=>?_));refine Vaz (VaA (thn (hi pins s1 σ H1 _ I1 q1) λiv s2 ⟨y,H2,I2,r2,q2⟩=>?_));refine Vaz (wpAny_standAt (Vaz (VaA (thn (hs pins s2 σ H2 x y v ov iv u _ I2 r1 r2 r q2) λ_ s3 ⟨H3,I3,q3⟩=>?_))));exact wpAny_release ⟨σ,H3,I3,q3⟩
def tAsg(te:TE)(g:TG):TS:=λD σ H=>te σ H λx H1=>g x σ H1 D.nx
def Zk5(he:PE X e te)(hg:PG X tg g)(hs:swapsWithSole [tg] e pos.line X.env=pure false:=by rfl)(hw:swappedStores [tg] e X.env=pure none:=by rfl)(h1:(assignEach [tg] X.env).map (·.2)=[assign tg X.env]:=by rfl):PS X (.Assign [tg] e pos) (tAsg te g):=by
 intro pins s σ H D I h;refine wpAny_Assign_stores (thn (he pins s σ H _ I h) λv s1 ⟨x,H1,I1,r1,q1⟩=>?_) hs hw;rw [h1];exact thn (hg pins s1 σ H1 x v _ I1 r1 q1) λ_ s2 q=>q
def Zjf(hN:X.N.Nodup)(hi:X.N[i]?=some x)(hx:Loc X.env.scope x)(he:PE X e te)(hs:swapsWith e (some (.Name x pos')) pos.line X.env=pure false:=by rfl)(hf:X.fn x=true\/X.env.scope.names.lookup x=some .local:=by first | exact .inl rfl | exact .inr rfl | assumption) :
  PS X (.Assign [.Name x pos'] e pos) (tAsg te (ZbT i)):=by
 intro pins s σ H D I h;refine wpAny_Assign_Name (thn (he pins s σ H _ I h) λv s1 ⟨y,H1,I1,r1,q1⟩=>?_) hs;exact Zfa I1 hN hi hx r1 (λs2 I2=>⟨_,H1,I2,q1⟩) hf
end
section
variable{X:Cx}{pos:Pos}
def Zji(c:TT)(tb:TS):TS:=λD σ H=>∃W:Nat->St->Hp->Prop,(∃m,W m σ H)/\∀m σ H,W m σ H ->
 c σ H λb H1=>if b=true then ∃N:St->Hp->Prop,(∀σ' H',N σ' H'->∃m',m'<m/\W m' σ' H')/\tb { D with nx:=N,ct:=N,bk:=D.nx } σ H1 else D.nx σ H1
def ZlW(hp:PassesOwn (model X.prog X.w) X.A X.env X.xe)(hc:PT X c tc)(hb:PSs X body tb):PS X (.While c body [] pos) (Zji tc tb):=by
 intro pins s σ H D I h;obtain ⟨W,⟨m0,w0⟩,turn⟩:=h;refine wpAny_While (codeAny_whileLoop (λn s'=>∃σ' H',Inv X pins σ' H' s'/\W n σ' H') ?_ m0 ⟨σ,H,I,w0⟩);rintro n s1 ⟨σ1,H1,I1,w1⟩;refine VaB hp (thn (hc pins s1 σ1 H1 _ I1 (turn n σ1 H1 w1)) λb s2 ⟨H2,I2,q2⟩=>?_);cases b with
 | true =>
  obtain ⟨N,hN,q2⟩:=q2;rw [if_pos rfl];refine VaB hp (thn (hb pins s2 σ1 H2 _ I2 q2) λf s3 q3=>?_);cases f with
  | next =>
   obtain ⟨σ3,H3,I3,n3⟩:=q3;obtain ⟨m',hm,w3⟩:=hN σ3 H3 n3;exact ⟨m',hm,σ3,H3,I3,w3⟩
  | cont =>
   obtain ⟨σ3,H3,I3,n3⟩:=q3;obtain ⟨m',hm,w3⟩:=hN σ3 H3 n3;exact ⟨m',hm,σ3,H3,I3,w3⟩
  | brk=>exact q3
  | ret v=>exact q3
 | false =>
  rw [if_neg VaC];exact Vay ⟨σ1,H2,I2,q2⟩
end
structure It where
 go:Nat->Hp->Prop
 yld:Nat->Hp->V->Hp->Prop
 stop:Nat->Hp->Prop
def FpOk(X:Cx)(pins:List (Addr×Obj))(H:Hp)(b:Addr):Prop :=
 H b=none/\b≠X.env.locals/\b∉X.fs/\(b∈X.ex\/X.s₀.heap.objs.size<=b)/\(∀x c,X.env.cells.lookup x=some c->c≠b)/\∀p∈X.pn++pins,p.1≠b
def Inv.fpOk(I:Inv X pins σ H s)(hb:s.heap.objs.size<=b)(hn:H' b=none):FpOk X pins H' b:=by
 refine ⟨hn,VaD (Vad I.lt hb),I.nofs hb,.inr (Vaj I.sz hb),λx c e z=>?_,λp hp z=>?_⟩
 ·obtain ⟨v,q⟩:=I.cell x c e;exact absurd (Vad q.lt (by rw [z];exact hb)) (Vae _)
 ·exact absurd (Vad (Vac (I.pin p hp).1) (by rw [z];exact hb)) (Vae _)
structure Turn(P:Program)(w:World)(K:W.Frag)(tg:Expr)(J:It)(fp:List Addr)(it:Addr)(tn:Nat->Heap->Prop):Prop where
 mem:it∈fp
 obj:∀i h,tn i h->∀b∈fp,∃o,h.get? b=some o/\∀v,o.data≠.cell v
 keep:∀i h h',tn i h->(∀b∈fp,∀o,h.get? b=some o->h'.get? b=some o)->tn i h'
 item:∀(X:Cx),X.prog=P->X.w=w->X.K=K->X.calm=true->∀(i:Nat) (pins:List (Addr×Obj)) (s:Shared) (σ:St) (H:Hp) (E:Value->Shared->Prop),Inv X pins σ H s->(∀b∈fp,FpOk X pins H b)->tn i s.heap->J.go i H ->
  wpAny (model P w) X.A (pyNext (.ref it)) (λr s1=>∃u,r=some u /\
   wpAny (model P w) X.A (letOwnedTupleGo tg (.ref it) u) (λ_ s2=>∃x H',Inv X pins σ H' s2/\RelV x u/\J.yld i H x H'/\tn (i+1) s2.heap/\∀b∈fp,H' b=none) E s1) E s
 done:∀(X:Cx),X.prog=P->X.w=w->X.K=K->X.calm=true->∀(i:Nat) (pins:List (Addr×Obj)) (s:Shared) (σ:St) (H:Hp) (E:Value->Shared->Prop),Inv X pins σ H s->(∀b∈fp,FpOk X pins H b)->tn i s.heap->J.stop i H ->
  wpAny (model P w) X.A (pyNext (.ref it)) (λr s1=>r=none/\Inv X pins σ H s1) E s
 self:∀(A:Around) (i:Nat) (s:Shared) (Q:Value->Shared->Prop) (E:Value->Shared->Prop),tn i s.heap->Q (.ref it) s->wpAny (model P w) A (pyIter (.ref it)) Q E s
abbrev TI:=St->Hp->(It->Hp->Prop)->Prop
def PIE(X:Cx)(pins:List (Addr×Obj))(σ:St)(tg:Expr)(R:It->Hp->Prop)(itv:Value)(s2:Shared):Prop :=
 ∃it fp tn J H',itv=.ref it/\Inv X pins σ H' s2/\Turn X.prog X.w X.K tg J fp it tn/\tn 0 s2.heap/\(∀b∈fp,FpOk X pins H' b)/\R J H'
def PI(X:Cx)(tg iter:Expr)(wi:TI):Prop :=
 ∀pins s σ H R,Inv X pins σ H s->wi σ H R ->
  wpAny (model X.prog X.w) X.A (eval iter X.env) (λv s1=>wpAny (model X.prog X.w) X.A (pyIter v) (PIE X pins σ tg R) X.xe s1) X.xe s
def ZnT(ho:s.heap.get? it=some o)(hc:o.cls=.type n)(hd:o.data=.fields vs)(hn:["enumerate", "zip", "dict_itemiterator", "dict_reverseitemiterator", "odict_iterator", "itertools.zip_longest", "itertools.pairwise"].contains n=false)(hQ:Q () s):wpAny M A (letOwnedTupleGo tg (.ref it) u) Q E s:=by
 unfold letOwnedTupleGo;cases tg<;>first
  | exact VaE hQ
  | (cases u<;>first
    | exact VaE hQ
    | (refine Vaz (wpAny_load ho ?_)
       rw [hc,hd];show wpAny M A (if (["enumerate", "zip", "dict_itemiterator", "dict_reverseitemiterator", "odict_iterator", "itertools.zip_longest", "itertools.pairwise"].contains n&&vs[0]?==some (rawInt _))=true then _ else _) Q E s
       rw [if_neg (by intro h;rw [hn,Bool.false_and] at h;cases h)]
       exact VaE hQ))
def Itl(K:W.Frag)(a:Addr):It :=
 ⟨λi H=>∃xs x,SqL K H a xs/\xs[i]?=some x,λi H x H'=>H'=H/\∀xs,SqL K H a xs->xs[i]?=some x,λi H=>∃xs,SqL K H a xs/\xs.length<=i⟩
def Itt(K:W.Frag)(a:Addr):It :=
 ⟨λi H=>∃xs x,SqT K H a xs/\xs[i]?=some x,λi H x H'=>H'=H/\∀xs,SqT K H a xs->xs[i]?=some x,λi H=>∃xs,SqT K H a xs/\xs.length<=i⟩
def Itr(lo:Int)(n:Nat):It:=⟨λi _=>i<n,λi H x H'=>H'=H/\x=.int (lo+i),λi _=>n<=i⟩
def ZkP{P:Program}{w:World}{K:W.Frag}{tg:Expr}(a it):Turn P w K tg (Itl K a) [it] it (λi h=>h.IsListIter it a i) where
 mem:=by simp
 obj:=λi h st b hb=>by
  have e:b=it:=by simpa using hb
  subst e;obtain ⟨o,e,c,d⟩:=st;exact ⟨o,e,λv z=>by rw [d] at z;cases z⟩
 keep:=λi h h' st k=>st.at λo e=>k it (by simp) o e
 item:=by
  intro X hP hw hK hc i pins s σ H E I hf st hg;subst hP hw hK;obtain ⟨xs,x,hq,hx⟩:=hg;obtain ⟨its,rv,p,hz⟩:=I.list hq;obtain ⟨u,hu,ru⟩:=rv.get hx;obtain ⟨f0,f1,f2,f3,f4,f5⟩:=hf it (by simp);refine wpAny_pyNext_list_item st p.isList (x:=u) (by simpa using hu) λh' st' sb=>?_;have I1:Inv X pins σ H { s with heap:=h' }:=I.turned (t':=s.toks) (λb o hb e=>(sb.2 b hb).trans e) f0 f1 f3 f4 f5
  obtain ⟨o,e,c,d⟩:=id st';exact ⟨u,rfl,ZnT (s:={ s with heap:=h' }) e c d (by decide) ⟨x,H,I1,ru,⟨rfl,λys hy=>by rw [I.list_inj hy hq];exact hx⟩,st',λb hb=>(hf b hb).1⟩⟩
 done:=by
  intro X hP hw hK hc i pins s σ H E I hf st hg;subst hP hw hK;obtain ⟨xs,hq,hx⟩:=hg;obtain ⟨its,rv,p,hz⟩:=I.list hq;obtain ⟨f0,f1,f2,f3,f4,f5⟩:=hf it (by simp);have hl:=rv.length;exact wpAny_pyNext_list_end (I.ok.hd hc) st p.isList (by simp;omega) λh' eb=>⟨rfl,I.turned (t':=s.toks) (λb o hb e=>eb b o hb e) f0 f1 f3 f4 f5⟩
 self:=λ_ _ _ _ _ st h=>wpAny_pyIter_listiter st h
def Zj8{P:Program}{w:World}{K:W.Frag}{tg:Expr}(a it):Turn P w K tg (Itt K a) [it] it (λi h=>h.IsTupleIter it a i) where
 mem:=by simp
 obj:=λi h st b hb=>by
  have e:b=it:=by simpa using hb
  subst e;obtain ⟨o,e,c,d⟩:=st;exact ⟨o,e,λv z=>by rw [d] at z;cases z⟩
 keep:=λi h h' st k=>st.at λo e=>k it (by simp) o e
 item:=by
  intro X hP hw hK hc i pins s σ H E I hf st hg;subst hP hw hK;obtain ⟨xs,x,hq,hx⟩:=hg;obtain ⟨its,rv,p,hz⟩:=I.tuple hq;obtain ⟨u,hu,ru⟩:=rv.get hx;obtain ⟨f0,f1,f2,f3,f4,f5⟩:=hf it (by simp);refine wpAny_pyNext_tuple_item st (show s.heap.IsTuple a its.toArray from p) (x:=u) (by simpa using hu) λh' st' sb=>?_;have I1:Inv X pins σ H { s with heap:=h' }:=I.turned (t':=s.toks) (λb o hb e=>(sb.2 b hb).trans e) f0 f1 f3 f4 f5
  obtain ⟨o,e,c,d⟩:=id st';exact ⟨u,rfl,ZnT (s:={ s with heap:=h' }) e c d (by decide) ⟨x,H,I1,ru,⟨rfl,λys hy=>by rw [I.tuple_inj hy hq];exact hx⟩,st',λb hb=>(hf b hb).1⟩⟩
 done:=by
  intro X hP hw hK hc i pins s σ H E I hf st hg;subst hP hw hK;obtain ⟨xs,hq,hx⟩:=hg;obtain ⟨its,rv,p,hz⟩:=I.tuple hq;obtain ⟨f0,f1,f2,f3,f4,f5⟩:=hf it (by simp);have hl:=rv.length;exact wpAny_pyNext_tuple_end (I.ok.hd hc) st (show s.heap.IsTuple a its.toArray from p) (by simp;omega) λh' eb=>⟨rfl,I.turned (t':=s.toks) (λb o hb e=>eb b o hb e) f0 f1 f3 f4 f5⟩
 self:=λ_ _ _ _ _ st h=>wpAny_pyIter_tupleiter st h
def ZjH{P:Program}{w:World}{K:W.Frag}{tg:Expr}(it)(lo)(n):Turn P w K tg (Itr lo n) [it] it (λi h=>IsRangeIter h it (lo+(i:Nat)*1) ((n:Int) - (i:Nat)) 1) where
 mem:=by simp
 obj:=λi h st b hb=>by
  have e:b=it:=by simpa using hb
  subst e
  exact ⟨_,st,λv z=>by
   have z':Data.fields _=Data.cell v:=z
   cases z'⟩
 keep:=λi h h' st k=>k it (by simp) _ st
 item:=by
  intro X hP hw hK hc i pins s σ H E I hf st hg;subst hP hw hK;obtain ⟨f0,f1,f2,f3,f4,f5⟩:=hf it (by simp);have W:=Walks.range (prog:=X.prog) (w:=X.w) (I.ok.hd hc) it lo 1 n;refine W.item i s _ _ hg st λv h' tk hv st' kk=>?_;obtain ⟨t,rfl⟩:=hv;have I1:Inv X pins σ H { s with heap:=h',toks:=tk }:=I.turned (λb o hb e=>kk b o (by simpa using hb) e) f0 f1 f3 f4 f5
  refine ⟨_,rfl,ZnT (s:={ s with heap:=h',toks:=tk }) (n := "range_iterator") st' rfl rfl (by decide) ⟨.int (lo+i),H,I1,⟨t,?_⟩,⟨rfl,rfl⟩,st',λb hb=>(hf b hb).1⟩⟩
  rw [Int.mul_one]
 done:=by
  intro X hP hw hK hc i pins s σ H E I hf st hg;subst hP hw hK;obtain ⟨f0,f1,f2,f3,f4,f5⟩:=hf it (by simp);exact wpAny_pyNext_range_end (I.ok.hd hc) st (by have:n<=i:=hg;omega) λh' eb=>⟨rfl,I.turned (t':=s.toks) (λb o hb e=>eb b o hb e) f0 f1 f3 f4 f5⟩
 self:=λ_ _ _ _ _ st h=>wpAny_pyIter_rangeiter st h
section
variable{X:Cx}{tg:Expr}
def ZiY{pins:List (Addr×Obj)}{σ:St}{H:Hp}{s:Shared}{R:It->Hp->Prop}{E:Value->Shared->Prop}{lo hi:Int}{t u v:Tok}{tk:Nat}(I:Inv X pins σ H s)(h1:-(2^62)<=lo)(h2:lo<2^62)(h3:-(2^62)<=hi)(h4:hi<2^62)(q:R (Itr lo (hi - lo).toNat) H):wpAny (model X.prog X.w) X.A (pyIter (.ref s.heap.objs.size)) (PIE X pins σ tg R) E { s with heap:=s.heap.push { cls:=.type "range", data:=.fields #[.int lo t,.int hi u,.int 1 v] },toks:=tk }:=by
 refine wpAny_pyIter_range (IsRange.new ..) (small_one h1 h2 h3 h4) ?_;have I1:Inv X pins σ H { s with heap:=s.heap.push { cls:=.type "range", data:=.fields #[.int lo t,.int hi u,.int 1 v] },toks:=tk }:=I.kept λb o e=>VaF _ e
 refine ⟨(s.heap.push { cls:=.type "range", data:=.fields #[.int lo t,.int hi u,.int 1 v] }).objs.size,[(s.heap.push { cls:=.type "range", data:=.fields #[.int lo t,.int hi u,.int 1 v] }).objs.size],_,_,H,rfl,
  I1.kept (t':=tk) λb o e=>VaF _ e,ZjH _ lo (hi - lo).toNat,?_,λb hb=>?_,q⟩
 ·have e1:lo+((0:Nat):Int)*1=lo:=by simp
  have e2:(((hi - lo).toNat:Nat):Int) - ((0:Nat):Int)=Builtin.Range.rangeSize lo hi 1:=by rw [rangeSize_one];split<;>omega
  show IsRangeIter _ _ (lo+((0:Nat):Int)*1) ((((hi - lo).toNat:Nat):Int) - ((0:Nat):Int)) 1;rw [e1,e2];exact VaG _ rfl
 ·have e:b=(s.heap.push { cls:=.type "range", data:=.fields #[.int lo t,.int hi u,.int 1 v] }).objs.size:=by simpa using hb
  subst e;exact I1.fpOk (VaH _) (I1.hok.fresh (VaH _))
def Zpo(ta:TA):TI:=λσ H R=>ta σ H λvs H1=>∃j,vs=[.int j]/\-(2^62)<=j/\j<2^62/\R (Itr 0 j.toNat) H1
def ZpH(ta:TA):TI:=λσ H R=>ta σ H λvs H1=>∃i j,vs=[.int i,.int j]/\(-(2^62)<=i/\i<2^62/\-(2^62)<=j/\j<2^62)/\R (Itr i (j - i).toNat) H1
def ZkV{a:Expr}{ta:TA}{p pos:Pos}(hg:Gl X "range")(hm:X.mg "range"=none)(ha:PA X [a] ta)(hs:starEach [a] X.env=[(false,eval a X.env)]:=by rfl):PI X tg (.Call (.Name "range" p) [a] [] pos) (Zpo ta):=by
 intro pins s σ H R I h;refine Call_ (Zdt I hg hm boot_range (VaI (thn (ha pos pins s σ H _ I h) λus s1 ⟨vs,H1,I1,r1,q1⟩=>?_) hs rfl));obtain ⟨j,e,q1,q2,q⟩:=q1;subst e;cases r1 with
 | cons r rr =>
  cases rr;obtain ⟨t,rfl⟩:=r;exact call_range_1 (ZiY I1 (by omega) (by omega) q1 q2 (by simpa using q))
def Zkd(hg:Gl X "range")(hm:X.mg "range"=none)(ha:PA X [a,b] ta)(hs:starEach [a,b] X.env=[(false,eval a X.env),(false,eval b X.env)]:=by rfl)(hs2:starEach [b] X.env=[(false,eval b X.env)]:=by rfl) :
  PI X tg (.Call (.Name "range" p) [a,b] [] pos) (ZpH ta):=by
 intro pins s σ H R I h;refine Call_ (Zdt I hg hm boot_range (VaI (thn (ha pos pins s σ H _ I h) λus s1 ⟨vs,H1,I1,r1,q1⟩=>?_) (by rw [hs,hs2]) (by rw [hs2];rfl)));obtain ⟨i,j,e,⟨q1,q2,q3,q4⟩,q⟩:=q1;subst e;cases r1 with
 | cons r rr =>
  cases rr with
  | cons r' rr =>
   cases rr;obtain ⟨t,rfl⟩:=r;obtain ⟨t',rfl⟩:=r';exact call_range_2 (ZiY I1 q1 q2 q3 q4 q)
def tFor(wi:TI)(g:TG)(tb:TS):TS:=λD σ H=>wi σ H λJ H1=>∃W:Nat->Nat->St->Hp->Prop,(∃m,W 0 m σ H1)/\∀i m σ H,W i m σ H ->
 (J.stop i H/\D.nx σ H)\/(J.go i H/\∃N:St->Hp->Prop,(∀σ' H',N σ' H'->∃m',m'<m/\W (i+1) m' σ' H')/\∀x H',J.yld i H x H'->g x σ H' λσ2 H2=>tb { D with nx:=N,ct:=N,bk:=D.nx } σ2 H2)
def ZiP(fp:List Addr)(h:Heap):List (Addr×Obj):=fp.filterMap λb=>(h.get? b).map λo=>(b,o)
def ZbV(hb:b∈fp)(e:h.get? b=some o):(b,o)∈ZiP fp h:=VaJ.mpr ⟨b,hb,by rw [e];rfl⟩
def ZkF(hp:p∈ZiP fp h):p.1∈fp/\h.get? p.1=some p.2:=by
 obtain ⟨b,hb,e⟩:=VaJ.mp hp;cases q:h.get? b with
 | none=>rw [q] at e;cases e
 | some o =>
  rw [q] at e;have e':(b,o)=p:=Vau e;subst e';exact ⟨hb,q⟩
def Inv.pinned(I:Inv X pins σ H s)(hf:∀b∈fp,FpOk X pins H b)(ho:∀b∈fp,∃o,s.heap.get? b=some o/\∀v,o.data≠.cell v):Inv X (pins++ZiP fp s.heap) σ H s :=
 I.pins_of λp hp=>(Var.mp hp).elim (λz=>I.pin p (VaK _ z)) λz=>by
  obtain ⟨hb,e⟩:=ZkF z;obtain ⟨f0,f1,f2,_⟩:=hf p.1 hb;obtain ⟨o,e',d⟩:=ho p.1 hb;rw [e] at e';cases e';exact ⟨e,f0,f1,f2,d⟩
def Inv.unpinned(I:Inv X (pins++pl) σ H s):Inv X pins σ H s:=I.pins_of λp hp=>I.pin p (VaK _ (Vas _ hp))
def ZlI(hp:PassesOwn (model X.prog X.w) X.A X.env X.xe)(hc:X.calm=true)(hi:PI X tg iter wi)(hg:PG X tg g)(hb:PSs X body tb)(hs:∀x,foldedSetIterable iter X.env x=pure x:=by intro _;rfl):PS X (.For tg iter body [] pos) (tFor wi g tb):=by
 intro pins s σ H D I h;refine wpAny_For (thn (hi pins s σ H _ I h) λv s1 h1=>thn h1 λitv s2 h2=>?_) hs;obtain ⟨it,fp,tn,J,H2,e,I2,T,st2,f2,W,⟨m0,w0⟩,turn⟩:=h2;subst e;have stat:∀{H':Hp},(∀b∈fp,H' b=none)->∀b∈fp,FpOk X pins H' b:=λhn b hb=>⟨hn b hb,(f2 b hb).2⟩;refine codeAny_forLoop_any (λn s'=>∃i σ' H',Inv X pins σ' H' s'/\tn i s'.heap/\(∀b∈fp,H' b=none)/\W i n σ' H') ?_ m0 ⟨0,σ,H2,I2,st2,λb hb=>(f2 b hb).1,w0⟩;rintro n s3 ⟨i,σ3,H3,I3,st3,fr3,w3⟩;rcases turn i n σ3 H3 w3 with ⟨stop,qn⟩ | ⟨go,N,hN,step⟩
 ·refine VaB hp (thn (T.done X rfl rfl rfl hc i pins s3 σ3 H3 X.xe I3 (stat fr3) st3 stop) λr s4 ⟨hr,I4⟩=>?_);subst hr;exact Vay ⟨σ3,H3,I4,qn⟩
 ·refine VaB hp (thn (T.item X rfl rfl rfl hc i pins s3 σ3 H3 X.xe I3 (stat fr3) st3 go) λr s4 ⟨u,hr,h4⟩=>?_);subst hr;refine VaB hp (thn h4 λ_ s5 ⟨x,H5,I5,r5,y5,st5,fr5⟩=>?_);have I5':=I5.pinned (stat fr5) (T.obj _ _ st5);refine VaB hp (thn (hg _ s5 σ3 H5 x u _ I5' r5 (step x H5 y5)) λ_ s6 ⟨σ6,H6,I6,q6⟩=>?_);refine VaB hp (thn (hb _ s6 σ6 H6 _ I6 q6) λf s7 q7=>?_);have again:∀{σ7:St} {H7:Hp},Inv X (pins++ZiP fp s5.heap) σ7 H7 s7->N σ7 H7->∃m,m<n/\∃i σ' H',Inv X pins σ' H' s7/\tn i s7.heap/\(∀b∈fp,H' b=none)/\W i m σ' H':=λ{σ7 H7} I7 n7=>by
   obtain ⟨m',hm,w7⟩:=hN σ7 H7 n7;refine ⟨m',hm,i+1,σ7,H7,I7.unpinned,T.keep _ _ _ st5 λb hb o e=>(I7.pin (b,o) (VaK _ (VaK _ (ZbV hb e)))).1,λb hb=>?_,w7⟩;obtain ⟨o,e,d⟩:=T.obj _ _ st5 b hb;exact (I7.pin (b,o) (VaK _ (VaK _ (ZbV hb e)))).2.1
  cases f with
  | next=>obtain ⟨σ7,H7,I7,n7⟩:=q7;exact again I7 n7
  | cont=>obtain ⟨σ7,H7,I7,n7⟩:=q7;exact again I7 n7
  | brk=>obtain ⟨σ7,H7,I7,q7⟩:=q7;exact ⟨σ7,H7,I7.unpinned,q7⟩
  | ret v=>obtain ⟨x7,σ7,H7,I7,r7,q7⟩:=q7;exact ⟨x7,σ7,H7,I7.unpinned,r7,q7⟩
end
abbrev R2:=V->V->Hp->VK->Prop
def OpR(X:Cx)(f:Value->Value->Sem Value)(r:R2):Prop :=
 ∀pins s σ H x y v u Q,Inv X pins σ H s->RelV x v->RelV y u->r x y H Q ->
  wpAny (model X.prog X.w) X.A (f v u) (EP X pins σ Q) X.xe s
def UnR(X:Cx)(f:Value->Sem Value)(r:V->Hp->VK->Prop):Prop :=
 ∀pins s σ H x v Q,Inv X pins σ H s->RelV x v->r x H Q ->
  wpAny (model X.prog X.w) X.A (f v) (EP X pins σ Q) X.xe s
def Zc1(X:Cx)(f:Value)(r:List V->Hp->VK->Prop):Prop :=
 ∀pins s σ H xs us Q,Inv X pins σ H s->Vals xs us->r xs H Q ->
  wpAny (model X.prog X.w) X.A (call f us) (EP X pins σ Q) X.xe s
def tOp(r:R2)(ta tb:TE):TE:=λσ H Q=>ta σ H λx H1=>tb σ H1 λy H2=>r x y H2 Q
def tUn(r:V->Hp->VK->Prop)(ta:TE):TE:=λσ H Q=>ta σ H λx H1=>r x H1 Q
def rI(C:Int->Int->Prop)(g:Int->Int->V):R2:=λx y H Q=>∃i j,x=.int i/\y=.int j/\C i j/\Q (g i j) H
def rI0(g:Int->Int->V):R2:=λx y H Q=>∃i j,x=.int i/\y=.int j/\Q (g i j) H
def rU(g:Int->V):V->Hp->VK->Prop:=λx H Q=>∃i,x=.int i/\Q (g i) H
section
variable{X:Cx}{a b c:Expr}{ta tb tc:TE}{pos:Pos}
def binT(ha:PE X a ta)(hb:PE X b tb){pins:List (Addr×Obj)}{s:Shared}{σ:St}{H:Hp}{R:V->V->Hp->Prop}(I:Inv X pins σ H s)(h:ta σ H λx H1=>tb σ H1 λy H2=>R x y H2){Q:Value->Shared->Prop}{f:Value->Value->Sem Value}(hf:∀v u s2 x y H2,Inv X pins σ H2 s2->RelV x v->RelV y u->R x y H2->wpAny (model X.prog X.w) X.A (f v u) Q X.xe s2) :
  wpAny (model X.prog X.w) X.A (eval a X.env) (λv s₁=>wpAny (model X.prog X.w) X.A (eval b X.env) (λu s₂=>wpAny (model X.prog X.w) X.A (f v u) Q X.xe s₂) X.xe s₁) X.xe s:=by
 refine thn (ha pins s σ H _ I h) λv s1 ⟨x,H1,I1,r1,q1⟩=>?_;refine thn (hb pins s1 σ H1 _ I1 q1) λu s2 ⟨y,H2,I2,r2,q2⟩=>?_;exact hf v u s2 x y H2 I2 r1 r2 q2
def ZnZ(ho:OpR X (binaryOp op) r)(ha:PE X a ta)(hb:PE X b tb):PE X (.BinOp a op b pos) (tOp r ta tb):=by
 intro pins s σ H Q I h;exact wpAny_BinOp (binT ha hb I h λv u s2 x y H2 I2 rx ry q=>ho pins s2 σ H2 x y v u Q I2 rx ry q)
def ZsQ(ho:UnR X (unaryOp op) r)(ha:PE X a ta):PE X (.UnaryOp op a pos) (tUn r ta):=by
 intro pins s σ H Q I h;exact UnaryOp_ (thn (ha pins s σ H _ I h) λv s1 ⟨x,H1,I1,r1,q1⟩=>ho pins s1 σ H1 x v Q I1 r1 q1)
def opI{f:Value->Value->Sem Value}{C:Int->Int->Prop}{g:Int->Int->Int}(rule:∀(i j:Int) (t u:Tok) (s:Shared) (Q:Value->Shared->Prop) (E:Value->Shared->Prop),C i j->Q (.int (g i j) s.toks) { s with toks:=s.toks+1 }->wpAny (model X.prog X.w) X.A (f (.int i t) (.int j u)) Q E s) :
  OpR X f (rI C λi j=>.int (g i j)):=by
 intro pins s σ H x y v u Q I rx ry h;obtain ⟨i,j,rfl,rfl,hc,q⟩:=h;obtain ⟨t,rfl⟩:=rx;obtain ⟨t',rfl⟩:=ry;exact rule i j t t' s _ _ hc ⟨.int (g i j),H,I.tok _,⟨_,rfl⟩,q⟩
def opI0{f:Value->Value->Sem Value}{g:Int->Int->Int}(rule:∀(i j:Int) (t u:Tok) (s:Shared) (Q:Value->Shared->Prop) (E:Value->Shared->Prop),Q (.int (g i j) s.toks) { s with toks:=s.toks+1 }->wpAny (model X.prog X.w) X.A (f (.int i t) (.int j u)) Q E s) :
  OpR X f (rI0 λi j=>.int (g i j)):=by
 intro pins s σ H x y v u Q I rx ry h;obtain ⟨i,j,rfl,rfl,q⟩:=h;obtain ⟨t,rfl⟩:=rx;obtain ⟨t',rfl⟩:=ry;exact rule i j t t' s _ _ ⟨.int (g i j),H,I.tok _,⟨_,rfl⟩,q⟩
def opB0{f:Value->Value->Sem Value}{g:Int->Int->Bool}(rule:∀(i j:Int) (t u:Tok) (s:Shared) (Q:Value->Shared->Prop) (E:Value->Shared->Prop),Q (.bool (g i j)) s->wpAny (model X.prog X.w) X.A (f (.int i t) (.int j u)) Q E s) :
  OpR X f (rI0 λi j=>.bl (g i j)):=by
 intro pins s σ H x y v u Q I rx ry h;obtain ⟨i,j,rfl,rfl,q⟩:=h;obtain ⟨t,rfl⟩:=rx;obtain ⟨t',rfl⟩:=ry;exact rule i j t t' s _ _ ⟨.bl (g i j),H,I,rfl,q⟩
def CPow(i j:Int):Prop:=0<=j/\j<=1000000/\i.natAbs<2^64
def Zj7(k):(0:Int)<=2^k:=by
 rw [two_pow_cast];exact Int.natCast_nonneg _
def Zqh:OpR X (binaryOp .Add) (rI0 λi j=>.int (i+j)):=opI0 λ_ _ _ _ _ _ _ q=>add_int q
def ZrL:OpR X (binaryOp .Sub) (rI0 λi j=>.int (i - j)):=opI0 λ_ _ _ _ _ _ _ q=>sub_int q
def Zo9:OpR X (binaryOp .Mod) (rI (λ_ j=>j≠0) λi j=>.int (i.fmod j)):=opI λ_ _ _ _ _ _ _ hc q=>mod_int' hc q
def Zp8:OpR X (binaryOp .LShift) (rI CPow λi j=>.int (i*2^j.toNat)):=opI λ_ _ _ _ _ _ _ hc q=>lshift_int_small hc.1 hc.2.1 hc.2.2 q
def ZrH:OpR X (binaryOp .RShift) (rI (λ_ j=>0<=j) λi j=>.int (i/2^j.toNat)):=opI λi j _ _ _ _ _ hc q =>
 rshift_int hc (by rw [Int.fdiv_eq_ediv_of_nonneg i (Zj7 _)];exact q)
def unI{f:Value->Sem Value}{g:Int->Int}(rule:∀(i:Int) (t:Tok) (s:Shared) (Q:Value->Shared->Prop) (E:Value->Shared->Prop),Q (.int (g i) s.toks) { s with toks:=s.toks+1 }->wpAny (model X.prog X.w) X.A (f (.int i t)) Q E s) :
  UnR X f (rU λi=>.int (g i)):=by
 intro pins s σ H x v Q I rx h;obtain ⟨i,rfl,q⟩:=h;obtain ⟨t,rfl⟩:=rx;exact rule i t s _ _ ⟨.int (g i),H,I.tok _,⟨_,rfl⟩,q⟩
def ZrZ:UnR X (unaryOp .USub) (rU λi=>.int (-i)):=unI λ_ _ _ _ _ q=>neg_int q
end
section
variable{X:Cx}{a b c:Expr}{ta tb tc:TE}{pos:Pos}
def Zi9(I:Inv X pins σ H s)(q:Q (.bl k) H)(e:k=k'):EP X pins σ Q (.bool k') s:=by
 subst e;exact ⟨.bl k,H,I,rfl,q⟩
def Zq9:OpR X (compareOp .Lt) (rI0 λi j=>.bl (decide (i<j))):=opB0 λ_ _ _ _ _ _ _ q=>lt_int q
def ZrN:OpR X (compareOp .LtE) (rI0 λi j=>.bl (decide (i<=j))):=opB0 λ_ _ _ _ _ _ _ q=>le_int q
def ZsB:OpR X (compareOp .Gt) (rI0 λi j=>.bl (decide (j<i))):=opB0 λ_ _ _ _ _ _ _ q=>gt_int q
def Zqo:OpR X (compareOp .GtE) (rI0 λi j=>.bl (decide (j<=i))):=opB0 λ_ _ _ _ _ _ _ q=>ge_int q
def Zrj:OpR X (compareOp .Is) (λx y H Q=>y=.non/\Q (.bl (decide (x=.non))) H):=by
 intro pins s σ H x y v u Q I rx ry h;obtain ⟨rfl,q⟩:=h;cases ry;refine is_none_gen (Zi9 I q ?_);cases x<;>first
  | (cases rx;rfl)
  | (obtain ⟨t,rfl⟩:=rx;rfl)
def ZpI:OpR X (compareOp .IsNot) (λx y H Q=>y=.non/\Q (.bl (!decide (x=.non))) H):=by
 intro pins s σ H x y v u Q I rx ry h;obtain ⟨rfl,q⟩:=h;cases ry;refine isnot_none_gen (Zi9 I q ?_);cases x<;>first
  | (cases rx;rfl)
  | (obtain ⟨t,rfl⟩:=rx;rfl)
def Zcr(b)(h:op≠.In:=by decide)(h2:op≠.NotIn:=by decide):behindInMarks op b=false:=by
 have e1:(op==CmpOp.In)=false:=by cases op<;>first | rfl | exact absurd rfl h
 have e2:(op==CmpOp.NotIn)=false:=by cases op<;>first | rfl | exact absurd rfl h2
 cases b<;>simp [behindInMarks,e1,e2]
def Zpe(ho:OpR X (compareOp op) r)(ha:PE X a ta)(hb:PE X b tb)(hm:behindInMarks op b=false):PE X (.Compare a [op] [b] pos) (tOp r ta tb):=by
 intro pins s σ H Q I h;exact wpAny_Compare1 (binT ha hb I h λv u s2 x y H2 I2 rx ry q=>ho pins s2 σ H2 x y v u Q I2 rx ry q) hm
def Ze1(t:TE):TT:=λσ H Q=>t σ H λx H'=>∃k,x=.bl k/\Q k H'
def ZiG(ho:OpR X (compareOp op) r)(ha:PE X a ta)(hb:PE X b tb)(hm:behindInMarks op b=false):PT X (.Compare a [op] [b] pos) (Ze1 (tOp r ta tb)):=by
 intro pins s σ H Q I h
 refine wpAny_isTrue_Compare1 (thn (ha pins s σ H _ I h) λv s1 ⟨x,H1,I1,r1,q1⟩=>thn (hb pins s1 σ H1 _ I1 q1) λu s2 ⟨y,H2,I2,r2,q2⟩ =>
  thn (ho pins s2 σ H2 x y v u _ I2 r1 r2 q2) λc s3 ⟨z,H3,I3,r3,k,e,q3⟩=>?_) hm
 subst e;cases r3;exact wpAny_truthy_bool ⟨H3,I3,q3⟩
def ZiQ:(sizeLine:Nat)<2^63:=by rw [sizeLine_eq];decide
def ZjG:OpR X (binaryOp .Add) (λx y H Q=>∃i j,x=.str i/\y=.str j/\i.length+j.length<=sizeLine/\Q (.str (i++j)) H):=by
 intro pins s σ H x y v u Q I rx ry h;obtain ⟨i,j,rfl,rfl,hz,q⟩:=h;obtain ⟨t,rfl⟩:=rx;obtain ⟨t',rfl⟩:=ry;exact add_str (λt' tk=>⟨.str (i++j),H,I.tok _,⟨_,rfl⟩,q⟩) hz
def vals1(r:Vals [x] us):∃u,us=[u]/\RelV x u:=by
 cases r with
 | cons r1 r2=>cases r2;exact ⟨_,rfl,r1⟩
def vals2(r:Vals [x,y] us):∃u w',us=[u,w']/\RelV x u/\RelV y w':=by
 cases r with
 | cons r1 r2 =>
  cases r2 with
  | cons r3 r4=>cases r4;exact ⟨_,_,rfl,r1,r3⟩
def Zmi:Zc1 X (.builtin "abs") (λxs H Q=>∃i,xs=[.int i]/\Q (.int (if i<0 then -i else i)) H):=by
 intro pins s σ H xs us Q I r h;obtain ⟨i,rfl,q⟩:=h;obtain ⟨u,rfl,t,rfl⟩:=vals1 r;exact call_abs_int λu tk=>⟨.int (if i<0 then -i else i),H,I.tok _,⟨_,rfl⟩,q⟩
def Zhe(hc:X.calm=true):Zc1 X (.builtin "max") (λxs H Q=>∃i j,xs=[.int i,.int j]/\Q (.int (if j>i then j else i)) H):=by
 intro pins s σ H xs us Q I r h;obtain ⟨i,j,rfl,q⟩:=h;obtain ⟨u,w',rfl,⟨t,rfl⟩,⟨t',rfl⟩⟩:=vals2 r;refine max_two_ints (I.ok.hd hc) λh' tk k=>⟨_,H,I.kept k,?_,q⟩;by_cases hj:j>i
 ·rw [if_pos hj,if_pos hj];exact ⟨_,rfl⟩
 ·rw [if_neg hj,if_neg hj];exact ⟨_,rfl⟩
def ZhK(hc:X.calm=true):Zc1 X (.builtin "min") (λxs H Q=>∃i j,xs=[.int i,.int j]/\Q (.int (if j<i then j else i)) H):=by
 intro pins s σ H xs us Q I r h;obtain ⟨i,j,rfl,q⟩:=h;obtain ⟨u,w',rfl,⟨t,rfl⟩,⟨t',rfl⟩⟩:=vals2 r;refine min_two_ints (I.ok.hd hc) λh' tk k=>⟨_,H,I.kept k,?_,q⟩;by_cases hj:j<i
 ·rw [if_pos hj,if_pos hj];exact ⟨_,rfl⟩
 ·rw [if_neg hj,if_neg hj];exact ⟨_,rfl⟩
def ZhF:Zc1 X (.type "str") (λxs H Q=>∃i,xs=[.int i]/\i.natAbs.log2<1920/\Q (.str (toString i)) H):=by
 intro pins s σ H xs us Q I r h;obtain ⟨i,rfl,hz,q⟩:=h;obtain ⟨u,rfl,t,rfl⟩:=vals1 r;exact PySem.P.str_of_int hz ⟨.str _,H,I.tok _,⟨_,rfl⟩,q⟩
end
structure ObjM(h:Heap)(x dx C:Addr)(mA:Str->Option Value):Prop where
 obj:h.get? x=some (W.instObj C dx)
 ns:h.Ns1 dx mA
 ne:dx≠x
def ZkZ{h:Heap}(n:h.Ns1 dx mA):∃od,h.get? dx=some od/\∀name,W.lookIn name od=some (mA name):=by
 obtain ⟨o,es,ep,ho,hd,hk,_,hm⟩:=n;refine ⟨o,ho,λname=>?_⟩;have e:=hm name;unfold nsFind findBy at e;rw [<-Array.find?_toList] at e;unfold W.lookIn;rw [hd];dsimp only;split
 ·rename_i y q;rw [q] at e;exact Vax some e
 ·rename_i q;rw [q] at e;have a:es.toList.any (·.refKey)=false:=by
   rw [List.any_eq_false];intro y hy;obtain ⟨z,t,hkey⟩:=hk y (Array.mem_toList_iff.mp hy);simp [DictEntry.refKey,hkey]
  have a':¬es.toList.any (·.refKey)=true:=by rw [a];exact VaC
  rw [if_neg a'];exact Vax some e
def ObjM.look(I:ObjM h x dx C mA):∃od,W.InstAt h x (W.instObj C dx) C (some od)/\∀name,W.lookIn name od=some (mA name) :=
 let ⟨od,ho,hl⟩:=ZkZ I.ns
 ⟨od,⟨I.obj,rfl,rfl,ho⟩,hl⟩
section
variable{prog:Program}{w:World}{A:Around}{E:Value->Shared->Prop}{s:Shared}{K:W.Frag}{x dx C f:Addr}{mA:Str->Option Value}{name:Str}{v:Value}
def ZpQ(X:K.In s.heap)(I:ObjM s.heap x dx C mA)(hg:W.plainGet K C name=true)(hh:W.hasDictIn K C=true)(ha:W.findIn K (.ref C) name=some none)(hv:mA name=some v)(hv':W.handedIn v=true)(h:Q v { s with toks:=s.toks+1 }) :
  wpAny (model prog w) A (getAttr (.ref x) name expr) Q E s:=by
 obtain ⟨od,J,hl⟩:=I.look;exact W.get_value X J (W.plainGet_of hg).1 (W.findObj_own hh ha rfl (by rw [hl,hv])) hv' h
def ZmY(X:K.In s.heap)(I:ObjM s.heap x dx C mA)(hg:W.plainGet K C name=true)(hf:W.findIn K (.ref C) name=some (some (.ref f)))(ht:W.isFn K (.ref f)=true)(hv:mA name=none)(h:Q (.ref f,[.ref x]) s) :
  wpAny (model prog w) A (getMethod (.ref x) name pl) Q E s:=by
 obtain ⟨od,J,hl⟩:=I.look;exact W.method_fn X J (W.plainGet_of hg).1 (W.plainGet_of hg).2 hf (VaL.mp ht) (by show (W.lookIn name od).map (·.isSome)=some false;rw [hl,hv];rfl) h
def Zpa(X:K.In s.heap)(I:ObjM s.heap x dx C mA)(hs:W.findIn K (.ref C) "__setattr__"=some (some (.builtin "object.__setattr__")))(hp:W.plainOver K C=true)(ht:W.takerIn K C name=some none)(hh:W.hasDictIn K C=true)(hw:PySem.Within mA ns)(hsz:ns.length<=sizeLine)(h:∀h',ObjM h' x dx C (λy=>if y=name then some v else mA y)->Heap.SameBut dx s.heap h'->Q () { s with heap:=h',toks:=s.toks+2 }) :
  wpAny (model prog w) A (setAttr (.ref x) name v) Q E s:=by
 obtain ⟨od,J,hl⟩:=I.look;refine W.set_plain X J hs (W.osa_open (s:={ s with toks:=s.toks+1 }) (r:=none) X J hp ht λb=>?_)
 obtain ⟨cd,hc,hd'⟩:=W.any_some hh;have hx:s.heap.get? x=some ⟨.ref C,some dx,.plain,#[]⟩:=I.obj;refine Vaz (VaE (Vaz (Vaz (wpAny_loadPart hx (Vaz (W.Looks.here (s:={ s with toks:=s.toks+1 }) (W.looks_clsIn X hc) ?_))))))
 rw [hd'];refine VaE (a:=some dx) (Vaz (VaE (Vaz ?_)));refine wpAny_nsSet1 (s:={ s with toks:=s.toks+1 }) I.ns λh' hn2 hs2=>?_
 obtain ⟨oD,esD,epD,hoD,hdD,hcD⟩:=hn2.count (PySem.Within.cons name v hw);refine Vaz (wpAny_lookBehind hoD (by rw [hdD];exact pastItsLine_dict (Vaj hcD (by rw [VaM];omega))) ?_);exact VaE (h _ ⟨(hs2.2 _ (Ne.symm I.ne)).trans I.obj,hn2,I.ne⟩ hs2)
def Zl5(X:K.In s.heap)(hm:W.makesIn K C=true)(hi:W.findIn K (.ref C) "__init__"=some (some (.ref f)))(hf:W.typeIn K (.ref f)=some (.type "function")) (h:codeAny (model prog w) (A.under (.builtin "type.__call__" ⟨.ref C::vs,kw⟩)) (.call (.ref f) ⟨.ref (s.heap.objs.size+1)::vs,kw⟩) (W.InitBack (s.heap.objs.size+1) R)
   { s with heap:=(s.heap.push W.emptyDict).push (W.instObj C s.heap.objs.size) }) :
  codeAny (model prog w) A (.call (.ref C) ⟨vs,kw⟩) R s:=by
 obtain ⟨hh,g,d,t,os⟩:=s;exact W.make_core (W.makes_of X hm) (W.looks_findIn X hi) (λself=>W.bind_fn X self hf) (.inl rfl) h
end
def putF(f:Str)(v:V):List (Str×V)->List (Str×V)
 | []=>[(f,v)]
 | (g,x)::r=>if g=f then (g,v)::r else (g,x)::putF f v r
def Zfv(f g)(v):∀fs,(putF f v fs).lookup g=if g=f then some v else fs.lookup g
 | []=>by
  show List.lookup g [(f,v)]=_;by_cases h:g=f
  ·have hb:(g==f)=true:=VaL.mpr h;simp only [List.lookup,hb,if_pos h]
  ·have hb:(g==f)=false:=Vab.mpr h;simp only [List.lookup,hb,if_neg h]
 | (k,x)::r=>by
  have ih:=Zfv f g v r;rw [show putF f v ((k,x)::r)=(if k=f then (k,v)::r else (k,x)::putF f v r) from rfl]
  by_cases hk:k=f
  ·rw [if_pos hk];by_cases h:g=k
   ·have hb:(g==k)=true:=VaL.mpr h;simp only [List.lookup,hb,if_pos (h.trans hk)]
   ·have hb:(g==k)=false:=Vab.mpr h;simp only [List.lookup,hb,if_neg (λe:g=f=>h (e.trans hk.symm))]
  ·rw [if_neg hk];by_cases h:g=k
   ·have hb:(g==k)=true:=VaL.mpr h;simp only [List.lookup,hb,if_neg (λe:g=f=>hk (h.symm.trans e))]
   ·have hb:(g==k)=false:=Vab.mpr h;simp only [List.lookup,hb];exact ih
def ZfA(f)(v):∀fs,f∈(putF f v fs).map (·.1)/\∀g,g∈fs.map (·.1)->g∈(putF f v fs).map (·.1)
 | []=>⟨by simp [putF],λg h=>by simp at h⟩
 | (k,x)::r=>by
  obtain ⟨i1,i2⟩:=ZfA f v r;rw [show putF f v ((k,x)::r)=(if k=f then (k,v)::r else (k,x)::putF f v r) from rfl]
  by_cases hk:k=f
  ·rw [if_pos hk];subst hk;exact ⟨by simp,λg h=>by simpa using h⟩
  ·rw [if_neg hk];refine ⟨?_,λg h=>?_⟩
   ·rw [VaN];exact Vao _ i1
   ·rw [VaN] at h ⊢;rcases Vaq.mp h with e | e
    ·exact Vaq.mpr (.inl e)
    ·exact Vao _ (i2 g e)
def ZfD(f)(v):∀fs,(putF f v fs).length<=fs.length+1
 | []=>by simp [putF]
 | (k,x)::r=>by
  have ih:=ZfD f v r;rw [show putF f v ((k,x)::r)=(if k=f then (k,v)::r else (k,x)::putF f v r) from rfl]
  by_cases hk:k=f
  ·rw [if_pos hk,VaM,VaM];omega
  ·rw [if_neg hk,VaM,VaM];omega
def RelO.some_of(r:RelO (some v) o):∃u,o=some u/\RelV v u:=by
 cases o with
 | none=>exact (show False from r).elim
 | some u=>exact ⟨u,rfl,r⟩
def RelO.none_of(r:RelO none o):o=none:=by
 cases o with
 | none=>rfl
 | some u=>exact (show False from r).elim
def ZlF(r:RelV v u):W.handedIn u=true:=by
 cases v with
 | non=>cases (show u=Value.none from r);rfl
 | bl b=>cases (show u=Value.bool b from r);rfl
 | int i=>obtain ⟨t,e⟩:=(show ∃t,u=Value.int i t from r);cases e;rfl
 | str x=>obtain ⟨t,e⟩:=(show ∃t,u=Value.str x t from r);cases e;rfl
 | byt b=>obtain ⟨t,e⟩:=(show ∃t,u=Value.bytes b t from r);cases e;rfl
 | flt b=>obtain ⟨t,e⟩:=(show ∃t,u=Value.float b t from r);cases e;rfl
 | ref a=>cases (show u=Value.ref a from r);rfl
 | ty n=>cases (show u=Value.type n from r);rfl
section
variable{P:Program}{w:World}{H H':Hp}{h h':Heap}{a C dx:Addr}{fs fs':List (Str×V)}
def Zg1(hok:HOk P w H h)(e:H a=some (.ins C dx fs)):∃mA,ObjM h a dx C mA/\(∀f,RelO (fs.lookup f) (mA f))/\PySem.Within mA (fs.map (·.1))/\fs.length<=1000/\H dx=some (.own a):=by
 obtain ⟨d,z,ne,ob,mA,n,r,q⟩:=(show Zbt P w H h a (.ins C dx fs) from hok a _ e);exact ⟨mA,⟨ob,n,ne⟩,r,q,z,d⟩
end
structure Cls(K:W.Frag)(C:Addr):Prop where
 pg:W.plainGet K C Str.empty=true
 hd:W.hasDictIn K C=true
 po:W.plainOver K C=true
 sa:W.findIn K (.ref C) "__setattr__"=some (some (.builtin "object.__setattr__"))
def Cls.get{K:W.Frag}{C:Addr}(c:Cls K C)(f):W.plainGet K C f=true:=c.pg
def ZdD(K:W.Frag)(C:Addr)(f:Str):Prop:=W.findIn K (.ref C) f=some none
def ZdD.taker{K:W.Frag}{C:Addr}{f:Str}(n:ZdD K C f):W.takerIn K C f=some none:=by
 unfold W.takerIn;rw [show W.findIn K (.ref C) f=some none from n];rfl
structure Meth(K:W.Frag)(C:Addr)(m:Str)(f:Addr):Prop where
 at_:W.findIn K (.ref C) m=some (some (.ref f))
 fn:W.isFn K (.ref f)=true
 kp:W.keepIn K (.ref f)=true
section
variable{X:Cx}{pins:List (Addr×Obj)}{σ:St}{H:Hp}{s:Shared}{a C dx:Addr}{fs:List (Str×V)}{f:Str}{v:V}{A:Around}{E:Value->Shared->Prop}
def Zj4(I:Inv X pins σ H s)(e:H a=some (.ins C dx fs))(c:Cls X.K C)(n:ZdD X.K C f)(l:fs.lookup f=some v)(h:∀u s',Inv X pins σ H s'->RelV v u->Q u s'):wpAny (model X.prog X.w) A (getAttr (.ref a) f b) Q E s:=by
 obtain ⟨mA,O,r,_,_,_⟩:=Zg1 I.hok e;obtain ⟨u,hu,ru⟩:=RelO.some_of (v:=v) (o:=mA f) (by rw [<-l];exact r f);exact ZpQ I.kIn O (c.get f) c.hd n hu (ZlF ru) (h u _ (I.tok _) ru)
def Zgp(I:Inv X pins σ H s)(e:H a=some (.ins C dx fs))(c:Cls X.K C)(k:Meth X.K C m g)(l:fs.lookup m=none)(h:Q (.ref g,[.ref a]) s):wpAny (model X.prog X.w) A (getMethod (.ref a) m pl) Q E s:=by
 obtain ⟨mA,O,r,_,_,_⟩:=Zg1 I.hok e;have hn:mA m=none:=RelO.none_of (by rw [<-l];exact r m);exact ZmY I.kIn O (c.get m) k.at_ k.fn hn h
def ZjI(I:Inv X pins σ H s)(e:H a=some (.ins C dx fs))(c:Cls X.K C)(n:ZdD X.K C f)(hl:fs.length<1000)(ry:RelV y u)(h:∀s',Inv X pins σ (upd H a (.ins C dx (putF f y fs))) s'->Q () s'):wpAny (model X.prog X.w) A (setAttr (.ref a) f u) Q E s:=by
 obtain ⟨mA,O,r,wi,_,ho⟩:=Zg1 I.hok e;have hz:(fs.map (·.1)).length<=sizeLine:=by rw [VaO,sizeLine_eq];omega
 refine Zpa I.kIn O c.sa c.po n.taker c.hd wi hz λh' O' sb=>h _ ?_;have hd:∃o,h'.get? dx=some o:=let ⟨o,_,_,e',_⟩:=O'.ns;⟨o,e'⟩;refine I.write (x:=a) (e:=dx) (by rw [e];exact True.intro) (.inr ho) (λb q hb z=>(sb.2 b hb).trans z) hd ?_;refine ⟨by rw [Zad O.ne];exact ho,?_,O.ne,O'.obj,_,O'.ns,λg=>?_,λg hg=>?_⟩
 ·have:=ZfD f y fs;omega
 ·show RelO ((putF f y fs).lookup g) (if g=f then some u else mA g)
  rw [Zfv];by_cases q:g=f
  ·rw [if_pos q,if_pos q];exact ry
  ·rw [if_neg q,if_neg q];exact r g
 ·by_cases q:g=f
  ·rw [q];exact (ZfA f y fs).1
  ·refine (ZfA f y fs).2 g (wi g λz=>hg ?_);show (if g=f then some u else mA g)=none
   rw [if_neg q];exact z
def Inv.made(I:Inv X pins σ H s):Inv X pins σ (upd (upd H s.heap.objs.size (.own (s.heap.objs.size+1))) (s.heap.objs.size+1) (.ins C s.heap.objs.size []))
  { s with heap:=(s.heap.push W.emptyDict).push (W.instObj C s.heap.objs.size) }:=by
 have e1:(s.heap.push W.emptyDict).get? s.heap.objs.size=some W.emptyDict:=VaG s.heap rfl;have e2:((s.heap.push W.emptyDict).push (W.instObj C s.heap.objs.size)).get? (s.heap.objs.size+1)=some (W.instObj C s.heap.objs.size):=by
  have:=VaG (s.heap.push W.emptyDict) (o:=W.instObj C s.heap.objs.size) rfl;rwa [VaP] at this
 have e3:(s.heap.push W.emptyDict).Ns s.heap.objs.size (λ_=>none):=⟨W.emptyDict,#[],_,e1,rfl,(λe he=>absurd he (by simp)),λ_=>rfl⟩;have I1:=I.laid (a:=s.heap.objs.size) (o:=.own (s.heap.objs.size+1)) (h':=s.heap.push W.emptyDict) (t':=s.toks) (λb u q=>VaF _ q) (VaH _) ⟨_,e1⟩;refine I1.laid (a:=s.heap.objs.size+1) (o:=.ins C s.heap.objs.size []) (t':=s.toks) (λb u q=>VaF _ q) (Nat.le_of_eq (VaP _ _)) ?_;have ne:s.heap.objs.size≠s.heap.objs.size+1:=Vaf (VaQ _);refine ⟨by rw [Zad ne,Zaf],VaR _,ne,e2,λ_=>none,(Heap.Ns1.of_empty e3).at λo q=>VaF _ q,λ_=>True.intro,λy hy=>absurd rfl hy⟩
def Zoe(hb:attributeBase e f env (eval e env)=eval e env)(h:wpAny (model prog w) A (eval e env) (λo s₁=>wpAny (model prog w) A (getAttr o f true) Q E s₁) E s):wpAny (model prog w) A (eval (.Attribute e f pos) env) Q E s :=
 Attribute_any_ h (by rw [arm_eval_Attribute,hb])
end
def tFld(K:W.Frag)(ta:TE)(f:Str):TE:=λσ H Q=>ta σ H λx H1=>∃a C dx fs v,x=.ref a/\H1 a=some (.ins C dx fs)/\Cls K C/\ZdD K C f/\fs.lookup f=some v/\Q v H1
def sFld(K:W.Frag)(ta tv:TE)(f:Str):TS:=λD σ H=>tv σ H λy H1=>ta σ H1 λx H2=>∃a C dx fs,x=.ref a/\H2 a=some (.ins C dx fs)/\Cls K C/\ZdD K C f/\fs.length<1000 /\
 D.nx σ (upd H2 a (.ins C dx (putF f y fs)))
section
variable{X:Cx}{o e value:Expr}{f:Str}{pos pos' tpos:Pos}{ta tv:TE}
def ZrI(he:PE X e ta)(hb:attributeBase e f X.env (eval e X.env)=eval e X.env):PE X (.Attribute e f pos) (tFld X.K ta f):=by
 intro pins s σ H Q I h;refine Zoe hb (thn (he pins s σ H _ I h) λu s1 ⟨x,H1,I1,rx,a,C,dx,fs,v,ex,ea,c,n,l,q⟩=>?_);subst ex;obtain rfl:u=Value.ref a:=rx;exact Zj4 I1 ea c n l λu' s2 I2 ru=>⟨v,H1,I2,ru,q⟩
def ZqI(ha:PE X o ta)(hv:PE X value tv)(hs:swapsWith value (some (.Attribute o f pos')) pos.line X.env=pure false):PS X (.Assign [.Attribute o f pos'] value pos) (sFld X.K ta tv f):=by
 intro pins s σ H D I h;refine plainObj_wpAny_Assign_Attribute (thn (hv pins s σ H _ I h) λu s1 ⟨y,H1,I1,ry,q⟩=>thn (ha pins s1 σ H1 _ I1 q) λov s2 ⟨x,H2,I2,rx,a,C,dx,fs,ex,ea,c,n,l,q2⟩=>?_) hs;subst ex;obtain rfl:ov=Value.ref a:=rx;exact ZjI I2 ea c n l ry λs3 I3=>⟨σ,_,I3,q2⟩
end
section
variable{X:Cx}{pins:List (Addr×Obj)}{σ:St}{H:Hp}{s:Shared}{A:Around}{E:Value->Shared->Prop}{Q:Value->Shared->Prop}{c:Value}{b:Bool}
inductive TyOf(K:W.Frag)(H:Hp):V->Value->Prop where
 | non:TyOf K H .non (.type "NoneType")
 | bl (x:Bool):TyOf K H (.bl x) (.type "bool")
 | int (i:Int):TyOf K H (.int i) (.type "int")
 | str (x:Str):TyOf K H (.str x) (.type "str")
 | flt (x:UInt64):TyOf K H (.flt x) (.type "float")
 | lst {a:Addr} {xs:List V} (e:H a=some (.lst xs)):TyOf K H (.ref a) (.type "list")
 | frz {a:Addr} {o:Obj} {xs:List V} (e:H a=some (.frz o (.lst xs))):TyOf K H (.ref a) (.type "list")
 | tup {a:Addr} {xs:List V} (e:H a=some (.tup xs)):TyOf K H (.ref a) (.type "tuple")
 | dK {a:Addr} {kvs:List (Key×V)} (e:H a=some (.dK kvs)):TyOf K H (.ref a) (.type "dict")
 | dT {a:Addr} {kvs:List (List Key×V)} (e:H a=some (.dT kvs)):TyOf K H (.ref a) (.type "dict")
 | ins {a C dx:Addr} {fs:List (Str×V)} (e:H a=some (.ins C dx fs)) (cl:Cls K C) (ha:W.findIn K (.ref C) "__class__"=some (some (.builtin "object.__class__")))
   (hn:W.specialIn K (.builtin "object.__class__") "__get__"=some (some (.builtin "getset_descriptor.__get__"))) (htk:W.takesIn K (.builtin "object.__class__")=some true)
   (hm:W.mroIn K C (.type "object")=some true):TyOf K H (.ref a) (.ref C)
def Zet(I:Inv X pins σ H s)(rx:RelV x u)(ty:TyOf X.K H x t)(e:W.kitOne X.K t c=some b)(h:∀tk,Q (.bool b) { s with toks:=tk }) :
  wpAny (model X.prog X.w) A (call (.builtin "isinstance") [u,c]) Q E s:=by
 cases ty with
 | non=>cases (show u=Value.none from rx);exact VaS W.kitx_none I.kIn True.intro e (λz=>nomatch z) h
 | bl y=>cases (show u=Value.bool y from rx);exact VaS W.kitx_bool I.kIn True.intro e (λz=>nomatch z) h
 | int i=>obtain ⟨t,q⟩:=(show ∃t,u=Value.int i t from rx);cases q;exact VaS W.kitx_int I.kIn True.intro e (λz=>nomatch z) h
 | str y=>obtain ⟨t,q⟩:=(show ∃t,u=Value.str y t from rx);cases q;exact VaS W.kitx_str I.kIn True.intro e (λz=>nomatch z) h
 | flt y=>obtain ⟨t,q⟩:=(show ∃t,u=Value.float y t from rx);cases q;exact VaS W.kitx_float I.kIn True.intro e (λz=>nomatch z) h
 | @lst a xs ea =>
  cases (show u=Value.ref a from rx);obtain ⟨_,_,n,_,h1⟩:=(show Zbt X.prog X.w H s.heap a (.lst xs) from I.hok a _ ea);exact VaS W.kitx_list I.kIn ⟨_,h1,rfl⟩ e (λz=>nomatch z) h
 | @frz a ob xs ea =>
  cases (show u=Value.ref a from rx);obtain ⟨_,_,_,n,_,h1⟩:=(show Zbt X.prog X.w H s.heap a (.frz ob (.lst xs)) from I.hok a _ ea);exact VaS W.kitx_list I.kIn ⟨_,h1,rfl⟩ e (λz=>nomatch z) h
 | @tup a xs ea =>
  cases (show u=Value.ref a from rx);obtain ⟨_,_,_,p⟩:=(show Zbt X.prog X.w H s.heap a (.tup xs) from I.hok a _ ea);obtain ⟨o,h1,h2,_⟩:=p;exact VaS W.kitx_tuple I.kIn ⟨o,h1,h2⟩ e (λz=>nomatch z) h
 | @dK a kvs ea =>
  cases (show u=Value.ref a from rx);obtain ⟨_,_,vs,_,p⟩:=(show Zbt X.prog X.w H s.heap a (.dK kvs) from I.hok a _ ea);obtain ⟨o,es,ep,h1,h2,_⟩:=p;exact VaS W.kitx_dict I.kIn ⟨o,h1,h2.1⟩ e (λz=>nomatch z) h
 | @dT a kvs ea =>
  cases (show u=Value.ref a from rx);obtain ⟨_,_,xs,_,o,es,ep,h1,h2,_⟩:=(show Zbt X.prog X.w H s.heap a (.dT kvs) from I.hok a _ ea);exact VaS W.kitx_dict I.kIn ⟨o,h1,h2.1⟩ e (λz=>nomatch z) h
 | @ins a C dx fs ea cl ha hn htk hm =>
  cases (show u=Value.ref a from rx);obtain ⟨mA,O,_⟩:=Zg1 I.hok ea;obtain ⟨od,J,_⟩:=O.look;exact VaS (W.kitx_own (cl.get _) cl.hd ha hn htk hm) I.kIn J e (λz=>nomatch z) h
end
structure Room(k:Nat)(A:Around):Prop where
 hd:A.handled=none
 dp:A.depth+3*k+5<recursionLimit
 un:A.units+16*k+200<cLine
def Room.mono(r:Room k A)(h:j<=k):Room j A:=⟨r.hd,by have:=r.dp;omega,by have:=r.un;omega⟩
def Room.deeper(r:Room (k+1) A)(env):Room k (A.deeper env) :=
 ⟨r.hd,by have:=r.dp;show A.depth+1+3*k+5<_;omega,by have:=r.un;show A.units+3+16*k+200<_;omega⟩
def ZjP{A:Around}:(A.under (.builtin "type.__call__" ⟨.ref C::us,kw⟩)).depth=A.depth+1:=by
 first | rfl | simp [Around.under,Code.weight,Code.isCreation,Code.isGuard,Code.isCaller,Code.frames,Code.isFrame,guardIds]
def ZjY{A:Around}:(A.under (.builtin "type.__call__" ⟨.ref C::us,kw⟩)).units=A.units+1:=by
 first | rfl | simp [Around.under,Code.cUnits,Code.frames,Code.isFrame]
def Room.make(r:Room (k+1) A)(C)(us)(kw):Room k (A.under (.builtin "type.__call__" ⟨.ref C::us,kw⟩)) :=
 ⟨r.hd,by have:=r.dp;rw [ZjP];omega,by have:=r.un;rw [ZjY];omega⟩
def Room.depth(r:Room k A):A.depth<recursionLimit:=by have:=r.dp;omega
def Room.units(r:Room k A):A.units+64<cLine:=by have:=r.un;omega
def tNil:TA:=λ_ H Q=>Q [] H
def Zbd(ta:TE)(tr:TA):TA:=λσ H Q=>ta σ H λx H1=>tr σ H1 λxs H2=>Q (x::xs) H2
section
variable{X:Cx}{e:Expr}{es:List Expr}{te:TE}{t:TA}{pos:Pos}
def Zeh:PA X [] tNil:=λ_ _ _ _ H Q I h=>Calls.spliced_nil ⟨[],H,I,.nil,h⟩
def Zbh(ha:PE X e te)(hr:PA X es t)(hs:starEach (e::es) X.env=(false,eval e X.env)::starEach es X.env:=by rfl):PA X (e::es) (Zbd te t):=by
 intro pos pins s σ H Q I h;rw [hs];show wpAny _ _ (spliced ((false,eval e X.env)::backTo pos (starEach es X.env))) _ _ s;refine VaT (thn (ha pins s σ H _ I h) λu s1 ⟨x,H1,I1,r1,q1⟩=>?_);exact thn (hr pos pins s1 σ H1 _ I1 q1) λus s2 ⟨xs,H2,I2,r2,q2⟩=>⟨x::xs,H2,I2,.cons r1 r2,q2⟩
def tTup(t:TA):TE:=λσ H Q=>t σ H λxs H1=>xs.length<=sizeLine/\∀p,H1 p=none->Q (.ref p) (upd H1 p (.tup xs))
def tLst(t:TA):TE:=λσ H Q=>t σ H λxs H1=>xs.length<=sizeLine/\∀p,H1 p=none->Q (.ref p) (upd H1 p (.lst xs))
def Znd{x1}(h:PA X es t):PE X (.Tuple es x1 pos) (tTup t):=by
 intro pins s σ H Q I hq;refine wpAny_Tuple_spliced (thn (h pos pins s σ H _ I hq) λus s1 ⟨xs,H1,I1,r,z,q⟩=>⟨by rw [<-r.length];exact z,?_⟩);have hf:H1 s1.heap.objs.size=none:=I1.hok.fresh (VaH _);refine ⟨.ref s1.heap.objs.size,upd H1 s1.heap.objs.size (.tup xs),I1.laid (t':=s1.toks) (λb u e=>VaF _ e) (VaH _) ?_,rfl,q _ hf⟩;exact ⟨z,us,r,⟨_,VaG _ rfl,rfl,_,rfl⟩⟩
def Zhk(h:PA X es t):PE X (.List es pos) (tLst t):=by
 intro pins s σ H Q I hq;refine wpAny_List_spliced (thn (h pos pins s σ H _ I hq) λus s1 ⟨xs,H1,I1,r,z,q⟩=>⟨by rw [<-r.length];exact z,?_⟩);have hf:H1 s1.heap.objs.size=none:=I1.hok.fresh (VaH _);refine ⟨.ref s1.heap.objs.size,upd H1 s1.heap.objs.size (.lst xs),I1.laid (t':=s1.toks) (λb u e=>VaF _ e) (VaH _) ?_,rfl,q _ hf⟩;exact ⟨z,us,0,r,VaG _ rfl⟩
end
abbrev Sp:=List V->Hp->VK->XK->Prop
abbrev CXT:=List Env->Hp->Shared->XK->Value->Shared->Prop
structure Env0(P:Program)(w:World)(K:W.Frag)(mg:Str->Option Value)(base:Heap)(A:Around)(outer:List Env)(s:Shared)(H:Hp):Prop where
 frames:A.frames=some outer
 mod:Mod K mg base
 bs:∀b o,base.get? b=some o->s.heap.get? b=some o/\H b=none
 bsz:base.objs.size<=s.heap.objs.size
 funs:s.heap.FunFrames base outer
 frf:∀b∈frs outer,H b=none
 hok:HOk P w H s.heap
 bare:AllBare s.gens
def CE(outer:List Env)(P:Program)(w:World)(H:Hp)(s:Shared)(Q:VK)(u:Value)(s':Shared):Prop :=
 ∃v H',s'.os=s.os/\AllBare s'.gens/\Un (frs outer) [] H H' s.heap s'.heap/\HOk P w H' s'.heap/\RelV v u/\Q v H'
def CR(CX:CXT)(outer:List Env)(P:Program)(w:World)(H:Hp)(s:Shared)(Q:VK)(E:XK)(r:Result)(s':Shared):Prop :=
 match r with
 | .ok (.ret u)=>CE outer P w H s Q u s'
 | .ok _=>False
 | .error e=>CX outer H s E e s'
structure FnOk(P:Program)(w:World)(K:W.Frag)(mg:Str->Option Value)(base:Heap)(CX:CXT)(k:Nat)(f:Addr)(fd:FuncData)(ps:List Str)(sp:Sp):Prop where
 len:∀vs H Q E,sp vs H Q E->vs.length=ps.length
 run:∀(A:Around) (outer:List Env) (s:Shared) (H:Hp) (args:Args) (us:List Value) (vs:List V) (Q:VK) (E:XK),Room k A->Env0 P w K mg base A outer s H->BindsTo s fd args (ps.zip us)->Vals vs us->sp vs H Q E ->
  codeAny (model P w) A (.call (.ref f) args) (CR CX outer P w H s Q E) s
def FnOk.mono{P:Program}{w:World}{K:W.Frag}{mg:Str->Option Value}{base:Heap}{CX:CXT}{j k:Nat}{f:Addr}{fd:FuncData}{ps:List Str}{sp:Sp}(F:FnOk P w K mg base CX j f fd ps sp)(h:j<=k) :
  FnOk P w K mg base CX k f fd ps sp:=⟨F.len,λA outer s H args us vs Q E hr=>F.run A outer s H args us vs Q E (hr.mono h)⟩
def Env0.make{P:Program}{w:World}{K:W.Frag}{mg:Str->Option Value}{base:Heap}{A:Around}{outer:List Env}{s:Shared}{H:Hp}(e:Env0 P w K mg base A outer s H)(C)(us)(kw) :
  Env0 P w K mg base (A.under (.builtin "type.__call__" ⟨.ref C::us,kw⟩)) outer s H:=⟨by first | exact e.frames | (simpa [Around.under,Code.envs,Code.isFrame,pushEnvs] using e.frames),e.mod,e.bs,e.bsz,e.funs,e.frf,e.hok,e.bare⟩
section
variable{X:Cx}{pins:List (Addr×Obj)}{σ:St}{H:Hp}{s s':Shared}
def Inv.env0(I:Inv X pins σ H s):Env0 X.prog X.w X.K X.mg X.base X.A X.stack s H :=
 ⟨I.ok.frames,I.ok.mod,I.bs,Vaj I.ok.bsz I.sz,I.stack,I.stkFree,I.hok,I.bare⟩
def Inv.after(I:Inv X pins σ H s)(h:CE X.stack X.prog X.w H s Q u s'):EP X pins σ Q u s':=by
 obtain ⟨v,H',os,bare,un,hok,r,q⟩:=h;obtain ⟨hh,g,d,t,os'⟩:=s';obtain rfl:os'=s.os:=os;exact ⟨v,H',I.call (h':=hh) (g':=g) (d':=d) (t':=t) (ch:=[]) un hok bare (λb z=>absurd z (by simp)),r,q⟩
end
def ZeB(sp:Sp)(dvs:List V)(E:XK)(t:TA):TE:=λσ H Q=>t σ H λvs H1=>sp (vs++dvs) H1 Q E
def Zn5(C:Addr)(sp:Sp)(dvs:List V)(E:XK)(t:TA):TE:=λσ H Q=>t σ H λvs H1=>∀x dx,H1 x=none->H1 dx=none->dx≠x ->
 sp (.ref x::(vs++dvs)) (upd (upd H1 dx (.own x)) x (.ins C dx [])) (λv H2=>v=.non/\Q (.ref x) H2) E
def Binds(K:W.Frag)(fd:FuncData)(ps:List Str)(ds:List Value):Prop :=
 ∀s us,K.In s.heap->(us++ds).length=ps.length->BindsTo s fd ⟨us,[]⟩ (ps.zip (us++ds))
def Binds.all{K:W.Frag}{fd:FuncData}{ps:List Str}(h:∀us:List Value,us.length=ps.length->bindArgs fd ⟨us,[]⟩=pure (ps.zip us)):Binds K fd ps []:=λs us _ hl=>by
 rw [VaU] at hl ⊢;exact .of_eq (h us hl)
def Zbi(CX:CXT)(X:Cx)(E:XK):Prop:=∀pins σ H s e s',Inv X pins σ H s->CX X.stack H s E e s'->X.xe e s'
section
variable{X:Cx}{CX:CXT}{k:Nat}{f C:Addr}{fd:FuncData}{ps:List Str}{sp:Sp}{dvs:List V}{ds:List Value}{E:XK}{x m:Str}{p pos apos:Pos}{e o:Expr}{es:List Expr}{ta:TE}{t:TA}
def ZiV(F:FnOk X.prog X.w X.K X.mg X.base CX k f fd ps sp)(hr:Room k X.A)(hb:Binds X.K fd ps ds)(hd:Vals dvs ds)(hx:Zbi CX X E)(I:Inv X pins σ H s)(r:Vals vs us)(h:sp (vs++dvs) H Q E):wpAny (model X.prog X.w) X.A (call (.ref f) us) (EP X pins σ Q) X.xe s:=by
 have r2:Vals (vs++dvs) (us++ds):=r.append hd;have hl:(us++ds).length=ps.length:=by rw [<-r2.length];exact F.len _ _ _ _ h
 refine wpAny_call (VaV (F.run X.A X.stack s H ⟨us,[]⟩ (us++ds) (vs++dvs) Q E hr I.env0 (hb s us I.kIn hl) r2 h) λr s' hq=>?_);cases r with
 | error e=>exact hx pins σ H s e s' I hq
 | ok fl =>
  cases fl with
  | ret u=>exact I.after hq
  | next=>exact False.elim hq
  | brk=>exact False.elim hq
  | cont=>exact False.elim hq
def Zgs(F:FnOk X.prog X.w X.K X.mg X.base CX k f fd ps sp)(hr:Room k X.A)(hg:Gl X x)(hm:X.mg x=some (.ref f))(hk:W.keepIn X.K (.ref f)=true)(hb:Binds X.K fd ps ds)(hd:Vals dvs ds)(hx:Zbi CX X E)(ha:PA X (e::es) t)(hdb:(x==("__debug__" : Str))=false:=by decide)(he:starEach (e::es) X.env=(false,eval e X.env)::starEach es X.env:=by rfl)(hpl:(backTo pos (starEach es X.env)).any (·.1)=false:=by rfl) :
  PE X (.Call (.Name x p) (e::es) [] pos) (ZeB sp dvs E t):=by
 intro pins s σ H Q I h;refine VaW (ZeI I hg hm ?_ hdb);refine W.callWith_K (h₀:=X.base) I.ok.mod.kin hk (thn (ha pos pins s σ H _ I h) λus s1 ⟨vs,H1,I1,r,q⟩=>⟨I1.kIn,?_⟩) he hpl;exact ZiV F hr hb hd hx I1 r q
structure Mk(K:W.Frag)(C f:Addr):Prop where
 makes:W.makesIn K C=true
 init:W.findIn K (.ref C) "__init__"=some (some (.ref f))
 fn:W.isFn K (.ref f)=true
 kp:W.keepIn K (.ref C)=true
def Zmt(M:Mk X.K C f)(F:FnOk X.prog X.w X.K X.mg X.base CX k f fd ps sp)(hr:Room (k+1) X.A)(hb:Binds X.K fd ps ds)(hd:Vals dvs ds)(hx:Zbi CX X E)(I:Inv X pins σ H s)(r:Vals vs us)(h:∀x dx,H x=none->H dx=none->dx≠x->sp (.ref x::(vs++dvs)) (upd (upd H dx (.own x)) x (.ins C dx [])) (λv H2=>v=.non/\Q (.ref x) H2) E) :
  wpAny (model X.prog X.w) X.A (call (.ref C) us) (EP X pins σ Q) X.xe s:=by
 have hq:=h (s.heap.objs.size+1) s.heap.objs.size (I.hok.fresh (Nat.le_succ _)) (I.hok.fresh (VaH _)) (Vaf (VaQ _));have I2:=Inv.made (C:=C) I;have r2:Vals (V.ref (s.heap.objs.size+1)::(vs++dvs)) (Value.ref (s.heap.objs.size+1)::(us++ds)):=.cons rfl (r.append hd);have hl:(Value.ref (s.heap.objs.size+1)::us++ds).length=ps.length:=by
  have e:=r2.length;rw [F.len _ _ _ _ hq] at e;exact e.symm
 refine wpAny_call (Zl5 (f:=f) I.kIn M.makes M.init (VaL.mp M.fn) (VaV (F.run _ X.stack _ _ ⟨Value.ref (s.heap.objs.size+1)::us,[]⟩ (Value.ref (s.heap.objs.size+1)::(us++ds)) _ _ E (hr.make C us [])
  (I2.env0.make C us []) (hb _ (Value.ref (s.heap.objs.size+1)::us) I2.kIn hl) r2 hq) λr s' hq'=>?_))
 cases r with
 | error e=>exact hx pins σ _ _ e s' I2 hq'
 | ok fl =>
  cases fl with
  | ret u =>
   obtain ⟨v,H',I3,rv,ev,q3⟩:=I2.after hq';subst ev;exact ⟨rv,⟨V.ref (s.heap.objs.size+1),H',I3,rfl,q3⟩⟩
  | next=>exact False.elim hq'
  | brk=>exact False.elim hq'
  | cont=>exact False.elim hq'
def Zo1(M:Mk X.K C f)(F:FnOk X.prog X.w X.K X.mg X.base CX k f fd ps sp)(hr:Room (k+1) X.A)(hg:Gl X x)(hm:X.mg x=some (.ref C))(hb:Binds X.K fd ps ds)(hd:Vals dvs ds)(hx:Zbi CX X E)(ha:PA X (e::es) t)(hdb:(x==("__debug__" : Str))=false:=by decide)(he:starEach (e::es) X.env=(false,eval e X.env)::starEach es X.env:=by rfl)(hpl:(backTo pos (starEach es X.env)).any (·.1)=false:=by rfl) :
  PE X (.Call (.Name x p) (e::es) [] pos) (Zn5 C sp dvs E t):=by
 intro pins s σ H Q I h;refine VaW (ZeI I hg hm ?_ hdb);refine W.callWith_K (h₀:=X.base) I.ok.mod.kin M.kp (thn (ha pos pins s σ H _ I h) λus s1 ⟨vs,H1,I1,r,q⟩=>⟨I1.kIn,?_⟩) he hpl;exact Zmt M F hr hb hd hx I1 r q
end
section
variable{X:Cx}{CX:CXT}{k:Nat}{f C:Addr}{fd:FuncData}{ps ks:List Str}{sp:Sp}{E:XK}{x m:Str}{p pos apos kpos:Pos}{e o:Expr}{es:List Expr}{kws:List Keyword}{te ta:TE}{t tk:TA}{nm:Option Str}
def Zr1(sp:Sp)(gV:List V->List V->List V)(E:XK)(t tk:TA):TE:=λσ H Q=>t σ H λvs H1=>tk σ H1 λzs H2=>sp (gV vs zs) H2 Q E
variable{g:List Value->List Value->List Value}{gV:List V->List V->List V}
end
structure Zag(N P:List Str)(sc:Scope):Prop where
 kind:sc.kind=.function
 co:sc.isCoroutine=false
 gen:sc.isGenerator=false
 nd:N.Nodup
 pre:N.take P.length=P
 par:∀x∈P,sc.names.lookup x=some .local\/sc.names.lookup x=some .cell
 nofree:∀y∈sc.names,y.2≠.free
def Zhb{kindOf:Str->Option NameKind}{x:Str}:∀{binds:List (Str×Value)} {m:Str->Option Value},(∀v,(x,v)∉binds)->bindL kindOf binds m x=m x
 | [],_,_=>rfl
 | (n,v)::r,m,h=>by
  unfold bindL;rw [Zhb λw hw=>h w (Vao _ hw)];split
  ·have:x≠n:=by rintro rfl;exact h v Van
   simp [this]
  ·rfl
def Zhx{kindOf:Str->Option NameKind}{x:Str}:∀{binds:List (Str×Value)} {m:Str->Option Value},(∀v,(x,v)∉binds)->bindC kindOf binds m x=m x
 | [],_,_=>rfl
 | (n,v)::r,m,h=>by
  unfold bindC;rw [Zhx λw hw=>h w (Vao _ hw)];split
  ·rfl
  ·have:x≠n:=by rintro rfl;exact h v Van
   simp [this]
def Zhm{kindOf:Str->Option NameKind}{x:Str}{v:Value}:∀{P:List Str} {vs:List Value} {i:Nat} {m:Str->Option Value},P.Nodup->P[i]?=some x->vs[i]?=some v->kindOf x=some .local ->
  bindL kindOf (P.zip vs) m x=some v
 | [],_,_,_,_,h,_,_=>by simp at h
 | _::_,[],_,_,_,_,h,_=>by simp at h
 | p::P,w::vs,0,m,nd,h1,h2,hk=>by
  simp at h1 h2;subst h1;subst h2;show bindL kindOf ((p,w)::P.zip vs) m p=_;unfold bindL;rw [Zhb λv hv=>(VaX.mp nd).1 (List.of_mem_zip hv).1,if_pos hk];simp
 | p::P,w::vs,i+1,m,nd,h1,h2,hk=>by
  show bindL kindOf ((p,w)::P.zip vs) m x=_;unfold bindL;exact Zhm (i:=i) (VaX.mp nd).2 (by simpa using h1) (by simpa using h2) hk
def Zg9{kindOf:Str->Option NameKind}{x:Str}{v:Value}:∀{P:List Str} {vs:List Value} {i:Nat} {m:Str->Option Value},P.Nodup->P[i]?=some x->vs[i]?=some v->kindOf x≠some .local ->
  bindC kindOf (P.zip vs) m x=some v
 | [],_,_,_,_,h,_,_=>by simp at h
 | _::_,[],_,_,_,_,h,_=>by simp at h
 | p::P,w::vs,0,m,nd,h1,h2,hk=>by
  simp at h1 h2;subst h1;subst h2;show bindC kindOf ((p,w)::P.zip vs) m p=_;unfold bindC;rw [Zhx λv hv=>(VaX.mp nd).1 (List.of_mem_zip hv).1,if_neg hk];simp
 | p::P,w::vs,i+1,m,nd,h1,h2,hk=>by
  show bindC kindOf ((p,w)::P.zip vs) m x=_;unfold bindC;exact Zg9 (i:=i) (VaX.mp nd).2 (by simpa using h1) (by simpa using h2) hk
def start(N:List Str)(vs:List V):St:=vs.map some++List.replicate (N.length - vs.length) none
def cxOf(CX:CXT)(P:Program)(w:World)(K:W.Frag)(mg:Str->Option Value)(base:Heap)(N:List Str)(qual:Str)(scope:Scope)(f:Addr)(cd:Value)(A:Around)(outer:List Env)(s:Shared)(H:Hp)(E:XK):Cx where
 prog:=P
 w:=w
 K:=K
 mg:=mg
 base:=base
 A:=A.deeper (envOfC qual scope s.heap.objs.size f cd)
 N:=N
 s₀:=s
 H₀:=H
 env:=envOfC qual scope s.heap.objs.size f cd
 outer:=outer
 stack:=envOfC qual scope s.heap.objs.size f cd::outer
 ex:=[]
 calm:=true
 fn:=λ_=>true
 pn:=[]
 xe:=λe s'=>wpAny (model P w) (A.deeper (envOfC qual scope s.heap.objs.size f cd)) (leaving (envOfC qual scope s.heap.objs.size f cd) e) (λ_ s''=>CX outer H s E e s'') (λe' s''=>CX outer H s E e' s'') s'
def Zjn{sc:Scope}(h:sc.names.lookup x=some .cell):∃c,(cellsFrom n sc.names []).lookup x=some c:=by
 have q:=W.cellsFrom_some sc.names n [] (.inl h);exact Option.isSome_iff_exists.mp q
def Zho{CX:CXT}{P:Program}{w:World}{K:W.Frag}{mg:Str->Option Value}{base:Heap}{N ps:List Str}{qual:Str}{scope:Scope}{f:Addr}{cd:Value}{A:Around}{outer:List Env}{s s1:Shared}{H:Hp}{E:XK}{us:List Value}{vs:List V}(S:Zag N ps scope)(hd:A.handled=none)(e0:Env0 P w K mg base A outer s H)(hl:vs.length=ps.length)(r:Vals vs us)(x:InCallC s s.heap.objs.size (bindL (envOfC qual scope s.heap.objs.size f cd).kindOf (ps.zip us) λ_=>none) (cellsFrom (s.heap.objs.size+1) scope.names []) (bindC (envOfC qual scope s.heap.objs.size f cd).kindOf (ps.zip us) λ_=>none) s1) :
  Inv (cxOf CX P w K mg base N qual scope f cd A outer s H E) [] (start N vs) H s1:=by
 have hpl:ps.length<=N.length:=by have:=Vax List.length S.pre;rw [VaY] at this;omega
 obtain ⟨h1,tk,rfl,hk⟩:=x.done;have noA:∀b:Addr,b∉(cxOf CX P w K mg base N qual scope f cd A outer s H E).ex:=λb z=>absurd (show b∈([]:List Addr) from z) (by simp)
 refine ⟨⟨e0.mod,S.kind,rfl,rfl,VaH _,λy z c h1 h2=>?_,λy hy=>?_,λy c _ h=>?_,λ_=>hd,Around.frames_deeper e0.frames,.inr ⟨rfl,rfl⟩,λb z=>absurd z (noA b),e0.bs,e0.bsz,λb _ _=>noA b,λb z=>absurd z (noA b),e0.funs,e0.frf⟩,
  rfl,e0.bare,Un.kept hk,⟨_,x.toInCall.ns,λi y v h1 h2 h3=>?_⟩,λy c h=>⟨_,x.cell y c h⟩,e0.hok.fresh (VaH _),λy c h=>?_,λp hp=>absurd (show p∈([]:List (Addr×Obj)) from hp) (by simp),e0.hok.kept hk,?_⟩
 ·exact name_of_addr x.apart (VaZ h1) (VaZ h2)
 ·have hy:scope.names.lookup y=some .cell\/scope.names.lookup y=some .free:=hy;rcases hy with hy | hy
  ·exact Zjn hy
  ·exact absurd rfl (S.nofree _ (VaZ hy))
 ·exact Vak (x.above y c (VaZ h))
 ·have hi:i<vs.length:=by
   unfold start at h2;by_cases hi:i<vs.length
   ·exact hi
   ·rw [Va0 (by simpa using hi)] at h2;rw [Va1] at h2;split at h2<;>cases h2
  have ha:vs[i]?=some v:=by
   unfold start at h2;rw [Va2 (by simpa using hi),Va3] at h2;cases e:vs[i]? with
   | none=>rw [e] at h2;cases h2
   | some a=>rw [e] at h2;cases h2;rfl
  obtain ⟨u,hu,rv⟩:=r.get ha;have hp:ps[i]?=some y:=by
   rw [<-S.pre,List.getElem?_take_of_lt (by omega)];exact h1
  have ndP:ps.Nodup:=by rw [<-S.pre];exact S.nd.sublist (List.take_sublist _ _)
  refine ⟨u,rv,?_⟩;rcases S.par y (Va4 hp) with k | k
  ·exact .inl ⟨k,Zhm ndP hp hu k⟩
  ·obtain ⟨c,e⟩:=Zjn (n:=s.heap.objs.size+1) k;refine .inr ⟨.inl k,c,e,?_⟩;have q:=x.cell y c e;rw [Zg9 ndP hp hu (by show scope.names.lookup y≠_;rw [k];decide)] at q;exact q
 ·exact e0.hok.fresh (Vak (x.above y c (VaZ h)))
 ·unfold start;show _=N.length;rw [Va5,VaO,Va6];omega
def Zix{CX:CXT}{P:Program}{w:World}{K:W.Frag}{mg:Str->Option Value}{base:Heap}{k:Nat}{f:Addr}{name qual:Str}{params:Arguments}{body:List Stmt}{scope:Scope}{dV kV doc pm cdv ct oc:Value}{an od:Option Addr}{osl:Array (Option Value)}{N ps:List Str}{sp:Sp}(lk:K.lookup f=some ⟨oc,od,.func (W.fnOf name qual params body scope dV kV doc pm an cdv ct),osl⟩)(hcd:W.codeIn K cdv qual=true)(S:Zag N ps scope)(len:∀vs H Q E,sp vs H Q E->vs.length=ps.length) (hbody:∀(A:Around) (outer:List Env) (s:Shared) (H:Hp) (vs:List V) (Q:VK) (E:XK),Room k (A.deeper (envOfC qual scope s.heap.objs.size f cdv))->sp vs H Q E ->
   ∃t,PSs (cxOf CX P w K mg base N qual scope f cdv A outer s H E) body t/\t { nx:=λ_ H'=>Q .non H',rt:=Q } (start N vs) H) :
  FnOk P w K mg base CX (k+1) f (W.fnOf name qual params body scope dV kV doc pm an cdv ct) ps sp:=by
 refine ⟨len,λA outer s H args us vs Q E hr e0 hb r hsp=>?_⟩;have hl:=len _ _ _ _ hsp;have KX:K.In s.heap:=e0.mod.kin.keeps λb o e=>(e0.bs b o e).1;have lim:s.heap.NoLimit:=e0.mod.nolimit.keeps λb o e=>(e0.bs b o e).1;have hkind:∀y∈ps.zip us,scope.names.lookup y.1=some .local\/(scope.names.lookup y.1=some .cell/\((cellsFrom (s.heap.objs.size+1) scope.names []).lookup y.1).isSome=true):=λ⟨n,v⟩ hy=>by
  rcases S.par n (List.of_mem_zip hy).1 with q | q
  ·exact .inl q
  ·exact .inr ⟨q,W.cellsFrom_some _ _ _ (.inl q)⟩
 refine codeAny_call_function hr.depth (KX _ _ lk) rfl S.co S.gen rfl (W.codeRec_of KX hcd) (hb _ _ _ _ ?_);refine wpAny_newFunctionEnv_cells S.kind hkind λenv he s1 x=>?_;subst he;refine ⟨lim.keeps x.toInCall.keep,codeAny_func ?_⟩;obtain ⟨t,ht,hq⟩:=hbody A outer s H vs Q E (hr.deeper _) hsp;have I:Inv (cxOf CX P w K mg base N qual scope f cdv A outer s H E) [] (start N vs) H s1:=Zho S hr.hd e0 hl r x;refine Vav (ht [] s1 (start N vs) H _ I hq) (λfl s' hs=>?_) λe s' hs=>hs;have fin:∀{σ':St} {H':Hp} {v:V} {u:Value},Inv (cxOf CX P w K mg base N qual scope f cdv A outer s H E) [] σ' H' s'->RelV v u->Q v H'->CE outer P w H s Q u s' :=
  λ{σ' H' v u} J rv q=>⟨v,H',J.os,J.bare,J.base,J.hok,rv,q⟩
 cases fl with
 | ret u =>
  obtain ⟨v,σ',H',J,rv,q⟩:=hs;exact fin J rv q
 | next =>
  obtain ⟨σ',H',J,q⟩:=hs;exact fin (v:=V.non) (u:=Value.none) J rfl q
 | brk =>
  obtain ⟨_,_,_,q⟩:=hs;exact False.elim q
 | cont =>
  obtain ⟨_,_,_,q⟩:=hs;exact False.elim q
section
variable{X:Cx}{x:Str}{p pos:Pos}{e:Expr}{es:List Expr}{t:TA}{id T:String}{r:List V->Hp->VK->Prop}
def tCB(r:List V->Hp->VK->Prop)(t:TA):TE:=λσ H Q=>t σ H λvs H1=>r vs H1 Q
def Zi1(hc:Zc1 X (.builtin id) r)(hg:Gl X x)(hm:X.mg x=none)(hv:bootBuiltins x=some (.builtin id))(ha:PA X (e::es) t)(hn:x ≠ "__name__" := by decide)(hdb:(x==("__debug__" : Str))=false:=by decide)(he:starEach (e::es) X.env=(false,eval e X.env)::starEach es X.env:=by rfl)(hpl:(backTo pos (starEach es X.env)).any (·.1)=false:=by rfl):PE X (.Call (.Name x p) (e::es) [] pos) (tCB r t):=by
 intro pins s σ H Q I h;refine VaW (Zdt I hg hm hv ?_ hn hdb);exact PyProof.Rows.callWith_builtin1 (thn (ha pos pins s σ H _ I h) λus s1 ⟨vs,H1,I1,r1,q1⟩=>hc pins s1 σ H1 vs us Q I1 r1 q1) he hpl
def Zhu(hc:Zc1 X (.type T) r)(hg:Gl X x)(hm:X.mg x=none)(hv:bootBuiltins x=some (.type T))(ha:PA X (e::es) t)(hn:x ≠ "__name__" := by decide)(hdb:(x==("__debug__" : Str))=false:=by decide)(he:starEach (e::es) X.env=(false,eval e X.env)::starEach es X.env:=by rfl)(hpl:(backTo pos (starEach es X.env)).any (·.1)=false:=by rfl):PE X (.Call (.Name x p) (e::es) [] pos) (tCB r t):=by
 intro pins s σ H Q I h;refine VaW (Zdt I hg hm hv ?_ hn hdb);exact VaI (thn (ha pos pins s σ H _ I h) λus s1 ⟨vs,H1,I1,r1,q1⟩=>hc pins s1 σ H1 vs us Q I1 r1 q1) he hpl
end
end L2
namespace HT
section
open PySem.SeqAt
open PySem.AutoSeq1 (wpAny_loadPart')
open PySem.MeetsSeq PySem.MeetsSeq2 PySem.MeetsSeq3
end
section
variable{prog:Program}{w:World}{A:Around}{E:Value->Shared->Prop}{s:Shared}
def ZpE(ht:IsTup s.heap t vs.toArray)(hb:IsTup s.heap b ws.toArray)(hv:vs≠[])(h1:ws=[]->Q (.ref t) s)(h2:ws≠[]->Q (.ref s.heap.objs.size) { s with heap:=s.heap.push { cls:=.type "tuple", data:=.seq (vs++ws).toArray } })(hsz:vs.length+ws.length<=sizeLine):wpAny (model prog w) A (binaryOp .Add (.ref t) (.ref b)) Q E s:=by
 obtain ⟨⟨cls,dd,data,sl⟩,ho,hc,n,hd⟩:=id ht;obtain ⟨⟨cls2,dd2,data2,sl2⟩,ho2,hc2,n2,hd2⟩:=id hb;simp only at hc hd hc2 hd2;subst hc hd hc2 hd2;have e:vs.toArray++ws.toArray=(vs++ws).toArray:=by simp
 by_cases hw:ws=[]
 ·exact concat_meets ⟨_,ho,rfl⟩ ⟨_,ho2,rfl⟩ noFill_tuple_add seq_tuple_add PySem.F.slot_tuple_add PySem.F.entry_tuple_add (PySem.F.args_tuple_add_2 _ _)
   (tuple_addW1 t b vs.toArray ws.toArray n n2 dd dd2 sl sl2 (by simpa using hv) (by simp [hw])) ⟨ho,ho2,h1 hw⟩
 ·refine concat_meets ⟨_,ho,rfl⟩ ⟨_,ho2,rfl⟩ noFill_tuple_add seq_tuple_add PySem.F.slot_tuple_add PySem.F.entry_tuple_add (PySem.F.args_tuple_add_2 _ _)
   (tuple_addW2 t b vs.toArray ws.toArray n n2 dd dd2 sl sl2 (by simpa using hv) (by simpa using hw) (by rw [Va7,Va7];exact hsz)) ⟨ho,ho2,?_⟩
  rw [e];exact h2 hw
def sIx(n d:Nat):Option Int->Nat
 | none=>d
 | some v=>if v<0 then (v+(n:Int)).toNat else min v.toNat n
def ZrO(n d)(hd:d<=n)(o):sIx n d o<=n:=by
 cases o with
 | none=>exact hd
 | some v =>
  show (if v<0 then (v+(n:Int)).toNat else min v.toNat n)<=n
  by_cases hv:v<0
  ·rw [if_pos hv];omega
  ·rw [if_neg hv];exact Nat.min_le_right _ _
def ZkJ(v:Int)(n d:Nat):(if v<0 then max (v+(n:Int)) 0 else min v (n:Int))=((sIx n d (some v):Nat):Int):=by
 show (if v<0 then max (v+(n:Int)) 0 else min v (n:Int))=(((if v<0 then (v+(n:Int)).toNat else min v.toNat n):Nat):Int)
 by_cases hv:v<0
 ·simp only [if_pos hv];omega
 ·simp only [if_neg hv];omega
def Zj1(lo hi:Option Int)(n:Nat):Builtin.Slice.sliceAdjust lo hi 1 (n:Int)=(((sIx n 0 lo:Nat):Int),((sIx n n hi:Nat):Int)):=by
 have h1:¬((1:Int)<0):=by omega
 unfold Builtin.Slice.sliceAdjust;simp only [h1,Va8];refine Prod.ext ?_ ?_
 ·cases lo with
  | none=>rfl
  | some v=>exact ZkJ v n 0
 ·cases hi with
  | none=>rfl
  | some v=>exact ZkJ v n n
def ZjQ(i j:Nat):Builtin.Slice.slicePlaces (i:Int) (j:Int) 1=j - i:=by
 unfold Builtin.Slice.slicePlaces;have h1:(1:Int)>0:=by omega
 simp only [h1,Va9,Int.ediv_one];split<;>omega
def Zf8(p:IsPart v o)(h:Q o s):wpAny (model prog w) A (Builtin.Slice.slicePartIndex v) Q E s:=by
 cases p with
 | none=>exact slicePart_none h
 | int i t=>exact slicePart_int h
def ZcR{sl:Addr}{vl vu:Value}{lo hi:Option Int}{n:Nat}{Q:Int×Int×Nat->Shared->Prop}(hs:s.heap.IsSliceOf sl vl vu .none)(pl:IsPart vl lo)(pu:IsPart vu hi)(h:Q (((sIx n 0 lo:Nat):Int),1,sIx n n hi - sIx n 0 lo) s):wpAny (model prog w) A (Builtin.Slice.sliceApplied (.ref sl) (pure (n:Int))) Q E s:=by
 obtain ⟨os,hos,hcs,hds⟩:=id hs;unfold Builtin.Slice.sliceApplied Builtin.Slice.sliceFields;refine Vaz (Vaz (Vba hos hds (x:=vl) rfl (Vaz (Vba hos hds (x:=vu) rfl (Vaz (Vba hos hds (x:=.none) rfl (VaE ?_)))))));refine Vaz (slicePart_none ?_);show wpAny _ _ (if ((1:Int)==0)=true then _ else _) _ _ s
 rw [if_neg (by decide)];refine Vaz (Zf8 pl (Vaz (Zf8 pu (Vaz (VaE ?_)))));show wpAny _ _ (match Builtin.Slice.sliceAdjust lo hi 1 (n:Int) with | (lo,hi)=>pure (lo,(1:Int),Builtin.Slice.slicePlaces lo hi 1)) _ _ s
 rw [Zj1 lo hi n];show wpAny _ _ (pure (((sIx n 0 lo:Nat):Int),(1:Int),Builtin.Slice.slicePlaces ((sIx n 0 lo:Nat):Int) ((sIx n n hi:Nat):Int) 1)) _ _ s;rw [ZjQ];exact VaE h
def Zl7(xs:Array Value)(i k:Nat):((List.range k).filterMap λ(m:Nat)=>xs[((i:Int)+(m:Int)*1).toNat]?).toArray=((xs.toList.drop i).take k).toArray:=by
 have e:(λ(m:Nat)=>xs[((i:Int)+(m:Int)*1).toNat]?)=λm=>xs[i+m]?:=by
  funext m;have:((i:Int)+(m:Int)*1).toNat=i+m:=by omega
  rw [this]
 rw [e];have:=pick_run xs i k;rw [List.filterMap_map] at this;have e2:((λx=>xs[x]?) ∘ λx=>i+x)=λm=>xs[i+m]?:=rfl;rw [e2] at this;rw [this]
def Zez{t sl:Addr}{items:Array Value}{vl vu:Value}{lo hi:Option Int}{Q:Value->Shared->Prop}(ht:IsTup s.heap t items)(hs:s.heap.IsSliceOf sl vl vu .none)(pl:IsPart vl lo)(pu:IsPart vu hi)(hw:¬(sIx items.size 0 lo=0/\sIx items.size items.size hi=items.size))(h:Q (.ref s.heap.objs.size) { s with heap:=s.heap.push { cls:=.type "tuple", data:=.seq ((items.toList.drop (sIx items.size 0 lo)).take (sIx items.size items.size hi - sIx items.size 0 lo)).toArray } })(hsz:items.size<=sizeLine):wpAny (model prog w) A (getItem (.ref t) (.ref sl)) Q E s:=by
 have htake:sizeOk (.seq ((items.toList.drop (sIx items.size 0 lo)).take (sIx items.size items.size hi - sIx items.size 0 lo)).toArray):=by
  show ((items.toList.drop (sIx items.size 0 lo)).take (sIx items.size items.size hi - sIx items.size 0 lo)).toArray.size<=sizeLine;rw [Va7,VaY,List.length_drop,Vaw];omega
 have hj:sIx items.size items.size hi<=items.size:=ZrO _ _ (VaH _) hi;obtain ⟨os,hos,hcs,hds⟩:=id hs;have hTs:s.TypeIs (.ref sl) "slice" := ⟨os,hos,hcs⟩;unfold getItem
 try with_reducible refine VaA ?_
 first | refine Vaz (VaE ?_) | skip
 refine Vaz (wpAny_sequenceKey ht.typeIs (by decide) ?_)
 refine Vaz (Vbb (name:=Str.ofString "__getitem__") ht.typeIs Vbc
  (Vbd Vbc ht.typeIs entry_tuple_getitem ?_ (args_tuple_getitem _ _)))
 show wpAny _ _ (Builtin.Tuple.tupleItemsOf (.ref t) >>= _) _ _ s;refine Vaz (tupleItemsOf_ ht ?_);refine Vaz (Vbe hTs ?_);rw [if_pos (by decide)];refine Vaz (ZcR hs pl pu ?_);have hno:¬((((sIx items.size 0 lo:Nat):Int)==0&&(1:Int)==1&&(sIx items.size items.size hi - sIx items.size 0 lo)==items.size)=true):=by
  intro q;rw [Vbf,Vbf] at q;have q1:((sIx items.size 0 lo:Nat):Int)=0:=eq_of_beq q.1.1;have q2:sIx items.size items.size hi - sIx items.size 0 lo=items.size:=eq_of_beq q.2;exact hw ⟨by omega,by omega⟩
 show wpAny _ _ (if (((sIx items.size 0 lo:Nat):Int)==0&&(1:Int)==1&&(sIx items.size items.size hi - sIx items.size 0 lo)==items.size)=true then _ else _) _ _ s
 rw [if_neg hno,Zl7]
 first
  | exact Vaz (m:=Builtin.Tuple.tupleExact _) (Vbg (VaE ⟨_,rfl,VaE h⟩) htake)
  | exact Vaz (m:=Builtin.Tuple.tupleExact _) (Vbg (Vaz (VaE (VaE ⟨_,rfl,VaE h⟩))) htake)
  | exact Vaz (Vaz (m:=Builtin.Tuple.tupleExact _) (Vbg (VaE (VaE ⟨_,rfl,VaE h⟩)) htake))
  | exact Vaz (Vaz (m:=Builtin.Tuple.tupleExact _) (Vbg (VaE ⟨_,rfl,VaE h⟩) htake))
end
end HT
namespace L2
abbrev TO:=St->Hp->(Option Int->Hp->Prop)->Prop
def PO(X:Cx)(e:Option Expr)(t:TO):Prop :=
 ∀pins s σ H Q,Inv X pins σ H s->t σ H Q ->
  wpAny (model X.prog X.w) X.A (evalPart e X.env) (λu s'=>∃o H',Inv X pins σ H' s'/\IsPart u o/\Q o H') X.xe s
def Zil:TO:=λ_ H Q=>Q none H
def Zoj(t:TE):TO:=λσ H Q=>t σ H λx H1=>∃i,x=.int i/\Q (some i) H1
section
variable{X:Cx}{e:Expr}{te:TE}{lo hi:Option Expr}{tl th:TO}{pos p2:Pos}
def Zpj:PO X none Zil:=by
 intro pins s σ H Q I h;rw [evalPart_none];exact VaE ⟨none,H,I,.none,h⟩
def Zo3(h:PE X e te):PO X (some e) (Zoj te):=by
 intro pins s σ H Q I hw;rw [evalPart_some];refine thn (h pins s σ H _ I hw) λu s1 ⟨x,H1,I1,r1,q1⟩=>?_;obtain ⟨i,rfl,q⟩:=q1;obtain ⟨t,rfl⟩:=r1;exact ⟨some i,H1,I1,.int i t,q⟩
def SlR(X:Cx)(r:V->Option Int->Option Int->Hp->VK->Prop):Prop :=
 ∀pins s σ H x v vl vu lo hi sl Q,Inv X pins σ H s->RelV x v->s.heap.IsSliceOf sl vl vu .none->IsPart vl lo->IsPart vu hi->r x lo hi H Q ->
  ∃T id,typeLookup (.type T) "__getitem__"=pure (some (.builtin id))/\s.TypeIs v T/\wpAny (model X.prog X.w) X.A (getItem v (.ref sl)) (EP X pins σ Q) X.xe s
def SlR.or(h:SlR X r)(h':SlR X r'):SlR X (λx lo hi H Q=>r x lo hi H Q\/r' x lo hi H Q):=by
 intro pins s σ H x v vl vu lo hi sl Q I rx hs pl pu q;rcases q with q | q
 ·exact h pins s σ H x v vl vu lo hi sl Q I rx hs pl pu q
 ·exact h' pins s σ H x v vl vu lo hi sl Q I rx hs pl pu q
def tSl(r:V->Option Int->Option Int->Hp->VK->Prop)(te:TE)(tl th:TO):TE:=λσ H Q=>te σ H λx H1=>tl σ H1 λl H2=>th σ H2 λu H3=>r x l u H3 Q
def Zmc(hr:SlR X r)(he:PE X e te)(hl:PO X lo tl)(hu:PO X hi th):PE X (.Subscript e (.Slice lo hi none p2) pos) (tSl r te tl th):=by
 intro pins s σ H Q I h;refine Subscript_ (thn (he pins s σ H _ I h) λv s1 ⟨x,H1,I1,r1,q1⟩=>?_);refine wpAny_Slice (thn (hl pins s1 σ H1 _ I1 q1) λvl s2 ⟨l,H2,I2,pl,q2⟩=>thn (hu pins s2 σ H2 _ I2 q2) λvu s3 ⟨u,H3,I3,pu,q3⟩=>?_);rw [evalPart_none];refine VaE ?_;have I4:Inv X pins σ H3 { s3 with heap:=s3.heap.push { cls:=.type "slice", data:=.fields #[vl,vu,.none] } }:=I3.kept (t':=s3.toks) λb ob q=>VaF _ q
 obtain ⟨T,id,hT,ht,hg⟩:=hr pins { s3 with heap:=s3.heap.push { cls:=.type "slice", data:=.fields #[vl,vu,.none] } } σ H3 x v vl vu l u s3.heap.objs.size Q I4 r1 (Heap.IsSliceOf.new ..) pl pu q3;show wpAny (model X.prog X.w) X.A (subscriptTail e (.Slice lo hi none p2) v (.ref s3.heap.objs.size)) (EP X pins σ Q) X.xe { s3 with heap:=s3.heap.push { cls:=.type "slice", data:=.fields #[vl,vu,.none] } }
 exact tail_any (ops:=[.ref s3.heap.objs.size,v]) ht hT hg (by with_unfolding_all rfl)
def cutV(xs:List V)(lo hi:Option Int):List V:=(xs.drop (HT.sIx xs.length 0 lo)).take (HT.sIx xs.length xs.length hi - HT.sIx xs.length 0 lo)
def ZfB(xs)(lo hi):(cutV xs lo hi).length<=xs.length:=by
 unfold cutV;rw [VaY,List.length_drop];omega
def rSlT(K:W.Frag):V->Option Int->Option Int->Hp->VK->Prop:=λx lo hi H Q=>∃a xs,x=.ref a/\SqT K H a xs /\
 ¬(HT.sIx xs.length 0 lo=0/\HT.sIx xs.length xs.length hi=xs.length)/\∀p,H p=none->Q (.ref p) (upd H p (.tup (cutV xs lo hi)))
def ZqH:SlR X (rSlT X.K):=by
 intro pins s σ H x v vl vu lo hi sl Q I rx hs pl pu h;obtain ⟨a,xs,rfl,hx,hw,q⟩:=h;cases rx;obtain ⟨its,r,ht,hz⟩:=I.tuple hx;have hlen:its.toArray.size=xs.length:=by rw [Va7];exact r.length.symm
 refine ⟨"tuple", _,PyProof.Rows.slot_tuple_getitem.lookup,ht.typeIs,?_⟩;refine HT.Zez ht hs pl pu (by rw [hlen];exact hw) ?_ (by rw [hlen];exact hz);rw [hlen];refine ⟨.ref s.heap.objs.size,_,I.laid (t':=s.toks) (o:=.tup (cutV xs lo hi)) (λb ob q=>VaF _ q) (VaH _) ?_,rfl,q _ (I.hok.fresh (VaH _))⟩;exact ⟨Vaj (ZfB xs lo hi) hz,_,(r.drop (HT.sIx xs.length 0 lo)).take (HT.sIx xs.length xs.length hi - HT.sIx xs.length 0 lo),IsTup.new _ _⟩
def Zs9(K:W.Frag):R2:=λx y H Q=>∃a b xs ys,x=.ref a/\y=.ref b/\SqT K H a xs/\SqT K H b ys/\xs≠[]/\xs.length+ys.length<=sizeLine /\
 (ys=[]->Q (.ref a) H)/\(ys≠[]->∀p,H p=none->Q (.ref p) (upd H p (.tup (xs++ys))))
def Vals.nil_iff(r:Vals xs us):us=[]↔xs=[]:=by
 cases r with
 | nil=>simp
 | cons _ _=>simp
def ZoW:OpR X (binaryOp .Add) (Zs9 X.K):=by
 intro pins s σ H x y v u Q I rx ry h;obtain ⟨a,b,xs,ys,rfl,rfl,ha,hb,hx,hz,q1,q2⟩:=h;cases rx;cases ry;obtain ⟨its,r1,p1,_⟩:=I.tuple ha;obtain ⟨its2,r2,p2,_⟩:=I.tuple hb;refine HT.ZpE p1 p2 (λz=>hx (r1.nil_iff.mp z)) (λz=>⟨.ref a,H,I,rfl,q1 (r2.nil_iff.mp z)⟩) (λz=>?_) (by rw [<-r1.length,<-r2.length];exact hz);refine ⟨.ref s.heap.objs.size,_,I.laid (t':=s.toks) (o:=.tup (xs++ys)) (λb ob q=>VaF _ q) (VaH _) ?_,rfl,q2 (λw=>z (r2.nil_iff.mpr w)) _ (I.hok.fresh (VaH _))⟩;exact ⟨by rw [Va5];exact hz,_,r1.append r2,IsTup.new _ _⟩
end
def ixN(n:Nat)(i:Int):Option Nat:=if 0<=i then (if i<n then some i.toNat else none) else if -(n:Int)<=i then some (i+n).toNat else none
def atI(xs:List α)(i:Int):Option α:=(ixN xs.length i).bind λj=>xs[j]?
def ZkR(h:ixN n i=some j):seqIndex? i n=some j/\j<n/\-(n:Int)<=i/\i<n:=by
 unfold ixN at h;by_cases h0:0<=i
 ·rw [if_pos h0] at h;by_cases h1:i<n
  ·rw [if_pos h1] at h;have e:i.toNat=j:=Vau h;exact ⟨by rw [seqIndex_of h0 h1,e],by omega,by omega,h1⟩
  ·rw [if_neg h1] at h;cases h
 ·rw [if_neg h0] at h;by_cases h1:-(n:Int)<=i
  ·rw [if_pos h1] at h;have e:(i+n).toNat=j:=Vau h;exact ⟨by rw [seqIndex_neg (by omega) h1,e],by omega,h1,by omega⟩
  ·rw [if_neg h1] at h;cases h
def Zlx(h:atI xs i=some v):∃j,seqIndex? i xs.length=some j/\xs[j]?=some v/\j<xs.length/\-(xs.length:Int)<=i/\i<xs.length:=by
 unfold atI at h;cases e:ixN xs.length i with
 | none=>rw [e] at h;cases h
 | some j =>
  rw [e] at h;obtain ⟨h1,h2,h3,h4⟩:=ZkR e;exact ⟨j,h1,h,h2,h3,h4⟩
def ZgN(b:Expr):Prop:=∀o i,subscripted b false o i=operate [o,i] (getItem o i)
def IxR(X:Cx)(r:R2):Prop :=
 ∀value slice pins s σ H x y v u Q,Inv X pins σ H s->RelV x v->RelV y u->r x y H Q ->
  subscripted slice false v u=operate [v,u] (getItem v u)->wpAny (model X.prog X.w) X.A (subscriptTail value slice v u) (EP X pins σ Q) X.xe s
def MtR(X:Cx)(id:String)(r:V->List V->Hp->VK->Prop):Prop :=
 ∀pins s σ H x xs v us Q,Inv X pins σ H s->RelV x v->Vals xs us->r x xs H Q ->
  wpAny (model X.prog X.w) X.A (call (.builtin id) (v::us)) (EP X pins σ Q) X.xe s
section
variable{X:Cx}{a b:Expr}{ta tb:TE}{pos:Pos}
def IxR.or(h:IxR X r)(h':IxR X r'):IxR X (λx y H Q=>r x y H Q\/r' x y H Q):=by
 intro value slice pins s σ H x y v u Q I rx ry q hs;rcases q with q | q
 ·exact h value slice pins s σ H x y v u Q I rx ry q hs
 ·exact h' value slice pins s σ H x y v u Q I rx ry q hs
def Zo6(hr:IxR X r)(ha:PE X a ta)(hb:PE X b tb)(hs:ZgN b):PE X (.Subscript a b pos) (tOp r ta tb):=by
 intro pins s σ H Q I h;exact Subscript_ (binT ha hb I h λv u s2 x y H2 I2 rx ry q=>hr a b pins s2 σ H2 x y v u Q I2 rx ry q (hs _ _))
def rIxL(K:W.Frag):R2:=λx y H Q=>∃p xs i v,x=.ref p/\y=.int i/\SqL K H p xs/\atI xs i=some v/\Q v H
def rIxT(K:W.Frag):R2:=λx y H Q=>∃p xs i v,x=.ref p/\y=.int i/\SqT K H p xs/\atI xs i=some v/\Q v H
def Zh7:IxR X (rIxL X.K):=by
 intro value slice pins s σ H x y v u Q I rx ry h hs;obtain ⟨p,xs,i,z,rfl,rfl,hq,he,q⟩:=h;cases rx;obtain ⟨t,rfl⟩:=ry;obtain ⟨its,r,pl,hz⟩:=I.list hq;obtain ⟨j,h1,h2,h3,h4,h5⟩:=Zlx he;obtain ⟨w,ew,rw'⟩:=r.get h2;have hl:=r.length;have hn:=ZiQ;have fin:EP X pins σ Q w s:=⟨z,H,I,rw',q⟩;by_cases h0:0<=i
 ·have hj:i.toNat=j:=by
   rw [seqIndex_of h0 h5] at h1;exact Vau h1
  exact item_listR pl.isList h0 (by omega) (by rw [hj];simpa using ew) fin hs
 ·have hj:(i+(its.toArray.size:Int)).toNat=j:=by
   rw [seqIndex_neg (by omega) h4] at h1;rw [Va7,<-hl];exact Vau h1
  exact subscriptTail_builtinR (x:=w) pl.isList.typeIs slot_list_getitem.lookup
   (wpAny_getItem_list_neg (Q:=λr s'=>r=w/\EP X pins σ Q r s') pl.isList (by omega) (by rw [Va7]<;>omega) (by omega) (by rw [hj];simpa using ew) ⟨rfl,fin⟩) hs
def ZlG:IxR X (rIxT X.K):=by
 intro value slice pins s σ H x y v u Q I rx ry h hs;obtain ⟨p,xs,i,z,rfl,rfl,hq,he,q⟩:=h;cases rx;obtain ⟨t,rfl⟩:=ry;obtain ⟨its,r,pl,hz⟩:=I.tuple hq;obtain ⟨j,h1,h2,h3,h4,h5⟩:=Zlx he;obtain ⟨w,ew,rw'⟩:=r.get h2;have hl:=r.length;have hn:=ZiQ;have fin:EP X pins σ Q w s:=⟨z,H,I,rw',q⟩;exact subscriptTail_builtinR (x:=w) pl.typeIs slot_tuple_getitem.lookup
  (getItem_tuple (j:=j) (Q:=λr s'=>r=w/\EP X pins σ Q r s') pl (by omega) (by omega) (by rw [Va7,<-hl];exact h1) (by simpa using ew) ⟨rfl,fin⟩) hs
def ZjX(its:List Value)(n j:Nat)(u:Value):Obj.mapSeq (·.setIfInBounds j u) { cls:=.type "list", data:=.seq its.toArray n }={ cls:=.type "list", data:=.seq (its.set j u).toArray n }:=by
 simp [Obj.mapSeq]
def Inv.lst{pins:List (Addr×Obj)}{σ:St}{H:Hp}{s:Shared}{p:Addr}{xs:List V}(I:Inv X pins σ H s)(h:H p=some (.lst xs)) :
  ∃its n,Vals xs its/\s.heap.get? p=some { cls:=.type "list", data:=.seq its.toArray n }/\xs.length<=sizeLine:=by
 obtain ⟨z,its,n,r,e⟩:=I.hok p _ h;exact ⟨its,n,r,e,z⟩
def Inv.lstUpd{s:Shared}{ys:List V}{its its':List Value}(I:Inv X pins σ H s)(h:H p=some (.lst xs))(ho:s.heap.get? p=some { cls:=.type "list", data:=.seq its.toArray n })(hf:f { cls:=.type "list", data:=.seq its.toArray n }={ cls:=.type "list", data:=.seq its'.toArray n' })(r:Vals ys its')(hz:ys.length<=sizeLine)(t) :
  Inv X pins σ (upd H p (.lst ys)) { s with heap:=s.heap.update p f,toks:=t }:=by
 have e:(s.heap.update p f).get? p=some { cls:=.type "list", data:=.seq its'.toArray n' }:=by
  rw [Vbh f ho (by rw [hf]<;>rfl),hf]
 refine I.write (x:=p) (e:=p) (by rw [h];trivial) (.inl rfl) (λb u hb q=>(Vbi _ _ (Ne.symm hb)).trans q) ⟨_,e⟩ ?_;exact ⟨hz,its',n',r,e⟩
def ZkM:V->V->V->Hp->(Hp->Prop)->Prop:=λo i v H Q=>∃p xs k j,o=.ref p/\i=.int k/\H p=some (.lst xs)/\ixN xs.length k=some j/\Q (upd H p (.lst (xs.set j v)))
def set_list:PSet X ZkM:=by
 intro pins s σ H o i v ov iv u Q I ro ri rv h;obtain ⟨p,xs,k,j,rfl,rfl,hp,hj,q⟩:=h;cases ro;obtain ⟨t,rfl⟩:=ri;obtain ⟨its,n,r,ho,hz⟩:=I.lst hp;obtain ⟨h1,h2,h3,h4⟩:=ZkR hj;have hl:=r.length;have hn:=ZiQ;have I':Inv X pins σ (upd H p (.lst (xs.set j v))) { s with heap:=s.heap.update p (Obj.mapSeq (·.setIfInBounds j u)) } :=
  I.lstUpd hp ho (ZjX its n j u) (r.set rv j) (by rw [Vbj];exact hz) s.toks
 by_cases h0:0<=k
 ·have hk:k.toNat=j:=by
   rw [seqIndex_of h0 h4] at h1;exact Vau h1
  exact W.ki_setAt ho h0 (by omega) (by rw [Va7,<-hl];exact h4) (by rw [hk];exact ⟨_,I',q⟩)
 ·have hk:(k+(its.toArray.size:Int)).toNat=j:=by
   rw [seqIndex_neg (by omega) h3] at h1;rw [Va7,<-hl];exact Vau h1
  exact W.ki_setBack ho (by omega) (by rw [Va7,<-hl];exact h3) (by omega) (by rw [hk];exact ⟨_,I',q⟩)
def ZhH(lo hi)(n):(sliceBounds lo hi none n).1=((HT.sIx n 0 lo:Nat):Int)/\(sliceBounds lo hi none n).2.1=((HT.sIx n n hi:Nat):Int)/\(sliceBounds lo hi none n).2.2=1:=by
 refine ⟨?_,?_,rfl⟩
 ·cases lo with
  | none=>simp [sliceBounds,HT.sIx]
  | some i =>
   simp only [sliceBounds,HT.sIx,Option.getD_none,show (1:Int)>0 by decide,Va9];by_cases h:i<0
   ·simp only [h,Va9]<;>omega
   ·simp only [h,Va8]<;>omega
 ·cases hi with
  | none=>simp [sliceBounds,HT.sIx]
  | some i =>
   simp only [sliceBounds,HT.sIx,Option.getD_none,show (1:Int)>0 by decide,Va9];by_cases h:i<0
   ·simp only [h,Va9]<;>omega
   ·simp only [h,Va8]<;>omega
def Zgy(its:List Value)(lo hi:Option Int):slicePick its.toArray lo hi none=((its.drop (HT.sIx its.length 0 lo)).take (HT.sIx its.length its.length hi - HT.sIx its.length 0 lo)).toArray:=by
 obtain ⟨h1,h2,h3⟩:=ZhH lo hi its.toArray.size;unfold slicePick;rw [h1,h2,h3];simp only [sliceRange_one,pick_run,Va7]<;>rfl
def rSlL(K:W.Frag):V->Option Int->Option Int->Hp->VK->Prop:=λx lo hi H Q=>∃a xs,x=.ref a/\SqL K H a xs/\∀p,H p=none->Q (.ref p) (upd H p (.lst (cutV xs lo hi)))
def Zon:SlR X (rSlL X.K):=by
 intro pins s σ H x v vl vu lo hi sl Q I rx hs pl pu h;obtain ⟨a,xs,rfl,hx,q⟩:=h;cases rx;obtain ⟨its,r,ht,hz⟩:=I.list hx;have hlen:=r.length;refine ⟨"list", _,slot_list_getitem.lookup,ht.isList.typeIs,?_⟩;refine wpAny_getItem_list_slice ht.isList hs pl pu .none (by simp) ?_ (by rw [Va7]<;>omega);rw [Zgy,<-hlen];refine ⟨.ref s.heap.objs.size,_,I.laid (t':=s.toks) (o:=.lst (cutV xs lo hi)) (λb ob q=>VaF _ q) (VaH _) ?_,rfl,q _ (I.hok.fresh (VaH _))⟩;exact ⟨Vaj (ZfB xs lo hi) hz,_,0,(r.drop (HT.sIx xs.length 0 lo)).take (HT.sIx xs.length xs.length hi - HT.sIx xs.length 0 lo),VaG _ rfl⟩
def ZbH:Zc1 X (.builtin "len") (λxs H Q=>∃p ys,xs=[.ref p]/\(SqL X.K H p ys\/SqT X.K H p ys)/\Q (.int ys.length) H):=by
 intro pins s σ H xs us Q I r h;obtain ⟨p,ys,rfl,hq,q⟩:=h;obtain ⟨u,rfl,rx⟩:=vals1 r;cases rx;have hn:=ZiQ;rcases hq with hq | hq
 ·obtain ⟨its,r',pl,hz⟩:=I.list hq;have hlen:=r'.length;exact Calls.call_len_list pl.isList (by simp only [Va7]<;>omega) ⟨.int ys.length,H,I.tok _,⟨s.toks+1,by rw [Va7,hlen]⟩,q⟩
 ·obtain ⟨its,r',pl,hz⟩:=I.tuple hq;have hlen:=r'.length;exact len_tuple pl (by simp only [Va7]<;>omega) ⟨.int ys.length,H,I.tok _,⟨s.toks+1,by rw [Va7,hlen]⟩,q⟩
def Zel:Zc1 X (.type "tuple") (λxs H Q=>∃p ys,xs=[.ref p]/\((SqL X.K H p ys/\∀l,H l=none->Q (.ref l) (upd H l (.tup ys)))\/(SqT X.K H p ys/\Q (.ref p) H))):=by
 intro pins s σ H xs us Q I r h;obtain ⟨p,ys,rfl,h⟩:=h;obtain ⟨u,rfl,rx⟩:=vals1 r;cases rx;rcases h with ⟨hq,q⟩ | ⟨hq,q⟩
 ·obtain ⟨its,r',pl,hz⟩:=I.list hq;have hlen:=r'.length;refine call_tuple_list pl.isList (λh' kp=>?_) (by simp only [Va7]<;>omega);have I1:Inv X pins σ H { s with heap:=h' }:=I.kept (t':=s.toks) kp
  have I2:Inv X pins σ (upd H h'.objs.size (.tup ys)) { s with heap:=h'.push { cls:=.type "tuple", data:=.seq its.toArray } } :=
   I1.laid (t':=s.toks) (λb o e=>VaF _ e) (VaH _) (show Zbt X.prog X.w _ _ _ (.tup ys) from ⟨hz,its,r',IsTup.new _ _⟩)
  exact ⟨.ref h'.objs.size,_,I2,rfl,q _ (I1.hok.fresh (VaH _))⟩
 ·obtain ⟨its,r',pl,hz⟩:=I.tuple hq;exact call_tuple_same pl ⟨.ref p,H,I,rfl,q⟩
def tyV(K:W.Frag)(T:String)(x:V)(H:Hp):Prop:=match x with
 | .str _=>T = "str"
 | .int _=>T = "int"
 | .ref p=>(T = "list"/\∃xs,SqL K H p xs)\/(T = "tuple"/\∃o,K.lookup p=some o/\o.cls=.type "tuple"/\o.dict=none) \/
   (T = "dict"/\((∃kvs,H p=some (.dK kvs))\/∃kvs,H p=some (.dT kvs)))\/(T = "set"/\∃S n,H p=some (.set S n))
 | _=>False
def Zqt(I:Inv X pins σ H s)(r:RelV x v)(ty:tyV X.K T x H) :
  s.TypeIs v T/\∀a,v=.ref a->∃ob,s.heap.get? a=some ob/\ob.dict=none:=by
 cases x with
 | str z =>
  obtain ⟨t,rfl⟩:=r;cases (show T = "str" from ty);exact ⟨typeIs_str s z t,λ_ e=>nomatch e⟩
 | int i =>
  obtain ⟨t,rfl⟩:=r;cases (show T = "int" from ty);exact ⟨typeIs_int s i t,λ_ e=>nomatch e⟩
 | ref p =>
  cases r;rcases ty with ⟨rfl,xs,hq⟩ | ⟨rfl,o,hk,hc,hd⟩ | ⟨rfl,hk⟩ | ⟨rfl,S,n,hk⟩
  ·obtain ⟨its,_,pl,_⟩:=I.list hq;refine ⟨pl.isList.typeIs,λa e=>?_⟩;cases e;obtain ⟨o,n,e,c,hd,_⟩:=pl;exact ⟨o,e,hd⟩
  ·refine ⟨⟨o,I.kIn p o hk,hc⟩,λa e=>?_⟩;cases e;exact ⟨o,I.kIn _ o hk,hd⟩
  ·have z:∃o,s.heap.get? p=some o/\o.ExactDict:=by
    rcases hk with ⟨kvs,hk⟩ | ⟨kvs,hk⟩
    ·obtain ⟨_,_,_,_,o,_,_,e,ex,_⟩:=I.hok p _ hk;exact ⟨o,e,ex⟩
    ·obtain ⟨_,_,_,_,o,_,_,e,ex,_⟩:=I.hok p _ hk;exact ⟨o,e,ex⟩
   obtain ⟨o,e,ex⟩:=z;refine ⟨⟨o,e,ex.1⟩,λa e2=>?_⟩;cases e2;exact ⟨o,e,ex.2.1⟩
  ·obtain ⟨o,_,_,_,e,ex,_⟩:=I.hok p _ hk;refine ⟨⟨o,e,ex.1⟩,λa e2=>?_⟩;cases e2;exact ⟨o,e,ex.2.1⟩
 | _=>exact False.elim ty
def tBM(K:W.Frag)(T:String)(r:V->List V->Hp->VK->Prop)(to:TE)(t:TA):TE:=λσ H Q=>to σ H λx H1=>tyV K T x H1/\t σ H1 λxs H2=>r x xs H2 Q
variable{o e:Expr}{es:List Expr}{to:TE}{t:TA}{name:Str}{apos cpos:Pos}{T id:String}{r:V->List V->Hp->VK->Prop}
def Zmk(pa:PlainAttrs T)(slot:Slot T name id)(hty:typeOf (.builtin id)=pure (.type "method_descriptor"))(hm:MtR X id r)(ho:PE X o to)(ha:PA X (e::es) t)(hbase:attributeBase o name X.env (eval o X.env)=eval o X.env:=by rfl) (hfew:((backTo cpos (starEach (e::es) X.env)).all (λx=>!x.1)&&(backToKw cpos (keywordEach [] X.env)).all (λx=>x.1.isSome)
   && decide ((e::es).length+([]:List Keyword).length+(if ([]:List Keyword).isEmpty then 0 else 1)<30))=true:=by rfl) (hline:(apos.endLine==cpos.line)=true:=by rfl) (hs:starEach (e::es) X.env=(false,eval e X.env)::starEach es X.env:=by rfl) (hplain:(backTo cpos (starEach es X.env)).any (·.1)=false:=by rfl) :
  PE X (.Call (.Attribute o name apos) (e::es) [] cpos) (tBM X.K T r to t):=by
 intro pins s σ H Q I h;refine wpAny_Call_method_late hbase hfew hline rfl (thn (ho pins s σ H _ I h) λv s1 ⟨x,H1,I1,r1,ty,q1⟩=>?_);obtain ⟨h1,h2⟩:=Zqt I1 r1 ty;refine ⟨T,id,pa,slot,hty,h1,h2,?_⟩;have hA:=ha cpos pins s1 σ H1 _ I1 q1;rw [hs] at hA ⊢;refine Calls.callWith_builtin (by show (false||(backTo cpos (starEach es X.env)).any (·.1))=false;rw [hplain]<;>rfl) (Calls.evalArgs_plain ?_);exact thn hA λus s2 ⟨vs,H2,I2,r2,q2⟩=>hm pins s2 σ H2 x vs v us Q I2 r1 r2 q2
end
def MtM(X:Cx)(id:String)(r:V->List V->Hp->VK->Prop):Prop :=
 ∀pins s σ H x xs v us Q,Inv X pins σ H s->RelV x v->Vals xs us->r x xs H Q ->
  wpAny (model X.prog X.w) X.A (call (.builtin id) (v::us)) (EP X pins σ Q) X.xe s
def Vals.one:∀{x:V} {us:List Value},Vals [x] us->∃u,us=[u]/\RelV x u
 | _,_,.cons r .nil=>⟨_,rfl,r⟩
def Vals.rep(h:Vals xs us):∀k,Vals (List.replicate k xs).flatten (List.replicate k us).flatten
 | 0=>.nil
 | k+1=>by
  rw [Vbk,Vbk,Vbl,Vbl];exact Vals.append h (Vals.rep h k)
def foldl_rep(its:List Value):∀k acc,
  List.foldl (λx1 x2=>x1++x2) acc.toArray (List.replicate k its.toArray)=(acc++(List.replicate k its).flatten).toArray
 | 0,acc=>by simp
 | k+1,acc=>by
  have e:acc.toArray++its.toArray=(acc++its).toArray:=by simp
  have e2:(acc++its)++(List.replicate k its).flatten=acc++(List.replicate (k+1) its).flatten:=by
   rw [Vbk,Vbl,List.append_assoc]
  rw [<-e2,<-foldl_rep its k (acc++its),<-e,Vbk,List.foldl_cons]
section
variable{X:Cx}{pins:List (Addr×Obj)}{σ:St}{H:Hp}{s:Shared}{l b:Addr}{xs ys zs:List V}
def Inv.lset{its its':List Value}(I:Inv X pins σ H s)(hH:H l=some (.lst xs))(e:s.heap.get? l=some { cls:=.type "list", data:=.seq its.toArray n })(hf:f its.toArray=its'.toArray)(hv:Vals ys its')(hz:ys.length<=sizeLine) :
  Inv X pins σ (upd H l (.lst ys)) { s with heap:=s.heap.update l (Obj.mapSeq f),toks:=t' }:=by
 have q:=PySem.IsL.update e f;rw [hf] at q;refine I.write (x:=l) (e:=l) (by rw [hH];exact trivial) (.inl rfl) (λb' u hb hu=>(Vbi s.heap (Obj.mapSeq f) (Ne.symm hb)).trans hu) ⟨_,q⟩ ?_;exact ⟨hz,its',_,hv,q⟩
def Inv.lnew(I:Inv X pins σ H s)(hv:Vals ys its)(hz:ys.length<=sizeLine) :
  Inv X pins σ (upd H s.heap.objs.size (.lst ys)) { s with heap:=s.heap.push { cls:=.type "list", data:=.seq its.toArray },toks:=t' } :=
 I.laid (λ_ _ q=>VaF _ q) (VaH _) ⟨hz,its,0,hv,VaG _ rfl⟩
def Inv.fresh(I:Inv X pins σ H s):H s.heap.objs.size=none:=I.hok.fresh (VaH _)
def Inv.lstM(I:Inv X pins σ H s)(hH:H l=some (.lst xs)):xs.length<=sizeLine/\∃its n,Vals xs its/\xs.length=its.length/\s.heap.get? l=some { cls:=.type "list", data:=.seq its.toArray n }:=by
 obtain ⟨z,its,n,r,e⟩:=I.hok l _ hH;exact ⟨z,its,n,r,r.length,e⟩
def ZiO(h:n<=sizeLine):Builtin.List.listTooLong n=false:=by
 unfold Builtin.List.listTooLong;exact Vaa (by omega)
end
section
variable{X:Cx}
def Zc9:V->List V->Hp->VK->Prop:=λx vs H Q=>∃l xs y,x=.ref l/\vs=[y]/\H l=some (.lst xs)/\xs.length<sizeLine/\Q .non (upd H l (.lst (xs++[y])))
def Zhr:MtM X "list.append" Zc9:=by
 intro pins s σ H x vs v us Q I rx rv h;obtain ⟨l,xs,y,rfl,rfl,hH,hz,q⟩:=h;cases rx;obtain ⟨u,rfl,ru⟩:=rv.one;obtain ⟨z,its,n,r,hl,e⟩:=I.lstM hH;refine call_meets F.slot_list_append ⟨_,e,rfl⟩ F.entry_list_append (F.args_list_append_2 _ _) (PySem.list_append l its.toArray n u (by rw [Va7];omega)) ⟨e,?_⟩;refine ⟨.non,_,I.lset (its':=its++[u]) hH e (by simp) (r.append (.cons ru .nil)) ?_,rfl,q⟩;rw [Va5,List.length_singleton];omega
def rRep:R2:=λx y H Q=>∃l k xs,x=.ref l/\y=.int k/\H l=some (.lst xs)/\-(2^63)<=k/\k<2^63/\xs.length*k.toNat<=sizeLine /\
 ∀p,H p=none->Q (.ref p) (upd H p (.lst (List.replicate k.toNat xs).flatten))
def len_rep(xs:List α)(k:Nat):(List.replicate k xs).flatten.length=k*xs.length:=by
 induction k with
 | zero=>simp
 | succ k ih=>rw [Vbk,Vbl,Va5,ih,Nat.succ_mul,Nat.add_comm]
def ZnO:OpR X (binaryOp .Mult) rRep:=by
 intro pins s σ H x y v u Q I rx ry h;obtain ⟨l,k,xs,rfl,rfl,hH,h1,h2,hz,q⟩:=h;cases rx;obtain ⟨t,rfl⟩:=ry;obtain ⟨z,its,n,r,hl,e⟩:=I.lstM hH;have hlen:its.toArray.size*k.toNat<=sizeLine:=by rw [Va7,<-hl];exact hz
 have hcap:¬its.toArray.size*k.toNat>(2^63 - 1)/8:=by
  have:(sizeLine:Nat)<=(2^63 - 1)/8:=by decide
  omega
 have hfit:¬(!Builtin.List.listFitsIndex k)=true:=by
  rw [fitsIndex_both h1 h2];exact VaC
 have hlong:¬Builtin.List.listTooLong (its.toArray.size*k.toNat)=true:=by
  rw [ZiO hlen];exact VaC
 have hnew:List.foldl (λx1 x2=>x1++x2) #[] (List.replicate (if its.toArray.isEmpty=true then 0 else k.toNat) its.toArray)=(List.replicate k.toNat its).flatten.toArray:=by
  have f0:∀m:Nat,List.foldl (λx1 x2=>x1++x2) #[] (List.replicate m its.toArray)=(List.replicate m its).flatten.toArray:=λm=>by
   have:=foldl_rep its m [];rw [List.nil_append] at this;exact this
  rw [f0];cases its with
  | nil=>simp
  | cons a r'=>rw [if_neg (by simp)]
 refine wpAny_binaryOp_repeat_ref (T := "list") (U := "int") (by decide) ⟨_,e,rfl⟩ (λs'=>typeIs_int s' k t) noFill_list_mul F.fills_int_mul F.slot_int_rmul repeat_list F.slot_int_index.lookup
  (call_meets F.slot_int_rmul (typeIs_int s k t) F.entry_int_rmul (F.args_int_rmul_2 _ _) (int___rmul___int_list k t l its.toArray n)
   ⟨e,rfl,⟨_,e,rfl⟩,call_meets F.slot_list_mul ⟨_,e,rfl⟩ F.entry_list_mul (F.args_list_mul_2 _ _) (AutoListH.list___mul___list_int_3 l its.toArray n k t hfit hcap hlong) ⟨e,?_⟩⟩)
 rw [hnew];exact ⟨.ref _,_,I.lnew (t':=s.toks) (r.rep k.toNat) (by rw [len_rep,Nat.mul_comm];exact hz),rfl,q _ I.fresh⟩
end
section
variable{prog:Program}{w:World}{A:Around}{E:Value->Shared->Prop}{s:Shared}
set_option maxRecDepth 100000 in
end
end L2
namespace Att
open PySem.W PySem.Calls
def Zfp:∀ns vs,WellAll P h vs (ns.map WData.int)->IntsAre vs ns:=by
 intro ns
 induction ns with
 | nil =>
  intro vs w;rw [List.map_nil] at w;cases w;exact .nil
 | cons n ns ih =>
  intro vs w;rw [VaN] at w;cases w with
  | cons a b =>
   cases a;exact .cons _ _ (ih _ b)
def Zlw{l:OpenLaw}(hn:l.most=some n){h:Heap}(hpre:l.row.toRowW.claim.pre args=true)(hwl:WellAll P h vals args) :
  ∃a vs ns,vals=[Value.ref a]/\args=[WData.list (ns.map WData.int)]/\h.get? a=some { cls:=.type "list", data:=.seq vs.toArray }/\IntsAre vs ns/\ns.length<=n:=by
 have hsh:WShape.hasAll [] args [.list .int]=true:=(pre_splitW hpre).1;have hc:l.pre.holds [] { args:=args }=true:=(pre_splitW hpre).2;obtain ⟨d,r,rfl,h1,h2⟩:=hasAllW_cons hsh;obtain rfl:=hasAllW_nil h2;obtain ⟨xs,rfl,h3⟩:=hasW_list h1;obtain ⟨ns,rfl⟩:=items_int h3;have hlen:ns.length<=n:=by
  unfold OpenLaw.pre at hc;have h4:(WTm.not (.lt (.lit (.int (n:Int))) (.len (.arg 0)))).holds [] { args:=[.list (ns.map .int)] }=true:=by
   have h4:=(holds_andW hc).1;rw [hn] at h4;exact h4
  have h5:=condW_of h4 (w_not (w_lt w_lit (w_len_list (w_arg rfl))));rw [VaO] at h5;refine Nat.le_of_not_lt λq=>?_;have q':(n:Int)<((ns.length:Nat):Int):=by omega
  first
   | (rw [Vbm q'] at h5;exact absurd h5 (by decide))
   | (simp at h5;omega)
 cases hwl with
 | cons w1 w2 =>
  cases w2;cases w1 with
  | list ho hall=>exact ⟨_,_,ns,rfl,rfl,ho,Zfp ns _ hall,hlen⟩
def ZkK(l:OpenLaw)(args:List WData):l.row.toRowW.claim.post args (.bool true) args=true :=
 postW_of (r:=l.row.toRowW) (X:=(true==true))
  (show WShape.has [] (.bool true) .bool=true by first | rfl | decide | simp [WShape.has,WShape.arms,WShape.armsAll])
  (show (WTm.eq .res (.lit (.bool true))).value [] { args:=args,res:=some (.bool true),after:=args }=some (.bool (true==true)) from w_eq_bool (w_res rfl) w_lit) rfl
def ZiK{l:OpenLaw}{d:DefRec}(hn:l.most=some n)(hdf:d.params.defaults=[]) (call:∀(w:World) (s₀ s₁:Shared) (mg mb:Str->Option Value) (fa:Addr) (o:Obj) (pm cd doc:Value) (a:Addr) (vs:List Value) (ns:List Int),
   Ground q loose [] XP w s₀ mg mb s₁.heap->YP w s₁.heap ->
   s₁.heap.get? fa=some o->o.data=.func (docDef d.name d.params d.body d.scope pm cd doc)->s₁.heap.CodeRec cd d.name->mg d.name=some (.ref fa) ->
   s₁.heap.get? a=some { cls:=.type "list", data:=.seq vs.toArray }->IntsAre vs ns->ns.length<=n->s₁.gens=#[] ->
   codeAny (model l.prog w) callerA (.call (.ref fa) ⟨[.ref a],[]⟩) (λr s'=>r=.ok (.ret (.bool true))/\OldK s₁.heap s'.heap/\s'.os=s₁.os/\AllBare s'.gens) s₁) :
  WalkO q loose XP YP l.row.toRowW d [] (λf vs=>PySem.call f vs):=by
 intro w s₀ s₁ mg mb G Y fa o pm cd doc dV kV ho hd hcd hD hmg hg args vals as hpre hlay hrd hwl hlo;obtain rfl:dV=.none:=Dflts.none hD hdf;obtain rfl:kV=.none:=Dflts.noKw hD;obtain ⟨a,vs,ns,rfl,rfl,hobj,hints,hlen⟩:=Zlw hn hpre hwl;refine enter_call (VaV (call w s₀ s₁ mg mb fa o pm cd doc a vs ns G Y ho (fd_plain hd) hcd hmg hobj hints hlen hg) λr s' hq=>?_);obtain ⟨rfl,h2,h3,h4⟩:=hq;exact ⟨.inl ⟨.bool true,.bool true,[],rfl,λ_=>rfl,.bool true,ZkK l _,λ_=>⟨List.Pairwise.nil,λ_ hm=>(nomatch hm)⟩⟩,h2,h3,h4⟩
end Att
namespace L2
def ZfN:∀{vs:List Value} {ns:List Int},IntsAre vs ns->Vals (ns.map V.int) vs
 | _,_,.nil=>.nil
 | _,_,.cons n t h=>.cons ⟨t,rfl⟩ (ZfN h)
def Only(H:Hp):Prop:=∀b,H b=none\/∃o xs,H b=some (.frz o (.lst xs))
abbrev E0:XK:=λ_ _ _=>False
structure Fun(K:W.Frag)(x qual:Str)(st:Stmt)(f:Addr)(fd:FuncData):Prop where
 ex:∃(oc:Value) (od:Option Addr) (kV doc pm:Value) (an:Option Addr) (cdv ct:Value) (osl:Array (Option Value)),
  fd=W.fnOf x qual (ZaY st) (Zav st) (Zac st) .none kV doc pm an cdv ct/\K.lookup f=some ⟨oc,od,.func fd,osl⟩/\W.codeIn K cdv qual=true
 kp:W.keepIn K (.ref f)=true
section
variable{P:Program}{w:World}{K:W.Frag}{mg:Str->Option Value}{base:Heap}
def Fun.binds{x qual:Str}{st:Stmt}{f:Addr}{fd:FuncData}{ps:List Str}(F:Fun K x qual st f fd)(h:∀(kV doc pm:Value) (an:Option Addr) (cdv ct:Value) (us:List Value),us.length=ps.length->bindArgs (W.fnOf x qual (ZaY st) (Zav st) (Zac st) .none kV doc pm an cdv ct) ⟨us,[]⟩=pure (ps.zip us)):Binds K fd ps []:=by
 obtain ⟨oc,od,kV,doc,pm,an,cdv,ct,osl,rfl,lk,hcd⟩:=F.ex;exact .all (h kV doc pm an cdv ct)
def ZcQ{x qual:Str}{st:Stmt}{f:Addr}{oc:Value}{od an:Option Addr}{osl:Array (Option Value)}{kV doc pm cdv ct:Value}(l:K.lookup f=some ⟨oc,od,.func (W.fnOf x qual (ZaY st) (Zav st) (Zac st) .none kV doc pm an cdv ct),osl⟩)(c:W.codeIn K cdv qual=true)(k:W.keepIn K (.ref f)=true):Fun K x qual st f (W.fnOf x qual (ZaY st) (Zav st) (Zac st) .none kV doc pm an cdv ct):=⟨⟨oc,od,kV,doc,pm,an,cdv,ct,osl,rfl,l,c⟩,k⟩
end
def Zlz(h:n<=1000):n<sizeLine:=Vbn h (by decide)
def Same(H H':Hp):Prop:=∀b o,H b=some o->H' b=some o
def Same.refl(H):Same H H:=λ_ _ h=>h
def Same.trans(a:Same H H1)(b:Same H1 H2):Same H H2:=λc o h=>b c o (a c o h)
def Same.free(e:Same H H')(h:H' l=Option.none):H l=Option.none:=by
 cases q:H l with
 | none=>rfl
 | some o =>
  rw [e l o q] at h;cases h
def Same.seq{K:W.Frag}{H H':Hp}{a:Addr}{xs:List V}(e:Same H H')(h:SqL K H a xs):SqL K H' a xs:=by
 rcases h with (h | ⟨o,h⟩) | h
 ·exact .inl (.inl (e _ _ h))
 ·exact .inl (.inr ⟨o,e _ _ h⟩)
 ·exact .inr h
end L2
section
variable{X:L2.Cx}{σ:L2.St}{H:L2.Hp}{s:PySem.Shared}{pins:List (PySem.Addr×PySem.Obj)}{us:List PySem.Value}{pos spos cpos pos':PySem.Pos}{A:PySem.Around}{i n k j:Nat}{e:PySem.Expr}{w:PySem.World}{P:PySem.Program}{K:W.Frag}{x:PySem.Str}{xs:List L2.V}{mg:PySem.Str->Option PySem.Value}{base:PySem.Heap}{ps N:List PySem.Str}{es:List PySem.Expr}{te:L2.TE}{fd:PySem.FuncData}
namespace L2
section
def Zn6:OpR X (binaryOp .Mult) (rI IntMulOk λi j=>.int (i*j)):=opI λ_ _ _ _ _ _ _ hc q=>mul_int q hc
def ZpY(_ j:Int):Prop:=j≠0/\j.natAbs.log2<9000
def ZmC:OpR X (binaryOp .FloorDiv) (rI ZpY λi j=>.int (i.fdiv j)):=opI λ_ _ _ _ _ _ _ hc q=>floordiv_int hc.1 q (.inl (PyProof.noPylong_of_log2 hc.2))
def Zqg{n:String}(hg:Gl X x)(hm:X.mg x=none)(hv:bootBuiltins x=some (.type n))(hn:x ≠ "__name__" := by decide)(hd:(x==("__debug__" : Str))=false:=by decide):PE X (.Name x pos) (tC (.ty n)) :=
 Zog hg hm hv rfl hn hd
end
def ZrU:bootBuiltins "abs"=some (.builtin "abs"):=by decide +kernel
def ZiZ:bootBuiltins "all"=some (.builtin "all"):=by decide +kernel
def Zal:bootBuiltins "isinstance"=some (.builtin "isinstance"):=by decide +kernel
def Zgi:bootBuiltins "len"=some (.builtin "len"):=by decide +kernel
def Znb:bootBuiltins "max"=some (.builtin "max"):=by decide +kernel
def Znf:bootBuiltins "min"=some (.builtin "min"):=by decide +kernel
def Zle:bootBuiltins "sorted"=some (.builtin "sorted"):=by decide +kernel
def Zrw:bootBuiltins "int"=some (.type "int"):=by decide +kernel
def ZnV:bootBuiltins "bool"=some (.type "bool"):=by decide +kernel
def ZgQ:bootBuiltins "tuple"=some (.type "tuple"):=by decide +kernel
def Zh9:bootBuiltins "list"=some (.type "list"):=by decide +kernel
def Zr6:bootBuiltins "str"=some (.type "str"):=by decide +kernel
def ZrM:bootBuiltins "zip"=some (.type "zip"):=by decide +kernel
def Zhw:bootBuiltins "enumerate"=some (.type "enumerate"):=by decide +kernel
def Za4:bootBuiltins "ValueError"=some (.type "ValueError"):=by decide +kernel
def ZlZ(K)(t):W.kitOne K t t=some true:=by
 unfold W.kitOne;rw [if_pos (beq_self_eq_true t)]
def ZrX(K)(hne:(Value.type T==Value.type U)=false)(hm:W.kitMeta U=true)(h:(fastBuiltinMro T).map (·.contains (Value.type U))=some b):W.kitOne K (.type T) (.type U)=some b:=by
 unfold W.kitOne;rw [if_neg (by rw [hne];exact VaC)];show (if W.kitMeta U=true then _ else none)=_
 rw [if_pos hm];exact h
mutual
inductive DV(K:W.Frag)(H:Hp):V->PyData->Prop
 | non:DV K H .non .none
 | bl (b:Bool):DV K H (.bl b) (.bool b)
 | int (i:Int):DV K H (.int i) (.int i)
 | str (x:Str):DV K H (.str x) (.str x)
 | tup {a:Addr} {xs:List V} {ds:List PyData} (h:SqT K H a xs) (r:DVs K H xs ds):DV K H (.ref a) (.tuple ds)
 | lst {a:Addr} {xs:List V} {ds:List PyData} (h:SqL K H a xs) (r:DVs K H xs ds):DV K H (.ref a) (.list ds)
inductive DVs(K:W.Frag)(H:Hp):List V->List PyData->Prop
 | nil:DVs K H [] []
 | cons {x:V} {xs:List V} {d:PyData} {ds:List PyData} (h:DV K H x d) (r:DVs K H xs ds):DVs K H (x::xs) (d::ds)
end
section
mutual
def DV.reads(I:Inv X pins σ H s):∀{x:V} {d:PyData} {u:Value},DV X.K H x d->RelV x u->∃as,Reads s.heap u d as
 | _,_,_,.non,r=>by cases r;exact ⟨_,.none⟩
 | _,_,_,.bl b,r=>by cases r;exact ⟨_,.bool b⟩
 | _,_,_,.int i,r=>by obtain ⟨t,rfl⟩:=r;exact ⟨_,.int i t⟩
 | _,_,_,.str i,r=>by obtain ⟨t,rfl⟩:=r;exact ⟨_,.str i t⟩
 | _,_,_,.tup h q,r=>by
  cases r;obtain ⟨its,rv,⟨o,h1,h2,n,h3⟩,_⟩:=I.tuple h;obtain ⟨as,ra⟩:=DVs.reads I q rv;exact ⟨_,.tuple h1 h2 h3 (by simpa using ra)⟩
 | _,_,_,.lst h q,r=>by
  cases r;obtain ⟨its,rv,pl,_⟩:=I.list h;obtain ⟨o,h1,h2,n,h3⟩:=pl.isList;obtain ⟨as,ra⟩:=DVs.reads I q rv;exact ⟨_,.list h1 h2 h3 (by simpa using ra)⟩
def DVs.reads(I:Inv X pins σ H s):∀{xs:List V} {ds:List PyData} {us:List Value},DVs X.K H xs ds->Vals xs us->∃as,ReadsAll s.heap us ds as
 | _,_,_,.nil,r=>by cases r;exact ⟨_,.nil⟩
 | _,_,_,.cons h q,r=>by
  cases r with
  | cons r1 r2 =>
   obtain ⟨as,ra⟩:=DV.reads I h r1;obtain ⟨bs,rb⟩:=DVs.reads I q r2;exact ⟨_,.cons ra rb⟩
end
end
section
def rEqD(K:W.Frag)(f:Bool->Bool):R2:=λx y H Q=>∃dx dy,DV K H x dx/\DV K H y dy/\dx.canLay0=true/\dy.canLay0=true/\dx.depth<=60/\Q (.bl (f (PyData.eqv dx dy))) H
def ZnL(hu:X.A.units+64<cLine):OpR X (compareOp .Eq) (rEqD X.K id):=by
 intro pins s σ H x y v u Q I rx ry h;obtain ⟨dx,dy,h1,h2,h3,h4,h5,q⟩:=h;obtain ⟨as,ra⟩:=h1.reads I rx;obtain ⟨bs,rb⟩:=h2.reads I ry;exact PySem.SeqAt.compareEq_reads ra rb h3 h4 (by omega) (Zi9 I q rfl)
def Zng(hu:X.A.units+64<cLine):OpR X (compareOp .NotEq) (rEqD X.K not):=by
 intro pins s σ H x y v u Q I rx ry h;obtain ⟨dx,dy,h1,h2,h3,h4,h5,q⟩:=h;obtain ⟨as,ra⟩:=h1.reads I rx;obtain ⟨bs,rb⟩:=h2.reads I ry;exact PySem.SeqAt.compareNe_reads ra rb h3 h4 (by omega) (Zi9 I q rfl)
end
structure Def(K:W.Frag)(mg:Str->Option Value)(x:Str)(st:Stmt)(ps:List Str):Prop where
 ex:∃(f:Addr) (fd:FuncData),Fun K x x st f fd/\Binds K fd ps []/\mg x=some (.ref f)
def ZaA(h:H p=none)(o):Same H (upd H p o):=λb u q=>by rw [Zad (Zae q h)];exact q
end L2
namespace L2
def Zne(ts:List Expr)(env:Env):Sem Bool:=match ts with
 | []=>pure true
 | c::_=>isTrue c env (eval c env)
def ZhI(elt target iter)(scope)(pos)(it acc)(env) :
  compTurn (.ListComp elt [⟨target,iter,[],0⟩] scope pos) 0 it acc env=(standAt iter.pos >>= λ_=>pyNext it >>= λr=>match r with
   | none=>pure (.done .next)
   | some v=>letOwnedTupleGo target it v >>= λ_=>assign target env v >>= λ_ =>
    (eval elt env >>= λx=>call (.builtin "list.append") [acc,x] >>= λ_=>pure ()) >>= λ_ =>
     again (.compLoop (.ListComp elt [⟨target,iter,[],0⟩] scope pos) 0 it acc env)):=by rfl
def Zh2(elt target iter c)(scope)(pos)(it acc)(env) :
  compTurn (.ListComp elt [⟨target,iter,[c],0⟩] scope pos) 0 it acc env=(standAt iter.pos >>= λ_=>pyNext it >>= λr=>match r with
   | none=>pure (.done .next)
   | some v=>letOwnedTupleGo target it v >>= λ_=>assign target env v >>= λ_ =>
    (forIn [c] true λ(c:Expr) (s:Bool)=>if s=true then (isTrue c env (eval c env) >>= λok=>pure (ForInStep.yield ok)) else pure (ForInStep.yield s)) >>= λs=>if s=true then
     (eval elt env >>= λx=>call (.builtin "list.append") [acc,x] >>= λ_=>pure ()) >>= λ_ =>
      again (.compLoop (.ListComp elt [⟨target,iter,[c],0⟩] scope pos) 0 it acc env)
     else again (.compLoop (.ListComp elt [⟨target,iter,[c],0⟩] scope pos) 0 it acc env)):=by rfl
def Zhg(hts:ts.length<=1)(I:Nat->Shared->Prop) (turn:∀n s,I n s->wpAny (model prog w) A (pyNext it) (λr s₁=>match r with
   | none=>R (.ok .next) s₁
   | some v=>wpAny (model prog w) A (letOwnedTupleGo target it v) (λ_ s₁'=>wpAny (model prog w) A (assign target env v) (λ_ s₂=>wpAny (model prog w) A (Zne ts env) (λb s₂'=>if b=true then wpAny (model prog w) A (eval elt env) (λx s₃ =>
     wpAny (model prog w) A (call (.builtin "list.append") [acc,x]) (λ_ s₄=>∃m,m<n/\I m s₄) (notedBy (model prog w) A env λe s'=>R (.error e) s') s₃)
     (notedBy (model prog w) A env λe s'=>R (.error e) s') s₂' else ∃m,m<n/\I m s₂') (notedBy (model prog w) A env λe s'=>R (.error e) s') s₂) (notedBy (model prog w) A env λe s'=>R (.error e) s') s₁') (notedBy (model prog w) A env λe s'=>R (.error e) s') s₁) (notedBy (model prog w) A env λe s'=>R (.error e) s') s) (n:Nat) (h:I n s) :
  codeAny (model prog w) A (.compLoop (.ListComp elt [⟨target,iter,ts,0⟩] scope pos) 0 it acc env) R s:=by
 refine codeAny_loop rfl I (λn s hI=>?_) n h;show wpAny _ _ ((compTurn (.ListComp elt [⟨target,iter,ts,0⟩] scope pos) 0 it acc env).onRaise (λx=>do noteFrame x env;theTreesLotGoes x)) _ _ s
 refine wpAny_noted ?_
 match ts,hts with
 | [],_ =>
  rw [ZhI];refine Vaz (wpAny_standAt (Vaz (Vav (turn n s hI) (λr s₁ h₁=>?_) λ_ _ h'=>h')));cases r with
  | none=>exact VaE h₁
  | some v =>
   refine Vaz (Vav h₁ (λ_ s₁' h₁'=>?_) λ_ _ h'=>h');refine Vaz (Vav h₁' (λ_ s₂ h₂=>?_) λ_ _ h'=>h');show wpAny _ _ ((pure true:Sem Bool) >>= λb=>if b=true then ((eval elt env >>= λx=>call (.builtin "list.append") [acc,x] >>= λ_=>pure ()) >>= λ_=>again (.compLoop (.ListComp elt [⟨target,iter,[],0⟩] scope pos) 0 it acc env)) else again (.compLoop (.ListComp elt [⟨target,iter,[],0⟩] scope pos) 0 it acc env)) _ _ s₂
   refine Vaz (Vav h₂ (λb s₂' h₂'=>?_) λ_ _ h'=>h');cases b with
   | true =>
    rw [if_pos rfl] at h₂' ⊢;exact Vaz (Vaz (Vav h₂' (λx s₃ h₃=>Vaz (Vav h₃ (λ_ s₄ h₄=>VaE (VaE ⟨rfl,h₄⟩)) λ_ _ h'=>h')) λ_ _ h'=>h'))
   | false =>
    rw [if_neg VaC] at h₂' ⊢;exact VaE ⟨rfl,h₂'⟩
 | [c],_ =>
  rw [Zh2];refine Vaz (wpAny_standAt (Vaz (Vav (turn n s hI) (λr s₁ h₁=>?_) λ_ _ h'=>h')));cases r with
  | none=>exact VaE h₁
  | some v =>
   refine Vaz (Vav h₁ (λ_ s₁' h₁'=>?_) λ_ _ h'=>h');refine Vaz (Vav h₁' (λ_ s₂ h₂=>?_) λ_ _ h'=>h');rw [Vbo];refine Vaz (Vaz ?_);rw [if_pos rfl];refine Vaz (Vav h₂ (λb s₂' h₂'=>VaE ?_) λ_ _ h'=>h');show wpAny _ _ (forIn [] b _) _ _ _;rw [Vbp];refine VaE ?_;cases b with
   | true =>
    rw [if_pos rfl] at h₂' ⊢;exact Vaz (Vaz (Vav h₂' (λx s₃ h₃=>Vaz (Vav h₃ (λ_ s₄ h₄=>VaE (VaE ⟨rfl,h₄⟩)) λ_ _ h'=>h')) λ_ _ h'=>h'))
   | false =>
    rw [if_neg VaC] at h₂' ⊢;exact VaE ⟨rfl,h₂'⟩
def ZfK:∀names h acc n c,(n,c)∈PySem.cellsFrom h.objs.size names acc->(n,c)∈acc\/((PySem.pushCells h names).IsCell c none/\h.objs.size<=c)
 | [],_,_,_,_,hm=>.inl hm
 | (name,kind)::r,h,acc,n,c,hm=>by
  unfold PySem.cellsFrom at hm;unfold PySem.pushCells;split at hm
  ·rename_i hk;rw [if_pos hk];have hm':(n,c)∈PySem.cellsFrom (h.push { cls:=.type "cell", data:=.cell none }).objs.size r ((name,h.objs.size)::acc):=by rw [VaP];exact hm
   rcases ZfK r (h.push { cls:=.type "cell", data:=.cell none }) ((name,h.objs.size)::acc) n c hm' with z | ⟨z1,z2⟩
   ·rcases Vaq.mp z with e | z
    ·cases e;exact .inr ⟨⟨_,PySem.pushCells_keeps r _ _ _ (VaG _ rfl),rfl⟩,VaH _⟩
    ·exact .inl z
   ·rw [VaP] at z2;exact .inr ⟨z1,by omega⟩
  ·rename_i hk;rw [if_neg hk];exact ZfK r h acc n c hm
def Zfj:∀names k acc,(∀n c,(n,c)∈acc->c<k)->(∀n n' c,(n,c)∈acc->(n',c)∈acc->n=n')->∀n n' c,(n,c)∈PySem.cellsFrom k names acc->(n',c)∈PySem.cellsFrom k names acc->n=n'
 | [],_,_,_,hi,n,n',c,h1,h2=>hi n n' c h1 h2
 | (name,kind)::r,k,acc,hl,hi,n,n',c,h1,h2=>by
  unfold PySem.cellsFrom at h1 h2;split at h1
  ·rename_i hk;rw [if_pos hk] at h2;refine Zfj r (k+1) ((name,k)::acc) (λm d hm=>?_) (λm m' d hm hm'=>?_) n n' c h1 h2
   ·rcases Vaq.mp hm with e | hm
    ·cases e;exact VaQ _
    ·exact Vbq (hl m d hm)
   ·rcases Vaq.mp hm with e | hm<;>rcases Vaq.mp hm' with e' | hm'
    ·cases e;cases e';rfl
    ·cases e;exact absurd (hl _ _ hm') (Vae _)
    ·cases e';exact absurd (hl _ _ hm) (Vae _)
    ·exact hi m m' d hm hm'
  ·rename_i hk;rw [if_neg hk] at h2;exact Zfj r k acc hl hi n n' c h1 h2
def Zfw:∀names k acc,(∀y∈names,y.2=.cell->y.1≠x)->(PySem.cellsFrom k names acc).lookup x=acc.lookup x
 | [],_,_,_=>rfl
 | (name,kind)::r,k,acc,h=>by
  unfold PySem.cellsFrom;split
  ·rename_i hk;rw [Zfw r (k+1) _ λy hy=>h y (Vao _ hy)];have ne:name≠x:=h (name,kind) Van (by simpa using hk);rw [Vbr,beq_false_of_ne (Ne.symm ne)]
  ·exact Zfw r k acc λy hy=>h y (Vao _ hy)
def ZeO:∀names k acc,((acc.lookup x).isSome=true\/(x,NameKind.cell)∈names)->((PySem.cellsFrom k names acc).lookup x).isSome=true
 | [],_,_,h=>by
  rcases h with h | h
  ·exact h
  ·cases h
 | (name,kind)::r,k,acc,h=>by
  unfold PySem.cellsFrom;split
  ·rename_i hk;refine ZeO r (k+1) _ ?_;by_cases e:x=name
   ·subst e;exact .inl (by simp)
   ·rcases h with h | h
    ·exact .inl (by rw [Vbr,beq_false_of_ne e];exact h)
    ·rcases Vaq.mp h with z | h
     ·cases z;exact absurd rfl e
     ·exact .inr h
  ·rename_i hk;refine ZeO r k acc ?_;rcases h with h | h
   ·exact .inl h
   ·rcases Vaq.mp h with z | h
    ·cases z;exact absurd rfl hk
    ·exact .inr h
def Zj9{M:Model}{E:Value->Shared->Prop}{scope:Scope}{globals:Addr}{closure:List (Str×Addr)}{qual:Str}{func:Option Addr}{code:Value}{outer:Env}{builtins:Addr}{Q:Env->Shared->Prop} (hQ:∀h',h'.Ns s.heap.objs.size (λ_=>none)->(∀b o,s.heap.get? b=some o->h'.get? b=some o)->(∀n c,(n,c)∈PySem.cellsFrom (s.heap.objs.size+1) scope.names closure->(n,c)∈closure\/(h'.IsCell c none/\s.heap.objs.size+1<=c)) ->
   Q (newEnv scope s.heap.objs.size globals (PySem.cellsFrom (s.heap.objs.size+1) scope.names closure) qual func code (some outer) builtins) { s with heap:=h' }) :
  wpAny M A (newFunctionEnv scope globals closure [] qual func code (some outer) builtins) Q E s:=by
 simp only [newFunctionEnv,Option.isSome_some,Va9];refine Vaz (wpAny_alloc ?_);refine Vaz (wpAny_layCells _ (λname kind cells=>by cases hkc:kind==NameKind.cell<;>simp [hkc]) _ _ _ _ ?_);rw [show ({ s with heap:=s.heap.push { cls:=.type "dict", data:=.dict #[] } }:Shared).heap.objs.size=s.heap.objs.size+1 from VaP ..]
 rw [Vbp];refine Vaz (VaE (VaE ?_));refine hQ _ ((Heap.Ns.new s.heap (.type "dict")).keeps (PySem.pushCells_keeps _ _)) (λb o e=>PySem.pushCells_keeps _ _ b o (VaF _ e)) λn c hm=>?_;have z:=ZfK scope.names (s.heap.push { cls:=.type "dict", data:=.dict #[] }) closure n c (by rw [VaP];exact hm);rwa [VaP] at z
def PTs(X:Cx)(ts:List Expr)(tt:TT):Prop :=
 ∀pins s σ H Q,Inv X pins σ H s->tt σ H Q->wpAny (model X.prog X.w) X.A (Zne ts X.env) (TP X pins σ Q) X.xe s
def tYes:TT:=λ_ H Q=>Q true H
def Zom:PTs X [] tYes:=λ_ _ _ H _ I h=>VaE ⟨H,I,h⟩
def Zol(h:PT X c tt):PTs X [c] tt:=h
def Zax(X:Cx)(N:List Str)(scope:Scope)(cl:List (Str×Addr))(C:Addr)(s₂:Shared)(H₂:Hp)(fp:List Addr)(pn:List (Addr×Obj)):Cx :=
 { X with N:=N,s₀:=s₂,H₀:=H₂,env:=compEnvC scope (PySem.cellsFrom (C+1) scope.names cl) C X.env,outer:=X.stack,ex:=fp,fn:=λx=>scope.names.lookup x==some .cell,pn:=pn,xe:=λ_ _=>False }
def ZjM(X:Cx)(sc:Scope)(cl:List (Str×Addr)):List (Str×Nat)->Prop
 | []=>True
 | p::r=>(X.N[p.2]?=some p.1/\X.env.scope.names.lookup p.1=some .cell/\(sc.names.lookup p.1=some .cell)/\∃c,cl.lookup p.1=some c/\X.env.cells.lookup p.1=some c)/\ZjM X sc cl r
def ZjM.get:∀{cap:List (Str×Nat)} {j:Nat} {p:Str×Nat},ZjM X sc cl cap->cap[j]?=some p ->
  X.N[p.2]?=some p.1/\X.env.scope.names.lookup p.1=some .cell/\(sc.names.lookup p.1=some .cell)/\∃c,cl.lookup p.1=some c/\X.env.cells.lookup p.1=some c
 | [],_,_,_,e=>by simp at e
 | _::_,0,_,h,e=>by simp at e;subst e;exact h.1
 | _::_,j+1,_,h,e=>ZjM.get (j:=j) h.2 (by simpa using e)
def capt(σ:St)(cap:List (Str×Nat)):St:=cap.map λp=>(σ[p.2]?).join
def st0(own:List Str)(σ:St)(cap:List (Str×Nat)):St:=List.replicate own.length none++capt σ cap
def ZcO(J:It)(g:TG)(tt:TT)(te:TE)(own:List Str)(cap:List (Str×Nat))(σ:St)(Q:VK)(H1:Hp):Prop:=∃W:Nat->Nat->List V->Hp->Prop,(∃m,W 0 m [] H1)/\∀i m acc H,W i m acc H->acc.length<=sizeLine /\
 ((J.stop i H/\∀p,H p=none->Q (.ref p) (upd H p (.lst acc))) \/
  (J.go i H/\∀x H',J.yld i H x H'->g x (st0 own σ cap) H' λσ2 H2=>σ2.drop own.length=capt σ cap/\tt σ2 H2 λb H3=>if b=true then te σ2 H3 λv H4=>acc.length<sizeLine/\∃m',m'<m/\W (i+1) m' (acc++[v]) H4 else ∃m',m'<m/\W (i+1) m' acc H3))
abbrev Fam(α:Type):=Addr->Shared->Hp->List Addr->List (Addr×Obj)->α
def ZcT(wi:TI)(g:Fam TG)(tt:Fam TT)(te:Fam TE)(own:List Str)(cap:List (Str×Nat)):TE:=λσ H Q=>wi σ H λJ H1=>∀C s H2 fp pn,ZcO J (g C s H2 fp pn) (tt C s H2 fp pn) (te C s H2 fp pn) own cap σ Q H1
structure Zb1(X:Cx)(own:List Str)(cap:List (Str×Nat))(scope:Scope)(cl:List (Str×Addr)):Prop where
 clos:closureFor scope X.env=pure cl
 kind:scope.kind=.function
 nown:∀x c,(x,c)∈cl->∀y∈scope.names,y.2=.cell->y.1≠x
 locals:∀y∈scope.names,y.2=.local->scope.names.lookup y.1=some .local
 sub:∀x c,(x,c)∈cl->X.env.cells.lookup x=some c
 has:∀k x,((relabel scope X.env).names.lookup x=some .cell\/(relabel scope X.env).names.lookup x=some .free)->∃c,(PySem.cellsFrom k scope.names cl).lookup x=some c
 cap:ZjM X (relabel scope X.env) cl cap
section
variable  {own:List Str} {cap:List (Str×Nat)} {scope:Scope} {cl:List (Str×Addr)}     {fp:List Addr} {tg:Expr} {J:It} {it:Addr} {tn:Nat->Heap->Prop}
def Zkw(e:(st0 own σ cap)[i]?=some (some v)):∃j p,i=own.length+j/\cap[j]?=some p/\σ[p.2]?=some (some v):=by
 unfold st0 at e;by_cases hi:i<own.length
 ·rw [Va2 (by simpa using hi),Va1,if_pos hi] at e;cases e
 ·rw [Va0 (by simpa using hi),Va6] at e;unfold capt at e;rw [Va3] at e;cases q:cap[i - own.length]? with
  | none=>rw [q] at e;cases e
  | some p =>
   rw [q] at e;have e':(σ[p.2]?).join=some v:=Vau e;refine ⟨i - own.length,p,by omega,q,?_⟩;cases z:σ[p.2]? with
   | none=>rw [z] at e';cases e'
   | some o=>rw [z] at e';have e2:o=some v:=e';rw [e2]
def Inv.comp(I:Inv X pins σ H s)(O:Zb1 X own cap scope cl)(T:Turn X.prog X.w X.K tg J fp it tn)(st:tn 0 s.heap)(f:∀b∈fp,FpOk X pins H b)(hC:s.heap.objs.size<=C)(k:∀b o,s.heap.get? b=some o->h'.get? b=some o)(hn:h'.Ns C m)(hx:∀n c,(n,c)∈PySem.cellsFrom (C+1) scope.names cl->(n,c)∈cl\/(h'.IsCell c none/\C+1<=c)) :
  Inv (Zax X (own++cap.map (·.1)) scope cl C s H fp (X.pn++pins)) [] (st0 own σ cap) H { s with heap:=h',toks:=t' }:=by
 have neC:∀{b:Addr} {o:Obj},s.heap.get? b=some o->b≠C:=λe=>Vaf (Vad (Vac e) hC);have cellC:∀x c,(x,c)∈cl->∃v,s.heap.IsCell c v:=λx c e=>I.cell x c (O.sub x c e);have ltC:∀x c,(x,c)∈cl->c<C+1:=λx c e=>by
  obtain ⟨v,o,ho,_⟩:=cellC x c e;exact Nat.lt_succ_of_le (Vak (Vad (Vac ho) hC))
 have nefp:∀b∈fp,b≠C:=λb hb=>by
  obtain ⟨o,e,_⟩:=T.obj _ _ st b hb;exact neC e
 refine ⟨⟨I.ok.mod,O.kind,I.ok.glob,I.ok.blt,hC,λx y c e1 e2=>Zfj scope.names (C+1) cl ltC (λn n' c h1 h2=>I.ok.inj n n' c (O.sub n c h1) (O.sub n' c h2)) x y c (VaZ e1) (VaZ e2),O.has (C+1),λx c e1 e2=>?_,I.ok.hd,I.ok.frames,.inl rfl,λb hb=>⟨nefp b hb,λx c e=>?_⟩,I.bs,Vaj I.ok.bsz I.sz,λb o e hb=>?_,λb hb z=>?_,I.stack,I.stkFree⟩,
  rfl,I.bare,Un.kept k,⟨m,hn,λi x v e1 e2 e3=>?_⟩,λx c e=>?_,?_,λx c e=>?_,λp hp=>?_,I.hok.kept k,?_⟩
 ·have e1':scope.names.lookup x=some .cell:=by simpa [Zax] using e1
  rcases hx x c (VaZ e2) with z | ⟨_,z⟩
  ·exact absurd rfl (O.nown x c z (x,.cell) (VaZ e1') rfl)
  ·exact Vaj hC (Nat.le_of_succ_le z)
 ·rcases hx x c (VaZ e) with z | ⟨_,z⟩
  ·exact (f b hb).2.2.2.2.1 x c (O.sub x c z)
  ·obtain ⟨o,eo,_⟩:=T.obj _ _ st b hb;exact VaD (Vad (Vad (Vac eo) hC) (Nat.le_of_succ_le z))
 ·rcases (f b hb).2.2.2.1 with z | z
  ·exact I.ok.noex b o e z
  ·exact absurd (Vad (Vac (I.ok.bs b o e).1) z) (Vae _)
 ·rcases Vaq.mp (I.stkSub b z) with q | q
  ·exact (f b hb).2.1 q
  ·exact (f b hb).2.2.1 q
 ·obtain ⟨j,p,rfl,hp,hs⟩:=Zkw e2;obtain ⟨c1,c2,c3,c,c4,c5⟩:=O.cap.get hp;have e1':(own++cap.map (·.1))[own.length+j]?=some x:=e1;rw [Va0 (Nat.le_add_right _ _),Nat.add_sub_cancel_left,Va3,hp] at e1';have ex:p.1=x:=Vau e1';subst ex;obtain ⟨m2,_,hl⟩:=I.loc;obtain ⟨u,r,l⟩:=hl p.2 p.1 v c1 hs (.inr (.inl c2));refine ⟨u,r,.inr ⟨.inl c3,c,(Zfw scope.names (C+1) cl λy hy hk=>O.nown p.1 c (VaZ c4) y hy hk).trans c4,?_⟩⟩;rcases l with ⟨z,_⟩ | ⟨_,c',z,⟨o,ho,hd⟩⟩
  ·have z':X.env.scope.names.lookup p.1=some .local:=z;rw [c2] at z';cases z'
  ·rw [c5] at z;cases z;exact ⟨o,k _ _ ho,hd⟩
 ·rcases hx x c (VaZ e) with z | ⟨z,_⟩
  ·obtain ⟨v,o,ho,hd⟩:=cellC x c z;exact ⟨v,o,k _ _ ho,hd⟩
  ·exact ⟨none,z⟩
 ·exact I.hok.fresh hC
 ·rcases hx x c (VaZ e) with z | ⟨_,z⟩
  ·exact I.freeC x c (O.sub x c z)
  ·exact I.hok.fresh (Vaj hC (Nat.le_of_succ_le z))
 ·have hp':p∈X.pn++pins:=by simpa [Zax] using hp
  obtain ⟨e,n,ne,nf,d⟩:=I.pin p hp';exact ⟨k _ _ e,n,neC e,λz=>(Vaq.mp (I.stkSub p.1 z)).elim ne nf,d⟩
 ·show (st0 own σ cap).length=(own++cap.map (·.1)).length;unfold st0 capt;simp
def Cx.Ok.rexe{xe:Value->Shared->Prop}(o:X.Ok):({ X with xe:=xe }:Cx).Ok:=by
 cases o;constructor<;>assumption
def Inv.rexe(I:Inv X pins σ H s):Inv { X with xe:=xe } pins σ H s:=by
 obtain ⟨ok,i1,i2,i3,i4,i5,i6,i7,i8,i9,i10⟩:=I;exact ⟨ok.rexe,i1,i2,i3,i4,i5,i6,i7,i8,i9,i10⟩
def Zat(xf:Addr->Shared->Hp->List Addr->Value->Shared->Prop)(X:Cx)(N:List Str)(scope:Scope)(cl:List (Str×Addr))(C:Addr)(s₂:Shared)(H₂:Hp)(fp:List Addr)(pn:List (Addr×Obj)):Cx:={ Zax X N scope cl C s₂ H₂ fp pn with xe:=xf C s₂ H₂ fp }
def ZhW{xf:Addr->Shared->Hp->List Addr->Value->Shared->Prop}{elt iter:Expr}{ts:List Expr}{gF:Fam TG}{ttF:Fam TT}{teF:Fam TE}{E:Value->Shared->Prop}(O:Zb1 X own cap scope cl)(hc:X.calm=true)(hgF:∀C s H fp pn,PG (Zat xf X (own++cap.map (·.1)) scope cl C s H fp pn) tg (gF C s H fp pn))(htF:∀C s H fp pn,PTs (Zat xf X (own++cap.map (·.1)) scope cl C s H fp pn) ts (ttF C s H fp pn))(heF:∀C s H fp pn,PE (Zat xf X (own++cap.map (·.1)) scope cl C s H fp pn) elt (teF C s H fp pn))(hts:ts.length<=1)(I2:Inv X pins σ H s)(T:Turn X.prog X.w X.K tg J fp it tn)(st2:tn 0 s.heap)(f2:∀b∈fp,FpOk X pins H b){Q:VK}(hw:∀C s H2 fp pn,ZcO J (gF C s H2 fp pn) (ttF C s H2 fp pn) (teF C s H2 fp pn) own cap σ Q H){R:Value->Addr->Result->Shared->Prop} (fin:∀(D C:Addr) (H':Hp) (s':Shared) (m:Str->Option Value),s.heap.objs.size<=C->s'.heap.Ns C m->H' C=none ->
   (∀h',Heap.SameBut C s'.heap h'->Inv X pins σ H' { s' with heap:=h' })->Q (.ref D) H'->R (.ref D) C (.ok .next) s') (hexc:∀(D C:Addr) (cells:List (Str×Addr)) (e:Value) (s':Shared),s.heap.objs.size<=C->xf C s H fp e s'->notedBy (model X.prog X.w) X.A (compEnvC scope cells C X.env) (λe s'=>R (.ref D) C (.error e) s') e s') :
  wpAny (model X.prog X.w) X.A (newList []) (λacc s₃=>wpAny (model X.prog X.w) X.A (newFunctionEnv scope X.env.globals cl [] X.env.qual none .none (some X.env)) (λcenv s₄ =>
   codeAny (model X.prog X.w) X.A (.compStart (.ListComp elt [⟨tg,iter,ts,0⟩] scope pos) 0 (.ref it) acc { cenv with scope:=relabel scope X.env }) (R acc cenv.locals) s₄) E s₃) E s:=by
 refine Vbg (Zj9 (λh₁ hns₁ hk₁ hx₁=>?_));dsimp only at hns₁ hk₁ hx₁ ⊢;generalize hHh:s.heap.push { cls:=.type "list", dict:=none,data:=.seq ([]:List Value).toArray }=Hh at hns₁ hk₁ hx₁ ⊢;have hCs:Hh.objs.size=s.heap.objs.size+1:=by rw [<-hHh,VaP]
 generalize hCC:Hh.objs.size=C at hns₁ hx₁ hCs ⊢;generalize hDD:s.heap.objs.size=D at hCs ⊢;have ltDC:D<C:=by omega
 have hDC:D≠C:=Vaf ltDC;have hsD:s.heap.objs.size<=D:=Nat.le_of_eq hDD;have hsC:s.heap.objs.size<=C:=by omega
 have ltS:∀{b:Addr} {o:Obj},s.heap.get? b=some o->b<D:=λe=>by rw [<-hDD];exact Vac e
 have old:∀b o,s.heap.get? b=some o->h₁.get? b=some o:=λb o e=>by
  refine hk₁ b o ?_;rw [<-hHh];exact VaF _ e
 have hD0:h₁.PlainList D #[]:=by
  have z:Hh.get? D=some { cls:=.type "list", dict:=none,data:=.seq ([]:List Value).toArray }:=by
   rw [<-hHh,<-hDD];exact VaG _ rfl
  exact ⟨_,hk₁ D _ z⟩
 obtain ⟨W,⟨m0,w0⟩,turn⟩:=hw C s H fp (X.pn++pins);have hg:=hgF C s H fp (X.pn++pins);have ht:=htF C s H fp (X.pn++pins);have he:=heF C s H fp (X.pn++pins);have I':Inv (Zat xf X (own++cap.map (·.1)) scope cl C s H fp (X.pn++pins)) [] (st0 own σ cap) H { s with heap:=h₁,toks:=s.toks }:=(I2.comp (t':=s.toks) O T st2 f2 hsC old hns₁ hx₁).rexe
 have cne:∀x c,(PySem.cellsFrom (C+1) scope.names cl).lookup x=some c->(∃v,s.heap.IsCell c v/\X.env.cells.lookup x=some c)\/C<c:=λx c e=>by
  rcases hx₁ x c (VaZ e) with z | ⟨_,z⟩
  ·obtain ⟨v,hv⟩:=I2.cell x c (O.sub x c z);exact .inl ⟨v,hv,O.sub x c z⟩
  ·exact .inr z
 have st':tn 0 h₁:=T.keep _ _ _ st2 λb hb o e=>old b o e;have nofr:∀{a:Addr},s.heap.objs.size<=a->a∉frs X.stack:=λ{a} ha z=>by
  rcases Vaq.mp (I2.stkSub a z) with q | q
  ·exact absurd (Vad I2.lt ha) (by rw [q];exact Vae _)
  ·exact I2.nofs ha q
 have ltfp:∀b∈fp,b<D:=λb hb=>by
  obtain ⟨o,e,_⟩:=T.obj _ _ st2 b hb;exact ltS e
 have fpk:∀{H3:Hp} {objD:Obj},(∀b∈fp,H3 b=none)->∀b∈fp,FpOk (Zat xf X (own++cap.map (·.1)) scope cl C s H fp (X.pn++pins)) [(D,objD)] H3 b:=λ{H3 objD} hn b hb=>by
  obtain ⟨_,f1,f3,f4,f5,f6⟩:=f2 b hb;have lb:=ltfp b hb;refine ⟨hn b hb,(Vaf (Vbs lb ltDC)),λz=>?_,.inl hb,λx c e=>?_,λp hp=>?_⟩
  ·rcases Vaq.mp (I2.stkSub b z) with q | q
   ·exact f1 q
   ·exact f3 q
  ·rcases cne x c e with ⟨_,_,z⟩ | z
   ·exact f5 x c z
   ·exact VaD (Vbs lb (Vbs ltDC z))
  ·rcases Var.mp hp with z | z
   ·exact f6 p z
   ·have z':p=(D,objD):=by simpa using z
    subst z';exact VaD lb
 have loop:∀s₃:Shared,s₃={ s with heap:=h₁ } ->
   codeAny (model X.prog X.w) X.A (.compLoop (.ListComp elt [⟨tg,iter,ts,0⟩] scope pos) 0 (.ref it) (.ref D) (compEnvC scope (PySem.cellsFrom (C+1) scope.names cl) C X.env)) (R (.ref D) C) s₃:=by
  rintro s₃ rfl
  refine Zhg hts (λn s'=>∃(i:Nat) (acc:List V) (its:List Value) (H':Hp),Inv (Zat xf X (own++cap.map (·.1)) scope cl C s H fp (X.pn++pins)) [] (st0 own σ cap) H' s'/\tn i s'.heap/\(∀b∈fp,H' b=none)/\H' D=none /\
   s'.heap.PlainList D its.toArray/\Vals acc its/\W i n acc H') ?_ m0 ⟨0,[],[],H,I',st',λb hb=>(f2 b hb).1,I2.hok.fresh hsD,hD0,.nil,w0⟩
  rintro n s3 ⟨i,acc,its,H3,I3,st3,fr3,nD,⟨nn,hD⟩,rv,w3⟩;obtain ⟨hlen,hturn⟩:=turn i n acc H3 w3;have lenV:=rv.length;have pinD:∀{s5:Shared} {H5:Hp},s5.heap.get? D=some { cls:=.type "list", data:=.seq its.toArray nn }->H5 D=none->∀p∈[(D,({ cls:=.type "list", data:=.seq its.toArray nn }:Obj))],s5.heap.get? p.1=some p.2/\H5 p.1=none/\p.1≠C/\p.1∉frs X.stack/\∀v,p.2.data≠.cell v:=by
   intro s5 H5 e1 e2 p hp;have z':p=(D,({ cls:=.type "list", data:=.seq its.toArray nn }:Obj)):=by simpa using hp
   subst z';exact ⟨e1,e2,hDC,nofr hsD,λv z=>by cases z⟩
  have I3p:Inv (Zat xf X (own++cap.map (·.1)) scope cl C s H fp (X.pn++pins)) [(D,{ cls:=.type "list", data:=.seq its.toArray nn })] (st0 own σ cap) H3 s3:=I3.pins_of (pinD hD nD);rcases hturn with ⟨stop,qn⟩ | ⟨go,step⟩
  ·refine Vav (T.done (Zat xf X (own++cap.map (·.1)) scope cl C s H fp (X.pn++pins)) rfl rfl rfl hc i _ s3 _ H3 (λ_ _=>False) I3p (fpk fr3) st3 stop) (λr s4 h4=>?_) (λ_ _ z=>z.elim);obtain ⟨hr,I4⟩:=h4;subst hr;obtain ⟨m4,hm4,_⟩:=I4.loc;have hD4:=(I4.pin (D,{ cls:=.type "list", data:=.seq its.toArray nn }) (VaK _ (by simp))).1;have nC:H3 C=none:=I4.free;refine fin D C (upd H3 D (.lst acc)) s4 m4 hsC hm4 (by rw [Zad (Ne.symm hDC)];exact nC) (λh' sb=>?_) (qn D nD);have kc:∀b o,b≠C->s4.heap.get? b=some o->h'.get? b=some o:=λb o hb e=>sb.extBut b o hb e;have neD:∀{b:Addr} {o:Obj},s.heap.get? b=some o->b≠D:=λe=>Vaf (ltS e);have neC:∀{b:Addr} {o:Obj},s.heap.get? b=some o->b≠C:=λe=>Vaf (Vbs (ltS e) ltDC);refine I2.call' (s':={ s4 with heap:=h' }) (ch:=fp) I4.os ⟨?_,?_,?_,?_,?_,?_,?_⟩ (λa o e=>?_) I4.bare (λb hb=>?_)
   ·exact λb o e n hb hx=>kc b o (neC e) (I4.base.keep b o e n hb hx)
   ·intro b o e n hb hx;obtain ⟨sl,q⟩:=I4.base.slot b o e n hb hx;exact ⟨sl,kc b _ (neC e) q⟩
   ·intro b o e n hx;rw [Zad (neD e)];exact I4.base.free b o e n hx
   ·intro b o e hx;obtain ⟨o',q⟩:=I4.base.there b o e hx;exact ⟨o',kc b _ (neC e) q⟩
   ·intro b xs e;have q:=I4.base.tups b xs e;rw [Zad (Zae q nD)];exact q
   ·intro b o u e;have q:=I4.base.frzs b o u e;rw [Zad (Zae q nD)];exact q
   ·intro b ps e;obtain ⟨more,q⟩:=I4.base.tbls b ps e;exact ⟨more,by rw [Zad (Zae q nD)];exact q⟩
   ·by_cases ha:a=D
    ·subst ha;rw [Zaf] at e;cases e;exact ⟨hlen,its,nn,rv,kc _ _ hDC hD4⟩
    ·rw [Zad ha] at e;refine (I4.hok a o e).stay (λb u hb q=>kc b u ?_ q) (λb q=>?_) (λb xs q=>?_)
     ·rcases hb with rfl | hb
      ·exact Zae e nC
      ·exact Zae hb nC
     ·rw [Zad (Zae q nD)];exact q
     ·rw [Zad (Zae q nD)];exact q
   ·obtain ⟨_,f1,_,f4,f5,f6⟩:=f2 b hb;exact ⟨f4,f1,f5,f6⟩
  ·refine Vav (T.item (Zat xf X (own++cap.map (·.1)) scope cl C s H fp (X.pn++pins)) rfl rfl rfl hc i _ s3 _ H3 (λ_ _=>False) I3p (fpk fr3) st3 go) (λr s4 h4=>?_) (λ_ _ z=>z.elim);obtain ⟨u,hr,h4⟩:=h4;subst hr;refine Vav h4 (λ_ s5 h5=>?_) (λ_ _ z=>z.elim);obtain ⟨x,H5,I5,r5,y5,st5,fr5⟩:=h5;have I5':=I5.pinned (fpk fr5) (T.obj _ _ st5);refine Vav (hg _ s5 _ H5 x u _ I5' r5 (step x H5 y5)) (λ_ s6 h6=>?_) (λe s' z=>hexc D C _ e s' hsC z);obtain ⟨σ6,H6,I6,e6,q6⟩:=h6;refine Vav (ht _ s6 σ6 H6 _ I6 q6) (λbb s6' h6'=>?_) (λe s' z=>hexc D C _ e s' hsC z);obtain ⟨H6',I6',q6'⟩:=h6';have stay:∀{H7:Hp} {s7:Shared},Inv (Zat xf X (own++cap.map (·.1)) scope cl C s H fp (X.pn++pins)) [] σ6 H7 s7->Inv (Zat xf X (own++cap.map (·.1)) scope cl C s H fp (X.pn++pins)) [] (st0 own σ cap) H7 s7:=λ{H7 s7} I8=>by
    refine I8.weak (I'.len.trans I8.len.symm) (λj v e=>?_);obtain ⟨l,p,rfl,hp,hs⟩:=Zkw e;have q:(σ6.drop own.length)[l]?=some (some v):=by
     rw [e6];unfold capt;rw [Va3,hp];show some ((σ[p.2]?).join)=_;rw [hs];rfl
    rwa [List.getElem?_drop] at q
   cases bb with
   | false =>
    rw [if_neg VaC] at q6' ⊢;obtain ⟨m',hm,w7⟩:=q6';obtain ⟨hD7,nD7,_⟩:=I6'.pin (D,{ cls:=.type "list", data:=.seq its.toArray nn }) (VaK _ (by simp));have st7:tn (i+1) s6'.heap:=T.keep _ _ _ st5 λb hb o e=>(I6'.pin (b,o) (VaK _ (VaK _ (ZbV hb e)))).1;have fr7:∀b∈fp,H6' b=none:=λb hb=>by
     obtain ⟨o,e,_⟩:=T.obj _ _ st5 b hb;exact (I6'.pin (b,o) (VaK _ (VaK _ (ZbV hb e)))).2.1
    exact ⟨m',hm,i+1,acc,its,H6',stay (I6'.pins_of λp hp=>nomatch hp),st7,fr7,nD7,⟨nn,hD7⟩,rv,w7⟩
   | true =>
   rw [if_pos rfl] at q6' ⊢;refine Vav (he _ s6' σ6 H6' _ I6' q6') (λy s7 h7=>?_) (λe s' z=>hexc D C _ e s' hsC z);obtain ⟨v,H7,I7,r7,hl7,m',hm,w7⟩:=h7;obtain ⟨hD7,nD7,_⟩:=I7.pin (D,{ cls:=.type "list", data:=.seq its.toArray nn }) (VaK _ (by simp));have st7:tn (i+1) s7.heap:=T.keep _ _ _ st5 λb hb o e=>(I7.pin (b,o) (VaK _ (VaK _ (ZbV hb e)))).1;have fr7:∀b∈fp,H7 b=none:=λb hb=>by
    obtain ⟨o,e,_⟩:=T.obj _ _ st5 b hb;exact (I7.pin (b,o) (VaK _ (VaK _ (ZbV hb e)))).2.1
   refine wpAny_list_append_plain (l:=D) (items:=its.toArray) ⟨nn,hD7⟩ (λh8 hp8 hs8=>?_) (by rw [Va7];omega);have I7w:Inv (Zat xf X (own++cap.map (·.1)) scope cl C s H fp (X.pn++pins)) [] σ6 H7 s7:=I7.pins_of λp hp=>nomatch hp;have I8:Inv (Zat xf X (own++cap.map (·.1)) scope cl C s H fp (X.pn++pins)) [] σ6 H7 { s7 with heap:=h8 }:=by
    refine I7w.turned (t':=s7.toks) (it:=D) (λb o hb e=>hs8.extBut b o hb e) nD7 hDC (.inr hsD) (λx c e=>?_) (λp hp=>?_)
    ·rcases cne x c e with ⟨v,⟨o,ho,_⟩,_⟩ | z
     ·exact Vaf (ltS ho)
     ·exact VaD (Vbs ltDC z)
    ·have hp':p∈X.pn++pins:=by simpa [Zat,Zax] using hp
     exact Vaf (ltS (I2.pin p hp').1)
   have I9:=stay I8;refine ⟨m',hm,i+1,acc++[v],its++[y],H7,I9,T.keep _ _ _ st7 (λb hb o e=>hs8.extBut b o (Vaf (ltfp b hb)) e),fr7,nD7,?_,rv.append (.cons r7 .nil),w7⟩;simpa using hp8
 exact codeAny_compStart_list (loop _ rfl) (T.self X.A 0 _ _ _ st' (loop _ rfl))
def Zjv{elt iter:Expr}{ts:List Expr}{gF:Fam TG}{ttF:Fam TT}{teF:Fam TE}{E:Value->Shared->Prop}(O:Zb1 X own cap scope cl)(hc:X.calm=true)(hgF:∀C s H fp pn,PG (Zax X (own++cap.map (·.1)) scope cl C s H fp pn) tg (gF C s H fp pn))(htF:∀C s H fp pn,PTs (Zax X (own++cap.map (·.1)) scope cl C s H fp pn) ts (ttF C s H fp pn))(heF:∀C s H fp pn,PE (Zax X (own++cap.map (·.1)) scope cl C s H fp pn) elt (teF C s H fp pn))(hts:ts.length<=1)(I2:Inv X pins σ H s)(T:Turn X.prog X.w X.K tg J fp it tn)(st2:tn 0 s.heap)(f2:∀b∈fp,FpOk X pins H b){Q:VK}(hw:∀C s H2 fp pn,ZcO J (gF C s H2 fp pn) (ttF C s H2 fp pn) (teF C s H2 fp pn) own cap σ Q H){R:Value->Addr->Result->Shared->Prop} (fin:∀(D C:Addr) (H':Hp) (s':Shared) (m:Str->Option Value),s.heap.objs.size<=C->s'.heap.Ns C m->H' C=none ->
   (∀h',Heap.SameBut C s'.heap h'->Inv X pins σ H' { s' with heap:=h' })->Q (.ref D) H'->R (.ref D) C (.ok .next) s') :
  wpAny (model X.prog X.w) X.A (newList []) (λacc s₃=>wpAny (model X.prog X.w) X.A (newFunctionEnv scope X.env.globals cl [] X.env.qual none .none (some X.env)) (λcenv s₄ =>
   codeAny (model X.prog X.w) X.A (.compStart (.ListComp elt [⟨tg,iter,ts,0⟩] scope pos) 0 (.ref it) acc { cenv with scope:=relabel scope X.env }) (R acc cenv.locals) s₄) E s₃) E s :=
 ZhW (xf:=λ_ _ _ _ _ _=>False) O hc hgF htF heF hts I2 T st2 f2 hw fin λ_ _ _ _ _ _ z=>z.elim
def ZoL{elt iter:Expr}{wi:TI}{ts:List Expr}{g:Fam TG}{tt:Fam TT}{te:Fam TE}(hi:PI X tg iter wi)(O:Zb1 X own cap scope cl)(hc:X.calm=true)(hg:∀C s H fp pn,PG (Zax X (own++cap.map (·.1)) scope cl C s H fp pn) tg (g C s H fp pn))(ht:∀C s H fp pn,PTs (Zax X (own++cap.map (·.1)) scope cl C s H fp pn) ts (tt C s H fp pn))(he:∀C s H fp pn,PE (Zax X (own++cap.map (·.1)) scope cl C s H fp pn) elt (te C s H fp pn))(hts:ts.length<=1)(hs:∀x,foldedSetIterable iter X.env x=pure x:=by intro _;rfl):PE X (.ListComp elt [⟨tg,iter,ts,0⟩] scope pos) (ZcT wi g tt te own cap):=by
 intro pins s σ H Q I h;rw [eval_ListComp];refine wpAny_comprehension_free (use:=none) rfl hs O.clos O.kind O.locals (thn (hi pins s σ H _ I h) λxv s₁ h₁=>thn h₁ λitv s₂ h₂=>?_);obtain ⟨it,fp,tn,J,H2,rfl,I2,T,st2,f2,hw⟩:=h₂;refine Zjv (R:=λacc C=>compPost (model X.prog X.w) X.A X.xe none (EP X pins σ Q) acc C) O hc hg ht he hts I2 T st2 f2 hw ?_;intro D C H' s' m hC hn hH IV q;exact ⟨m,hn,λh' sb=>⟨.ref D,H',IV h' sb,rfl,q⟩⟩
def ZeD{elt iter:Expr}{wi:TI}{ts:List Expr}{g:Fam TG}{tt:Fam TT}{te:Fam TE}(hN:X.N.Nodup)(hix:X.N[i]?=some x)(hx:Loc X.env.scope x)(hi:PI X tg iter wi)(O:Zb1 X own cap scope cl)(hc:X.calm=true)(hg:∀C s H fp pn,PG (Zax X (own++cap.map (·.1)) scope cl C s H fp pn) tg (g C s H fp pn))(ht:∀C s H fp pn,PTs (Zax X (own++cap.map (·.1)) scope cl C s H fp pn) ts (tt C s H fp pn))(he:∀C s H fp pn,PE (Zax X (own++cap.map (·.1)) scope cl C s H fp pn) elt (te C s H fp pn))(hts:ts.length<=1)(hsw:swapsWith (.ListComp elt [⟨tg,iter,ts,0⟩] scope pos) (some (.Name x pos')) spos.line X.env=pure true:=by rfl)(hs:∀x,foldedSetIterable iter X.env x=pure x:=by intro _;rfl)(hf:X.fn x=true\/X.env.scope.names.lookup x=some .local:=by first | exact .inl rfl | exact .inr rfl | assumption):PS X (.Assign [.Name x pos'] (.ListComp elt [⟨tg,iter,ts,0⟩] scope pos) spos) (tAsg (ZcT wi g tt te own cap) (ZbT i)):=by
 intro pins s σ H D I h;rw [exec_Assign_Name_used _ _ _ _ hsw];refine Vaz (wpAny_standAt (Vaz ?_));show wpAny _ X.A (do let _ <-comprehension (.ListComp elt [⟨tg,iter,ts,0⟩] scope pos) scope X.env _ (newList []) false (eval iter X.env) (some (assign (.Name x pos') X.env))) _ _ s
 refine Vaz (Vav (wpAny_comprehension_free (use:=some (assign (.Name x pos') X.env)) (Q:=λ_ s'=>SP X pins D .next s') rfl hs O.clos O.kind O.locals
  (thn (hi pins s σ H _ I h) λxv s₁ h₁=>thn h₁ λitv s₂ h₂=>?_)) (λ_ s' hq=>VaE (VaE hq)) λ_ _ e=>e)
 obtain ⟨it,fp,tn,J,H2,rfl,I2,T,st2,f2,hw⟩:=h₂;refine Zjv (Q:=λx H1=>ZbT i x σ H1 D.nx) (R:=λacc C=>compPost (model X.prog X.w) X.A X.xe (some (assign (.Name x pos') X.env)) (λ_ s'=>SP X pins D .next s') acc C) O hc hg ht he hts I2 T st2 f2 hw ?_;intro A C H' s' m hC hn hH IV q;show wpAny _ X.A (assign (.Name x pos') X.env (.ref A)) _ _ _;have I3:Inv X pins σ H' s':=IV s'.heap (Heap.SameBut.refl ..);obtain ⟨oc,es,ep,ho,hd,hk⟩:=id hn;have neL:C≠X.env.locals:=VaD (Vad I2.lt hC);have neF:C∉X.fs:=I2.nofs hC;have I4:Inv X (pins++[(C,oc)]) σ H' s':=I3.pins_of λp hp=>by
  rcases Var.mp hp with z | z
  ·exact I3.pin p (VaK _ z)
  ·have z':p=(C,oc):=by simpa using z
   subst z';exact ⟨ho,hH,neL,neF,λv e=>by rw [hd] at e;cases e⟩
 refine wpAny_assign_Name (Zfa I4 hN hix hx (v:=.ref A) rfl (λs5 I5=>?_) hf);have ho5:=(I5.pin (C,oc) (VaK _ (VaK _ (by simp)))).1;refine ⟨m,⟨oc,es,ep,ho5,hd,hk⟩,λh' sb=>⟨_,H',?_,q⟩⟩;refine (I5.unpinned (pl:=[(C,oc)])).turned (t':=s5.toks) (it:=C) (λb o hb e=>sb.extBut b o hb e) hH neL (.inr (Vaj I2.sz hC)) (λy c e=>?_) (λp hp=>?_)
 ·obtain ⟨v,o,hc',_⟩:=I2.cell y c e;exact Vaf (Vad (Vac hc') hC)
 ·exact Vaf (Vad (Vac (I2.pin p hp).1) hC)
end
def Ze9(scope out:Scope):List (Str×NameKind):=scope.names.map λ(n,k)=>if (k==.free&&out.kind==.function&&out.names.lookup n==some .cell) then (n,.cell) else (n,k)
def Zli(scope out:Scope)(cn:List Str):Bool :=
 scope.names.all (λy=>y.2 != .cell||!cn.contains y.1)&&scope.names.all (λy=>y.2 != .local||scope.names.lookup y.1==some .local)&&(Ze9 scope out).all (λy=>!(y.2==.cell||y.2==.free)||cn.contains y.1||scope.names.contains (y.1,.cell))&&cn.all (λn=>out.names.lookup n==some .cell&&(Ze9 scope out).lookup n==some .cell)
def Zit(X:Cx):List (Str×Addr)->Prop
 | []=>True
 | p::r=>X.env.cells.lookup p.1=some p.2/\Zit X r
def Zit.mem:∀{cl:List (Str×Addr)} {p:Str×Addr},Zit X cl->p∈cl->X.env.cells.lookup p.1=some p.2
 | _::_,_,h,.head _=>h.1
 | _::_,_,h,.tail _ m=>Zit.mem h.2 m
def CapN(X:Cx):List (Str×Nat)->Prop
 | []=>True
 | p::r=>X.N[p.2]?=some p.1/\CapN X r
def Zd7:∀{l:List (Str×α)},x∈l.map (·.1)->∃c,l.lookup x=some c
 | [],h=>by simp at h
 | (y,c)::r,h=>by
  by_cases e:x=y
  ·subst e;exact ⟨c,by simp⟩
  ·have h':x∈r.map (·.1):=by
    rcases Vbt.mp h with ⟨p,hp,rfl⟩;rcases Vaq.mp hp with rfl | hp
    ·exact absurd rfl e
    ·exact Vbt.mpr ⟨p,hp,rfl⟩
   obtain ⟨d,hd⟩:=Zd7 (l:=r) h';exact ⟨d,by rw [Vbr,beq_false_of_ne e];exact hd⟩
def Zb1.of{cap:List (Str×Nat)}{scope:Scope}{cl:List (Str×Addr)}(clos:closureFor scope X.env=pure cl)(kind:scope.kind=.function)(chk:Zli scope X.env.scope (cap.map (·.1))=true)(names:cl.map (·.1)=cap.map (·.1))(sub:Zit X cl)(capn:CapN X cap):Zb1 X own cap scope cl:=by
 unfold Zli at chk;simp only [Vbf,Vbu] at chk;obtain ⟨⟨⟨h1,h2⟩,h3⟩,h4⟩:=chk;have sub':∀x c,cl.lookup x=some c->X.env.cells.lookup x=some c:=λx c e=>sub.mem (VaZ e);have capk:∀l,(∀p∈l,p.1∈cap.map (·.1))->CapN X l->ZjM X (relabel scope X.env) cl l:=by
  intro l
  induction l with
  | nil=>exact λ_ _=>trivial
  | cons p r ih =>
   intro hm hn;have hp:=hm p Van;have hq:=h4 p.1 hp;have e1:X.env.scope.names.lookup p.1=some .cell:=by simpa using hq.1
   have e2:(Ze9 scope X.env.scope).lookup p.1=some .cell:=by simpa using hq.2
   obtain ⟨c,hc⟩:=Zd7 (l:=cl) (x:=p.1) (by rw [names];exact hp);exact ⟨⟨hn.1,e1,e2,c,hc,sub' _ _ hc⟩,ih (λq hq=>hm q (Vao _ hq)) hn.2⟩
 refine ⟨clos,kind,λx c hm y hy hk=>?_,λy hy e=>?_,λx c hm=>sub.mem hm,λk x hx=>?_,capk cap (λp hp=>Vbt.mpr ⟨p,hp,rfl⟩) capn⟩
 ·have:=h1 y hy;rw [hk] at this;rintro rfl;have hc:y.1∈cap.map (·.1):=by rw [<-names];exact Vbt.mpr ⟨_,hm,rfl⟩
  simp at this;simp at hc;obtain ⟨a,ha⟩:=hc;exact this a ha
 ·have:=h2 y hy;rw [e] at this;simpa using this
 ·have fin:∀k',(Ze9 scope X.env.scope).lookup x=some k'->(k'=.cell\/k'=.free)->∃c,(PySem.cellsFrom k scope.names cl).lookup x=some c:=by
   intro k' e hk;have:=h3 _ (VaZ e);refine Option.isSome_iff_exists.mp (ZeO scope.names k cl ?_);have this':x∈cap.map (·.1)\/(x,NameKind.cell)∈scope.names:=by
    rcases hk with rfl | rfl
    ·simpa using this
    ·simpa using this
   rcases this' with z | z
   ·obtain ⟨c,hc⟩:=Zd7 (l:=cl) (x:=x) (by rw [names];exact z);exact .inl (by rw [hc];rfl)
   ·exact .inr z
  rcases hx with e | e
  ·exact fin _ e (.inl rfl)
  ·exact fin _ e (.inr rfl)
end L2
namespace L2
open PySem.Calls
structure Sk(o o':Obj):Prop where
 d:o'.dict=o.dict
 f:∀vs,o.data=.fields vs->∃vs':Array Value,o'.data=.fields vs'/\vs'[2]?=vs[2]?
def Sk.refl(o):Sk o o:=⟨rfl,λvs e=>⟨vs,e,rfl⟩⟩
def Sk.trans(x:Sk a b)(y:Sk b c):Sk a c:=⟨y.d.trans x.d,λvs e=>by
 obtain ⟨v1,e1,q1⟩:=x.f vs e;obtain ⟨v2,e2,q2⟩:=y.f v1 e1
 exact ⟨v2,e2,q2.trans q1⟩⟩
def KD(h h':Heap):Prop:=∀(b:Nat) (o:Obj),h.objs[b]?=some o->∃o':Obj,h'.objs[b]?=some o'/\Sk o o'
def KD.refl(h:Heap):KD h h:=λ_ o e=>⟨o,e,.refl o⟩
def KD.trans(x:KD a b)(y:KD b c):KD a c:=λk o e=>by
 obtain ⟨o1,e1,d1⟩:=x k o e;obtain ⟨o2,e2,d2⟩:=y k o1 e1;exact ⟨o2,e2,d1.trans d2⟩
def KD.push(h:Heap)(o:Obj):KD h (h.push o):=λb u e=>by
 obtain ⟨objs,l⟩:=h;refine ⟨u,?_,.refl u⟩;show (objs.push o)[b]?=some u;have e:objs[b]?=some u:=e;have hb:=(Vbv.mp e).1;rw [Array.getElem?_push,if_neg (by omega)];exact e
def KD.update(h:Heap)(a:Addr)(hf:∀o,Sk o (f o)):KD h (h.update a f):=λb u e=>by
 obtain ⟨objs,l⟩:=h;have e:objs[b]?=some u:=e;show ∃o',(objs.modify a f)[b]?=some o'/\_;rw [Array.getElem?_modify];by_cases q:a=b
 ·rw [if_pos q,e];exact ⟨f u,rfl,hf u⟩
 ·rw [if_neg q];exact ⟨u,e,.refl u⟩
def Zi3{h:Heap}(e:h.get? a=some o):h.objs[a]?=some o:=by
 unfold Heap.get? at e;split at e
 ·cases e
 ·exact e
def KD.at{h h':Heap}(x:KD h h')(e:h.get? a=some o)(e':h'.get? a=some o'):Sk o o':=by
 obtain ⟨o1,e1,d1⟩:=x a o (Zi3 e);rw [Zi3 e'] at e1;cases e1;exact d1
def Dk:Sem α->Prop
 | .pure _=>True
 | .raise _=>True
 | .unsupported _=>True
 | .finish _=>True
 | .rule _ k=>Dk (k ())
 | .at _ k=>Dk (k ())
 | .load _ _ k=>∀o,Dk (k o)
 | .update _ _ f k=>(∀o,Sk o (f o))/\Dk (k ())
 | .loadIfAlive _ k=>∀o,Dk (k o)
 | .point _ k=>Dk (k ())
 | .alloc _ k=>∀a,Dk (k a)
 | .fresh k=>∀t,Dk (k t)
 | .ask k=>∀x,Dk (k x)
 | .choose _ _ k=>∀n,Dk (k n)
 | .handled _ k=>∀x,Dk (k x)
 | .stack k=>∀l,Dk (k l)
 | .thread k=>∀n,Dk (k n)
 | .register _ _=>True
 | _=>False
def Ztf:∀(t:Sem α) {Q:α->Pos->Shared->Prop} {E:Value->Pos->Shared->Prop} {p:Pos} {s:Shared},Dk t->Sem.wp M Γ t Q E p s ->
  Sem.wp M Γ t (λa p' s'=>Q a p' s'/\KD s.heap s'.heap) (λe p' s'=>E e p' s'/\KD s.heap s'.heap) p s:=by
 intro t
 induction t with
 | pure a=>intro Q E p s _ h;exact ⟨h,.refl _⟩
 | raise e=>intro Q E p s _ h;exact ⟨h,.refl _⟩
 | unsupported w=>intro Q E p s _ h;exact h
 | finish e=>intro Q E p s _ h;exact h
 | rule t k ih=>intro Q E p s d h;exact ih () d h
 | «at» q k ih=>intro Q E p s d h;exact ih () d h
 | load a q k ih=>intro Q E p s d h;obtain ⟨o,e,h⟩:=h;exact ⟨o,e,ih o (d o) h⟩
 | update a q f k ih =>
  intro Q E p s d h;refine ⟨h.1,?_⟩;have z:=ih () d.2 h.2;exact Sem.wp_mono _ _ _ (λ_ _ _ x=>⟨x.1,(KD.update _ _ d.1).trans x.2⟩) (λ_ _ _ x=>⟨x.1,(KD.update _ _ d.1).trans x.2⟩) _ _ z
 | alloc o k ih =>
  intro Q E p s d h;exact Sem.wp_mono _ _ _ (λ_ _ _ x=>⟨x.1,(KD.push _ _).trans x.2⟩) (λ_ _ _ x=>⟨x.1,(KD.push _ _).trans x.2⟩) _ _ (ih _ (d _) h)
 | loadIfAlive a k ih=>intro Q E p s d h;exact ih _ (d _) h
 | point l k ih=>intro Q E p s d h;exact ih () d h
 | register a k ih=>intro Q E p s d h;exact h
 | fresh k ih=>intro Q E p s d h;exact ih _ (d _) h
 | ask k ih=>intro Q E p s d h;exact ih _ (d _) h
 | choose src n k ih=>intro Q E p s d h;exact ⟨h.1,ih _ (d _) h.2⟩
 | handled o k ih=>intro Q E p s d h;exact ih _ (d _) h
 | stack k ih=>intro Q E p s d h;exact ih _ (d _) h
 | thread k ih=>intro Q E p s d h;exact ih _ (d _) h
 | _=>intro Q E p s d h;exact d.elim
def ZeR(d:Dk t)(h:wpAny M A t Q E s):wpAny M A t (λa s'=>Q a s'/\KD s.heap s'.heap) (λe s'=>E e s'/\KD s.heap s'.heap) s :=
 λΓ p hg=>Ztf t d (h Γ p hg)
def Dk.bind:∀{t:Sem α} {k:α->Sem β},Dk t->(∀a,Dk (k a))->Dk (t >>= k):=by
 intro t;show ∀{k:α->Sem β},Dk t->(∀a,Dk (k a))->Dk (Sem.bind t k)
 induction t with
 | pure a=>intro k _ h;exact h a
 | raise e=>intro k _ h;trivial
 | unsupported w=>intro k _ h;trivial
 | finish e=>intro k _ h;trivial
 | rule t k ih=>intro k d h;exact ih () d h
 | «at» q k ih=>intro k d h;exact ih () d h
 | load a q k ih=>intro k d h o;exact ih o (d o) h
 | update a q f k ih=>intro k d h;exact ⟨d.1,ih () d.2 h⟩
 | alloc o k ih=>intro k d h a;exact ih a (d a) h
 | loadIfAlive a k ih=>intro k d h o;exact ih o (d o) h
 | point l k ih=>intro k d h;exact ih () d h
 | register a k ih=>intro k d h;trivial
 | fresh k ih=>intro k d h o;exact ih o (d o) h
 | ask k ih=>intro k d h o;exact ih o (d o) h
 | choose src n k ih=>intro k d h o;exact ih o (d o) h
 | handled o k ih=>intro k d h o;exact ih o (d o) h
 | stack k ih=>intro k d h o;exact ih o (d o) h
 | thread k ih=>intro k d h o;exact ih o (d o) h
 | _=>intro k d h;exact d.elim
def ZiI(a):Dk (load a):=λ_=>trivial
def ZgJ:Dk stack:=λ_=>trivial
def ZhY(a)(hf:∀o,Sk o (f o)):Dk (update a f):=⟨hf,trivial⟩
def ZlV(o):Dk (alloc o):=λ_=>trivial
def ZiB(v):Dk (fieldsOf v):=by
 unfold fieldsOf;split
 ·refine Dk.bind (ZiI _) λo=>?_;split
  ·trivial
  ·trivial
 ·trivial
def Ze8(v)(i):Dk (field v i):=by
 unfold field;refine Dk.bind (ZiB v) λo=>?_;split
 ·trivial
 ·trivial
def Zjq(hi:i≠2)(v)(o):Sk o (Obj.mapFields (·.setIfInBounds i v) o):=by
 obtain ⟨c,d,dt,sl⟩:=o;refine ⟨by cases dt<;>rfl,λvs e=>?_⟩;have e:dt=.fields vs:=e;subst e;exact ⟨vs.setIfInBounds i v,rfl,by rw [Array.getElem?_setIfInBounds_ne hi]⟩
def ZpC(a)(hi:i≠2)(v):Dk (updateField a i v):=by
 unfold updateField;refine Dk.bind (ZiI _) λo=>?_;split
 ·split
  ·exact ZhY _ (Zjq hi _)
  ·trivial
 ·trivial
def ZdQ(e)(hi:i≠2)(v):Dk (setField e i v):=by
 unfold setField;split
 ·exact ZpC _ hi _
 ·trivial
def Zda(e)(f):Dk (setFlight e f):=by
 unfold setFlight;refine Dk.bind (Ze8 _ _) λo=>?_;split
 ·exact ZdQ _ (by decide) _
 ·trivial
def ZiX:∀l,Dk (readyFrames l)
 | []=>trivial
 | env::outer=>by
  unfold readyFrames;split
  ·refine Dk.bind (ZiI _) λo=>?_;split
   ·trivial
   ·refine Dk.bind ?_ λb=>Dk.bind ?_ λk=>Dk.bind (ZhY _ λo=>⟨rfl,λvs e=>⟨vs,e,rfl⟩⟩) λ_=>ZiX outer
    ·unfold behindIsImport;split
     ·trivial
     ·split
      ·trivial
      ·exact Dk.bind (Ze8 _ _) λ_=>trivial
    ·unfold keptBack;split
     ·split
      ·trivial
      ·unfold underTheClaimsCaller;exact Dk.bind (Dk.bind ZgJ λ_=>trivial) λ_=>trivial
     ·trivial
  ·trivial
def Zj2(env):Dk (PySem.frameOf env):=by
 unfold PySem.frameOf frameEnvs;refine Dk.bind (Dk.bind ZgJ λ_=>trivial) λl=>Dk.bind ?_ λo=>?_
 ·unfold frameObject;split
  ·trivial
  ·exact Dk.bind (ZiX _) λ_=>trivial
 ·split
  ·trivial
  ·trivial
def ZmX(a b c d e)(l):Dk (EntryCells.newEntry a b c d e l):=by
 unfold EntryCells.newEntry newFields;generalize ([a,b,c,d,e]++_)=vs;unfold newObj newObjAsIs;have fin:Dk (alloc { cls:=Value.type "traceback", data:=Data.fields vs.toArray } >>= λa=>(pure (Value.ref a):Sem Value)):=Dk.bind (ZlV _) λ_=>trivial;by_cases h:vs.toArray.size>sizeLine+2
 ·show Dk (if vs.toArray.size>sizeLine+2 then _ else _)
  rw [if_pos h];trivial
 ·show Dk (if vs.toArray.size>sizeLine+2 then _ else _)
  rw [if_neg h];exact fin
def ZiH(e)(env):Dk (noteFrame e env):=by
 unfold noteFrame;split
 ·refine Dk.bind (Ze8 _ _) λo=>?_;have fin:Dk (do setField e 1 (<-EntryCells.newEntry o (<-PySem.frameOf env) .none (rawInt ‹Addr›) .none (<-entryPlaceOf ‹Addr› (o != .none)))):=by
   refine Dk.bind (Zj2 _) λ_=>Dk.bind ?_ λ_=>Dk.bind (ZmX _ _ _ _ _ _) λ_=>ZdQ _ (by decide) _;unfold entryPlaceOf;refine Dk.bind ZgJ λ_=>?_;split
   ·trivial
   ·trivial
  split
  ·refine Dk.bind (Ze8 _ _) λ_=>?_;split
   ·trivial
   ·exact Dk.bind (ZdQ _ (by decide) _) λ_=>fin
  ·exact fin
 ·trivial
def Zdo(env)(e):Dk (leaving env e):=Dk.bind (ZiH _ _) λ_=>Zda _ _
end L2
namespace L2
def Zbt.there(x:Zbt P w H h a o):∃ob,h.get? a=some ob:=by
 cases o with
 | lst xs=>obtain ⟨_,_,_,_,e⟩:=x;exact ⟨_,e⟩
 | tup xs=>obtain ⟨_,_,_,o,e,_⟩:=x;exact ⟨_,e⟩
 | dK kvs=>obtain ⟨_,_,_,_,o,_,_,e,_⟩:=x;exact ⟨_,e⟩
 | dT kvs=>obtain ⟨_,_,_,_,o,_,_,e,_⟩:=x;exact ⟨_,e⟩
 | set S n=>obtain ⟨o,_,_,_,e,_⟩:=x;exact ⟨_,e⟩
 | ins C dx fs=>obtain ⟨_,_,_,e,_⟩:=x;exact ⟨_,e⟩
 | own y=>obtain ⟨_,e⟩:=x;exact ⟨_,e⟩
 | xd fs=>obtain ⟨_,⟨_,_,_,e,_⟩,_⟩:=x;exact ⟨_,e⟩
 | rng lo hi=>obtain ⟨_,_,_,e⟩:=x;exact ⟨_,e⟩
 | frz ob u=>obtain ⟨e,_⟩:=x;exact ⟨_,e⟩
 | tbl ps=>exact ⟨_,(show h.get? a=some _ from x)⟩
 | met f y=>exact ⟨_,(show h.get? a=some _ from x)⟩
 | ext φ=>obtain ⟨_,⟨_,e⟩,_⟩:=x;exact ⟨_,e⟩
def HOk.free(x:HOk P w H h)(e:h.get? a=none):H a=none:=by
 cases q:H a with
 | none=>rfl
 | some o =>
  obtain ⟨ob,z⟩:=(x a o q).there;rw [e] at z;cases z
structure Fly(P:Program)(w:World)(l:List Env)(H H':Hp)(s s':Shared)(x:Addr)(cls:Value):Prop where
 os:s'.os=s.os
 bare:AllBare s'.gens
 un:Un (frs l) [] H H' s.heap s'.heap
 hok:HOk P w H' s'.heap
 frf:∀b∈frs l,H' b=none
 free:H' x=none
 ex:∃(B:Heap) (a0:Value),Heap.FlyingW B l x cls a0 s'.heap/\∀b o,s'.heap.get? b=some o->(H' b≠none\/∃o',s.heap.get? b=some o')->b∉frs l->B.get? b=some o
def Zlo{s':Shared}{x:Addr}{B:Heap}(os:s'.os=s.os)(bare:AllBare s'.gens)(un:Un (frs l) [] H H' s.heap s'.heap)(hok:HOk P w H' s'.heap)(frf:∀b∈frs l,H' b=none)(nf:∀b∈frs l,∃o,s'.heap.get? b=some o/\∀vs,o.data≠.fields vs)(cov:∀b o,s'.heap.get? b=some o->(H' b≠none\/∃o',s.heap.get? b=some o')->b∉frs l->B.get? b=some o)(sub:∀b∈frs l',b∈frs l)(new:∀b∈frs l,b∉frs l'->s.heap.get? b=none)(fl:Heap.FlyingW B l' x cls a0 h')(sm:s'.heap.UpToSlots h')(free:H' x=none) :
  Fly P w l' H H' s { s' with heap:=h' } x cls:=by
 have stay:∀b o,s'.heap.get? b=some o->(H' b≠none\/∃o',s.heap.get? b=some o')->b∉frs l->h'.get? b=some o:=λb o e q hb=>fl.1 b o (cov b o e q hb);have out:∀{b:Addr} {o:Obj},s.heap.get? b=some o->b∉frs l'->b∉frs l:=λ{b o} e hb z=>by
  rw [new b z hb] at e;cases e
 refine ⟨os,bare,⟨λb o e n hb hx=>?_,λb o e n hb hx=>?_,un.free,λb o e hx=>?_,un.tups,un.frzs,un.tbls⟩,λa o e=>?_,λb hb=>frf b (sub b hb),free,B,a0,fl,λb o e q hb=>?_⟩
 ·exact stay b o (un.keep b o e n (out e hb) hx) (.inr ⟨o,e⟩) (out e hb)
 ·obtain ⟨sl,q⟩:=un.slot b o e n (sub b hb) hx;obtain ⟨o1,q1,d1⟩:=nf b (sub b hb);rw [q] at q1;cases q1;obtain ⟨sl',q2⟩:=sm b _ q d1;exact ⟨sl',q2⟩
 ·obtain ⟨o',q⟩:=un.there b o e hx;by_cases hb:b∈frs l
  ·obtain ⟨o1,q1,d1⟩:=nf b hb;obtain ⟨sl',q2⟩:=sm b _ q1 d1;exact ⟨_,q2⟩
  ·exact ⟨o',stay b o' q (.inr ⟨o,e⟩) hb⟩
 ·refine (hok a o e).stay (λb u hb q=>?_) (λ_ q=>q) λ_ _ q=>q;have tr:H' b≠none:=by
   rcases hb with rfl | hb
   ·rw [e];simp
   ·rw [hb];simp
  exact stay b u q (.inl tr) λz=>tr (frf b z)
 ·have hb':b∉frs l:=by
   intro z;rcases q with q | ⟨o',q⟩
   ·exact q (frf b z)
   ·exact out q hb z
  have ⟨o1,q1⟩ : ∃o1,s'.heap.get? b=some o1:=by
   rcases q with q | ⟨o',q⟩
   ·cases z:H' b with
    | none=>exact absurd z q
    | some u=>exact (hok b u z).there
   ·exact un.there b o' q (by simp)
  have c:=cov b o1 q1 q hb';have z:=fl.1 b o1 c;have e':h'.get? b=some o:=e;rw [e'] at z;cases z;exact c
def Fly.moved{x:Addr}(F:Fly P w l H H' s s' x cls)(fl0:Heap.FlyingW B l x cls a0 s'.heap)(cov:∀b o,s'.heap.get? b=some o->(H' b≠none\/∃o',s.heap.get? b=some o')->b∉frs l->B.get? b=some o)(fl:Heap.FlyingW B l x cls a0 h')(sm:s'.heap.UpToSlots h') :
  Fly P w l H H' s { s' with heap:=h' } x cls :=
 Zlo F.os F.bare F.un F.hok F.frf (λb hb=>(fl0.2.2.1.mem hb).2) cov (λ_ hb=>hb) (λ_ h1 h2=>absurd h1 h2) fl sm F.free
section
variable    {H':Hp} {s':Shared} {x:Addr} {cls:Value}
def Inv.unStack(I:Inv X pins σ H s)(hex:X.ex=[])(hfs:∀b∈X.fs,b∈frs X.stack):Un (frs X.stack) [] X.H₀ H X.s₀.heap s.heap:=I.base.mono hfs (by rw [hex];exact λ_ z=>z)
def Inv.sub(I:Inv X pins σ H s):∀b∈X.fs,b∈frs X.stack:=λb hb=>by
 rcases I.ok.stk with e | ⟨e,hf⟩
 ·rw [e];exact hb
 ·rw [e];unfold frs;rw [Vam,hf];exact Vao _ hb
def Inv.flyOut(I:Inv X pins σ H s)(hex:X.ex=[])(F:Fly X.prog X.w X.stack H H' s s' x cls){B:Heap}(fl0:Heap.FlyingW B X.stack x cls a0 s'.heap)(cov:∀b o,s'.heap.get? b=some o->(H' b≠none\/∃o',s.heap.get? b=some o')->b∉frs X.stack->B.get? b=some o)(fl:Heap.FlyingW B X.outer x cls a0 h')(sm:s'.heap.UpToSlots h') :
  Fly X.prog X.w X.outer X.H₀ H' X.s₀ { s' with heap:=h' } x cls:=by
 refine Zlo (F.os.trans I.os) F.bare ((I.unStack hex I.sub).trans F.un) F.hok F.frf (λb hb=>(fl0.2.2.1.mem hb).2) (λb o e q hb=>cov b o e (q.imp id λ⟨o',z⟩=>I.base.there b o' z (by rw [hex];simp)) hb) I.sub (λb h1 h2=>?_) fl sm F.free;rcases Vaq.mp (I.stkSub b h1) with e | e
 ·rw [e];exact Vap I.ok.above
 ·exact absurd e h2
end
def CtxN(x:Addr)(h:Heap):Prop:=∃ox vs,h.get? x=some ox/\ox.data=.fields vs/\vs[2]?=some .none
def CtxN.on{x:Addr}(k:CtxN x h)(kd:KD h h')(ht:∃ox,h'.get? x=some ox):CtxN x h':=by
 obtain ⟨ox,vs,e1,e2,e3⟩:=k;obtain ⟨ox',e1'⟩:=ht;obtain ⟨vs',q3,q4⟩:=(kd.at e1 e1').f vs e2;exact ⟨ox',vs',e1',q3,q4.trans e3⟩
def ZgP(p:Option Addr)(x:Addr)(H':Hp)(h0 h:Heap):Prop:=(p=none->CtxN x h)/\∀n,p=some n->∃ox d m,h.get? x=some ox/\ox.dict=some d/\h.Ns1 d m/\(∀g,RelO (([("at", V.int ((n/2:Nat):Int))]:List (Str×V)).lookup g) (m g))/\H' d=none/\h0.get? d=none/\d≠x/\(n%2=0->∃vs,ox.data=.fields vs/\vs[2]?=some .none)
def ZgP.no{x:Addr}(k:CtxN x h):ZgP none x H' h0 h:=⟨λ_=>k,λ_ z=>by cases z⟩
def Zmm{h h':Heap}(x:h.UpToSlots h')(hn:h.Ns1 a m):h'.Ns1 a m:=by
 obtain ⟨o,es,ep,ho,hd,r⟩:=hn;obtain ⟨sl,hs⟩:=x a o ho λvs q=>by rw [hd] at q;cases q
 exact ⟨_,es,ep,hs,hd,r⟩
def ZgP.on{x:Addr}(k:ZgP p x H' h0 h)(kd:KD h h')(sm:h.UpToSlots h')(ht:∃ox,h'.get? x=some ox)(h01:∀b o,h1.get? b=some o->∃o',h0.get? b=some o'):ZgP p x H' h1 h':=⟨λe=>(k.1 e).on kd ht,λn e=>by
 obtain ⟨ox,d,m,e1,e2,e3,e4,e5,e6,e7,e8⟩:=k.2 n e;obtain ⟨ox',e1'⟩:=ht;refine ⟨ox',d,m,e1',(kd.at e1 e1').d.trans e2,Zmm sm e3,e4,e5,?_,e7,λz=>?_⟩
 rotate_left
 ·obtain ⟨vs,q1,q2⟩:=e8 z;obtain ⟨vs',q3,q4⟩:=(kd.at e1 e1').f vs q1;exact ⟨vs',q3,q4.trans q2⟩
 cases q:h1.get? d with
 | none=>rfl
 | some o =>
  obtain ⟨o',z⟩:=h01 d o q
  rw [e6] at z;cases z⟩
def CXR(P:Program)(w:World):CXT:=λouter H s E e s'=>∃x cls p H',e=.ref x/\Fly P w outer H H' s s' x cls/\ZgP p x H' s.heap s'.heap/\E cls p H'
section
variable       {qual:Str} {scope:Scope} {f:Addr} {cd:Value}  {outer:List Env} {s₀:Shared} {H₀:Hp} {E:XK}
def Zau:Zbi (CXR P w) (cxOf (CXR P w) P w K mg base N qual scope f cd A outer s₀ H₀ E) E:=by
 intro pins σ H s e s' I h;obtain ⟨x,cls,p,H',rfl,F,py,q⟩:=h;obtain ⟨B,a0,fl,cov⟩:=F.ex;show wpAny (model P w) (A.deeper (envOfC qual scope s₀.heap.objs.size f cd)) (leaving (envOfC qual scope s₀.heap.objs.size f cd) (.ref x)) _ _ s';refine Vav (ZeR (Zdo _ _) (wpAny_leaves_onW (Q:=λ_ s2=>∃h',s2={ s' with heap:=h' }/\Heap.FlyingW B outer x cls a0 h'/\s'.heap.UpToSlots h') I.ok.frames rfl fl λh' fl' sm=>⟨h',rfl,fl',sm⟩)) (λ_ s2 z=>?_) λ_ _ z=>z.1
 obtain ⟨⟨h',rfl,fl',sm⟩,kd⟩:=z;exact ⟨x,cls,p,H',rfl,I.flyOut rfl F fl cov fl' sm,py.on kd sm (let ⟨o,e,_⟩:=fl'.there;⟨o,e⟩) (λb o e=>I.base.there b o e (λz=>nomatch z)),q⟩
end
abbrev Zg4:List Value:=[.type "ValueError", .type "Exception", .type "BaseException", .type "object"]
def Zqp(X:K.In h₀)(m:mg x=some (.ref C))(q:W.excIn K C bmB newId=true):OwnCls x C bmB newId mg h₀:=by
 refine ⟨m,?_⟩;unfold W.excIn at q;split at q
 ·rename_i dd cd sl ho;split at q
  ·rename_i C' bm k0 k1 k2 k3 n k5 hm hs;simp only [Vbf,VaL,Bool.not_eq_true'] at q;obtain ⟨⟨⟨⟨⟨rfl,rfl⟩,hdel⟩,ht⟩,hok⟩,hni⟩:=q;obtain ⟨nm,bs,mro,ns,qn,hd,sn,sub,ab,col,del⟩:=cd;dsimp only at hm hdel hok hni;subst hm hdel;have hsl:sl=#[k0,k1,k2,k3,some (.builtin n),k5]:=by
    obtain ⟨l⟩:=sl;simp only at hs;rw [hs]
   subst hsl;exact ⟨bm,ns,nm,qn,bs,hd,sn,sub,ab,col,dd,k0,k1,k2,k3,k5,_,X _ _ ho,.of_isNs (W.isNs_of_in X hok),W.nsMap_none_of_in X hok hni,W.tail_of_in X ht⟩
  ·cases q
 ·cases q
section
def Inv.flyMade(I:Inv X pins σ H s)(hex:X.ex=[])(hst:X.stack=X.env::X.outer)(hfr:X.env.frame=some X.env.locals){x:Addr}{s1:Shared}(e1:s1={ s with heap:=h1,toks:=s1.toks })(hx:Heap.MadeExcOf s.heap h1 x cls args)(k:∀s2,Fly X.prog X.w X.outer X.H₀ H X.s₀ s2 x cls->CtxN x s2.heap->Q () s2):wpAny (model X.prog X.w) X.A (leaving X.env (.ref x)) Q E s1:=by
 have hin:∀env∈X.stack,∀b,env.frame=some b->b∈frs X.stack:=λenv he b hb=>VaJ.mpr ⟨env,he,hb⟩;have hh1:s1.heap=h1:=by rw [e1]
 refine Vav (ZeR (Zdo _ _) (wpAny_leaves_madeW (Q:=λ_ s2=>∃h2 t,s2={ s1 with heap:=h2 }/\Heap.FlyingW (W.hideAll s.heap (frs X.stack)) X.outer x cls (.ref t) h2/\s1.heap.UpToSlots h2) (base:=W.hideAll s.heap (frs X.stack)) (h:=s.heap) (outer:=X.outer) (by rw [<-hst];exact I.ok.frames) hfr (λb o q=>Vah _ q) (by rw [<-hst];exact W.funFrames_hide I.stack hin) (by rw [hh1];exact hx) λh2 t fl _ _ sm=>⟨h2,t,rfl,fl,sm⟩)) (λ_ s2 z=>?_) λ_ _ z=>z.1
 obtain ⟨⟨h2,t,rfl,fl,sm⟩,kd⟩:=z;refine k _ ?_ (CtxN.on (by rw [hh1];exact let ⟨t,e,_⟩:=hx.there;⟨_,_,e,rfl,rfl⟩) kd (let ⟨o,e,_⟩:=fl.there;⟨o,e⟩));have F:Fly X.prog X.w X.outer X.H₀ H X.s₀ { s with heap:=h2 } x cls:=by
  refine Zlo (B:=W.hideAll s.heap (frs X.stack)) I.os I.bare (I.unStack hex I.sub) I.hok I.stkFree (λb hb=>(I.stack.mem hb).2) (λb o e _ hb=>Vag _ e hb) I.sub (λb h1 h2=>?_) fl ((Heap.UpToSlots.of_keeps hx.keeps).trans (by rw [<-hh1];exact sm)) (I.hok.free hx.new);rcases Vaq.mp (I.stkSub b h1) with e | e
  ·rw [e];exact Vap I.ok.above
  ·exact absurd e h2
 refine ⟨?_,?_,F.un,F.hok,F.frf,F.free,F.ex⟩
 ·rw [e1];exact I.os
 ·rw [e1];exact I.bare
end
section
variable       {qual:Str} {scope:Scope} {f:Addr} {cd:Value}  {outer:List Env} {s₀:Shared} {H₀:Hp} {E:XK}
def ZnB(E:XK)(C:Addr)(te:TA):TS:=λ_ σ H=>te σ H λvs H1=>vs.length<=1000/\E (.ref C) none H1
def ZmG(hg:Gl (cxOf (CXR P w) P w K mg base N qual scope f cd A outer s₀ H₀ E) x)(hm:mg x=some (.ref C))(hq:W.excIn K C Zg4 "ValueError.__new__"=true)(ha:PA (cxOf (CXR P w) P w K mg base N qual scope f cd A outer s₀ H₀ E) (e::es) t)(hd:(x==("__debug__" : Str))=false:=by decide)(he:starEach (e::es) (cxOf (CXR P w) P w K mg base N qual scope f cd A outer s₀ H₀ E).env=(false,eval e (cxOf (CXR P w) P w K mg base N qual scope f cd A outer s₀ H₀ E).env)::starEach es (cxOf (CXR P w) P w K mg base N qual scope f cd A outer s₀ H₀ E).env:=by rfl)(hpl:(backTo cpos (starEach es (cxOf (CXR P w) P w K mg base N qual scope f cd A outer s₀ H₀ E).env)).any (·.1)=false:=by rfl) :
  PS (cxOf (CXR P w) P w K mg base N qual scope f cd A outer s₀ H₀ E) (.Raise (some (.Call (.Name x np) (e::es) [] cpos)) none pos) (ZnB E C t):=by
 intro pins s σ H D I h;obtain ⟨tl,Nn,nm,q,bs,hdct,sn,sub,ab,col,dd,k0,k1,k2,k3,k5,mN,hC,hN,hni,T⟩:=(Zqp I.mod.kin hm hq).obj;refine wpAny_Raise_call_subU (C:=C) (nm:=nm) (q:=q) (N:=Nn) (bs:=bs) (bm:=tl) (hdct:=hdct) (sn:=sn) (sub:=sub) (ab:=ab) (col:=col) (dd:=dd) (k0:=k0) (k1:=k1) (k2:=k2) (k3:=k3) (k5:=k5)
  PySem.F.excBase_ValueError (bmB:=Zg4) (by decide +kernel) PySem.F.excBase_ValueError (mN:=mN) (T.hasType PySem.F.excBase_ValueError.hasBase) (I.ok.hd rfl) (by rw [he];show (false||(backTo cpos (starEach es _)).any (·.1))=false;rw [hpl];rfl) hni (ZeI I hg hm ⟨rfl,?_⟩ hd)
 have hw:=ha cpos pins s σ H _ I h;rw [he] at hw ⊢;refine Calls.evalArgs_plain (Vav hw (λus s2 z=>?_) λ_ _ y=>y);obtain ⟨vs,H2,I2,rv,hl,q2⟩:=z;refine ⟨rfl,by rw [<-rv.length];exact Vak (Zlz hl),I2.bk _ _ hC,hN.keeps I2.bk,T.keeps I2.bk,λh' ex hx=>?_⟩;exact I2.flyMade rfl rfl rfl rfl hx λs3 F cx=>⟨ex,.ref C,none,H2,rfl,F,.no cx,q2⟩
end
def ExcAt(a:Addr)(C:Value)(h:Heap):Prop:=∃ob,h.get? a=some ob/\ob.cls=C
def exO(a:Addr)(C:Value):HO:=.ext (ExcAt a C)
end L2
namespace L2
open PySem.Calls
def Zqm(e:ExcAt a C h):Zbt P w H h a (exO a C) :=
 ⟨e,e.imp λ_ z=>z.1,λ_ _ ⟨o,q,c⟩ k=>⟨o,k o q,c⟩⟩
def ExcAt.ty(e:ExcAt a C h):W.Looks M h (typeOf (.ref a)) C:=by
 obtain ⟨o,h1,h2⟩:=e;exact h2▸(W.Looks.ld h1).andThen .now
structure Zia(K:W.Frag)(D:Addr):Prop where
 g:W.findIn K (.ref D) "__getattribute__"=some (some (.builtin "BaseException.__getattribute__"))
 n:W.findIn K (.ref D) "__getattr__"=some none
 b:W.mroIn K D (.type "BaseException")=some true
 d:W.hasDictIn K D=true
 f:W.findIn K (.ref D) "__class__"=some (some (.builtin "object.__class__"))
 s:W.specialIn K (.builtin "object.__class__") "__get__"=some (some (.builtin "getset_descriptor.__get__"))
 t:W.takesIn K (.builtin "object.__class__")=some true
 m:W.mroIn K D (.type "object")=some true
section
open PySem.Builtin PySem.Builtin.ObjectAttr PySem.Builtin.Getset_descriptor PySem.W
variable{prog:Program}   {E:Value->Shared->Prop}   {x D:Addr} {name:Str} {M:Model} {h:Heap}
def Zma(XI:K.In h)(ha:W.findIn K (.ref D) name=some (some a))(hg:W.specialIn K a "__get__"=some (some g))(ht:W.takesIn K a=some true):W.Looks M h (find v (.ref D) name) (.bind g a):=by
 have q1:=W.looks_findIn (M:=M) XI ha;have q2:W.Looks M h (getOf (some a)) (some g):=W.looks_specialIn XI hg;have q3:W.Looks M h (dataDescriptor? (some a) (some g)) (some (g,a)):=(W.looks_takesIn (M:=M) XI ht).andThen .now;exact q1.andThen (q2.andThen (q3.andThen (W.Looks.tag .now)))
def Zm2{nameV:Value}{Q:Unit->Shared->Prop}{hh:Heap}{gg:Array GenState}{dd:Drawn}{tt:Nat}{os:OsState}(t0:Looks M hh (typeOf (.ref x)) (.ref D))(t5:Looks M hh (isSubtype (.ref D) (.type "BaseException")) true)(hq:Q () ⟨hh,gg,dd,tt,os⟩) :
  wpAny M A (checkBuiltinCall "BaseException.__getattribute__" ⟨[.ref x,nameV],[]⟩) Q E ⟨hh,gg,dd,tt,os⟩:=by
 have hk:builtinKind "BaseException.__getattribute__"=some .slot:=by decide +kernel
 have hsp:splitId "BaseException.__getattribute__"=some ("BaseException", "__getattribute__"):=by decide +kernel
 have hargs:=F.args_bexc_ga (.ref x) nameV;simp only [checkBuiltinCall,hk,hsp];refine Vaz ?_;unfold isInstance;refine Vaz (t0.at (t5.at ?_))
 repeat (first | wp_step)
 exact hq
def ZmB{tk:Tok}{Q:Fin->Shared->Prop}{hh:Heap}{gg:Array GenState}{dd:Drawn}{tt:Nat}{os:OsState}(t0:Looks (model prog w) hh (typeOf (.ref x)) (.ref D))(t2:Looks (model prog w) hh (find (.ref x) (.ref D) "__class__") (.bind (.builtin "getset_descriptor.__get__") (.builtin "object.__class__")))(t4:Looks (model prog w) hh (isSubtype (.ref D) (.type "object")) true)(hq:Q (.done (.ret (.ref D))) ⟨hh,gg,dd,tt,os⟩) :
  wpAny (model prog w) A (Builtin.«object.__getattribute__» ⟨[.ref x,.str "__class__" tk],[]⟩) Q E ⟨hh,gg,dd,tt,os⟩:=by
 unfold Builtin.«object.__getattribute__»;refine Vaz (VaE (Vaz (VaE (Vaz (t0.at (Vaz (t2.at ?_)))))));show wpAny _ _ (bindTo (.builtin "getset_descriptor.__get__") (.builtin "object.__class__") (.ref x) (.ref D)) _ _ _;unfold bindTo
 repeat (first | with_reducible refine Vaz ?_ | with_reducible refine VaA ?_)
 refine wpAny_call (codeAny_call_builtin KF.slot_gs.plain KF.entry_gs (KF.slot_gs.check _ _ _ _ _ _ _ _ KF.type_class (KF.args_gs _ _ _) ?_));unfold Builtin.«getset_descriptor.__get__» descrGet;rw [dga_obj];refine Vaz (VaE ?_);unfold descrGetter descrCheckInstance descrNameAndClass isInstance;simp only [KF.owner_class]
 repeat lk
 refine ⟨Code.quiet_builtin _ (by decide +kernel),Vbw KF.entry_class ?_⟩;unfold Builtin.«object.__class__» shownTypeOf
 repeat lk
 exact hq
def Zlh(XI:K.In s.heap)(I:ExcAt x (.ref D) s.heap)(C:Zia K D)(hQ:Q (some (.ref D)) { s with toks:=s.toks+1 }):wpAny (model prog w) A (getAttr? (.ref x) "__class__") Q E s:=by
 obtain ⟨hh,gg,dd,tt,os⟩:=s;have t0:=I.ty (M:=model prog w);have t1:=W.looks_findIn (M:=model prog w) XI C.g;have t2:=Zma (M:=model prog w) (v:=.ref x) XI C.f C.s C.t;have t3:=W.looks_findIn (M:=model prog w) XI C.n;have t4:=W.looks_mroIn (M:=model prog w) XI C.m;have t5:=W.looks_mroIn (M:=model prog w) XI C.b;have t6:=(F.excAttr_ValueError.ga).bind (.ref x);unfold getAttr? getAttrBy? getAttrBy;refine Vaz (wpAny_mkText (Vaz (wpAny_attempt (VaA (Vaz (t0.at (Vaz (t1.at ?_))))))));show wpAny _ _ (getAttrByItsOwn (.ref x) (.str "__class__" tt) (.ref D) (.builtin "BaseException.__getattribute__") false false) _ _ _;unfold getAttrByItsOwn hookBefore callGetattribute boundAndCalled;rw [if_pos (show onTheHeap (Value.ref D)=true from rfl)];refine Vaz (t3.at (Vaz (wpAny_attempt (VaA ?_))));rw [if_neg (show ¬(false&&onTheHeap (Value.builtin "BaseException.__getattribute__"))=true from VaC),t6];refine Vaz (VaE (wpAny_call ?_));refine codeAny_call_builtin F.excAttr_ValueError.ga.plain F.entry_bexc_ga (Zm2 t0 t5 (ZmB t0 t2 t4 ?_));exact handed_on rfl (VaE hQ)
def Zi7(C:Zia K D):KitX K (.ref x) (.ref D) (ExcAt x (.ref D)) where
 ty:=λ_ _ _ I=>I.ty
 it:=λ_ _ XI _=>by
  obtain ⟨cd,hc,_⟩:=any_some C.d;unfold clsIn at hc;split at hc
  ·rename_i c1 c2 c3 c4 ho;intro _ _ _ _ k q;unfold isType loadHead;exact Vaz (wpAny_loadPart (k _ _ (XI _ _ ho)) (VaE q))
  ·cases hc
 ne:=λh tp dd its n sl XI htp=>by
  obtain ⟨cd,hc,_⟩:=any_some C.d;refine Bool.eq_false_iff.mpr λq=>?_;have e:D=tp:=Value.ref.inj (VaL.mp q);subst e;unfold clsIn at hc;split at hc
  ·rename_i c1 c2 c3 c4 ho;have z:=(XI _ _ ho).symm.trans htp;cases z
  ·cases hc
 ca:=λXI I k=>Zlh XI I C k
end
def Cx.inX(X:Cx)(e:Addr):Cx:={ X with A:=X.A.mark (some (.ref e)),calm:=false,xe:=λ_ _=>False }
section
variable    {H':Hp} {s':Shared} {x:Addr} {cls:Value}
def Cx.Ok.inX(ok:X.Ok)(e):(X.inX e).Ok :=
 ⟨ok.mod,ok.kind,ok.glob,ok.blt,ok.above,ok.inj,ok.has,ok.cab,(λz=>nomatch z),ok.frames,ok.stk,ok.exf,ok.bs,ok.bsz,ok.noex,ok.exfs,ok.funs,ok.frf⟩
def Inv.inX(I:Inv X pins σ H s)(e):Inv (X.inX e) pins σ H s:=⟨I.ok.inX e,I.os,I.bare,I.base,I.loc,I.cell,I.free,I.freeC,I.pin,I.hok,I.len⟩
def Inv.outX{e:Addr}(I:Inv (X.inX e) pins σ H s)(ok:X.Ok):Inv X pins σ H s:=⟨ok,I.os,I.bare,I.base,I.loc,I.cell,I.free,I.freeC,I.pin,I.hok,I.len⟩
def Inv.goes{n:Str}(I:Inv X pins σ H s)(hN:X.N.Nodup)(hi:X.N[i]?=some n)(hk:X.env.kindOf n=some .local)(h:∀s',Inv X pins (σ.set i none) H s'->Q () s'):wpAny M A (do bindName X.env n .none;unbindBehindTheSuite X.env n pos) Q E s:=by
 obtain ⟨m,hn,hl⟩:=id I.loc;have hcls:(X.env.scope.kind==.class||(X.env.scope.kind==.module&&X.env.locals != X.env.globals))=false:=by rw [I.ok.kind];rfl
 have hiσ:i<σ.length:=by rw [I.len];exact (Vat.mp hi).1
 have cne:=I.cne;obtain ⟨oL,_,_,hoL,_⟩:=id hn;refine wpAny_nameGoes_keeps hk hn hcls λh' v hn' hs=>?_;have low:∀b o,X.s₀.heap.get? b=some o->b≠X.env.locals:=λb o e=>Vaf (Vad (Vac e) I.ok.above);refine h _ ⟨I.ok,I.os,I.bare,⟨λb o e n hb hx=>?_,λb o e n hb hx=>?_,I.base.free,λb o e hx=>?_,I.base.tups,I.base.frzs,I.base.tbls⟩,⟨_,hn',λj y v' e1 e2 e3=>?_⟩,λy c e=>?_,I.free,I.freeC,λp hp=>?_,λb ob e=>?_,by simpa using I.len⟩
 ·exact (hs.2 b (low b o e)).trans (I.base.keep b o e n hb hx)
 ·obtain ⟨sl,e1⟩:=I.base.slot b o e n hb hx;exact ⟨sl,(hs.2 b (low b o e)).trans e1⟩
 ·obtain ⟨o',e1⟩:=I.base.there b o e hx;exact ⟨o',(hs.2 b (low b o e)).trans e1⟩
 ·by_cases hj:j=i
  ·subst hj;rw [List.getElem?_set_self hiσ] at e2;cases e2
  ·rw [List.getElem?_set_ne (Ne.symm hj)] at e2;obtain ⟨u',r',q⟩:=hl j y v' e1 e2 e3;refine ⟨u',r',?_⟩;rcases q with ⟨k,e⟩ | ⟨k,c,e,z⟩
   ·refine .inl ⟨k,?_⟩;have ny:y≠n:=λe=>hj (Zdq hN e1 (e▸hi));simp [ny,e]
   ·exact .inr ⟨k,c,e,z.sameBut hs (cne y c e)⟩
 ·obtain ⟨w',z⟩:=I.cell y c e;exact ⟨w',z.sameBut hs (cne y c e)⟩
 ·obtain ⟨e,n,ne,nf,d⟩:=I.pin p hp;exact ⟨(hs.2 p.1 ne).trans e,n,ne,nf,d⟩
 ·refine (I.hok b ob e).stay (λc w' hc q=>(hs.2 c ?_).trans q) (λ_ q=>q) λ_ _ q=>q;rintro rfl;rcases hc with rfl | hc
  ·rw [I.free] at e;cases e
  ·rw [I.free] at hc;cases hc
def Inv.landed(I:Inv X pins σ H s)(F:Fly X.prog X.w X.stack H H' s s' x cls):Inv X pins σ H' s':=I.call' (ch:=[]) F.os F.un F.hok F.bare λ_ z=>nomatch z
def Inv.caught(I:Inv X pins σ H s)(F:Fly X.prog X.w X.stack H H' s s' x cls):Inv X pins σ (upd H' x (exO x cls)) s':=by
 obtain ⟨B,a0,fl,cov⟩:=F.ex;have ex:ExcAt x cls s'.heap:=fl.there;have nx:s.heap.get? x=none:=by
  cases q:s.heap.get? x with
  | none=>rfl
  | some o =>
   obtain ⟨ob,q2,_⟩:=ex;have nf:x∉frs X.stack:=λz=>by
    obtain ⟨_,o',z1,z2⟩:=fl.2.2.1.mem z;obtain ⟨_,_,_,oe,vs,T,oT,ts,he,_,hd,_⟩:=fl;rw [he] at z1;cases z1;exact z2 _ hd
   have z:=cov x ob q2 (.inr ⟨o,q⟩) nf;rw [fl.2.1] at z;cases z
 have old:∀b o,s.heap.get? b=some o->b≠x:=λb o e z=>by rw [z,nx] at e;cases e
 have trk:∀b o,H' b=some o->b≠x:=λb o e z=>by rw [z,F.free] at e;cases e
 refine I.call' (ch:=[]) F.os ⟨F.un.keep,F.un.slot,λb o e n hx=>?_,F.un.there,λb xs e=>?_,λb o u e=>?_,λb ps e=>?_⟩ (λb o e=>?_) F.bare λ_ z=>nomatch z
 ·rw [Zad (old b o e)];exact F.un.free b o e n hx
 ·have z:=F.un.tups b xs e;rw [Zad (trk b _ z)];exact z
 ·have z:=F.un.frzs b o u e;rw [Zad (trk b _ z)];exact z
 ·obtain ⟨more,z⟩:=F.un.tbls b ps e;exact ⟨more,by rw [Zad (trk b _ z)];exact z⟩
 ·by_cases hb:b=x
  ·subst hb;rw [Zaf] at e;cases e;exact Zqm ex
  ·rw [Zad hb] at e;exact (F.hok b o e).stay (λ_ _ _ r=>r) (λc r=>by rw [Zad (trk c _ r)];exact r) λc xs r=>by rw [Zad (trk c _ r)];exact r
end
section
variable{M:Model}  {E:Value->Shared->Prop}   {env:Env} {outer l:List Env} {L e:Addr} {cls a0:Value} {Q:Unit->Shared->Prop}
def Zkq(hfr:A.frames=some (env::outer))(hf:env.frame=some L)(hfl:Heap.FlyingW base (env::outer) e cls a0 s.heap)(hQ:∀h',Heap.HeldW base (env::outer) e cls a0 L h'->s.heap.UpToSlots h'->KD s.heap h'->Q () { s with heap:=h' }):wpAny M A (noteFrame (.ref e) env) Q E s :=
 Vav (ZeR (ZiH _ _) (wpAny_looks_onW (Q:=λ_ s2=>∃h',s2={ s with heap:=h' }/\Heap.HeldW base (env::outer) e cls a0 L h'/\s.heap.UpToSlots h') (E:=E) hfr hf hfl λh' x1 x2=>⟨h',rfl,x1,x2⟩))
  (λ_ _ ⟨⟨h',z,x1,x2⟩,kd⟩=>by subst z;exact hQ h' x1 x2 kd) λ_ _ z=>z.1
def Zqd(hh:Heap.HeldW base l e cls a0 L s.heap)(hQ:∀h',Heap.FlyingW base l e cls a0 h'->s.heap.UpToSlots h'->KD s.heap h'->Q () { s with heap:=h' }):wpAny M A (setFlight (.ref e) none) Q E s :=
 Vav (ZeR (Zda _ _) (wpAny_landsW (Q:=λ_ s2=>∃h',s2={ s with heap:=h' }/\Heap.FlyingW base l e cls a0 h'/\s.heap.UpToSlots h') (E:=E) hh λh' x1 x2=>⟨h',rfl,x1,x2⟩))
  (λ_ _ ⟨⟨h',z,x1,x2⟩,kd⟩=>by subst z;exact hQ h' x1 x2 kd) λ_ _ z=>z.1
def Zqa(hh:Heap.FlyingW base l e cls a0 s.heap)(hQ:∀h',Heap.FlyingW base l e cls a0 h'->s.heap.UpToSlots h'->KD s.heap h'->Q () { s with heap:=h' }):wpAny M A (setFlight (.ref e) none) Q E s :=
 Vav (ZeR (Zda _ _) (lands_againW (Q:=λ_ s2=>∃h',s2={ s with heap:=h' }/\Heap.FlyingW base l e cls a0 h'/\s.heap.UpToSlots h') (E:=E) hh λh' x1 x2=>⟨h',rfl,x1,x2⟩))
  (λ_ _ ⟨⟨h',z,x1,x2⟩,kd⟩=>by subst z;exact hQ h' x1 x2 kd) λ_ _ z=>z.1
end
def ZlR(a:Addr)(C:Value)(d:Addr)(h:Heap):Prop:=∃ob,h.get? a=some ob/\ob.cls=C/\ob.dict=some d/\∃vs,ob.data=.fields vs
def exC(a:Addr)(C:Value)(d:Addr):HO:=.ext (ZlR a C d)
def Zp2(e:ZlR a C d h):Zbt P w H h a (exC a C d) :=
 ⟨e,e.imp λ_ z=>z.1,λ_ _ ⟨o,q,c⟩ k=>⟨o,k o q,c⟩⟩
def trkX(p:Option Addr)(x d:Addr)(cls:Value)(H:Hp):Hp:=match p with
 | none=>upd H x (exO x cls)
 | some n=>upd (upd H x (exC x cls d)) d (.xd [("at", .int (((show Nat from n)/2:Nat):Int))])
section
variable    {H':Hp} {s':Shared} {x:Addr} {cls:Value}
def Inv.caughtP(I:Inv X pins σ H s)(F:Fly X.prog X.w X.stack H H' s s' x cls)(py:ZgP p x H' s.heap s'.heap):∃d,(p.isSome=true->H' d=none/\d≠x)/\Inv X pins σ (trkX p x d cls H') s':=by
 cases p with
 | none=>exact ⟨0,(λz=>by cases z),I.caught F⟩
 | some n =>
  obtain ⟨ox,d,m,e1,e2,e3,e4,e5,e6,e7,_⟩:=py.2 n rfl;refine ⟨d,λ_=>⟨e5,e7⟩,?_⟩;obtain ⟨B,a0,fl,cov⟩:=F.ex;have ex:ZlR x cls d s'.heap:=by
   obtain ⟨ob,vs,z1,z2,z3,_⟩:=fl.first;rw [e1] at z1;cases z1;exact ⟨ox,e1,z2,e2,vs,z3⟩
  have nx:s.heap.get? x=none:=by
   cases q:s.heap.get? x with
   | none=>rfl
   | some o =>
    obtain ⟨ob,q2,_⟩:=ex;have nf:x∉frs X.stack:=λz=>by
     obtain ⟨_,o',z1,z2⟩:=fl.2.2.1.mem z;obtain ⟨_,_,_,oe,vs,T,oT,ts,he,_,hd,_⟩:=fl;rw [he] at z1;cases z1;exact z2 _ hd
    have z:=cov x ob q2 (.inr ⟨o,q⟩) nf;rw [fl.2.1] at z;cases z
  have old:∀b o,s.heap.get? b=some o->b≠x:=λb o e z=>by rw [z,nx] at e;cases e
  have oldd:∀b o,s.heap.get? b=some o->b≠d:=λb o e z=>by rw [z,e6] at e;cases e
  have trk:∀b o,H' b=some o->b≠x:=λb o e z=>by rw [z,F.free] at e;cases e
  have trkd:∀b o,H' b=some o->b≠d:=λb o e z=>by rw [z,e5] at e;cases e
  refine I.call' (ch:=[]) F.os ⟨F.un.keep,F.un.slot,λb o e n hx=>?_,F.un.there,λb xs e=>?_,λb o u e=>?_,λb ps e=>?_⟩ (λb o e=>?_) F.bare λ_ z=>nomatch z
  ·unfold trkX;dsimp only;rw [Zad (oldd b o e),Zad (old b o e)];exact F.un.free b o e n hx
  ·have z:=F.un.tups b xs e;unfold trkX;dsimp only;rw [Zad (trkd b _ z),Zad (trk b _ z)];exact z
  ·have z:=F.un.frzs b o u e;unfold trkX;dsimp only;rw [Zad (trkd b _ z),Zad (trk b _ z)];exact z
  ·obtain ⟨more,z⟩:=F.un.tbls b ps e;exact ⟨more,by unfold trkX;dsimp only;rw [Zad (trkd b _ z),Zad (trk b _ z)];exact z⟩
  ·unfold trkX at e;dsimp only at e;by_cases hd:b=d
   ·subst hd;rw [Zaf] at e;cases e;exact ⟨m,e3,e4⟩
   ·rw [Zad hd] at e;by_cases hb:b=x
    ·subst hb;rw [Zaf] at e;cases e;exact Zp2 ex
    ·rw [Zad hb] at e;exact (F.hok b o e).stay (λ_ _ _ r=>r) (λc r=>by unfold trkX;dsimp only;rw [Zad (trkd c _ r),Zad (trk c _ r)];exact r) λc xs r=>by unfold trkX;dsimp only;rw [Zad (trkd c _ r),Zad (trk c _ r)];exact r
end
def offI(i:Nat)(D:Ends):Ends:={ nx:=λσ H=>D.nx (σ.set i none) H,rt:=D.rt,bk:=λσ H=>D.bk (σ.set i none) H,ct:=λσ H=>D.ct (σ.set i none) H }
end L2
namespace L2
def Zk8(l)(items)(n)(sl)(b)(items2)(n2)(sl2)(hc0:items.size+items2.size<=sizeLine) :
  Meets (Builtin.«list.__add__» ⟨[.ref l,.ref b],[]⟩) (λ_ R s=>s.heap.get? l=some { cls:=.type "list", dict:=none,data:=.seq items n,slots:=sl }/\s.heap.get? b=some { cls:=.type "list", dict:=none,data:=.seq items2 n2,slots:=sl2 }/\R (.ok (.ret (Value.ref s.heap.objs.size))) { s with heap:=s.heap.push { cls:=Value.type "list", data:=Data.seq (items++items2) },toks:=s.toks }) :=
 .of_wp λprog w A R s h=>by obtain ⟨hp,g,d,tk,os⟩:=s;obtain ⟨hl,hb,h⟩:=h;have f1:=AutoSeq1.idx_int;have f2:=AutoSeq1.sub_tuple_tuple;have f3:=AutoSeq1.sub_list_list;have f4:=AutoSeq1.sub_tuple_list;have f5:=AutoSeq1.sub_list_tuple;wp_walk using AutoSeq1.wpAny_loadPart' hl,AutoSeq1.wpAny_loadPart' hb;exact ⟨_,rfl,h⟩
section
def Zmw(I:Inv X pins σ H s)(hH:SqL X.K H l xs)(hB:SqL X.K H b zs)(hz:xs.length+zs.length<=sizeLine)(q:∀p,H p=none->Q (.ref p) (upd H p (.lst (xs++zs)))) :
  wpAny (model X.prog X.w) X.A (binaryOp .Add (.ref l) (.ref b)) (EP X pins σ Q) X.xe s:=by
 obtain ⟨its,r,⟨⟨c1,d1,t1,sl1⟩,n,e,h1,h2,h3⟩,z⟩:=I.list hH;obtain ⟨its2,r2,⟨⟨c2,d2,t2,sl2⟩,n2,e2,g1,g2,g3⟩,z2⟩:=I.list hB;simp only at h1 h2 h3 g1 g2 g3;subst h1 h2 h3 g1 g2 g3;refine concat_meets ⟨_,e,rfl⟩ ⟨_,e2,rfl⟩ noFill_list_add seq_list_add F.slot_list_add F.entry_list_add (F.args_list_add_2 _ _) (Zk8 l its.toArray n sl1 b its2.toArray n2 sl2 (by rw [Va7,Va7,<-r.length,<-r2.length];exact hz)) ⟨e,e2,?_⟩;have ea:its.toArray++its2.toArray=(its++its2).toArray:=by simp
 rw [ea];exact ⟨.ref _,_,I.lnew (t':=s.toks) (r.append r2) (by rw [Va5];exact hz),rfl,q _ I.fresh⟩
def Zmz(I:Inv X pins σ H s)(ha:SqT X.K H a xs)(hb:SqT X.K H b ys)(hz:xs.length+ys.length<=sizeLine)(q0:xs=[]->Q (.ref b) H)(q1:xs≠[]->ys=[]->Q (.ref a) H)(q2:xs≠[]->ys≠[]->∀p,H p=none->Q (.ref p) (upd H p (.tup (xs++ys)))) :
  wpAny (model X.prog X.w) X.A (binaryOp .Add (.ref a) (.ref b)) (EP X pins σ Q) X.xe s:=by
 by_cases hx:xs=[]
 ·obtain ⟨its,r1,p1,_⟩:=I.tuple ha;obtain ⟨its2,r2,p2,_⟩:=I.tuple hb;have hi:its=[]:=r1.nil_iff.mpr hx;subst hi;obtain ⟨⟨cls,dd,data,sl⟩,ho,hc,n,hd⟩:=id p1;obtain ⟨⟨cls2,dd2,data2,sl2⟩,ho2,hc2,n2,hd2⟩:=id p2;simp only at hc hd hc2 hd2;subst hc hd hc2 hd2;exact concat_meets ⟨_,ho,rfl⟩ ⟨_,ho2,rfl⟩ noFill_tuple_add seq_tuple_add PySem.F.slot_tuple_add PySem.F.entry_tuple_add (PySem.F.args_tuple_add_2 _ _)
   (tuple_addW0 a b ([]:List Value).toArray its2.toArray n n2 dd dd2 sl sl2 rfl) ⟨ho,ho2,⟨.ref b,H,I,rfl,q0 hx⟩⟩
 ·exact ZoW pins s σ H (.ref a) (.ref b) _ _ Q I rfl rfl ⟨a,b,xs,ys,rfl,rfl,ha,hb,hx,hz,q1 hx,q2 hx⟩
end
end L2
namespace HT
section
variable{prog:Program}   {E:Value->Shared->Prop}
def ZdG{t sl:Addr}{items:Array Value}{vl vu:Value}{lo hi:Option Int}{Q:Value->Shared->Prop}(ht:IsTup s.heap t items)(hs:s.heap.IsSliceOf sl vl vu .none)(pl:IsPart vl lo)(pu:IsPart vu hi)(hw:sIx items.size 0 lo=0/\sIx items.size items.size hi=items.size)(h:Q (.ref t) s):wpAny (model prog w) A (getItem (.ref t) (.ref sl)) Q E s:=by
 obtain ⟨os,hos,hcs,hds⟩:=id hs;have hTs:s.TypeIs (.ref sl) "slice" := ⟨os,hos,hcs⟩;unfold getItem
 try with_reducible refine VaA ?_
 first | refine Vaz (VaE ?_) | skip
 refine Vaz (wpAny_sequenceKey ht.typeIs (by decide) ?_)
 refine Vaz (Vbb (name:=Str.ofString "__getitem__") ht.typeIs Vbc
  (Vbd Vbc ht.typeIs entry_tuple_getitem ?_ (args_tuple_getitem _ _)))
 show wpAny _ _ (Builtin.Tuple.tupleItemsOf (.ref t) >>= _) _ _ s;refine Vaz (tupleItemsOf_ ht ?_);refine Vaz (Vbe hTs ?_);rw [if_pos (by decide)];refine Vaz (ZcR hs pl pu ?_);have hyes:(((sIx items.size 0 lo:Nat):Int)==0&&(1:Int)==1&&(sIx items.size items.size hi - sIx items.size 0 lo)==items.size)=true:=by
  rw [hw.1,hw.2];simp
 show wpAny _ _ (if (((sIx items.size 0 lo:Nat):Int)==0&&(1:Int)==1&&(sIx items.size items.size hi - sIx items.size 0 lo)==items.size)=true then _ else _) _ _ s
 rw [if_pos hyes]
 first
  | exact Vaz (Vaz (Vbe ht.typeIs (VaE (by rw [if_pos (by decide)];exact Vaz (wpAny_rule (VaE ⟨_,rfl,VaE h⟩))))))
  | (refine Vaz (m:=Builtin.Tuple.tupleIsExact _) (Vaz (Vbe ht.typeIs (VaE ?_)))
     rw [if_pos (by decide)]
     trace_state
     exact Vaz (wpAny_rule (VaE ⟨_,rfl,VaE h⟩)))
end
end HT
namespace L2
section
def Inv.turnNew{fp:List Addr}{T:Addr}{o:HO}{h':Heap}{t':Nat}(I:Inv X pins σ H s)(k:∀b u,b∉fp->s.heap.get? b=some u->h'.get? b=some u)(hf:∀b∈fp,FpOk X pins H b)(hT:s.heap.objs.size<=T)(new:Zbt X.prog X.w (upd H T o) h' T o) :
  Inv X pins σ (upd H T o) { s with heap:=h',toks:=t' }:=by
 have hn:H T=none:=I.hok.fresh hT;have ntr:∀b u,H b=some u->b∉fp:=λb u e z=>by rw [(hf b z).1] at e;cases e
 refine I.call (g':=s.gens) (d':=s.drawn) (ch:=fp) ⟨λb u q _ _ hx=>k b u hx q,λb u q _ _ hx=>⟨u.slots,k b u hx q⟩,λb u q n _=>?_,λb u q hx=>⟨u,k b u hx q⟩,λb xs q=>?_,λb u xs q=>?_,λb ps q=>?_⟩ (λb u e=>?_) I.bare (λb hb=>?_)
 ·rw [Zad (Vaf (Vad (Vac q) hT))];exact n
 ·rw [Zad (Zae q hn)];exact q
 ·rw [Zad (Zae q hn)];exact q
 ·exact ⟨#[],by rw [Zad (Zae q hn),q];simp⟩
 ·by_cases hb:b=T
  ·subst hb;rw [Zaf] at e;cases e;exact new
  ·rw [Zad hb] at e;refine (I.hok b u e).stay (λc v hc q=>k c v ?_ q) (λc q=>by rw [Zad (Zae q hn)];exact q) λc xs q=>by rw [Zad (Zae q hn)];exact q
   rcases hc with rfl | hc
   ·exact ntr c u e
   ·exact ntr c _ hc
 ·obtain ⟨_,f1,_,f3,f4,f5⟩:=hf b hb;exact ⟨f3,f1,f4,f5⟩
def Inv.turnedL{fp:List Addr}{h':Heap}{t':Nat}(I:Inv X pins σ H s)(k:∀b u,b∉fp->s.heap.get? b=some u->h'.get? b=some u)(hf:∀b∈fp,FpOk X pins H b):Inv X pins σ H { s with heap:=h',toks:=t' }:=by
 have ntr:∀b u,H b=some u->b∉fp:=λb u e z=>by rw [(hf b z).1] at e;cases e
 refine I.call (g':=s.gens) (d':=s.drawn) (ch:=fp) ⟨λb u q _ _ hx=>k b u hx q,λb u q _ _ hx=>⟨u.slots,k b u hx q⟩,λb u q n _=>n,λb u q hx=>⟨u,k b u hx q⟩,λb xs q=>q,λb u xs q=>q,λb ps q=>⟨#[],by rw [q];simp⟩⟩ (λb u e=>?_) I.bare (λb hb=>?_)
 ·refine (I.hok b u e).stay (λc v hc q=>k c v ?_ q) (λc q=>q) λc xs q=>q;rcases hc with rfl | hc
  ·exact ntr c u e
  ·exact ntr c _ hc
 ·obtain ⟨_,f1,_,f3,f4,f5⟩:=hf b hb;exact ⟨f3,f1,f4,f5⟩
end
def Ite(K:W.Frag)(a:Addr):It :=
 ⟨λi H=>∃xs x,SqL K H a xs/\xs[i]?=some x,λi H x H'=>∃T p,H T=none/\x=.ref T/\H'=upd H T (.tup [.int i,p])/\∀xs,SqL K H a xs->xs[i]?=some p,λi H=>∃xs,SqL K H a xs/\xs.length<=i⟩
def ZlD{elts:List Expr}{x1:Nat}{a e it:Addr}(hei:e≠it):Turn P w K (.Tuple elts x1 pos) (Ite K a) [e,it] e (λi h=>(∃old,IsEnum h e it (i:Nat) old)/\h.IsListIter it a i) where
 mem:=by simp
 obj:=λi h st b hb=>by
  obtain ⟨⟨old,he⟩,o,ho,c,d⟩:=st;rcases Vaq.mp hb with rfl | hb
  ·exact ⟨_,he,λv z=>by cases z⟩
  ·have z:b=it:=by simpa using hb
   subst z;exact ⟨o,ho,λv z=>by rw [d] at z;cases z⟩
 keep:=λi h h' st k=>⟨⟨st.1.choose,k e (by simp) _ st.1.choose_spec⟩,st.2.at λo q=>k it (by simp) o q⟩
 item:=by
  intro X hP hw hK hc i pins s σ H E I hf st hg;subst hP hw hK;obtain ⟨⟨old,he⟩,hit⟩:=st;obtain ⟨xs,x,hq,hx⟩:=hg;obtain ⟨its,rv,p,hz⟩:=I.list hq;obtain ⟨u,hu,ru⟩:=rv.get hx;refine wpAny_pyNext_enum_item he hit p.isList (x:=u) (by simpa using hu) hei λh1 heo hit1 ht1 hz1 hk1=>⟨_,rfl,?_⟩;refine wpAny_letOwnedTupleGo_enum heo λh2 he2 hs2=>?_;have hsz:∀{c:Addr} {ob:Obj},s.heap.get? c=some ob->c≠s.heap.objs.size:=λq=>Vaf (Vac q);have eT:e≠s.heap.objs.size:=hsz he;have iT:it≠s.heap.objs.size:=by obtain ⟨_,q,_⟩:=id hit;exact hsz q
  have hs2':Heap.SameBut e h1 h2:=hs2;have hT:H s.heap.objs.size=none:=I.hok.fresh (VaH _);have I2:Inv X pins σ (upd H s.heap.objs.size (.tup [.int i,x])) { s with heap:=h2,toks:=s.toks+1 }:=by
   refine I.turnNew (fp:=[e,it]) (λb ob hb q=>?_) hf (VaH _) ?_
   ·have h1':b≠e:=λz=>hb (by simp [z]);have h2':b≠it:=λz=>hb (by simp [z]);exact hs2'.extBut b ob h1' (hk1 b ob h1' h2' q)
   ·have lt2:(2:Nat)<=sizeLine:=by decide
    exact ⟨lt2,[.int i s.toks,u],.cons ⟨_,rfl⟩ (.cons ru .nil),⟨_,hs2'.extBut _ _ (Ne.symm eT) ht1,rfl,_,rfl⟩⟩
  refine ⟨.ref s.heap.objs.size,_,I2,rfl,⟨_,x,hT,rfl,rfl,λys hy=>by rw [I.list_inj hy hq];exact hx⟩,⟨⟨_,he2⟩,hit1.extBut hs2'.extBut (Ne.symm hei)⟩,λb hb=>?_⟩;have nb:b≠s.heap.objs.size:=by
   rcases Vaq.mp hb with rfl | hb
   ·exact eT
   ·have z:b=it:=by simpa using hb
    subst z;exact iT
  rw [Zad nb];exact (hf b hb).1
 done:=by
  intro X hP hw hK hc i pins s σ H E I hf st hg;subst hP hw hK;obtain ⟨⟨old,he⟩,hit⟩:=st;obtain ⟨xs,hq,hx⟩:=hg;obtain ⟨its,rv,p,hz⟩:=I.list hq;have hl:=rv.length;refine wpAny_pyNext_enum_end (I.ok.hd hc) he hit p.isList (by simp;omega) λh' eb=>⟨rfl,?_⟩;exact I.turnedL (fp:=[e,it]) (t':=s.toks) (λb ob hb q=>eb b ob (λz=>hb (by simp [z])) q) hf
 self:=λ_ _ _ _ _ st h=>wpAny_pyIter_enum st.1.choose_spec h
def Zri(K:W.Frag)(ta:TA):TI:=λσ H R=>ta σ H λvs H1=>∃a,vs=[.ref a]/\(∃xs,SqL K H1 a xs)/\R (Ite K a) H1
def ZoU(hg:Gl X "enumerate")(hm:X.mg "enumerate"=none)(ha:PA X [a] ta)(hs:starEach [a] X.env=[(false,eval a X.env)]:=by rfl):PI X (.Tuple elts x1 tpos) (.Call (.Name "enumerate" p) [a] [] pos) (Zri X.K ta):=by
 intro pins s σ H R I h;refine Call_ (Zdt I hg hm Zhw (VaI (thn (ha pos pins s σ H _ I h) λus s1 ⟨vs,H1,I1,r1,q1⟩=>?_) hs rfl));obtain ⟨l,e,⟨xs,hq⟩,q⟩:=q1;subst e;cases r1 with
 | cons r rr =>
  cases rr;cases r;obtain ⟨its,rv,pl,hz⟩:=I1.list hq;refine call_enumerate_list pl.isList λh' he hit hsz hk=>?_;have hI:Inv X pins σ H1 { s1 with heap:=h' }:=I1.kept (t':=s1.toks) hk
  refine wpAny_pyIter_enum he ?_;refine ⟨s1.heap.objs.size+1,[s1.heap.objs.size+1,s1.heap.objs.size],_,Ite X.K l,H1,rfl,hI,ZlD (Nat.succ_ne_self _),⟨⟨_,he⟩,hit⟩,λb hb=>?_,q⟩;have hb':s1.heap.objs.size<=b:=by
   rcases Vaq.mp hb with rfl | hb
   ·exact Nat.le_succ _
   ·have z:b=s1.heap.objs.size:=by simpa using hb
    exact Nat.le_of_eq z.symm
  exact I1.fpOk hb' (I1.hok.fresh hb')
section
variable{prog:Program}   {E:Value->Shared->Prop}
def Zhd(hne:t≠it):∀n i s Q,s.heap.IsListIter it t i->s.heap.IsList t items->i+n<=items.size ->
  (∀h',h'.IsListIter it t (i+n)->Heap.SameBut it s.heap h'->Q ((items.toList.drop i).take n) { s with heap:=h' })->wpAny (model prog w) A (draw (.ref it) n) Q E s
 | 0,i,s,Q,hit,_,_,hQ=>by
  show wpAny _ _ (pure []) Q E s;exact VaE (by simpa using hQ s.heap hit (Heap.SameBut.refl ..))
 | n+1,i,s,Q,hit,ht,hle,hQ=>by
  have hlt:i<items.size:=by omega
  show wpAny _ _ (pyNext (.ref it) >>= _) Q E s;refine Vaz (wpAny_pyNext_list_item hit ht (x:=items[i]) (by simp [hlt]) λh₁ hit₁ hs₁=>?_);refine Vaz (VaA (Zhd hne n (i+1) _ _ hit₁ (ht.extBut hs₁.extBut hne) (by omega) λh₂ hit₂ hs₂=>VaE ?_));have hd:items.toList.drop i=items[i]::items.toList.drop (i+1):=by simp [Vbx,hlt]
  have:=hQ h₂ (by rw [show i+(n+1)=i+1+n by omega];exact hit₂) (hs₁.trans hs₂);rw [hd,List.take_succ_cons] at this;exact this
def Ze3(hh:A.handled=none)(ht:s.heap.IsList t items)(hQ:∀h',Heap.ExtBut s.heap.objs.size s.heap h'->Q items.toList { s with heap:=h' }):wpAny (model prog w) A (unpackItems (.ref t) items.size none) Q E s:=by
 have hlt:t≠s.heap.objs.size:=by obtain ⟨o,ho,_⟩:=ht;exact Vaf (Vac ho)
 unfold unpackItems;refine Vaz ?_
 ·unfold notIterableAtAll;refine Vaz (wpAny_specialOf ht.typeIs F.slot_list_iter.lookup ?_);refine VaE ?_;simp only [Vby,Va8];refine Vaz (VaA (Vbz ht ?_));refine Vaz (VaA (Zhd hlt items.size 0 _ _ ⟨_,VaG _ rfl,rfl,rfl⟩ (ht.push _) (by omega) λh₁ hit₁ hs₁=>?_));have hall:List.take items.size (List.drop 0 items.toList)=items.toList:=by
   rw [List.drop_zero];exact List.take_of_length_le (by simp)
  rw [hall];rw [if_neg (by simp)];have ht₁:h₁.IsList t items:=(ht.push _).extBut hs₁.extBut hlt;refine Vaz (VaA (wpAny_pyNext_list_end hh hit₁ ht₁ (by simp) λh₂ he₂=>?_));simp only [Option.isSome_none,Vby,Va8];refine VaE (hQ h₂ λb o hb e=>he₂ b o hb (hs₁.extBut b o hb (VaF _ e)))
def ZeP{x1}(hh:A.handled=none)(ht:s.heap.IsList t items)(hn:(assignEach elts env).length=items.size)(hstar:(assignEach elts env).findIdx? (·.1)=none)(h:∀h',Heap.ExtBut s.heap.objs.size s.heap h'->wpAny (model prog w) A (assignInOrder ((assignEach elts env).map (·.2)) items.toList) Q E { s with heap:=h' }) :
  wpAny (model prog w) A (assign (.Tuple elts x1 pos) env (.ref t)) Q E s:=by
 rw [assign_Tuple];refine Vaz (wpAny_standAt ?_);unfold unpack;rw [hn,hstar];exact Vaz (VaA (Ze3 hh ht h))
end
def ItK:Bool->Heap->Addr->Addr->Nat->Prop
 | false,h,a,l,i=>h.IsListIter a l i
 | true,h,a,l,i=>h.IsTupleIter a l i
def SqK:Bool->Heap->Addr->Array Value->Prop
 | false,h,a,xs=>h.IsList a xs
 | true,h,a,xs=>h.IsTuple a xs
def Zhq(p:Bool)(l:Addr):Obj:={ cls:=.type (if p then "tuple_iterator" else "list_iterator"),data:=.fields #[.ref l,.int 0 0] }
def ItK.extBut(x:ItK p h a l i)(hs:Heap.ExtBut b h h')(hab:a≠b):ItK p h' a l i:=by
 cases p
 ·exact Heap.IsListIter.extBut x hs hab
 ·exact Heap.IsTupleIter.extBut x hs hab
def ItK.at(x:ItK p h a l i)(k:∀o,h.get? a=some o->h'.get? a=some o):ItK p h' a l i:=by
 cases p
 ·obtain ⟨o,e,r⟩:=(show h.IsListIter a l i from x);exact ⟨o,k o e,r⟩
 ·obtain ⟨o,e,r⟩:=(show h.IsTupleIter a l i from x);exact ⟨o,k o e,r⟩
def ItK.flds(x:ItK p h a l i):∃o vs,h.get? a=some o/\o.data=.fields vs:=by
 cases p
 ·obtain ⟨o,e,_,d⟩:=(show h.IsListIter a l i from x);exact ⟨o,_,e,d⟩
 ·obtain ⟨o,e,_,d⟩:=(show h.IsTupleIter a l i from x);exact ⟨o,_,e,d⟩
def ItK.new(e:h.get? a=some (Zhq p l)):ItK p h a l 0:=by
 cases p
 ·exact ⟨_,e,rfl,rfl⟩
 ·exact ⟨_,e,rfl,rfl⟩
def SqK.extBut{xs:Array Value}(x:SqK p h a xs)(hs:Heap.ExtBut b h h')(hab:a≠b):SqK p h' a xs:=by
 cases p
 ·exact Heap.IsList.extBut x hs hab
 ·exact Heap.IsTuple.extBut x hs hab
def SqK.push{xs:Array Value}(x:SqK p h a xs)(o):SqK p (h.push o) a xs:=by
 cases p
 ·exact Heap.IsList.push x o
 ·exact Heap.IsTuple.push x o
section
variable{prog:Program}   {E:Value->Shared->Prop}
def Zox{xs:Array Value}(x:SqK p s.heap l xs)(h:Q (.ref s.heap.objs.size) { s with heap:=s.heap.push (Zhq p l) }):wpAny (model prog w) A (pyIter (.ref l)) Q E s:=by
 cases p
 ·exact Vbz x h
 ·exact wpAny_pyIter_tuple x h
def ZjS{zs}{x:Value}(ki:s.heap.IsTupleIter ia la i)(kl:s.heap.IsTuple la zs)(kx:zs[i]?=some x)(kQ:∀h',h'.IsTupleIter ia la (i+1)->Heap.SameBut ia s.heap h'->Q x { s with heap:=h' }) :
  wpAny (model prog w) A (Builtin.SmallTypes.nextOf (.ref ia)) Q E s:=by
 obtain ⟨ob,ko,kc,kd⟩:=id ki;obtain ⟨oq,kol,_,nq,kdl⟩:=kl;unfold Builtin.SmallTypes.nextOf
 refine Vaz (Vbb (name:=Str.ofString "__next__") ki.typeIs VbA
  (Vbd VbA ki.typeIs F.entry_tuple_iterator_next ?_ (F.args_tuple_iterator_next_1 _)))
 show wpAny _ _ (field (.ref ia) 0 >>= _) _ _ s;refine Vaz (Vba ko kd (x:=.ref la) rfl ?_);show wpAny _ _ (if (Value.ref la==Value.none)=true then _ else _) _ _ s
 rw [if_neg (show ¬((Value.ref la==Value.none)=true) from VaC)];show wpAny _ _ (field (.ref ia) 1 >>= _) _ _ s;refine Vaz (Vba ko kd (x:=.int i 0) rfl ?_);show wpAny _ _ (seqItems? (.ref la) >>= _) _ _ s;refine Vaz (VbB kol kdl ?_);simp only [Int.toNat_natCast,kx];refine Vaz (VbC ko kd (by simp) (VaE ⟨x,rfl,VaE (kQ _ ?_ (VbD ..))⟩))
 exact ⟨_,Vbh _ ko (Obj.isFreed_of_fields (VbE kd _)),(Obj.cls_mapFields ..).trans kc,by
  rw [VbE kd];simp [rawInt]⟩
def Zkp{zs}(kh:A.handled=none)(ki:s.heap.IsTupleIter ia la i)(kl:s.heap.IsTuple la zs)(kx:zs[i]?=none)(kE:∀h' e,Heap.ExtBut ia s.heap h'->(∃ob,h'.get? e=some ob/\ob.cls=.type "StopIteration")->E (.ref e) { s with heap:=h' }) :
  wpAny (model prog w) A (Builtin.SmallTypes.nextOf (.ref ia)) Q E s:=by
 obtain ⟨ob,ko,kc,kd⟩:=id ki;obtain ⟨oq,kol,_,nq,kdl⟩:=kl;unfold Builtin.SmallTypes.nextOf
 refine Vaz (Vbb (name:=Str.ofString "__next__") ki.typeIs VbA
  (Vbd VbA ki.typeIs F.entry_tuple_iterator_next ?_ (F.args_tuple_iterator_next_1 _)))
 show wpAny _ _ (field (.ref ia) 0 >>= _) _ _ s;refine Vaz (Vba ko kd (x:=.ref la) rfl ?_);show wpAny _ _ (if (Value.ref la==Value.none)=true then _ else _) _ _ s
 rw [if_neg (show ¬((Value.ref la==Value.none)=true) from VaC)];show wpAny _ _ (field (.ref ia) 1 >>= _) _ _ s;refine Vaz (Vba ko kd (x:=.int i 0) rfl ?_);show wpAny _ _ (seqItems? (.ref la) >>= _) _ _ s;refine Vaz (VbB kol kdl ?_);simp only [Int.toNat_natCast,kx];refine Vaz (wpAny_rule (Vaz (VbC ko kd (by simp) ?_)));show wpAny _ _ (newExc (.type "StopIteration") [] >>= _) _ _ _;refine Vaz ?_;simp only [newExc,newTuple];refine Vaz (Vbg ?_ (by size_fits));refine Vaz (m:=firstArgMember _ _) (wpAny_of_eq (a:=Value.none) (by first | rfl | (simp only [firstArgMember];rfl)) ?_)
 refine Vbg ?_ (by size_fits);simp only [raiseNew];refine Vaz (wpAny_handled ?_)
 first | rw [show A.in1.handled=none from kh] | rw [kh]
 refine Vaz (VaE (wpAny_throw ?_));exact kE _ _ (((VbD ..).extBut.push _).push _) ⟨_,VaG _ rfl,rfl⟩
def ZaS{x:Value}(ki:ItK p s.heap ia la i)(kl:SqK p s.heap la zs)(kx:zs[i]?=some x)(kQ:∀h',ItK p h' ia la (i+1)->Heap.SameBut ia s.heap h'->Q x { s with heap:=h' }):wpAny (model prog w) A (Builtin.SmallTypes.nextOf (.ref ia)) Q E s:=by
 cases p
 ·exact wpAny_nextOf_list_item ki kl kx kQ
 ·exact ZjS ki kl kx kQ
def Zct(kh:A.handled=none)(ki:ItK p s.heap ia la i)(kl:SqK p s.heap la zs)(kx:zs[i]?=none)(kE:∀h' e,Heap.ExtBut ia s.heap h'->(∃o,h'.get? e=some o/\o.cls=.type "StopIteration")->E (.ref e) { s with heap:=h' }):wpAny (model prog w) A (Builtin.SmallTypes.nextOf (.ref ia)) Q E s:=by
 cases p
 ·exact wpAny_nextOf_list_end kh ki kl kx kE
 ·exact Zkp kh ki kl kx kE
end
def SqB(K:W.Frag):Bool->Hp->Addr->List V->Prop
 | false,H,a,xs=>SqL K H a xs
 | true,H,a,xs=>SqT K H a xs
def SqK.here{xs:Array Value}(x:SqK p h a xs):∃o,h.get? a=some o:=by
 cases p
 ·obtain ⟨o,e,_⟩:=(show h.IsList a xs from x);exact ⟨o,e⟩
 ·obtain ⟨o,e,_⟩:=(show h.IsTuple a xs from x);exact ⟨o,e⟩
def Inv.seqB(I:Inv X pins σ H s)(h:SqB X.K p H a xs):∃its,Vals xs its/\SqK p s.heap a its.toArray/\xs.length<=sizeLine:=by
 cases p
 ·obtain ⟨its,rv,pl,hz⟩:=I.list h;exact ⟨its,rv,pl.isList,hz⟩
 ·obtain ⟨its,rv,pl,hz⟩:=I.tuple h;exact ⟨its,rv,pl,hz⟩
end L2
namespace Dl
inductive D where
 | non | bl (b:Bool) | int (i:Int) | str (x:Str) | ty (n:String) | cls (c:Str)
 | tup (xs:List D) | lst (xs:List D) | exc (c:Str) | ins (c:Str) (ns:List Str) (vs:List D)
def pay(c:Str):Option Nat:=match c.cps.toList with
 | k::_=>if 0x110000<=k then some (k - 0x110000) else none
 | []=>none
def clsOf(c:Str):Str:=match c.cps.toList with
 | k::r=>if 0x110000<=k then ⟨r.toArray⟩ else c
 | []=>c
inductive Res(α:Type) where
 | ok (a:α) | ex (c:Str) | bad
def Res.bind:Res α->(α->Res β)->Res β
 | .ok a,f=>f a
 | .ex c,_=>.ex c
 | .bad,_=>.bad
def Zid(a:α)(f:α->Res β):(Res.ok a).bind f=f a:=rfl
inductive Cl where
 | no | im (d:D) | ow (ds:List D)
abbrev Ev:=List Cl
abbrev ME:=Ev->Res D
abbrev MB:=Ev->Res Bool
abbrev MA:=Ev->Res (List D)
def getC:Option Cl->Res D
 | some (.im d)=>.ok d
 | _=>.bad
def v(i:Nat):ME:=λρ=>getC ρ[i]?
def c(d:D):ME:=λ_=>.ok d
def o1(f:D->Res D)(a:ME):ME:=λρ=>(a ρ).bind f
def o2(f:D->D->Res D)(a b:ME):ME:=λρ=>(a ρ).bind λx=>(b ρ).bind λy=>f x y
def yaa:MA:=λ_=>.ok []
def Zaa(a:ME)(r:MA):MA:=λρ=>(a ρ).bind λx=>(r ρ).bind λxs=>.ok (x::xs)
def on(f:List D->Res D)(a:MA):ME:=λρ=>(a ρ).bind f
def mtp(a:MA):ME:=λρ=>(a ρ).bind λxs=>.ok (.tup xs)
def mls(a:MA):ME:=λρ=>(a ρ).bind λxs=>.ok (.lst xs)
def tru:D->Res Bool
 | .bl b=>.ok b
 | _=>.bad
def trb(a:ME):MB:=λρ=>(a ρ).bind tru
def bAnd(a b:MB):MB:=λρ=>(a ρ).bind λx=>if x=true then b ρ else .ok false
def bOr(a b:MB):MB:=λρ=>(a ρ).bind λx=>if x=true then .ok true else b ρ
def bNot(a:MB):MB:=λρ=>(a ρ).bind λx=>.ok (!x)
def eAnd(a b:ME):ME:=λρ=>(trb a ρ).bind λx=>if x=true then b ρ else .ok (.bl false)
def eNot(a:ME):ME:=λρ=>(trb a ρ).bind λx=>.ok (.bl (!x))
def ife(t:MB)(a b:ME):ME:=λρ=>(t ρ).bind λx=>if x=true then a ρ else b ρ
def Zf5(a b:Int):Bool:=decide (a.natAbs<2^64)||decide (b.natAbs<2^64)||decide (a.natAbs.log2+b.natAbs.log2<100000000)
def LIM:Nat:=1000000
def yao:D->D->Res D
 | .int a,.int b=>.ok (.int (a+b))
 | .lst a,.lst b=>if a.length+b.length<=LIM then .ok (.lst (a++b)) else .bad
 | .tup a,.tup b=>if a.length+b.length<=LIM then .ok (.tup (a++b)) else .bad
 | .str a,.str b=>if a.length+b.length<=LIM then .ok (.str (a++b)) else .bad
 | _,_=>.bad
def ii(f:Int->Int->Res D):D->D->Res D
 | .int a,.int b=>f a b
 | _,_=>.bad
def iSub(a b:Int):Res D:=.ok (.int (a - b))
def iMul(a b:Int):Res D:=if Zf5 a b=true then .ok (.int (a*b)) else .bad
def iMod(a b:Int):Res D:=if 0<b then .ok (.int (a%b)) else if b=0 then .bad else .ok (.int (a.fmod b))
def iDiv(a b:Int):Res D:=if b.natAbs.log2<9000 then (if 0<b then .ok (.int (a/b)) else if b=0 then .bad else .ok (.int (a.fdiv b))) else .bad
def iShl(a b:Int):Res D:=if 0<=b/\b<=1000000/\a.natAbs<2^64 then .ok (.int (a*2^b.toNat)) else .bad
def iShr(a b:Int):Res D:=if 0<=b then .ok (.int (a/2^b.toNat)) else .bad
def iLt(a b:Int):Res D:=.ok (.bl (decide (a<b)))
def iLe(a b:Int):Res D:=.ok (.bl (decide (a<=b)))
def iGt(a b:Int):Res D:=.ok (.bl (decide (b<a)))
def iGe(a b:Int):Res D:=.ok (.bl (decide (b<=a)))
abbrev dSub:=ii iSub
abbrev yaF:=ii iMul
abbrev ybp:=ii iMod
abbrev ycc:=ii iDiv
abbrev dShl:=ii iShl
abbrev dShr:=ii iShr
abbrev dLt:=ii iLt
abbrev dLe:=ii iLe
abbrev dGt:=ii iGt
abbrev dGe:=ii iGe
def dNeg:D->Res D
 | .int a=>.ok (.int (-a))
 | _=>.bad
mutual
def eqD:D->D->Bool
 | .non,.non=>true
 | .bl a,.bl b=>a==b
 | .bl a,.int j=>(if a then 1 else 0)==j
 | .int i,.bl b=>i==(if b then 1 else 0)
 | .int i,.int j=>i==j
 | .str x,.str y=>x==y
 | .lst xs,.lst ys=>eqDs xs ys
 | .tup xs,.tup ys=>eqDs xs ys
 | _,_=>false
def eqDs:List D->List D->Bool
 | [],[]=>true
 | x::xs,y::ys=>eqD x y&&eqDs xs ys
 | _,_=>false
end
mutual
def plain:Nat->D->Bool
 | _,.non=>true
 | _,.bl _=>true
 | _,.int _=>true
 | _,.str x=>x.cps.all (·<0x110000)
 | k+1,.tup xs=>Za5 k xs
 | k+1,.lst xs=>Za5 k xs
 | _,_=>false
def Za5:Nat->List D->Bool
 | _,[]=>true
 | k,x::xs=>plain k x&&Za5 k xs
end
def dEq(x y:D):Res D:=if plain 50 x&&plain 50 y then .ok (.bl (eqD x y)) else .bad
def dNe(x y:D):Res D:=if plain 50 x&&plain 50 y then .ok (.bl (!eqD x y)) else .bad
def inD(x:D)(ys:List D):Bool:=ys.any λy=>eqD y x
def seqD:D->Res (List D)
 | .lst ys=>.ok ys
 | .tup ys=>.ok ys
 | _=>.bad
def dIn(x y:D):Res D:=(seqD y).bind λys=>if plain 50 x&&Za5 50 ys then .ok (.bl (inD x ys)) else .bad
def Zna:D->Bool
 | .non=>true
 | _=>false
def dIsN(x:D):Res D:=.ok (.bl (Zna x))
def ZlS(x:D):Res D:=.ok (.bl (!Zna x))
def at_(xs:List α)(i:Int):Option α:=if 0<=i then xs[i.toNat]? else if -(xs.length:Int)<=i then xs[(i+xs.length).toNat]? else none
def ofO:Option α->Res α
 | some a=>.ok a
 | none=>.bad
def dIx:D->D->Res D
 | .lst xs,.int i=>ofO (at_ xs i)
 | .tup xs,.int i=>ofO (at_ xs i)
 | _,_=>.bad
def cutAt(n d:Nat):Option Int->Nat
 | none=>d
 | some i=>if i<0 then (i+n).toNat else min i.toNat n
def cutL(xs:List D)(lo hi:Option Int):List D:=(xs.drop (cutAt xs.length 0 lo)).take (cutAt xs.length xs.length hi - cutAt xs.length 0 lo)
def dCut(x:D)(lo hi:Option Int):Res D:=match x with
 | .lst xs=>.ok (.lst (cutL xs lo hi))
 | .tup xs=>.ok (.tup (cutL xs lo hi))
 | _=>.bad
def pno:Ev->Res (Option Int):=λ_=>.ok none
def optI:D->Res (Option Int)
 | .int i=>.ok (some i)
 | _=>.bad
def pso(a:ME):Ev->Res (Option Int):=λρ=>(a ρ).bind optI
def cut(a:ME)(lo hi:Ev->Res (Option Int)):ME:=λρ=>(a ρ).bind λx=>(lo ρ).bind λl=>(hi ρ).bind λh=>dCut x l h
def bLen:List D->Res D
 | [.lst xs]=>.ok (.int xs.length)
 | [.tup xs]=>.ok (.int xs.length)
 | _=>.bad
def bAbs:List D->Res D
 | [.int i]=>.ok (.int (if i<0 then -i else i))
 | _=>.bad
def bMax:List D->Res D
 | [.int i,.int j]=>.ok (.int (if j>i then j else i))
 | _=>.bad
def bMin:List D->Res D
 | [.int i,.int j]=>.ok (.int (if j<i then j else i))
 | _=>.bad
def bTup:List D->Res D
 | [.lst xs]=>.ok (.tup xs)
 | [.tup xs]=>.ok (.tup xs)
 | _=>.bad
def Zi5:D->Option String
 | .non=>some "NoneType"
 | .bl _=>some "bool"
 | .int _=>some "int"
 | .str _=>some "str"
 | .tup _=>some "tuple"
 | .lst _=>some "list"
 | _=>none
def isTy(t n:String):Bool:=t==n||(t == "bool"&&n == "int")
def ZiS:List String:=["int", "bool", "str", "tuple", "list", "dict"]
def bIsi:List D->Res D
 | [x,.ty n]=>if ZiS.contains n=true then (ofO (Zi5 x)).bind λt=>.ok (.bl (isTy t n)) else .bad
 | _=>.bad
def bools:List D->Res (List Bool)
 | []=>.ok []
 | d::r=>match d with
  | .bl b=>(bools r).bind λbs=>.ok (b::bs)
  | _=>.bad
def bAll:List D->Res D
 | [d]=>match d with
  | .lst xs=>(bools xs).bind λbs=>.ok (.bl (bs.all id))
  | _=>.bad
 | _=>.bad
def ZgT:List D->Res (List Int)
 | []=>.ok []
 | d::r=>match d with
  | .int n=>(ZgT r).bind λns=>.ok (n::ns)
  | _=>.bad
def oneX(tc:List (Str×Str×Bool))(tt:List (Str×String×Bool))(c:Str):D->Res Bool
 | .cls k=>ofO ((tc.find? λe=>e.1==c&&e.2.1==k).map (·.2.2))
 | .ty n=>ofO ((tt.find? λe=>e.1==c&&e.2.1==n).map (·.2.2))
 | _=>.bad
def anyX(tc:List (Str×Str×Bool))(tt:List (Str×String×Bool))(c:Str):List D->Res Bool
 | []=>.ok false
 | k::r=>(oneX tc tt c k).bind λb=>if b=true then .ok true else anyX tc tt c r
def askX(tc:List (Str×Str×Bool))(tt:List (Str×String×Bool))(c:Str):D->Res D
 | .tup []=>.bad
 | .tup (k::ks)=>(anyX tc tt c (k::ks)).bind λb=>.ok (.bl b)
 | k=>(oneX tc tt c k).bind λb=>.ok (.bl b)
def bIsX(tc:List (Str×Str×Bool))(tt:List (Str×String×Bool)):List D->Res D
 | [d,k]=>match d with
  | .exc c=>askX tc tt (clsOf c) k
  | _=>.bad
 | _=>.bad
abbrev MI:=Ev->Res (List D)
def items:D->Res (List D)
 | .lst xs=>.ok xs
 | .tup xs=>.ok xs
 | _=>.bad
def iv(a:ME):MI:=λρ=>(a ρ).bind items
def numbered:Nat->List D->List D
 | _,[]=>[]
 | k,x::xs=>.tup [.int k,x]::numbered (k+1) xs
def Zq5:List D->Res (List D)
 | [x]=>match x with
  | .lst xs=>.ok (numbered 0 xs)
  | _=>.bad
 | _=>.bad
def Zdm(a:MA):MI:=λρ=>(a ρ).bind Zq5
def ZbG(lo:Int)(n:Nat):List D:=(List.range n).map λ(k:Nat)=>D.int (lo+(k:Int))
def rng1:List D->Res (List D)
 | [.int j]=>if -1000000000<=j/\j<=1000000000 then .ok (ZbG 0 j.toNat) else .bad
 | _=>.bad
def r1(a:MA):MI:=λρ=>(a ρ).bind rng1
def rng2:List D->Res (List D)
 | [.int i,.int j]=>if (-1000000000<=i/\i<=1000000000)/\(-1000000000<=j/\j<=1000000000) then .ok (ZbG i (j - i).toNat) else .bad
 | _=>.bad
def r2(a:MA):MI:=λρ=>(a ρ).bind rng2
abbrev MG:=D->Ev->Res Ev
abbrev MGs:=List D->Ev->Res Ev
def gN(i:Nat):MG:=λd ρ=>.ok (ρ.set i (.im d))
def gs0:MGs:=λds ρ=>match ds with
 | []=>.ok ρ
 | _=>.bad
def gs1(g:MG)(r:MGs):MGs:=λds ρ=>match ds with
 | d::ds=>(g d ρ).bind λρ'=>r ds ρ'
 | []=>.bad
def gU(n:Nat)(g:MGs):MG:=λd ρ=>(items d).bind λxs=>if xs.length=n then g xs ρ else .bad
def imOf:Option Cl->Cl
 | some (.im d)=>.im d
 | _=>.no
def yag(ρ:Ev):List Nat->Ev
 | []=>[]
 | j::r=>imOf ρ[j]?::yag ρ r
def noA:Nat->Ev->Ev
 | 0,e=>e
 | k+1,e=>.no::noA k e
def Zan(g:MG)(t:MB)(e:ME)(ρ0:Ev):List D->Res (List D)
 | []=>.ok []
 | x::r=>(g x ρ0).bind λρ1=>(t ρ1).bind λb=>if b=true then (e ρ1).bind λy=>(Zan g t e ρ0 r).bind λys=>.ok (y::ys) else Zan g t e ρ0 r
def yes:MB:=λ_=>.ok true
def noEx:Res α->Res α
 | .ex _=>.bad
 | r=>r
def comp(it:MI)(own:Nat)(cap:List Nat)(g:MG)(t:MB)(e:ME):ME:=λρ=>(it ρ).bind λxs =>
 if xs.length<=LIM then (noEx (Zan g t e (noA own (yag ρ cap)) xs)).bind λys=>.ok (.lst ys) else .bad
inductive Fl where
 | nx (ρ:Ev) | rt (d:D) | bk (ρ:Ev) | ct (ρ:Ev)
abbrev MS:=Ev->Res Fl
def nop:MS:=λρ=>.ok (.nx ρ)
def goOn(b:MS):Fl->Res Fl
 | .nx ρ=>b ρ
 | f=>.ok f
def sq(a b:MS):MS:=λρ=>(a ρ).bind (goOn b)
def st(i:Nat)(e:ME):MS:=λρ=>(e ρ).bind λd=>.ok (.nx (ρ.set i (.im d)))
def lstO:D->Res (List D)
 | .lst xs=>.ok xs
 | _=>.bad
def stO(i:Nat)(e:ME):MS:=λρ=>(e ρ).bind λd=>(lstO d).bind λxs=>.ok (.nx (ρ.set i (.ow xs)))
def getO:Option Cl->Res (List D)
 | some (.ow xs)=>.ok xs
 | _=>.bad
def frz(i:Nat)(m:MS):MS:=λρ=>(getO ρ[i]?).bind λxs=>m (ρ.set i (.im (.lst xs)))
def app(i:Nat)(e:ME):MS:=λρ=>(getO ρ[i]?).bind λxs=>(e ρ).bind λd=>if xs.length<LIM then .ok (.nx (ρ.set i (.ow (xs++[d])))) else .bad
def asg(g:MG)(e:ME):MS:=λρ=>(e ρ).bind λd=>(g d ρ).bind λρ'=>.ok (.nx ρ')
def drp(e:ME):MS:=λρ=>(e ρ).bind λ_=>.ok (.nx ρ)
def ret(e:ME):MS:=λρ=>(e ρ).bind λd=>.ok (.rt d)
def ifs(t:MB)(a b:MS):MS:=λρ=>(t ρ).bind λx=>if x=true then a ρ else b ρ
def cnt:MS:=λρ=>.ok (.ct ρ)
def rse(c:Str)(a:MA):MS:=λρ=>(a ρ).bind λ_=>.ex c
def Zka:D->Res D
 | .non=>.ok .non
 | .bl b=>.ok (.bl b)
 | .int i=>.ok (.int i)
 | .str x=>.ok (.str x)
 | _=>.bad
def pk(i:Nat)(m:ME):ME:=λρ=>(getO ρ[i]?).bind λxs=>(m (ρ.set i (.im (.lst xs)))).bind Zka
def turn(k:MS):Fl->Res Fl
 | .nx ρ=>k ρ
 | .ct ρ=>k ρ
 | .bk ρ=>.ok (.nx ρ)
 | .rt d=>.ok (.rt d)
def ZcV(g:MG)(b:MS):List D->MS
 | [],ρ=>.ok (.nx ρ)
 | x::r,ρ=>(g x ρ).bind λρ1=>(b ρ1).bind (turn (ZcV g b r))
def for_(it:MI)(g:MG)(b:MS):MS:=λρ=>(it ρ).bind λxs=>ZcV g b xs ρ
def whGo(t:MB)(b:MS):Nat->MS
 | 0,_=>.bad
 | n+1,ρ=>(t ρ).bind λx=>if x=true then (b ρ).bind (turn (whGo t b n)) else .ok (.nx ρ)
def absC:Cl->Nat
 | .im (.int i)=>i.natAbs
 | _=>0
def fuel(ρ:Ev):Nat:=(ρ.map absC).sum+1
def whl(n:Ev->Nat)(t:MB)(b:MS):MS:=λρ=>whGo t b (n ρ) ρ
def evF:List D->Nat->Ev
 | [],k=>noA k []
 | d::r,k=>.im d::evF r (k - 1)
def ev0(n:Nat)(ds:List D):Ev:=evF ds n
def Zi6:∀k e,noA k e=List.replicate k .no++e
 | 0,_=>rfl
 | k+1,e=>by rw [noA,Zi6 k e,Vbk,List.cons_append]
def ZgX(ρ):∀cap,yag ρ cap=cap.map λj=>imOf ρ[j]?
 | []=>rfl
 | j::r=>by rw [yag,ZgX ρ r,VaN]
def Zht:∀ds n,ev0 n ds=ds.map .im++List.replicate (n - ds.length) .no
 | [],n=>by show noA n []=_;rw [Zi6];simp
 | d::r,n=>by
  have ih:=Zht r (n - 1);show .im d::ev0 (n - 1) r=_;rw [ih,VaN,List.cons_append,VaM,Nat.sub_sub,Nat.add_comm 1]
def endOf:Fl->Res D
 | .rt d=>.ok d
 | .nx _=>.ok .non
 | _=>.bad
def fn(n:Nat)(b:MS)(ds:List D):Res D:=(b (ev0 n ds)).bind endOf
end Dl
variable{H' F0 H0 F':L2.Hp}{E:L2.XK}{ρ:Dl.Ev}{ds:List Dl.D}{me:Dl.ME}{d:Dl.D}
namespace L2.Ds
open Dl
def XcO(H:Hp)(a:Addr)(cls:Value)(d:Addr)(p:Option Addr):Prop:=match p with
 | none=>H a=some (exO a cls)
 | some n=>H a=some (exC a cls d)/\H d=some (.xd [("at", .int (((show Nat from n)/2:Nat):Int))])
def XcO.same{d:Addr}(h:XcO H a cls d p)(e:∀b o,H b=some o->(∀xs,o≠.lst xs)->H' b=some o):XcO H' a cls d p:=by
 cases p with
 | none=>exact e _ _ h λ_ z=>by cases z
 | some n=>exact ⟨e _ _ h.1 (λ_ z=>by cases z),e _ _ h.2 (λ_ z=>by cases z)⟩
def XcO.ext{d:Addr}(h:XcO H a cls d p):∃φ,H a=some (.ext φ)/\∀g,φ g->ExcAt a cls g:=by
 cases p with
 | none=>exact ⟨_,h,λ_ z=>z⟩
 | some n=>exact ⟨_,h.1,λ_ ⟨o,z1,z2,_⟩=>⟨o,z1,z2⟩⟩
mutual
inductive Rp(K:W.Frag)(mg:Str->Option Value)(H:Hp):V->D->Prop
 | non:Rp K mg H .non .non
 | bl (b:Bool):Rp K mg H (.bl b) (.bl b)
 | int (i:Int):Rp K mg H (.int i) (.int i)
 | str (x:Str):Rp K mg H (.str x) (.str x)
 | ty (n:String):Rp K mg H (.ty n) (.ty n)
 | cls {c:Str} {C:Addr} (h:mg c=some (.ref C)):Rp K mg H (.ref C) (.cls c)
 | tup {a:Addr} {xs:List V} {ds:List D} (h:SqT K H a xs) (r:Rps K mg H xs ds):Rp K mg H (.ref a) (.tup ds)
 | lst {a:Addr} {xs:List V} {ds:List D} (h:SqL K H a xs) (r:Rps K mg H xs ds):Rp K mg H (.ref a) (.lst ds)
 | exc {c:Str} {C a d:Addr} (m:mg (clsOf c)=some (.ref C)) (h:XcO H a (.ref C) d (pay c)):Rp K mg H (.ref a) (.exc c)
 | ins {c:Str} {C a dx:Addr} {fs:List (Str×V)} {xs:List V} {vs:List D} (m:mg c=some (.ref C)) (h:H a=some (.ins C dx fs)) (o:H dx=some (.own a)) (e:fs.map (·.2)=xs) (r:Rps K mg H xs vs):Rp K mg H (.ref a) (.ins c (fs.map (·.1)) vs)
inductive Rps(K:W.Frag)(mg:Str->Option Value)(H:Hp):List V->List D->Prop
 | nil:Rps K mg H [] []
 | cons {x:V} {xs:List V} {d:D} {ds:List D} (h:Rp K mg H x d) (r:Rps K mg H xs ds):Rps K mg H (x::xs) (d::ds)
end
section
def ZaB(e:Same H H')(h:SqT K H a xs):SqT K H' a xs:=by
 rcases h with (h | ⟨o,h⟩) | h
 ·exact .inl (.inl (e _ _ h))
 ·exact .inl (.inr ⟨o,e _ _ h⟩)
 ·exact .inr h
mutual
def Rp.same(e:Same H H'):∀{x:V} {d:D},Rp K mg H x d->Rp K mg H' x d
 | _,_,.non=>.non
 | _,_,.bl b=>.bl b
 | _,_,.int i=>.int i
 | _,_,.str x=>.str x
 | _,_,.ty n=>.ty n
 | _,_,.cls h=>.cls h
 | _,_,.tup h r=>.tup (ZaB e h) (Rps.same e r)
 | _,_,.lst h r=>.lst (e.seq h) (Rps.same e r)
 | _,_,.exc m h=>.exc m (h.same λb o z _=>e b o z)
 | _,_,.ins m h o q r=>.ins m (e _ _ h) (e _ _ o) q (Rps.same e r)
def Rps.same(e:Same H H'):∀{xs:List V} {ds:List D},Rps K mg H xs ds->Rps K mg H' xs ds
 | _,_,.nil=>.nil
 | _,_,.cons h r=>.cons (Rp.same e h) (Rps.same e r)
end
def Rps.length:∀{xs:List V} {ds:List D},Rps K mg H xs ds->xs.length=ds.length
 | _,_,.nil=>rfl
 | _,_,.cons _ r=>Vax (·+1) (Rps.length r)
def Rps.get:∀{xs:List V} {ds:List D} {i:Nat} {d:D},Rps K mg H xs ds->ds[i]?=some d->∃x,xs[i]?=some x/\Rp K mg H x d
 | _,_,_,_,.nil,e=>by simp at e
 | _,_,0,_,.cons h _,e=>by simp at e;subst e;exact ⟨_,rfl,h⟩
 | _,_,i+1,_,.cons _ r,e=>by
  obtain ⟨x,h1,h2⟩:=Rps.get (i:=i) r (by simpa using e);exact ⟨x,by simpa using h1,h2⟩
def Rps.app{es:List D}(q:Rps K mg H ys es):∀{xs:List V} {ds:List D},Rps K mg H xs ds->Rps K mg H (xs++ys) (ds++es)
 | _,_,.nil=>q
 | _,_,.cons h r=>.cons h (Rps.app q r)
def Rps.drop:∀{xs:List V} {ds:List D} (n:Nat),Rps K mg H xs ds->Rps K mg H (xs.drop n) (ds.drop n)
 | _,_,0,r=>r
 | _,_,_+1,.nil=>.nil
 | _,_,n+1,.cons _ r=>Rps.drop n r
def Rps.take:∀{xs:List V} {ds:List D} (n:Nat),Rps K mg H xs ds->Rps K mg H (xs.take n) (ds.take n)
 | _,_,0,_=>.nil
 | _,_,_+1,.nil=>.nil
 | _,_,n+1,.cons h r=>.cons h (Rps.take n r)
def Rps.one{xs:List V}{d:D}(h:Rps K mg H xs [d]):∃x,xs=[x]/\Rp K mg H x d:=by
 cases h with | cons h r=>cases r;exact ⟨_,rfl,h⟩
def Rps.two{xs:List V}{d e:D}(h:Rps K mg H xs [d,e]):∃x y,xs=[x,y]/\Rp K mg H x d/\Rp K mg H y e:=by
 cases h with | cons h r=>obtain ⟨_,rfl,g⟩:=Rps.one r;exact ⟨_,_,rfl,h,g⟩
end
structure Gr(F H F' H':Hp):Prop where
 f:Same F F'
 s:Same F' H'
 o:∀a o,F a=none->H a=some o->F' a=none/\H' a=some o
 z:∀a o u,F' a=some (.frz o u)->F a=some (.frz o u)
def Gr.refl{F:Hp}(s:Same F H):Gr F H F H:=⟨Same.refl _,s,λ_ _ h1 h2=>⟨h1,h2⟩,λ_ _ _ h=>h⟩
def Gr.trans{F:Hp}(g:Gr F H F1 H1)(h:Gr F1 H1 F2 H2):Gr F H F2 H2:=⟨g.f.trans h.f,h.s,λa o h1 h2=>let ⟨q1,q2⟩:=g.o a o h1 h2;h.o a o q1 q2,λa o u e=>g.z a o u (h.z a o u e)⟩
def ZmD{F:Hp}(s:Same F H):Same (upd F p o) (upd H p o):=λb u e=>by
 by_cases hb:b=p
 ·subst hb;rw [Zaf] at e ⊢;exact e
 ·rw [Zad hb] at e ⊢;exact s b u e
def ZdV{F:Hp}(nz:∀o' u,o≠.frz o' u)(e:upd F p o a=some (.frz o' u)):F a=some (.frz o' u):=by
 by_cases ne:a=p
 ·subst ne;rw [Zaf] at e;exact absurd (Vau e) (nz o' u)
 ·rw [Zad ne] at e;exact e
def Gr.new{F:Hp}(s:Same F H)(h:H p=none)(o)(nz:∀o' u,o≠.frz o' u:=by intro _ _ z;cases z):Gr F H (upd F p o) (upd H p o) :=
 ⟨ZaA (s.free h) o,ZmD s,λa u h1 h2=>by
  have ne:a≠p:=Zae h2 h;rw [Zad ne,Zad ne];exact ⟨h1,h2⟩,λa o' u e=>by
  by_cases ne:a=p
  ·subst ne;rw [Zaf] at e;exact absurd (Vau e) (nz o' u)
  ·rw [Zad ne] at e;exact e⟩
def Zr5{F:Hp}{x d:Addr}(s:Same F H)(hx:H x=none)(hd:p.isSome=true->H d=none/\d≠x):∃F',Gr F H F' (trkX p x d cls H)/\XcO F' x cls d p:=by
 cases p with
 | none=>exact ⟨_,Gr.new s hx _,Zaf⟩
 | some n =>
  obtain ⟨h1,h2⟩:=hd rfl;have g1:=Gr.new s hx (exC x cls d);have g2:=Gr.new g1.s (p:=d) (by rw [Zad h2];exact h1) (.xd [("at", .int (((show Nat from n)/2:Nat):Int))]);exact ⟨_,g1.trans g2,by rw [Zad (Ne.symm h2)];exact Zaf,Zaf⟩
def Gr.same{F:Hp}(g:Gr F H F' H')(s:Same F H):Same H H':=λa o e=>by
 cases q:F a with
 | none=>exact (g.o a o q e).2
 | some u =>
  have e':=s a u q;rw [e] at e';rw [g.s a u (g.f a u q),e']
structure Rep(K:W.Frag)(mg:Str->Option Value)(F0 H0 F H:Hp)(σ:St)(ρ:Ev):Prop where
 g:Gr F0 H0 F H
 len:σ.length=ρ.length
 im:∀(i:Nat) (d:D),ρ[i]?=some (.im d)->∃x,σ[i]?=some (some x)/\Rp K mg F x d
 ow:∀(i:Nat) (ds:List D),ρ[i]?=some (.ow ds)->∃a xs,σ[i]?=some (some (.ref a))/\H0 a=none/\F a=none/\H a=some (.lst xs)/\Rps K mg F xs ds
 ne:∀(i j:Nat) (ds es:List D) (a:Addr),ρ[i]?=some (.ow ds)->ρ[j]?=some (.ow es)->σ[i]?=some (some (.ref a))->σ[j]?=some (some (.ref a))->i=j
section
variable   {F:Hp}
def Rep.gr(r:Rep K mg F0 H0 F H σ ρ)(g:Gr F H F' H'):Rep K mg F0 H0 F' H' σ ρ:=by
 refine ⟨r.g.trans g,r.len,λi d e=>?_,λi ds e=>?_,r.ne⟩
 ·obtain ⟨x,h1,h2⟩:=r.im i d e;exact ⟨x,h1,h2.same g.f⟩
 ·obtain ⟨a,xs,h1,h2,h3,h4,h5⟩:=r.ow i ds e;obtain ⟨q1,q2⟩:=g.o a _ h3 h4;exact ⟨a,xs,h1,h2,q1,q2,h5.same g.f⟩
def Zap{l:List α}{x:α}(h:(l.set i x)[j]?=some y):(i=j/\y=x/\i<l.length)\/(i≠j/\l[j]?=some y):=by
 rw [List.getElem?_set] at h;by_cases e:i=j
 ·rw [if_pos e] at h;split at h
  ·exact .inl ⟨e,(Vau h).symm,by assumption⟩
  ·cases h
 ·rw [if_neg e] at h;exact .inr ⟨e,h⟩
def ZhA{l:List α}{x:α}(h:i<l.length):(l.set i x)[i]?=some x:=by
 rw [List.getElem?_set,if_pos rfl,if_pos h]
def ZaV{l:List α}{x:α}(h:i≠j):(l.set i x)[j]?=l[j]?:=by
 rw [List.getElem?_set,if_neg h]
def Rep.set{x:V}(r:Rep K mg F0 H0 F H σ ρ)(i:Nat)(h:Rp K mg F x d):Rep K mg F0 H0 F H (σ.set i (some x)) (ρ.set i (.im d)):=by
 refine ⟨r.g,by rw [Vbj,Vbj];exact r.len,λj e q=>?_,λj ds q=>?_,λj k ds es a q1 q2 q3 q4=>?_⟩
 ·rcases Zap q with ⟨rfl,z,l⟩ | ⟨hij,q⟩
  ·cases z;exact ⟨x,ZhA (by rw [r.len];exact l),h⟩
  ·rw [ZaV hij];exact r.im j e q
 ·rcases Zap q with ⟨_,z,_⟩ | ⟨hij,q⟩
  ·cases z
  ·rw [ZaV hij];exact r.ow j ds q
 ·rcases Zap q1 with ⟨_,z,_⟩ | ⟨h1,q1⟩
  ·cases z
  ·rcases Zap q2 with ⟨_,z,_⟩ | ⟨h2,q2⟩
   ·cases z
   ·rw [ZaV h1] at q3;rw [ZaV h2] at q4;exact r.ne j k ds es a q1 q2 q3 q4
def Rep.own(r:Rep K mg F0 H0 F H σ ρ)(i:Nat)(hn:H a=none)(h:Rps K mg F xs ds):Rep K mg F0 H0 F (upd H a (.lst xs)) (σ.set i (some (.ref a))) (ρ.set i (.ow ds)):=by
 have fa:F a=none:=r.g.s.free hn;have h0a:H0 a=none:=by
  cases q:H0 a with
  | none=>rfl
  | some o =>
   cases q2:F0 a with
   | none=>rw [(r.g.o a o q2 q).2] at hn;cases hn
   | some u=>rw [r.g.f a u q2] at fa;cases fa
 have nea:∀{j:Nat} {es:List D} {b:Addr},ρ[j]?=some (.ow es)->σ[j]?=some (some (.ref b))->b≠a:=λ{j es b} q1 q2=>by
  obtain ⟨b',xs',h1,_,_,h4,_⟩:=r.ow j es q1;rw [q2] at h1;cases h1;exact Zae h4 hn
 refine ⟨⟨r.g.f,λb o e=>?_,λb o e1 e2=>?_,r.g.z⟩,by rw [Vbj,Vbj];exact r.len,λj e q=>?_,λj es q=>?_,λj k es ts b q1 q2 q3 q4=>?_⟩
 ·rw [Zad (Zae e fa)];exact r.g.s b o e
 ·rw [Zad (Zae e2 h0a)];exact r.g.o b o e1 e2
 ·rcases Zap q with ⟨_,z,_⟩ | ⟨hij,q⟩
  ·cases z
  ·rw [ZaV hij];exact r.im j e q
 ·rcases Zap q with ⟨rfl,z,l⟩ | ⟨hij,q⟩
  ·cases z;exact ⟨a,xs,ZhA (by rw [r.len];exact l),h0a,fa,Zaf,h⟩
  ·rw [ZaV hij];obtain ⟨b,ys,h1,h2,h3,h4,h5⟩:=r.ow j es q;exact ⟨b,ys,h1,h2,h3,by rw [Zad (Zae h4 hn)];exact h4,h5⟩
 ·rcases Zap q1 with ⟨rfl,_,l1⟩ | ⟨h1,q1⟩
  ·rcases Zap q2 with ⟨rfl,_,_⟩ | ⟨h2,q2⟩
   ·rfl
   ·rw [ZhA (by rw [r.len];exact l1)] at q3;rw [ZaV h2] at q4;cases q3;exact absurd rfl (nea q2 q4)
  ·rcases Zap q2 with ⟨rfl,_,l2⟩ | ⟨h2,q2⟩
   ·rw [ZhA (by rw [r.len];exact l2)] at q4;rw [ZaV h1] at q3;cases q4;exact absurd rfl (nea q1 q3)
   ·rw [ZaV h1] at q3;rw [ZaV h2] at q4;exact r.ne j k es ts b q1 q2 q3 q4
def Rep.app{x:V}(r:Rep K mg F0 H0 F H σ ρ)(e:ρ[i]?=some (.ow ds))(e2:σ[i]?=some (some (.ref a)))(e3:H a=some (.lst xs))(e4:H0 a=none)(e5:F a=none)(hr:Rps K mg F xs ds)(h:Rp K mg F x d) :
  Rep K mg F0 H0 F (upd H a (.lst (xs++[x]))) σ (ρ.set i (.ow (ds++[d]))):=by
 have li:i<ρ.length:=(Vat.mp e).1;refine ⟨⟨r.g.f,λb o q=>?_,λb o q1 q2=>?_,r.g.z⟩,by rw [Vbj];exact r.len,λj u q=>?_,λj es q=>?_,λj k es ts b q1 q2 q3 q4=>?_⟩
 ·rw [Zad (Zae q e5)];exact r.g.s b o q
 ·rw [Zad (Zae q2 e4)];exact r.g.o b o q1 q2
 ·rcases Zap q with ⟨_,z,_⟩ | ⟨_,q⟩
  ·cases z
  ·exact r.im j u q
 ·rcases Zap q with ⟨rfl,z,l⟩ | ⟨hij,q⟩
  ·cases z;exact ⟨a,_,e2,e4,e5,Zaf,Rps.app (.cons h .nil) hr⟩
  ·obtain ⟨b,ys,h1,h2,h3,h4,h5⟩:=r.ow j es q;have nb:b≠a:=by
    rintro rfl;exact hij (r.ne i j ds es b e q e2 h1)
   exact ⟨b,ys,h1,h2,h3,by rw [Zad nb];exact h4,h5⟩
 ·have o1:∃es',ρ[j]?=some (.ow es'):=by
   rcases Zap q1 with ⟨rfl,_,_⟩ | ⟨_,q⟩
   ·exact ⟨_,e⟩
   ·exact ⟨_,q⟩
  have o2:∃es',ρ[k]?=some (.ow es'):=by
   rcases Zap q2 with ⟨rfl,_,_⟩ | ⟨_,q⟩
   ·exact ⟨_,e⟩
   ·exact ⟨_,q⟩
  obtain ⟨_,o1⟩:=o1;obtain ⟨_,o2⟩:=o2;exact r.ne j k _ _ b o1 o2 q3 q4
def Rep.frz{i:Nat}{ds:List D}(r:Rep K mg F0 H0 F H σ ρ)(e:ρ[i]?=some (.ow ds)):∃F',Same F F'/\Rep K mg F0 H0 F' H σ (ρ.set i (.im (.lst ds))):=by
 obtain ⟨a,xs,e2,e4,e5,e3,hr⟩:=r.ow i ds e;have sF:Same F (upd F a (.lst xs)):=ZaA e5 _;refine ⟨upd F a (.lst xs),sF,⟨r.g.f.trans sF,λb o q=>?_,λb o q1 q2=>?_,λb o u q=>r.g.z b o u (ZdV (λ_ _ z=>by cases z) q)⟩,by rw [Vbj];exact r.len,λj u q=>?_,λj es q=>?_,λj k es ts b q1 q2 q3 q4=>?_⟩
 ·by_cases hb:b=a
  ·subst hb;rw [Zaf] at q;cases q;exact e3
  ·rw [Zad hb] at q;exact r.g.s b o q
 ·rw [Zad (Zae q2 e4)];exact r.g.o b o q1 q2
 ·rcases Zap q with ⟨rfl,z,_⟩ | ⟨_,q⟩
  ·cases z;exact ⟨.ref a,e2,.lst (SqL.of Zaf) (hr.same sF)⟩
  ·obtain ⟨x,h1,h2⟩:=r.im j u q;exact ⟨x,h1,h2.same sF⟩
 ·rcases Zap q with ⟨_,z,_⟩ | ⟨hij,q⟩
  ·cases z
  ·obtain ⟨b,ys,h1,h2,h3,h4,h5⟩:=r.ow j es q;have nb:b≠a:=by
    rintro rfl;exact hij (r.ne i j ds es b e q e2 h1)
   exact ⟨b,ys,h1,h2,by rw [Zad nb];exact h3,h4,h5.same sF⟩
 ·rcases Zap q1 with ⟨_,z,_⟩ | ⟨_,q1⟩
  ·cases z
  ·rcases Zap q2 with ⟨_,z,_⟩ | ⟨_,q2⟩
   ·cases z
   ·exact r.ne j k es ts b q1 q2 q3 q4
end
def Ans(mg:Str->Option Value)(E:XK)(R:Hp->β->α->Prop)(F H:Hp)(r:Res α)(w:(β->Hp->Prop)->Prop):Prop :=
 match r with
 | .ok a=>∀Q,(∀F' H' b,Gr F H F' H'->R F' b a->Q b H')->w Q
 | .ex c=>∀Q,(∀F' H' C,Gr F H F' H'->mg (clsOf c)=some (.ref C)->E (.ref C) (pay c) H')->w Q
 | .bad=>True
section
variable{α β γ δ:Type}   {R:Hp->β->α->Prop} {R':Hp->δ->γ->Prop} {F:Hp}
def Ans.ret{w:(β->Hp->Prop)->Prop}(s:Same F H)(r:R F b a)(h:∀Q,Q b H->w Q):Ans mg E R F H (.ok a) w:=λQ q=>h Q (q F H b (.refl s) r)
def Ans.bindE{r:Res α}{w:(β->Hp->Prop)->Prop}{k:α->Res γ}{w':β->Hp->(δ->Hp->Prop)->Prop}(h1:Ans mg E R F H r w)(h2:∀a,r=.ok a->∀F1 H1 b,Gr F H F1 H1->R F1 b a->Ans mg E R' F1 H1 (k a) (w' b H1)) :
  Ans mg E R' F H (r.bind k) (λQ=>w λb H1=>w' b H1 Q):=by
 cases r with
 | ok a =>
  show Ans mg E R' F H (k a) _;have h2':=h2 a rfl;generalize k a=r2 at h2';cases r2 with
  | ok d=>exact λQ q=>h1 _ λF1 H1 b g rb=>h2' F1 H1 b g rb Q λF2 H2 e g2 re=>q F2 H2 e (g.trans g2) re
  | ex c=>exact λQ q=>h1 _ λF1 H1 b g rb=>h2' F1 H1 b g rb Q λF2 H2 C g2 hc=>q F2 H2 C (g.trans g2) hc
  | bad=>trivial
 | ex c=>exact λQ q=>h1 _ q
 | bad=>trivial
def Ans.bind{r:Res α}{w:(β->Hp->Prop)->Prop}{k:α->Res γ}{w':β->Hp->(δ->Hp->Prop)->Prop}(h1:Ans mg E R F H r w)(h2:∀F1 H1 b a,Gr F H F1 H1->R F1 b a->Ans mg E R' F1 H1 (k a) (w' b H1)) :
  Ans mg E R' F H (r.bind k) (λQ=>w λb H1=>w' b H1 Q):=h1.bindE λa _ F1 H1 b g q=>h2 F1 H1 b a g q
end
def AnsS(K:W.Frag)(mg:Str->Option Value)(E:XK)(F0 H0 F:Hp)(r:Res Fl)(w:Ends->Prop):Prop :=
 match r with
 | .ok (.nx ρ)=>∀D,(∀F' H' σ',Same F F'->Rep K mg F0 H0 F' H' σ' ρ->D.nx σ' H')->w D
 | .ok (.bk ρ)=>∀D,(∀F' H' σ',Same F F'->Rep K mg F0 H0 F' H' σ' ρ->D.bk σ' H')->w D
 | .ok (.ct ρ)=>∀D,(∀F' H' σ',Same F F'->Rep K mg F0 H0 F' H' σ' ρ->D.ct σ' H')->w D
 | .ok (.rt d)=>∀D,(∀F' H' x,Gr F0 H0 F' H'->Rp K mg F' x d->D.rt x H')->w D
 | .ex c=>∀D,(∀F' H' C,Gr F0 H0 F' H'->mg (clsOf c)=some (.ref C)->E (.ref C) (pay c) H')->w D
 | .bad=>True
abbrev RB:Hp->Bool->Bool->Prop:=λ_ b b'=>b=b'
abbrev RO:Hp->Option Int->Option Int->Prop:=λ_ b b'=>b=b'
def SE(K:W.Frag)(mg:Str->Option Value)(E:XK)(t:TE)(m:ME):Prop:=∀F0 H0 F H σ ρ,Rep K mg F0 H0 F H σ ρ->Ans mg E (Rp K mg) F H (m ρ) (t σ H)
def STt(K:W.Frag)(mg:Str->Option Value)(E:XK)(t:TT)(m:MB):Prop:=∀F0 H0 F H σ ρ,Rep K mg F0 H0 F H σ ρ->Ans mg E RB F H (m ρ) (t σ H)
def SA(K:W.Frag)(mg:Str->Option Value)(E:XK)(t:TA)(m:MA):Prop:=∀F0 H0 F H σ ρ,Rep K mg F0 H0 F H σ ρ->Ans mg E (Rps K mg) F H (m ρ) (t σ H)
def SO(K:W.Frag)(mg:Str->Option Value)(E:XK)(t:TO)(m:Ev->Res (Option Int)):Prop:=∀F0 H0 F H σ ρ,Rep K mg F0 H0 F H σ ρ->Ans mg E RO F H (m ρ) (t σ H)
def SS(K:W.Frag)(mg:Str->Option Value)(E:XK)(t:TS)(m:MS):Prop:=∀F0 H0 F H σ ρ,Rep K mg F0 H0 F H σ ρ->AnsS K mg E F0 H0 F (m ρ) (λD=>t D σ H)
def AnsG(K:W.Frag)(mg:Str->Option Value)(F0 H0 F:Hp)(n:Nat)(σ:St)(r:Res Ev)(w:(St->Hp->Prop)->Prop):Prop :=
 match r with
 | .ok ρ'=>∀Q,(∀F' H' σ',Same F F'->Rep K mg F0 H0 F' H' σ' ρ'->σ'.drop n=σ.drop n->Q σ' H')->w Q
 | _=>True
def SG(K:W.Frag)(mg:Str->Option Value)(n:Nat)(t:TG)(g:MG):Prop:=∀F0 H0 F H σ ρ x d,Rep K mg F0 H0 F H σ ρ->Rp K mg F x d->AnsG K mg F0 H0 F n σ (g d ρ) (t x σ H)
def SGs(K:W.Frag)(mg:Str->Option Value)(n:Nat)(t:TGs)(g:MGs):Prop:=∀F0 H0 F H σ ρ xs ds,Rep K mg F0 H0 F H σ ρ->Rps K mg F xs ds->AnsG K mg F0 H0 F n σ (g ds ρ) (t xs σ H)
def ItOk(K:W.Frag)(mg:Str->Option Value)(F:Hp)(J:It)(ds:List D):Prop:=∀F' H',Same F F'->Same F' H'->∀i,
 (∀d,ds[i]?=some d->J.go i H'/\∀x H'',J.yld i H' x H''->∃F'',Gr F' H' F'' H''/\Rp K mg F'' x d)/\(ds.length<=i->J.stop i H')
def SI(K:W.Frag)(mg:Str->Option Value)(E:XK)(t:TI)(m:MI):Prop:=∀F0 H0 F H σ ρ,Rep K mg F0 H0 F H σ ρ->Ans mg E (ItOk K mg) F H (m ρ) (t σ H)
def OpD(K:W.Frag)(mg:Str->Option Value)(r:R2)(f:D->D->Res D):Prop:=∀E F H x y dx dy,Same F H->Rp K mg F x dx->Rp K mg F y dy->Ans mg E (Rp K mg) F H (f dx dy) (r x y H)
def UnD(K:W.Frag)(mg:Str->Option Value)(r:V->Hp->VK->Prop)(f:D->Res D):Prop:=∀E F H x dx,Same F H->Rp K mg F x dx->Ans mg E (Rp K mg) F H (f dx) (r x H)
def CallD(K:W.Frag)(mg:Str->Option Value)(r:List V->Hp->VK->Prop)(f:List D->Res D):Prop:=∀E F H xs ds,Same F H->Rps K mg F xs ds->Ans mg E (Rp K mg) F H (f ds) (r xs H)
section
variable    {ta tb tc:TE} {ma mb mc:ME} {sa sb:TT} {na nb:MB}
def Rep.ss{F:Hp}(r:Rep K mg F0 H0 F H σ ρ):Same F H:=r.g.s
def se_v(i):SE K mg E (tVar i) (v i):=by
 intro F0 H0 F H σ ρ r;unfold v getC;split
 ·next d h =>
  obtain ⟨x,h1,h2⟩:=r.im i d h;exact .ret r.ss h2 λQ q=>⟨x,h1,q⟩
 ·trivial
def se_c{x:V}(h:∀F,Rp K mg F x d):SE K mg E (tC x) (c d):=λ_ _ F _ _ _ r=>.ret r.ss (h F) λ_ q=>q
def Zmu(hf:OpD K mg r f)(ha:SE K mg E ta ma)(hb:SE K mg E tb mb):SE K mg E (tOp r ta tb) (o2 f ma mb):=by
 intro F0 H0 F H σ ρ rr;refine (ha F0 H0 F H σ ρ rr).bind λF1 H1 x dx g1 rx=>?_;refine (hb F0 H0 F1 H1 σ ρ (rr.gr g1)).bind λF2 H2 y dy g2 ry=>?_;exact hf E F2 H2 x y dx dy g2.s (rx.same g2.f) ry
def Zsc(hf:UnD K mg r f)(ha:SE K mg E ta ma):SE K mg E (tUn r ta) (o1 f ma):=by
 intro F0 H0 F H σ ρ rr;exact (ha F0 H0 F H σ ρ rr).bind λF1 H1 x dx g1 rx=>hf E F1 H1 x dx g1.s rx
def ZkB:SA K mg E tNil yaa:=λ_ _ _ _ _ _ r=>.ret r.ss .nil λ_ q=>q
def Zpm(ha:SE K mg E ta ma)(hr:SA K mg E t m):SA K mg E (Zbd ta t) (Zaa ma m):=by
 intro F0 H0 F H σ ρ rr;refine (ha F0 H0 F H σ ρ rr).bind λF1 H1 x dx g1 rx=>?_;refine (hr F0 H0 F1 H1 σ ρ (rr.gr g1)).bind λF2 H2 xs ds g2 rs=>?_;exact .ret g2.s (.cons (rx.same g2.f) rs) λ_ q=>q
def Zrn(hf:CallD K mg r f)(ha:SA K mg E t m):SE K mg E (tCB r t) (on f m):=by
 intro F0 H0 F H σ ρ rr;exact (ha F0 H0 F H σ ρ rr).bind λF1 H1 x dx g1 rx=>hf E F1 H1 x dx g1.s rx
def Zfi{F:Hp}{w:VK->Prop}(s:Same F H)(hr:∀p,H p=none->R (upd F p o) (.ref p) a)(h:∀Q,(∀p,H p=none->Q (.ref p) (upd H p o))->w Q)(nz:∀o' u,o≠.frz o' u:=by intro _ _ z;cases z):Ans mg E R F H (.ok a) w :=
 λQ q=>h Q λp hp=>q (upd F p o) (upd H p o) (.ref p) (.new s hp o nz) (hr p hp)
def SAn(n:Nat)(m:MA):Prop:=∀ρ ds,m ρ=.ok ds->ds.length=n
def ZkC:SAn 0 yaa:=λρ ds h=>by cases h;rfl
def ZmU(h:SAn n m):SAn (n+1) (Zaa ma m):=λρ ds e=>by
 unfold Zaa at e;cases ea:ma ρ with
 | ok x =>
  rw [ea] at e;cases em:m ρ with
  | ok xs =>
   have e':(m ρ).bind (λxs=>Res.ok (x::xs))=.ok ds:=e;rw [em] at e';have e2:Res.ok (x::xs)=.ok ds:=e';cases e2;exact Vax (·+1) (h ρ xs em)
  | ex c =>
   have e':(m ρ).bind (λxs=>Res.ok (x::xs))=.ok ds:=e;rw [em] at e';cases e'
  | bad =>
   have e':(m ρ).bind (λxs=>Res.ok (x::xs))=.ok ds:=e;rw [em] at e';cases e'
 | ex c=>rw [ea] at e;cases e
 | bad=>rw [ea] at e;cases e
def ZqD(ha:SA K mg E t m)(hl:SAn n m)(hn:n<=sizeLine):SE K mg E (tTup t) (mtp m):=by
 intro F0 H0 F H σ ρ rr;have h:=ha F0 H0 F H σ ρ rr;unfold mtp;cases e:m ρ with
 | ok ds =>
  rw [e] at h;exact λQ q=>h _ λF' H' xs g rs=>⟨by rw [rs.length,hl ρ ds e];exact hn,λp hp=>q _ _ _ (g.trans (.new g.s hp _)) (.tup (SqT.of Zaf) (rs.same (ZaA (g.s.free hp) _)))⟩
 | ex c =>
  rw [e] at h;exact λQ q=>h _ q
 | bad=>trivial
def ZqR(ha:SA K mg E t m)(hl:SAn n m)(hn:n<=sizeLine):SE K mg E (tLst t) (mls m):=by
 intro F0 H0 F H σ ρ rr;have h:=ha F0 H0 F H σ ρ rr;unfold mls;cases e:m ρ with
 | ok ds =>
  rw [e] at h;exact λQ q=>h _ λF' H' xs g rs=>⟨by rw [rs.length,hl ρ ds e];exact hn,λp hp=>q _ _ _ (g.trans (.new g.s hp _)) (.lst (SqL.of Zaf) (rs.same (ZaA (g.s.free hp) _)))⟩
 | ex c =>
  rw [e] at h;exact λQ q=>h _ q
 | bad=>trivial
def st_b(ha:SE K mg E ta ma):STt K mg E (L2.tB ta) (trb ma):=by
 intro F0 H0 F H σ ρ rr;refine (ha F0 H0 F H σ ρ rr).bind λF1 H1 x dx g1 rx=>?_;cases dx with
 | bl b=>cases rx;exact .ret g1.s rfl λQ q=>⟨b,rfl,q⟩
 | _=>trivial
def Zh3(ha:SE K mg E ta ma):STt K mg E (Ze1 ta) (trb ma):=st_b ha
def Zqn(ha:STt K mg E sa na)(hb:STt K mg E sb nb):STt K mg E (tAnd sa sb) (bAnd na nb):=by
 intro F0 H0 F H σ ρ rr;refine (ha F0 H0 F H σ ρ rr).bind λF1 H1 x dx g1 rx=>?_;cases (show x=dx from rx);cases x with
 | true =>
  have z:=hb F0 H0 F1 H1 σ ρ (rr.gr g1);simp only [Va9];exact z
 | false =>
  simp only [Vby,Va8];exact Ans.ret (R:=RB) g1.s rfl λQ q=>q
def ZsC(ha:STt K mg E sa na)(hb:STt K mg E sb nb):STt K mg E (tOr sa sb) (bOr na nb):=by
 intro F0 H0 F H σ ρ rr;refine (ha F0 H0 F H σ ρ rr).bind λF1 H1 x dx g1 rx=>?_;cases (show x=dx from rx);cases x with
 | true =>
  simp only [Va9];exact Ans.ret (R:=RB) g1.s rfl λQ q=>q
 | false =>
  have z:=hb F0 H0 F1 H1 σ ρ (rr.gr g1);simp only [Vby,Va8];exact z
def Zp7(ha:STt K mg E sa na):STt K mg E (tNot sa) (bNot na):=by
 intro F0 H0 F H σ ρ rr;refine (ha F0 H0 F H σ ρ rr).bind λF1 H1 x dx g1 rx=>?_;cases (show x=dx from rx);exact Ans.ret (R:=RB) g1.s rfl λQ q=>q
def ZqV(ha:SE K mg E ta ma)(hb:SE K mg E tb mb):SE K mg E (Zoy ta tb) (eAnd ma mb):=by
 intro F0 H0 F H σ ρ rr;have z:=(st_b ha F0 H0 F H σ ρ rr).bind (R':=Rp K mg) (k:=λx=>if x=true then mb ρ else .ok (D.bl false)) (w':=λc H1 Q=>if c=true then tb σ H1 Q else Q (V.bl false) H1) λF1 H1 x dx g1 rx=>by
  cases (show x=dx from rx);cases x with
  | true =>
   have z:=hb F0 H0 F1 H1 σ ρ (rr.gr g1);simp only [Va9];exact z
  | false =>
   simp only [Vby,Va8];exact Ans.ret (R:=Rp K mg) g1.s (.bl false) λQ q=>q
 exact z
def Zqs(ha:SE K mg E ta ma):SE K mg E (Zot ta) (eNot ma):=by
 intro F0 H0 F H σ ρ rr;exact (st_b ha F0 H0 F H σ ρ rr).bind (R':=Rp K mg) (k:=λx=>.ok (D.bl (!x))) (w':=λc H1 Q=>Q (V.bl (!c)) H1) λF1 H1 x dx g1 rx=>by
  cases (show x=dx from rx);exact Ans.ret (R:=Rp K mg) g1.s (.bl _) λQ q=>q
def Zrz(hc:STt K mg E sa na)(ha:SE K mg E ta ma)(hb:SE K mg E tb mb):SE K mg E (tIf sa ta tb) (ife na ma mb):=by
 intro F0 H0 F H σ ρ rr;refine (hc F0 H0 F H σ ρ rr).bind λF1 H1 x dx g1 rx=>?_;cases (show x=dx from rx);cases x with
 | true =>
  have z:=ha F0 H0 F1 H1 σ ρ (rr.gr g1);simp only [Va9];exact z
 | false =>
  have z:=hb F0 H0 F1 H1 σ ρ (rr.gr g1);simp only [Vby,Va8];exact z
end
section
def ZnC(h:∀E F H a b,Same F H->Ans mg E (Rp K mg) F H (f a b) (r (.int a) (.int b) H)):OpD K mg r (ii f):=by
 intro E F H x y dx dy s rx ry;unfold ii;split
 ·cases rx;cases ry;exact h E F H _ _ s
 ·trivial
def Zkx(h:∀a b,(∃d,f a b=.ok d/\C a b/\∀F,Rp K mg F (g a b) d)\/f a b=.bad):OpD K mg (rI C g) (ii f):=by
 refine ZnC λE F H a b s=>?_;rcases h a b with ⟨d,e,hc,hr⟩ | e
 ·rw [e];exact .ret s (hr F) λQ q=>⟨a,b,rfl,rfl,hc,q⟩
 ·rw [e];trivial
def Zhi(h:∀a b,(∃d,f a b=.ok d/\∀F,Rp K mg F (g a b) d)\/f a b=.bad):OpD K mg (rI0 g) (ii f):=by
 refine ZnC λE F H a b s=>?_;rcases h a b with ⟨d,e,hr⟩ | e
 ·rw [e];exact .ret s (hr F) λQ q=>⟨a,b,rfl,rfl,q⟩
 ·rw [e];trivial
def Zo4:OpD K mg (rI0 λi j=>.int (i - j)) dSub:=Zhi λ_ _=>.inl ⟨_,rfl,λ_=>.int _⟩
def ZnQ:OpD K mg (rI0 λi j=>.bl (decide (i<j))) dLt:=Zhi λ_ _=>.inl ⟨_,rfl,λ_=>.bl _⟩
def ZnK:OpD K mg (rI0 λi j=>.bl (decide (i<=j))) dLe:=Zhi λ_ _=>.inl ⟨_,rfl,λ_=>.bl _⟩
def ZqU:OpD K mg (rI0 λi j=>.bl (decide (j<i))) dGt:=Zhi λ_ _=>.inl ⟨_,rfl,λ_=>.bl _⟩
def ZnM:OpD K mg (rI0 λi j=>.bl (decide (j<=i))) dGe:=Zhi λ_ _=>.inl ⟨_,rfl,λ_=>.bl _⟩
def ZpR:OpD K mg (rI (λ_ j=>j≠0) λi j=>.int (i.fmod j)) ybp:=Zkx λa b=>by
 unfold iMod;by_cases h1:0<b
 ·rw [if_pos h1];exact .inl ⟨_,rfl,by omega,λ_=>by rw [Int.fmod_eq_emod_of_nonneg a (by omega)];exact .int _⟩
 ·rw [if_neg h1];by_cases h2:b=0
  ·rw [if_pos h2];exact .inr rfl
  ·rw [if_neg h2];exact .inl ⟨_,rfl,h2,λ_=>.int _⟩
def ZoJ:OpD K mg (rI ZpY λi j=>.int (i.fdiv j)) ycc:=Zkx λa b=>by
 unfold iDiv;by_cases h0:b.natAbs.log2<9000
 ·rw [if_pos h0];by_cases h1:0<b
  ·rw [if_pos h1];exact .inl ⟨_,rfl,⟨by omega,h0⟩,λ_=>by rw [Int.fdiv_eq_ediv_of_nonneg a (by omega)];exact .int _⟩
  ·rw [if_neg h1];by_cases h2:b=0
   ·rw [if_pos h2];exact .inr rfl
   ·rw [if_neg h2];exact .inl ⟨_,rfl,⟨h2,h0⟩,λ_=>.int _⟩
 ·rw [if_neg h0];exact .inr rfl
def ZpM:OpD K mg (rI CPow λi j=>.int (i*2^j.toNat)) dShl:=Zkx λa b=>by
 unfold iShl;by_cases h:0<=b/\b<=1000000/\a.natAbs<2^64
 ·rw [if_pos h];exact .inl ⟨_,rfl,h,λ_=>.int _⟩
 ·rw [if_neg h];exact .inr rfl
def Zpz:OpD K mg (rI (λ_ j=>0<=j) λi j=>.int (i/2^j.toNat)) dShr:=Zkx λa b=>by
 unfold iShr;by_cases h:0<=b
 ·rw [if_pos h];exact .inl ⟨_,rfl,h,λ_=>.int _⟩
 ·rw [if_neg h];exact .inr rfl
def ZoN(h:∀i H Q,Q (.int (-i)) H->r (.int i) H Q):UnD K mg r dNeg:=by
 intro E F H x dx s rx;unfold dNeg;split
 ·cases rx;exact .ret s (.int _) λQ q=>h _ _ _ q
 ·trivial
def ZqE(K:W.Frag):R2:=λx y H Q=>∃l b xs zs,x=.ref l/\y=.ref b/\SqL K H l xs/\SqL K H b zs/\xs.length+zs.length<=sizeLine/\∀p,H p=none->Q (.ref p) (upd H p (.lst (xs++zs)))
def Zq7(K:W.Frag):R2:=λx y H Q=>∃a b xs ys,x=.ref a/\y=.ref b/\SqT K H a xs/\SqT K H b ys/\xs.length+ys.length<=sizeLine /\
 (xs=[]->Q (.ref b) H)/\(xs≠[]->ys=[]->Q (.ref a) H)/\(xs≠[]->ys≠[]->∀p,H p=none->Q (.ref p) (upd H p (.tup (xs++ys))))
def Zs6:R2:=λx y H Q=>∃i j,x=.str i/\y=.str j/\i.length+j.length<=sizeLine/\Q (.str (i++j)) H
def ZoV(K:W.Frag):R2:=λx y H Q=>rI0 (λi j=>.int (i+j)) x y H Q\/ZqE K x y H Q\/Zq7 K x y H Q\/Zs6 x y H Q
def ZdA(h:n<=LIM):n<=sizeLine:=Vaj h (by decide)
def ZnX:OpD K mg (ZoV K) yao:=by
 intro E F H x y dx dy s rx ry;unfold yao;split
 ·cases rx;cases ry;exact .ret s (.int _) λQ q=>.inl ⟨_,_,rfl,rfl,q⟩
 ·next as bs =>
  by_cases h:as.length+bs.length<=LIM
  ·rw [if_pos h];cases rx with
   | lst ha ra =>
    cases ry with
    | lst hb rb =>
     refine Zfi s (o:=.lst _) (λp hp=>.lst (SqL.of Zaf) ((Rps.app rb ra).same (ZaA (s.free hp) _))) λQ q=>.inr (.inl ⟨_,_,_,_,rfl,rfl,s.seq ha,s.seq hb,?_,q⟩);rw [ra.length,rb.length];exact ZdA h
  ·rw [if_neg h];trivial
 ·next as bs =>
  by_cases h:as.length+bs.length<=LIM
  ·rw [if_pos h];cases rx with
   | tup ha ra =>
    cases ry with
    | tup hb rb =>
     rename_i a xs b ys;have hl:xs.length+ys.length<=sizeLine:=by rw [ra.length,rb.length];exact ZdA h
     intro Q q;refine .inr (.inr (.inl ⟨a,b,xs,ys,rfl,rfl,ZaB s ha,ZaB s hb,hl,λe=>?_,λ_ e=>?_,λ_ _ p hp=>?_⟩))
     ·subst e;cases ra;exact q F H _ (.refl s) (.tup hb rb)
     ·subst e;cases rb;rw [VaU] at q;exact q F H _ (.refl s) (.tup ha ra)
     ·exact q _ _ _ (.new s hp _) (.tup (SqT.of Zaf) ((Rps.app rb ra).same (ZaA (s.free hp) _)))
  ·rw [if_neg h];trivial
 ·next a b =>
  by_cases h:a.length+b.length<=LIM
  ·rw [if_pos h];cases rx;cases ry;exact .ret s (.str _) λQ q=>.inr (.inr (.inr ⟨_,_,rfl,rfl,ZdA h,q⟩))
  ·rw [if_neg h];trivial
 ·trivial
def Zqu(ha:SE K mg E ta ma):SE K mg E (tOp (λx y H Q=>y=.non/\Q (.bl (decide (x=.non))) H) ta (tC .non)) (o1 dIsN ma):=by
 intro F0 H0 F H σ ρ rr;refine (ha F0 H0 F H σ ρ rr).bind λF1 H1 x dx g1 rx=>?_;have e:decide (x=V.non)=Zna dx:=by cases rx<;>rfl
 exact .ret g1.s (.bl _) λQ q=>⟨rfl,by rw [e];exact q⟩
def ZoK(ha:SE K mg E ta ma):SE K mg E (tOp (λx y H Q=>y=.non/\Q (.bl (!decide (x=.non))) H) ta (tC .non)) (o1 ZlS ma):=by
 intro F0 H0 F H σ ρ rr;refine (ha F0 H0 F H σ ρ rr).bind λF1 H1 x dx g1 rx=>?_;have e:decide (x=V.non)=Zna dx:=by cases rx<;>rfl
 exact .ret g1.s (.bl _) λQ q=>⟨rfl,by rw [e];exact q⟩
def Zni{F:Hp}{i:Int}(r:Rps K mg F xs ds)(h:at_ ds i=some d):∃x,atI xs i=some x/\Rp K mg F x d:=by
 have hl:=r.length;unfold at_ at h;unfold atI ixN;by_cases h0:0<=i
 ·rw [if_pos h0] at h;obtain ⟨x,e,rx⟩:=r.get h;have lt:i.toNat<xs.length:=(Vat.mp e).1;exact ⟨x,by rw [if_pos h0,if_pos (by omega)];exact e,rx⟩
 ·rw [if_neg h0] at h;by_cases h1:-(ds.length:Int)<=i
  ·rw [if_pos h1] at h;obtain ⟨x,e,rx⟩:=r.get h;exact ⟨x,by rw [if_neg h0,if_pos (by omega),hl];exact e,rx⟩
  ·rw [if_neg h1] at h;cases h
def rIxD(K:W.Frag):R2:=λx y H Q=>rIxL K x y H Q\/rIxT K x y H Q
def ZrJ:OpD K mg (rIxD K) dIx:=by
 intro E F H x y dx dy s rx ry;unfold dIx;split
 ·next ds i =>
  cases e:at_ ds i with
  | none=>trivial
  | some d =>
   cases rx with
   | lst ha ra =>
    cases ry;obtain ⟨z,e1,rz⟩:=Zni ra e;exact Ans.ret s rz λQ q=>.inl ⟨_,_,_,_,rfl,rfl,s.seq ha,e1,q⟩
 ·next ds i =>
  cases e:at_ ds i with
  | none=>trivial
  | some d =>
   cases rx with
   | tup ha ra =>
    cases ry;obtain ⟨z,e1,rz⟩:=Zni ra e;exact Ans.ret s rz λQ q=>.inr ⟨_,_,_,_,rfl,rfl,ZaB s ha,e1,q⟩
 ·trivial
def Zjb(n d)(o):cutAt n d o=HT.sIx n d o:=by cases o<;>rfl
def ZlA{F:Hp}(r:Rps K mg F xs ds)(lo hi):Rps K mg F (cutV xs lo hi) (cutL ds lo hi):=by
 unfold cutV cutL;simp only [Zjb,r.length];exact (r.drop _).take _
def rSlU(K:W.Frag):V->Option Int->Option Int->Hp->VK->Prop:=λx lo hi H Q=>∃a xs,x=.ref a/\SqT K H a xs /\
 ((HT.sIx xs.length 0 lo=0/\HT.sIx xs.length xs.length hi=xs.length)->Q (.ref a) H)/\(¬(HT.sIx xs.length 0 lo=0/\HT.sIx xs.length xs.length hi=xs.length)->∀p,H p=none->Q (.ref p) (upd H p (.tup (cutV xs lo hi))))
def rSlD(K:W.Frag):V->Option Int->Option Int->Hp->VK->Prop:=λx lo hi H Q=>rSlL K x lo hi H Q\/rSlU K x lo hi H Q
def Zr7(ha:SE K mg E ta ma)(hl:SO K mg E tl ml)(hh:SO K mg E th mh):SE K mg E (tSl (rSlD K) ta tl th) (cut ma ml mh):=by
 intro F0 H0 F H σ ρ rr;refine (ha F0 H0 F H σ ρ rr).bind λF1 H1 x dx g1 rx=>?_;refine (hl F0 H0 F1 H1 σ ρ (rr.gr g1)).bind λF2 H2 l l' g2 e2=>?_;cases (show l=l' from e2);refine (hh F0 H0 F2 H2 σ ρ ((rr.gr g1).gr g2)).bind λF3 H3 h h' g3 e3=>?_;cases (show h=h' from e3);have rx':=rx.same (g2.f.trans g3.f);unfold dCut;split
 ·cases rx' with
  | lst hx r =>
   refine Zfi g3.s (o:=.lst _) (λp hp=>.lst (SqL.of Zaf) ((ZlA r l h).same (ZaA (g3.s.free hp) _))) λQ q=>.inl ⟨_,_,rfl,g3.s.seq hx,q⟩
 ·cases rx' with
  | tup hx r =>
   rename_i ds a xs;intro Q q;refine .inr ⟨a,xs,rfl,ZaB g3.s hx,λe=>?_,λ_ p hp=>q _ _ _ (.new g3.s hp _) (.tup (SqT.of Zaf) ((ZlA r l h).same (ZaA (g3.s.free hp) _)))⟩;have ec:cutL ds l h=ds:=by
    unfold cutL;simp only [Zjb,<-r.length,e.1,e.2];rw [List.drop_zero,Nat.sub_zero,r.length,List.take_length]
   rw [ec] at q;exact q F3 H3 _ (.refl g3.s) (.tup hx r)
 ·trivial
def ZnU:SO K mg E Zil pno:=λ_ _ _ _ _ _ r=>Ans.ret (R:=RO) r.ss rfl λ_ q=>q
def ZpJ(ha:SE K mg E ta ma):SO K mg E (Zoj ta) (pso ma):=by
 intro F0 H0 F H σ ρ rr;refine (ha F0 H0 F H σ ρ rr).bind λF1 H1 x dx g1 rx=>?_;cases dx with
 | int i=>cases rx;exact Ans.ret (R:=RO) g1.s rfl λQ q=>⟨i,rfl,q⟩
 | _=>trivial
def Zdb:CallD K mg (λxs H Q=>∃p ys,xs=[.ref p]/\(SqL K H p ys\/SqT K H p ys)/\Q (.int ys.length) H) bLen:=by
 intro E F H xs ds s r;unfold bLen;split
 ·obtain ⟨x,rfl,rx⟩:=r.one;cases rx with
  | lst h q=>rw [<-q.length];exact .ret s (.int _) λQ q=>⟨_,_,rfl,.inl (s.seq h),q⟩
 ·obtain ⟨x,rfl,rx⟩:=r.one;cases rx with
  | tup h q=>rw [<-q.length];exact .ret s (.int _) λQ q=>⟨_,_,rfl,.inr (ZaB s h),q⟩
 ·trivial
def Zlm:CallD K mg (λxs H Q=>∃i,xs=[.int i]/\Q (.int (if i<0 then -i else i)) H) bAbs:=by
 intro E F H xs ds s r;unfold bAbs;split
 ·obtain ⟨x,rfl,rx⟩:=r.one;cases rx;exact .ret s (.int _) λQ q=>⟨_,rfl,q⟩
 ·trivial
def ZhM:CallD K mg (λxs H Q=>∃i j,xs=[.int i,.int j]/\Q (.int (if j>i then j else i)) H) bMax:=by
 intro E F H xs ds s r;unfold bMax;split
 ·obtain ⟨x,y,rfl,rx,ry⟩:=r.two;cases rx;cases ry;exact .ret s (.int _) λQ q=>⟨_,_,rfl,q⟩
 ·trivial
def ZhO:CallD K mg (λxs H Q=>∃i j,xs=[.int i,.int j]/\Q (.int (if j<i then j else i)) H) bMin:=by
 intro E F H xs ds s r;unfold bMin;split
 ·obtain ⟨x,y,rfl,rx,ry⟩:=r.two;cases rx;cases ry;exact .ret s (.int _) λQ q=>⟨_,_,rfl,q⟩
 ·trivial
def Zfy:CallD K mg (λxs H Q=>∃p ys,xs=[.ref p]/\((SqL K H p ys/\∀l,H l=none->Q (.ref l) (upd H l (.tup ys)))\/(SqT K H p ys/\Q (.ref p) H))) bTup:=by
 intro E F H xs ds s r;unfold bTup;split
 ·obtain ⟨x,rfl,rx⟩:=r.one;cases rx with
  | lst h q=>exact Zfi s (o:=.tup _) (λp hp=>.tup (SqT.of Zaf) (q.same (ZaA (s.free hp) _))) λQ z=>⟨_,_,rfl,.inl ⟨s.seq h,z⟩⟩
 ·obtain ⟨x,rfl,rx⟩:=r.one;cases rx with
  | tup h q=>exact .ret s (.tup h q) λQ z=>⟨_,_,rfl,.inr ⟨ZaB s h,z⟩⟩
 ·trivial
def spD(K:W.Frag)(mg:Str->Option Value)(n:Nat)(m:List D->Res D):Sp:=λvs H Q E=>vs.length=n/\∃F ds,Same F H/\Rps K mg F vs ds/\m ds≠.bad /\
 (∀d,m ds=.ok d->∀F' H' x,Gr F H F' H'->Rp K mg F' x d->Q x H')/\(∀c,m ds=.ex c->∀F' H' C,Gr F H F' H'->mg (clsOf c)=some (.ref C)->E (.ref C) (pay c) H')
def ZgG{F:Hp}(s:Same F H)(r:Rps K mg F vs ds)(hl:ds.length=n):Ans mg E (Rp K mg) F H (m ds) (λQ=>spD K mg n m vs H Q E):=by
 have hv:vs.length=n:=r.length.trans hl;cases e:m ds with
 | ok d =>
  intro Q q;refine ⟨hv,F,ds,s,r,λz=>?_,λd' e'=>?_,λc e'=>?_⟩
  ·rw [e] at z;cases z
  ·rw [e] at e';cases e';exact q
  ·rw [e] at e';cases e'
 | ex c =>
  intro Q q;refine ⟨hv,F,ds,s,r,λz=>?_,λd' e'=>?_,λc e'=>?_⟩
  ·rw [e] at z;cases z
  ·rw [e] at e';cases e'
  ·rw [e] at e';cases e';exact q
 | bad=>trivial
def Zpr(ha:SA K mg E t ma)(hl:SAn n ma):SE K mg E (ZeB (spD K mg n m) [] E t) (on m ma):=by
 intro F0 H0 F H σ ρ rr;refine (ha F0 H0 F H σ ρ rr).bindE (w':=λvs H1 Q=>spD K mg n m (vs++[]) H1 Q E) λds e F1 H1 vs g1 rs=>?_;have z:=ZgG (E:=E) (m:=m) g1.s rs (hl ρ ds e);simp only [VaU];exact z
end
section
variable    {ta:TE} {ma:ME} {F:Hp}
def AnsS.mono{w:Ends->Prop}(s:Same F F1)(h:AnsS K mg E F0 H0 F1 r w):AnsS K mg E F0 H0 F r w:=by
 cases r with
 | ok f =>
  cases f with
  | nx ρ=>exact λD q=>h D λF' H' σ' s' r'=>q F' H' σ' (s.trans s') r'
  | bk ρ=>exact λD q=>h D λF' H' σ' s' r'=>q F' H' σ' (s.trans s') r'
  | ct ρ=>exact λD q=>h D λF' H' σ' s' r'=>q F' H' σ' (s.trans s') r'
  | rt d=>exact h
 | ex c=>exact h
 | bad=>trivial
def Ans.stm{α β:Type}{R:Hp->β->α->Prop}{r:Res α}{w:(β->Hp->Prop)->Prop}{k:α->Res Fl}{w':β->Hp->Ends->Prop}(h1:Ans mg E R F H r w)(g0:Gr F0 H0 F H)(h2:∀a,r=.ok a->∀F1 H1 b,Gr F H F1 H1->R F1 b a->AnsS K mg E F0 H0 F1 (k a) (w' b H1)) :
  AnsS K mg E F0 H0 F (r.bind k) (λD=>w λb H1=>w' b H1 D):=by
 cases r with
 | ok a =>
  show AnsS K mg E F0 H0 F (k a) _;have h2':=λF1 H1 b (g:Gr F H F1 H1) q=>(h2 a rfl F1 H1 b g q).mono g.f;generalize k a=r2 at h2';cases r2 with
  | ok f =>
   cases f with
   | nx ρ=>exact λD q=>h1 _ λF1 H1 b g rb=>h2' F1 H1 b g rb D q
   | bk ρ=>exact λD q=>h1 _ λF1 H1 b g rb=>h2' F1 H1 b g rb D q
   | ct ρ=>exact λD q=>h1 _ λF1 H1 b g rb=>h2' F1 H1 b g rb D q
   | rt d=>exact λD q=>h1 _ λF1 H1 b g rb=>h2' F1 H1 b g rb D q
  | ex c=>exact λD q=>h1 _ λF1 H1 b g rb=>h2' F1 H1 b g rb D q
  | bad=>trivial
 | ex c=>exact λD q=>h1 _ λF1 H1 C g hc=>q F1 H1 C (g0.trans g) hc
 | bad=>trivial
def ZnE:SS K mg E ZjN nop:=λ_ _ _ _ _ _ r D q=>q _ _ _ (Same.refl _) r
def Zqk{n:MS}(h1:SS K mg E t m)(h2:SS K mg E u n):SS K mg E (tSeq t u) (sq m n):=by
 intro F0 H0 F H σ ρ rr;have h:=h1 F0 H0 F H σ ρ rr;unfold sq;cases e:m ρ with
 | ok f =>
  rw [e] at h;cases f with
  | nx ρ' =>
   show AnsS K mg E F0 H0 F (n ρ') _;have h2':=λF1 H1 σ1 (s:Same F F1) r1=>(h2 F0 H0 F1 H1 σ1 ρ' r1).mono s;generalize n ρ'=r2 at h2';cases r2 with
   | ok f =>
    cases f with
    | nx ρ=>exact λD q=>h _ λF1 H1 σ1 s r1=>h2' F1 H1 σ1 s r1 D q
    | bk ρ=>exact λD q=>h _ λF1 H1 σ1 s r1=>h2' F1 H1 σ1 s r1 D q
    | ct ρ=>exact λD q=>h _ λF1 H1 σ1 s r1=>h2' F1 H1 σ1 s r1 D q
    | rt d=>exact λD q=>h _ λF1 H1 σ1 s r1=>h2' F1 H1 σ1 s r1 D q
   | ex c=>exact λD q=>h _ λF1 H1 σ1 s r1=>h2' F1 H1 σ1 s r1 D q
   | bad=>trivial
  | bk ρ'=>exact λD q=>h _ q
  | ct ρ'=>exact λD q=>h _ q
  | rt d=>exact λD q=>h _ q
 | ex c=>rw [e] at h;exact λD q=>h _ q
 | bad=>trivial
def ZpK(ha:SE K mg E ta ma):SS K mg E (Zb3 ta) (drp ma):=by
 intro F0 H0 F H σ ρ rr;exact (ha F0 H0 F H σ ρ rr).stm (w':=λ_ H1 D=>D.nx σ H1) rr.g λd _ F1 H1 x g1 rx=>λD q=>q F1 H1 σ (Same.refl _) (rr.gr g1)
def Zp3(ha:SE K mg E ta ma):SS K mg E (tRet ta) (ret ma):=by
 intro F0 H0 F H σ ρ rr;exact (ha F0 H0 F H σ ρ rr).stm (w':=λx H1 D=>D.rt x H1) rr.g λd _ F1 H1 x g1 rx=>λD q=>q F1 H1 x (rr.g.trans g1) rx
def Zrx:SS K mg E Zj6 cnt:=λ_ _ _ _ _ _ r D q=>q _ _ _ (Same.refl _) r
def Ztg{n:MS}(hc:STt K mg E sc nc)(h1:SS K mg E t m)(h2:SS K mg E u n):SS K mg E (tIfS sc t u) (ifs nc m n):=by
 intro F0 H0 F H σ ρ rr;refine (hc F0 H0 F H σ ρ rr).stm (w':=λb H1 D=>if b=true then t D σ H1 else u D σ H1) rr.g λb _ F1 H1 x g1 rx=>?_
 cases (show x=b from rx);cases b with
 | true =>
  have z:=h1 F0 H0 F1 H1 σ ρ (rr.gr g1);simp only [Va9];exact z
 | false =>
  have z:=h2 F0 H0 F1 H1 σ ρ (rr.gr g1);simp only [Vby,Va8];exact z
def ZiD{l:List α}{x:α}(h:i<n):(l.set i x).drop n=l.drop n:=by
 rw [List.drop_set,if_pos h]
def Zn7(h:i<n):SG K mg n (ZbT i) (gN i):=λ_ _ _ _ _ _ _ _ r rx _ q=>q _ _ _ (Same.refl _) (r.set i rx) (ZiD h)
def Zpy:SGs K mg n gNil gs0:=by
 intro F0 H0 F H σ ρ xs ds r rs;unfold gs0;split
 ·cases rs;exact λQ q=>⟨rfl,q _ _ _ (Same.refl _) r rfl⟩
 ·trivial
def ZmS(h1:SG K mg n t g)(h2:SGs K mg n u gs):SGs K mg n (Zm9 t u) (gs1 g gs):=by
 intro F0 H0 F H σ ρ xs ds r rs;unfold gs1;cases rs with
 | nil=>trivial
 | cons rx rs =>
  rename_i x xs d ds;have h:=h1 F0 H0 F H σ ρ x d r rx;show AnsG K mg F0 H0 F n σ ((g d ρ).bind λρ'=>gs ds ρ') _;cases e:g d ρ with
  | ok ρ' =>
   rw [e] at h;show AnsG K mg F0 H0 F n σ (gs ds ρ') _;cases e2:gs ds ρ' with
   | ok ρ'' =>
    refine λQ q=>⟨x,xs,rfl,h _ λF1 H1 σ1 s1 r1 d1=>?_⟩;have h':=h2 F0 H0 F1 H1 σ1 ρ' xs ds r1 (rs.same s1);rw [e2] at h';exact h' _ λF2 H2 σ2 s2 r2 d2=>q F2 H2 σ2 (s1.trans s2) r2 (d2.trans d1)
   | ex c=>trivial
   | bad=>trivial
  | ex c=>trivial
  | bad=>trivial
def gLst(K:W.Frag)(n:Nat)(t:TGs):TG:=λv σ H Q=>∃a xs,v=.ref a/\SqL K H a xs/\xs.length=n/\t xs σ H Q
def gSeq(K:W.Frag)(n:Nat)(t:TGs):TG:=λv σ H Q=>gTup K n t v σ H Q\/gLst K n t v σ H Q
def Zrg(h:SGs K mg n t g):SG K mg n (gSeq K k t) (gU k g):=by
 intro F0 H0 F H σ ρ x d r rx;unfold gU items;split
 ·next ds =>
  show AnsG K mg F0 H0 F n σ (if ds.length=k then g ds ρ else .bad) _
  by_cases hl:ds.length=k
  ·rw [if_pos hl];cases rx with
   | lst ha ra =>
    have h':=h F0 H0 F H σ ρ _ _ r ra;cases e:g ds ρ with
    | ok ρ' =>
     rw [e] at h';exact λQ q=>.inr ⟨_,_,rfl,r.ss.seq ha,ra.length.trans hl,h' Q q⟩
    | ex c=>trivial
    | bad=>trivial
  ·rw [if_neg hl];trivial
 ·next ds =>
  show AnsG K mg F0 H0 F n σ (if ds.length=k then g ds ρ else .bad) _
  by_cases hl:ds.length=k
  ·rw [if_pos hl];cases rx with
   | tup ha ra =>
    have h':=h F0 H0 F H σ ρ _ _ r ra;cases e:g ds ρ with
    | ok ρ' =>
     rw [e] at h';exact λQ q=>.inl ⟨_,_,rfl,ZaB r.ss ha,ra.length.trans hl,h' Q q⟩
    | ex c=>trivial
    | bad=>trivial
  ·rw [if_neg hl];trivial
 ·trivial
def Zp4{t:TG}{g:MG}(ha:SE K mg E ta ma)(hg:SG K mg n t g)(hx:∀d ρ c,g d ρ≠.ex c):SS K mg E (tAsg ta t) (asg g ma):=by
 intro F0 H0 F H σ ρ rr;refine (ha F0 H0 F H σ ρ rr).stm (w':=λx H1 D=>t x σ H1 D.nx) rr.g λd _ F1 H1 x g1 rx=>?_;have h:=hg F0 H0 F1 H1 σ ρ x d (rr.gr g1) rx;cases e:g d ρ with
 | ok ρ' =>
  rw [e] at h;exact λD q=>h _ λF' H' σ' s r' _=>q F' H' σ' s r'
 | ex c=>exact absurd e (hx d ρ c)
 | bad=>trivial
def ZnR(ha:SE K mg E ta ma):SS K mg E (tAsg ta (ZbT i)) (st i ma):=by
 intro F0 H0 F H σ ρ rr;exact (ha F0 H0 F H σ ρ rr).stm (w':=λx H1 D=>D.nx (σ.set i (some x)) H1) rr.g λd _ F1 H1 x g1 rx=>λD q=>q F1 H1 _ (Same.refl _) ((rr.gr g1).set i rx)
def Zsg(h:SS K mg E t m):SS K mg E t (frz i m):=by
 intro F0 H0 F H σ ρ rr;unfold frz getO;split
 ·next xs e =>
  show AnsS K mg E F0 H0 F (m (ρ.set i (.im (.lst xs)))) _;obtain ⟨F',s,r'⟩:=rr.frz e;exact (h F0 H0 F' H σ _ r').mono s
 ·trivial
def Zq1(ha:SE K mg E ta ma)(hty:∀H a xs,H a=some (.lst xs)->tyV K "list" (.ref a) H):SS K mg E (Zb3 (tBM K "list" Zc9 (tVar i) (Zbd ta tNil))) (app i ma):=by
 intro F0 H0 F H σ ρ rr;unfold app getO;split
 ·next ds e =>
  show AnsS K mg E F0 H0 F ((ma ρ).bind λd=>if ds.length<LIM then .ok (.nx (ρ.set i (.ow (ds++[d])))) else .bad) _
  obtain ⟨a,xs,e2,e4,e5,e3,hr⟩:=rr.ow i ds e;have hl:xs.length=ds.length:=hr.length;have h:=(ha F0 H0 F H σ ρ rr).stm (K:=K) (k:=λd=>if ds.length<LIM then .ok (.nx (ρ.set i (.ow (ds++[d])))) else .bad) (w':=λx H2 D=>Zc9 (.ref a) [x] H2 λ_ H3=>D.nx σ H3) rr.g λd _ F1 H1 x g1 rx=>?_
  ·generalize ((ma ρ).bind λd=>if ds.length<LIM then Res.ok (Fl.nx (ρ.set i (.ow (ds++[d])))) else .bad)=res at h
   have fin:∀D:Ends,(ta σ H λx H2=>Zc9 (.ref a) [x] H2 λ_ H3=>D.nx σ H3)->Zb3 (tBM K "list" Zc9 (tVar i) (Zbd ta tNil)) D σ H:=λD z=>⟨.ref a,e2,hty H a xs e3,z⟩;cases res with
   | ok f =>
    cases f with
    | nx ρ=>exact λD q=>fin D (h D q)
    | bk ρ=>exact λD q=>fin D (h D q)
    | ct ρ=>exact λD q=>fin D (h D q)
    | rt d=>exact λD q=>fin D (h D q)
   | ex c=>exact λD q=>fin D (h D q)
   | bad=>trivial
  ·by_cases hlim:ds.length<LIM
   ·simp only [hlim,Va9];have r1:=rr.gr g1;obtain ⟨q1,q2⟩:=g1.o a _ e5 e3;exact λD q=>⟨a,xs,x,rfl,rfl,q2,by rw [hl];exact Vad hlim (by decide),q F1 _ σ (Same.refl _) (r1.app e e2 q2 e4 q1 (hr.same g1.f) rx)⟩
   ·simp only [hlim,Va8];trivial
 ·trivial
def iSeq(K:W.Frag)(tl:TE):TI:=λσ H R=>tl σ H λx H1=>∃a,x=.ref a/\(((∃xs,SqL K H1 a xs)/\R (Itl K a) H1)\/((∃xs,SqT K H1 a xs)/\R (Itt K a) H1))
def ZqY(h:SqL K F a xs)(r:Rps K mg F xs ds):ItOk K mg F (Itl K a) ds:=by
 intro F' H' s1 s2 i;have hq:SqL K H' a xs:=(s1.trans s2).seq h;refine ⟨λd e=>?_,λhl=>⟨xs,hq,by rw [r.length];exact hl⟩⟩;obtain ⟨x,e1,rx⟩:=r.get e;refine ⟨⟨xs,x,hq,e1⟩,λy H'' q=>?_⟩;obtain ⟨rfl,q⟩:=q;have e2:=q xs hq;rw [e1] at e2;cases e2;exact ⟨F',.refl s2,rx.same s1⟩
def Zrd(h:SqT K F a xs)(r:Rps K mg F xs ds):ItOk K mg F (Itt K a) ds:=by
 intro F' H' s1 s2 i;have hq:SqT K H' a xs:=ZaB (s1.trans s2) h;refine ⟨λd e=>?_,λhl=>⟨xs,hq,by rw [r.length];exact hl⟩⟩;obtain ⟨x,e1,rx⟩:=r.get e;refine ⟨⟨xs,x,hq,e1⟩,λy H'' q=>?_⟩;obtain ⟨rfl,q⟩:=q;have e2:=q xs hq;rw [e1] at e2;cases e2;exact ⟨F',.refl s2,rx.same s1⟩
def Znl(lo)(n):ItOk K mg F (Itr lo n) (ZbG lo n):=by
 intro F' H' s1 s2 i;unfold ZbG;refine ⟨λd e=>?_,λhl=>?_⟩
 ·rw [Va3] at e;have hi:i<n:=by
   rcases Nat.lt_or_ge i n with z | z
   ·exact z
   ·rw [List.getElem?_eq_none (by rw [List.length_range];exact z)] at e;cases e
  rw [List.getElem?_range hi] at e;cases e;refine ⟨hi,λy H'' q=>?_⟩;obtain ⟨rfl,rfl⟩:=q;exact ⟨F',.refl s2,.int _⟩
 ·rw [VaO,List.length_range] at hl;exact hl
def ZrD(ha:SE K mg E ta ma):SI K mg E (iSeq K ta) (iv ma):=by
 intro F0 H0 F H σ ρ rr;refine (ha F0 H0 F H σ ρ rr).bind λF1 H1 x dx g1 rx=>?_;cases dx with
 | lst ds =>
  cases rx with
  | lst h r=>exact Ans.ret (R:=ItOk K mg) g1.s (ZqY h r) λQ q=>⟨_,rfl,.inl ⟨⟨_,g1.s.seq h⟩,q⟩⟩
 | tup ds =>
  cases rx with
  | tup h r=>exact Ans.ret (R:=ItOk K mg) g1.s (Zrd h r) λQ q=>⟨_,rfl,.inr ⟨⟨_,ZaB g1.s h⟩,q⟩⟩
 | _=>trivial
def Zs5(ha:SA K mg E t m):SI K mg E (Zpo t) (r1 m):=by
 intro F0 H0 F H σ ρ rr;refine (ha F0 H0 F H σ ρ rr).bind λF1 H1 xs ds g1 rs=>?_;unfold rng1;split
 ·next j =>
  by_cases h:-1000000000<=j/\j<=1000000000
  ·rw [if_pos h];obtain ⟨x,rfl,rx⟩:=rs.one;cases rx;exact Ans.ret (R:=ItOk K mg) g1.s (Znl 0 _) λQ q=>⟨j,rfl,by omega,by omega,q⟩
  ·rw [if_neg h];trivial
 ·trivial
def Zth(ha:SA K mg E t m):SI K mg E (ZpH t) (r2 m):=by
 intro F0 H0 F H σ ρ rr;refine (ha F0 H0 F H σ ρ rr).bind λF1 H1 xs ds g1 rs=>?_;unfold rng2;split
 ·next i j =>
  by_cases h:(-1000000000<=i/\i<=1000000000)/\(-1000000000<=j/\j<=1000000000)
  ·rw [if_pos h];obtain ⟨x,y,rfl,rx,ry⟩:=rs.two;cases rx;cases ry;exact Ans.ret (R:=ItOk K mg) g1.s (Znl i _) λQ q=>⟨i,j,rfl,by omega,q⟩
  ·rw [if_neg h];trivial
 ·trivial
def Zsd{wi:TI}{mi:MI}{t:TG}{g:MG}{u:TS}{m:MS}(hi:SI K mg E wi mi)(hg:SG K mg n t g)(hx:∀d ρ c,g d ρ≠.ex c)(hb:SS K mg E u m):SS K mg E (tFor wi t u) (for_ mi g m):=by
 intro F0 H0 F H σ ρ rr
 refine (hi F0 H0 F H σ ρ rr).stm (w':=λJ H1 D=>∃W:Nat->Nat->St->Hp->Prop,(∃m,W 0 m σ H1)/\∀i m σ H,W i m σ H ->
  (J.stop i H/\D.nx σ H)\/(J.go i H/\∃N:St->Hp->Prop,(∀σ' H',N σ' H'->∃m',m'<m/\W (i+1) m' σ' H')/\∀x H',J.yld i H x H'->t x σ H' λσ2 H2=>u { D with nx:=N,ct:=N,bk:=D.nx } σ2 H2)) rr.g λds _ F1 H1 J g1 jo=>?_
 have r1:=rr.gr g1;have key:∀(D:Ends) (res:Res Fl),res≠.bad->(∀ρ',res=.ok (.nx ρ')->∀F' H' σ',Same F1 F'->Rep K mg F0 H0 F' H' σ' ρ'->D.nx σ' H')->(∀ρ',res=.ok (.bk ρ')->∀F' H' σ',Same F1 F'->Rep K mg F0 H0 F' H' σ' ρ'->D.bk σ' H') ->
   (∀ρ',res=.ok (.ct ρ')->∀F' H' σ',Same F1 F'->Rep K mg F0 H0 F' H' σ' ρ'->D.ct σ' H')->(∀d,res=.ok (.rt d)->∀F' H' x,Gr F0 H0 F' H'->Rp K mg F' x d->D.rt x H') ->
   (∀c,res=.ex c->∀F' H' C,Gr F0 H0 F' H'->mg (clsOf c)=some (.ref C)->E (.ref C) (pay c) H')->ZcV g m ds ρ=res ->
   ∃W:Nat->Nat->St->Hp->Prop,(∃m,W 0 m σ H1)/\∀i m σ H,W i m σ H ->
    (J.stop i H/\D.nx σ H)\/(J.go i H/\∃N:St->Hp->Prop,(∀σ' H',N σ' H'->∃m',m'<m/\W (i+1) m' σ' H')/\∀x H',J.yld i H x H'->t x σ H' λσ2 H2=>u { D with nx:=N,ct:=N,bk:=D.nx } σ2 H2):=by
  intro D res hbad qn qb qc qr qe e0;refine ⟨λi k σ' H'=>k=ds.length - i/\i<=ds.length/\∃ρ' F',Same F1 F'/\Rep K mg F0 H0 F' H' σ' ρ'/\ZcV g m (ds.drop i) ρ'=res,⟨ds.length,by simp,VaR _,ρ,F1,Same.refl _,r1,e0⟩,?_⟩;rintro i k σ' H' ⟨rfl,hi',ρ',F',s1,r',e⟩;by_cases hlt:i<ds.length
  ·refine .inr ?_;have hd:ds[i]?=some ds[i]:=VbF hlt;obtain ⟨go,yl⟩:=(jo F' H' s1 r'.ss i).1 _ hd;rw [Vbx hlt] at e;refine ⟨go,λσ2 H2=>∃ρ2 F2,Same F1 F2/\Rep K mg F0 H0 F2 H2 σ2 ρ2/\ZcV g m (ds.drop (i+1)) ρ2=res,λσ2 H2 ⟨ρ2,F2,s2,r2,e2⟩=>⟨ds.length - (i+1),by omega,rfl,hlt,ρ2,F2,s2,r2,e2⟩,λx H2 y=>?_⟩;obtain ⟨F2,g2,rx⟩:=yl x H2 y;have r2:=r'.gr g2;have hG:=hg F0 H0 F2 H2 σ' ρ' x _ r2 rx;have e':(g ds[i] ρ').bind (λρ1=>(m ρ1).bind (turn (ZcV g m (ds.drop (i+1)))))=res:=e;cases eg:g ds[i] ρ' with
   | ok ρ1 =>
    rw [eg] at e' hG;refine hG _ λF3 H3 σ3 s3 r3 _=>?_;have hB:=hb F0 H0 F3 H3 σ3 ρ1 r3;have sF:Same F1 F3:=s1.trans (g2.f.trans s3);have e2:(m ρ1).bind (turn (ZcV g m (ds.drop (i+1))))=res:=e';cases em:m ρ1 with
    | ok f =>
     rw [em] at e2 hB;cases f with
     | nx ρ2=>exact hB _ λF4 H4 σ4 s4 r4=>⟨ρ2,F4,sF.trans s4,r4,e2⟩
     | ct ρ2=>exact hB _ λF4 H4 σ4 s4 r4=>⟨ρ2,F4,sF.trans s4,r4,e2⟩
     | bk ρ2=>exact hB _ λF4 H4 σ4 s4 r4=>qn ρ2 e2.symm F4 H4 σ4 (sF.trans s4) r4
     | rt d=>exact hB _ λF4 H4 y g4 ry=>qr d e2.symm F4 H4 y g4 ry
    | ex c =>
     rw [em] at e2 hB;exact hB _ λF4 H4 C g4 hc=>qe c e2.symm F4 H4 C g4 hc
    | bad=>rw [em] at e2;exact absurd e2.symm hbad
   | ex c=>exact absurd eg (hx _ _ c)
   | bad=>rw [eg] at e';exact absurd e'.symm hbad
  ·have hi2:i=ds.length:=by omega
   subst hi2;rw [VbG (VaH _)] at e;exact .inl ⟨(jo F' H' s1 r'.ss _).2 (VaH _),qn ρ' e.symm F' H' σ' s1 r'⟩
 cases e:ZcV g m ds ρ with
 | ok f =>
  cases f with
  | nx ρ2=>exact λD q=>key D _ (λz=>by cases z) (λ_ z=>by cases z;exact q) (λ_ z=>by cases z) (λ_ z=>by cases z) (λ_ z=>by cases z) (λ_ z=>by cases z) e
  | bk ρ2=>exact λD q=>key D _ (λz=>by cases z) (λ_ z=>by cases z) (λ_ z=>by cases z;exact q) (λ_ z=>by cases z) (λ_ z=>by cases z) (λ_ z=>by cases z) e
  | ct ρ2=>exact λD q=>key D _ (λz=>by cases z) (λ_ z=>by cases z) (λ_ z=>by cases z) (λ_ z=>by cases z;exact q) (λ_ z=>by cases z) (λ_ z=>by cases z) e
  | rt d=>exact λD q=>key D _ (λz=>by cases z) (λ_ z=>by cases z) (λ_ z=>by cases z) (λ_ z=>by cases z) (λ_ z=>by cases z;exact q) (λ_ z=>by cases z) e
 | ex c=>exact λD q=>key D _ (λz=>by cases z) (λ_ z=>by cases z) (λ_ z=>by cases z) (λ_ z=>by cases z) (λ_ z=>by cases z) (λ_ z=>by cases z;exact q) e
 | bad=>trivial
def ZmE{n:Ev->Nat}(hc:STt K mg E sc nc)(hb:SS K mg E u m):SS K mg E (Zji sc u) (whl n nc m):=by
 intro F0 H0 F H σ ρ rr;have key:∀D res,res≠.bad->(∀ρ',res=.ok (.nx ρ')->∀F' H' σ',Same F F'->Rep K mg F0 H0 F' H' σ' ρ'->D.nx σ' H')->(∀ρ',res=.ok (.bk ρ')->∀F' H' σ',Same F F'->Rep K mg F0 H0 F' H' σ' ρ'->D.bk σ' H') ->
   (∀ρ',res=.ok (.ct ρ')->∀F' H' σ',Same F F'->Rep K mg F0 H0 F' H' σ' ρ'->D.ct σ' H')->(∀d,res=.ok (.rt d)->∀F' H' x,Gr F0 H0 F' H'->Rp K mg F' x d->D.rt x H') ->
   (∀c,res=.ex c->∀F' H' C,Gr F0 H0 F' H'->mg (clsOf c)=some (.ref C)->E (.ref C) (pay c) H')->whGo nc m (n ρ) ρ=res->Zji sc u D σ H:=by
  intro D res hbad qn qb qc qr qe e0;refine ⟨λk σ' H'=>∃ρ' F',Same F F'/\Rep K mg F0 H0 F' H' σ' ρ'/\whGo nc m k ρ'=res,⟨n ρ,ρ,F,Same.refl _,rr,e0⟩,?_⟩;rintro k σ' H' ⟨ρ',F',s1,r',e⟩;cases k with
  | zero=>exact absurd e.symm hbad
  | succ k =>
   have e':(nc ρ').bind (λx=>if x=true then (m ρ').bind (turn (whGo nc m k)) else .ok (.nx ρ'))=res:=e
   have hC:=hc F0 H0 F' H' σ' ρ' r';cases ec:nc ρ' with
   | ok b =>
    rw [ec] at e' hC;refine hC _ λF2 H2 b' g2 eb=>?_;cases (show b'=b from eb);have r2:=r'.gr g2;cases b with
    | true =>
     rw [if_pos rfl];have hB:=hb F0 H0 F2 H2 σ' ρ' r2;have e2:(m ρ').bind (turn (whGo nc m k))=res:=e';refine ⟨λσ3 H3=>∃ρ3 F3,Same F F3/\Rep K mg F0 H0 F3 H3 σ3 ρ3/\whGo nc m k ρ3=res,λσ3 H3 h=>⟨k,VaQ _,h⟩,?_⟩;have sF:Same F F2:=s1.trans g2.f;cases em:m ρ' with
     | ok f =>
      rw [em] at e2 hB;cases f with
      | nx ρ2=>exact hB _ λF4 H4 σ4 s4 r4=>⟨ρ2,F4,sF.trans s4,r4,e2⟩
      | ct ρ2=>exact hB _ λF4 H4 σ4 s4 r4=>⟨ρ2,F4,sF.trans s4,r4,e2⟩
      | bk ρ2=>exact hB _ λF4 H4 σ4 s4 r4=>qn ρ2 e2.symm F4 H4 σ4 (sF.trans s4) r4
      | rt d=>exact hB _ λF4 H4 y g4 ry=>qr d e2.symm F4 H4 y g4 ry
     | ex c =>
      rw [em] at e2 hB;exact hB _ λF4 H4 C g4 hc=>qe c e2.symm F4 H4 C g4 hc
     | bad=>rw [em] at e2;exact absurd e2.symm hbad
    | false =>
     rw [if_neg VaC];have e2:Res.ok (Fl.nx ρ')=res:=e';exact qn ρ' e2.symm F2 H2 σ' (s1.trans g2.f) r2
   | ex c =>
    rw [ec] at e' hC;exact hC _ λF4 H4 C g4 hc=>qe c e'.symm F4 H4 C (r'.g.trans g4) hc
   | bad=>rw [ec] at e';exact absurd e'.symm hbad
 unfold whl;cases e:whGo nc m (n ρ) ρ with
 | ok f =>
  cases f with
  | nx ρ2=>exact λD q=>key D _ (λz=>by cases z) (λ_ z=>by cases z;exact q) (λ_ z=>by cases z) (λ_ z=>by cases z) (λ_ z=>by cases z) (λ_ z=>by cases z) e
  | bk ρ2=>exact λD q=>key D _ (λz=>by cases z) (λ_ z=>by cases z) (λ_ z=>by cases z;exact q) (λ_ z=>by cases z) (λ_ z=>by cases z) (λ_ z=>by cases z) e
  | ct ρ2=>exact λD q=>key D _ (λz=>by cases z) (λ_ z=>by cases z) (λ_ z=>by cases z) (λ_ z=>by cases z;exact q) (λ_ z=>by cases z) (λ_ z=>by cases z) e
  | rt d=>exact λD q=>key D _ (λz=>by cases z) (λ_ z=>by cases z) (λ_ z=>by cases z) (λ_ z=>by cases z) (λ_ z=>by cases z;exact q) (λ_ z=>by cases z) e
 | ex c=>exact λD q=>key D _ (λz=>by cases z) (λ_ z=>by cases z) (λ_ z=>by cases z) (λ_ z=>by cases z) (λ_ z=>by cases z) (λ_ z=>by cases z;exact q) e
 | bad=>trivial
end
section
variable    {F:Hp}
def Rep.inner{own:List Str}{cap:List (Str×Nat)}(r:Rep K mg F0 H0 F H σ ρ)(gb:Gr Fb Hb F H):Rep K mg Fb Hb F H (st0 own σ cap) (noA own.length (yag ρ (cap.map (·.2)))):=by
 have key:∀i cl,(noA own.length (yag ρ (cap.map (·.2))))[i]?=some cl->cl=.no\/∃j p d,i=own.length+j/\cap[j]?=some p/\ρ[p.2]?=some (.im d)/\cl=.im d:=by
  intro i cl e;rw [Zi6,ZgX] at e;by_cases hi:i<own.length
  ·rw [Va2 (by simpa using hi),Va1,if_pos hi] at e;cases e;exact .inl rfl
  ·rw [Va0 (by simpa using hi),Va6] at e;rw [VbH,Va3] at e;cases q:cap[i - own.length]? with
   | none=>rw [q] at e;cases e
   | some p =>
    rw [q] at e;have e':imOf ρ[p.2]?=cl:=Vau e;unfold imOf at e';split at e'
    ·next d h=>exact .inr ⟨i - own.length,p,d,by omega,q,h,e'.symm⟩
    ·exact .inl e'.symm
 refine ⟨gb,?_,λi d e=>?_,λi ds e=>?_,λi j ds es a e=>?_⟩
 ·rw [Zi6,ZgX];unfold st0 capt;simp
 ·rcases key i _ e with z | ⟨j,p,d',rfl,hp,hρ,z⟩
  ·cases z
  ·cases z;obtain ⟨x,hx,rx⟩:=r.im p.2 d hρ;refine ⟨x,?_,rx⟩;unfold st0 capt;rw [Va0 (by simp),Va6,Nat.add_sub_cancel_left,Va3,hp];show some ((σ[p.2]?).join)=_;rw [hx];rfl
 ·rcases key i _ e with z | ⟨j,p,d',rfl,hp,hρ,z⟩<;>cases z
 ·rcases key i _ e with z | ⟨j,p,d',rfl,hp,hρ,z⟩<;>cases z
def ZgB:(st0 own σ cap).drop own.length=capt σ cap:=by
 unfold st0;rw [List.drop_append_of_le_length (by simp),List.drop_of_length_le (by simp)];rfl
def ZkD{own:List Str}{cap:List (Str×Nat)}(r:Rep K mg F0 H0 F H σ ρ)(jo:ItOk K mg F J ds)(hg:SG K mg own.length t g)(ht:STt K mg E0 tt nt)(he:SE K mg E0 te me)(hl:ds.length<=LIM)(e0:Dl.Zan g nt me (noA own.length (yag ρ (cap.map (·.2)))) ds=.ok ys)(Q)(q:∀F' H' xs,Gr F H F' H'->Rps K mg F' xs ys->xs.length<=sizeLine->∀p,H' p=none->Q (.ref p) (upd H' p (.lst xs))) :
  ZcO J t tt te own cap σ Q H:=by
 refine ⟨λi k acc H'=>k=ds.length - i/\i<=ds.length/\acc.length<=i/\∃F' zs rs,Gr F H F' H'/\Rps K mg F' acc zs/\Dl.Zan g nt me (noA own.length (yag ρ (cap.map (·.2)))) (ds.drop i)=.ok rs/\zs++rs=ys,
  ⟨ds.length,by simp,VaR _,VaH _,F,[],ys,.refl r.ss,.nil,e0,rfl⟩,?_⟩
 rintro i k acc H' ⟨rfl,hi,ha,F',zs,rs,g1,r1,e1,e2⟩;have la:acc.length<=LIM:=Vaj ha (Vaj hi hl);refine ⟨ZdA la,?_⟩;by_cases hlt:i<ds.length
 ·refine .inr ?_;have hd:ds[i]?=some ds[i]:=VbF hlt;obtain ⟨go,yl⟩:=(jo F' H' g1.f g1.s i).1 _ hd;rw [Vbx hlt] at e1;refine ⟨go,λx H2 y=>?_⟩;obtain ⟨F2,g2,rx⟩:=yl x H2 y;have rr:=(r.gr (g1.trans g2)).inner (own:=own) (cap:=cap) (g1.trans g2);have hG:=hg F H F2 H2 _ _ x _ rr rx;have e':(g ds[i] (noA own.length (yag ρ (cap.map (·.2))))).bind (λρ1=>(nt ρ1).bind λb=>if b=true then (me ρ1).bind λy=>(Dl.Zan g nt me (noA own.length (yag ρ (cap.map (·.2)))) (ds.drop (i+1))).bind λys=>.ok (y::ys) else Dl.Zan g nt me (noA own.length (yag ρ (cap.map (·.2)))) (ds.drop (i+1)))=.ok rs:=e1
  cases eg:g ds[i] (noA own.length (yag ρ (cap.map (·.2)))) with
  | ok ρ1 =>
   rw [eg] at e' hG;refine hG _ λF3 H3 σ3 s3 r3 d3=>⟨d3.trans ZgB,?_⟩;have hT:=ht F H F3 H3 σ3 ρ1 r3;have sF:Same F' F3:=g2.f.trans s3;have e3:(nt ρ1).bind (λb=>if b=true then (me ρ1).bind λy=>(Dl.Zan g nt me (noA own.length (yag ρ (cap.map (·.2)))) (ds.drop (i+1))).bind λys=>.ok (y::ys) else Dl.Zan g nt me (noA own.length (yag ρ (cap.map (·.2)))) (ds.drop (i+1)))=.ok rs:=e'
   cases et:nt ρ1 with
   | ok b =>
    rw [et] at e3 hT;refine hT _ λF4 H4 b' g4 eb=>?_;cases (show b'=b from eb);cases b with
    | true =>
     rw [if_pos rfl];have e4:(me ρ1).bind (λy=>(Dl.Zan g nt me (noA own.length (yag ρ (cap.map (·.2)))) (ds.drop (i+1))).bind λys=>.ok (y::ys))=.ok rs:=e3;have hE:=he F H F4 H4 σ3 ρ1 (r3.gr g4);cases em:me ρ1 with
     | ok y' =>
      rw [em] at e4 hE;refine hE _ λF5 H5 u g5 ru=>⟨Vbn la (by decide),ds.length - (i+1),by omega,rfl,hlt,by rw [Va5];show acc.length+1<=i+1;omega,?_⟩;have e5:(Dl.Zan g nt me (noA own.length (yag ρ (cap.map (·.2)))) (ds.drop (i+1))).bind (λys=>.ok (y'::ys))=.ok rs:=e4;cases ec:Dl.Zan g nt me (noA own.length (yag ρ (cap.map (·.2)))) (ds.drop (i+1)) with
      | ok rs' =>
       rw [ec] at e5;have e6:Res.ok (y'::rs')=.ok rs:=e5;cases e6;exact ⟨F5,zs++[y'],rs',r3.g.trans (g4.trans g5),Rps.app (.cons ru .nil) (r1.same (sF.trans (g4.f.trans g5.f))),rfl,by rw [List.append_assoc];exact e2⟩
      | ex c=>rw [ec] at e5;cases e5
      | bad=>rw [ec] at e5;cases e5
     | ex c=>rw [em] at e4;cases e4
     | bad=>rw [em] at e4;cases e4
    | false =>
     rw [if_neg VaC];have e4:Dl.Zan g nt me (noA own.length (yag ρ (cap.map (·.2)))) (ds.drop (i+1))=.ok rs:=e3;exact ⟨ds.length - (i+1),by omega,rfl,hlt,by omega,F4,zs,rs,r3.g.trans g4,r1.same (sF.trans g4.f),e4,e2⟩
   | ex c=>rw [et] at e3;cases e3
   | bad=>rw [et] at e3;cases e3
  | ex c=>rw [eg] at e';cases e'
  | bad=>rw [eg] at e';cases e'
 ·have hi2:i=ds.length:=by omega
  subst hi2;rw [VbG (VaH _)] at e1;cases e1;rw [VaU] at e2;subst e2;exact .inl ⟨(jo F' H' g1.f g1.s _).2 (VaH _),q F' H' acc g1 r1 (ZdA la)⟩
def Zkv{te:Fam TE}(hi:SI K mg E wi mi)(hg:∀C s H fp pn,SG K mg own.length (t C s H fp pn) g)(ht:∀C s H fp pn,STt K mg E0 (tt C s H fp pn) nt)(he:∀C s H fp pn,SE K mg E0 (te C s H fp pn) me) :
  SE K mg E (ZcT wi t tt te own cap) (comp mi own.length (cap.map (·.2)) g nt me):=by
 intro F0 H0 F H σ ρ rr;refine (hi F0 H0 F H σ ρ rr).bind (w':=λJ H1 Q=>∀C s H2 fp pn,ZcO J (t C s H2 fp pn) (tt C s H2 fp pn) (te C s H2 fp pn) own cap σ Q H1) λF1 H1 J ds g1 jo=>?_;by_cases hl:ds.length<=LIM
 ·rw [if_pos hl];cases e:Dl.Zan g nt me (noA own.length (yag ρ (cap.map (·.2)))) ds with
  | ok ys=>exact λQ q C s H2 fp pn=>ZkD (rr.gr g1) jo (hg C s H2 fp pn) (ht C s H2 fp pn) (he C s H2 fp pn) hl e Q λF' H' xs g2 rs _ p hp=>q _ _ _ (g2.trans (.new g2.s hp _)) (.lst (SqL.of Zaf) (rs.same (ZaA (g2.s.free hp) _)))
  | ex c=>trivial
  | bad=>trivial
 ·rw [if_neg hl];trivial
end
structure DE(X:Cx)(E:XK)(e:Expr)(t:TE)(m:ME):Prop where
 p:PE X e t
 s:SE X.K X.mg E t m
structure DT(X:Cx)(E:XK)(e:Expr)(t:TT)(m:MB):Prop where
 p:PT X e t
 s:STt X.K X.mg E t m
structure DW(X:Cx)(E:XK)(e:Expr)(t:TT)(m:MB):Prop where
 p:PW X e t
 s:STt X.K X.mg E t m
structure DA(X:Cx)(E:XK)(n:Nat)(es:List Expr)(t:TA)(m:MA):Prop where
 p:PA X es t
 s:SA X.K X.mg E t m
 n:SAn n m
structure DO(X:Cx)(E:XK)(e:Option Expr)(t:TO)(m:Ev->Res (Option Int)):Prop where
 p:PO X e t
 s:SO X.K X.mg E t m
structure DS(X:Cx)(E:XK)(st:Stmt)(t:TS)(m:MS):Prop where
 p:PS X st t
 s:SS X.K X.mg E t m
structure DSs(X:Cx)(E:XK)(st:List Stmt)(t:TS)(m:MS):Prop where
 p:PSs X st t
 s:SS X.K X.mg E t m
structure DG(X:Cx)(n:Nat)(e:Expr)(t:TG)(g:MG):Prop where
 p:PG X e t
 s:SG X.K X.mg n t g
 x:∀d ρ c,g d ρ≠.ex c
structure DGs(X:Cx)(n:Nat)(es:List Expr)(t:TGs)(g:MGs):Prop where
 p:PGs X es t
 s:SGs X.K X.mg n t g
 x:∀d ρ c,g d ρ≠.ex c
structure DI(X:Cx)(E:XK)(tg e:Expr)(t:TI)(m:MI):Prop where
 p:PI X tg e t
 s:SI X.K X.mg E t m
section
variable   {a b c':Expr}  {ta tb tc:TE} {ma mb mc:ME} {sa sb:TT} {na nb:MB} {t:TA} {m:MA}
def d_v(i)(hN:X.N[i]?=some x:=by rfl)(hv:Vis X.env.scope x:=by first | exact Or.inl rfl | exact Or.inr (Or.inl rfl) | exact Or.inr (Or.inr rfl))(hd:(x==("__debug__" : Str))=false:=by decide)(hcd:(x==("__classdict__" : Str))=false:=by decide):DE X E (.Name x pos) (tVar i) (v i):=⟨ZbW hN hv hd hcd,se_v i⟩
def Zam{i j}:DE X E (.Constant (.int i) j pos) (tC (.int i)) (c (.int i)):=⟨ZqQ,se_c λ_=>.int _⟩
def ycv{i j}:DE X E (.Constant (.bool i) j pos) (tC (.bl i)) (c (.bl i)):=⟨Zp5,se_c λ_=>.bl _⟩
def ZkE{j}:DE X E (.Constant .none j pos) (tC .non) (c .non):=⟨ZkI,se_c λ_=>.non⟩
def Zsz{i j}:DE X E (.Constant (.str i) j pos) (tC (.str i)) (c (.str i)):=⟨ZrF,se_c λ_=>.str _⟩
def ycu{k:String}(hg:Gl X x)(hm:X.mg x=none)(hv:bootBuiltins x=some (.type k))(hn:x ≠ "__name__" := by decide)(hd:(x==("__debug__" : Str))=false:=by decide):DE X E (.Name x pos) (tC (.ty k)) (c (.ty k)) :=
 ⟨Zqg hg hm hv hn hd,se_c λ_=>.ty _⟩
def ycD{i:Int}(hg:Gl X x)(hm:X.mg x=some (.int i tk))(hd:(x==("__debug__" : Str))=false:=by decide):DE X E (.Name x pos) (tC (.int i)) (c (.int i)):=⟨Zir hg hm ⟨_,rfl⟩ hd,se_c λ_=>.int _⟩
def Ziw(ho:OpR X (binaryOp op) r)(hf:OpD X.K X.mg r f)(ha:DE X E a ta ma)(hb:DE X E b tb mb):DE X E (.BinOp a op b pos) (tOp r ta tb) (o2 f ma mb):=⟨ZnZ ho ha.p hb.p,Zmu hf ha.s hb.s⟩
def ZkW(ho:OpR X (compareOp op) r)(hf:OpD X.K X.mg r f)(ha:DE X E a ta ma)(hb:DE X E b tb mb)(hm:behindInMarks op b=false):DE X E (.Compare a [op] [b] pos) (tOp r ta tb) (o2 f ma mb):=⟨Zpe ho ha.p hb.p hm,Zmu hf ha.s hb.s⟩
def ZfS(ho:OpR X (compareOp op) r)(hf:OpD X.K X.mg r f)(ha:DE X E a ta ma)(hb:DE X E b tb mb)(hm:behindInMarks op b=false):DT X E (.Compare a [op] [b] pos) (Ze1 (tOp r ta tb)) (trb (o2 f ma mb)):=⟨ZiG ho ha.p hb.p hm,Zh3 (Zmu hf ha.s hb.s)⟩
def OpR.or(h:OpR X f r)(h':OpR X f r'):OpR X f (λx y H Q=>r x y H Q\/r' x y H Q):=by
 intro pins s σ H x y v u Q I rx ry q;rcases q with q | q
 ·exact h pins s σ H x y v u Q I rx ry q
 ·exact h' pins s σ H x y v u Q I rx ry q
def ZoA:OpR X (binaryOp .Add) (ZqE X.K):=by
 intro pins s σ H x y v u Q I rx ry h;obtain ⟨l,b,xs,zs,rfl,rfl,hH,hB,hz,q⟩:=h;cases rx;cases ry;exact Zmw I hH hB hz q
def Zpu:OpR X (binaryOp .Add) (Zq7 X.K):=by
 intro pins s σ H x y v u Q I rx ry h;obtain ⟨a,b,xs,ys,rfl,rfl,ha,hb,hz,q0,q1,q2⟩:=h;cases rx;cases ry;exact Zmz I ha hb hz q0 q1 q2
def Zor:OpR X (binaryOp .Add) (ZoV X.K):=OpR.or Zqh (OpR.or ZoA (OpR.or Zpu ZjG))
def Zmv(ha:DE X E a ta ma)(hb:DE X E b tb mb):DE X E (.BinOp a .Add b pos) (tOp (ZoV X.K) ta tb) (o2 yao ma mb):=Ziw Zor ZnX ha hb
def ZsW(ha:DE X E a ta ma)(hb:DE X E b tb mb):DE X E (.BinOp a .Sub b pos) (tOp (rI0 λi j=>V.int (i - j)) ta tb) (o2 dSub ma mb):=Ziw ZrL Zo4 ha hb
def ZrR{a b:Int}(h:Zf5 a b=true):IntMulOk a b:=by
 have h':(a.natAbs<2^64\/b.natAbs<2^64)\/a.natAbs.log2+b.natAbs.log2<100000000:=by simpa [Zf5] using h
 rcases h' with (h' | h') | h'
 ·exact .of_left (intBits_le_iff.mpr h')
 ·exact .of_right (intBits_le_iff.mpr h')
 ·have la:a.natAbs<2^(a.natAbs.log2+1):=Nat.lt_log2_self;have lb:b.natAbs<2^(b.natAbs.log2+1):=Nat.lt_log2_self;exact IntMulOk.of_le (intBits_le_iff.mpr la) (intBits_le_iff.mpr lb) (by omega)
def Zok:OpD K mg (rI IntMulOk λi j=>.int (i*j)) yaF:=Zkx λa b=>by
 unfold iMul;by_cases h:Zf5 a b=true
 ·rw [if_pos h];exact .inl ⟨_,rfl,ZrR h,λ_=>.int _⟩
 ·rw [if_neg h];exact .inr rfl
def ZsK(ha:DE X E a ta ma)(hb:DE X E b tb mb):DE X E (.BinOp a .Mult b pos) (tOp (rI IntMulOk λi j=>V.int (i*j)) ta tb) (o2 yaF ma mb):=Ziw Zn6 Zok ha hb
def ZgU(ha:DE X E a ta ma)(hb:DE X E b tb mb):DE X E (.BinOp a .Mod b pos) (tOp (rI (λ_ j=>j≠0) λi j=>V.int (i.fmod j)) ta tb) (o2 ybp ma mb):=Ziw Zo9 ZpR ha hb
def Zl4(ha:DE X E a ta ma)(hb:DE X E b tb mb):DE X E (.BinOp a .FloorDiv b pos) (tOp (rI ZpY λi j=>V.int (i.fdiv j)) ta tb) (o2 ycc ma mb):=Ziw ZmC ZoJ ha hb
def ZsX(ha:DE X E a ta ma)(hb:DE X E b tb mb):DE X E (.BinOp a .LShift b pos) (tOp (rI CPow λi j=>V.int (i*2^j.toNat)) ta tb) (o2 dShl ma mb):=Ziw Zp8 ZpM ha hb
def Zsm(ha:DE X E a ta ma)(hb:DE X E b tb mb):DE X E (.BinOp a .RShift b pos) (tOp (rI (λ_ j=>0<=j) λi j=>V.int (i/2^j.toNat)) ta tb) (o2 dShr ma mb):=Ziw ZrH Zpz ha hb
def Zsw(ha:DE X E a ta ma):DE X E (.UnaryOp .USub a pos) (tUn (rU λi=>V.int (-i)) ta) (o1 dNeg ma):=⟨ZsQ ZrZ ha.p,Zsc (ZoN λ_ _ _ q=>⟨_,rfl,q⟩) ha.s⟩
def ycV(ha:DE X E a ta ma)(hb:DE X E b tb mb):DE X E (.Compare a [.Lt] [b] pos) (tOp (rI0 λi j=>V.bl (decide (i<j))) ta tb) (o2 dLt ma mb):=ZkW Zq9 ZnQ ha hb (Zcr _)
def ycW(ha:DE X E a ta ma)(hb:DE X E b tb mb):DE X E (.Compare a [.LtE] [b] pos) (tOp (rI0 λi j=>V.bl (decide (i<=j))) ta tb) (o2 dLe ma mb):=ZkW ZrN ZnK ha hb (Zcr _)
def ycX(ha:DE X E a ta ma)(hb:DE X E b tb mb):DE X E (.Compare a [.GtE] [b] pos) (tOp (rI0 λi j=>V.bl (decide (j<=i))) ta tb) (o2 dGe ma mb):=ZkW Zqo ZnM ha hb (Zcr _)
def ZsH(ha:DE X E a ta ma)(hb:DE X E b tb mb):DT X E (.Compare a [.Lt] [b] pos) (Ze1 (tOp (rI0 λi j=>V.bl (decide (i<j))) ta tb)) (trb (o2 dLt ma mb)):=ZfS Zq9 ZnQ ha hb (Zcr _)
def ZsU(ha:DE X E a ta ma)(hb:DE X E b tb mb):DT X E (.Compare a [.LtE] [b] pos) (Ze1 (tOp (rI0 λi j=>V.bl (decide (i<=j))) ta tb)) (trb (o2 dLe ma mb)):=ZfS ZrN ZnK ha hb (Zcr _)
def ZoZ(ha:DE X E a ta ma)(hb:DE X E b tb mb):DT X E (.Compare a [.Gt] [b] pos) (Ze1 (tOp (rI0 λi j=>V.bl (decide (j<i))) ta tb)) (trb (o2 dGt ma mb)):=ZfS ZsB ZqU ha hb (Zcr _)
def ZsM(ha:DE X E a ta ma)(hb:DE X E b tb mb):DT X E (.Compare a [.GtE] [b] pos) (Ze1 (tOp (rI0 λi j=>V.bl (decide (j<=i))) ta tb)) (trb (o2 dGe ma mb)):=ZfS Zqo ZnM ha hb (Zcr _)
mutual
def pyD:D->PyData
 | .non=>.none
 | .bl b=>.bool b
 | .int i=>.int i
 | .str x=>.str x
 | .tup xs=>.tuple (pyDs xs)
 | .lst xs=>.list (pyDs xs)
 | _=>.none
def pyDs:List D->List PyData
 | []=>[]
 | x::r=>pyD x::pyDs r
end
mutual
def ZiW:∀x y,∀k l,Dl.plain k x=true->Dl.plain l y=true->eqD x y=PyData.eqv (pyD x) (pyD y)
 | .non,y,_,_,_,hy=>by cases y<;>first | rfl | (simp [Dl.plain] at hy)
 | .bl _,y,_,_,_,hy=>by cases y<;>first | rfl | (simp [Dl.plain] at hy)
 | .int _,y,_,_,_,hy=>by cases y<;>first | rfl | (simp [Dl.plain] at hy)
 | .str _,y,_,_,_,hy=>by cases y<;>first | rfl | (simp [Dl.plain] at hy)
 | .tup xs,y,k,l,hx,hy=>by
  cases y<;>first | rfl | (simp [Dl.plain] at hy;done) | skip
  rename_i ys;cases k with
  | zero=>simp [Dl.plain] at hx
  | succ k =>
   cases l with
   | zero=>simp [Dl.plain] at hy
   | succ l=>exact Zic xs ys k l (by simpa [Dl.plain] using hx) (by simpa [Dl.plain] using hy)
 | .lst xs,y,k,l,hx,hy=>by
  cases y<;>first | rfl | (simp [Dl.plain] at hy;done) | skip
  rename_i ys;cases k with
  | zero=>simp [Dl.plain] at hx
  | succ k =>
   cases l with
   | zero=>simp [Dl.plain] at hy
   | succ l=>exact Zic xs ys k l (by simpa [Dl.plain] using hx) (by simpa [Dl.plain] using hy)
 | .ty _,_,k,_,hx,_=>by cases k<;>simp [Dl.plain] at hx
 | .cls _,_,k,_,hx,_=>by cases k<;>simp [Dl.plain] at hx
 | .exc _,_,k,_,hx,_=>by cases k<;>simp [Dl.plain] at hx
 | .ins _ _ _,_,k,_,hx,_=>by cases k<;>simp [Dl.plain] at hx
def Zic:∀xs ys,∀k l,Dl.Za5 k xs=true->Dl.Za5 l ys=true->eqDs xs ys=PyData.eqvAll (pyDs xs) (pyDs ys)
 | [],[],_,_,_,_=>rfl
 | [],_::_,_,_,_,_=>rfl
 | _::_,[],_,_,_,_=>rfl
 | x::xs,y::ys,k,l,hx,hy=>by
  have h1:Dl.plain k x=true/\Dl.Za5 k xs=true:=by simpa [Dl.Za5] using hx
  have h2:Dl.plain l y=true/\Dl.Za5 l ys=true:=by simpa [Dl.Za5] using hy
  show (eqD x y&&eqDs xs ys)=(PyData.eqv (pyD x) (pyD y)&&PyData.eqvAll (pyDs xs) (pyDs ys));rw [ZiW x y k l h1.1 h2.1,Zic xs ys k l h1.2 h2.2]
end
mutual
def Zdp:∀x k,Dl.plain k x=true->(pyD x).canLay0=true/\(pyD x).depth<=k
 | .non,_,_=>⟨rfl,VaR _⟩
 | .bl _,_,_=>⟨rfl,VaR _⟩
 | .int _,_,_=>⟨rfl,VaR _⟩
 | .str x,_,h=>⟨by simpa [Dl.plain,pyD,PyData.canLay0,PyData.strOk] using h,VaR _⟩
 | .tup xs,0,h=>by simp [Dl.plain] at h
 | .lst xs,0,h=>by simp [Dl.plain] at h
 | .tup xs,k+1,h=>by
  obtain ⟨h1,h2⟩:=Zeo xs k (by simpa [Dl.plain] using h);exact ⟨h1,Nat.succ_le_succ h2⟩
 | .lst xs,k+1,h=>by
  obtain ⟨h1,h2⟩:=Zeo xs k (by simpa [Dl.plain] using h);exact ⟨h1,Nat.succ_le_succ h2⟩
 | .ty _,k,h=>by cases k<;>simp [Dl.plain] at h
 | .cls _,k,h=>by cases k<;>simp [Dl.plain] at h
 | .exc _,k,h=>by cases k<;>simp [Dl.plain] at h
 | .ins _ _ _,k,h=>by cases k<;>simp [Dl.plain] at h
def Zeo:∀xs k,Dl.Za5 k xs=true->PyData.canLayAll0 (pyDs xs)=true/\PyData.depthAll (pyDs xs)<=k
 | [],_,_=>⟨rfl,VaR _⟩
 | x::xs,k,h=>by
  have h':Dl.plain k x=true/\Dl.Za5 k xs=true:=by simpa [Dl.Za5] using h
  obtain ⟨a1,a2⟩:=Zdp x k h'.1;obtain ⟨b1,b2⟩:=Zeo xs k h'.2;refine ⟨?_,Nat.max_le.mpr ⟨a2,b2⟩⟩;show (PyData.canLay0 (pyD x)&&PyData.canLayAll0 (pyDs xs))=true;rw [a1,b1];rfl
end
mutual
def ZjL{F:Hp}:∀{x:V} {d:D} {k:Nat},Rp K mg F x d->Dl.plain k d=true->DV K F x (pyD d)
 | _,_,_,.non,_=>.non
 | _,_,_,.bl b,_=>.bl b
 | _,_,_,.int b,_=>.int b
 | _,_,_,.str b,_=>.str b
 | _,_,0,.tup h r,p=>by simp [Dl.plain] at p
 | _,_,0,.lst h r,p=>by simp [Dl.plain] at p
 | _,_,k+1,.tup h r,p=>.tup h (ZgR r (by simpa [Dl.plain] using p))
 | _,_,k+1,.lst h r,p=>.lst h (ZgR r (by simpa [Dl.plain] using p))
 | _,_,k,.ty _,p=>by cases k<;>simp [Dl.plain] at p
 | _,_,k,.cls _,p=>by cases k<;>simp [Dl.plain] at p
 | _,_,k,.exc _ _,p=>by cases k<;>simp [Dl.plain] at p
 | _,_,k,.ins _ _ _ _ _,p=>by cases k<;>simp [Dl.plain] at p
def ZgR{F:Hp}:∀{xs:List V} {ds:List D} {k:Nat},Rps K mg F xs ds->Dl.Za5 k ds=true->DVs K F xs (pyDs ds)
 | _,_,_,.nil,_=>.nil
 | _,_,k,.cons h r,p=>by
  have p':=(show Dl.plain k _=true/\Dl.Za5 k _=true by simpa [Dl.Za5] using p);exact .cons (ZjL h p'.1) (ZgR r p'.2)
end
mutual
def ZeJ{F:Hp}(s:Same F H):∀{x:V} {d:PyData},DV K F x d->DV K H x d
 | _,_,.non=>.non
 | _,_,.bl b=>.bl b
 | _,_,.int b=>.int b
 | _,_,.str b=>.str b
 | _,_,.tup h r=>.tup (ZaB s h) (Ze6 s r)
 | _,_,.lst h r=>.lst (s.seq h) (Ze6 s r)
def Ze6{F:Hp}(s:Same F H):∀{xs:List V} {ds:List PyData},DVs K F xs ds->DVs K H xs ds
 | _,_,.nil=>.nil
 | _,_,.cons h r=>.cons (ZeJ s h) (Ze6 s r)
end
def Znt:OpD K mg (rEqD K id) dEq:=by
 intro E F H x y dx dy s rx ry;unfold dEq;by_cases h:(Dl.plain 50 dx&&Dl.plain 50 dy)=true
 ·rw [if_pos h];have h':Dl.plain 50 dx=true/\Dl.plain 50 dy=true:=by simpa using h
  obtain ⟨a1,a2⟩:=Zdp dx 50 h'.1;obtain ⟨b1,b2⟩:=Zdp dy 50 h'.2;exact .ret s (.bl _) λQ q=>⟨_,_,ZeJ s (ZjL rx h'.1),ZeJ s (ZjL ry h'.2),a1,b1,Vaj a2 (by decide),by rw [<-ZiW dx dy 50 50 h'.1 h'.2];exact q⟩
 ·rw [if_neg h];trivial
def ZnH:OpD K mg (rEqD K not) dNe:=by
 intro E F H x y dx dy s rx ry;unfold dNe;by_cases h:(Dl.plain 50 dx&&Dl.plain 50 dy)=true
 ·rw [if_pos h];have h':Dl.plain 50 dx=true/\Dl.plain 50 dy=true:=by simpa using h
  obtain ⟨a1,a2⟩:=Zdp dx 50 h'.1;obtain ⟨b1,b2⟩:=Zdp dy 50 h'.2;exact .ret s (.bl _) λQ q=>⟨_,_,ZeJ s (ZjL rx h'.1),ZeJ s (ZjL ry h'.2),a1,b1,Vaj a2 (by decide),by rw [<-ZiW dx dy 50 50 h'.1 h'.2];exact q⟩
 ·rw [if_neg h];trivial
def ycT(hr:Room k X.A)(ha:DE X E a ta ma)(hb:DE X E b tb mb):DE X E (.Compare a [.Eq] [b] pos) (tOp (rEqD X.K id) ta tb) (o2 dEq ma mb):=ZkW (ZnL hr.units) Znt ha hb (Zcr _)
def ycU(hr:Room k X.A)(ha:DE X E a ta ma)(hb:DE X E b tb mb):DE X E (.Compare a [.NotEq] [b] pos) (tOp (rEqD X.K not) ta tb) (o2 dNe ma mb):=ZkW (Zng hr.units) ZnH ha hb (Zcr _)
def Zlg(hr:Room k X.A)(ha:DE X E a ta ma)(hb:DE X E b tb mb):DT X E (.Compare a [.Eq] [b] pos) (Ze1 (tOp (rEqD X.K id) ta tb)) (trb (o2 dEq ma mb)):=ZfS (ZnL hr.units) Znt ha hb (Zcr _)
def ZjJ(hr:Room k X.A)(ha:DE X E a ta ma)(hb:DE X E b tb mb):DT X E (.Compare a [.NotEq] [b] pos) (Ze1 (tOp (rEqD X.K not) ta tb)) (trb (o2 dNe ma mb)):=ZfS (Zng hr.units) ZnH ha hb (Zcr _)
def Zko{j pos'}(ha:DE X E a ta ma):DT X E (.Compare a [.Is] [.Constant .none j pos'] pos) (Ze1 (tOp (λx y H Q=>y=V.non/\Q (V.bl (decide (x=V.non))) H) ta (tC .non))) (trb (o1 dIsN ma)):=⟨ZiG Zrj ha.p ZkI (Zcr _),Zh3 (Zqu ha.s)⟩
def Zlr{j pos'}(ha:DE X E a ta ma):DT X E (.Compare a [.IsNot] [.Constant .none j pos'] pos) (Ze1 (tOp (λx y H Q=>y=V.non/\Q (V.bl (!decide (x=V.non))) H) ta (tC .non))) (trb (o1 ZlS ma)):=⟨ZiG ZpI ha.p ZkI (Zcr _),Zh3 (ZoK ha.s)⟩
def ybP(ha:DE X E a ta ma)(hb:DE X E b tb mb)(hs:ZgN b:=by exact λ_ _=>rfl):DE X E (.Subscript a b pos) (tOp (rIxD X.K) ta tb) (o2 dIx ma mb):=⟨Zo6 (IxR.or Zh7 ZlG) ha.p hb.p hs,Zmu ZrJ ha.s hb.s⟩
def ZcS(ha:DE X E a ta ma)(he:∀whole,isTrue a X.env whole=(do let v <-whole;standAt a.pos;holding [v] (truthy v)):=by intro _;rfl):DT X E a (L2.tB ta) (trb ma):=⟨ZnI ha.p he,st_b ha.s⟩
def Zob(ha:DT X E a sa na):DW X E (.BoolOp .And [a] pos) sa na:=⟨Zoo ha.p,ha.s⟩
def Zgq(ha:DT X E a sa na):DW X E (.BoolOp .Or [a] pos) sa na:=⟨Zqx ha.p,ha.s⟩
def Zns{rest:List Expr}(ha:DT X E a sa na)(hb:DW X E (.BoolOp .And (b::rest) pos) sb nb):DW X E (.BoolOp .And (a::b::rest) pos) (tAnd sa sb) (bAnd na nb):=⟨Zqb ha.p hb.p,Zqn ha.s hb.s⟩
def Zh6{rest:List Expr}(ha:DT X E a sa na)(hb:DW X E (.BoolOp .Or (b::rest) pos) sb nb):DW X E (.BoolOp .Or (a::b::rest) pos) (tOr sa sb) (bOr na nb):=⟨Zs3 ha.p hb.p,ZsC ha.s hb.s⟩
def DW.dt(h:DW X E a sa na):DT X E a sa na:=⟨h.p.pt,h.s⟩
def Zen(ha:DT X E a sa na):DT X E (.UnaryOp .Not a pos) (tNot sa) (bNot na):=⟨Znw ha.p,Zp7 ha.s⟩
def ZjZ{op}(ha:DE X E a ta ma):DE X E (.BoolOp op [a] pos) ta ma:=⟨Zp6 ha.p,ha.s⟩
def Zfl{rest:List Expr}(ha:DE X E a ta ma)(hb:DE X E (.BoolOp .And (b::rest) pos) tb mb):DE X E (.BoolOp .And (a::b::rest) pos) (Zoy ta tb) (eAnd ma mb):=⟨Zqc ha.p hb.p,ZqV ha.s hb.s⟩
def ZjK(ha:DE X E a ta ma):DE X E (.UnaryOp .Not a pos) (Zot ta) (eNot ma):=⟨ZqB ha.p,Zqs ha.s⟩
def Zsu(hc:DT X E c' sa na)(ha:DE X E a ta ma)(hb:DE X E b tb mb):DE X E (.IfExp c' a b pos) (tIf sa ta tb) (ife na ma mb):=⟨Zmx hc.p ha.p hb.p,Zrz hc.s ha.s hb.s⟩
def Zah:DA X E 0 [] tNil yaa:=⟨Zeh,ZkB,ZkC⟩
def Zab(ha:DE X E e te me)(hr:DA X E n es t m)(hs:starEach (e::es) X.env=(false,eval e X.env)::starEach es X.env:=by rfl):DA X E (n+1) (e::es) (Zbd te t) (Zaa me m):=⟨Zbh ha.p hr.p hs,Zpm ha.s hr.s,ZmU hr.n⟩
def Zb4{x1}(h:DA X E n es t m)(hn:n<=sizeLine:=by decide):DE X E (.Tuple es x1 pos) (tTup t) (mtp m):=⟨Znd h.p,ZqD h.s h.n hn⟩
def ZfC(h:DA X E n es t m)(hn:n<=sizeLine:=by decide):DE X E (.List es pos) (tLst t) (mls m):=⟨Zhk h.p,ZqR h.s h.n hn⟩
def yaP{id:String}{r:List V->Hp->VK->Prop}{f:List D->Res D}{p:Pos}(hc:Zc1 X (.builtin id) r)(hf:CallD X.K X.mg r f)(hg:Gl X x)(hm:X.mg x=none)(hv:bootBuiltins x=some (.builtin id))(ha:DA X E n (e::es) t m)(hn:x ≠ "__name__" := by decide)(hdb:(x==("__debug__" : Str))=false:=by decide)(he:starEach (e::es) X.env=(false,eval e X.env)::starEach es X.env:=by rfl)(hpl:(backTo pos (starEach es X.env)).any (·.1)=false:=by rfl):DE X E (.Call (.Name x p) (e::es) [] pos) (tCB r t) (on f m):=⟨Zi1 hc hg hm hv ha.p hn hdb he hpl,Zrn hf ha.s⟩
def ycL(hc:Zc1 X (.type T) r)(hf:CallD X.K X.mg r f)(hg:Gl X x)(hm:X.mg x=none)(hv:bootBuiltins x=some (.type T))(ha:DA X E n (e::es) t m)(hn:x ≠ "__name__" := by decide)(hdb:(x==("__debug__" : Str))=false:=by decide)(he:starEach (e::es) X.env=(false,eval e X.env)::starEach es X.env:=by rfl)(hpl:(backTo pos (starEach es X.env)).any (·.1)=false:=by rfl):DE X E (.Call (.Name x p) (e::es) [] pos) (tCB r t) (on f m):=⟨Zhu hc hg hm hv ha.p hn hdb he hpl,Zrn hf ha.s⟩
structure Cal(P:Program)(w:World)(K:W.Frag)(mg:Str->Option Value)(base:Heap)(n:Nat)(x:Str)(ps:List Str)(m:List D->Res D):Prop where
 ex:∃(f:Addr) (fd:FuncData),FnOk P w K mg base (CXR P w) n f fd ps (spD K mg ps.length m)/\Binds K fd ps []/\W.keepIn K (.ref f)=true/\mg x=some (.ref f)
def Za9(C:Cal X.prog X.w X.K X.mg X.base k x ps f)(hr:Room l X.A)(hn:k<=l)(hg:Gl X x)(hx:Zbi (CXR X.prog X.w) X E)(ha:DA X E n (e::es) t m)(hps:ps.length=n:=by rfl)(hdb:(x==("__debug__" : Str))=false:=by decide)(he:starEach (e::es) X.env=(false,eval e X.env)::starEach es X.env:=by rfl)(hpl:(backTo pos (starEach es X.env)).any (·.1)=false:=by rfl) :
  DE X E (.Call (.Name x p) (e::es) [] pos) (ZeB (spD X.K X.mg ps.length f) [] E t) (on f m):=by
 obtain ⟨g,fd,F,b,kp,hm⟩:=C.ex;exact ⟨Zgs F (hr.mono hn) hg hm kp b .nil hx ha.p hdb he hpl,by rw [hps];exact Zpr ha.s ha.n⟩
def Zsa:Zbi (CXR X.prog X.w) (Zax X N scope cl C s H fp pn) E0:=by
 intro pins σ H s e s' I h;obtain ⟨_,_,_,_,_,_,_,q⟩:=h;exact q.elim
end
section
variable   {a b c' tg:Expr}  {ta tb tc:TE} {ma mb mc:ME} {sa sb:TT} {na nb:MB} {t:TA} {m:MA}
def ZoM:SlR X (rSlU X.K):=by
 intro pins s σ H x v vl vu lo hi sl Q I rx hs pl pu h;obtain ⟨a,xs,rfl,hx,q1,q2⟩:=h;by_cases hw:HT.sIx xs.length 0 lo=0/\HT.sIx xs.length xs.length hi=xs.length
 ·cases rx;obtain ⟨its,r,ht,hz⟩:=I.tuple hx;have hlen:its.toArray.size=xs.length:=by rw [Va7];exact r.length.symm
  exact ⟨"tuple", _,PyProof.Rows.slot_tuple_getitem.lookup,ht.typeIs,HT.ZdG ht hs pl pu (by rw [hlen];exact hw) ⟨.ref a,H,I,rfl,q1 hw⟩⟩
 ·exact ZqH pins s σ H (.ref a) v vl vu lo hi sl Q I rx hs pl pu ⟨a,xs,rfl,hx,hw,q2 hw⟩
def Zpq:DO X E none Zil pno:=⟨Zpj,ZnU⟩
def ZoB(h:DE X E a ta ma):DO X E (some a) (Zoj ta) (pso ma):=⟨Zo3 h.p,ZpJ h.s⟩
def Zsp{lo hi:Option Expr}{tl th:TO}{ml mh:Ev->Res (Option Int)}{p2:Pos}(ha:DE X E a ta ma)(hl:DO X E lo tl ml)(hh:DO X E hi th mh):DE X E (.Subscript a (.Slice lo hi none p2) pos) (tSl (rSlD X.K) ta tl th) (cut ma ml mh) :=
 ⟨Zmc (SlR.or Zon ZoM) ha.p hl.p hh.p,Zr7 ha.s hl.s hh.s⟩
def Zn1{n:String}(ht:Zi5 d=some tn)(hn:ZiS.contains n=true):W.kitOne K (.type tn) (.type n)=some (isTy tn n):=by
 have hn':n = "int"\/n = "bool"\/n = "str"\/n = "tuple"\/n = "list"\/n = "dict" := by
  simpa [ZiS] using hn
 have ht':tn = "NoneType"\/tn = "bool"\/tn = "int"\/tn = "str"\/tn = "tuple"\/tn = "list" := by
  cases d<;>simp [Zi5] at ht<;>subst ht<;>simp
 rcases ht' with rfl | rfl | rfl | rfl | rfl | rfl<;>rcases hn' with rfl | rfl | rfl | rfl | rfl | rfl <;>
  first
  | exact ZlZ K _
  | exact ZrX K (by decide +kernel) (by decide +kernel) (by decide +kernel)
def rIsi(K:W.Frag):List V->Hp->VK->Prop:=λxs H Q=>∃x n tn b,xs=[x,.ty n]/\W.kitOne K (.type tn) (.type n)=some b/\Q (.bl b) H /\
 ((x=.non/\tn = "NoneType")\/(∃y,x=.bl y/\tn = "bool")\/(∃y,x=.int y/\tn = "int")\/(∃y,x=.str y/\tn = "str")\/(∃a xs,x=.ref a/\SqT K H a xs/\tn = "tuple")\/(∃a xs,x=.ref a/\SqL K H a xs/\tn = "list"))
def Zkz:Zc1 X (.builtin "isinstance") (rIsi X.K):=by
 intro pins s σ H xs us Q I r h;obtain ⟨x,n,tn,bb,rfl,e,q,h⟩:=h;obtain ⟨u,w',rfl,r1,r2⟩:=vals2 r;cases r2;have fin:∀tk,EP X pins σ Q (.bool bb) { s with toks:=tk }:=λtk=>⟨.bl bb,H,I.tok _,rfl,q⟩
 rcases h with ⟨rfl,rfl⟩ | ⟨y,rfl,rfl⟩ | ⟨y,rfl,rfl⟩ | ⟨y,rfl,rfl⟩ | ⟨a,xs,rfl,hq,rfl⟩ | ⟨a,xs,rfl,hq,rfl⟩
 ·exact Zet I r1 .non e fin
 ·exact Zet I r1 (.bl y) e fin
 ·exact Zet I r1 (.int y) e fin
 ·exact Zet I r1 (.str y) e fin
 ·cases r1;obtain ⟨its,_,⟨o,h1,h2,_⟩,_⟩:=I.tuple hq;exact VaS W.kitx_tuple I.kIn ⟨o,h1,h2⟩ e (λz=>nomatch z) fin
 ·cases r1;obtain ⟨its,_,⟨o,_,h1,h2,_⟩,_⟩:=I.list hq;exact VaS W.kitx_list I.kIn ⟨o,h1,h2⟩ e (λz=>nomatch z) fin
def ZkO:CallD K mg (rIsi K) bIsi:=by
 intro E F H xs ds s r;unfold bIsi;split
 ·next d nm =>
  obtain ⟨x,y,rfl,rx,ry⟩:=r.two;cases ry;by_cases hn:ZiS.contains nm=true
  ·rw [if_pos hn];cases e:Zi5 d with
   | none=>trivial
   | some tn =>
    have k:=Zn1 (K:=K) e hn;show Ans mg E (Rp K mg) F H (.ok (.bl (isTy tn nm))) _;refine .ret s (.bl _) λQ q=>⟨x,nm,tn,_,rfl,k,q,?_⟩;cases rx with
    | non=>cases e;exact .inl ⟨rfl,rfl⟩
    | bl y=>cases e;exact .inr (.inl ⟨y,rfl,rfl⟩)
    | int y=>cases e;exact .inr (.inr (.inl ⟨y,rfl,rfl⟩))
    | str y=>cases e;exact .inr (.inr (.inr (.inl ⟨y,rfl,rfl⟩)))
    | ty y=>cases e
    | cls y=>cases e
    | exc y h=>cases e
    | ins m h o q r=>cases e
    | tup h r=>cases e;exact .inr (.inr (.inr (.inr (.inl ⟨_,_,rfl,ZaB s h,rfl⟩))))
    | lst h r=>cases e;exact .inr (.inr (.inr (.inr (.inr ⟨_,_,rfl,s.seq h,rfl⟩))))
  ·rw [if_neg hn];trivial
 ·trivial
def ZdR(hN:X.N.Nodup)(hi:X.N[i]?=some x)(hx:Loc X.env.scope x)(hl:i<n)(hf:X.fn x=true\/X.env.scope.names.lookup x=some .local:=by first | exact .inl rfl | exact .inr rfl | assumption):DG X n (.Name x pos) (ZbT i) (gN i) :=
 ⟨Zoh hN hi hx hf,Zn7 hl,λ_ _ _ h=>by cases h⟩
def Zlb:DGs X n [] gNil gs0:=⟨Zpb,Zpy,λd ρ c h=>by
 unfold gs0 at h
 split at h<;>cases h⟩
def Zfd{t:TG}{u:TGs}{g:MG}{gs:MGs}(h1:DG X n e t g)(h2:DGs X n es u gs)(hs:(assignEach (e::es) X.env).map (·.2)=assign e X.env::(assignEach es X.env).map (·.2):=by rfl):DGs X n (e::es) (Zm9 t u) (gs1 g gs) :=
 ⟨ZmF h1.p h2.p hs,ZmS h1.s h2.s,λd ρ c h=>by
  unfold gs1 at h;split at h
  ·next d' ds =>
   cases eg:g d' ρ with
   | ok ρ' =>
    rw [eg] at h;exact h2.x ds ρ' c h
   | ex c'=>exact h1.x d' ρ c' eg
   | bad=>rw [eg] at h;cases h
  ·cases h⟩
def Zny(hc:X.calm=true)(h:DGs X n es u g)(hn:(assignEach es X.env).length=j:=by rfl)(hst:(assignEach es X.env).findIdx? (·.1)=none:=by rfl):DG X n (.Tuple es k pos) (gSeq X.K j u) (gU j g):=by
 refine ⟨?_,Zrg h.s,λd ρ c hh=>?_⟩
 ·intro pins s σ H v w Q I r hw;rcases hw with hw | hw
  ·exact Zq8 hc h.p hn hst pins s σ H v w Q I r hw
  ·obtain ⟨a,xs,e1,hq,hl,hw⟩:=hw;subst e1;cases r;obtain ⟨its,rv,ht,hz⟩:=I.list hq;refine ZeP (I.ok.hd hc) ht.isList (by simp [hn,<-hl,rv.length]) hst λh' hx=>?_;have I1:Inv X pins σ H { s with heap:=h' }:=I.kept (t':=s.toks) λb o e=>hx b o (Vaf (Vac e)) e
   exact h.p pins _ σ H xs _ Q I1 (by simpa using rv) hw
 ·unfold gU at hh;cases ei:items d with
  | ok xs =>
   rw [ei] at hh;have hh':(if xs.length=j then g xs ρ else .bad)=.ex c:=hh
   split at hh'
   ·exact h.x xs ρ c hh'
   ·cases hh'
  | ex c'=>unfold items at ei;split at ei<;>cases ei
  | bad=>rw [ei] at hh;cases hh
def Zba(h:DE X E a ta ma):DI X E tg a (iSeq X.K ta) (iv ma):=by
 refine ⟨?_,ZrD h.s⟩;intro pins s σ H R I hw;refine thn (h.p pins s σ H _ I hw) λv s1 ⟨x,H1,I1,r1,q1⟩=>?_;obtain ⟨p,rfl,q1⟩:=q1;cases r1;rcases q1 with ⟨⟨xs,hq⟩,q⟩ | ⟨⟨xs,hq⟩,q⟩
 ·obtain ⟨its,rv,pl,hz⟩:=I1.list hq;refine Vbz pl.isList ?_;refine ⟨s1.heap.objs.size,[s1.heap.objs.size],_,_,H1,rfl,I1.kept (t':=s1.toks) λb o e=>VaF _ e,ZkP p _,⟨_,VaG _ rfl,rfl,rfl⟩,λb hb=>?_,q⟩;have e:b=s1.heap.objs.size:=by simpa using hb
  subst e;exact I1.fpOk (VaH _) (I1.hok.fresh (VaH _))
 ·obtain ⟨its,rv,pl,hz⟩:=I1.tuple hq;refine wpAny_pyIter_tuple (show s1.heap.IsTuple p its.toArray from pl) ?_;refine ⟨s1.heap.objs.size,[s1.heap.objs.size],_,_,H1,rfl,I1.kept (t':=s1.toks) λb o e=>VaF _ e,Zj8 p _,⟨_,VaG _ rfl,rfl,rfl⟩,λb hb=>?_,q⟩;have e:b=s1.heap.objs.size:=by simpa using hb
  subst e;exact I1.fpOk (VaH _) (I1.hok.fresh (VaH _))
def Zsi(hg:Gl X "range")(hm:X.mg "range"=none)(ha:DA X E n [a] t m)(hs:starEach [a] X.env=[(false,eval a X.env)]:=by rfl):DI X E tg (.Call (.Name "range" p) [a] [] pos) (Zpo t) (r1 m):=⟨ZkV hg hm ha.p hs,Zs5 ha.s⟩
def ZpW(hg:Gl X "range")(hm:X.mg "range"=none)(ha:DA X E n [a,b] t m)(hs:starEach [a,b] X.env=[(false,eval a X.env),(false,eval b X.env)]:=by rfl)(hs2:starEach [b] X.env=[(false,eval b X.env)]:=by rfl) :
  DI X E tg (.Call (.Name "range" p) [a,b] [] pos) (ZpH t) (r2 m):=⟨Zkd hg hm ha.p hs hs2,Zth ha.s⟩
def Ze0:∀(ds:List D) (k i:Nat) (d:D),(Dl.numbered k ds)[i]?=some d->∃x,ds[i]?=some x/\d=.tup [.int (k+i:Nat),x]
 | [],_,_,_,h=>by simp [Dl.numbered] at h
 | x::r,k,0,d,h=>by simp [Dl.numbered] at h;exact ⟨x,rfl,h.symm⟩
 | x::r,k,i+1,d,h=>by
  obtain ⟨y,h1,h2⟩:=Ze0 r (k+1) i d (by simpa [Dl.numbered] using h);exact ⟨y,by simpa using h1,by rw [h2,Nat.add_right_comm,Nat.add_assoc]⟩
def ZeU:∀ds k,(Dl.numbered k ds).length=ds.length
 | [],_=>rfl
 | _::r,k=>Vax (·+1) (ZeU r (k+1))
def ZqO{F:Hp}{a:Addr}(h:SqL K F a xs)(r:Rps K mg F xs ds):ItOk K mg F (Ite K a) (Dl.numbered 0 ds):=by
 intro F' H' s1 s2 i;have hq:SqL K H' a xs:=(s1.trans s2).seq h;refine ⟨λd e=>?_,λhl=>⟨xs,hq,by rw [r.length];rw [ZeU] at hl;exact hl⟩⟩;obtain ⟨x',e',rfl⟩:=Ze0 ds 0 i d e;obtain ⟨x,e1,rx⟩:=r.get e';refine ⟨⟨xs,x,hq,e1⟩,λy H'' q=>?_⟩;obtain ⟨T,p,hT,rfl,rfl,hp⟩:=q;have e2:=hp xs hq;rw [e1] at e2;cases e2;refine ⟨_,.new s2 hT _,.tup (SqT.of Zaf) (.cons ?_ (.cons ((rx.same s1).same (ZaA (s2.free hT) _)) .nil))⟩;rw [Nat.zero_add];exact .int _
def ZgA{p:Bool}{a:Addr}(e:Same H H')(h:SqB K p H a xs):SqB K p H' a xs:=by
 cases p
 ·exact e.seq h
 ·exact ZaB e h
def Zkg{F:Hp}{x:V}(r:Rp K mg F x d)(e:seqD d=.ok ds):∃p a xs,x=.ref a/\SqB K p F a xs/\Rps K mg F xs ds:=by
 cases r with
 | tup h q=>cases e;exact ⟨true,_,_,rfl,h,q⟩
 | lst h q=>cases e;exact ⟨false,_,_,rfl,h,q⟩
 | _=>cases e
def Zlf{c:Str}:seqD d≠.ex c:=by cases d<;>intro h<;>cases h
def Zdh(hg:Gl X "enumerate")(hm:X.mg "enumerate"=none)(ha:DA X E n [a] t m)(hs:starEach [a] X.env=[(false,eval a X.env)]:=by rfl):DI X E (.Tuple elts x1 tpos) (.Call (.Name "enumerate" p) [a] [] pos) (Zri X.K t) (Zdm m):=by
 refine ⟨ZoU hg hm ha.p hs,?_⟩;intro F0 H0 F H σ ρ rr;refine (ha.s F0 H0 F H σ ρ rr).bind (w':=λvs H1 R=>∃a,vs=[V.ref a]/\(∃xs,SqL X.K H1 a xs)/\R (Ite X.K a) H1) λF1 H1 xs ds g1 rs=>?_;unfold Zq5;split
 ·next d =>
  obtain ⟨x,rfl,rx⟩:=rs.one;cases d with
  | lst ds =>
   cases rx with
   | lst h r=>exact Ans.ret (R:=ItOk X.K X.mg) g1.s (ZqO h r) λQ q=>⟨_,rfl,⟨_,g1.s.seq h⟩,q⟩
  | tup ds=>trivial
  | _=>trivial
 ·trivial
end
structure DTs(X:Cx)(E:XK)(ts:List Expr)(t:TT)(m:MB):Prop where
 p:PTs X ts t
 s:STt X.K X.mg E t m
section
variable   {a b c' tg iter elt:Expr} {ts:List Expr} {ta tb tc:TE} {ma mb mc:ME} {sa sb:TT} {na nb:MB} {t:TA} {m:MA}   {y:Str}
def ZrQ:STt K mg E tYes yes:=λ_ _ _ _ _ _ r=>Ans.ret (R:=RB) r.ss rfl λ_ q=>q
def ZkN:DTs X E [] tYes yes:=⟨Zom,ZrQ⟩
def ZpD(h:DT X E a sa na):DTs X E [a] sa na:=⟨Zol h.p,h.s⟩
def Zcb(hi:DI X E tg iter wi mi)(O:Zb1 X own cap scope cl)(hc:X.calm=true)(hg:∀C s H fp pn,DG (Zax X (own++cap.map (·.1)) scope cl C s H fp pn) own.length tg (g C s H fp pn) gm)(ht:∀C s H fp pn,DTs (Zax X (own++cap.map (·.1)) scope cl C s H fp pn) E0 ts (tt C s H fp pn) na)(he:∀C s H fp pn,DE (Zax X (own++cap.map (·.1)) scope cl C s H fp pn) E0 elt (tf C s H fp pn) me)(hts:ts.length<=1:=by decide)(hs:∀x,foldedSetIterable iter X.env x=pure x:=by intro _;rfl) :
  DE X E (.ListComp elt [⟨tg,iter,ts,0⟩] scope pos) (ZcT wi g tt tf own cap) (comp mi own.length (cap.map (·.2)) gm na me) :=
 ⟨ZoL hi.p O hc (λC s H fp pn=>(hg C s H fp pn).p) (λC s H fp pn=>(ht C s H fp pn).p) (λC s H fp pn=>(he C s H fp pn).p) hts hs,
  Zkv hi.s (λC s H fp pn=>(hg C s H fp pn).s) (λC s H fp pn=>(ht C s H fp pn).s) (λC s H fp pn=>(he C s H fp pn).s)⟩
def Ziz(hN:X.N.Nodup)(hix:X.N[i]?=some x)(hx:Loc X.env.scope x)(hi:DI X E tg iter wi mi)(O:Zb1 X own cap scope cl)(hc:X.calm=true)(hg:∀C s H fp pn,DG (Zax X (own++cap.map (·.1)) scope cl C s H fp pn) own.length tg (g C s H fp pn) gm)(ht:∀C s H fp pn,DTs (Zax X (own++cap.map (·.1)) scope cl C s H fp pn) E0 ts (tt C s H fp pn) na)(he:∀C s H fp pn,DE (Zax X (own++cap.map (·.1)) scope cl C s H fp pn) E0 elt (tf C s H fp pn) me)(hts:ts.length<=1:=by decide)(hsw:swapsWith (.ListComp elt [⟨tg,iter,ts,0⟩] scope pos) (some (.Name x pos')) spos.line X.env=pure true:=by rfl)(hs:∀x,foldedSetIterable iter X.env x=pure x:=by intro _;rfl)(hf:X.fn x=true\/X.env.scope.names.lookup x=some .local:=by first | exact .inl rfl | exact .inr rfl | assumption) :
  DS X E (.Assign [.Name x pos'] (.ListComp elt [⟨tg,iter,ts,0⟩] scope pos) spos) (tAsg (ZcT wi g tt tf own cap) (ZbT i)) (st i (comp mi own.length (cap.map (·.2)) gm na me)) :=
 ⟨ZeD hN hix hx hi.p O hc (λC s H fp pn=>(hg C s H fp pn).p) (λC s H fp pn=>(ht C s H fp pn).p) (λC s H fp pn=>(he C s H fp pn).p) hts hsw hs hf,
  ZnR (Zkv hi.s (λC s H fp pn=>(hg C s H fp pn).s) (λC s H fp pn=>(ht C s H fp pn).s) (λC s H fp pn=>(he C s H fp pn).s))⟩
def ZaW(hN:X.N.Nodup)(hi:X.N[i]?=some x)(hx:Loc X.env.scope x)(he:DE X E e te me)(hs:swapsWith e (some (.Name x pos')) spos.line X.env=pure false:=by rfl)(hf:X.fn x=true\/X.env.scope.names.lookup x=some .local:=by first | exact .inl rfl | exact .inr rfl | assumption) :
  DS X E (.Assign [.Name x pos'] e spos) (tAsg te (ZbT i)) (st i me):=⟨Zjf hN hi hx he.p hs hf,ZnR he.s⟩
def Znc(he:DE X E e te me)(hg:DG X 1000 tg g gm)(hs:swapsWithSole [tg] e spos.line X.env=pure false:=by rfl)(hw:swappedStores [tg] e X.env=pure none:=by rfl)(h1:(assignEach [tg] X.env).map (·.2)=[assign tg X.env]:=by rfl):DS X E (.Assign [tg] e spos) (tAsg te g) (asg gm me):=⟨Zk5 he.p hg.p hs hw h1,Zp4 he.s hg.s hg.x⟩
def Zqi(he:DE X E e te me)(hs:swapsWith e none spos.line X.env=pure false:=by rfl):DS X E (.Expr e spos) (Zb3 te) (drp me):=⟨Zdc he.p hs,ZpK he.s⟩
def Zbb(he:DE X E e te me):DS X E (.Return (some e) spos) (tRet te) (ret me):=⟨Zjz he.p,Zp3 he.s⟩
def Zlp:DS X E (.Continue spos) Zj6 cnt:=⟨ZiE,Zrx⟩
def Zro{st:Stmt}{u:TS}{k:MS}(h:DS X E st u k):DS X E st u (frz i k):=⟨h.p,Zsg h.s⟩
def ZaM:DSs X E [] ZjN nop:=⟨Ziv,ZnE⟩
def Zar{st:Stmt}{u:TS}{k:MS}(h:DS X E st u k):DSs X E [st] u k:=⟨Zgv h.p,h.s⟩
def Zai{st:Stmt}{rest:List Stmt}{u u':TS}{k k':MS}(h:DS X E st u k)(h':DSs X E rest u' k'):DSs X E (st::rest) (tSeq u u') (sq k k'):=⟨ZbU h.p h'.p,Zqk h.s h'.s⟩
def ZcU{k:MS}(hc:DT X E c' sa na)(ha:DSs X E as u k)(hb:DSs X E bs u' k'):DS X E (.If c' as bs spos) (tIfS sa u u') (ifs na k k'):=⟨Zpt hc.p ha.p hb.p,Ztg hc.s ha.s hb.s⟩
def Zer{k:MS}(hp:PassesOwn (model X.prog X.w) X.A X.env X.xe)(hc:X.calm=true)(hi:DI X E tg iter wi mi)(hg:DG X 1000 tg g gm)(hb:DSs X E body u k)(hs:∀x,foldedSetIterable iter X.env x=pure x:=by intro _;rfl):DS X E (.For tg iter body [] spos) (tFor wi g u) (for_ mi gm k):=⟨ZlI hp hc hi.p hg.p hb.p hs,Zsd hi.s hg.s hg.x hb.s⟩
def ZrB{k:MS}(hp:PassesOwn (model X.prog X.w) X.A X.env X.xe)(hc:DT X E c' sa na)(hb:DSs X E body u k):DS X E (.While c' body [] spos) (Zji sa u) (whl fu na k):=⟨ZlW hp hc.p hb.p,ZmE hc.s hb.s⟩
end
section
variable       {qual:Str} {scope:Scope} {f:Addr} {cd:Value}  {outer:List Env} {s₀:Shared} {H₀:Hp}  {t:TA} {m:MA}
def ZlL(hg:Gl (cxOf (CXR P w) P w K mg base N qual scope f cd A outer s₀ H₀ E) x)(hm:mg x=some (.ref C))(hq:W.excIn K C Zg4 "ValueError.__new__"=true)(ha:DA (cxOf (CXR P w) P w K mg base N qual scope f cd A outer s₀ H₀ E) E n (e::es) t m)(hn:n<=1000:=by decide)(hd:(x==("__debug__" : Str))=false:=by decide)(he:starEach (e::es) (cxOf (CXR P w) P w K mg base N qual scope f cd A outer s₀ H₀ E).env=(false,eval e (cxOf (CXR P w) P w K mg base N qual scope f cd A outer s₀ H₀ E).env)::starEach es (cxOf (CXR P w) P w K mg base N qual scope f cd A outer s₀ H₀ E).env:=by rfl)(hpl:(backTo cpos (starEach es (cxOf (CXR P w) P w K mg base N qual scope f cd A outer s₀ H₀ E).env)).any (·.1)=false:=by rfl)(hcx:clsOf x=x:=by decide +kernel)(hpx:pay x=none:=by decide +kernel) :
  DS (cxOf (CXR P w) P w K mg base N qual scope f cd A outer s₀ H₀ E) E (.Raise (some (.Call (.Name x np) (e::es) [] cpos)) none pos) (ZnB E C t) (rse x m):=by
 refine ⟨ZmG hg hm hq ha.p hd he hpl,?_⟩;intro F0 H0 F H σ ρ rr;refine (ha.s F0 H0 F H σ ρ rr).stm (w':=λvs H1 _=>vs.length<=1000/\E (.ref C) none H1) rr.g λds ed F1 H1 vs g1 rs=>?_
 exact λD q=>⟨by rw [rs.length,ha.n ρ ds ed];exact hn,by
  have z:=q F1 H1 C (rr.g.trans g1) (by rw [hcx];exact hm);rw [hpx] at z
  exact z⟩
def Zc0{F:Hp}(s:Same F H)(r:Rps K mg F vs ds):Rep K mg F H F H (start N vs) (ev0 N.length ds):=by
 have hl:=r.length;have key:∀(i:Nat) (c:Cl),(ev0 N.length ds)[i]?=some c->c=.no\/∃d,ds[i]?=some d/\c=.im d:=by
  intro i c e;rw [Zht] at e;by_cases hi:i<ds.length
  ·rw [Va2 (by simpa using hi),Va3,VbF hi] at e;exact .inr ⟨ds[i],VbF hi,(Vau e).symm⟩
  ·rw [Va0 (by simpa using hi),Va1] at e;split at e
   ·exact .inl (Vau e).symm
   ·cases e
 refine ⟨.refl s,?_,λi d e=>?_,λi ds' e=>?_,λi j ds' es' a e=>?_⟩
 ·rw [Zht];unfold start;simp [hl]
 ·rcases key i _ e with z | ⟨d',e1,z⟩
  ·cases z
  ·cases z;obtain ⟨v,e2,rv⟩:=r.get e1;refine ⟨v,?_,rv⟩;have hi:i<vs.length:=(Vat.mp e2).1;unfold start;rw [Va2 (by simpa using hi),Va3,e2];rfl
 ·rcases key i _ e with z | ⟨d',e1,z⟩<;>cases z
 ·rcases key i _ e with z | ⟨d',e1,z⟩<;>cases z
def okD{st:Stmt}{mb:MS}(F:Fun K x x st f fd)(S:Zag N ps (Zac st))(h:∀(cdv:Value) (A:Around) (outer:List Env) (s:Shared) (H:Hp) (E:XK),Room k (A.deeper (envOfC x (Zac st) s.heap.objs.size f cdv))->∃t,DSs (cxOf (CXR P w) P w K mg base N x (Zac st) f cdv A outer s H E) E (Zav st) t mb) :
  FnOk P w K mg base (CXR P w) (k+1) f fd ps (spD K mg ps.length (fn N.length mb)):=by
 obtain ⟨oc,od,kV,doc,pm,an,cdv,ct,osl,rfl,lk,hcd⟩:=F.ex;refine Zix lk hcd S (λvs H Q E q=>q.1) λA outer s H vs Q E hr hsp=>?_;obtain ⟨t,hd⟩:=h cdv A outer s H E hr;refine ⟨t,hd.p,?_⟩;obtain ⟨_,F0,ds,s0,rs,hb,hok,hex⟩:=hsp;have z:=hd.s F0 H F0 H (start N vs) (ev0 N.length ds) (Zc0 s0 rs);unfold fn at hb hok hex;cases e:mb (ev0 N.length ds) with
 | ok fl =>
  rw [e] at z hb hok hex;cases fl with
  | nx ρ=>exact z _ λF' H' σ' _ r'=>hok .non rfl F' H' .non r'.g .non
  | rt d=>exact z _ λF' H' v g rv=>hok d rfl F' H' v g rv
  | bk ρ=>exact absurd rfl hb
  | ct ρ=>exact absurd rfl hb
 | ex c =>
  rw [e] at z hex;exact z _ λF' H' C g hc=>hex c rfl F' H' C g hc
 | bad=>rw [e] at hb;exact absurd rfl hb
def _root_.L2.Def.cal{st:Stmt}{mb:MS}(D:Def K mg x st ps)(S:Zag N ps (Zac st))(h:∀(f:Addr) (cdv:Value) (A:Around) (outer:List Env) (s:Shared) (H:Hp) (E:XK),Room k (A.deeper (envOfC x (Zac st) s.heap.objs.size f cdv))->∃t,DSs (cxOf (CXR P w) P w K mg base N x (Zac st) f cdv A outer s H E) E (Zav st) t mb) :
  Cal P w K mg base (k+1) x ps (fn N.length mb):=by
 obtain ⟨f,fd,F,b,hm⟩:=D.ex;exact ⟨f,fd,okD F S (h f),b,F.kp,hm⟩
end
def ZrV{e:Value}(h:CXR P w l H s (λ_ _ _=>False) e s'):False:=by
 obtain ⟨_,_,_,_,_,_,_,q⟩:=h;exact q
def Zjh:∀ns:List Int,Rps K mg H (ns.map V.int) (ns.map D.int)
 | []=>.nil
 | n::r=>.cons (.int n) (Zjh r)
def ZpO(C:Cal X.prog X.w X.K X.mg X.base k x ps f)(hr:Room l X.A)(hn:k<=l)(hg:Gl (Zax X N scope cl C' s H fp pn) x)(ha:DA (Zax X N scope cl C' s H fp pn) E0 n (e::es) t m)(hps:ps.length=n:=by rfl)(hdb:(x==("__debug__" : Str))=false:=by decide)(he:starEach (e::es) (Zax X N scope cl C' s H fp pn).env=(false,eval e (Zax X N scope cl C' s H fp pn).env)::starEach es (Zax X N scope cl C' s H fp pn).env:=by rfl)(hpl:(backTo pos (starEach es (Zax X N scope cl C' s H fp pn).env)).any (·.1)=false:=by rfl) :
  DE (Zax X N scope cl C' s H fp pn) E0 (.Call (.Name x p) (e::es) [] pos) (ZeB (spD X.K X.mg ps.length f) [] E0 t) (on f m) :=
 Za9 (X:=Zax X N scope cl C' s H fp pn) C hr hn hg Zsa ha hps hdb he hpl
section
def all_range:∀bs:List Bool,((List.range bs.length).all λi=>bs.getD i true)=bs.all id
 | []=>rfl
 | b::r=>by
  rw [VaM,List.range_succ_eq_map,List.all_cons,List.all_map,List.all_cons,<-all_range r];rfl
def ZeC:∀(bs:List Bool) (its:List Value),Vals (bs.map V.bl) its->its=bs.map Value.bool
 | [],_,.nil=>rfl
 | b::r,_,.cons h t=>by
  cases h;rw [VaN,ZeC r _ t]
def rAll(K:W.Frag):List V->Hp->VK->Prop:=λxs H Q=>∃(a:Addr) (bs:List Bool),xs=[.ref a]/\SqL K H a (bs.map V.bl)/\Q (.bl (bs.all id)) H
def Zev(hc:X.calm=true):Zc1 X (.builtin "all") (rAll X.K):=by
 intro pins s σ H xs us Q I r h;obtain ⟨a,bs,rfl,hq,q⟩:=h;obtain ⟨u,rfl,r1⟩:=vals1 r;cases r1;obtain ⟨its,rv,pl,hz⟩:=I.list hq;obtain rfl:=ZeC bs its rv;have la:a<s.heap.objs.size:=by
  obtain ⟨o,_,ho,_⟩:=pl;exact Vac ho
 refine call_all_walk (Vbz pl.isList ?_);refine ⟨s.heap.objs.size,_,_,_,_,_,λi=>bs.getD i true,rfl,Walks.list (A:=X.A.in1) (I.ok.hd hc) s.heap.objs.size a (Vaf la) (bs.map Value.bool).toArray,⟨⟨_,VaG _ rfl,rfl,rfl⟩,?_⟩,?_,λh' tk k=>?_⟩
 ·exact pl.isList.at λo e=>VaF _ e
 ·intro i v s2 Q2 E2 hP hQ;have e:v=.bool (bs.getD i true):=by
   rw [List.getElem?_toArray,Va3] at hP;cases q:bs[i]? with
   | none=>rw [q] at hP;cases hP
   | some b =>
    rw [q] at hP;cases hP;rw [List.getD_eq_getElem?_getD,q];rfl
  subst e;exact VaE hQ
 ·have e:(List.range (bs.map Value.bool).toArray.size).all (λi=>bs.getD i true)=bs.all id:=by
   rw [Va7,VaO];exact all_range bs
  rw [e];exact ⟨.bl (bs.all id),H,I.kept λb o z=>k b o (by simp;exact Vaf (Vac z)) (VaF _ z),rfl,q⟩
def Zgx{F:Hp}:∀{xs:List V} {ds:List D} {bs:List Bool},Rps K mg F xs ds->bools ds=.ok bs->xs=bs.map V.bl
 | _,_,_,.nil,e=>by cases e;rfl
 | _,_,bs,.cons (d:=d) (ds:=ds) h r,e=>by
  unfold bools at e;cases d with
  | bl b =>
   cases q:bools ds with
   | ok bs' =>
    simp only [q,Res.bind] at e;cases e;cases h;rw [VaN,Zgx r q]
   | ex c=>simp only [q,Res.bind] at e;cases e
   | bad=>simp only [q,Res.bind] at e;cases e
  | _=>cases e
def ZgL{c:Str}:∀ds:List D,bools ds≠.ex c
 | [],h=>by cases h
 | d::r,h=>by
  unfold bools at h;cases d with
  | bl b =>
   cases q:bools r with
   | ok bs'=>simp only [q,Res.bind] at h;cases h
   | ex c'=>exact ZgL r q
   | bad=>simp only [q,Res.bind] at h;cases h
  | _=>cases h
def Zd9:CallD K mg (rAll K) bAll:=by
 intro E F H xs ds s r;unfold bAll;split
 ·next d =>
  obtain ⟨x,rfl,rx⟩:=r.one;cases d with
  | lst es =>
   cases rx with
   | lst h rs =>
    show Ans mg E (Rp K mg) F H ((bools es).bind λbs=>.ok (.bl (bs.all id))) _;cases q:bools es with
    | ok bs =>
     have e:=Zgx rs q;subst e;exact Ans.ret s (.bl _) λQ z=>⟨_,bs,rfl,s.seq h,z⟩
    | ex c=>exact absurd q (ZgL es)
    | bad=>trivial
  | _=>trivial
 ·trivial
def Rps.three{K:W.Frag}{mg:Str->Option Value}{H:Hp}{xs:List V}{d e f:D}(h:Rps K mg H xs [d,e,f]):∃x y z,xs=[x,y,z]/\Rp K mg H x d/\Rp K mg H y e/\Rp K mg H z f:=by
 cases h with | cons h r=>obtain ⟨_,_,rfl,g⟩:=Rps.two r;exact ⟨_,_,_,rfl,h,g⟩
def ZbM(hg:Gl X x)(hm:X.mg x=some (.ref C))(hd:(x==("__debug__" : Str))=false:=by decide):DE X E (.Name x pos) (tC (.ref C)) (c (.cls x)):=⟨Zir hg hm rfl hd,se_c λ_=>.cls hm⟩
structure TabOk(K:W.Frag)(mg:Str->Option Value)(tc:List (Str×Str×Bool))(tt:List (Str×String×Bool)):Prop where
 c:∀e∈tc,∃D C,mg e.1=some (.ref D)/\mg e.2.1=some (.ref C)/\Zia K D/\W.kitOne K (.ref D) (.ref C)=some e.2.2
 t:∀e∈tt,∃D,mg e.1=some (.ref D)/\Zia K D/\W.kitOne K (.ref D) (.type e.2.1)=some e.2.2
def rIsX(K:W.Frag):List V->Hp->VK->Prop:=λxs H Q=>∃a D y b,xs=[.ref a,y]/\(∃φ,H a=some (.ext φ)/\∀g,φ g->ExcAt a (.ref D) g)/\Zia K D/\Q (.bl b) H /\
 ((∀u,RelV y u->W.kitOne K (.ref D) u=some b)\/∃tp ys,y=.ref tp/\SqT K H tp ys/\∀us,Vals ys us->W.kitAny K (.ref D) us=some b)
def ZaL:Zc1 X (.builtin "isinstance") (rIsX X.K):=by
 intro pins s σ H xs us Q I r h;obtain ⟨a,D,y,bb,rfl,hH,C,q,h⟩:=h;obtain ⟨u,w',rfl,r1,r2⟩:=vals2 r;cases r1;obtain ⟨φ,hH,hφ⟩:=hH;have ex:ExcAt a (.ref D) s.heap:=hφ _ (show _/\_ from I.hok a _ hH).1;have fin:∀tk,EP X pins σ Q (.bool bb) { s with toks:=tk }:=λtk=>⟨.bl bb,H,I.tok _,rfl,q⟩
 rcases h with h | ⟨tp,ys,rfl,hq,h⟩
 ·exact VaS (Zi7 C) I.kIn ex (h _ r2) (λz=>nomatch z) fin
 ·cases r2;obtain ⟨its,rv,⟨o,h1,h2,n,h3⟩,_⟩:=I.tuple hq;obtain ⟨oc,od,oda,osl⟩:=o;dsimp only at h2 h3;subst h2 h3;exact W.kia_tup (Zi7 C) I.kIn ex h1 (h _ rv) (λz=>nomatch z) fin
def Znj{F:Hp}{tc:List (Str×Str×Bool)}{tt:List (Str×String×Bool)}(T:TabOk K mg tc tt){c:Str}{C:Addr}(hm:mg c=some (.ref C)){y:V}{k:D}{b:Bool}(ry:Rp K mg F y k)(e:oneX tc tt c k=.ok b) :
  Zia K C/\∀u,RelV y u->W.kitOne K (.ref C) u=some b:=by
 cases k with
 | cls k =>
  cases ry with
  | cls hk =>
   have e:ofO ((tc.find? λe=>e.1==c&&e.2.1==k).map (·.2.2))=.ok b:=e;cases q:tc.find? λe=>e.1==c&&e.2.1==k with
   | none=>rw [q] at e;cases e
   | some en =>
    rw [q] at e;cases e;have hp:=List.find?_some q;have hmem:=List.mem_of_find?_eq_some q;rw [Vbf,VaL,VaL] at hp;obtain ⟨D',C',m1,m2,co,kk⟩:=T.c en hmem;rw [hp.1,hm] at m1;rw [hp.2,hk] at m2;cases m1;cases m2;exact ⟨co,λu r=>by cases r;exact kk⟩
 | ty n =>
  cases ry with
  | ty =>
   have e:ofO ((tt.find? λe=>e.1==c&&e.2.1==n).map (·.2.2))=.ok b:=e;cases q:tt.find? λe=>e.1==c&&e.2.1==n with
   | none=>rw [q] at e;cases e
   | some en =>
    rw [q] at e;cases e;have hp:=List.find?_some q;have hmem:=List.mem_of_find?_eq_some q;rw [Vbf,VaL,VaL] at hp;obtain ⟨D',m1,co,kk⟩:=T.t en hmem;rw [hp.1,hm] at m1;cases m1;exact ⟨co,λu r=>by cases r;rw [<-hp.2];exact kk⟩
 | _=>cases e
def Zkj{tc:List (Str×Str×Bool)}{tt:List (Str×String×Bool)}{c c':Str}(k):oneX tc tt c k≠.ex c':=by
 intro h;unfold oneX at h;split at h
 ·cases q:(tc.find? λe=>e.1==c&&e.2.1==‹Str›).map (·.2.2)<;>rw [q] at h<;>cases h
 ·cases q:(tt.find? λe=>e.1==c&&e.2.1==‹String›).map (·.2.2)<;>rw [q] at h<;>cases h
 ·cases h
def ZnJ{F:Hp}{tc:List (Str×Str×Bool)}{tt:List (Str×String×Bool)}(T:TabOk K mg tc tt){c:Str}{C:Addr}(hm:mg c=some (.ref C)):∀{ys:List V} {ks:List D} {b:Bool},Rps K mg F ys ks->anyX tc tt c ks=.ok b ->
  (ks≠[]->Zia K C)/\∀us,Vals ys us->W.kitAny K (.ref C) us=some b
 | _,_,b,.nil,e=>by
  cases e;exact ⟨λz=>absurd rfl z,λus r=>by cases r;rfl⟩
 | _,_,b,.cons (d:=d) (ds:=ds) h r,e=>by
  unfold anyX at e;cases q:oneX tc tt c d with
  | ok b1 =>
   rw [q] at e;obtain ⟨co,k1⟩:=Znj T hm h q;refine ⟨λ_=>co,λus ru=>?_⟩;cases ru with
   | cons r1 r2 =>
    unfold W.kitAny;rw [k1 _ r1];cases b1 with
    | true=>cases e;rfl
    | false=>exact (ZnJ T hm r e).2 _ r2
  | ex c'=>exact absurd q (Zkj d)
  | bad=>rw [q] at e;cases e
def Znq{tc:List (Str×Str×Bool)}{tt:List (Str×String×Bool)}{c c':Str}:∀ks:List D,anyX tc tt c ks≠.ex c'
 | [],h=>by cases h
 | k::r,h=>by
  unfold anyX at h;cases q:oneX tc tt c k with
  | ok b1 =>
   rw [q] at h;cases b1 with
   | true=>cases h
   | false=>exact Znq r h
  | ex c'=>exact Zkj k q
  | bad=>rw [q] at h;cases h
def ZaC(T:TabOk K mg tc tt):CallD K mg (rIsX K) (bIsX tc tt):=by
 intro E F H xs ds s r;unfold bIsX;split
 ·next d k =>
  obtain ⟨x,y,rfl,rx,ry⟩:=r.two;cases d with
  | exc c =>
   cases rx with
   | @exc _ C' a' _ hm hx0 =>
    have hx:=(hx0.same (H':=H) λb o z _=>s b o z).ext;show Ans mg E (Rp K mg) F H (askX tc tt (clsOf c) k) _;generalize clsOf c=c at hm ⊢;have gen:∀k',Rp K mg F y k'->askX tc tt c k'=(oneX tc tt c k').bind (λb=>.ok (.bl b))->Ans mg E (Rp K mg) F H (askX tc tt c k') (rIsX K [.ref a',y] H):=by
     intro k' rk e;rw [e];cases q:oneX tc tt c k' with
     | ok b =>
      obtain ⟨co,k1⟩:=Znj T hm rk q;exact Ans.ret s (.bl _) λQ z=>⟨_,_,y,b,rfl,hx,co,z,.inl k1⟩
     | ex c'=>exact absurd q (Zkj k')
     | bad=>trivial
    cases k with
    | tup ks =>
     cases ry with
     | tup hq rq =>
      cases ks with
      | nil=>trivial
      | cons k0 kr =>
       show Ans mg E (Rp K mg) F H ((anyX tc tt c (k0::kr)).bind λb=>.ok (.bl b)) _;cases q:anyX tc tt c (k0::kr) with
       | ok b =>
        obtain ⟨co,k1⟩:=ZnJ T hm rq q;exact Ans.ret s (.bl _) λQ z=>⟨_,_,_,b,rfl,hx,co (by simp),z,.inr ⟨_,_,rfl,ZaB s hq,k1⟩⟩
       | ex c'=>exact absurd q (Znq _)
       | bad=>trivial
    | _=>exact gen _ ry rfl
  | _=>trivial
 ·trivial
end
section
def Zk7{F:Hp}:∀{xs:List V} {ds:List D} {ns:List Int},Rps K mg F xs ds->ZgT ds=.ok ns->xs=ns.map V.int
 | _,_,_,.nil,e=>by cases e;rfl
 | _,_,ns,.cons (d:=d) (ds:=ds) h r,e=>by
  unfold ZgT at e;cases d with
  | int b =>
   cases q:ZgT ds with
   | ok bs' =>
    simp only [q,Res.bind] at e;cases e;cases h;rw [VaN,Zk7 r q]
   | ex c=>simp only [q,Res.bind] at e;cases e
   | bad=>simp only [q,Res.bind] at e;cases e
  | _=>cases e
def ZkG{c:Str}:∀ds:List D,ZgT ds≠.ex c
 | [],h=>by cases h
 | d::r,h=>by
  unfold ZgT at h;cases d with
  | int b =>
   cases q:ZgT r with
   | ok bs'=>simp only [q,Res.bind] at h;cases h
   | ex c'=>exact ZkG r q
   | bad=>simp only [q,Res.bind] at h;cases h
  | _=>cases h
end
section
def ZoG(ha:SA K mg E t m)(hl:SAn n m)(hn:n<=sizeLine):SS K mg E (tAsg (tLst t) (ZbT i)) (stO i (mls m)):=by
 intro F0 H0 F H σ ρ rr;have h:=ha F0 H0 F H σ ρ rr;unfold stO mls;cases e:m ρ with
 | ok ds =>
  rw [e] at h;exact λD q=>h _ λF' H' xs g rs=>⟨by rw [rs.length,hl ρ ds e];exact hn,λp hp=>q F' _ _ g.f ((rr.gr g).own i hp rs)⟩
 | ex c =>
  rw [e] at h;exact λD q=>h _ λF' H' C g hC=>q F' H' C (rr.g.trans g) hC
 | bad=>trivial
def ZmN{te:Fam TE}(hi:SI K mg E wi mi)(hg:∀C s H fp pn,SG K mg own.length (t C s H fp pn) g)(ht:∀C s H fp pn,STt K mg E0 (tt C s H fp pn) nt)(he:∀C s H fp pn,SE K mg E0 (te C s H fp pn) me) :
  SS K mg E (tAsg (ZcT wi t tt te own cap) (ZbT i)) (stO i (comp mi own.length (cap.map (·.2)) g nt me)):=by
 intro F0 H0 F H σ ρ rr;have h:=hi F0 H0 F H σ ρ rr;unfold stO comp;cases e:mi ρ with
 | ok ds =>
  rw [e] at h;show AnsS K mg E F0 H0 F ((if ds.length<=LIM then (noEx (Dl.Zan g nt me (noA own.length (yag ρ (cap.map (·.2)))) ds)).bind λys=>.ok (.lst ys) else .bad).bind λd=>(lstO d).bind λxs=>.ok (.nx (ρ.set i (.ow xs)))) _
  by_cases hl:ds.length<=LIM
  ·rw [if_pos hl];cases e2:Dl.Zan g nt me (noA own.length (yag ρ (cap.map (·.2)))) ds with
   | ok ys=>exact λD q=>h _ λF1 H1 J g1 jo=>λC s H2 fp pn=>ZkD (rr.gr g1) jo (hg C s H2 fp pn) (ht C s H2 fp pn) (he C s H2 fp pn) hl e2 _ λF' H' xs g2 rs _ p hp=>q F' _ _ (g1.f.trans g2.f) (((rr.gr g1).gr g2).own i hp rs)
   | ex c=>trivial
   | bad=>trivial
  ·rw [if_neg hl];trivial
 | ex c =>
  rw [e] at h;exact λD q=>h _ λF' H' C g hC=>q F' H' C (rr.g.trans g) hC
 | bad=>trivial
end
section
variable   {a b c' tg iter elt:Expr} {ts:List Expr} {ta tb tc:TE} {ma mb mc:ME} {sa sb:TT} {na nb:MB} {t:TA} {m:MA}   {y:Str}
def ZpB(hN:X.N.Nodup)(hi:X.N[i]?=some x)(hx:Loc X.env.scope x)(ha:DA X E n es t m)(hn:n<=sizeLine:=by decide)(hs:swapsWith (.List es pos) (some (.Name x pos')) spos.line X.env=pure false:=by rfl)(hf:X.fn x=true\/X.env.scope.names.lookup x=some .local:=by first | exact .inl rfl | exact .inr rfl | assumption) :
  DS X E (.Assign [.Name x pos'] (.List es pos) spos) (tAsg (tLst t) (ZbT i)) (stO i (mls m)):=⟨Zjf hN hi hx (Zhk ha.p) hs hf,ZoG ha.s ha.n hn⟩
def Zmq(hN:X.N.Nodup)(hix:X.N[i]?=some x)(hx:Loc X.env.scope x)(hi:DI X E tg iter wi mi)(O:Zb1 X own cap scope cl)(hc:X.calm=true)(hg:∀C s H fp pn,DG (Zax X (own++cap.map (·.1)) scope cl C s H fp pn) own.length tg (g C s H fp pn) gm)(ht:∀C s H fp pn,DTs (Zax X (own++cap.map (·.1)) scope cl C s H fp pn) E0 ts (tt C s H fp pn) na)(he:∀C s H fp pn,DE (Zax X (own++cap.map (·.1)) scope cl C s H fp pn) E0 elt (tf C s H fp pn) me)(hts:ts.length<=1:=by decide)(hsw:swapsWith (.ListComp elt [⟨tg,iter,ts,0⟩] scope pos) (some (.Name x pos')) spos.line X.env=pure true:=by rfl)(hs:∀x,foldedSetIterable iter X.env x=pure x:=by intro _;rfl)(hf:X.fn x=true\/X.env.scope.names.lookup x=some .local:=by first | exact .inl rfl | exact .inr rfl | assumption) :
  DS X E (.Assign [.Name x pos'] (.ListComp elt [⟨tg,iter,ts,0⟩] scope pos) spos) (tAsg (ZcT wi g tt tf own cap) (ZbT i)) (stO i (comp mi own.length (cap.map (·.2)) gm na me)) :=
 ⟨ZeD hN hix hx hi.p O hc (λC s H fp pn=>(hg C s H fp pn).p) (λC s H fp pn=>(ht C s H fp pn).p) (λC s H fp pn=>(he C s H fp pn).p) hts hsw hs hf,
  ZmN hi.s (λC s H fp pn=>(hg C s H fp pn).s) (λC s H fp pn=>(ht C s H fp pn).s) (λC s H fp pn=>(he C s H fp pn).s)⟩
def Zr4(i)(he:DE X E e te me)(hN:X.N[i]?=some x:=by rfl)(hv:Vis X.env.scope x:=by first | exact Or.inl rfl | exact Or.inr (Or.inl rfl) | exact Or.inr (Or.inr rfl))(hd:(x==("__debug__" : Str))=false:=by decide)(hcd:(x==("__classdict__" : Str))=false:=by decide)(hbase:attributeBase (.Name x np) "append" X.env (eval (.Name x np) X.env)=eval (.Name x np) X.env:=by rfl) (hfew:((backTo cpos (starEach [e] X.env)).all (λx=>!x.1)&&(backToKw cpos (keywordEach [] X.env)).all (λx=>x.1.isSome)
   && decide ([e].length+([]:List Keyword).length+(if ([]:List Keyword).isEmpty then 0 else 1)<30))=true:=by rfl) (hline:(apos.endLine==cpos.line)=true:=by rfl) (hs:starEach [e] X.env=(false,eval e X.env)::starEach [] X.env:=by rfl) (hplain:(backTo cpos (starEach [] X.env)).any (·.1)=false:=by rfl) (hsw:swapsWith (.Call (.Attribute (.Name x np) "append" apos) [e] [] cpos) none spos.line X.env=pure false:=by rfl) :
  DS X E (.Expr (.Call (.Attribute (.Name x np) "append" apos) [e] [] cpos) spos) (Zb3 (tBM X.K "list" Zc9 (tVar i) (Zbd te tNil))) (app i me) :=
 ⟨Zdc (Zmk VbI PySem.F.slot_list_append PySem.F.type_list_append Zhr (ZbW hN hv hd hcd) (Zbh he.p Zeh hs) hbase hfew hline hs hplain) hsw,
  Zq1 he.s λH a xs h=>.inl ⟨rfl,xs,SqL.of h⟩⟩
end
end L2.Ds
namespace L2.Ds
open Dl
section
def del(F:Hp)(a:Addr):Hp:=λb=>if b=a then none else F b
def Zed{F:Hp}:del F a a=none:=if_pos rfl
def Zb5{F:Hp}(h:b≠a):del F a b=F b:=if_neg h
def ZiU{F:Hp}(h:del F a b=some o):F b=some o:=by
 by_cases hb:b=a
 ·subst hb;rw [Zed] at h;cases h
 ·rw [Zb5 hb] at h;exact h
def Rep.look{F:Hp}(r:Rep K mg F0 H0 F H σ ρ)(e:ρ[i]?=some (.ow ds)) :
  ∃F',Rep K mg F0 H0 F' H σ (ρ.set i (.im (.lst ds)))/\∀F1 H1,Gr F' H F1 H1->∃F2,Gr F H F2 H1:=by
 obtain ⟨a,xs,e2,e4,e5,e3,hr⟩:=r.ow i ds e;have sF:Same F (upd F a (.lst xs)):=ZaA e5 _;refine ⟨upd F a (.lst xs),⟨⟨r.g.f.trans sF,λb o q=>?_,λb o q1 q2=>?_,λb o u q=>r.g.z b o u (ZdV (λ_ _ z=>by cases z) q)⟩,by rw [Vbj];exact r.len,λj u q=>?_,λj es q=>?_,λj k es ts b q1 q2 q3 q4=>?_⟩,λF1 H1 g=>⟨del F1 a,⟨λb o q=>?_,λb o q=>?_,λb o q1 q2=>?_,λb o u q=>ZdV (λ_ _ z=>by cases z) (g.z b o u (ZiU q))⟩⟩⟩
 ·by_cases hb:b=a
  ·subst hb;rw [Zaf] at q;cases q;exact e3
  ·rw [Zad hb] at q;exact r.g.s b o q
 ·rw [Zad (Zae q2 e4)];exact r.g.o b o q1 q2
 ·rcases Zap q with ⟨rfl,z,_⟩ | ⟨_,q⟩
  ·cases z;exact ⟨.ref a,e2,.lst (SqL.of Zaf) (hr.same sF)⟩
  ·obtain ⟨x,h1,h2⟩:=r.im j u q;exact ⟨x,h1,h2.same sF⟩
 ·rcases Zap q with ⟨_,z,_⟩ | ⟨hij,q⟩
  ·cases z
  ·obtain ⟨b,ys,h1,h2,h3,h4,h5⟩:=r.ow j es q;have nb:b≠a:=by
    rintro rfl;exact hij (r.ne i j ds es b e q e2 h1)
   exact ⟨b,ys,h1,h2,by rw [Zad nb];exact h3,h4,h5.same sF⟩
 ·rcases Zap q1 with ⟨_,z,_⟩ | ⟨_,q1⟩
  ·cases z
  ·rcases Zap q2 with ⟨_,z,_⟩ | ⟨_,q2⟩
   ·cases z
   ·exact r.ne j k es ts b q1 q2 q3 q4
 ·rw [Zb5 (Zae q e5)];exact g.f b o (sF b o q)
 ·by_cases hb:b=a
  ·subst hb;rw [Zed] at q;cases q
  ·rw [Zb5 hb] at q;exact g.s b o q
 ·by_cases hb:b=a
  ·subst hb;rw [e3] at q2;cases q2;exact ⟨Zed,g.s _ _ (g.f _ _ Zaf)⟩
  ·rw [Zb5 hb];exact g.o b o (by rw [Zad hb];exact q1) q2
def Zos{F:Hp}{x:V}(r:Rp K mg F x d)(e:Zka d=.ok d'):Rp K mg F' x d':=by
 cases r with
 | non=>cases e;exact .non
 | bl b=>cases e;exact .bl b
 | int b=>cases e;exact .int b
 | str b=>cases e;exact .str b
 | _=>cases e
def Zop{c:Str}:Zka d≠.ex c:=by cases d<;>intro h<;>cases h
def ZsI(i)(h:SE K mg E t m):SE K mg E t (pk i m):=by
 intro F0 H0 F H σ ρ rr;unfold pk getO;split
 ·next ds e =>
  obtain ⟨F',r',back⟩:=rr.look e;have z:=h F0 H0 F' H σ _ r';show Ans mg E (Rp K mg) F H ((m (ρ.set i (.im (.lst ds)))).bind Zka) _;cases em:m (ρ.set i (.im (.lst ds))) with
  | ok d =>
   rw [em] at z;show Ans mg E (Rp K mg) F H (Zka d) _;cases es:Zka d with
   | ok d' =>
    exact λQ q=>z Q λF1 H1 b g1 rb=>by
     obtain ⟨F2,g2⟩:=back F1 H1 g1;exact q F2 H1 b g2 (Zos rb es)
   | ex c=>exact absurd es Zop
   | bad=>trivial
  | ex c =>
   rw [em] at z;exact λQ q=>z Q λF1 H1 C g1 hC=>by
    obtain ⟨F2,g2⟩:=back F1 H1 g1;exact q F2 H1 C g2 hC
  | bad=>trivial
 ·trivial
end
section
variable   {l:Nat} {y:Str} {Cy:Addr}  {f:List D->Res D} {t:TA} {m:MA} {u:Addr->TS} {b:MS}   {p yp epos hpos:Pos} {b₀:Stmt} {suite:List Stmt} {hits:List Str}   {tt:TT} {mt:MB}
def ycY(i)(h:DE X E e te me):DE X E e te (pk i me):=⟨h.p,ZsI i h.s⟩
end
section
mutual
def Znr(I:Inv X pins σ H s):∀{x:V} {d d':PyData},DV X.K H x d->DV X.K H x d'->d=d'
 | _,_,_,.non,.non=>rfl
 | _,_,_,.bl _,.bl _=>rfl
 | _,_,_,.int _,.int _=>rfl
 | _,_,_,.str _,.str _=>rfl
 | _,_,_,.tup h q,.tup h' q'=>by
  have e:=I.tuple_inj h h';subst e;rw [ZiA I q q']
 | _,_,_,.lst h q,.lst h' q'=>by
  have e:=I.list_inj h h';subst e;rw [ZiA I q q']
 | _,_,_,.tup h q,.lst h' q'=>by
  obtain ⟨_,_,⟨o,e1,e2,_⟩,_⟩:=I.tuple h;obtain ⟨_,_,⟨o',_,e1',e2',_⟩,_⟩:=I.list h';rw [e1] at e1';cases e1';rw [e2] at e2';simp at e2'
 | _,_,_,.lst h q,.tup h' q'=>by
  obtain ⟨_,_,⟨o,e1,e2,_⟩,_⟩:=I.tuple h';obtain ⟨_,_,⟨o',_,e1',e2',_⟩,_⟩:=I.list h;rw [e1] at e1';cases e1';rw [e2] at e2';simp at e2'
def ZiA(I:Inv X pins σ H s):∀{xs:List V} {ds ds':List PyData},DVs X.K H xs ds->DVs X.K H xs ds'->ds=ds'
 | _,_,_,.nil,.nil=>rfl
 | _,_,_,.cons h r,.cons h' r'=>by rw [Znr I h h',ZiA I r r']
end
def hitE(X:Cx)(H:Hp)(dx:PyData)(u:Value):Bool:=@decide (∃y d,RelV y u/\DV X.K H y d/\PyData.eqv d dx=true) (Classical.propDecidable _)
def Zln(I:Inv X pins σ H s){d:PyData}(r:RelV y u)(h:DV X.K H y d):hitE X H dx u=PyData.eqv d dx:=by
 unfold hitE;cases e:PyData.eqv d dx with
 | true=>exact @Vbm _ (Classical.propDecidable _) ⟨y,d,r,h,e⟩
 | false =>
  refine @Vaa _ (Classical.propDecidable _) ?_;rintro ⟨y',d',r',h',e'⟩;have ey:=r.inj r';subst ey;rw [Znr I h h',e'] at e;cases e
def Ziu(I:Inv X pins σ H s):∀{ys:List V} {its:List Value} {ds:List PyData},Vals ys its->DVs X.K H ys ds->its.any (hitE X H dx)=ds.any λd=>PyData.eqv d dx
 | _,_,_,.nil,.nil=>rfl
 | _,_,_,.cons r1 r2,.cons h1 h2=>by rw [List.any_cons,List.any_cons,Ziu I r2 h2,Zln I r1 h1]
def ZnD(I:Inv X pins σ H s):∀{ys:List V} {its:List Value} {ds:List PyData} {u:Value},Vals ys its->DVs X.K H ys ds->PyData.canLayAll0 ds=true->u∈its->∃y d,RelV y u/\DV X.K H y d/\d.canLay0=true
 | _,_,_,_,.nil,.nil,_,hu=>by cases hu
 | _,_,_,u,.cons r1 r2,.cons h1 h2,hc,hu=>by
  have hc':=(show PyData.canLay0 _=true/\PyData.canLayAll0 _=true by simpa [PyData.canLayAll0] using hc);rcases Vaq.mp hu with rfl | hu
  ·exact ⟨_,_,r1,h1,hc'.1⟩
  ·exact ZnD I r2 h2 hc'.2 hu
def rInD(K:W.Frag)(f:Bool->Bool):R2:=λx y H Q=>∃a ys dx dys,y=.ref a/\(SqL K H a ys\/SqT K H a ys)/\DV K H x dx/\DVs K H ys dys/\dx.canLay0=true/\PyData.canLayAll0 dys=true/\dx.depth<=50/\Q (.bl (f (dys.any λd=>PyData.eqv d dx))) H
end
section
def ZqL(hu:X.A.units+64<cLine):OpR X (compareOp .In) (rInD X.K id):=by
 intro pins s σ H x y v u Q I rx ry h;obtain ⟨a,ys,dx,dys,rfl,hq,h1,h2,h3,h4,h5,q⟩:=h;cases ry;obtain ⟨bs,rb⟩:=h1.reads I rx;have eq:∀{its:List Value},Vals ys its->∀u,u∈its.toArray->PySem.SeqAt.EqAt X.A.in1 s u v (hitE X H dx u):=λ{its} rv u hm=>by
  obtain ⟨y',d',r',h',c'⟩:=ZnD I rv h2 h4 (by simpa using hm);obtain ⟨as,ra⟩:=h'.reads I r';rw [Zln I r' h'];exact PySem.SeqAt.eqAt_reads d' dx X.A.in1 s u v as bs ra rb c' h3 (by show X.A.units+1+_<_;omega)
 rcases hq with hq | hq
 ·obtain ⟨its,rv,pl,hz⟩:=I.list hq;refine PySem.SeqAt.in_listAt (hitE X H dx) pl.isList (eq rv) ?_;have e:its.toArray.any (hitE X H dx)=dys.any λd=>PyData.eqv d dx:=by rw [List.any_toArray];exact Ziu I rv h2
  rw [e];exact ⟨.bl _,H,I,rfl,q⟩
 ·obtain ⟨its,rv,pl,hz⟩:=I.tuple hq;refine PySem.SeqAt.in_tupleAt (hitE X H dx) (show s.heap.IsTuple a its.toArray from pl) (eq rv) ?_;have e:its.toArray.any (hitE X H dx)=dys.any λd=>PyData.eqv d dx:=by rw [List.any_toArray];exact Ziu I rv h2
  rw [e];exact ⟨.bl _,H,I,rfl,q⟩
def Znh(x)(k)(hx:Dl.plain k x=true):∀ys l,Dl.Za5 l ys=true->((pyDs ys).any λd=>PyData.eqv d (pyD x))=inD x ys
 | [],_,_=>rfl
 | y::r,l,h=>by
  have h':Dl.plain l y=true/\Dl.Za5 l r=true:=by simpa [Dl.Za5] using h
  show (PyData.eqv (pyD y) (pyD x)||(pyDs r).any _)=(eqD y x||inD x r);rw [Znh x k hx r l h'.2,<-ZiW y x l k h'.1 hx]
def Zow{F:Hp}{x:V}(s:Same F H)(rx:Rp K mg F x dx)(ry:Rp K mg F y dy) :
  Ans mg E (Rp K mg) F H ((seqD dy).bind λys=>if Dl.plain 50 dx&&Dl.Za5 50 ys then .ok (.bl (f (inD dx ys))) else .bad) (rInD K f x y H):=by
 have fin:∀a ws ys,y=.ref a->(SqL K H a ws\/SqT K H a ws)->Rps K mg F ws ys->Ans mg E (Rp K mg) F H (if Dl.plain 50 dx&&Dl.Za5 50 ys then .ok (.bl (f (inD dx ys))) else .bad) (rInD K f x y H):=by
  rintro a ws ys rfl hq rs;by_cases hp:(Dl.plain 50 dx&&Dl.Za5 50 ys)=true
  ·rw [if_pos hp];rw [Vbf] at hp;obtain ⟨c1,c2⟩:=Zdp dx 50 hp.1;obtain ⟨c3,_⟩:=Zeo ys 50 hp.2;refine Ans.ret s (.bl _) λQ q=>⟨a,ws,pyD dx,pyDs ys,rfl,hq,ZeJ s (ZjL rx hp.1),Ze6 s (ZgR rs hp.2),c1,c3,c2,?_⟩;rw [Znh dx 50 hp.1 ys 50 hp.2];exact q
  ·rw [if_neg hp];trivial
 cases dy with
 | lst ys =>
  cases ry with
  | lst h r=>exact fin _ _ ys rfl (.inl (s.seq h)) r
 | tup ys =>
  cases ry with
  | tup h r=>exact fin _ _ ys rfl (.inr (ZaB s h)) r
 | _=>trivial
def ZqM:OpD K mg (rInD K id) dIn:=λ_ _ _ _ _ _ _ s rx ry=>Zow (f:=id) s rx ry
variable{a b:Expr}{ta tb:TE}{ma mb:ME}
def ZsO(hr:Room k X.A)(ha:DE X E a ta ma)(hb:DE X E b tb mb)(hm:behindInMarks .In b=false:=by rfl):DT X E (.Compare a [.In] [b] pos) (Ze1 (tOp (rInD X.K id) ta tb)) (trb (o2 dIn ma mb)):=ZfS (ZqL hr.units) ZqM ha hb hm
end
end L2.Ds
namespace Dl
def ixP(n:Nat)(i:Int):Option Nat:=if 0<=i then (if i<n then some i.toNat else none) else if -(n:Int)<=i then some (i+n).toNat else none
def ext(i:Nat)(e:ME):MS:=λρ=>(getO ρ[i]?).bind λxs=>(e ρ).bind λd=>(lstO d).bind λys=>if xs.length+ys.length<=LIM then .ok (.nx (ρ.set i (.ow (xs++ys)))) else .bad
def bAny:List D->Res D
 | [d]=>match d with
  | .lst xs=>(bools xs).bind λbs=>.ok (.bl (bs.any id))
  | _=>.bad
 | _=>.bad
def trips:List D->List D->List D->List D
 | x::xs,y::ys,z::zs=>.tup [x,y,z]::trips xs ys zs
 | _,_,_=>[]
def zip3:List D->Res (List D)
 | [x,y,z]=>(seqD x).bind λxs=>(seqD y).bind λys=>(seqD z).bind λzs=>.ok (trips xs ys zs)
 | _=>.bad
def lz3(ds:List D):Res D:=(zip3 ds).bind λxs=>.ok (.lst xs)
end Dl
namespace L2.Ds
open Dl
section
def Zlu(ad)(arr)(cap)(bd)(brr)(bcap)(bsl)(short:¬(!arr.isEmpty&&Builtin.List.listTooLong (arr.size+brr.size))=true)(le1:arr.size<=sizeLine)(le2:arr.size+brr.size<=sizeLine+1) :
  Meets (Builtin.«list.extend» ⟨[.ref ad,.ref bd],[]⟩) (λ_ R s=>s.heap.get? ad=some { cls:=.type "list", dict:=none,data:=.seq arr cap,slots:=#[] }/\s.heap.get? bd=some { cls:=.type "list", dict:=none,data:=.seq brr bcap,slots:=bsl }/\R (.ok (.ret Value.none)) { s with heap:=s.heap.update ad (Obj.mapSeq λzs=>zs++brr),toks:=s.toks }) :=
 .of_wp λprog w A R s h=>by
  obtain ⟨hp,gg,dd,tt,oo⟩:=s;obtain ⟨at1,at2,fin⟩:=h;have k1:=PySem.AutoSeq1.idx_int;have k2:=PySem.AutoSeq1.sub_tuple_tuple;have k3:=PySem.AutoSeq1.sub_list_list;have k4:=PySem.AutoSeq1.sub_tuple_list;have k5:=PySem.AutoSeq1.sub_list_tuple;have le3:(arr++brr).size<=sizeLine+1:=by rw [Array.size_append];exact le2
  wp_walk using (VbJ at1 rfl (hz:=le1) (_hz':=le3)),wpAny_loadPart' at1,wpAny_loadPart' at2
  exact ⟨_,rfl,fin⟩
def ZjT(K:W.Frag):V->List V->Hp->VK->Prop:=λx vs H Q=>∃l b xs zs,x=.ref l/\vs=[.ref b]/\H l=some (.lst xs)/\SqL K H b zs/\xs.length+zs.length<=sizeLine/\Q .non (upd H l (.lst (xs++zs)))
def ZpS:MtR X "list.extend" (ZjT X.K):=by
 intro pins s σ H x vs v us Q I rx rv h;obtain ⟨l,b,xs,zs,rfl,rfl,hH,hB,hz,q⟩:=h;cases rx;obtain ⟨u,rfl,ru⟩:=rv.one;cases ru;obtain ⟨z,its,n,r,hl,e⟩:=I.lstM hH;obtain ⟨its2,r2,⟨o,n2,e2,oc,od,os⟩,z2⟩:=I.list hB;obtain ⟨cl,di,da,sl⟩:=o;cases oc;cases od;cases os;have hl2:=r2.length;have hsz:its.toArray.size+its2.toArray.size<=sizeLine:=by rw [Va7,Va7];omega
 have hlong:¬(!its.toArray.isEmpty&&Builtin.List.listTooLong (its.toArray.size+its2.toArray.size))=true:=by
  rw [ZiO hsz,Bool.and_false];exact VaC
 refine call_meets PySem.F.slot_list_extend ⟨_,e,rfl⟩ PySem.F.entry_list_extend (PySem.F.args_list_extend_2 _ _) (Zlu l its.toArray n b its2.toArray n2 sl hlong (by rw [Va7];omega) (by omega)) ⟨e,e2,?_⟩;refine ⟨.non,_,I.lset (its':=its++its2) hH e (by simp) (r.append r2) ?_,rfl,q⟩;rw [Va5];omega
end
section
variable    {ta tb:TE} {ma mb:ME} {F:Hp}
def Rep.put{es:List D}(r:Rep K mg F0 H0 F H σ ρ)(e:ρ[i]?=some (.ow ds))(e2:σ[i]?=some (some (.ref a)))(e3:H a=some (.lst xs))(e4:H0 a=none)(e5:F a=none)(hr:Rps K mg F ys es) :
  Rep K mg F0 H0 F (upd H a (.lst ys)) σ (ρ.set i (.ow es)):=by
 refine ⟨⟨r.g.f,λb o q=>?_,λb o q1 q2=>?_,r.g.z⟩,by rw [Vbj];exact r.len,λj u q=>?_,λj es q=>?_,λj k es ts b q1 q2 q3 q4=>?_⟩
 ·rw [Zad (Zae q e5)];exact r.g.s b o q
 ·rw [Zad (Zae q2 e4)];exact r.g.o b o q1 q2
 ·rcases Zap q with ⟨_,z,_⟩ | ⟨_,q⟩
  ·cases z
  ·exact r.im j u q
 ·rcases Zap q with ⟨rfl,z,l⟩ | ⟨hij,q⟩
  ·cases z;exact ⟨a,_,e2,e4,e5,Zaf,hr⟩
  ·obtain ⟨b,ys,h1,h2,h3,h4,h5⟩:=r.ow j es q;have nb:b≠a:=by
    rintro rfl;exact hij (r.ne i j ds es b e q e2 h1)
   exact ⟨b,ys,h1,h2,h3,by rw [Zad nb];exact h4,h5⟩
 ·have o1:∃es',ρ[j]?=some (.ow es'):=by
   rcases Zap q1 with ⟨rfl,_,_⟩ | ⟨_,q⟩
   ·exact ⟨_,e⟩
   ·exact ⟨_,q⟩
  have o2:∃es',ρ[k]?=some (.ow es'):=by
   rcases Zap q2 with ⟨rfl,_,_⟩ | ⟨_,q⟩
   ·exact ⟨_,e⟩
   ·exact ⟨_,q⟩
  obtain ⟨_,o1⟩:=o1;obtain ⟨_,o2⟩:=o2;exact r.ne j k _ _ b o1 o2 q3 q4
def ZqS(ha:SE K mg E ta ma):SS K mg E (Zb3 (tBM K "list" (ZjT K) (tVar i) (Zbd ta tNil))) (ext i ma):=by
 intro F0 H0 F H σ ρ rr;unfold ext getO;split
 ·next ds e =>
  obtain ⟨a,xs,e2,e4,e5,e3,hr⟩:=rr.ow i ds e;have h:=(ha F0 H0 F H σ ρ rr).stm (K:=K) (k:=λd=>(lstO d).bind λys=>if ds.length+ys.length<=LIM then Res.ok (Fl.nx (ρ.set i (.ow (ds++ys)))) else .bad) (w':=λx H2 D=>ZjT K (.ref a) [x] H2 λ_ H3=>D.nx σ H3) rr.g λd _ F1 H1 x g1 rx=>?_
  ·have fin:∀D,(ta σ H λx H2=>ZjT K (.ref a) [x] H2 λ_ H3=>D.nx σ H3)->Zb3 (tBM K "list" (ZjT K) (tVar i) (Zbd ta tNil)) D σ H:=λD z=>⟨.ref a,e2,.inl ⟨rfl,xs,SqL.of e3⟩,z⟩;show AnsS K mg E F0 H0 F ((ma ρ).bind λd=>(lstO d).bind λys=>if ds.length+ys.length<=LIM then Res.ok (Fl.nx (ρ.set i (.ow (ds++ys)))) else .bad) _
   generalize ((ma ρ).bind λd=>(lstO d).bind λys=>if ds.length+ys.length<=LIM then Res.ok (Fl.nx (ρ.set i (.ow (ds++ys)))) else .bad)=res at h
   cases res with
   | ok f =>
    cases f with
    | nx ρ=>exact λD q=>fin D (h D q)
    | bk ρ=>exact λD q=>fin D (h D q)
    | ct ρ=>exact λD q=>fin D (h D q)
    | rt d=>exact λD q=>fin D (h D q)
   | ex c=>exact λD q=>fin D (h D q)
   | bad=>trivial
  ·cases d with
   | lst ys =>
    cases rx with
    | lst hb rb =>
     show AnsS K mg E F0 H0 F1 (if ds.length+ys.length<=LIM then Res.ok (Fl.nx (ρ.set i (.ow (ds++ys)))) else .bad) _
     by_cases hl:ds.length+ys.length<=LIM
     ·rw [if_pos hl];have r1:=rr.gr g1;obtain ⟨q1,q2⟩:=g1.o a _ e5 e3;have hr1:=hr.same g1.f;exact λD q=>⟨a,_,xs,_,rfl,rfl,q2,g1.s.seq hb,by rw [hr.length,rb.length];exact Vaj hl (by decide),q F1 _ σ (Same.refl _) (r1.put e e2 q2 e4 q1 (Rps.app rb hr1))⟩
     ·rw [if_neg hl];trivial
   | _=>trivial
 ·trivial
end
section
variable    {o k' a b c' d':Expr} {to tk ta tb tc td:TE} {mo mk ma mb mc md:ME}  {np apos spos':Pos}
def ZnP(i)(he:DE X E e te me)(hN:X.N[i]?=some x:=by rfl)(hv:Vis X.env.scope x:=by first | exact Or.inl rfl | exact Or.inr (Or.inl rfl) | exact Or.inr (Or.inr rfl))(hd:(x==("__debug__" : Str))=false:=by decide)(hcd:(x==("__classdict__" : Str))=false:=by decide)(hbase:attributeBase (.Name x np) "extend" X.env (eval (.Name x np) X.env)=eval (.Name x np) X.env:=by rfl) (hfew:((backTo cpos (starEach [e] X.env)).all (λx=>!x.1)&&(backToKw cpos (keywordEach [] X.env)).all (λx=>x.1.isSome)
   && decide ([e].length+([]:List Keyword).length+(if ([]:List Keyword).isEmpty then 0 else 1)<30))=true:=by rfl) (hline:(apos.endLine==cpos.line)=true:=by rfl) (hs:starEach [e] X.env=(false,eval e X.env)::starEach [] X.env:=by rfl) (hplain:(backTo cpos (starEach [] X.env)).any (·.1)=false:=by rfl) (hsw:swapsWith (.Call (.Attribute (.Name x np) "extend" apos) [e] [] cpos) none spos.line X.env=pure false:=by rfl) :
  DS X E (.Expr (.Call (.Attribute (.Name x np) "extend" apos) [e] [] cpos) spos) (Zb3 (tBM X.K "list" (ZjT X.K) (tVar i) (Zbd te tNil))) (ext i me) :=
 ⟨Zdc (Zmk VbI PySem.F.slot_list_extend PySem.F.type_list_extend ZpS (ZbW hN hv hd hcd) (Zbh he.p Zeh hs) hbase hfew hline hs hplain) hsw,ZqS he.s⟩
end
section
def any_range:∀bs:List Bool,((List.range bs.length).any λi=>bs.getD i false)=bs.any id
 | []=>rfl
 | b::r=>by
  rw [VaM,List.range_succ_eq_map,List.any_cons,List.any_map,List.any_cons,<-any_range r];rfl
def rAny(K:W.Frag):List V->Hp->VK->Prop:=λxs H Q=>∃(a:Addr) (bs:List Bool),xs=[.ref a]/\SqL K H a (bs.map V.bl)/\Q (.bl (bs.any id)) H
def Zk2(hc:X.calm=true):Zc1 X (.builtin "any") (rAny X.K):=by
 intro pins s σ H xs us Q I r h;obtain ⟨a,bs,rfl,hq,q⟩:=h;obtain ⟨u,rfl,r1⟩:=vals1 r;cases r1;obtain ⟨its,rv,pl,hz⟩:=I.list hq;obtain rfl:=ZeC bs its rv;have la:a<s.heap.objs.size:=by
  obtain ⟨o,_,ho,_⟩:=pl;exact Vac ho
 refine call_any_walk (Vbz pl.isList ?_);refine ⟨s.heap.objs.size,_,_,_,_,_,λi=>bs.getD i false,rfl,Walks.list (A:=X.A.in1) (I.ok.hd hc) s.heap.objs.size a (Vaf la) (bs.map Value.bool).toArray,⟨⟨_,VaG _ rfl,rfl,rfl⟩,?_⟩,?_,λh' tk k=>?_⟩
 ·exact pl.isList.at λo e=>VaF _ e
 ·intro i v s2 Q2 E2 hP hQ;have e:v=.bool (bs.getD i false):=by
   rw [List.getElem?_toArray,Va3] at hP;cases q:bs[i]? with
   | none=>rw [q] at hP;cases hP
   | some b =>
    rw [q] at hP;cases hP;rw [List.getD_eq_getElem?_getD,q];rfl
  subst e;exact VaE hQ
 ·have e:(List.range (bs.map Value.bool).toArray.size).any (λi=>bs.getD i false)=bs.any id:=by
   rw [Va7,VaO];exact any_range bs
  rw [e];exact ⟨.bl (bs.any id),H,I.kept λb o z=>k b o (by simp;exact Vaf (Vac z)) (VaF _ z),rfl,q⟩
def Zlk:CallD K mg (rAny K) bAny:=by
 intro E F H xs ds s r;unfold bAny;split
 ·next d =>
  obtain ⟨x,rfl,rx⟩:=r.one;cases d with
  | lst es =>
   cases rx with
   | lst h rs =>
    show Ans mg E (Rp K mg) F H ((bools es).bind λbs=>.ok (.bl (bs.any id))) _;cases q:bools es with
    | ok bs =>
     have e:=Zgx rs q;subst e;exact Ans.ret s (.bl _) λQ z=>⟨_,bs,rfl,s.seq h,z⟩
    | ex c=>exact absurd q (ZgL es)
    | bad=>trivial
  | _=>trivial
 ·trivial
def Zq3:bootBuiltins "any"=some (.builtin "any"):=by decide +kernel
end
end L2.Ds
namespace L2
abbrev Z3(h:Heap)(z TI TO:Addr)(f0 f1:Value):Prop:=h.get? z=some { cls:=.type "zip", dict:=none,data:=.fields #[f0,f1,.bool false,.ref TI,.ref TO],slots:=#[] }
abbrev Tr(h:Heap)(T:Addr)(a b c:Value):Prop:=h.get? T=some { cls:=.type "tuple", data:=.seq #[a,b,c] }
def Mk3(f0:Value):Prop:=f0=.none\/∃T,f0=rawInt T
structure Ap3(z TI TO i1 i2 i3 l1 l2 l3:Addr):Prop where
 o1:@LT.lt Nat _ i1 i2
 o2:@LT.lt Nat _ i2 i3
 o3:@LT.lt Nat _ i3 TI
 o4:@LT.lt Nat _ TI TO
 o5:@LT.lt Nat _ TO z
 a1:@LT.lt Nat _ l1 i1
 a2:@LT.lt Nat _ l2 i1
 a3:@LT.lt Nat _ l3 i1
def ycK{a b:Nat}(h:a<b\/b<a):a≠b:=by omega
local macro_rules | `(tactic| walk_at "nl")=>`(tactic| first | exact VaD (by assumption) | exact Vaf (by assumption))
section
variable{prog:Program}   {E:Value->Shared->Prop}
def Zhn{x:Value}(kT:Tr s.heap T a b c)(h:∀h',h'.get? T=some { cls:=.type "tuple", data:=.seq ((#[a,b,c]:Array Value).setIfInBounds k x) }->Heap.SameBut T s.heap h'->Q () { s with heap:=h' }) :
  wpAny (model prog w) A (updateSeq T (·.setIfInBounds k x)) Q E s:=by
 refine VbJ kT rfl (h _ ?_ (VbD ..));rw [Vbh _ kT rfl];simp [Obj.mapSeq]
def ZmO(h:Q (s.heap.get? a) s):wpAny (model prog w) A (loadIfAlive a) Q E s:=λΓ p _=>by
 show PySem.Sem.wp _ Γ (Sem.loadIfAlive a λx=>.pure x) _ _ p s;rw [PySem.Sem.wp_loadIfAlive];exact h
def Zjt{z TI TO:Addr}{f0 f1:Value}{Q:Bool->Shared->Prop}(kz:Z3 s.heap z TI TO f0 f1)(kf:Mk3 f0)(h1:Q true s)(h2:∀h' f,Z3 h' z TI TO f0 f->Heap.SameBut z s.heap h'->Q false { s with heap:=h' }) :
  wpAny (model prog w) A (Builtin.SmallTypes.ownedTupleIsFree (.ref z)) Q E s:=by
 unfold Builtin.SmallTypes.ownedTupleIsFree;refine Vaz (Vba kz rfl (x:=f0) rfl ?_);rcases kf with rfl | ⟨T,rfl⟩
 ·exact VaE h1
 ·refine Vaz (ZmO ?_);split
  ·exact VaE h1
  ·refine Vaz (Vba kz rfl (x:=f1) rfl ?_);split
   ·refine Vaz (VbK kz (by simp) λg kg ks=>VaE (h2 g _ kg ks))
   ·exact VaE (h2 s.heap f1 kz (Heap.SameBut.refl ..))
def Zpp{p q r:Bool}{z TI TO i1 i2 i3 l1 l2 l3:Addr}{us vs ws:Array Value}{x y u a b c f0 f1:Value}{Q:Value->Shared->Prop}(D:Ap3 z TI TO i1 i2 i3 l1 l2 l3)(kz:Z3 s.heap z TI TO f0 f1)(kf:Mk3 f0)(kTI:Tr s.heap TI (.ref i1) (.ref i2) (.ref i3))(kTO:Tr s.heap TO a b c)(m1:ItK p s.heap i1 l1 k)(m2:ItK q s.heap i2 l2 k)(m3:ItK r s.heap i3 l3 k)(n1:SqK p s.heap l1 us)(n2:SqK q s.heap l2 vs)(n3:SqK r s.heap l3 ws)(kx:us[k]?=some x)(ky:vs[k]?=some y)(ku:ws[k]?=some u) (kQ:∀h' f0' f1',Z3 h' z TI TO f0' f1'->Mk3 f0'->(∃a b c,Tr h' TO a b c)->ItK p h' i1 l1 (k+1)->ItK q h' i2 l2 (k+1)->ItK r h' i3 l3 (k+1)->Tr h' s.heap.objs.size x y u ->
   (∀c o,c≠z->c≠TO->c≠i1->c≠i2->c≠i3->s.heap.get? c=some o->h'.get? c=some o)->Q (.ref s.heap.objs.size) { s with heap:=h' }) :
  wpAny (model prog w) A (Builtin.«zip.__next__» ⟨[.ref z],[]⟩) (λfin s'=>∃v,fin=.done (.ret v)/\Q v s') E s:=by
 obtain ⟨o1,o2,o3,o4,o5,a1,a2,a3⟩:=D;have x1:=Vbs o1 o2;have x2:=Vbs o3 o4;have x3:=Vbs o2 x2;have x4:=Vbs o1 x3;have y1:=Vbs x2 o5;have y2:=Vbs x3 o5;have y3:=Vbs x4 o5;have b1:=Vbs a1 o1;have c1:=Vbs a1 x1;have d1:=Vbs a1 x4;have e1:=Vbs a1 y3;have b2:=Vbs a2 o1;have c2:=Vbs a2 x1;have d2:=Vbs a2 x4;have e2:=Vbs a2 y3;have b3:=Vbs a3 o1;have c3:=Vbs a3 x1;have d3:=Vbs a3 x4;have e3:=Vbs a3 y3;show wpAny _ _ (field (.ref z) 2 >>= _) _ _ _;refine Vaz (Vba kz rfl (x:=.bool false) rfl ?_);show wpAny _ _ (field (.ref z) 3 >>= _) _ _ _;refine Vaz (Vba kz rfl (x:=.ref TI) rfl ?_);refine Vaz (VbB kTI rfl ?_);show wpAny _ _ (Builtin.SmallTypes.ownedTupleIsFree (.ref z) >>= _) _ _ _;refine Vaz (Zjt kz kf ?_ λg₁ f kz₁ ks₁=>?_)
 ·simp only [Va9];refine Vaz (wpAny_rule ?_);refine Vaz (Vba kz rfl (x:=.ref TO) rfl ?_);refine Vaz (VbK kz (by simp) λg₁ kz₁ ks₁=>?_);replace kz₁:Z3 g₁ z TI TO .ellipsis f1:=kz₁;refine Vaz ?_;simp only [List.zipIdx_cons,List.zipIdx_nil,Vbo,Vbp];refine Vaz (Vaz (VbL ?_));show wpAny _ _ (Builtin.SmallTypes.nextOf (.ref i1) >>= _) _ _ _;refine Vaz (ZaS (m1.extBut ks₁.extBut (by walk_at "nl")) (n1.extBut ks₁.extBut (by walk_at "nl")) kx λg₂ m1₂ ks₂=>VaE ?_);have kT₂:Tr g₂ TO a b c:=ks₂.extBut _ _ (by walk_at "nl") (ks₁.extBut _ _ (by walk_at "nl") kTO);refine Vaz (VbB kT₂ rfl ?_);refine Vaz (Zhn kT₂ λg₃ kT₃ ks₃=>?_);replace kT₃:Tr g₃ TO x b c:=kT₃;refine Vaz (wpAny_letGo (VaE ?_));refine Vaz (Vaz (VbL ?_));show wpAny _ _ (Builtin.SmallTypes.nextOf (.ref i2) >>= _) _ _ _;refine Vaz (ZaS (((m2.extBut ks₁.extBut (by walk_at "nl")).extBut ks₂.extBut (by walk_at "nl")).extBut ks₃.extBut (by walk_at "nl")) (((n2.extBut ks₁.extBut (by walk_at "nl")).extBut ks₂.extBut (by walk_at "nl")).extBut ks₃.extBut (by walk_at "nl")) ky λg₄ m2₄ ks₄=>VaE ?_);have kT₄:Tr g₄ TO x b c:=ks₄.extBut _ _ (by walk_at "nl") kT₃;refine Vaz (VbB kT₄ rfl ?_);refine Vaz (Zhn kT₄ λg₅ kT₅ ks₅=>?_);replace kT₅:Tr g₅ TO x y c:=kT₅;refine Vaz (wpAny_letGo (VaE ?_));refine Vaz (Vaz (VbL ?_));show wpAny _ _ (Builtin.SmallTypes.nextOf (.ref i3) >>= _) _ _ _;refine Vaz (ZaS (((((m3.extBut ks₁.extBut (by walk_at "nl")).extBut ks₂.extBut (by walk_at "nl")).extBut ks₃.extBut (by walk_at "nl")).extBut ks₄.extBut (by walk_at "nl")).extBut ks₅.extBut (by walk_at "nl")) (((((n3.extBut ks₁.extBut (by walk_at "nl")).extBut ks₂.extBut (by walk_at "nl")).extBut ks₃.extBut (by walk_at "nl")).extBut ks₄.extBut (by walk_at "nl")).extBut ks₅.extBut (by walk_at "nl")) ku λg₆ m3₆ ks₆=>VaE ?_);have kT₆:Tr g₆ TO x y c:=ks₆.extBut _ _ (by walk_at "nl") kT₅;refine Vaz (VbB kT₆ rfl ?_);refine Vaz (Zhn kT₆ λg₇ kT₇ ks₇=>?_);replace kT₇:Tr g₇ TO x y u:=kT₇;refine Vaz (wpAny_letGo (VaE (VaE ?_)));refine Vaz (VbB kT₇ rfl ?_);refine Vaz (wpAny_newTuple ?_);have sz:g₇.objs.size=s.heap.objs.size:=by rw [ks₇.1,ks₆.1,ks₅.1,ks₄.1,ks₃.1,ks₂.1,ks₁.1]
  have kz₇:Z3 g₇ z TI TO .ellipsis f1:=ks₇.extBut _ _ (by walk_at "nl") (ks₆.extBut _ _ (by walk_at "nl") (ks₅.extBut _ _ (by walk_at "nl") (ks₄.extBut _ _ (by walk_at "nl") (ks₃.extBut _ _ (by walk_at "nl") (ks₂.extBut _ _ (by walk_at "nl") kz₁)))));have keep:∀c o,c≠z->c≠TO->c≠i1->c≠i2->c≠i3->s.heap.get? c=some o->g₇.get? c=some o:=λc o c1 c2 c3 c4 c5 e =>
   ks₇.extBut _ _ c2 (ks₆.extBut _ _ c5 (ks₅.extBut _ _ c2 (ks₄.extBut _ _ c4 (ks₃.extBut _ _ c2 (ks₂.extBut _ _ c3 (ks₁.extBut _ _ c1 e))))))
  have q1:ItK p g₇ i1 l1 (k+1):=((((m1₂.extBut ks₃.extBut (by walk_at "nl")).extBut ks₄.extBut (by walk_at "nl")).extBut ks₅.extBut (by walk_at "nl")).extBut ks₆.extBut (by walk_at "nl")).extBut ks₇.extBut (by walk_at "nl");have q2:ItK q g₇ i2 l2 (k+1):=((m2₄.extBut ks₅.extBut (by walk_at "nl")).extBut ks₆.extBut (by walk_at "nl")).extBut ks₇.extBut (by walk_at "nl");have q3:ItK r g₇ i3 l3 (k+1):=m3₆.extBut ks₇.extBut (by walk_at "nl");have zlt:z<g₇.objs.size:=Vac kz₇;show wpAny _ _ (Builtin.SmallTypes.ownedTupleHandOut (.ref z) (.ref g₇.objs.size) >>= _) _ _ _;refine Vaz ?_;unfold Builtin.SmallTypes.ownedTupleHandOut;have kz₈:Z3 (g₇.push { cls:=.type "tuple", data:=.seq #[x,y,u] }) z TI TO .ellipsis f1:=VaF _ kz₇;refine Vaz (VbK kz₈ (by simp) λg₉ kz₉ ks₉=>?_);replace kz₉:Z3 g₉ z TI TO (rawInt g₇.objs.size) f1:=kz₉;refine VbK kz₉ (by simp) λgA kzA ksA=>?_;replace kzA:Z3 gA z TI TO (rawInt g₇.objs.size) (.bool false):=kzA;have up:∀c o,c≠z->g₇.get? c=some o->gA.get? c=some o:=λc o c1 e=>ksA.extBut _ _ c1 (ks₉.extBut _ _ c1 (VaF _ e));have kTA:Tr gA g₇.objs.size x y u:=ksA.extBut _ _ (VaD zlt) (ks₉.extBut _ _ (VaD zlt) (VaG _ rfl));rw [sz] at kTA;refine VaE ⟨_,rfl,?_⟩;show Q (.ref g₇.objs.size) _;rw [sz];exact kQ gA _ _ kzA (.inr ⟨_,rfl⟩) ⟨_,_,_,up _ _ (by walk_at "nl") kT₇⟩ (q1.at λo e=>up _ o (by walk_at "nl") e) (q2.at λo e=>up _ o (by walk_at "nl") e) (q3.at λo e=>up _ o (by walk_at "nl") e) kTA λc o c1 c2 c3 c4 c5 e=>up c o c1 (keep c o c1 c2 c3 c4 c5 e)
 ·simp only [Vby,Va8];rw [<-VbM];simp only [Vbo,Vbp];refine Vaz (Vaz (Vaz (VaA ?_)));show wpAny _ _ (Builtin.SmallTypes.nextOf (.ref i1) >>= _) _ _ _;refine Vaz (ZaS (m1.extBut ks₁.extBut (by walk_at "nl")) (n1.extBut ks₁.extBut (by walk_at "nl")) kx λg₂ m1₂ ks₂=>VaE (VaE ?_));refine Vaz (Vaz (VaA ?_));show wpAny _ _ (Builtin.SmallTypes.nextOf (.ref i2) >>= _) _ _ _;refine Vaz (ZaS ((m2.extBut ks₁.extBut (by walk_at "nl")).extBut ks₂.extBut (by walk_at "nl")) ((n2.extBut ks₁.extBut (by walk_at "nl")).extBut ks₂.extBut (by walk_at "nl")) ky λg₃ m2₃ ks₃=>VaE (VaE ?_));refine Vaz (Vaz (VaA ?_));show wpAny _ _ (Builtin.SmallTypes.nextOf (.ref i3) >>= _) _ _ _;refine Vaz (ZaS (((m3.extBut ks₁.extBut (by walk_at "nl")).extBut ks₂.extBut (by walk_at "nl")).extBut ks₃.extBut (by walk_at "nl")) (((n3.extBut ks₁.extBut (by walk_at "nl")).extBut ks₂.extBut (by walk_at "nl")).extBut ks₃.extBut (by walk_at "nl")) ku λg₄ m3₄ ks₄=>VaE (VaE (VaE ?_)));refine Vaz (wpAny_newTuple (hsz:=show (3:Nat)<=sizeLine by decide) (VaE ⟨_,rfl,?_⟩));have sz:g₄.objs.size=s.heap.objs.size:=by rw [ks₄.1,ks₃.1,ks₂.1,ks₁.1]
  have keep:∀c o,c≠z->c≠TO->c≠i1->c≠i2->c≠i3->s.heap.get? c=some o->g₄.get? c=some o:=λc o c1 _ c3 c4 c5 e=>ks₄.extBut _ _ c5 (ks₃.extBut _ _ c4 (ks₂.extBut _ _ c3 (ks₁.extBut _ _ c1 e)));have kz₄:Z3 g₄ z TI TO f0 f:=ks₄.extBut _ _ (by walk_at "nl") (ks₃.extBut _ _ (by walk_at "nl") (ks₂.extBut _ _ (by walk_at "nl") kz₁));have kT₄:Tr g₄ TO a b c:=ks₄.extBut _ _ (by walk_at "nl") (ks₃.extBut _ _ (by walk_at "nl") (ks₂.extBut _ _ (by walk_at "nl") (ks₁.extBut _ _ (by walk_at "nl") kTO)));have q1:ItK p g₄ i1 l1 (k+1):=(m1₂.extBut ks₃.extBut (by walk_at "nl")).extBut ks₄.extBut (by walk_at "nl");have q2:ItK q g₄ i2 l2 (k+1):=m2₃.extBut ks₄.extBut (by walk_at "nl");have up:∀c o,g₄.get? c=some o->(g₄.push { cls:=.type "tuple", data:=.seq #[x,y,u] }).get? c=some o:=λc o e=>VaF _ e;have kTA:Tr (g₄.push { cls:=.type "tuple", data:=.seq #[x,y,u] }) g₄.objs.size x y u:=VaG _ rfl;rw [sz] at kTA;show Q (.ref g₄.objs.size) _;rw [sz];exact kQ _ _ _ (up _ _ kz₄) kf ⟨_,_,_,up _ _ kT₄⟩ (q1.at λo e=>up _ o e) (q2.at λo e=>up _ o e) (m3₄.at λo e=>up _ o e) kTA λc o c1 c2 c3 c4 c5 e=>up c o (keep c o c1 c2 c3 c4 c5 e)
def ZnW{p q r:Bool}{z TI TO i1 i2 i3 l1 l2 l3:Addr}{us vs ws:Array Value}{a b c f0 f1:Value}{Q:Fin->Shared->Prop}(kh:A.handled=none)(D:Ap3 z TI TO i1 i2 i3 l1 l2 l3)(kz:Z3 s.heap z TI TO f0 f1)(kf:Mk3 f0)(kTI:Tr s.heap TI (.ref i1) (.ref i2) (.ref i3))(kTO:Tr s.heap TO a b c)(m1:ItK p s.heap i1 l1 k)(m2:ItK q s.heap i2 l2 k)(m3:ItK r s.heap i3 l3 k)(n1:SqK p s.heap l1 us)(n2:SqK q s.heap l2 vs)(n3:SqK r s.heap l3 ws)(kend:us[k]?=none\/vs[k]?=none\/ws[k]?=none)(kE:∀h' e,(∀c o,c≠z->c≠TO->c≠i1->c≠i2->c≠i3->s.heap.get? c=some o->h'.get? c=some o)->(∃o,h'.get? e=some o/\o.cls=.type "StopIteration")->E (.ref e) { s with heap:=h' }) :
  wpAny (model prog w) A (Builtin.«zip.__next__» ⟨[.ref z],[]⟩) Q E s:=by
 obtain ⟨o1,o2,o3,o4,o5,a1,a2,a3⟩:=D;have x1:=Vbs o1 o2;have x2:=Vbs o3 o4;have x3:=Vbs o2 x2;have x4:=Vbs o1 x3;have y1:=Vbs x2 o5;have y2:=Vbs x3 o5;have y3:=Vbs x4 o5;have b1:=Vbs a1 o1;have c1:=Vbs a1 x1;have d1:=Vbs a1 x4;have e1:=Vbs a1 y3;have b2:=Vbs a2 o1;have c2:=Vbs a2 x1;have d2:=Vbs a2 x4;have e2:=Vbs a2 y3;have b3:=Vbs a3 o1;have c3:=Vbs a3 x1;have d3:=Vbs a3 x4;have e3:=Vbs a3 y3;show wpAny _ _ (field (.ref z) 2 >>= _) _ _ _;refine Vaz (Vba kz rfl (x:=.bool false) rfl ?_);show wpAny _ _ (field (.ref z) 3 >>= _) _ _ _;refine Vaz (Vba kz rfl (x:=.ref TI) rfl ?_);refine Vaz (VbB kTI rfl ?_);show wpAny _ _ (Builtin.SmallTypes.ownedTupleIsFree (.ref z) >>= _) _ _ _;refine Vaz (Zjt kz kf ?_ λg₁ f kz₁ ks₁=>?_)
 ·simp only [Va9];refine Vaz (wpAny_rule ?_);refine Vaz (Vba kz rfl (x:=.ref TO) rfl ?_);refine Vaz (VbK kz (by simp) λg₁ kz₁ ks₁=>?_);replace kz₁:Z3 g₁ z TI TO .ellipsis f1:=kz₁;refine Vaz ?_;simp only [List.zipIdx_cons,List.zipIdx_nil,Vbo,Vbp];refine Vaz (Vaz (VbL ?_));show wpAny _ _ (Builtin.SmallTypes.nextOf (.ref i1) >>= _) _ _ _;cases kx:us[k]? with
  | none =>
   refine Vaz (Zct kh (m1.extBut ks₁.extBut (by walk_at "nl")) (n1.extBut ks₁.extBut (by walk_at "nl")) kx λg₂ e ks₂ ke=>?_);obtain ⟨ox,koe,kce⟩:=ke;have kz₂:Z3 g₂ z TI TO .ellipsis f1:=ks₂ _ _ (by walk_at "nl") kz₁;have kez:e≠z:=λx=>by subst x;rw [kz₂] at koe;cases koe;simp at kce
   exact VbK kz₂ (by simp) λg₃ _ ks₃=>kE g₃ e (λc o c1 _ c3 _ _ x=>ks₃.extBut _ _ c1 (ks₂ _ _ c3 (ks₁.extBut _ _ c1 x))) ⟨ox,ks₃.extBut _ _ kez koe,kce⟩
  | some x =>
   refine Vaz (ZaS (m1.extBut ks₁.extBut (by walk_at "nl")) (n1.extBut ks₁.extBut (by walk_at "nl")) kx λg₂ m1₂ ks₂=>VaE ?_);have kT₂:Tr g₂ TO a b c:=ks₂.extBut _ _ (by walk_at "nl") (ks₁.extBut _ _ (by walk_at "nl") kTO);refine Vaz (VbB kT₂ rfl ?_);refine Vaz (Zhn kT₂ λg₃ kT₃ ks₃=>?_);replace kT₃:Tr g₃ TO x b c:=kT₃;refine Vaz (wpAny_letGo (VaE ?_));refine Vaz (Vaz (VbL ?_));show wpAny _ _ (Builtin.SmallTypes.nextOf (.ref i2) >>= _) _ _ _;have m2':=((m2.extBut ks₁.extBut (by walk_at "nl")).extBut ks₂.extBut (by walk_at "nl")).extBut ks₃.extBut (by walk_at "nl");have n2':=((n2.extBut ks₁.extBut (by walk_at "nl")).extBut ks₂.extBut (by walk_at "nl")).extBut ks₃.extBut (by walk_at "nl");have kz₃:Z3 g₃ z TI TO .ellipsis f1:=ks₃.extBut _ _ (by walk_at "nl") (ks₂.extBut _ _ (by walk_at "nl") kz₁);have keep₃:∀c o,c≠z->c≠TO->c≠i1->c≠i2->c≠i3->s.heap.get? c=some o->g₃.get? c=some o:=λc o c1 c2 c3 _ _ x=>ks₃.extBut _ _ c2 (ks₂.extBut _ _ c3 (ks₁.extBut _ _ c1 x));cases ky:vs[k]? with
   | none =>
    refine Vaz (Zct kh m2' n2' ky λg₄ e ks₄ ke=>?_);obtain ⟨ox,koe,kce⟩:=ke;have kz₄:Z3 g₄ z TI TO .ellipsis f1:=ks₄ _ _ (by walk_at "nl") kz₃;have kez:e≠z:=λx=>by subst x;rw [kz₄] at koe;cases koe;simp at kce
    exact VbK kz₄ (by simp) λg₅ _ ks₅=>kE g₅ e (λc o c1 c2 c3 c4 c5 x=>ks₅.extBut _ _ c1 (ks₄ _ _ c4 (keep₃ c o c1 c2 c3 c4 c5 x))) ⟨ox,ks₅.extBut _ _ kez koe,kce⟩
   | some y =>
    have ku:ws[k]?=none:=by
     rcases kend with h | h | h
     ·rw [kx] at h;cases h
     ·rw [ky] at h;cases h
     ·exact h
    refine Vaz (ZaS m2' n2' ky λg₄ m2₄ ks₄=>VaE ?_);have kT₄:Tr g₄ TO x b c:=ks₄.extBut _ _ (by walk_at "nl") kT₃;refine Vaz (VbB kT₄ rfl ?_);refine Vaz (Zhn kT₄ λg₅ kT₅ ks₅=>?_);refine Vaz (wpAny_letGo (VaE ?_));refine Vaz (Vaz (VbL ?_));show wpAny _ _ (Builtin.SmallTypes.nextOf (.ref i3) >>= _) _ _ _;refine Vaz (Zct kh (((((m3.extBut ks₁.extBut (by walk_at "nl")).extBut ks₂.extBut (by walk_at "nl")).extBut ks₃.extBut (by walk_at "nl")).extBut ks₄.extBut (by walk_at "nl")).extBut ks₅.extBut (by walk_at "nl")) (((((n3.extBut ks₁.extBut (by walk_at "nl")).extBut ks₂.extBut (by walk_at "nl")).extBut ks₃.extBut (by walk_at "nl")).extBut ks₄.extBut (by walk_at "nl")).extBut ks₅.extBut (by walk_at "nl")) ku λg₆ e ks₆ ke=>?_);obtain ⟨ox,koe,kce⟩:=ke;have kz₆:Z3 g₆ z TI TO .ellipsis f1:=ks₆ _ _ (by walk_at "nl") (ks₅.extBut _ _ (by walk_at "nl") (ks₄.extBut _ _ (by walk_at "nl") kz₃));have kez:e≠z:=λx=>by subst x;rw [kz₆] at koe;cases koe;simp at kce
    exact VbK kz₆ (by simp) λg₇ _ ks₇=>kE g₇ e (λc o c1 c2 c3 c4 c5 x=>ks₇.extBut _ _ c1 (ks₆ _ _ c5 (ks₅.extBut _ _ c2 (ks₄.extBut _ _ c4 (keep₃ c o c1 c2 c3 c4 c5 x))))) ⟨ox,ks₇.extBut _ _ kez koe,kce⟩
 ·simp only [Vby,Va8];rw [<-VbM];simp only [Vbo,Vbp];refine Vaz (Vaz (Vaz (VaA ?_)));show wpAny _ _ (Builtin.SmallTypes.nextOf (.ref i1) >>= _) _ _ _;cases kx:us[k]? with
  | none =>
   refine Vaz (Zct kh (m1.extBut ks₁.extBut (by walk_at "nl")) (n1.extBut ks₁.extBut (by walk_at "nl")) kx λg₂ e ks₂ ke=>?_);exact kE g₂ e (λc o c1 _ c3 _ _ x=>ks₂ _ _ c3 (ks₁.extBut _ _ c1 x)) ke
  | some x =>
   refine Vaz (ZaS (m1.extBut ks₁.extBut (by walk_at "nl")) (n1.extBut ks₁.extBut (by walk_at "nl")) kx λg₂ m1₂ ks₂=>VaE (VaE ?_));refine Vaz (Vaz (VaA ?_));show wpAny _ _ (Builtin.SmallTypes.nextOf (.ref i2) >>= _) _ _ _;have m2':=(m2.extBut ks₁.extBut (by walk_at "nl")).extBut ks₂.extBut (by walk_at "nl");have n2':=(n2.extBut ks₁.extBut (by walk_at "nl")).extBut ks₂.extBut (by walk_at "nl");cases ky:vs[k]? with
   | none =>
    refine Vaz (Zct kh m2' n2' ky λg₃ e ks₃ ke=>?_);exact kE g₃ e (λc o c1 _ c3 c4 _ x=>ks₃ _ _ c4 (ks₂.extBut _ _ c3 (ks₁.extBut _ _ c1 x))) ke
   | some y =>
    have ku:ws[k]?=none:=by
     rcases kend with h | h | h
     ·rw [kx] at h;cases h
     ·rw [ky] at h;cases h
     ·exact h
    refine Vaz (ZaS m2' n2' ky λg₃ m2₃ ks₃=>VaE (VaE ?_));refine Vaz (Vaz (VaA ?_));show wpAny _ _ (Builtin.SmallTypes.nextOf (.ref i3) >>= _) _ _ _;refine Vaz (Zct kh (((m3.extBut ks₁.extBut (by walk_at "nl")).extBut ks₂.extBut (by walk_at "nl")).extBut ks₃.extBut (by walk_at "nl")) (((n3.extBut ks₁.extBut (by walk_at "nl")).extBut ks₂.extBut (by walk_at "nl")).extBut ks₃.extBut (by walk_at "nl")) ku λg₄ e ks₄ ke=>?_);exact kE g₄ e (λc o c1 _ c3 c4 c5 x=>ks₄ _ _ c5 (ks₃.extBut _ _ c4 (ks₂.extBut _ _ c3 (ks₁.extBut _ _ c1 x)))) ke
def Zpn{p q r:Bool}{z TI TO i1 i2 i3 l1 l2 l3:Addr}{us vs ws:Array Value}{x y u a b c f0 f1:Value}{Q:Option Value->Shared->Prop}(D:Ap3 z TI TO i1 i2 i3 l1 l2 l3)(kz:Z3 s.heap z TI TO f0 f1)(kf:Mk3 f0)(kTI:Tr s.heap TI (.ref i1) (.ref i2) (.ref i3))(kTO:Tr s.heap TO a b c)(m1:ItK p s.heap i1 l1 k)(m2:ItK q s.heap i2 l2 k)(m3:ItK r s.heap i3 l3 k)(n1:SqK p s.heap l1 us)(n2:SqK q s.heap l2 vs)(n3:SqK r s.heap l3 ws)(kx:us[k]?=some x)(ky:vs[k]?=some y)(ku:ws[k]?=some u) (kQ:∀h' f0' f1',Z3 h' z TI TO f0' f1'->Mk3 f0'->(∃a b c,Tr h' TO a b c)->ItK p h' i1 l1 (k+1)->ItK q h' i2 l2 (k+1)->ItK r h' i3 l3 (k+1)->Tr h' s.heap.objs.size x y u ->
   (∀c o,c≠z->c≠TO->c≠i1->c≠i2->c≠i3->s.heap.get? c=some o->h'.get? c=some o)->Q (some (.ref s.heap.objs.size)) { s with heap:=h' }) :
  wpAny (model prog w) A (pyNext (.ref z)) Q E s:=by
 have kT:s.TypeIs (.ref z) "zip" := ⟨_,kz,rfl⟩;unfold pyNext
 exact Vaz (wpAny_attempt (Vbb (name:=Str.ofString "__next__") kT F.slot_zip_next
  (Vbd F.slot_zip_next kT F.entry_zip_next
   (Zpp D kz kf kTI kTO m1 m2 m3 n1 n2 n3 kx ky ku λh' f0' f1' b1 b2 b3 b4 b5 b6 b7 b8=>VaE (kQ h' f0' f1' b1 b2 b3 b4 b5 b6 b7 b8)) (F.args_zip_next_1 _))))
def Zrv{p q r:Bool}{z TI TO i1 i2 i3 l1 l2 l3:Addr}{us vs ws:Array Value}{a b c f0 f1:Value}{Q:Option Value->Shared->Prop}(kh:A.handled=none)(D:Ap3 z TI TO i1 i2 i3 l1 l2 l3)(kz:Z3 s.heap z TI TO f0 f1)(kf:Mk3 f0)(kTI:Tr s.heap TI (.ref i1) (.ref i2) (.ref i3))(kTO:Tr s.heap TO a b c)(m1:ItK p s.heap i1 l1 k)(m2:ItK q s.heap i2 l2 k)(m3:ItK r s.heap i3 l3 k)(n1:SqK p s.heap l1 us)(n2:SqK q s.heap l2 vs)(n3:SqK r s.heap l3 ws)(kend:us[k]?=none\/vs[k]?=none\/ws[k]?=none)(kQ:∀h',(∀c o,c≠z->c≠TO->c≠i1->c≠i2->c≠i3->s.heap.get? c=some o->h'.get? c=some o)->Q none { s with heap:=h' }):wpAny (model prog w) A (pyNext (.ref z)) Q E s:=by
 have kT:s.TypeIs (.ref z) "zip" := ⟨_,kz,rfl⟩;unfold pyNext
 refine Vaz (wpAny_attempt (Vbb (name:=Str.ofString "__next__") kT F.slot_zip_next
  (Vbd F.slot_zip_next kT F.entry_zip_next (ZnW kh D kz kf kTI kTO m1 m2 m3 n1 n2 n3 kend λh' e kk ke=>?_) (F.args_zip_next_1 _))))
 obtain ⟨o,ho,hc⟩:=ke;refine Vaz (wpAny_isInstance (T := "StopIteration") (b:=true) ⟨o,ho,hc⟩ isSubtype_stop ?_);exact VaE (kQ _ kk)
def ZpN{z TI TO:Addr}{f0 f1:Value}{Q:Value->Shared->Prop}(kz:Z3 s.heap z TI TO f0 f1)(h:Q (.ref z) s):wpAny (model prog w) A (pyIter (.ref z)) Q E s:=by
 have kT:s.TypeIs (.ref z) "zip" := ⟨_,kz,rfl⟩;refine wpAny_pyIter_slot kT F.slot_zip_iter (Vbd F.slot_zip_iter kT F.entry_zip_iter ?_ (F.args_zip_iter_1 _));show wpAny _ _ (ret (.ref z)) _ _ s;exact VaE ⟨_,rfl, "zip", _,kT,F.slot_zip_next.lookup,h⟩
end
def ZoX(a b c):checkTypeCall "zip" ⟨[a,b,c],[]⟩=pure ():=by kernel_rfl
def ZoO(a b c):checkBuiltinCall "zip.__new__" ⟨[.type "zip", a,b,c],[]⟩=pure ():=by kernel_rfl
def oi_4(a b c d):argsOk "object.__init__" ⟨[a,b,c,d],[]⟩:=by
 have e:=signature?_of (id := "object.__init__") (o:=['t','c','e','j','b','o']) (n:=['_','_','t','i','n','i','_','_']) (by kernel_rfl) PySem.F.owner_object;unfold argsOk;rw [e]
 kernel_rfl
abbrev j1(p:Bool)(h:Heap)(l1:Addr):Heap:=h.push (Zhq p l1)
abbrev j2(p q:Bool)(h:Heap)(l1 l2:Addr):Heap:=(j1 p h l1).push (Zhq q l2)
abbrev j3(p q r:Bool)(h:Heap)(l1 l2 l3:Addr):Heap:=(j2 p q h l1 l2).push (Zhq r l3)
abbrev j4(p q r:Bool)(h:Heap)(l1 l2 l3:Addr):Heap:=(j3 p q r h l1 l2 l3).push { cls:=.type "tuple", data:=.seq #[.ref h.objs.size,.ref (j1 p h l1).objs.size,.ref (j2 p q h l1 l2).objs.size] }
abbrev j5(p q r:Bool)(h:Heap)(l1 l2 l3:Addr):Heap:=(j4 p q r h l1 l2 l3).push { cls:=.type "tuple", data:=.seq #[.none,.none,.none] }
abbrev j6(p q r:Bool)(h:Heap)(l1 l2 l3:Addr):Heap:=(j5 p q r h l1 l2 l3).push { cls:=.type "zip", data:=.fields #[.none,.bool false,.bool false,.ref (j3 p q r h l1 l2 l3).objs.size,.ref (j4 p q r h l1 l2 l3).objs.size] }
def Zmh(p q r)(l1 l2 l3)(us vs ws) :
  Meets (Builtin.«zip.__new__» ⟨[.type "zip", .ref l1,.ref l2,.ref l3],[]⟩) (λ_ R s=>SqK p s.heap l1 us/\SqK q s.heap l2 vs/\SqK r s.heap l3 ws /\
   R (.ok (.ret (.ref (j5 p q r s.heap l1 l2 l3).objs.size))) { s with heap:=j6 p q r s.heap l1 l2 l3 }) :=
 .of_wp λprog w A R s h=>by
  obtain ⟨hp,g,d,tk,os⟩:=s;obtain ⟨n1,n2,n3,h⟩:=h;have ksub:=sub_zip;have k1:SqK p (Shared.heap ⟨hp,g,d,tk,os⟩) l1 us:=n1;have k2:SqK q (Shared.heap ⟨hp.push (Zhq p l1),g,d,tk,os⟩) l2 vs:=SqK.push n2 _;have k3:SqK r (Shared.heap ⟨(hp.push (Zhq p l1)).push (Zhq q l2),g,d,tk,os⟩) l3 ws:=SqK.push (SqK.push n3 _) _
  wp_walk using Zox k1,Zox k2,Zox k3
  exact ⟨_,rfl,h⟩
section
variable{prog:Program}   {E:Value->Shared->Prop}
def ZoQ{us:Array Value}(n1:SqK p s.heap l1 us)(n2:SqK q s.heap l2 vs)(n3:SqK r s.heap l3 ws) (h:∀h',Z3 h' (s.heap.objs.size+5) (s.heap.objs.size+3) (s.heap.objs.size+4) .none (.bool false)->Tr h' (s.heap.objs.size+3) (.ref s.heap.objs.size) (.ref (s.heap.objs.size+1)) (.ref (s.heap.objs.size+2)) ->
   Tr h' (s.heap.objs.size+4) .none .none .none->ItK p h' s.heap.objs.size l1 0->ItK q h' (s.heap.objs.size+1) l2 0->ItK r h' (s.heap.objs.size+2) l3 0->h'.objs.size=s.heap.objs.size+6 ->
   (∀c o,s.heap.get? c=some o->h'.get? c=some o)->Q (.ref (s.heap.objs.size+5)) { s with heap:=h' }) :
  wpAny (model prog w) A (call (.type "zip") [.ref l1,.ref l2,.ref l3]) Q E s:=by
 refine callType_new F.called_zip (by decide) (ZoX _ _ _) (ZoO _ _ _) (λobj=>oi_4 obj _ _ _) F.entry_zip_new (Zmh p q r l1 l2 l3 us vs ws) ⟨n1,n2,n3,?_⟩;have z1:(j1 p s.heap l1).objs.size=s.heap.objs.size+1:=VaP ..;have z2:(j2 p q s.heap l1 l2).objs.size=s.heap.objs.size+2:=by rw [VaP,z1]
 have z3:(j3 p q r s.heap l1 l2 l3).objs.size=s.heap.objs.size+3:=by rw [VaP,z2]
 have z4:(j4 p q r s.heap l1 l2 l3).objs.size=s.heap.objs.size+4:=by rw [VaP,z3]
 have z5:(j5 p q r s.heap l1 l2 l3).objs.size=s.heap.objs.size+5:=by rw [VaP,z4]
 have z6:(j6 p q r s.heap l1 l2 l3).objs.size=s.heap.objs.size+6:=by rw [VaP,z5]
 have up1:∀{c:Addr} {o:Obj},(j5 p q r s.heap l1 l2 l3).get? c=some o->(j6 p q r s.heap l1 l2 l3).get? c=some o:=λe=>VaF _ e;have up2:∀{c:Addr} {o:Obj},(j4 p q r s.heap l1 l2 l3).get? c=some o->(j6 p q r s.heap l1 l2 l3).get? c=some o:=λe=>up1 (VaF _ e);have up3:∀{c:Addr} {o:Obj},(j3 p q r s.heap l1 l2 l3).get? c=some o->(j6 p q r s.heap l1 l2 l3).get? c=some o:=λe=>up2 (VaF _ e);have up4:∀{c:Addr} {o:Obj},(j2 p q s.heap l1 l2).get? c=some o->(j6 p q r s.heap l1 l2 l3).get? c=some o:=λe=>up3 (VaF _ e);have up5:∀{c:Addr} {o:Obj},(j1 p s.heap l1).get? c=some o->(j6 p q r s.heap l1 l2 l3).get? c=some o:=λe=>up4 (VaF _ e);have g6:(j6 p q r s.heap l1 l2 l3).get? (j5 p q r s.heap l1 l2 l3).objs.size=some _:=VaG _ rfl;have g5:(j6 p q r s.heap l1 l2 l3).get? (j4 p q r s.heap l1 l2 l3).objs.size=some _:=up1 (VaG _ rfl);have g4:(j6 p q r s.heap l1 l2 l3).get? (j3 p q r s.heap l1 l2 l3).objs.size=some _:=up2 (VaG _ rfl);have g3:(j6 p q r s.heap l1 l2 l3).get? (j2 p q s.heap l1 l2).objs.size=some _:=up3 (VaG _ rfl);have g2:(j6 p q r s.heap l1 l2 l3).get? (j1 p s.heap l1).objs.size=some _:=up4 (VaG _ rfl);have g1:(j6 p q r s.heap l1 l2 l3).get? s.heap.objs.size=some _:=up5 (VaG _ rfl);show _/\_;rw [z3,z4,z5] at g6;rw [z1,z2,z3] at g4;rw [z4] at g5;rw [z2] at g3;rw [z1] at g2;rw [z5];exact ⟨⟨_,g6,rfl⟩,h _ g6 g4 g5 (ItK.new g1) (ItK.new g2) (ItK.new g3) z6 λc o x=>up5 (VaF _ x)⟩
end
def At3(p q r:Bool)(z TI TO i1 i2 i3 a b c:Addr)(i:Nat)(h:Heap):Prop :=
 ∃f0 f1 u v w,Z3 h z TI TO f0 f1/\Mk3 f0/\Tr h TI (.ref i1) (.ref i2) (.ref i3)/\Tr h TO u v w/\ItK p h i1 a i/\ItK q h i2 b i/\ItK r h i3 c i
def At3.obj{p q r:Bool}{z TI TO i1 i2 i3 a b c:Addr}{h:Heap}(st:At3 p q r z TI TO i1 i2 i3 a b c i h){x:Addr}(hx:x∈[z,TI,TO,i1,i2,i3]):∃o,h.get? x=some o/\∀v,o.data≠.cell v:=by
 obtain ⟨f0,f1,u,v,w,kz,kf,kTI,kTO,m1,m2,m3⟩:=st;obtain ⟨o1,_,e1,d1⟩:=m1.flds;obtain ⟨o2,_,e2,d2⟩:=m2.flds;obtain ⟨o3,_,e3,d3⟩:=m3.flds;simp only [Vaq,VbN,or_false] at hx;rcases hx with rfl | rfl | rfl | rfl | rfl | rfl
 ·exact ⟨_,kz,λv z=>by cases z⟩
 ·exact ⟨_,kTI,λv z=>by cases z⟩
 ·exact ⟨_,kTO,λv z=>by cases z⟩
 ·exact ⟨_,e1,λv z=>by rw [d1] at z;cases z⟩
 ·exact ⟨_,e2,λv z=>by rw [d2] at z;cases z⟩
 ·exact ⟨_,e3,λv z=>by rw [d3] at z;cases z⟩
def At3.keep{p q r:Bool}{z TI TO i1 i2 i3 a b c:Addr}{h h':Heap}(st:At3 p q r z TI TO i1 i2 i3 a b c i h)(k:∀x∈[z,TI,TO,i1,i2,i3],∀o,h.get? x=some o->h'.get? x=some o):At3 p q r z TI TO i1 i2 i3 a b c i h':=by
 obtain ⟨f0,f1,u,v,w,kz,kf,kTI,kTO,m1,m2,m3⟩:=st;exact ⟨f0,f1,u,v,w,k z (by simp) _ kz,kf,k TI (by simp) _ kTI,k TO (by simp) _ kTO,m1.at λo e=>k i1 (by simp) o e,m2.at λo e=>k i2 (by simp) o e,m3.at λo e=>k i3 (by simp) o e⟩
section
variable  {B:Around}     {p q r:Bool} {z TI TO i1 i2 i3 a b c:Addr}
def ZqP{E:Value->Shared->Prop}{x:V}(D:Ap3 z TI TO i1 i2 i3 a b c)(I:Inv X pins σ H s)(hf:∀d∈[z,TI,TO,i1,i2,i3],FpOk X pins H d)(st:At3 p q r z TI TO i1 i2 i3 a b c i s.heap)(hqa:SqB X.K p H a xs)(hqb:SqB X.K q H b ys)(hqc:SqB X.K r H c zs)(hx:xs[i]?=some x)(hy:ys[i]?=some y)(hu:zs[i]?=some u)(kQ:∀h' T,T=s.heap.objs.size->H T=none->Inv X pins σ (upd H T (.tup [x,y,u])) { s with heap:=h' }->At3 p q r z TI TO i1 i2 i3 a b c (i+1) h'->(∀d o,d∉[z,TI,TO,i1,i2,i3]->s.heap.get? d=some o->h'.get? d=some o)->Q (some (.ref T)) { s with heap:=h' }) :
  wpAny (model X.prog X.w) B (pyNext (.ref z)) Q E s:=by
 obtain ⟨f0,f1,u0,v0,w0,kz,kf,kTI,kTO,m1,m2,m3⟩:=st;obtain ⟨its,rv,pa,za⟩:=I.seqB hqa;obtain ⟨its2,rv2,pb,zb⟩:=I.seqB hqb;obtain ⟨its3,rv3,pc,zc⟩:=I.seqB hqc;obtain ⟨u1,e1,r1⟩:=rv.get hx;obtain ⟨u2,e2,r2⟩:=rv2.get hy;obtain ⟨u3,e3,r3⟩:=rv3.get hu;refine Zpn D kz kf kTI kTO m1 m2 m3 pa pb pc (x:=u1) (y:=u2) (u:=u3) (by simpa using e1) (by simpa using e2) (by simpa using e3) λh' f0' f1' b1 b2 b3 b4 b5 b6 b7 b8=>?_;have hT:H s.heap.objs.size=none:=I.hok.fresh (VaH _);have kp:∀d o,d∉[z,TI,TO,i1,i2,i3]->s.heap.get? d=some o->h'.get? d=some o:=λd o hd e=>b8 d o (λq=>hd (by simp [q])) (λq=>hd (by simp [q])) (λq=>hd (by simp [q])) (λq=>hd (by simp [q])) (λq=>hd (by simp [q])) e;have kTI':Tr h' TI (.ref i1) (.ref i2) (.ref i3):=by
  obtain ⟨o1,o2,o3,o4,o5,a1,a2,a3⟩:=D;exact b8 TI _ (ycK (by omega)) (ycK (by omega)) (ycK (by omega)) (ycK (by omega)) (ycK (by omega)) kTI
 obtain ⟨u0',v0',w0',b3⟩:=b3;refine kQ h' _ rfl hT ?_ ⟨f0',f1',u0',v0',w0',b1,b2,kTI',b3,b4,b5,b6⟩ kp;refine I.turnNew (fp:=[z,TI,TO,i1,i2,i3]) (t':=s.toks) (λd ob hb e=>kp d ob hb e) hf (VaH _) ?_;have lt3:(3:Nat)<=sizeLine:=by decide
 exact ⟨lt3,[u1,u2,u3],.cons r1 (.cons r2 (.cons r3 .nil)),⟨_,b7,rfl,_,rfl⟩⟩
def Zsf{E:Value->Shared->Prop}(hc:B.handled=none)(D:Ap3 z TI TO i1 i2 i3 a b c)(I:Inv X pins σ H s)(hf:∀d∈[z,TI,TO,i1,i2,i3],FpOk X pins H d)(st:At3 p q r z TI TO i1 i2 i3 a b c i s.heap)(hqa:SqB X.K p H a xs)(hqb:SqB X.K q H b ys)(hqc:SqB X.K r H c zs)(hx:xs.length<=i\/ys.length<=i\/zs.length<=i)(kQ:∀h',Inv X pins σ H { s with heap:=h' }->(∀d o,d∉[z,TI,TO,i1,i2,i3]->s.heap.get? d=some o->h'.get? d=some o)->Q none { s with heap:=h' }) :
  wpAny (model X.prog X.w) B (pyNext (.ref z)) Q E s:=by
 obtain ⟨f0,f1,u0,v0,w0,kz,kf,kTI,kTO,m1,m2,m3⟩:=st;obtain ⟨its,rv,pa,za⟩:=I.seqB hqa;obtain ⟨its2,rv2,pb,zb⟩:=I.seqB hqb;obtain ⟨its3,rv3,pc,zc⟩:=I.seqB hqc;have hl:=rv.length;have hl2:=rv2.length;have hl3:=rv3.length;refine Zrv hc D kz kf kTI kTO m1 m2 m3 pa pb pc (hx.imp (λq=>by simp;omega) (λq=>q.imp (λq=>by simp;omega) (λq=>by simp;omega))) λh' hk=>?_;have kp:∀d o,d∉[z,TI,TO,i1,i2,i3]->s.heap.get? d=some o->h'.get? d=some o:=λd o hd e=>hk d o (λq=>hd (by simp [q])) (λq=>hd (by simp [q])) (λq=>hd (by simp [q])) (λq=>hd (by simp [q])) (λq=>hd (by simp [q])) e;exact kQ h' (I.turnedL (fp:=[z,TI,TO,i1,i2,i3]) (t':=s.toks) kp hf) kp
end
def Zn0{n:Addr}(h1:@LT.lt Nat _ a n)(h2:@LT.lt Nat _ b n)(h3:@LT.lt Nat _ c n):Ap3 (n+5) (n+3) (n+4) n (n+1) (n+2) a b c:=⟨VaQ _,VaQ _,VaQ _,VaQ _,VaQ _,h1,h2,h3⟩
def ZkT{E:Value->Shared->Prop}(I:Inv X pins σ H s)(hqa:SqB X.K p H a xs)(hqb:SqB X.K q H b ys)(hqc:SqB X.K r H c zs)(k:∀h' z TI TO i1 i2 i3,Ap3 z TI TO i1 i2 i3 a b c->Inv X pins σ H { s with heap:=h' }->At3 p q r z TI TO i1 i2 i3 a b c 0 h'->(∀d∈[z,TI,TO,i1,i2,i3],FpOk X pins H d)->(∀d∈[z,TI,TO,i1,i2,i3],@LT.lt Nat _ d h'.objs.size)->Q (.ref z) { s with heap:=h' }):wpAny (model X.prog X.w) X.A (call (.type "zip") [.ref a,.ref b,.ref c]) Q E s:=by
 obtain ⟨its,rv,pa,hz⟩:=I.seqB hqa;obtain ⟨its2,rv2,pb,hz2⟩:=I.seqB hqb;obtain ⟨its3,rv3,pc,hz3⟩:=I.seqB hqc;have a1:a<s.heap.objs.size:=by obtain ⟨_,e⟩:=pa.here;exact Vac e
 have a2:b<s.heap.objs.size:=by obtain ⟨_,e⟩:=pb.here;exact Vac e
 have a3:c<s.heap.objs.size:=by obtain ⟨_,e⟩:=pc.here;exact Vac e
 refine ZoQ pa pb pc λh' gz gTI gTO g1 g2 g3 sz hk=>?_;have hI:Inv X pins σ H { s with heap:=h' }:=I.kept (t':=s.toks) hk
 refine k h' _ _ _ _ _ _ (Zn0 a1 a2 a3) hI ⟨_,_,_,_,_,gz,.inl rfl,gTI,gTO,g1,g2,g3⟩ (λd hd=>?_) (λd hd=>?_)
 ·have hb':s.heap.objs.size<=d:=by
   simp only [Vaq,VbN,or_false] at hd;rcases hd with rfl | rfl | rfl | rfl | rfl | rfl<;>omega
  exact I.fpOk hb' (I.hok.fresh hb')
 ·rw [sz];simp only [Vaq,VbN,or_false] at hd;rcases hd with rfl | rfl | rfl | rfl | rfl | rfl<;>omega
def ZaU:List V->List V->List V->List (V×V×V)
 | x::xs,y::ys,u::us=>(x,y,u)::ZaU xs ys us
 | _,_,_=>[]
def ZhG:∀{xs ys us:List V} {i:Nat} {x y u:V},(ZaU xs ys us)[i]?=some (x,y,u)->xs[i]?=some x/\ys[i]?=some y/\us[i]?=some u
 | [],_,_,_,_,_,_,h=>by simp [ZaU] at h
 | _::_,[],_,_,_,_,_,h=>by simp [ZaU] at h
 | _::_,_::_,[],_,_,_,_,h=>by simp [ZaU] at h
 | _::_,_::_,_::_,0,_,_,_,h=>by simp [ZaU] at h;obtain ⟨rfl,rfl,rfl⟩:=h;simp
 | _::xs,_::ys,_::us,i+1,_,_,_,h=>by
  have:=ZhG (xs:=xs) (ys:=ys) (us:=us) (i:=i) (by simpa [ZaU] using h);simpa using this
def Zhh:∀xs ys us,xs.length<=(ZaU xs ys us).length\/ys.length<=(ZaU xs ys us).length\/us.length<=(ZaU xs ys us).length
 | [],_,_=>.inl (by simp)
 | _::_,[],_=>.inr (.inl (by simp))
 | _::_,_::_,[]=>.inr (.inr (by simp))
 | _::xs,_::ys,_::us=>by
  have:=Zhh xs ys us;simp [ZaU];exact this
def Zi0:∀xs ys us,(ZaU xs ys us).length<=xs.length
 | [],_,_=>by simp [ZaU]
 | _::_,[],_=>by simp [ZaU]
 | _::_,_::_,[]=>by simp [ZaU]
 | _::xs,_::ys,_::us=>by
  have:=Zi0 xs ys us;simp [ZaU];exact this
inductive Lay3(H:Hp):List (V×V×V)->List Addr->Hp->Prop
 | nil:Lay3 H [] [] H
 | snoc {ts:List (V×V×V)} {as:List Addr} {H':Hp} {T:Addr} {x y u:V} (h:Lay3 H ts as H') (hT:H' T=none):Lay3 H (ts++[(x,y,u)]) (as++[T]) (upd H' T (.tup [x,y,u]))
def Lay3.same(h:Lay3 H ts as H'):Same H H':=by
 induction h with
 | nil=>exact λ_ _ e=>e
 | snoc h hT ih=>exact λb o e=>(by
   have e':=ih b o e;rw [Zad (λq=>by subst q;rw [hT] at e';cases e')]
   exact e')
def ZmK(h:S≠T):upd (upd H S o) T o'=upd (upd H T o') S o:=by
 funext b;by_cases h1:b=S
 ·subst h1;rw [Zad h,Zaf,Zaf]
 ·by_cases h2:b=T
  ·subst h2;rw [Zaf,Zad h1,Zaf]
  ·rw [Zad h2,Zad h1,Zad h1,Zad h2]
def Zef:upd (upd H S o) S o'=upd H S o':=by
 funext b;by_cases h1:b=S
 ·subst h1;rw [Zaf,Zaf]
 ·rw [Zad h1,Zad h1,Zad h1]
def ZcK(e:Same H H')(h:SqB K p H a xs):SqB K p H' a xs:=by
 cases p
 ·exact Same.seq e h
 ·rcases (show SqT K H a xs from h) with (h | ⟨o,h⟩) | h
  ·exact .inl (.inl (e _ _ h))
  ·exact .inl (.inr ⟨o,e _ _ h⟩)
  ·exact .inr h
def ZhT(h:H S=none):Same H (upd H S o):=λb u e=>by
 rw [Zad (λq=>by subst q;rw [h] at e;cases e)];exact e
section
variable     {p q r:Bool} {z TI TO i1 i2 i3 a b c S:Addr} {ys us:List V}
def ZoD{B:Around}{R:Result->Shared->Prop}(kh:B.in1.handled=none)(D:Ap3 z TI TO i1 i2 i3 a b c)(hqa:SqB X.K p H a xs)(hqb:SqB X.K q H b ys)(hqc:SqB X.K r H c us)(hS:S∉[z,TI,TO,i1,i2,i3])(kR:∀s' as H',Inv X pins σ (upd H' S (.lst (as.map V.ref))) s'->H' S=none->Lay3 H (ZaU xs ys us) as H'->R (.ok (.ret .none)) s') :
  ∀(k i:Nat) (s:Shared) (H':Hp) (as:List Addr),i+k=(ZaU xs ys us).length->Inv X pins σ (upd H' S (.lst (as.map V.ref))) s->H' S=none->Lay3 H ((ZaU xs ys us).take i) as H'->At3 p q r z TI TO i1 i2 i3 a b c i s.heap->as.length=i->(∀d∈[z,TI,TO,i1,i2,i3],FpOk X pins (upd H' S (.lst (as.map V.ref))) d) ->
   codeAny (model X.prog X.w) B (.builtin "list.extend.loop" ⟨[.ref S,.ref z,.none],[]⟩) R s:=by
 intro k
 induction k with
 | zero =>
  intro i s H' as hk I hS' L st la hf;have sm:Same H (upd H' S (.lst (as.map V.ref))):=λb o e=>ZhT hS' b o (L.same b o e);refine Vbw F.entry_extend_loop ?_;rw [VbO VbP _];show wpAny _ B.in1 (pyNext (.ref z) >>= _) _ _ s;refine Vaz (Zsf kh D I hf st (ZcK sm hqa) (ZcK sm hqb) (ZcK sm hqc) (by have:=Zhh xs ys us;omega) λh' I' _=>?_);refine VaE (kR _ as H' I' hS' ?_);rw [show i=(ZaU xs ys us).length by omega,List.take_length] at L;exact L
 | succ k ih =>
  intro i s H' as hk I hS' L st la hf;have sm:Same H (upd H' S (.lst (as.map V.ref))):=λb o e=>ZhT hS' b o (L.same b o e);have hi:i<(ZaU xs ys us).length:=by omega
  obtain ⟨⟨x,y,u⟩,et⟩ : ∃t,(ZaU xs ys us)[i]?=some t:=⟨_,VbF hi⟩;obtain ⟨e1,e2,e3⟩:=ZhG et;refine Vbw F.entry_extend_loop ?_;rw [VbO VbP _];show wpAny _ B.in1 (pyNext (.ref z) >>= _) _ _ s;refine Vaz (ZqP D I hf st (ZcK sm hqa) (ZcK sm hqb) (ZcK sm hqc) e1 e2 e3 λh' T eT hT I2 st2 kp=>?_);have hl:as.length<sizeLine:=by
   obtain ⟨_,_,_,hz⟩:=I.seqB (ZcK sm hqa);have:=Zi0 xs ys us;omega
  have ST:S≠T:=λq=>by subst q;rw [Zaf] at hT;cases hT
  have hT':H' T=none:=by rw [Zad (Ne.symm ST)] at hT;exact hT
  rw [ZmK ST] at I2;have hH:(upd (upd H' T (.tup [x,y,u])) S (.lst (as.map V.ref))) S=some (.lst (as.map V.ref)):=Zaf;obtain ⟨zz,its,n,rr,hlen,e⟩:=I2.lstM hH;have hlen':its.length=as.length:=by rw [<-hlen,VaO]
  show wpAny _ B.in1 (updateSeq S (·.push (.ref T)) >>= _) _ _ _;refine Vaz ?_;refine VbJ e rfl (VaE ⟨plainId_quiet VbP _,?_⟩) (by rw [Va7];omega) (by show (its.toArray.push _).size<=sizeLine+1;rw [Array.size_push,Va7];omega);have I3:=I2.lset (f:=(·.push (.ref T))) (t':=s.toks) (ys:=as.map V.ref++[.ref T]) (its':=its++[.ref T]) hH e (by simp) (rr.append (.cons (show RelV (.ref T) (.ref T) from rfl) .nil)) (by rw [Va5,VaO,List.length_singleton];omega);rw [Zef] at I3;refine ih (i+1) _ (upd H' T (.tup [x,y,u])) (as++[T]) (by omega) ?_ ?_ ?_ ?_ ?_ ?_
  ·rw [VbQ];exact I3
  ·rw [Zad ST];exact hS'
  ·rw [List.take_add_one,et];exact .snoc L hT'
  ·exact st2.keep λd hd o e=>(Vbi _ _ (λh=>hS (by rw [h];exact hd))).trans e
  ·rw [Va5,la];rfl
  ·intro d hd;have dS:d≠S:=λq=>hS (by rw [<-q];exact hd);have dT:d≠T:=by
    obtain ⟨o,ho,_⟩:=st.obj hd;rw [eT];exact Vaf (Vac ho)
   have z:=hf d hd;refine ⟨?_,z.2⟩;rw [Zad dS,Zad dT];have z1:=z.1;rw [Zad dS] at z1;exact z1
def Zm8:typeLookup (.type "zip") "__len__"=pure none:=by rw [typeLookup_type,builtinLookup_eq_fast];kernel_rfl
def Zkt:typeLookup (.type "zip") "__length_hint__"=pure none:=by rw [typeLookup_type,builtinLookup_eq_fast];kernel_rfl
def Zn9{E:Value->Shared->Prop}(hc:X.calm=true)(D:Ap3 z TI TO i1 i2 i3 a b c)(I:Inv X pins σ H s)(st:At3 p q r z TI TO i1 i2 i3 a b c 0 s.heap)(hf:∀d∈[z,TI,TO,i1,i2,i3],FpOk X pins H d)(hqa:SqB X.K p H a xs)(hqb:SqB X.K q H b ys)(hqc:SqB X.K r H c us)(kQ:∀s' S as H',Inv X pins σ (upd H' S (.lst (as.map V.ref))) s'->H' S=none->Lay3 H (ZaU xs ys us) as H'->Q (.ref S) s'):wpAny (model X.prog X.w) X.A (call (.type "list") [.ref z]) Q E s:=by
 have lt:∀d∈[z,TI,TO,i1,i2,i3],d≠s.heap.objs.size:=λd hd=>by
  obtain ⟨o,ho,_⟩:=st.obj hd;exact Vaf (Vac ho)
 have zin:z∈[z,TI,TO,i1,i2,i3]:=by simp
 refine callType_codes (Q₁:=λobj s₁=>obj=.ref s.heap.objs.size/\s₁={ s with heap:=s.heap.push { cls:=.type "list", data:=.seq #[] } }) F.called_list (F.typeCall_list_1 _) F.entry_list_init
  (code_list_new _ ⟨rfl,rfl⟩) λobj s₁ hq=>?_
 obtain ⟨rfl,rfl⟩:=hq;have hS0:H s.heap.objs.size=none:=I.fresh;have I1:Inv X pins σ (upd H s.heap.objs.size (.lst [])) { s with heap:=s.heap.push { cls:=.type "list", data:=.seq #[] } }:=I.lnew (its:=[]) (t':=s.toks) .nil (VaR _)
 have st1:At3 p q r z TI TO i1 i2 i3 a b c 0 (s.heap.push { cls:=.type "list", data:=.seq #[] }):=st.keep λd _ o e=>VaF _ e;generalize hsz:s.heap.objs.size=S at *;have kS:(s.heap.push { cls:=.type "list", data:=.seq #[] }).get? S=some { cls:=.type "list", data:=.seq #[] }:=by rw [<-hsz];exact VaG _ rfl
 generalize s.heap.push { cls:=.type "list", data:=.seq #[] }=g at *;refine ⟨⟨_,kS,rfl⟩,F.args_list_init_2 _ _,?_⟩;show wpAny _ X.A.in1.in1 (do let old <-Builtin.List.listItems (.ref S);Builtin.List.listUpdate (.ref S) (λ_=>#[]);letGo old.toList.reverse;Builtin.List.listExtendWith (.ref S) (.ref z) .none) _ _ _
 refine Vaz ?_;unfold Builtin.List.listItems;refine Vaz (VbB kS rfl (VaE ?_));show wpAny _ X.A.in1.in1 (updateSeq S (λ_=>#[]) >>= λ_=>letGo (#[]:Array Value).toList.reverse >>= λ_=>Builtin.List.listExtendWith (.ref S) (.ref z) .none) _ _ _;refine Vaz (VbJ kS rfl ?_);have I2:=I1.lset (f:=λ_=>#[]) (t':=s.toks) (its:=[]) (its':=[]) (ys:=[]) (n:=0) Zaf kS rfl .nil (VaR _);rw [Zef] at I2;have st2:At3 p q r z TI TO i1 i2 i3 a b c 0 (g.update S (Obj.mapSeq λ_=>#[])):=st1.keep λd hd o e=>(Vbi _ _ (λh=>lt d hd h.symm)).trans e;have kS2:=Vbh (Obj.mapSeq (λ_=>(#[]:Array Value))) kS rfl;generalize g.update S (Obj.mapSeq λ_=>#[])=g2 at *;refine Vaz (wpAny_letGo ?_);unfold Builtin.List.listExtendWith;obtain ⟨f0,f1,u0,v0,w0,kz,_⟩:=id st2;have kT:(Shared.TypeIs { s with heap:=g2 } (.ref z) "zip"):=⟨_,kz,rfl⟩
 refine Vaz (Vbe kT ?_);have zS:S≠z:=λh=>lt z zin h.symm;have h1:Builtin.List.listSameRef (.ref S) (.ref z)=false:=by simp [Builtin.List.listSameRef,zS]
 have h2:(Value.type "zip"==Value.type "list")=false:=by decide
 have h3:(Value.type "zip"==Value.type "tuple")=false:=by decide
 simp only [h1,h2,h3,Bool.or_false,Vby,Va8];refine Vaz (ZpN kz ?_);refine Vaz (VaA ?_);unfold Builtin.List.listLengthHint;refine Vaz (wpAny_specialOf kT Zm8 ?_);show wpAny _ X.A.in1.in1 (specialOf (Value.ref z) (Str.ofString "__length_hint__") >>= _) _ _ _;refine Vaz (wpAny_specialOf kT Zkt ?_);refine VaE ?_;show wpAny _ X.A.in1.in1 (rule "list.extend.makes-room" >>= λ_=>Builtin.List.listTouch (.ref S) >>= λ_=>again (.builtin "list.extend.loop" ⟨[.ref S,.ref z,.none],[]⟩)) _ _ _;refine Vaz (wpAny_rule ?_);refine Vaz ?_;show wpAny _ X.A.in1.in1 (updateSeq S (·.push .none) >>= λ_=>updateSeq S (·.pop)) _ _ _;refine Vaz (VbJ kS2 rfl ?_);have kS3:=Vbh (Obj.mapSeq (·.push Value.none)) kS2 rfl;refine VbJ (hz:=by seq_fits) kS3 rfl ?_;have I3:=I2.lset (f:=(·.push Value.none)) (t':=s.toks) (its:=[]) (its':=[.none]) (ys:=[.non]) Zaf kS2 rfl (.cons (show RelV .non .none from rfl) .nil) (by show (1:Nat)<=sizeLine;decide);rw [Zef] at I3;have I4:=I3.lset (f:=(·.pop)) (t':=s.toks) (its:=[.none]) (its':=[]) (ys:=[]) Zaf kS3 rfl .nil (VaR _);rw [Zef] at I4;have st4:At3 p q r z TI TO i1 i2 i3 a b c 0 ((g2.update S (Obj.mapSeq (·.push Value.none))).update S (Obj.mapSeq (·.pop))):=st2.keep λd hd o e=>(Vbi _ _ (λh=>lt d hd h.symm)).trans ((Vbi _ _ (λh=>lt d hd h.symm)).trans e);refine VaE ⟨plainId_quiet VbP _,?_⟩;refine ZoD (B:=X.A.in1) (I.ok.hd hc) D hqa hqb hqc (λh=>lt S h rfl) (λs' as H' I' e L=>⟨rfl,kQ s' S as H' I' e L⟩) (ZaU xs ys us).length 0 _ H [] (by omega) I4 hS0 .nil st4 rfl λd hd=>?_;have z:=hf d hd;exact ⟨by rw [Zad (lt d hd)];exact z.1,z.2⟩
end
section
def tLZ(K:W.Frag)(ta:TA):TE:=λσ H Q=>ta σ H λvs H1=>∃p q r a b c xs ys us,vs=[.ref a,.ref b,.ref c]/\SqB K p H1 a xs/\SqB K q H1 b ys/\SqB K r H1 c us/\∀S as H',H' S=none->Lay3 H1 (ZaU xs ys us) as H'->Q (.ref S) (upd H' S (.lst (as.map V.ref)))
def Zs4(hc:X.calm=true)(hg:Gl X "zip")(hm:X.mg "zip"=none)(hgl:Gl X "list")(hml:X.mg "list"=none)(ha:PA X [a,b,c] ta)(hs:starEach [a,b,c] X.env=[(false,eval a X.env),(false,eval b X.env),(false,eval c X.env)]:=by rfl)(hs2:starEach [b,c] X.env=[(false,eval b X.env),(false,eval c X.env)]:=by rfl)(hs3:starEach [.Call (.Name "zip" np) [a,b,c] [] pos] X.env=(false,eval (.Call (.Name "zip" np) [a,b,c] [] pos) X.env)::starEach [] X.env:=by rfl) :
  PE X (.Call (.Name "list" lp) [.Call (.Name "zip" np) [a,b,c] [] pos] [] pos') (tLZ X.K ta):=by
 intro pins s σ H Q I h;refine Call_ (Zdt I hgl hml Zh9 (VaI ?_ hs3 rfl));rw [hs3];show wpAny _ _ (spliced ((false,eval (.Call (.Name "zip" np) [a,b,c] [] pos) X.env)::backTo pos' (starEach [] X.env))) _ _ s;refine VaT ?_;refine Call_ (Zdt I hg hm ZrM (VaI (thn (ha pos pins s σ H _ I h) λvs0 s1 ⟨vs,H1,I1,r1,q1⟩=>?_) (by rw [hs,hs2]) (by rw [hs2];rfl)));obtain ⟨κ,μ,ν,l,m,n,xs,ys,us,e,hqa,hqb,hqc,q⟩:=q1;subst e;cases r1 with
 | cons r rr =>
  cases rr with
  | cons r' rr =>
   cases rr with
   | cons r'' rr =>
    cases rr;cases r;cases r';cases r'';refine ZkT I1 hqa hqb hqc λh' z TI TO i1 i2 i3 D hI st hfp _=>?_;refine Calls.spliced_nil ?_;exact Zn9 hc D hI st hfp hqa hqb hqc λs' S as H' I' e L=>⟨.ref S,_,I',rfl,q S as H' e L⟩
end
end L2
namespace L2.Ds
open Dl
section
variable   {F:Hp}
def Zoi{us:List D}(r:Rps K mg F xs ds)(e:zip3 ds=.ok us):∃p q t a b c as bs cs d1 d2 d3,xs=[.ref a,.ref b,.ref c]/\SqB K p F a as/\SqB K q F b bs/\SqB K t F c cs/\Rps K mg F as d1/\Rps K mg F bs d2/\Rps K mg F cs d3/\us=trips d1 d2 d3:=by
 unfold zip3 at e;split at e
 ·next x y z =>
  obtain ⟨vx,vy,vz,rfl,rx,ry,rz⟩:=r.three;cases e1:seqD x with
  | ok d1 =>
   rw [e1] at e;cases e2:seqD y with
   | ok d2 =>
    cases e3:seqD z with
    | ok d3 =>
     have e':((seqD y).bind λys=>(seqD z).bind λzs=>Res.ok (trips d1 ys zs))=.ok us:=e;rw [e2] at e';have e'':((seqD z).bind λzs=>Res.ok (trips d1 d2 zs))=.ok us:=e';rw [e3] at e'';have e4:Res.ok (trips d1 d2 d3)=.ok us:=e'';cases e4;obtain ⟨p,a,as,rfl,ha,ra⟩:=Zkg rx e1;obtain ⟨q,b,bs,rfl,hb,rb⟩:=Zkg ry e2;obtain ⟨t,c,cs,rfl,hc,rc⟩:=Zkg rz e3;exact ⟨p,q,t,a,b,c,as,bs,cs,d1,d2,d3,rfl,ha,hb,hc,ra,rb,rc,rfl⟩
    | ex c =>
     have e':((seqD y).bind λys=>(seqD z).bind λzs=>Res.ok (trips d1 ys zs))=.ok us:=e;rw [e2] at e';have e'':((seqD z).bind λzs=>Res.ok (trips d1 d2 zs))=.ok us:=e';rw [e3] at e'';cases e''
    | bad =>
     have e':((seqD y).bind λys=>(seqD z).bind λzs=>Res.ok (trips d1 ys zs))=.ok us:=e;rw [e2] at e';have e'':((seqD z).bind λzs=>Res.ok (trips d1 d2 zs))=.ok us:=e';rw [e3] at e'';cases e''
   | ex c =>
    have e':((seqD y).bind λys=>(seqD z).bind λzs=>Res.ok (trips d1 ys zs))=.ok us:=e;rw [e2] at e';cases e'
   | bad =>
    have e':((seqD y).bind λys=>(seqD z).bind λzs=>Res.ok (trips d1 ys zs))=.ok us:=e;rw [e2] at e';cases e'
  | ex c=>rw [e1] at e;cases e
  | bad=>rw [e1] at e;cases e
 ·cases e
def ZoE{c:Str}:zip3 ds≠.ex c:=by
 intro e;unfold zip3 at e;split at e
 ·next x y z =>
  cases e1:seqD x with
  | ok d1 =>
   rw [e1] at e;have e':((seqD y).bind λys=>(seqD z).bind λzs=>Res.ok (trips d1 ys zs))=.ex c:=e;cases e2:seqD y with
   | ok d2 =>
    rw [e2] at e';have e'':((seqD z).bind λzs=>Res.ok (trips d1 d2 zs))=.ex c:=e';cases e3:seqD z with
    | ok d3=>rw [e3] at e'';cases e''
    | ex c'=>exact absurd e3 Zlf
    | bad=>rw [e3] at e'';cases e''
   | ex c'=>exact absurd e2 Zlf
   | bad=>rw [e2] at e';cases e'
  | ex c'=>exact absurd e1 Zlf
  | bad=>rw [e1] at e;cases e
 ·cases e
def ZoC:∀{H H':Hp} {ts:List (V×V×V)} {as:List Addr},Lay3 H ts as H'->∀{F:Hp},Same F H->∀{us:List D},us.length=ts.length->(∀(i:Nat) x y z d,ts[i]?=some (x,y,z)->us[i]?=some d->∃a b c,d=.tup [a,b,c]/\Rp K mg F x a/\Rp K mg F y b/\Rp K mg F z c)->∃F',Gr F H F' H'/\Rps K mg F' (as.map V.ref) us:=by
 intro H H' ts as L
 induction L with
 | nil =>
  intro F s us hl _;have:us=[]:=List.length_eq_zero_iff.mp hl;subst this;exact ⟨F,.refl s,.nil⟩
 | @snoc ts as H1 T x y u L hT ih =>
  intro F s us hl hd;have hl':us.length=ts.length+1:=by rw [hl,Va5];rfl
  obtain ⟨d,eu⟩ : ∃d,us[ts.length]?=some d:=⟨_,VbF (by omega)⟩;obtain ⟨us',rfl⟩ : ∃us',us=us'++[d]:=by
   refine ⟨us.take ts.length,?_⟩;have:=List.take_append_drop ts.length us;rw [Vbx (by omega),VbG (by omega)] at this;have e:us[ts.length]=d:=by
    have:=VbF (show ts.length<us.length by omega);rw [eu] at this;exact (Vau this).symm
   rw [e] at this;exact this.symm
  have hl2:us'.length=ts.length:=by rw [Va5] at hl';simpa using hl'
  obtain ⟨F1,g1,r1⟩:=ih s hl2 λi x y z e h1 h2=>hd i x y z e (by rw [Va2 ((Vat.mp h1).1)];exact h1) (by rw [Va2 ((Vat.mp h2).1)];exact h2);obtain ⟨a,b,c,rfl,ra,rb,rc⟩:=hd ts.length x y u d (by simp) eu;have g2:Gr F1 H1 _ _:=.new g1.s hT (.tup [x,y,u]);refine ⟨_,g1.trans g2,?_⟩;rw [VbQ];refine Rps.app (.cons (.tup (SqT.of Zaf) (.cons ((ra.same g1.f).same g2.f) (.cons ((rb.same g1.f).same g2.f) (.cons ((rc.same g1.f).same g2.f) .nil)))) .nil) (r1.same g2.f)
def ZfQ:∀{xs ys zs:List V} {ds es fs:List D},Rps K mg F xs ds->Rps K mg F ys es->Rps K mg F zs fs->(trips ds es fs).length=(ZaU xs ys zs).length/\∀(i:Nat) x y z d,(ZaU xs ys zs)[i]?=some (x,y,z)->(trips ds es fs)[i]?=some d->∃a b c,d=.tup [a,b,c]/\Rp K mg F x a/\Rp K mg F y b/\Rp K mg F z c
 | _,_,_,_,_,_,.nil,_,_=>⟨by simp [trips,ZaU],λi x y z d h=>by simp [ZaU] at h⟩
 | _,_,_,_,_,_,.cons _ _,.nil,_=>⟨by simp [trips,ZaU],λi x y z d h=>by simp [ZaU] at h⟩
 | _,_,_,_,_,_,.cons _ _,.cons _ _,.nil=>⟨by simp [trips,ZaU],λi x y z d h=>by simp [ZaU] at h⟩
 | _,_,_,_,_,_,.cons h1 r1,.cons h2 r2,.cons h3 r3=>by
  obtain ⟨l,q⟩:=ZfQ r1 r2 r3;refine ⟨by simp [trips,ZaU,l],λi x y z d e1 e2=>?_⟩;cases i with
  | zero =>
   simp [ZaU] at e1;obtain ⟨rfl,rfl,rfl⟩:=e1;simp [trips] at e2;subst e2;exact ⟨_,_,_,rfl,h1,h2,h3⟩
  | succ i=>exact q i x y z d (by simpa [ZaU] using e1) (by simpa [trips] using e2)
end
section
variable   {a b c:Expr}  {t:TA} {m:MA} {lp p:Pos}
def ycZ(hcm:X.calm=true)(hg:Gl X "zip")(hm:X.mg "zip"=none)(hgl:Gl X "list")(hml:X.mg "list"=none)(ha:DA X E n [a,b,c] t m)(hs:starEach [a,b,c] X.env=[(false,eval a X.env),(false,eval b X.env),(false,eval c X.env)]:=by rfl)(hs2:starEach [b,c] X.env=[(false,eval b X.env),(false,eval c X.env)]:=by rfl)(hs3:starEach [.Call (.Name "zip" p) [a,b,c] [] pos] X.env=(false,eval (.Call (.Name "zip" p) [a,b,c] [] pos) X.env)::starEach [] X.env:=by rfl) :
  DE X E (.Call (.Name "list" lp) [.Call (.Name "zip" p) [a,b,c] [] pos] [] pos') (tLZ X.K t) (on lz3 m):=by
 refine ⟨Zs4 hcm hg hm hgl hml ha.p hs hs2 hs3,?_⟩;intro F0 H0 F H σ ρ rr;refine (ha.s F0 H0 F H σ ρ rr).bind (w':=λvs H1 Q=>∃p q r a b c xs ys us,vs=[V.ref a,V.ref b,V.ref c]/\SqB X.K p H1 a xs/\SqB X.K q H1 b ys/\SqB X.K r H1 c us/\∀S as H',H' S=none->Lay3 H1 (ZaU xs ys us) as H'->Q (V.ref S) (upd H' S (.lst (as.map V.ref)))) λF1 H1 xs ds g1 rs=>?_;unfold lz3;cases e:zip3 ds with
 | ok us =>
  obtain ⟨p,q,t,a,b,c,as,bs,cs,d1,d2,d3,rfl,ha,hb,hc,ra,rb,rc,rfl⟩:=Zoi rs e;obtain ⟨l,z⟩:=ZfQ ra rb rc;refine λQ q'=>⟨p,q,t,a,b,c,as,bs,cs,rfl,ZgA g1.s ha,ZgA g1.s hb,ZgA g1.s hc,λS as' H' hS L=>?_⟩;obtain ⟨F2,g2,r2⟩:=ZoC L g1.s l z;have g3:Gr F2 H' _ _:=.new g2.s hS (.lst (as'.map V.ref));exact q' _ _ _ (g2.trans g3) (.lst (SqL.of Zaf) (r2.same g3.f))
 | ex c'=>exact absurd e ZoE
 | bad=>trivial
end
end L2.Ds
namespace L2
open PySem.Calls
abbrev TB:=St->Hp->(Hp->Prop)->XK->Prop
def PB(X:Cx)(body:List Stmt)(t:TB):Prop :=
 ∀pins s σ H N XE,Inv X pins σ H s->t σ H N XE->wpAny (model X.prog X.w) X.A (execs body X.env) (λf s'=>f=.next/\∃H2,Inv X pins σ H2 s'/\N H2) (λev s'=>∃s1 H1 a cls p H',ev=.ref a/\Inv X pins σ H1 s1/\Fly X.prog X.w X.stack H1 H' s1 s' a cls/\ZgP p a H' s1.heap s'.heap/\XE cls p H') s
def ZrK(tb:TB)(hit:Value->Prop)(i:Nat)(u:Addr->TS):TS:=λD σ H=>tb σ H (λH2=>D.nx σ H2) λcls p H2=>hit cls/\∀x d,H2 x=none->(p.isSome=true->H2 d=none/\d≠x)->u x (offI i D) (σ.set i (some (.ref x))) (trkX p x d cls H2)
section
variable   {y n:Str} {Cy fa:Addr}   {sp:Sp} {t:TA} {tb tb':TB} {tc:TT} {u:Addr->TS} {c:Expr}  {p yp epos hpos:Pos} {b₀:Stmt} {suite body bd be:List Stmt}
def ZoR(hst:X.stack=X.env::X.outer)(hfr:X.env.frame=some X.env.locals)(hB:PB X body tb)(hgy:Gl X y)(hmy:X.mg y=some (.ref Cy))(hN:X.N.Nodup)(hi:X.N[i]?=some n)(hlo:X.env.kindOf n=some .local)(hnl:X.env.scope.names.lookup n=some .local)(hs:∀a,PSs (X.inX a) (b₀::suite) (u a))(hdy:(y==("__debug__" : Str))=false) :
  PS X (.Try body [.ExceptHandler (some (.Name y yp)) (some n) (b₀::suite) hpos] [] [] pos) (ZrK tb (λcls=>W.exmOne X.K cls (.ref Cy)=some true) i u):=by
 intro pins s σ H D I h;refine wpAny_Try_except (Vav (hB pins s σ H _ _ I h) (λf s' ⟨hf,H2,I2,q⟩=>?_) λev s' ⟨s1,H1,a,cls,p,H',hev,I1,Fl,py,hit,kk⟩=>?_)
 ·subst hf;exact Vay ⟨σ,H2,I2,q⟩
 ·subst hev;obtain ⟨B,a0,fl,cov⟩:=Fl.ex;have fl':Heap.FlyingW B (X.env::X.outer) a cls a0 s'.heap:=hst▸fl;refine Zkq (by rw [I.ok.frames,hst]) hfr fl' λh1 held sm1 kd1=>?_;refine Zqd held λh2 fl2 sm2 kd2=>?_;have F2:=Fl.moved fl cov (hst.symm▸fl2) (sm1.trans sm2);have I2:=I1.landed F2;refine wpAny_handleBy_cons (codeAny_handlers_test ?_) (by intro q;cases q);refine ZeI (X:=X.inX a) (I2.inX a) hgy hmy ?_ hdy;have LT:W.Looks (model X.prog X.w) h2 (typeOf (.ref a)) cls:=ExcAt.ty (show ExcAt a cls h2 from fl2.there);refine (W.exm_one (show X.K.In h2 from I2.kIn) LT hit).here ?_;refine codeAny_handlers_suite_as ?_;refine Zqa fl2 λh3 fl3 sm3 kd3=>?_;have F3:=Fl.moved fl cov (hst.symm▸fl3) ((sm1.trans sm2).trans sm3);obtain ⟨dx,hdx,I3⟩:=I1.caughtP F3 (py.on ((kd1.trans kd2).trans kd3) ((sm1.trans sm2).trans sm3) (let ⟨o,e,_⟩:=fl3.there;⟨o,e⟩) λ_ o e=>⟨o,e⟩);refine Zfa (X:=X.inX a) (v:=.ref a) (I3.inX a) hN hi (.inl hnl) rfl (λs4 I4=>?_) (.inr hnl);refine Vav (hs a pins s4 _ _ _ I4 (kk a dx F3.free hdx)) (λf s5 q5=>?_) λ_ _ z=>False.elim z;have fin:∀{σ':St} {H5:Hp} {Q:Unit->Shared->Prop},Inv (X.inX a) pins σ' H5 s5->(∀s',Inv X pins (σ'.set i none) H5 s'->Q () s')->wpAny (model X.prog X.w) X.A (do bindName X.env n .none;unbindBehindTheSuite X.env n hpos) Q X.xe s5:=λI5 g=>(I5.outX I.ok).goes hN hi hlo g
  cases f with
  | next =>
   obtain ⟨σ',H5,I5,q⟩:=q5;exact fin I5 λs6 I6=>⟨_,H5,I6,q⟩
  | brk =>
   obtain ⟨σ',H5,I5,q⟩:=q5;exact fin I5 λs6 I6=>⟨_,H5,I6,q⟩
  | cont =>
   obtain ⟨σ',H5,I5,q⟩:=q5;exact fin I5 λs6 I6=>⟨_,H5,I6,q⟩
  | ret v =>
   obtain ⟨v',σ',H5,I5,r5,q⟩:=q5;exact fin I5 λs6 I6=>⟨v',_,H5,I6,r5,q⟩
end
end L2
namespace Dl
def repL(ds:List D):D->Res D
 | .int k=>if (0<=k/\k<=1000000)/\ds.length*k.toNat<=1000000 then .ok (.lst (List.replicate k.toNat ds).flatten) else .bad
 | _=>.bad
def repD(m:MA)(e:ME):ME:=λρ=>(m ρ).bind λds=>(e ρ).bind λy=>repL ds y
end Dl
namespace L2.Ds
open PySem.Calls Dl
section
variable    {F:Hp}
def Zkk:∀{xs ys:List V} {ds es:List D},Rps K mg F xs ds->Rps K mg F ys es->Rps K mg F (xs++ys) (ds++es)
 | _,_,_,_,.nil,h=>h
 | _,_,_,_,.cons h r,h'=>.cons h (Zkk r h')
def Zkl(h:Rps K mg F xs ds):∀k,Rps K mg F (List.replicate k xs).flatten (List.replicate k ds).flatten
 | 0=>.nil
 | k+1=>by
  rw [Vbk,Vbk,Vbl,Vbl];exact Zkk h (Zkl h k)
def Znu{R:Hp->Hp->V->D->Prop}{t:TA}{m:MA}{tb:TE}{mb:ME}(hR:∀F F' p zs es,F p=none->F' p=some (.lst zs)->Rps K mg F' zs es->R F F' (.ref p) (.lst es))(ha:SA K mg E t m)(hl:SAn n m)(hn:n<=sizeLine)(hb:SE K mg E tb mb):∀F0 H0 F H σ ρ,Rep K mg F0 H0 F H σ ρ->Ans mg E (R F) F H (repD m mb ρ) (tOp rRep (tLst t) tb σ H):=by
 intro F0 H0 F H σ ρ rr;have h:=ha F0 H0 F H σ ρ rr;unfold repD;cases e:m ρ with
 | bad=>trivial
 | ex c =>
  rw [e] at h;exact λQ q=>h _ q
 | ok ds =>
  rw [e] at h;show Ans mg E (R F) F H ((mb ρ).bind λy=>repL ds y) _;have hB:=λF' H' (g:Gr F H F' H')=>hb F0 H0 F' H' σ ρ (rr.gr g);cases eb:mb ρ with
  | bad=>trivial
  | ex c =>
   rw [eb] at hB;exact λQ q=>h _ λF' H' xs g rs=>⟨by rw [rs.length,hl ρ ds e];exact hn,λp hp=>hB _ _ (g.trans (.new g.s hp _)) _ λF2 H2 C g2 hC=>q F2 H2 C ((g.trans (.new g.s hp _)).trans g2) hC⟩
  | ok y =>
   rw [eb] at hB;show Ans mg E (R F) F H (repL ds y) _;unfold repL;split
   ·next k =>
    by_cases hk:(0<=k/\k<=1000000)/\ds.length*k.toNat<=1000000
    ·rw [if_pos hk];refine λQ q=>h _ λF' H' xs g rs=>⟨by rw [rs.length,hl ρ ds e];exact hn,λp hp=>?_⟩;have gn:=Gr.new g.s hp (.lst xs);refine hB _ _ (g.trans gn) _ λF2 H2 yv g2 ry=>?_;cases ry;have f2:F2 p=some (.lst xs):=g2.f p _ Zaf;refine ⟨p,k,xs,rfl,rfl,g2.s p _ f2,by omega,by omega,?_,λp' hp'=>?_⟩
     ·rw [rs.length];exact Vaj hk.2 (by decide)
     ·have g3:=Gr.new g2.s hp' (.lst (List.replicate k.toNat xs).flatten);exact q _ _ _ (((g.trans gn).trans g2).trans g3) (hR _ _ _ _ _ ((g.trans (gn.trans g2)).f.free (g2.s.free hp')) Zaf (Zkl (((rs.same gn.f).same g2.f).same g3.f) k.toNat))
    ·rw [if_neg hk];trivial
   ·trivial
def Zrs(ha:SA K mg E t m)(hl:SAn n m)(hn:n<=sizeLine)(hb:SE K mg E tb mb):SE K mg E (tOp rRep (tLst t) tb) (repD m mb):=Znu (R:=λ_=>Rp K mg) (λ_ _ _ _ _ _ h r=>.lst (SqL.of h) r) ha hl hn hb
end
section
variable   {a b c tg:Expr}  {t:TA} {m:MA}  {tb:TE} {mb:ME} {p lpos:Pos}
def Zsx(ha:DA X E n es t m)(hb:DE X E e tb mb)(hn:n<=sizeLine:=by decide):DE X E (.BinOp (.List es lpos) .Mult e pos) (tOp rRep (tLst t) tb) (repD m mb):=⟨ZnZ ZnO (Zhk ha.p) hb.p,Zrs ha.s ha.n hn hb.s⟩
end
end L2.Ds
namespace Dl
def Zii(it:MI)(own:Nat)(cap:List Nat)(g:MG)(t:MB)(e:ME):ME:=λρ=>(it ρ).bind λxs =>
 if xs.length<=LIM then (Zan g t e (noA own (yag ρ cap)) xs).bind λys=>.ok (.lst ys) else .bad
end Dl
namespace L2
section
variable{M:Model}  {E:Value->Shared->Prop}  {B:Heap} {env cenv:Env} {outer l:List Env} {L e:Addr} {cls a0 fl:Value}
def Zga{h h' B':Heap}(sB:∀b o,B'.get? b=some o->B.get? b=some o)(k:∀b o,b≠C->h.get? b=some o->h'.get? b=some o):∀{l:List Env},C∉frs l->h.FunFrames B l->h'.FunFrames B' l
 | [],_,_=>trivial
 | v::r,hC,⟨h1,⟨L,o,h2,h3,h4,h5⟩,h6⟩=>by
  have nC:L≠C/\C∉frs r:=by
   unfold frs at hC ⊢;rw [Vam,h2] at hC;exact ⟨λz=>hC (z▸Van),λz=>hC (Vao _ z)⟩
  refine ⟨h1,⟨L,o,h2,?_,k L o nC.1 h4,h5⟩,Zga sB k nC.2 h6⟩;cases q:B'.get? L with
  | none=>rfl
  | some u=>rw [sB L u q] at h3;cases h3
def Ze4(hfr:A.frames=some (env::outer))(hf:env.frame=some L)(hkb:B.StaysIn s.heap)(hen:B.get? e=none)(hl:s.heap.FunFrames B (env::outer))(ht:s.heap.TracedAtW B e cls a0 fl)(hQ:∀h',Heap.FlyingW B outer e cls a0 h'->s.heap.UpToSlots h'->Q () { s with heap:=h' }):wpAny M A (leaving env (.ref e)) Q E s:=by
 by_cases hfl:fl=rawInt L
 ·subst hfl;unfold leaving;refine Vaz (wpAny_noteFrame_againW hf ht ?_);refine wpAny_landsW (L:=L) ⟨hkb,hen,hl,ht⟩ λh' x1 sm=>?_;obtain ⟨k1,k2,⟨_,_,k3⟩,k4⟩:=x1;exact hQ h' ⟨k1,k2,k3,k4⟩ sm
 ·obtain ⟨oe,vs,T,oT,ts,he,⟨hcls,h0⟩,hd,h1,hnT,hTe,hT,hdT,h3⟩:=ht;subst hcls;have away:∀b,b≠T->(s.heap.update T (Obj.mapFields (·.setIfInBounds 3 Value.none))).get? b=s.heap.get? b:=λb hb=>Vbi _ _ (Ne.symm hb);have neT:∀b o,s.heap.get? b=some o->(∀vs,o.data≠.fields vs)->b≠T:=λb o hb hnf q=>by
   rw [q,hT] at hb;cases hb;exact hnf ts hdT
  unfold leaving noteFrame;simp only [hf];refine Vaz (Vaz (Vba he hd h1 ?_));rw [if_pos (show (Value.ref T != Value.none)=true from by simp)];refine Vaz (Vba hT hdT h3 ?_);rw [if_neg (show ¬((fl==rawInt L)=true) from by simpa using hfl)];refine Vaz (VbC hT hdT (Vbv.mp h3).1 ?_);refine wpAny_newEntryW hfr (hl.of_keeps λb o hb hnf=>⟨o,(away b (neT b o hb hnf)).trans hb,rfl⟩) hf ((away e (Ne.symm hTe)).trans he) (λb o hbo=>(away b λq=>by rw [q,hnT] at hbo;cases hbo).trans (hkb b o hbo)) hen hd (Vbv.mp h1).1 h0 λh' x=>?_;obtain ⟨x1,⟨_,_,x2⟩,x3,x4⟩:=x;exact hQ h' ⟨x1,hen,x2,x3⟩ λb o hb hnf=>x4 b o ((away b (neT b o hb hnf)).trans hb) hnf
def ZeN(hfr:A.frames=some (env::outer))(hf:env.frame=some L)(hkb:B.StaysIn s.heap)(hen:B.get? e=none)(hl:s.heap.FunFrames B (env::outer))(ht:s.heap.TracedAtW B e cls a0 fl)(hQ:∀h',Heap.FlyingW B outer e cls a0 h'->s.heap.UpToSlots h'->KD s.heap h'->Q () { s with heap:=h' }):wpAny M A (leaving env (.ref e)) Q E s :=
 Vav (ZeR (Zdo _ _) (Ze4 (Q:=λ_ s2=>∃h',s2={ s with heap:=h' }/\Heap.FlyingW B outer e cls a0 h'/\s.heap.UpToSlots h') (E:=E) hfr hf hkb hen hl ht λh' x1 x2=>⟨h',rfl,x1,x2⟩))
  (λ_ _ ⟨⟨h',z,x1,x2⟩,kd⟩=>by subst z;exact hQ h' x1 x2 kd) λ_ _ z=>z.1
def Zfr(hkb:B.StaysIn s.heap)(hl:s.heap.FunFrames B l)(ht:s.heap.TracedAtW B e cls a0 fl)(h:∀h' fl',B.StaysIn h'->h'.FunFrames B l->h'.TracedAtW B e cls a0 fl'->(∀b o,s.heap.get? b=some o->(∀vs,o.data≠.fields vs)->h'.get? b=some o)->KD s.heap h'->E (.ref e) { s with heap:=h' }) :
  wpAny M A (PySem.passOn what (.ref e) cenv:Sem Value) (λ_ _=>False) E s:=by
 obtain ⟨oe,vs,T,oT,ts,he,hcls,hd,h1,hnT,hTe,hT,hdT,h3⟩:=ht;have sz:3<ts.size:=(Vbv.mp h3).1;have away:∀b,b≠T->(s.heap.update T (Obj.mapFields (·.setIfInBounds 3 (cenv.frame.elim Value.none λf=>rawInt f)))).get? b=s.heap.get? b:=λb hb=>Vbi _ _ (Ne.symm hb);have neT:∀b o,s.heap.get? b=some o->(∀vs,o.data≠.fields vs)->b≠T:=λb o hb hnf q=>by
  rw [q,hT] at hb;cases hb;exact hnf ts hdT
 unfold PySem.passOn;refine Vaz (Vba he hd h1 ?_);rw [if_neg (show ¬((Value.ref T==Value.none)=true) from by simp)];refine Vaz ?_;unfold setFlight;refine Vaz (Vba he hd h1 ?_);rw [if_pos (show (Value.ref T != Value.none)=true from by simp)];refine VbC hT hdT sz ?_;refine wpAny_throw ?_;refine h _ (cenv.frame.elim Value.none λf=>rawInt f) (λb o hbo=>(away b λq=>by rw [q,hnT] at hbo;cases hbo).trans (hkb b o hbo)) (hl.of_keeps λb o hb hnf=>⟨o,(away b (neT b o hb hnf)).trans hb,rfl⟩) ?_ (λb o hb hnf=>(away b (neT b o hb hnf)).trans hb) (KD.update _ _ (Zjq (by decide) _));exact ⟨oe,vs,T,_,_,(away e (Ne.symm hTe)).trans he,hcls,hd,h1,hnT,hTe,Vbh _ hT (Obj.isFreed_of_fields (VbE hdT _)),VbE hdT _,by simp [sz]⟩
end
structure FlyA(ff:Value)(P:Program)(w:World)(l:List Env)(H H':Hp)(s s':Shared)(x:Addr)(cls:Value):Prop where
 os:s'.os=s.os
 bare:AllBare s'.gens
 un:Un (frs l) [] H H' s.heap s'.heap
 hok:HOk P w H' s'.heap
 frf:∀b∈frs l,H' b=none
 free:H' x=none
 ex:∃(B:Heap) (a0:Value),(B.StaysIn s'.heap/\B.get? x=none/\s'.heap.FunFrames B l/\s'.heap.TracedAtW B x cls a0 ff)/\∀b o,s'.heap.get? b=some o->(H' b≠none\/∃o',s.heap.get? b=some o')->b∉frs l->B.get? b=some o
def CXA(P:Program)(w:World):CXT:=λouter H s E e s'=>∃x cls p H' ff,e=.ref x/\FlyA ff P w outer H H' s s' x cls/\ZgP p x H' s.heap s'.heap/\E cls p H'
def CXR.a{e:Value}(h:CXR P w l H s E e s'):CXA P w l H s E e s':=by
 obtain ⟨x,cls,p,H',rfl,F,py,q⟩:=h;exact ⟨x,cls,p,H',.none,rfl,⟨F.os,F.bare,F.un,F.hok,F.frf,F.free,F.ex⟩,py,q⟩
def Zm4{E:Value->Shared->Prop}{e:Addr}(hfr:A.frames=some (env::outer))(hf:env.frame=some L)(hkb:B.StaysIn s.heap)(hen:B.get? e=none)(hl:s.heap.FunFrames B (env::outer))(ht:s.heap.TracedAtW B e cls a0 fl)(hQ:∀h',Heap.HeldW B (env::outer) e cls a0 L h'->s.heap.UpToSlots h'->KD s.heap h'->Q () { s with heap:=h' }):wpAny M A (noteFrame (.ref e) env) Q E s:=by
 refine Vav (ZeR (ZiH _ _) (Q:=λ_ s2=>∃h',s2={ s with heap:=h' }/\Heap.HeldW B (env::outer) e cls a0 L h'/\s.heap.UpToSlots h') (E:=E) ?_) (λ_ _ ⟨⟨h',z,x1,x2⟩,kd⟩=>by subst z;exact hQ h' x1 x2 kd) λ_ _ z=>z.1
 by_cases hfl:fl=rawInt L
 ·subst hfl;exact wpAny_noteFrame_againW hf ht ⟨s.heap,rfl,⟨hkb,hen,hl,ht⟩,λb o z _=>⟨o.slots,z⟩⟩
 ·obtain ⟨oe,vs,T,oT,ts,he,⟨hcls,h0⟩,hd,h1,hnT,hTe,hT,hdT,h3⟩:=ht;subst hcls;have away:∀b,b≠T->(s.heap.update T (Obj.mapFields (·.setIfInBounds 3 Value.none))).get? b=s.heap.get? b:=λb hb=>Vbi _ _ (Ne.symm hb);have neT:∀b o,s.heap.get? b=some o->(∀vs,o.data≠.fields vs)->b≠T:=λb o hb hnf q=>by
   rw [q,hT] at hb;cases hb;exact hnf ts hdT
  unfold noteFrame;simp only [hf];refine Vaz (Vba he hd h1 ?_);rw [if_pos (show (Value.ref T != Value.none)=true from by simp)];refine Vaz (Vba hT hdT h3 ?_);rw [if_neg (show ¬((fl==rawInt L)=true) from by simpa using hfl)];refine Vaz (VbC hT hdT (Vbv.mp h3).1 ?_);refine wpAny_entryW hfr (hl.of_keeps λb o hb hnf=>⟨o,(away b (neT b o hb hnf)).trans hb,rfl⟩) hf ((away e (Ne.symm hTe)).trans he) (λb o hbo=>(away b λq=>by rw [q,hnT] at hbo;cases hbo).trans (hkb b o hbo)) hen hd (Vbv.mp h1).1 h0 λh' x=>?_;obtain ⟨x1,x2,x3,x4⟩:=x;exact ⟨h',rfl,⟨x1,hen,x2,x3⟩,λb o hb hnf=>x4 b o ((away b (neT b o hb hnf)).trans hb) hnf⟩
def ZlJ{s':Shared}{x:Addr}{B h':Heap}(os:s'.os=s.os)(bare:AllBare s'.gens)(un:Un (frs l) [] H H' s.heap s'.heap)(hok:HOk P w H' s'.heap)(frf:∀b∈frs l,H' b=none)(nf:∀b∈frs l,∃o,s'.heap.get? b=some o/\∀vs,o.data≠.fields vs)(cov:∀b o,s'.heap.get? b=some o->(H' b≠none\/∃o',s.heap.get? b=some o')->b∉frs l->B.get? b=some o)(sub:∀b∈frs l',b∈frs l)(new:∀b∈frs l,b∉frs l'->s.heap.get? b=none)(fl:B.StaysIn h'/\B.get? x=none/\h'.FunFrames B l'/\h'.TracedAtW B x cls a0 ff)(sm:∀b∈frs l,∀o,s'.heap.get? b=some o->(∀vs,o.data≠.fields vs)->∃sl,h'.get? b=some { o with slots:=sl })(free:H' x=none) :
  FlyA ff P w l' H H' s { s' with heap:=h' } x cls:=by
 have stay:∀b o,s'.heap.get? b=some o->(H' b≠none\/∃o',s.heap.get? b=some o')->b∉frs l->h'.get? b=some o:=λb o e q hb=>fl.1 b o (cov b o e q hb);have out:∀{b:Addr} {o:Obj},s.heap.get? b=some o->b∉frs l'->b∉frs l:=λ{b o} e hb z=>by
  rw [new b z hb] at e;cases e
 refine ⟨os,bare,⟨λb o e n hb hx=>?_,λb o e n hb hx=>?_,un.free,λb o e hx=>?_,un.tups,un.frzs,un.tbls⟩,λa o e=>?_,λb hb=>frf b (sub b hb),free,B,a0,fl,λb o e q hb=>?_⟩
 ·exact stay b o (un.keep b o e n (out e hb) hx) (.inr ⟨o,e⟩) (out e hb)
 ·obtain ⟨sl,q⟩:=un.slot b o e n (sub b hb) hx;obtain ⟨o1,q1,d1⟩:=nf b (sub b hb);rw [q] at q1;cases q1;obtain ⟨sl',q2⟩:=sm b (sub b hb) _ q d1;exact ⟨sl',q2⟩
 ·obtain ⟨o',q⟩:=un.there b o e hx;by_cases hb:b∈frs l
  ·obtain ⟨o1,q1,d1⟩:=nf b hb;obtain ⟨sl',q2⟩:=sm b hb _ q1 d1;exact ⟨_,q2⟩
  ·exact ⟨o',stay b o' q (.inr ⟨o,e⟩) hb⟩
 ·refine (hok a o e).stay (λb u hb q=>?_) (λ_ q=>q) λ_ _ q=>q;have tr:H' b≠none:=by
   rcases hb with rfl | hb
   ·rw [e];simp
   ·rw [hb];simp
  exact stay b u q (.inl tr) λz=>tr (frf b z)
 ·have hb':b∉frs l:=by
   intro z;rcases q with q | ⟨o',q⟩
   ·exact q (frf b z)
   ·exact out q hb z
  have ⟨o1,q1⟩ : ∃o1,s'.heap.get? b=some o1:=by
   rcases q with q | ⟨o',q⟩
   ·cases z:H' b with
    | none=>exact absurd z q
    | some u=>exact (hok b u z).there
   ·exact un.there b o' q (by simp)
  have c:=cov b o1 q1 q hb';have z:=fl.1 b o1 c;have e':h'.get? b=some o:=e;rw [e'] at z;cases z;exact c
def xfE(E:XK)(X:Cx):Addr->Shared->Hp->List Addr->Value->Shared->Prop:=λC s H fp e s'=>∃H6 s6,s6.os=s.os/\Un (frs X.stack) fp H H6 s.heap s6.heap/\(∃m,s6.heap.Ns C m)/\H6 C=none/\CXA X.prog X.w X.stack H6 s6 E e s'
def Zod:Zbi (CXR X.prog X.w) (Zat (xfE E X) X N scope cl C s H fp pn) E:=by
 intro pins σ H6 s6 e s' I h;obtain ⟨m,hn,_⟩:=I.loc;exact ⟨H6,s6,I.os,I.base,⟨m,hn⟩,I.free,h.a⟩
section
variable      {s7:Shared} {fp:List Addr} {scope:Scope} {cells:List (Str×Addr)} {C:Addr} {e acc:Value} {use:Option (Value->Sem Unit)} {Q:Value->Shared->Prop}
def Un.strip(u:Un fs ex H H1 h h1)(n:∀b∈ex,h.get? b=none\/b∈ex'):Un fs ex' H H1 h h1:=by
 have no:∀{b:Addr} {o:Obj},h.get? b=some o->b∉ex'->b∉ex:=λ{b o} e q z=>by
  rcases n b z with z | z
  ·rw [z] at e;cases e
  ·exact q z
 exact ⟨λb o e q1 q2 q=>u.keep b o e q1 q2 (no e q),λb o e q1 q2 q=>u.slot b o e q1 q2 (no e q),λb o e q1 q=>u.free b o e q1 (no e q),λb o e q=>u.there b o e (no e q),u.tups,u.frzs,u.tbls⟩
def Un.hide(u:Un fs ex H H1 h h1)(n:h.get? C=none):Un fs ex H H1 h (W.hideAll h1 [C]):=by
 have ne:∀{b:Addr} {o:Obj},h.get? b=some o->b∉[C]:=λ{b o} e z=>by rw [VbR.mp z,n] at e;cases e
 exact ⟨λb o e q1 q2 q3=>Vag _ (u.keep b o e q1 q2 q3) (ne e),λb o e q1 q2 q3=>(u.slot b o e q1 q2 q3).imp λ_ z=>Vag _ z (ne e),u.free,λb o e q=>(u.there b o e q).imp λ_ z=>Vag _ z (ne e),u.tups,u.frzs,u.tbls⟩
def Un.ofHide(u:Un fs ex H H1 h h1):Un fs ex H H1 (W.hideAll h l) h1 :=
 ⟨λb o e=>u.keep b o (Vah _ e),λb o e=>u.slot b o (Vah _ e),λb o e=>u.free b o (Vah _ e),λb o e=>u.there b o (Vah _ e),u.tups,u.frzs,u.tbls⟩
def Zl0{env0:Env}(hst:X.stack=env0::outer0)(hfr:env0.frame=some L0)(hf0:X.env.frame=some L0)(I:Inv X pins σ H s)(hC:s.heap.objs.size<=C)(h:xfE E X C s H fp e s7)(K:∀s',(∃H6 s6,s6.os=s.os/\Un (frs X.stack) fp H H6 s.heap s6.heap/\CXA X.prog X.w X.stack H6 s6 E e s')->X.xe e s') :
  notedBy (model X.prog X.w) X.A (compEnvC scope cells C X.env) (λe s'=>compPost (model X.prog X.w) X.A X.xe use Q acc C (.error e) s') e s7:=by
 obtain ⟨H6,s6,os6,un6,⟨m,oc,es,ep,ho,hd,hk⟩,fC,x,cls,p,H',ff,rfl,F,py,q⟩:=h;obtain ⟨B,a0,⟨fl1,fl2,fl3,fl4⟩,cov⟩:=F.ex;have nfC:C∉frs X.stack:=λz=>by
  rcases Vaq.mp (I.stkSub C z) with q | q
  ·exact absurd (Vad I.lt hC) (by rw [q];exact Vae _)
  ·exact I.nofs hC q
 have C7:s7.heap.get? C=some oc:=F.un.keep C oc ho fC nfC (by simp);have nC7:H' C=none:=F.un.free C oc ho fC (by simp);have C0:s.heap.get? C=none:=Vap hC;have ns7:s7.heap.Ns C m:=⟨oc,es,ep,C7,hd,hk⟩;have en:noteFrame (.ref x) (compEnvC scope cells C X.env)=noteFrame (.ref x) env0:=by
  unfold noteFrame PySem.frameOf;rw [show (compEnvC scope cells C X.env).frame=env0.frame from hf0.trans hfr.symm]
 show wpAny _ _ (noteFrame (.ref x) (compEnvC scope cells C X.env)) _ _ s7;rw [en];refine Zm4 (outer:=outer0) (by rw [<-hst];exact I.ok.frames) hfr fl1 fl2 (by rw [<-hst];exact fl3) fl4 λh8 held sm8 kd8=>?_;obtain ⟨k1,k2,k3,k4⟩:=held;refine ⟨m,sm8.ns ns7,λh9 sb cenv' _=>?_⟩;have kb9:∀b o,b≠C->h8.get? b=some o->h9.get? b=some o:=λb o hb z=>sb.extBut b o hb z;obtain ⟨sl8,C8⟩:=sm8 C oc C7 λvs z=>by rw [hd] at z;cases z
 have neF:∀{b:Addr} {o:Obj} {vs:Array Value},h8.get? b=some o->o.data=.fields vs->b≠C:=λ{b o vs} z1 z2 z3=>by
  rw [z3,C8] at z1;cases z1;have z2':oc.data=.fields vs:=z2;rw [hd] at z2';cases z2'
 have hide:∀b o,(W.hideAll B [C]).get? b=some o->B.get? b=some o:=λb o z=>Vah _ z;have hideC:∀b o,(W.hideAll B [C]).get? b=some o->b≠C:=λb o z1 z2=>by
  rw [z2,W.hideAll_none [C] (by simp)] at z1;cases z1
 have t9:h9.TracedAtW (W.hideAll B [C]) x cls a0 (rawInt L0):=by
  obtain ⟨oe,vs,T,oT,ts,he,hc,hd,h1,hnT,hTe,hT,hdT,h3⟩:=k4;refine ⟨oe,vs,T,oT,ts,kb9 _ _ (neF he hd) he,hc,hd,h1,?_,hTe,kb9 _ _ (neF hT hdT) hT,hdT,h3⟩;cases z:(W.hideAll B [C]).get? T with
  | none=>rfl
  | some u=>rw [hide _ _ z] at hnT;cases hnT
 have st9:(W.hideAll B [C]).StaysIn h9:=λb o z=>kb9 b o (hideC b o z) (k1 b o (hide b o z));have en9:(W.hideAll B [C]).get? x=none:=by
  cases z:(W.hideAll B [C]).get? x with
  | none=>rfl
  | some u=>rw [hide _ _ z] at k2;cases k2
 have f9:h9.FunFrames (W.hideAll B [C]) X.stack:=Zga hide kb9 nfC (by rw [hst];exact k3);refine Zfr (l:=X.stack) st9 f9 t9 λh10 fl' st10 f10 t10 sm10 kd10=>?_;obtain ⟨o8,x8,_⟩:=Heap.TracedAtW.there k4;have x9:=kb9 x o8 (let ⟨oe,vs,_,_,_,he,_,hd',_⟩:=k4;neF (vs:=vs) x8 (by rw [he] at x8;cases x8;exact hd')) x8;obtain ⟨o10,x10,_⟩:=t10.there;refine K _ ⟨H6,{ s6 with heap:=W.hideAll s6.heap [C] },os6,un6.hide C0,x,cls,p,H',fl',rfl,?_,⟨λe=>?_,λn e=>?_⟩,q⟩
 ·refine ZlJ (l:=X.stack) (l':=X.stack) (s:={ s6 with heap:=W.hideAll s6.heap [C] }) (s':=s7) F.os F.bare F.un.ofHide F.hok F.frf (λb hb=>(fl3.mem hb).2) (B:=W.hideAll B [C]) (a0:=a0) (λb o z1 z2 z3=>?_) (λ_ z=>z) (λb h1 h2=>absurd h1 h2) ⟨st10,en9,f10,t10⟩ (λb hb o z1 z2=>?_) F.free
  ·have nb:b≠C:=by
    rintro rfl;rcases z2 with z2 | ⟨o',z2⟩
    ·exact z2 nC7
    ·rw [show (W.hideAll s6.heap [b]).get? b=none from W.hideAll_none [b] (by simp)] at z2;cases z2
   exact Vag _ (cov b o z1 (z2.imp id λ⟨o',z⟩=>⟨o',Vah _ z⟩) z3) (by simpa using nb)
  ·have nb:b≠C:=λz=>nfC (z▸hb);obtain ⟨sl,w8⟩:=sm8 b o z1 z2;exact ⟨sl,sm10 b _ (kb9 b _ nb w8) z2⟩
 ·obtain ⟨ox,vs,e1,q1,q2⟩:=py.1 e;obtain ⟨vs',q3,q4⟩:=((kd8.at e1 x8).trans (kd10.at x9 x10)).f vs q1;exact ⟨o10,vs',x10,q3,q4.trans q2⟩
 ·obtain ⟨ox,d,m',e1,e2,e3,e4,e5,e6,e7,e8⟩:=py.2 n e;have nd:d≠C:=λz=>by rw [z,ho] at e6;cases e6
  obtain ⟨od,esd,epd,hod,hdd,rd⟩:=e3;have ndf:∀{o:Obj},o.data=.dict esd epd->∀vs,o.data≠.fields vs:=λz vs q=>by rw [z] at q;cases q
  obtain ⟨sl8,d8⟩:=sm8 d od hod (ndf hdd);have d10:=sm10 d _ (kb9 d _ nd d8) (ndf (o:={ od with slots:=sl8 }) hdd)
  have sk:=(kd8.at e1 x8).trans (kd10.at x9 x10);refine ⟨o10,d,m',x10,sk.d.trans e2,⟨_,esd,epd,d10,hdd,rd⟩,e4,e5,?_,e7,λz=>?_⟩
  rotate_left
  ·obtain ⟨vs,q1,q2⟩:=e8 z;obtain ⟨vs',q3,q4⟩:=sk.f vs q1;exact ⟨vs',q3,q4.trans q2⟩
  ·cases z:(W.hideAll s6.heap [C]).get? d with
   | none=>rfl
   | some o=>rw [Vah _ z] at e6;cases e6
end
section
variable  {own:List Str} {cap:List (Str×Nat)} {scope:Scope} {cl:List (Str×Addr)}     {fp:List Addr} {tg:Expr} {J:It} {it:Addr} {tn:Nat->Heap->Prop}
structure Zkm(X:Cx)(E:XK):Prop where
 hst:X.stack=X.env::X.outer
 hfr:X.env.frame=some X.env.locals
 hex:X.ex=[]
 hxe:X.xe=λe s'=>wpAny (model X.prog X.w) X.A (leaving X.env e) (λ_ s''=>CXR X.prog X.w X.outer X.H₀ X.s₀ E e s'') (λe' s''=>CXR X.prog X.w X.outer X.H₀ X.s₀ E e' s'') s'
structure BlkX(X:Cx)(E:XK):Prop where
 ex:∃(env0:Env) (outer0:List Env) (L0:Addr),X.stack=env0::outer0/\env0.frame=some L0/\X.env.frame=some L0
 pass:∀{pins:List (Addr×Obj)} {σ:St} {H:Hp} {s:Shared} {fp:List Addr} {e:Value} {s':Shared},Inv X pins σ H s->(∀a∈fp,FpOk X pins H a)->(∃H6 s6,s6.os=s.os/\Un (frs X.stack) fp H H6 s.heap s6.heap/\CXA X.prog X.w X.stack H6 s6 E e s')->X.xe e s'
def BlkX.out(b:BlkX X E){e:Value}(I:Inv X pins σ H s)(f2:∀a∈fp,FpOk X pins H a)(hC:s.heap.objs.size<=C)(h:xfE E X C s H fp e s7) :
  notedBy (model X.prog X.w) X.A (compEnvC scope cells C X.env) (λe s'=>compPost (model X.prog X.w) X.A X.xe use Q acc C (.error e) s') e s7:=by
 obtain ⟨env0,outer0,L0,h1,h2,h3⟩:=b.ex;exact Zl0 h1 h2 h3 I hC h λs' h=>b.pass I f2 h
def Zkm.blk(b:Zkm X E):BlkX X E:=by
 refine ⟨⟨_,_,_,b.hst,b.hfr,b.hfr⟩,λ{pins σ H s fp e s'} I f2 h=>?_⟩;have fpn:∀a∈fp,X.s₀.heap.objs.size<=a:=λa ha=>(f2 a ha).2.2.2.1.resolve_left λq=>by rw [b.hex] at q;cases q
 obtain ⟨H6,s6,os6,un6,x,cls,p,H',ff,rfl,F,py,q⟩:=h;obtain ⟨B,a0,⟨fl1,fl2,fl3,fl4⟩,cov⟩:=F.ex;rw [b.hxe];have no:∀b' o,X.s₀.heap.get? b'=some o->∃o',s6.heap.get? b'=some o':=λb' o z=>by
  obtain ⟨o1,w1⟩:=I.base.there b' o z (by rw [b.hex];simp);exact un6.there b' o1 w1 λhb=>by rw [Vap (fpn b' hb)] at z;cases z
 refine ZeN (by rw [<-b.hst];exact I.ok.frames) b.hfr fl1 fl2 (by rw [<-b.hst];exact fl3) fl4 λh11 fl11 sm11 kd11=>?_;refine ⟨x,cls,p,H',rfl,?_,py.on kd11 sm11 (let ⟨o,e,_⟩:=fl11.there;⟨o,e⟩) no,q⟩;have un:Un (frs X.stack) [] X.H₀ H' X.s₀.heap s'.heap:=by
  refine Un.strip (ex:=fp) ?_ λb hb=>.inl (Vap (fpn b hb));exact ((I.base.mono I.sub (by rw [b.hex];simp)).trans un6).trans (F.un.mono (λ_ z=>z) (by simp))
 have G:=ZlJ (l:=X.stack) (s':=s') (F.os.trans (os6.trans I.os)) F.bare un F.hok F.frf (λb hb=>(fl3.mem hb).2) (B:=B) (a0:=a0) (λb o z1 z2 z3=>cov b o z1 (z2.imp id λ⟨o',z⟩=>no b o' z) z3) I.sub (λb h1 h2=>by
  rcases Vaq.mp (I.stkSub b h1) with e | e
  ·rw [e];exact Vap I.ok.above
  ·exact absurd e h2) fl11 (λb hb o z1 z2=>sm11 b o z1 z2) F.free
 exact ⟨G.os,G.bare,G.un,G.hok,G.frf,G.free,G.ex⟩
def ZmR{te:Fam TE}(b:BlkX X E)(hi:PI X tg iter wi)(O:Zb1 X own cap scope cl)(hc:X.calm=true)(hg:∀C s H fp pn,PG (Zat (xfE E X) X (own++cap.map (·.1)) scope cl C s H fp pn) tg (g C s H fp pn))(ht:∀C s H fp pn,PTs (Zat (xfE E X) X (own++cap.map (·.1)) scope cl C s H fp pn) ts (tt C s H fp pn))(he:∀C s H fp pn,PE (Zat (xfE E X) X (own++cap.map (·.1)) scope cl C s H fp pn) elt (te C s H fp pn))(hts:ts.length<=1)(hs:∀x,foldedSetIterable iter X.env x=pure x:=by intro _;rfl):PE X (.ListComp elt [⟨tg,iter,ts,0⟩] scope pos) (ZcT wi g tt te own cap):=by
 intro pins s σ H Q I h;rw [eval_ListComp];refine wpAny_comprehension_free (use:=none) rfl hs O.clos O.kind O.locals (thn (hi pins s σ H _ I h) λxv s₁ h₁=>thn h₁ λitv s₂ h₂=>?_);obtain ⟨it,fp,tn,J,H2,rfl,I2,T,st2,f2,hw⟩:=h₂;refine ZhW (xf:=xfE E X) (R:=λacc C=>compPost (model X.prog X.w) X.A X.xe none (EP X pins σ Q) acc C) O hc hg ht he hts I2 T st2 f2 hw ?_ ?_
 ·intro D C H' s' m hC hn hH IV q;exact ⟨m,hn,λh' sb=>⟨.ref D,H',IV h' sb,rfl,q⟩⟩
 ·intro D C cells e s' hC z;exact b.out I2 f2 hC z
end
end L2
namespace L2.Ds
open Dl
section
variable    {F:Hp}
def Zm0(r:Rep K mg F0 H0 F H σ ρ)(jo:ItOk K mg F J ds)(hg:SG K mg own.length t g)(ht:STt K mg E tt nt)(he:SE K mg E te me)(hl:ds.length<=LIM)(e0:Dl.Zan g nt me (noA own.length (yag ρ (cap.map (·.2)))) ds=.ok ys)(Q)(q:∀F' H' xs,Gr F H F' H'->Rps K mg F' xs ys->xs.length<=sizeLine->∀p,H' p=none->Q (.ref p) (upd H' p (.lst xs))) :
  ZcO J t tt te own cap σ Q H:=by
 refine ⟨λi k acc H'=>k=ds.length - i/\i<=ds.length/\acc.length<=i/\∃F' zs rs,Gr F H F' H'/\Rps K mg F' acc zs/\Dl.Zan g nt me (noA own.length (yag ρ (cap.map (·.2)))) (ds.drop i)=.ok rs/\zs++rs=ys,
  ⟨ds.length,by simp,VaR _,VaH _,F,[],ys,.refl r.ss,.nil,e0,rfl⟩,?_⟩
 rintro i k acc H' ⟨rfl,hi,ha,F',zs,rs,g1,r1,e1,e2⟩;have la:acc.length<=LIM:=Vaj ha (Vaj hi hl);refine ⟨ZdA la,?_⟩;by_cases hlt:i<ds.length
 ·refine .inr ?_;have hd:ds[i]?=some ds[i]:=VbF hlt;obtain ⟨go,yl⟩:=(jo F' H' g1.f g1.s i).1 _ hd;rw [Vbx hlt] at e1;refine ⟨go,λx H2 y=>?_⟩;obtain ⟨F2,g2,rx⟩:=yl x H2 y;have rr:=(r.gr (g1.trans g2)).inner (own:=own) (cap:=cap) (g1.trans g2);have hG:=hg F H F2 H2 _ _ x _ rr rx;have e':(g ds[i] (noA own.length (yag ρ (cap.map (·.2))))).bind (λρ1=>(nt ρ1).bind λb=>if b=true then (me ρ1).bind λy=>(Dl.Zan g nt me (noA own.length (yag ρ (cap.map (·.2)))) (ds.drop (i+1))).bind λys=>.ok (y::ys) else Dl.Zan g nt me (noA own.length (yag ρ (cap.map (·.2)))) (ds.drop (i+1)))=.ok rs:=e1
  cases eg:g ds[i] (noA own.length (yag ρ (cap.map (·.2)))) with
  | ok ρ1 =>
   rw [eg] at e' hG;refine hG _ λF3 H3 σ3 s3 r3 d3=>⟨d3.trans ZgB,?_⟩;have hT:=ht F H F3 H3 σ3 ρ1 r3;have sF:Same F' F3:=g2.f.trans s3;have e3:(nt ρ1).bind (λb=>if b=true then (me ρ1).bind λy=>(Dl.Zan g nt me (noA own.length (yag ρ (cap.map (·.2)))) (ds.drop (i+1))).bind λys=>.ok (y::ys) else Dl.Zan g nt me (noA own.length (yag ρ (cap.map (·.2)))) (ds.drop (i+1)))=.ok rs:=e'
   cases et:nt ρ1 with
   | ok b =>
    rw [et] at e3 hT;refine hT _ λF4 H4 b' g4 eb=>?_;cases (show b'=b from eb);cases b with
    | true =>
     rw [if_pos rfl];have e4:(me ρ1).bind (λy=>(Dl.Zan g nt me (noA own.length (yag ρ (cap.map (·.2)))) (ds.drop (i+1))).bind λys=>.ok (y::ys))=.ok rs:=e3;have hE:=he F H F4 H4 σ3 ρ1 (r3.gr g4);cases em:me ρ1 with
     | ok y' =>
      rw [em] at e4 hE;refine hE _ λF5 H5 u g5 ru=>⟨Vbn la (by decide),ds.length - (i+1),by omega,rfl,hlt,by rw [Va5];show acc.length+1<=i+1;omega,?_⟩;have e5:(Dl.Zan g nt me (noA own.length (yag ρ (cap.map (·.2)))) (ds.drop (i+1))).bind (λys=>.ok (y'::ys))=.ok rs:=e4;cases ec:Dl.Zan g nt me (noA own.length (yag ρ (cap.map (·.2)))) (ds.drop (i+1)) with
      | ok rs' =>
       rw [ec] at e5;have e6:Res.ok (y'::rs')=.ok rs:=e5;cases e6;exact ⟨F5,zs++[y'],rs',r3.g.trans (g4.trans g5),Rps.app (.cons ru .nil) (r1.same (sF.trans (g4.f.trans g5.f))),rfl,by rw [List.append_assoc];exact e2⟩
      | ex c=>rw [ec] at e5;cases e5
      | bad=>rw [ec] at e5;cases e5
     | ex c=>rw [em] at e4;cases e4
     | bad=>rw [em] at e4;cases e4
    | false =>
     rw [if_neg VaC];have e4:Dl.Zan g nt me (noA own.length (yag ρ (cap.map (·.2)))) (ds.drop (i+1))=.ok rs:=e3;exact ⟨ds.length - (i+1),by omega,rfl,hlt,by omega,F4,zs,rs,r3.g.trans g4,r1.same (sF.trans g4.f),e4,e2⟩
   | ex c=>rw [et] at e3;cases e3
   | bad=>rw [et] at e3;cases e3
  | ex c=>rw [eg] at e';cases e'
  | bad=>rw [eg] at e';cases e'
 ·have hi2:i=ds.length:=by omega
  subst hi2;rw [VbG (VaH _)] at e1;cases e1;rw [VaU] at e2;subst e2;exact .inl ⟨(jo F' H' g1.f g1.s _).2 (VaH _),q F' H' acc g1 r1 (ZdA la)⟩
def ZmP{t:TG}{g:MG}{tt:TT}{nt:MB}{own:List Str}{cap:List (Str×Nat)}{J:It}{c:Str}(r:Rep K mg F0 H0 F H σ ρ)(jo:ItOk K mg F J ds)(hg:SG K mg own.length t g)(hgx:∀d ρ c,g d ρ≠.ex c)(ht:STt K mg E tt nt)(he:SE K mg E te me)(hl:ds.length<=LIM)(e0:Dl.Zan g nt me (noA own.length (yag ρ (cap.map (·.2)))) ds=.ex c)(Q)(q:∀F' H' C,Gr F H F' H'->mg (clsOf c)=some (.ref C)->E (.ref C) (pay c) H') :
  ZcO J t tt te own cap σ Q H:=by
 refine ⟨λi k acc H'=>k=ds.length - i/\i<=ds.length/\acc.length<=i/\∃F',Gr F H F' H'/\Dl.Zan g nt me (noA own.length (yag ρ (cap.map (·.2)))) (ds.drop i)=.ex c,
  ⟨ds.length,by simp,VaR _,VaH _,F,.refl r.ss,e0⟩,?_⟩
 rintro i k acc H' ⟨rfl,hi,ha,F',g1,e1⟩;have la:acc.length<=LIM:=Vaj ha (Vaj hi hl);refine ⟨ZdA la,?_⟩;by_cases hlt:i<ds.length
 case neg =>
  rw [VbG (by omega)] at e1;cases e1
 refine .inr ?_;have hd:ds[i]?=some ds[i]:=VbF hlt;obtain ⟨go,yl⟩:=(jo F' H' g1.f g1.s i).1 _ hd;rw [Vbx hlt] at e1;refine ⟨go,λx H2 y=>?_⟩;obtain ⟨F2,g2,rx⟩:=yl x H2 y;have rr:=(r.gr (g1.trans g2)).inner (own:=own) (cap:=cap) (g1.trans g2);have hG:=hg F H F2 H2 _ _ x _ rr rx;have e':(g ds[i] (noA own.length (yag ρ (cap.map (·.2))))).bind (λρ1=>(nt ρ1).bind λb=>if b=true then (me ρ1).bind λy=>(Dl.Zan g nt me (noA own.length (yag ρ (cap.map (·.2)))) (ds.drop (i+1))).bind λys=>.ok (y::ys) else Dl.Zan g nt me (noA own.length (yag ρ (cap.map (·.2)))) (ds.drop (i+1)))=.ex c:=e1
 cases eg:g ds[i] (noA own.length (yag ρ (cap.map (·.2)))) with
 | bad=>rw [eg] at e';cases e'
 | ex c'=>exact absurd eg (hgx _ _ _)
 | ok ρ1 =>
  rw [eg] at e' hG;refine hG _ λF3 H3 σ3 s3 r3 d3=>⟨d3.trans ZgB,?_⟩;have hT:=ht F H F3 H3 σ3 ρ1 r3;have e3:(nt ρ1).bind (λb=>if b=true then (me ρ1).bind λy=>(Dl.Zan g nt me (noA own.length (yag ρ (cap.map (·.2)))) (ds.drop (i+1))).bind λys=>.ok (y::ys) else Dl.Zan g nt me (noA own.length (yag ρ (cap.map (·.2)))) (ds.drop (i+1)))=.ex c:=e'
  cases et:nt ρ1 with
  | bad=>rw [et] at e3;cases e3
  | ex c' =>
   rw [et] at e3 hT;cases (show Res.ex c'=.ex c from e3);exact hT _ λF4 H4 C g4 hC=>q F4 H4 C (r3.g.trans g4) hC
  | ok b =>
   rw [et] at e3 hT;refine hT _ λF4 H4 b' g4 eb=>?_;cases (show b'=b from eb);cases b with
   | false =>
    rw [if_neg VaC];exact ⟨ds.length - (i+1),by omega,rfl,hlt,by omega,F4,r3.g.trans g4,e3⟩
   | true =>
    rw [if_pos rfl];have e4:(me ρ1).bind (λy=>(Dl.Zan g nt me (noA own.length (yag ρ (cap.map (·.2)))) (ds.drop (i+1))).bind λys=>.ok (y::ys))=.ex c:=e3;have hE:=he F H F4 H4 σ3 ρ1 (r3.gr g4);cases em:me ρ1 with
    | bad=>rw [em] at e4;cases e4
    | ex c' =>
     rw [em] at e4 hE;cases (show Res.ex c'=.ex c from e4);exact hE _ λF5 H5 C g5 hC=>q F5 H5 C (r3.g.trans (g4.trans g5)) hC
    | ok y' =>
     rw [em] at e4 hE;have e5:(Dl.Zan g nt me (noA own.length (yag ρ (cap.map (·.2)))) (ds.drop (i+1))).bind (λys=>.ok (y'::ys))=.ex c:=e4;refine hE _ λF5 H5 u g5 ru=>⟨Vbn la (by decide),ds.length - (i+1),by omega,rfl,hlt,by rw [Va5];show acc.length+1<=i+1;omega,F5,r3.g.trans (g4.trans g5),?_⟩;cases ec:Dl.Zan g nt me (noA own.length (yag ρ (cap.map (·.2)))) (ds.drop (i+1)) with
     | ok rs=>rw [ec] at e5;cases e5
     | bad=>rw [ec] at e5;cases e5
     | ex c' =>
      rw [ec] at e5;exact e5
def Zmj{te:Fam TE}(hi:SI K mg E wi mi)(hg:∀C s H fp pn,SG K mg own.length (t C s H fp pn) g)(hgx:∀d ρ c,g d ρ≠.ex c)(ht:∀C s H fp pn,STt K mg E (tt C s H fp pn) nt)(he:∀C s H fp pn,SE K mg E (te C s H fp pn) me) :
  SE K mg E (ZcT wi t tt te own cap) (Zii mi own.length (cap.map (·.2)) g nt me):=by
 intro F0 H0 F H σ ρ rr;refine (hi F0 H0 F H σ ρ rr).bind (w':=λJ H1 Q=>∀C s H2 fp pn,ZcO J (t C s H2 fp pn) (tt C s H2 fp pn) (te C s H2 fp pn) own cap σ Q H1) λF1 H1 J ds g1 jo=>?_;by_cases hl:ds.length<=LIM
 ·rw [if_pos hl];cases e:Dl.Zan g nt me (noA own.length (yag ρ (cap.map (·.2)))) ds with
  | ok ys=>exact λQ q C s H2 fp pn=>Zm0 (rr.gr g1) jo (hg C s H2 fp pn) (ht C s H2 fp pn) (he C s H2 fp pn) hl e Q λF' H' xs g2 rs _ p hp=>q _ _ _ (g2.trans (.new g2.s hp _)) (.lst (SqL.of Zaf) (rs.same (ZaA (g2.s.free hp) _)))
  | ex c=>exact λQ q C s H2 fp pn=>ZmP (rr.gr g1) jo (hg C s H2 fp pn) hgx (ht C s H2 fp pn) (he C s H2 fp pn) hl e Q λF' H' C g2 hC=>q F' H' C g2 hC
  | bad=>trivial
 ·rw [if_neg hl];trivial
end
section
variable   {tg iter elt:Expr} {ts:List Expr}  {na:MB}
def ZiF(b:BlkX X E)(hi:DI X E tg iter wi mi)(O:Zb1 X own cap scope cl)(hc:X.calm=true)(hg:∀C s H fp pn,DG (Zat (xfE E X) X (own++cap.map (·.1)) scope cl C s H fp pn) own.length tg (g C s H fp pn) gm)(ht:∀C s H fp pn,DTs (Zat (xfE E X) X (own++cap.map (·.1)) scope cl C s H fp pn) E ts (tt C s H fp pn) na)(he:∀C s H fp pn,DE (Zat (xfE E X) X (own++cap.map (·.1)) scope cl C s H fp pn) E elt (tf C s H fp pn) me)(hts:ts.length<=1:=by decide)(hs:∀x,foldedSetIterable iter X.env x=pure x:=by intro _;rfl) :
  DE X E (.ListComp elt [⟨tg,iter,ts,0⟩] scope pos) (ZcT wi g tt tf own cap) (Zii mi own.length (cap.map (·.2)) gm na me) :=
 ⟨ZmR b hi.p O hc (λC s H fp pn=>(hg C s H fp pn).p) (λC s H fp pn=>(ht C s H fp pn).p) (λC s H fp pn=>(he C s H fp pn).p) hts hs,
  Zmj hi.s (λC s H fp pn=>(hg C s H fp pn).s) (hg 0 X.s₀ (λ_=>none) [] []).x (λC s H fp pn=>(ht C s H fp pn).s) (λC s H fp pn=>(he C s H fp pn).s)⟩
def Zph(C:Cal X.prog X.w X.K X.mg X.base k x ps f)(hr:Room l X.A)(hn:k<=l)(hg:Gl (Zat (xfE E X) X N scope cl C' s H fp pn) x)(ha:DA (Zat (xfE E X) X N scope cl C' s H fp pn) E n (e::es) t m)(hps:ps.length=n:=by rfl)(hdb:(x==("__debug__" : Str))=false:=by decide)(he:starEach (e::es) (Zat (xfE E X) X N scope cl C' s H fp pn).env=(false,eval e (Zat (xfE E X) X N scope cl C' s H fp pn).env)::starEach es (Zat (xfE E X) X N scope cl C' s H fp pn).env:=by rfl)(hpl:(backTo pos (starEach es (Zat (xfE E X) X N scope cl C' s H fp pn).env)).any (·.1)=false:=by rfl) :
  DE (Zat (xfE E X) X N scope cl C' s H fp pn) E (.Call (.Name x p) (e::es) [] pos) (ZeB (spD X.K X.mg ps.length f) [] E t) (on f m) :=
 Za9 (X:=Zat (xfE E X) X N scope cl C' s H fp pn) C hr hn hg Zod ha hps hdb he hpl
end
end L2.Ds
namespace Dl
def dFld(cs:List Str)(f:Str):D->Res D
 | .ins c ns vs=>if cs.contains c=true then ofO ((ns.zip vs).lookup f) else .bad
 | _=>.bad
end Dl
namespace L2.Ds
open Dl
def ZfL(K:W.Frag)(mg:Str->Option Value)(cs:List Str)(f:Str):Prop:=∀c,cs.contains c=true->∀C,mg c=some (.ref C)->Cls K C/\ZdD K C f
def rFld(K:W.Frag)(f:Str):V->Hp->VK->Prop:=λx H Q=>∃a C dx fs v,x=.ref a/\H a=some (.ins C dx fs)/\Cls K C/\ZdD K C f/\fs.lookup f=some v/\Q v H
section
def Zf9{F:Hp}:∀{fs:List (Str×V)} {vs:List D},Rps K mg F (fs.map (·.2)) vs->((fs.map (·.1)).zip vs).lookup f=some d->∃v,fs.lookup f=some v/\Rp K mg F v d
 | [],_,_,e=>by simp at e
 | (n,x)::r,[],q,_=>nomatch q
 | (n,x)::r,d0::vs,.cons h q,e=>by
  rw [VaN,List.zip_cons_cons,Vbr] at e;rw [Vbr];cases z:f==n with
  | true =>
   rw [show (f==(n,x).fst)=true from z] at e;cases e;exact ⟨x,rfl,h⟩
  | false =>
   rw [show (f==(n,x).fst)=false from z] at e;exact Zf9 q e
def Zov(T:ZfL K mg cs f):UnD K mg (rFld K f) (dFld cs f):=by
 intro E F H x dx s rx;cases dx with
 | ins c ns vs =>
  show Ans mg E (Rp K mg) F H (if cs.contains c=true then ofO ((ns.zip vs).lookup f) else .bad) _
  by_cases hc:cs.contains c=true
  ·rw [if_pos hc];cases rx with
   | @ins _ C a dx fs xs _ m h o e r =>
    subst e;cases q:((fs.map (·.1)).zip vs).lookup f with
    | none=>trivial
    | some d =>
     obtain ⟨v,hv,rv⟩:=Zf9 r q;obtain ⟨c1,c2⟩:=T c hc C m;exact .ret s rv λQ z=>⟨a,C,dx,fs,v,rfl,s _ _ h,c1,c2,hv,z⟩
  ·rw [if_neg hc];trivial
 | _=>trivial
end
def ZpZ(T:ZfL X.K X.mg cs f)(he:DE X E e te me)(hb:attributeBase e f X.env (eval e X.env)=eval e X.env:=by rfl) :
  DE X E (.Attribute e f pos) (tFld X.K te f) (o1 (dFld cs f) me):=⟨ZrI he.p hb,Zsc (Zov T) he.s⟩
end L2.Ds
namespace Dl
mutual
def noL:D->Bool
 | .lst _=>false
 | .ins _ _ _=>false
 | .tup xs=>noLs xs
 | _=>true
def noLs:List D->Bool
 | []=>true
 | x::r=>noL x&&noLs r
end
end Dl
namespace L2.Ds
open Dl
section
variable    {F:Hp}
mutual
def Znp{F:Hp}(k:∀b o,F b=some o->(∀xs,o≠.lst xs)->F3 b=some o):∀{x:V} {d:D},Rp K mg F x d->noL d=true->Rp K mg F3 x d
 | _,_,.non,_=>.non
 | _,_,.bl b,_=>.bl b
 | _,_,.int i,_=>.int i
 | _,_,.str x,_=>.str x
 | _,_,.ty n,_=>.ty n
 | _,_,.cls h,_=>.cls h
 | _,_,.tup h r,p=>by
  refine .tup ?_ (Zig k r (by simpa [noL] using p));rcases h with (h | ⟨o,h⟩) | h
  ·exact .inl (.inl (k _ _ h λ_ z=>by cases z))
  ·exact .inl (.inr ⟨o,k _ _ h λ_ z=>by cases z⟩)
  ·exact .inr h
 | _,_,.lst h r,p=>by simp [noL] at p
 | _,_,.exc m h,_=>.exc m (h.same k)
 | _,_,.ins m h o q r,p=>by simp [noL] at p
def Zig{F:Hp}(k:∀b o,F b=some o->(∀xs,o≠.lst xs)->F3 b=some o):∀{xs:List V} {ds:List D},Rps K mg F xs ds->noLs ds=true->Rps K mg F3 xs ds
 | _,_,.nil,_=>.nil
 | _,_,.cons h r,p=>by
  rw [noLs,Vbf] at p;exact .cons (Znp k h p.1) (Zig k r p.2)
end
def RowR(K:W.Frag)(mg:Str->Option Value)(Fb F':Hp)(x:V)(d:D):Prop:=∃q ys cs,x=.ref q/\d=.lst cs/\Fb q=none/\F' q=some (.lst ys)/\Rps K mg F' ys cs
def RowR.up{x:V}(h:RowR K mg Fb F' x d)(s:Same F' F''):RowR K mg Fb F'' x d:=by
 obtain ⟨q,ys,cs,e1,e2,h1,h2,h3⟩:=h;exact ⟨q,ys,cs,e1,e2,h1,s _ _ h2,h3.same s⟩
def SEl(K:W.Frag)(mg:Str->Option Value)(E:XK)(t:TE)(m:ME):Prop:=∀F0 H0 F H σ ρ,Rep K mg F0 H0 F H σ ρ->Ans mg E (RowR K mg F) F H (m ρ) (t σ H)
def Zm7{own:List Str}{cap:List (Str×Nat)}{ys:List D}(r:Rep K mg F0 H0 F H σ ρ)(jo:ItOk K mg F J ds)(hg:SG K mg own.length t g)(ht:STt K mg E0 tt nt)(he:SEl K mg E0 te me)(hl:ds.length<=LIM)(e0:Dl.Zan g nt me (noA own.length (yag ρ (cap.map (·.2)))) ds=.ok ys)(Q)(q:∀F' H' xs,Gr F H F' H'->Rps K mg F' xs ys->(∀(k:Nat) (y:V) (d:D),xs[k]?=some y->ys[k]?=some d->RowR K mg F F' y d)->xs.Nodup->xs.length<=sizeLine->∀p,H' p=none->Q (.ref p) (upd H' p (.lst xs))) :
  ZcO J t tt te own cap σ Q H:=by
 refine ⟨λi k acc H'=>k=ds.length - i/\i<=ds.length/\acc.length<=i/\∃F' zs rs,Gr F H F' H'/\Rps K mg F' acc zs/\(∀(k:Nat) (y:V) (d:D),acc[k]?=some y->zs[k]?=some d->RowR K mg F F' y d)/\acc.Nodup/\Dl.Zan g nt me (noA own.length (yag ρ (cap.map (·.2)))) (ds.drop i)=.ok rs/\zs++rs=ys,
  ⟨ds.length,by simp,VaR _,VaH _,F,[],ys,.refl r.ss,.nil,(λk y d hy=>by simp at hy),List.nodup_nil,e0,rfl⟩,?_⟩
 rintro i k acc H' ⟨rfl,hi,ha,F',zs,rs,g1,r1,n1,nd1,e1,e2⟩;have la:acc.length<=LIM:=Vaj ha (Vaj hi hl);refine ⟨ZdA la,?_⟩;by_cases hlt:i<ds.length
 ·refine .inr ?_;have hd:ds[i]?=some ds[i]:=VbF hlt;obtain ⟨go,yl⟩:=(jo F' H' g1.f g1.s i).1 _ hd;rw [Vbx hlt] at e1;refine ⟨go,λx H2 y=>?_⟩;obtain ⟨F2,g2,rx⟩:=yl x H2 y;have rr:=(r.gr (g1.trans g2)).inner (own:=own) (cap:=cap) (g1.trans g2);have hG:=hg F H F2 H2 _ _ x _ rr rx;have e':(g ds[i] (noA own.length (yag ρ (cap.map (·.2))))).bind (λρ1=>(nt ρ1).bind λb=>if b=true then (me ρ1).bind λy=>(Dl.Zan g nt me (noA own.length (yag ρ (cap.map (·.2)))) (ds.drop (i+1))).bind λys=>.ok (y::ys) else Dl.Zan g nt me (noA own.length (yag ρ (cap.map (·.2)))) (ds.drop (i+1)))=.ok rs:=e1
  cases eg:g ds[i] (noA own.length (yag ρ (cap.map (·.2)))) with
  | ok ρ1 =>
   rw [eg] at e' hG;refine hG _ λF3 H3 σ3 s3 r3 d3=>⟨d3.trans ZgB,?_⟩;have hT:=ht F H F3 H3 σ3 ρ1 r3;have sF:Same F' F3:=g2.f.trans s3;have e3:(nt ρ1).bind (λb=>if b=true then (me ρ1).bind λy=>(Dl.Zan g nt me (noA own.length (yag ρ (cap.map (·.2)))) (ds.drop (i+1))).bind λys=>.ok (y::ys) else Dl.Zan g nt me (noA own.length (yag ρ (cap.map (·.2)))) (ds.drop (i+1)))=.ok rs:=e'
   cases et:nt ρ1 with
   | ok b =>
    rw [et] at e3 hT;refine hT _ λF4 H4 b' g4 eb=>?_;cases (show b'=b from eb);cases b with
    | true =>
     rw [if_pos rfl];have e4:(me ρ1).bind (λy=>(Dl.Zan g nt me (noA own.length (yag ρ (cap.map (·.2)))) (ds.drop (i+1))).bind λys=>.ok (y::ys))=.ok rs:=e3;have hE:=he F H F4 H4 σ3 ρ1 (r3.gr g4);cases em:me ρ1 with
     | ok y' =>
      rw [em] at e4 hE;refine hE _ λF5 H5 u g5 ru=>⟨Vbn la (by decide),ds.length - (i+1),by omega,rfl,hlt,by rw [Va5];show acc.length+1<=i+1;omega,?_⟩;have e5:(Dl.Zan g nt me (noA own.length (yag ρ (cap.map (·.2)))) (ds.drop (i+1))).bind (λys=>.ok (y'::ys))=.ok rs:=e4;have sF5:=sF.trans (g4.f.trans g5.f);cases ec:Dl.Zan g nt me (noA own.length (yag ρ (cap.map (·.2)))) (ds.drop (i+1)) with
      | ok rs' =>
       rw [ec] at e5;have e6:Res.ok (y'::rs')=.ok rs:=e5;cases e6;obtain ⟨q,qs,cs,rfl,rfl,fq4,fq5,rq⟩:=ru;have fq:F q=none:=(r3.g.f.trans g4.f).free fq4;have lz:=r1.length;refine ⟨F5,zs++[.lst cs],rs',r3.g.trans (g4.trans g5),Rps.app (.cons (.lst (SqL.of fq5) rq) .nil) (r1.same sF5),λk z d hz hd=>?_,?_,rfl,by rw [List.append_assoc];exact e2⟩
       ·by_cases hk:k<acc.length
        ·rw [Va2 hk] at hz;rw [Va2 (by omega)] at hd;exact (n1 k z d hz hd).up sF5
        ·rw [Va0 (by omega)] at hz;rw [Va0 (by omega)] at hd;have hk0:k - acc.length=0:=by
          have:=(Vat.mp hz).1;simp at this;omega
         rw [hk0] at hz;rw [show k - zs.length=0 by omega] at hd;cases hz;cases hd;exact ⟨q,qs,cs,rfl,rfl,fq,fq5,rq⟩
       ·refine List.nodup_append.mpr ⟨nd1,by simp,λz hz w hw=>?_⟩;have hw':w=.ref q:=by simpa using hw
        subst hw';obtain ⟨k,hk,rfl⟩:=VbS.mp hz;obtain ⟨q',_,_,ez,_,_,f',_⟩:=n1 k _ _ (VbF hk) (VbF (show k<zs.length by omega));rw [ez];intro z2;cases z2;rw [(sF.trans g4.f) _ _ f'] at fq4;cases fq4
      | ex c=>rw [ec] at e5;cases e5
      | bad=>rw [ec] at e5;cases e5
     | ex c=>rw [em] at e4;cases e4
     | bad=>rw [em] at e4;cases e4
    | false =>
     rw [if_neg VaC];have e4:Dl.Zan g nt me (noA own.length (yag ρ (cap.map (·.2)))) (ds.drop (i+1))=.ok rs:=e3;exact ⟨ds.length - (i+1),by omega,rfl,hlt,by omega,F4,zs,rs,r3.g.trans g4,r1.same (sF.trans g4.f),(λk z d h1 h2=>(n1 k z d h1 h2).up (sF.trans g4.f)),nd1,e4,e2⟩
   | ex c=>rw [et] at e3;cases e3
   | bad=>rw [et] at e3;cases e3
  | ex c=>rw [eg] at e';cases e'
  | bad=>rw [eg] at e';cases e'
 ·have hi2:i=ds.length:=by omega
  subst hi2;rw [VbG (VaH _)] at e1;cases e1;rw [VaU] at e2;subst e2;exact .inl ⟨(jo F' H' g1.f g1.s _).2 (VaH _),q F' H' acc g1 r1 n1 nd1 (ZdA la)⟩
def ZnF:∀{xs:List V} {ds:List D} {G:Hp},xs.length=ds.length->(∀(k:Nat) (x:V) (d:D),xs[k]?=some x->ds[k]?=some d->Rp K mg G x d)->Rps K mg G xs ds
 | [],[],_,_,_=>.nil
 | [],_::_,_,l,_=>by cases l
 | _::_,[],_,l,_=>by cases l
 | x::xs,d::ds,G,l,h=>.cons (h 0 x d rfl rfl) (ZnF (by simpa using l) λk y e h1 h2=>h (k+1) y e (by simpa using h1) (by simpa using h2))
end
structure DEl(X:Cx)(E:XK)(e:Expr)(t:TE)(m:ME):Prop where
 p:PE X e t
 s:SEl X.K X.mg E t m
end L2.Ds
namespace Dl
abbrev Fs:=List (Str×D)
abbrev MSi:=Ev->Fs->Res Fs
def iEnd:MSi:=λ_ fl=>.ok fl
def iDrp(e:ME)(k:MSi):MSi:=λρ fl=>(e ρ).bind λ_=>k ρ fl
def iSet(f:Str)(e:ME)(k:MSi):MSi:=λρ fl=>(e ρ).bind λd=>if (fl.map (·.1)).contains f=true\/100<=fl.length then .bad else k ρ (fl++[(f,d)])
def iSup(g:List D->Fs->Res Fs)(a:MA)(k:MSi):MSi:=λρ fl=>(a ρ).bind λds=>(g ds fl).bind λfl'=>k ρ fl'
def fnI(n:Nat)(k:MSi):List D->Fs->Res Fs:=λds fl=>k (.no::ev0 (n - 1) ds) fl
def make(c:Str)(g:List D->Fs->Res Fs)(a:MA):ME:=λρ=>(a ρ).bind λds=>(g ds []).bind λfl=>.ok (.ins c (fl.map (·.1)) (fl.map (·.2)))
def meth(tab:List (Str×(List D->Res D)))(m:Str)(o:ME)(a:MA):ME:=λρ=>(o ρ).bind λd=>match d with
 | .ins c ns vs=>if ns.contains m=true then .bad else match tab.lookup c with
  | some f=>(a ρ).bind λds=>f (.ins c ns vs::ds)
  | none=>.bad
 | _=>.bad
end Dl
namespace L2.Ds
open Dl
def Ans.imp{F:Hp}{w:(β->Hp->Prop)->Prop}(h:Ans mg E R F H r w)(hw:∀Q,w Q->w' Q):Ans mg E R F H r w':=by
 cases r with
 | ok a=>exact λQ q=>hw Q (h Q q)
 | ex c=>exact λQ q=>hw Q (h Q q)
 | bad=>trivial
def Zhz(P:Program)(w:World)(K:W.Frag)(mg:Str->Option Value)(base:Heap)(k:Nat)(m:Str)(E:XK)(ta:TE)(t:TA):TE:=λσ H Q=>ta σ H λx H1=>∃a C dx fs g fd ps sp,x=.ref a/\H1 a=some (.ins C dx fs)/\fs.lookup m=none /\
 Cls K C/\Meth K C m g/\FnOk P w K mg base (CXR P w) k g fd ps sp/\Binds K fd ps []/\t σ H1 λvs H2=>sp (x::vs) H2 Q E
section
variable    {m:Str} {o:Expr}  {ta:TE} {t:TA} {apos:Pos} {pl:Sem Bool}
def Zmd(he:PE X o ta)(hr:Room k X.A)(hx:Zbi (CXR X.prog X.w) X E)(ha:PA X (e::es) t)(hst:starEach (e::es) X.env=(false,eval e X.env)::starEach es X.env:=by rfl)(hpl:(backTo pos (starEach es X.env)).any (·.1)=false:=by rfl) (ht:eval (.Call (.Attribute o m apos) (e::es) [] pos) X.env=(do
   let ov <-eval o X.env
   standAt apos.atName
   let (f,first) <-holding [ov] (getMethod ov m pl)
   callWith pos f first (backTo pos (starEach (e::es) X.env)) (backToKw pos (keywordEach [] X.env))):=by rfl) :
  PE X (.Call (.Attribute o m apos) (e::es) [] pos) (Zhz X.prog X.w X.K X.mg X.base k m E ta t):=by
 intro pins s σ H Q I h;refine W.methodCall_KW (pl:=pl) (thn (he pins s σ H _ I h) λu s1 hZ=>?_) ht;obtain ⟨x,H1,I1,rx,a,C,dx,fs,g,fd,ps,sp,ex,ea,l,c,hm,F,hb,q⟩:=hZ;subst ex;obtain rfl:u=Value.ref a:=rx;refine Zgp I1 ea c hm l ?_;refine W.callWith_K (first:=[.ref a]) (h₀:=X.base) I.ok.mod.kin hm.kp (thn (ha pos pins s1 σ H1 _ I1 q) λus s2 ⟨vs,H2,I2,r,q2⟩=>⟨I2.kIn,?_⟩) hst hpl
 exact ZiV (us:=.ref a::us) (vs:=.ref a::vs) (dvs:=[]) F hr hb .nil hx I2 (.cons rfl r) (by rw [VaU];exact q2)
def Zku(he:PE X o ta)(hr:Room k X.A)(hx:Zbi (CXR X.prog X.w) X E) (ht:eval (.Call (.Attribute o m apos) [] [] pos) X.env=(do
   let ov <-eval o X.env
   standAt apos.atName
   let (f,first) <-holding [ov] (getMethod ov m pl)
   callWith pos f first (backTo pos (starEach [] X.env)) (backToKw pos (keywordEach [] X.env))):=by rfl) :
  PE X (.Call (.Attribute o m apos) [] [] pos) (Zhz X.prog X.w X.K X.mg X.base k m E ta tNil):=by
 intro pins s σ H Q I h;refine W.methodCall_KW (pl:=pl) (thn (he pins s σ H _ I h) λu s1 hZ=>?_) ht;obtain ⟨x,H1,I1,rx,a,C,dx,fs,g,fd,ps,sp,ex,ea,l,c,hm,F,hb,q⟩:=hZ;subst ex;obtain rfl:u=Value.ref a:=rx;refine Zgp I1 ea c hm l ?_;exact W.callWith_K0 (first:=[.ref a]) I1.kIn hm.kp (ZiV (us:=[.ref a]) (vs:=[.ref a]) (dvs:=[]) F hr hb .nil hx I1 (.cons rfl .nil) q)
end
def Zce(P:Program)(w:World)(K:W.Frag)(mg:Str->Option Value)(base:Heap)(k n:Nat)(m:Str)(tab:List (Str×(List D->Res D))):Prop:=∀c f,tab.lookup c=some f->∀C,mg c=some (.ref C) ->
 Cls K C/\∃g fd ps,Meth K C m g/\FnOk P w K mg base (CXR P w) k g fd ps (spD K mg ps.length f)/\Binds K fd ps []/\ps.length=n+1
def Zce.nil:Zce P w K mg base k n m []:=λ_ _ e=>by cases e
def Zce.cons{P:Program}{w:World}{K:W.Frag}{mg:Str->Option Value}{base:Heap}{k n:Nat}{m c:Str}{f:List D->Res D}{tab:List (Str×(List D->Res D))}(h:∀C,mg c=some (.ref C)->Cls K C/\∃g fd ps,Meth K C m g/\FnOk P w K mg base (CXR P w) k g fd ps (spD K mg ps.length f)/\Binds K fd ps []/\ps.length=n+1)(r:Zce P w K mg base k n m tab):Zce P w K mg base k n m ((c,f)::tab):=by
 intro c' f' e;rw [Vbr] at e;split at e
 ·next q =>
  cases e;rw [eq_of_beq q];exact h
 ·exact r c' f' e
def ZhZ:∀{fs:List (Str×V)},¬(fs.map (·.1)).contains m=true->fs.lookup m=none
 | [],_=>rfl
 | (n,x)::r,h=>by
  rw [VaN,List.contains_cons] at h;rw [Vbr];cases z:m==n with
  | true=>exact absurd (by rw [show (m==(n,x).fst)=true from z];rfl) h
  | false=>exact ZhZ λq=>h (by rw [q,Bool.or_true])
section
variable        {m:Str} {tab:List (Str×(List D->Res D))} {ta:TE} {mo:ME} {t:TA} {ma:MA}
def Zk3(T:Zce P w K mg base k n m tab)(ho:SE K mg E ta mo)(ha:SA K mg E t ma)(hl:SAn n ma):SE K mg E (Zhz P w K mg base k m E ta t) (meth tab m mo ma):=by
 intro F0 H0 F H σ ρ rr;refine (ho F0 H0 F H σ ρ rr).bind λF1 H1 x d g1 rx=>?_;cases d with
 | ins c ns vs =>
  show Ans mg E (Rp K mg) F1 H1 (if ns.contains m=true then .bad else match tab.lookup c with
   | some f=>(ma ρ).bind λds=>f (.ins c ns vs::ds)
   | none=>.bad) _
  by_cases hc:ns.contains m=true
  ·rw [if_pos hc];trivial
  rw [if_neg hc];cases e:tab.lookup c with
  | none=>trivial
  | some f =>
   show Ans mg E (Rp K mg) F1 H1 ((ma ρ).bind λds=>f (.ins c ns vs::ds)) _;have rx':=rx;cases rx with
   | @ins _ C a dx fs xs _ hm h o q r =>
    obtain ⟨c1,g,fd,ps,hM,hF,hB,hp⟩:=T c f e C hm;refine Ans.imp ((ha F0 H0 F1 H1 σ ρ (rr.gr g1)).bindE (w':=λvs' H2 Q=>spD K mg ps.length f (.ref a::vs') H2 Q E) λds ed F2 H2 vs' g2 rs=>?_) λQ z=>⟨a,C,dx,fs,g,fd,ps,spD K mg ps.length f,rfl,g1.s _ _ h,ZhZ hc,c1,hM,hF,hB,z⟩;exact ZgG g2.s (.cons (rx'.same g2.f) rs) (by rw [VaM,hl ρ ds ed,hp])
 | _=>trivial
end
section
variable   {l:Nat} {m:Str} {o:Expr}  {ta:TE} {mo:ME} {t:TA} {ma:MA} {apos:Pos} {pl:Sem Bool} {tab:List (Str×(List D->Res D))}
def ZqJ(T:Zce X.prog X.w X.K X.mg X.base k n m tab)(hr:Room l X.A)(hn:k<=l)(hx:Zbi (CXR X.prog X.w) X E)(ho:DE X E o ta mo)(ha:DA X E n (e::es) t ma)(hst:starEach (e::es) X.env=(false,eval e X.env)::starEach es X.env:=by rfl)(hpl:(backTo pos (starEach es X.env)).any (·.1)=false:=by rfl) (ht:eval (.Call (.Attribute o m apos) (e::es) [] pos) X.env=(do
   let ov <-eval o X.env
   standAt apos.atName
   let (f,first) <-holding [ov] (getMethod ov m pl)
   callWith pos f first (backTo pos (starEach (e::es) X.env)) (backToKw pos (keywordEach [] X.env))):=by rfl) :
  DE X E (.Call (.Attribute o m apos) (e::es) [] pos) (Zhz X.prog X.w X.K X.mg X.base k m E ta t) (meth tab m mo ma):=⟨Zmd ho.p (hr.mono hn) hx ha.p hst hpl ht,Zk3 T ho.s ha.s ha.n⟩
def Zh8(T:Zce X.prog X.w X.K X.mg X.base k 0 m tab)(hr:Room l X.A)(hn:k<=l)(hx:Zbi (CXR X.prog X.w) X E)(ho:DE X E o ta mo) (ht:eval (.Call (.Attribute o m apos) [] [] pos) X.env=(do
   let ov <-eval o X.env
   standAt apos.atName
   let (f,first) <-holding [ov] (getMethod ov m pl)
   callWith pos f first (backTo pos (starEach [] X.env)) (backToKw pos (keywordEach [] X.env))):=by rfl) :
  DE X E (.Call (.Attribute o m apos) [] [] pos) (Zhz X.prog X.w X.K X.mg X.base k m E ta tNil) (meth tab m mo yaa):=⟨Zku ho.p (hr.mono hn) hx ht,Zk3 T ho.s ZkB ZkC⟩
end
def ZfL.nil:ZfL K mg [] f:=λ_ h=>by cases h
def ZfL.cons{K:W.Frag}{mg:Str->Option Value}{c f:Str}{cs:List Str}(h:∀C,mg c=some (.ref C)->Cls K C/\ZdD K C f)(r:ZfL K mg cs f):ZfL K mg (c::cs) f:=λc' hc=>by
 rw [List.contains_cons] at hc;cases z:c'==c with
 | true=>rw [eq_of_beq z];exact h
 | false =>
  rw [z,Bool.false_or] at hc;exact r c' hc
structure FR(K:W.Frag)(mg:Str->Option Value)(F:Hp)(fs:List (Str×V))(fl:Fs):Prop where
 nm:fs.map (·.1)=fl.map (·.1)
 rv:Rps K mg F (fs.map (·.2)) (fl.map (·.2))
def FR.same{F:Hp}(h:FR K mg F fs fl)(s:Same F F'):FR K mg F' fs fl:=⟨h.nm,h.rv.same s⟩
def FR.len{F:Hp}(h:FR K mg F fs fl):fs.length=fl.length:=by
 have:=Vax List.length h.nm;rwa [VaO,VaO] at this
def Zjs:∀{fs:List (Str×V)},¬(fs.map (·.1)).contains f=true->putF f y fs=fs++[(f,y)]
 | [],_=>rfl
 | (g,x)::r,h=>by
  rw [VaN,List.contains_cons] at h;have hg:g≠f:=by
   rintro rfl;exact h (by rw [show ((g,x).fst==g)=true from beq_self_eq_true g];rfl)
  show (if g=f then (g,y)::r else (g,x)::putF f y r)=_
  rw [if_neg hg,Zjs λq=>h (by rw [q,Bool.or_true])];rfl
def FR.put{F:Hp}(h:FR K mg F fs fl)(hn:¬(fl.map (·.1)).contains f=true)(ry:Rp K mg F y d):FR K mg F (putF f y fs) (fl++[(f,d)]):=by
 rw [Zjs (by rw [h.nm];exact hn)];refine ⟨by rw [VbQ,VbQ,h.nm];rfl,?_⟩;rw [VbQ,VbQ];exact Rps.app (.cons ry .nil) h.rv
def spI(K:W.Frag)(mg:Str->Option Value)(n:Nat)(cs:List Str)(m:List D->Fs->Res Fs):Sp:=λvs H Q E=>vs.length=n+1/\∃x dx C c ys fs F ds fl,
 vs=.ref x::ys/\cs.contains c=true/\mg c=some (.ref C)/\H x=some (.ins C dx fs)/\F x=none/\Same F H/\Rps K mg F ys ds/\FR K mg F fs fl/\m ds fl≠.bad /\
 (∀fl',m ds fl=.ok fl'->∀F' H' fs',Gr F (del H x) F' H'->F' x=none->H' x=some (.ins C dx fs')->FR K mg F' fs' fl'->Q .non H') /\
 (∀e,m ds fl=.ex e->∀F' H' fs' Ce,Gr F (del H x) F' H'->F' x=none->H' x=some (.ins C dx fs')->mg (clsOf e)=some (.ref Ce)->E (.ref Ce) (pay e) H')
structure RepI(K:W.Frag)(mg:Str->Option Value)(x dx C:Addr)(F0 H0 F H:Hp)(σ:St)(ρ:Ev)(fs:List (Str×V))(fl:Fs):Prop where
 rep:Rep K mg F0 H0 F H σ ρ
 h0:H0 x=none
 self:σ[0]?=some (some (.ref x))
 fx:F x=none
 hx:H x=some (.ins C dx fs)
 fr:FR K mg F fs fl
section
variable   {x dx C:Addr} {F:Hp}   {fs fs':List (Str×V)} {fl fl':Fs}
def RepI.gr(r:RepI K mg x dx C F0 H0 F H σ ρ fs fl)(g:Gr F H F' H'):RepI K mg x dx C F0 H0 F' H' σ ρ fs fl:=by
 obtain ⟨q1,q2⟩:=g.o x _ r.fx r.hx;exact ⟨r.rep.gr g,r.h0,r.self,q1,q2,r.fr.same g.f⟩
def RepI.go(r:RepI K mg x dx C F0 H0 F H σ ρ fs fl)(g:Gr F (del H x) F' H')(fx:F' x=none)(hx:H' x=some (.ins C dx fs'))(fr:FR K mg F' fs' fl'):RepI K mg x dx C F0 H0 F' H' σ ρ fs' fl':=by
 refine ⟨⟨⟨r.rep.g.f.trans g.f,g.s,λa o h1 h2=>?_,λa o u e=>r.rep.g.z a o u (g.z a o u e)⟩,r.rep.len,λi d e=>?_,λi ds e=>?_,r.rep.ne⟩,r.h0,r.self,fx,hx,fr⟩
 ·obtain ⟨q1,q2⟩:=r.rep.g.o a o h1 h2;exact g.o a o q1 (by rw [Zb5 (Zae h2 r.h0)];exact q2)
 ·obtain ⟨y,h1,h2⟩:=r.rep.im i d e;exact ⟨y,h1,h2.same g.f⟩
 ·obtain ⟨a,xs,h1,h2,h3,h4,h5⟩:=r.rep.ow i ds e;have ne:a≠x:=by
   rintro rfl;rw [r.hx] at h4;cases h4
  obtain ⟨q1,q2⟩:=g.o a _ h3 (by rw [Zb5 ne];exact h4);exact ⟨a,xs,h1,h2,q1,q2,h5.same g.f⟩
def RepI.set(r:RepI K mg x dx C F0 H0 F H σ ρ fs fl)(hn:¬(fl.map (·.1)).contains f=true)(ry:Rp K mg F y d):RepI K mg x dx C F0 H0 F (upd H x (.ins C dx (putF f y fs))) σ ρ (putF f y fs) (fl++[(f,d)]):=by
 refine r.go ⟨Same.refl _,λa o e=>?_,λa o h1 h2=>⟨h1,?_⟩,λ_ _ _ e=>e⟩ r.fx Zaf (r.fr.put hn ry)
 ·rw [Zad (Zae e r.fx)];exact r.rep.g.s a o e
 ·have ne:a≠x:=by
   rintro rfl;rw [Zed] at h2;cases h2
  rw [Zb5 ne] at h2;rw [Zad ne];exact h2
end
def AnsI(K:W.Frag)(mg:Str->Option Value)(E:XK)(x dx C:Addr)(F0 H0:Hp)(r:Res Fs)(w:Ends->Prop):Prop :=
 match r with
 | .ok fl=>∀D,(∀F' H' σ' fs,Gr F0 H0 F' H'->F' x=none->H' x=some (.ins C dx fs)->FR K mg F' fs fl->D.nx σ' H')->w D
 | .ex c=>∀D,(∀F' H' fs Ce,Gr F0 H0 F' H'->F' x=none->H' x=some (.ins C dx fs)->mg (clsOf c)=some (.ref Ce)->E (.ref Ce) (pay c) H')->w D
 | .bad=>True
def SSi(K:W.Frag)(mg:Str->Option Value)(E:XK)(cs:List Str)(t:TS)(m:MSi):Prop:=∀x dx C c F0 H0 F H σ ρ fs fl,cs.contains c=true->mg c=some (.ref C)->RepI K mg x dx C F0 H0 F H σ ρ fs fl->AnsI K mg E x dx C F0 H0 (m ρ fl) (λD=>t D σ H)
structure DSi(X:Cx)(E:XK)(cs:List Str)(sts:List Stmt)(t:TS)(m:MSi):Prop where
 p:PSs X sts t
 s:SSi X.K X.mg E cs t m
section
variable    {x dx C:Addr} {F:Hp} {α β:Type} {R:Hp->β->α->Prop}   {fs:List (Str×V)} {fl:Fs}
def Zff{r:Res α}{w:(β->Hp->Prop)->Prop}{k:α->Res Fs}{w':β->Hp->Ends->Prop}(rr:RepI K mg x dx C F0 H0 F H σ ρ fs fl)(h1:Ans mg E R F H r w)(h2:∀a,r=.ok a->∀F1 H1 b,Gr F H F1 H1->R F1 b a->AnsI K mg E x dx C F0 H0 (k a) (w' b H1)) :
  AnsI K mg E x dx C F0 H0 (r.bind k) (λD=>w λb H1=>w' b H1 D):=by
 cases r with
 | ok a =>
  show AnsI K mg E x dx C F0 H0 (k a) _;have h2':=h2 a rfl;generalize k a=r2 at h2';cases r2 with
  | ok d=>exact λD q=>h1 _ λF1 H1 b g rb=>h2' F1 H1 b g rb D q
  | ex c=>exact λD q=>h1 _ λF1 H1 b g rb=>h2' F1 H1 b g rb D q
  | bad=>trivial
 | ex c=>exact λD q=>h1 _ λF1 H1 Ce g hc=>let r2:=rr.gr g;q F1 H1 fs Ce r2.rep.g r2.fx r2.hx hc
 | bad=>trivial
end
section
variable   {cs cs':List Str} {rest:List Stmt} {u:TS} {k:MSi} {o:Expr}    {t:TA} {ma:MA} {apos p p':Pos} {f y m:Str} {l:Nat}
def Zno:DSi X E cs [] ZjN iEnd:=⟨Ziv,λx dx C c F0 H0 F H σ ρ fs fl _ _ r=>λD q=>q F H σ fs r.rep.g r.fx r.hx r.fr⟩
def ZkX(he:DE X E e te me)(h:DSi X E cs rest u k)(hs:swapsWith e none spos.line X.env=pure false:=by rfl):DSi X E cs (.Expr e spos::rest) (tSeq (Zb3 te) u) (iDrp me k):=by
 refine ⟨ZbU (Zdc he.p hs) h.p,?_⟩;intro x dx C c F0 H0 F H σ ρ fs fl hc hm r;exact Zff (w':=λ_ H1 D=>u D σ H1) r (he.s F0 H0 F H σ ρ r.rep) λa _ F1 H1 b g _=>h.s x dx C c F0 H0 F1 H1 σ ρ fs fl hc hm (r.gr g)
def ZnA(T:ZfL X.K X.mg cs f)(he:DE X E e te me)(h:DSi X E cs rest u k)(hN:X.N[0]?=some x:=by rfl)(hv:Vis X.env.scope x:=by first | exact Or.inl rfl | exact Or.inr (Or.inl rfl) | exact Or.inr (Or.inr rfl))(hd:(x==("__debug__" : Str))=false:=by decide)(hcd:(x==("__classdict__" : Str))=false:=by decide)(hs:swapsWith e (some (.Attribute (.Name x p) f p')) spos.line X.env=pure false:=by rfl) :
  DSi X E cs (.Assign [.Attribute (.Name x p) f p'] e spos::rest) (tSeq (sFld X.K (tVar 0) te f) u) (iSet f me k):=by
 refine ⟨ZbU (ZqI (ZbW hN hv hd hcd) he.p hs) h.p,?_⟩;intro x dx C c F0 H0 F H σ ρ fs fl hc hm r;refine Zff (w':=λy H1 D=>(tVar 0) σ H1 λz H2=>∃a C dx fs,z=.ref a/\H2 a=some (.ins C dx fs)/\Cls X.K C/\ZdD X.K C f/\fs.length<1000/\u D σ (upd H2 a (.ins C dx (putF f y fs)))) r (he.s F0 H0 F H σ ρ r.rep) λd _ F1 H1 y g ry=>?_;have r1:=r.gr g;by_cases hb:(fl.map (·.1)).contains f=true\/100<=fl.length
 ·rw [if_pos hb];trivial
 rw [if_neg hb];obtain ⟨c1,c2⟩:=T c hc C hm;have r2:=r1.set (f:=f) (λz=>hb (.inl z)) ry;have z:=h.s x dx C c F0 H0 F1 _ σ ρ _ _ hc hm r2;have hl:fs.length<1000:=by have:=r.fr.len;have:¬100<=fl.length:=λz=>hb (.inr z);omega
 generalize k ρ (fl++[(f,d)])=q0 at z;cases q0 with
 | ok fl'=>exact λD q=>⟨_,r1.self,x,C,dx,fs,rfl,r1.hx,c1,c2,hl,z D q⟩
 | ex c=>exact λD q=>⟨_,r1.self,x,C,dx,fs,rfl,r1.hx,c1,c2,hl,z D q⟩
 | bad=>trivial
end
structure ClsM(K:W.Frag)(C:Addr)(m:Str)(f:Addr):Prop where
 sg:W.specialIn K (.ref C) "__getattribute__"=some (some (.builtin "type.__getattribute__"))
 rd:∃mc,W.readsIn K C mc=true/\W.findCls K (.ref C) mc m=some (.val (.ref f))
 hh:W.handedIn (.ref f)=true
 kp:W.keepIn K (.ref f)=true
section
variable    {y m:Str} {C f:Addr}   {sp:Sp}   {t:TA} {p apos:Pos} {pl:Sem Bool}
def ZoY(hg:Gl X y)(hy:X.mg y=some (.ref C))(c:ClsM X.K C m f)(F:FnOk X.prog X.w X.K X.mg X.base (CXR X.prog X.w) k f fd ps sp)(hr:Room k X.A)(hb:Binds X.K fd ps [])(hx:Zbi (CXR X.prog X.w) X E)(ha:PA X (e::es) t)(hd:(y==("__debug__" : Str))=false:=by decide)(hst:starEach (e::es) X.env=(false,eval e X.env)::starEach es X.env:=by rfl)(hpl:(backTo pos (starEach es X.env)).any (·.1)=false:=by rfl) (ht:eval (.Call (.Attribute (.Name y p) m apos) (e::es) [] pos) X.env=(do
   let ov <-eval (.Name y p) X.env
   standAt apos.atName
   let (f,first) <-holding [ov] (getMethod ov m pl)
   callWith pos f first (backTo pos (starEach (e::es) X.env)) (backToKw pos (keywordEach [] X.env))):=by rfl) :
  PE X (.Call (.Attribute (.Name y p) m apos) (e::es) [] pos) (ZeB sp [] E t):=by
 intro pins s σ H Q I h;refine W.methodCall_KW (pl:=pl) (thn (Zir (v:=.ref C) hg hy rfl hd pins s σ H (λv H1=>v=.ref C/\H1=H) I ⟨rfl,rfl⟩) λu s1 ⟨x,H1,I1,rx,ex,eh⟩=>?_) ht;subst ex eh;obtain rfl:u=Value.ref C:=rx;obtain ⟨mc,r1,r2⟩:=c.rd;refine W.method_cls I1.kIn c.sg (W.cls_value I1.kIn r1 r2 c.hh ?_);have I2:=I1.tok (s1.toks+1);refine W.callWith_K (first:=[]) (h₀:=X.base) I.ok.mod.kin c.kp (thn (ha pos pins _ σ H1 _ I2 h) λus s2 ⟨vs,H2,I3,r,q2⟩=>⟨I3.kIn,?_⟩) hst hpl
 exact ZiV (us:=us) (vs:=vs) (dvs:=[]) F hr hb .nil hx I3 r q2
end
structure CalS(P:Program)(w:World)(K:W.Frag)(mg:Str->Option Value)(base:Heap)(k:Nat)(y m:Str)(n:Nat)(cs:List Str)(g:List D->Fs->Res Fs):Prop where
 ex:∃(C f:Addr) (fd:FuncData) (ps:List Str),mg y=some (.ref C)/\ClsM K C m f/\FnOk P w K mg base (CXR P w) k f fd ps (spI K mg n cs g)/\Binds K fd ps []
section
variable   {cs cs':List Str} {rest:List Stmt} {u:TS} {k:MSi}   {t:TA} {ma:MA} {apos p p':Pos} {y m:Str} {l:Nat} {g:List D->Fs->Res Fs} {pl:Sem Bool}
def ZqF(S:CalS X.prog X.w X.K X.mg X.base j y m n cs' g)(hr:Room l X.A)(hn:j<=l)(hg:Gl X y)(hx:Zbi (CXR X.prog X.w) X E)(hcs:∀c,cs.contains c=true->cs'.contains c=true)(ha:DA X E n es t ma)(h:DSi X E cs rest u k)(hN:X.N[0]?=some x:=by rfl)(hv:Vis X.env.scope x:=by first | exact Or.inl rfl | exact Or.inr (Or.inl rfl) | exact Or.inr (Or.inr rfl))(hd:(x==("__debug__" : Str))=false:=by decide)(hcd:(x==("__classdict__" : Str))=false:=by decide)(hdy:(y==("__debug__" : Str))=false:=by decide)(hst:starEach (.Name x p'::es) X.env=(false,eval (.Name x p') X.env)::starEach es X.env:=by rfl)(hpl:(backTo pos (starEach es X.env)).any (·.1)=false:=by rfl) (ht:eval (.Call (.Attribute (.Name y p) m apos) (.Name x p'::es) [] pos) X.env=(do
   let ov <-eval (.Name y p) X.env
   standAt apos.atName
   let (f,first) <-holding [ov] (getMethod ov m pl)
   callWith pos f first (backTo pos (starEach (.Name x p'::es) X.env)) (backToKw pos (keywordEach [] X.env))):=by rfl) (hs:swapsWith (.Call (.Attribute (.Name y p) m apos) (.Name x p'::es) [] pos) none spos.line X.env=pure false:=by rfl) :
  DSi X E cs (.Expr (.Call (.Attribute (.Name y p) m apos) (.Name x p'::es) [] pos) spos::rest) (tSeq (Zb3 (ZeB (spI X.K X.mg n cs' g) [] E (Zbd (tVar 0) t))) u) (iSup g ma k):=by
 obtain ⟨C0,f,fd,ps,hy,cm,F,hb⟩:=S.ex;refine ⟨ZbU (Zdc (ZoY hg hy cm F (hr.mono hn) hb hx (Zbh (ZbW hN hv hd hcd) ha.p hst) hdy hst hpl ht) hs) h.p,?_⟩;intro x dx C c F0 H0 F H σ ρ fs fl hc hm r;have A:=ha.s F0 H0 F H σ ρ r.rep;have L:=ha.n ρ;show AnsI X.K X.mg E x dx C F0 H0 ((ma ρ).bind λds=>(g ds fl).bind λfl'=>k ρ fl') (λD=>∃v,σ[0]?=some (some v)/\t σ H λvs H1=>spI X.K X.mg n cs' g (v::vs++[]) H1 (λ_ H2=>u D σ H2) E);have key:AnsI X.K X.mg E x dx C F0 H0 ((ma ρ).bind λds=>(g ds fl).bind λfl'=>k ρ fl') (λD=>t σ H λvs H1=>spI X.K X.mg n cs' g (.ref x::vs) H1 (λ_ H2=>u D σ H2) E):=by
  refine Zff (w':=λvs H1 D=>spI X.K X.mg n cs' g (.ref x::vs) H1 (λ_ H2=>u D σ H2) E) r A λds eds F1 H1 vs g1 rs=>?_;have r1:=r.gr g1;have hl:vs.length=n:=rs.length.trans (L ds eds);cases eg:g ds fl with
  | bad=>trivial
  | ex ec =>
   show AnsI X.K X.mg E x dx C F0 H0 (.ex ec) _;intro D q;refine ⟨by rw [VaM,hl],x,dx,C,c,vs,fs,F1,ds,fl,rfl,hcs c hc,hm,r1.hx,r1.fx,r1.rep.g.s,rs,r1.fr,(by rw [eg];intro z;cases z),(λfl' e=>by rw [eg] at e;cases e),λe' he F' H' fs' Ce g2 fx hx hce=>?_⟩;rw [eg] at he;cases he;have r2:=r1.go (fl':=fl) (fs':=fs) (F':=F') (H':=H') g2 fx;refine q F' H' fs' Ce ?_ fx hx hce;refine ⟨r1.rep.g.f.trans g2.f,g2.s,λa o h1 h2=>?_,λa o u e=>r1.rep.g.z a o u (g2.z a o u e)⟩;obtain ⟨q1,q2⟩:=r1.rep.g.o a o h1 h2;exact g2.o a o q1 (by rw [Zb5 (Zae h2 r.h0)];exact q2)
  | ok fl' =>
   show AnsI X.K X.mg E x dx C F0 H0 (k ρ fl') _;have nx:∀F' H' fs',Gr F1 (del H1 x) F' H'->F' x=none->H' x=some (.ins C dx fs')->FR X.K X.mg F' fs' fl'->AnsI X.K X.mg E x dx C F0 H0 (k ρ fl') (λD=>u D σ H'):=λF' H' fs' g2 fx hx fr=>h.s x dx C c F0 H0 F' H' σ ρ fs' fl' hc hm (r1.go g2 fx hx fr);generalize k ρ fl'=q0 at nx;cases q0 with
   | bad=>trivial
   | ok fl2 =>
    intro D q;refine ⟨by rw [VaM,hl],x,dx,C,c,vs,fs,F1,ds,fl,rfl,hcs c hc,hm,r1.hx,r1.fx,r1.rep.g.s,rs,r1.fr,(by rw [eg];intro z;cases z),(λfl'' e F' H' fs' g2 fx hx fr=>?_),λe' he=>by rw [eg] at he;cases he⟩;rw [eg] at e;cases e;exact nx F' H' fs' g2 fx hx fr D q
   | ex c2 =>
    intro D q;refine ⟨by rw [VaM,hl],x,dx,C,c,vs,fs,F1,ds,fl,rfl,hcs c hc,hm,r1.hx,r1.fx,r1.rep.g.s,rs,r1.fr,(by rw [eg];intro z;cases z),(λfl'' e F' H' fs' g2 fx hx fr=>?_),λe' he=>by rw [eg] at he;cases he⟩;rw [eg] at e;cases e;exact nx F' H' fs' g2 fx hx fr D q
 generalize ((ma ρ).bind λds=>(g ds fl).bind λfl'=>k ρ fl')=q0 at key;cases q0 with
 | bad=>trivial
 | ok fl'=>exact λD q=>⟨.ref x,r.self,by simpa using key D q⟩
 | ex c'=>exact λD q=>⟨.ref x,r.self,by simpa using key D q⟩
end
section
variable       {qual:Str} {f:Addr} {cs:List Str}
def ZjW{F:Hp}(s:Same F H)(fa:F a=none)(r:Rps K mg F vs ds)(hN:1<=N.length):Rep K mg F (del H a) F H (start N (z::vs)) (.no::ev0 (N.length - 1) ds):=by
 have hl:=r.length;have key:∀(i:Nat) (c:Cl),(ev0 (N.length - 1) ds)[i]?=some c->c=.no\/∃d,ds[i]?=some d/\c=.im d:=by
  intro i c e;rw [Zht] at e;by_cases hi:i<ds.length
  ·rw [Va2 (by simpa using hi),Va3,VbF hi] at e;exact .inr ⟨ds[i],VbF hi,(Vau e).symm⟩
  ·rw [Va0 (by simpa using hi),Va1] at e;split at e
   ·exact .inl (Vau e).symm
   ·cases e
 have key2:∀(i:Nat) (c:Cl),(Cl.no::ev0 (N.length - 1) ds)[i]?=some c->c=.no\/∃d j,i=j+1/\ds[j]?=some d/\c=.im d:=by
  intro i c e;cases i with
  | zero=>exact .inl (Vau e).symm
  | succ j =>
   rcases key j c (by simpa using e) with q | ⟨d,e1,e2⟩
   ·exact .inl q
   ·exact .inr ⟨d,j,rfl,e1,e2⟩
 refine ⟨⟨Same.refl _,s,λb o h1 h2=>⟨h1,?_⟩,λ_ _ _ e=>e⟩,?_,λi d e=>?_,λi ds' e=>?_,λi j ds' es' a e=>?_⟩
 ·by_cases hb:b=a
  ·subst hb;rw [Zed] at h2;cases h2
  ·rw [Zb5 hb] at h2;exact h2
 ·rw [Zht];unfold start;simp [hl];omega
 ·rcases key2 i _ e with q | ⟨d',j,rfl,e1,q⟩
  ·cases q
  ·cases q;obtain ⟨v,e2,rv⟩:=r.get e1;refine ⟨v,?_,rv⟩;have hi:j<vs.length:=(Vat.mp e2).1;unfold start;rw [VaN,List.cons_append,List.getElem?_cons_succ,Va2 (by simpa using hi),Va3,e2];rfl
 ·rcases key2 i _ e with q | ⟨d',j,_,e1,q⟩<;>cases q
 ·rcases key2 i _ e with q | ⟨d',j,_,e1,q⟩<;>cases q
def okI{st:Stmt}{mb:MSi}(F:Fun K x qual st f fd)(S:Zag N ps (Zac st))(hN:1<=N.length)(hp:ps.length=n+1)(h:∀(cdv:Value) (A:Around) (outer:List Env) (s:Shared) (H:Hp) (E:XK),Room k (A.deeper (envOfC qual (Zac st) s.heap.objs.size f cdv))->∃t,DSi (cxOf (CXR P w) P w K mg base N qual (Zac st) f cdv A outer s H E) E cs (Zav st) t mb) :
  FnOk P w K mg base (CXR P w) (k+1) f fd ps (spI K mg n cs (fnI N.length mb)):=by
 obtain ⟨oc,od,kV,doc,pm,an,cdv,ct,osl,rfl,lk,hcd⟩:=F.ex;refine Zix lk hcd S (λvs H Q E q=>q.1.trans hp.symm) λA outer s H vs Q E hr hsp=>?_;obtain ⟨t,hd⟩:=h cdv A outer s H E hr;refine ⟨t,hd.p,?_⟩;obtain ⟨_,x,dx,C,c,ys,fs,F0,ds,fl,rfl,hc,hm,hx,fx,s0,rs,fr,hb,hok,hex⟩:=hsp;have z:=hd.s x dx C c F0 (del H x) F0 H (start N (.ref x::ys)) (.no::ev0 (N.length - 1) ds) fs fl hc hm ⟨ZjW s0 fx rs hN,Zed,rfl,fx,hx,fr⟩;unfold fnI at hb hok hex;cases e:mb (.no::ev0 (N.length - 1) ds) fl with
 | ok fl' =>
  rw [e] at z;exact z _ λF' H' σ' fs' g fx' hx' fr'=>hok fl' e F' H' fs' g fx' hx' fr'
 | ex c' =>
  rw [e] at z;exact z _ λF' H' fs' Ce g fx' hx' hce=>hex c' e F' H' fs' Ce g fx' hx' hce
 | bad=>exact absurd e hb
def okM{st:Stmt}{mb:MS}(F:Fun K x qual st f fd)(S:Zag N ps (Zac st))(h:∀(cdv:Value) (A:Around) (outer:List Env) (s:Shared) (H:Hp) (E:XK),Room k (A.deeper (envOfC qual (Zac st) s.heap.objs.size f cdv))->∃t,DSs (cxOf (CXR P w) P w K mg base N qual (Zac st) f cdv A outer s H E) E (Zav st) t mb) :
  FnOk P w K mg base (CXR P w) (k+1) f fd ps (spD K mg ps.length (fn N.length mb)):=by
 obtain ⟨oc,od,kV,doc,pm,an,cdv,ct,osl,rfl,lk,hcd⟩:=F.ex;refine Zix lk hcd S (λvs H Q E q=>q.1) λA outer s H vs Q E hr hsp=>?_;obtain ⟨t,hd⟩:=h cdv A outer s H E hr;refine ⟨t,hd.p,?_⟩;obtain ⟨_,F0,ds,s0,rs,hb,hok,hex⟩:=hsp;have z:=hd.s F0 H F0 H (start N vs) (ev0 N.length ds) (Zc0 s0 rs);unfold fn at hb hok hex;cases e:mb (ev0 N.length ds) with
 | ok fl =>
  rw [e] at z hb hok hex;cases fl with
  | nx ρ=>exact z _ λF' H' σ' _ r'=>hok .non rfl F' H' .non r'.g .non
  | rt d=>exact z _ λF' H' v g rv=>hok d rfl F' H' v g rv
  | bk ρ=>exact absurd rfl hb
  | ct ρ=>exact absurd rfl hb
 | ex c =>
  rw [e] at z hex;exact z _ λF' H' C g hc=>hex c rfl F' H' C g hc
 | bad=>rw [e] at hb;exact absurd rfl hb
end
structure CalI(P:Program)(w:World)(K:W.Frag)(mg:Str->Option Value)(base:Heap)(k:Nat)(c:Str)(n:Nat)(cs:List Str)(g:List D->Fs->Res Fs):Prop where
 ex:∃(C f:Addr) (fd:FuncData) (ps:List Str),mg c=some (.ref C)/\Mk K C f/\FnOk P w K mg base (CXR P w) k f fd ps (spI K mg n cs g)/\Binds K fd ps []/\cs.contains c=true
def Znx(K:W.Frag)(mg:Str->Option Value)(c:Str)(n:Nat)(cs:List Str)(g:List D->Fs->Res Fs)(E:XK)(t:TA):TE:=λσ H Q=>∃C,mg c=some (.ref C)/\Zn5 C (spI K mg n cs g) [] E t σ H Q
section
variable    {c:Str}  {cs:List Str} {g:List D->Fs->Res Fs} {t:TA} {ma:MA}
def ZpL(hm:mg c=some (.ref C))(hc:cs.contains c=true)(ha:SA K mg E t ma)(hl:SAn n ma):SE K mg E (Znx K mg c n cs g E t) (make c g ma):=by
 intro F0 H0 F H σ ρ rr;refine Ans.imp (w:=λQ=>Zn5 C (spI K mg n cs g) [] E t σ H Q) ?_ λQ q=>⟨C,hm,q⟩;show Ans mg E (Rp K mg) F H ((ma ρ).bind λds=>(g ds []).bind λfl=>.ok (.ins c (fl.map (·.1)) (fl.map (·.2)))) _;refine (ha F0 H0 F H σ ρ rr).bindE (w':=λvs H1 (Q:V->Hp->Prop)=>∀x dx,H1 x=none->H1 dx=none->dx≠x->spI K mg n cs g (.ref x::(vs++[])) (upd (upd H1 dx (.own x)) x (.ins C dx [])) (λv H2=>v=.non/\Q (V.ref x) H2) E) λds eds F1 H1 vs g1 rs=>?_;have hl':vs.length=n:=rs.length.trans (hl ρ ds eds);have base:∀x dx,H1 x=none->H1 dx=none->dx≠x->F1 x=none/\F1 dx=none/\Same F1 (upd (upd H1 dx (.own x)) x (.ins C dx []))/\del (upd (upd H1 dx (.own x)) x (.ins C dx [])) x=upd H1 dx (.own x):=by
  intro x dx hx hdx hne;refine ⟨g1.s.free hx,g1.s.free hdx,λa o e=>?_,?_⟩
  ·have z:=g1.s a o e;rw [Zad (Zae z hx),Zad (Zae z hdx)];exact z
  ·funext a;by_cases h:a=x
   ·subst h;rw [Zed,Zad (Ne.symm hne)];exact hx.symm
   ·rw [Zb5 h,Zad h]
 cases eg:g ds [] with
 | bad=>trivial
 | ex ec =>
  show Ans mg E (Rp K mg) F1 H1 (.ex ec) _;intro Q q x dx hx hdx hne;obtain ⟨f1,f2,s1,e1⟩:=base x dx hx hdx hne;refine ⟨by simp [hl'],x,dx,C,c,vs,[],F1,ds,[],by simp,hc,hm,Zaf,f1,s1,rs,⟨rfl,.nil⟩,(by rw [eg];intro z;cases z),(λfl' e=>by rw [eg] at e;cases e),λe' he F' H' fs' Ce g2 fx hx' hce=>?_⟩;rw [eg] at he;cases he;rw [e1] at g2;refine q F' H' Ce ⟨g2.f,g2.s,λa o h1 h2=>?_,g2.z⟩ hce;exact g2.o a o h1 (by rw [Zad (Zae h2 hdx)];exact h2)
 | ok fl =>
  show Ans mg E (Rp K mg) F1 H1 (.ok (.ins c (fl.map (·.1)) (fl.map (·.2)))) _;intro Q q x dx hx hdx hne;obtain ⟨f1,f2,s1,e1⟩:=base x dx hx hdx hne;refine ⟨by simp [hl'],x,dx,C,c,vs,[],F1,ds,[],by simp,hc,hm,Zaf,f1,s1,rs,⟨rfl,.nil⟩,(by rw [eg];intro z;cases z),(λfl' e F' H' fs' g2 fx hx' fr=>?_),λe' he=>by rw [eg] at he;cases he⟩;rw [eg] at e;cases e;rw [e1] at g2;obtain ⟨d1,d2⟩:=g2.o dx _ f2 Zaf;refine ⟨rfl,q (upd (upd F' dx (.own x)) x (.ins C dx fs')) H' (.ref x) ⟨?_,?_,λa o h1 h2=>?_,λa o u e=>g2.z a o u (ZdV (λ_ _ z=>by cases z) (ZdV (λ_ _ z=>by cases z) e))⟩ ?_⟩
  ·refine (g2.f.trans (ZaA d1 _)).trans (ZaA ?_ _);rw [Zad (Ne.symm hne)];exact fx
  ·intro a o e;by_cases ha:a=x
   ·subst ha;rw [Zaf] at e;cases e;exact hx'
   ·rw [Zad ha] at e;by_cases hb:a=dx
    ·subst hb;rw [Zaf] at e;cases e;exact d2
    ·rw [Zad hb] at e;exact g2.s a o e
  ·have n1:a≠x:=Zae h2 hx;have n2:a≠dx:=Zae h2 hdx;obtain ⟨q1,q2⟩:=g2.o a o h1 (by rw [Zad n2];exact h2);rw [Zad n1,Zad n2];exact ⟨q1,q2⟩
  ·have sF:Same F' (upd (upd F' dx (.own x)) x (.ins C dx fs')):=(ZaA d1 _).trans (ZaA (by rw [Zad (Ne.symm hne)];exact fx) _);have z:Rp K mg (upd (upd F' dx (.own x)) x (.ins C dx fs')) (.ref x) (.ins c (fs'.map (·.1)) (fl.map (·.2))):=.ins hm Zaf (by rw [Zad hne,Zaf]) rfl (fr.rv.same sF);rw [fr.nm] at z;exact z
end
section
variable   {l:Nat} {c:Str} {cs:List Str} {g:List D->Fs->Res Fs}   {t:TA} {ma:MA} {p:Pos}
def Zqf(M:CalI X.prog X.w X.K X.mg X.base k c n cs g)(hr:Room l X.A)(hn:k+1<=l)(hg:Gl X c)(hx:Zbi (CXR X.prog X.w) X E)(ha:DA X E n (e::es) t ma)(hdb:(c==("__debug__" : Str))=false:=by decide)(he:starEach (e::es) X.env=(false,eval e X.env)::starEach es X.env:=by rfl)(hpl:(backTo pos (starEach es X.env)).any (·.1)=false:=by rfl) :
  DE X E (.Call (.Name c p) (e::es) [] pos) (Znx X.K X.mg c n cs g E t) (make c g ma):=by
 obtain ⟨C,f,fd,ps,hm,mk,F,hb,hc⟩:=M.ex;refine ⟨?_,ZpL hm hc ha.s ha.n⟩;intro pins s σ H Q I ⟨C',hC,h⟩;rw [hm] at hC;cases hC;exact Zo1 mk F (hr.mono hn) hg hm hb .nil hx ha.p hdb he hpl pins s σ H Q I h
end
end L2.Ds
namespace Dl
def insO(i:Nat)(k e:ME):MS:=λρ=>(getO ρ[i]?).bind λxs=>(k ρ).bind λu=>match u with
 | .int j=>(e ρ).bind λd=>if (0<=j/\j<=xs.length)/\xs.length<LIM then .ok (.nx (ρ.set i (.ow (xs.take j.toNat++d::xs.drop j.toNat)))) else .bad
 | _=>.bad
end Dl
namespace L2
def Zio:V->List V->Hp->VK->Prop:=λx vs H Q=>∃l xs j y,x=.ref l/\vs=[.int j,y]/\H l=some (.lst xs)/\(0<=j/\j<=xs.length)/\xs.length<sizeLine/\Q .non (upd H l (.lst (xs.take j.toNat++y::xs.drop j.toNat)))
def Vals.takeN:∀{xs:List V} {us:List Value} (n:Nat),Vals xs us->Vals (xs.take n) (us.take n)
 | _,_,0,_=>.nil
 | _,_,_+1,.nil=>.nil
 | _,_,n+1,.cons h r=>.cons h (Vals.takeN n r)
def Vals.dropN:∀{xs:List V} {us:List Value} (n:Nat),Vals xs us->Vals (xs.drop n) (us.drop n)
 | _,_,0,r=>r
 | _,_,_+1,.nil=>.nil
 | _,_,n+1,.cons _ r=>Vals.dropN n r
def ZlC:MtR X "list.insert" Zio:=by
 intro pins s σ H x vs v us Q I rx rv h;obtain ⟨l,xs,j,y,rfl,rfl,hH,hj,hz,q⟩:=h;cases rx;cases rv with
 | @cons _ u0 _ us0 r1 rv =>
  have rv:Vals [y] us0:=rv;obtain ⟨u,rfl,ru⟩:=rv.one;obtain ⟨t,rfl⟩:=r1;obtain ⟨z,its,n,r,hl,e⟩:=I.lstM hH;have hs:sizeLine<2^63:=by decide
  refine call_meets F.slot_list_insert ⟨_,e,rfl⟩ F.entry_list_insert (F.args_list_insert_3 _ _ _) (PySem.AutoSeq1.list_insert_list_int_val_1 l its.toArray n j t u (by rw [fitsIndex_both (by omega) (by omega)];exact VaC) (by rw [Va7];omega)) ⟨e,?_⟩;refine ⟨.non,_,I.lset (its':=its.take j.toNat++u::its.drop j.toNat) hH e ?_ ((r.takeN j.toNat).append (.cons ru (r.dropN j.toNat))) ?_,rfl,q⟩
  ·have hk:(if j<0 then (j+(its.toArray.size:Int)).toNat else min j.toNat its.toArray.size)=j.toNat:=by
    rw [if_neg (by omega),Va7];omega
   show (its.toArray.extract 0 (if j<0 then (j+(its.toArray.size:Int)).toNat else min j.toNat its.toArray.size)).push u++its.toArray.extract (if j<0 then (j+(its.toArray.size:Int)).toNat else min j.toNat its.toArray.size)=_
   rw [hk];apply Array.toList_inj.mp;simp
   try rw [List.take_of_length_le (by simp)]
  ·rw [Va5,VaM,VaY,List.length_drop];omega
end L2
namespace L2.Ds
open Dl
section
variable    {tk:TE} {mk:ME}
def ZrT(hk:SE K mg E tk mk)(ha:SE K mg E te me):SS K mg E (Zb3 (tBM K "list" Zio (tVar i) (Zbd tk (Zbd te tNil)))) (insO i mk me):=by
 intro F0 H0 F H σ ρ rr;unfold insO getO;split
 ·next ds e =>
  obtain ⟨a,xs,e2,e4,e5,e3,hr⟩:=rr.ow i ds e;have hl:xs.length=ds.length:=hr.length;have hty:tyV K "list" (.ref a) H:=.inl ⟨rfl,xs,SqL.of e3⟩
  have h:=(hk F0 H0 F H σ ρ rr).stm (K:=K) (k:=λu=>match u with
   | .int j=>(me ρ).bind λd=>if (0<=j/\j<=ds.length)/\ds.length<LIM then .ok (.nx (ρ.set i (.ow (ds.take j.toNat++d::ds.drop j.toNat)))) else .bad
   | _=>.bad) (w':=λx H1 D=>te σ H1 λy H2=>Zio (.ref a) [x,y] H2 λ_ H3=>D.nx σ H3) rr.g λu _ F1 H1 x g1 rx=>?_
  ·show AnsS K mg E F0 H0 F ((mk ρ).bind λu=>match u with
    | .int j=>(me ρ).bind λd=>if (0<=j/\j<=ds.length)/\ds.length<LIM then .ok (.nx (ρ.set i (.ow (ds.take j.toNat++d::ds.drop j.toNat)))) else .bad
    | _=>.bad) _
   have fin:∀D,(tk σ H λx H1=>te σ H1 λy H2=>Zio (.ref a) [x,y] H2 λ_ H3=>D.nx σ H3)->Zb3 (tBM K "list" Zio (tVar i) (Zbd tk (Zbd te tNil))) D σ H:=λD z=>⟨.ref a,e2,hty,z⟩
   generalize ((mk ρ).bind λu=>match u with
    | .int j=>(me ρ).bind λd=>if (0<=j/\j<=ds.length)/\ds.length<LIM then Res.ok (Fl.nx (ρ.set i (.ow (ds.take j.toNat++d::ds.drop j.toNat)))) else .bad
    | _=>.bad)=res at h
   cases res with
   | ok f =>
    cases f with
    | nx ρ=>exact λD q=>fin D (h D q)
    | bk ρ=>exact λD q=>fin D (h D q)
    | ct ρ=>exact λD q=>fin D (h D q)
    | rt d=>exact λD q=>fin D (h D q)
   | ex c=>exact λD q=>fin D (h D q)
   | bad=>trivial
  ·cases u with
   | int j =>
    cases rx;have r1:=rr.gr g1;obtain ⟨q1,q2⟩:=g1.o a _ e5 e3;refine (ha F0 H0 F1 H1 σ ρ r1).stm (w':=λy H2 D=>Zio (.ref a) [.int j,y] H2 λ_ H3=>D.nx σ H3) r1.g λd _ F2 H2 y g2 ry=>?_;have r2:=r1.gr g2;obtain ⟨p1,p2⟩:=g2.o a _ q1 q2;have hr2:=(hr.same g1.f).same g2.f;by_cases hc:(0<=j/\j<=ds.length)/\ds.length<LIM
    ·rw [if_pos hc];exact λD q=>⟨a,xs,j,y,rfl,rfl,p2,by rw [hl];exact hc.1,by rw [hl];exact Vad hc.2 (by decide),q F2 _ σ (Same.refl _) (r2.put e e2 p2 e4 p1 (Rps.app (.cons ry (hr2.drop j.toNat)) (hr2.take j.toNat)))⟩
    ·rw [if_neg hc];trivial
   | _=>trivial
 ·trivial
end
section
variable   {k':Expr} {tk:TE} {mk:ME}  {np apos:Pos}
def Zqr(i)(hk:DE X E k' tk mk)(he:DE X E e te me)(hN:X.N[i]?=some x:=by rfl)(hv:Vis X.env.scope x:=by first | exact Or.inl rfl | exact Or.inr (Or.inl rfl) | exact Or.inr (Or.inr rfl))(hd:(x==("__debug__" : Str))=false:=by decide)(hcd:(x==("__classdict__" : Str))=false:=by decide)(hbase:attributeBase (.Name x np) "insert" X.env (eval (.Name x np) X.env)=eval (.Name x np) X.env:=by rfl) (hfew:((backTo cpos (starEach [k',e] X.env)).all (λx=>!x.1)&&(backToKw cpos (keywordEach [] X.env)).all (λx=>x.1.isSome)
   && decide ([k',e].length+([]:List Keyword).length+(if ([]:List Keyword).isEmpty then 0 else 1)<30))=true:=by rfl) (hline:(apos.endLine==cpos.line)=true:=by rfl) (hs:starEach [k',e] X.env=(false,eval k' X.env)::starEach [e] X.env:=by rfl) (hs2:starEach [e] X.env=(false,eval e X.env)::starEach [] X.env:=by rfl) (hplain:(backTo cpos (starEach [e] X.env)).any (·.1)=false:=by rfl) (hsw:swapsWith (.Call (.Attribute (.Name x np) "insert" apos) [k',e] [] cpos) none spos.line X.env=pure false:=by rfl) :
  DS X E (.Expr (.Call (.Attribute (.Name x np) "insert" apos) [k',e] [] cpos) spos) (Zb3 (tBM X.K "list" Zio (tVar i) (Zbd tk (Zbd te tNil)))) (insO i mk me) :=
 ⟨Zdc (Zmk VbI PySem.F.slot_list_insert PySem.F.type_list_insert ZlC (ZbW hN hv hd hcd) (Zbh hk.p (Zbh he.p Zeh hs2) hs) hbase hfew hline hs hplain) hsw,ZrT hk.s he.s⟩
end
end L2.Ds
namespace L2.Ds
open Dl
section
variable    {G Gb F:Hp} {x:V}
def Rep.lookA(r:Rep K mg F0 H0 F H σ ρ)(e:ρ[i]?=some (.ow ds))(e2:σ[i]?=some (some (.ref a)))(e4:H0 a=none)(e5:F a=none)(e3:H a=some (.lst xs))(hr:Rps K mg F xs ds) :
  Rep K mg F0 H0 (upd F a (.lst xs)) H σ (ρ.set i (.im (.lst ds)))/\∀F1 H1,Gr (upd F a (.lst xs)) H F1 H1->Gr F H (del F1 a) H1:=by
 have sF:Same F (upd F a (.lst xs)):=ZaA e5 _;refine ⟨⟨⟨r.g.f.trans sF,λb o q=>?_,λb o q1 q2=>?_,λb o u q=>r.g.z b o u (ZdV (λ_ _ z=>by cases z) q)⟩,by rw [Vbj];exact r.len,λj u q=>?_,λj es q=>?_,λj k es ts b q1 q2 q3 q4=>?_⟩,λF1 H1 g=>⟨λb o q=>?_,λb o q=>?_,λb o q1 q2=>?_,λb o u q=>ZdV (λ_ _ z=>by cases z) (g.z b o u (ZiU q))⟩⟩
 ·by_cases hb:b=a
  ·subst hb;rw [Zaf] at q;cases q;exact e3
  ·rw [Zad hb] at q;exact r.g.s b o q
 ·rw [Zad (Zae q2 e4)];exact r.g.o b o q1 q2
 ·rcases Zap q with ⟨rfl,z,_⟩ | ⟨_,q⟩
  ·cases z;exact ⟨.ref a,e2,.lst (SqL.of Zaf) (hr.same sF)⟩
  ·obtain ⟨x,h1,h2⟩:=r.im j u q;exact ⟨x,h1,h2.same sF⟩
 ·rcases Zap q with ⟨_,z,_⟩ | ⟨hij,q⟩
  ·cases z
  ·obtain ⟨b,ys,h1,h2,h3,h4,h5⟩:=r.ow j es q;have nb:b≠a:=by
    rintro rfl;exact hij (r.ne i j ds es b e q e2 h1)
   exact ⟨b,ys,h1,h2,by rw [Zad nb];exact h3,h4,h5.same sF⟩
 ·rcases Zap q1 with ⟨_,z,_⟩ | ⟨_,q1⟩
  ·cases z
  ·rcases Zap q2 with ⟨_,z,_⟩ | ⟨_,q2⟩
   ·cases z
   ·exact r.ne j k es ts b q1 q2 q3 q4
 ·rw [Zb5 (Zae q e5)];exact g.f b o (sF b o q)
 ·by_cases hb:b=a
  ·subst hb;rw [Zed] at q;cases q
  ·rw [Zb5 hb] at q;exact g.s b o q
 ·by_cases hb:b=a
  ·subst hb;rw [e3] at q2;cases q2;exact ⟨Zed,g.s _ _ (g.f _ _ Zaf)⟩
  ·rw [Zb5 hb];exact g.o b o (by rw [Zad hb];exact q1) q2
end
end L2.Ds
namespace L2.Ds
open Dl
section
variable    {F:Hp}
def Zs0(g:Gr F0 H0 F H)(h:H b=none):H0 b=none:=by
 cases q:H0 b with
 | none=>rfl
 | some o =>
  cases q2:F0 b with
  | none=>rw [(g.o b o q2 q).2] at h;cases h
  | some u=>rw [g.s _ _ (g.f b u q2)] at h;cases h
end
section
variable    {G Gb F:Hp} {x:V}
def Zpd(ha:SA K mg E t m)(hl:SAn n m)(hn:n<=sizeLine):SEl K mg E (tLst t) (mls m):=by
 intro F0 H0 F H σ ρ rr;have h:=ha F0 H0 F H σ ρ rr;unfold mls;cases e:m ρ with
 | ok ds =>
  rw [e] at h;exact λQ q=>h _ λF' H' xs g rs=>⟨by rw [rs.length,hl ρ ds e];exact hn,λp hp=>q _ _ _ (g.trans (.new g.s hp _)) ⟨p,xs,ds,rfl,rfl,g.f.free (g.s.free hp),Zaf,rs.same (ZaA (g.s.free hp) _)⟩⟩
 | ex c =>
  rw [e] at h;exact λQ q=>h _ q
 | bad=>trivial
end
section
variable   {l nn:Nat} {y:Str}  {f:List D->Res D} {t:TA} {m:MA}   {p:Pos}
def ZrP(ha:DA X E n es t m)(hn:n<=sizeLine:=by decide):DEl X E (.List es pos) (tLst t) (mls m):=⟨Zhk ha.p,Zpd ha.s ha.n hn⟩
end
end L2.Ds
namespace L2
open PySem.W
def Ze2(c:Addr)(q:Str):HO:=.ext λh=>h.CodeRec (.ref c) q
def objX(a:Addr)(o:Obj):HO:=.ext λh=>h.get? a=some o
def Zl8{P:Program}{w:World}{H:Hp}{h:Heap}{c:Addr}{q:Str}(e:h.CodeRec (.ref c) q):Zbt P w H h c (Ze2 c q):=by
 refine ⟨e,?_,λh1 h2 x k=>?_⟩
 ·obtain ⟨c',o,vs,t,e1,e2,_⟩:=e;cases e1;exact ⟨o,e2⟩
 ·obtain ⟨c',o,vs,t,e1,e2,r⟩:=x;cases e1;exact ⟨c,o,vs,t,rfl,k o e2,r⟩
def Zh4{P:Program}{w:World}{H:Hp}{h:Heap}{a:Addr}{o:Obj}(e:h.get? a=some o):Zbt P w H h a (objX a o):=⟨e,⟨o,e⟩,λ_ _ x k=>k o x⟩
def ZlT{P:Program}{w:World}{H:Hp}{h:Heap}{c:Addr}{q:Str}(x:HOk P w H h)(e:H c=some (Ze2 c q)):h.CodeRec (.ref c) q:=(show _/\_ from x c _ e).1
def ZgZ{P:Program}{w:World}{H:Hp}{h:Heap}{a:Addr}{o:Obj}(x:HOk P w H h)(e:H a=some (objX a o)):h.get? a=some o:=(show _/\_ from x a _ e).1
structure TabGood(H:Hp)(q:Str)(ps:Array Value):Prop where
 ok:TriplesOk ps.toList
 co:∀pos cv,codeAmong pos ps.toList=some cv->∃c,cv=.ref c/\H c=some (Ze2 c q)
def TabGood.nil{H:Hp}{q:Str}:TabGood H q #[]:=⟨trivial,λ_ _ h=>by cases h⟩
def ZeY{a b:Nat}{c:Value}:∀{l:List Value},TriplesOk l->TriplesOk (l++[rawInt a,rawInt b,c])
 | [],_=>trivial
 | .int _ _::.int _ _::_::r,h=>ZeY (l:=r) h
def Zgj{pos pos':Pos}{c cv:Value}:∀{l:List Value},TriplesOk l->codeAmong pos' (l++[rawInt pos.line,rawInt pos.col,c])=some cv->codeAmong pos' l=some cv\/cv=c
 | [],_,h=>by
  have h':(if ((pos.line:Int)==pos'.line&&(pos.col:Int)==pos'.col)=true then some c else none)=some cv:=h
  split at h'
  ·exact .inr (Vau h').symm
  ·cases h'
 | .int i t::.int j u::d::r,ht,h=>by
  have h':(if (i==pos'.line&&j==pos'.col)=true then some d else codeAmong pos' (r++[rawInt pos.line,rawInt pos.col,c]))=some cv:=h
  show (if (i==pos'.line&&j==pos'.col)=true then some d else codeAmong pos' r)=some cv\/cv=c
  split at h'
  ·rename_i z;rw [if_pos z];exact .inl h'
  ·rename_i z;rw [if_neg z];exact Zgj (l:=r) ht h'
def TabGood.snoc{H H':Hp}{q:Str}{ps:Array Value}{pos:Pos}{c:Addr}(g:TabGood H q ps)(k:∀b o,H b=some o->(∀ps,o≠.tbl ps)->H' b=some o)(hc:H' c=some (Ze2 c q)):TabGood H' q (ps++#[rawInt pos.line,rawInt pos.col,.ref c]):=by
 have e:(ps++#[rawInt pos.line,rawInt pos.col,.ref c]).toList=ps.toList++[rawInt pos.line,rawInt pos.col,.ref c]:=by simp
 refine ⟨by rw [e];exact ZeY g.ok,λpos' cv h=>?_⟩;rw [e] at h;rcases Zgj g.ok h with h | rfl
 ·obtain ⟨d,e1,e2⟩:=g.co pos' cv h;exact ⟨d,e1,k d _ e2 λps z=>by cases z⟩
 ·exact ⟨c,rfl,hc⟩
def TabGood.up{H H':Hp}{q:Str}{ps:Array Value}(g:TabGood H q ps)(k:∀b o,H b=some o->(∀ps,o≠.tbl ps)->H' b=some o):TabGood H' q ps:=⟨g.ok,λpos cv h=>by
 obtain ⟨d,e1,e2⟩:=g.co pos cv h
 exact ⟨d,e1,k d _ e2 λps z=>by cases z⟩⟩
section
variable   {σ:List (Option V)}   {h':Heap} {P:Addr} {ps more:Array Value}
def Inv.tabbed{t':Nat}(I:Inv X pins σ H s)(hP:H P=some (.tbl ps))(k:∀b u,b≠P->s.heap.get? b=some u->h'.get? b=some u)(e:h'.get? P=some (tabObj (ps++more))) :
  Inv X pins σ (upd H P (.tbl (ps++more))) { s with heap:=h',toks:=t' }:=by
 have ne:∀b,H b=none->b≠P:=λb n z=>by rw [z,hP] at n;cases n
 have ne2:∀b o,H b=some o->(∀ps,o≠.tbl ps)->b≠P:=λb o q n z=>by rw [z,hP] at q;cases q;exact n ps rfl
 refine I.un ⟨λb u q n _ _=>k b u (ne b n) q,λb u q n _ _=>⟨u.slots,k b u (ne b n) q⟩,λb u q n _=>by rw [Zad (ne b n)];exact n,λb u q _=>?_,λb xs q=>by rw [Zad (ne2 b _ q λ_ z=>by cases z)];exact q,
  λb o u q=>by rw [Zad (ne2 b _ q λ_ z=>by cases z)];exact q,λb qs q=>?_⟩ λb o q=>?_
 ·by_cases z:b=P
  ·subst z;exact ⟨_,e⟩
  ·exact ⟨u,k b u z q⟩
 ·by_cases z:b=P
  ·subst z;rw [hP] at q;cases q;exact ⟨more,Zaf⟩
  ·exact ⟨#[],by rw [Zad z,q];simp⟩
 ·by_cases z:b=P
  ·subst z;rw [Zaf] at q;cases q;exact e
  ·rw [Zad z] at q;refine (I.hok b o q).stay (λc v hc r=>k c v ?_ r) (λc r=>by rw [Zad (ne2 c _ r λ_ z=>by cases z)];exact r) λc xs r=>by rw [Zad (ne2 c _ r λ_ z=>by cases z)];exact r
   rcases hc with rfl | hc
   ·exact z
   ·exact ne2 c _ hc λ_ z=>by cases z
def Inv.track{a:Addr}{o:HO}{n:Nat}(I:Inv X pins σ H s)(hn:H a=none)(h0:X.s₀.heap.objs.size<=a)(h1:a≠X.env.locals)(h2:∀x c,X.env.cells.lookup x=some c->c≠a)(h3:∀p∈X.pn++pins,p.1≠a)(new:Zbt X.prog X.w (upd H a o) s.heap a o):Inv X pins σ (upd H a o) s:=by
 have lo:∀b u,X.s₀.heap.get? b=some u->b≠a:=λb u e=>Vaf (Vad (Vac e) h0);refine ⟨I.ok,I.os,I.bare,⟨I.base.keep,I.base.slot,λb u e n hx=>by rw [Zad (lo b u e)];exact I.base.free b u e n hx,I.base.there,λb xs e=>?_,λb ob u e=>?_,λb ps e=>?_⟩,I.loc,I.cell,by rw [Zad (Ne.symm h1)];exact I.free,λx c e=>by rw [Zad (h2 x c e)];exact I.freeC x c e,λp hp=>?_,λb u e=>?_,I.len⟩
 ·have q:=I.base.tups b xs e;rw [Zad (Zae q hn)];exact q
 ·have q:=I.base.frzs b ob u e;rw [Zad (Zae q hn)];exact q
 ·obtain ⟨m,q⟩:=I.base.tbls b ps e;exact ⟨m,by rw [Zad (Zae q hn)];exact q⟩
 ·obtain ⟨e,n,r⟩:=I.pin p hp;exact ⟨e,by rw [Zad (h3 p hp)];exact n,r⟩
 ·by_cases z:b=a
  ·subst z;rw [Zaf] at e;cases e;exact new
  ·rw [Zad z] at e;exact (I.hok b u e).stay (λ_ _ _ q=>q) (λc q=>by rw [Zad (Zae q hn)];exact q) λc xs q=>by rw [Zad (Zae q hn)];exact q
def Inv.beyond{a:Addr}(I:Inv X pins σ H s)(ha:s.heap.objs.size<=a):X.s₀.heap.objs.size<=a/\a≠X.env.locals/\(∀x c,X.env.cells.lookup x=some c->c≠a)/\(∀p∈X.pn++pins,p.1≠a)/\H a=none:=by
 refine ⟨Vaj I.sz ha,VaD (Vad I.lt ha),λx c e=>?_,λp hp=>?_,I.hok.fresh ha⟩
 ·obtain ⟨v,o,ho,_⟩:=I.cell x c e;exact Vaf (Vad (Vac ho) ha)
 ·exact Vaf (Vad (Vac (I.pin p hp).1) ha)
structure Made(X:Cx)(pins:List (Addr×Obj))(σ:List (Option V))(H H':Hp)(s':Shared)(P:Addr)(q:Str)(f c:Addr)(ps':Array Value)(o:Obj):Prop where
 inv:Inv X pins σ H' s'
 tab:H' P=some (.tbl ps')
 good:TabGood H' q ps'
 code:H' c=some (Ze2 c q)
 fn:H' f=some (objX f o)
 keep:∀b o,b≠P->H b=some o->H' b=some o
 new:H f=none
 some:∀b,b≠P->H b=none->H' b≠none->b=c\/b=f
def ZmZ{c P:Addr}{params:Arguments}{body:Expr}{scope:Scope}{pos:Pos}{clos:List (Str×Addr)}{Q:Value->Shared->Prop}{E:Value->Shared->Prop}(I:Inv X pins σ H s)(hd:defaultsOf params X.env=([],[]))(hcl:closureFor scope X.env=pure clos)(hge:X.env.globals=mainGlobals)
  (hcode:X.env.code=.ref c) (C:CodeHd X.base c P) (hb:X.base.BuiltinsAt X.mg P) (hP:H P=some (.tbl ps)) (hgP:mainGlobals≠P) (g:TabGood H (X.env.qual ++ "<lambda>") ps)
  (h:∀f c' ctv ps' H' s',Made X pins σ H H' s' P (X.env.qual ++ "<lambda>") f c' ps' { cls:=.type "function", data:=.func (kla_fn "<lambda>" (X.env.qual ++ "<lambda>") params body scope clos ((X.mg "__name__").getD .none) (.ref c') ctv) }->Q (.ref f) s') :
  wpAny (model X.prog X.w) X.A (eval (.Lambda params body scope pos) X.env) Q E s:=by
 have bk:=I.bk;have hP':s.heap.get? P=some (tabObj ps):=I.hok P _ hP;have hg:=I.mod.glob.keeps bk;have hb':s.heap.BuiltinsAt X.mg P:=by
  obtain ⟨bm,o,b1,b2,b3,b4,b5,b6⟩:=hb;exact ⟨bm,o,b1,b2,b3,b4,bk _ _ b5,b6⟩
 refine kla_eval hd ?_;cases e:codeAmong pos ps.toList with
 | none =>
  refine kla_makeFunction hcl hge hg hcode (C.keeps bk) hP' g.ok e hgP hb' λc' ctv h' tk hx hge' hlt hrec htb=>?_;obtain ⟨ob,hob⟩ : ∃ob:Obj,ob={ cls:=.type "function", data:=.func (kla_fn "<lambda>" (X.env.qual ++ "<lambda>") params body scope clos ((X.mg "__name__").getD .none) (.ref c') ctv) }:=⟨_,rfl⟩;obtain ⟨n1,n2,n3,n4,n5⟩:=I.beyond hge';have hf:s.heap.objs.size<=h'.objs.size:=Vaj hge' (Vak hlt);obtain ⟨m1,m2,m3,m4,m5⟩:=I.beyond hf;have nP:∀a,H a=none->a≠P:=λa n z=>by rw [z,hP] at n;cases n
  have I1:=I.tabbed (t':=tk) (h':=h'.push ob) (more:=#[rawInt pos.line,rawInt pos.col,.ref c']) hP (λb u nb q=>VaF _ (hx b u nb q)) (VaF _ htb);have c1:upd H P (.tbl (ps++#[rawInt pos.line,rawInt pos.col,.ref c'])) c'=none:=by rw [Zad (nP _ n5)];exact n5
  have I2:=I1.track (n:=0) (o:=Ze2 c' (X.env.qual ++ "<lambda>")) c1 n1 n2 n3 n4 (Zl8 (hrec.push ob));have ne:h'.objs.size≠c':=VaD hlt;have f1:upd (upd H P (.tbl (ps++#[rawInt pos.line,rawInt pos.col,.ref c']))) c' (Ze2 c' (X.env.qual ++ "<lambda>")) h'.objs.size=none:=by rw [Zad ne,Zad (nP _ m5)];exact m5
  have I3:=I2.track (n:=0) (o:=objX h'.objs.size ob) f1 m1 m2 m3 m4 (Zh4 (VaG _ (by rw [hob];rfl)));have kp:∀b o,H b=some o->(∀ps,o≠.tbl ps)->upd (upd (upd H P (.tbl (ps++#[rawInt pos.line,rawInt pos.col,.ref c']))) c' (Ze2 c' (X.env.qual ++ "<lambda>"))) h'.objs.size (objX h'.objs.size ob) b=some o:=λb o q nt=>by
   have a1:b≠P:=λz=>by rw [z,hP] at q;cases q;exact nt ps rfl
   rw [Zad (Zae q m5),Zad (Zae q n5),Zad a1];exact q
  have kq:∀b o,b≠P->H b=some o->upd (upd (upd H P (.tbl (ps++#[rawInt pos.line,rawInt pos.col,.ref c']))) c' (Ze2 c' (X.env.qual ++ "<lambda>"))) h'.objs.size (objX h'.objs.size ob) b=some o:=λb o a1 q=>by
   rw [Zad (Zae q m5),Zad (Zae q n5),Zad a1];exact q
  have cc:upd (upd (upd H P (.tbl (ps++#[rawInt pos.line,rawInt pos.col,.ref c']))) c' (Ze2 c' (X.env.qual ++ "<lambda>"))) h'.objs.size (objX h'.objs.size ob) c'=some (Ze2 c' (X.env.qual ++ "<lambda>")):=by rw [Zad (Ne.symm ne),Zaf]
  subst hob;refine h h'.objs.size c' ctv _ _ _ ⟨I3,?_,g.snoc (pos:=pos) kp cc,cc,?_,kq,m5,λb nb hb hb'=>?_⟩
  ·rw [Zad (Ne.symm (nP _ m5)),Zad (Ne.symm (nP _ n5)),Zaf]
  ·exact Zaf
  ·by_cases z1:b=h'.objs.size
   ·exact .inr z1
   ·by_cases z2:b=c'
    ·exact .inl z2
    ·rw [Zad z1,Zad z2,Zad nb] at hb';exact absurd hb hb'
 | some cv =>
  obtain ⟨c',rfl,hc'⟩:=g.co pos cv e;refine kla_makeFunctionHit hcl hge hg hcode (C.keeps bk) hP' g.ok e hb' λctv h' tk hk hsz=>?_;obtain ⟨ob,hob⟩ : ∃ob:Obj,ob={ cls:=.type "function", data:=.func (kla_fn "<lambda>" (X.env.qual ++ "<lambda>") params body scope clos ((X.mg "__name__").getD .none) (.ref c') ctv) }:=⟨_,rfl⟩;obtain ⟨m1,m2,m3,m4,m5⟩:=I.beyond hsz;have I1:=I.kept (t':=tk) (h':=h'.push ob) λb u q=>VaF _ (hk b u q);have I3:=I1.track (n:=0) (o:=objX h'.objs.size ob) m5 m1 m2 m3 m4 (Zh4 (VaG _ (by rw [hob];rfl)));have kp:∀b o,H b=some o->upd H h'.objs.size (objX h'.objs.size ob) b=some o:=λb o q=>by rw [Zad (Zae q m5)];exact q
  subst hob;refine h h'.objs.size c' ctv ps _ _ ⟨I3,kp _ _ hP,g.up λb o q _=>kp b o q,kp _ _ hc',?_,λb o _ q=>kp b o q,m5,λb nb hb hb'=>?_⟩
  ·exact Zaf
  ·by_cases z1:b=h'.objs.size
   ·exact .inr z1
   ·rw [Zad z1] at hb';exact absurd hb hb'
end
def ZkY(CX:CXT)(P:Program)(w:World)(K:W.Frag)(mg:Str->Option Value)(base:Heap)(N:List Str)(qual:Str)(scope:Scope)(f:Addr)(cd:Value)(cl:List (Str×Addr))(A:Around)(outer:List Env)(s:Shared)(H:Hp)(E:XK):Cx where
 prog:=P
 w:=w
 K:=K
 mg:=mg
 base:=base
 A:=A.deeper (envX qual scope s.heap.objs.size f cd cl)
 N:=N
 s₀:=s
 H₀:=H
 env:=envX qual scope s.heap.objs.size f cd cl
 outer:=outer
 stack:=envX qual scope s.heap.objs.size f cd cl::outer
 ex:=[]
 calm:=true
 fn:=λ_=>false
 pn:=[]
 xe:=λe s'=>wpAny (model P w) (A.deeper (envX qual scope s.heap.objs.size f cd cl)) (leaving (envX qual scope s.heap.objs.size f cd cl) e) (λ_ s''=>CX outer H s E e s'') (λe' s''=>CX outer H s E e' s'') s'
structure Zfc(N:List Str)(scope:Scope)(cl:List (Str×Addr)):Prop where
 kind:scope.kind=.function
 co:scope.isCoroutine=false
 gen:scope.isGenerator=false
 nocell:∀x∈scope.names,x.2≠.cell
 has:∀x,scope.names.lookup x=some .free->∃c,cl.lookup x=some c
 inj:∀x y c,cl.lookup x=some c->cl.lookup y=some c->x=y
 free:∀x∈N,scope.names.lookup x=some .free
section
variable{CX:CXT}        {outer:List Env}    {q:Str} {scope:Scope} {f c:Addr} {cl:List (Str×Addr)} {params:Arguments} {body:Expr} {pm ctv:Value} {vs:List V} {Q:VK}
def Zkh{h₁:Heap}(S:Zfc N scope cl)(hd:A.handled=none)(e0:Env0 P w K mg base A outer s H)(hl:vs.length=N.length)(hc:∀x a,cl.lookup x=some a->(∃v,s.heap.IsCell a v)/\H a=none)(hv:∀(i:Nat) (x:Str) (v:V),N[i]?=some x->vs[i]?=some v->∃a u,cl.lookup x=some a/\RelV v u/\s.heap.IsCell a (some u))(ns:h₁.Ns s.heap.objs.size m)(hk:∀b o,s.heap.get? b=some o->h₁.get? b=some o)(tk) :
  Inv (ZkY CX P w K mg base N q scope f (.ref c) cl A outer s H E) [] (vs.map some) H { s with heap:=h₁,toks:=tk }:=by
 have noA:∀b:Addr,b∉(ZkY CX P w K mg base N q scope f (.ref c) cl A outer s H E).ex:=λb z=>absurd (show b∈([]:List Addr) from z) (by simp);have ck:∀a v,s.heap.IsCell a v->h₁.IsCell a v:=λa v ⟨o,e,d⟩=>⟨o,hk a o e,d⟩
 refine ⟨⟨e0.mod,S.kind,rfl,rfl,VaH _,S.inj,λx hx=>?_,λx a z=>(VaC z).elim,λ_=>hd,Around.frames_deeper e0.frames,.inr ⟨rfl,rfl⟩,λb z=>absurd z (noA b),e0.bs,e0.bsz,λb _ _=>noA b,λb z=>absurd z (noA b),e0.funs,e0.frf⟩,
  rfl,e0.bare,Un.kept hk,⟨m,ns,λi x v h1 h2 h3=>?_⟩,λx a e=>?_,e0.hok.fresh (VaH _),λx a e=>(hc x a e).2,λp hp=>absurd (show p∈([]:List (Addr×Obj)) from hp) (by simp),e0.hok.kept hk,by rw [VaO];exact hl⟩
 ·rcases (show scope.names.lookup x=some .cell\/scope.names.lookup x=some .free from hx) with z | z
  ·exact absurd rfl (S.nocell _ (VaZ z))
  ·exact S.has x z
 ·have h2':vs[i]?=some v:=by
   rw [Va3] at h2;cases e:vs[i]? with
   | none=>rw [e] at h2;cases h2
   | some z=>rw [e] at h2;cases h2;rfl
  obtain ⟨a,u,e1,e2,e3⟩:=hv i x v h1 h2';exact ⟨u,e2,.inr ⟨.inr (S.free x (Va4 h1)),a,e1,ck _ _ e3⟩⟩
 ·obtain ⟨v,z⟩:=(hc x a e).1;exact ⟨v,ck _ _ z⟩
def Zmo(S:Zfc N scope cl)(hr:Room (k+1) A)(e0:Env0 P w K mg base A outer s H)(hl:vs.length=N.length)(hf:H f=some (objX f { cls:=.type "function", data:=.func (kla_fn "<lambda>" q params body scope cl pm (.ref c) ctv) }))(hcd:H c=some (Ze2 c q))(hc:∀x a,cl.lookup x=some a->(∃v,s.heap.IsCell a v)/\H a=none)(hv:∀(i:Nat) (x:Str) (v:V),N[i]?=some x->vs[i]?=some v->∃a u,cl.lookup x=some a/\RelV v u/\s.heap.IsCell a (some u))(hb:bindArgs (kla_fn "<lambda>" q params body scope cl pm (.ref c) ctv) ⟨[],[]⟩=pure [])(hbody:Room k (A.deeper (envX q scope s.heap.objs.size f (.ref c) cl))->∃t,PE (ZkY (CXR P w) P w K mg base N q scope f (.ref c) cl A outer s H E) body t/\t (vs.map some) H Q) :
  codeAny (model P w) A (.call (.ref f) ⟨[],[]⟩) (CR (CXR P w) outer P w H s Q E) s:=by
 have lim:s.heap.NoLimit:=e0.mod.nolimit.keeps λb o e=>(e0.bs b o e).1;refine kla_callFunE hr.depth (ZgZ e0.hok hf) rfl S.co S.gen rfl (ZlT e0.hok hcd) ?_;rw [hb];refine VaE (wpAny_newFunctionEnv S.nocell (λx hx=>by cases hx) (λh₁ hns hsb=>⟨lim.fresh _ hsb,?_⟩) S.kind);have hk:∀b o,s.heap.get? b=some o->h₁.get? b=some o:=λb o e=>hsb.extBut b o (Vaf (Vac e)) (VaF _ e);show codeAny _ _ (.expr body (envX q scope s.heap.objs.size f (.ref c) cl)) _ _;obtain ⟨t,ht,hq⟩:=hbody (hr.deeper _);have I:=Zkh (CX:=CXR P w) (E:=E) (q:=q) (f:=f) (c:=c) S hr.hd e0 hl hc hv hns hk (s.toks+([]:List (Str×Value)).length);refine kla_codeExpr (Vav (ht [] _ _ H Q I hq) (λu s' hs=>?_) λe s' hs=>hs);obtain ⟨v,H',J,rv,qq⟩:=hs;exact ⟨v,H',J.os,J.bare,J.base,J.hok,rv,qq⟩
end
def Zsq{CX:CXT}{P:Program}{w:World}{K:W.Frag}{mg:Str->Option Value}{base:Heap}{k:Nat}{f:Addr}{name qual:Str}{params:Arguments}{body:List Stmt}{scope:Scope}{dV kV doc pm cdv ct oc:Value}{an od:Option Addr}
  {osl:Array (Option Value)} {N ps:List Str} (lk:K.lookup f=some ⟨oc,od,.func (W.fnOf name qual params body scope dV kV doc pm an cdv ct),osl⟩) (hcd:W.codeIn K cdv qual=true) (S:Zag N ps scope)
  {A:Around} {outer:List Env} {s:Shared} {H:Hp} {args:Args} {us:List Value} {vs:List V} {Q:VK} {E:XK} (hr:Room (k+1) A) (e0:Env0 P w K mg base A outer s H) (hb:BindsTo s (W.fnOf name qual params body scope dV kV doc pm an cdv ct) args (ps.zip us)) (r:Vals vs us) (hl:vs.length=ps.length)
  (hbody:Room k (A.deeper (envOfC qual scope s.heap.objs.size f cdv))->∃t,PSs (cxOf CX P w K mg base N qual scope f cdv A outer s H E) body t/\t { nx:=λ_ H'=>Q .non H',rt:=Q } (start N vs) H) :
  codeAny (model P w) A (.call (.ref f) args) (CR CX outer P w H s Q E) s:=by
 have KX:K.In s.heap:=e0.mod.kin.keeps λb o e=>(e0.bs b o e).1;have lim:s.heap.NoLimit:=e0.mod.nolimit.keeps λb o e=>(e0.bs b o e).1;have hkind:∀y∈ps.zip us,scope.names.lookup y.1=some .local\/(scope.names.lookup y.1=some .cell/\((cellsFrom (s.heap.objs.size+1) scope.names []).lookup y.1).isSome=true):=λ⟨n,v⟩ hy=>by
  rcases S.par n (List.of_mem_zip hy).1 with q | q
  ·exact .inl q
  ·exact .inr ⟨q,W.cellsFrom_some _ _ _ (.inl q)⟩
 refine codeAny_call_function hr.depth (KX _ _ lk) rfl S.co S.gen rfl (W.codeRec_of KX hcd) (hb _ _ _ _ ?_);refine wpAny_newFunctionEnv_cells S.kind hkind λenv he s1 x=>?_;subst he;refine ⟨lim.keeps x.toInCall.keep,codeAny_func ?_⟩;obtain ⟨t,ht,hq⟩:=hbody (hr.deeper _);have I:Inv (cxOf CX P w K mg base N qual scope f cdv A outer s H E) [] (start N vs) H s1:=Zho S hr.hd e0 hl r x;refine Vav (ht [] s1 (start N vs) H _ I hq) (λfl s' hs=>?_) λe s' hs=>hs;have fin:∀{σ':St} {H':Hp} {v:V} {u:Value},Inv (cxOf CX P w K mg base N qual scope f cdv A outer s H E) [] σ' H' s'->RelV v u->Q v H'->CE outer P w H s Q u s' :=
  λ{σ' H' v u} J rv q=>⟨v,H',J.os,J.bare,J.base,J.hok,rv,q⟩
 cases fl with
 | ret u =>
  obtain ⟨v,σ',H',J,rv,q⟩:=hs;exact fin J rv q
 | next =>
  obtain ⟨σ',H',J,q⟩:=hs;exact fin (v:=V.non) (u:=Value.none) J rfl q
 | brk =>
  obtain ⟨_,_,_,q⟩:=hs;exact False.elim q
 | cont =>
  obtain ⟨_,_,_,q⟩:=hs;exact False.elim q
end L2
namespace L2.Ds
open PySem.W Dl
section
variable       {qual:Str} {scope:Scope} {f:Addr} {cd:Value} {cl:List (Str×Addr)}  {outer:List Env} {s₀:Shared} {H₀:Hp}
def ZcM:Zbi (CXR P w) (ZkY (CXR P w) P w K mg base N qual scope f cd cl A outer s₀ H₀ E) E:=by
 intro pins σ H s e s' I h;obtain ⟨x,cls,p,H',rfl,F,py,q⟩:=h;obtain ⟨B,a0,fl,cov⟩:=F.ex;show wpAny (model P w) (A.deeper (envX qual scope s₀.heap.objs.size f cd cl)) (leaving (envX qual scope s₀.heap.objs.size f cd cl) (.ref x)) _ _ s';refine Vav (ZeR (Zdo _ _) (wpAny_leaves_onW (Q:=λ_ s2=>∃h',s2={ s' with heap:=h' }/\Heap.FlyingW B _ x cls a0 h'/\s'.heap.UpToSlots h') I.ok.frames rfl fl λh' fl' sm=>⟨h',rfl,fl',sm⟩)) (λ_ s2 z=>?_) λ_ _ z=>z.1
 obtain ⟨⟨h',rfl,fl',sm⟩,kd⟩:=z;exact ⟨x,cls,p,H',rfl,I.flyOut rfl F fl cov fl' sm,py.on kd sm (let ⟨o,e,_⟩:=fl'.there;⟨o,e⟩) (λb o e=>I.base.there b o e (λz=>nomatch z)),q⟩
end
end L2.Ds
namespace L2.Ds
open PySem.W Dl
def Zlv(sc:Scope)(cn N:List Str):Bool:=sc.names.all (λy=>y.2 != .cell)&&sc.names.all (λy=>y.2 != .free||cn.contains y.1)&&N.all (λn=>sc.names.lookup n==some .free)
def Zr0(inj:∀x y c,X.env.cells.lookup x=some c->X.env.cells.lookup y=some c->x=y)(hk:sc.kind=.function)(hc:sc.isCoroutine=false)(hg:sc.isGenerator=false)(sub:Zit X cl)(chk:Zlv sc (cl.map (·.1)) N=true):Zfc N sc cl:=by
 unfold Zlv at chk;simp only [Vbf,Vbu] at chk;obtain ⟨⟨h1,h2⟩,h3⟩:=chk;have sub':∀x c,cl.lookup x=some c->X.env.cells.lookup x=some c:=λx c e=>sub.mem (VaZ e);refine ⟨hk,hc,hg,λx hx=>?_,λx hx=>?_,λx y c e1 e2=>inj x y c (sub' x c e1) (sub' y c e2),λx hx=>by simpa using h3 x hx⟩
 ·have:=h1 x hx;intro z;rw [z] at this;simp at this
 ·have:=h2 _ (VaZ hx);refine Zd7 ?_;simpa using this
end L2.Ds
namespace Dl
def firsts(kf:Nat->List Int):Nat->List (List Int)
 | 0=>[]
 | i+1=>if kf i∈firsts kf i then firsts kf i else firsts kf i++[kf i]
def intsOf:List D->Option (List Int)
 | []=>some []
 | .int n::r=>(intsOf r).map (n::·)
 | _::_=>none
def keysOf:List D->Option (List (List Int))
 | []=>some []
 | .tup ds::r=>(intsOf ds).bind λk=>(keysOf r).map (k::·)
 | _::_=>none
def ZgC:D->Res D
 | .lst ds=>match keysOf ds with
  | some ks=>if ds.length<=16 then .ok (.int ((firsts (λi=>ks.getD i []) ds.length).length:Nat)) else .bad
  | none=>.bad
 | _=>.bad
end Dl
namespace L2.Sx
open PySem.SetTable
def adv(m:Nat)(p:Probe):Probe :=
 if p.more>0 then { p with j:=p.j+1,more:=p.more - 1 } else
 { p with j:=(leap m p.i p.perturb).1,more:=runEnd m (leap m p.i p.perturb).1 - (leap m p.i p.perturb).1,i:=(leap m p.i p.perturb).1,perturb:=(leap m p.i p.perturb).2 }
def Zgh(t:SetTable)(p:Probe):t.advance p=adv t.mask p:=rfl
def run(m i pt:Nat):Probe:={ j:=i,more:=runEnd m i - i,i,perturb:=pt,dummy:=none }
def Zm5(t:SetTable)(h:Int):t.probeStart h=run t.mask (bits h%(t.mask+1)) (bits h):=rfl
inductive Rch(m:Nat)(occ:Nat->Prop):Probe->Nat->Prop
 | here (p:Probe):Rch m occ p p.j
 | next {p:Probe} {j:Nat}:occ p.j->Rch m occ (adv m p) j->Rch m occ p j
def Rch.mono(h:∀j,occ j->occ' j)(r:Rch m occ p j):Rch m occ' p j:=by
 induction r with
 | here p=>exact .here p
 | next o _ ih=>exact .next (h _ o) ih
def Zds(m:Nat)(occ:Nat->Prop):Nat->Probe->Prop
 | 0,p=>¬occ p.j
 | n+1,p=>¬occ p.j\/Zds m occ n (adv m p)
def advs(m:Nat):Nat->Probe->Probe
 | 0,p=>p
 | n+1,p=>advs m n (adv m p)
def Zds.of:∀{n:Nat} {p:Probe},¬occ (advs m n p).j->Zds m occ n p
 | 0,_,h=>h
 | _+1,_,h=>.inr (Zds.of h)
def Zds.mono:∀{n n':Nat} {p:Probe},n<=n'->Zds m occ n p->Zds m occ n' p
 | 0,0,_,_,h=>h
 | 0,_+1,_,_,h=>.inl h
 | n+1,0,_,hl,_=>by omega
 | n+1,n'+1,_,hl,h=>h.elim .inl λh=>.inr (Zds.mono (by omega) h)
def Ze7(m):∀a b p,advs m (a+b) p=advs m b (advs m a p)
 | 0,b,p=>by rw [Nat.zero_add];rfl
 | a+1,b,p=>by rw [Nat.add_right_comm];exact Ze7 m a b (adv m p)
def Zeu(m i pt):∀k,k<=runEnd m i - i->advs m k (run m i pt)={ j:=i+k,more:=runEnd m i - i - k,i,perturb:=pt,dummy:=none }
 | 0,_=>rfl
 | k+1,h=>by
  rw [Ze7 m k 1,Zeu m i pt k (by omega)];show adv m _=_;unfold adv;rw [if_pos (show runEnd m i - i - k>0 by omega)];simp only [Probe.mk.injEq,and_true];omega
def Zjx(m i pt):advs m (runEnd m i - i+1) (run m i pt)=run m (leap m i pt).1 (leap m i pt).2:=by
 rw [Ze7 m (runEnd m i - i) 1,Zeu m i pt _ (VaH _)];show adv m _=_;unfold adv;rw [if_neg (by simp)];rfl
def Zoa(m i):runEnd m i - i+1<=10:=by
 unfold runEnd;split<;>omega
def Zci(m:Nat):Nat->Nat×Nat->Nat×Nat
 | 0,p=>p
 | n+1,p=>Zci m n (leap m p.1 p.2)
def Zhs(m):∀a b p,Zci m (a+b) p=Zci m b (Zci m a p)
 | 0,b,p=>by rw [Nat.zero_add];rfl
 | a+1,b,p=>by rw [Nat.add_right_comm];exact Zhs m a b _
def ZhD(m):∀n i pt,∃k,k<=10*n/\advs m k (run m i pt)=run m (Zci m n (i,pt)).1 (Zci m n (i,pt)).2
 | 0,i,pt=>⟨0,VaH _,rfl⟩
 | n+1,i,pt=>by
  obtain ⟨k,hk,e⟩:=ZhD m n (leap m i pt).1 (leap m i pt).2;refine ⟨(runEnd m i - i+1)+k,?_,?_⟩
  ·have:=Zoa m i;omega
  ·rw [Ze7,Zjx,e];rfl
def Zg7(m):∀n i pt,(Zci m n (i,pt)).2=pt/32^n
 | 0,i,pt=>by rw [Nat.pow_zero,Nat.div_one];rfl
 | n+1,i,pt=>by
  show (Zci m n (leap m i pt)).2=_;have e:=Zg7 m n (leap m i pt).1 (leap m i pt).2;have z:Zci m n (leap m i pt)=Zci m n ((leap m i pt).1,(leap m i pt).2):=rfl;rw [z,e];show pt/32/32^n=pt/32^(n+1);rw [Nat.div_div_eq_div_mul,Nat.pow_succ,Nat.mul_comm]
def Zju(m):∀n i pt,i<=m->(Zci m n (i,pt)).1<=m
 | 0,i,pt,h=>h
 | n+1,i,pt,h=>by
  show (Zci m n ((leap m i pt).1,(leap m i pt).2)).1<=m;exact Zju m n _ _ (by unfold leap;have:=Nat.mod_lt (i*5+1+pt/32) (show 0<m+1 by omega);simp only [];omega)
def Zk6(h):bits h<2^64:=by
 unfold bits;have h1:=Int.emod_nonneg h (show ((2:Int)^64)≠0 by decide);have h2:=Int.emod_lt_of_pos h (show (0:Int)<2^64 by decide);have e:((2:Int)^64)=((2^64:Nat):Int):=by norm_cast
 omega
def cyc7:∀i≤7,∀e≤7,∃k≤7,(Zci 7 k (i,0)).1=e:=by decide +kernel
def Zsy:∀i≤31,∀e≤31,∃k≤31,(Zci 31 k (i,0)).1=e:=by decide +kernel
def Mk(m:Nat):Prop:=m=7\/m=31
def cyc(hm:Mk m):∀i≤m,∀e≤m,∃k≤m,(Zci m k (i,0)).1=e:=by
 rcases hm with rfl | rfl
 ·exact cyc7
 ·exact Zsy
def cover(hm:Mk m){e:Nat}(hi:i<=m)(hp:pt<2^64)(he:e<=m):∃n,n<=13+m/\(Zci m n (i,pt)).1=e:=by
 have h13:(Zci m 13 (i,pt)).2=0:=by
  rw [Zg7];exact Nat.div_eq_of_lt (Vad hp (by decide))
 obtain ⟨k,hk,e1⟩:=cyc hm _ (Zju m 13 i pt hi) e he;refine ⟨13+k,by omega,?_⟩;rw [Zhs];have z:Zci m 13 (i,pt)=((Zci m 13 (i,pt)).1,0):=by rw [<-h13]
 rw [z];exact e1
def ends(hm:Mk m){e:Nat}(hi:i<=m)(hp:pt<2^64)(he:e<=m)(ho:¬occ e):Zds m occ (10*(13+m)) (run m i pt):=by
 obtain ⟨n,hn,e1⟩:=cover hm hi hp he;obtain ⟨k,hk,e2⟩:=ZhD m n i pt;refine Zds.mono (n:=k) (by omega) (Zds.of ?_);rw [e2];show ¬occ (Zci m n (i,pt)).1;rw [e1];exact ho
def Zg3(xs:Array Nat)(j:Nat)(h:xs.toList.Pairwise (· < ·)):∀fuel lo hi,lo<=hi->hi<=xs.size->hi - lo<=fuel->(∀i q,i<lo->xs[i]<j)->(∀i q,hi<=i->¬xs[i]<j) ->
  below.go xs j fuel lo hi<=xs.size/\∀i q,xs[i]<j↔i<below.go xs j fuel lo hi
 | 0,lo,hi,h1,h2,h3,h4,h5=>by
  have e:lo=hi:=by omega
  subst e;exact ⟨h2,λi hi=>⟨λz=>Nat.lt_of_not_le λq=>h5 i hi q z,λz=>h4 i hi z⟩⟩
 | fuel+1,lo,hi,h1,h2,h3,h4,h5=>by
  unfold below.go;by_cases hl:lo<hi
  ·rw [if_pos hl];simp only [];have hm:(lo+hi)/2<xs.size:=by omega
   have hp:∀a b (ha:a<xs.size) (hb:b<xs.size),a<b->xs[a]<xs[b]:=λa b ha hb hab=>by
    have:=VbT.mp h a b (by simpa using ha) (by simpa using hb) hab;simpa using this
   have eg:xs.getD ((lo+hi)/2) j=xs[(lo+hi)/2]:=by simp [Array.getD,hm]
   rw [eg];by_cases hc:xs[(lo+hi)/2]<j
   ·rw [if_pos hc];refine Zg3 xs j h fuel ((lo+hi)/2+1) hi (by omega) h2 (by omega) (λi hi' z=>?_) h5;by_cases hz:i<(lo+hi)/2
    ·exact Vbs (hp i _ hi' hm hz) hc
    ·have:i=(lo+hi)/2:=by omega
     subst this;exact hc
   ·rw [if_neg hc];refine Zg3 xs j h fuel lo ((lo+hi)/2) (by omega) (by omega) (by omega) h4 λi hi' z=>?_;by_cases hz:(lo+hi)/2<i
    ·have:=hp _ i hm hi' hz;omega
    ·have:i=(lo+hi)/2:=by omega
     subst this;exact hc
  ·rw [if_neg hl];have e:lo=hi:=by omega
   subst e;exact ⟨h2,λi hi=>⟨λz=>Nat.lt_of_not_le λq=>h5 i hi q z,λz=>h4 i hi z⟩⟩
def Zge{xs:Array Nat}(j)(h:xs.toList.Pairwise (· < ·)):below xs j<=xs.size/\∀i hi,xs[i]<j↔i<below xs j :=
 Zg3 xs j h xs.size 0 xs.size (VaR _) (VaH _) (by omega) (λ_ _ z=>by omega) λi hi z=>by omega
abbrev En:Type:=Nat×Int×Value
def Occ(l:List En)(j:Nat):Prop:=∃e∈l,e.1=j
abbrev st0(m:Nat)(h:Int):Probe:=run m (bits h%(m+1)) (bits h)
structure Tb(t:SetTable)(es:Array (Int×Value))(l:List En):Prop where
 ms:Mk t.mask
 pl:t.place.toList=l.map (·.1)
 el:es.toList=l.map (·.2)
 du:t.dummies=#[]
 up:l.Pairwise λa b=>a.1<b.1
 le:∀e∈l,e.1<=t.mask
 rc:∀e∈l,Rch t.mask (Occ l) (st0 t.mask e.2.1) e.1
section
variable{t:SetTable}{es:Array (Int×Value)}{l:List En}
def Tb.plP(T:Tb t es l):t.place.toList.Pairwise (· < ·):=by rw [T.pl,List.pairwise_map];exact T.up
def Tb.size(T:Tb t es l):t.place.size=l.length:=by rw [<-Vaw,T.pl,VaO]
def Tb.esize(T:Tb t es l):es.size=l.length:=by rw [<-Vaw,T.el,VaO]
def Tb.at(T:Tb t es l)(hi:i<t.place.size):t.place[i]=(l[i]'(by rw [<-T.size];exact hi)).1:=by
 have e:t.place.toList[i]'(by simpa using hi)=(l.map (·.1))[i]'(by rw [VaO,<-T.size];exact hi):=by
  congr 1;exact T.pl
 simpa using e
def Tb.live(T:Tb t es l){e:En}(h:l[i]?=some e):t.slot e.1=.live i:=by
 obtain ⟨hi,rfl⟩:=Vat.mp h;have hi':i<t.place.size:=by rw [T.size];exact hi
 obtain ⟨b1,b2⟩:=Zge l[i].1 T.plP;have hp:=VbT.mp T.up;have eb:below t.place l[i].1=i:=by
  rcases Nat.lt_trichotomy (below t.place l[i].1) i with z | z | z
  ·have hb:below t.place l[i].1<t.place.size:=by omega
   have:=hp _ i (by rw [<-T.size];exact hb) hi z;have q:=(b2 _ hb).mp (by rw [T.at hb];exact this);omega
  ·exact z
  ·have q:=(b2 i hi').mpr z;rw [T.at hi'] at q;omega
 unfold slot;simp only [];rw [eb,if_pos];rw [VbU hi',T.at hi'];simp
def Tb.noDummy(T:Tb t es l)(j):has t.dummies j=false:=by
 rw [T.du];unfold has;simp
def Tb.empty(T:Tb t es l)(h:¬Occ l j):t.slot j=.empty:=by
 unfold slot;simp only [];rw [if_neg,T.noDummy,if_neg VaC];intro z;have z:=eq_of_beq z;obtain ⟨hi,e⟩:=Vbv.mp z;rw [T.at hi] at e;exact h ⟨_,VbV _,e⟩
def Tb.occ(T:Tb t es l)(h:Occ l j):∃i e,l[i]?=some e/\e.1=j/\t.slot j=.live i:=by
 obtain ⟨e,he,rfl⟩:=h;obtain ⟨i,hi,rfl⟩:=VbS.mp he;exact ⟨i,_,VbF hi,rfl,T.live (VbF hi)⟩
def Zeg(xs:Array α)(p:Nat)(x:α)(hp:p<=xs.size):(insertAt xs p x).toList=xs.toList.take p++x::xs.toList.drop p:=by
 unfold insertAt;simp [Array.toList_extract,List.extract_eq_drop_take];exact List.take_of_length_le (by simp)
def Tb.put(T:Tb t es l){x:Value}(hj:j<=t.mask)(ho:¬Occ l j)(hr:Rch t.mask (Occ l) (st0 t.mask h) j) :
  ∃l',List.Perm l' ((j,h,x)::l)/\Tb (t.put j).1 (insertAt es (t.put j).2 (h,x)) l':=by
 obtain ⟨b1,b2⟩:=Zge j T.plP;have ep:(t.put j).2=below t.place j:=rfl;have et:(t.put j).1={ t with place:=insertAt t.place (below t.place j) j,dummies:=t.dummies }:=by
  unfold SetTable.put;simp only [];rw [T.noDummy,if_neg VaC]
 have hp:List.Perm (l.take (below t.place j)++(j,h,x)::l.drop (below t.place j)) ((j,h,x)::l):=by
  refine List.perm_middle.trans ?_;rw [List.take_append_drop]
 have hocc:∀k,Occ l k->Occ (l.take (below t.place j)++(j,h,x)::l.drop (below t.place j)) k:=λk ⟨e,he,q⟩=>⟨e,hp.mem_iff.mpr (Vao _ he),q⟩;refine ⟨l.take (below t.place j)++(j,h,x)::l.drop (below t.place j),hp,?_⟩;rw [ep,et];refine ⟨T.ms,?_,?_,T.du,?_,λe he=>?_,λe he=>?_⟩
 ·show (insertAt t.place (below t.place j) j).toList=_;rw [Zeg _ _ _ b1,T.pl];simp [List.map_take,List.map_drop]
 ·rw [Zeg _ _ _ (by rw [T.esize,<-T.size];exact b1),T.el];simp [List.map_take,List.map_drop]
 ·have hlow:∀e∈l.take (below t.place j),e.1<j:=λe he=>by
   obtain ⟨i,hi,rfl⟩:=VbS.mp he;have hi':i<below t.place j/\i<l.length:=by rw [VaY] at hi;omega
   have hq:i<t.place.size:=by rw [T.size];exact hi'.2
   have:=(b2 i hq).mpr hi'.1;rw [T.at hq] at this;simpa using this
  have hhigh:∀e∈l.drop (below t.place j),j<e.1:=λe he=>by
   obtain ⟨i,hi,rfl⟩:=VbS.mp he;rw [List.length_drop] at hi;have hq:below t.place j+i<t.place.size:=by rw [T.size];omega
   have h1:¬t.place[below t.place j+i]<j:=λz=>by have:=(b2 _ hq).mp z;omega
   rw [T.at hq] at h1;have h2:(l[below t.place j+i]'(by rw [<-T.size];exact hq)).1≠j:=λz=>ho ⟨_,VbV _,z⟩;rw [List.getElem_drop];omega
  rw [List.pairwise_append];refine ⟨T.up.sublist (List.take_sublist _ _),?_,λa ha b hb=>?_⟩
  ·rw [VbW];exact ⟨λb hb=>hhigh b hb,T.up.sublist (List.drop_sublist _ _)⟩
  ·rcases Vaq.mp hb with rfl | hb
   ·exact hlow a ha
   ·exact Vbs (hlow a ha) (hhigh b hb)
 ·rcases Vaq.mp (hp.mem_iff.mp he) with rfl | he
  ·exact hj
  ·exact T.le e he
 ·rcases Vaq.mp (hp.mem_iff.mp he) with rfl | he
  ·exact hr.mono hocc
  ·exact (T.rc e he).mono hocc
end
section
variable{t:SetTable}{es:Array (Int×Value)}{l:List En}{h:Int}{ha:Nat->Int}
def HAt(l:List En)(ha:Nat->Int):Prop:=∀i e,l[i]?=some e->ha i=e.2.1
def Zfs(T:Tb t es l)(hh:HAt l ha):∀n fuel p,p.dummy=none->Zds t.mask (Occ l) n p->n<fuel ->
  (∃j,probe.go t ha h fuel p=some (.empty j none)/\¬Occ l j/\Rch t.mask (Occ l) p j/\∀e∈l,e.2.1=h->¬Rch t.mask (Occ l) p e.1) \/
  (∃i e p' n',probe.go t ha h fuel p=some (.candidate e.1 i (adv t.mask p'))/\l[i]?=some e/\e.2.1=h/\p'.j=e.1/\p'.dummy=none/\n'<n/\Zds t.mask (Occ l) n' (adv t.mask p')/\(∀j,Rch t.mask (Occ l) (adv t.mask p') j->Rch t.mask (Occ l) p j)/\∀e'∈l,e'.2.1=h->e'≠e->Rch t.mask (Occ l) p e'.1->Rch t.mask (Occ l) (adv t.mask p') e'.1)
 | n,0,p,_,_,hf=>by omega
 | n,fuel+1,p,hd,hE,hf=>by
  by_cases ho:Occ l p.j
  ·obtain ⟨i,e,hi,he,hs⟩:=T.occ ho;cases n with
   | zero=>exact absurd ho hE
   | succ n =>
    have hE':Zds t.mask (Occ l) n (adv t.mask p):=hE.resolve_left λz=>z ho;have dadv:(adv t.mask p).dummy=none:=by unfold adv;split<;>exact hd
    unfold probe.go;rw [hs];simp only [];have inj:∀e'∈l,e'.1=e.1->e'=e:=λe' he' q=>by
     obtain ⟨a,ha',rfl⟩:=VbS.mp he';obtain ⟨hb,rfl⟩:=Vat.mp hi;have hp:=VbT.mp T.up;rcases Nat.lt_trichotomy a i with z | z | z
     ·have:=hp a i ha' hb z;omega
     ·subst z;rfl
     ·have:=hp i a hb ha' z;omega
    have on:∀{j:Nat},Rch t.mask (Occ l) p j->j≠p.j->Rch t.mask (Occ l) (adv t.mask p) j:=λ{j} r ne=>by
     cases r with
     | here=>exact absurd rfl ne
     | next _ r=>exact r
    by_cases hq:ha i=h
    ·rw [if_pos (by rw [hq];exact beq_self_eq_true h)];right;refine ⟨i,e,p,n,by rw [Zgh,he],hi,by rw [<-hh i e hi];exact hq,he.symm,hd,by omega,hE',λj r=>.next ho r,λe' he' _ ne r=>on r λz=>ne (inj e' he' (by rw [z,he]))⟩
    ·rw [if_neg (by intro z;exact hq (eq_of_beq z)),Zgh];have neh:e.2.1≠h:=by rw [<-hh i e hi];exact hq
     rcases Zfs T hh n fuel (adv t.mask p) dadv hE' (by omega) with ⟨j,e1,e2,e3,e4⟩ | ⟨i',e',p',n',e1,e2,e3,e4,e5,e6,e7,e8,e9⟩
     ·left;refine ⟨j,e1,e2,.next ho e3,λe' he' q r=>e4 e' he' q (on r λz=>?_)⟩;have:=inj e' he' (by rw [z,he]);subst this;exact neh q
     ·right;refine ⟨i',e',p',n',e1,e2,e3,e4,e5,by omega,e7,λj r=>.next ho (e8 j r),λe'' he'' q ne r=>e9 e'' he'' q ne (on r λz=>?_)⟩;have:=inj e'' he'' (by rw [z,he]);subst this;exact neh q
  ·left;unfold probe.go;rw [T.empty ho];simp only [];refine ⟨p.j,by rw [hd],ho,.here p,λe he _ r=>?_⟩;generalize hz:e.1=z at r;cases r with
   | here=>exact ho ⟨e,he,hz⟩
   | next o _=>exact ho o
end
def ZnG:∀{xs ys:List α},xs.Nodup->(∀x∈xs,x∈ys)->xs.length<=ys.length
 | [],_,_,_=>VaR _
 | x::r,ys,hn,hs=>by
  obtain ⟨a,b,rfl⟩:=List.append_of_mem (hs x Van);rw [VaX] at hn;have:=ZnG (ys:=a++b) hn.2 λy hy=>by
   rcases Var.mp (hs y (Vao _ hy)) with z | z
   ·exact Vas _ z
   ·rcases Vaq.mp z with rfl | z
    ·exact absurd hy hn.1
    ·exact VaK _ z
  simp at this ⊢;omega
def ZhS{js:List Nat}(h:js.length<=m):∃e,e<=m/\e∉js:=by
 refine VbX λz=>?_;have:=ZnG (xs:=List.range (m+1)) (ys:=js) List.nodup_range λx hx=>VbX λq=>z ⟨x,by have:=Vai.mp hx;omega,q⟩;rw [List.length_range] at this;omega
def ZgH:∀{k:Nat} {p:Probe} {j:Nat},(∀k'<k,occ (advs m k' p).j)->Rch m occ (advs m k p) j->Rch m occ p j
 | 0,_,_,_,r=>r
 | k+1,p,j,h,r=>.next (h 0 (by omega)) (ZgH (k:=k) (λk' hk=>h (k'+1) (by omega)) r)
def Zo2(hk:k<=runEnd m i - i)(h:∀k'<k,occ (i+k')):Rch m occ (run m i pt) (i+k):=by
 refine ZgH (k:=k) (λk' hk'=>?_) ?_
 ·rw [Zeu m i pt k' (by omega)];exact h k' hk'
 ·rw [Zeu m i pt k hk];exact .here _
def ZlY(h:∀k'≤runEnd m i - i,occ (i+k'))(r:Rch m occ (run m (leap m i pt).1 (leap m i pt).2) j):Rch m occ (run m i pt) j:=by
 refine ZgH (k:=runEnd m i - i+1) (λk' hk'=>?_) ?_
 ·rw [Zeu m i pt k' (by omega)];exact h k' (by omega)
 ·rw [Zjx];exact r
structure Ow(m:Nat)(owner:Array (Option Nat))(js:List Nat):Prop where
 sz:owner.size=m+1
 nd:js.Nodup
 le:∀j∈js,j<=m
 is:∀j k,j<=m->(owner[j]?=some (some k)↔js[k]?=some j)
def Ow.none(O:Ow m owner js)(hj:j<=m):(owner.getD j (some 0)).isNone=true↔j∉js:=by
 have hb:j<owner.size:=by rw [O.sz];omega
 have eg:owner.getD j (some 0)=owner[j]:=by simp [Array.getD,hb]
 rw [eg];constructor
 ·intro z hm;obtain ⟨k,hk,e⟩:=VbS.mp hm;have:=(O.is j k hj).mpr (by rw [VbF hk,e]);rw [VbU hb] at this;rw [Vau this] at z;exact Bool.noConfusion z
 ·intro z;cases q:owner[j] with
  | none=>rfl
  | some k =>
   have:=(O.is j k hj).mp (by rw [VbU hb,q]);exact absurd (Va4 this) z
def ZfR(h:i<=m):i<=runEnd m i/\runEnd m i<=m:=by
 unfold runEnd;split<;>omega
def Zh0(O:Ow m owner js){e:Nat}(he:e<=m)(hf:e∉js):∀fuel L i pt,i<=m->L<fuel->(Zci m L (i,pt)).1=e ->
  ∃j,j<=m/\layClean.free m owner fuel i pt=some j/\j∉js/\Rch m (·∈js) (run m i pt) j
 | 0,L,i,pt,_,hl,_=>by omega
 | fuel+1,L,i,pt,hi,hl,hL=>by
  obtain ⟨r1,r2⟩:=ZfR hi;unfold layClean.free;cases q:(List.range (runEnd m i+1 - i)).find? λk=>(owner.getD (i+k) (some 0)).isNone with
  | some k =>
   obtain ⟨hp,as,bs,hs,ha⟩:=List.find?_eq_some_iff_append.mp q;have hk:k<runEnd m i+1 - i:=Vai.mp (by rw [hs];simp);have hbef:∀k'<k,(owner.getD (i+k') (some 0)).isNone=false:=λk' hk'=>by
    have hlen:as.length=k:=by
     have:=Vax (λl=>l[as.length]?) hs;simp at this;rw [List.getElem?_range (by have:=Vax List.length hs;simp at this;omega)] at this;exact Vau this
    have hmem:k'∈as:=by
     have e1:(List.range (runEnd m i+1 - i))[k']?=(as++k::bs)[k']?:=by rw [hs]
     rw [List.getElem?_range (by omega),Va2 (by omega)] at e1;exact Va4 e1.symm
    have:=ha k' hmem;simpa using this
   simp only [];refine ⟨i+k,by omega,rfl,(O.none (by omega)).mp hp,Zo2 (by omega) λk' hk'=>?_⟩;exact VbX λz=>by
    have h1:=hbef k' hk';rw [(O.none (by omega)).mpr z] at h1;exact Bool.noConfusion h1
  | none =>
   simp only [];have hall:∀k'≤runEnd m i - i,i+k'∈js:=λk' hk'=>VbX λz=>by
    have h1:=List.find?_eq_none.mp q k' (Vai.mpr (by omega));exact h1 ((O.none (by omega)).mpr z)
   cases L with
   | zero =>
    have:i=e:=hL;subst this;exact absurd (hall 0 (by omega)) hf
   | succ L =>
    have hi':(leap m i pt).1<=m:=by
     unfold leap;have:=Nat.mod_lt (i*5+1+pt/32) (show 0<m+1 by omega);simp only [];omega
    obtain ⟨j,h1,h2,h3,h4⟩:=Zh0 O he hf fuel L (leap m i pt).1 (leap m i pt).2 hi' (by omega) hL;exact ⟨j,h1,h2,h3,ZlY hall h4⟩
def Ow.put(O:Ow m owner js)(hj:j<=m)(hf:j∉js):Ow m (owner.setIfInBounds j (some js.length)) (js++[j]):=by
 refine ⟨by rw [Array.size_setIfInBounds];exact O.sz,?_,λi hi=>?_,λi k hi=>?_⟩
 ·rw [List.nodup_append];refine ⟨O.nd,by simp,λa ha b hb=>?_⟩;rw [VbR] at hb;subst hb;rintro rfl;exact hf ha
 ·rcases Var.mp hi with z | z
  ·exact O.le i z
  ·rw [VbR] at z;subst z;exact hj
 ·rw [Array.getElem?_setIfInBounds];have hb:j<owner.size:=by rw [O.sz];omega
  by_cases e:j=i
  ·subst e;rw [if_pos rfl,if_pos hb];constructor
   ·intro z;cases z;simp
   ·intro z;by_cases hk:k<js.length
    ·rw [Va2 hk] at z;exact absurd (Va4 z) hf
    ·have:k=js.length:=by
      have:=(Vat.mp z).1;simp at this;omega
     rw [this]
  ·rw [if_neg e,O.is i k hi];constructor
   ·intro z;rw [Va2 (Vat.mp z).1];exact z
   ·intro z;by_cases hk:k<js.length
    ·rw [Va2 hk] at z;exact z
    ·have:k=js.length:=by
      have:=(Vat.mp z).1;simp at this;omega
     subst this;simp at z;exact absurd z e
def RcW(m:Nat)(hs:List Int)(js:List Nat):Prop:=∀(k:Nat) (h:Int) (j:Nat),hs[k]?=some h->js[k]?=some j->Rch m (·∈js) (st0 m h) j
def Zjp(hm:Mk m):∀rest done owner js,Ow m owner js->js.length=done.length->RcW m done js->done.length+rest.length<=m ->
  ∃owner' js',rest.foldl (λacc h=>do
   let (owner,k) <-acc
   let j <-layClean.free m owner (turns m) (bits h%(m+1)) (bits h)
   pure (owner.setIfInBounds j (some k),k+1)) (some (owner,js.length))=some (owner',js'.length)/\Ow m owner' js'/\js'.length=(done++rest).length/\RcW m (done++rest) js'
 | [],done,owner,js,O,hl,hr,_=>⟨owner,js,rfl,O,by rw [VaU];exact hl,by rw [VaU];exact hr⟩
 | h::rest,done,owner,js,O,hl,hr,hle=>by
  simp only [VaM] at hle;obtain ⟨e,he,hf⟩:=ZhS (m:=m) (js:=js) (by omega);have hi:bits h%(m+1)<=m:=by
   have:=Nat.mod_lt (bits h) (show 0<m+1 by omega);omega
  obtain ⟨L,hL,eL⟩:=cover hm hi (Zk6 h) he;obtain ⟨j,h1,h2,h3,h4⟩:=Zh0 O he hf (turns m) L _ (bits h) hi (by unfold turns;omega) eL;have O':=O.put h1 h3;have hr':RcW m (done++[h]) (js++[j]):=by
   intro k h' j' e1 e2;by_cases hk:k<done.length
   ·rw [Va2 hk] at e1;rw [Va2 (by omega)] at e2;exact (hr k h' j' e1 e2).mono λx hx=>Vas _ hx
   ·have:k=done.length:=by
     have:=(Vat.mp e1).1;simp at this;omega
    subst this;simp at e1;rw [<-hl] at e2;simp at e2;subst e1 e2;exact h4.mono λx hx=>Vas _ hx
  obtain ⟨owner',js',e1,e2,e3,e4⟩:=Zjp hm rest (done++[h]) _ (js++[j]) O' (by simp [hl]) hr' (by simp;omega);refine ⟨owner',js',?_,e2,by rw [e3];simp,by simpa using e4⟩;rw [List.foldl_cons]
  have z:(do
   let (owner,k) <-some (owner,js.length)
   let j <-layClean.free m owner (turns m) (bits h%(m+1)) (bits h)
   pure (owner.setIfInBounds j (some k),k+1):Option (Array (Option Nat)×Nat))=some (owner.setIfInBounds j (some js.length),(js++[j]).length):=by
   show (layClean.free m owner (turns m) (bits h%(m+1)) (bits h)).bind _=_;rw [h2];simp
  rw [z];exact e1
def ZlP(hm:Mk m)(hashes)(hl:hashes.size<=m):∃owner js,layClean m hashes=some owner/\Ow m owner js/\js.length=hashes.size/\RcW m hashes.toList js:=by
 have O0:Ow m (Array.replicate (m+1) none) []:=⟨by simp,List.nodup_nil,λ_ h=>(VbN h).elim,λj k hj=>by
  rw [Array.getElem?_replicate]
  simp [hj]⟩
 obtain ⟨owner,js,e1,e2,e3,e4⟩:=Zjp hm hashes.toList [] _ [] O0 rfl (λk h j e _=>by simp at e) (by simpa using hl);refine ⟨owner,js,?_,e2,by simpa using e3,by simpa using e4⟩;unfold layClean;rw [<-Array.foldl_toList];have z:=Vax (Option.map (·.1)) e1;exact z
section
variable{t:SetTable}{es:Array (Int×Value)}{l:List En}
def ZlN(O:Ow m owner js)(live)(hlive:live=(List.range (m+1)).filterMap λj=>(owner.getD j none).map (j,·)) :
  live.Pairwise (λa b=>a.1<b.1)/\∀j k,(j,k)∈live↔js[k]?=some j:=by
 have mem:∀j k,(j,k)∈live↔js[k]?=some j:=λj k=>by
  rw [hlive,VaJ];constructor
  ·rintro ⟨i,hi,e⟩;have hi:=Vai.mp hi;have hb:i<owner.size:=by rw [O.sz];exact hi
   have eg:owner.getD i none=owner[i]:=by simp [Array.getD,hb]
   rw [eg] at e;cases q:owner[i] with
   | none=>rw [q] at e;cases e
   | some k' =>
    rw [q] at e;simp only [Option.map_some,Option.some.injEq,Prod.mk.injEq] at e;obtain ⟨rfl,rfl⟩:=e;exact (O.is i k' (by omega)).mp (by rw [VbU hb,q])
  ·intro e;have hj:=O.le j (Va4 e);have hb:j<owner.size:=by rw [O.sz];omega
   refine ⟨j,Vai.mpr (by omega),?_⟩;have eg:owner.getD j none=owner[j]:=by simp [Array.getD,hb]
   have q:=(O.is j k hj).mpr e;rw [VbU hb] at q;rw [eg,Vau q];rfl
 refine ⟨?_,mem⟩;rw [hlive,List.pairwise_filterMap];refine List.pairwise_lt_range.imp λ{a b} hab=>?_;intro x hx y hy;cases qa:owner.getD a none with
 | none=>rw [qa] at hx;cases hx
 | some ka =>
  cases qb:owner.getD b none with
  | none=>rw [qb] at hy;cases hy
  | some kb =>
   rw [qa] at hx;rw [qb] at hy;cases hx;cases hy;exact hab
def Tb.relay(T:Tb t es l)(hl:l.length<=16)(hw:sizeAbove wanted=32) :
  ∃t' order l',t.relaid (es.map (·.1)) wanted=some (t',order)/\t'.mask=31/\t'.led=t.led/\t'.plain=t.plain/\Tb t' (order.filterMap (es[·]?)) l'/\List.Perm (l'.map (·.2)) (l.map (·.2)):=by
 have hm:Mk 31:=.inr rfl;obtain ⟨owner,js,e1,O,lj,rc⟩:=ZlP hm (es.map (·.1)) (by rw [Array.size_map,T.esize];omega);obtain ⟨live,hlive⟩ : ∃live,live=(List.range (31+1)).filterMap λj=>(owner.getD j none).map (j,·):=⟨_,rfl⟩;obtain ⟨up,mem⟩:=ZlN O live hlive;have ljl:js.length=l.length:=by rw [lj,Array.size_map,T.esize]
 have hat:∀j k,(j,k)∈live->k<l.length:=λj k h=>by
  have:=(Vat.mp ((mem j k).mp h)).1;omega
 have hes:∀k,k<l.length->es[k]?=some ((l.getD k (0,0,.none)).2):=λk hk=>by
  rw [<-VbY,T.el,Va3,VbF hk];simp [List.getD,hk]
 obtain ⟨l',hl'⟩ : ∃l':List En,l'=live.map λp=>(p.1,(l.getD p.2 (0,0,.none)).2):=⟨_,rfl⟩;have hnd:(live.map (·.2)).Nodup:=by
  unfold List.Nodup;rw [List.pairwise_map];refine List.Pairwise.imp_of_mem (R:=λa b=>a.1<b.1) (λ{a b} ha hb hab=>?_) up;intro z;have h1:=(mem a.1 a.2).mp ha;have h2:=(mem b.1 b.2).mp hb;rw [z,h2] at h1;have:=Vau h1;omega
 have hperm:List.Perm (live.map (·.2)) (List.range l.length):=by
  rw [List.perm_ext_iff_of_nodup hnd List.nodup_range];intro k;rw [Vai];constructor
  ·intro h;obtain ⟨⟨j,k'⟩,hp,rfl⟩:=Vbt.mp h;exact hat j k' hp
  ·intro h;refine Vbt.mpr ⟨(js[k]'(by omega),k),(mem _ _).mpr (VbF (by omega)),rfl⟩
 refine ⟨{ mask:=31,place:=(live.map (·.1)).toArray,dummies:=#[],finger:=t.finger,led:=t.led,moves:=t.movedTo 31,plain:=t.plain },(live.map (·.2)).toArray,l',?_,rfl,rfl,rfl,?_,?_⟩
 ·unfold relaid;rw [hw];show laid 31 _ _ _ _ _=_;unfold laid;rw [e1];show some _=some _;rw [hlive]
 ·have oc:∀j,j∈js->Occ l' j:=λj hj=>by
   obtain ⟨k,hk,rfl⟩:=VbS.mp hj;exact ⟨_,by rw [hl'];exact Vbt.mpr ⟨(js[k],k),(mem _ _).mpr (VbF hk),rfl⟩,rfl⟩
  refine ⟨hm,?_,?_,rfl,?_,λe he=>?_,λe he=>?_⟩
  ·show live.map (·.1)=_;rw [hl',VbH];rfl
  ·rw [Array.toList_filterMap];show (live.map (·.2)).filterMap (es[·]?)=_;rw [hl',VbH,List.filterMap_map];have key:∀q:List (Nat×Nat),(∀x∈q,x.2<l.length)->q.filterMap ((es[·]?) ∘ (·.2))=q.map ((·.2) ∘ λp:Nat×Nat=>((p.1,(l.getD p.2 (0,0,Value.none)).2):En)):=by
    intro q
    induction q with
    | nil=>intro _;rfl
    | cons x r ih =>
     intro h;rw [Vam,VaN,<-ih λy hy=>h y (Vao _ hy)];simp only [Function.comp];rw [hes x.2 (h x Van)]
   exact key live λx hx=>hat x.1 x.2 hx
  ·rw [hl',List.pairwise_map];exact up
  ·rw [hl'] at he;obtain ⟨⟨j,k⟩,hp,rfl⟩:=Vbt.mp he;exact O.le j (Va4 ((mem j k).mp hp))
  ·rw [hl'] at he;obtain ⟨⟨j,k⟩,hp,rfl⟩:=Vbt.mp he;have hk:=hat j k hp;refine (rc k _ j ?_ ((mem j k).mp hp)).mono oc;rw [Array.toList_map,T.el,VbH,Va3,VbF hk];simp [List.getD,hk]
 ·rw [hl',VbH];have e:l.map (·.2)=(List.range l.length).map λk=>(l.getD k (0,0,Value.none)).2:=by
   apply List.ext_getElem?;intro i;by_cases h:i<l.length
   ·simp [h]
   ·simp [h]
  rw [e];have:=hperm.map λk=>(l.getD k (0,0,Value.none)).2;rw [VbH] at this;exact this
end
section
variable{prog:Program}   {E:Value->Shared->Prop}
def items_int(h:ItemsAre (intKind prog w) ks vs):∀v∈vs,∃i t,v=Value.int i t:=by
 induction h with
 | nil=>exact λ_ h=>(VbN h).elim
 | @cons k v ks vs h1 _ ih =>
  intro u hu;rcases Vaq.mp hu with rfl | hu
  ·cases u with
   | int i t=>exact ⟨i,t,rfl⟩
   | _=>exact absurd h1 (by intro z;exact Bool.noConfusion z)
  ·exact ih u hu
def Zhl(hk:IsTupleKey (intKind prog w) s.heap ks a)(h:Q false s):wpAny (model prog w) A (ofAClassStatement 8 (.ref a)) Q E s:=by
 obtain ⟨o,items,n,ho,hc,hd,hi⟩:=hk;have hT:s.TypeIs (.ref a) "tuple" := ⟨o,ho,hc⟩;have hint:=items_int hi;unfold ofAClassStatement;refine Vaz (Vbe hT ?_);dsimp only;rw [if_pos (by decide)];refine Vaz (VaE ?_);simp only [Bool.not_true,Vby,Va8];refine Vaz (VbB ho hd ?_);refine Vaz ?_;rw [<-VbM];refine wpAny_forIn_list _ (λrest r s'=>r.1=none/\s'=s/\∀v∈rest,∃i t,v=Value.int i t) _ ?_ ?_ _ _ ⟨rfl,rfl,hint⟩
 ·rintro v rest r s' ⟨hr,rfl,hall⟩;obtain ⟨i,t,rfl⟩:=hall v Van;refine Vaz (VaE ?_);simp only [Vby,Va8];exact VaE ⟨rfl,rfl,λu hu'=>hall u (Vao _ hu')⟩
 ·rintro ⟨r1,r2⟩ s' ⟨hr,rfl,_⟩;simp only at hr;subst hr;exact VaE h
def ZnY{x:Addr}{ks:List Int}{stored:List Value}{Q:Bool->Shared->Prop}(hx:IsTupleKey (intKind prog w) s.heap ks x)(hs:∀y∈stored,∃b ks',y=Value.ref b/\IsTupleKey (intKind prog w) s.heap ks' b)(h:Q false s) :
  wpAny (model prog w) A (searchCouldBeSeen (.ref x) stored) Q E s:=by
 unfold searchCouldBeSeen;refine Vaz ?_;refine wpAny_forIn_list _ (λrest r s'=>r.1=none/\s'=s/\∀v∈rest,∃b ks',v=Value.ref b/\IsTupleKey (intKind prog w) s.heap ks' b) _ ?_ ?_ _ _ ⟨rfl,rfl,hs⟩
 ·rintro v rest r s' ⟨hr,rfl,hall⟩;obtain ⟨b,ks',rfl,hb⟩:=hall v Van;dsimp only;split
  ·exact VaE ⟨rfl,rfl,λu hu'=>hall u (Vao _ hu')⟩
  ·refine Vaz (wpAny_eqIsQuiet_tuple hx ?_);simp only [Bool.not_true,Vby,Va8];refine Vaz (wpAny_eqIsQuiet_tuple hb ?_);simp only [Bool.not_true,Vby,Va8];refine Vaz (Zhl hx ?_);simp only [Vby,Va8];refine Vaz (Zhl hb ?_);simp only [Vby,Va8];exact VaE ⟨rfl,rfl,λu hu'=>hall u (Vao _ hu')⟩
 ·rintro ⟨r1,r2⟩ s' ⟨hr,rfl,_⟩;simp only at hr;subst hr;exact VaE h
def ZjU(hk:IsTupleKey (intKind prog w) s.heap ks a)(h:Q true s):wpAny (model prog w) A (hashByValue 8 (.ref a)) Q E s:=by
 have hT:=hk.typeIs;obtain ⟨o,items,n,ho,hc,hd,hi⟩:=hk;have hint:=items_int hi;unfold hashByValue;refine Vaz (wpAny_specialOf hT F.slot_tuple_hash.lookup ?_);dsimp only;refine Vaz (VbB ho hd ?_);refine Vaz ?_;show wpAny _ _ (forIn items _ _) _ _ s;rw [<-VbM];refine wpAny_forIn_list _ (λrest r s'=>r.1=none/\s'=s/\∀v∈rest,∃i t,v=Value.int i t) _ ?_ ?_ _ _ ⟨rfl,rfl,hint⟩
 ·rintro v rest r s' ⟨hr,rfl,hall⟩;obtain ⟨i,t,rfl⟩:=hall v Van;refine Vaz (VaE ?_);simp only [Bool.not_true,Vby,Va8];exact VaE ⟨rfl,rfl,λu hu'=>hall u (Vao _ hu')⟩
 ·rintro ⟨r1,r2⟩ s' ⟨hr,rfl,_⟩;simp only at hr;subst hr;exact VaE h
end
section
variable{prog:Program}   {E:Value->Shared->Prop}
def El(prog:Program)(w:World)(h:Heap)(p:Int×Value)(ks:List Int):Prop:=∃x,p.2=.ref x/\IsTupleKey (intKind prog w) h ks x/\p.1=tupleKeyHash (intKind prog w) ks
def El.inj{h:Heap}{p:Int×Value}{a b:List Int}(ha:El prog w h p a)(hb:El prog w h p b):a=b:=by
 obtain ⟨x,e,hx,_⟩:=ha;obtain ⟨y,e',hy,_⟩:=hb;rw [e] at e';cases e';exact hx.inj hy
def Tb.fits{es:Array (Int×Value)}(T:Tb t es l)(hl:l.length<=t.mask):t.fits es.size=true:=by
 unfold SetTable.fits SetTable.fill;rw [T.du,T.size,T.esize];simp;exact hl
def Tb.odd{es:Array (Int×Value)}(T:Tb t es l):t.gaveWay=false:=by
 unfold SetTable.gaveWay;rcases T.ms with e | e<;>rw [e]<;>rfl
def Zqy{es:Array (Int×Value)}(T:Tb t es l):HAt l (λi=>(es[i]?.map (·.1)).getD 0):=λi e h=>by
 show ((es[i]?.map (·.1)).getD 0)=_;rw [<-VbY,T.el,Va3,h];rfl
def Zk9{x:Addr}{es:Array (Int×Value)}(hu:A.units<cLine)(ho:s.heap.get? a=some o)(hd:o.data=.set es ep t)(T:Tb t es l)(hl:l.length<=t.mask)(hel:∀e∈l,∃ks',El prog w s.heap e.2 ks')(hx:IsTupleKey (intKind prog w) s.heap ks x) :
  ∀n fuel stand,n<fuel->n<=10*(13+t.mask)->(stand.getD (t.probeStart (tupleKeyHash (intKind prog w) ks))).dummy=none->Zds t.mask (Occ l) n (stand.getD (t.probeStart (tupleKeyHash (intKind prog w) ks))) ->
   ((∃e∈l,El prog w s.heap e.2 ks/\Rch t.mask (Occ l) (stand.getD (t.probeStart (tupleKeyHash (intKind prog w) ks))) e.1)/\R (.there none) s)\/((∀e∈l,¬El prog w s.heap e.2 ks)/\∀j,¬Occ l j->Rch t.mask (Occ l) (stand.getD (t.probeStart (tupleKeyHash (intKind prog w) ks))) j->R (.free j false) s) ->
   wpAny (model prog w) A (setSearchFrom a (.ref x) (tupleKeyHash (intKind prog w) ks) true fuel stand) R E s:=by
 intro n
 induction n using Nat.strongRecOn with
 | ind n ih =>
  intro fuel stand hf hn hdm hE hR;obtain ⟨fuel,rfl⟩ : ∃k,fuel=k+1:=⟨fuel - 1,by omega⟩;unfold setSearchFrom;refine Vaz (VbZ ho hd (T.fits hl) ?_);dsimp only;rw [T.odd];simp only [Vby,Va8];generalize hp:stand.getD (t.probeStart (tupleKeyHash (intKind prog w) ks))=p at *;rcases Zfs (h:=tupleKeyHash (intKind prog w) ks) T (Zqy T) n (10*turns t.mask) p hdm hE (by unfold turns;omega) with ⟨j,e1,e2,e3,e4⟩ | ⟨i,e,p',n',e1,e2,e3,e4,e5,e6,e7,e8,e9⟩
  ·generalize hm:t.probe _ (tupleKeyHash (intKind prog w) ks) p=met;have hm':met=some (.empty j none):=hm.symm.trans e1;subst hm';dsimp only;refine VaE ?_;rcases hR with ⟨⟨e,he,hel',hr⟩,_⟩ | ⟨_,hR⟩
   ·obtain ⟨_,_,_,hh⟩:=hel';exact absurd hr (e4 e he hh)
   ·exact hR j e2 e3
  ·generalize hm:t.probe _ (tupleKeyHash (intKind prog w) ks) p=met;have hm':met=some (.candidate e.1 i (adv t.mask p')):=hm.symm.trans e1;subst hm';dsimp only;have hmem:e∈l:=Va4 e2;obtain ⟨ks',y,ey,hy,hyh⟩:=hel e hmem;have hes:es[i]?=some e.2:=by rw [<-VbY,T.el,Va3,e2];rfl
   have hes':es[i]?=some (e.2.1,Value.ref y):=by rw [hes,<-ey]
   have hnext:∀stand',stand'.getD (t.probeStart (tupleKeyHash (intKind prog w) ks))=adv t.mask p'->¬ks'=ks->wpAny (model prog w) A (setSearchFrom a (.ref x) (tupleKeyHash (intKind prog w) ks) true fuel stand') R E s:=λstand' hst hne=>by
    refine ih n' e6 fuel stand' (by omega) (by omega) ?_ ?_ ?_
    ·rw [hst];unfold adv;split<;>exact e5
    ·rw [hst];exact e7
    ·rw [hst];rcases hR with ⟨⟨e',he',hel',hr⟩,hq⟩ | ⟨hno,hR⟩
     ·left;refine ⟨⟨e',he',hel',e9 e' he' hel'.choose_spec.2.2 (λz=>?_) hr⟩,hq⟩;subst z;exact hne (El.inj ⟨y,ey,hy,hyh⟩ hel')
     ·exact .inr ⟨hno,λj hj hr=>hR j hj (e8 j hr)⟩
   have hthere:ks'=ks->R (.there none) s:=λhk=>by
    subst hk;rcases hR with ⟨_,hq⟩ | ⟨hno,_⟩
    ·exact hq
    ·exact absurd ⟨y,ey,hy,hyh⟩ (hno e hmem)
   rw [hes'];dsimp only;have hst:∀y∈List.map (λx=>x.2) (Array.filter (λx=>x.1==tupleKeyHash (intKind prog w) ks) es).toList,∃b ks',y=Value.ref b/\IsTupleKey (intKind prog w) s.heap ks' b:=λy hy=>by
    obtain ⟨q,hq,rfl⟩:=Vbt.mp hy;rw [Array.toList_filter] at hq;have hq:=(List.mem_filter.mp hq).1;rw [T.el] at hq;obtain ⟨e',he',rfl⟩:=Vbt.mp hq;obtain ⟨k2,y2,h1,h2,_⟩:=hel e' he';exact ⟨y2,k2,h1,h2⟩
   have hsm:t.sameMemory t.moves t.mask=some true:=by unfold SetTable.sameMemory;simp
   cases hled:t.led
   all_goals simp only [Bool.not_false,Bool.not_true,Vby,Va8,Va9]
   ·refine Vaz (ZnY hx hst ?_);simp only [Vby,Va8];refine Vaz (VaA (wpAny_eqBool_tuple hu hy hx ?_));refine Vaz (VbZ ho hd (T.fits hl) ?_);dsimp only;by_cases hk:ks'=ks
    ·rw [Vbm hk];simp only [Bool.and_true,Va9];exact VaE (hthere hk)
    ·rw [Vaa hk];simp only [Bool.and_false,Vby,Va8];rw [hsm];dsimp only;simp only [Va9];rw [T.live e2];dsimp only;rw [hes'];dsimp only;refine wpAny_bind (wpAny_of_eq (show isSame (.ref y) (.ref y)=pure true by unfold isSame;simp) ?_);refine Vaz (VaE ?_);exact hnext (some _) rfl hk
   ·refine Vaz (VaA (wpAny_eqBool_tuple hu hy hx ?_));refine Vaz (VbZ ho hd (T.fits hl) ?_);dsimp only;by_cases hk:ks'=ks
    ·rw [Vbm hk];simp only [Bool.and_true,Va9];exact VaE (hthere hk)
    ·rw [Vaa hk];simp only [Bool.and_false,Vby,Va8];rw [hsm];dsimp only;simp only [Va9];rw [T.live e2];dsimp only;rw [hes'];dsimp only;refine wpAny_bind (wpAny_of_eq (show isSame (.ref y) (.ref y)=pure true by unfold isSame;simp) ?_);refine Vaz (VaE ?_);exact hnext (some _) rfl hk
end
section
variable{prog:Program}   {E:Value->Shared->Prop}
def SetT(prog:Program)(w:World)(h:Heap)(a:Addr)(kss:List (List Int)):Prop:=∃o es ep t l,h.get? a=some o/\o.ExactSet/\o.data=.set es ep t/\Tb t es l/\(t.mask=7->l.length<=4)/\l.length<=16 /\
 (∀e∈l,∃ks∈kss,El prog w h e.2 ks)/\(∀ks∈kss,∃e∈l,El prog w h e.2 ks)/\l.length=kss.length
def El.keeps{es:Array (Int×Value)}(x:El prog w h p ks)(ho:h.get? a=some o)(hd:o.data=.set es ep t)(hs:Heap.SameBut a h h'):El prog w h' p ks:=by
 obtain ⟨x,e,⟨o',items,n,ho',hc,hd',hi⟩,hh⟩:=x;have hne:x≠a:=by
  rintro rfl;obtain rfl:o'=o:=Vau (ho'.symm.trans ho);rw [hd] at hd';exact nomatch hd'
 exact ⟨x,e,⟨o',items,n,(hs.2 x hne).trans ho',hc,hd',hi⟩,hh⟩
def ZqN(r:Rch m occ p j):p.j+p.more<=m->j<=m:=by
 induction r with
 | here p=>exact λh=>by omega
 | @next p j _ _ ih =>
  intro h;refine ih ?_;unfold adv;split
  ·simp only [];omega
  ·have hi:(leap m p.i p.perturb).1<=m:=by
    unfold leap;have:=Nat.mod_lt (p.i*5+1+p.perturb/32) (show 0<m+1 by omega);simp only [];omega
   have:=ZfR hi;simp only [];omega
def ZmL(t:SetTable)(j:Nat):(t.put j).1.mask=t.mask/\(t.put j).1.plain=t.plain:=⟨rfl,rfl⟩
def ZqK{x:Addr}(hu:A.units<cLine)(hS:SetT prog w s.heap a kss)(hx:IsTupleKey (intKind prog w) s.heap ks x)(hn:kss.length+1<=16)(h:∀b h',Heap.SameBut a s.heap h'->SetT prog w h' a (if ks∈kss then kss else kss++[ks])->Q b { s with heap:=h' }) :
  wpAny (model prog w) A (setAddHashed a (.ref x) (tupleKeyHash (intKind prog w) ks)) Q E s:=by
 obtain ⟨o,es,ep,t,l,ho,hex,hd,T,h7,h16,hl1,hl2,hlen⟩:=hS;have hmk:l.length<=t.mask:=by rcases T.ms with e | e<;>rw [e]<;>omega
 have hm0:7<=t.mask:=by rcases T.ms with e | e<;>omega
 unfold setAddHashed setAddHashedIn;refine VaA (Vaz (VbZ ho hd (T.fits hmk) ?_));dsimp only;rw [show byScan (.ref x) es=false from rfl];simp only [Vby,Va8];obtain ⟨e,he,hf⟩:=ZhS (m:=t.mask) (js:=l.map (·.1)) (by rw [VaO];exact hmk);have hE:Zds t.mask (Occ l) (10*(13+t.mask)) (t.probeStart (tupleKeyHash (intKind prog w) ks)):=by
  rw [Zm5];exact ends T.ms (by have:=Nat.mod_lt (bits (tupleKeyHash (intKind prog w) ks)) (show 0<t.mask+1 by omega);omega) (Zk6 _) he λ⟨e',he',q⟩=>hf (Vbt.mpr ⟨e',he',q⟩)
 have hb:10*(13+t.mask)<100000:=by rcases T.ms with e | e<;>rw [e]<;>decide
 refine Vaz (show wpAny _ _ (setSearchFrom a (.ref x) (tupleKeyHash (intKind prog w) ks) true 100000 none) _ _ _ from Zk9 hu ho hd T hmk (λe he=>let ⟨k,_,q⟩:=hl1 e he;⟨k,q⟩) hx (10*(13+t.mask)) 100000 none hb (VaH _) rfl hE ?_);by_cases hk:ks∈kss
 ·left;obtain ⟨e,he,hel⟩:=hl2 ks hk;refine ⟨⟨e,he,hel,?_⟩,?_⟩
  ·have:=T.rc e he;rw [hel.choose_spec.2.2] at this;exact this
  ·refine VaE ?_;have:=h false s.heap (Heap.SameBut.refl a s.heap) (by rw [if_pos hk];exact ⟨o,es,ep,t,l,ho,hex,hd,T,h7,h16,hl1,hl2,hlen⟩);exact this
 ·right;refine ⟨λe he hel=>?_,λj hj hr=>?_⟩
  ·obtain ⟨ks',hk',q⟩:=hl1 e he;have:=El.inj hel q;subst this;exact hk hk'
  ·dsimp only;refine Vaz (VbZ ho hd (T.fits hmk) ?_);dsimp only;have hjm:j<=t.mask:=by
    have hi:bits (tupleKeyHash (intKind prog w) ks)%(t.mask+1)<=t.mask:=by
     have:=Nat.mod_lt (bits (tupleKeyHash (intKind prog w) ks)) (show 0<t.mask+1 by omega);omega
    refine ZqN hr ?_;show bits (tupleKeyHash (intKind prog w) ks)%(t.mask+1)+(runEnd t.mask (bits (tupleKeyHash (intKind prog w) ks)%(t.mask+1)) - bits (tupleKeyHash (intKind prog w) ks)%(t.mask+1))<=t.mask;have:=ZfR hi;omega
   obtain ⟨l',hp,T'⟩:=T.put (x:=.ref x) hjm hj hr;obtain ⟨em,epl⟩:=ZmL t j;generalize ht':(t.put j).1=t' at T' em epl ⊢;generalize hes':insertAt es (t.put j).2 (tupleKeyHash (intKind prog w) ks,Value.ref x)=es' at T' ⊢;have ll':l'.length=l.length+1:=by rw [hp.length_eq];rfl
   have hmk':l'.length<=t'.mask:=by rw [em,ll'];rcases T.ms with e | e<;>rw [e]<;>omega
   have cont:wpAny (model prog w) A (do
     storeSet a es' t'
     if (!false&&t'.tooFull)=true then do
      setRelay a (grown (es.size+1))
      pure true
     else pure true) Q E s:=by
    have hg:(s.heap.update a (Obj.putSet es' t')).get? a=some { o with data:=.set es' (ep+1) t' }:=by
     have:=Vbh (Obj.putSet es' t') ho (by rw [putSet_of es' t' hd];rfl);rw [putSet_of es' t' hd] at this;exact this
    have hsb:=VbD s.heap a (Obj.putSet es' t');have hx1:El prog w (s.heap.update a (Obj.putSet es' t')) (tupleKeyHash (intKind prog w) ks,Value.ref x) ks:=El.keeps ⟨x,rfl,hx,rfl⟩ ho hd hsb;have g1:∀e∈l',∃k∈kss++[ks],El prog w (s.heap.update a (Obj.putSet es' t')) e.2 k:=λe he=>by
     rcases Vaq.mp (hp.mem_iff.mp he) with rfl | he
     ·exact ⟨ks,by simp,hx1⟩
     ·obtain ⟨k,h1,h2⟩:=hl1 e he;exact ⟨k,Vas _ h1,h2.keeps ho hd hsb⟩
    have g2:∀k∈kss++[ks],∃e∈l',El prog w (s.heap.update a (Obj.putSet es' t')) e.2 k:=λk hk'=>by
     rcases Var.mp hk' with hk' | hk'
     ·obtain ⟨e,h1,h2⟩:=hl2 k hk';exact ⟨e,hp.mem_iff.mpr (Vao _ h1),h2.keeps ho hd hsb⟩
     ·rw [VbR] at hk';subst hk';exact ⟨_,hp.mem_iff.mpr Van,hx1⟩
    have hz:es'.size<=sizeLine:=by rw [T'.esize,ll',sizeLine_eq];omega
    refine Vaz (wpAny_storeSet_of ho hd ?_ hz);have hfill:t'.fill=l'.length:=by unfold SetTable.fill;rw [T'.du,T'.size];rfl
    by_cases hfull:t'.tooFull=true
    ·rw [hfull];simp only [Bool.not_false,Bool.and_true,Va9];unfold SetTable.tooFull at hfull;rw [hfill,em,ll'] at hfull;have hfull:=of_decide_eq_true hfull;have e7:t.mask=7:=by
      rcases T.ms with e | e
      ·exact e
      ·rw [e] at hfull;omega
     have h4:=h7 e7;rw [e7] at hfull;have e4:l.length=4:=by omega
     have ew:es.size+1=5:=by rw [T.esize,e4]
     rw [ew];obtain ⟨t2,order,l2,r1,r2,r3,r4,T2,hp2⟩:=T'.relay (by omega) (wanted:=grown 5) (by decide);have hmap:∀e∈l2,∃e'∈l',e'.2=e.2:=λe he=>by
      have:=hp2.mem_iff.mp (Vbt.mpr ⟨e,he,rfl⟩);obtain ⟨e',h1,h2⟩:=Vbt.mp this;exact ⟨e',h1,h2⟩
     have hmap':∀e∈l',∃e'∈l2,e'.2=e.2:=λe he=>by
      have:=hp2.mem_iff.mpr (Vbt.mpr ⟨e,he,rfl⟩);obtain ⟨e',h1,h2⟩:=Vbt.mp this;exact ⟨e',h1,h2⟩
     have ll2:l2.length=l'.length:=by have:=hp2.length_eq;simpa using this
     refine Vaz ?_;unfold setRelay;refine Vaz (VbZ hg rfl (T'.fits hmk') ?_);dsimp only;rw [if_neg (by decide),r1];refine Vaz ?_;have hsz:(order.filterMap (es'[·]?)).size=es'.size:=by rw [T2.esize,ll2,T'.esize]
     show wpAny (model prog w) A (if ((order.filterMap (es'[·]?)).size != es'.size)=true then _ else _) _ _ _
     rw [if_neg (by rw [hsz];simp)];refine VaE ?_;dsimp only;have hg2:((s.heap.update a (Obj.putSet es' t')).update a (Obj.putSet (order.filterMap (es'[·]?)) t2)).get? a=some { o with data:=.set (order.filterMap (es'[·]?)) (ep+1+1) t2 }:=by
      have:=Vbh (Obj.putSet (order.filterMap (es'[·]?)) t2) hg (by rw [putSet_of _ t2 rfl];rfl);rw [putSet_of _ t2 rfl] at this;exact this
     have hsb2:=VbD (s.heap.update a (Obj.putSet es' t')) a (Obj.putSet (order.filterMap (es'[·]?)) t2);refine wpAny_storeSet_of hg rfl ?_ (by rw [hsz];exact hz);refine VaE (h true _ (hsb.trans hsb2) ?_);rw [if_neg hk];refine ⟨_,_,_,t2,l2,hg2,hex,rfl,T2,λz=>by rw [r2] at z;omega,by omega,λe he=>?_,λk hk'=>?_,by rw [ll2,ll',hlen];simp⟩
     ·obtain ⟨e',h1,h2⟩:=hmap e he;obtain ⟨k,h3,h4⟩:=g1 e' h1;rw [h2] at h4;exact ⟨k,h3,h4.keeps hg rfl hsb2⟩
     ·obtain ⟨e,h1,h2⟩:=g2 k hk';obtain ⟨e',h3,h4⟩:=hmap' e h1;rw [<-h4] at h2;exact ⟨e',h3,h2.keeps hg rfl hsb2⟩
    ·rw [Bool.eq_false_iff.mpr hfull];simp only [Bool.not_false,Bool.and_false,Vby,Va8];refine VaE (h true _ hsb ?_);rw [if_neg hk];refine ⟨_,es',ep+1,t',l',hg,hex,rfl,T',λz=>?_,by omega,g1,g2,by rw [ll',hlen];simp⟩;unfold SetTable.tooFull at hfull;rw [hfill,z] at hfull;have:=of_decide_eq_false (Bool.eq_false_iff.mpr hfull);omega
   split
   ·refine Vaz (ZjU hx ?_);simp only [Va9];exact cont
   ·refine Vaz (VaE ?_);simp only [Va9];exact cont
end
end L2.Sx
namespace L2.Sx
open PySem.SetTable
open Dl (firsts)
def ZhE(kf):∀i,(firsts kf i).length<=i
 | 0=>VaH _
 | i+1=>by
  have:=ZhE kf i;unfold firsts;split
  ·omega
  ·simp;omega
section
variable{prog:Program}   {R:Result->Shared->Prop} {I:Addr} {fp wr:List Addr} {G:Array GenState->Array GenState->Prop}  {P:Nat->Value->Prop} {St:Nat->Shared->Prop}
def SetT.keep(hS:SetT prog w h a kss)(ha:∀o,h.get? a=some o->h'.get? a=some o)(hk:∀b o,h.get? b=some o->o.cls=.type "tuple"->h'.get? b=some o):SetT prog w h' a kss:=by
 obtain ⟨o,es,ep,t,l,ho,hex,hd,T,h7,h16,hl1,hl2,hlen⟩:=hS;have up:∀{e ks},El prog w h e ks->El prog w h' e ks:=λ{e ks} hel=>by
  obtain ⟨x,e1,⟨o',items,n,ho',hc,r⟩,hh⟩:=hel;exact ⟨x,e1,⟨o',items,n,hk x o' ho' hc,hc,r⟩,hh⟩
 exact ⟨o,es,ep,t,l,ha o ho,hex,hd,T,h7,h16,λe he=>let ⟨k,h1,h2⟩:=hl1 e he;⟨k,h1,up h2⟩,λk hk'=>let ⟨e,h1,h2⟩:=hl2 k hk';⟨e,h1,up h2⟩,hlen⟩
def SetT.cls(hS:SetT prog w h a kss):∀o,h.get? a=some o->o.cls≠.type "tuple" := λo' ho' hc=>by
 obtain ⟨o,es,ep,t,l,ho,hex,_⟩:=hS;rw [ho] at ho';cases ho';rw [hex.1] at hc;exact absurd hc (by decide)
def ZpA(W:WalksS prog w A.in1 I fp wr G n P St)(S)(hSf:S∉fp)(hwr:∀i s,St i s->∀b∈wr,∀o,s.heap.get? b=some o->o.cls≠.type "tuple")(kf)(hu:A.in1.units<cLine)(h0)(hval:∀i v,P i v->∃x,v=.ref x/\IsTupleKey (intKind prog w) h0 (kf i) x)(hb:n<=16) :
  ∀k i s,n - i=k->i<=n->St i s->SetT prog w s.heap S (firsts kf i)->(∀b o,h0.get? b=some o->o.cls=.type "tuple"->s.heap.get? b=some o) ->
   (∀s',Moved (S::wr) G s s'->SetT prog w s'.heap S (firsts kf n)->R (.ok (.ret .none)) s')->codeAny (model prog w) A (.builtin "set.update.loop" ⟨[.ref S,.ref I],[]⟩) R s:=by
 have hSw:S∉wr:=λh=>hSf (W.sub _ h);have hsub:∀b∈wr,b∈S::wr:=λb hb=>Vao _ hb;have mv:∀{i s s'},St i s->Moved wr G s s'->∀b o,s.heap.get? b=some o->o.cls=.type "tuple"->s'.heap.get? b=some o:=λ{i s s'} st m b o e hc=>m.heap b o (λz=>hwr i s st b z o e hc) e;intro k
 induction k with
 | zero =>
  intro i s hk hi hst hS _ hR;obtain rfl:i=n:=by omega
  refine Vbw F.entry_set_update_loop ?_;rw [VbO F.plain_set_update_loop _];show wpAny _ A.in1 (pyNext (.ref I) >>= _) _ _ s;refine Vaz (W.done s _ _ hst λs' hm=>?_);show wpAny _ A.in1 (ret Value.none) _ _ s';exact VaE (hR s' (hm.mono hsub) (hS.keep (λo e=>hm.heap S o hSw e) (mv hst hm)))
 | succ k ih =>
  intro i s hk hi hst hS h0s hR;have hlt:i<n:=by omega
  refine Vbw F.entry_set_update_loop ?_;rw [VbO F.plain_set_update_loop _];show wpAny _ A.in1 (pyNext (.ref I) >>= _) _ _ s;refine Vaz (W.item i s _ _ hlt hst λv s' hP hst' hm=>?_);obtain ⟨x,rfl,hx0⟩:=hval i v hP;have hS':=hS.keep (λo e=>hm.heap S o hSw e) (mv hst hm);have h0s':∀b o,h0.get? b=some o->o.cls=.type "tuple"->s'.heap.get? b=some o:=λb o e hc=>mv hst hm b o (h0s b o e hc) hc;have hx:IsTupleKey (intKind prog w) s'.heap (kf i) x:=by
   obtain ⟨o,items,m,ho,hc,r⟩:=hx0;exact ⟨o,items,m,h0s' x o ho hc,hc,r⟩
  show wpAny _ A.in1 (holding [Value.ref x] (setAdd S (.ref x)) >>= _) _ _ s';refine Vaz (VaA ?_);unfold setAdd;refine VaA ?_;refine Vaz (wpAny_pyHash_tuple hu hx ?_);refine ZqK (s:={ s' with toks:=s'.toks+((kf i).length+1) }) hu hS' hx (by have:=ZhE kf i;omega) λb h' hsb hS2=>?_
  have tk:∀b o,s'.heap.get? b=some o->o.cls=.type "tuple"->h'.get? b=some o:=λb o e hc=>by
   rw [hsb.2 b (λz:b=S=>by subst z;exact hS'.cls o e hc)];exact e
  refine VaE ⟨plainId_quiet F.plain_set_update_loop _,ih (i+1) _ (by omega) hlt (W.frame _ s' _ _ hst' (Nat.le_add_right _ _) λb hb' o e=>?_) hS2 (λb o e hc=>tk b o (h0s' b o e hc) hc) λs'' hm'' hS''=>?_⟩
  ·rw [hsb.2 b (λz:b=S=>hSf (by rw [<-z];exact hb'))];exact e
  ·refine hR s'' (Moved.trans W.gtrans ((hm.mono hsub).then_heap (Nat.le_add_right _ _) λb o hb' e=>?_) hm'') hS'';rw [hsb.2 b (λz:b=S=>hb' (by rw [z];exact Van))];exact e
end
open Dl (firsts)
section
variable{prog:Program}   {E:Value->Shared->Prop}
abbrev Zf2(led:Bool):Obj:={ cls:=.type "set", dict:=none,data:=.set #[] 0 (.fresh 0 0 led) }
def ZmV{h:Heap}{a:Addr}{led:Bool}(ho:h.get? a=some (Zf2 led)):SetT prog w h a [] :=
 ⟨_,#[],0,.fresh 0 0 led,[],ho,⟨rfl,rfl,rfl⟩,rfl,⟨.inl rfl,rfl,rfl,rfl,.nil,λ_ h=>(VbN h).elim,λ_ h=>(VbN h).elim⟩,λ_=>by decide,by decide,λ_ h=>(VbN h).elim,λ_ h=>(VbN h).elim,rfl⟩
set_option maxHeartbeats 8000000 in
def call_set(hh:A.handled=none)(hu:A.units+20<cLine)(hl:s.heap.IsList l items)(hi:∀i v,items[i]?=some v->∃x,v=.ref x/\IsTupleKey (intKind prog w) s.heap (kf i) x)(hb:items.size<=16)(h:∀(h':Heap) (tk:Nat),SetT prog w h' s.heap.objs.size (firsts kf items.size)->(∀b o,b<s.heap.objs.size->s.heap.get? b=some o->h'.get? b=some o)->Q (.ref s.heap.objs.size) { s with heap:=h',toks:=tk }) :
  wpAny (model prog w) A (call (.type "set") [.ref l]) Q E s:=by
 obtain ⟨c,tl,hmro⟩:=F.called_set.mro;have hmade:=F.called_set.made;have hsub:=F.called_set.sub;refine wpAny_call (codeAny_of_tree ?_);show wpAny _ _ (callAny (.type "set") _) _ _ _;refine VaE ⟨Code.quiet_builtin _ (by decide +kernel),Vbw F.entry_type_call ?_⟩;rw [Around.under_plain (weight_type_call_type "set" [.ref l] []) rfl];have h1:=F.called_set.notType;have h2:=F.called_set.canCreate;have hct:=F.typeCall_set_1 (.ref l)
 repeat (any_goals (first | assumption | wp_step))
 refine VaV (code_set_new_1 (.ref l) (E:=E) (Q₁:=λobj s₁=>∃led,obj=.ref s.heap.objs.size/\s₁={ s with heap:=s.heap.push (Zf2 led) }) λled=>⟨led,rfl,rfl⟩) λr s₁ hr=>?_
 cases r with
 | error e=>exact hr
 | ok fl =>
  cases fl with
  | next=>exact hr.elim
  | brk=>exact hr.elim
  | cont=>exact hr.elim
  | ret obj =>
   obtain ⟨led,rfl,rfl⟩:=hr;have hS:(s.heap.push (Zf2 led)).get? s.heap.objs.size=some (Zf2 led):=VaG _ rfl;have hT:Shared.TypeIs { s with heap:=s.heap.push (Zf2 led) } (.ref s.heap.objs.size) "set" := ⟨_,hS,rfl⟩
   have hli:=F.called_set.init.lookup;have hbi:=F.called_set.init.bind (.ref s.heap.objs.size)
   repeat (any_goals (first | assumption | wp_step))
   refine VaV (codeAny_call_builtin (R:=wants (λr s₂=>r=.none/\∃h' tk,s₂={ s with heap:=h',toks:=tk }/\SetT prog w h' s.heap.objs.size (firsts kf items.size) /\
     (∀b o,b<s.heap.objs.size->s.heap.get? b=some o->h'.get? b=some o)) E) F.called_set.init.plain F.entry_set_init (check_set_init_1 hT ?_)) λr₂ s₂ hr₂=>?_
   ·obtain ⟨ol,hol,hcl,nl,hdl⟩:=hl;obtain ⟨ocls,odict,odata,oslots⟩:=ol;simp only at hcl hdl;subst hcl;subst hdl;have hol':(s.heap.push (Zf2 led)).get? l=some { cls:=.type "list", dict:=odict,data:=.seq items nl,slots:=oslots }:=VaF _ hol;have hsls:=F.sub_list_set;have hslf:=F.sub_list_frozenset;have hne:(Value.type "list"==Value.type "dict")=false:=by decide
    have hl1:(s.heap.push (Zf2 led)).IsList l items:=⟨_,hol',rfl,nl,rfl⟩;unfold Builtin.«set.__init__» noKeywords Builtin.Frozenset.updateFrom;generalize hPI:pyIter=PI
    wp_walk
    subst hPI;refine Vbz hl1 ?_;refine Vaz (wpAny_runValue ?_);have hlS:l<s.heap.objs.size:=Vac hol;have hh3:A.in1.in1.in1.handled=none:=by simp [hh]
    have hneI:l≠(s.heap.push (Zf2 led)).objs.size:=by
     rw [VaP];exact Vaf (Vbq hlS)
    have hSf:s.heap.objs.size∉[(s.heap.push (Zf2 led)).objs.size,l]:=by
     rw [VaP];simp only [Vaq,VbR,VbN,or_false,not_or];exact ⟨Vaf (VaQ _),VaD hlS⟩
    refine ZpA ((Walks.list hh3 _ l hneI items).toS) s.heap.objs.size hSf ?hw kf (by show A.units+1+1+1<cLine;omega) s.heap hi hb (items.size - 0) 0 _ (by omega) (VaR _)
     ⟨⟨_,VaG _ rfl,rfl,rfl⟩,(hl1.push _)⟩ ?hS0 ?hT0 ?hR
    case hw =>
     rintro i s' ⟨⟨o',ho',hc',_⟩,_⟩ b hb' o'' e' hc;rw [VbR] at hb';subst hb';rw [ho'] at e';cases e';rw [hc'] at hc;exact absurd hc (by decide)
    case hS0=>exact ZmV (VaF _ hS)
    case hT0=>exact λb o e _=>VaF _ (VaF _ e)
    case hR =>
     intro s' hm hS';obtain ⟨h',g',d',tk',os'⟩:=s';have eg:g'=s.gens:=hm.gens;have ed:d'=s.drawn:=hm.drawn;have eo:os'=s.os:=hm.os;subst eg;subst ed;subst eo;show wpAny _ _ _ _ _ _;refine VaE ?_;show wpAny _ _ (ret Value.none) _ _ _;refine VaE ⟨rfl,h',tk',rfl,hS',λb o hb' e=>?_⟩;have hb1:b≠s.heap.objs.size:=Vaf hb';have hb2:b≠(s.heap.push (Zf2 led)).objs.size:=by
      rw [VaP];exact Vaf (Vbq hb')
     exact hm.heap b o (by simp only [Vaq,VbR,VbN,or_false,not_or];exact ⟨hb1,hb2⟩) (VaF _ (VaF _ e))
   ·cases r₂ with
    | error e=>exact hr₂
    | ok fl₂ =>
     cases fl₂ with
     | next=>exact hr₂.elim
     | brk=>exact hr₂.elim
     | cont=>exact hr₂.elim
     | ret r =>
      obtain ⟨rfl,h',tk,rfl,hS',hk'⟩:=hr₂
      repeat (any_goals (first | assumption | wp_step))
      exact h _ _ hS' hk'
end
end L2.Sx
namespace L2
def Zp9:bootBuiltins "set"=some (.type "set"):=by decide +kernel
def SetN(o:Obj)(n:Nat):Prop:=o.ExactSet/\n<=16/\∃es ep t,o.data=.set es ep t/\t.fits es.size=true/\es.size=n
def Zrt(K:W.Frag)(H:Hp)(xs:List V)(kss:List (List Int)):Prop:=∀i x,xs[i]?=some x->∃a,x=.ref a/\SqT K H a ((kss.getD i []).map V.int)
def rSet(K:W.Frag):List V->Hp->VK->Prop:=λvs H Q=>∃l xs kss,vs=[.ref l]/\SqL K H l xs/\Zrt K H xs kss/\xs.length<=16/\∀a o,H a=none->SetN o (Dl.firsts (λi=>kss.getD i []) xs.length).length->Q (.ref a) (upd H a (objX a o))
def Zoq:List V->Hp->VK->Prop:=λvs H Q=>∃a o n,vs=[.ref a]/\H a=some (objX a o)/\SetN o n/\Q (.int (n:Nat)) H
section
def Zjy:∀{ns:List Int} {its:List Value},Vals (ns.map V.int) its->ItemsAre (intKind prog w) ns its
 | [],_,.nil=>.nil
 | n::r,_,.cons h t=>by
  obtain ⟨tk,rfl⟩:=h;exact .cons (intKind_is _ _ _ _) (Zjy t)
def Zla:∀{xs:List V} {us:List Value},Vals xs us->∀{i:Nat} {u:Value},us[i]?=some u->∃x,xs[i]?=some x/\RelV x u
 | _,_,.cons h _,0,_,e=>⟨_,rfl,by cases e;exact h⟩
 | _,_,.cons _ t,i+1,_,e=>Zla t (by simpa using e)
 | _,_,.nil,i,_,e=>by simp at e
def Zjr:∀{xs:List V} {us:List Value},Vals xs us->us.length=xs.length
 | _,_,.nil=>rfl
 | _,_,.cons _ t=>by simp [Zjr t]
def ZlO(hr:Room k X.A):Zc1 X (.type "set") (rSet X.K):=by
 intro pins s σ H vs us Q I rv ⟨l,xs,kss,e,hl,hk,h16,hq⟩;subst e;cases rv with
 | cons r1 rr =>
  cases rr;cases r1;obtain ⟨its,r,⟨o,n,e1,e2,_,e3⟩,_⟩:=I.list hl;have hlen:=Zjr r;refine L2.Sx.call_set (items:=its.toArray) (kf:=λi=>kss.getD i []) hr.hd (by have:=hr.un;omega) ⟨o,e1,e2,n,e3⟩ (λi v hv=>?_) (by simpa [hlen] using h16) λh' tk hS hkeep=>?_
  ·obtain ⟨x,hx,rx⟩:=Zla r (i:=i) (by simpa using hv);obtain ⟨a,rfl,hT⟩:=hk i x hx;cases rx;obtain ⟨is,ri,⟨o',p1,p2,m,p3⟩,_⟩:=I.tuple hT;exact ⟨a,rfl,o',is.toArray,m,p1,p2,p3,by simpa using Zjy ri⟩
  ·have kk:∀b u,s.heap.get? b=some u->h'.get? b=some u:=λb u e=>hkeep b u (Vac e) e;obtain ⟨o',es,ep,t,l',ho,hex,hd,T,h7,hl16,_,_,hln⟩:=hS;have hmk:l'.length<=t.mask:=by rcases T.ms with e | e<;>rw [e]<;>omega
   have I':=I.laid (t':=tk) (o:=objX s.heap.objs.size o') kk (VaH _) (Zh4 ho);refine ⟨.ref s.heap.objs.size,_,I',rfl,hq _ o' (I.hok.fresh (VaH _)) ⟨hex,?_,es,ep,t,hd,T.fits hmk,?_⟩⟩
   ·rw [<-hlen];have e:=hln;rw [Va7] at e;omega
   ·rw [T.esize,hln,<-hlen];simp
def Zk1:Zc1 X (.builtin "len") Zoq:=by
 intro pins s σ H vs us Q I rv ⟨a,o,n,e,hH,⟨hex,h16,es,ep,t,hd,hf,hn⟩,q⟩;subst e;cases rv with
 | cons r1 rr =>
  cases rr;cases r1;have ho:=ZgZ I.hok hH;refine call_len_set ho hex hd hf (by omega) ?_;rw [hn];exact ⟨.int (n:Nat),H,I.tok _,⟨_,rfl⟩,q⟩
end
end L2
namespace L2.Ds
open Dl
section
def ZfU{F:Hp}:∀{xs:List V} {ds:List D} {ns:List Int},Rps K mg F xs ds->intsOf ds=some ns->xs=ns.map V.int
 | _,[],_,.nil,e=>by cases e;rfl
 | _,d::ds,ns,.cons h r,e=>by
  cases d with
  | int n =>
   cases q:intsOf ds with
   | none=>unfold intsOf at e;rw [q] at e;cases e
   | some ms =>
    unfold intsOf at e;rw [q] at e;cases e;cases h;rw [ZfU r q];rfl
  | _=>cases e
def ZiL{F:Hp}(s:Same F H):∀{xs:List V} {ds:List D} {ks:List (List Int)},Rps K mg F xs ds->keysOf ds=some ks->Zrt K H xs ks
 | _,[],_,.nil,_=>λi x h=>by simp at h
 | _,d::ds,ks,.cons h r,e=>by
  cases d with
  | tup es =>
   cases q:intsOf es with
   | none=>unfold keysOf at e;rw [q] at e;cases e
   | some k =>
    cases q2:keysOf ds with
    | none=>unfold keysOf at e;rw [q,q2] at e;cases e
    | some kr =>
     unfold keysOf at e;rw [q,q2] at e;cases e;intro i x hx;cases i with
     | zero =>
      cases hx;cases h with
      | tup ht rt =>
       rw [ZfU rt q] at ht;exact ⟨_,rfl,ZaB s ht⟩
     | succ i=>exact ZiL s r q2 i x (by simpa using hx)
  | _=>cases e
end
section
variable       {p p1 q p2:Pos}
def Zjj(hr:Room k X.A)(hgl:Gl X "len")(hml:X.mg "len"=none)(hgs:Gl X "set")(hms:X.mg "set"=none)(he:DE X E e te me)(h1:starEach [e] X.env=[(false,eval e X.env)]:=by rfl)(h2:starEach [Expr.Call (.Name "set" q) [e] [] p2] X.env=[(false,eval (.Call (.Name "set" q) [e] [] p2) X.env)]:=by rfl) :
  DE X E (.Call (.Name "len" p) [.Call (.Name "set" q) [e] [] p2] [] p1) (tCB Zoq (Zbd (tCB (rSet X.K) (Zbd te tNil)) tNil)) (o1 ZgC me):=by
 refine ⟨Zi1 Zk1 hgl hml Zgi (Zbh (Zhu (ZlO hr) hgs hms Zp9 (Zbh he.p Zeh h1) (by decide) (by decide) h1 rfl) Zeh h2) (by decide) (by decide) h2 rfl,?_⟩;intro F0 H0 F H σ ρ rr;refine (he.s F0 H0 F H σ ρ rr).bind λF1 H1 x dx g1 rx=>?_;show Ans X.mg E (Rp X.K X.mg) F1 H1 (ZgC dx) λQ=>rSet X.K [x] H1 λv H2=>Zoq [v] H2 Q;cases dx with
 | lst ds =>
  cases rx with
  | lst hl rl =>
   rename_i l xs;show Ans X.mg E (Rp X.K X.mg) F1 H1 (match keysOf ds with | some ks=>if ds.length<=16 then .ok (.int ((firsts (λi=>ks.getD i []) ds.length).length:Nat)) else .bad | none=>.bad) _
   cases hk:keysOf ds with
   | none=>trivial
   | some ks =>
    by_cases h16:ds.length<=16
    ·show Ans X.mg E (Rp X.K X.mg) F1 H1 (if ds.length<=16 then .ok (.int ((firsts (λi=>ks.getD i []) ds.length).length:Nat)) else .bad) _
     rw [if_pos h16];intro Q q;refine ⟨_,_,ks,rfl,g1.s.seq hl,ZiL g1.s rl hk,by rw [rl.length];exact h16,λa o hn hS=>⟨a,o,_,rfl,Zaf,hS,?_⟩⟩;rw [rl.length];exact q _ _ _ (.new g1.s hn _) (.int _)
    ·show Ans X.mg E (Rp X.K X.mg) F1 H1 (if ds.length<=16 then .ok (.int ((firsts (λi=>ks.getD i []) ds.length).length:Nat)) else .bad) _
     rw [if_neg h16];trivial
 | _=>trivial
end
end L2.Ds
namespace Dl
def ZoI(ix:List (Option Nat))(zs:List D):List D:=ix.map λo=>match o with
 | some i=>zs.getD i .non
 | none=>.non
def onK(f:List D->Res D)(ix:List (Option Nat))(a k:MA):ME:=λρ=>(a ρ).bind λxs=>(k ρ).bind λzs=>f (xs++ZoI ix zs)
end Dl
namespace L2
structure FunD(K:W.Frag)(x qual:Str)(st:Stmt)(dV:Value)(f:Addr)(fd:FuncData):Prop where
 ex:∃(oc:Value) (od:Option Addr) (kV doc pm:Value) (an:Option Addr) (cdv ct:Value) (osl:Array (Option Value)),
  fd=W.fnOf x qual (ZaY st) (Zav st) (Zac st) dV kV doc pm an cdv ct/\K.lookup f=some ⟨oc,od,.func fd,osl⟩/\W.codeIn K cdv qual=true
def Ziq(ix:List (Option Nat))(ws:List Value):List Value:=ix.map λo=>match o with
 | some i=>ws.getD i .none
 | none=>.none
def ZjE(ix:List (Option Nat))(zs:List V):List V:=ix.map λo=>match o with
 | some i=>zs.getD i .non
 | none=>.non
def ZhP:∀{zs:List V} {ws:List Value},Vals zs ws->∀i,RelV (zs.getD i .non) (ws.getD i .none)
 | _,_,.nil,i=>by simp;rfl
 | _,_,.cons h _,0=>h
 | _,_,.cons _ t,i+1=>by simpa using ZhP t i
def Zft(r:Vals zs ws):∀ix,Vals (ZjE ix zs) (Ziq ix ws)
 | []=>.nil
 | some i::rest=>.cons (ZhP r i) (Zft r rest)
 | none::rest=>.cons rfl (Zft r rest)
def DfB(K:W.Frag)(fd:FuncData)(ps ks:List Str)(ix:List (Option Nat)):Prop:=∀s us ws,K.In s.heap->(us++Ziq ix ws).length=ps.length->BindsTo s fd ⟨us,ks.zip ws⟩ (ps.zip (us++Ziq ix ws))
end L2
namespace L2.Ds
open Dl
section
variable        {f:Addr} {dV:Value}
def okDF{st:Stmt}{mb:MS}(F:FunD K x x st dV f fd)(S:Zag N ps (Zac st))(h:∀(cdv:Value) (A:Around) (outer:List Env) (s:Shared) (H:Hp) (E:XK),Room k (A.deeper (envOfC x (Zac st) s.heap.objs.size f cdv))->∃t,DSs (cxOf (CXR P w) P w K mg base N x (Zac st) f cdv A outer s H E) E (Zav st) t mb) :
  FnOk P w K mg base (CXR P w) (k+1) f fd ps (spD K mg ps.length (fn N.length mb)):=by
 obtain ⟨oc,od,kV,doc,pm,an,cdv,ct,osl,rfl,lk,hcd⟩:=F.ex;refine Zix lk hcd S (λvs H Q E q=>q.1) λA outer s H vs Q E hr hsp=>?_;obtain ⟨t,hd⟩:=h cdv A outer s H E hr;refine ⟨t,hd.p,?_⟩;obtain ⟨_,F0,ds,s0,rs,hb,hok,hex⟩:=hsp;have z:=hd.s F0 H F0 H (start N vs) (ev0 N.length ds) (Zc0 s0 rs);unfold fn at hb hok hex;cases e:mb (ev0 N.length ds) with
 | ok fl =>
  rw [e] at z hb hok hex;cases fl with
  | nx ρ=>exact z _ λF' H' σ' _ r'=>hok .non rfl F' H' .non r'.g .non
  | rt d=>exact z _ λF' H' v g rv=>hok d rfl F' H' v g rv
  | bk ρ=>exact absurd rfl hb
  | ct ρ=>exact absurd rfl hb
 | ex c =>
  rw [e] at z hex;exact z _ λF' H' C g hc=>hex c rfl F' H' C g hc
 | bad=>rw [e] at hb;exact absurd rfl hb
structure CalK(P:Program)(w:World)(K:W.Frag)(mg:Str->Option Value)(base:Heap)(n:Nat)(x:Str)(ps ks:List Str)(ix:List (Option Nat))(m:List D->Res D):Prop where
 ex:∃(f:Addr) (fd:FuncData),FnOk P w K mg base (CXR P w) n f fd ps (spD K mg ps.length m)/\DfB K fd ps ks ix/\W.keepIn K (.ref f)=true/\mg x=some (.ref f)
def ZjB{F:Hp}:∀{zs:List V} {ds:List D},Rps K mg F zs ds->∀i,Rp K mg F (zs.getD i .non) (ds.getD i .non)
 | _,_,.nil,i=>by simp;exact .non
 | _,_,.cons h _,0=>h
 | _,_,.cons _ t,i+1=>by simpa using ZjB t i
def ZgO{F:Hp}(r:Rps K mg F zs ds):∀ix,Rps K mg F (ZjE ix zs) (ZoI ix ds)
 | []=>.nil
 | some i::rest=>.cons (ZjB r i) (ZgO r rest)
 | none::rest=>.cons .non (ZgO r rest)
def Zmy(ix)(zs):(ZoI ix zs).length=ix.length:=VaO _
end
section
variable   {l n':Nat}  {ks:List Str} {ix:List (Option Nat)} {f:List D->Res D} {t tk:TA} {m mk:MA}   {kws:List Keyword} {p:Pos}
def Zmf(ha:SA X.K X.mg E t m)(hl:SAn n m)(hk:SA X.K X.mg E tk mk)(hn:n+ix.length=n'):SE X.K X.mg E (Zr1 (spD X.K X.mg n' f) (λvs zs=>vs++ZjE ix zs) E t tk) (onK f ix m mk):=by
 intro F0 H0 F H σ ρ rr;refine (ha F0 H0 F H σ ρ rr).bindE (w':=λvs H1 Q=>tk σ H1 λzs H2=>spD X.K X.mg n' f (vs++ZjE ix zs) H2 Q E) λds e F1 H1 vs g1 rs=>?_;refine (hk F0 H0 F1 H1 σ ρ (rr.gr g1)).bindE (w':=λzs H2 Q=>spD X.K X.mg n' f (vs++ZjE ix zs) H2 Q E) λes e' F2 H2 zs g2 rz=>?_;exact ZgG (E:=E) (m:=f) g2.s (Rps.app (ZgO rz ix) (rs.same g2.f)) (by rw [Va5,Zmy,hl ρ ds e,hn])
def ZcX(C:CalK X.prog X.w X.K X.mg X.base k x ps [] ix f)(hr:Room l X.A)(hn:k<=l)(hg:Gl X x)(hx:Zbi (CXR X.prog X.w) X E)(ha:DA X E n (e::es) t m)(hps:n+ix.length=ps.length:=by rfl)(hdb:(x==("__debug__" : Str))=false:=by decide)(he:starEach (e::es) X.env=(false,eval e X.env)::starEach es X.env:=by rfl)(hpl:(backTo pos (starEach es X.env)).any (·.1)=false:=by rfl) :
  DE X E (.Call (.Name x p) (e::es) [] pos) (ZeB (spD X.K X.mg ps.length f) (ZjE ix []) E t) (onK f ix m yaa):=by
 obtain ⟨g,fd,F,b,kp,hm⟩:=C.ex;have hb:Binds X.K fd ps (Ziq ix []):=λs us hK hl=>b s us [] hK hl;refine ⟨Zgs F (hr.mono hn) hg hm kp hb (Zft .nil ix) hx ha.p hdb he hpl,?_⟩;exact Zmf (tk:=tNil) (mk:=yaa) ha.s ha.n ZkB hps
end
end L2.Ds
namespace Dl
def bStr:List D->Res D
 | [.int i]=>if i.natAbs.log2<1920 then .ok (.str (Str.ofString (toString i))) else .bad
 | _=>.bad
end Dl
namespace L2.Ds
open Dl
section
def ZkQ:CallD K mg (λxs H Q=>∃i,xs=[.int i]/\i.natAbs.log2<1920/\Q (.str (toString i)) H) bStr:=by
 intro E F H xs ds s r;unfold bStr;split
 ·obtain ⟨x,rfl,rx⟩:=r.one;cases rx;split
  ·next h=>exact .ret s (.str _) λQ q=>⟨_,rfl,h,q⟩
  ·trivial
 ·trivial
end
end L2.Ds
namespace Dl
abbrev MY:=Ev->List (List D)->Res (Fl×List (List D))
def lft(m:MS):MY:=λρ dss=>(m ρ).bind λf=>.ok (f,dss)
def goY(n:MY):Fl×List (List D)->Res (Fl×List (List D))
 | (.nx ρ,dss)=>n ρ dss
 | p=>.ok p
def sqY(m n:MY):MY:=λρ dss=>(m ρ dss).bind (goY n)
def ifY(t:MB)(m n:MY):MY:=λρ dss=>(t ρ).bind λb=>if b=true then m ρ dss else n ρ dss
def ZsV(n:MY):Fl×List (List D)->Res (Fl×List (List D))
 | (.nx ρ,dss)=>n ρ dss
 | (.ct ρ,dss)=>n ρ dss
 | (.bk ρ,dss)=>.ok (.nx ρ,dss)
 | (.rt _,_)=>.bad
def Zea(g:MG)(b:MY):List D->MY
 | [],ρ,dss=>.ok (.nx ρ,dss)
 | x::r,ρ,dss=>(g x ρ).bind λρ1=>(b ρ1 dss).bind (ZsV (Zea g b r))
def forY(it:MI)(g:MG)(b:MY):MY:=λρ dss=>(it ρ).bind λxs=>Zea g b xs ρ dss
def optY(ρ:Ev):Option (List (List D))->Res (Fl×List (List D))
 | some d=>.ok (.nx ρ,d)
 | none=>.bad
def intY:D->Option Int
 | .int k=>some k
 | _=>none
def appR(dss:List (List D))(w:D)(k:Int):Option (List (List D)):=(ixP dss.length k).bind λr=>(dss[r]?).bind λcs=>if cs.length<10000 then some (dss.set r (cs++[w])) else none
def appY(me mv:ME):MY:=λρ dss=>(noEx (me ρ)).bind λd=>(noEx (mv ρ)).bind λw=>optY ρ ((intY d).bind (appR dss w))
def setR(dss:List (List D))(w:D)(u k:Int):Option (List (List D)):=(ixP dss.length u).bind λr=>(dss[r]?).bind λcs=>(ixP cs.length k).bind λc=>some (dss.set r (cs.set c w))
def Zmg(mv ma mb:ME):MY:=λρ dss=>(noEx (mv ρ)).bind λw=>(noEx (ma ρ)).bind λda=>(noEx (mb ρ)).bind λdb=>optY ρ ((intY da).bind λu=>(intY db).bind λk=>setR dss w u k)
def setO(i:Nat)(mv mb:ME):MS:=λρ=>(getO ρ[i]?).bind λds=>(noEx (mv ρ)).bind λw=>(noEx (mb ρ)).bind λdb=>match (intY db).bind λk=>ixP ds.length k with
 | some c=>.ok (.nx (ρ.set i (.ow (ds.set c w))))
 | none=>.bad
def noLD(d:D):Res D:=if noL d=true then .ok d else .bad
def pkN(i:Nat)(m:ME):ME:=λρ=>(getO ρ[i]?).bind λds=>(noEx (m (ρ.set i (.im (.lst ds))))).bind noLD
def mixO(J:List Nat):Nat->Ev->Ev->Ev
 | k,.ow _::r,c::r'=>(if J.contains k=true then c else .no)::mixO J (k+1) r r'
 | k,.no::r,_::r'=>.no::mixO J (k+1) r r'
 | k,.im d::r,_::r'=>.im d::mixO J (k+1) r r'
 | _,[],_=>[]
 | _,_::_,[]=>[]
abbrev FY:=Ev->List (List D)->Res (Ev×List (List D))
def endY(J:List Nat)(ρ:Ev):Fl×List (List D)->Res (Ev×List (List D))
 | (.nx ρ',dss)=>if ρ.length<=ρ'.length then .ok (mixO J 0 ρ ρ',dss) else .bad
 | _=>.bad
def fnY(n:Nat)(J:List Nat)(k:MY):FY:=λρ dss=>(k (ρ++List.replicate (n - ρ.length) .no) dss).bind (endY J ρ)
abbrev MR:=Ev->Res Ev
def rNil:MR:=λ_=>.ok []
def rIm(m:ME)(r:MR):MR:=λρ=>(noEx (m ρ)).bind λd=>(r ρ).bind λq=>.ok (.im d::q)
def rRg(r:MR):MR:=λρ=>(r ρ).bind λq=>.ok (.no::q)
def rOw(l:Nat)(r:MR):MR:=λρ=>(getO ρ[l]?).bind λds=>(r ρ).bind λq=>.ok (.ow ds::q)
def outY(ρ:Ev)(l:Nat)(lc:Option Nat):Ev×List (List D)->Res (Fl×List (List D))
 | (q,dss)=>match lc with
  | none=>.ok (.nx ρ,dss)
  | some k=>match q[k]? with
   | some c=>.ok (.nx (ρ.set l c),dss)
   | none=>.bad
def Zk0(f:FY)(l:Nat)(lc:Option Nat)(m:MR):MY:=λρ dss=>(m ρ).bind λq=>(noEx (f q dss)).bind (outY ρ l lc)
def retY(j:Nat):MY:=λρ dss=>(getO ρ[j]?).bind λds=>.ok (.rt (.tup [.lst (dss.map .lst),.lst ds]),dss)
def Zip:List D->Option (List (List D))
 | []=>some []
 | .lst cs::r=>if noLs cs=true then (Zip r).bind λq=>some (cs::q) else none
 | _::_=>none
def fstY:Fl×List (List D)->Res Fl
 | (.rt d,_)=>.ok (.rt d)
 | _=>.bad
def regY(i:Nat)(me:ME)(k:MY):MS:=λρ=>(me ρ).bind λd=>(lstO d).bind λds=>match Zip ds with
 | some dss=>if i<ρ.length then (noEx (k (ρ.set i .no) dss)).bind fstY else .bad
 | none=>.bad
end Dl
namespace L2.Ds
open Dl
structure Reg(K:W.Frag)(mg:Str->Option Value)(F H:Hp)(a:Addr)(rows:List Addr)(dss:List (List D)):Prop where
 ha:H a=some (.lst (rows.map .ref))
 fa:F a=none
 nd:rows.Nodup
 na:a∉rows
 len:rows.length=dss.length
 row:∀(k:Nat) (r:Addr) (ds:List D),rows[k]?=some r->dss[k]?=some ds->F r=none/\∃ys,H r=some (.lst ys)/\Rps K mg F ys ds
def Off(σ:St)(ρ:Ev)(a:Addr)(rows:List Addr):Prop:=∀(j:Nat) (ds:List D) (b:Addr),ρ[j]?=some (.ow ds)->σ[j]?=some (some (.ref b))->b≠a/\b∉rows
section
variable    {F:Hp} {σ':St} {ρ':Ev} {a:Addr} {rows:List Addr} {dss:List (List D)}
def ZcB{r:Res α}(h:r.bind f=.ok b):∃a,r=.ok a/\f a=.ok b:=by
 cases r with
 | ok a=>exact ⟨a,rfl,h⟩
 | ex c=>cases h
 | bad=>cases h
def Reg.gr(R:Reg K mg F H a rows dss)(g:Gr F H F' H'):Reg K mg F' H' a rows dss:=by
 obtain ⟨q1,q2⟩:=g.o a _ R.fa R.ha;refine ⟨q2,q1,R.nd,R.na,R.len,λk r ds e1 e2=>?_⟩;obtain ⟨f1,ys,h1,r1⟩:=R.row k r ds e1 e2;obtain ⟨q3,q4⟩:=g.o r _ f1 h1;exact ⟨q3,ys,q4,r1.same g.f⟩
open Classical in
def Zcn(σ:St)(ρ:Ev)(H:Hp):Hp:=λb=>if ∃(j:Nat) (ds:List D),ρ[j]?=some (.ow ds)/\σ[j]?=some (some (.ref b)) then none else H b
def ZjV(e1:ρ[j]?=some (.ow ds))(e2:σ[j]?=some (some (.ref b))):Zcn σ ρ H b=none:=by
 unfold Zcn;rw [if_pos ⟨j,ds,e1,e2⟩]
def Za8(h:H b=some o)(n:∀(j:Nat) (ds:List D),ρ[j]?=some (.ow ds)->σ[j]?≠some (some (.ref b))):Zcn σ ρ H b=some o:=by
 unfold Zcn;rw [if_neg λ⟨j,ds,e1,e2⟩=>n j ds e1 e2];exact h
def Zmr(h:Zcn σ ρ H b=some o):H b=some o:=by
 unfold Zcn at h;split at h
 ·cases h
 ·exact h
def Rep.rebase(r:Rep K mg F0 H0 F H σ ρ):Rep K mg F (Zcn σ ρ H) F H σ ρ:=by
 refine ⟨⟨Same.refl _,r.g.s,λb o f h=>⟨f,Zmr h⟩,λ_ _ _ h=>h⟩,r.len,r.im,λi ds e=>?_,r.ne⟩;obtain ⟨b,xs,e2,_,f,h,q⟩:=r.ow i ds e;exact ⟨b,xs,e2,ZjV e e2,f,h,q⟩
def Rep.back(r:Rep K mg F0 H0 F H σ ρ)(q:Rep K mg F (Zcn σ ρ H) F' H' σ' ρ'):Rep K mg F0 H0 F' H' σ' ρ':=by
 have keep:∀b o,F0 b=none->H0 b=some o->F b=none/\Zcn σ ρ H b=some o:=λb o f h=>by
  obtain ⟨q1,q2⟩:=r.g.o b o f h;refine ⟨q1,Za8 q2 λj ds e1 e2=>?_⟩;obtain ⟨c,xs,w1,w2,_⟩:=r.ow j ds e1;rw [e2] at w1;cases w1;rw [h] at w2;cases w2
 refine ⟨⟨r.g.f.trans q.g.f,q.g.s,λb o f h=>?_,λb o u e=>r.g.z b o u (q.g.z b o u e)⟩,q.len,q.im,λi ds e=>?_,q.ne⟩
 ·obtain ⟨q1,q2⟩:=keep b o f h;exact q.g.o b o q1 q2
 ·obtain ⟨b,xs,e2,hb,f,h,w⟩:=q.ow i ds e;refine ⟨b,xs,e2,?_,f,h,w⟩;cases z:H0 b with
  | none=>rfl
  | some o =>
   cases z0:F0 b with
   | none=>rw [(keep b o z0 z).2] at hb;cases hb
   | some u=>rw [q.g.f b u (r.g.f b u z0)] at f;cases f
def Gr.back(r:Rep K mg F0 H0 F H σ ρ)(q:Gr F (Zcn σ ρ H) F' H'):Gr F0 H0 F' H':=by
 refine ⟨r.g.f.trans q.f,q.s,λb o f h=>?_,λb o u e=>r.g.z b o u (q.z b o u e)⟩;obtain ⟨q1,q2⟩:=r.g.o b o f h;refine q.o b o q1 (Za8 q2 λj ds e1 e2=>?_);obtain ⟨c,xs,w1,w2,_⟩:=r.ow j ds e1;rw [e2] at w1;cases w1;rw [h] at w2;cases w2
def Reg.off(R:Reg K mg F H a rows dss)(o:Off σ ρ a rows)(g:Gr F (Zcn σ ρ H) F' H'):Reg K mg F' H' a rows dss:=by
 obtain ⟨q1,q2⟩:=g.o a _ R.fa (Za8 R.ha λj ds e1 e2=>(o j ds a e1 e2).1 rfl);refine ⟨q2,q1,R.nd,R.na,R.len,λk r ds e1 e2=>?_⟩;obtain ⟨f1,ys,h1,r1⟩:=R.row k r ds e1 e2;obtain ⟨q3,q4⟩:=g.o r _ f1 (Za8 h1 λj es z1 z2=>(o j es r z1 z2).2 (Va4 e1));exact ⟨q3,ys,q4,r1.same g.f⟩
def Off.next(R:Reg K mg F H a rows dss)(o:Off σ ρ a rows)(q:Rep K mg F (Zcn σ ρ H) F' H' σ' ρ'):Off σ' ρ' a rows:=by
 intro j ds b e1 e2;obtain ⟨c,xs,w1,w2,_⟩:=q.ow j ds e1;rw [e2] at w1;cases w1;refine ⟨λz=>?_,λz=>?_⟩
 ·rw [z,Za8 R.ha λj ds e1 e2=>(o j ds a e1 e2).1 rfl] at w2;cases w2
 ·obtain ⟨k,hk,ek⟩:=List.getElem_of_mem z;have e1:rows[k]?=some b:=by rw [VbF hk,ek]
  obtain ⟨ds2,e3⟩ : ∃ds2,dss[k]?=some ds2:=⟨_,VbF (by rw [<-R.len];exact hk)⟩;obtain ⟨_,ys,h1,_⟩:=R.row k b ds2 e1 e3;rw [Za8 h1 λj es z1 z2=>(o j es b z1 z2).2 z] at w2;cases w2
end
structure At(K:W.Frag)(mg:Str->Option Value)(i:Nat)(H0 F H:Hp)(σ:St)(ρ:Ev)(a:Addr)(rows:List Addr)(dss:List (List D)):Prop where
 R:Reg K mg F H a rows dss
 o:Off σ ρ a rows
 s:σ[i]?=some (some (.ref a))
 h0:H0 a=none/\∀r∈rows,H0 r=none
def agr(J:List Nat)(σ σ':St):Prop:=∀j∈J,σ'[j]?=σ[j]?
def agr.refl:agr J σ σ:=λ_ _=>rfl
def agr.trans(h:agr J σ σ1)(h2:agr J σ1 σ2):agr J σ σ2:=λj m=>(h2 j m).trans (h j m)
def agr.set{x:Option V}(h:j∉J):agr J σ (σ.set j x):=λk m=>ZaV λe=>h (e▸m)
def EndY(K:W.Frag)(mg:Str->Option Value)(i:Nat)(J:List Nat)(F0 H0 F:Hp)(σ:St)(a:Addr)(rows:List Addr)(dss:List (List D))(D:Ends):Fl->Prop
 | .nx ρ=>∀F' H' σ',Same F F'->Rep K mg F0 H0 F' H' σ' ρ->At K mg i H0 F' H' σ' ρ a rows dss->agr J σ σ'->D.nx σ' H'
 | .ct ρ=>∀F' H' σ',Same F F'->Rep K mg F0 H0 F' H' σ' ρ->At K mg i H0 F' H' σ' ρ a rows dss->agr J σ σ'->D.ct σ' H'
 | .bk ρ=>∀F' H' σ',Same F F'->Rep K mg F0 H0 F' H' σ' ρ->At K mg i H0 F' H' σ' ρ a rows dss->agr J σ σ'->D.bk σ' H'
 | .rt d=>∀F' H' x,Gr F0 H0 F' H'->Rp K mg F' x d->D.rt x H'
def AnsY(K:W.Frag)(mg:Str->Option Value)(i:Nat)(J:List Nat)(F0 H0 F:Hp)(σ:St)(a:Addr)(rows:List Addr)(r:Res (Fl×List (List D)))(w:Ends->Prop):Prop :=
 match r with
 | .ok (f,dss)=>∀D,EndY K mg i J F0 H0 F σ a rows dss D f->w D
 | _=>True
def SY(K:W.Frag)(mg:Str->Option Value)(i:Nat)(J:List Nat)(t:TS)(m:MY):Prop:=∀F0 H0 F H σ ρ a rows dss,Rep K mg F0 H0 F H σ ρ->At K mg i H0 F H σ ρ a rows dss->AnsY K mg i J F0 H0 F σ a rows (m ρ dss) λD=>t D σ H
def agD(J:List Nat)(σ:St)(D:Ends):Ends:=⟨λσ' H'=>agr J σ σ'->D.nx σ' H',D.rt,λσ' H'=>agr J σ σ'->D.bk σ' H',λσ' H'=>agr J σ σ'->D.ct σ' H'⟩
def Kpt(J:List Nat)(t:TS):Prop:=∀D σ H,t (agD J σ D) σ H->t D σ H
def Zm6:Kpt J (Zb3 te):=λD σ H h=>by
 have e:(λ(_:V) H1=>(agD J σ D).nx σ H1)=λ_ H1=>D.nx σ H1:=by funext _ H1;exact propext ⟨λh=>h agr.refl,λh _=>h⟩
 unfold Zb3 at h ⊢;rw [e] at h;exact h
def Zpv(hj:j∉J):Kpt J (tAsg te (ZbT j)):=λD σ H h=>by
 have e:(λ(x:V) H1=>ZbT j x σ H1 (agD J σ D).nx)=λx H1=>ZbT j x σ H1 D.nx:=by funext x H1;exact propext ⟨λh=>h (agr.set hj),λh _=>h⟩
 unfold tAsg at h ⊢;rw [e] at h;exact h
def Zoz:Kpt J (tAsg te (gSub to ti ts)):=λD σ H h=>by
 have e:(λH3=>(agD J σ D).nx σ H3)=λH3=>D.nx σ H3:=by funext H3;exact propext ⟨λh=>h agr.refl,λh _=>h⟩
 unfold tAsg gSub at h ⊢;rw [e] at h;exact h
def Zl9:Kpt J Zj6:=λD σ H h=>h agr.refl
def ZmM:Kpt J ZjN:=λD σ H h=>h agr.refl
section
variable     {J:List Nat}
def Zfx(h:SS K mg E t m)(kp:Kpt J t)(hi:i∈J):SY K mg i J t (lft m):=by
 intro F0 H0 F H σ ρ a rows dss rr A;have q:=h F (Zcn σ ρ H) F H σ ρ rr.rebase;unfold lft;cases em:m ρ with
 | bad=>trivial
 | ex c=>trivial
 | ok f =>
  rw [em] at q;have fin:∀{F' H':Hp} {σ':St} {ρ':Ev},Rep K mg F (Zcn σ ρ H) F' H' σ' ρ'->agr J σ σ'->Rep K mg F0 H0 F' H' σ' ρ'/\At K mg i H0 F' H' σ' ρ' a rows dss:=λ{F' H' σ' ρ'} r' k'=>⟨rr.back r',A.R.off A.o r'.g,A.o.next A.R r',(k' i hi).trans A.s,A.h0⟩;cases f with
  | nx ρ2=>exact λD w=>kp D σ H (q _ λF' H' σ' s' r' k'=>w F' H' σ' s' (fin r' k').1 (fin r' k').2 k')
  | ct ρ2=>exact λD w=>kp D σ H (q _ λF' H' σ' s' r' k'=>w F' H' σ' s' (fin r' k').1 (fin r' k').2 k')
  | bk ρ2=>exact λD w=>kp D σ H (q _ λF' H' σ' s' r' k'=>w F' H' σ' s' (fin r' k').1 (fin r' k').2 k')
  | rt d=>exact λD w=>kp D σ H (q _ λF' H' x g rx=>w F' H' x (Gr.back rr g) rx)
def EndY.mono{F F1:Hp}{σ1:St}{a:Addr}{rows:List Addr}{dss:List (List D)}{D:Ends}{f:Fl}(s:Same F F1)(g:agr J σ σ1)(h:EndY K mg i J F0 H0 F σ a rows dss D f):EndY K mg i J F0 H0 F1 σ1 a rows dss D f:=by
 cases f with
 | nx ρ=>exact λF' H' σ' s' r A k=>h F' H' σ' (s.trans s') r A (g.trans k)
 | ct ρ=>exact λF' H' σ' s' r A k=>h F' H' σ' (s.trans s') r A (g.trans k)
 | bk ρ=>exact λF' H' σ' s' r A k=>h F' H' σ' (s.trans s') r A (g.trans k)
 | rt d=>exact h
def Zrf{n:MY}(h1:SY K mg i J t m)(h2:SY K mg i J u n):SY K mg i J (tSeq t u) (sqY m n):=by
 intro F0 H0 F H σ ρ a rows dss rr A;have h:=h1 F0 H0 F H σ ρ a rows dss rr A;unfold sqY;cases e:m ρ dss with
 | bad=>trivial
 | ex c=>trivial
 | ok p =>
  obtain ⟨f,d1⟩:=p;rw [e] at h;cases f with
  | nx ρ' =>
   show AnsY K mg i J F0 H0 F σ a rows (n ρ' d1) _;have h2':=λF1 H1 σ1 r1 A1=>h2 F0 H0 F1 H1 σ1 ρ' a rows d1 r1 A1;cases e2:n ρ' d1 with
   | bad=>trivial
   | ex c=>trivial
   | ok p2 =>
    obtain ⟨f2,d2⟩:=p2;rw [e2] at h2';exact λD q=>h { D with nx:=u D } λF1 H1 σ1 s r1 A1 k1=>h2' F1 H1 σ1 r1 A1 D (q.mono s k1)
  | ct ρ'=>exact λD q=>h { D with nx:=u D } q
  | bk ρ'=>exact λD q=>h { D with nx:=u D } q
  | rt d=>exact λD q=>h { D with nx:=u D } q
def Zst{n:MY}(hc:STt K mg E sc nc)(h1:SY K mg i J t m)(h2:SY K mg i J u n):SY K mg i J (tIfS sc t u) (ifY nc m n):=by
 intro F0 H0 F H σ ρ a rows dss rr A;have h:=hc F0 H0 F H σ ρ rr;unfold ifY;cases e:nc ρ with
 | bad=>trivial
 | ex c=>trivial
 | ok b =>
  rw [e] at h;show AnsY K mg i J F0 H0 F σ a rows (if b=true then m ρ dss else n ρ dss) _
  have go:∀{t:TS} {m:MY},SY K mg i J t m->AnsY K mg i J F0 H0 F σ a rows (m ρ dss) λD=>∀F1 H1,Gr F H F1 H1->t D σ H1:=by
   intro t m hm;have z:=λF1 H1 (g:Gr F H F1 H1)=>hm F0 H0 F1 H1 σ ρ a rows dss (rr.gr g) ⟨A.R.gr g,A.o,A.s,A.h0⟩;cases e2:m ρ dss with
   | bad=>trivial
   | ex c=>trivial
   | ok p =>
    obtain ⟨f,d2⟩:=p;rw [e2] at z;exact λD q F1 H1 g=>z F1 H1 g D (q.mono g.f agr.refl)
  cases b with
  | true =>
   rw [if_pos rfl];have z:=go h1;cases e2:m ρ dss with
   | bad=>trivial
   | ex c=>trivial
   | ok p =>
    rw [e2] at z;exact λD q=>h _ λF1 H1 x g rx=>by cases (show x=true from rx);rw [if_pos rfl];exact z D q F1 H1 g
  | false =>
   rw [if_neg VaC];have z:=go h2;cases e2:n ρ dss with
   | bad=>trivial
   | ex c=>trivial
   | ok p =>
    rw [e2] at z;exact λD q=>h _ λF1 H1 x g rx=>by cases (show x=false from rx);rw [if_neg VaC];exact z D q F1 H1 g
def KpG(J:List Nat)(t:TG):Prop:=∀x σ0 σ H P P',agr J σ0 σ->(∀σ' H',agr J σ0 σ'->P σ' H'->P' σ' H')->t x σ H P->t x σ H P'
def KpGs(J:List Nat)(t:TGs):Prop:=∀x σ0 σ H P P',agr J σ0 σ->(∀σ' H',agr J σ0 σ'->P σ' H'->P' σ' H')->t x σ H P->t x σ H P'
def ZcF(hj:j∉J):KpG J (ZbT j):=λ_ _ _ _ _ _ a w h=>w _ _ (a.trans (agr.set hj)) h
def Zij:KpGs J gNil:=λ_ _ _ _ _ _ a w h=>⟨h.1,w _ _ a h.2⟩
def Zdr(h1:KpG J t)(h2:KpGs J u):KpGs J (Zm9 t u):=λx σ0 σ H P P' a w h=>by
 obtain ⟨v,r,e,z⟩:=h;exact ⟨v,r,e,h1 v σ0 σ H _ _ a (λσ' H' a' q=>h2 r σ0 σ' H' P P' a' w q) z⟩
def Zh5(h1:KpGs J t):KpG J (gSeq K n t):=λx σ0 σ H P P' a w h=>by
 rcases h with ⟨b,xs,e1,e2,e3,z⟩ | ⟨b,xs,e1,e2,e3,z⟩
 ·exact .inl ⟨b,xs,e1,e2,e3,h1 xs σ0 σ H P P' a w z⟩
 ·exact .inr ⟨b,xs,e1,e2,e3,h1 xs σ0 σ H P P' a w z⟩
def Zre(hi:SI K mg E wi mi)(hg:SG K mg n t g)(kg:KpG J t)(hJ:i∈J)(hb:SY K mg i J u m):SY K mg i J (tFor wi t u) (forY mi g m):=by
 intro F0 H0 F H σ ρ a rows dss rr A;have h:=hi F0 H0 F H σ ρ rr;unfold forY;cases e:mi ρ with
 | bad=>trivial
 | ex c=>trivial
 | ok ds =>
  rw [e] at h;show AnsY K mg i J F0 H0 F σ a rows (Zea g m ds ρ dss) _;cases e1:Zea g m ds ρ dss with
  | bad=>trivial
  | ex c=>trivial
  | ok p =>
   obtain ⟨f,d2⟩:=p;have fnx:∀{l:List D} {ρ':Ev} {ds':List (List D)},Zea g m l ρ' ds'=.ok (f,d2)->∃ρ2,f=.nx ρ2:=by
    intro l
    induction l with
    | nil=>intro ρ' ds' e;cases e;exact ⟨_,rfl⟩
    | cons x l ih =>
     intro ρ' ds' e;unfold Zea at e;obtain ⟨ρ1,_,e⟩:=ZcB e;obtain ⟨⟨f3,d3⟩,_,e⟩:=ZcB e;cases f3 with
     | nx _=>exact ih e
     | ct _=>exact ih e
     | bk _=>cases e;exact ⟨_,rfl⟩
     | rt _=>cases e
   obtain ⟨ρe,rfl⟩:=fnx e1;intro D q;refine h _ λF1 H1 jt g1 jo=>?_;refine ⟨λk n σ' H'=>n=ds.length - k/\k<=ds.length/\agr J σ σ'/\∃ρ' F' ds',Same F1 F'/\Rep K mg F0 H0 F' H' σ' ρ'/\At K mg i H0 F' H' σ' ρ' a rows ds'/\Zea g m (ds.drop k) ρ' ds'=.ok (.nx ρe,d2),⟨ds.length,by simp,VaR _,agr.refl,ρ,F1,dss,Same.refl _,rr.gr g1,⟨A.R.gr g1,A.o,A.s,A.h0⟩,by simpa using e1⟩,?_⟩;rintro k n σ' H' ⟨rfl,hk,ag,ρ',F',ds',s1,r',A',e'⟩;by_cases hlt:k<ds.length
   ·refine .inr ?_;have hd:ds[k]?=some ds[k]:=VbF hlt;obtain ⟨go,yl⟩:=(jo F' H' s1 r'.ss k).1 _ hd;rw [Vbx hlt] at e';refine ⟨go,λσ2 H2=>agr J σ σ2/\∃ρ2 F2 ds2,Same F1 F2/\Rep K mg F0 H0 F2 H2 σ2 ρ2/\At K mg i H0 F2 H2 σ2 ρ2 a rows ds2/\Zea g m (ds.drop (k+1)) ρ2 ds2=.ok (.nx ρe,d2),λσ2 H2 z=>⟨ds.length - (k+1),by omega,rfl,hlt,z⟩,λx H2 y=>?_⟩;obtain ⟨F2,g2,rx⟩:=yl x H2 y;have r2:=r'.gr g2;have A2:At K mg i H0 F2 H2 σ' ρ' a rows ds':=⟨A'.R.gr g2,A'.o,A'.s,A'.h0⟩;unfold Zea at e';obtain ⟨ρ1,eg,e'⟩:=ZcB e';have hG:=hg F2 (Zcn σ' ρ' H2) F2 H2 σ' ρ' x ds[k] r2.rebase rx;rw [eg] at hG;have hG2:t x σ' H2 _:=hG (λσ3 H3=>∃F3,Same F2 F3/\Rep K mg F2 (Zcn σ' ρ' H2) F3 H3 σ3 ρ1) λF3 H3 σ3 s3 r3 _=>⟨F3,s3,r3⟩;refine kg x σ' σ' H2 _ _ agr.refl (λσ3 H3 a3 ⟨F3,s3,r3⟩=>?_) hG2;have r4:=r2.back r3;have A4:At K mg i H0 F3 H3 σ3 ρ1 a rows ds':=⟨A2.R.off A2.o r3.g,A2.o.next A2.R r3,(a3 i hJ).trans A2.s,A2.h0⟩;have hB:=hb F0 H0 F3 H3 σ3 ρ1 a rows ds' r4 A4;have sF:Same F1 F3:=(s1.trans g2.f).trans s3;have a4:=ag.trans a3;cases em:m ρ1 ds' with
    | bad=>rw [em] at e';cases e'
    | ex c=>rw [em] at e';cases e'
    | ok p3 =>
     obtain ⟨f3,d3⟩:=p3;rw [em] at e' hB;cases f3 with
     | nx ρ2=>exact hB _ λF4 H4 σ4 s4 r4 A4 k4=>⟨a4.trans k4,ρ2,F4,d3,sF.trans s4,r4,A4,e'⟩
     | ct ρ2=>exact hB _ λF4 H4 σ4 s4 r4 A4 k4=>⟨a4.trans k4,ρ2,F4,d3,sF.trans s4,r4,A4,e'⟩
     | bk ρ2 =>
      have e3:Res.ok (Fl.nx ρ2,d3)=.ok (.nx ρe,d2):=e';cases e3;exact hB _ λF4 H4 σ4 s4 r4 A4 k4=>q F4 H4 σ4 (g1.f.trans (sF.trans s4)) r4 A4 (a4.trans k4)
     | rt d=>cases e'
   ·have hk2:k=ds.length:=by omega
    subst hk2;rw [VbG (VaH _)] at e';cases e';exact .inl ⟨(jo F' H' s1 r'.ss _).2 (VaH _),q F' H' σ' (g1.f.trans s1) r' A' ag⟩
end
section
variable     {J:List Nat} {F:Hp}   {a:Addr} {rows:List Addr} {dss:List (List D)}
def Zdq:∀{l:List Addr} {j k:Nat},l.Nodup->(hj:j<l.length)->(hk:k<l.length)->l[j]=l[k]->j=k
 | _::_,0,0,_,_,_,_=>rfl
 | x::l,0,k+1,n,_,hk,e=>absurd (show x∈l from by
   have e:x=l[k]'(by simpa using hk):=e
   rw [e];exact VbV _) (VaX.mp n).1
 | x::l,j+1,0,n,hj,_,e=>absurd (show x∈l from by
   have e:l[j]'(by simpa using hj)=x:=e
   rw [<-e];exact VbV _) (VaX.mp n).1
 | x::l,j+1,k+1,n,hj,hk,e=>Vax (·+1) (Zdq (VaX.mp n).2 (by simpa using hj) (by simpa using hk) e)
def Rep.pokeY(r:Rep K mg F0 H0 F H σ ρ)(h0:H0 q=none)(f:F q=none)(n:∀(j:Nat) (ds:List D),ρ[j]?=some (.ow ds)->σ[j]?≠some (some (.ref q))):Rep K mg F0 H0 F (upd H q o) σ ρ:=by
 refine ⟨⟨r.g.f,λc u e=>?_,λc u e1 e2=>?_,r.g.z⟩,r.len,r.im,λk ds e=>?_,r.ne⟩
 ·rw [Zad (Zae e f)];exact r.g.s c u e
 ·obtain ⟨q1,q2⟩:=r.g.o c u e1 e2;exact ⟨q1,by rw [Zad (Zae e2 h0)];exact q2⟩
 ·obtain ⟨b,xs,e2,e4,e5,e3,hr⟩:=r.ow k ds e
  exact ⟨b,xs,e2,e4,e5,by
   have nb:b≠q:=by
    rintro rfl;exact n k ds e e2
   rw [Zad nb];exact e3,hr⟩
def At.poke(A:At K mg i H0 F H σ ρ a rows dss)(e:rows[k]?=some q)(r:Rps K mg F ys cs):At K mg i H0 F (upd H q (.lst ys)) σ ρ a rows (dss.set k cs):=by
 have mq:q∈rows:=Va4 e;have lk:k<rows.length:=(Vat.mp e).1;have naq:a≠q:=λz=>A.R.na (z▸mq);refine ⟨⟨by rw [Zad naq];exact A.R.ha,A.R.fa,A.R.nd,A.R.na,by rw [Vbj];exact A.R.len,λm r' ds e1 e2=>?_⟩,A.o,A.s,A.h0⟩;rcases Zap e2 with ⟨rfl,rfl,_⟩ | ⟨ne,e3⟩
 ·rw [e] at e1;cases e1;obtain ⟨f1,_⟩:=A.R.row k q _ e (VbF (by rw [<-A.R.len];exact lk));exact ⟨f1,ys,Zaf,r⟩
 ·obtain ⟨f1,zs,h1,r1⟩:=A.R.row m r' ds e1 e3;refine ⟨f1,zs,?_,r1⟩;rw [Zad]
  ·exact h1
  ·rintro rfl;have lm:m<rows.length:=(Vat.mp e1).1;rw [VbF lk] at e;rw [VbF lm] at e1;exact ne (Zdq A.R.nd lk lm ((Vau e).trans (Vau e1).symm))
def At.pokeR{q:Addr}{o:HO}(A:At K mg i H0 F H σ ρ a rows dss)(rr:Rep K mg F0 H0 F H σ ρ)(e:rows[k]?=some q):Rep K mg F0 H0 F (upd H q o) σ ρ:=by
 have mq:q∈rows:=Va4 e;have lk:k<rows.length:=(Vat.mp e).1;exact rr.pokeY (A.h0.2 q mq) (A.R.row k q _ e (VbF (by rw [<-A.R.len];exact lk))).1 λj ds e1 e2=>(A.o j ds q e1 e2).2 mq
def At.gr(A:At K mg i H0 F H σ ρ a rows dss)(g:Gr F H F' H'):At K mg i H0 F' H' σ ρ a rows dss:=⟨A.R.gr g,A.o,A.s,A.h0⟩
def Rps.set{x:V}(h:Rp K mg F x d):∀{xs:List V} {ds:List D} (c:Nat),Rps K mg F xs ds->Rps K mg F (xs.set c x) (ds.set c d)
 | _,_,_,.nil=>.nil
 | _,_,0,.cons _ r=>.cons h r
 | _,_,c+1,.cons q r=>.cons q (Rps.set h c r)
def At.at{n:Int}(A:At K mg i H0 F H σ ρ a rows dss)(e:ixP dss.length n=some r)(e2:dss[r]?=some cs):∃q ys,rows[r]?=some q/\atI (rows.map V.ref) n=some (.ref q)/\H q=some (.lst ys)/\F q=none/\Rps K mg F ys cs:=by
 have lr:r<rows.length:=by rw [A.R.len];exact (Vat.mp e2).1
 obtain ⟨f,ys,h,rs⟩:=A.R.row r _ cs (VbF lr) e2;refine ⟨rows[r],ys,VbF lr,?_,h,f,rs⟩;show (ixN (rows.map V.ref).length n).bind _=_;rw [VaO,A.R.len,show ixN dss.length n=some r from e];show (rows.map V.ref)[r]?=_;rw [Va3,VbF lr];rfl
def Zql(he:SE K mg E te me)(hv:SE K mg E tv mv):SY K mg i J (Zb3 (tBM K "list" Zc9 (tOp (rIxD K) (tVar i) te) (Zbd tv tNil))) (appY me mv):=by
 intro F0 H0 F H σ ρ a rows dss rr A;have h1:=he F0 H0 F H σ ρ rr;unfold appY;cases e1:me ρ with
 | bad=>trivial
 | ex c=>trivial
 | ok d =>
 rw [e1] at h1;have h2:=λF1 H1 r1=>hv F0 H0 F1 H1 σ ρ r1;show AnsY K mg i J F0 H0 F σ a rows ((noEx (mv ρ)).bind λw=>optY ρ ((intY d).bind (appR dss w))) _;cases e2:mv ρ with
 | bad=>trivial
 | ex c=>trivial
 | ok w =>
 rw [e2] at h2;show AnsY K mg i J F0 H0 F σ a rows (optY ρ ((intY d).bind (appR dss w))) _;cases e3:(intY d).bind (appR dss w) with
 | none=>trivial
 | some ds' =>
 cases d with
 | int n =>
  have e3:appR dss w n=some ds':=e3;unfold appR at e3;cases e4:ixP dss.length n with
  | none=>rw [e4] at e3;cases e3
  | some r =>
  rw [e4] at e3;have e3:(dss[r]?).bind (λcs=>if cs.length<10000 then some (dss.set r (cs++[w])) else none)=some ds':=e3
  cases e5:dss[r]? with
  | none=>rw [e5] at e3;cases e3
  | some cs =>
  rw [e5] at e3;have e3:(if cs.length<10000 then some (dss.set r (cs++[w])) else none)=some ds':=e3
  by_cases hl:cs.length<10000
  case neg=>rw [if_neg hl] at e3;cases e3
  rw [if_pos hl] at e3;cases e3;intro D q;refine ⟨.ref a,A.s,h1 _ λF1 H1 x g1 rx=>?_⟩;cases rx;have A1:=A.gr g1;obtain ⟨b,ys,er,ea,hb,fb,rb⟩:=A1.at e4 e5;refine .inl ⟨a,_,n,.ref b,rfl,rfl,SqL.of A1.R.ha,ea,.inl ⟨rfl,ys,SqL.of hb⟩,h2 F1 H1 (rr.gr g1) _ λF2 H2 v g2 rv=>?_⟩;have A2:=A1.gr g2;obtain ⟨fb2,hb2⟩:=g2.o b _ fb hb;refine ⟨b,ys,v,rfl,rfl,hb2,Vad (by rw [rb.length];exact hl) (by decide),?_⟩;exact q F2 _ σ (g1.f.trans g2.f) (A2.pokeR ((rr.gr g1).gr g2) er) (A2.poke er (Rps.app (.cons rv .nil) (rb.same g2.f))) agr.refl
 | _=>cases e3
def Zo8(hv:SE K mg E tv mv)(ha:SE K mg E ta ma)(hb:SE K mg E tb mb):SY K mg i J (tAsg tv (gSub (tOp (rIxD K) (tVar i) ta) tb ZkM)) (Zmg mv ma mb):=by
 intro F0 H0 F H σ ρ a rows dss rr A;have h1:=hv F0 H0 F H σ ρ rr;unfold Zmg;cases e1:mv ρ with
 | bad=>trivial
 | ex c=>trivial
 | ok w =>
 rw [e1] at h1;have h2:=λF1 H1 r1=>ha F0 H0 F1 H1 σ ρ r1;show AnsY K mg i J F0 H0 F σ a rows ((noEx (ma ρ)).bind λda=>(noEx (mb ρ)).bind λdb=>optY ρ ((intY da).bind λu=>(intY db).bind λk=>setR dss w u k)) _;cases e2:ma ρ with
 | bad=>trivial
 | ex c=>trivial
 | ok da =>
 rw [e2] at h2;have h3:=λF1 H1 r1=>hb F0 H0 F1 H1 σ ρ r1;show AnsY K mg i J F0 H0 F σ a rows ((noEx (mb ρ)).bind λdb=>optY ρ ((intY da).bind λu=>(intY db).bind λk=>setR dss w u k)) _;cases e3:mb ρ with
 | bad=>trivial
 | ex c=>trivial
 | ok db =>
 rw [e3] at h3;show AnsY K mg i J F0 H0 F σ a rows (optY ρ ((intY da).bind λu=>(intY db).bind λk=>setR dss w u k)) _;cases e4:(intY da).bind λu=>(intY db).bind λk=>setR dss w u k with
 | none=>trivial
 | some ds' =>
 cases da with
 | int n =>
  cases db with
  | int k =>
   have e4:setR dss w n k=some ds':=e4;unfold setR at e4;cases e5:ixP dss.length n with
   | none=>rw [e5] at e4;cases e4
   | some r =>
   rw [e5] at e4;have e4:(dss[r]?).bind (λcs=>(ixP cs.length k).bind λc=>some (dss.set r (cs.set c w)))=some ds':=e4;cases e6:dss[r]? with
   | none=>rw [e6] at e4;cases e4
   | some cs =>
   rw [e6] at e4;have e4:(ixP cs.length k).bind (λc=>some (dss.set r (cs.set c w)))=some ds':=e4;cases e7:ixP cs.length k with
   | none=>rw [e7] at e4;cases e4
   | some c =>
   rw [e7] at e4;have e4:some (dss.set r (cs.set c w))=some ds':=e4;cases e4;intro D q;refine h1 _ λF1 H1 v g1 rv=>⟨.ref a,A.s,h2 F1 H1 (rr.gr g1) _ λF2 H2 x g2 rx=>?_⟩;cases rx;have A2:=(A.gr g1).gr g2;obtain ⟨b,ys,er,ea,hb,fb,rb⟩:=A2.at e5 e6;refine .inl ⟨a,_,n,.ref b,rfl,rfl,SqL.of A2.R.ha,ea,h3 F2 H2 ((rr.gr g1).gr g2) _ λF3 H3 y g3 ry=>?_⟩;cases ry;have A3:=A2.gr g3;obtain ⟨fb3,hb3⟩:=g3.o b _ fb hb;refine ⟨b,ys,k,c,rfl,rfl,hb3,by rw [rb.length];exact e7,?_⟩;exact q F3 _ σ (g1.f.trans (g2.f.trans g3.f)) (A3.pokeR (((rr.gr g1).gr g2).gr g3) er) (A3.poke er (Rps.set (rv.same (g2.f.trans g3.f)) c (rb.same g3.f))) agr.refl
  | _=>cases e4
 | _=>cases e4
end
section
variable    {F:Hp} {σ':St} {ρ2:Ev} {a:Addr} {rows:List Addr} {dss:List (List D)} {l:Nat} {J:List Nat}
def Zsh(i)(h:SE K mg E t m):SE K mg E t (pkN i m):=by
 intro F0 H0 F H σ ρ rr;unfold pkN getO;split
 ·next ds e =>
  obtain ⟨a,xs,e2,e4,e5,e3,hr⟩:=rr.ow i ds e;obtain ⟨r',back⟩:=rr.lookA e e2 e4 e5 e3 hr;have z:=h F0 H0 _ H σ _ r';show Ans mg E (Rp K mg) F H ((noEx (m (ρ.set i (.im (.lst ds))))).bind noLD) _;cases em:m (ρ.set i (.im (.lst ds))) with
  | ok d =>
   rw [em] at z;show Ans mg E (Rp K mg) F H (noLD d) _;unfold noLD;by_cases hd:noL d=true
   ·rw [if_pos hd]
    exact λQ q=>z Q λF1 H1 b g1 rb=>q _ H1 b (back F1 H1 g1) (Znp (λc o ec ho=>by
     rw [Zb5]
     ·exact ec
     ·rintro rfl;rw [g1.f _ _ Zaf] at ec;cases ec
      exact ho _ rfl) rb hd)
   ·rw [if_neg hd];trivial
  | ex c=>trivial
  | bad=>trivial
 ·trivial
def ZnS(hv:SE K mg E tv mv)(hb:SE K mg E tb mb):SS K mg E (tAsg tv (gSub (tVar i) tb ZkM)) (setO i mv mb):=by
 intro F0 H0 F H σ ρ rr;unfold setO getO;split
 ·next ds e =>
  obtain ⟨a,xs,e2,e4,e5,e3,hr⟩:=rr.ow i ds e;have h1:=hv F0 H0 F H σ ρ rr
  show AnsS K mg E F0 H0 F ((noEx (mv ρ)).bind λw=>(noEx (mb ρ)).bind λdb=>match (intY db).bind λk=>ixP ds.length k with
   | some c=>Res.ok (Fl.nx (ρ.set i (.ow (ds.set c w))))
   | none=>.bad) _
  cases q1:mv ρ with
  | bad=>trivial
  | ex c=>trivial
  | ok w =>
  rw [q1] at h1;have h2:=λF1 H1 r1=>hb F0 H0 F1 H1 σ ρ r1
  show AnsS K mg E F0 H0 F ((noEx (mb ρ)).bind λdb=>match (intY db).bind λk=>ixP ds.length k with
   | some c=>Res.ok (Fl.nx (ρ.set i (.ow (ds.set c w))))
   | none=>.bad) _
  cases q2:mb ρ with
  | bad=>trivial
  | ex c=>trivial
  | ok db =>
   rw [q2] at h2;cases db with
   | int k =>
    show AnsS K mg E F0 H0 F (match ixP ds.length k with
     | some c=>Res.ok (Fl.nx (ρ.set i (.ow (ds.set c w))))
     | none=>.bad) _
    cases q3:ixP ds.length k with
    | none=>trivial
    | some c =>
     exact λD q=>h1 _ λF1 H1 x g1 rx=>⟨.ref a,e2,h2 F1 H1 (rr.gr g1) _ λF2 H2 y g2 ry=>by
      cases ry;obtain ⟨f1,h1'⟩:=g1.o a _ e5 e3;obtain ⟨f2,h2'⟩:=g2.o a _ f1 h1'
      exact ⟨a,xs,k,c,rfl,rfl,h2',by rw [hr.length];exact q3,q F2 _ σ (g1.f.trans g2.f) (((rr.gr g1).gr g2).put e e2 h2' e4 f2 (Rps.set (rx.same g2.f) c (hr.same (g1.f.trans g2.f))))⟩⟩
   | _=>trivial
 ·trivial
inductive ArgY(K:W.Frag)(mg:Str->Option Value)(F:Hp)(σ:St)(ρ:Ev)(i l:Nat):List Nat->List V->Ev->Prop
 | nil:ArgY K mg F σ ρ i l [] [] []
 | im {sh:List Nat} {v:V} {vs:List V} {d:D} {q:Ev} (h:Rp K mg F v d) (r:ArgY K mg F σ ρ i l sh vs q):ArgY K mg F σ ρ i l (0::sh) (v::vs) (.im d::q)
 | rg {sh:List Nat} {v:V} {vs:List V} {q:Ev} (h:σ[i]?=some (some v)) (r:ArgY K mg F σ ρ i l sh vs q):ArgY K mg F σ ρ i l (1::sh) (v::vs) (.no::q)
 | ow {sh:List Nat} {v:V} {vs:List V} {ds:List D} {q:Ev} (h:σ[l]?=some (some v)) (e:ρ[l]?=some (.ow ds)) (r:ArgY K mg F σ ρ i l sh vs q):ArgY K mg F σ ρ i l (2::sh) (v::vs) (.ow ds::q)
def ArgY.len:∀{sh:List Nat} {vs:List V} {q:Ev},ArgY K mg F σ ρ i l sh vs q->vs.length=q.length/\sh.length=q.length
 | _,_,_,.nil=>⟨rfl,rfl⟩
 | _,_,_,.im _ r=>⟨Vax (·+1) r.len.1,Vax (·+1) r.len.2⟩
 | _,_,_,.rg _ r=>⟨Vax (·+1) r.len.1,Vax (·+1) r.len.2⟩
 | _,_,_,.ow _ _ r=>⟨Vax (·+1) r.len.1,Vax (·+1) r.len.2⟩
def ArgY.get:∀{sh:List Nat} {vs:List V} {q:Ev} {k:Nat} {c:Cl},ArgY K mg F σ ρ i l sh vs q->q[k]?=some c->∃v,vs[k]?=some v/\((∃d,c=.im d/\Rp K mg F v d)\/(c=.no/\sh[k]?=some 1/\σ[i]?=some (some v))\/∃ds,c=.ow ds/\sh[k]?=some 2/\σ[l]?=some (some v)/\ρ[l]?=some (.ow ds))
 | _,_,_,0,_,.im h _,e=>by cases e;exact ⟨_,rfl,.inl ⟨_,rfl,h⟩⟩
 | _,_,_,0,_,.rg h _,e=>by cases e;exact ⟨_,rfl,.inr (.inl ⟨rfl,rfl,h⟩)⟩
 | _,_,_,0,_,.ow h z _,e=>by cases e;exact ⟨_,rfl,.inr (.inr ⟨_,rfl,rfl,h,z⟩)⟩
 | _,_,_,k+1,_,.im _ r,e=>r.get (k:=k) e
 | _,_,_,k+1,_,.rg _ r,e=>r.get (k:=k) e
 | _,_,_,k+1,_,.ow _ _ r,e=>r.get (k:=k) e
def ArgY.rgAt{sh:List Nat}{vs:List V}(r:ArgY K mg F σ ρ i l sh vs q)(e:sh[k]?=some 1):∃v,vs[k]?=some v/\σ[i]?=some (some v):=by
 induction r generalizing k with
 | nil=>cases e
 | im _ _ ih =>
  cases k with
  | zero=>cases e
  | succ k=>exact ih e
 | rg h _ ih =>
  cases k with
  | zero=>exact ⟨_,rfl,h⟩
  | succ k=>exact ih e
 | ow _ _ _ ih =>
  cases k with
  | zero=>cases e
  | succ k=>exact ih e
def ArgY.owAt{sh:List Nat}{vs:List V}(r:ArgY K mg F σ ρ i l sh vs q)(e:sh[k]?=some 2):∃v ds,vs[k]?=some v/\σ[l]?=some (some v)/\ρ[l]?=some (.ow ds):=by
 induction r generalizing k with
 | nil=>cases e
 | im _ _ ih =>
  cases k with
  | zero=>cases e
  | succ k=>exact ih e
 | rg _ _ ih =>
  cases k with
  | zero=>cases e
  | succ k=>exact ih e
 | ow h z _ ih =>
  cases k with
  | zero=>exact ⟨_,_,rfl,h,z⟩
  | succ k=>exact ih e
def SAy(K:W.Frag)(mg:Str->Option Value)(i l:Nat)(sh:List Nat)(t:TA)(m:MR):Prop:=∀F0 H0 F H σ ρ v,Rep K mg F0 H0 F H σ ρ->σ[i]?=some (some v)->match m ρ with
 | .ok q=>∀Q,(∀F1 H1 vs,Gr F H F1 H1->ArgY K mg F1 σ ρ i l sh vs q->Q vs H1)->t σ H Q
 | _=>True
def Zpc:SAy K mg i l [] tNil rNil:=λF0 H0 F H σ ρ v rr _ Q q=>q F H [] (.refl rr.ss) .nil
def Zr8(he:SE K mg E te me)(h:SAy K mg i l sh t m):SAy K mg i l (0::sh) (Zbd te t) (rIm me m):=by
 intro F0 H0 F H σ ρ v rr hv;have z:=he F0 H0 F H σ ρ rr;have z2:=λF1 H1 r1=>h F0 H0 F1 H1 σ ρ v r1 hv;unfold rIm;cases e1:me ρ with
 | bad=>trivial
 | ex c=>trivial
 | ok d =>
 rw [e1] at z;cases e2:m ρ with
 | bad=>trivial
 | ex c=>trivial
 | ok q =>
 rw [e2] at z2;exact λQ w=>z _ λF1 H1 x g1 rx=>z2 F1 H1 (rr.gr g1) _ λF2 H2 vs g2 ay=>w F2 H2 _ (g1.trans g2) (.im (rx.same g2.f) ay)
def Zq6(h:SAy K mg i l sh t m):SAy K mg i l (1::sh) (Zbd (tVar i) t) (rRg m):=by
 intro F0 H0 F H σ ρ v rr hv;have z2:=h F0 H0 F H σ ρ v rr hv;unfold rRg;cases e2:m ρ with
 | bad=>trivial
 | ex c=>trivial
 | ok q =>
 rw [e2] at z2;exact λQ w=>⟨v,hv,z2 _ λF2 H2 vs g2 ay=>w F2 H2 _ g2 (.rg hv ay)⟩
def Zru(h:SAy K mg i l sh t m):SAy K mg i l (2::sh) (Zbd (tVar l) t) (rOw l m):=by
 intro F0 H0 F H σ ρ v rr hv;have z2:=h F0 H0 F H σ ρ v rr hv;unfold rOw;cases ec:ρ[l]? with
 | none=>trivial
 | some c =>
 cases c with
 | no=>trivial
 | im d=>trivial
 | ow ds =>
 obtain ⟨b,xs,e2,_⟩:=rr.ow l ds ec;cases e3:m ρ with
 | bad=>trivial
 | ex c=>trivial
 | ok q =>
 rw [e3] at z2;exact λQ w=>⟨.ref b,e2,z2 _ λF2 H2 vs g2 ay=>w F2 H2 _ g2 (.ow e2 ec ay)⟩
def spY(K:W.Frag)(mg:Str->Option Value)(n i:Nat)(f:FY):Sp:=λvs H Q _=>vs.length=n/\∃F H0 ρ a rows dss,Rep K mg F H0 F H (vs.map some) ρ/\At K mg i H0 F H (vs.map some) ρ a rows dss /\
 ∃ρ' dss',f ρ dss=.ok (ρ',dss')/\∀F' H',Rep K mg F H0 F' H' (vs.map some) ρ'->At K mg i H0 F' H' (vs.map some) ρ' a rows dss'->Q .non H'
def Zh1{vs:List V}{v:V}(e:vs[k]?=some v):(vs.map some)[k]?=some (some v):=by rw [Va3,e];rfl
def Zn3{sh:List Nat}(hs:SAy K mg i l sh t m)(hic:sh[ic]?=some 1)(hl1:∀k,sh[k]?=some 2->lc=some k)(hl2:∀k,lc=some k->sh[k]?=some 2)(hn:sh.length=n) :
  SY K mg i J (Zb3 (ZeB (spY K mg n ic f) [] E t)) (Zk0 f l lc m):=by
 intro F0 H0 F H σ ρ a rows dss rr A;have z:=hs F0 H0 F H σ ρ _ rr A.s;unfold Zk0;cases em:m ρ with
 | bad=>trivial
 | ex c=>trivial
 | ok q =>
 rw [em] at z;show AnsY K mg i J F0 H0 F σ a rows ((noEx (f q dss)).bind (outY ρ l lc)) _;cases ef:f q dss with
 | bad=>trivial
 | ex c=>trivial
 | ok p =>
 obtain ⟨q',d'⟩:=p;show AnsY K mg i J F0 H0 F σ a rows (outY ρ l lc (q',d')) _;have key:∀(ρ':Ev) (D:Ends),EndY K mg i J F0 H0 F σ a rows d' D (.nx ρ')->((lc=none/\ρ'=ρ)\/∃k c,lc=some k/\q'[k]?=some c/\ρ'=ρ.set l c)->Zb3 (ZeB (spY K mg n ic f) [] E t) D σ H:=by
  intro ρ' D w hρ;refine z _ λF1 H1 vs g1 ay=>?_;have rr1:=rr.gr g1;have A1:=A.gr g1;have hand:∃P:Addr->Prop,∀b,P b↔b=a\/b∈rows\/((∃k,lc=some k)/\σ[l]?=some (some (.ref b))):=⟨_,λ_=>Iff.rfl⟩;obtain ⟨P,hP⟩:=hand;obtain ⟨Hc,c1,c2⟩ : ∃Hc:Hp,(∀b,P b->Hc b=none)/\∀b,¬P b->Hc b=H1 b:=by
   classical
   exact ⟨λb=>if P b then none else H1 b,λb h=>if_pos h,λb h=>if_neg h⟩
  have c3:∀b o,Hc b=some o->H1 b=some o/\¬P b:=λb o h=>by
   by_cases hb:P b
   ·rw [c1 b hb] at h;cases h
   ·rw [c2 b hb] at h;exact ⟨h,hb⟩
  have own1:∀(k:Nat) (ds:List Dl.D),q[k]?=some (.ow ds)->∃b xs,vs[k]?=some (.ref b)/\σ[l]?=some (some (.ref b))/\ρ[l]?=some (.ow ds)/\lc=some k/\F1 b=none/\H1 b=some (.lst xs)/\Rps K mg F1 xs ds:=λk ds e=>by
   obtain ⟨v,ev,hc⟩:=ay.get e;rcases hc with ⟨d,z,_⟩ | ⟨z,_⟩ | ⟨ds',z,s2,el,er⟩
   ·cases z
   ·cases z
   ·cases z;obtain ⟨b,xs,e2,_,e5,e3,hr⟩:=rr1.ow l ds er;rw [el] at e2;cases e2;exact ⟨b,xs,ev,el,er,hl1 k s2,e5,e3,hr⟩
  obtain ⟨va,eva,esa⟩:=ay.rgAt hic;rw [A.s] at esa;cases esa;rw [VaU];refine ⟨by rw [ay.len.1,<-ay.len.2];exact hn,F1,Hc,q,a,rows,dss,⟨⟨Same.refl _,rr1.ss,λb o f h=>⟨f,(c3 b o h).1⟩,λ_ _ _ h=>h⟩,by rw [VaO];exact ay.len.1,λk d e=>?_,λk ds e=>?_,λj k ds es b e1 e2 _ _=>?_⟩,⟨A1.R,λk ds b e1 e2=>?_,Zh1 eva,c1 a ((hP a).mpr (.inl rfl)),λr hr=>c1 r ((hP r).mpr (.inr (.inl hr)))⟩,q',d',ef,λF' H' r' A'=>?_⟩
  ·obtain ⟨v,ev,hc⟩:=ay.get e;rcases hc with ⟨d',z,rd⟩ | ⟨z,_⟩ | ⟨ds',z,_⟩
   ·cases z;exact ⟨v,Zh1 ev,rd⟩
   ·cases z
   ·cases z
  ·obtain ⟨b,xs,ev,el,er,elc,e5,e3,hr⟩:=own1 k ds e;exact ⟨b,xs,Zh1 ev,c1 b ((hP b).mpr (.inr (.inr ⟨⟨k,elc⟩,el⟩))),e5,e3,hr⟩
  ·obtain ⟨_,_,_,_,_,l1,_⟩:=own1 j ds e1;obtain ⟨_,_,_,_,_,l2,_⟩:=own1 k es e2;rw [l1] at l2;exact Vau l2
  ·obtain ⟨b',xs,ev,el,er,elc,e5,e3,hr⟩:=own1 k ds e1;rw [Zh1 ev] at e2;cases e2;exact A.o l ds b er el
  have own2:∀k,lc=some k->∃b ds,vs[k]?=some (.ref b)/\σ[l]?=some (some (.ref b))/\ρ[l]?=some (.ow ds):=λk e=>by
   obtain ⟨v,ds,ev,el,er⟩:=ay.owAt (hl2 k e);obtain ⟨b,xs,e2,_⟩:=rr1.ow l ds er;rw [el] at e2;cases e2;exact ⟨b,ds,ev,el,er⟩
  have notP:∀(j:Nat) (ds:List Dl.D) (b:Addr),ρ[j]?=some (.ow ds)->σ[j]?=some (some (.ref b))->(lc=none\/j≠l)->¬P b:=λj ds b e1 e2 hj hb=>by
   rcases (hP b).mp hb with z | z | ⟨⟨k,z1⟩,z2⟩
   ·exact (A.o j ds b e1 e2).1 z
   ·exact (A.o j ds b e1 e2).2 z
   ·obtain ⟨b2,ds2,_,el,er⟩:=own2 k z1;rcases hj with hj | hj
    ·rw [z1] at hj;cases hj
    ·exact hj (rr.ne j l ds ds2 b e1 er e2 z2)
  have gC:Gr F0 H0 F' H':=by
   refine ⟨rr1.g.f.trans r'.g.f,r'.g.s,λb o f h=>?_,λb o u e=>rr1.g.z b o u (r'.g.z b o u e)⟩;obtain ⟨f1,h1⟩:=rr1.g.o b o f h;refine r'.g.o b o f1 ?_;rw [c2 b λhb=>?_]
   ·exact h1
   ·rcases (hP b).mp hb with z | z | ⟨⟨k,z1⟩,z2⟩
    ·rw [z,A.h0.1] at h;cases h
    ·rw [A.h0.2 b z] at h;cases h
    ·obtain ⟨b2,ds2,_,el,er⟩:=own2 k z1;obtain ⟨b3,xs,e2,e4,_⟩:=rr.ow l ds2 er;rw [z2] at e2;cases e2;rw [e4] at h;cases h
  have imC:∀(j:Nat) (d:Dl.D),ρ[j]?=some (.im d)->∃x,σ[j]?=some (some x)/\Rp K mg F' x d:=λj d e=>by
   obtain ⟨x,e1,e2⟩:=rr1.im j d e;exact ⟨x,e1,e2.same r'.g.f⟩
  have owC:∀(j:Nat) (ds:List Dl.D),ρ[j]?=some (.ow ds)->(lc=none\/j≠l)->∃b xs,σ[j]?=some (some (.ref b))/\H0 b=none/\F' b=none/\H' b=some (.lst xs)/\Rps K mg F' xs ds:=λj ds e hj=>by
   obtain ⟨b,xs,e2,e4,e5,e3,hr⟩:=rr1.ow j ds e;obtain ⟨q1,q2⟩:=r'.g.o b _ e5 (by rw [c2 b (notP j ds b e e2 hj)];exact e3);exact ⟨b,xs,e2,e4,q1,q2,hr.same r'.g.f⟩
  rcases hρ with ⟨hl,rfl⟩ | ⟨k,c,hl,hc,rfl⟩
  ·exact w F' H' σ (g1.f.trans r'.g.f) ⟨gC,rr.len,imC,λj ds e=>owC j ds e (.inl hl),rr.ne⟩ ⟨A'.R,A.o,A.s,A.h0⟩ agr.refl
  ·obtain ⟨b,ds,ev,el,er⟩:=own2 k hl;have ll:l<ρ.length:=(Vat.mp er).1;have back:∀(j:Nat) (es:List Dl.D),(ρ.set l c)[j]?=some (.ow es)->∃es':List Dl.D,ρ[j]?=some (.ow es'):=λj es e=>by
    rcases Zap e with ⟨rfl,_,_⟩ | ⟨_,e⟩
    ·exact ⟨ds,er⟩
    ·exact ⟨es,e⟩
   refine w F' H' σ (g1.f.trans r'.g.f) ⟨gC,by rw [Vbj];exact rr.len,λj d e=>?_,λj es e=>?_,λj j' es es' b' e1 e2 e3 e4=>?_⟩ ⟨A'.R,λj es b' e1 e2=>?_,A.s,A.h0⟩ agr.refl
   ·rcases Zap e with ⟨rfl,rfl,_⟩ | ⟨_,e⟩
    ·obtain ⟨x,e1,e2⟩:=r'.im k d hc;rw [Zh1 ev] at e1;cases e1;exact ⟨_,el,e2⟩
    ·exact imC j d e
   ·rcases Zap e with ⟨rfl,rfl,_⟩ | ⟨hj,e⟩
    ·obtain ⟨b2,xs,e1,e4,e5,e3,hr⟩:=r'.ow k es hc;rw [Zh1 ev] at e1;cases e1;obtain ⟨b3,_,e6,e7,_⟩:=rr.ow l ds er;rw [el] at e6;cases e6;exact ⟨_,xs,el,e7,e5,e3,hr⟩
    ·exact owC j es e (.inr (Ne.symm hj))
   ·obtain ⟨_,o1⟩:=back j es e1;obtain ⟨_,o2⟩:=back j' es' e2;exact rr.ne j j' _ _ b' o1 o2 e3 e4
   ·obtain ⟨_,o1⟩:=back j es e1;exact A.o j _ b' o1 e2
 cases elc:lc with
 | none=>exact λD w=>key ρ D w (.inl ⟨elc,rfl⟩)
 | some k =>
  show AnsY K mg i J F0 H0 F σ a rows (match q'[k]? with
   | some c=>Res.ok (Fl.nx (ρ.set l c),d')
   | none=>.bad) _
  cases ek:q'[k]? with
  | none=>trivial
  | some c=>exact λD w=>key (ρ.set l c) D w (.inr ⟨k,c,elc,ek,rfl⟩)
def ZpX(r:Rep K mg F0 H0 F H σ ρ):Rep K mg F0 H0 F H (σ++List.replicate n none) (ρ++List.replicate n .no):=by
 have key:∀(j:Nat) (c:Cl),(ρ++List.replicate n Cl.no)[j]?=some c->c=.no\/(ρ[j]?=some c/\(σ++List.replicate n none)[j]?=σ[j]?):=λj c e=>by
  by_cases hj:j<ρ.length
  ·rw [Va2 hj] at e;exact .inr ⟨e,Va2 (by rw [r.len];exact hj)⟩
  ·rw [Va0 (by omega),Va1] at e;split at e
   ·exact .inl (Vau e).symm
   ·cases e
 refine ⟨r.g,by rw [Va5,Va5,r.len,Va6,Va6],λj d e=>?_,λj ds e=>?_,λj k ds es a e1 e2 e3 e4=>?_⟩
 ·rcases key j _ e with z | ⟨z,z2⟩
  ·cases z
  ·rw [z2];exact r.im j d z
 ·rcases key j _ e with z | ⟨z,z2⟩
  ·cases z
  ·rw [z2];exact r.ow j ds z
 ·rcases key j _ e1 with z | ⟨z,z2⟩
  ·cases z
  ·rcases key k _ e2 with y | ⟨y,y2⟩
   ·cases y
   ·rw [z2] at e3;rw [y2] at e4;exact r.ne j k ds es a z y e3 e4
def Zfb:∀{k:Nat} {ρ ρ2:Ev} {j:Nat} {c:Cl},(mixO J k ρ ρ2)[j]?=some c->c=.no\/(ρ[j]?=some c/\∃d,c=.im d)\/(ρ2[j]?=some c/\k+j∈J)
 | k,.ow _::r,c'::r',0,c,e=>by
  have e:(if J.contains k=true then c' else .no)=c:=Vau e
  by_cases h:J.contains k=true
  ·rw [if_pos h] at e;exact .inr (.inr ⟨Vax some e,by simpa using h⟩)
  ·rw [if_neg h] at e;exact .inl e.symm
 | k,.no::r,c'::r',0,c,e=>.inl (Vau e).symm
 | k,.im d::r,c'::r',0,c,e=>.inr (.inl ⟨e,d,(Vau e).symm⟩)
 | k,.ow _::r,c'::r',j+1,c,e=>by
  have z:=Zfb (k:=k+1) (ρ:=r) (ρ2:=r') (j:=j) e;rw [show k+1+j=k+(j+1) by omega] at z;exact z
 | k,.no::r,c'::r',j+1,c,e=>by
  have z:=Zfb (k:=k+1) (ρ:=r) (ρ2:=r') (j:=j) e;rw [show k+1+j=k+(j+1) by omega] at z;exact z
 | k,.im _::r,c'::r',j+1,c,e=>by
  have z:=Zfb (k:=k+1) (ρ:=r) (ρ2:=r') (j:=j) e;rw [show k+1+j=k+(j+1) by omega] at z;exact z
 | _,[],_,_,_,e=>by unfold mixO at e;simp at e
 | _,_::_,[],_,_,e=>by unfold mixO at e;simp at e
def Ze5:∀{k:Nat} {ρ ρ2:Ev},ρ.length<=ρ2.length->(mixO J k ρ ρ2).length=ρ.length
 | _,[],_,_=>by unfold mixO;rfl
 | _,_::_,[],h=>by simp at h
 | k,.ow _::r,_::r',h=>Vax (·+1) (Ze5 (k:=k+1) (Nat.le_of_succ_le_succ h))
 | k,.no::r,_::r',h=>Vax (·+1) (Ze5 (k:=k+1) (Nat.le_of_succ_le_succ h))
 | k,.im _::r,_::r',h=>Vax (·+1) (Ze5 (k:=k+1) (Nat.le_of_succ_le_succ h))
end
structure CalY(P:Program)(w:World)(K:W.Frag)(mg:Str->Option Value)(base:Heap)(k:Nat)(x:Str)(ps:List Str)(i:Nat)(m:FY):Prop where
 ex:∃(f:Addr) (fd:FuncData),FnOk P w K mg base (CXR P w) k f fd ps (spY K mg ps.length i m)/\Binds K fd ps []/\W.keepIn K (.ref f)=true/\mg x=some (.ref f)
structure DYs(X:Cx)(i:Nat)(J:List Nat)(sts:List Stmt)(t:TS)(m:MY):Prop where
 p:PSs X sts t
 s:SY X.K X.mg i J t m
structure DY(X:Cx)(i:Nat)(J:List Nat)(st:Stmt)(t:TS)(m:MY):Prop where
 p:PS X st t
 s:SY X.K X.mg i J t m
section
def _root_.L2.Def.calY{st:Stmt}{J:List Nat}{mb:MY}(Df:Def K mg x st ps)(S:Zag N ps (Zac st))(hps:ps.length<=N.length)(h:∀(f:Addr) (cdv:Value) (A:Around) (outer:List Env) (s:Shared) (H:Hp) (E:XK),Room k (A.deeper (envOfC x (Zac st) s.heap.objs.size f cdv))->∃t,DYs (cxOf (CXR P w) P w K mg base N x (Zac st) f cdv A outer s H E) i J (Zav st) t mb) :
  CalY P w K mg base (k+1) x ps i (fnY N.length J mb):=by
 obtain ⟨f,fd,F,b,hm⟩:=Df.ex;refine ⟨⟨f,fd,?_,b,F.kp,hm⟩⟩;obtain ⟨oc,od,kV,doc,pm,an,cdv,ct,osl,rfl,lk,hcd⟩:=F.ex;refine Zix lk hcd S (λvs H Q E q=>q.1) λA outer s H vs Q E hr hsp=>?_;obtain ⟨t,hd⟩:=h f cdv A outer s H E hr;refine ⟨t,hd.p,?_⟩;obtain ⟨hlen,F0,H0,ρ,a,rows,dss,rr,At0,ρ',dss',ef,hq⟩:=hsp;have lr:vs.length=ρ.length:=by have:=rr.len;rwa [VaO] at this
 have es:start N vs=vs.map some++List.replicate (N.length - ρ.length) none:=by unfold start;rw [lr]
 have gs:∀(j:Nat),j<ρ.length->(start N vs)[j]?=(vs.map some)[j]?:=λj hj=>by rw [es];exact Va2 (by rw [VaO,lr];exact hj)
 have r0:Rep K mg F0 H0 F0 H (start N vs) (ρ++List.replicate (N.length - ρ.length) .no):=by rw [es];exact ZpX rr
 have ia:i<ρ.length:=by
  have:=(Vat.mp At0.s).1;rwa [VaO,lr] at this
 have A0:At K mg i H0 F0 H (start N vs) (ρ++List.replicate (N.length - ρ.length) .no) a rows dss:=by
  refine ⟨At0.R,λj ds b e1 e2=>?_,by rw [gs i ia];exact At0.s,At0.h0⟩;by_cases hj:j<ρ.length
  ·rw [Va2 hj] at e1;rw [gs j hj] at e2;exact At0.o j ds b e1 e2
  ·rw [Va0 (by omega),Va1] at e1;split at e1
   ·cases e1
   ·cases e1
 have z:=hd.s F0 H0 F0 H (start N vs) _ a rows dss r0 A0;unfold fnY at ef;obtain ⟨⟨fl,d2⟩,e1,e2⟩:=ZcB ef;rw [e1] at z;cases fl with
 | nx ρ2 =>
  have e2:(if ρ.length<=ρ2.length then Res.ok (mixO J 0 ρ ρ2,d2) else .bad)=.ok (ρ',dss'):=e2
  by_cases l2:ρ.length<=ρ2.length
  case neg=>rw [if_neg l2] at e2;cases e2
  rw [if_pos l2] at e2;cases e2;refine z _ λF' H' σ' s' r' A' ag=>?_;have ml:(mixO J 0 ρ ρ2).length=ρ.length:=Ze5 l2;have key:∀(j:Nat) (c:Cl),(mixO J 0 ρ ρ2)[j]?=some c->c=.no\/(ρ[j]?=some c/\∃d,c=.im d)\/(ρ2[j]?=some c/\σ'[j]?=(vs.map some)[j]?):=λj c e=>by
   rcases Zfb e with q | q | ⟨q1,q2⟩
   ·exact .inl q
   ·exact .inr (.inl q)
   ·have hj:j<ρ.length:=by rw [<-ml];exact (Vat.mp e).1
    rw [Nat.zero_add] at q2;exact .inr (.inr ⟨q1,by rw [ag j q2,gs j hj]⟩)
  have owk:∀(j:Nat) (ds:List D),(mixO J 0 ρ ρ2)[j]?=some (.ow ds)->ρ2[j]?=some (.ow ds)/\σ'[j]?=(vs.map some)[j]?:=λj ds e=>by
   rcases key j _ e with q | ⟨_,d,q⟩ | q
   ·cases q
   ·cases q
   ·exact q
  refine hq F' H' ⟨r'.g,by rw [ml];exact rr.len,λj d e=>?_,λj ds e=>?_,λj k ds es b e1 e2 e3 e4=>?_⟩ ⟨A'.R,λj ds b e1 e2=>?_,At0.s,At0.h0⟩
  ·rcases key j _ e with q | ⟨q,_⟩ | ⟨q1,q2⟩
   ·cases q
   ·obtain ⟨y,h1,h2⟩:=rr.im j d q;exact ⟨y,h1,h2.same s'⟩
   ·rw [<-q2];exact r'.im j d q1
  ·obtain ⟨q1,q2⟩:=owk j ds e;rw [<-q2];exact r'.ow j ds q1
  ·obtain ⟨q1,q2⟩:=owk j ds e1;obtain ⟨q3,q4⟩:=owk k es e2;rw [<-q2] at e3;rw [<-q4] at e4;exact r'.ne j k ds es b q1 q3 e3 e4
  ·obtain ⟨q1,q2⟩:=owk j ds e1;rw [<-q2] at e2;exact A'.o j ds b q1 e2
 | rt d=>cases e2
 | bk ρ2=>cases e2
 | ct ρ2=>cases e2
end
section
variable    {F:Hp} {σ':St} {ρ2:Ev} {a:Addr} {rows:List Addr} {dss:List (List D)} {l:Nat} {J:List Nat}
def Zsb:SY K mg i J (tRet (tTup (Zbd (tVar i) (Zbd (tVar j) tNil)))) (retY j):=by
 intro F0 H0 F H σ ρ a rows dss rr A;unfold retY;cases ec:ρ[j]? with
 | none=>trivial
 | some c =>
 cases c with
 | no=>trivial
 | im d=>trivial
 | ow ds =>
 obtain ⟨b,xs,e2,e4,e5,e3,hr⟩:=rr.ow j ds ec;intro D q;refine ⟨.ref a,A.s,.ref b,e2,(show 2<=sizeLine by decide),λp hp=>?_⟩;obtain ⟨F1,c1,c2⟩ : ∃F1:Hp,(∀c,(c=a\/c∈rows\/c=b)->F1 c=H c)/\∀c,¬(c=a\/c∈rows\/c=b)->F1 c=F c:=by
  classical
  exact ⟨λc=>if c=a\/c∈rows\/c=b then H c else F c,λc h=>if_pos h,λc h=>if_neg h⟩
 have rowH:∀r∈rows,F r=none/\∃ys,H r=some (.lst ys):=λr hr=>by
  obtain ⟨k,hk,rfl⟩:=List.getElem_of_mem hr;obtain ⟨f,ys,h,_⟩:=A.R.row k _ _ (VbF hk) (VbF (by rw [<-A.R.len];exact hk));exact ⟨f,ys,h⟩
 have inF:∀c,(c=a\/c∈rows\/c=b)->F c=none/\H0 c=none/\∃ys,H c=some (.lst ys):=λc h=>by
  rcases h with h | h | h
  ·rw [h];exact ⟨A.R.fa,A.h0.1,_,A.R.ha⟩
  ·obtain ⟨f,ys,hy⟩:=rowH c h;exact ⟨f,A.h0.2 c h,ys,hy⟩
  ·rw [h];exact ⟨e5,e4,xs,e3⟩
 have sF:Same F F1:=λc o e=>by
  by_cases h:c=a\/c∈rows\/c=b
  ·rw [(inF c h).1] at e;cases e
  ·rw [c2 c h];exact e
 have s1:Same F1 H:=λc o e=>by
  by_cases h:c=a\/c∈rows\/c=b
  ·rw [c1 c h] at e;exact e
  ·rw [c2 c h] at e;exact rr.g.s c o e
 have g1:Gr F0 H0 F1 H:=⟨rr.g.f.trans sF,s1,λc o f h=>by
  obtain ⟨q1,q2⟩:=rr.g.o c o f h;refine ⟨?_,q2⟩;rw [c2 c λz=>by rw [(inF c z).2.1] at h;cases h];exact q1,λc o u e=>by
  by_cases h:c=a\/c∈rows\/c=b
  ·rw [c1 c h] at e;obtain ⟨_,_,ys,hy⟩:=inF c h;rw [hy] at e;cases e
  ·rw [c2 c h] at e;exact rr.g.z c o u e⟩
 have g2:=g1.trans (.new s1 hp (.tup [.ref a,.ref b]));have fp:F1 p=none:=s1.free hp;have sN:Same F1 (upd F1 p (.tup [.ref a,.ref b])):=ZaA fp _;refine q _ _ (.ref p) g2 (.tup (SqT.of Zaf) (.cons ?_ (.cons ?_ .nil)))
 ·refine .lst (SqL.of (sN _ _ (by rw [c1 a (.inl rfl)];exact A.R.ha))) (ZnF (by rw [VaO,VaO];exact A.R.len) λk y d h1 h2=>?_);rw [Va3] at h1 h2;cases hk:rows[k]? with
  | none=>rw [hk] at h1;cases h1
  | some r =>
  cases hd:dss[k]? with
  | none=>rw [hd] at h2;cases h2
  | some cs =>
  rw [hk] at h1;rw [hd] at h2;cases h1;cases h2;obtain ⟨f,ys,hy,ry⟩:=A.R.row k r cs hk hd;exact .lst (SqL.of (sN _ _ (by rw [c1 r (.inr (.inl (Va4 hk)))];exact hy))) (ry.same (sF.trans sN))
 ·exact .lst (SqL.of (sN _ _ (by rw [c1 b (.inr (.inr rfl))];exact e3))) (hr.same (sF.trans sN))
def ZkU{x:Option V}(r:Rep K mg F0 H0 F H σ ρ)(i):Rep K mg F0 H0 F H (σ.set i x) (ρ.set i .no):=by
 refine ⟨r.g,by rw [Vbj,Vbj];exact r.len,λj d q=>?_,λj ds q=>?_,λj k ds es a q1 q2 q3 q4=>?_⟩
 ·rcases Zap q with ⟨_,z,_⟩ | ⟨h,q⟩
  ·cases z
  ·rw [ZaV h];exact r.im j d q
 ·rcases Zap q with ⟨_,z,_⟩ | ⟨h,q⟩
  ·cases z
  ·rw [ZaV h];exact r.ow j ds q
 ·rcases Zap q1 with ⟨_,z,_⟩ | ⟨h1,q1⟩
  ·cases z
  ·rcases Zap q2 with ⟨_,z,_⟩ | ⟨h2,q2⟩
   ·cases z
   ·rw [ZaV h1] at q3;rw [ZaV h2] at q4;exact r.ne j k ds es a q1 q2 q3 q4
def Zlc:∀{xs:List V},(∀(k:Nat) (x:V),xs[k]?=some x->∃q,x=.ref q)->∃rws:List Addr,xs=rws.map .ref
 | [],_=>⟨[],rfl⟩
 | x::xs,h=>by
  obtain ⟨q,rfl⟩:=h 0 x rfl;obtain ⟨r,rfl⟩:=Zlc (xs:=xs) λk y e=>h (k+1) y e;exact ⟨q::r,rfl⟩
def Zg8:∀{ds:List D} {dss:List (List D)},Zip ds=some dss->ds=dss.map .lst/\∀cs∈dss,noLs cs=true
 | [],_,e=>by cases e;exact ⟨rfl,λ_ h=>absurd h VbN⟩
 | d::r,dss,e=>by
  cases d with
  | lst cs =>
   have e:(if noLs cs=true then (Zip r).bind λq=>some (cs::q) else none)=some dss:=e
   by_cases h:noLs cs=true
   ·rw [if_pos h] at e;cases er:Zip r with
    | none=>rw [er] at e;cases e
    | some q =>
     rw [er] at e;have e:some (cs::q)=some dss:=e;cases e;obtain ⟨h1,h2⟩:=Zg8 er;refine ⟨by rw [h1];rfl,λc hc=>?_⟩;rcases Vaq.mp hc with rfl | hc
     ·exact h
     ·exact h2 c hc
   ·rw [if_neg h] at e;cases e
  | _=>cases e
def Zqv{te:Fam TE}{own:List Str}{cap:List (Str×Nat)}(hi:SI K mg E wi mi)(hg:∀C s H fp pn,SG K mg own.length (t C s H fp pn) g)(ht:∀C s H fp pn,STt K mg E0 (tt C s H fp pn) nt)(he:∀C s H fp pn,SEl K mg E0 (te C s H fp pn) me)(hr:SY K mg i J ur kr) :
  SS K mg E (tSeq (tAsg (ZcT wi t tt te own cap) (ZbT i)) ur) (regY i (comp mi own.length (cap.map (·.2)) g nt me) kr):=by
 intro F0 H0 F H σ ρ rr;have h:=hi F0 H0 F H σ ρ rr;unfold regY comp;cases e:mi ρ with
 | bad=>trivial
 | ex c=>rw [e] at h;exact λD q=>h _ λF' H' C g hC=>q F' H' C (rr.g.trans g) hC
 | ok ds =>
 rw [e] at h;by_cases hl:ds.length<=LIM
 case neg =>
  show AnsS K mg E F0 H0 F ((if ds.length<=LIM then _ else Res.bad).bind _) _
  rw [if_neg hl];trivial
 show AnsS K mg E F0 H0 F ((if ds.length<=LIM then (noEx (Dl.Zan g nt me (noA own.length (yag ρ (cap.map (·.2)))) ds)).bind _ else Res.bad).bind _) _
 rw [if_pos hl];cases e2:Dl.Zan g nt me (noA own.length (yag ρ (cap.map (·.2)))) ds with
 | bad=>trivial
 | ex c=>trivial
 | ok rs0 =>
 show AnsS K mg E F0 H0 F (match Zip rs0 with
  | some dss=>if i<ρ.length then (noEx (kr (ρ.set i .no) dss)).bind fstY else .bad
  | none=>.bad) _
 cases e3:Zip rs0 with
 | none=>trivial
 | some dss =>
 show AnsS K mg E F0 H0 F (if i<ρ.length then (noEx (kr (ρ.set i .no) dss)).bind fstY else .bad) _
 by_cases li:i<ρ.length
 case neg=>rw [if_neg li];trivial
 rw [if_pos li];cases e4:kr (ρ.set i .no) dss with
 | bad=>trivial
 | ex c=>trivial
 | ok p0 =>
 obtain ⟨fl,d2⟩:=p0;cases fl with
 | nx _=>trivial
 | bk _=>trivial
 | ct _=>trivial
 | rt d =>
 obtain ⟨er,hno⟩:=Zg8 e3;intro D q;refine h _ λF1 H1 J1 g1 jo=>λC s H2 fp pn=>Zm7 (rr.gr g1) jo (hg C s H2 fp pn) (ht C s H2 fp pn) (he C s H2 fp pn) hl e2 _ λF' H' xs g2 rs rwR nd _ p hp=>?_;have lx:xs.length=dss.length:=by rw [rs.length,er,VaO]
 obtain ⟨rws,rfl⟩:=Zlc (xs:=xs) λk x ex=>by
  have lk:k<dss.length:=by rw [<-lx];exact (Vat.mp ex).1
  obtain ⟨q0,_,_,z,_⟩:=rwR k x (.lst dss[k]) ex (by rw [er,Va3,VbF lk];rfl);exact ⟨q0,z⟩
 rw [VaO] at lx;have row:∀(k:Nat) (r:Addr) (cs:List Dl.D),rws[k]?=some r->dss[k]?=some cs->F1 r=none/\∃ys,F' r=some (.lst ys)/\Rps K mg F' ys cs:=λk r cs h1 h2=>by
  obtain ⟨q0,ys,cs',z1,z2,z3,z4,z5⟩:=rwR k (.ref r) (.lst cs) (by rw [Va3,h1];rfl) (by rw [er,Va3,h2];rfl);cases z1;cases z2;exact ⟨z3,ys,z4,z5⟩
 have rowM:∀r∈rws,F1 r=none/\∃ys,F' r=some (.lst ys):=λr hr=>by
  obtain ⟨k,hk,rfl⟩:=List.getElem_of_mem hr;obtain ⟨z1,ys,z2,_⟩:=row k _ _ (VbF hk) (VbF (by rw [<-lx];exact hk));exact ⟨z1,ys,z2⟩
 obtain ⟨F2,c1,c2⟩ : ∃F2:Hp,(∀c,c∈rws->F2 c=none)/\∀c,c∉rws->F2 c=F' c:=by
  classical
  exact ⟨λc=>if c∈rws then none else F' c,λc h=>if_pos h,λc h=>if_neg h⟩
 have c3:∀c o,F2 c=some o->F' c=some o:=λc o z=>by
  by_cases hc:c∈rws
  ·rw [c1 c hc] at z;cases z
  ·rw [c2 c hc] at z;exact z
 have f'p:F' p=none:=g2.s.free hp;have np:p∉rws:=λz=>by
  obtain ⟨_,ys,z2⟩:=rowM p z;rw [f'p] at z2;cases z2
 have gN:Gr F H F2 (upd H' p (.lst (rws.map .ref))):=by
  refine ⟨λc o z=>?_,λc o z=>?_,λc o z1 z2=>?_,λc o u z=>g1.z c o u (g2.z c o u (c3 c _ z))⟩
  ·rw [c2 c λhc=>absurd (rowM c hc).1 (by rw [g1.f c o z];intro w;cases w)];exact g2.f c o (g1.f c o z)
  ·have z':=g2.s c o (c3 c o z);rw [Zad (Zae z' hp)];exact z'
  ·obtain ⟨a1,a2⟩:=g1.o c o z1 z2;obtain ⟨b1,b2⟩:=g2.o c o a1 a2;refine ⟨?_,by rw [Zad (Zae b2 hp)];exact b2⟩;by_cases hc:c∈rws
   ·exact c1 c hc
   ·rw [c2 c hc];exact b1
 have rN:=ZkU (x:=some (.ref p)) (rr.gr gN) i;have h0r:∀r∈rws,H0 r=none:=λr hr=>by
  obtain ⟨z1,ys,z2⟩:=rowM r hr;cases q0:H0 r with
  | none=>rfl
  | some o =>
   have gg:=rr.g.trans g1;cases q1:F0 r with
   | some u=>rw [gg.f r u q1] at z1;cases z1
   | none =>
    obtain ⟨a1,a2⟩:=gg.o r o q1 q0;rw [(g2.o r o a1 a2).1] at z2;cases z2
 have A:At K mg i H0 F2 (upd H' p (.lst (rws.map .ref))) (σ.set i (some (.ref p))) (ρ.set i .no) p rws dss:=by
  refine ⟨⟨Zaf,by rw [c2 p np];exact f'p,?_,np,lx,λk r cs h1 h2=>?_⟩,λj es b h1 h2=>?_,ZhA (by rw [rr.len];exact li),Zs0 ((rr.g.trans g1).trans g2) hp,h0r⟩
  ·exact (List.pairwise_map.mp nd).imp λh z=>h (Vax V.ref z)
  ·obtain ⟨z1,ys,z2,z3⟩:=row k r cs h1 h2;have mr:r∈rws:=Va4 h1;have z4:=g2.s _ _ z2;refine ⟨c1 r mr,ys,by rw [Zad (Zae z4 hp)];exact z4,Zig (λb o e5 e6=>?_) z3 (hno cs (Va4 h2))⟩;rw [c2 b λhb=>?_]
   ·exact e5
   ·obtain ⟨_,zs,z5⟩:=rowM b hb;rw [z5] at e5;cases e5;exact e6 _ rfl
  ·rcases Zap h1 with ⟨_,z,_⟩ | ⟨hj,h1⟩
   ·cases z
   ·rw [ZaV hj] at h2;obtain ⟨b',xs',z1,_,z3,z4,_⟩:=rr.ow j es h1;rw [h2] at z1;cases z1;obtain ⟨a1,a2⟩:=g1.o b _ z3 z4;obtain ⟨b1,b2⟩:=g2.o b _ a1 a2
    exact ⟨Zae b2 hp,λhb=>by
     obtain ⟨_,zs,z5⟩:=rowM b hb
     rw [b1] at z5;cases z5⟩
 have z:=hr F0 H0 F2 _ _ _ p rws dss rN A;rw [e4] at z;exact z D q
end
section
variable   {l:Nat} {J:List Nat} {st:Stmt} {sts rest:List Stmt} {tv ta tb to ti:TE} {ts:TSet} {t u u':TS} {m:MS} {k k':MY} {mv ma mb:ME} {sa:TT} {na:MB} {ev ea eb c' tg iter elt:Expr} {y:Str} {np ip ip2 apos p:Pos}
def ZlK(h:DS X E st (Zb3 te) m)(hi:i∈J:=by decide):DY X i J st (Zb3 te) (lft m):=⟨h.p,Zfx h.s Zm6 hi⟩
def Zdz(h:DS X E st (tAsg te (ZbT j)) m)(hj:j∉J:=by decide)(hi:i∈J:=by decide):DY X i J st (tAsg te (ZbT j)) (lft m):=⟨h.p,Zfx h.s (Zpv hj) hi⟩
def Zrq(h:DS X E st (tAsg te (gSub to ti ts)) m)(hi:i∈J:=by decide):DY X i J st (tAsg te (gSub to ti ts)) (lft m):=⟨h.p,Zfx h.s Zoz hi⟩
def Zn2(h:DS X E st Zj6 m)(hi:i∈J:=by decide):DY X i J st Zj6 (lft m):=⟨h.p,Zfx h.s Zl9 hi⟩
def Zld(hi:i∈J:=by decide):DYs X i J [] ZjN (lft nop):=⟨Ziv,Zfx (E:=E0) ZnE ZmM hi⟩
def ZbP(h:DY X i J st t k):DYs X i J [st] t k:=⟨Zgv h.p,h.s⟩
def ZaO(h:DY X i J st t k)(h':DYs X i J rest u k'):DYs X i J (st::rest) (tSeq t u) (sqY k k'):=⟨ZbU h.p h'.p,Zrf h.s h'.s⟩
def ZpU(hc:DT X E c' sa na)(ha:DYs X i J as u k)(hb:DYs X i J bs u' k'):DY X i J (.If c' as bs spos) (tIfS sa u u') (ifY na k k'):=⟨Zpt hc.p ha.p hb.p,Zst hc.s ha.s hb.s⟩
def ZiR(hp:PassesOwn (model X.prog X.w) X.A X.env X.xe)(hc:X.calm=true)(hi:DI X E tg iter wi mi)(hg:DG X 1000 tg g gm)(kg:KpG J g)(hb:DYs X i J body u k)(hs:∀x,foldedSetIterable iter X.env x=pure x:=by intro _;rfl)(hJ:i∈J:=by decide):DY X i J (.For tg iter body [] spos) (tFor wi g u) (forY mi gm k):=⟨ZlI hp hc hi.p hg.p hb.p hs,Zre hi.s hg.s kg hJ hb.s⟩
def Zqw(he:DE X E e te me)(hw:DE X E ev tv mv)(hi:X.N[i]?=some y:=by rfl)(hv:Vis X.env.scope y:=by first | exact Or.inl rfl | exact Or.inr (Or.inl rfl) | exact Or.inr (Or.inr rfl))(hd:(y==("__debug__" : Str))=false:=by decide)(hcd:(y==("__classdict__" : Str))=false:=by decide)(hpi:ZgN e:=by exact λ_ _=>rfl)(hbase:attributeBase (.Subscript (.Name y np) e ip) "append" X.env (eval (.Subscript (.Name y np) e ip) X.env)=eval (.Subscript (.Name y np) e ip) X.env:=by rfl)(hse:starEach [ev] X.env=(false,eval ev X.env)::starEach [] X.env:=by rfl) (hfew:((backTo cpos (starEach [ev] X.env)).all (λx=>!x.1)&&(backToKw cpos (keywordEach [] X.env)).all (λx=>x.1.isSome)
   && decide (([ev]:List Expr).length+([]:List Keyword).length+(if ([]:List Keyword).isEmpty then 0 else 1)<30))=true:=by rfl) (hline:(apos.endLine==cpos.line)=true:=by rfl) (hplain:(backTo cpos (starEach [] X.env)).any (·.1)=false:=by rfl) (hsw:swapsWith (.Call (.Attribute (.Subscript (.Name y np) e ip) "append" apos) [ev] [] cpos) none spos.line X.env=pure false:=by rfl) :
  DY X i J (.Expr (.Call (.Attribute (.Subscript (.Name y np) e ip) "append" apos) [ev] [] cpos) spos) (Zb3 (tBM X.K "list" Zc9 (tOp (rIxD X.K) (tVar i) te) (Zbd tv tNil))) (appY me mv) :=
 ⟨Zdc (Zmk VbI PySem.F.slot_list_append PySem.F.type_list_append Zhr (Zo6 (IxR.or Zh7 ZlG) (ZbW hi hv hd hcd) he.p hpi) (Zbh hw.p Zeh hse) hbase hfew hline hse hplain) hsw,Zql he.s hw.s⟩
def Zof(hw:DE X E e tv mv)(ha:DE X E ea ta ma)(hb:DE X E eb tb mb)(hi:X.N[i]?=some y:=by rfl)(hv:Vis X.env.scope y:=by first | exact Or.inl rfl | exact Or.inr (Or.inl rfl) | exact Or.inr (Or.inr rfl))(hd:(y==("__debug__" : Str))=false:=by decide)(hcd:(y==("__classdict__" : Str))=false:=by decide)(hpi:ZgN ea:=by exact λ_ _=>rfl) (has:∀v,assign (.Subscript (.Subscript (.Name y np) ea ip) eb ip2) X.env v=(do
   let ov <-holding [v] (eval (.Subscript (.Name y np) ea ip) X.env)
   let iv <-holding [v,ov] (eval eb X.env)
   standAt ip2
   holding [v,ov,iv] (setItem ov iv v)
   release [v,ov,iv] []):=by intro _;rfl) (hs2:swapsWithSole [.Subscript (.Subscript (.Name y np) ea ip) eb ip2] e spos.line X.env=pure false:=by rfl) (hw2:swappedStores [.Subscript (.Subscript (.Name y np) ea ip) eb ip2] e X.env=pure none:=by rfl) :
  DY X i J (.Assign [.Subscript (.Subscript (.Name y np) ea ip) eb ip2] e spos) (tAsg tv (gSub (tOp (rIxD X.K) (tVar i) ta) tb ZkM)) (Zmg mv ma mb) :=
 ⟨Zk5 hw.p (Znm (Zo6 (IxR.or Zh7 ZlG) (ZbW hi hv hd hcd) ha.p hpi) hb.p set_list has) hs2 hw2,Zo8 hw.s ha.s hb.s⟩
def Zpx(hw:DE X E e tv mv)(hb:DE X E eb tb mb)(hi:X.N[i]?=some y:=by rfl)(hv:Vis X.env.scope y:=by first | exact Or.inl rfl | exact Or.inr (Or.inl rfl) | exact Or.inr (Or.inr rfl))(hd:(y==("__debug__" : Str))=false:=by decide)(hcd:(y==("__classdict__" : Str))=false:=by decide) (has:∀v,assign (.Subscript (.Name y np) eb ip2) X.env v=(do
   let ov <-holding [v] (eval (.Name y np) X.env)
   let iv <-holding [v,ov] (eval eb X.env)
   standAt ip2
   holding [v,ov,iv] (setItem ov iv v)
   release [v,ov,iv] []):=by intro _;rfl) (hs2:swapsWithSole [.Subscript (.Name y np) eb ip2] e spos.line X.env=pure false:=by rfl) (hw2:swappedStores [.Subscript (.Name y np) eb ip2] e X.env=pure none:=by rfl) :
  DS X E (.Assign [.Subscript (.Name y np) eb ip2] e spos) (tAsg tv (gSub (tVar i) tb ZkM)) (setO i mv mb) :=
 ⟨Zk5 hw.p (Znm (ZbW hi hv hd hcd) hb.p set_list has) hs2 hw2,ZnS hw.s hb.s⟩
def Zra(i)(h:DE X E e te me):DE X E e te (pkN i me):=⟨h.p,Zsh i h.s⟩
def Znn{j1:Nat}{q1 q2:Pos}(hi:X.N[i]?=some x)(hj:X.N[j]?=some y)(vx:Vis X.env.scope x:=by first | exact Or.inl rfl | exact Or.inr (Or.inl rfl) | exact Or.inr (Or.inr rfl))(vy:Vis X.env.scope y:=by first | exact Or.inl rfl | exact Or.inr (Or.inl rfl) | exact Or.inr (Or.inr rfl))(d1:(x==("__debug__" : Str))=false:=by decide)(d2:(x==("__classdict__" : Str))=false:=by decide)(d3:(y==("__debug__" : Str))=false:=by decide)(d4:(y==("__classdict__" : Str))=false:=by decide)(s1:starEach [.Name x q1,.Name y q2] X.env=(false,eval (.Name x q1) X.env)::starEach [.Name y q2] X.env:=by rfl)(s2:starEach [.Name y q2] X.env=(false,eval (.Name y q2) X.env)::starEach [] X.env:=by rfl) :
  DY X i J (.Return (some (.Tuple [.Name x q1,.Name y q2] j1 pos)) spos) (tRet (tTup (Zbd (tVar i) (Zbd (tVar j) tNil)))) (retY j) :=
 ⟨Zjz (Znd (Zbh (ZbW hi vx d1 d2) (Zbh (ZbW hj vy d3 d4) Zeh s2) s1)),Zsb⟩
structure DAy(X:Cx)(E:XK)(i l:Nat)(sh:List Nat)(es:List Expr)(t:TA)(m:MR):Prop where
 p:PA X es t
 s:SAy X.K X.mg i l sh t m
def ZkS:DAy X E i l [] [] tNil rNil:=⟨Zeh,Zpc⟩
def ZhL{sh:List Nat}{t:TA}{m:MR}(h:DE X E e te me)(r:DAy X E i l sh es t m)(hs:starEach (e::es) X.env=(false,eval e X.env)::starEach es X.env:=by rfl):DAy X E i l (0::sh) (e::es) (Zbd te t) (rIm me m):=⟨Zbh h.p r.p hs,Zr8 h.s r.s⟩
def ZnN{sh:List Nat}{t:TA}{m:MR}(r:DAy X E i l sh es t m)(hi:X.N[i]?=some y:=by rfl)(hv:Vis X.env.scope y:=by first | exact Or.inl rfl | exact Or.inr (Or.inl rfl) | exact Or.inr (Or.inr rfl))(hd:(y==("__debug__" : Str))=false:=by decide)(hcd:(y==("__classdict__" : Str))=false:=by decide)(hs:starEach (.Name y np::es) X.env=(false,eval (.Name y np) X.env)::starEach es X.env:=by rfl) :
  DAy X E i l (1::sh) (.Name y np::es) (Zbd (tVar i) t) (rRg m):=⟨Zbh (ZbW hi hv hd hcd) r.p hs,Zq6 r.s⟩
def Zrk{sh:List Nat}{t:TA}{m:MR}(r:DAy X E i l sh es t m)(hi:X.N[l]?=some y:=by rfl)(hv:Vis X.env.scope y:=by first | exact Or.inl rfl | exact Or.inr (Or.inl rfl) | exact Or.inr (Or.inr rfl))(hd:(y==("__debug__" : Str))=false:=by decide)(hcd:(y==("__classdict__" : Str))=false:=by decide)(hs:starEach (.Name y np::es) X.env=(false,eval (.Name y np) X.env)::starEach es X.env:=by rfl) :
  DAy X E i l (2::sh) (.Name y np::es) (Zbd (tVar l) t) (rOw l m):=⟨Zbh (ZbW hi hv hd hcd) r.p hs,Zru r.s⟩
def Zrp{sh:List Nat}(h:(List.range sh.length).all (λk=>(sh[k]?==some 2)==(lc==some k))=true)(h2:(match lc with | some k=>decide (k<sh.length) | none=>true)=true):(∀k,sh[k]?=some 2->lc=some k)/\∀k,lc=some k->sh[k]?=some 2:=by
 rw [Vbu] at h;refine ⟨λk e=>?_,λk e=>?_⟩
 ·have z:=h k (Vai.mpr (Vat.mp e).1);rw [e] at z;simpa using z
 ·subst e;have z:=h k (Vai.mpr (by simpa using h2));simpa using z
def Zkr{kk ll ic:Nat}{lc:Option Nat}{sh:List Nat}{f:FY}{t:TA}{m:MR}(C:CalY X.prog X.w X.K X.mg X.base kk x ps ic f)(hr:Room ll X.A)(hn:kk<=ll)(hg:Gl X x)(hx:Zbi (CXR X.prog X.w) X E)(ha:DAy X E i l sh (e::es) t m)(hps:sh.length=ps.length:=by rfl)(hic:sh[ic]?=some 1:=by rfl)(h1:(List.range sh.length).all (λk=>(sh[k]?==some 2)==(lc==some k))=true:=by rfl)(h2:(match lc with | some k=>decide (k<sh.length) | none=>true)=true:=by rfl)(hdb:(x==("__debug__" : Str))=false:=by decide)(he:starEach (e::es) X.env=(false,eval e X.env)::starEach es X.env:=by rfl)(hpl:(backTo pos (starEach es X.env)).any (·.1)=false:=by rfl)(hsw:swapsWith (.Call (.Name x p) (e::es) [] pos) none spos.line X.env=pure false:=by rfl) :
  DY X i J (.Expr (.Call (.Name x p) (e::es) [] pos) spos) (Zb3 (ZeB (spY X.K X.mg ps.length ic f) [] E t)) (Zk0 f l lc m):=by
 obtain ⟨g,fd,F,b,kp,hm⟩:=C.ex;exact ⟨Zdc (Zgs F (hr.mono hn) hg hm kp b .nil hx ha.p hdb he hpl) hsw,Zn3 ha.s hic (Zrp h1 h2).1 (Zrp h1 h2).2 hps⟩
def ZrG{t:TA}{m:MA}{lpos:Pos}(ha:DA X E n es t m)(hb:DE X E e tb mb)(hn:n<=sizeLine:=by decide):DEl X E (.BinOp (.List es lpos) .Mult e pos) (tOp rRep (tLst t) tb) (repD m mb):=⟨ZnZ ZnO (Zhk ha.p) hb.p,Znu (R:=RowR X.K X.mg) (λ_ _ p zs es f h r=>⟨p,zs,es,rfl,rfl,f,h,r⟩) ha.s ha.n hn hb.s⟩
def Zki(hN:X.N.Nodup)(hix:X.N[i]?=some x)(hx:Loc X.env.scope x)(hi:DI X E tg iter wi mi)(O:Zb1 X own cap scope cl)(hc:X.calm=true)(hg:∀C s H fp pn,DG (Zax X (own++cap.map (·.1)) scope cl C s H fp pn) own.length tg (g C s H fp pn) gm)(ht:∀C s H fp pn,DTs (Zax X (own++cap.map (·.1)) scope cl C s H fp pn) E0 tsx (tt C s H fp pn) na)(he:∀C s H fp pn,DEl (Zax X (own++cap.map (·.1)) scope cl C s H fp pn) E0 elt (tf C s H fp pn) me)(hr:DYs X i J rest u k)(hts:tsx.length<=1:=by decide)(hsw:swapsWith (.ListComp elt [⟨tg,iter,tsx,0⟩] scope pos) (some (.Name x pos')) spos.line X.env=pure true:=by rfl)(hs:∀x,foldedSetIterable iter X.env x=pure x:=by intro _;rfl)(hf:X.fn x=true\/X.env.scope.names.lookup x=some .local:=by first | exact .inl rfl | exact .inr rfl | assumption) :
  DSs X E (.Assign [.Name x pos'] (.ListComp elt [⟨tg,iter,tsx,0⟩] scope pos) spos::rest) (tSeq (tAsg (ZcT wi g tt tf own cap) (ZbT i)) u) (regY i (comp mi own.length (cap.map (·.2)) gm na me) k) :=
 ⟨ZbU (ZeD hN hix hx hi.p O hc (λC s H fp pn=>(hg C s H fp pn).p) (λC s H fp pn=>(ht C s H fp pn).p) (λC s H fp pn=>(he C s H fp pn).p) hts hsw hs hf) hr.p,
  Zqv hi.s (λC s H fp pn=>(hg C s H fp pn).s) (λC s H fp pn=>(ht C s H fp pn).s) (λC s H fp pn=>(he C s H fp pn).s) hr.s⟩
end
end L2.Ds
namespace L2.Ds
open PySem.W Dl
abbrev Tbs:=List (Addr×Str)
def Tabs(Z:Tbs)(H0 F H:Hp):Prop:=∀z∈Z,H0 z.1=none/\F z.1=none/\∃ps,H z.1=some (.tbl ps)/\TabGood H z.2 ps
def EndZ(K:W.Frag)(mg:Str->Option Value)(Z:Tbs)(F0 H0 F:Hp)(D:Ends):Fl->Prop
 | .nx ρ=>∀F' H' σ',Same F F'->Rep K mg F0 H0 F' H' σ' ρ->Tabs Z H0 F' H'->D.nx σ' H'
 | .ct ρ=>∀F' H' σ',Same F F'->Rep K mg F0 H0 F' H' σ' ρ->Tabs Z H0 F' H'->D.ct σ' H'
 | .bk ρ=>∀F' H' σ',Same F F'->Rep K mg F0 H0 F' H' σ' ρ->Tabs Z H0 F' H'->D.bk σ' H'
 | .rt d=>∀F' H' x,Gr F0 H0 F' H'->Tabs Z H0 F' H'->Rp K mg F' x d->D.rt x H'
def AnsZ(K:W.Frag)(mg:Str->Option Value)(Z:Tbs)(F0 H0 F:Hp)(r:Res Fl)(w:Ends->Prop):Prop :=
 match r with
 | .ok f=>∀D,EndZ K mg Z F0 H0 F D f->w D
 | _=>True
def SZ(K:W.Frag)(mg:Str->Option Value)(Z:Tbs)(t:TS)(m:MS):Prop:=∀F0 H0 F H σ ρ,Rep K mg F0 H0 F H σ ρ->Tabs Z H0 F H->AnsZ K mg Z F0 H0 F (m ρ) λD=>t D σ H
def AnsV(K:W.Frag)(mg:Str->Option Value)(Z:Tbs)(R:Hp->β->α->Prop)(F0 H0 F:Hp)(σ:St)(ρ:Ev)(r:Res α)(w:(β->Hp->Prop)->Prop):Prop :=
 match r with
 | .ok d=>∀Q,(∀F' H' x,Same F F'->Rep K mg F0 H0 F' H' σ ρ->Tabs Z H0 F' H'->R F' x d->Q x H')->w Q
 | _=>True
def SZe(K:W.Frag)(mg:Str->Option Value)(Z:Tbs)(t:TE)(m:ME):Prop:=∀F0 H0 F H σ ρ,Rep K mg F0 H0 F H σ ρ->Tabs Z H0 F H->AnsV K mg Z (Rp K mg) F0 H0 F σ ρ (m ρ) (t σ H)
def SZt(K:W.Frag)(mg:Str->Option Value)(Z:Tbs)(t:TT)(m:MB):Prop:=∀F0 H0 F H σ ρ,Rep K mg F0 H0 F H σ ρ->Tabs Z H0 F H->AnsV K mg Z RB F0 H0 F σ ρ (m ρ) (t σ H)
section
variable    {F:Hp} {σ':St} {ρ':Ev} {Z:Tbs}
def _root_.L2.TabGood.upX{ps:Array Value}(g:TabGood H q ps)(k:∀b φ,H b=some (.ext φ)->H' b=some (.ext φ)):TabGood H' q ps:=⟨g.ok,λpos cv h=>by
 obtain ⟨d,e1,e2⟩:=g.co pos cv h
 exact ⟨d,e1,k d _ e2⟩⟩
def Tabs.gr(t:Tabs Z H0 F H)(s:Same F H)(g:Gr F H F' H'):Tabs Z H0 F' H':=λz hz=>by
 obtain ⟨h0,f,ps,h,tg⟩:=t z hz;obtain ⟨f',h'⟩:=g.o _ _ f h;exact ⟨h0,f',ps,h',tg.upX λb φ e=>g.same s b _ e⟩
def Tabs.off(t:Tabs Z H0 F H)(rr:Rep K mg F0 H0 F H σ ρ)(g:Gr F (Zcn σ ρ H) F' H'):Tabs Z H0 F' H':=by
 have nt:∀b o,H b=some o->(∀xs,o≠.lst xs)->Zcn σ ρ H b=some o:=λb o e ho=>Za8 e λj ds e1 e2=>by
  obtain ⟨c,xs,w1,_,_,w4,_⟩:=rr.ow j ds e1;rw [e2] at w1;cases w1;rw [e] at w4;cases w4;exact ho _ rfl
 have so:Same F (Zcn σ ρ H):=λb o e=>Za8 (rr.ss b o e) λj ds e1 e2=>by
  obtain ⟨c,xs,w1,_,w3,_⟩:=rr.ow j ds e1;rw [e2] at w1;cases w1;rw [e] at w3;cases w3
 intro z hz;obtain ⟨h0,f,ps,h,tg⟩:=t z hz;obtain ⟨f',h'⟩:=g.o _ _ f (nt _ _ h λ_ z=>by cases z);exact ⟨h0,f',ps,h',tg.upX λb φ e=>g.same so b _ (nt _ _ e λ_ z=>by cases z)⟩
def Zky(h:SS K mg E t m):SZ K mg Z t m:=by
 intro F0 H0 F H σ ρ rr tb;have q:=h F (Zcn σ ρ H) F H σ ρ rr.rebase;cases em:m ρ with
 | bad=>trivial
 | ex c=>trivial
 | ok f =>
  rw [em] at q;cases f with
  | nx ρ2=>exact λD w=>q D λF' H' σ' s' r'=>w F' H' σ' s' (rr.back r') (tb.off rr r'.g)
  | ct ρ2=>exact λD w=>q D λF' H' σ' s' r'=>w F' H' σ' s' (rr.back r') (tb.off rr r'.g)
  | bk ρ2=>exact λD w=>q D λF' H' σ' s' r'=>w F' H' σ' s' (rr.back r') (tb.off rr r'.g)
  | rt d=>exact λD w=>q D λF' H' x g rx=>w F' H' x (Gr.back rr g) (tb.off rr g) rx
def Zl1(h:STt K mg E t m):SZt K mg Z t m:=by
 intro F0 H0 F H σ ρ rr tb;have q:=h F0 H0 F H σ ρ rr;cases em:m ρ with
 | bad=>trivial
 | ex c=>trivial
 | ok b =>
  rw [em] at q;exact λQ w=>q Q λF' H' x g rx=>w F' H' x g.f (rr.gr g) (tb.gr rr.ss g) rx
def Zo0(h:SZe K mg Z t m):SZt K mg Z (tNot (tB t)) (bNot (trb m)):=by
 intro F0 H0 F H σ ρ rr tb;have q:=h F0 H0 F H σ ρ rr tb;unfold bNot trb;cases em:m ρ with
 | bad=>trivial
 | ex c=>trivial
 | ok d =>
  rw [em] at q;cases d with
  | bl b =>
   refine λQ w=>q _ λF' H' x s r t rx=>?_;cases rx;exact ⟨b,rfl,w F' H' _ s r t rfl⟩
  | _=>trivial
def EndZ.mono{F1:Hp}{D:Ends}{f:Fl}(s:Same F F1)(h:EndZ K mg Z F0 H0 F D f):EndZ K mg Z F0 H0 F1 D f:=by
 cases f with
 | nx ρ=>exact λF' H' σ' s'=>h F' H' σ' (s.trans s')
 | ct ρ=>exact λF' H' σ' s'=>h F' H' σ' (s.trans s')
 | bk ρ=>exact λF' H' σ' s'=>h F' H' σ' (s.trans s')
 | rt d=>exact h
def ZqG{n:MS}(h1:SZ K mg Z t m)(h2:SZ K mg Z u n):SZ K mg Z (tSeq t u) (sq m n):=by
 intro F0 H0 F H σ ρ rr tb;have h:=h1 F0 H0 F H σ ρ rr tb;unfold sq;cases e:m ρ with
 | bad=>trivial
 | ex c=>trivial
 | ok f =>
  rw [e] at h;cases f with
  | nx ρ' =>
   show AnsZ K mg Z F0 H0 F (n ρ') _;have h2':=λF1 H1 σ1 r1 t1=>h2 F0 H0 F1 H1 σ1 ρ' r1 t1;cases e2:n ρ' with
   | bad=>trivial
   | ex c=>trivial
   | ok f2 =>
    rw [e2] at h2';exact λD q=>h { D with nx:=u D } λF1 H1 σ1 s r1 t1=>h2' F1 H1 σ1 r1 t1 D (q.mono s)
  | ct ρ'=>exact λD q=>h { D with nx:=u D } q
  | bk ρ'=>exact λD q=>h { D with nx:=u D } q
  | rt d=>exact λD q=>h { D with nx:=u D } q
def Ztm{n:MS}(hc:SZt K mg Z sc nc)(h1:SZ K mg Z t m)(h2:SZ K mg Z u n):SZ K mg Z (tIfS sc t u) (ifs nc m n):=by
 intro F0 H0 F H σ ρ rr tb;have h:=hc F0 H0 F H σ ρ rr tb;unfold ifs;cases e:nc ρ with
 | bad=>trivial
 | ex c=>trivial
 | ok b =>
  rw [e] at h;show AnsZ K mg Z F0 H0 F (if b=true then m ρ else n ρ) _
  cases b with
  | true =>
   rw [if_pos rfl];have z:=λF1 H1 r1 t1=>h1 F0 H0 F1 H1 σ ρ r1 t1;cases e2:m ρ with
   | bad=>trivial
   | ex c=>trivial
   | ok f =>
    rw [e2] at z;exact λD q=>h _ λF1 H1 x s r1 t1 rx=>by cases (show x=true from rx);rw [if_pos rfl];exact z F1 H1 r1 t1 D (q.mono s)
  | false =>
   rw [if_neg VaC];have z:=λF1 H1 r1 t1=>h2 F0 H0 F1 H1 σ ρ r1 t1;cases e2:n ρ with
   | bad=>trivial
   | ex c=>trivial
   | ok f =>
    rw [e2] at z;exact λD q=>h _ λF1 H1 x s r1 t1 rx=>by cases (show x=false from rx);rw [if_neg VaC];exact z F1 H1 r1 t1 D (q.mono s)
def ZqC(h:SZe K mg Z te me):SZ K mg Z (tAsg te (ZbT i)) (Dl.st i me):=by
 intro F0 H0 F H σ ρ rr tb;have q:=h F0 H0 F H σ ρ rr tb;unfold Dl.st;cases em:me ρ with
 | bad=>trivial
 | ex c=>trivial
 | ok d =>
  rw [em] at q;exact λD w=>q _ λF' H' x s r t rx=>w F' H' _ s (r.set i rx) t
def Zqj(h:SZe K mg Z te me):SZ K mg Z (tRet te) (Dl.ret me):=by
 intro F0 H0 F H σ ρ rr tb;have q:=h F0 H0 F H σ ρ rr tb;unfold Dl.ret;cases em:me ρ with
 | bad=>trivial
 | ex c=>trivial
 | ok d =>
  rw [em] at q;exact λD w=>q _ λF' H' x s r t rx=>w F' H' x r.g t rx
def Zr2(hi:SI K mg E wi mi)(hg:SG K mg n t g)(hb:SZ K mg Z u m):SZ K mg Z (tFor wi t u) (for_ mi g m):=by
 intro F0 H0 F H σ ρ rr tb;have h:=hi F0 H0 F H σ ρ rr;unfold for_;cases e:mi ρ with
 | bad=>trivial
 | ex c=>trivial
 | ok ds =>
  rw [e] at h;show AnsZ K mg Z F0 H0 F (ZcV g m ds ρ) _;cases e1:ZcV g m ds ρ with
  | bad=>trivial
  | ex c=>trivial
  | ok f =>
   intro D q;refine h _ λF1 H1 jt g1 jo=>?_;refine ⟨λk n σ' H'=>n=ds.length - k/\k<=ds.length/\∃ρ' F',Same F1 F'/\Rep K mg F0 H0 F' H' σ' ρ'/\Tabs Z H0 F' H'/\ZcV g m (ds.drop k) ρ'=.ok f,⟨ds.length,by simp,VaR _,ρ,F1,Same.refl _,rr.gr g1,tb.gr rr.ss g1,by simpa using e1⟩,?_⟩;rintro k n σ' H' ⟨rfl,hk,ρ',F',s1,r',t',e'⟩;by_cases hlt:k<ds.length
   ·refine .inr ?_;have hd:ds[k]?=some ds[k]:=VbF hlt;obtain ⟨go,yl⟩:=(jo F' H' s1 r'.ss k).1 _ hd;rw [Vbx hlt] at e';refine ⟨go,λσ2 H2=>∃ρ2 F2,Same F1 F2/\Rep K mg F0 H0 F2 H2 σ2 ρ2/\Tabs Z H0 F2 H2/\ZcV g m (ds.drop (k+1)) ρ2=.ok f,λσ2 H2 z=>⟨ds.length - (k+1),by omega,rfl,hlt,z⟩,λx H2 y=>?_⟩;obtain ⟨F2,g2,rx⟩:=yl x H2 y;have r2:=r'.gr g2;have t2:=t'.gr r'.ss g2;unfold ZcV at e';obtain ⟨ρ1,eg,e'⟩:=ZcB e';have hG:=hg F2 (Zcn σ' ρ' H2) F2 H2 σ' ρ' x ds[k] r2.rebase rx;rw [eg] at hG;refine hG _ λF3 H3 σ3 s3 r3 _=>?_;have hB:=hb F0 H0 F3 H3 σ3 ρ1 (r2.back r3) (t2.off r2 r3.g);have sF:Same F1 F3:=(s1.trans g2.f).trans s3;cases em:m ρ1 with
    | bad=>rw [em] at e';cases e'
    | ex c=>rw [em] at e';cases e'
    | ok f3 =>
     rw [em] at e' hB;cases f3 with
     | nx ρ2=>exact hB _ λF4 H4 σ4 s4 r4 t4=>⟨ρ2,F4,sF.trans s4,r4,t4,e'⟩
     | ct ρ2=>exact hB _ λF4 H4 σ4 s4 r4 t4=>⟨ρ2,F4,sF.trans s4,r4,t4,e'⟩
     | bk ρ2 =>
      have e3:Res.ok (Fl.nx ρ2)=.ok f:=e';cases e3;exact hB _ λF4 H4 σ4 s4 r4 t4=>q F4 H4 σ4 (g1.f.trans (sF.trans s4)) r4 t4
     | rt d =>
      have e3:Res.ok (Fl.rt d)=.ok f:=e';cases e3;exact hB _ λF4 H4 x g4 t4 rx=>q F4 H4 x g4 t4 rx
   ·have hk2:k=ds.length:=by omega
    subst hk2;rw [VbG (VaH _)] at e';have e3:Res.ok (Fl.nx ρ')=.ok f:=e';cases e3;exact .inl ⟨(jo F' H' s1 r'.ss _).2 (VaH _),q F' H' σ' (g1.f.trans s1) r' t'⟩
def spZ(K:W.Frag)(mg:Str->Option Value)(Z:Tbs)(n:Nat)(f:List D->Res D):Sp:=λvs H Q _=>vs.length=n/\∃F H0 ds d,Gr F H0 F H/\Rps K mg F vs ds/\Tabs Z H0 F H/\f ds=.ok d/\∀F' H' v,Gr F H0 F' H'->Tabs Z H0 F' H'->Rp K mg F' v d->Q v H'
def ZmJ(ha:SA K mg E t m)(hl:SAn n m):SZe K mg Z (ZeB (spZ K mg Z n f) [] E t) (on f m):=by
 intro F0 H0 F H σ ρ rr tb;have h:=ha F0 H0 F H σ ρ rr;unfold on;cases e:m ρ with
 | bad=>trivial
 | ex c=>trivial
 | ok ds =>
  rw [e] at h;show AnsV K mg Z (Rp K mg) F0 H0 F σ ρ (f ds) _;cases ef:f ds with
  | bad=>trivial
  | ex c=>trivial
  | ok d =>
   refine λQ w=>h _ λF1 H1 vs g1 rs=>?_;have rr1:=rr.gr g1;have t1:=tb.gr rr.ss g1;rw [VaU];obtain ⟨Hc,c1,c2⟩ : ∃Hc:Hp,(∀z∈Z,Hc z.1=none)/\∀b,(∀z∈Z,z.1≠b)->Hc b=H1 b:=by
    classical
    exact ⟨λb=>if ∃z∈Z,z.1=b then none else H1 b,λz hz=>if_pos ⟨z,hz,rfl⟩,λb h=>if_neg λ⟨z,hz,e⟩=>h z hz e⟩
   have c3:∀b o,Hc b=some o->H1 b=some o:=λb o e=>by
    by_cases hb:∀z∈Z,z.1≠b
    ·rw [c2 b hb] at e;exact e
    ·simp only [Classical.not_forall,Classical.not_not] at hb;obtain ⟨z,hz,rfl⟩:=hb;rw [c1 z hz] at e;cases e
   have nt:∀b o,H1 b=some o->(∀ps,o≠.tbl ps)->Hc b=some o:=λb o e ho=>by
    rw [c2 b λz hz zb=>?_]
    ·exact e
    ·obtain ⟨_,_,ps,h,_⟩:=t1 z hz;rw [zb,e] at h;cases h;exact ho _ rfl
   refine ⟨by rw [rs.length];exact hl ρ ds e,F1,Hc,ds,d,⟨Same.refl _,rr1.ss,λb o f h=>⟨f,c3 b o h⟩,λ_ _ _ h=>h⟩,rs,λz hz=>?_,ef,λF' H' v g' t' rv=>w F' H' v (g1.f.trans g'.f) ⟨⟨rr1.g.f.trans g'.f,g'.s,λb o f h=>?_,λb o u e=>rr1.g.z b o u (g'.z b o u e)⟩,rr.len,λj d' e1=>?_,λj es e1=>?_,rr.ne⟩ (λz hz=>?_) rv⟩
   ·obtain ⟨h0,f,ps,h,tg⟩:=t1 z hz;exact ⟨c1 z hz,f,ps,h,tg⟩
   ·obtain ⟨q1,q2⟩:=rr1.g.o b o f h;refine g'.o b o q1 ?_;rw [c2 b λz hz zb=>by rw [<-zb,(tb z hz).1] at h;cases h];exact q2
   ·obtain ⟨x,e2,r2⟩:=rr1.im j d' e1;exact ⟨x,e2,r2.same g'.f⟩
   ·obtain ⟨b,xs,e2,e4,e5,e3,hr⟩:=rr1.ow j es e1;obtain ⟨q1,q2⟩:=g'.o b _ e5 (nt b _ e3 λ_ z=>by cases z);exact ⟨b,xs,e2,e4,q1,q2,hr.same g'.f⟩
   ·obtain ⟨_,f,ps,h,tg⟩:=t' z hz;exact ⟨(tb z hz).1,f,ps,h,tg⟩
end
structure CalZ(P:Program)(w:World)(K:W.Frag)(mg:Str->Option Value)(base:Heap)(Z:Tbs)(k:Nat)(x:Str)(ps:List Str)(m:List D->Res D):Prop where
 ex:∃(f:Addr) (fd:FuncData),FnOk P w K mg base (CXR P w) k f fd ps (spZ K mg Z ps.length m)/\Binds K fd ps []/\W.keepIn K (.ref f)=true/\mg x=some (.ref f)
structure DZ(X:Cx)(Z:Tbs)(st:Stmt)(t:TS)(m:MS):Prop where
 p:PS X st t
 s:SZ X.K X.mg Z t m
structure DZs(X:Cx)(Z:Tbs)(sts:List Stmt)(t:TS)(m:MS):Prop where
 p:PSs X sts t
 s:SZ X.K X.mg Z t m
structure DZe(X:Cx)(Z:Tbs)(e:Expr)(t:TE)(m:ME):Prop where
 p:PE X e t
 s:SZe X.K X.mg Z t m
structure DZt(X:Cx)(Z:Tbs)(e:Expr)(t:TT)(m:MB):Prop where
 p:PT X e t
 s:SZt X.K X.mg Z t m
end L2.Ds
namespace Dl
def capI(ρ:Ev):List Nat->Option (List D)
 | []=>some []
 | j::r=>match ρ[j]? with
  | some (.im d)=>(capI ρ r).bind λds=>some (d::ds)
  | _=>none
def refR(n i:Nat)(hits:List Str)(b:MS)(c:Str):Res D:=if hits.contains (clsOf c)=true then (match b (((List.replicate n Cl.no).set 1 (.im (.bl false))).set i (.im (.exc c))) with
 | .ok (.nx ρ)=>getC ρ[1]?
 | _=>.bad) else .bad
def refM(ix:List Nat)(me:ME)(r:Str->Res D):ME:=λρ=>match capI ρ ix with
 | some ds=>(match me (ds.map .im) with
  | .ex c=>r c
  | _=>.bad)
 | none=>.bad
end Dl
namespace L2
open PySem.W
section
variable    {fl:Addr} {Hx:Hp} {Rr:XK} {p epos:Pos}
def Zm1(hi:X.N[i]?=some x)(hv:Vis X.env.scope x)(hD:∀pins s σ,Inv X pins σ Hx s->FnAt fl s.heap/\codeAny (model X.prog X.w) X.A (.call (.ref fl) ⟨[],[]⟩) (CR (CXR X.prog X.w) X.stack X.prog X.w Hx s (λ_ _=>False) Rr) s)(hdx:(x==("__debug__" : Str))=false)(hcx:(x==("__classdict__" : Str))=false)(hsw:swapsWith (.Call (.Name x p) [] [] cpos) none epos.line X.env=pure false) :
  PB X [.Expr (.Call (.Name x p) [] [] cpos) epos] (λσ H _ XE=>σ[i]?=some (some (.ref fl))/\H=Hx/\∀cls p H',Rr cls p H'->XE cls p H'):=by
 intro pins s σ H N XE I ⟨hf,hH,hx⟩;subst hH;refine wpAny_execs_cons (wpAny_Expr_any ?_ I.quiet hsw);refine VaW ?_;refine Vav (ZbW (X:=X.nox) hi hv hdx hcx pins s σ H (λv H1=>v=.ref fl/\H1=H) (I.wish _) ⟨_,hf,rfl,rfl⟩) (λuv s1 ⟨v,H1,I1',r,hv1,hH1⟩=>?_) λ_ _ z=>z.elim;subst hv1 hH1;cases (show uv=Value.ref fl from r);have I1:=I1'.unwish;obtain ⟨fa,run⟩:=hD pins s1 σ I1;refine callWith_F0 fa (wpAny_call (VaV run λrr s' hq=>?_));cases rr with
 | ok fl =>
  cases fl with
  | ret v =>
   obtain ⟨_,_,_,_,_,_,_,q2⟩:=hq;exact False.elim q2
  | next=>exact False.elim hq
  | brk=>exact False.elim hq
  | cont=>exact False.elim hq
 | error ev =>
  obtain ⟨a,cls,p,H',rfl,Fl,py,kk⟩:=hq;exact ⟨s1,_,a,cls,p,H',rfl,I1,Fl,py,hx _ _ _ kk⟩
end
end L2
namespace L2.Ds
open PySem.W Dl
section
variable       {outer:List Env}   {fr f Cy:Addr}  {st:Stmt} {nm xd xf y n:Str} {NR:List Str}  {p1 p2 p3 q1 q2 q3 q4 q5 q6 q7 q8:Pos} {Rr:XK} {Q:VK}  {args:Args} {b0:Stmt} {suite:List Stmt} {ks:MS} {hits:List Str} {c:Str}  {Fz:Hp}
def Zg0(F:Fun K nm nm st fr fd)(S:Zag NR [xd] (Zac st))(hb:Zav st=[.Assign [.Name xf p1] (.Constant (.bool false) j p2) p3,.Try [.Expr (.Call (.Name xd q1) [] [] q2) q3] [.ExceptHandler (some (.Name y q4)) (some n) (b0::suite) q5] [] [] q6,.Return (some (.Name xf q7)) q8])(hr:Room (k+1) A)(e0:Env0 P w K mg base A outer s H)(hbi:BindsTo s fd args [(xd,.ref f)])(hmy:mg y=some (.ref Cy))(ly:(Zac st).names.lookup y=some .globalImplicit)(hs:∀cdv:Value,Room k (A.deeper (envOfC nm (Zac st) s.heap.objs.size fr cdv))->∃u:Addr->TS,∀a,DSs ((cxOf (CXR P w) P w K mg base NR nm (Zac st) fr cdv A outer s H E).inX a) E0 (b0::suite) (u a) ks) (hD:∀(cdv:Value) (pins:List (Addr×Obj)) (s1:Shared) (σ:St),Room k (A.deeper (envOfC nm (Zac st) s.heap.objs.size fr cdv))->Inv (cxOf (CXR P w) P w K mg base NR nm (Zac st) fr cdv A outer s H E) pins σ H s1 ->
   FnAt f s1.heap/\codeAny (model P w) (A.deeper (envOfC nm (Zac st) s.heap.objs.size fr cdv)) (.call (.ref f) ⟨[],[]⟩) (CR (CXR P w) (envOfC nm (Zac st) s.heap.objs.size fr cdv::outer) P w H s1 (λ_ _=>False) Rr) s1) (sF:Same Fz H) (hR:∀cls p H',Rr cls p H'->∃C F',cls=.ref C/\p=pay c/\mg (clsOf c)=some (.ref C)/\Gr Fz H F' H') (hit:∀c∈hits,∀C,mg c=some (.ref C)->exmOne K (.ref C) (.ref Cy)=some true) (ed:refR NR.length i hits ks c=.ok d) (hQ:∀F' H' v,Gr Fz H F' H'->Rp K mg F' v d->Q v H') (h0:NR[0]?=some xd) (h1:NR[1]?=some xf) (hin:NR[i]?=some n) (i0:i≠0) (i1:i≠1) (lf:(Zac st).names.lookup xf=some .local) (ld:(Zac st).names.lookup xd=some .local) (ln:(Zac st).names.lookup n=some .local) (d1:(xd==("__debug__" : Str))=false) (d2:(xd==("__classdict__" : Str))=false) (d3:(xf==("__debug__" : Str))=false) (d4:(xf==("__classdict__" : Str))=false) (d5:(y==("__debug__" : Str))=false) :
  codeAny (model P w) A (.call (.ref fr) args) (CR (CXR P w) outer P w H s Q E) s:=by
 obtain ⟨oc,od,kV,doc,pm,an,cdv,ct,osl,rfl,lk,hcd⟩:=F.ex;refine Zsq (us:=[.ref f]) (vs:=[.ref f]) lk hcd S hr e0 hbi (.cons rfl .nil) rfl λhr'=>?_;obtain ⟨u,hu⟩:=hs cdv hr';refine ⟨tSeq (tAsg (tC (.bl false)) (ZbT 1)) (tSeq (ZrK (λσ H1 _ XE=>σ[0]?=some (some (.ref f))/\H1=H/\∀cls p H',Rr cls p H'->XE cls p H') (λcls=>exmOne K cls (.ref Cy)=some true) i u) (tRet (tVar 1))),?_,?_⟩
 ·rw [hb];exact ZbU (Zjf S.nd h1 (.inl lf) Zp5 rfl (.inl rfl)) (ZbU (ZoR rfl rfl (Zm1 h0 (.inl ld) (λpins s1 σ I=>hD cdv pins s1 σ hr' I) d1 d2 rfl) ly hmy S.nd hin ln ln (λa=>(hu a).p) d5) (Zgv (Zjz (ZbW h1 (.inl lf) d3 d4))))
 ·have lN:1<NR.length:=(Vat.mp h1).1;have ls:(start NR [V.ref f]).length=NR.length:=by unfold start;simp;omega
  have s0:(start NR [V.ref f])[0]?=some (some (.ref f)):=rfl;have none_:∀(k:Nat) (c:Cl),(List.replicate NR.length Cl.no)[k]?=some c->c=.no:=λk c e=>by
   rw [Va1] at e;split at e
   ·exact (Vau e).symm
   ·cases e
  have r0:Rep K mg Fz H Fz H (start NR [V.ref f]) (List.replicate NR.length .no):=⟨.refl sF,by rw [ls,Va6],(λk d e=>by cases none_ k _ e),(λk ds e=>by cases none_ k _ e),λk l ds es a e=>by cases none_ k _ e⟩;have r1:=r0.set 1 (x:=.bl false) (.bl false);unfold refR at ed;by_cases hc:hits.contains (clsOf c)=true
  case neg=>rw [if_neg hc] at ed;cases ed
  rw [if_pos hc] at ed;refine ⟨by rw [ZaV (by decide)];exact s0,rfl,λcls p H' hr=>?_⟩;obtain ⟨C,F',rfl,rfl,hC,g⟩:=hR cls p H' hr;refine ⟨hit _ (by simpa using hc) C hC,λx dx hx hd=>?_⟩;obtain ⟨F3,gn,xc⟩:=Zr5 (cls:=.ref C) g.s hx hd;have z:=(hu x).s Fz H F3 _ _ _ (((r1.gr g).gr gn).set i (.exc hC xc));cases es:ks (((List.replicate NR.length Cl.no).set 1 (.im (.bl false))).set i (.im (.exc c))) with
  | bad=>rw [es] at ed;cases ed
  | ex c=>rw [es] at ed;cases ed
  | ok fl =>
   rw [es] at ed z;cases fl with
   | nx ρ2 =>
    have ed:getC ρ2[1]?=.ok d:=ed;refine z _ λF4 H4 σ4 s4 r4=>?_;cases e2:ρ2[1]? with
    | none=>rw [e2] at ed;cases ed
    | some cl =>
     rw [e2] at ed;cases cl with
     | im d' =>
      cases ed;obtain ⟨v,ev,rv⟩:=r4.im 1 d e2;exact ⟨v,by rw [ZaV i1];exact ev,hQ F4 H4 v r4.g rv⟩
     | no=>cases ed
     | ow _=>cases ed
   | bk _=>cases ed
   | ct _=>cases ed
   | rt _=>cases ed
end
def tZ(K:W.Frag)(mg:Str->Option Value)(Z:Tbs)(me:ME):TE:=λσ H Q=>∃F0 H0 F ρ d,Rep K mg F0 H0 F H σ ρ/\Tabs Z H0 F H/\me ρ=.ok d/\∀F' H' x,Same F F'->Rep K mg F0 H0 F' H' σ ρ->Tabs Z H0 F' H'->Rp K mg F' x d->Q x H'
def Ztd:SZe K mg Z (tZ K mg Z me) me:=by
 intro F0 H0 F H σ ρ rr tb;cases e:me ρ with
 | ok d=>exact λQ w=>⟨F0,H0,F,ρ,d,rr,tb,e,w⟩
 | ex c=>trivial
 | bad=>trivial
def Zi4{F:Hp}(rr:Rep K mg F0 H0 F H σ ρ):∀{ix:List Nat} {ds:List D},capI ρ ix=some ds->∃vs:List V,Rps K mg F vs ds/\vs.length=ix.length/\∀(k i:Nat) (v:V),ix[k]?=some i->vs[k]?=some v->σ[i]?=some (some v)
 | [],ds,e=>by cases e;exact ⟨[],.nil,rfl,λk i v e=>by simp at e⟩
 | j::r,ds,e=>by
  unfold capI at e;split at e
  ·next d ej =>
   cases er:capI ρ r with
   | none=>rw [er] at e;cases e
   | some es =>
    rw [er] at e;cases e;obtain ⟨vs,h1,h2,h3⟩:=Zi4 rr er;obtain ⟨v,hv,rv⟩:=rr.im j d ej;refine ⟨v::vs,.cons rv h1,Vax (·+1) h2,λk i v' e1 e2=>?_⟩;cases k with
    | zero=>cases e1;cases e2;exact hv
    | succ k=>exact h3 k i v' e1 e2
  ·cases e
def Zn8{F:Hp}(s:Same F H)(r:Rps K mg F vs ds):Rep K mg F H F H (vs.map some) (ds.map .im):=by
 have key:∀(k:Nat) (c:Cl),(ds.map Cl.im)[k]?=some c->∃d,c=.im d/\ds[k]?=some d:=λk c e=>by
  rw [Va3] at e;cases q:ds[k]? with
  | none=>rw [q] at e;cases e
  | some d=>rw [q] at e;cases e;exact ⟨d,rfl,rfl⟩
 refine ⟨.refl s,by rw [VaO,VaO];exact r.length,λk d e=>?_,λk es e=>?_,λk l es es' a e=>?_⟩
 ·obtain ⟨d',e1,e2⟩:=key k _ e;cases e1;obtain ⟨v,ev,rv⟩:=r.get e2;exact ⟨v,Zh1 ev,rv⟩
 ·obtain ⟨_,e1,_⟩:=key k _ e;cases e1
 ·obtain ⟨_,e1,_⟩:=key k _ e;cases e1
section
variable  {Z:Tbs} {Pt cc Cy:Addr} {st:Stmt} {nm xd xf y n:Str} {NR NL:List Str}  {ix:List Nat} {p1 p2 p3 q1 q2 q3 q4 q5 q6 q7 q8:Pos} {b0:Stmt} {suite:List Stmt} {ks:MS} {hits:List Str} {params:Arguments} {body:Expr}  {lsc:Scope} {cl:List (Str×Addr)} {lpos rp:Pos}
def Zfo(Dr:Def X.K X.mg nm st [xd])(S:Zag NR [xd] (Zac st))(hge:X.env.globals=mainGlobals)(hfn:∀x,X.fn x=true)(hb:Zav st=[.Assign [.Name xf p1] (.Constant (.bool false) j p2) p3,.Try [.Expr (.Call (.Name xd q1) [] [] q2) q3] [.ExceptHandler (some (.Name y q4)) (some n) (b0::suite) q5] [] [] q6,.Return (some (.Name xf q7)) q8])(hbr:∀(kV doc pm:Value) (an:Option Addr) (cdv ct:Value) (v:Value),bindArgs (W.fnOf nm nm (ZaY st) (Zav st) (Zac st) .none kV doc pm an cdv ct) ⟨[v],[]⟩=pure [(xd,v)])(hgr:Gl X nm)(hmy:X.mg y=some (.ref Cy))(ly:(Zac st).names.lookup y=some .globalImplicit)(hs:∀(fr:Addr) (cdv:Value) (A:Around) (outer:List Env) (s:Shared) (H:Hp) (E:XK),Room (k+2) (A.deeper (envOfC nm (Zac st) s.heap.objs.size fr cdv))->∃u:Addr->TS,∀a,DSs ((cxOf (CXR X.prog X.w) X.prog X.w X.K X.mg X.base NR nm (Zac st) fr cdv A outer s H E).inX a) E0 (b0::suite) (u a) ks)(hit:∀c∈hits,∃D,X.mg c=some (.ref D)/\exmOne X.K (.ref D) (.ref Cy)=some true)(hr:Room (k+3) X.A)(hd:defaultsOf params X.env=([],[]))(hcl:closureFor lsc X.env=pure cl)(sub:Zit X cl)(chk:Zlv lsc (cl.map (·.1)) NL=true)(lk:lsc.kind=.function)(lc:lsc.isCoroutine=false)(lgn:lsc.isGenerator=false)(hba:∀q pm c ctv,bindArgs (kla_fn "<lambda>" q params body lsc cl pm (.ref c) ctv) ⟨[],[]⟩=pure [])(hcode:X.env.code=.ref cc)(CH:CodeHd X.base cc Pt)(hB:X.base.BuiltinsAt X.mg Pt)(hgP:mainGlobals≠Pt)(hZ:(Pt,X.env.qual ++ "<lambda>")∈Z)(hZ1:∀z∈Z,z.1=Pt->z.2=X.env.qual ++ "<lambda>")(hbody:∀(f c:Addr) (A:Around) (outer:List Env) (s:Shared) (H:Hp) (E:XK),Room k (A.deeper (envX (X.env.qual ++ "<lambda>") lsc s.heap.objs.size f (.ref c) cl))->∃te,DE (ZkY (CXR X.prog X.w) X.prog X.w X.K X.mg X.base NL (X.env.qual ++ "<lambda>") lsc f (.ref c) cl A outer s H E) E body te me)(hix:∀(k:Nat) (n:Str),NL[k]?=some n->∃i,ix[k]?=some i/\X.N[i]?=some n/\X.env.scope.names.lookup n=some .cell)(hil:ix.length=NL.length)(h0:NR[0]?=some xd:=by rfl)(h1:NR[1]?=some xf:=by rfl)(hin:NR[i]?=some n:=by rfl)(i0:i≠0:=by decide)(i1:i≠1:=by decide)(lf:(Zac st).names.lookup xf=some .local:=by rfl)(ld:(Zac st).names.lookup xd=some .local:=by rfl)(ln:(Zac st).names.lookup n=some .local:=by rfl)(d1:(xd==("__debug__" : Str))=false:=by decide)(d2:(xd==("__classdict__" : Str))=false:=by decide)(d3:(xf==("__debug__" : Str))=false:=by decide)(d4:(xf==("__classdict__" : Str))=false:=by decide)(d5:(y==("__debug__" : Str))=false:=by decide)(d6:(nm==("__debug__" : Str))=false:=by decide)(he:starEach [.Lambda params body lsc lpos] X.env=[(false,eval (.Lambda params body lsc lpos) X.env)]:=by rfl) :
  DZe X Z (.Call (.Name nm rp) [.Lambda params body lsc lpos] [] pos) (tZ X.K X.mg Z (refM ix me (refR NR.length i hits ks))) (refM ix me (refR NR.length i hits ks)):=by
 refine ⟨λpins s σ H Q I h=>?_,Ztd⟩;obtain ⟨F0,H0,F,ρ,d,rr,tb,em,hq⟩:=h;obtain ⟨fr,fd,Fr,_,hmr⟩:=Dr.ex;have L:Zfc NL lsc cl:=Zr0 I.ok.inj lk lc lgn sub chk;have hsub:∀x a,cl.lookup x=some a->X.env.cells.lookup x=some a:=λx a e=>sub.mem (VaZ e);have hbi:∀(s:Shared) (v:Value),BindsTo s fd ⟨[v],[]⟩ [(xd,v)]:=by
  obtain ⟨oc,od,kV,doc,pm,an,cdv,ct,osl,rfl,_,_⟩:=Fr.ex;exact λs v=>.of_eq (hbr kV doc pm an cdv ct v)
 obtain ⟨hz0,fP,tps,hP,tg⟩:=tb _ hZ;unfold refM at em;cases ec:capI ρ ix with
 | none=>rw [ec] at em;cases em
 | some ds =>
 rw [ec] at em
 have em:(match me (ds.map .im) with
  | .ex c=>refR NR.length i hits ks c
  | _=>.bad)=.ok d:=em
 cases eb:me (ds.map .im) with
 | bad=>rw [eb] at em;cases em
 | ok d'=>rw [eb] at em;cases em
 | ex c =>
 rw [eb] at em;have em:refR NR.length i hits ks c=.ok d:=em;obtain ⟨vs,rvs,lvs,gvs⟩:=Zi4 rr ec;refine VaW (ZeI I hgr hmr ?_ d6);refine W.callWith_K (h₀:=X.base) I.ok.mod.kin Fr.kp ?_ he rfl;rw [he];refine VaT (ZmZ I hd hcl hge hcode CH hB hP hgP tg λfl c' ctv ps' H1 s1 M=>?_);refine Calls.spliced_nil ⟨M.inv.kIn,?_⟩;have I1:=M.inv;have sF1:Same F H1:=λb o e=>M.keep b o (λz=>by rw [z,fP] at e;cases e) (rr.ss b o e);have r1:Rep X.K X.mg F0 H0 F H1 σ ρ:=by
  refine ⟨⟨rr.g.f,sF1,λb o f h=>?_,rr.g.z⟩,rr.len,rr.im,λj ds e=>?_,rr.ne⟩
  ·obtain ⟨q1,q2⟩:=rr.g.o b o f h;exact ⟨q1,M.keep b o (λz=>by rw [z,hz0] at h;cases h) q2⟩
  ·obtain ⟨b,xs,e2,e4,e5,e3,hr⟩:=rr.ow j ds e;exact ⟨b,xs,e2,e4,e5,M.keep b _ (λz=>by rw [z,hP] at e3;cases e3) e3,hr⟩
 have t1:Tabs Z H0 F H1:=λz hz=>by
  obtain ⟨a0,af,ps,ah,ag⟩:=tb z hz;by_cases zp:z.1=Pt
  ·refine ⟨a0,af,ps',by rw [zp];exact M.tab,?_⟩;rw [hZ1 z hz zp];exact M.good
  ·exact ⟨a0,af,ps,M.keep _ _ zp ah,ag.upX λb φ e=>M.keep b _ (λw=>by rw [w,hP] at e;cases e) e⟩
 have off:∀x a,X.env.cells.lookup x=some a->a∉frs X.stack:=λx a e hm=>by
  rcases Vaq.mp (I1.stkSub a hm) with z | z
  ·exact I1.cne x a e z
  ·obtain ⟨_,o,ho,_⟩:=I1.ok.funs.mem z;exact absurd (Vad (Vac ho) (I1.ok.cab x a (hfn x) e)) (Vae _)
 have look:∀(t:Nat) (n:Str) (v:V),NL[t]?=some n->vs[t]?=some v->∃a u,cl.lookup n=some a/\RelV v u/\s1.heap.IsCell a (some u):=λt n v h1 h2=>by
  obtain ⟨i,e1,e2,e3⟩:=hix t n h1;have hsv:=gvs t i v e1 h2;obtain ⟨mm,hn,hl⟩:=I1.loc;obtain ⟨u,rv,lk⟩:=hl i n v e2 hsv (.inr (.inl e3));obtain ⟨a,ea⟩:=L.has n (L.free n (Va4 h1));have eb:=hsub n a ea;rcases lk with ⟨hk,_⟩ | ⟨_,c0,ec,ic⟩
  ·rw [show X.env.kindOf n=some .cell from e3] at hk;cases hk
  ·rw [eb] at ec;cases ec;exact ⟨a,u,ea,rv,ic⟩
 refine wpAny_call (VaV (Zg0 (f:=fl) (k:=k+2) (i:=i) (E:=λ_ _ _=>False) (Q:=Q) (Fz:=F) (c:=c) (d:=d) (hits:=hits) (Rr:=λcls p H'=>∃C F',cls=.ref C/\p=pay c/\X.mg (clsOf c)=some (.ref C)/\Gr F H1 F' H') Fr S hb hr I1.env0 (hbi _ _) hmy ly (λcdv hr2=>hs fr cdv _ _ _ _ _ hr2) (λcdv pins' s2 σ' hr2 I2=>?_) sF1 (λ_ _ _ z=>z) (λc0 hc0 C hC=>?_) em (λF' H' v g' rv=>hq F' H' v g'.f (r1.gr g') (t1.gr r1.ss g') rv) h0 h1 hin i0 i1 lf ld ln d1 d2 d3 d4 d5) λr s' hq'=>?_)
 ·have gf:=ZgZ I2.hok M.fn;refine ⟨⟨_,_,_,_,gf⟩,?_⟩;have ck:∀x a v,X.env.cells.lookup x=some a->s1.heap.IsCell a v->s2.heap.IsCell a v:=λx a v e ⟨o,ho,hdc⟩=>⟨o,I2.base.keep a o ho (I1.freeC x a e) (off x a e) (by intro z;cases z),hdc⟩;refine Zmo (k:=k) (vs:=vs) L (hr2.mono (by omega)) I2.env0 (by rw [lvs];exact hil) M.fn M.code (λn a e=>?_) (λt n v h1 h2=>?_) (hba _ _ _ _) λhr3=>?_
  ·obtain ⟨v,ic⟩:=I1.cell n a (hsub n a e);exact ⟨⟨v,ck n a v (hsub n a e) ic⟩,I1.freeC n a (hsub n a e)⟩
  ·obtain ⟨a,u,e1',e2',e3'⟩:=look t n v h1 h2;exact ⟨a,u,e1',e2',ck n a _ (hsub n a e1') e3'⟩
  ·obtain ⟨te,hde⟩:=hbody fl c' _ (envOfC nm (Zac st) s1.heap.objs.size fr cdv::X.stack) s2 H1 (λcls p H'=>∃C F',cls=.ref C/\p=pay c/\X.mg (clsOf c)=some (.ref C)/\Gr F H1 F' H') hr3;have z:=hde.s F H1 F H1 (vs.map some) (ds.map .im) (Zn8 sF1 rvs);rw [eb] at z;exact ⟨te,hde.p,z _ λF' H' C g hC=>⟨C,F',rfl,rfl,hC,g⟩⟩
 ·obtain ⟨D',hD',e'⟩:=hit c0 hc0;rw [hC] at hD';cases hD';exact e'
 ·cases r with
  | error e=>obtain ⟨_,_,_,_,_,_,_,z⟩:=hq';exact False.elim z
  | ok fl' =>
   cases fl' with
   | ret u=>exact I1.after hq'
   | next=>exact False.elim hq'
   | brk=>exact False.elim hq'
   | cont=>exact False.elim hq'
end
section
variable  {Z:Tbs}  {l:Nat} {st:Stmt} {rest as bs body:List Stmt} {t u u':TS} {m kk k':MS}   {sa:TT} {na:MB} {c' tg iter:Expr}  {upos p:Pos}
def Zbv(h:DS X E st t m):DZ X Z st t m:=⟨h.p,Zky h.s⟩
def ZjA(h:DSs X E rest t m):DZs X Z rest t m:=⟨h.p,Zky h.s⟩
def ZbZ(h:DZ X Z st t m):DZs X Z [st] t m:=⟨Zgv h.p,h.s⟩
def Za1(h:DZ X Z st t kk)(h':DZs X Z rest u k'):DZs X Z (st::rest) (tSeq t u) (sq kk k'):=⟨ZbU h.p h'.p,ZqG h.s h'.s⟩
def Zg2(h:DT X E c' sa na):DZt X Z c' sa na:=⟨h.p,Zl1 h.s⟩
def Zkn(h:DZe X Z e te me)(ht:∀whole,isTrue e X.env whole=(do let v <-whole;standAt (Expr.pos e);holding [v] (truthy v)):=by intro _;rfl):DZt X Z (.UnaryOp .Not e upos) (tNot (tB te)) (bNot (trb me)):=⟨Znw (ZnI h.p ht),Zo0 h.s⟩
def ZkH(hc:DZt X Z c' sa na)(ha:DZs X Z as u kk)(hb:DZs X Z bs u' k'):DZ X Z (.If c' as bs spos) (tIfS sa u u') (ifs na kk k'):=⟨Zpt hc.p ha.p hb.p,Ztm hc.s ha.s hb.s⟩
def ZrS(hp:PassesOwn (model X.prog X.w) X.A X.env X.xe)(hc:X.calm=true)(hi:DI X E tg iter wi mi)(hg:DG X 1000 tg g gm)(hb:DZs X Z body u kk)(hs:∀x,foldedSetIterable iter X.env x=pure x:=by intro _;rfl):DZ X Z (.For tg iter body [] spos) (tFor wi g u) (for_ mi gm kk):=⟨ZlI hp hc hi.p hg.p hb.p hs,Zr2 hi.s hg.s hb.s⟩
def Zi2(hN:X.N.Nodup)(hi:X.N[i]?=some x)(hx:Loc X.env.scope x)(h:DZe X Z e te me)(hs:swapsWith e (some (.Name x pos')) spos.line X.env=pure false:=by rfl)(hf:X.fn x=true\/X.env.scope.names.lookup x=some .local:=by first | exact .inl rfl | exact .inr rfl | assumption):DZ X Z (.Assign [.Name x pos'] e spos) (tAsg te (ZbT i)) (Dl.st i me):=⟨Zjf hN hi hx h.p hs hf,ZqC h.s⟩
def ZqX(h:DZe X Z e te me):DZ X Z (.Return (some e) spos) (tRet te) (Dl.ret me):=⟨Zjz h.p,Zqj h.s⟩
def Zjk{f:List D->Res D}{t:TA}{m:MA}(C:CalZ X.prog X.w X.K X.mg X.base Z k x ps f)(hr:Room l X.A)(hn:k<=l)(hg:Gl X x)(hx:Zbi (CXR X.prog X.w) X E)(ha:DA X E n (e::es) t m)(hps:ps.length=n:=by rfl)(hdb:(x==("__debug__" : Str))=false:=by decide)(he:starEach (e::es) X.env=(false,eval e X.env)::starEach es X.env:=by rfl)(hpl:(backTo pos (starEach es X.env)).any (·.1)=false:=by rfl) :
  DZe X Z (.Call (.Name x p) (e::es) [] pos) (ZeB (spZ X.K X.mg Z ps.length f) [] E t) (on f m):=by
 obtain ⟨g,fd,F,b,kp,hm⟩:=C.ex;exact ⟨Zgs F (hr.mono hn) hg hm kp b .nil hx ha.p hdb he hpl,ZmJ ha.s λρ ds z=>by rw [hps];exact ha.n ρ ds z⟩
end
section
variable       {px:Str} {cc Pt f:Addr} {Z:Tbs}
def _root_.L2.Def.calZ{st:Stmt}{mb:MS}(Df:Def K mg x st ps)(S:Zag N ps (Zac st))(hKb:K.In base)(hN:base.Ns mainGlobals mg)(htab:tabIn K x=some (cc,Pt))(h:∀(f:Addr) (A:Around) (outer:List Env) (s:Shared) (H:Hp) (E:XK),Room k (A.deeper (envOfC x (Zac st) s.heap.objs.size f (.ref cc)))->∃t,DZs (cxOf (CXR P w) P w K mg base N x (Zac st) f (.ref cc) A outer s H E) Z (Zav st) t mb) :
  CalZ P w K mg base Z (k+1) x ps (fn N.length mb):=by
 obtain ⟨f,fd,F,b,hm⟩:=Df.ex;refine ⟨⟨f,fd,?_,b,F.kp,hm⟩⟩;obtain ⟨oc,od,kV,doc,pm,an,cdv,ct,osl,rfl,lk,hcd⟩:=F.ex;have hcv:cdv=.ref cc:=law_code (o:=⟨oc,od,.func (W.fnOf x x (ZaY st) (Zav st) (Zac st) .none kV doc pm an cdv ct),osl⟩) hKb hN htab hm (hKb _ _ lk) rfl;subst hcv;refine Zix lk hcd S (λvs H Q E q=>q.1) λA outer s H vs Q E hr hsp=>?_;obtain ⟨t,hd⟩:=h f A outer s H E hr;refine ⟨t,hd.p,?_⟩;obtain ⟨_,F0,H0,ds,d,g0,rs,tb,ef,hq⟩:=hsp;have r0:Rep K mg F0 H0 F0 H (start N vs) (ev0 N.length ds):=by
  have r:=Zc0 (N:=N) g0.s rs
  exact ⟨g0,r.len,r.im,(λj es e=>by
   obtain ⟨b,xs,e2,e4,e5,e3,hr⟩:=r.ow j es e
   rw [e3] at e4;cases e4),r.ne⟩
 have z:=hd.s F0 H0 F0 H (start N vs) (ev0 N.length ds) r0 tb;unfold fn at ef;obtain ⟨fl,e1,e2⟩:=ZcB ef;rw [e1] at z;cases fl with
 | nx ρ=>cases e2;exact z _ λF' H' σ' _ r' t'=>hq F' H' .non r'.g t' .non
 | rt d=>cases e2;exact z _ λF' H' v g t' rv=>hq F' H' v g t' rv
 | bk ρ=>cases e2
 | ct ρ=>cases e2
def Zgl(K:W.Frag)(Z:Tbs):Sp:=λvs H Q _=>∃(a:Addr) (ns:List Int) (F:Hp),vs=[.ref a]/\Same F H/\(∀z∈Z,F z.1=none/\H z.1=some (.tbl #[]))/\SqL K F a (ns.map V.int)/\ns.length<=63/\∀H',Q (.bl true) H'
def okZ{st:Stmt}{mb:MS}(F:Fun K x x st f fd)(S:Zag N [px] (Zac st))(hKb:K.In base)(hN:base.Ns mainGlobals mg)(htab:tabIn K x=some (cc,Pt))(hm:mg x=some (.ref f))(h:∀(A:Around) (outer:List Env) (s:Shared) (H:Hp) (E:XK),Room k (A.deeper (envOfC x (Zac st) s.heap.objs.size f (.ref cc)))->∃t,DZs (cxOf (CXR P w) P w K mg base N x (Zac st) f (.ref cc) A outer s H E) Z (Zav st) t mb)(pure:∀ns:List Int,ns.length<=63->fn N.length mb [.lst (ns.map .int)]=.ok (.bl true)):FnOk P w K mg base (CXR P w) (k+1) f fd [px] (Zgl K Z):=by
 obtain ⟨oc,od,kV,doc,pm,an,cdv,ct,osl,rfl,lk,hcd⟩:=F.ex;have hcv:cdv=.ref cc:=law_code (o:=⟨oc,od,.func (W.fnOf x x (ZaY st) (Zav st) (Zac st) .none kV doc pm an cdv ct),osl⟩) hKb hN htab hm (hKb _ _ lk) rfl;subst hcv;refine Zix lk hcd S (λvs H Q E q=>by obtain ⟨a,ns,F,rfl,_⟩:=q;rfl) λA outer s H vs Q E hr hsp=>?_;obtain ⟨t,hd⟩:=h A outer s H E hr;refine ⟨t,hd.p,?_⟩;obtain ⟨a,is,F0,rfl,s0,ht,sq,hl,hQ⟩:=hsp;obtain ⟨Hc,c1,c2⟩ : ∃Hc:Hp,(∀z∈Z,Hc z.1=none)/\∀b o,Hc b=some o->H b=some o:=by
  classical
  refine ⟨λb=>if ∃z∈Z,z.1=b then none else H b,λz hz=>if_pos ⟨z,hz,rfl⟩,λb o e=>?_⟩
  dsimp only at e;split at e
  ·cases e
  ·exact e
 have r:=Zc0 (N:=N) s0 (show Rps K mg F0 [V.ref a] [.lst (is.map .int)] from .cons (.lst sq (Zjh is)) .nil)
 have r0:Rep K mg F0 Hc F0 H (start N [V.ref a]) (ev0 N.length [.lst (is.map .int)]):=⟨⟨Same.refl _,s0,λb o f h=>⟨f,c2 b o h⟩,λ_ _ _ h=>h⟩,r.len,r.im,(λj es e=>by
   obtain ⟨b,xs,e2,e4,e5,e3,hr⟩:=r.ow j es e
   rw [e3] at e4;cases e4),r.ne⟩
 have z:=hd.s F0 Hc F0 H _ _ r0 λz hz=>⟨c1 z hz,(ht z hz).1,#[],(ht z hz).2,.nil⟩;obtain ⟨fl,e1,e2⟩:=ZcB (pure is hl);rw [e1] at z;cases fl with
 | nx ρ=>cases e2
 | rt d=>cases e2;exact z _ λF' H' v g t' rv=>by cases rv;exact hQ H'
 | bk ρ=>cases e2
 | ct ρ=>cases e2
end
def ixC(N:List Str)(sc:Scope)(NL:List Str)(ix:List Nat):Bool:=(List.range NL.length).all λk=>match NL[k]?,ix[k]? with
 | some n,some i=>N[i]?==some n&&sc.names.lookup n==some .cell
 | _,_=>false
def Zlt{sc:Scope}{NL:List Str}{ix:List Nat}(h:ixC N sc NL ix=true):∀(k:Nat) (n:Str),NL[k]?=some n->∃i,ix[k]?=some i/\N[i]?=some n/\sc.names.lookup n=some .cell:=λk n e=>by
 have z:=Vbu.mp h k (Vai.mpr (Vat.mp e).1);rw [e] at z;cases q:ix[k]? with
 | none=>rw [q] at z;cases z
 | some i =>
  rw [q] at z;have z:(N[i]?==some n&&sc.names.lookup n==some .cell)=true:=z;rw [Vbf] at z;exact ⟨i,rfl,eq_of_beq z.1,eq_of_beq z.2⟩
end L2.Ds
namespace L2
open PySem.W L2.Ds
def Zk4{mb:Str->Option Value}{CX:CXT}{fa a:Addr}{Z:Tbs}{C:Addr->Addr}{s₁:Shared}{vs:List Value}{ns:List Int}(KX:K.In s₁.heap)(hns:s₁.heap.Ns mainGlobals mg)(hb:s₁.heap.Ns builtinsNs mb)(hbb:∀x:Str,x ≠ "__name__"->mb x=bootBuiltins x)(hlim:s₁.heap.NoLimit)(hg:s₁.gens=#[])(ha:s₁.heap.get? a=some { cls:=.type "list", data:=.seq vs.toArray })(hi:IntsAre vs ns)(hl:ns.length<=63)(hr:Room k callerA)(hZ:∀z∈Z,CodeHd s₁.heap (C z.1) z.1/\s₁.heap.get? z.1=some (tabObj #[])/\K.lookup z.1=none/\s₁.heap.BuiltinsAt mg z.1)(F:∀base:Heap,K.In base->base.Ns mainGlobals mg->(∀z∈Z,CodeHd base (C z.1) z.1/\base.BuiltinsAt mg z.1)->FnOk P w K mg base CX k fa fd [x] (Zgl K Z))(hbind:∀(s:Shared) (u:Value),BindsTo s fd ⟨[u],[]⟩ [(x,u)])(hCX:∀H e s',CX [] H s₁ (λ_ _ _=>False) e s'->False) :
  codeAny (model P w) callerA (.call (.ref fa) ⟨[.ref a],[]⟩) (λr s'=>r=.ok (.ret (.bool true))/\OldK s₁.heap s'.heap/\s'.os=s₁.os/\AllBare s'.gens) s₁:=by
 have rv:=ZfN hi;have lenV:=hi.length;have hl2:ns.length<=sizeLine:=Vaj hl (by decide);have hT:∀b,(∃z∈Z,z.1=b)->s₁.heap.get? b=some (tabObj #[]):=λb ⟨z,hz,e⟩=>e▸(hZ z hz).2.1;have naP:∀b,(∃z∈Z,z.1=b)->b≠a:=λb hb z=>by have:=hT b hb;rw [z,ha] at this;cases this
 have core:∀G:Hp,Only G->SqL K G a (ns.map V.int)->HOk P w G s₁.heap->(∀b,G b≠none->b=a)->(G a≠none->K.lookup a=none) ->
   codeAny (model P w) callerA (.call (.ref fa) ⟨[.ref a],[]⟩) (λr s'=>r=.ok (.ret (.bool true))/\OldK s₁.heap s'.heap/\s'.os=s₁.os/\AllBare s'.gens) s₁:=by
  intro G hO hS hokG hA hK;have gP:∀b,(∃z∈Z,z.1=b)->G b=none:=λb hb=>by
   cases q:G b with
   | none=>rfl
   | some u=>exact absurd (hA b (by rw [q];simp)) (naP b hb)
  obtain ⟨H,HP,HG⟩ : ∃H:Hp,(∀b,(∃z∈Z,z.1=b)->H b=some (.tbl #[]))/\∀b,¬(∃z∈Z,z.1=b)->H b=G b:=by
   classical
   exact ⟨λb=>if ∃z∈Z,z.1=b then some (.tbl #[]) else G b,λb h=>if_pos h,λb h=>if_neg h⟩
  have sG:Same G H:=λb o e=>by rw [HG b λh=>by rw [gP b h] at e;cases e];exact e
  have hok:HOk P w H s₁.heap:=λb u e=>by
   by_cases z:∃z∈Z,z.1=b
   ·rw [HP b z] at e;cases e;exact hT b z
   ·rw [HG b z] at e;exact (hokG b u e).stay (λ_ _ _ q=>q) (λc q=>sG c _ q) λc xs q=>sG c _ q
  have none_of:∀b,¬(∃z∈Z,z.1=b)->b≠a->H b=none:=λb n1 n2=>by
   rw [HG b n1];cases q:G b with
   | none=>rfl
   | some u=>exact absurd (hA b (by rw [q];simp)) n2
  have base_of:∀{b:Addr} {o:Obj},s₁.heap.get? b=some o->H b=none->(hidT s₁.heap H).get? b=some o:=λe n=>Zl2 e n;have noA:∀{b:Addr} {o:Obj} {es:Array DictEntry} {ep:Nat},s₁.heap.get? b=some o->o.data=.dict es ep->H b=none:=λ{b o es ep} e d=>by
   refine none_of b (λz=>?_) λz=>?_
   ·rw [hT b z] at e;cases e;cases d
   ·subst z;rw [ha] at e;cases e;cases d
  have nsK:∀{b:Addr} {m:Str->Option Value},s₁.heap.Ns b m->(hidT s₁.heap H).Ns b m:=λ{b m} ⟨o,es,ep,e,d,r⟩=>⟨o,es,ep,base_of e (noA e d),d,r⟩
  have hKb:K.In (hidT s₁.heap H):=λb o e=>base_of (KX b o e) (by
   by_cases z:∃z∈Z,z.1=b
   ·obtain ⟨z,hz,rfl⟩:=z;rw [(hZ z hz).2.2.1] at e;cases e
   ·rw [HG b z];cases q:G b with
    | none=>rfl
    | some u =>
     have e':b=a:=hA b (by rw [q];simp);subst e'
     rw [hK (by rw [q];simp)] at e;cases e)
  have hZb:∀z∈Z,CodeHd (hidT s₁.heap H) (C z.1) z.1/\(hidT s₁.heap H).BuiltinsAt mg z.1:=λz hz=>by
   obtain ⟨hC,hPt,_,hB⟩:=hZ z hz;refine ⟨?_,?_⟩
   ·obtain ⟨o,us,file,tf,flags,tg,inF,text,tt,e1,e2,r⟩:=hC;refine ⟨o,us,file,tf,flags,tg,inF,text,tt,base_of e1 (none_of (C z.1) (λq=>?_) λq=>?_),e2,r⟩
    ·rw [hT _ q] at e1;cases e1;exact absurd e2 (by intro z;cases z)
    ·rw [q,ha] at e1;cases e1;exact absurd (show Value.type "list"=Value.type "code" from e2) (by decide)
   ·obtain ⟨bm,o,b1,b2,b3,b4,b5,b6⟩:=hB;refine ⟨bm,o,b1,b2,b3,b4,base_of b5 (none_of bm (λq=>?_) λq=>?_),b6⟩
    ·rw [hT _ q] at b5;cases b5;exact absurd b6.1 (by intro z;cases z)
    ·rw [q,ha] at b5;cases b5;exact absurd (show Value.type "list"=Value.type "module" from b6.1) (by decide)
  have hM:Mod K mg (hidT s₁.heap H):=⟨hKb,nsK hns,⟨mb,nsK hb,hbb⟩,let ⟨mc,h1,h2⟩:=hlim;⟨mc,nsK h1,h2⟩⟩;have e0:Env0 P w K mg (hidT s₁.heap H) callerA [] s₁ H:=⟨rfl,hM,λb o e=>Zpw e,Nat.le_of_eq (Zlq _ _),trivial,λb hb=>absurd (show b∈([]:List Addr) from hb) (by simp),hok,.of_eq hg⟩;refine VaV ((F _ hKb (nsK hns) hZb).run callerA [] s₁ H ⟨[.ref a],[]⟩ [.ref a] [.ref a] (λv _=>v=.bl true) (λ_ _ _=>False) hr e0 (hbind s₁ (.ref a)) (.cons rfl .nil) ⟨a,ns,G,rfl,sG,λz hz=>⟨gP _ ⟨z,hz,rfl⟩,HP _ ⟨z,hz,rfl⟩⟩,hS,hl,λ_=>rfl⟩) λr s' h=>?_;cases r with
  | error e=>exact (hCX H e s' h).elim
  | ok fl =>
   cases fl with
   | next=>exact False.elim h
   | brk=>exact False.elim h
   | cont=>exact False.elim h
   | ret u =>
    obtain ⟨v,H',os,bare,un,hok',r',q⟩:=h;have q':v=.bl true:=q;subst q';obtain rfl:u=Value.bool true:=r';have tabs:∀b,(∃z∈Z,z.1=b)->∃more,s'.heap.get? b=some (tabObj (#[]++more)):=λb hb=>by
     obtain ⟨more,hm⟩:=un.tbls b #[] (HP b hb);exact ⟨more,hok' b _ hm⟩
    have keep:∀b o,¬(∃z∈Z,z.1=b)->s₁.heap.get? b=some o->s'.heap.get? b=some o:=λb o nb e=>by
     cases q:H b with
     | none=>exact un.keep b o e q (by intro z;exact absurd (show b∈([]:List Addr) from z) (by simp)) (by simp)
     | some u =>
      rw [HG b nb] at q;rcases hO b with z | ⟨ob,xs,z⟩
      ·rw [q] at z;cases z
      ·have z1:H b=some (.frz ob (.lst xs)):=by rw [HG b nb];exact z
       have z2:=un.frzs b ob _ z1;obtain ⟨e1,_⟩:=hok b _ z1;obtain ⟨e2,_⟩:=hok' b _ z2;rw [e] at e1;cases e1;exact e2
    refine ⟨rfl,⟨λb o e=>?_,λb o e=>?_⟩,os,bare⟩
    ·by_cases z:∃z∈Z,z.1=b
     ·obtain ⟨more,hP2⟩:=tabs b z;rw [hT b z] at e;cases e;obtain ⟨z,hz,rfl⟩:=z;exact .inr (.inl ⟨((hZ z hz).1.tab (hZ z hz).2.1).isCodeTable,rfl,#[],more,rfl,hP2⟩)
     ·exact .inl (keep b o z e)
    ·by_cases z:∃z∈Z,z.1=b
     ·obtain ⟨more,hP2⟩:=tabs b z;exact ⟨_,hP2⟩
     ·exact ⟨o,keep b o z e⟩
 cases hk:K.lookup a with
 | some o =>
  have e:=KX a o hk;rw [ha] at e;cases e;refine core (λ_=>none) (λ_=>.inl rfl) (.inr ⟨_,vs.toArray,_,hk,rfl,rfl,rfl,by rw [Va7,lenV];exact hl2,by simpa using rv⟩) (λb u z=>by have z':(none:Option HO)=some u:=z;cases z') (λb z=>absurd rfl z) λz=>absurd rfl z
 | none =>
  refine core (λb=>if b=a then some (.frz { cls:=.type "list", data:=.seq vs.toArray } (.lst (ns.map V.int))) else none) (λb=>?_) (.inl (.inr ⟨{ cls:=.type "list", data:=.seq vs.toArray },if_pos rfl⟩)) (λb u z=>?_) (λb z=>?_) λ_=>hk
  ·by_cases hb:b=a
   ·exact .inr ⟨_,_,if_pos hb⟩
   ·exact .inl (if_neg hb)
  ·by_cases hb:b=a
   ·have z':=(if_pos hb).symm.trans z;cases z';subst hb;exact ⟨ha,by rw [VaO];exact hl2,vs,_,rv,ha⟩
   ·have z':=(if_neg hb).symm.trans z;cases z'
  ·by_cases hb:b=a
   ·exact hb
   ·exact absurd (if_neg hb) z
def ZqW{l:W.OpenLaw}{q:Program}{loose:List Str}{XP:(Str->Option Value)->Heap->Prop}{YP:World->Heap->Prop}{d:DefRec}{K:Params->W.Frag}{CX:World->CXT}{Z:Tbs}{C:Addr->Addr}(hn:l.most=some 63)(hdf:d.params.defaults=[])(hr:Room k callerA)(hY:∀(w:World) (h:Heap),YP w h->(K w.params).In h)(hT:∀z∈Z,∃nm,((recsOf q).find? (λe=>e.name==nm)).isSome=true/\∀w:World,tabIn (K w.params) nm=some (C z.1,z.1)/\(K w.params).lookup z.1=none) (F:∀(w:World) (mg:Str->Option Value) (fa:Addr) (h:Heap),(K w.params).In h->h.Ns mainGlobals mg->mg d.name=some (.ref fa) ->
   ∃fd:FuncData,(∀(s:Shared) (u:Value),BindsTo s fd ⟨[u],[]⟩ [(x,u)]) /\
    ∀base:Heap,(K w.params).In base->base.Ns mainGlobals mg->(∀z∈Z,CodeHd base (C z.1) z.1/\base.BuiltinsAt mg z.1)->FnOk l.prog w (K w.params) mg base (CX w) k fa fd [x] (Zgl (K w.params) Z)) (hCX:∀(w:World) (H:Hp) (s:Shared) (e:Value) (s':Shared),CX w [] H s (λ_ _ _=>False) e s'->False) :
  W.WalkO q loose XP YP l.row.toRowW d [] (λf vs=>PySem.call f vs):=by
 refine Att.ZiK hn hdf λw s₀ s₁ mg mb fa o pm cd doc a vs ns G Y ho hd hcd hmg hobj hints hlen hg=>?_;have KX:=hY w _ Y;obtain ⟨fd,hb,hF⟩:=F w mg fa _ KX G.T.g hmg;refine Zk4 (C:=C) KX G.T.g G.T.b G.T.builtins G.T.nolimit hg hobj hints hlen hr (λz hz=>?_) hF hb λH e s'=>hCX w H s₁ e s';obtain ⟨nm,hrec,htab⟩:=hT z hz;obtain ⟨d2,hd2⟩:=Option.isSome_iff_exists.mp hrec;obtain ⟨hC,hPt⟩:=tab_of G.T KX hd2 (htab w).1;refine ⟨hC,hPt,(htab w).2,?_⟩;obtain ⟨bm,ob,b1,b2,b3,b4,b5,b6⟩:=G.T.bmain;refine ⟨bm,ob,b1,b2,λy=>?_,λy=>?_,b3,b4,b5,b6⟩
 ·obtain ⟨o',es,ep,e,hd',_⟩:=G.T.g;rw [y,e] at b3;cases b3;rw [hd'] at b6;cases b6
 ·rw [y,hPt] at b3;cases b3;cases b4
end L2
namespace Dl
def insI(p:Int):List Int->List Int
 | []=>[p]
 | q::r=>if p<=q then p::q::r else q::insI p r
def sortI:List Int->List Int
 | []=>[]
 | p::r=>insI p (sortI r)
def ZlB:List D->Res D
 | [.lst ds]=>(ZgT ds).bind λns=>if ds.length<64 then .ok (.lst ((sortI ns).map .int)) else .bad
 | _=>.bad
def bLR:List D->Res D
 | [.int n]=>if 0<=n/\n<=10000 then .ok (.lst ((List.range n.toNat).map λk:Nat=>D.int (k:Int))) else .bad
 | _=>.bad
def insI_perm(p):∀l,(insI p l).Perm (p::l)
 | []=>.refl _
 | q::r=>by
  unfold insI;split
  ·exact .refl _
  ·exact ((insI_perm p r).cons q).trans (.swap p q r)
def sortI_perm:∀l,(sortI l).Perm l
 | []=>.refl _
 | p::r=>(insI_perm p _).trans ((sortI_perm r).cons p)
def Zjl:∀{l:List Int},l.Pairwise (·<=·)->(insI p l).Pairwise (·<=·)
 | [],_=>List.pairwise_singleton _ _
 | q::r,h=>by
  have h':=VbW.mp h;unfold insI;split
  ·next c =>
   refine VbW.mpr ⟨λx hx=>?_,h⟩;rcases Vaq.mp hx with rfl | hx
   ·exact c
   ·exact Int.le_trans c (h'.1 x hx)
  ·next c =>
   refine VbW.mpr ⟨λx hx=>?_,Zjl h'.2⟩;rcases Vaq.mp ((insI_perm p r).mem_iff.mp hx) with rfl | hx
   ·omega
   ·exact h'.1 x hx
def ZhQ:∀l,(sortI l).Pairwise (·<=·)
 | []=>List.Pairwise.nil
 | _::r=>Zjl (ZhQ r)
def Zja:∀{l m:List Int},l.Perm m->l.Pairwise (·<=·)->m.Pairwise (·<=·)->l=m
 | [],m,hp,_,_=>(List.Perm.eq_nil hp.symm).symm
 | a::r,[],hp,_,_=>absurd hp.length_eq (by simp)
 | a::r,b::t,hp,h1,h2=>by
  have g1:=VbW.mp h1;have g2:=VbW.mp h2;have e:a=b:=by
   have ha:a∈b::t:=hp.mem_iff.mp Van;have hb:b∈a::r:=hp.mem_iff.mpr Van;rcases Vaq.mp ha with e | ha
   ·exact e
   ·rcases Vaq.mp hb with e | hb'
    ·exact e.symm
    ·have z1:=g1.1 b hb';have z2:=g2.1 a ha;omega
  subst e;rw [Zja (List.Perm.cons_inv hp) g1.2 g2.2]
end Dl
namespace L2
def Znk(K:W.Frag):List V->Hp->VK->Prop:=λvs H Q=>∃l ns,vs=[.ref l]/\SqL K H l (ns.map V.int)/\ns.length<64/\∀D,H D=none->Q (.ref D) (upd H D (.lst ((Dl.sortI ns).map V.int)))
def Zib:∃n,(sortedAll h vs out).get? (h.objs.size+1)=some { cls:=.type "list", data:=.seq out n }:=by
 have hsz:((h.push (seqObj "list" #[] 0)).update h.objs.size (Obj.mapSeq (·++vs.toArray))).objs.size=h.objs.size+1:=by
  rw [Vb0,size_push']
 have hoL:(((h.push (seqObj "list" #[] 0)).update h.objs.size (Obj.mapSeq (·++vs.toArray))).push (seqObj "list" vs.toArray 0)).get? (h.objs.size+1)=some (seqObj "list" vs.toArray 0):=by
  rw [<-hsz];exact VaG _ rfl
 have ha:=Vac hoL;unfold sortedAll sortedHeap;generalize ((h.push (seqObj "list" #[] 0)).update h.objs.size (Obj.mapSeq (·++vs.toArray))).push (seqObj "list" vs.toArray 0)=g at *;generalize h.objs.size+1=a at *;obtain ⟨e1,ho1⟩ : ∃e1,(g.update a (Obj.mapSeq λ_=>#[])).get? a=some (seqObj "list" #[] e1):=⟨_,get?_update_seq hoL (λ_=>#[])⟩;have ho6:(((g.update a (Obj.mapSeq λ_=>#[])).push (seqObj "tuple" vs.toArray 0)).push (seqObj "list" #[] 0)).get? a=some (seqObj "list" #[] e1):=by
  rw [Vb1 _ _ _ (by rw [size_push',Vb0];exact Vaf (Vbq ha)),Vb1 _ _ _ (by rw [Vb0];exact Vaf ha)];exact ho1
 exact ⟨_,get?_update_seq ho6 (λ_=>out)⟩
def ZhC(q:h.get? b=some o):(sortedAll h vs out).get? b=some o:=by
 have hb:=Vac q;have hsz:((h.push (seqObj "list" #[] 0)).update h.objs.size (Obj.mapSeq (·++vs.toArray))).objs.size=h.objs.size+1:=by
  rw [Vb0,size_push']
 have n1:b≠h.objs.size:=Vaf hb;have n2:b≠h.objs.size+1:=Vaf (Vbq hb);unfold sortedAll sortedHeap;rw [Heap.get?_update_ne _ _ _ _ n2,Vb1 _ _ _ (by rw [size_push',Vb0,size_push',hsz];exact Vaf (Vbq (Vbq (Vbq hb)))),Vb1 _ _ _ (by rw [Vb0,size_push',hsz];exact Vaf (Vbq (Vbq hb))),Heap.get?_update_ne _ _ _ _ n2,Vb1 _ _ _ (by rw [hsz];exact n2),Heap.get?_update_ne _ _ _ _ n1,Vb1 _ _ _ n1];exact q
def Zjw:∀{ns:List Int} {its:List Value},Vals (ns.map V.int) its->IntsAre its ns
 | [],_,.nil=>.nil
 | n::r,_,.cons h t=>by
  obtain ⟨tk,rfl⟩:=h;exact .cons n tk (Zjw t)
section
def ZjC:Zc1 X (.builtin "sorted") (Znk X.K):=by
 intro pins s σ H vs us Q I rv ⟨l,ns,e,hl,hn,hq⟩;subst e;cases rv with
 | cons r1 rr =>
  cases rr;cases r1;obtain ⟨its,r,⟨o,n,e1,e2,_,e3⟩,_⟩:=I.list hl;have hlen:its.length=ns.length:=by have:=r.length;rw [VaO] at this;exact this.symm
  refine sorted_ints (vs:=its) ⟨o,e1,e2,n,e3⟩ (Zjw r) (by omega) λout ns' hi hp hs=>?_;have ens:ns'=Dl.sortI ns:=Dl.Zja (hp.trans (Dl.sortI_perm ns).symm) hs (Dl.ZhQ ns);subst ens;obtain ⟨c,hc⟩:=Zib (h:=s.heap) (vs:=its) (out:=out);have hv:Vals ((Dl.sortI ns).map V.int) out.toList:=ZfN hi;have hl2:((Dl.sortI ns).map V.int).length<=sizeLine:=by rw [VaO,hp.length_eq,sizeLine_eq];omega
  have I':=I.laid (a:=s.heap.objs.size+1) (t':=s.toks) (o:=.lst ((Dl.sortI ns).map V.int)) (h':=sortedAll s.heap its out) (λb u e=>ZhC e) (Nat.le_succ _) ⟨hl2,out.toList,c,hv,by rw [Array.toArray_toList];exact hc⟩;exact ⟨.ref (s.heap.objs.size+1),_,I',rfl,hq _ (I.hok.fresh (Nat.le_succ _))⟩
def tLR(ta:TA):TE:=λσ H Q=>ta σ H λvs H1=>∃n:Nat,vs=[.int n]/\n<=10000/\∀S,H1 S=none->Q (.ref S) (upd H1 S (.lst ((List.range n).map λk:Nat=>V.int (k:Int))))
def Zs7(hc:X.calm=true)(hg:Gl X "range")(hm:X.mg "range"=none)(hgl:Gl X "list")(hml:X.mg "list"=none)(ha:PA X [a] ta)(hs:starEach [a] X.env=[(false,eval a X.env)]:=by rfl)(hs3:starEach [.Call (.Name "range" np) [a] [] pos] X.env=(false,eval (.Call (.Name "range" np) [a] [] pos) X.env)::starEach [] X.env:=by rfl) :
  PE X (.Call (.Name "list" lp) [.Call (.Name "range" np) [a] [] pos] [] pos') (tLR ta):=by
 intro pins s σ H Q I h;refine Call_ (Zdt I hgl hml Zh9 (VaI ?_ hs3 rfl));rw [hs3];show wpAny _ _ (spliced ((false,eval (.Call (.Name "range" np) [a] [] pos) X.env)::backTo pos' (starEach [] X.env))) _ _ s;refine VaT ?_;refine Call_ (Zdt I hg hm boot_range (VaI (thn (ha pos pins s σ H _ I h) λus s1 ⟨vs,H1,I1,r1,q1⟩=>?_) hs rfl));obtain ⟨n,e,hn,q⟩:=q1;subst e;cases r1 with
 | cons r rr =>
  cases rr;obtain ⟨t,rfl⟩:=r;refine call_range_1 ?_;refine Calls.spliced_nil ?_;have I2:Inv X pins σ H1 { s1 with heap:=s1.heap.push { cls:=.type "range", data:=.fields #[.int 0 s1.toks,.int n t,.int 1 (s1.toks+1)] },toks:=s1.toks+1+1 }:=I1.kept λb o e=>VaF _ e
  refine call_list_range (n:=n) (I2.ok.hd hc) (IsRange.new ..) (small_one (by omega) (by omega) (by omega) (by omega)) (by rw [rangeSize_one];split<;>omega) (Vaj hn (by decide)) λh' tk acc c hk hD hI=>?_;have hv:Vals ((List.range n).map λk:Nat=>V.int (k:Int)) acc.toList:=by
   have key:∀(l:List Value) (j m:Nat),l.length=m->(∀(i:Nat) (v:Value),l[i]?=some v->∃t,v=Value.int ((j+i:Nat):Int) t)->Vals ((List.range' j m).map λk:Nat=>V.int (k:Int)) l:=by
    intro l
    induction l with
    | nil=>intro j m e _;cases e;exact .nil
    | cons v l ih =>
     intro j m e hv;cases e;obtain ⟨t,ht⟩:=hv 0 v rfl;refine .cons ⟨t,ht⟩ (ih (j+1) _ rfl λi v' hv'=>?_);obtain ⟨t',ht'⟩:=hv (i+1) v' hv';exact ⟨t',by rw [ht',show j+(i+1)=j+1+i by omega]⟩
   rw [List.range_eq_range'];refine key acc.toList 0 n (by rw [Vaw];exact hI.1) λi v hv=>?_;obtain ⟨t',ht'⟩:=hI.2 i v (by rw [<-hv,VbY]);exact ⟨t',by rw [ht'];congr 1;omega⟩
  have I':=I2.laid (t':=tk) (o:=.lst ((List.range n).map λk:Nat=>V.int (k:Int))) hk (VaH _) ⟨by rw [VaO,List.length_range,sizeLine_eq];omega,acc.toList,c,hv,by rw [Array.toArray_toList];exact hD⟩;exact ⟨.ref _,_,I',rfl,q _ (I2.hok.fresh (VaH _))⟩
end
end L2
namespace L2.Ds
open Dl
section
variable     {a:Expr}  {t:TA} {m:MA} {lp p:Pos}
def Zgt{F:Hp}:∀ns:List Int,Rps K mg F (ns.map V.int) (ns.map D.int)
 | []=>.nil
 | n::r=>.cons (.int n) (Zgt r)
def ZiC:CallD K mg (Znk K) ZlB:=by
 intro E F H xs ds s rs;unfold ZlB;split
 ·next es =>
  obtain ⟨x,rfl,rx⟩:=rs.one;cases rx with
  | @lst l zs _ h r =>
   cases e:ZgT es with
   | bad=>trivial
   | ex c=>exact absurd e (ZkG es)
   | ok ns =>
    show Ans mg E (Rp K mg) F H (if es.length<64 then _ else _) _
    by_cases hl:es.length<64
    case neg=>rw [if_neg hl];trivial
    rw [if_pos hl];have ez:=Zk7 r e;subst ez;have ln:ns.length=es.length:=by have:=r.length;rwa [VaO] at this
    exact Zfi s (λp hp=>.lst (SqL.of Zaf) (Zgt _)) λQ q=>⟨l,ns,rfl,s.seq h,by omega,q⟩
 ·trivial
def ycM(hcm:X.calm=true)(hg:Gl X "range")(hm:X.mg "range"=none)(hgl:Gl X "list")(hml:X.mg "list"=none)(ha:DA X E n [a] t m)(hs:starEach [a] X.env=[(false,eval a X.env)]:=by rfl)(hs3:starEach [.Call (.Name "range" p) [a] [] pos] X.env=(false,eval (.Call (.Name "range" p) [a] [] pos) X.env)::starEach [] X.env:=by rfl) :
  DE X E (.Call (.Name "list" lp) [.Call (.Name "range" p) [a] [] pos] [] pos') (tLR t) (on bLR m):=by
 refine ⟨Zs7 hcm hg hm hgl hml ha.p hs hs3,?_⟩;intro F0 H0 F H σ ρ rr;refine (ha.s F0 H0 F H σ ρ rr).bind (w':=λvs H1 Q=>∃n:Nat,vs=[V.int n]/\n<=10000/\∀S,H1 S=none->Q (V.ref S) (upd H1 S (.lst ((List.range n).map λk:Nat=>V.int (k:Int))))) λF1 H1 xs ds g1 rs=>?_;unfold bLR;split
 ·next z =>
  by_cases hz:0<=z/\z<=10000
  case neg=>rw [if_neg hz];trivial
  rw [if_pos hz];obtain ⟨x,rfl,rx⟩:=rs.one;cases rx;refine Zfi (o:=.lst ((List.range z.toNat).map λk:Nat=>V.int (k:Int))) g1.s (λp hp=>.lst (SqL.of Zaf) ?_) λQ q=>⟨z.toNat,by rw [Int.toNat_of_nonneg hz.1],by omega,q⟩;have:=Zgt (K:=X.K) (mg:=X.mg) (F:=upd F1 p (.lst ((List.range z.toNat).map λk:Nat=>V.int (k:Int)))) ((List.range z.toNat).map λk:Nat=>(k:Int));rw [VbH,VbH] at this;exact this
 ·trivial
end
end L2.Ds
namespace Dl
def Sm(k:Nat)(x:Int):Prop:=x.natAbs<2^k
def Sm.of64{x:Int}(h1:-18446744073709551616<x)(h2:x<18446744073709551616):Sm 64 x:=by
 unfold Sm;have:(2:Nat)^64=18446744073709551616:=by decide
 omega
def Zpl{a b:Int}(h:Sm 64 a):Zf5 a b=true:=by
 unfold Zf5;rw [Vbm (show a.natAbs<2^64 from h)];rfl
def ZpV{a b:Int}(h:Sm 64 b):Zf5 a b=true:=by
 unfold Zf5;rw [Vbm (show b.natAbs<2^64 from h)];simp
def ZpF{a b:Int}(h:Zf5 a b=true):iMul a b=.ok (.int (a*b)):=by unfold iMul;rw [if_pos h]
def ZmH{a b:Int}(h:0<b):iMod a b=.ok (.int (a%b)):=by unfold iMod;rw [if_pos h]
def ZmI{a b:Int}(h:0<b)(hl:b.natAbs.log2<9000):iDiv a b=.ok (.int (a/b)):=by unfold iDiv;rw [if_pos hl,if_pos h]
def Zpk{a b:Int}(h0:0<=b)(h1:b<=1000000)(h2:a.natAbs<2^64):iShl a b=.ok (.int (a*2^b.toNat)):=by unfold iShl;rw [if_pos ⟨h0,h1,h2⟩]
def Zn4{a b:Int}(h0:0<=b):iShr a b=.ok (.int (a/2^b.toNat)):=by unfold iShr;rw [if_pos h0]
def Zp1(a b:Int):dEq (.int a) (.int b)=.ok (.bl (decide (a=b))):=by
 show Res.ok (D.bl (a==b))=_;rw [Bool.beq_eq_decide_eq]
def Zou(a b:Int):dNe (.int a) (.int b)=.ok (.bl (!decide (a=b))):=by
 show Res.ok (D.bl (!(a==b)))=_;rw [Bool.beq_eq_decide_eq]
def Zls(xs:List D)(i:Int):dIx (.lst xs) (.int i)=ofO (at_ xs i):=rfl
def ZlU(xs:List D):bLen [.lst xs]=.ok (.int xs.length):=rfl
def Zms(i j:Int):bMax [.int i,.int j]=.ok (.int (max i j)):=by
 show Res.ok (D.int (if j>i then j else i))=_
 have:(if j>i then j else i)=max i j:=by split<;>omega
 rw [this]
def ZmQ(i j:Int):bMin [.int i,.int j]=.ok (.int (min i j)):=by
 show Res.ok (D.int (if j<i then j else i))=_
 have:(if j<i then j else i)=min i j:=by split<;>omega
 rw [this]
def Zo7{j:Int}(h0:-1000000000<=j)(h1:j<=1000000000):rng1 [.int j]=.ok (ZbG 0 j.toNat):=by
 show (if -1000000000<=j/\j<=1000000000 then Res.ok (ZbG 0 j.toNat) else .bad)=_
 rw [if_pos ⟨h0,h1⟩]
def Zps{g:MG}{b:MS}(I:Ev->Prop)(xs:List D)(h:∀x∈xs,∀ρ,I ρ->∃ρ1 ρ2,g x ρ=.ok ρ1/\b ρ1=.ok (.nx ρ2)/\I ρ2):∀ρ,I ρ->∃ρ',ZcV g b xs ρ=.ok (.nx ρ')/\I ρ':=by
 induction xs with
 | nil=>exact λρ i=>⟨ρ,rfl,i⟩
 | cons x r ih =>
  intro ρ i;obtain ⟨ρ1,ρ2,h1,h2,i2⟩:=h x Van ρ i;obtain ⟨ρ',h3,i3⟩:=ih (λy hy=>h y (Vao _ hy)) ρ2 i2;refine ⟨ρ',?_,i3⟩;show (g x ρ).bind (λρ1=>(b ρ1).bind (turn (ZcV g b r)))=_;rw [h1];show (b ρ1).bind (turn (ZcV g b r))=_;rw [h2];exact h3
def Ziy(g:MG)(t:MB)(e:ME)(ρ:Ev)(x:D)(r:List D):Zan g t e ρ (x::r)=(g x ρ).bind λρ1=>(t ρ1).bind λb=>if b=true then (e ρ1).bind λy=>(Zan g t e ρ r).bind λys=>.ok (y::ys) else Zan g t e ρ r:=rfl
def ZiN{g:MG}{e:ME}{ρ:Ev}(P:D->D->Prop):∀xs:List D,(∀x∈xs,∃ρ1 y,g x ρ=.ok ρ1/\e ρ1=.ok y/\P x y)->∃ys,Zan g yes e ρ xs=.ok ys/\ys.length=xs.length/\∀(i:Nat) x y,xs[i]?=some x->ys[i]?=some y->P x y
 | [],_=>⟨[],rfl,rfl,λi x y h=>by simp at h⟩
 | x::r,h=>by
  obtain ⟨ρ1,y,h1,h2,hp⟩:=h x Van;obtain ⟨ys,e1,l1,q⟩:=ZiN P r λz hz=>h z (Vao _ hz);refine ⟨y::ys,?_,Vax (·+1) l1,λi a b ha hb=>?_⟩
  ·rw [Ziy,h1,Zid];unfold yes at e1 ⊢;rw [Zid,if_pos rfl,h2,Zid,e1];rfl
  ·cases i with
   | zero=>simp at ha hb;subst ha hb;exact hp
   | succ i=>exact q i a b (by simpa using ha) (by simpa using hb)
def Tl{α:Type}(r:Res α)(Φ:α->Prop):Prop:=∃a,r=.ok a/\Φ a
section
variable{α β:Type}{Φ:α->Prop}  {a b d:ME} {s t:MB}
def ZaX{r:Res α}{x:α}(e:r=.ok x)(h:Φ x):Tl r Φ:=⟨x,e,h⟩
def Zbq{x:α}(h:Φ x):Tl (.ok x) Φ:=⟨x,rfl,h⟩
def Zay{r:Res β}{f:β->Res α}(h:Tl r λx=>Tl (f x) Φ):Tl (r.bind f) Φ:=by
 obtain ⟨x,rfl,y,e,q⟩:=h;exact ⟨y,e,q⟩
def Tl.mono{r:Res α}{Ψ:α->Prop}(h:Tl r Ψ)(k:∀x,Ψ x->Φ x):Tl r Φ:=by
 obtain ⟨x,e,q⟩:=h;exact ⟨x,e,k x q⟩
def Tl.eq{r:Res α}{x:α}(h:Tl r (·=x)):r=.ok x:=by
 obtain ⟨y,e,rfl⟩:=h;exact e
def Znv{c:Bool}{A B:Res α}(hc:c=true)(h:Tl A Φ):Tl (if c=true then A else B) Φ:=by rw [if_pos hc];exact h
def Zll{c:Bool}{A B:Res α}(hc:c=false)(h:Tl B Φ):Tl (if c=true then A else B) Φ:=by rw [if_neg (by rw [hc];exact VaC)];exact h
def w_dT{P:Prop} [Decidable P] {A B:Res α} (hc:P) (h:Tl A Φ):Tl (if decide P=true then A else B) Φ:=Znv (Vbm hc) h
def w_dF{P:Prop} [Decidable P] {A B:Res α} (hc:¬P) (h:Tl B Φ):Tl (if decide P=true then A else B) Φ:=Zll (Vaa hc) h
def w_nF{P:Prop} [Decidable P] {A B:Res α} (hc:P) (h:Tl B Φ):Tl (if (!decide P)=true then A else B) Φ:=Zll (by rw [Vbm hc];rfl) h
def ZgI{P:Prop} [Decidable P] {A B:Res α} (h1:P->Tl A Φ) (h2:¬P->Tl B Φ):Tl (if decide P=true then A else B) Φ:=by
 by_cases h:P
 ·exact w_dT h (h1 h)
 ·exact w_dF h (h2 h)
end
section
variable{Φ:D->Prop}  {a b d:ME} {s t:MB}  {m:MA}
def w_v'(h:Tl (getC ρ[i]?) Φ):Tl (v i ρ) Φ:=h
def w_gC{o:Option Cl}{x:D}(e:o=some (.im x))(h:Φ x):Tl (getC o) Φ:=ZaX (by rw [e];rfl) h
def w_c{x:D}(h:Φ x):Tl (c x ρ) Φ:=Zbq h
def w_o2{f:D->D->Res D}(h:Tl (a ρ) λx=>Tl (b ρ) λy=>Tl (f x y) Φ):Tl (o2 f a b ρ) Φ:=Zay (h.mono λ_ q=>Zay q)
def w_on{f:List D->Res D}(h:Tl (m ρ) λxs=>Tl (f xs) Φ):Tl (on f m ρ) Φ:=Zay h
def Ztc(h:Tl (m ρ) λxs=>Φ (.tup xs)):Tl (mtp m ρ) Φ:=Zay (h.mono λ_ q=>Zbq q)
def Zta(h:Tl (m ρ) λxs=>Φ (.lst xs)):Tl (mls m ρ) Φ:=Zay (h.mono λ_ q=>Zbq q)
def Zr9(h:Tl (trb a ρ) λx=>Tl (if x=true then b ρ else .ok (.bl false)) Φ):Tl (eAnd a b ρ) Φ:=Zay h
def Zsj{it:MI}{own:Nat}{cap:List Nat}{g:MG}{e:ME}(h:Tl (it ρ) λxs=>xs.length<=1000000/\Tl (Zan g t e (noA own (yag ρ cap)) xs) λys=>Φ (.lst ys)):Tl (comp it own cap g t e ρ) Φ:=by
 refine Zay (h.mono λxs q=>?_);rw [if_pos (show xs.length<=LIM from q.1)];obtain ⟨ys,e1,q2⟩:=q.2;rw [e1];exact Zbq q2
def w_fn{k:MS}{ds:List D}(h:Tl (k (ev0 n ds)) λf=>Tl (endOf f) Φ):Tl (fn n k ds) Φ:=Zay h
def Zq4{x y:Int}(h:Φ (.int (x+y))):Tl (yao (.int x) (.int y)) Φ:=Zbq h
def w_sub{x y:Int}(h:Φ (.int (x - y))):Tl (dSub (.int x) (.int y)) Φ:=Zbq h
def w_mul{x y:Int}(hm:Zf5 x y=true)(h:Φ (.int (x*y))):Tl (yaF (.int x) (.int y)) Φ:=ZaX (ZpF hm) h
def w_mod{x y:Int}(hy:0<y)(h:Φ (.int (x%y))):Tl (ybp (.int x) (.int y)) Φ:=ZaX (ZmH hy) h
def w_div{x y:Int}(hy:0<y)(hl:y.natAbs.log2<9000)(h:Φ (.int (x/y))):Tl (ycc (.int x) (.int y)) Φ:=ZaX (ZmI hy hl) h
def w_shl{x y:Int}(h0:0<=y)(h1:y<=1000000)(h2:x.natAbs<2^64)(h:Φ (.int (x*2^y.toNat))):Tl (dShl (.int x) (.int y)) Φ:=ZaX (Zpk h0 h1 h2) h
def w_shr{x y:Int}(h0:0<=y)(h:Φ (.int (x/2^y.toNat))):Tl (dShr (.int x) (.int y)) Φ:=ZaX (Zn4 h0) h
def w_lt{x y:Int}(h:Φ (.bl (decide (x<y)))):Tl (dLt (.int x) (.int y)) Φ:=Zbq h
def w_le{x y:Int}(h:Φ (.bl (decide (x<=y)))):Tl (dLe (.int x) (.int y)) Φ:=Zbq h
def w_gt{x y:Int}(h:Φ (.bl (decide (y<x)))):Tl (dGt (.int x) (.int y)) Φ:=Zbq h
def w_ge{x y:Int}(h:Φ (.bl (decide (y<=x)))):Tl (dGe (.int x) (.int y)) Φ:=Zbq h
def Zti{x y:Int}(h:Φ (.bl (decide (x=y)))):Tl (dEq (.int x) (.int y)) Φ:=ZaX (Zp1 x y) h
def Zte{x y:Int}(h:Φ (.bl (!decide (x=y)))):Tl (dNe (.int x) (.int y)) Φ:=ZaX (Zou x y) h
def Zry{xs:List D}(h:Φ (.int xs.length)):Tl (bLen [.lst xs]) Φ:=Zbq h
def ZoT{ns:List Int}(h:Φ (.int ns.length)):Tl (bLen [.lst (ns.map .int)]) Φ:=ZaX (by rw [ZlU,VaO]) h
def Ztb{x y:Int}(h:Φ (.int (max x y))):Tl (bMax [.int x,.int y]) Φ:=ZaX (Zms x y) h
def ZsJ{x y:Int}(h:Φ (.int (min x y))):Tl (bMin [.int x,.int y]) Φ:=ZaX (ZmQ x y) h
end
section
variable{Φ:Bool->Prop}  {a:ME} {s t:MB}
def Zsn(h:Tl (a ρ) λx=>Tl (tru x) Φ):Tl (trb a ρ) Φ:=Zay h
def Zsr{b:Bool}(h:Φ b):Tl (tru (.bl b)) Φ:=Zbq h
def Zqe(h:Tl (s ρ) λx=>Tl (if x=true then t ρ else .ok false) Φ):Tl (bAnd s t ρ) Φ:=Zay h
def ZsT(h:Tl (s ρ) λx=>Tl (if x=true then .ok true else t ρ) Φ):Tl (bOr s t ρ) Φ:=Zay h
def Zrh(h:Tl (s ρ) λx=>Φ (!x)):Tl (bNot s ρ) Φ:=Zay (h.mono λ_ q=>Zbq q)
end
section
variable{Φ:List D->Prop}  {a:ME} {m:MA}
def ZqZ(h:Φ []):Tl (yaa ρ) Φ:=Zbq h
def ZoH(h:Tl (a ρ) λx=>Tl (m ρ) λxs=>Φ (x::xs)):Tl (Zaa a m ρ) Φ:=Zay (h.mono λ_ q=>Zay (q.mono λ_ q=>Zbq q))
def w_r1(h:Tl (m ρ) λxs=>Tl (rng1 xs) Φ):Tl (r1 m ρ) Φ:=Zay h
def w_r2(h:Tl (m ρ) λxs=>Tl (rng2 xs) Φ):Tl (r2 m ρ) Φ:=Zay h
def Zrb{j:Int}(h0:-1000000000<=j/\j<=1000000000)(h:Φ (ZbG 0 j.toNat)):Tl (rng1 [.int j]) Φ:=ZaX (Zo7 h0.1 h0.2) h
end
section
variable{Φ:Ev->Prop}   {x:D}
def w_gN(h:Φ (ρ.set i (.im x))):Tl (gN i x ρ) Φ:=Zbq h
def Zs1(h:Φ ρ):Tl (gs0 [] ρ) Φ:=Zbq h
def Zss{g:MG}{r:MGs}{ds:List D}(h:Tl (g x ρ) λρ'=>Tl (r ds ρ') Φ):Tl (gs1 g r (x::ds) ρ) Φ:=Zay h
def ZsN{g:MGs}{xs:List D}(hl:xs.length=n)(h:Tl (g xs ρ) Φ):Tl (gU n g (.lst xs) ρ) Φ:=by
 show Tl (if xs.length=n then g xs ρ else .bad) Φ
 rw [if_pos hl];exact h
end
section
variable{Φ:Fl->Prop}  {a b:ME} {k l:MS} {t:MB}
def w_sq(h:Tl (k ρ) λf=>Tl (goOn l f) Φ):Tl (sq k l ρ) Φ:=Zay h
def w_gx(h:Tl (l ρ) Φ):Tl (goOn l (.nx ρ)) Φ:=h
def w_gr{x:D}(h:Φ (.rt x)):Tl (goOn l (.rt x)) Φ:=Zbq h
def w_st(h:Tl (a ρ) λx=>Φ (.nx (ρ.set i (.im x)))):Tl (st i a ρ) Φ:=Zay (h.mono λ_ q=>Zbq q)
def Zs2(h:Tl (a ρ) λx=>Φ (.rt x)):Tl (ret a ρ) Φ:=Zay (h.mono λ_ q=>Zbq q)
def Zsv(h:Φ (.nx ρ)):Tl (nop ρ) Φ:=Zbq h
def ZsF(h:Tl (a ρ) λ_=>Φ (.nx ρ)):Tl (drp a ρ) Φ:=Zay (h.mono λ_ q=>Zbq q)
def Zsk{g:MG}(h:Tl (a ρ) λx=>Tl (g x ρ) λρ'=>Φ (.nx ρ')):Tl (asg g a ρ) Φ:=Zay (h.mono λ_ q=>Zay (q.mono λ_ q=>Zbq q))
def Zs8(h:Tl (t ρ) λx=>Tl (if x=true then k ρ else l ρ) Φ):Tl (ifs t k l ρ) Φ:=Zay h
def ZsZ{it:MI}{g:MG}(h:Tl (it ρ) λxs=>Tl (ZcV g k xs ρ) Φ):Tl (for_ it g k ρ) Φ:=Zay h
def w_eR{Ψ:D->Prop}{x:D}(h:Ψ x):Tl (endOf (.rt x)) Ψ:=Zbq h
def Ztj{g:MG}{xs:List D}(I:Ev->Prop)(h0:I ρ)(h:∀x∈xs,∀ρ,I ρ->Tl (g x ρ) λρ1=>Tl (k ρ1) λf=>∃ρ2,f=.nx ρ2/\I ρ2)(hd:∀ρ,I ρ->Φ (.nx ρ)):Tl (ZcV g k xs ρ) Φ:=by
 obtain ⟨ρ',e,i⟩:=Zps (g:=g) (b:=k) I xs (λx hx ρ i=>by
  obtain ⟨ρ1,e1,f,e2,ρ2,rfl,i2⟩:=h x hx ρ i
  exact ⟨ρ1,ρ2,e1,e2,i2⟩) ρ h0
 exact ⟨_,e,hd ρ' i⟩
end
def w_all{Φ:List D->Prop}{g:MG}{e:ME}{ρ:Ev}{xs:List D}(P:D->D->Prop)(h:∀x∈xs,Tl (g x ρ) λρ1=>Tl (e ρ1) λy=>P x y)(q:∀ys:List D,ys.length=xs.length->(∀(i:Nat) x y,xs[i]?=some x->ys[i]?=some y->P x y)->Φ ys):Tl (Zan g yes e ρ xs) Φ:=by
 obtain ⟨ys,e1,l,hp⟩:=ZiN (g:=g) (e:=e) (ρ:=ρ) P xs λx hx=>by
  obtain ⟨ρ1,e1,y,e2,hp⟩:=h x hx;exact ⟨ρ1,y,e1,e2,hp⟩
 exact ⟨ys,e1,q ys l hp⟩
section
variable{Φ:D->Prop}
def ZsS{x y:D}(h:Tl (dIx x y) Φ):Tl (dIx x y) Φ:=h
def Zrr{α:Type}{xs:List α}{i:Nat}:at_ xs (i:Int)=xs[i]?:=by
 unfold at_;rw [if_pos (Int.natCast_nonneg i),Int.toNat_natCast]
def Zkc{xs:List D}{i:Int}(h:0<=i/\i<xs.length)(q:∀x∈xs,Φ x):Tl (dIx (.lst xs) (.int i)) Φ:=by
 obtain ⟨n,rfl⟩:=Int.eq_ofNat_of_zero_le h.1;have hn:n<xs.length:=by omega
 rw [Zls,Zrr,VbF hn];exact Zbq (q _ (VbV hn))
def Zso{ns:List Int}{i:Int}(h:-(ns.length:Int)<=i/\i<ns.length)(q:∀n∈ns,Φ (.int n)):Tl (dIx (.lst (ns.map .int)) (.int i)) Φ:=by
 rw [Zls];unfold at_;rw [VaO];by_cases h0:0<=i
 ·have hn:i.toNat<ns.length:=by omega
  rw [if_pos h0,Va3,VbF hn];exact Zbq (q _ (VbV hn))
 ·have hn:(i+ns.length).toNat<ns.length:=by omega
  rw [if_neg h0,if_pos h.1,Va3,VbF hn];exact Zbq (q _ (VbV hn))
end
section
variable{α β:Type}{c:Str}   {k l:MS} {m:MA}
def Zhy{r:Res β}{f:β->Res α}(h:Tl r λx=>f x=.ex c):r.bind f=.ex c:=by
 obtain ⟨x,rfl,e⟩:=h;exact e
def ZeE{r:Res β}{f:β->Res α}(h:r=.ex c):r.bind f=.ex c:=by rw [h];rfl
def x_fn{ds:List D}(h:k (ev0 n ds)=.ex c):fn n k ds=.ex c:=ZeE h
def Zmb(h:k ρ=.ex c):sq k l ρ=.ex c:=ZeE h
def Ztk(h:Tl (k ρ) λf=>goOn l f=.ex c):sq k l ρ=.ex c:=Zhy h
def x_gx(h:l ρ=.ex c):goOn l (.nx ρ)=.ex c:=h
def ZoP{t:MB}(h:Tl (t ρ) λx=>(if x=true then k ρ else l ρ)=.ex c):ifs t k l ρ=.ex c:=Zhy h
def ZpP(h:Tl (m ρ) λ_=>True):rse c m ρ=.ex c:=Zhy (h.mono λ_ _=>rfl)
end
end Dl
end
end
local macro_rules | `(tactic| walk_at "sm")=>`(tactic| first | assumption | exact Dl.Sm.of64 (by omega) (by omega) | exact Dl.Sm.mul (by walk_at "sm") (by walk_at "sm") | exact Dl.Sm.add (by walk_at "sm") (by walk_at "sm") | exact Dl.Sm.sub (by walk_at "sm") (by walk_at "sm") | exact Dl.Sm.neg (by walk_at "sm") | exact Dl.Sm.min (by walk_at "sm") (by walk_at "sm") | exact Dl.Sm.max (by walk_at "sm") (by walk_at "sm"))
local macro_rules | `(tactic| walk_at "mo")=>`(tactic| first | assumption | exact Dl.Zpl (Dl.Sm.of64 (by omega) (by omega)) | exact Dl.ZpV (Dl.Sm.of64 (by omega) (by omega)) | exact Dl.mulOk_s (by walk_at "sm") (by walk_at "sm") (by decide))
local macro_rules | `(tactic| walk_at "lg")=>`(tactic| first | assumption | decide | exact Dl.Sm.log (by walk_at "sm") (by decide))
local macro_rules | `(tactic| walk_at "w1")=>`(tactic| first
 | ((with_reducible refine Dl.w_v' ?_);refine Dl.w_gC rfl ?_) |(with_reducible first |refine Dl.w_o2 ?_ |refine Dl.w_c ?_ |refine Dl.w_on ?_ |refine Dl.ZoH ?_ |refine Dl.ZqZ ?_ |refine Dl.w_sq ?_ |refine Dl.w_gx ?_ |refine Dl.w_st ?_ |refine Dl.Zs8 ?_ |refine Dl.Zsn ?_ |refine Dl.Zsr ?_) 
 | with_reducible refine Dl.Zq4 ?_ | with_reducible refine Dl.w_sub ?_ | ((with_reducible refine Dl.w_mul ?_ ?_);walk_at "mo") | ((with_reducible refine Dl.w_mod ?_ ?_);(first | decide | omega)) | ((with_reducible refine Dl.w_div ?_ ?_ ?_);(first | decide | omega);walk_at "lg")
 |(with_reducible first |refine Dl.w_lt ?_ |refine Dl.w_le ?_ |refine Dl.w_gt ?_ |refine Dl.w_ge ?_ |refine Dl.Zti ?_ |refine Dl.Zte ?_ |refine Dl.Zqe ?_ |refine Dl.ZsT ?_ |refine Dl.Zrh ?_) 
 |(with_reducible first |refine Dl.Zs2 ?_ |refine Dl.w_gr ?_ |refine Dl.w_eR ?_ |refine Dl.Zsv ?_ |refine Dl.Ztc ?_ |refine Dl.Zta ?_ |refine Dl.w_fn ?_ |refine Dl.w_o1 ?_ |refine Dl.Zr9 ?_ |refine Dl.w_eOr ?_ |refine Dl.w_eNot ?_ |refine Dl.w_ife ?_ |refine Dl.w_chain ?_) 
 |(with_reducible first |refine Dl.w_lenMT ?_ |refine Dl.ZoT ?_ |refine Dl.Zry ?_ |refine Dl.w_lenT ?_ |refine Dl.w_abs ?_ |refine Dl.Ztb ?_ |refine Dl.ZsJ ?_ |refine Dl.w_tupL ?_ |refine Dl.w_tupT ?_ |refine Dl.w_lstL ?_ |refine Dl.w_lstT ?_ |refine Dl.w_neg ?_) 
 |(with_reducible first |refine Dl.w_cut ?_ |refine Dl.w_pno ?_ |refine Dl.w_pso ?_ |refine Dl.w_optI ?_ |refine Dl.w_cutL ?_ |refine Dl.w_cutT ?_ |refine Dl.w_iv ?_ |refine Dl.w_itL ?_ |refine Dl.w_itT ?_ |refine Dl.w_r1 ?_) | ((with_reducible refine Dl.Zrb ?_ ?_);omega) |(with_reducible first |refine Dl.w_gN ?_ |refine Dl.Zs1 ?_ |refine Dl.Zss ?_) 
 | ((with_reducible refine Dl.w_gUT ?_ ?_);exact rfl) | ((with_reducible refine Dl.ZsN ?_ ?_);exact rfl) |(with_reducible first |refine Dl.ZsF ?_ |refine Dl.Zsk ?_ |refine Dl.w_par ?_ |refine Dl.ZsZ ?_ |refine Dl.w_whl ?_ |refine Dl.w_zip ?_ |refine Dl.w_zip2 ?_ |refine Dl.w_zipTL ?_ |refine Dl.w_zipLT ?_ |refine Dl.w_zipTT ?_ |refine Dl.w_iz3 ?_ |refine Dl.w_zip3T ?_ |refine Dl.w_lz3T ?_ |refine Dl.w_mLst ?_ |refine Dl.w_enum ?_ |refine Dl.w_enum1 ?_ |refine Dl.Zsj ?_) 
 |(with_reducible first |refine Dl.w_retN ?_ |refine Dl.w_eN ?_ |refine Dl.w_brk ?_ |refine Dl.w_cnt ?_ |refine Dl.w_gb ?_ |refine Dl.w_gc ?_ |refine Dl.w_isN ?_ |refine Dl.w_notN ?_ |refine Dl.w_p6 ?_ |refine Dl.w_p8 ?_ |refine Dl.w_p20 ?_) | ((with_reducible refine Dl.w_pow ?_ ?_ ?_ ?_);decide;decide;decide) | ((with_reducible refine Dl.w_shl ?_ ?_ ?_ ?_);decide;decide;decide) | ((with_reducible refine Dl.w_shr ?_ ?_);omega) | with_reducible refine Dl.w_yes ?_
 |(with_reducible first |refine Dl.w_tx ?_ |refine Dl.w_tc ?_ |refine Dl.w_tb ?_ |refine Dl.w_tr ?_ |refine Dl.w_max3 ?_ |refine Dl.w_sum ?_ |refine Dl.w_rev ?_) | ((with_reducible refine Dl.w_pkB ?_);refine Dl.w_gO rfl ?_) | ((with_reducible refine Dl.w_pk ?_);refine Dl.w_gO rfl ?_) |(with_reducible first |refine Dl.w_scI ?_ |refine Dl.w_scB ?_ |refine Dl.w_endT ?_ |refine Dl.w_stO ?_ |refine Dl.w_lstO ?_) | ((with_reducible refine Dl.w_frz' ?_);refine Dl.w_gO rfl ?_) | ((with_reducible refine Dl.w_app' ?_);refine Dl.w_gO rfl ?_) | ((with_reducible refine Dl.ZsS ?_);refine Dl.ZaX rfl ?_) | ((with_reducible refine Dl.w_isi ?_);refine Dl.ZaX rfl ?_) | ((with_reducible refine Dl.w_lenr ?_);refine Dl.ZaX rfl ?_) | with_reducible refine Dl.Zbq ?_ | with_reducible refine Dl.Zay ?_)
local macro_rules | `(tactic| walk_at "wi")=>`(tactic| first | ((with_reducible refine Dl.Znv ?_ ?_);exact rfl) | ((with_reducible refine Dl.Zll ?_ ?_);exact rfl) | ((with_reducible refine Dl.w_dT ?_ ?_);first | assumption | omega) | ((with_reducible refine Dl.w_dF ?_ ?_);first | assumption | omega) | ((with_reducible refine Dl.w_nT ?_ ?_);first | assumption | omega) | ((with_reducible refine Dl.w_nF ?_ ?_);first | assumption | omega))
local macro_rules | `(tactic| walk_at "wr")=>`(tactic| (refine Dl.ZaX rfl ?_))
local macro_rules | `(tactic| walk_at "w")=>`(tactic| (repeat (first | walk_at "w1" | walk_at "wi"));try dsimp only [List.set_cons_zero,List.set_cons_succ,Dl.ev0,Dl.evF,Dl.noA,Dl.yag,Dl.imOf,List.getElem?_cons_zero,List.getElem?_cons_succ,Nat.reduceAdd,Nat.reduceSub])
namespace My
open PySem Dl
def tabC:List (Str×Str×Bool):=[("BadFloor", "BadFloor", true),("BadFloor", "BadPattern", false),("BadFloor", "BadThing", false),("BadFloor", "BadTriangle", false),("BadFloor", "NoRow", false),("BadThing", "BadFloor", false),("BadThing", "BadPattern", false),("BadThing", "BadThing", true),("BadThing", "BadTriangle", false),("BadThing", "NoRow", false),("BadTriangle", "BadFloor", false),("BadTriangle", "BadPattern", false),("BadTriangle", "BadThing", false),("BadTriangle", "BadTriangle", true),("BadTriangle", "NoRow", false)]
def tabT:List (Str×String×Bool):=[("BadFloor", "ValueError", true),("BadThing", "ValueError", true),("BadTriangle", "ValueError", true)]
def objs:List Str:=["Plain"]
def ZaK:List D->Res D:=fn 2
  (for_ (iv (v 0)) (gN 1)
  (ifs (trb (o2 dLe (o2 dIx (v 1) (c (.int 2))) (c (.int 0))))
  (rse "BadTriangle" (Zaa (c (.str "only corners with w above 0 are thrown onto the floor")) yaa))
  nop))
def ZaH:List D->Res D:=fn 1
  (ret (eAnd (on bIsi (Zaa (v 0) (Zaa (c (.ty "int")) yaa))) (eNot (on bIsi (Zaa (v 0) (Zaa (c (.ty "bool")) yaa))))))
def Zc2:List D->Res D:=fn 1
  (sq (ifs (bOr (bNot (trb (on bIsi (Zaa (v 0) (Zaa (c (.ty "tuple")) yaa))))) (trb (o2 dGt (on bLen (Zaa (v 0) yaa)) (c (.int 3)))))
  (ret (c (.bl false)))
  nop)
  (ret (on bAll (Zaa (comp (iv (v 0)) 1 [] (gN 0) yes (on ZaH (Zaa (v 0) yaa))) yaa))))
def ZdY:List D->Res D:=fn 1
  (sq (ifs (bOr (bNot (trb (on bIsi (Zaa (v 0) (Zaa (c (.ty "tuple")) yaa))))) (trb (o2 dNe (on bLen (Zaa (v 0) yaa)) (c (.int 5)))))
  (ret (c (.bl false)))
  nop)
  (sq (ifs (bNot (trb (on bAll (Zaa (comp (iv (cut (v 0) pno (pso (c (.int 4))))) 1 [] (gN 0) yes (on ZaH (Zaa (v 0) yaa))) yaa))))
  (ret (c (.bl false)))
  nop)
  (ret (eAnd (o2 dGe (o2 dIx (v 0) (c (.int 3))) (c (.int 1))) (on Zc2 (Zaa (o2 dIx (v 0) (c (.int 4))) yaa))))))
def ZbJ:List D->Res D:=fn 2
  (sq (ifs (bOr (bNot (trb (on bIsi (Zaa (v 0) (Zaa (c (.ty "tuple")) yaa))))) (trb (o2 dNe (on bLen (Zaa (v 0) yaa)) (c (.int 3)))))
  (rse "BadTriangle" (Zaa (c (.str "a triangle is a tuple of three corners")) yaa))
  nop)
  (for_ (iv (v 0)) (gN 1)
  (sq (ifs (bNot (trb (on ZdY (Zaa (v 1) yaa))))
  (rse "BadTriangle" (Zaa (c (.str "a corner is a tuple (x, y, w, h, values) of whole numbers, h from 1 on")) yaa))
  nop)
  (ifs (trb (o2 dNe (on bLen (Zaa (o2 dIx (v 1) (c (.int 4))) yaa)) (on bLen (Zaa (o2 dIx (o2 dIx (v 0) (c (.int 0))) (c (.int 4))) yaa))))
  (rse "BadTriangle" (Zaa (c (.str "the corners of a triangle have as many values each")) yaa))
  nop))))
def Zgz:List D->Fs->Res Fs:=fnI 2
  (iDrp (on ZbJ (Zaa (v 1) yaa))
  (iDrp (on ZaK (Zaa (v 1) yaa))
  (iSet "triangle" (v 1)
  iEnd)))
def ZaJ:List D->Res D:=fn 5
  (sq (st 1 (c (.int 0)))
  (sq (for_ (iv (v 0)) (gN 2)
  (sq (st 3 (on bAbs (Zaa (v 2) yaa)))
  (whl fuel (trb (o2 dNe (v 3) (c (.int 0))))
  (sq (st 4 (o2 ybp (v 1) (v 3)))
  (sq (st 1 (v 3))
  (st 3 (v 4)))))))
  (ret (v 1))))
def ZcL:List D->Res D:=fn 1
  (sq (ifs (bOr (bNot (trb (on bIsi (Zaa (v 0) (Zaa (c (.ty "tuple")) yaa))))) (trb (o2 dNe (on bLen (Zaa (v 0) yaa)) (c (.int 2)))))
  (ret (c (.bl false)))
  nop)
  (sq (ifs (bOr (bNot (trb (on ZaH (Zaa (o2 dIx (v 0) (c (.int 0))) yaa)))) (bNot (trb (on ZaH (Zaa (o2 dIx (v 0) (c (.int 1))) yaa)))))
  (ret (c (.bl false)))
  nop)
  (ret (eAnd (o2 dGe (o2 dIx (v 0) (c (.int 1))) (c (.int 1))) (o2 dEq (on ZaJ (Zaa (v 0) yaa)) (c (.int 1)))))))
def Zcj:List D->Res D:=fn 1
  (ifs (bNot (trb (on ZcL (Zaa (v 0) yaa))))
  (rse "BadThing" (Zaa (c (.str "a colour is a fraction in lowest terms")) yaa))
  nop)
def Zg5:List D->Fs->Res Fs:=fnI 3
  (iSup Zgz (Zaa (v 1) yaa)
  (iDrp (on Zcj (Zaa (v 2) yaa))
  (iSet "colour" (v 2)
  iEnd)))
def ZaE:Str->Res D:=refR 4 2 ["BadFloor", "BadThing", "BadTriangle"]
  (sq (st 3 (on (bIsX tabC tabT) (Zaa (v 2) (Zaa (mtp (Zaa (c (.cls "BadPattern")) (Zaa (c (.cls "BadThing")) (Zaa (c (.cls "BadTriangle")) (Zaa (c (.cls "NoRow")) yaa))))) yaa))))
  (st 1 (eAnd (on (bIsX tabC tabT) (Zaa (v 2) (Zaa (c (.cls "BadFloor")) yaa))) (eAnd (on (bIsX tabC tabT) (Zaa (v 2) (Zaa (c (.ty "ValueError")) yaa))) (eNot (v 3))))))
def Zas:List D->Res D:=fn 3
  (ret (eAnd (on ZaH (Zaa (v 0) yaa)) (eAnd (o2 dGe (v 0) (v 1)) (o2 dLe (v 0) (v 2)))))
def Zao:List D->Res D:=fn 2
  (ifs (bOr (bNot (trb (on Zas (Zaa (v 0) (Zaa (c (.int 1)) (Zaa (c (.int 64)) yaa)))))) (bNot (trb (on Zas (Zaa (v 1) (Zaa (c (.int 1)) (Zaa (c (.int 64)) yaa)))))))
  (rse "BadFloor" (Zaa (c (.str "a floor has 1 to 64 cells in a row, and 1 to 64 rows")) yaa))
  nop)
def Zbf:List D->Res D:=fn 2
  (sq (st 1 (comp (iv (v 0)) 1 [] (gN 0) yes (o2 dIx (v 0) (c (.int 1)))))
  (ret (o2 dNe (o1 ZgC (v 1)) (on bLen (Zaa (v 1) yaa)))))
def Zbo:List D->Res D:=fn 3
  (sq (st 2 (on ZaJ (Zaa (mls (Zaa (v 0) (Zaa (v 1) yaa))) yaa)))
  (sq (ifs (trb (o2 dLt (v 1) (c (.int 0))))
  (st 2 (o1 dNeg (v 2)))
  nop)
  (ret (mtp (Zaa (o2 ycc (v 0) (v 2)) (Zaa (o2 ycc (v 1) (v 2)) yaa))))))
def Zaq:List D->Res D:=fn 2
  (ret (o2 yao (o2 yao (o2 yaF (o2 dIx (v 0) (c (.int 0))) (o2 dIx (v 1) (c (.int 0)))) (o2 yaF (o2 dIx (v 0) (c (.int 1))) (o2 dIx (v 1) (c (.int 1))))) (o2 yaF (o2 dIx (v 0) (c (.int 2))) (o2 dIx (v 1) (c (.int 2))))))
def ZdM:List D->Res D:=fn 2
  (ret (on Zaq (Zaa (comp (iv (v 0)) 1 [] (gN 0) yes (o2 dIx (v 0) (c (.int 3)))) (Zaa (v 1) yaa))))
def Zbp:List D->Res D:=fn 5
  (sq (st 2 (on ZdM (Zaa (v 0) (Zaa (v 1) yaa))))
  (sq (st 3 (on Zbo (Zaa (on Zaq (Zaa (comp (iv (v 0)) 1 [] (gN 0) yes (o2 dIx (v 0) (c (.int 2)))) (Zaa (v 1) yaa))) (Zaa (v 2) yaa))))
  (sq (st 4 (on lz3 (Zaa (o2 dIx (o2 dIx (v 0) (c (.int 0))) (c (.int 4))) (Zaa (o2 dIx (o2 dIx (v 0) (c (.int 1))) (c (.int 4))) (Zaa (o2 dIx (o2 dIx (v 0) (c (.int 2))) (c (.int 4))) yaa)))))
  (ret (mtp (Zaa (v 3) (Zaa (on bTup (Zaa (comp (iv (v 4)) 1 [2,1] (gN 0) yes (on Zbo (Zaa (on Zaq (Zaa (v 0) (Zaa (v 2) yaa))) (Zaa (v 1) yaa)))) yaa)) yaa)))))))
def Za6:List D->Res D:=fn 2
  (ret (mtp (Zaa (o2 dSub (o2 yaF (o2 dIx (v 0) (c (.int 1))) (o2 dIx (v 1) (c (.int 2)))) (o2 yaF (o2 dIx (v 0) (c (.int 2))) (o2 dIx (v 1) (c (.int 1))))) (Zaa (o2 dSub (o2 yaF (o2 dIx (v 0) (c (.int 2))) (o2 dIx (v 1) (c (.int 0)))) (o2 yaF (o2 dIx (v 0) (c (.int 0))) (o2 dIx (v 1) (c (.int 2))))) (Zaa (o2 dSub (o2 yaF (o2 dIx (v 0) (c (.int 0))) (o2 dIx (v 1) (c (.int 1)))) (o2 yaF (o2 dIx (v 0) (c (.int 1))) (o2 dIx (v 1) (c (.int 0))))) yaa)))))
def ZhN:List D->Res D:=fn 5
  (sq (st 3 (on Za6 (Zaa (v 0) (Zaa (v 1) yaa))))
  (sq (for_ (iv (mtp (Zaa (on Zaq (Zaa (v 3) (Zaa (v 2) yaa))) (Zaa (o2 dIx (v 3) (c (.int 0))) (Zaa (o2 dIx (v 3) (c (.int 1))) yaa))))) (gN 4)
  (ifs (trb (o2 dNe (v 4) (c (.int 0))))
  (ret (ife (trb (o2 dGt (v 4) (c (.int 0)))) (c (.int 1)) (o1 dNeg (c (.int 1)))))
  nop))
  (ret (c (.int 0)))))
def Zo5:List D->Res D:=fn 3
  (sq (drp (on ZaK (Zaa (v 0) yaa)))
  (sq (st 2 (on ZhN (Zaa (o2 dIx (v 0) (c (.int 0))) (Zaa (o2 dIx (v 0) (c (.int 1))) (Zaa (v 1) yaa)))))
  (sq (ifs (bOr (trb (o2 dNe (on ZhN (Zaa (o2 dIx (v 0) (c (.int 1))) (Zaa (o2 dIx (v 0) (c (.int 2))) (Zaa (v 1) yaa)))) (v 2))) (trb (o2 dNe (on ZhN (Zaa (o2 dIx (v 0) (c (.int 2))) (Zaa (o2 dIx (v 0) (c (.int 0))) (Zaa (v 1) yaa)))) (v 2))))
  (ret (c (.int 0)))
  nop)
  (ret (v 2)))))
def Zcu:List D->Res D:=fn 3
  (ret (on Zaq (Zaa (on Za6 (Zaa (v 0) (Zaa (v 1) yaa))) (Zaa (v 2) yaa))))
def ZfM:List D->Res D:=fn 2
  (ret (mtp (Zaa (on Zcu (Zaa (o2 dIx (v 0) (c (.int 1))) (Zaa (o2 dIx (v 0) (c (.int 2))) (Zaa (v 1) yaa)))) (Zaa (on Zcu (Zaa (o2 dIx (v 0) (c (.int 2))) (Zaa (o2 dIx (v 0) (c (.int 0))) (Zaa (v 1) yaa)))) (Zaa (on Zcu (Zaa (o2 dIx (v 0) (c (.int 0))) (Zaa (o2 dIx (v 0) (c (.int 1))) (Zaa (v 1) yaa)))) yaa)))))
def Zc7:List D->Res D:=fn 2
  (sq (ifs (trb (o2 dEq (on Zo5 (Zaa (v 0) (Zaa (v 1) yaa))) (c (.int 0))))
  (ret (c .non))
  nop)
  (ret (on Zbp (Zaa (v 0) (Zaa (on ZfM (Zaa (v 0) (Zaa (v 1) yaa))) yaa)))))
def Zd0:List D->Res D:=fn 5
  (sq (stO 2 (mls yaa))
  (sq (for_ (iv (v 0)) (gN 3)
  (sq (st 4 (on Zc7 (Zaa (o1 (dFld objs "triangle") (v 3)) (Zaa (v 1) yaa))))
  (ifs (trb (o1 ZlS (v 4)))
  (app 2 (mtp (Zaa (v 3) (Zaa (o2 dIx (v 4) (c (.int 0))) (Zaa (o2 dIx (v 4) (c (.int 1))) yaa)))))
  nop)))
  (frz 2 (ret (v 2)))))
def ZcW:List D->Res D:=fn 3
  (ret (mtp (Zaa (o2 yao (o2 yaF (c (.int 8)) (v 0)) (o2 dIx (v 2) (c (.int 0)))) (Zaa (o2 yao (o2 yaF (c (.int 8)) (v 1)) (o2 dIx (v 2) (c (.int 1)))) (Zaa (c (.int 8)) yaa)))))
def ZbX:List D->Res D:=fn 4
  (ret (Zii (iv (v 3)) 1 [0,2,1] (gN 0) yes (on Zd0 (Zaa (v 1) (Zaa (on ZcW (Zaa (v 3) (Zaa (v 2) (Zaa (v 0) yaa)))) yaa)))))
def Zfm:List D->Res D:=fn 1
  (sq (ifs (bOr (bNot (trb (on bIsi (Zaa (v 0) (Zaa (c (.ty "tuple")) yaa))))) (trb (o2 dNe (on bLen (Zaa (v 0) yaa)) (c (.int 2)))))
  (ret (c (.bl false)))
  nop)
  (ret (eAnd (on Zas (Zaa (o2 dIx (v 0) (c (.int 0))) (Zaa (c (.int 1)) (Zaa (c (.int 7)) yaa)))) (on Zas (Zaa (o2 dIx (v 0) (c (.int 1))) (Zaa (c (.int 1)) (Zaa (c (.int 7)) yaa)))))))
def ZcI:List D->Res D:=fn 1
  (sq (ifs (bOr (bNot (trb (on bIsi (Zaa (v 0) (Zaa (c (.ty "list")) yaa))))) (bOr (trb (o2 dLt (on bLen (Zaa (v 0) yaa)) (c (.int 1)))) (trb (o2 dGt (on bLen (Zaa (v 0) yaa)) (c (.int 16))))))
  (rse "BadFloor" (Zaa (c (.str "spots are a list of 1 to 16 tuples")) yaa))
  nop)
  (sq (ifs (bNot (trb (on bAll (Zaa (comp (iv (v 0)) 1 [] (gN 0) yes (on Zfm (Zaa (v 0) yaa))) yaa))))
  (rse "BadFloor" (Zaa (c (.str "a spot is a tuple of two whole numbers from 1 to 7")) yaa))
  nop)
  (ifs (trb (o2 dNe (o1 ZgC (v 0)) (on bLen (Zaa (v 0) yaa))))
  (rse "BadFloor" (Zaa (c (.str "the spots of a list are all unlike")) yaa))
  nop)))
def Zaw:List D->Res D:=fn 1
  (sq (ifs (trb (o1 dIsN (v 0)))
  (ret (mls (Zaa (mtp (Zaa (c (.int 4)) (Zaa (c (.int 4)) yaa))) yaa)))
  nop)
  (sq (drp (on ZcI (Zaa (v 0) yaa)))
  (ret (v 0))))
def Zbc:List D->Res D:=fn 8
  (sq (drp (on Zao (Zaa (v 1) (Zaa (v 2) yaa))))
  (sq (st 4 (on Zaw (Zaa (v 3) yaa)))
  (sq (stO 5 (mls yaa))
  (sq (for_ (r1 (Zaa (v 2) yaa)) (gN 6)
  (for_ (r1 (Zaa (v 1) yaa)) (gN 7)
  (ifs (trb (on bAny (Zaa (comp (iv (on ZbX (Zaa (v 0) (Zaa (v 7) (Zaa (v 6) (Zaa (v 4) yaa)))))) 1 [] (gN 0) yes (on Zbf (Zaa (v 0) yaa))) yaa)))
  (app 5 (mtp (Zaa (v 7) (Zaa (v 6) yaa))))
  nop)))
  (frz 5 (ret (v 5)))))))
def ZaR:List D->Res D:=fn 1
  (ret (ife (trb (o1 dIsN (v 0))) (mtp (Zaa (c (.int 0)) (Zaa (c (.int 1)) yaa))) (v 0)))
def Zcd:List D->Res D:=fn 2
  (ret (o1 (dFld objs "colour") (v 0)))
def ZcH:List (Str×(List D->Res D)):=[("Plain", Zcd)]
def Zie:List D->Res D:=fn 2
  (ret (on Zbo (Zaa (o2 dSub (o2 yaF (o2 dIx (v 0) (c (.int 0))) (o2 dIx (v 1) (c (.int 1)))) (o2 yaF (o2 dIx (v 1) (c (.int 0))) (o2 dIx (v 0) (c (.int 1))))) (Zaa (o2 yaF (o2 dIx (v 0) (c (.int 1))) (o2 dIx (v 1) (c (.int 1)))) yaa))))
def Zhj:List D->Res D:=fn 2
  (ret (on Zbo (Zaa (o2 yao (o2 yaF (o2 dIx (v 0) (c (.int 0))) (o2 dIx (v 1) (c (.int 1)))) (o2 yaF (o2 dIx (v 1) (c (.int 0))) (o2 dIx (v 0) (c (.int 1))))) (Zaa (o2 yaF (o2 dIx (v 0) (c (.int 1))) (o2 dIx (v 1) (c (.int 1)))) yaa))))
def Zec:List D->Res D:=fn 2
  (ret (on Zbo (Zaa (o2 yaF (o2 dIx (v 0) (c (.int 0))) (o2 dIx (v 1) (c (.int 0)))) (Zaa (o2 yaF (o2 dIx (v 0) (c (.int 1))) (o2 dIx (v 1) (c (.int 1)))) yaa))))
def Zd1:List D->Res D:=fn 3
  (sq (st 2 (on Zie (Zaa (mtp (Zaa (c (.int 1)) (Zaa (c (.int 1)) yaa))) (Zaa (o1 (dFld objs "part") (v 0)) yaa))))
  (ret (on Zhj (Zaa (on Zec (Zaa (o1 (dFld objs "part") (v 0)) (Zaa (o1 (dFld objs "colour") (v 0)) yaa))) (Zaa (on Zec (Zaa (v 2) (Zaa (v 1) yaa))) yaa)))))
def Zcq:List D->Res D:=fn 1
  (ret (c (.bl false)))
def ZaZ:List (Str×(List D->Res D)):=[("Plain", Zcq)]
def ZbN:List D->Res D:=fn 2
  (ret (o2 dLt (o2 yaF (o2 dIx (v 0) (c (.int 0))) (o2 dIx (v 1) (c (.int 1)))) (o2 yaF (o2 dIx (v 1) (c (.int 0))) (o2 dIx (v 0) (c (.int 1))))))
def ZcN:List D->Res D:=fn 5
  (sq (stO 2 (mls yaa))
  (sq (for_ (iv (v 1)) (gN 3)
  (ifs (bAnd (trb (meth ZaZ "is_glass" (o2 dIx (v 3) (c (.int 0))) yaa)) (bOr (trb (o1 dIsN (v 0))) (trb (on ZbN (Zaa (o2 dIx (v 3) (c (.int 1))) (Zaa (o2 dIx (v 0) (c (.int 1))) yaa))))))
  (sq (st 4 (pk 2 (on bLen (Zaa (comp (iv (v 2)) 1 [3] (gN 0) (trb (on ZbN (Zaa (o2 dIx (v 1) (c (.int 1))) (Zaa (o2 dIx (v 0) (c (.int 1))) yaa)))) (v 0)) yaa))))
  (insO 2 (v 4) (v 3)))
  nop))
  (frz 2 (ret (v 2)))))
def ZcZ:List D->Res D:=fn 3
  (sq (st 1 (c .non))
  (sq (for_ (iv (v 0)) (gN 2)
  (sq (ifs (trb (meth ZaZ "is_glass" (o2 dIx (v 2) (c (.int 0))) yaa))
  cnt
  nop)
  (ifs (bOr (trb (o1 dIsN (v 1))) (trb (on ZbN (Zaa (o2 dIx (v 2) (c (.int 1))) (Zaa (o2 dIx (v 1) (c (.int 1))) yaa)))))
  (st 1 (v 2))
  nop)))
  (ret (v 1))))
def ZdU:List D->Res D:=fn 5
  (sq (st 2 (on ZcZ (Zaa (v 0) yaa)))
  (sq (st 3 (v 1))
  (sq (ifs (trb (o1 ZlS (v 2)))
  (st 3 (meth ZcH "colour_at" (o2 dIx (v 2) (c (.int 0))) (Zaa (o2 dIx (v 2) (c (.int 2))) yaa)))
  nop)
  (sq (for_ (iv (on ZcN (Zaa (v 2) (Zaa (v 0) yaa)))) (gN 4)
  (st 3 (on Zd1 (Zaa (o2 dIx (v 4) (c (.int 0))) (Zaa (v 3) yaa)))))
  (ret (v 3))))))
def Zfz:List D->Res D:=fn 3
  (sq (st 1 (mtp (Zaa (c (.int 0)) (Zaa (c (.int 1)) yaa))))
  (sq (for_ (iv (v 0)) (gN 2)
  (st 1 (on Zhj (Zaa (v 1) (Zaa (v 2) yaa)))))
  (ret (on Zbo (Zaa (o2 dIx (v 1) (c (.int 0))) (Zaa (o2 yaF (o2 dIx (v 1) (c (.int 1))) (on bLen (Zaa (v 0) yaa))) yaa))))))
def Zbj:List D->Res D:=fn 2
  (ret (on Zfz (Zaa (comp (iv (v 0)) 1 [1] (gN 0) yes (on ZdU (Zaa (v 0) (Zaa (v 1) yaa)))) yaa)))
def ZbS:List D->Res D:=fn 5
  (ret (Zii (r1 (Zaa (v 1) yaa)) 1 [0,3,2,4] (gN 0) yes (on Zbj (Zaa (on ZbX (Zaa (v 1) (Zaa (v 0) (Zaa (v 3) (Zaa (v 2) yaa))))) (Zaa (v 4) yaa)))))
def ZaG:List D->Res D:=fn 7
  (sq (drp (on Zao (Zaa (v 1) (Zaa (v 2) yaa))))
  (sq (st 5 (on Zaw (Zaa (v 3) yaa)))
  (sq (st 6 (on ZaR (Zaa (v 4) yaa)))
  (ret (Zii (r1 (Zaa (v 2) yaa)) 1 [1,0,5,6] (gN 0) yes (on ZbS (Zaa (v 2) (Zaa (v 1) (Zaa (v 0) (Zaa (v 3) (Zaa (v 4) yaa)))))))))))
def ZbD:List D->Res D:=fn 1
  (ifs (bNot (trb (on Zas (Zaa (v 0) (Zaa (c (.int 1)) (Zaa (c (.int 64)) yaa))))))
  (rse "BadFloor" (Zaa (c (.str "a tile is 1 to 64 cells wide")) yaa))
  nop)
def ZcJ:List D->Res D:=fn 3
  (sq (st 1 (o2 dIx (v 0) (c (.int 0))))
  (sq (for_ (iv (v 0)) (gN 2)
  (ifs (trb (on ZbN (Zaa (v 1) (Zaa (v 2) yaa))))
  (st 1 (v 2))
  nop))
  (ret (v 1))))
def ZdL:List D->Res D:=fn 1
  (sq (ifs (trb (o2 dIn (c .non) (v 0)))
  (ret (c .non))
  nop)
  (ret (on ZcJ (Zaa (v 0) yaa))))
def Zco:List D->Res D:=fn 3
  (sq (st 1 (o2 dIx (v 0) (c (.int 0))))
  (sq (for_ (iv (v 0)) (gN 2)
  (ifs (trb (on ZbN (Zaa (v 2) (Zaa (v 1) yaa))))
  (st 1 (v 2))
  nop))
  (ret (v 1))))
def Zgu:List D->Res D:=fn 2
  (ret (ife (trb (o1 dIsN (v 0))) (v 1) (on Zco (Zaa (mls (Zaa (v 0) (Zaa (v 1) yaa))) yaa))))
def ZfO:FY:=fnY 7 [2,3]
  (forY (Zdm (Zaa (v 1) yaa)) (gU 2 (gs1 (gN 4) (gs1 (gN 5) gs0)))
  (sqY (lft (st 6 (on Zc7 (Zaa (o1 (dFld objs "triangle") (v 0)) (Zaa (v 5) yaa)))))
  (sqY (ifY (trb (o1 dIsN (v 6)))
  (lft cnt)
  (lft nop))
  (sqY (appY (v 4) (mtp (Zaa (v 0) (Zaa (o2 dIx (v 6) (c (.int 0))) (Zaa (o2 dIx (v 6) (c (.int 1))) yaa)))))
  (ifY (bNot (trb (meth ZaZ "is_glass" (v 0) yaa)))
  (lft (setO 3 (pkN 3 (on Zgu (Zaa (o2 dIx (v 3) (v 4)) (Zaa (o2 dIx (v 6) (c (.int 0))) yaa)))) (v 4)))
  (lft nop))))))
def Zc8:List D->Res D:=fn 1
  (ret (on Zco (Zaa (comp (iv (v 0)) 1 [] (gN 0) yes (on Zbo (Zaa (o2 dIx (v 0) (c (.int 2))) (Zaa (o2 dIx (v 0) (c (.int 3))) yaa)))) yaa)))
def ZdT:List D->Res D:=fn 9
  (regY 2 (comp (iv (v 1)) 1 [] (gN 0) yes (mls yaa))
  (sqY (lft (stO 3 (comp (iv (v 1)) 1 [] (gN 0) yes (c .non))))
  (sqY (lft (stO 4 (mls yaa)))
  (sqY (forY (Zdm (Zaa (v 0) yaa)) (gU 2 (gs1 (gN 5) (gs1 (gN 6) gs0)))
  (sqY (lft (st 7 (on Zc8 (Zaa (o1 (dFld objs "triangle") (v 6)) yaa))))
  (sqY (lft (st 8 (pkN 3 (on ZdL (Zaa (v 3) yaa)))))
  (ifY (bAnd (trb (o1 ZlS (v 8))) (bNot (trb (on ZbN (Zaa (v 7) (Zaa (v 8) yaa))))))
  (lft (app 4 (mtp (Zaa (v 5) (Zaa (v 7) (Zaa (v 8) yaa))))))
  (Zk0 ZfO 3 (some 3) (rIm (v 6) (rIm (v 1) (rRg (rOw 3 rNil)))))))))
  (retY 4)))))
def Zbu:List D->Res D:=fn 2
  (sq (ifs (trb (o1 dIsN (v 0)))
  (ret (on bLR (Zaa (v 1) yaa)))
  nop)
  (sq (ifs (bOr (bNot (trb (on bIsi (Zaa (v 0) (Zaa (c (.ty "list")) yaa))))) (bNot (trb (on bAll (Zaa (comp (iv (v 0)) 1 [] (gN 0) yes (on ZaH (Zaa (v 0) yaa))) yaa)))))
  (rse "BadFloor" (Zaa (c (.str "an order is a list of whole numbers")) yaa))
  nop)
  (sq (ifs (trb (o2 dNe (on ZlB (Zaa (v 0) yaa)) (on bLR (Zaa (v 1) yaa))))
  (rse "BadFloor" (Zaa (c (.str "an order has the number of each tile once")) yaa))
  nop)
  (ret (v 0)))))
def Zcy:FY:=fnY 8 [0]
  (sqY (lft (st 4 (o2 ycc (on bLen (Zaa (v 2) yaa)) (on bLen (Zaa (v 1) yaa)))))
  (forY (Zdm (Zaa (v 1) yaa)) (gU 2 (gs1 (gN 5) (gs1 (gN 6) gs0)))
  (sqY (lft (st 7 (cut (v 2) (pso (o2 yaF (v 5) (v 4))) (pso (o2 yaF (o2 yao (v 5) (c (.int 1))) (v 4))))))
  (Zmg (on Zbj (Zaa (v 7) (Zaa (v 3) yaa))) (o2 dIx (v 6) (c (.int 1))) (o2 dIx (v 6) (c (.int 0)))))))
def ZdH:List D->Res D:=fn 5
  (sq (stO 2 (mls yaa))
  (sq (for_ (iv (v 0)) (gU 2 (gs1 (gN 3) (gs1 (gN 4) gs0)))
  (ext 2 (comp (iv (v 1)) 1 [4,3] (gN 0) yes (on ZcW (Zaa (v 2) (Zaa (v 1) (Zaa (v 0) yaa)))))))
  (frz 2 (ret (v 2)))))
def Za3:List D->Res D:=fn 2
  (ret (o2 ycc (o2 dSub (o2 yao (v 0) (v 1)) (c (.int 1))) (v 1)))
def Zc4:List D->Res D:=fn 10
  (sq (st 4 (on Za3 (Zaa (v 0) (Zaa (v 2) yaa))))
  (sq (st 5 (o2 yaF (o2 ybp (v 3) (v 4)) (v 2)))
  (sq (st 6 (o2 yaF (o2 ycc (v 3) (v 4)) (v 2)))
  (sq (stO 7 (mls yaa))
  (sq (for_ (r2 (Zaa (v 6) (Zaa (on bMin (Zaa (o2 yao (v 6) (v 2)) (Zaa (v 1) yaa))) yaa))) (gN 8)
  (for_ (r2 (Zaa (v 5) (Zaa (on bMin (Zaa (o2 yao (v 5) (v 2)) (Zaa (v 0) yaa))) yaa))) (gN 9)
  (app 7 (mtp (Zaa (v 9) (Zaa (v 8) yaa))))))
  (frz 7 (ret (v 7))))))))
def Zaj:List D->Res D:=fn 15
  (sq (drp (on Zao (Zaa (v 1) (Zaa (v 2) yaa))))
  (sq (drp (on ZbD (Zaa (v 3) yaa)))
  (sq (st 7 (on Zbu (Zaa (v 4) (Zaa (o2 yaF (on Za3 (Zaa (v 1) (Zaa (v 3) yaa))) (on Za3 (Zaa (v 2) (Zaa (v 3) yaa)))) yaa))))
  (sq (st 8 (on Zaw (Zaa (v 5) yaa)))
  (sq (st 9 (on ZaR (Zaa (v 6) yaa)))
  (regY 10 (comp (r1 (Zaa (v 2) yaa)) 1 [1,9] (gN 0) yes (repD (Zaa (v 2) yaa) (v 1)))
  (sqY (lft (stO 11 (mls yaa)))
  (sqY (forY (iv (v 7)) (gN 12)
  (sqY (lft (st 13 (on Zc4 (Zaa (v 1) (Zaa (v 2) (Zaa (v 3) (Zaa (v 12) yaa)))))))
  (sqY (lft (st 14 (on ZdT (Zaa (v 0) (Zaa (on ZdH (Zaa (v 13) (Zaa (v 8) yaa))) yaa)))))
  (sqY (Zk0 Zcy 0 none (rRg (rIm (v 13) (rIm (o2 dIx (v 14) (c (.int 0))) (rIm (v 9) rNil)))))
  (lft (ext 11 (comp (iv (o2 dIx (v 14) (c (.int 1)))) 1 [12] (gN 0) yes (mtp (Zaa (v 1) (Zaa (o2 dIx (v 0) (c (.int 0))) (Zaa (o2 dIx (v 0) (c (.int 1))) (Zaa (o2 dIx (v 0) (c (.int 2))) yaa))))))))))))
  (retY 11)))))))))
def Zaz:List D->Res D:=fn 4
  (sq (ifs (bNot (trb (refM [1,0,3,2] (onK ZaG [none] (Zaa (v 1) (Zaa (v 0) (Zaa (v 3) (Zaa (v 2) yaa)))) yaa) ZaE)))
  (ret (c (.bl false)))
  nop)
  (sq (ifs (bNot (trb (refM [1,0,3,2] (on Zbc (Zaa (v 1) (Zaa (v 0) (Zaa (v 3) (Zaa (v 2) yaa))))) ZaE)))
  (ret (c (.bl false)))
  nop)
  (ret (refM [1,0,3,2] (onK Zaj [none] (Zaa (v 1) (Zaa (v 0) (Zaa (v 3) (Zaa (c (.int 2)) (Zaa (c .non) (Zaa (v 2) yaa)))))) yaa) ZaE))))
def ZaF:List D->Res D:=fn 3
  (sq (st 2 (o2 ycc (v 0) (c (.int 16))))
  (ret (o2 dIx (mls (Zaa (c (.int 0)) (Zaa (o2 yao (v 1) (c (.int 1))) (Zaa (o2 dSub (o2 dSub (c (.int 0)) (c (.int 1))) (o2 ybp (v 2) (c (.int 99)))) (Zaa (o2 yao (o2 yao (v 1) (c (.int 1))) (v 2)) (Zaa (c (.bl true)) (Zaa (c .non) (Zaa (c (.str "8")) (Zaa (mtp (Zaa (c (.int 1)) (Zaa (c (.int 1)) yaa))) (Zaa (c (.bl false)) yaa)))))))))) (o2 ybp (v 0) (c (.int 9))))))
def ZaQ:List D->Res D:=fn 4
  (sq (st 2 (on bLR (Zaa (v 1) yaa)))
  (sq (st 3 (mls (Zaa (cut (v 2) pno (pso (o1 dNeg (c (.int 1))))) (Zaa (o2 yao (v 2) (mls (Zaa (c (.int 0)) yaa))) (Zaa (o2 yao (cut (v 2) (pso (c (.int 1))) pno) (mls (Zaa (v 1) yaa))) (Zaa (o2 yao (repD (Zaa (c (.int 0)) yaa) (v 1)) (mls (Zaa (c (.int 0)) yaa))) (Zaa (o2 yao (v 2) (mls (Zaa (v 1) yaa))) yaa)))))))
  (sq (st 3 (o2 yao (v 3) (mls (Zaa (on bTup (Zaa (v 2) yaa)) (Zaa (c (.str "0")) (Zaa (c (.int 5)) (Zaa (mls (Zaa (c (.bl false)) (Zaa (c (.bl true)) yaa))) (Zaa (mls (Zaa (c (.int 0)) (Zaa (c (.bl true)) yaa))) (Zaa (mls (Zaa (c (.bl true)) (Zaa (c (.int 0)) yaa))) (Zaa (mls (Zaa (c (.bl false)) (Zaa (c (.int 1)) yaa))) yaa))))))))))
  (ret (o2 dIx (o2 yao (v 3) (mls (Zaa (o2 yao (cut (v 2) pno (pso (o1 dNeg (c (.int 1))))) (mls (Zaa (c .non) yaa))) (Zaa (o2 yao (cut (v 2) pno (pso (o1 dNeg (c (.int 1))))) (mls (Zaa (on bStr (Zaa (o2 dSub (v 1) (c (.int 1))) yaa)) yaa))) (Zaa (o2 yao (cut (v 2) (pso (c (.int 1))) pno) (mls (Zaa (o1 dNeg (c (.int 1))) yaa))) yaa))))) (o2 ybp (v 0) (c (.int 15))))))))
def ZaI:List D->Res D:=fn 4
  (sq (st 1 (mls (Zaa (mtp (Zaa (c (.int 4)) (Zaa (c (.int 4)) yaa))) (Zaa (mtp (Zaa (c (.int 1)) (Zaa (c (.int 7)) yaa))) yaa))))
  (sq (st 2 (comp (r1 (Zaa (c (.int 17)) yaa)) 1 [] (gN 0) yes (mtp (Zaa (o2 yao (c (.int 1)) (o2 ybp (v 0) (c (.int 7)))) (Zaa (o2 yao (c (.int 1)) (o2 ycc (v 0) (c (.int 7)))) yaa)))))
  (sq (st 3 (mls (Zaa (mls yaa) (Zaa (v 2) (Zaa (o2 yao (v 1) (mls (Zaa (mtp (Zaa (c (.int 4)) (Zaa (c (.int 4)) yaa))) yaa))) (Zaa (o2 yao (v 1) (mls (Zaa (mtp (Zaa (c (.int 0)) (Zaa (c (.int 4)) yaa))) yaa))) (Zaa (o2 yao (v 1) (mls (Zaa (mtp (Zaa (c (.int 4)) (Zaa (c (.int 8)) yaa))) yaa))) (Zaa (o2 yao (mls (Zaa (mtp (Zaa (c (.int 8)) (Zaa (c (.int 1)) yaa))) yaa)) (v 1)) yaa))))))))
  (sq (st 3 (o2 yao (v 3) (mls (Zaa (o2 yao (v 1) (mls (Zaa (mtp (Zaa (c (.int 1)) (Zaa (c (.int 2)) (Zaa (c (.int 3)) yaa)))) yaa))) (Zaa (mls (Zaa (mtp (Zaa (c (.bl true)) (Zaa (c (.int 2)) yaa))) yaa)) yaa)))))
  (sq (st 3 (o2 yao (v 3) (mls (Zaa (mls (Zaa (mtp (Zaa (c (.int 2)) (Zaa (c (.bl true)) yaa))) yaa)) (Zaa (mls (Zaa (mls (Zaa (c (.int 1)) (Zaa (c (.int 2)) yaa))) yaa)) (Zaa (o2 yao (v 1) (mls (Zaa (c .non) yaa))) (Zaa (mtp (Zaa (mtp (Zaa (c (.int 4)) (Zaa (c (.int 4)) yaa))) yaa)) (Zaa (c (.str "4")) (Zaa (c (.int 5)) (Zaa (mls (Zaa (mtp (Zaa (c (.int 4)) yaa)) yaa)) yaa))))))))))
  (ret (o2 dIx (o2 yao (v 3) (mls (Zaa (o2 yao (v 1) (mls (Zaa (mtp (Zaa (o1 dNeg (c (.int 1))) (Zaa (c (.int 4)) yaa))) yaa))) yaa))) (o2 ybp (v 0) (c (.int 16))))))))))
def ZaT:List D->Res D:=fn 2
  (sq (ifs (trb (o2 dLt (v 1) (on bLen (Zaa (v 0) yaa))))
  (ret (o2 dIx (v 0) (v 1)))
  nop)
  (ret (c (.int 0))))
def ZbF:List D->Res D:=fn 3
  (sq (ifs (bAnd (trb (o2 dGe (v 0) (o2 dShl (c (.int 1)) (c (.int 90))))) (bAnd (trb (o2 dEq (o2 ybp (v 0) (c (.int 2))) (c (.int 1)))) (trb (o2 dGt (o2 dShr (v 0) (o2 yao (c (.int 1)) (o2 yaF (c (.int 31)) (v 1)))) (c (.int 0))))))
  (ret (o2 ybp (o2 dShr (v 0) (o2 yao (c (.int 1)) (o2 yaF (c (.int 31)) (v 1)))) (c (.int 2147483648))))
  nop)
  (sq (st 2 (o2 ybp (o2 yaF (o2 yao (o2 yao (v 0) (o2 yaF (c (.int 7919)) (v 1))) (c (.int 1))) (c (.int 48271))) (c (.int 2147483647))))
  (sq (st 2 (o2 ybp (o2 yaF (v 2) (o2 yao (o2 ycc (v 2) (c (.int 1009))) (c (.int 69621)))) (c (.int 2147483647))))
  (ret (o2 ybp (o2 yaF (v 2) (o2 yao (o2 yao (o2 ycc (v 2) (c (.int 2003))) (c (.int 39373))) (v 1))) (c (.int 2147483629)))))))
def ZbI:List D->Res D:=fn 2
  (ret (comp (r1 (Zaa (v 1) yaa)) 1 [0] (gN 0) yes (on ZbF (Zaa (v 1) (Zaa (v 0) yaa)))))
def Zr3:List D->Res D:=fn 11
  (sq (st 1 (mls yaa))
  (sq (ifs (trb (o2 dEq (o2 ybp (on ZaT (Zaa (v 0) (Zaa (c (.int 0)) yaa))) (c (.int 2))) (c (.int 0))))
  (st 1 (mls (Zaa (make "Plain" Zg5 (Zaa (mtp (Zaa (mtp (Zaa (c (.int 0)) (Zaa (c (.int 0)) (Zaa (c (.int 1)) (Zaa (c (.int 1)) (Zaa (mtp yaa) yaa)))))) (Zaa (mtp (Zaa (c (.int 3)) (Zaa (c (.int 0)) (Zaa (c (.int 1)) (Zaa (c (.int 1)) (Zaa (mtp yaa) yaa)))))) (Zaa (mtp (Zaa (c (.int 0)) (Zaa (c (.int 3)) (Zaa (c (.int 1)) (Zaa (c (.int 1)) (Zaa (mtp yaa) yaa)))))) yaa)))) (Zaa (mtp (Zaa (c (.int 5)) (Zaa (c (.int 1)) yaa))) yaa))) yaa)))
  nop)
  (sq (for_ (r2 (Zaa (c (.int 1)) (Zaa (on bMax (Zaa (c (.int 2)) (Zaa (on bMin (Zaa (on bLen (Zaa (v 0) yaa)) (Zaa (c (.int 20)) yaa))) yaa))) yaa))) (gN 2)
  (sq (asg (gU 3 (gs1 (gN 3) (gs1 (gN 4) (gs1 (gN 5) gs0)))) (on ZbI (Zaa (on ZaT (Zaa (v 0) (Zaa (v 2) yaa))) (Zaa (c (.int 3)) yaa))))
  (sq (st 6 (o2 dIx (mls (Zaa (c .non) (Zaa (mls (Zaa (mtp (Zaa (c (.int 1)) (Zaa (c (.int 1)) yaa))) yaa)) (Zaa (mls (Zaa (mtp (Zaa (c (.int 4)) (Zaa (c (.int 4)) yaa))) (Zaa (mtp (Zaa (c (.int 7)) (Zaa (c (.int 7)) yaa))) yaa))) yaa)))) (o2 ybp (v 5) (c (.int 3)))))
  (sq (st 7 (c (.bl true)))
  (sq (ifs (trb (o2 dEq (o2 ybp (v 3) (c (.int 4))) (c (.int 0))))
  (sq (st 8 (on ZaF (Zaa (v 4) (Zaa (c (.int 64)) yaa))))
  (sq (st 9 (o2 dIx (mls (Zaa (mtp (Zaa (v 8) (Zaa (c (.int 3)) yaa))) (Zaa (mtp (Zaa (c (.int 3)) (Zaa (v 8) yaa))) (Zaa (mtp (Zaa (v 8) (Zaa (v 8) yaa))) yaa)))) (o2 ybp (o2 ycc (v 5) (c (.int 4))) (c (.int 3)))))
  (st 7 (on Zaz (Zaa (v 1) (Zaa (o2 dIx (v 9) (c (.int 0))) (Zaa (o2 dIx (v 9) (c (.int 1))) (Zaa (o2 dIx (mls (Zaa (v 6) (Zaa (on ZaI (Zaa (v 5) yaa)) yaa))) (o2 ybp (o2 ycc (v 5) (c (.int 16))) (c (.int 2)))) yaa))))))))
  (ifs (trb (o2 dEq (o2 ybp (v 3) (c (.int 4))) (c (.int 1))))
  (st 7 (on Zaz (Zaa (v 1) (Zaa (c (.int 2)) (Zaa (c (.int 3)) (Zaa (on ZaI (Zaa (v 4) yaa)) yaa))))))
  (ifs (trb (o2 dEq (o2 ybp (v 3) (c (.int 4))) (c (.int 2))))
  (st 7 (refM [1,4,6] (onK Zaj [none] (Zaa (v 0) (Zaa (c (.int 3)) (Zaa (c (.int 2)) (Zaa (on ZaF (Zaa (v 1) (Zaa (c (.int 64)) yaa))) (Zaa (c .non) (Zaa (v 2) yaa)))))) yaa) ZaE))
  (st 7 (refM [1,4,6] (onK Zaj [none] (Zaa (v 0) (Zaa (c (.int 3)) (Zaa (c (.int 2)) (Zaa (c (.int 2)) (Zaa (on ZaQ (Zaa (v 1) (Zaa (c (.int 2)) yaa))) (Zaa (v 2) yaa)))))) yaa) ZaE)))))
  (ifs (bNot (trb (v 7)))
  (ret (c (.bl false)))
  nop))))))
  (sq (st 10 (comp (r1 (Zaa (c (.int 16)) yaa)) 1 [] (gN 0) yes (mtp (Zaa (o2 yao (c (.int 1)) (o2 ybp (v 0) (c (.int 7)))) (Zaa (o2 yao (c (.int 1)) (o2 ycc (v 0) (c (.int 7)))) yaa)))))
  (sq (ifs (bOr (trb (o2 dNe (on bLen (Zaa (o2 dIx (onK ZaG [none] (Zaa (v 1) (Zaa (c (.int 64)) (Zaa (c (.int 1)) (Zaa (v 10) yaa)))) yaa) (c (.int 0))) yaa)) (c (.int 64)))) (trb (o2 dNe (on bLen (Zaa (onK ZaG [none,none] (Zaa (mls yaa) (Zaa (c (.int 64)) (Zaa (c (.int 64)) yaa))) yaa) yaa)) (c (.int 64)))))
  (ret (c (.bl false)))
  nop)
  (ret (o2 dEq (o2 dIx (onK Zaj [none] (Zaa (v 1) (Zaa (c (.int 3)) (Zaa (c (.int 2)) (Zaa (c (.int 64)) (Zaa (mls (Zaa (c (.int 0)) yaa)) (Zaa (v 10) yaa)))))) yaa) (c (.int 0))) (onK ZaG [none] (Zaa (v 1) (Zaa (c (.int 3)) (Zaa (c (.int 2)) (Zaa (v 10) yaa)))) yaa))))))))
def ZpG{Φ:D->Prop}{cc k:Int}(hk:0<=k/\k<=1000)(h:∀r:Int,0<=r/\r<2147483648->Φ (.int r)):Tl (ZbF [.int cc,.int k]) Φ:=by
 unfold ZbF;walk_at "w";refine ZgI (λ_=>?_) (λ_=>?_)
 ·walk_at "w";refine ZgI (λ_=>?_) (λ_=>?_)
  ·walk_at "w";refine ZgI (λ_=>?_) (λ_=>?_)
   ·walk_at "w";exact h _ (by omega)
   ·walk_at "w";exact h _ (by omega)
  ·walk_at "w";exact h _ (by omega)
 ·walk_at "w";exact h _ (by omega)
def Zha{Φ:D->Prop}{ns:List Int}{k:Int}(hk:0<=k)(h:∀n:Int,Φ (.int n)):Tl (ZaT [.lst (ns.map .int),.int k]) Φ:=by
 unfold ZaT;walk_at "w";refine ZgI (λhl=>?_) (λ_=>?_)
 ·walk_at "w";refine Zso (by omega) λn _=>?_;walk_at "w";exact h n
 ·walk_at "w";exact h 0
def Zly(n:Nat):ZbG 0 n=(List.range n).map λ(k:Nat)=>D.int (k:Int):=by
 unfold ZbG;simp
def Dw(r:Int):Prop:=0<=r/\r<2147483648
def Zpg{Φ:D->Prop}{cc:Int}{n:Nat}(hn:n<=900)(q:∀rs:List Int,rs.length=n->(∀r∈rs,Dw r)->Φ (.lst (rs.map .int))):Tl (ZbI [.int cc,.int (n:Int)]) Φ:=by
 unfold ZbI;walk_at "w";refine ⟨by simp [ZbG];omega,?_⟩;rw [Zly,Int.toNat_natCast];refine w_all (λ_ y=>∃r:Int,y=.int r/\Dw r) (λx hx=>?_) λys ly hy=>?_
 ·obtain ⟨k,hk,rfl⟩:=Vbt.mp hx;have hk:=Vai.mp hk;walk_at "w";exact ZpG (by omega) λr hr=>⟨r,rfl,hr⟩
 ·have l:ys.length=n:=by simpa using ly
  have hy':∀y∈ys,∃r:Int,y=.int r/\Dw r:=λy hm=>by
   obtain ⟨i,hi,rfl⟩:=VbS.mp hm;exact hy i _ _ (VbF (by omega)) (VbF hi)
  obtain ⟨rs,rfl,hrs⟩ : ∃rs:List Int,ys=rs.map .int/\∀r∈rs,Dw r:=by
   clear l hy ly q
   induction ys with
   | nil=>exact ⟨[],rfl,λ_ h=>(VbN h).elim⟩
   | cons y t ih =>
    obtain ⟨r,rfl,hr⟩:=hy' y Van;obtain ⟨rs,rfl,hrs⟩:=ih λz hz=>hy' z (Vao _ hz);refine ⟨r::rs,rfl,λu hu=>?_⟩;rcases Vaq.mp hu with rfl | hu
    ·exact hr
    ·exact hrs u hu
  walk_at "w";exact q rs (by simpa using l) hrs
def ZrY{Φ:List D->Prop}{i j:Int}(h0:(-1000000000<=i/\i<=1000000000)/\(-1000000000<=j/\j<=1000000000))(h:Φ (ZbG i (j - i).toNat)):Tl (rng2 [.int i,.int j]) Φ:=by
 refine ZaX ?_ h;show (if (-1000000000<=i/\i<=1000000000)/\(-1000000000<=j/\j<=1000000000) then Res.ok (ZbG i (j - i).toNat) else .bad)=_
 rw [if_pos h0]
def ZlX{i j:Int}{x:D}(h:x∈ZbG i (j - i).toNat):∃k:Int,i<=k/\k<j/\x=.int k:=by
 unfold ZbG at h;obtain ⟨k,hk,rfl⟩:=Vbt.mp h;have:=Vai.mp hk;exact ⟨_,by omega,by omega,rfl⟩
def ts0:D:=.lst []
def ts1:D:=.lst [.ins "Plain" ["triangle", "colour"] [.tup [.tup [.int 0,.int 0,.int 1,.int 1,.tup []],.tup [.int 3,.int 0,.int 1,.int 1,.tup []],.tup [.int 0,.int 3,.int 1,.int 1,.tup []]],.tup [.int 5,.int 1]]]
def Ts(t:D):Prop:=t=ts0\/t=ts1
def BF(r:Res D):Prop:=r=.ex "BadFloor"
def bfB:Res D->Bool
 | .ex c=>c == "BadFloor"
 | _=>false
def Zmn{r:Res D}(h:bfB r=true):BF r:=by
 cases r with
 | ok d=>cases h
 | ex c=>exact Vax _ (VaL.mp h)
 | bad=>cases h
def Bn(d:D):Prop:=Zas [d,.int 1,.int 64]=.ok (.bl false)
def bnB(d:D):Bool:=match Zas [d,.int 1,.int 64] with
 | .ok (.bl b)=>!b
 | _=>false
def Zlj{d:D}(h:bnB d=true):Bn d:=by
 unfold bnB at h;split at h
 ·next b e=>cases b with
  | false=>exact e
  | true=>cases h
 ·cases h
def Zjc{n:Int}(h:n<1\/64<n):Bn (.int n):=by
 refine Tl.eq ?_;unfold Zas;walk_at "w";refine ZaX (x:=.bl true) (by kernel_rfl) ?_;walk_at "w";refine ZgI (λ_=>?_) (λ_=>?_)
 ·walk_at "w";rw [Vaa (by omega)]
 ·walk_at "w"
def ZiM{Φ:D->Prop}{n:Int}(hn:Dw n)(h:∀d,Bn d->Φ d):Tl (ZaF [.int n,.int 64]) Φ:=by
 unfold Dw at hn;unfold ZaF;walk_at "w";refine Zkc ⟨by omega,by show n%9<((9:Nat):Int);omega⟩ λd hd=>?_;walk_at "w";refine h d ?_;simp only [Vaq,VbN,or_false] at hd;rcases hd with rfl | rfl | rfl | rfl | rfl | rfl | rfl | rfl | rfl
 ·exact Zjc (by omega)
 ·exact Zjc (by omega)
 ·exact Zjc (by omega)
 ·exact Zjc (by omega)
 ·exact Zlj (by decide +kernel)
 ·exact Zlj (by decide +kernel)
 ·exact Zlj (by decide +kernel)
 ·exact Zlj (by decide +kernel)
 ·exact Zlj (by decide +kernel)
def b3:Zas [.int 3,.int 1,.int 64]=.ok (.bl true):=by kernel_rfl
def fl_w{w h:D}(hw:Bn w):BF (Zao [w,h]):=by
 unfold BF Zao;refine x_fn (ZoP ?_);walk_at "w";refine ZaX hw ?_;walk_at "w";refine ZpP ?_;walk_at "w"
def fl_h{h:D}(hh:Bn h):BF (Zao [.int 3,h]):=by
 unfold BF Zao;refine x_fn (ZoP ?_);walk_at "w";refine ZaX b3 ?_;walk_at "w";refine ZaX hh ?_;walk_at "w";refine ZpP ?_;walk_at "w"
def ZsL{t w h s:D}(e:BF (Zao [w,h])):BF (ZaG [t,w,h,s,.non]):=by
 unfold BF ZaG;exact x_fn (Zmb (ZeE e))
def Ztl{t w h s:D}(e:BF (Zao [w,h])):BF (Zbc [t,w,h,s]):=by
 unfold BF Zbc;exact x_fn (Zmb (ZeE e))
def ZsG{t w h s a b:D}(e:BF (Zao [w,h])):BF (Zaj [t,w,h,a,b,s,.non]):=by
 unfold BF Zaj;exact x_fn (Zmb (ZeE e))
def ZrA{d:D}(h:Bn d):BF (ZbD [d]):=by
 unfold BF ZbD;refine x_fn (ZoP ?_);walk_at "w";refine ZaX h ?_;walk_at "w";refine ZpP ?_;walk_at "w"
def ZsP{t s a d:D}(h:Bn d):BF (Zaj [t,.int 3,.int 2,d,a,s,.non]):=by
 unfold BF Zaj;refine x_fn (Ztk ?_);walk_at "w";refine ZaX (x:=.non) (by kernel_rfl) ?_;exact x_gx (Zmb (ZeE (ZrA h)))
def ZsY:ZaE "BadFloor"=.ok (.bl true):=by kernel_rfl
def Zhp{Φ:D->Prop}{ix:List Nat}{me:ME}{ρ:Ev}{ds:List D}(e:capI ρ ix=some ds)(h:BF (me (ds.map .im)))(q:Φ (.bl true)):Tl (refM ix me ZaE ρ) Φ:=by
 refine ZaX ?_ q;unfold BF at h;unfold refM;rw [e]
 show (match me (ds.map .im) with
  | .ex c=>ZaE c
  | _=>.bad)=_
 rw [h];exact ZsY
def Rf(t w h s:D):Prop:=BF (ZaG [t,w,h,s,.non])/\BF (Zbc [t,w,h,s])/\BF (Zaj [t,w,h,.int 2,.non,s,.non])
def ZiT{Φ:D->Prop}{t w h s:D}(r:Rf t w h s)(q:Φ (.bl true)):Tl (Zaz [t,w,h,s]) Φ:=by
 unfold Zaz;walk_at "w";refine Zhp rfl r.1 ?_;walk_at "w";refine Zhp rfl r.2.1 ?_;walk_at "w";refine Zhp rfl r.2.2 ?_;walk_at "w";exact q
def bsL:List D:=[.lst [],.lst ((List.range 17).map λk:Nat=>.tup [.int (1+(k:Int)%7),.int (1+(k:Int)/7)]),.lst [.tup [.int 4,.int 4],.tup [.int 1,.int 7],.tup [.int 4,.int 4]],.lst [.tup [.int 4,.int 4],.tup [.int 1,.int 7],.tup [.int 0,.int 4]],.lst [.tup [.int 4,.int 4],.tup [.int 1,.int 7],.tup [.int 4,.int 8]],.lst [.tup [.int 8,.int 1],.tup [.int 4,.int 4],.tup [.int 1,.int 7]],.lst [.tup [.int 4,.int 4],.tup [.int 1,.int 7],.tup [.int 1,.int 2,.int 3]],.lst [.tup [.bl true,.int 2]],.lst [.tup [.int 2,.bl true]],.lst [.lst [.int 1,.int 2]],.lst [.tup [.int 4,.int 4],.tup [.int 1,.int 7],.non],.tup [.tup [.int 4,.int 4]],.str "4", .int 5,.lst [.tup [.int 4]],.lst [.tup [.int 4,.int 4],.tup [.int 1,.int 7],.tup [.int (-1),.int 4]]]
def Zsl(n:Int):ZaI [.int n]=((dIx (.lst bsL) (.int (n%16))).bind λd=>.ok (Fl.rt d)).bind endOf:=by kernel_rfl
def boL:List D:=[.lst [.int 0],.lst [.int 0,.int 1,.int 0],.lst [.int 1,.int 2],.lst [.int 0,.int 0,.int 0],.lst [.int 0,.int 1,.int 2],.tup [.int 0,.int 1],.str "0", .int 5,.lst [.bl false,.bl true],.lst [.int 0,.bl true],.lst [.bl true,.int 0],.lst [.bl false,.int 1],.lst [.int 0,.non],.lst [.int 0,.str "1"],.lst [.int 1,.int (-1)]]
def ZsE(n:Int):ZaQ [.int n,.int 2]=((dIx (.lst boL) (.int (n%15))).bind λd=>.ok (Fl.rt d)).bind endOf:=by kernel_rfl
def Zgd{Φ:D->Prop}{n:Int}(h:∀d∈bsL,Φ d):Tl (ZaI [.int n]) Φ:=by
 rw [Zsl];walk_at "w";refine Zkc ⟨by omega,by show n%16<((16:Nat):Int);omega⟩ λd hd=>?_;walk_at "w";exact h d hd
def ZjD{Φ:D->Prop}{n:Int}(h:∀d∈boL,Φ d):Tl (ZaQ [.int n,.int 2]) Φ:=by
 rw [ZsE];walk_at "w";refine Zkc ⟨by omega,by show n%15<((15:Nat):Int);omega⟩ λd hd=>?_;walk_at "w";exact h d hd
def ZrE:(bsL.all λs=>[ts0,ts1].all λt=>bfB (ZaG [t,.int 2,.int 3,s,.non])&&bfB (Zbc [t,.int 2,.int 3,s])&&bfB (Zaj [t,.int 2,.int 3,.int 2,.non,s,.non]))=true:=by decide +kernel
def gdL:List D:=[.non,.lst [.tup [.int 1,.int 1]],.lst [.tup [.int 4,.int 4],.tup [.int 7,.int 7]]]
def Zq0:(boL.all λs=>[ts0,ts1].all λt=>gdL.all λg=>bfB (Zaj [t,.int 3,.int 2,.int 2,s,g,.non]))=true:=by decide +kernel
def Zjo{t:D}(h:Ts t):t∈[ts0,ts1]:=by
 rcases h with rfl | rfl
 ·exact Van
 ·exact Vao _ Van
def Zmp{t s:D}(ht:Ts t)(hs:s∈bsL):Rf t (.int 2) (.int 3) s:=by
 have h:=Vbu.mp (Vbu.mp ZrE s hs) t (Zjo ht);rw [Vbf,Vbf] at h;exact ⟨Zmn h.1.1,Zmn h.1.2,Zmn h.2⟩
def Zl6{t s g:D}(ht:Ts t)(hs:s∈boL)(hg:g∈gdL):BF (Zaj [t,.int 3,.int 2,.int 2,s,g,.non]):=Zmn (Vbu.mp (Vbu.mp (Vbu.mp Zq0 s hs) t (Zjo ht)) g hg)
def ZoF:D:=.lst ((List.range 16).map λk:Nat=>.tup [.int (1+(k:Int)%7),.int (1+(k:Int)/7)])
def rowL(n:Nat):Res D->Bool
 | .ok (.lst (.lst xs::_))=>xs.length==n
 | _=>false
def ZrC{n:Nat}{r:Res D}(h:rowL n r=true):∃xs ys,r=.ok (.lst (.lst xs::ys))/\xs.length=n:=by
 unfold rowL at h;split at h
 ·next xs ys=>exact ⟨xs,ys,rfl,VaL.mp h⟩
 ·cases h
def ZsR:([ts0,ts1].all λt=>rowL 64 (ZaG [t,.int 64,.int 1,ZoF,.non]))=true:=by decide +kernel
def samB:Res D->Res D->Bool
 | .ok (.tup (x::_)),.ok y=>(match dEq x y with
  | .ok (.bl b)=>b
  | _=>false)
 | _,_=>false
def ZsA:([ts0,ts1].all λt=>samB (Zaj [t,.int 3,.int 2,.int 64,.lst [.int 0],ZoF,.non]) (ZaG [t,.int 3,.int 2,ZoF,.non]))=true:=by decide +kernel
def Zrl{r s:Res D}(h:samB r s=true):∃x ys y,r=.ok (.tup (x::ys))/\s=.ok y/\dEq x y=.ok (.bl true):=by
 unfold samB at h;split at h
 ·next x ys y =>
  split at h
  ·next b e =>
   subst h;exact ⟨x,ys,y,rfl,rfl,e⟩
  ·cases h
 ·cases h
def ZsD(k:Int):ZbS [.lst [],.int 64,.int k,.lst [.tup [.int 4,.int 4]],.tup [.int 0,.int 1]]=.ok (.lst (List.replicate 64 (.tup [.int 0,.int 1]))):=by kernel_rfl
def Zoc{Φ:D->Prop}{it:MI}{own:Nat}{cap:List Nat}{g:MG}{t:MB}{e:ME}{ρ:Ev}(h:Tl (it ρ) λxs=>xs.length<=1000000/\Tl (Zan g t e (noA own (yag ρ cap)) xs) λys=>Φ (.lst ys)):Tl (Zii it own cap g t e ρ) Φ:=by
 obtain ⟨xs,e1,hl,ys,e2,q⟩:=h;refine ZaX ?_ q;unfold Zii;rw [e1];show (if xs.length<=LIM then (Zan g t e (noA own (yag ρ cap)) xs).bind (λys=>Res.ok (D.lst ys)) else .bad)=_
 rw [if_pos (show xs.length<=LIM from hl),e2];rfl
def ZoS:Tl (ZaG [.lst [],.int 64,.int 64,.non,.non]) λd=>∃ys:List D,d=.lst ys/\ys.length=64:=by
 unfold ZaG;walk_at "w";refine ZaX (x:=.non) (by kernel_rfl) ?_;walk_at "w";refine ZaX (x:=.lst [.tup [.int 4,.int 4]]) (by kernel_rfl) ?_;walk_at "w";refine ZaX (x:=.tup [.int 0,.int 1]) (by kernel_rfl) ?_;walk_at "w";refine Zoc ?_;walk_at "w";refine ⟨by simp [ZbG],?_⟩;refine w_all (λ_ _=>True) (λx hx=>?_) λys ly _=>?_
 ·unfold ZbG at hx;obtain ⟨k,_,rfl⟩:=Vbt.mp hx;walk_at "w";exact ZaX (ZsD _) trivial
 ·walk_at "w";exact ⟨ys,rfl,by rw [ly];unfold ZbG;simp⟩
def ZmA(ns:List Int)(h63:ns.length<=63):Zr3 [.lst (ns.map .int)]=.ok (.bl true):=by
 refine Tl.eq ?_;unfold Zr3;walk_at "w";refine Zha (by decide) λc0=>?_;walk_at "w";refine Tl.mono (Ψ:=λfl=>∃t,Ts t/\fl=Fl.nx [.im (.lst (ns.map .int)),.im t,.no,.no,.no,.no,.no,.no,.no,.no,.no]) ?_ ?_
 ·refine ZgI (λ_=>?_) (λ_=>?_)
  ·walk_at "w";refine ZaX (x:=.ins "Plain" ["triangle", "colour"] [.tup [.tup [.int 0,.int 0,.int 1,.int 1,.tup []],.tup [.int 3,.int 0,.int 1,.int 1,.tup []],.tup [.int 0,.int 3,.int 1,.int 1,.tup []]],.tup [.int 5,.int 1]]) (by kernel_rfl) ?_;walk_at "w";exact ⟨ts1,.inr rfl,rfl⟩
  ·walk_at "w";exact ⟨ts0,.inl rfl,rfl⟩
 rintro fl ⟨t,ht,rfl⟩;walk_at "w";refine w_r2 ?_;walk_at "w";refine ZrY (by omega) ?_;walk_at "w";refine Ztj (λρ=>∃v2 v3 v4 v5 v6 v7 v8 v9 v10:Cl,ρ=[.im (.lst (ns.map .int)),.im t,v2,v3,v4,v5,v6,v7,v8,v9,v10]) ⟨_,_,_,_,_,_,_,_,_,rfl⟩ ?_ ?_
 ·rintro x hx ρ ⟨v2,v3,v4,v5,v6,v7,v8,v9,v10,rfl⟩;obtain ⟨k,hk,_,rfl⟩:=ZlX hx;walk_at "w";refine Zha (by omega) λcc=>?_;walk_at "w";refine Zpg (n:=3) (by decide) λds ld hd=>?_;obtain ⟨wy,nu,mo,rfl⟩ : ∃wy nu mo,ds=[wy,nu,mo]:=by
   match ds,ld with
   | [a,b,c],_=>exact ⟨a,b,c,rfl⟩
  have h1:Dw nu:=hd nu (by simp);have h2:Dw mo:=hd mo (by simp);clear hd ld;rw [show List.map D.int [wy,nu,mo]=[D.int wy,D.int nu,D.int mo] from rfl];walk_at "w";refine Zkc ⟨by omega,by show mo%3<((3:Nat):Int);omega⟩ λg hg=>?_;have hg:g∈gdL:=hg;walk_at "w";refine Tl.mono (Ψ:=λfl=>∃v8 v9:Cl,fl=Fl.nx [.im (.lst (ns.map .int)),.im t,.im (.int k),.im (.int wy),.im (.int nu),.im (.int mo),.im g,.im (.bl true),v8,v9,v10]) ?_ ?_
  ·refine ZgI (λ_=>?_) (λ_=>?_)
   ·walk_at "w";refine ZiM h1 λd hd=>?_;walk_at "w";refine Zkc ⟨by omega,by show mo/4%3<((3:Nat):Int);omega⟩ λz hz=>?_;walk_at "w";obtain ⟨w,h,rfl,hr⟩ : ∃w h,z=.tup [w,h]/\BF (Zao [w,h]):=by
     simp only [Vaq,VbN,or_false] at hz;rcases hz with rfl | rfl | rfl
     ·exact ⟨_,_,rfl,fl_w hd⟩
     ·exact ⟨_,_,rfl,fl_h hd⟩
     ·exact ⟨_,_,rfl,fl_w hd⟩
    walk_at "w";refine Zgd λs _=>?_;walk_at "w";refine Zkc ⟨by omega,by show mo/16%2<((2:Nat):Int);omega⟩ λu _=>?_;walk_at "w";refine ZiT ⟨ZsL hr,Ztl hr,ZsG hr⟩ ?_;walk_at "w";exact ⟨_,_,rfl⟩
   ·walk_at "w";refine ZgI (λ_=>?_) (λ_=>?_)
    ·walk_at "w";refine Zgd λs hs=>?_;walk_at "w";refine ZiT (Zmp ht hs) ?_;walk_at "w";exact ⟨_,_,rfl⟩
    ·walk_at "w";refine ZgI (λ_=>?_) (λ_=>?_)
     ·walk_at "w";refine Zhp rfl ?_ ?_
      ·refine Zhy ?_;walk_at "w";refine ZiM h1 λd hd=>?_;walk_at "w";exact ZsP hd
      ·walk_at "w";exact ⟨_,_,rfl⟩
     ·walk_at "w";refine Zhp rfl ?_ ?_
      ·refine Zhy ?_;walk_at "w";refine ZjD λs hs=>?_;walk_at "w";exact Zl6 ht hs hg
      ·walk_at "w";exact ⟨_,_,rfl⟩
  rintro fl ⟨v8',v9',rfl⟩;walk_at "w";exact ⟨_,rfl,_,_,_,_,_,_,_,_,_,rfl⟩
 rintro ρ ⟨v2,v3,v4,v5,v6,v7,v8,v9,v10,rfl⟩;walk_at "w";refine ⟨by decide,?_⟩;refine ZaX (x:=(List.range 16).map λk:Nat=>D.tup [.int (1+(k:Int)%7),.int (1+(k:Int)/7)]) (by kernel_rfl) ?_;walk_at "w";obtain ⟨xs,ys,e1,l1⟩:=ZrC (Vbu.mp ZsR t (Zjo ht));refine ZaX (x:=.lst (.lst xs::ys)) e1 ?_;walk_at "w";refine Tl.mono (show Tl (ZaG [.lst [],.int 64,.int 64,.non,.non]) _ from ZoS) ?_;rintro d ⟨zs,rfl,l2⟩;walk_at "w";obtain ⟨x,us,y,e2,e3,e4⟩:=Zrl (Vbu.mp ZsA t (Zjo ht));refine ZaX (x:=.tup (x::us)) e2 ?_;walk_at "w";refine ZaX (x:=y) e3 ?_;exact ZaX e4 (by walk_at "w")
end My
namespace My
open PySem L2 Ds Dl
def top(i:Nat):Stmt:=PySem.Challenge.pw_sampleyard_k56_floors_refused.main.body.getD i (.Pass ⟨0,0,0,0⟩)
abbrev Zbk:Stmt:=top 27
abbrev ZeF:Stmt:=top 9
abbrev Zdl:Stmt:=top 73
abbrev ZdI:Stmt:=top 72
abbrev ZbO:Stmt:=top 71
abbrev ZbB:Stmt:=(inClass (top 75) 0)
abbrev Zbm:Stmt:=top 11
abbrev ZcC:Stmt:=top 22
abbrev Zcm:Stmt:=top 77
abbrev Zbx:Stmt:=(inClass (top 76) 0)
abbrev ZbC:Stmt:=top 82
abbrev Zdf:Stmt:=top 10
abbrev ZcG:Stmt:=top 39
abbrev Zbn:Stmt:=top 54
abbrev ZiJ:Stmt:=top 14
abbrev ZbA:Stmt:=top 12
abbrev ZdK:Stmt:=top 33
abbrev Zbg:Stmt:=top 32
abbrev Zcl:Stmt:=top 25
abbrev ZlE:Stmt:=top 24
abbrev Zp0:Stmt:=top 28
abbrev ZeH:Stmt:=top 26
abbrev ZfE:Stmt:=top 29
abbrev Zfq:Stmt:=top 31
abbrev Zd2:Stmt:=top 44
abbrev ZfP:Stmt:=top 35
abbrev ZdF:Stmt:=top 51
abbrev Zfk:Stmt:=top 41
abbrev Zcw:Stmt:=top 40
abbrev Zbs:Stmt:=top 42
abbrev Za0:Stmt:=top 53
abbrev ZbK:Stmt:=top 43
abbrev Zbl:Stmt:=(inClass (top 76) 2)
abbrev Zih:Stmt:=top 16
abbrev Zkf:Stmt:=top 15
abbrev ZfJ:Stmt:=top 17
abbrev Zd5:Stmt:=top 48
abbrev Zbz:Stmt:=(inClass (top 75) 1)
abbrev Zim:Stmt:=top 19
abbrev Zcx:Stmt:=top 47
abbrev Zdj:Stmt:=top 46
abbrev ZdP:Stmt:=top 45
abbrev ZfH:Stmt:=top 18
abbrev ZcP:Stmt:=top 52
abbrev Zcv:Stmt:=top 50
abbrev ZcA:Stmt:=top 49
abbrev Zdg:Stmt:=top 60
abbrev Zcz:Stmt:=top 21
abbrev Zd3:Stmt:=top 65
abbrev ZeK:Stmt:=top 20
abbrev ZgM:Stmt:=top 67
abbrev ZfG:Stmt:=top 66
abbrev Zc6:Stmt:=top 59
abbrev ZdS:Stmt:=top 64
abbrev Zbr:Stmt:=top 61
abbrev ZcE:Stmt:=top 68
abbrev ZdW:Stmt:=top 63
abbrev ZcD:Stmt:=top 57
abbrev Zc3:Stmt:=top 58
abbrev ZaD:Stmt:=top 62
abbrev Zbe:Stmt:=top 86
abbrev Zby:Stmt:=top 83
abbrev ZbL:Stmt:=top 85
abbrev ZbQ:Stmt:=top 84
abbrev Zch:Stmt:=top 79
abbrev Zdk:Stmt:=top 80
abbrev Zc5:Stmt:=top 81
abbrev ZgE:Stmt:=top 87
local macro_rules | `(tactic| walk_at "sc")=>`(tactic| exact ⟨rfl,rfl,rfl,by decide +kernel,rfl,by decide +kernel,by decide +kernel⟩)
def Zb2:Zag ["corners", "corner"] ["corners"] (Zac Zbk):=by walk_at "sc"
def Zfn:Zag ["thing"] ["thing"] (Zac ZeF):=by walk_at "sc"
def Zei:Zag ["thing"] ["thing"] (Zac Zdl):=by walk_at "sc"
def ZeQ:Zag ["thing"] ["thing"] (Zac ZdI):=by walk_at "sc"
def Zcp:Zag ["triangle", "corner"] ["triangle"] (Zac ZbO):=by walk_at "sc"
def Zca:Zag ["self", "triangle"] ["self", "triangle"] (Zac ZbB):=by walk_at "sc"
def Zb0:Zag ["numbers", "found", "number", "rest", "left"] ["numbers"] (Zac Zbm):=by walk_at "sc"
def Zdv:Zag ["thing"] ["thing"] (Zac ZcC):=by walk_at "sc"
def Zdd:Zag ["colour"] ["colour"] (Zac Zcm):=by walk_at "sc"
def Zb6:Zag ["self", "triangle", "colour"] ["self", "triangle", "colour"] (Zac Zbx):=by walk_at "sc"
def Zak:Zag ["_law_deed", "_law_found", "e", "_law_others"] ["_law_deed"] (Zac ZbC):=by walk_at "sc"
def Zep:Zag ["thing", "least", "most"] ["thing", "least", "most"] (Zac Zdf):=by walk_at "sc"
def Zdx:Zag ["width", "height"] ["width", "height"] (Zac ZcG):=by walk_at "sc"
def Za7:Zag ["sights", "depths"] ["sights"] (Zac Zbn):=by walk_at "sc"
def Zjm:Zag ["top", "bottom", "divisor"] ["top", "bottom"] (Zac ZiJ):=by walk_at "sc"
def Zb8:Zag ["three", "other"] ["three", "other"] (Zac ZbA):=by walk_at "sc"
def ZeT:Zag ["triangle", "amounts"] ["triangle", "amounts"] (Zac ZdK):=by walk_at "sc"
def ZaP:Zag ["triangle", "amounts", "bottom", "depth", "threes"] ["triangle", "amounts"] (Zac Zbg):=by walk_at "sc"
def Zdi:Zag ["one", "other"] ["one", "other"] (Zac Zcl):=by walk_at "sc"
def ZkA:Zag ["one", "other", "point", "n", "number"] ["one", "other", "point"] (Zac ZlE):=by walk_at "sc"
def Znz:Zag ["triangle", "point", "turn"] ["triangle", "point"] (Zac Zp0):=by walk_at "sc"
def Zfh:Zag ["one", "other", "point"] ["one", "other", "point"] (Zac ZeH):=by walk_at "sc"
def Zgg:Zag ["triangle", "point"] ["triangle", "point"] (Zac ZfE):=by walk_at "sc"
def Zgm:Zag ["triangle", "point"] ["triangle", "point"] (Zac Zfq):=by walk_at "sc"
def ZeV:Zag ["things", "p", "sights", "thing", "seen"] ["things", "p"] (Zac Zd2):=by walk_at "sc"
def Zgk:Zag ["column", "row", "spot"] ["column", "row", "spot"] (Zac ZfP):=by walk_at "sc"
def ZeS:Zag ["things", "column", "row", "spots"] ["things", "column", "row", "spots"] (Zac ZdF):=by walk_at "sc"
def Zgo:Zag ["thing"] ["thing"] (Zac Zfk):=by walk_at "sc"
def Zdy:Zag ["spots"] ["spots"] (Zac Zcw):=by walk_at "sc"
def Zb7:Zag ["spots"] ["spots"] (Zac Zbs):=by walk_at "sc"
def Zfu:Zag ["things", "width", "height", "spots", "places", "cells", "row", "column"] ["things", "width", "height", "spots"] (Zac Za0):=by walk_at "sc"
def Zcs:Zag ["ground"] ["ground"] (Zac ZbK):=by walk_at "sc"
def ZbY:Zag ["self", "values"] ["self", "values"] (Zac Zbl):=by walk_at "sc"
def Zjd:Zag ["one", "other"] ["one", "other"] (Zac Zih):=by walk_at "sc"
def ZlH:Zag ["one", "other"] ["one", "other"] (Zac Zkf):=by walk_at "sc"
def Zgb:Zag ["one", "other"] ["one", "other"] (Zac ZfJ):=by walk_at "sc"
def ZeW:Zag ["glass", "colour", "left"] ["glass", "colour"] (Zac Zd5):=by walk_at "sc"
def Zb9:Zag ["self"] ["self"] (Zac Zbz):=by walk_at "sc"
def Zje:Zag ["one", "other"] ["one", "other"] (Zac Zim):=by walk_at "sc"
def Zcg:Zag ["nearest", "sights", "layers", "sight", "place"] ["nearest", "sights"] (Zac Zcx):=by walk_at "sc"
def Zeb:Zag ["sights", "nearest", "sight"] ["sights"] (Zac Zdj):=by walk_at "sc"
def ZcY:Zag ["sights", "ground", "nearest", "colour", "sight"] ["sights", "ground"] (Zac ZdP):=by walk_at "sc"
def Zgc:Zag ["some", "total", "fraction"] ["some"] (Zac ZfH):=by walk_at "sc"
def ZdB:Zag ["sights_by_spot", "ground"] ["sights_by_spot", "ground"] (Zac ZcP):=by walk_at "sc"
def ZdC:Zag ["things", "width", "row", "spots", "ground"] ["things", "width", "row", "spots", "ground"] (Zac Zcv):=by walk_at "sc"
def Zjg:Zag ["things", "width", "height", "spots", "ground", "places", "beneath"] ["things", "width", "height", "spots", "ground"] (Zac ZcA):=by walk_at "sc"
def Zew:Zag ["wide"] ["wide"] (Zac Zdg):=by walk_at "sc"
def Zdu:Zag ["some", "greatest", "fraction"] ["some"] (Zac Zcz):=by walk_at "sc"
def ZeZ:Zag ["least_depths"] ["least_depths"] (Zac Zd3):=by walk_at "sc"
def ZfI:Zag ["some", "least", "fraction"] ["some"] (Zac ZeK):=by walk_at "sc"
def Zhv:Zag ["least", "depth"] ["least", "depth"] (Zac ZgM):=by walk_at "sc"
def Zgf:Zag ["thing", "points", "sights_by_point", "least_depths", "place", "point", "seen"] ["thing", "points", "sights_by_point", "least_depths"] (Zac ZfG):=by walk_at "sc"
def Zes:Zag ["triangle"] ["triangle"] (Zac Zc6):=by walk_at "sc"
def ZbE:Zag ["things", "points", "sights_by_point", "least_depths", "let_go", "number", "thing", "near", "far"] ["things", "points"] (Zac ZdS):=by walk_at "sc"
def Zcf:Zag ["order", "count"] ["order", "count"] (Zac Zbr):=by walk_at "sc"
def Zdw:Zag ["picture", "cells", "sights_by_point", "ground", "count", "place", "cell", "sights_by_spot"] ["picture", "cells", "sights_by_point", "ground"] (Zac ZcE):=by walk_at "sc"
def ZeX:Zag ["cells", "spots", "points", "column", "row"] ["cells", "spots"] (Zac ZdW):=by walk_at "sc"
def ZdE:Zag ["length", "wide"] ["length", "wide"] (Zac ZcD):=by walk_at "sc"
def Zex:Zag ["width", "height", "wide", "tile", "across", "left", "top", "cells", "row", "column"] ["width", "height", "wide", "tile"] (Zac Zc3):=by walk_at "sc"
def Zck:Zag ["things", "width", "height", "wide", "order", "spots", "ground", "tiles", "places", "beneath", "picture", "let_go", "tile", "cells", "looked"] ["things", "width", "height", "wide", "order", "spots", "ground"] (Zac ZaD):=by walk_at "sc"
def Zd6:Zag ["_law_things", "_law_width", "_law_height", "_law_spots"] ["_law_things", "_law_width", "_law_height", "_law_spots"] (Zac Zbe):=by walk_at "sc"
def Zcc:Zag ["_law_number", "_law_most", "_law_far"] ["_law_number", "_law_most"] (Zac Zby):=by walk_at "sc"
def Za2:Zag ["_law_number", "_law_many", "_law_right", "_law_some"] ["_law_number", "_law_many"] (Zac ZbL):=by walk_at "sc"
def Zbw:Zag ["_law_number", "_law_one", "_law_many", "_law_some"] ["_law_number"] (Zac ZbQ):=by walk_at "sc"
def Zde:Zag ["_law_script", "_law_k"] ["_law_script", "_law_k"] (Zac Zch):=by walk_at "sc"
def Zek:Zag ["_law_cell", "_law_k", "_law_number"] ["_law_cell", "_law_k"] (Zac Zdk):=by walk_at "sc"
def Zey:Zag ["_law_cell", "_law_many"] ["_law_cell", "_law_many"] (Zac Zc5):=by walk_at "sc"
def ZbR:Zag ["_law_script", "_law_things", "_law_k", "_law_way", "_law_number", "_law_more", "_law_good", "_law_right", "_law_bad", "_law_sizes", "_law_many"] ["_law_script"] (Zac ZgE):=by walk_at "sc"
structure Txt(K:W.Frag)(mg:Str->Option Value):Prop where
 yah:mg "ValueError"=none
 ycN:mg "abs"=none
 ycw:mg "all"=none
 ycO:mg "any"=none
 ycE:mg "bool"=none
 yaS:mg "enumerate"=none
 ycP:mg "int"=none
 yab:mg "isinstance"=none
 yb1:mg "len"=none
 ybQ:mg "list"=none
 ycF:mg "max"=none
 ycG:mg "min"=none
 yaG:mg "range"=none
 ycH:mg "set"=none
 ycx:mg "sorted"=none
 ycQ:mg "str"=none
 yb2:mg "tuple"=none
 ycR:mg "zip"=none
 yap:∃tk,mg "MOST_CELLS"=some (.int 64 tk)
 yaH:∃tk,mg "MOST_SPOTS"=some (.int 16 tk)
 yaw:∃tk,mg "MOST_VALUES"=some (.int 3 tk)
 yaT:∃tk,mg "MOST_WIDE"=some (.int 64 tk)
 ybt:∃C,mg "BadFloor"=some (.ref C)
 ybg:∃C,mg "BadPattern"=some (.ref C)
 ybu:∃C,mg "BadThing"=some (.ref C)
 yaU:∃C,mg "BadTriangle"=some (.ref C)
 yck:∃C,mg "NoRow"=some (.ref C)
 ybm:∃C,mg "YardError"=some (.ref C)
 yaJ:∃C,mg "BadFloor"=some (.ref C)/\W.excIn K C Zg4 "ValueError.__new__"=true
 ycd:∃C,mg "BadThing"=some (.ref C)/\W.excIn K C Zg4 "ValueError.__new__"=true
 yaV:∃C,mg "BadTriangle"=some (.ref C)/\W.excIn K C Zg4 "ValueError.__new__"=true
 h_YardError:∀C,mg "YardError"=some (.ref C)->∀c∈(["BadFloor", "BadThing", "BadTriangle"]:List Str),∃D,mg c=some (.ref D)/\W.exmOne K (.ref D) (.ref C)=some true
 tab:TabOk K mg tabC tabT
 f_colour:ZfL K mg objs "colour"
 f_part:ZfL K mg objs "part"
 f_triangle:ZfL K mg objs "triangle"
abbrev Zt:Tbs:=[(570,("_law_all_refused" : Str) ++ ".<locals>." ++ "<lambda>"),(577,("law" : Str) ++ ".<locals>." ++ "<lambda>")]
def Ct:Addr->Addr:=λp=>if p=570 then 574 else 579
def Zm_0:(570,("_law_all_refused" : Str) ++ ".<locals>." ++ "<lambda>")∈Zt:=.head _
def Zu_0:∀z∈Zt,z.1=570->z.2=("_law_all_refused" : Str) ++ ".<locals>." ++ "<lambda>" := Vb2.mpr ⟨λ_=>rfl,Vb2.mpr ⟨λh=>absurd h (by decide),λ_ h=>absurd h VbN⟩⟩
def Zm_1:(577,("law" : Str) ++ ".<locals>." ++ "<lambda>")∈Zt:=.tail _ (.head _)
def Zu_1:∀z∈Zt,z.1=577->z.2=("law" : Str) ++ ".<locals>." ++ "<lambda>" := Vb2.mpr ⟨λh=>absurd h (by decide),Vb2.mpr ⟨λ_=>rfl,λ_ h=>absurd h VbN⟩⟩
section
variable{P:Program}{w:World}{K:W.Frag}{mg:Str->Option Value}{base:Heap}
set_option hygiene false in
local macro_rules | `(tactic| walk_at "e")=>`(tactic| repeat' first
 | exact Zam
 | exact ZkE
 | exact ycv
 | exact Zsz
 | exact Zah
 | exact Zpq
 | exact d_v _
 | refine' Zab ?_ ?_
 | refine' ybP ?_ ?_
 | refine' Za9 (by first | assumption | exact CalO.cal (by assumption) | exact CalN.cal (by assumption)) hr (by decide) rfl Zau ?_
 | refine' ZpO (by first | assumption | exact CalO.cal (by assumption) | exact CalN.cal (by assumption)) hr (by decide) rfl ?_
 | refine' Zph (by first | assumption | exact CalO.cal (by assumption) | exact CalN.cal (by assumption)) hr (by decide) rfl ?_
 | refine' Zmv ?_ ?_
 | refine' ZsW ?_ ?_
 | refine' ZsK ?_ ?_
 | refine' ZgU ?_ ?_
 | refine' Zl4 ?_ ?_
 | refine' d_pow ?_ ?_
 | refine' Zsm ?_ ?_
 | refine' ZsX ?_ ?_
 | refine' ZoZ ?_ ?_
 | refine' ZsH ?_ ?_
 | refine' ZsM ?_ ?_
 | refine' ZsU ?_ ?_
 | refine' ycV ?_ ?_
 | refine' ycW ?_ ?_
 | refine' d_gt ?_ ?_
 | refine' ycX ?_ ?_
 | refine' Zh6 ?_ ?_
 | refine' Zns ?_ ?_
 | refine' Zfl ?_ ?_
 | refine' d_or ?_ ?_
 | refine' ZjJ hr ?_ ?_
 | refine' Zlg hr ?_ ?_
 | refine' ZsO hr ?_ ?_
 | refine' dt_nin hr ?_ ?_
 | refine' ycT hr ?_ ?_
 | refine' ycU hr ?_ ?_
 | refine' d_in hr ?_ ?_
 | refine' d_nin hr ?_ ?_
 | exact ycu rfl T.yah Za4
 | exact ycu rfl T.ycE ZnV
 | exact ycu rfl T.ycP Zrw
 | exact ycu rfl T.ybQ Zh9
 | exact ycu rfl T.yb2 ZgQ
 | refine' yaP (Zhe rfl) ZhM rfl T.ycF Znb ?_
 | refine' yaP (ZhK rfl) ZhO rfl T.ycG Znf ?_
 | refine' yaP Zmi Zlm rfl T.ycN ZrU ?_
 | refine' yaP ZaL (ZaC T.tab) rfl T.yab Zal ?_
 | refine' yaP Zkz ZkO rfl T.yab Zal ?_
 | refine' yaP ZbH Zdb rfl T.yb1 Zgi ?_
 | refine' yaP ZjC ZiC rfl T.ycx Zle ?_
 | refine' ycL ZhF ZkQ rfl T.ycQ Zr6 ?_
 | refine' ycL Zel Zfy rfl T.yb2 ZgQ ?_
 | refine' ZpZ T.f_colour ?_
 | refine' ZpZ T.f_part ?_
 | refine' ZpZ T.f_triangle ?_
 | refine' Zb4 ?_ ?_
 | refine' ZfC ?_ ?_
 | refine' Zsp ?_ ?_ ?_
 | refine' Zsu ?_ ?_ ?_
 | refine' Zsw ?_
 | refine' Zen ?_
 | refine' ZjK ?_
 | refine' Zko ?_
 | refine' Zlr ?_
 | refine' d_isN ?_
 | refine' d_notN ?_
 | refine' ZoB ?_
 | refine' ZjZ ?_
 | refine' Zgq ?_
 | refine' Zob ?_
 | refine' ZcS ?_
 | refine' DW.dt ?_
 | exact ZaM
 | exact Zlb
 | exact ds_retN
 | exact Zlp
 | exact ds_brk
 | exact ds_pass
 | refine' Zar ?_
 | refine' Zai ?_ ?_
 | refine' Zbb ?_
 | refine' ZcU ?_ ?_ ?_
 | refine' ZaW hN rfl (by first | exact Or.inl rfl | exact Or.inr rfl) ?_
 | refine' ZpB hN rfl (by first | exact Or.inl rfl | exact Or.inr rfl) ?_ ?_
 | refine' Zr4 _ ?_
 | refine' Zqi ?_
 | refine' Znc ?_ ?_
 | refine' Zer Vb3 rfl ?_ ?_ ?_
 | exact ZdR hN rfl (by first | exact Or.inl rfl | exact Or.inr rfl) (by decide)
 | refine' Zny rfl ?_
 | refine' Zfd ?_ ?_
 | refine' Zsi rfl T.yaG ?_
 | refine' Zba ?_
 | refine' Zro ?_
 | refine' ZlL rfl yaK yaL ?_ ?_
 | refine' ZlL rfl yce ycf ?_ ?_
 | refine' ZlL rfl yaW yaX ?_ ?_
 | decide
 | fail)
local macro_rules | `(tactic| walk_at "co")=>`(tactic| exact Zb1.of rfl rfl (by kernel_rfl) rfl (by repeat' (first | exact trivial | refine ⟨rfl,?_⟩)) (by repeat' (first | exact trivial | refine ⟨rfl,?_⟩)))
local macro_rules | `(tactic| walk_at "cg")=>`(tactic| exact λ_ _ _ _ _=>ZdR (by show List.Nodup ((_:List Str) ++ (_:List Str));decide +kernel) rfl (by first | exact Or.inl rfl | exact Or.inr rfl) (by decide))
local macro_rules | `(tactic| walk_at "ct")=>`(tactic| exact λ_ _ _ _ _=>ZkN)
local macro_rules | `(tactic| walk_at "ce")=>`(tactic| (intro _ _ _ _ _;walk_at "e"))
def Zd4(T:Txt K mg)(D:Def K mg "check_before_eye" Zbk ["corners"])  : Cal P w K mg base 1  "check_before_eye" ["corners"]  ZaK:=by
 obtain ⟨ybx,yaW,yaX⟩:=T.yaV;exact D.cal Zb2 (λf cdv A outer s H E hr=>have hN:=Zb2.nd;⟨_,(by walk_at "e")⟩)
def Zin(T:Txt K mg)(D:Def K mg "is_whole" ZeF ["thing"])  : Cal P w K mg base 1  "is_whole" ["thing"]  ZaH:=by
 exact D.cal Zfn (λf cdv A outer s H E hr=>have hN:=Zfn.nd;⟨_,(by walk_at "e")⟩)
def ZgW(T:Txt K mg)(D:Def K mg "are_values" Zdl ["thing"])(yaM:Cal P w K mg base 1  "is_whole" ["thing"] ZaH):Cal P w K mg base 2  "are_values" ["thing"]  Zc2:=by
 obtain ⟨tk_MOST_VALUES,yaw⟩:=T.yaw
 exact D.cal Zei (λf cdv A outer s H E hr=>have hN:=Zei.nd;⟨_,(Zai (ZcU (DW.dt (Zh6 (by walk_at "e") (Zgq (ZoZ (by walk_at "e") (ycD rfl yaw)))))
  (Zar (Zbb ycv))
  ZaM)
  (Zar (Zbb (yaP (Zev rfl) Zd9 rfl T.ycw ZiZ (Zab (Zcb (own:=["number"]) (cap:=[]) (Zba (d_v 0)) (by walk_at "co") rfl (by walk_at "cg") (by walk_at "ct") (by walk_at "ce")) Zah)))))⟩)
def Zhc(T:Txt K mg)(D:Def K mg "is_corner" ZdI ["thing"])(yaM:Cal P w K mg base 1  "is_whole" ["thing"] ZaH)(c_are_values:Cal P w K mg base 2  "are_values" ["thing"] Zc2):Cal P w K mg base 3  "is_corner" ["thing"]  ZdY:=by
 exact D.cal ZeQ (λf cdv A outer s H E hr=>have hN:=ZeQ.nd;⟨_,(Zai (by walk_at "e")
  (Zai (ZcU (Zen (ZcS (yaP (Zev rfl) Zd9 rfl T.ycw ZiZ (Zab (Zcb (own:=["number"]) (cap:=[]) (by walk_at "e") (by walk_at "co") rfl (by walk_at "cg") (by walk_at "ct") (by walk_at "ce")) Zah))))
  (Zar (Zbb ycv))
  ZaM)
  (by walk_at "e")))⟩)
def ZeM(T:Txt K mg)(D:Def K mg "check_triangle" ZbO ["triangle"])(c_is_corner:Cal P w K mg base 3  "is_corner" ["thing"] ZdY):Cal P w K mg base 4  "check_triangle" ["triangle"]  ZbJ:=by
 obtain ⟨ybx,yaW,yaX⟩:=T.yaV;exact D.cal Zcp (λf cdv A outer s H E hr=>have hN:=Zcp.nd;⟨_,(by walk_at "e")⟩)
def Zml{f:Addr}{fd:FuncData}(T:Txt K mg)(F:Fun K "__init__" "Thing.__init__" ZbB f fd)(yaY:Cal P w K mg base 1  "check_before_eye" ["corners"] ZaK)(c_check_triangle:Cal P w K mg base 4  "check_triangle" ["triangle"] ZbJ):FnOk P w K mg base (CXR P w) 5 f fd ["self", "triangle"] (spI K mg 1 objs Zgz):=by
 exact okI F Zca (by decide) rfl (λcdv A outer s H E hr=>have hN:=Zca.nd;⟨_,(ZkX (by walk_at "e")
  (ZkX (by walk_at "e")
  (ZnA T.f_triangle (d_v 1)
  Zno)))⟩)
def ZdZ(T:Txt K mg)(D:Def K mg "greatest_divisor" Zbm ["numbers"])  : Cal P w K mg base 1  "greatest_divisor" ["numbers"]  ZaJ:=by
 exact D.cal Zb0 (λf cdv A outer s H E hr=>have hN:=Zb0.nd;⟨_,(Zai (by walk_at "e")
  (Zai (Zer Vb3 rfl (Zba (d_v 0)) (by walk_at "e")
  (Zai (by walk_at "e")
  (Zar (ZrB Vb3 (ZjJ hr (d_v 3) Zam)
  (by walk_at "e")))))
  (by walk_at "e")))⟩)
def Zf0(T:Txt K mg)(D:Def K mg "is_fraction" ZcC ["thing"])(yaM:Cal P w K mg base 1  "is_whole" ["thing"] ZaH)(yaZ:Cal P w K mg base 1  "greatest_divisor" ["numbers"] ZaJ):Cal P w K mg base 2  "is_fraction" ["thing"]  ZcL:=by
 exact D.cal Zdv (λf cdv A outer s H E hr=>have hN:=Zdv.nd;⟨_,(by walk_at "e")⟩)
def Zfg(T:Txt K mg)(D:Def K mg "check_colour" Zcm ["colour"])(c_is_fraction:Cal P w K mg base 2  "is_fraction" ["thing"] ZcL):Cal P w K mg base 3  "check_colour" ["colour"]  Zcj:=by
 obtain ⟨C_BadThing,yce,ycf⟩:=T.ycd;exact D.cal Zdd (λf cdv A outer s H E hr=>have hN:=Zdd.nd;⟨_,(by walk_at "e")⟩)
def Zm3{f:Addr}{fd:FuncData}(T:Txt K mg)(F:Fun K "__init__" "Plain.__init__" Zbx f fd)(ycy:CalS P w K mg base 5 "Thing" "__init__" 1 objs Zgz)(c_check_colour:Cal P w K mg base 3  "check_colour" ["colour"] Zcj):FnOk P w K mg base (CXR P w) 7 f fd ["self", "triangle", "colour"] (spI K mg 2 objs Zg5):=by
 exact okI F Zb6 (by decide) rfl (λcdv A outer s H E hr=>have hN:=Zb6.nd;⟨_,(ZqF ycy hr (by decide) rfl Zau (λ_ h=>h) (Zab (d_v 1) Zah)
  (ZkX (by walk_at "e")
  (ZnA T.f_colour (d_v 2)
  Zno)))⟩)
def ZgF(T:Txt K mg)(D:Def K mg "is_between" Zdf ["thing", "least", "most"])(yaM:Cal P w K mg base 1  "is_whole" ["thing"] ZaH):Cal P w K mg base 2  "is_between" ["thing", "least", "most"]  Zas:=by
 exact D.cal Zep (λf cdv A outer s H E hr=>have hN:=Zep.nd;⟨_,(by walk_at "e")⟩)
def Zf4(T:Txt K mg)(D:Def K mg "check_floor" ZcG ["width", "height"])(yam:Cal P w K mg base 2  "is_between" ["thing", "least", "most"] Zas):Cal P w K mg base 3  "check_floor" ["width", "height"]  Zao:=by
 obtain ⟨ya8,yaK,yaL⟩:=T.yaJ;obtain ⟨tk_MOST_CELLS,yap⟩:=T.yap
 exact D.cal Zdx (λf cdv A outer s H E hr=>have hN:=Zdx.nd;⟨_,(Zar (ZcU (DW.dt (Zh6 (Zen (ZcS (Za9 yam hr (by decide) rfl Zau (Zab (d_v 0) (Zab Zam (Zab (ycD rfl yap) Zah)))))) (Zgq (Zen (ZcS (Za9 yam hr (by decide) rfl Zau (Zab (d_v 1) (Zab Zam (Zab (ycD rfl yap) Zah)))))))))
  (by walk_at "e")
  ZaM))⟩)
def ZdX(T:Txt K mg)(D:Def K mg "has_alike_depths" Zbn ["sights"])  : Cal P w K mg base 1  "has_alike_depths" ["sights"]  Zbf:=by
 exact D.cal Za7 (λf cdv A outer s H E hr=>have hN:=Za7.nd;⟨_,(Zai (Ziz (i:=1) Za7.nd rfl (Or.inl rfl) (own:=["sight"]) (cap:=[]) (Zba (d_v 0)) (by walk_at "co") rfl (by walk_at "cg") (by walk_at "ct") (λ_ _ _ _ _=>(ybP (d_v 0) Zam)))
  (Zar (Zbb (ycU hr (Zjj hr rfl T.yb1 rfl T.ycH (d_v 1)) (by walk_at "e")))))⟩)
def ZmW(T:Txt K mg)(D:Def K mg "ratio" ZiJ ["top", "bottom"])(yaZ:Cal P w K mg base 1  "greatest_divisor" ["numbers"] ZaJ):Cal P w K mg base 2  "ratio" ["top", "bottom"]  Zbo:=by
 exact D.cal Zjm (λf cdv A outer s H E hr=>have hN:=Zjm.nd;⟨_,(by walk_at "e")⟩)
def Zem(T:Txt K mg)(D:Def K mg "summed_products" ZbA ["three", "other"])  : Cal P w K mg base 1  "summed_products" ["three", "other"]  Zaq:=by
 exact D.cal Zb8 (λf cdv A outer s H E hr=>have hN:=Zb8.nd;⟨_,(by walk_at "e")⟩)
def ZhB(T:Txt K mg)(D:Def K mg "weighed_h" ZdK ["triangle", "amounts"])(yac:Cal P w K mg base 1  "summed_products" ["three", "other"] Zaq):Cal P w K mg base 2  "weighed_h" ["triangle", "amounts"]  ZdM:=by
 exact D.cal ZeT (λf cdv A outer s H E hr=>have hN:=ZeT.nd;⟨_,(Zar (Zbb (Za9 yac hr (by decide) rfl Zau (Zab (Zcb (own:=["corner"]) (cap:=[]) (Zba (d_v 0)) (by walk_at "co") rfl (by walk_at "cg") (by walk_at "ct") (λ_ _ _ _ _=>(ybP (d_v 0) Zam))) (Zab (d_v 1) Zah)))))⟩)
def ZdJ(T:Txt K mg)(D:Def K mg "depth_and_values" Zbg ["triangle", "amounts"])(ya9:Cal P w K mg base 2  "ratio" ["top", "bottom"] Zbo)(yac:Cal P w K mg base 1  "summed_products" ["three", "other"] Zaq)(c_weighed_h:Cal P w K mg base 2  "weighed_h" ["triangle", "amounts"] ZdM):Cal P w K mg base 3  "depth_and_values" ["triangle", "amounts"]  Zbp:=by
 exact D.cal ZaP (λf cdv A outer s H E hr=>have hN:=ZaP.nd;⟨_,(Zai (by walk_at "e")
  (Zai (ZaW (i:=3) ZaP.nd rfl (Or.inl rfl) (Za9 ya9 hr (by decide) rfl Zau (Zab (Za9 yac hr (by decide) rfl Zau (Zab (Zcb (own:=["corner"]) (cap:=[]) (Zba (d_v 0)) (by walk_at "co") rfl (by walk_at "cg") (by walk_at "ct") (λ_ _ _ _ _=>(ybP (d_v 0) Zam))) (Zab (d_v 1) Zah))) (Zab (d_v 2) Zah))))
  (Zai (ZaW (i:=4) ZaP.nd rfl (Or.inl rfl) (ycZ rfl rfl T.ycR rfl T.ybQ (by walk_at "e")))
  (Zar (Zbb (Zb4 (Zab (d_v 3) (Zab (ycL Zel Zfy rfl T.yb2 ZgQ (Zab (Zcb (own:=["three"]) (cap:=[("bottom", 2),("amounts", 1)]) (Zba (d_v 4)) (by walk_at "co") rfl (by walk_at "cg") (by walk_at "ct") (by walk_at "ce")) Zah)) Zah))))))))⟩)
def ZfF(T:Txt K mg)(D:Def K mg "edge_numbers" Zcl ["one", "other"])  : Cal P w K mg base 1  "edge_numbers" ["one", "other"]  Za6:=by
 exact D.cal Zdi (λf cdv A outer s H E hr=>have hN:=Zdi.nd;⟨_,(by walk_at "e")⟩)
def Zpf(T:Txt K mg)(D:Def K mg "side" ZlE ["one", "other", "point"])(yac:Cal P w K mg base 1  "summed_products" ["three", "other"] Zaq)(ybq:Cal P w K mg base 1  "edge_numbers" ["one", "other"] Za6):Cal P w K mg base 2  "side" ["one", "other", "point"]  ZhN:=by
 exact D.cal ZkA (λf cdv A outer s H E hr=>have hN:=ZkA.nd;⟨_,(by walk_at "e")⟩)
def Zrc(T:Txt K mg)(D:Def K mg "had" Zp0 ["triangle", "point"])(yaY:Cal P w K mg base 1  "check_before_eye" ["corners"] ZaK)(c_side:Cal P w K mg base 2  "side" ["one", "other", "point"] ZhN):Cal P w K mg base 3  "had" ["triangle", "point"]  Zo5:=by
 exact D.cal Znz (λf cdv A outer s H E hr=>have hN:=Znz.nd;⟨_,(by walk_at "e")⟩)
def Zif(T:Txt K mg)(D:Def K mg "edge_sum" ZeH ["one", "other", "point"])(yac:Cal P w K mg base 1  "summed_products" ["three", "other"] Zaq)(ybq:Cal P w K mg base 1  "edge_numbers" ["one", "other"] Za6):Cal P w K mg base 2  "edge_sum" ["one", "other", "point"]  Zcu:=by
 exact D.cal Zfh (λf cdv A outer s H E hr=>have hN:=Zfh.nd;⟨_,(by walk_at "e")⟩)
def ZjO(T:Txt K mg)(D:Def K mg "weights" ZfE ["triangle", "point"])(c_edge_sum:Cal P w K mg base 2  "edge_sum" ["one", "other", "point"] Zcu):Cal P w K mg base 3  "weights" ["triangle", "point"]  ZfM:=by
 exact D.cal Zgg (λf cdv A outer s H E hr=>have hN:=Zgg.nd;⟨_,(by walk_at "e")⟩)
def Zj3(T:Txt K mg)(D:Def K mg "seen_at" Zfq ["triangle", "point"])(c_depth_and_values:Cal P w K mg base 3  "depth_and_values" ["triangle", "amounts"] Zbp)(c_had:Cal P w K mg base 3  "had" ["triangle", "point"] Zo5)(c_weights:Cal P w K mg base 3  "weights" ["triangle", "point"] ZfM):Cal P w K mg base 4  "seen_at" ["triangle", "point"]  Zc7:=by
 exact D.cal Zgm (λf cdv A outer s H E hr=>have hN:=Zgm.nd;⟨_,(by walk_at "e")⟩)
def ZhR(T:Txt K mg)(D:Def K mg "sights_at" Zd2 ["things", "p"])(ycl:Cal P w K mg base 4  "seen_at" ["triangle", "point"] Zc7):Cal P w K mg base 5  "sights_at" ["things", "p"]  Zd0:=by
 exact D.cal ZeV (λf cdv A outer s H E hr=>have hN:=ZeV.nd;⟨_,(by walk_at "e")⟩)
def Zj0(T:Txt K mg)(D:Def K mg "spot_at" ZfP ["column", "row", "spot"])  : Cal P w K mg base 1  "spot_at" ["column", "row", "spot"]  ZcW:=by
 exact D.cal Zgk (λf cdv A outer s H E hr=>have hN:=Zgk.nd;⟨_,(by walk_at "e")⟩)
def ZhX(T:Txt K mg)(D:Def K mg "sights_in" ZdF ["things", "column", "row", "spots"])(c_sights_at:Cal P w K mg base 5  "sights_at" ["things", "p"] Zd0)(ycm:Cal P w K mg base 1  "spot_at" ["column", "row", "spot"] ZcW):Cal P w K mg base 6  "sights_in" ["things", "column", "row", "spots"]  ZbX:=by
 exact D.cal ZeS (λf cdv A outer s H E hr=>have hN:=ZeS.nd;⟨_,(Zar (Zbb (ZiF (Zkm.blk ⟨rfl,rfl,rfl,rfl⟩) (own:=["spot"]) (cap:=[("things", 0),("row", 2),("column", 1)]) (Zba (d_v 3)) (by walk_at "co") rfl (by walk_at "cg") (by walk_at "ct") (by walk_at "ce"))))⟩)
def Zkb(T:Txt K mg)(D:Def K mg "is_spot" Zfk ["thing"])(yam:Cal P w K mg base 2  "is_between" ["thing", "least", "most"] Zas):Cal P w K mg base 3  "is_spot" ["thing"]  Zfm:=by
 exact D.cal Zgo (λf cdv A outer s H E hr=>have hN:=Zgo.nd;⟨_,(by walk_at "e")⟩)
def ZfY(T:Txt K mg)(D:Def K mg "check_spots" Zcw ["spots"])(c_is_spot:Cal P w K mg base 3  "is_spot" ["thing"] Zfm):Cal P w K mg base 4  "check_spots" ["spots"]  ZcI:=by
 obtain ⟨ya8,yaK,yaL⟩:=T.yaJ;obtain ⟨tk_MOST_SPOTS,yaH⟩:=T.yaH
 exact D.cal Zdy (λf cdv A outer s H E hr=>have hN:=Zdy.nd;⟨_,(Zai (ZcU (DW.dt (Zh6 (by walk_at "e") (Zh6 (by walk_at "e") (Zgq (ZoZ (by walk_at "e") (ycD rfl yaH))))))
  (by walk_at "e")
  ZaM)
  (Zai (ZcU (Zen (ZcS (yaP (Zev rfl) Zd9 rfl T.ycw ZiZ (Zab (Zcb (own:=["spot"]) (cap:=[]) (Zba (d_v 0)) (by walk_at "co") rfl (by walk_at "cg") (by walk_at "ct") (by walk_at "ce")) Zah))))
  (by walk_at "e")
  ZaM)
  (Zar (ZcU (ZjJ hr (Zjj hr rfl T.yb1 rfl T.ycH (d_v 0)) (by walk_at "e"))
  (by walk_at "e")
  ZaM))))⟩)
def Zd8(T:Txt K mg)(D:Def K mg "spots_or_middle" Zbs ["spots"])(c_check_spots:Cal P w K mg base 4  "check_spots" ["spots"] ZcI):Cal P w K mg base 5  "spots_or_middle" ["spots"]  Zaw:=by
 exact D.cal Zb7 (λf cdv A outer s H E hr=>have hN:=Zb7.nd;⟨_,(by walk_at "e")⟩)
def Zis{f:Addr}{fd:FuncData}{dV:Value}(T:Txt K mg)(F:FunD K "doubtful" "doubtful" Za0 dV f fd)(ya0:Cal P w K mg base 3  "check_floor" ["width", "height"] Zao)(c_has_alike_depths:Cal P w K mg base 1  "has_alike_depths" ["sights"] Zbf)(yb3:Cal P w K mg base 6  "sights_in" ["things", "column", "row", "spots"] ZbX)(yat:Cal P w K mg base 5  "spots_or_middle" ["spots"] Zaw):FnOk P w K mg base (CXR P w) 7 f fd ["things", "width", "height", "spots"] (spD K mg 4 Zbc):=by
 exact okDF F Zfu (λcdv A outer s H E hr=>have hN:=Zfu.nd;⟨_,(Zai (by walk_at "e")
  (Zai (by walk_at "e")
  (Zai (by walk_at "e")
  (Zai (Zer Vb3 rfl (by walk_at "e") (by walk_at "e")
  (Zar (Zer Vb3 rfl (by walk_at "e") (by walk_at "e")
  (Zar (ZcU (ZcS (yaP (Zk2 rfl) Zlk rfl T.ycO Zq3 (Zab (Zcb (own:=["sights"]) (cap:=[]) (by walk_at "e") (by walk_at "co") rfl (by walk_at "cg") (by walk_at "ct") (by walk_at "ce")) Zah)))
  (by walk_at "e")
  ZaM)))))
  (by walk_at "e")))))⟩)
def ZeA(T:Txt K mg)(D:Def K mg "ground_or_none" ZbK ["ground"])  : Cal P w K mg base 1  "ground_or_none" ["ground"]  ZaR:=by
 exact D.cal Zcs (λf cdv A outer s H E hr=>have hN:=Zcs.nd;⟨_,(by walk_at "e")⟩)
def ZdN{f:Addr}{fd:FuncData}(T:Txt K mg)(F:Fun K "colour_at" "Plain.colour_at" Zbl f fd)  : FnOk P w K mg base (CXR P w) 1 f fd ["self", "values"] (spD K mg 2 Zcd):=by
 exact okM F ZbY (λcdv A outer s H E hr=>have hN:=ZbY.nd;⟨_,(by walk_at "e")⟩)
def Zl3(T:Txt K mg)(D:Def K mg "minus" Zih ["one", "other"])(ya9:Cal P w K mg base 2  "ratio" ["top", "bottom"] Zbo):Cal P w K mg base 3  "minus" ["one", "other"]  Zie:=by
 exact D.cal Zjd (λf cdv A outer s H E hr=>have hN:=Zjd.nd;⟨_,(by walk_at "e")⟩)
def ZpT(T:Txt K mg)(D:Def K mg "plus" Zkf ["one", "other"])(ya9:Cal P w K mg base 2  "ratio" ["top", "bottom"] Zbo):Cal P w K mg base 3  "plus" ["one", "other"]  Zhj:=by
 exact D.cal ZlH (λf cdv A outer s H E hr=>have hN:=ZlH.nd;⟨_,(by walk_at "e")⟩)
def ZjR(T:Txt K mg)(D:Def K mg "product" ZfJ ["one", "other"])(ya9:Cal P w K mg base 2  "ratio" ["top", "bottom"] Zbo):Cal P w K mg base 3  "product" ["one", "other"]  Zec:=by
 exact D.cal Zgb (λf cdv A outer s H E hr=>have hN:=Zgb.nd;⟨_,(by walk_at "e")⟩)
def Zg6(T:Txt K mg)(D:Def K mg "laid_over" Zd5 ["glass", "colour"])(c_minus:Cal P w K mg base 3  "minus" ["one", "other"] Zie)(ycI:Cal P w K mg base 3  "plus" ["one", "other"] Zhj)(c_product:Cal P w K mg base 3  "product" ["one", "other"] Zec):Cal P w K mg base 4  "laid_over" ["glass", "colour"]  Zd1:=by
 exact D.cal ZeW (λf cdv A outer s H E hr=>have hN:=ZeW.nd;⟨_,(by walk_at "e")⟩)
def Zej{f:Addr}{fd:FuncData}(T:Txt K mg)(F:Fun K "is_glass" "Thing.is_glass" Zbz f fd)  : FnOk P w K mg base (CXR P w) 1 f fd ["self"] (spD K mg 1 Zcq):=by
 exact okM F Zb9 (λcdv A outer s H E hr=>have hN:=Zb9.nd;⟨_,(Zar (Zbb ycv))⟩)
def Zme(T:Txt K mg)(D:Def K mg "under" Zim ["one", "other"])  : Cal P w K mg base 1  "under" ["one", "other"]  ZbN:=by
 exact D.cal Zje (λf cdv A outer s H E hr=>have hN:=Zje.nd;⟨_,(by walk_at "e")⟩)
def ZfV(T:Txt K mg)(D:Def K mg "layers_over" Zcx ["nearest", "sights"])(cm_is_glass:Zce P w K mg base 1 0 "is_glass" ZaZ)(yby:Cal P w K mg base 1  "under" ["one", "other"] ZbN):Cal P w K mg base 2  "layers_over" ["nearest", "sights"]  ZcN:=by
 exact D.cal Zcg (λf cdv A outer s H E hr=>have hN:=Zcg.nd;⟨_,(Zai (by walk_at "e")
  (Zai (Zer Vb3 rfl (Zba (d_v 1)) (by walk_at "e")
  (Zar (ZcU (DW.dt (Zns (ZcS (Zh8 cm_is_glass hr (by decide) Zau (ybP (d_v 3) Zam))) (by walk_at "e")))
  (Zai (ZaW (i:=4) Zcg.nd rfl (Or.inl rfl) (ycY 2 (yaP ZbH Zdb rfl T.yb1 Zgi (Zab (Zcb (own:=["layer"]) (cap:=[("sight", 3)]) (Zba (d_v 2)) (by walk_at "co") rfl (by walk_at "cg") (λ_ _ _ _ _=>ZpD (by walk_at "e")) (λ_ _ _ _ _=>(d_v 0))) Zah))))
  (Zar (Zqr 2 (d_v 4) (d_v 3))))
  ZaM)))
  (by walk_at "e")))⟩)
def ZgY(T:Txt K mg)(D:Def K mg "nearest_of" Zdj ["sights"])(cm_is_glass:Zce P w K mg base 1 0 "is_glass" ZaZ)(yby:Cal P w K mg base 1  "under" ["one", "other"] ZbN):Cal P w K mg base 2  "nearest_of" ["sights"]  ZcZ:=by
 exact D.cal Zeb (λf cdv A outer s H E hr=>have hN:=Zeb.nd;⟨_,(Zai (by walk_at "e")
  (Zai (Zer Vb3 rfl (Zba (d_v 0)) (by walk_at "e")
  (Zai (ZcU (ZcS (Zh8 cm_is_glass hr (by decide) Zau (ybP (d_v 2) Zam)))
  (Zar Zlp)
  ZaM)
  (by walk_at "e")))
  (by walk_at "e")))⟩)
def ZhU(T:Txt K mg)(D:Def K mg "colour_of" ZdP ["sights", "ground"])(cm_colour_at:Zce P w K mg base 1 1 "colour_at" ZcH)(c_laid_over:Cal P w K mg base 4  "laid_over" ["glass", "colour"] Zd1)(c_layers_over:Cal P w K mg base 2  "layers_over" ["nearest", "sights"] ZcN)(c_nearest_of:Cal P w K mg base 2  "nearest_of" ["sights"] ZcZ):Cal P w K mg base 5  "colour_of" ["sights", "ground"]  ZdU:=by
 exact D.cal ZcY (λf cdv A outer s H E hr=>have hN:=ZcY.nd;⟨_,(Zai (by walk_at "e")
  (Zai (by walk_at "e")
  (Zai (ZcU (Zlr (d_v 2))
  (Zar (ZaW (i:=3) ZcY.nd rfl (Or.inl rfl) (ZqJ cm_colour_at hr (by decide) Zau (ybP (d_v 2) Zam) (by walk_at "e"))))
  ZaM)
  (by walk_at "e"))))⟩)
def Zj5(T:Txt K mg)(D:Def K mg "mean_of" ZfH ["some"])(ya9:Cal P w K mg base 2  "ratio" ["top", "bottom"] Zbo)(ycI:Cal P w K mg base 3  "plus" ["one", "other"] Zhj):Cal P w K mg base 4  "mean_of" ["some"]  Zfz:=by
 exact D.cal Zgc (λf cdv A outer s H E hr=>have hN:=Zgc.nd;⟨_,(by walk_at "e")⟩)
def ZfX(T:Txt K mg)(D:Def K mg "cell_colour" ZcP ["sights_by_spot", "ground"])(c_colour_of:Cal P w K mg base 5  "colour_of" ["sights", "ground"] ZdU)(ycn:Cal P w K mg base 4  "mean_of" ["some"] Zfz):Cal P w K mg base 6  "cell_colour" ["sights_by_spot", "ground"]  Zbj:=by
 exact D.cal ZdB (λf cdv A outer s H E hr=>have hN:=ZdB.nd;⟨_,(Zar (Zbb (Za9 ycn hr (by decide) rfl Zau (Zab (Zcb (own:=["sights"]) (cap:=[("ground", 1)]) (Zba (d_v 0)) (by walk_at "co") rfl (by walk_at "cg") (by walk_at "ct") (by walk_at "ce")) Zah))))⟩)
def Zf6(T:Txt K mg)(D:Def K mg "painted_row" Zcv ["things", "width", "row", "spots", "ground"])(yb3:Cal P w K mg base 6  "sights_in" ["things", "column", "row", "spots"] ZbX)(ybz:Cal P w K mg base 6  "cell_colour" ["sights_by_spot", "ground"] Zbj):Cal P w K mg base 7  "painted_row" ["things", "width", "row", "spots", "ground"]  ZbS:=by
 exact D.cal ZdC (λf cdv A outer s H E hr=>have hN:=ZdC.nd;⟨_,(Zar (Zbb (ZiF (Zkm.blk ⟨rfl,rfl,rfl,rfl⟩) (own:=["column"]) (cap:=[("things", 0),("spots", 3),("row", 2),("ground", 4)]) (by walk_at "e") (by walk_at "co") rfl (by walk_at "cg") (by walk_at "ct") (by walk_at "ce"))))⟩)
def ZmT{f:Addr}{fd:FuncData}{dV:Value}(T:Txt K mg)(F:FunD K "paint" "paint" ZcA dV f fd)(ya0:Cal P w K mg base 3  "check_floor" ["width", "height"] Zao)(yat:Cal P w K mg base 5  "spots_or_middle" ["spots"] Zaw)(ybh:Cal P w K mg base 1  "ground_or_none" ["ground"] ZaR)(c_painted_row:Cal P w K mg base 7  "painted_row" ["things", "width", "row", "spots", "ground"] ZbS):FnOk P w K mg base (CXR P w) 8 f fd ["things", "width", "height", "spots", "ground"] (spD K mg 5 ZaG):=by
 exact okDF F Zjg (λcdv A outer s H E hr=>have hN:=Zjg.nd;⟨_,(Zai (by walk_at "e")
  (Zai (by walk_at "e")
  (Zai (by walk_at "e")
  (Zar (Zbb (ZiF (Zkm.blk ⟨rfl,rfl,rfl,rfl⟩) (own:=["row"]) (cap:=[("width", 1),("things", 0),("places", 5),("beneath", 6)]) (by walk_at "e") (by walk_at "co") rfl (by walk_at "cg") (by walk_at "ct") (by walk_at "ce")))))))⟩)
def Zgr(T:Txt K mg)(D:Def K mg "check_wide" Zdg ["wide"])(yam:Cal P w K mg base 2  "is_between" ["thing", "least", "most"] Zas):Cal P w K mg base 3  "check_wide" ["wide"]  ZbD:=by
 obtain ⟨ya8,yaK,yaL⟩:=T.yaJ;obtain ⟨tk_MOST_WIDE,yaT⟩:=T.yaT
 exact D.cal Zew (λf cdv A outer s H E hr=>have hN:=Zew.nd;⟨_,(Zar (ZcU (Zen (ZcS (Za9 yam hr (by decide) rfl Zau (Zab (d_v 0) (Zab Zam (Zab (ycD rfl yaT) Zah))))))
  (by walk_at "e")
  ZaM))⟩)
def Zf1(T:Txt K mg)(D:Def K mg "greatest_of" Zcz ["some"])(yby:Cal P w K mg base 1  "under" ["one", "other"] ZbN):Cal P w K mg base 2  "greatest_of" ["some"]  ZcJ:=by
 exact D.cal Zdu (λf cdv A outer s H E hr=>have hN:=Zdu.nd;⟨_,(by walk_at "e")⟩)
def ZhJ(T:Txt K mg)(D:Def K mg "far_depth" Zd3 ["least_depths"])(c_greatest_of:Cal P w K mg base 2  "greatest_of" ["some"] ZcJ):Cal P w K mg base 3  "far_depth" ["least_depths"]  ZdL:=by
 exact D.cal ZeZ (λf cdv A outer s H E hr=>have hN:=ZeZ.nd;⟨_,(by walk_at "e")⟩)
def Zik(T:Txt K mg)(D:Def K mg "least_of" ZeK ["some"])(yby:Cal P w K mg base 1  "under" ["one", "other"] ZbN):Cal P w K mg base 2  "least_of" ["some"]  Zco:=by
 exact D.cal ZfI (λf cdv A outer s H E hr=>have hN:=ZfI.nd;⟨_,(by walk_at "e")⟩)
def ZlQ(T:Txt K mg)(D:Def K mg "lesser" ZgM ["least", "depth"])(ybv:Cal P w K mg base 2  "least_of" ["some"] Zco):Cal P w K mg base 3  "lesser" ["least", "depth"]  Zgu:=by
 exact D.cal Zhv (λf cdv A outer s H E hr=>have hN:=Zhv.nd;⟨_,(by walk_at "e")⟩)
def ZjF(T:Txt K mg)(D:Def K mg "look_at" ZfG ["thing", "points", "sights_by_point", "least_depths"])(ycl:Cal P w K mg base 4  "seen_at" ["triangle", "point"] Zc7)(cm_is_glass:Zce P w K mg base 1 0 "is_glass" ZaZ)(c_lesser:Cal P w K mg base 3  "lesser" ["least", "depth"] Zgu):CalY P w K mg base 5  "look_at" ["thing", "points", "sights_by_point", "least_depths"] 2 ZfO:=by
 exact D.calY Zgf (by decide) (λf cdv A outer s H E hr=>have hN:=Zgf.nd;⟨_,(ZbP (ZiR (E:=E) Vb3 rfl (Zdh rfl T.yaS (Zab (d_v 1) Zah)) (by walk_at "e") (Zh5 (Zdr (ZcF (by decide)) (Zdr (ZcF (by decide)) Zij)))
  (ZaO (Zdz (E:=E) (by walk_at "e"))
  (ZaO (ZpU (E:=E) (Zko (d_v 6))
  (ZbP (Zn2 (E:=E) Zlp))
  Zld)
  (ZaO (Zqw (E:=E) (d_v 4) (by walk_at "e"))
  (ZbP (ZpU (E:=E) (Zen (ZcS (Zh8 cm_is_glass hr (by decide) Zau (d_v 0))))
  (ZbP (Zrq (E:=E) (Zpx (i:=3) (Zra 3 (by walk_at "e")) (d_v 4))))
  Zld)))))))⟩)
def ZgS(T:Txt K mg)(D:Def K mg "near_depth" Zc6 ["triangle"])(ya9:Cal P w K mg base 2  "ratio" ["top", "bottom"] Zbo)(ybv:Cal P w K mg base 2  "least_of" ["some"] Zco):Cal P w K mg base 3  "near_depth" ["triangle"]  Zc8:=by
 exact D.cal Zes (λf cdv A outer s H E hr=>have hN:=Zes.nd;⟨_,(Zar (Zbb (Za9 ybv hr (by decide) rfl Zau (Zab (Zcb (own:=["corner"]) (cap:=[]) (Zba (d_v 0)) (by walk_at "co") rfl (by walk_at "cg") (by walk_at "ct") (by walk_at "ce")) Zah))))⟩)
def Zhf(T:Txt K mg)(D:Def K mg "looked_at" ZdS ["things", "points"])(yby:Cal P w K mg base 1  "under" ["one", "other"] ZbN)(c_far_depth:Cal P w K mg base 3  "far_depth" ["least_depths"] ZdL)(cy_look_at:CalY P w K mg base 5 "look_at" ["thing", "points", "sights_by_point", "least_depths"] 2 ZfO)(c_near_depth:Cal P w K mg base 3  "near_depth" ["triangle"] Zc8):Cal P w K mg base 6  "looked_at" ["things", "points"]  ZdT:=by
 exact D.cal ZbE (λf cdv A outer s H E hr=>have hN:=ZbE.nd;⟨_,(Zki (i:=2) (J:=[2]) ZbE.nd rfl (Or.inl rfl) (own:=["point"]) (cap:=[]) (Zba (d_v 1)) (by walk_at "co") rfl (by walk_at "cg") (by walk_at "ct") (λ_ _ _ _ _=>(ZrP Zah))
  (ZaO (Zdz (E:=E) (Zmq (i:=3) ZbE.nd rfl (Or.inl rfl) (own:=["point"]) (cap:=[]) (Zba (d_v 1)) (by walk_at "co") rfl (by walk_at "cg") (by walk_at "ct") (λ_ _ _ _ _=>ZkE)))
  (ZaO (Zdz (E:=E) (by walk_at "e"))
  (ZaO (ZiR (E:=E) Vb3 rfl (Zdh rfl T.yaS (Zab (d_v 0) Zah)) (by walk_at "e") (Zh5 (Zdr (ZcF (by decide)) (Zdr (ZcF (by decide)) Zij)))
  (ZaO (Zdz (E:=E) (by walk_at "e"))
  (ZaO (Zdz (E:=E) (ZaW (i:=8) ZbE.nd rfl (Or.inl rfl) (Zra 3 (by walk_at "e"))))
  (ZbP (ZpU (E:=E) (by walk_at "e")
  (ZbP (ZlK (E:=E) (by walk_at "e")))
  (ZbP (Zkr (E:=E) (l:=3) (lc:=(some 3)) cy_look_at hr (by decide) rfl Zau (ZhL (d_v 6) (ZhL (d_v 1) (ZnN (Zrk ZkS)))))))))))
  (ZbP (Znn (j:=4) rfl rfl))))))⟩)
def Zeq(T:Txt K mg)(D:Def K mg "order_or_rising" Zbr ["order", "count"])(yaM:Cal P w K mg base 1  "is_whole" ["thing"] ZaH):Cal P w K mg base 2  "order_or_rising" ["order", "count"]  Zbu:=by
 obtain ⟨ya8,yaK,yaL⟩:=T.yaJ
 exact D.cal Zcf (λf cdv A outer s H E hr=>have hN:=Zcf.nd;⟨_,(Zai (ZcU (Zko (d_v 0))
  (Zar (Zbb (ycM rfl rfl T.yaG rfl T.ybQ (Zab (d_v 1) Zah))))
  ZaM)
  (Zai (ZcU (DW.dt (Zh6 (by walk_at "e") (Zgq (Zen (ZcS (yaP (Zev rfl) Zd9 rfl T.ycw ZiZ (Zab (Zcb (own:=["tile"]) (cap:=[]) (Zba (d_v 0)) (by walk_at "co") rfl (by walk_at "cg") (by walk_at "ct") (by walk_at "ce")) Zah)))))))
  (by walk_at "e")
  ZaM)
  (Zai (ZcU (ZjJ hr (by walk_at "e") (ycM rfl rfl T.yaG rfl T.ybQ (Zab (d_v 1) Zah)))
  (by walk_at "e")
  ZaM)
  (by walk_at "e"))))⟩)
def ZfW(T:Txt K mg)(D:Def K mg "paint_cells" ZcE ["picture", "cells", "sights_by_point", "ground"])(ybz:Cal P w K mg base 6  "cell_colour" ["sights_by_spot", "ground"] Zbj):CalY P w K mg base 7  "paint_cells" ["picture", "cells", "sights_by_point", "ground"] 0 Zcy:=by
 exact D.calY Zdw (by decide) (λf cdv A outer s H E hr=>have hN:=Zdw.nd;⟨_,(ZaO (Zdz (E:=E) (by walk_at "e"))
  (ZbP (ZiR (E:=E) Vb3 rfl (Zdh rfl T.yaS (Zab (d_v 1) Zah)) (by walk_at "e") (Zh5 (Zdr (ZcF (by decide)) (Zdr (ZcF (by decide)) Zij)))
  (ZaO (Zdz (E:=E) (by walk_at "e"))
  (ZbP (Zof (E:=E) (by walk_at "e") (ybP (d_v 6) Zam) (ybP (d_v 6) Zam)))))))⟩)
def ZhV(T:Txt K mg)(D:Def K mg "points_in" ZdW ["cells", "spots"])(ycm:Cal P w K mg base 1  "spot_at" ["column", "row", "spot"] ZcW):Cal P w K mg base 2  "points_in" ["cells", "spots"]  ZdH:=by
 exact D.cal ZeX (λf cdv A outer s H E hr=>have hN:=ZeX.nd;⟨_,(Zai (by walk_at "e")
  (Zai (Zer Vb3 rfl (Zba (d_v 0)) (by walk_at "e")
  (Zar (ZnP 2 (Zcb (own:=["spot"]) (cap:=[("row", 4),("column", 3)]) (Zba (d_v 1)) (by walk_at "co") rfl (by walk_at "cg") (by walk_at "ct") (by walk_at "ce")))))
  (by walk_at "e")))⟩)
def Zf3(T:Txt K mg)(D:Def K mg "tiles_along" ZcD ["length", "wide"])  : Cal P w K mg base 1  "tiles_along" ["length", "wide"]  Za3:=by
 exact D.cal ZdE (λf cdv A outer s H E hr=>have hN:=ZdE.nd;⟨_,(by walk_at "e")⟩)
def Zgw(T:Txt K mg)(D:Def K mg "tile_cells" Zc3 ["width", "height", "wide", "tile"])(ybA:Cal P w K mg base 1  "tiles_along" ["length", "wide"] Za3):Cal P w K mg base 2  "tile_cells" ["width", "height", "wide", "tile"]  Zc4:=by
 exact D.cal Zex (λf cdv A outer s H E hr=>have hN:=Zex.nd;⟨_,(Zai (by walk_at "e")
  (Zai (by walk_at "e")
  (Zai (by walk_at "e")
  (Zai (by walk_at "e")
  (Zai (Zer Vb3 rfl (ZpW rfl T.yaG (by walk_at "e")) (by walk_at "e")
  (Zar (Zer Vb3 rfl (ZpW rfl T.yaG (by walk_at "e")) (by walk_at "e")
  (by walk_at "e"))))
  (by walk_at "e"))))))⟩)
def ZfZ{f:Addr}{fd:FuncData}{dV:Value}(T:Txt K mg)(F:FunD K "paint_tiles" "paint_tiles" ZaD dV f fd)(ya0:Cal P w K mg base 3  "check_floor" ["width", "height"] Zao)(yat:Cal P w K mg base 5  "spots_or_middle" ["spots"] Zaw)(ybh:Cal P w K mg base 1  "ground_or_none" ["ground"] ZaR)(c_check_wide:Cal P w K mg base 3  "check_wide" ["wide"] ZbD)(c_looked_at:Cal P w K mg base 6  "looked_at" ["things", "points"] ZdT)(c_order_or_rising:Cal P w K mg base 2  "order_or_rising" ["order", "count"] Zbu)(cy_paint_cells:CalY P w K mg base 7 "paint_cells" ["picture", "cells", "sights_by_point", "ground"] 0 Zcy)(c_points_in:Cal P w K mg base 2  "points_in" ["cells", "spots"] ZdH)(ybA:Cal P w K mg base 1  "tiles_along" ["length", "wide"] Za3)(c_tile_cells:Cal P w K mg base 2  "tile_cells" ["width", "height", "wide", "tile"] Zc4):FnOk P w K mg base (CXR P w) 8 f fd ["things", "width", "height", "wide", "order", "spots", "ground"] (spD K mg 7 Zaj):=by
 exact okDF F Zck (λcdv A outer s H E hr=>have hN:=Zck.nd;⟨_,(Zai (by walk_at "e")
  (Zai (by walk_at "e")
  (Zai (by walk_at "e")
  (Zai (by walk_at "e")
  (Zai (by walk_at "e")
  (Zki (i:=10) (J:=[10]) Zck.nd rfl (Or.inl rfl) (own:=["row"]) (cap:=[("width", 1),("beneath", 9)]) (by walk_at "e") (by walk_at "co") rfl (by walk_at "cg") (by walk_at "ct") (λ_ _ _ _ _=>(ZrG (Zab (d_v 2) Zah) (d_v 1)))
  (ZaO (Zdz (E:=E) (by walk_at "e"))
  (ZaO (ZiR (E:=E) Vb3 rfl (Zba (d_v 7)) (by walk_at "e") (ZcF (by decide))
  (ZaO (Zdz (E:=E) (by walk_at "e"))
  (ZaO (Zdz (E:=E) (by walk_at "e"))
  (ZaO (Zkr (E:=E) (l:=0) (lc:=none) cy_paint_cells hr (by decide) rfl Zau (ZnN (ZhL (d_v 13) (ZhL (ybP (d_v 14) Zam) (ZhL (d_v 9) ZkS)))))
  (ZbP (ZlK (E:=E) (ZnP 11 (Zcb (own:=["gone"]) (cap:=[("tile", 12)]) (by walk_at "e") (by walk_at "co") rfl (by walk_at "cg") (by walk_at "ct") (by walk_at "ce")))))))))
  (ZbP (Znn (j:=11) rfl rfl))))))))))⟩)
def ZdO(T:Txt K mg)(D:Def K mg "_law_all_refused" Zbe ["_law_things", "_law_width", "_law_height", "_law_spots"])(Dr:Def K mg "_law_refused" ZbC ["_law_deed"])(ycg:Cal P w K mg base 7  "doubtful" ["things", "width", "height", "spots"] Zbc)(ycB:Cal P w K mg base 8  "paint" ["things", "width", "height", "spots", "ground"] ZaG)(ybB:Cal P w K mg base 8  "paint_tiles" ["things", "width", "height", "wide", "order", "spots", "ground"] Zaj)(yaN:CalK P w K mg base 8 "paint" ["things", "width", "height", "spots", "ground"] [] [none] ZaG)(yad:CalK P w K mg base 8 "paint_tiles" ["things", "width", "height", "wide", "order", "spots", "ground"] [] [none] Zaj)(hKb:K.In base)(hN:base.Ns mainGlobals mg)(ht:W.tabIn K "_law_all_refused"=some (574,570))(CH_0:W.CodeHd base 574 570)(hB_0:base.BuiltinsAt mg 570):CalZ P w K mg base Zt 12 "_law_all_refused" ["_law_things", "_law_width", "_law_height", "_law_spots"] Zaz:=by
 obtain ⟨K_BadFloor,k_BadFloor⟩:=T.ybt;obtain ⟨K_BadPattern,k_BadPattern⟩:=T.ybg;obtain ⟨K_BadThing,k_BadThing⟩:=T.ybu;obtain ⟨K_BadTriangle,k_BadTriangle⟩:=T.yaU;obtain ⟨K_NoRow,k_NoRow⟩:=T.yck;obtain ⟨K_YardError,k_YardError⟩:=T.ybm
 exact D.calZ Zd6 hKb hN ht (λf A outer s H E hr=>⟨_,(Za1 (ZkH (Zkn (Zfo (NL:=["_law_width", "_law_things", "_law_spots", "_law_height"]) (ix:=[1,0,3,2]) (i:=2) (hits:=["BadFloor", "BadThing", "BadTriangle"]) (k:=8) Dr Zak rfl (λ_=>rfl) rfl (λ_ _ _ _ _ _ _=>rfl) rfl k_YardError rfl (λfr cdv A outer s H E hr=>⟨_,λa=>(Zai (ZaW (i:=3) Zak.nd rfl (Or.inl rfl) (yaP ZaL (ZaC T.tab) rfl T.yab Zal (Zab (d_v 2) (Zab (Zb4 (Zab (ZbM rfl k_BadPattern) (Zab (ZbM rfl k_BadThing) (Zab (ZbM rfl k_BadTriangle) (Zab (ZbM rfl k_NoRow) Zah))))) Zah))))
  (Zar (ZaW (i:=1) Zak.nd rfl (Or.inl rfl) (Zfl (yaP ZaL (ZaC T.tab) rfl T.yab Zal (Zab (d_v 2) (Zab (ZbM rfl k_BadFloor) Zah))) (Zfl (yaP ZaL (ZaC T.tab) rfl T.yab Zal (Zab (d_v 2) (Zab (ycu rfl T.yah Za4) Zah))) (ZjZ (ZjK (d_v 3))))))))⟩) (T.h_YardError _ k_YardError) (hr.mono (by decide)) rfl rfl ⟨rfl,rfl,rfl,rfl,trivial⟩ (by kernel_rfl) rfl rfl rfl (λ_ _ _ _=>rfl) rfl CH_0 hB_0 (by decide) Zm_0 Zu_0 (λf c A outer s H E hr=>⟨_,(ZcX yaN hr (by decide) rfl ZcM (Zab (d_v 1) (Zab (d_v 0) (Zab (d_v 3) (Zab (d_v 2) Zah)))))⟩) (Zlt (by kernel_rfl)) rfl))
  (ZbZ (Zbv (E:=E) (Zbb ycv)))
  (ZjA (E:=E) ZaM))
  (Za1 (ZkH (Zkn (Zfo (NL:=["_law_width", "_law_things", "_law_spots", "_law_height"]) (ix:=[1,0,3,2]) (i:=2) (hits:=["BadFloor", "BadThing", "BadTriangle"]) (k:=8) Dr Zak rfl (λ_=>rfl) rfl (λ_ _ _ _ _ _ _=>rfl) rfl k_YardError rfl (λfr cdv A outer s H E hr=>⟨_,λa=>(Zai (ZaW (i:=3) Zak.nd rfl (Or.inl rfl) (yaP ZaL (ZaC T.tab) rfl T.yab Zal (Zab (d_v 2) (Zab (Zb4 (Zab (ZbM rfl k_BadPattern) (Zab (ZbM rfl k_BadThing) (Zab (ZbM rfl k_BadTriangle) (Zab (ZbM rfl k_NoRow) Zah))))) Zah))))
  (Zar (ZaW (i:=1) Zak.nd rfl (Or.inl rfl) (Zfl (yaP ZaL (ZaC T.tab) rfl T.yab Zal (Zab (d_v 2) (Zab (ZbM rfl k_BadFloor) Zah))) (Zfl (yaP ZaL (ZaC T.tab) rfl T.yab Zal (Zab (d_v 2) (Zab (ycu rfl T.yah Za4) Zah))) (ZjZ (ZjK (d_v 3))))))))⟩) (T.h_YardError _ k_YardError) (hr.mono (by decide)) rfl rfl ⟨rfl,rfl,rfl,rfl,trivial⟩ (by kernel_rfl) rfl rfl rfl (λ_ _ _ _=>rfl) rfl CH_0 hB_0 (by decide) Zm_0 Zu_0 (λf c A outer s H E hr=>⟨_,(Za9 ycg hr (by decide) rfl ZcM (Zab (d_v 1) (Zab (d_v 0) (Zab (d_v 3) (Zab (d_v 2) Zah)))))⟩) (Zlt (by kernel_rfl)) rfl))
  (ZbZ (Zbv (E:=E) (Zbb ycv)))
  (ZjA (E:=E) ZaM))
  (ZbZ (ZqX (Zfo (NL:=["_law_width", "_law_things", "_law_spots", "_law_height"]) (ix:=[1,0,3,2]) (i:=2) (hits:=["BadFloor", "BadThing", "BadTriangle"]) (k:=8) Dr Zak rfl (λ_=>rfl) rfl (λ_ _ _ _ _ _ _=>rfl) rfl k_YardError rfl (λfr cdv A outer s H E hr=>⟨_,λa=>(Zai (ZaW (i:=3) Zak.nd rfl (Or.inl rfl) (yaP ZaL (ZaC T.tab) rfl T.yab Zal (Zab (d_v 2) (Zab (Zb4 (Zab (ZbM rfl k_BadPattern) (Zab (ZbM rfl k_BadThing) (Zab (ZbM rfl k_BadTriangle) (Zab (ZbM rfl k_NoRow) Zah))))) Zah))))
  (Zar (ZaW (i:=1) Zak.nd rfl (Or.inl rfl) (Zfl (yaP ZaL (ZaC T.tab) rfl T.yab Zal (Zab (d_v 2) (Zab (ZbM rfl k_BadFloor) Zah))) (Zfl (yaP ZaL (ZaC T.tab) rfl T.yab Zal (Zab (d_v 2) (Zab (ycu rfl T.yah Za4) Zah))) (ZjZ (ZjK (d_v 3))))))))⟩) (T.h_YardError _ k_YardError) (hr.mono (by decide)) rfl rfl ⟨rfl,rfl,rfl,rfl,trivial⟩ (by kernel_rfl) rfl rfl rfl (λ_ _ _ _=>rfl) rfl CH_0 hB_0 (by decide) Zm_0 Zu_0 (λf c A outer s H E hr=>⟨_,(ZcX yad hr (by decide) rfl ZcM (Zab (d_v 1) (Zab (d_v 0) (Zab (d_v 3) (Zab Zam (Zab ZkE (Zab (d_v 2) Zah)))))))⟩) (Zlt (by kernel_rfl)) rfl)))))⟩)
def Zee(T:Txt K mg)(D:Def K mg "_law_bad_number" Zby ["_law_number", "_law_most"])  : Cal P w K mg base 1  "_law_bad_number" ["_law_number", "_law_most"]  ZaF:=by
 exact D.cal Zcc (λf cdv A outer s H E hr=>have hN:=Zcc.nd;⟨_,(by walk_at "e")⟩)
def ZeG(T:Txt K mg)(D:Def K mg "_law_bad_order" ZbL ["_law_number", "_law_many"])  : Cal P w K mg base 1  "_law_bad_order" ["_law_number", "_law_many"]  ZaQ:=by
 exact D.cal Za2 (λf cdv A outer s H E hr=>have hN:=Za2.nd;⟨_,(Zai (ZaW (i:=2) Za2.nd rfl (Or.inl rfl) (ycM rfl rfl T.yaG rfl T.ybQ (Zab (d_v 1) Zah)))
  (Zai (ZaW (i:=3) Za2.nd rfl (Or.inl rfl) (ZfC (Zab (by walk_at "e") (Zab (by walk_at "e") (Zab (by walk_at "e") (Zab (Zmv (Zsx (Zab Zam Zah) (d_v 1)) (by walk_at "e")) (by walk_at "e")))))))
  (by walk_at "e")))⟩)
def ZeL(T:Txt K mg)(D:Def K mg "_law_bad_spots" ZbQ ["_law_number"])  : Cal P w K mg base 1  "_law_bad_spots" ["_law_number"]  ZaI:=by
 exact D.cal Zbw (λf cdv A outer s H E hr=>have hN:=Zbw.nd;⟨_,(Zai (by walk_at "e")
  (Zai (Ziz (i:=2) Zbw.nd rfl (Or.inl rfl) (own:=["_law_k"]) (cap:=[]) (by walk_at "e") (by walk_at "co") rfl (by walk_at "cg") (by walk_at "ct") (by walk_at "ce"))
  (by walk_at "e")))⟩)
def ZfT(T:Txt K mg)(D:Def K mg "_law_cell_at" Zch ["_law_script", "_law_k"])  : Cal P w K mg base 1  "_law_cell_at" ["_law_script", "_law_k"]  ZaT:=by
 exact D.cal Zde (λf cdv A outer s H E hr=>have hN:=Zde.nd;⟨_,(by walk_at "e")⟩)
def ZgK(T:Txt K mg)(D:Def K mg "_law_mixed" Zdk ["_law_cell", "_law_k"])  : Cal P w K mg base 1  "_law_mixed" ["_law_cell", "_law_k"]  ZbF:=by
 exact D.cal Zek (λf cdv A outer s H E hr=>have hN:=Zek.nd;⟨_,(by walk_at "e")⟩)
def ZgD(T:Txt K mg)(D:Def K mg "_law_draws" Zc5 ["_law_cell", "_law_many"])(c__law_mixed:Cal P w K mg base 1  "_law_mixed" ["_law_cell", "_law_k"] ZbF):Cal P w K mg base 2  "_law_draws" ["_law_cell", "_law_many"]  ZbI:=by
 exact D.cal Zey (λf cdv A outer s H E hr=>have hN:=Zey.nd;⟨_,(Zar (Zbb (Zcb (own:=["_law_k"]) (cap:=[("_law_cell", 0)]) (by walk_at "e") (by walk_at "co") rfl (by walk_at "cg") (by walk_at "ct") (by walk_at "ce"))))⟩)
def Zq2{f:Addr}{fd:FuncData}(T:Txt K mg)(F:Fun K "law" "law" ZgE f fd)(ci_Plain:CalI P w K mg base 7 "Plain" 2 objs Zg5)(Dr:Def K mg "_law_refused" ZbC ["_law_deed"])(ycB:Cal P w K mg base 8  "paint" ["things", "width", "height", "spots", "ground"] ZaG)(ybB:Cal P w K mg base 8  "paint_tiles" ["things", "width", "height", "wide", "order", "spots", "ground"] Zaj)(cz__law_all_refused:CalZ P w K mg base Zt 12 "_law_all_refused" ["_law_things", "_law_width", "_law_height", "_law_spots"] Zaz)(yau:Cal P w K mg base 1  "_law_bad_number" ["_law_number", "_law_most"] ZaF)(ybi:Cal P w K mg base 1  "_law_bad_order" ["_law_number", "_law_many"] ZaQ)(yaD:Cal P w K mg base 1  "_law_bad_spots" ["_law_number"] ZaI)(yaQ:Cal P w K mg base 1  "_law_cell_at" ["_law_script", "_law_k"] ZaT)(ybR:Cal P w K mg base 2  "_law_draws" ["_law_cell", "_law_many"] ZbI)(ych:CalK P w K mg base 8 "paint" ["things", "width", "height", "spots", "ground"] [] [none,none] ZaG)(yaN:CalK P w K mg base 8 "paint" ["things", "width", "height", "spots", "ground"] [] [none] ZaG)(yad:CalK P w K mg base 8 "paint_tiles" ["things", "width", "height", "wide", "order", "spots", "ground"] [] [none] Zaj)(hKb:K.In base)(hN:base.Ns mainGlobals mg)(ht:W.tabIn K "law"=some (579,577))(CH_1:W.CodeHd base 579 577)(hB_1:base.BuiltinsAt mg 577)(hm:mg "law"=some (.ref f)):FnOk P w K mg base (CXR P w) 13 f fd ["_law_script"] (Zgl K Zt):=by
 obtain ⟨K_BadFloor,k_BadFloor⟩:=T.ybt;obtain ⟨K_BadPattern,k_BadPattern⟩:=T.ybg;obtain ⟨K_BadThing,k_BadThing⟩:=T.ybu;obtain ⟨K_BadTriangle,k_BadTriangle⟩:=T.yaU;obtain ⟨K_NoRow,k_NoRow⟩:=T.yck;obtain ⟨K_YardError,k_YardError⟩:=T.ybm
 exact okZ F ZbR hKb hN ht hm (λA outer s H E hr=>⟨_,(Za1 (Zbv (E:=E) (ZaW (i:=1) ZbR.nd rfl (Or.inr rfl) (ZfC Zah)))
  (Za1 (Zbv (E:=E) (ZcU (Zlg hr (ZgU (Za9 yaQ hr (by decide) rfl Zau (Zab (d_v 0) (Zab Zam Zah))) Zam) Zam)
  (Zar (ZaW (i:=1) ZbR.nd rfl (Or.inr rfl) (ZfC (Zab (Zqf ci_Plain hr (by decide) rfl Zau (Zab (Zb4 (Zab (Zb4 (Zab Zam (Zab Zam (Zab Zam (Zab Zam (Zab (Zb4 Zah) Zah)))))) (Zab (Zb4 (Zab Zam (Zab Zam (Zab Zam (Zab Zam (Zab (Zb4 Zah) Zah)))))) (Zab (Zb4 (Zab Zam (Zab Zam (Zab Zam (Zab Zam (Zab (Zb4 Zah) Zah)))))) Zah)))) (Zab (Zb4 (Zab Zam (Zab Zam Zah))) Zah))) Zah))))
  ZaM))
  (Za1 (ZrS (E:=E) Vb3 rfl (ZpW rfl T.yaG (Zab Zam (Zab (yaP (Zhe rfl) ZhM rfl T.ycF Znb (Zab Zam (Zab (yaP (ZhK rfl) ZhO rfl T.ycG Znf (Zab (yaP ZbH Zdb rfl T.yb1 Zgi (Zab (d_v 0) Zah)) (Zab Zam Zah))) Zah))) Zah))) (ZdR (i:=2) ZbR.nd rfl (Or.inl rfl) (by decide))
  (Za1 (Zbv (E:=E) (Znc (Za9 ybR hr (by decide) rfl Zau (Zab (Za9 yaQ hr (by decide) rfl Zau (Zab (d_v 0) (Zab (d_v 2) Zah))) (Zab Zam Zah))) (Zny rfl (Zfd (ZdR (i:=3) ZbR.nd rfl (Or.inl rfl) (by decide)) (Zfd (ZdR (i:=4) ZbR.nd rfl (Or.inr rfl) (by decide)) (Zfd (ZdR (i:=5) ZbR.nd rfl (Or.inl rfl) (by decide)) Zlb))))))
  (Za1 (Zbv (E:=E) (ZaW (i:=6) ZbR.nd rfl (Or.inr rfl) (ybP (ZfC (Zab ZkE (Zab (ZfC (Zab (Zb4 (Zab Zam (Zab Zam Zah))) Zah)) (Zab (ZfC (Zab (Zb4 (Zab Zam (Zab Zam Zah))) (Zab (Zb4 (Zab Zam (Zab Zam Zah))) Zah))) Zah)))) (ZgU (d_v 5) Zam))))
  (Za1 (Zbv (E:=E) (ZaW (i:=7) ZbR.nd rfl (Or.inl rfl) ycv))
  (Za1 (ZkH (Zg2 (E:=E) (Zlg hr (ZgU (d_v 3) Zam) Zam))
  (Za1 (Zbv (E:=E) (ZaW (i:=8) ZbR.nd rfl (Or.inl rfl) (Za9 yau hr (by decide) rfl Zau (Zab (d_v 4) (Zab Zam Zah)))))
  (Za1 (Zbv (E:=E) (ZaW (i:=9) ZbR.nd rfl (Or.inl rfl) (ybP (ZfC (Zab (Zb4 (Zab (d_v 8) (Zab Zam Zah))) (Zab (Zb4 (Zab Zam (Zab (d_v 8) Zah))) (Zab (Zb4 (Zab (d_v 8) (Zab (d_v 8) Zah))) Zah)))) (ZgU (Zl4 (d_v 5) Zam) Zam))))
  (ZbZ (Zi2 (i:=7) ZbR.nd rfl (Or.inl rfl) (Zjk (E:=E) cz__law_all_refused hr (by decide) rfl Zau (Zab (d_v 1) (Zab (ybP (d_v 9) Zam) (Zab (ybP (d_v 9) Zam) (Zab (ybP (ZfC (Zab (d_v 6) (Zab (Za9 yaD hr (by decide) rfl Zau (Zab (d_v 5) Zah)) Zah))) (ZgU (Zl4 (d_v 5) Zam) Zam)) Zah)))))))))
  (ZbZ (ZkH (Zg2 (E:=E) (Zlg hr (ZgU (d_v 3) Zam) Zam))
  (ZbZ (Zi2 (i:=7) ZbR.nd rfl (Or.inl rfl) (Zjk (E:=E) cz__law_all_refused hr (by decide) rfl Zau (Zab (d_v 1) (Zab Zam (Zab Zam (Zab (Za9 yaD hr (by decide) rfl Zau (Zab (d_v 4) Zah)) Zah)))))))
  (ZbZ (ZkH (Zg2 (E:=E) (Zlg hr (ZgU (d_v 3) Zam) Zam))
  (ZbZ (Zi2 (i:=7) ZbR.nd rfl (Or.inl rfl) (Zfo (NL:=["_law_things", "_law_number", "_law_good"]) (ix:=[1,4,6]) (i:=2) (hits:=["BadFloor", "BadThing", "BadTriangle"]) (k:=8) Dr Zak rfl (λ_=>rfl) rfl (λ_ _ _ _ _ _ _=>rfl) rfl k_YardError rfl (λfr cdv A outer s H E hr=>⟨_,λa=>(Zai (ZaW (i:=3) Zak.nd rfl (Or.inl rfl) (yaP ZaL (ZaC T.tab) rfl T.yab Zal (Zab (d_v 2) (Zab (Zb4 (Zab (ZbM rfl k_BadPattern) (Zab (ZbM rfl k_BadThing) (Zab (ZbM rfl k_BadTriangle) (Zab (ZbM rfl k_NoRow) Zah))))) Zah))))
  (Zar (ZaW (i:=1) Zak.nd rfl (Or.inl rfl) (Zfl (yaP ZaL (ZaC T.tab) rfl T.yab Zal (Zab (d_v 2) (Zab (ZbM rfl k_BadFloor) Zah))) (Zfl (yaP ZaL (ZaC T.tab) rfl T.yab Zal (Zab (d_v 2) (Zab (ycu rfl T.yah Za4) Zah))) (ZjZ (ZjK (d_v 3))))))))⟩) (T.h_YardError _ k_YardError) (hr.mono (by decide)) rfl rfl ⟨rfl,rfl,rfl,trivial⟩ (by kernel_rfl) rfl rfl rfl (λ_ _ _ _=>rfl) rfl CH_1 hB_1 (by decide) Zm_1 Zu_1 (λf c A outer s H E hr=>⟨_,(ZcX yad hr (by decide) rfl ZcM (Zab (d_v 0) (Zab Zam (Zab Zam (Zab (Za9 yau hr (by decide) rfl ZcM (Zab (d_v 1) (Zab Zam Zah))) (Zab ZkE (Zab (d_v 2) Zah)))))))⟩) (Zlt (by kernel_rfl)) rfl)))
  (ZbZ (Zi2 (i:=7) ZbR.nd rfl (Or.inl rfl) (Zfo (NL:=["_law_things", "_law_number", "_law_good"]) (ix:=[1,4,6]) (i:=2) (hits:=["BadFloor", "BadThing", "BadTriangle"]) (k:=8) Dr Zak rfl (λ_=>rfl) rfl (λ_ _ _ _ _ _ _=>rfl) rfl k_YardError rfl (λfr cdv A outer s H E hr=>⟨_,λa=>(Zai (ZaW (i:=3) Zak.nd rfl (Or.inl rfl) (yaP ZaL (ZaC T.tab) rfl T.yab Zal (Zab (d_v 2) (Zab (Zb4 (Zab (ZbM rfl k_BadPattern) (Zab (ZbM rfl k_BadThing) (Zab (ZbM rfl k_BadTriangle) (Zab (ZbM rfl k_NoRow) Zah))))) Zah))))
  (Zar (ZaW (i:=1) Zak.nd rfl (Or.inl rfl) (Zfl (yaP ZaL (ZaC T.tab) rfl T.yab Zal (Zab (d_v 2) (Zab (ZbM rfl k_BadFloor) Zah))) (Zfl (yaP ZaL (ZaC T.tab) rfl T.yab Zal (Zab (d_v 2) (Zab (ycu rfl T.yah Za4) Zah))) (ZjZ (ZjK (d_v 3))))))))⟩) (T.h_YardError _ k_YardError) (hr.mono (by decide)) rfl rfl ⟨rfl,rfl,rfl,trivial⟩ (by kernel_rfl) rfl rfl rfl (λ_ _ _ _=>rfl) rfl CH_1 hB_1 (by decide) Zm_1 Zu_1 (λf c A outer s H E hr=>⟨_,(ZcX yad hr (by decide) rfl ZcM (Zab (d_v 0) (Zab Zam (Zab Zam (Zab Zam (Zab (Za9 ybi hr (by decide) rfl ZcM (Zab (d_v 1) (Zab Zam Zah))) (Zab (d_v 2) Zah)))))))⟩) (Zlt (by kernel_rfl)) rfl))))))))
  (ZbZ (Zbv (E:=E) (ZcU (Zen (ZcS (d_v 7)))
  (Zar (Zbb ycv))
  ZaM))))))))
  (Za1 (Zbv (E:=E) (Ziz (i:=10) ZbR.nd rfl (Or.inl rfl) (own:=["_law_k"]) (cap:=[]) (Zsi rfl T.yaG (Zab Zam Zah)) (Zb1.of rfl rfl (by kernel_rfl) rfl trivial trivial) rfl (λ_ _ _ _ _=>(ZdR (i:=0) (show List.Nodup (["_law_k"]:List Str) by decide +kernel) rfl (Or.inl rfl) (by decide))) (λ_ _ _ _ _=>ZkN) (λ_ _ _ _ _=>(Zb4 (Zab (Zmv Zam (ZgU (d_v 0) Zam)) (Zab (Zmv Zam (Zl4 (d_v 0) Zam)) Zah))))))
  (Za1 (Zbv (E:=E) (ZcU (DW.dt (Zh6 (ZjJ hr (yaP ZbH Zdb rfl T.yb1 Zgi (Zab (ybP (ZcX yaN hr (by decide) rfl Zau (Zab (d_v 1) (Zab Zam (Zab Zam (Zab (d_v 10) Zah))))) Zam) Zah)) Zam) (Zgq (ZjJ hr (yaP ZbH Zdb rfl T.yb1 Zgi (Zab (ZcX ych hr (by decide) rfl Zau (Zab (ZfC Zah) (Zab Zam (Zab Zam Zah)))) Zah)) Zam))))
  (Zar (Zbb ycv))
  ZaM))
  (ZbZ (Zbv (E:=E) (Zbb (ycT hr (ybP (ZcX yad hr (by decide) rfl Zau (Zab (d_v 1) (Zab Zam (Zab Zam (Zab Zam (Zab (ZfC (Zab Zam Zah)) (Zab (d_v 10) Zah))))))) Zam) (ZcX yaN hr (by decide) rfl Zau (Zab (d_v 1) (Zab Zam (Zab Zam (Zab (d_v 10) Zah))))))))))))))⟩) ZmA
end
def ln1{P:List Value->Prop}(q:∀a,P [a]):∀us,us.length=1->P us:=by intro us h;rcases us with _|⟨a,_|_⟩<;>first | exact q _ | cases h
def ln2{P:List Value->Prop}(q:∀a b,P [a,b]):∀us,us.length=2->P us:=by intro us h;rcases us with _|⟨a,_|⟨b,_|_⟩⟩<;>first | exact q _ _ | cases h
def ln3{P:List Value->Prop}(q:∀a b c,P [a,b,c]):∀us,us.length=3->P us:=by intro us h;rcases us with _|⟨a,_|⟨b,_|⟨c,_|_⟩⟩⟩<;>first | exact q _ _ _ | cases h
def ln4{P:List Value->Prop}(q:∀a b c d,P [a,b,c,d]):∀us,us.length=4->P us:=by intro us h;rcases us with _|⟨a,_|⟨b,_|⟨c,_|⟨d,_|_⟩⟩⟩⟩<;>first | exact q _ _ _ _ | cases h
def ln5{P:List Value->Prop}(q:∀a b c d e,P [a,b,c,d,e]):∀us,us.length=5->P us:=by intro us h;rcases us with _|⟨a,_|⟨b,_|⟨c,_|⟨d,_|⟨e,_|_⟩⟩⟩⟩⟩<;>first | exact q _ _ _ _ _ | cases h
def ln7{P:List Value->Prop}(q:∀a b c d e f g,P [a,b,c,d,e,f,g]):∀us,us.length=7->P us:=by intro us h;rcases us with _|⟨a,_|⟨b,_|⟨c,_|⟨d,_|⟨e,_|⟨f,_|⟨g,_|_⟩⟩⟩⟩⟩⟩⟩<;>first | exact q _ _ _ _ _ _ _ | cases h
def dmk{K:W.Frag}{mg:Str->Option Value}{x:Str}{st:Stmt}{ps:List Str}{f:Addr}{fd:FuncData}(F:Fun K x x st f fd)(b:Binds K fd ps [])(m:mg x=some (.ref f)):Def K mg x st ps:=⟨f,fd,F,b,m⟩
local macro_rules | `(tactic| walk_at "b1")=>`(tactic| exact λ_ _ _ _ _ _=>My.ln1 λ_=>rfl)
local macro_rules | `(tactic| walk_at "b2")=>`(tactic| exact λ_ _ _ _ _ _=>My.ln2 λ_ _=>rfl)
local macro_rules | `(tactic| walk_at "b3")=>`(tactic| exact λ_ _ _ _ _ _=>My.ln3 λ_ _ _=>rfl)
local macro_rules | `(tactic| walk_at "b4")=>`(tactic| exact λ_ _ _ _ _ _=>My.ln4 λ_ _ _ _=>rfl)
local macro_rules | `(tactic| walk_at "b5")=>`(tactic| exact λ_ _ _ _ _ _=>My.ln5 λ_ _ _ _ _=>rfl)
local macro_rules | `(tactic| walk_at "b7")=>`(tactic| exact λ_ _ _ _ _ _=>My.ln7 λ_ _ _ _ _ _ _=>rfl)
abbrev NI(K:W.Frag)(x:Str)(f:Addr):Prop:=W.nsIn K mainGlobals x=some (some (.ref f))
abbrev Df(K:W.Frag)(x q:Str)(st:Stmt)(f:Addr):Prop:=∃fd,Fun K x q st f fd
def Zse{l:W.OpenLaw}{w:World}{K:W.Frag}{h:Heap}{mg:Str->Option Value}{fa f6 f10 f11 f31 f33 f38 f46 f60 f68:Addr}(X:K.In h)(G:h.Ns mainGlobals mg)(hfa:mg "law"=some (.ref fa))
  {od31 an31 od46 an46 od60 an60 od68 an68:Option Addr} {sl31 sl46 sl60 sl68:Array (Option Value)} {oc31 kV31 dc31 pm31 cd31 ct31 oc46 kV46 dc46 pm46 cd46 ct46 oc60 kV60 dc60 pm60 cd60 ct60 oc68 kV68 dc68 pm68 cd68 ct68:Value} {tk0 tk1 tk2 tk3:Tok} {C0 C1 C2 C3 C4 C5 X0 X1 X2 yae yaO:Addr}  {dT31:Addr} {dc_31:Value} {dd_31:Option Addr} {dn_31:Nat} {ds_31:Array (Option Value)} {dT46:Addr} {dc_46:Value} {dd_46:Option Addr} {dn_46:Nat} {ds_46:Array (Option Value)} {dT60:Addr} {dc_60:Value} {dd_60:Option Addr} {dn_60:Nat} {ds_60:Array (Option Value)}
  (yaq:NI K "Plain" yae)
  (ybC:NI K "Thing" yaO)
  (D1:Def K mg "check_before_eye" Zbk ["corners"])
  (D2:Def K mg "is_whole" ZeF ["thing"])
  (D3:Def K mg "are_values" Zdl ["thing"])
  (D4:Def K mg "is_corner" ZdI ["thing"])
  (D5:Def K mg "check_triangle" ZbO ["triangle"])
  (a6:W.findIn K (.ref yaO) "__init__"=some (some (.ref f6))) (d6:Df K "__init__" "Thing.__init__" ZbB f6) (q6:W.isFn K (.ref f6)=true)
  (D7:Def K mg "greatest_divisor" Zbm ["numbers"])
  (D8:Def K mg "is_fraction" ZcC ["thing"])
  (D9:Def K mg "check_colour" Zcm ["colour"])
  (a10:W.findIn K (.ref yae) "__init__"=some (some (.ref f10))) (d10:Df K "__init__" "Plain.__init__" Zbx f10) (q10:W.isFn K (.ref f10)=true)
  (a11:NI K "_law_refused" f11) (d11:Df K "_law_refused" "_law_refused" ZbC f11)
  (D12:Def K mg "is_between" Zdf ["thing", "least", "most"])
  (D13:Def K mg "check_floor" ZcG ["width", "height"])
  (D14:Def K mg "has_alike_depths" Zbn ["sights"])
  (D15:Def K mg "ratio" ZiJ ["top", "bottom"])
  (D16:Def K mg "summed_products" ZbA ["three", "other"])
  (D17:Def K mg "weighed_h" ZdK ["triangle", "amounts"])
  (D18:Def K mg "depth_and_values" Zbg ["triangle", "amounts"])
  (D19:Def K mg "edge_numbers" Zcl ["one", "other"])
  (D20:Def K mg "side" ZlE ["one", "other", "point"])
  (D21:Def K mg "had" Zp0 ["triangle", "point"])
  (D22:Def K mg "edge_sum" ZeH ["one", "other", "point"])
  (D23:Def K mg "weights" ZfE ["triangle", "point"])
  (D24:Def K mg "seen_at" Zfq ["triangle", "point"])
  (D25:Def K mg "sights_at" Zd2 ["things", "p"])
  (D26:Def K mg "spot_at" ZfP ["column", "row", "spot"])
  (D27:Def K mg "sights_in" ZdF ["things", "column", "row", "spots"])
  (D28:Def K mg "is_spot" Zfk ["thing"])
  (D29:Def K mg "check_spots" Zcw ["spots"])
  (D30:Def K mg "spots_or_middle" Zbs ["spots"])
  (a31:W.nsIn K mainGlobals "doubtful"=some (some (.ref f31))) (l31:K.lookup f31=some ⟨oc31,od31,.func (W.fnOf "doubtful" "doubtful" (ZaY Za0) (Zav Za0) (Zac Za0) (.ref dT31) kV31 dc31 pm31 an31 cd31 ct31),sl31⟩) (c31:W.codeIn K cd31 "doubtful"=true) (k31:W.keepIn K (.ref f31)=true)
  (D32:Def K mg "ground_or_none" ZbK ["ground"])
  (a33:W.findIn K (.ref yae) "colour_at"=some (some (.ref f33))) (d33:Df K "colour_at" "Plain.colour_at" Zbl f33) (q33:W.isFn K (.ref f33)=true)
  (D34:Def K mg "minus" Zih ["one", "other"])
  (D35:Def K mg "plus" Zkf ["one", "other"])
  (D36:Def K mg "product" ZfJ ["one", "other"])
  (D37:Def K mg "laid_over" Zd5 ["glass", "colour"])
  (a38:W.findIn K (.ref yaO) "is_glass"=some (some (.ref f38))) (d38:Df K "is_glass" "Thing.is_glass" Zbz f38) (q38:W.isFn K (.ref f38)=true)
  (D39:Def K mg "under" Zim ["one", "other"])
  (D40:Def K mg "layers_over" Zcx ["nearest", "sights"])
  (D41:Def K mg "nearest_of" Zdj ["sights"])
  (D42:Def K mg "colour_of" ZdP ["sights", "ground"])
  (D43:Def K mg "mean_of" ZfH ["some"])
  (D44:Def K mg "cell_colour" ZcP ["sights_by_spot", "ground"])
  (D45:Def K mg "painted_row" Zcv ["things", "width", "row", "spots", "ground"])
  (a46:W.nsIn K mainGlobals "paint"=some (some (.ref f46))) (l46:K.lookup f46=some ⟨oc46,od46,.func (W.fnOf "paint" "paint" (ZaY ZcA) (Zav ZcA) (Zac ZcA) (.ref dT46) kV46 dc46 pm46 an46 cd46 ct46),sl46⟩) (c46:W.codeIn K cd46 "paint"=true) (k46:W.keepIn K (.ref f46)=true)
  (D47:Def K mg "check_wide" Zdg ["wide"])
  (D48:Def K mg "greatest_of" Zcz ["some"])
  (D49:Def K mg "far_depth" Zd3 ["least_depths"])
  (D50:Def K mg "least_of" ZeK ["some"])
  (D51:Def K mg "lesser" ZgM ["least", "depth"])
  (D52:Def K mg "look_at" ZfG ["thing", "points", "sights_by_point", "least_depths"])
  (D53:Def K mg "near_depth" Zc6 ["triangle"])
  (D54:Def K mg "looked_at" ZdS ["things", "points"])
  (D55:Def K mg "order_or_rising" Zbr ["order", "count"])
  (D56:Def K mg "paint_cells" ZcE ["picture", "cells", "sights_by_point", "ground"])
  (D57:Def K mg "points_in" ZdW ["cells", "spots"])
  (D58:Def K mg "tiles_along" ZcD ["length", "wide"])
  (D59:Def K mg "tile_cells" Zc3 ["width", "height", "wide", "tile"])
  (a60:W.nsIn K mainGlobals "paint_tiles"=some (some (.ref f60))) (l60:K.lookup f60=some ⟨oc60,od60,.func (W.fnOf "paint_tiles" "paint_tiles" (ZaY ZaD) (Zav ZaD) (Zac ZaD) (.ref dT60) kV60 dc60 pm60 an60 cd60 ct60),sl60⟩) (c60:W.codeIn K cd60 "paint_tiles"=true) (k60:W.keepIn K (.ref f60)=true)
  (D61:Def K mg "_law_all_refused" Zbe ["_law_things", "_law_width", "_law_height", "_law_spots"])
  (D62:Def K mg "_law_bad_number" Zby ["_law_number", "_law_most"])
  (D63:Def K mg "_law_bad_order" ZbL ["_law_number", "_law_many"])
  (D64:Def K mg "_law_bad_spots" ZbQ ["_law_number"])
  (D65:Def K mg "_law_cell_at" Zch ["_law_script", "_law_k"])
  (D66:Def K mg "_law_mixed" Zdk ["_law_cell", "_law_k"])
  (D67:Def K mg "_law_draws" Zc5 ["_law_cell", "_law_many"])
  (a68:W.nsIn K mainGlobals "law"=some (some (.ref f68))) (l68:K.lookup f68=some ⟨oc68,od68,.func (W.fnOf "law" "law" (ZaY ZgE) (Zav ZgE) (Zac ZgE) .none kV68 dc68 pm68 an68 cd68 ct68),sl68⟩) (c68:W.codeIn K cd68 "law"=true) (k68:W.keepIn K (.ref f68)=true)
  (dl31:K.lookup dT31=some ⟨dc_31,dd_31,.seq #[.none] dn_31,ds_31⟩)
  (dl46:K.lookup dT46=some ⟨dc_46,dd_46,.seq #[.none,.none] dn_46,ds_46⟩)
  (dl60:K.lookup dT60=some ⟨dc_60,dd_60,.seq #[.none,.none,.none] dn_60,ds_60⟩)
  (yax:W.plainGet K yae Str.empty=true) (yay:W.hasDictIn K yae=true) (yaz:W.plainOver K yae=true) (yaA:W.findIn K (.ref yae) "__setattr__"=some (some (.builtin "object.__setattr__")))
  (yan:W.findIn K (.ref yae) "colour"=some none)
  (yaB:W.findIn K (.ref yae) "part"=some none)
  (yaj:W.findIn K (.ref yae) "triangle"=some none)
  (yai:W.findIn K (.ref yae) "colour_at"=some (some (.ref f33)))
  (yak:W.findIn K (.ref yae) "is_glass"=some (some (.ref f38)))
  (ybD:W.makesIn K yae=true) (ybE:W.keepIn K (.ref yae)=true)
  (ybF:W.specialIn K (.ref yaO) "__getattribute__"=some (some (.builtin "type.__getattribute__"))) (ybG:W.readsIn K yaO (.type "type")=true) (ybH:W.findCls K (.ref yaO) (.type "type") "__init__"=some (.val (.ref f6))) (ybI:W.handedIn (.ref f6)=true)
  (z0:W.nsIn K mainGlobals "ValueError"=some none)
  (z1:W.nsIn K mainGlobals "abs"=some none)
  (z2:W.nsIn K mainGlobals "all"=some none)
  (z3:W.nsIn K mainGlobals "any"=some none)
  (z4:W.nsIn K mainGlobals "bool"=some none)
  (z5:W.nsIn K mainGlobals "enumerate"=some none)
  (z6:W.nsIn K mainGlobals "int"=some none)
  (z7:W.nsIn K mainGlobals "isinstance"=some none)
  (z8:W.nsIn K mainGlobals "len"=some none)
  (z9:W.nsIn K mainGlobals "list"=some none)
  (z10:W.nsIn K mainGlobals "max"=some none)
  (z11:W.nsIn K mainGlobals "min"=some none)
  (z12:W.nsIn K mainGlobals "range"=some none)
  (z13:W.nsIn K mainGlobals "set"=some none)
  (z14:W.nsIn K mainGlobals "sorted"=some none)
  (z15:W.nsIn K mainGlobals "str"=some none)
  (z16:W.nsIn K mainGlobals "tuple"=some none)
  (z17:W.nsIn K mainGlobals "zip"=some none)
  (gc0:W.nsIn K mainGlobals "MOST_CELLS"=some (some (.int 64 tk0)))
  (gc1:W.nsIn K mainGlobals "MOST_SPOTS"=some (some (.int 16 tk1)))
  (gc2:W.nsIn K mainGlobals "MOST_VALUES"=some (some (.int 3 tk2)))
  (gc3:W.nsIn K mainGlobals "MOST_WIDE"=some (some (.int 64 tk3)))
  (cl0:NI K "BadFloor" C0)
  (cl1:NI K "BadPattern" C1)
  (cl2:NI K "BadThing" C2)
  (cl3:NI K "BadTriangle" C3)
  (cl4:NI K "NoRow" C4)
  (cl5:NI K "YardError" C5)
  (xa0:W.nsIn K mainGlobals "BadFloor"=some (some (.ref X0))) (xb0:W.excIn K X0 Zg4 "ValueError.__new__"=true)
  (xa1:W.nsIn K mainGlobals "BadThing"=some (some (.ref X1))) (xb1:W.excIn K X1 Zg4 "ValueError.__new__"=true)
  (xa2:W.nsIn K mainGlobals "BadTriangle"=some (some (.ref X2))) (xb2:W.excIn K X2 Zg4 "ValueError.__new__"=true)
  (xm0_5:W.exmOne K (.ref X0) (.ref C5)=some true)
  (xm1_5:W.exmOne K (.ref X1) (.ref C5)=some true)
  (xm2_5:W.exmOne K (.ref X2) (.ref C5)=some true)
  (kg0:W.findIn K (.ref X0) "__getattribute__"=some (some (.builtin "BaseException.__getattribute__"))) (kn0:W.findIn K (.ref X0) "__getattr__"=some none) (kb0:W.mroIn K X0 (.type "BaseException")=some true) (kd0:W.hasDictIn K X0=true) (kf0:W.findIn K (.ref X0) "__class__"=some (some (.builtin "object.__class__"))) (ks0:W.specialIn K (.builtin "object.__class__") "__get__"=some (some (.builtin "getset_descriptor.__get__"))) (ku0:W.takesIn K (.builtin "object.__class__")=some true) (km0:W.mroIn K X0 (.type "object")=some true)
  (kg1:W.findIn K (.ref X1) "__getattribute__"=some (some (.builtin "BaseException.__getattribute__"))) (kn1:W.findIn K (.ref X1) "__getattr__"=some none) (kb1:W.mroIn K X1 (.type "BaseException")=some true) (kd1:W.hasDictIn K X1=true) (kf1:W.findIn K (.ref X1) "__class__"=some (some (.builtin "object.__class__"))) (ks1:W.specialIn K (.builtin "object.__class__") "__get__"=some (some (.builtin "getset_descriptor.__get__"))) (ku1:W.takesIn K (.builtin "object.__class__")=some true) (km1:W.mroIn K X1 (.type "object")=some true)
  (kg2:W.findIn K (.ref X2) "__getattribute__"=some (some (.builtin "BaseException.__getattribute__"))) (kn2:W.findIn K (.ref X2) "__getattr__"=some none) (kb2:W.mroIn K X2 (.type "BaseException")=some true) (kd2:W.hasDictIn K X2=true) (kf2:W.findIn K (.ref X2) "__class__"=some (some (.builtin "object.__class__"))) (ks2:W.specialIn K (.builtin "object.__class__") "__get__"=some (some (.builtin "getset_descriptor.__get__"))) (ku2:W.takesIn K (.builtin "object.__class__")=some true) (km2:W.mroIn K X2 (.type "object")=some true)
  (kt0_0:W.kitOne K (.ref X0) (.ref C0)=some true)
  (kt0_1:W.kitOne K (.ref X0) (.ref C1)=some false)
  (kt0_2:W.kitOne K (.ref X0) (.ref C2)=some false)
  (kt0_3:W.kitOne K (.ref X0) (.ref C3)=some false)
  (kt0_4:W.kitOne K (.ref X0) (.ref C4)=some false)
  (kt1_0:W.kitOne K (.ref X1) (.ref C0)=some false)
  (kt1_1:W.kitOne K (.ref X1) (.ref C1)=some false)
  (kt1_2:W.kitOne K (.ref X1) (.ref C2)=some true)
  (kt1_3:W.kitOne K (.ref X1) (.ref C3)=some false)
  (kt1_4:W.kitOne K (.ref X1) (.ref C4)=some false)
  (kt2_0:W.kitOne K (.ref X2) (.ref C0)=some false)
  (kt2_1:W.kitOne K (.ref X2) (.ref C1)=some false)
  (kt2_2:W.kitOne K (.ref X2) (.ref C2)=some false)
  (kt2_3:W.kitOne K (.ref X2) (.ref C3)=some true)
  (kt2_4:W.kitOne K (.ref X2) (.ref C4)=some false)
  (kv0_ValueError:W.kitOne K (.ref X0) (.type "ValueError")=some true)
  (kv1_ValueError:W.kitOne K (.ref X1) (.type "ValueError")=some true)
  (kv2_ValueError:W.kitOne K (.ref X2) (.type "ValueError")=some true)
  (ht_0:W.tabIn K "_law_all_refused"=some (574,570))
  (ht_1:W.tabIn K "law"=some (579,577))
  : ∃fd:FuncData,(∀(s:Shared) (v:Value),BindsTo s fd ⟨[v],[]⟩ [("_law_script", v)])/\∀base:Heap,K.In base->base.Ns mainGlobals mg->(∀z∈Zt,W.CodeHd base (Ct z.1) z.1/\base.BuiltinsAt mg z.1)->FnOk l.prog w K mg base (CXR l.prog w) 13 fa fd ["_law_script"] (Zgl K Zt):=by
 have e:=hfa.symm.trans (Vb4 X G a68);cases e;have T:Txt K mg:=⟨Vb5 X G z0,Vb5 X G z1,Vb5 X G z2,Vb5 X G z3,Vb5 X G z4,Vb5 X G z5,Vb5 X G z6,Vb5 X G z7,Vb5 X G z8,Vb5 X G z9,Vb5 X G z10,Vb5 X G z11,Vb5 X G z12,Vb5 X G z13,Vb5 X G z14,Vb5 X G z15,Vb5 X G z16,Vb5 X G z17,⟨_,Vb4 X G gc0⟩,⟨_,Vb4 X G gc1⟩,⟨_,Vb4 X G gc2⟩,⟨_,Vb4 X G gc3⟩,⟨_,Vb4 X G cl0⟩,⟨_,Vb4 X G cl1⟩,⟨_,Vb4 X G cl2⟩,⟨_,Vb4 X G cl3⟩,⟨_,Vb4 X G cl4⟩,⟨_,Vb4 X G cl5⟩,⟨_,Vb4 X G xa0,xb0⟩,⟨_,Vb4 X G xa1,xb1⟩,⟨_,Vb4 X G xa2,xb2⟩,λC hC=>by cases (Vb4 X G cl5).symm.trans hC;exact (Vb2.mpr ⟨⟨_,Vb4 X G xa0,xm0_5⟩,(Vb2.mpr ⟨⟨_,Vb4 X G xa1,xm1_5⟩,(Vb2.mpr ⟨⟨_,Vb4 X G xa2,xm2_5⟩,(λ_ h=>absurd h VbN)⟩)⟩)⟩),⟨(Vb2.mpr ⟨⟨_,_,Vb4 X G xa0,Vb4 X G cl0,⟨kg0,kn0,kb0,kd0,kf0,ks0,ku0,km0⟩,kt0_0⟩,(Vb2.mpr ⟨⟨_,_,Vb4 X G xa0,Vb4 X G cl1,⟨kg0,kn0,kb0,kd0,kf0,ks0,ku0,km0⟩,kt0_1⟩,(Vb2.mpr ⟨⟨_,_,Vb4 X G xa0,Vb4 X G cl2,⟨kg0,kn0,kb0,kd0,kf0,ks0,ku0,km0⟩,kt0_2⟩,(Vb2.mpr ⟨⟨_,_,Vb4 X G xa0,Vb4 X G cl3,⟨kg0,kn0,kb0,kd0,kf0,ks0,ku0,km0⟩,kt0_3⟩,(Vb2.mpr ⟨⟨_,_,Vb4 X G xa0,Vb4 X G cl4,⟨kg0,kn0,kb0,kd0,kf0,ks0,ku0,km0⟩,kt0_4⟩,(Vb2.mpr ⟨⟨_,_,Vb4 X G xa1,Vb4 X G cl0,⟨kg1,kn1,kb1,kd1,kf1,ks1,ku1,km1⟩,kt1_0⟩,(Vb2.mpr ⟨⟨_,_,Vb4 X G xa1,Vb4 X G cl1,⟨kg1,kn1,kb1,kd1,kf1,ks1,ku1,km1⟩,kt1_1⟩,(Vb2.mpr ⟨⟨_,_,Vb4 X G xa1,Vb4 X G cl2,⟨kg1,kn1,kb1,kd1,kf1,ks1,ku1,km1⟩,kt1_2⟩,(Vb2.mpr ⟨⟨_,_,Vb4 X G xa1,Vb4 X G cl3,⟨kg1,kn1,kb1,kd1,kf1,ks1,ku1,km1⟩,kt1_3⟩,(Vb2.mpr ⟨⟨_,_,Vb4 X G xa1,Vb4 X G cl4,⟨kg1,kn1,kb1,kd1,kf1,ks1,ku1,km1⟩,kt1_4⟩,(Vb2.mpr ⟨⟨_,_,Vb4 X G xa2,Vb4 X G cl0,⟨kg2,kn2,kb2,kd2,kf2,ks2,ku2,km2⟩,kt2_0⟩,(Vb2.mpr ⟨⟨_,_,Vb4 X G xa2,Vb4 X G cl1,⟨kg2,kn2,kb2,kd2,kf2,ks2,ku2,km2⟩,kt2_1⟩,(Vb2.mpr ⟨⟨_,_,Vb4 X G xa2,Vb4 X G cl2,⟨kg2,kn2,kb2,kd2,kf2,ks2,ku2,km2⟩,kt2_2⟩,(Vb2.mpr ⟨⟨_,_,Vb4 X G xa2,Vb4 X G cl3,⟨kg2,kn2,kb2,kd2,kf2,ks2,ku2,km2⟩,kt2_3⟩,(Vb2.mpr ⟨⟨_,_,Vb4 X G xa2,Vb4 X G cl4,⟨kg2,kn2,kb2,kd2,kf2,ks2,ku2,km2⟩,kt2_4⟩,(λ_ h=>absurd h VbN)⟩)⟩)⟩)⟩)⟩)⟩)⟩)⟩)⟩)⟩)⟩)⟩)⟩)⟩)⟩),(Vb2.mpr ⟨⟨_,Vb4 X G xa0,⟨kg0,kn0,kb0,kd0,kf0,ks0,ku0,km0⟩,kv0_ValueError⟩,(Vb2.mpr ⟨⟨_,Vb4 X G xa1,⟨kg1,kn1,kb1,kd1,kf1,ks1,ku1,km1⟩,kv1_ValueError⟩,(Vb2.mpr ⟨⟨_,Vb4 X G xa2,⟨kg2,kn2,kb2,kd2,kf2,ks2,ku2,km2⟩,kv2_ValueError⟩,(λ_ h=>absurd h VbN)⟩)⟩)⟩)⟩,(.cons (λC hC=>by cases (Vb4 X G yaq).symm.trans hC;exact ⟨⟨yax,yay,yaz,yaA⟩,yan⟩) .nil),(.cons (λC hC=>by cases (Vb4 X G yaq).symm.trans hC;exact ⟨⟨yax,yay,yaz,yaA⟩,yaB⟩) .nil),(.cons (λC hC=>by cases (Vb4 X G yaq).symm.trans hC;exact ⟨⟨yax,yay,yaz,yaA⟩,yaj⟩) .nil)⟩;obtain ⟨_,F6⟩:=d6;have B6:=F6.binds (ps:=["self", "triangle"]) (by walk_at "b2");obtain ⟨_,F10⟩:=d10;have B10:=F10.binds (ps:=["self", "triangle", "colour"]) (by walk_at "b3");obtain ⟨_,F11⟩:=d11;have D11:=dmk F11 (F11.binds (ps:=["_law_deed"]) (by walk_at "b1")) (Vb4 X G a11);have F31:FunD K "doubtful" "doubtful" Za0 (.ref dT31) f31 _:=⟨_,_,_,_,_,_,_,_,_,rfl,l31,c31⟩;obtain ⟨_,F33⟩:=d33;have B33:=F33.binds (ps:=["self", "values"]) (by walk_at "b2");obtain ⟨_,F38⟩:=d38;have B38:=F38.binds (ps:=["self"]) (by walk_at "b1");have F46:FunD K "paint" "paint" ZcA (.ref dT46) f46 _:=⟨_,_,_,_,_,_,_,_,_,rfl,l46,c46⟩;have F60:FunD K "paint_tiles" "paint_tiles" ZaD (.ref dT60) f60 _:=⟨_,_,_,_,_,_,_,_,_,rfl,l60,c60⟩;have F68:=ZcQ (st:=ZgE) l68 c68 k68;have D68:=dmk F68 (F68.binds (ps:=["_law_script"]) (by walk_at "b1")) (Vb4 X G a68);refine ⟨W.fnOf "law" "law" (ZaY ZgE) (Zav ZgE) (Zac ZgE) .none kV68 dc68 pm68 an68 cd68 ct68,λs v=>.of_eq rfl,λbase hKb hN HZ=>?_⟩;have yar:=Zd4 (P:=l.prog) (w:=w) (base:=base) T D1;have yav:=Zin (P:=l.prog) (w:=w) (base:=base) T D2;have ybS:=ZgW (P:=l.prog) (w:=w) (base:=base) T D3 yav;have yb4:=Zhc (P:=l.prog) (w:=w) (base:=base) T D4 yav ybS;have ybj:=ZeM (P:=l.prog) (w:=w) (base:=base) T D5 yb4;have yba:=Zml (P:=l.prog) (w:=w) (base:=base) T F6 yar ybj;have CS_Thing:CalS l.prog w K mg base 5 "Thing" "__init__" 1 objs Zgz:=⟨_,_,_,_,Vb4 X G ybC,⟨ybF,⟨_,ybG,ybH⟩,ybI,F6.kp⟩,yba,B6⟩;have yas:=ZdZ (P:=l.prog) (w:=w) (base:=base) T D7;have ybJ:=Zf0 (P:=l.prog) (w:=w) (base:=base) T D8 yav yas;have ybr:=Zfg (P:=l.prog) (w:=w) (base:=base) T D9 ybJ;have ybb:=Zm3 (P:=l.prog) (w:=w) (base:=base) T F10 CS_Thing ybr;have CI_Plain:CalI l.prog w K mg base 7 "Plain" 2 objs Zg5:=⟨_,_,_,_,Vb4 X G yaq,⟨ybD,a10,q10,ybE⟩,ybb,B10,rfl⟩;have yaI:=ZgF (P:=l.prog) (w:=w) (base:=base) T D12 yav;have yaC:=Zf4 (P:=l.prog) (w:=w) (base:=base) T D13 yaI;have ya1:=ZdX (P:=l.prog) (w:=w) (base:=base) T D14;have ybc:=ZmW (P:=l.prog) (w:=w) (base:=base) T D15 yas;have yaf:=Zem (P:=l.prog) (w:=w) (base:=base) T D16;have yb5:=ZhB (P:=l.prog) (w:=w) (base:=base) T D17 yaf;have ya2:=ZdJ (P:=l.prog) (w:=w) (base:=base) T D18 ybc yaf yb5;have yaR:=ZfF (P:=l.prog) (w:=w) (base:=base) T D19;have ycJ:=Zpf (P:=l.prog) (w:=w) (base:=base) T D20 yaf yaR;have ycS:=Zrc (P:=l.prog) (w:=w) (base:=base) T D21 yar ycJ;have yci:=Zif (P:=l.prog) (w:=w) (base:=base) T D22 yaf yaR;have yco:=ZjO (P:=l.prog) (w:=w) (base:=base) T D23 yci;have ybT:=Zj3 (P:=l.prog) (w:=w) (base:=base) T D24 ya2 ycS yco;have yb6:=ZhR (P:=l.prog) (w:=w) (base:=base) T D25 ybT;have ybU:=Zj0 (P:=l.prog) (w:=w) (base:=base) T D26;have ybn:=ZhX (P:=l.prog) (w:=w) (base:=base) T D27 yb6 ybU;have ycp:=Zkb (P:=l.prog) (w:=w) (base:=base) T D28 yaI;have ybK:=ZfY (P:=l.prog) (w:=w) (base:=base) T D29 ycp;have yal:=Zd8 (P:=l.prog) (w:=w) (base:=base) T D30 ybK;have K_doubtful:=Zis (P:=l.prog) (w:=w) (base:=base) T F31 yaC ya1 ybn yal;have B_doubtful:Binds K (W.fnOf "doubtful" "doubtful" (ZaY Za0) (Zav Za0) (Zac Za0) (.ref dT31) kV31 dc31 pm31 an31 cd31 ct31) ["things", "width", "height", "spots"] []:=λs us X hl=>My.ln4 (P:=λus=>BindsTo s _ {pos:=us} (List.zip (["things", "width", "height", "spots"]:List Str) (us++[]))) (λ_ _ _ _=>Vb6 rfl (X _ _ dl31) rfl rfl rfl) us (by simpa using hl);have ycj:Cal l.prog w K mg base 7 "doubtful" ["things", "width", "height", "spots"] Zbc:=⟨_,_,K_doubtful,B_doubtful,k31,Vb4 X G a31⟩;have yaE:=ZeA (P:=l.prog) (w:=w) (base:=base) T D32;have ya3:=ZdN (P:=l.prog) (w:=w) (base:=base) T F33;have CM_colour_at:Zce l.prog w K mg base 1 1 "colour_at" ZcH:=(.cons (λC hC=>by cases (Vb4 X G yaq).symm.trans hC;exact ⟨⟨yax,yay,yaz,yaA⟩,_,_,_,⟨yai,q33,F33.kp⟩,ya3.mono (by decide),B33,rfl⟩) .nil);have ycC:=Zl3 (P:=l.prog) (w:=w) (base:=base) T D34 ybc;have ycA:=ZpT (P:=l.prog) (w:=w) (base:=base) T D35 ybc;have ycq:=ZjR (P:=l.prog) (w:=w) (base:=base) T D36 ybc;have yb7:=Zg6 (P:=l.prog) (w:=w) (base:=base) T D37 ycC ycA ycq;have ybd:=Zej (P:=l.prog) (w:=w) (base:=base) T F38;have CM_is_glass:Zce l.prog w K mg base 1 0 "is_glass" ZaZ:=(.cons (λC hC=>by cases (Vb4 X G yaq).symm.trans hC;exact ⟨⟨yax,yay,yaz,yaA⟩,_,_,_,⟨yak,q38,F38.kp⟩,ybd.mono (by decide),B38,rfl⟩) .nil);have ybo:=Zme (P:=l.prog) (w:=w) (base:=base) T D39;have ybL:=ZfV (P:=l.prog) (w:=w) (base:=base) T D40 CM_is_glass ybo;have ybV:=ZgY (P:=l.prog) (w:=w) (base:=base) T D41 CM_is_glass ybo;have yb8:=ZhU (P:=l.prog) (w:=w) (base:=base) T D42 CM_colour_at yb7 ybL ybV;have ycr:=Zj5 (P:=l.prog) (w:=w) (base:=base) T D43 ybc ycA;have ya4:=ZfX (P:=l.prog) (w:=w) (base:=base) T D44 yb8 ycr;have ybM:=Zf6 (P:=l.prog) (w:=w) (base:=base) T D45 ybn ya4;have K_paint:=ZmT (P:=l.prog) (w:=w) (base:=base) T F46 yaC yal yaE ybM;have B_paint:Binds K (W.fnOf "paint" "paint" (ZaY ZcA) (Zav ZcA) (Zac ZcA) (.ref dT46) kV46 dc46 pm46 an46 cd46 ct46) ["things", "width", "height", "spots", "ground"] []:=λs us X hl=>My.ln5 (P:=λus=>BindsTo s _ {pos:=us} (List.zip (["things", "width", "height", "spots", "ground"]:List Str) (us++[]))) (λ_ _ _ _ _=>Vb6 rfl (X _ _ dl46) rfl rfl rfl) us (by simpa using hl);have ycs:Cal l.prog w K mg base 8 "paint" ["things", "width", "height", "spots", "ground"] ZaG:=⟨_,_,K_paint,B_paint,k46,Vb4 X G a46⟩
 have Q_paint_3:CalK l.prog w K mg base 8 "paint" ["things", "width", "height", "spots", "ground"] [] [none,none] ZaG:=⟨_,_,K_paint,λs us ws X hl=>by
  have h3:us.length=3:=by have h0:=hl;simp [Ziq] at h0;omega
  match us,h3 with
  | [_,_,_],_ =>
   exact Vb6 rfl (X _ _ dl46) rfl rfl rfl,k46,Vb4 X G a46⟩
 have Q_paint_4:CalK l.prog w K mg base 8 "paint" ["things", "width", "height", "spots", "ground"] [] [none] ZaG:=⟨_,_,K_paint,λs us ws X hl=>by
  have h3:us.length=4:=by have h0:=hl;simp [Ziq] at h0;omega
  match us,h3 with
  | [_,_,_,_],_ =>
   exact Vb6 rfl (X _ _ dl46) rfl rfl rfl,k46,Vb4 X G a46⟩
 have ybW:=Zgr (P:=l.prog) (w:=w) (base:=base) T D47 yaI;have ybN:=Zf1 (P:=l.prog) (w:=w) (base:=base) T D48 ybo;have yb9:=ZhJ (P:=l.prog) (w:=w) (base:=base) T D49 ybN;have ybw:=Zik (P:=l.prog) (w:=w) (base:=base) T D50 ybo;have ycz:=ZlQ (P:=l.prog) (w:=w) (base:=base) T D51 ybw;have yct:=ZjF (P:=l.prog) (w:=w) (base:=base) T D52 ybT CM_is_glass ycz;have ybX:=ZgS (P:=l.prog) (w:=w) (base:=base) T D53 ybc ybw;have yca:=Zhf (P:=l.prog) (w:=w) (base:=base) T D54 ybo yb9 yct ybX;have ybe:=Zeq (P:=l.prog) (w:=w) (base:=base) T D55 yav;have ybO:=ZfW (P:=l.prog) (w:=w) (base:=base) T D56 ya4;have ycb:=ZhV (P:=l.prog) (w:=w) (base:=base) T D57 ybU;have ya5:=Zf3 (P:=l.prog) (w:=w) (base:=base) T D58;have ybY:=Zgw (P:=l.prog) (w:=w) (base:=base) T D59 ya5;have K_paint_tiles:=ZfZ (P:=l.prog) (w:=w) (base:=base) T F60 yaC yal yaE ybW yca ybe ybO ycb ya5 ybY;have B_paint_tiles:Binds K (W.fnOf "paint_tiles" "paint_tiles" (ZaY ZaD) (Zav ZaD) (Zac ZaD) (.ref dT60) kV60 dc60 pm60 an60 cd60 ct60) ["things", "width", "height", "wide", "order", "spots", "ground"] []:=λs us X hl=>My.ln7 (P:=λus=>BindsTo s _ {pos:=us} (List.zip (["things", "width", "height", "wide", "order", "spots", "ground"]:List Str) (us++[]))) (λ_ _ _ _ _ _ _=>Vb6 rfl (X _ _ dl60) rfl rfl rfl) us (by simpa using hl);have ya6:Cal l.prog w K mg base 8 "paint_tiles" ["things", "width", "height", "wide", "order", "spots", "ground"] Zaj:=⟨_,_,K_paint_tiles,B_paint_tiles,k60,Vb4 X G a60⟩
 have Q_paint_tiles_6:CalK l.prog w K mg base 8 "paint_tiles" ["things", "width", "height", "wide", "order", "spots", "ground"] [] [none] Zaj:=⟨_,_,K_paint_tiles,λs us ws X hl=>by
  have h3:us.length=6:=by have h0:=hl;simp [Ziq] at h0;omega
  match us,h3 with
  | [_,_,_,_,_,_],_ =>
   exact Vb6 rfl (X _ _ dl60) rfl rfl rfl,k60,Vb4 X G a60⟩
 have ya7:=ZdO (P:=l.prog) (w:=w) (base:=base) T D61 D11 ycj ycs ya6 Q_paint_4 Q_paint_tiles_6 hKb hN ht_0 (HZ _ Zm_0).1 (HZ _ Zm_0).2;have ybf:=Zee (P:=l.prog) (w:=w) (base:=base) T D62;have ybk:=ZeG (P:=l.prog) (w:=w) (base:=base) T D63;have ybl:=ZeL (P:=l.prog) (w:=w) (base:=base) T D64;have ybs:=ZfT (P:=l.prog) (w:=w) (base:=base) T D65;have ybZ:=ZgK (P:=l.prog) (w:=w) (base:=base) T D66;have yb0:=ZgD (P:=l.prog) (w:=w) (base:=base) T D67 ybZ;exact Zq2 (P:=l.prog) (w:=w) (base:=base) T F68 CI_Plain D11 ycs ya6 ya7 ybf ybk ybl ybs yb0 Q_paint_3 Q_paint_4 Q_paint_tiles_6 hKb hN ht_1 (HZ _ Zm_1).1 (HZ _ Zm_1).2 hfa
def walk{l:W.OpenLaw}{q:Program}{loose:List Str}{XP:(Str->Option Value)->Heap->Prop}{YP:World->Heap->Prop}{d:DefRec}{K:Params->W.Frag}(hn:l.most=some 63)(hdf:d.params.defaults=[])
  (hY:∀(w:World) (h:Heap),YP w h->(K w.params).In h) (hT:∀z∈Zt,∃nm,((PyProof.Rows.recsOf q).find? (λe=>e.name==nm)).isSome=true/\∀w:World,W.tabIn (K w.params) nm=some (Ct z.1,z.1)/\(K w.params).lookup z.1=none)
  (F:∀(w:World) (mg:Str->Option Value) (fa:Addr) (h:Heap),(K w.params).In h->h.Ns mainGlobals mg->mg d.name=some (.ref fa) ->
   ∃fd:FuncData,(∀(s:Shared) (u:Value),BindsTo s fd ⟨[u],[]⟩ [("_law_script", u)])/\∀base:Heap,(K w.params).In base->base.Ns mainGlobals mg->(∀z∈Zt,W.CodeHd base (Ct z.1) z.1/\base.BuiltinsAt mg z.1)->FnOk l.prog w (K w.params) mg base (CXR l.prog w) 13 fa fd ["_law_script"] (Zgl (K w.params) Zt)) :
  W.WalkO q loose XP YP l.row.toRowW d [] (λf vs=>PySem.call f vs) :=
 L2.ZqW (k:=13) (x := "_law_script") (CX:=λw=>CXR l.prog w) hn hdf ⟨rfl,by decide,by decide⟩ hY hT F (λ_ _ _ _ _ z=>ZrV z)
end My
set_option hygiene false in
local macro_rules | `(tactic| walk_at "df")=>`(tactic| (refine' ⟨_,L2.ZcQ ?l ?c ?k⟩;(case l=>k_is);(case c=>k_is);(case k=>k_is)))
set_option hygiene false in
local macro_rules | `(tactic| walk_at "dd1")=>`(tactic| (refine' ⟨_,_,L2.ZcQ ?l ?c ?k,L2.Fun.binds (L2.ZcQ ?l ?c ?k) (λ_ _ _ _ _ _=>My.ln1 λ_=>rfl),Vb4 KX G ?a⟩;(case a=>k_is);(case l=>k_is);(case c=>k_is);(case k=>k_is)))
set_option hygiene false in
local macro_rules | `(tactic| walk_at "dd2")=>`(tactic| (refine' ⟨_,_,L2.ZcQ ?l ?c ?k,L2.Fun.binds (L2.ZcQ ?l ?c ?k) (λ_ _ _ _ _ _=>My.ln2 λ_ _=>rfl),Vb4 KX G ?a⟩;(case a=>k_is);(case l=>k_is);(case c=>k_is);(case k=>k_is)))
set_option hygiene false in
local macro_rules | `(tactic| walk_at "dd3")=>`(tactic| (refine' ⟨_,_,L2.ZcQ ?l ?c ?k,L2.Fun.binds (L2.ZcQ ?l ?c ?k) (λ_ _ _ _ _ _=>My.ln3 λ_ _ _=>rfl),Vb4 KX G ?a⟩;(case a=>k_is);(case l=>k_is);(case c=>k_is);(case k=>k_is)))
set_option hygiene false in
local macro_rules | `(tactic| walk_at "dd4")=>`(tactic| (refine' ⟨_,_,L2.ZcQ ?l ?c ?k,L2.Fun.binds (L2.ZcQ ?l ?c ?k) (λ_ _ _ _ _ _=>My.ln4 λ_ _ _ _=>rfl),Vb4 KX G ?a⟩;(case a=>k_is);(case l=>k_is);(case c=>k_is);(case k=>k_is)))
set_option hygiene false in
local macro_rules | `(tactic| walk_at "dd5")=>`(tactic| (refine' ⟨_,_,L2.ZcQ ?l ?c ?k,L2.Fun.binds (L2.ZcQ ?l ?c ?k) (λ_ _ _ _ _ _=>My.ln5 λ_ _ _ _ _=>rfl),W.mg_of KX G ?a⟩;(case a=>k_is);(case l=>k_is);(case c=>k_is);(case k=>k_is)))
local macro_rules | `(tactic| walk_at "ni")=>`(tactic| (delta My.NI;k_is))
open PySem PySem.W PyProof.Rows
set_option maxRecDepth 100000 in
set_option maxHeartbeats 0 in
theorem PySem.Challenge.cw_sampleyard_k56_floors_refused_holds : PySem.Challenge.rw_sampleyard_k56_floors_refused.Holds := by
 w_on;refine holds_law Hd.said λsaid=>?_
 refine holds_open (r:=PySem.Challenge.rw_sampleyard_k56_floors_refused.row) (q:=Hd.view) (loose:=["paint", "doubtful", "paint_tiles"]) (Xt:=(λs=>xlAt Hd.view [] s&&recOk (RowW.records PySem.Challenge.rw_sampleyard_k56_floors_refused.row.toRowW) s)) (XP:=XL Hd.view []) (Yf:=Hook.obs (kHook Hd.heap Hd.addrs Hd.Zdn)) (Ya:=Hook.val (kHook Hd.heap Hd.addrs Hd.Zdn)) (YP:=Hook.says (kHook Hd.heap Hd.addrs Hd.Zdn)) (N:=Hd.most) Hd.left (Hook.of (kHook Hd.heap Hd.addrs Hd.Zdn)) (Hook.keeps (kHook Hd.heap Hd.addrs Hd.Zdn)) (λs e=>xl_of s (Bool.and_eq_true_iff.mp e).1) XL.keeps (by rfl) (by rfl) (by rfl) (λs e=>recFacts_of (Bool.and_eq_true_iff.mp e).2) (by rfl) (by assumption) (by decide +kernel) ⟨rfl,rfl,rfl,rfl,rfl,by decide +kernel⟩ ?hw ?hc
 case hw=>w_witness2
 k_fill
 refine My.walk (l:=PySem.Challenge.rw_sampleyard_k56_floors_refused) rfl rfl (λw h Y=>W.kIn_of Y) ?hT ?F
 (case hT=>exact List.forall_mem_cons.mpr ⟨⟨"_law_all_refused", by kernel_rfl,λw=>⟨rfl,rfl⟩⟩,List.forall_mem_cons.mpr ⟨⟨"law", by kernel_rfl,λw=>⟨rfl,rfl⟩⟩,λ_ h=>absurd h List.not_mem_nil⟩⟩)
 case F =>
  intro w mg fa h KX G hmg;refine' My.Zse KX G hmg ?yaq ?ybC ?D1 ?D2 ?D3 ?D4 ?D5 ?a6 ?d6 ?q6 ?D7 ?D8 ?D9 ?a10 ?d10 ?q10 ?a11 ?d11 ?D12 ?D13 ?D14 ?D15 ?D16 ?D17 ?D18 ?D19 ?D20 ?D21 ?D22 ?D23 ?D24 ?D25 ?D26 ?D27 ?D28 ?D29 ?D30 ?a31 ?l31 ?c31 ?k31 ?D32 ?a33 ?d33 ?q33 ?D34 ?D35 ?D36 ?D37 ?a38 ?d38 ?q38 ?D39 ?D40 ?D41 ?D42 ?D43 ?D44 ?D45 ?a46 ?l46 ?c46 ?k46 ?D47 ?D48 ?D49 ?D50 ?D51 ?D52 ?D53 ?D54 ?D55 ?D56 ?D57 ?D58 ?D59 ?a60 ?l60 ?c60 ?k60 ?D61 ?D62 ?D63 ?D64 ?D65 ?D66 ?D67 ?a68 ?l68 ?c68 ?k68 ?dl31 ?dl46 ?dl60 ?yax ?yay ?yaz ?yaA ?yan ?yaB ?yaj ?yai ?yak ?ybD ?ybE ?ybF ?ybG ?ybH ?ybI ?z0 ?z1 ?z2 ?z3 ?z4 ?z5 ?z6 ?z7 ?z8 ?z9 ?z10 ?z11 ?z12 ?z13 ?z14 ?z15 ?z16 ?z17 ?gc0 ?gc1 ?gc2 ?gc3 ?cl0 ?cl1 ?cl2 ?cl3 ?cl4 ?cl5 ?xa0 ?xb0 ?xa1 ?xb1 ?xa2 ?xb2 ?xm0_5 ?xm1_5 ?xm2_5 ?kg0 ?kn0 ?kb0 ?kd0 ?kf0 ?ks0 ?ku0 ?km0 ?kg1 ?kn1 ?kb1 ?kd1 ?kf1 ?ks1 ?ku1 ?km1 ?kg2 ?kn2 ?kb2 ?kd2 ?kf2 ?ks2 ?ku2 ?km2 ?kt0_0 ?kt0_1 ?kt0_2 ?kt0_3 ?kt0_4 ?kt1_0 ?kt1_1 ?kt1_2 ?kt1_3 ?kt1_4 ?kt2_0 ?kt2_1 ?kt2_2 ?kt2_3 ?kt2_4 ?kv0_ValueError ?kv1_ValueError ?kv2_ValueError ?ht_0 ?ht_1
  (case yaq=>walk_at "ni")
  (case ybC=>walk_at "ni")
  (case D1=>walk_at "dd1")
  (case D2=>walk_at "dd1")
  (case D3=>walk_at "dd1")
  (case D4=>walk_at "dd1")
  (case D5=>walk_at "dd1")
  case a6=>k_is
  (case d6=>walk_at "df")
  case q6=>k_is
  (case D7=>walk_at "dd1")
  (case D8=>walk_at "dd1")
  (case D9=>walk_at "dd1")
  case a10=>k_is
  (case d10=>walk_at "df")
  case q10=>k_is
  (case a11=>walk_at "ni")
  (case d11=>walk_at "df")
  (case D12=>walk_at "dd3")
  (case D13=>walk_at "dd2")
  (case D14=>walk_at "dd1")
  (case D15=>walk_at "dd2")
  (case D16=>walk_at "dd2")
  (case D17=>walk_at "dd2")
  (case D18=>walk_at "dd2")
  (case D19=>walk_at "dd2")
  (case D20=>walk_at "dd3")
  (case D21=>walk_at "dd2")
  (case D22=>walk_at "dd3")
  (case D23=>walk_at "dd2")
  (case D24=>walk_at "dd2")
  (case D25=>walk_at "dd2")
  (case D26=>walk_at "dd3")
  (case D27=>walk_at "dd4")
  (case D28=>walk_at "dd1")
  (case D29=>walk_at "dd1")
  (case D30=>walk_at "dd1")
  case a31 | l31 | c31 | k31=>k_is
  (case D32=>walk_at "dd1")
  case a33=>k_is
  (case d33=>walk_at "df")
  case q33=>k_is
  (case D34=>walk_at "dd2")
  (case D35=>walk_at "dd2")
  (case D36=>walk_at "dd2")
  (case D37=>walk_at "dd2")
  case a38=>k_is
  (case d38=>walk_at "df")
  case q38=>k_is
  (case D39=>walk_at "dd2")
  (case D40=>walk_at "dd2")
  (case D41=>walk_at "dd1")
  (case D42=>walk_at "dd2")
  (case D43=>walk_at "dd1")
  (case D44=>walk_at "dd2")
  (case D45=>walk_at "dd5")
  case a46 | l46 | c46 | k46=>k_is
  (case D47=>walk_at "dd1")
  (case D48=>walk_at "dd1")
  (case D49=>walk_at "dd1")
  (case D50=>walk_at "dd1")
  (case D51=>walk_at "dd2")
  (case D52=>walk_at "dd4")
  (case D53=>walk_at "dd1")
  (case D54=>walk_at "dd2")
  (case D55=>walk_at "dd2")
  (case D56=>walk_at "dd4")
  (case D57=>walk_at "dd2")
  (case D58=>walk_at "dd2")
  (case D59=>walk_at "dd4")
  case a60 | l60 | c60 | k60=>k_is
  (case D61=>walk_at "dd4")
  (case D62=>walk_at "dd2")
  (case D63=>walk_at "dd2")
  (case D64=>walk_at "dd1")
  (case D65=>walk_at "dd2")
  (case D66=>walk_at "dd2")
  (case D67=>walk_at "dd2")
  case a68 | l68 | c68 | k68 | dl31 | dl46 | dl60 | yax | yay | yaz | yaA | yan | yaB | yaj | yai | yak | ybD | ybE | ybF | ybG | ybH=>k_is
  case ybI=>rfl
  case z0 | z1 | z2 | z3 | z4 | z5 | z6 | z7 | z8 | z9 | z10 | z11 | z12 | z13 | z14 | z15 | z16 | z17 | gc0 | gc1 | gc2 | gc3=>k_is
  (case cl0=>walk_at "ni")
  (case cl1=>walk_at "ni")
  (case cl2=>walk_at "ni")
  (case cl3=>walk_at "ni")
  (case cl4=>walk_at "ni")
  (case cl5=>walk_at "ni")
  case xa0=>k_is
  case xb0=>k_exc
  case xa1=>k_is
  case xb1=>k_exc
  case xa2=>k_is
  case xb2=>k_exc
  case xm0_5 | xm1_5 | xm2_5=>kts_exm
  case kg0 | kn0 | kb0 | kd0 | kf0 | ks0 | ku0 | km0 | kg1 | kn1 | kb1 | kd1 | kf1 | ks1 | ku1 | km1 | kg2 | kn2 | kb2 | kd2 | kf2 | ks2 | ku2 | km2=>k_is
  case kt0_0 | kt0_1 | kt0_2 | kt0_3 | kt0_4 | kt1_0 | kt1_1 | kt1_2 | kt1_3 | kt1_4 | kt2_0 | kt2_1 | kt2_2 | kt2_3 | kt2_4 | kv0_ValueError | kv1_ValueError | kv2_ValueError=>kit_is
  case ht_0 | ht_1=>rfl
