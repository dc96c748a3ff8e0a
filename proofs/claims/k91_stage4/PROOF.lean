import PyProof.Rows.All
import Wide.All
import OpenK.AllK
import Wide.FinOn
import Lean
import KE.KLam
import KE.KNestM
import PyProof.EqAt
import PyProof.EqKinds
import PyProof.TupleCall
import PyProof.P3Eq
import PyProof.NeData
import PySem.Challenge.RW_sampleyard_k91_whole_pictures_of_nets
set_option Elab.async false
set_option linter.all false
set_option maxRecDepth 100000
noncomputable section
theorem Hd.said:PySem.W.OpenLaw.wellSaid PySem.Challenge.rw_sampleyard_k91_whole_pictures_of_nets=true:=by kernel_rfl
abbrev Vaa:=@List.map_congr_left
abbrev Vab:=@Nat.le_of_ble_eq_true
abbrev Vac:=@decide_eq_false
abbrev Vad:=@beq_eq_false_iff_ne
abbrev Vae:=@PySem.Heap.lt_size
abbrev Vaf:=@Nat.lt_of_lt_of_le
abbrev Vag:=@Nat.lt_irrefl
abbrev Vah:=@Nat.ne_of_lt
abbrev Vai:=@List.mem_filter
abbrev Vaj:=@List.mem_range
abbrev Vak:=@Nat.le_trans
abbrev Vam:=@Nat.le_of_lt
abbrev Van:=@List.filterMap_cons
abbrev Vao:=@List.mem_cons_self
abbrev Vap:=@List.mem_cons_of_mem
abbrev Vaq:=@PySem.Heap.get?_none_of_le
abbrev Var:=@List.mem_cons
abbrev Vas:=@List.mem_append
abbrev Vat:=@List.mem_append_left
abbrev Vau:=@List.getElem?_eq_some_iff
abbrev Vav:=@Option.some.inj
abbrev Vaw:=@PySem.wpAny_mono
abbrev Vax:=@Array.length_toList
abbrev Vay:=@congrArg
abbrev Vaz:=@PySem.wpAny_bind
abbrev VaA:=@PySem.wpAny_pure
abbrev VaB:=@PySem.wpAny_newObj_type
abbrev VaC:=@PySem.Heap.get?_push_of_some
abbrev VaD:=@PySem.wpAny_rule
abbrev VaE:=@PySem.wpAny_passesOwn
abbrev VaF:=@Bool.false_ne_true
abbrev VaG:=@Nat.ne_of_gt
abbrev VaH:=@PySem.Heap.get?_push_size
abbrev VaI:=@Nat.le_refl
abbrev VaJ:=@PyProof.Rows.callWith_type1
abbrev VaK:=@List.mem_filterMap
abbrev VaL:=@List.mem_append_right
abbrev VaM:=@Int.natCast_nonneg
abbrev VaN:=@Int.fdiv_eq_ediv_of_nonneg
abbrev VaO:=@List.length_cons
abbrev VaP:=@List.map_cons
abbrev VaQ:=@List.length_map
abbrev VaR:=@PySem.Heap.size_push
abbrev VaS:=@Nat.lt_succ_self
abbrev VaT:=@Nat.zero_le
abbrev VaU:=@PySem.W.kia_one
abbrev VaV:=@List.append_nil
abbrev VaW:=@PySem.codeAny_mono
abbrev VaX:=@PySem.wpAny_Call_Name_kw
abbrev VaY:=@List.nodup_cons
abbrev VaZ:=@List.of_mem_zip
abbrev Va0:=@List.length_take
abbrev Va1:=@PySem.mem_of_lookup
abbrev Va2:=@List.getElem?_append_right
abbrev Va3:=@List.getElem?_replicate
abbrev Va4:=@List.getElem?_append_left
abbrev Va5:=@List.getElem?_map
abbrev Va6:=@List.mem_of_getElem?
abbrev Va7:=@List.length_append
abbrev Va8:=@List.length_replicate
abbrev Va9:=@List.size_toArray
abbrev Vba:=@if_false
abbrev Vbb:=@if_true
abbrev Vbc:=@PySem.wpAny_field
abbrev Vbd:=@List.length_drop
abbrev Vbe:=@PySem.wpAny_holding
abbrev Vbf:=@PySem.wpAny_callSpecial?_slot
abbrev Vbg:=@PyProof.Rows.slot_tuple_getitem
abbrev Vbh:=@PySem.wpAny_call_entry
abbrev Vbi:=@PySem.wpAny_typeOf
abbrev Vbj:=@Bool.and_eq_true
abbrev Vbk:=@PySem.Heap.get?_update_other
abbrev Vbl:=@List.length_singleton
abbrev Vbm:=@decide_eq_true
abbrev Vbn:=@Nat.lt_of_le_of_lt
abbrev Vbo:=@List.forIn_cons
abbrev Vbp:=@List.forIn_nil
abbrev Vbq:=@List.lookup_cons
abbrev Vbr:=@Nat.lt_trans
abbrev Vbs:=@List.mem_map
abbrev Vbt:=@List.drop_eq_getElem_cons
abbrev Vbu:=@Bool.false_eq_true
abbrev Vbv:=@PySem.wpAny_pyIter_list
abbrev Vbw:=@List.take_of_length_le
abbrev Vbx:=@PySem.F.slot_tuple_iterator_next
abbrev Vby:=@PySem.wpAny_seqItems
abbrev Vbz:=@Int.toNat_natCast
abbrev VbA:=@PySem.Heap.SameBut.update
abbrev VbB:=@PySem.Heap.get?_update_self
abbrev VbC:=@PySem.Obj.data_mapFields
abbrev VbD:=@PySem.wpAny_setField_rec
abbrev VbE:=@PySem.wpAny_onRaise
abbrev VbF:=@PySem.wpAny_letGo
abbrev VbG:=@PySem.F.slot_zip_next
abbrev VbH:=@List.not_mem_nil
abbrev VbI:=@or_false
abbrev VbJ:=@List.length_set
abbrev VbK:=@List.length_range
abbrev VbL:=@List.getElem?_range
abbrev VbM:=@List.getElem?_eq_getElem
abbrev VbN:=@List.drop_eq_nil_of_le
abbrev VbO:=@List.map_map
abbrev VbP:=@List.append_assoc
abbrev VbQ:=@List.getElem?_toArray
abbrev VbR:=@List.getD_eq_getElem?_getD
abbrev VbS:=@List.getElem_mem
abbrev VbT:=@List.mem_iff_getElem
abbrev VbU:=@PySem.F.plainAttrs_list
abbrev VbV:=@PySem.wpAny_updateSeq
abbrev VbW:=@Array.forIn_toList
abbrev VbX:=@PySem.codeAny_builtin
abbrev VbY:=@PySem.Around.under_plainId
abbrev VbZ:=@PySem.F.plain_extend_loop
abbrev Vb0:=@List.map_append
abbrev Vb1:=@Array.getElem?_eq_some_iff
abbrev Vb2:=@Nat.mod_lt
abbrev Vb3:=@Int.emod_nonneg
abbrev Vb4:=@Int.emod_lt_of_pos
abbrev Vb5:=@List.pairwise_iff_getElem
abbrev Vb6:=@Array.getElem?_eq_getElem
abbrev Vb7:=@List.map_take
abbrev Vb8:=@List.pairwise_cons
abbrev Vb9:=@Classical.byContradiction
abbrev Vca:=@List.mem_singleton
abbrev Vcb:=@PySem.wpAny_setState_of
abbrev Vcc:=@Int.natAbs_mul
abbrev Vcd:=@Int.natAbs_natCast
abbrev Vce:=@Int.mul_nonneg
abbrev Vcf:=@Int.natAbs_dvd_natAbs
abbrev Vcg:=@Int.mul_le_mul_of_nonneg_left
abbrev Vch:=@Int.mul_eq_zero
abbrev Vci:=@Int.mul_le_mul_of_nonneg_right
abbrev Vcj:=@Int.zero_mul
abbrev Vck:=@Int.mul_pos
abbrev Vcl:=@Rat.num_divInt_den
abbrev Vcm:=@Int.eq_of_mul_eq_mul_left
abbrev Vcn:=@List.filter_cons
abbrev Vco:=@List.foldl_append
abbrev Vcp:=@List.filter_append
abbrev Vcq:=@List.filter_nil
abbrev Vcr:=@Int.mul_zero
abbrev Vcs:=@Nat.mul_le_mul_right
abbrev Vct:=@PySem.PassesOwn.leaving
abbrev Vcu:=@PySem.W.mg_of
abbrev Vcv:=@PySem.W.mg_none_of
namespace L2
open PySem
def inClass(s:Stmt)(j:Nat):Stmt:=match s with
 | .ClassDef _ _ _ body _ _ _ _ _ _ _=>body.getD j (.Pass ⟨0,0,0,0⟩)
 | _=>.Pass ⟨0,0,0,0⟩
def Zch(s:Stmt):Arguments:=match s with
 | .FunctionDef _ a _ _ _ _ _ _ _ _=>a
 | _=>{ posonlyargs:=[],args:=[],vararg:=none,kwonlyargs:=[],kw_defaults:=[],kwarg:=none,defaults:=[] }
def Za8(s:Stmt):List Stmt:=match s with
 | .FunctionDef _ _ b _ _ _ _ _ _ _=>b
 | _=>[]
def Zac(s:Stmt):Scope:=match s with
 | .FunctionDef _ _ _ _ _ _ sc _ _ _=>sc
 | _=>{ kind:=.function,names:=[],isGenerator:=false,isCoroutine:=false }
end L2
namespace Hd
open PySem PySem.W L2
abbrev top(i:Nat):Stmt:=PySem.Challenge.pw_sampleyard_k91_whole_pictures_of_nets.main.body.getD i (.Pass ⟨0,0,0,0⟩)
def view:Program:={ PySem.Challenge.pw_sampleyard_k91_whole_pictures_of_nets with main:={ PySem.Challenge.pw_sampleyard_k91_whole_pictures_of_nets.main with body:=[top 0,top 2,top 3,top 4,top 5,top 7,top 8,top 9,top 10,top 12,top 13,top 14,top 15,top 16,top 17,top 18,top 20,top 21,top 22,top 23,top 24,top 25,top 27,top 28,top 29,top 31,top 33,top 34,top 35,top 36,top 37,top 38,top 39,top 40,top 41,top 42,top 43,top 44,top 45,top 47,top 48,top 49,top 51,top 52,top 53,top 54,top 55,top 56,top 58,top 59,top 60,top 61,top 62,top 63,top 64,top 66,top 67,top 68,top 69,top 70,top 72,top 73,top 74,top 75,top 76,top 77,top 78,top 79,top 80] } }
abbrev S(x:String):Str:=Str.ofString x
abbrev st(x:String)(t:Nat):Value:=.str (Str.ofString x) t
abbrev en(P:Params)(x:String)(t:Nat)(v:Value):DictEntry:=⟨PyData.keyHash P (Str.ofString x),.str (Str.ofString x) t,v⟩
abbrev fd(s:Stmt)(n q:String)(an:Option Addr)(d k c e m t:Value):Data:=.func { name:=Str.ofString n,qualname:=Str.ofString q,params:=Zch s,body:=.stmts (Za8 s),scope:=Zac s,globals:=mainGlobals,closure:=[],defaults:=d,kwdefaults:=k,doc:=e,pyModule:=m,annotations:=an,code:=c,closureTuple:=t,builtins:=builtinsNs }
abbrev T(xs:Array Value):Obj:=⟨.type "tuple", none,.seq xs 0,#[]⟩
abbrev F(s:Stmt)(n q:String)(an:Option Addr)(d k c e m t:Value):Obj:=⟨.type "function", none,fd s n q an d k c e m t,#[]⟩
abbrev G(i:Nat)(n:String)(c:Nat)(m:String)(t:Nat):Obj:=F (top i) n n none .none .none (.ref c) .none (st m t) .none
abbrev D(es:List DictEntry)(n:Nat):Obj:=⟨.type "dict", none,.dict (List.toArray es) n,#[]⟩
abbrev C(n:String)(a:Nat)(q:String)(b c:Nat)(d e f g h:Int)(i:Value)(j:Bool)(k:Int)(l m o p r:Value)(s t:Int)(u:Nat):Obj:=⟨.type "code", none,.fields #[st n a,st q b,st "/claim/cut.py" c,.int d 0,.int e 0,.int f 0,.int g 0,.int h 0,i,.bool j,.int k 0,l,m,o,p,r,.int s 0,.int t 0,st "/claim/cut.py" u],#[]⟩
abbrev B(n:String)(a b c:Nat)(d e:Int)(i l o p r:Nat)(s:Int)(u:Nat):Obj:=C n a n b c d e 0 0 3 (.ref i) true 181 (.ref l) .none (.ref o) (.ref p) (.ref r) s d u
abbrev E(n:String)(a b c:Nat)(d e:Int)(i l r:Nat)(s:Int)(u:Nat):Obj:=C n a n b c d e 0 0 3 (.ref i) true 181 (.ref l) .none .none .none (.ref r) s d u
abbrev L(n:String)(b m:List Value)(a:Addr)(s:List Value)(sl:Array (Option Value)):Obj:=⟨.type "type", none,.cls { name:=Str.ofString n,bases:=b,mro:=m,ns:=a,qualname:=Str.ofString n,hasDict:=true,slotNames:=[],subclasses:=s,abstract:=false,collection:=none,hasDel:=false },sl⟩
def heap:Params→Frag:=fun P =>
  (nat_lit 2,⟨.none,none,(.dict (List.toArray []) 0),#[]⟩)::
(nat_lit 3,(D [(en P "__name__" 165 (st "law_sampleyard_k91_whole_pictures_of_nets" 864)),(en P "__doc__" 166 .none),(en P "__package__" 167 .none),(en P "__loader__" 168 (.builtin "__main__.__loader__#opaque")),(en P "__spec__" 169 .none),(en P "__annotations__" 170 (.ref 6)),(en P "__builtins__" 171 (.ref 4)),(en P "__file__" 173 (st "/claim/cut.py" 172)),(en P "__cached__" 174 .none),(en P "_wall" 193 (.ref 21)),(en P "YardError" 213 (.ref 31)),(en P "BadTriangle" 229 (.ref 44)),(en P "BadThing" 245 (.ref 56)),(en P "BadFloor" 261 (.ref 68)),(en P "is_whole" 270 (.ref 77)),(en P "is_between" 279 (.ref 84)),(en P "greatest_divisor" 290 (.ref 91)),(en P "summed_products" 298 (.ref 98)),(en P "ratio" 309 (.ref 105)),(en P "plus" 317 (.ref 112)),(en P "minus" 325 (.ref 119)),(en P "product" 333 (.ref 126)),(en P "mean_of" 342 (.ref 133)),(en P "under" 350 (.ref 140)),(en P "is_fraction" 357 (.ref 147)),(en P "side" 370 (.ref 154)),(en P "edge_numbers" 378 (.ref 161)),(en P "edge_sum" 387 (.ref 168)),(en P "check_before_eye" 395 (.ref 175)),(en P "had" 404 (.ref 182)),(en P "weights" 412 (.ref 189)),(en P "seen_at" 422 (.ref 196)),(en P "depth_and_values" 428 (.ref 201)),(en P "weighed_h" 434 (.ref 206)),(en P "spot_at" 445 (.ref 213)),(en P "MOST_CELLS" 449 (.int (64) 448)),(en P "MOST_SPOTS" 451 (.int (16) 450)),(en P "check_floor" 459 (.ref 220)),(en P "check_spots" 465 (.ref 225)),(en P "is_spot" 472 (.ref 232)),(en P "spots_or_middle" 479 (.ref 239)),(en P "ground_or_none" 486 (.ref 246)),(en P "colour_seen" 495 (.ref 253)),(en P "sights_at" 506 (.ref 260)),(en P "colour_of" 517 (.ref 267)),(en P "nearest_of" 526 (.ref 274)),(en P "layers_over" 532 (.ref 279)),(en P "laid_over" 541 (.ref 286)),(en P "paint" 547 (.ref 292)),(en P "painted_row" 553 (.ref 297)),(en P "sights_in" 559 (.ref 302)),(en P "cell_colour" 565 (.ref 307)),(en P "MOST_VALUES" 569 (.int (3) 568)),(en P "check_triangle" 577 (.ref 314)),(en P "is_corner" 583 (.ref 319)),(en P "are_values" 589 (.ref 324)),(en P "mixed" 595 (.ref 329)),(en P "numbers_of" 602 (.ref 336)),(en P "Thing" 640 (.ref 360)),(en P "Plain" 689 (.ref 402)),(en P "Shaded" 736 (.ref 442)),(en P "Glass" 794 (.ref 489)),(en P "check_values" 802 (.ref 498)),(en P "check_colour" 809 (.ref 505)),(en P "check_part" 816 (.ref 512)),(en P "form" 826 (.ref 519)),(en P "cut" 832 (.ref 524)),(en P "begun_at" 840 (.ref 531)),(en P "parted" 853 (.ref 538)),(en P "met" 863 (.ref 545)),(en P "_law_cell_at" 873 (.ref 552)),(en P "_law_mixed" 882 (.ref 559)),(en P "_law_corner" 888 (.ref 564)),(en P "_law_point" 895 (.ref 571)),(en P "_law_split" 911 (.ref 578)),(en P "_law_pieces" 917 (.ref 583)),(en P "_law_lowest" 927 (.ref 590)),(en P "_law_thing" 939 (.ref 597)),(en P "law" 945 (.ref 602))] 79))::
(nat_lit 20,(B "_wall" 187 188 189 1 1 15 16 17 18 19 191 192))::
(nat_lit 21,(G 0 "_wall" 20 "__main__" 164))::
(nat_lit 22,(T #[(.type "ValueError")]))::
(nat_lit 30,(D [(en P "__module__" 203 (st "sampleyard.errors" 194)),(en P "__firstlineno__" 207 (.int (5) 206)),(en P "__static_attributes__" 208 (.ref 29)),(en P "__weakref__" 210 (.ref 32)),(en P "__doc__" 211 .none)] 3))::
(nat_lit 31,(L "YardError" [(.type "ValueError")] [(.ref 31),(.type "ValueError"),(.type "Exception"),(.type "BaseException"),(.type "object")] 30 [(.ref 44),(.ref 56),(.ref 68)] #[(some (.ref 22)),none,(some (st "YardError" 196)),(some (st "YardError" 204)),(some (.builtin "ValueError.__new__")),(some (.bool true))]))::
(nat_lit 32,⟨(.type "getset_descriptor"),none,(.fields #[(st "__weakref__" 209),(.ref 31),(.builtin "ExceptionGroup.__weakref__"),.none]),#[]⟩)::
(nat_lit 35,(T #[(.ref 31)]))::
(nat_lit 43,(D [(en P "__module__" 221 (st "sampleyard.errors" 194)),(en P "__firstlineno__" 225 (.int (7) 224)),(en P "__static_attributes__" 226 (.ref 42)),(en P "__doc__" 227 .none)] 2))::
(nat_lit 44,(L "BadTriangle" [(.ref 31)] [(.ref 44),(.ref 31),(.type "ValueError"),(.type "Exception"),(.type "BaseException"),(.type "object")] 43 [] #[(some (.ref 35)),none,(some (st "BadTriangle" 214)),(some (st "BadTriangle" 222)),(some (.builtin "ValueError.__new__")),(some (.bool true))]))::
(nat_lit 47,(T #[(.ref 31)]))::
(nat_lit 55,(D [(en P "__module__" 237 (st "sampleyard.errors" 194)),(en P "__firstlineno__" 241 (.int (9) 240)),(en P "__static_attributes__" 242 (.ref 54)),(en P "__doc__" 243 .none)] 2))::
(nat_lit 56,(L "BadThing" [(.ref 31)] [(.ref 56),(.ref 31),(.type "ValueError"),(.type "Exception"),(.type "BaseException"),(.type "object")] 55 [] #[(some (.ref 47)),none,(some (st "BadThing" 230)),(some (st "BadThing" 238)),(some (.builtin "ValueError.__new__")),(some (.bool true))]))::
(nat_lit 59,(T #[(.ref 31)]))::
(nat_lit 67,(D [(en P "__module__" 253 (st "sampleyard.errors" 194)),(en P "__firstlineno__" 257 (.int (11) 256)),(en P "__static_attributes__" 258 (.ref 66)),(en P "__doc__" 259 .none)] 2))::
(nat_lit 68,(L "BadFloor" [(.ref 31)] [(.ref 68),(.ref 31),(.type "ValueError"),(.type "Exception"),(.type "BaseException"),(.type "object")] 67 [] #[(some (.ref 59)),none,(some (st "BadFloor" 246)),(some (st "BadFloor" 254)),(some (.builtin "ValueError.__new__")),(some (.bool true))]))::
(nat_lit 76,(B "is_whole" 264 265 266 14 1 71 72 73 74 75 268 269))::
(nat_lit 77,(G 7 "is_whole" 76 "sampleyard.whole" 262))::
(nat_lit 83,(B "is_between" 271 272 273 16 3 78 79 80 81 82 277 278))::
(nat_lit 84,(G 8 "is_between" 83 "sampleyard.whole" 262))::
(nat_lit 90,(B "greatest_divisor" 280 281 282 18 1 85 86 87 88 89 288 289))::
(nat_lit 91,(G 9 "greatest_divisor" 90 "sampleyard.whole" 262))::
(nat_lit 97,(B "summed_products" 291 292 293 27 2 92 93 94 95 96 296 297))::
(nat_lit 98,(G 10 "summed_products" 97 "sampleyard.whole" 262))::
(nat_lit 104,(B "ratio" 301 302 303 30 2 99 100 101 102 103 307 308))::
(nat_lit 105,(G 12 "ratio" 104 "sampleyard.fractions" 299))::
(nat_lit 111,(B "plus" 310 311 312 35 2 106 107 108 109 110 315 316))::
(nat_lit 112,(G 13 "plus" 111 "sampleyard.fractions" 299))::
(nat_lit 118,(B "minus" 318 319 320 37 2 113 114 115 116 117 323 324))::
(nat_lit 119,(G 14 "minus" 118 "sampleyard.fractions" 299))::
(nat_lit 125,(B "product" 326 327 328 39 2 120 121 122 123 124 331 332))::
(nat_lit 126,(G 15 "product" 125 "sampleyard.fractions" 299))::
(nat_lit 132,(B "mean_of" 334 335 336 41 1 127 128 129 130 131 340 341))::
(nat_lit 133,(G 16 "mean_of" 132 "sampleyard.fractions" 299))::
(nat_lit 139,(B "under" 343 344 345 46 2 134 135 136 137 138 348 349))::
(nat_lit 140,(G 17 "under" 139 "sampleyard.fractions" 299))::
(nat_lit 146,(B "is_fraction" 351 352 353 48 1 141 142 143 144 145 355 356))::
(nat_lit 147,(G 18 "is_fraction" 146 "sampleyard.fractions" 299))::
(nat_lit 153,(B "side" 360 361 362 55 3 148 149 150 151 152 368 369))::
(nat_lit 154,(G 20 "side" 153 "sampleyard.edges" 358))::
(nat_lit 160,(B "edge_numbers" 371 372 373 61 2 155 156 157 158 159 376 377))::
(nat_lit 161,(G 21 "edge_numbers" 160 "sampleyard.edges" 358))::
(nat_lit 167,(B "edge_sum" 379 380 381 63 3 162 163 164 165 166 385 386))::
(nat_lit 168,(G 22 "edge_sum" 167 "sampleyard.edges" 358))::
(nat_lit 174,(B "check_before_eye" 388 389 390 65 1 169 170 171 172 173 393 394))::
(nat_lit 175,(G 23 "check_before_eye" 174 "sampleyard.edges" 358))::
(nat_lit 181,(B "had" 396 397 398 69 2 176 177 178 179 180 402 403))::
(nat_lit 182,(G 24 "had" 181 "sampleyard.edges" 358))::
(nat_lit 188,(B "weights" 405 406 407 75 2 183 184 185 186 187 410 411))::
(nat_lit 189,(G 25 "weights" 188 "sampleyard.edges" 358))::
(nat_lit 195,(B "seen_at" 415 416 417 78 2 190 191 192 193 194 420 421))::
(nat_lit 196,(G 27 "seen_at" 195 "sampleyard.seen" 413))::
(nat_lit 200,(E "depth_and_values" 423 424 425 82 2 197 198 199 426 427))::
(nat_lit 201,(G 28 "depth_and_values" 200 "sampleyard.seen" 413))::
(nat_lit 205,(E "weighed_h" 429 430 431 87 2 202 203 204 432 433))::
(nat_lit 206,(G 29 "weighed_h" 205 "sampleyard.seen" 413))::
(nat_lit 212,(B "spot_at" 437 438 439 90 3 207 208 209 210 211 443 444))::
(nat_lit 213,(G 31 "spot_at" 212 "sampleyard.spots" 435))::
(nat_lit 219,(B "check_floor" 452 453 454 95 2 214 215 216 217 218 457 458))::
(nat_lit 220,(G 35 "check_floor" 219 "sampleyard.paint" 446))::
(nat_lit 224,(E "check_spots" 460 461 462 98 1 221 222 223 463 464))::
(nat_lit 225,(G 36 "check_spots" 224 "sampleyard.paint" 446))::
(nat_lit 231,(B "is_spot" 466 467 468 105 1 226 227 228 229 230 470 471))::
(nat_lit 232,(G 37 "is_spot" 231 "sampleyard.paint" 446))::
(nat_lit 238,(B "spots_or_middle" 473 474 475 109 1 233 234 235 236 237 477 478))::
(nat_lit 239,(G 38 "spots_or_middle" 238 "sampleyard.paint" 446))::
(nat_lit 245,(B "ground_or_none" 480 481 482 114 1 240 241 242 243 244 484 485))::
(nat_lit 246,(G 39 "ground_or_none" 245 "sampleyard.paint" 446))::
(nat_lit 252,(B "colour_seen" 487 488 489 116 3 247 248 249 250 251 493 494))::
(nat_lit 253,(G 40 "colour_seen" 252 "sampleyard.paint" 446))::
(nat_lit 259,(B "sights_at" 496 497 498 118 2 254 255 256 257 258 504 505))::
(nat_lit 260,(G 41 "sights_at" 259 "sampleyard.paint" 446))::
(nat_lit 266,(B "colour_of" 507 508 509 125 2 261 262 263 264 265 515 516))::
(nat_lit 267,(G 42 "colour_of" 266 "sampleyard.paint" 446))::
(nat_lit 273,(B "nearest_of" 518 519 520 133 1 268 269 270 271 272 524 525))::
(nat_lit 274,(G 43 "nearest_of" 273 "sampleyard.paint" 446))::
(nat_lit 278,(E "layers_over" 527 528 529 141 2 275 276 277 530 531))::
(nat_lit 279,(G 44 "layers_over" 278 "sampleyard.paint" 446))::
(nat_lit 285,(B "laid_over" 533 534 535 148 2 280 281 282 283 284 539 540))::
(nat_lit 286,(G 45 "laid_over" 285 "sampleyard.paint" 446))::
(nat_lit 287,(T #[.none,.none]))::
(nat_lit 291,(E "paint" 542 543 544 151 5 288 289 290 545 546))::
(nat_lit 292,(F (top 46) "paint" "paint" none (.ref 287) .none (.ref 291) .none (st "sampleyard.paint" 446) .none))::
(nat_lit 296,(E "painted_row" 548 549 550 156 5 293 294 295 551 552))::
(nat_lit 297,(G 47 "painted_row" 296 "sampleyard.paint" 446))::
(nat_lit 301,(E "sights_in" 554 555 556 158 4 298 299 300 557 558))::
(nat_lit 302,(G 48 "sights_in" 301 "sampleyard.paint" 446))::
(nat_lit 306,(E "cell_colour" 560 561 562 160 2 303 304 305 563 564))::
(nat_lit 307,(G 49 "cell_colour" 306 "sampleyard.paint" 446))::
(nat_lit 313,(B "check_triangle" 570 571 572 164 1 308 309 310 311 312 575 576))::
(nat_lit 314,(G 52 "check_triangle" 313 "sampleyard.corners" 566))::
(nat_lit 318,(E "is_corner" 578 579 580 172 1 315 316 317 581 582))::
(nat_lit 319,(G 53 "is_corner" 318 "sampleyard.corners" 566))::
(nat_lit 323,(E "are_values" 584 585 586 178 1 320 321 322 587 588))::
(nat_lit 324,(G 54 "are_values" 323 "sampleyard.corners" 566))::
(nat_lit 328,(E "mixed" 590 591 592 182 4 325 326 327 593 594))::
(nat_lit 329,(G 55 "mixed" 328 "sampleyard.corners" 566))::
(nat_lit 335,(B "numbers_of" 596 597 598 187 1 330 331 332 333 334 600 601))::
(nat_lit 336,(G 56 "numbers_of" 335 "sampleyard.corners" 566))::
(nat_lit 349,(C "__init__" 617 "Thing.__init__" 618 619 192 2 0 0 3 (.ref 344) true 181 (.ref 345) .none (.ref 346) (.ref 347) (.ref 348) 622 192 623))::
(nat_lit 350,(F (inClass (top 58) 0) "__init__" "Thing.__init__" none .none .none (.ref 349) .none (st "sampleyard.things" 603) .none))::
(nat_lit 356,(C "is_glass" 625 "Thing.is_glass" 626 627 197 1 0 0 3 (.ref 351) true 181 (.ref 352) .none (.ref 353) (.ref 354) (.ref 355) 629 197 630))::
(nat_lit 357,(F (inClass (top 58) 1) "is_glass" "Thing.is_glass" none .none .none (.ref 356) .none (st "sampleyard.things" 603) .none))::
(nat_lit 359,(D [(en P "__module__" 612 (st "sampleyard.things" 603)),(en P "__firstlineno__" 616 (.int (190) 615)),(en P "__init__" 624 (.ref 350)),(en P "is_glass" 631 (.ref 357)),(en P "__static_attributes__" 633 (.ref 358)),(en P "__dict__" 635 (.ref 361)),(en P "__weakref__" 637 (.ref 362)),(en P "__doc__" 638 .none)] 4))::
(nat_lit 360,(L "Thing" [(.type "object")] [(.ref 360),(.type "object")] 359 [(.ref 402),(.ref 442),(.ref 489)] #[none,none,(some (st "Thing" 605)),(some (st "Thing" 613)),(some (.builtin "object.__new__")),(some (.bool true))]))::
(nat_lit 361,⟨(.type "getset_descriptor"),none,(.fields #[(st "__dict__" 634),(.ref 360),(.builtin "function.__dict__"),(.builtin "function.__dict__#set")]),#[]⟩)::
(nat_lit 362,⟨(.type "getset_descriptor"),none,(.fields #[(st "__weakref__" 636),(.ref 360),(.builtin "ExceptionGroup.__weakref__"),.none]),#[]⟩)::
(nat_lit 365,(T #[(.ref 360)]))::
(nat_lit 377,(C "__init__" 653 "Plain.__init__" 654 655 201 3 0 0 3 (.ref 372) true 181 (.ref 373) .none (.ref 374) (.ref 375) (.ref 376) 659 201 660))::
(nat_lit 378,(F (inClass (top 59) 0) "__init__" "Plain.__init__" none .none .none (.ref 377) .none (st "sampleyard.things" 603) .none))::
(nat_lit 384,(C "word" 662 "Plain.word" 663 664 206 1 0 0 3 (.ref 379) true 181 (.ref 380) .none (.ref 381) (.ref 382) (.ref 383) 666 206 667))::
(nat_lit 385,(F (inClass (top 59) 1) "word" "Plain.word" none .none .none (.ref 384) .none (st "sampleyard.things" 603) .none))::
(nat_lit 391,(C "colour_at" 669 "Plain.colour_at" 670 671 209 2 0 0 3 (.ref 386) true 181 (.ref 387) .none (.ref 388) (.ref 389) (.ref 390) 674 209 675))::
(nat_lit 392,(F (inClass (top 59) 2) "colour_at" "Plain.colour_at" none .none .none (.ref 391) .none (st "sampleyard.things" 603) .none))::
(nat_lit 398,(C "like" 677 "Plain.like" 678 679 212 2 0 0 3 (.ref 393) true 181 (.ref 394) .none (.ref 395) (.ref 396) (.ref 397) 682 212 683))::
(nat_lit 399,(F (inClass (top 59) 3) "like" "Plain.like" none .none .none (.ref 398) .none (st "sampleyard.things" 603) .none))::
(nat_lit 401,(D [(en P "__module__" 648 (st "sampleyard.things" 603)),(en P "__firstlineno__" 652 (.int (199) 651)),(en P "__init__" 661 (.ref 378)),(en P "word" 668 (.ref 385)),(en P "colour_at" 676 (.ref 392)),(en P "like" 684 (.ref 399)),(en P "__static_attributes__" 686 (.ref 400)),(en P "__doc__" 687 .none)] 2))::
(nat_lit 402,(L "Plain" [(.ref 360)] [(.ref 402),(.ref 360),(.type "object")] 401 [] #[(some (.ref 365)),none,(some (st "Plain" 641)),(some (st "Plain" 649)),(some (.builtin "object.__new__")),(some (.bool true))]))::
(nat_lit 405,(T #[(.ref 360)]))::
(nat_lit 417,(C "__init__" 702 "Shaded.__init__" 703 704 216 2 0 0 3 (.ref 412) true 181 (.ref 413) .none (.ref 414) (.ref 415) (.ref 416) 707 216 708))::
(nat_lit 418,(F (inClass (top 60) 0) "__init__" "Shaded.__init__" none .none .none (.ref 417) .none (st "sampleyard.things" 603) .none))::
(nat_lit 424,(C "word" 710 "Shaded.word" 711 712 220 1 0 0 3 (.ref 419) true 181 (.ref 420) .none (.ref 421) (.ref 422) (.ref 423) 714 220 715))::
(nat_lit 425,(F (inClass (top 60) 1) "word" "Shaded.word" none .none .none (.ref 424) .none (st "sampleyard.things" 603) .none))::
(nat_lit 431,(C "colour_at" 717 "Shaded.colour_at" 718 719 223 2 0 0 3 (.ref 426) true 181 (.ref 427) .none (.ref 428) (.ref 429) (.ref 430) 722 223 723))::
(nat_lit 432,(F (inClass (top 60) 2) "colour_at" "Shaded.colour_at" none .none .none (.ref 431) .none (st "sampleyard.things" 603) .none))::
(nat_lit 438,(C "like" 725 "Shaded.like" 726 727 226 2 0 0 3 (.ref 433) true 181 (.ref 434) .none (.ref 435) (.ref 436) (.ref 437) 730 226 731))::
(nat_lit 439,(F (inClass (top 60) 3) "like" "Shaded.like" none .none .none (.ref 438) .none (st "sampleyard.things" 603) .none))::
(nat_lit 441,(D [(en P "__module__" 697 (st "sampleyard.things" 603)),(en P "__firstlineno__" 701 (.int (214) 700)),(en P "__init__" 709 (.ref 418)),(en P "word" 716 (.ref 425)),(en P "colour_at" 724 (.ref 432)),(en P "like" 732 (.ref 439)),(en P "__static_attributes__" 733 (.ref 440)),(en P "__doc__" 734 .none)] 2))::
(nat_lit 442,(L "Shaded" [(.ref 360)] [(.ref 442),(.ref 360),(.type "object")] 441 [] #[(some (.ref 405)),none,(some (st "Shaded" 690)),(some (st "Shaded" 698)),(some (.builtin "object.__new__")),(some (.bool true))]))::
(nat_lit 445,(T #[(.ref 360)]))::
(nat_lit 457,(C "__init__" 749 "Glass.__init__" 750 751 230 4 0 0 3 (.ref 452) true 181 (.ref 453) .none (.ref 454) (.ref 455) (.ref 456) 756 230 757))::
(nat_lit 458,(F (inClass (top 61) 0) "__init__" "Glass.__init__" none .none .none (.ref 457) .none (st "sampleyard.things" 603) .none))::
(nat_lit 464,(C "word" 759 "Glass.word" 760 761 237 1 0 0 3 (.ref 459) true 181 (.ref 460) .none (.ref 461) (.ref 462) (.ref 463) 763 237 764))::
(nat_lit 465,(F (inClass (top 61) 1) "word" "Glass.word" none .none .none (.ref 464) .none (st "sampleyard.things" 603) .none))::
(nat_lit 471,(C "is_glass" 766 "Glass.is_glass" 767 768 240 1 0 0 3 (.ref 466) true 181 (.ref 467) .none (.ref 468) (.ref 469) (.ref 470) 770 240 771))::
(nat_lit 472,(F (inClass (top 61) 2) "is_glass" "Glass.is_glass" none .none .none (.ref 471) .none (st "sampleyard.things" 603) .none))::
(nat_lit 478,(C "colour_at" 773 "Glass.colour_at" 774 775 243 2 0 0 3 (.ref 473) true 181 (.ref 474) .none (.ref 475) (.ref 476) (.ref 477) 778 243 779))::
(nat_lit 479,(F (inClass (top 61) 3) "colour_at" "Glass.colour_at" none .none .none (.ref 478) .none (st "sampleyard.things" 603) .none))::
(nat_lit 485,(C "like" 781 "Glass.like" 782 783 246 2 0 0 3 (.ref 480) true 181 (.ref 481) .none (.ref 482) (.ref 483) (.ref 484) 786 246 787))::
(nat_lit 486,(F (inClass (top 61) 4) "like" "Glass.like" none .none .none (.ref 485) .none (st "sampleyard.things" 603) .none))::
(nat_lit 488,(D [(en P "__module__" 744 (st "sampleyard.things" 603)),(en P "__firstlineno__" 748 (.int (228) 747)),(en P "__init__" 758 (.ref 458)),(en P "word" 765 (.ref 465)),(en P "is_glass" 772 (.ref 472)),(en P "colour_at" 780 (.ref 479)),(en P "like" 788 (.ref 486)),(en P "__static_attributes__" 791 (.ref 487)),(en P "__doc__" 792 .none)] 2))::
(nat_lit 489,(L "Glass" [(.ref 360)] [(.ref 489),(.ref 360),(.type "object")] 488 [] #[(some (.ref 445)),none,(some (st "Glass" 737)),(some (st "Glass" 745)),(some (.builtin "object.__new__")),(some (.bool true))]))::
(nat_lit 497,(B "check_values" 795 796 797 248 2 492 493 494 495 496 800 801))::
(nat_lit 498,(G 62 "check_values" 497 "sampleyard.things" 603))::
(nat_lit 504,(B "check_colour" 803 804 805 251 1 499 500 501 502 503 807 808))::
(nat_lit 505,(G 63 "check_colour" 504 "sampleyard.things" 603))::
(nat_lit 511,(B "check_part" 810 811 812 254 1 506 507 508 509 510 814 815))::
(nat_lit 512,(G 64 "check_part" 511 "sampleyard.things" 603))::
(nat_lit 518,(B "form" 819 820 821 258 2 513 514 515 516 517 824 825))::
(nat_lit 519,(G 66 "form" 518 "sampleyard.walls" 817))::
(nat_lit 523,(E "cut" 827 828 829 260 2 520 521 522 830 831))::
(nat_lit 524,(G 67 "cut" 523 "sampleyard.walls" 817))::
(nat_lit 530,(B "begun_at" 833 834 835 273 2 525 526 527 528 529 838 839))::
(nat_lit 531,(G 68 "begun_at" 530 "sampleyard.walls" 817))::
(nat_lit 537,(B "parted" 841 842 843 275 2 532 533 534 535 536 851 852))::
(nat_lit 538,(G 69 "parted" 537 "sampleyard.walls" 817))::
(nat_lit 544,(B "met" 854 855 856 282 4 539 540 541 542 543 861 862))::
(nat_lit 545,(G 70 "met" 544 "sampleyard.walls" 817))::
(nat_lit 551,(B "_law_cell_at" 866 867 868 285 2 546 547 548 549 550 871 872))::
(nat_lit 552,(G 72 "_law_cell_at" 551 "law_sampleyard_k91_whole_pictures_of_nets" 864))::
(nat_lit 558,(B "_law_mixed" 874 875 876 289 2 553 554 555 556 557 880 881))::
(nat_lit 559,(G 73 "_law_mixed" 558 "law_sampleyard_k91_whole_pictures_of_nets" 864))::
(nat_lit 563,(E "_law_corner" 883 884 885 295 3 560 561 562 886 887))::
(nat_lit 564,(G 74 "_law_corner" 563 "law_sampleyard_k91_whole_pictures_of_nets" 864))::
(nat_lit 570,(B "_law_point" 889 890 891 310 1 565 566 567 568 569 893 894))::
(nat_lit 571,(G 75 "_law_point" 570 "law_sampleyard_k91_whole_pictures_of_nets" 864))::
(nat_lit 577,(B "_law_split" 896 897 898 314 2 572 573 574 575 576 909 910))::
(nat_lit 578,(G 76 "_law_split" 577 "law_sampleyard_k91_whole_pictures_of_nets" 864))::
(nat_lit 582,(E "_law_pieces" 912 913 914 326 2 579 580 581 915 916))::
(nat_lit 583,(G 77 "_law_pieces" 582 "law_sampleyard_k91_whole_pictures_of_nets" 864))::
(nat_lit 589,(B "_law_lowest" 918 919 920 338 2 584 585 586 587 588 925 926))::
(nat_lit 590,(G 78 "_law_lowest" 589 "law_sampleyard_k91_whole_pictures_of_nets" 864))::
(nat_lit 596,(B "_law_thing" 928 929 930 344 2 591 592 593 594 595 937 938))::
(nat_lit 597,(G 79 "_law_thing" 596 "law_sampleyard_k91_whole_pictures_of_nets" 864))::
(nat_lit 601,(E "law" 940 941 942 354 1 598 599 600 943 944))::
(nat_lit 602,(G 80 "law" 601 "law_sampleyard_k91_whole_pictures_of_nets" 864))::
[]
abbrev addrs:List Addr:=[2,3,20,21,22,30,31,32,35,43,44,47,55,56,59,67,68,76,77,83,84,90,91,97,98,104,105,111,112,118,119,125,126,132,133,139,140,146,147,153,154,160,161,167,168,174,175,181,182,188,189,195,196,200,201,205,206,212,213,219,220,224,225,231,232,238,239,245,246,252,253,259,260,266,267,273,274,278,279,285,286,287,291,292,296,297,301,302,306,307,313,314,318,319,323,324,328,329,335,336,349,350,356,357,359,360,361,362,365,377,378,384,385,391,392,398,399,401,402,405,417,418,424,425,431,432,438,439,441,442,445,457,458,464,465,471,472,478,479,485,486,488,489,497,498,504,505,511,512,518,519,523,524,530,531,537,538,544,545,551,552,558,559,563,564,570,571,577,578,582,583,589,590,596,597,601,602]
abbrev most:Nat:=8130
theorem Zds(P:Params):addrs=(heap P).map (·.1):=rfl
abbrev hook:Hook:=kHook heap addrs Zds
end Hd
namespace Hd
open PySem PySem.W PyProof.Rows
def Zfd(tb:String→Option Builtin)(p:Program)(w:World)(n₀:Nat)(ann:Option Value):Nat→SharedT→Thread→Option SharedT
 | 0,_,_=>none
 | n+1,s,t=>match through t with
  | true=>some s
  | false=>match stepOk n₀ ann t with
   | false=>none
   | true=>match stepT (denote tb) p w s t with
    | some (s',t')=>Zfd tb p w n₀ ann n s' t'
    | none=>none
theorem Zgw{tb:String→Option Builtin}{p:Program}{w:World}{n₀:Nat}{ann:Option Value}:∀{n:Nat} {s s':SharedT} {t:Thread},Zfd tb p w n₀ ann n s t=some s'→topRun tb p w n₀ ann n s.abs t=some s'.abs
 | 0,_,_,_,h=>by cases h
 | n+1,s,s',t,h=>by
  unfold Zfd at h
  unfold topRun
  cases he:through t with
  | true=>rw [he] at h;cases h;rfl
  | false =>
   rw [he] at h
   cases hk:stepOk n₀ ann t with
   | false=>rw [hk] at h;cases h
   | true =>
    rw [hk] at h
    cases hs:stepT (denote tb) p w s t with
    | none=>rw [hs] at h;cases h
    | some r=>obtain ⟨s₂,t₂⟩:=r;rw [hs] at h;rw [stepT_spec hs];exact Zgw h
def Zg7(p:Program)(w:World)(n₀:Nat)(ann:Option Value):Nat→SharedT→Thread→Option SharedT
 | 0,_,_=>none
 | n+1,s,t=>match through t with
  | true=>some s
  | false=>match Fast.tw6613529449190102663 n₀ ann t with
   | false=>none
   | true=>match Fast.tw10156331382660048174 (Fast.tw11892475500146522536 Fast.tw14364793385576792824) p w s t with
    | some (s',t')=>Zg7 p w n₀ ann n s' t'
    | none=>none
theorem ZgD(p:Program)(w:World)(n₀:Nat)(ann:Option Value):∀(n:Nat) (s:SharedT) (t:Thread),Zfd treeTable p w n₀ ann n s t=Zg7 p w n₀ ann n s t
 | 0,_,_=>rfl
 | n+1,s,t=>by
  unfold Zfd Zg7
  rw [Fast.te6613529449190102663,Fast.te10156331382660048174,Fast.te11892475500146522536,Fast.te14364793385576792824]
  cases through t with
  | true=>rfl
  | false =>
   cases Fast.tw6613529449190102663 n₀ ann t with
   | false=>rfl
   | true =>
    cases Fast.tw10156331382660048174 (Fast.tw11892475500146522536 Fast.tw14364793385576792824) p w s t with
    | none=>rfl
    | some r =>
     obtain ⟨s',t'⟩:=r
     have:=ZgD p w n₀ ann n s' t'
     rw [Fast.te14364793385576792824] at this
     exact this
def Zjh(i:Nat)(t:BT):List Obj→BT
 | []=>t
 | o::r=>Zjh (i+1) (t.ins i o) r
def ZsJ(w:World)(os:OsState):SharedT:=⟨Zjh 0 .nil (boot_heap w.params).objs.toList,(boot_heap w.params).objs.size,(boot_heap w.params).life,Array.mk [],boot_drawn,boot_toks,os⟩
theorem ZkL(w:World)(os:OsState):(ZsJ w os).abs=⟨boot_heap w.params,Array.mk [],boot_drawn,boot_toks,os⟩:=by kernel_rfl
def obsT(as:List Addr)(s:SharedT):List (Option Obj):=as.map fun a=>match Nat.blt a s.n with
 | true=>alive ((s.tree.get a).getD default)
 | false=>none
theorem ZqY(as:List Addr)(s:SharedT):as.map s.abs.heap.get?=obsT as s:=by
 unfold obsT
 refine Vaa fun a _=>?_
 show (absHeap s.tree s.n s.life).get? a=_
 unfold Heap.get?
 rw [absHeap_at]
 by_cases h:a<s.n
 ·rw [if_pos h,show Nat.blt a s.n=true from Nat.ble_eq.mpr h]
  generalize (s.tree.get a).getD default=o
  obtain ⟨c,d,dt,sl⟩:=o
  cases dt<;>rfl
 ·rw [if_neg h,show Nat.blt a s.n=false from Bool.eq_false_iff.mpr fun z=>h (Vab z)]
theorem Zle{p q:Program}{loose:List Str}{Xt:Shared→Bool}{α:Type}{Yf:Shared→α}{Yt:SharedT→α}{Ya:World→α}{N m₀:Nat}{ann:Option Value}{g0:Bool}(hY:∀s,Yf s.abs=Yt s)
  (e:opening p=plainProg p.main.scope.names) (hN:Nat.ble 600 N=true) (f:∀s,fenceModules? p s=some s)
  (hz:∀w:World,((boot_heap w.params).isNs mainGlobals,(boot_heap w.params).objs.size,(boot_heap w.params).nsMap mainGlobals "__annotations__")=(true,m₀,ann))
  (h:∀(w:World) (os:OsState),(Zg7 p w m₀ ann N (ZsJ w os) (topStub p)).map (fun s=>((staticsOk (importedModules p.main.body) (boot_heap w.params) s.abs.heap&&namesBound p s.abs.heap&&gensDone s.abs&&laidKept (boot_heap w.params) s.abs.heap),Fast.tw4187177175401517315 q loose (importedModules p.main.body) Xt g0 s.abs,Yt s))=some (true,openGood q loose,Ya w)) :
  LeftO p q loose Xt Yf Ya N g0:=fun w=>by
 obtain ⟨s,hs,hv⟩:=Option.map_eq_some_iff.mp (boot_open e hN f w)
 unfold openEnds
 rw [hs]
 obtain ⟨hp,g,d,k,os⟩:=s
 obtain ⟨rfl,rfl,rfl,rfl⟩ : hp=boot_heap w.params∧g=Array.mk []∧d=boot_drawn∧k=boot_toks:=by simpa using hv
 obtain ⟨s₁,h1,h2⟩:=Option.map_eq_some_iff.mp (h w os)
 rw [←ZgD] at h1
 rw [←Fast.te4187177175401517315] at h2
 have r:=Zgw h1
 rw [ZkL] at r
 obtain ⟨z1,z2,z3⟩ : _∧_∧_:=by simpa only [Prod.mk.injEq] using hz w
 obtain ⟨l1,l2,l3⟩ : _∧_∧_:=by simpa only [Prod.mk.injEq] using h2
 show (topFrom treeTable p w N ⟨boot_heap w.params,Array.mk [],boot_drawn,boot_toks,os⟩).map _=_
 unfold topFrom
 dsimp only
 rw [z1]
 show (((topRun treeTable p w (boot_heap w.params).objs.size ((boot_heap w.params).nsMap mainGlobals "__annotations__") N ⟨boot_heap w.params,Array.mk [],boot_drawn,boot_toks,os⟩ (topStub p)).bind fun s₁=>match staticsOk (importedModules p.main.body) (boot_heap w.params) s₁.heap&&namesBound p s₁.heap&&gensDone s₁&&laidKept (boot_heap w.params) s₁.heap with
   | true=>some s₁
   | false=>none).map _)=_
 rw [z2,z3,r]
 show ((match staticsOk (importedModules p.main.body) (boot_heap w.params) s₁.abs.heap&&namesBound p s₁.abs.heap&&gensDone s₁.abs&&laidKept (boot_heap w.params) s₁.abs.heap with
   | true=>some s₁.abs
   | false=>none).map _)=_
 rw [l1]
 show some (openSeen q loose (importedModules p.main.body) Xt g0 s₁.abs,Yf s₁.abs)=_
 rw [l2,hY,l3]
set_option maxRecDepth 100000 in
set_option maxHeartbeats 0 in
theorem left:LeftO PySem.Challenge.pw_sampleyard_k91_whole_pictures_of_nets view ["paint"] (fun s=>xlAt view [] s&&recOk (RowW.records PySem.Challenge.rw_sampleyard_k91_whole_pictures_of_nets.row.toRowW) s) (Hook.obs hook) (Hook.val hook) most :=
 Zle (ZqY addrs) (by kernel_rfl) (by decide) (fun s=>by kernel_rfl) (m₀:=11) (ann:=some (.ref 6)) (fun w=>by kernel_rfl) (fun w os=>by kernel_rfl)
end Hd
namespace L2
open PySem PySem.Spec PyProof.Rows
abbrev Key:=Sum Int Str
def Zsz:Key→Value→Bool
 | .inl k,v=>Value.isInt k v
 | .inr x,v=>Value.isStrOf x v
def keyH(w:World):Key→Int
 | .inl k=>hashInt k
 | .inr x=>hashStr w x
theorem ZaR:∀{k:Key} {v:Value},Zsz k v=true→(∃i t,k=Sum.inl i∧v=Value.int i t)∨(∃x t,k=Sum.inr x∧v=Value.str x t)
 | .inl i,v,h=>by
  obtain ⟨t,e⟩:=Value.isInt_shape (k:=i) (v:=v) h
  exact .inl ⟨i,t,rfl,e⟩
 | .inr x,v,h=>by
  obtain ⟨t,e⟩:=Value.isStrOf_shape (x:=x) (v:=v) h
  exact .inr ⟨x,t,rfl,e⟩
theorem ZtI(a b:Int):decide ((Sum.inl a:Key)=Sum.inl b)=(a==b):=by
 by_cases e:a=b
 ·subst e;simp
 ·have h:¬(Sum.inl a:Key)=Sum.inl b:=fun q=>e (Sum.inl.inj q)
  rw [Vac h]
  exact (Vad.mpr e).symm
theorem Zti(a b:Str):decide ((Sum.inr a:Key)=Sum.inr b)=decide (a=b):=by
 by_cases e:a=b
 ·subst e;simp
 ·have h:¬(Sum.inr a:Key)=Sum.inr b:=fun q=>e (Sum.inr.inj q)
  rw [Vac h,Vac e]
theorem Zt5(a:Int)(b:Str):decide ((Sum.inl a:Key)=Sum.inr b)=false:=Vac (fun q=>nomatch q)
theorem Zuh(a:Str)(b:Int):decide ((Sum.inr a:Key)=Sum.inl b)=false:=Vac (fun q=>nomatch q)
def Zmd(prog:Program)(w:World):PySem.KeyKind prog w Key where
 is:=Zsz
 hash:=keyH w
 inj:=fun v a b ha hb=>by
  rcases ZaR ha with ⟨i,t,rfl,rfl⟩ | ⟨x,t,rfl,rfl⟩
  ·rcases ZaR hb with ⟨j,u,rfl,e⟩ | ⟨y,u,rfl,e⟩
   ·injection e with e1 _;rw [e1]
   ·exact nomatch e
  ·rcases ZaR hb with ⟨j,u,rfl,e⟩ | ⟨y,u,rfl,e⟩
   ·exact nomatch e
   ·injection e with e1 _;rw [e1]
 byValue:=fun k v h=>by
  rcases ZaR h with ⟨i,t,rfl,rfl⟩ | ⟨x,t,rfl,rfl⟩<;>rfl
 pyHash:=fun hv h=>by
  rcases ZaR hv with ⟨i,t,rfl,rfl⟩ | ⟨x,t,rfl,rfl⟩
  ·exact wpAny_pyHash_int h
  ·exact wpAny_pyHash_str h
 eqBool:=fun hu hv h=>by
  rcases ZaR hu with ⟨i,t,rfl,rfl⟩ | ⟨x,t,rfl,rfl⟩
  ·rcases ZaR hv with ⟨j,u,rfl,rfl⟩ | ⟨y,u,rfl,rfl⟩
   ·rw [ZtI] at h;exact wpAny_eqBool_int h
   ·rw [Zt5] at h;exact SeqAt.EqAt.int_str i t y u _ _ _ _ h
  ·rcases ZaR hv with ⟨j,u,rfl,rfl⟩ | ⟨y,u,rfl,rfl⟩
   ·rw [Zuh] at h;exact SeqAt.EqAt.str_int x t j u _ _ _ _ h
   ·rw [Zti] at h;exact wpAny_eqBool_str h
 «strs»:=fun k x t v h=>by
  rcases ZaR h with ⟨i,u,rfl,e⟩ | ⟨y,u,rfl,e⟩
  ·exact nomatch e
  ·injection e with e1 _
   subst e1
   cases v<;>rfl
inductive V where
 | non | bl (b:Bool) | int (i:Int) | str (x:Str) | byt (b:Array UInt8) | flt (b:UInt64) | ref (a:Addr) | ty (n:String)
 deriving DecidableEq
def RelV:V→Value→Prop
 | .non,u=>u=Value.none
 | .bl b,u=>u=Value.bool b
 | .int i,u=>∃t,u=Value.int i t
 | .str x,u=>∃t,u=Value.str x t
 | .byt b,u=>∃t,u=Value.bytes b t
 | .flt b,u=>∃t,u=Value.float b t
 | .ref a,u=>u=Value.ref a
 | .ty n,u=>u=Value.type n
abbrev Vals:List V→List Value→Prop:=Paired RelV
theorem Vals.length{xs:List V}{us:List Value}(r:Vals xs us):xs.length=us.length:=Paired.length r
theorem Vals.get:∀{xs:List V} {us:List Value} {i:Nat} {x:V},Vals xs us→xs[i]?=some x→∃u,us[i]?=some u∧RelV x u
 | _,_,_,_,.nil,e=>by simp at e
 | _,_,0,_,.cons r _,e=>by simp at e;subst e;exact ⟨_,rfl,r⟩
 | _,_,i+1,x,.cons _ t,e=>by
  obtain ⟨u,h1,h2⟩:=Vals.get (i:=i) (x:=x) t (by simpa using e)
  exact ⟨u,by simpa using h1,h2⟩
theorem Vals.append:∀{xs ys:List V} {us ws:List Value},Vals xs us→Vals ys ws→Vals (xs++ys) (us++ws)
 | _,_,_,_,.nil,s=>s
 | _,_,_,_,.cons r t,s=>.cons r (Vals.append t s)
theorem Vals.take:∀{xs:List V} {us:List Value} (n:Nat),Vals xs us→Vals (xs.take n) (us.take n)
 | _,_,0,_=>.nil
 | _,_,_+1,.nil=>.nil
 | _,_,n+1,.cons r t=>.cons r (Vals.take n t)
theorem Vals.drop:∀{xs:List V} {us:List Value} (n:Nat),Vals xs us→Vals (xs.drop n) (us.drop n)
 | _,_,0,r=>r
 | _,_,_+1,.nil=>.nil
 | _,_,n+1,.cons _ t=>Vals.drop n t
def RelO:Option V→Option Value→Prop
 | some v,some u=>RelV v u
 | none,none=>True
 | _,_=>False
def KV{κ:Type}:List (κ×V)→List (κ×Value)→Prop:=Paired fun (p:κ×V) (q:κ×Value)=>p.1=q.1∧RelV p.2 q.2
def kV:Key→V
 | .inl i=>.int i
 | .inr x=>.str x
inductive HO where
 | lst (xs:List V)
 | tup (xs:List V)
 | dK (kvs:List (Key×V)) | dT (kvs:List (List Key×V))
 | set (S:Int→Bool) (n:Nat)
 | ins (C dx:Addr) (fs:List (Str×V))
 | own (x:Addr)
 | xd (fs:List (Str×V))
 | met (f x:Addr)
 | rng (lo hi:Int)
 | frz (o:Obj) (u:HO)
 | tbl (ps:Array Value)
 | ext (φ:Heap→Prop)
abbrev Hp:=Addr→Option HO
def upd(H:Hp)(a:Addr)(o:HO):Hp:=fun b=>if b=a then some o else H b
theorem Zah{H:Hp}{a:Addr}{o:HO}:upd H a o a=some o:=by unfold upd;rw [if_pos rfl]
theorem Zag{H:Hp}{a b:Addr}{o:HO}(h:b≠a):upd H a o b=H b:=by unfold upd;rw [if_neg h]
theorem Zaf{H:Hp}{a b:Addr}{o:HO}(h:H a=some o)(h':H b=none):a≠b:=by
 intro e;subst e;rw [h] at h';cases h'
section
variable(P:Program)(w:World)
def ZbS(H:Hp)(h:Heap)(a:Addr):HO→Prop
 | .lst xs=>xs.length≤sizeLine∧∃(its:List Value) (n:Nat),Vals xs its∧h.get? a=some { cls:=.type "list", data:=.seq its.toArray n }
 | .tup xs=>xs.length≤sizeLine∧∃its:List Value,Vals xs its∧IsTup h a its.toArray
 | .dK kvs=>kvs.length≤sizeLine∧(a==sysModules)=false∧∃vs,KV kvs vs∧h.DictOf (Zmd P w) a vs
 | .dT kvs=>kvs.length≤sizeLine∧(a==sysModules)=false∧∃xs:List (List Key×Addr×Value),
   Paired (fun (p:List Key×V) (q:List Key×Addr×Value)=>p.1=q.1∧H q.2.1=some (.tup (p.1.map kV))∧RelV p.2 q.2.2) kvs xs ∧
   ∃o es ep,h.get? a=some o∧o.ExactDict∧o.data=.dict es ep∧es.toList=xs.map (entryOfKey (tupleKind (Zmd P w)))∧(xs.map (·.1)).Nodup
 | .set S n=>h.SetOf (intKind P w) a S n
 | .ins C dx fs=>H dx=some (.own a)∧fs.length≤1000∧dx≠a∧h.get? a=some (W.instObj C dx) ∧
   ∃mA,h.Ns1 dx mA∧(∀f,RelO (fs.lookup f) (mA f))∧PySem.Within mA (fs.map (·.1))
 | .own _=>∃o,h.get? a=some o
 | .xd fs=>∃mA,h.Ns1 a mA∧∀f,RelO (fs.lookup f) (mA f)
 | .rng lo hi=>∃t u v,h.get? a=some { cls:=.type "range", data:=.fields #[.int lo t,.int hi u,.int 1 v] }
 | .frz o u=>h.get? a=some o∧ZbS H h a u
 | .tbl ps=>h.get? a=some { cls:=.none,data:=.fields ps }
 | .met f x=>h.get? a=some (W.methodObj (.ref f) (.ref x))
 | .ext φ=>φ h∧(∃o,h.get? a=some o)∧∀h1 h2:Heap,φ h1→(∀o,h1.get? a=some o→h2.get? a=some o)→φ h2
def HOk(H:Hp)(h:Heap):Prop:=∀a o,H a=some o→ZbS P w H h a o
end
section
variable{P:Program}{w:World}{H H':Hp}{h h':Heap}{a:Addr}{o:HO}
theorem ZbS.lt(x:ZbS P w H h a o):a<h.objs.size:=by
 cases o with
 | lst xs=>obtain ⟨_,_,_,_,e⟩:=x;exact Vae e
 | tup xs=>obtain ⟨_,_,_,p⟩:=x;exact p.lt
 | dK kvs=>obtain ⟨_,_,_,_,o,_,_,e,_⟩:=x;exact Vae e
 | dT kvs=>obtain ⟨_,_,_,_,o,_,_,e,_⟩:=x;exact Vae e
 | set S n=>obtain ⟨o,_,_,_,e,_⟩:=x;exact Vae e
 | ins C dx fs=>obtain ⟨_,_,_,e,_⟩:=x;exact Vae e
 | own y=>obtain ⟨_,e⟩:=x;exact Vae e
 | xd fs=>obtain ⟨_,⟨_,_,_,e,_⟩,_⟩:=x;exact Vae e
 | rng lo hi=>obtain ⟨_,_,_,e⟩:=x;exact Vae e
 | frz ob u=>obtain ⟨e,_⟩:=x;exact Vae e
 | tbl ps=>exact Vae (show h.get? a=some _ from x)
 | met f y=>exact Vae (show h.get? a=some _ from x)
 | ext φ=>obtain ⟨_,⟨_,e⟩,_⟩:=x;exact Vae e
theorem Paired.mapP{α β:Type}{F G:α→β→Prop}:∀{l₁:List α} {l₂:List β},Paired F l₁ l₂→(∀a b,F a b→G a b)→Paired G l₁ l₂
 | _,_,.nil,_=>.nil
 | _,_,.cons r t,f=>.cons (f _ _ r) (Paired.mapP t f)
theorem ZbS.stay(x:ZbS P w H h a o)(k:∀b u,(b=a∨H b=some (.own a))→h.get? b=some u→h'.get? b=some u)
  (ho:∀b,H b=some (.own a)→H' b=some (.own a)) (ht:∀b xs,H b=some (.tup xs)→H' b=some (.tup xs)):ZbS P w H' h' a o:=by
 induction o with
 | lst xs=>obtain ⟨z,its,n,r,e⟩:=x;exact ⟨z,its,n,r,k _ _ (.inl rfl) e⟩
 | tup xs=>obtain ⟨z,its,r,ob,e,c⟩:=x;exact ⟨z,its,r,ob,k _ _ (.inl rfl) e,c⟩
 | dK kvs=>obtain ⟨z,y,vs,r,ob,es,ep,e,c⟩:=x;exact ⟨z,y,vs,r,ob,es,ep,k _ _ (.inl rfl) e,c⟩
 | dT kvs =>
  obtain ⟨z,y,xs,r,ob,es,ep,e,c⟩:=x
  exact ⟨z,y,xs,Paired.mapP r fun p q z=>⟨z.1,ht _ _ z.2.1,z.2.2⟩,ob,es,ep,k _ _ (.inl rfl) e,c⟩
 | set S n=>obtain ⟨ob,es,ep,t,e,c⟩:=x;exact ⟨ob,es,ep,t,k _ _ (.inl rfl) e,c⟩
 | ins C dx fs =>
  obtain ⟨d,z,ne,e,mA,⟨od,es,ep,e2,c⟩,r⟩:=x
  exact ⟨ho _ d,z,ne,k _ _ (.inl rfl) e,mA,⟨od,es,ep,k _ _ (.inr d) e2,c⟩,r⟩
 | own y=>obtain ⟨ob,e⟩:=x;exact ⟨ob,k _ _ (.inl rfl) e⟩
 | xd fs=>obtain ⟨mA,⟨od,es,ep,e,c⟩,r⟩:=x;exact ⟨mA,⟨od,es,ep,k _ _ (.inl rfl) e,c⟩,r⟩
 | rng lo hi=>obtain ⟨t,u,v,e⟩:=x;exact ⟨t,u,v,k _ _ (.inl rfl) e⟩
 | frz ob u ih=>obtain ⟨e,q⟩:=x;exact ⟨k _ _ (.inl rfl) e,ih q⟩
 | tbl ps =>
  have e:h.get? a=some { cls:=.none,data:=.fields ps }:=x
  show h'.get? a=some { cls:=.none,data:=.fields ps }
  exact k a _ (.inl rfl) e
 | met f y =>
  have e:h.get? a=some (W.methodObj (.ref f) (.ref y)):=x
  show h'.get? a=some (W.methodObj (.ref f) (.ref y))
  exact k a _ (.inl rfl) e
 | ext φ=>obtain ⟨p,⟨o,e⟩,st⟩:=x;exact ⟨st _ _ p fun o q=>k _ _ (.inl rfl) q,⟨o,k _ _ (.inl rfl) e⟩,st⟩
theorem HOk.lt(x:HOk P w H h)(e:H a=some o):a<h.objs.size:=(x a o e).lt
theorem HOk.fresh(x:HOk P w H h)(e:h.objs.size≤a):H a=none:=by
 cases q:H a with
 | none=>rfl
 | some u=>exact absurd (Vaf (x.lt q) e) (Vag _)
theorem HOk.kept(x:HOk P w H h)(k:∀b u,h.get? b=some u→h'.get? b=some u):HOk P w H h':=fun a o e =>
 (x a o e).stay (fun b u _ q=>k b u q) (fun _ q=>q) fun _ _ q=>q
theorem HOk.laid(x:HOk P w H h)(k:∀b u,h.get? b=some u→h'.get? b=some u)(hp:h.objs.size≤a)(new:ZbS P w (upd H a o) h' a o):HOk P w (upd H a o) h':=fun b u e=>by
 have hn:=x.fresh hp
 by_cases hb:b=a
 ·subst hb;rw [Zah] at e;cases e;exact new
 ·rw [Zag hb] at e
  exact (x b u e).stay (fun c v _ q=>k c v q) (fun c q=>by rw [Zag (Zaf q hn)];exact q) fun c xs q=>by rw [Zag (Zaf q hn)];exact q
end
def Rd(H:Hp)(a:Addr)(u:HO):Prop:=H a=some u∨∃o,H a=some (.frz o u)
theorem Rd.ok{P:Program}{w:World}{H:Hp}{h:Heap}{a:Addr}{u:HO}(r:Rd H a u)(x:HOk P w H h):ZbS P w H h a u:=by
 rcases r with r | ⟨o,r⟩
 ·exact x a u r
 ·obtain ⟨_,q⟩:=x a _ r
  exact q
def Mut:Option HO→Prop
 | some (.lst _)=>True
 | some (.dK _)=>True
 | some (.dT _)=>True
 | some (.set _ _)=>True
 | some (.ins _ _ _)=>True
 | some (.ext _)=>True
 | _=>False
section
variable{P:Program}{w:World}{H:Hp}{h h':Heap}{x e:Addr}{o':HO}
theorem HOk.write(ok:HOk P w H h)(mu:Mut (H x))(he:e=x∨H e=some (.own x))(k:∀b u,b≠e→h.get? b=some u→h'.get? b=some u)(heo:∃u,h'.get? e=some u)
  (new:ZbS P w (upd H x o') h' x o'):HOk P w (upd H x o') h':=fun b u q=>by
 have nown:∀c y,H c=some (.own y)→c≠x:=fun c y r z=>by subst z;rw [r] at mu;exact mu
 have ntup:∀c xs,H c=some (.tup xs)→c≠x:=fun c xs r z=>by subst z;rw [r] at mu;exact mu
 by_cases hb:b=x
 ·subst hb;rw [Zah] at q;cases q;exact new
 ·rw [Zag hb] at q
  by_cases hbe:b=e
  ·have q':H b=some (.own x):=by
    rcases he with z | z
    ·exact absurd (hbe.trans z) hb
    ·rw [hbe];exact z
   rw [q] at q';cases q'
   obtain ⟨v,hv⟩:=heo
   exact ⟨v,by rw [hbe];exact hv⟩
  ·refine (ok b u q).stay (fun c v hc r=>k c v ?_ r) (fun c r=>by rw [Zag (nown c b r)];exact r) fun c xs r=>by rw [Zag (ntup c xs r)];exact r
   rcases hc with rfl | hc
   ·exact hbe
   ·rintro rfl
    rcases he with z | z
    ·exact nown c b hc z
    ·rw [hc] at z;cases z;exact hb rfl
end
structure Un(fs ex:List Addr)(H H':Hp)(h h':Heap):Prop where
 keep:∀b o,h.get? b=some o→H b=none→b∉fs→b∉ex→h'.get? b=some o
 slot:∀b o,h.get? b=some o→H b=none→b∈fs→b∉ex→∃sl,h'.get? b=some { o with slots:=sl }
 free:∀b o,h.get? b=some o→H b=none→b∉ex→H' b=none
 there:∀b o,h.get? b=some o→b∉ex→∃o',h'.get? b=some o'
 tups:∀b xs,H b=some (.tup xs)→H' b=some (.tup xs)
 frzs:∀b o u,H b=some (.frz o u)→H' b=some (.frz o u)
 tbls:∀b ps,H b=some (.tbl ps)→∃more,H' b=some (.tbl (ps++more))
section
variable{fs fs' ex ex':List Addr}{H H1 H2:Hp}{h h1 h2 h':Heap}{a x e:Addr}{o:HO}
theorem Un.any(u:Un fs ex H H1 h h1){b:Addr}{ob:Obj}(q:h.get? b=some ob)(n:H b=none)(hx:b∉ex):∃sl,h1.get? b=some { ob with slots:=sl }:=by
 by_cases hb:b∈fs
 ·exact u.slot b ob q n hb hx
 ·exact ⟨ob.slots,u.keep b ob q n hb hx⟩
theorem Un.trans(a:Un fs ex H H1 h h1)(b:Un fs ex H1 H2 h1 h2):Un fs ex H H2 h h2 where
 keep:=fun c ob q n hc hx=>b.keep c ob (a.keep c ob q n hc hx) (a.free c ob q n hx) hc hx
 slot:=fun c ob q n hc hx=>by
  obtain ⟨sl,e1⟩:=a.slot c ob q n hc hx
  obtain ⟨sl',e2⟩:=b.slot c _ e1 (a.free c ob q n hx) hc hx
  exact ⟨sl',e2⟩
 free:=fun c ob q n hx=>by
  obtain ⟨o',e1⟩:=a.there c ob q hx
  exact b.free c o' e1 (a.free c ob q n hx) hx
 there:=fun c ob q hx=>by
  obtain ⟨o',e1⟩:=a.there c ob q hx
  exact b.there c o' e1 hx
 tups:=fun c xs q=>b.tups c xs (a.tups c xs q)
 frzs:=fun c ob xs q=>b.frzs c ob xs (a.frzs c ob xs q)
 tbls:=fun c ps q=>by
  obtain ⟨m1,e1⟩:=a.tbls c ps q
  obtain ⟨m2,e2⟩:=b.tbls c _ e1
  exact ⟨m1++m2,by rw [e2,Array.append_assoc]⟩
theorem Un.kept(k:∀b u,h.get? b=some u→h'.get? b=some u):Un fs ex H H h h' :=
 ⟨fun b ob q _ _ _=>k b ob q,fun b ob q _ _ _=>⟨ob.slots,k b ob q⟩,fun _ _ _ n _=>n,fun b ob q _=>⟨ob,k b ob q⟩,fun _ _ q=>q,fun _ _ _ q=>q,fun _ ps q=>⟨#[],by rw [q];simp⟩⟩
theorem Un.refl:Un fs ex H H h h:=Un.kept fun _ _ q=>q
theorem Un.laid(k:∀b u,h.get? b=some u→h'.get? b=some u)(hp:h.objs.size≤a)(hn:H a=none):Un fs ex H (upd H a o) h h' where
 keep:=fun b u q _ _ _=>k b u q
 slot:=fun b u q _ _ _=>⟨u.slots,k b u q⟩
 free:=fun b u q n _=>by rw [Zag (Vah (Vaf (Vae q) hp))];exact n
 there:=fun b u q _=>⟨u,k b u q⟩
 tups:=fun b xs q=>by rw [Zag (Zaf q hn)];exact q
 frzs:=fun b u xs q=>by rw [Zag (Zaf q hn)];exact q
 tbls:=fun b ps q=>⟨#[],by rw [Zag (Zaf q hn),q];simp⟩
theorem Un.write(mu:Mut (H x))(he:e=x∨H e=some (.own x))(k:∀b u,b≠e→h.get? b=some u→h'.get? b=some u)(heo:∃u,h'.get? e=some u):Un fs ex H (upd H x o) h h':=by
 have hx:∀b,H b=none→b≠x:=fun b n z=>by subst z;rw [n] at mu;exact mu
 have hb:∀b,H b=none→b≠e:=fun b n z=>by
  subst z
  rcases he with r | r
  ·exact hx b n r
  ·rw [n] at r;cases r
 have hm:∀b u,H b=some u→¬Mut (some u)→b≠x:=fun b u q nm z=>by subst z;rw [q] at mu;exact nm mu
 refine ⟨fun b u q n _ _=>k b u (hb b n) q,fun b u q n _ _=>⟨u.slots,k b u (hb b n) q⟩,fun b u q n _=>by rw [Zag (hx b n)];exact n,fun b u q _=>?_,
  fun b xs q=>by rw [Zag (hm b _ q fun z=>z)];exact q,fun b u xs q=>by rw [Zag (hm b _ q fun z=>z)];exact q,fun b ps q=>⟨#[],by rw [Zag (hm b _ q fun z=>z),q];simp⟩⟩
 by_cases hbe:b=e
 ·subst hbe;exact heo
 ·exact ⟨u,k b u hbe q⟩
theorem Un.mono(u:Un fs ex H H1 h h1)(hs:∀b∈fs,b∈fs')(hx:∀b∈ex,b∈ex'):Un fs' ex' H H1 h h1 :=
 ⟨fun b ob q n hb he=>u.keep b ob q n (fun z=>hb (hs b z)) fun z=>he (hx b z),fun _ _ q n _ he=>u.any q n fun z=>he (hx _ z),fun b ob q n he=>u.free b ob q n fun z=>he (hx b z),fun b ob q he=>u.there b ob q fun z=>he (hx b z),u.tups,u.frzs,u.tbls⟩
end
def trk(h:Heap)(H:Hp):List Addr:=(List.range h.objs.size).filter fun a=>(H a).isSome
def hidT(h:Heap)(H:Hp):Heap:=W.hideAll h (trk h H)
theorem ZmH(h:Heap)(H:Hp):(hidT h H).objs.size=h.objs.size:=W.hideAll_size _ _
theorem ZnX{h:Heap}{H:Hp}{b:Addr}{o:Obj}(e:h.get? b=some o)(n:H b=none):(hidT h H).get? b=some o :=
 W.hideAll_get _ e fun hm=>by
  have q:(H b).isSome=true:=(Vai.mp hm).2
  rw [n] at q;simp at q
theorem Zps{h:Heap}{H:Hp}{b:Addr}{o:Obj}(e:(hidT h H).get? b=some o):h.get? b=some o∧H b=none:=by
 have e':h.get? b=some o:=W.of_hideAll (trk h H) e
 refine ⟨e',?_⟩
 cases q:H b with
 | none=>rfl
 | some x =>
  have hm:b∈trk h H:=Vai.mpr ⟨Vaj.mpr (Vae e'),by simp [q]⟩
  have z:(hidT h H).get? b=none:=W.hideAll_none (trk h H) hm
  rw [z] at e;cases e
structure Mod(K:W.Frag)(mg:Str→Option Value)(base:Heap):Prop where
 kin:K.In base
 glob:base.Ns mainGlobals mg
 blt:∃mb,base.Ns builtinsNs mb∧∀x:Str,x ≠ "__name__"→mb x=bootBuiltins x
 nolimit:base.NoLimit
structure Cx where
 prog:Program
 w:World
 K:W.Frag
 mg:Str→Option Value
 base:Heap
 A:Around
 N:List Str
 s₀:Shared
 H₀:Hp
 env:Env
 outer:List Env
 stack:List Env
 ex:List Addr
 fn:Str→Bool
 calm:Bool
 pn:List (Addr×Obj)
 xe:Value→Shared→Prop
def frs(l:List Env):List Addr:=l.filterMap (·.frame)
abbrev Cx.fs(X:Cx):List Addr:=frs X.outer
def Vis(sc:Scope)(x:Str):Prop:=sc.names.lookup x=some .local∨sc.names.lookup x=some .cell∨sc.names.lookup x=some .free
def Loc(sc:Scope)(x:Str):Prop:=sc.names.lookup x=some .local∨sc.names.lookup x=some .cell
def Look(env:Env)(h:Heap)(m:Str→Option Value)(x:Str)(u:Value):Prop :=
 (env.kindOf x=some .local∧m x=some u)∨((env.kindOf x=some .cell∨env.kindOf x=some .free)∧∃c,env.cells.lookup x=some c∧h.IsCell c (some u))
structure Cx.Ok(X:Cx):Prop where
 mod:Mod X.K X.mg X.base
 kind:X.env.scope.kind=.function
 glob:X.env.globals=mainGlobals
 blt:X.env.builtins=builtinsNs
 above:X.s₀.heap.objs.size≤X.env.locals
 inj:∀x y c,X.env.cells.lookup x=some c→X.env.cells.lookup y=some c→x=y
 has:∀x,(X.env.kindOf x=some .cell∨X.env.kindOf x=some .free)→∃c,X.env.cells.lookup x=some c
 cab:∀x c,X.fn x=true→X.env.cells.lookup x=some c→X.s₀.heap.objs.size≤c
 hd:X.calm=true→X.A.handled=none
 frames:X.A.frames=some X.stack
 stk:X.stack=X.outer∨(X.stack=X.env::X.outer∧X.env.frame=some X.env.locals)
 exf:∀b∈X.ex,b≠X.env.locals∧∀x c,X.env.cells.lookup x=some c→c≠b
 bs:∀b o,X.base.get? b=some o→X.s₀.heap.get? b=some o∧X.H₀ b=none
 bsz:X.base.objs.size≤X.s₀.heap.objs.size
 noex:∀b o,X.base.get? b=some o→b∉X.ex
 exfs:∀b∈X.ex,b∉X.fs
 funs:X.s₀.heap.FunFrames X.base X.outer
 frf:∀b∈X.fs,X.H₀ b=none
structure Inv(X:Cx)(pins:List (Addr×Obj))(σ:List (Option V))(H:Hp)(s:Shared):Prop where
 ok:X.Ok
 os:s.os=X.s₀.os
 bare:AllBare s.gens
 base:Un X.fs X.ex X.H₀ H X.s₀.heap s.heap
 loc:∃m,s.heap.Ns X.env.locals m∧∀(i:Nat) (x:Str) (v:V),X.N[i]?=some x→σ[i]?=some (some v)→Vis X.env.scope x→∃u,RelV v u∧Look X.env s.heap m x u
 cell:∀x c,X.env.cells.lookup x=some c→∃v,s.heap.IsCell c v
 free:H X.env.locals=none
 freeC:∀x c,X.env.cells.lookup x=some c→H c=none
 pin:∀p∈X.pn++pins,s.heap.get? p.1=some p.2∧H p.1=none∧p.1≠X.env.locals∧p.1∉X.fs∧∀v,p.2.data≠.cell v
 hok:HOk X.prog X.w H s.heap
 len:σ.length=X.N.length
section
variable{X:Cx}{pins:List (Addr×Obj)}{σ:List (Option V)}{H H':Hp}{s:Shared}{h':Heap}
theorem Cx.Ok.nofr(ok:X.Ok){b:Addr}{o:Obj}(e:X.base.get? b=some o):b∉X.fs:=fun hb=>by
 have:=(ok.funs.mem hb).1
 rw [e] at this;cases this
theorem Inv.bs(I:Inv X pins σ H s):∀b o,X.base.get? b=some o→s.heap.get? b=some o∧H b=none:=fun b o e =>
 ⟨I.base.keep b o (I.ok.bs b o e).1 (I.ok.bs b o e).2 (I.ok.nofr e) (I.ok.noex b o e),I.base.free b o (I.ok.bs b o e).1 (I.ok.bs b o e).2 (I.ok.noex b o e)⟩
theorem Inv.bk(I:Inv X pins σ H s):∀b o,X.base.get? b=some o→s.heap.get? b=some o:=fun b o e=>(I.bs b o e).1
theorem Inv.mod(I:Inv X pins σ H s):Mod X.K X.mg X.base:=I.ok.mod
theorem Inv.kIn(I:Inv X pins σ H s):X.K.In s.heap:=I.ok.mod.kin.keeps I.bk
theorem Inv.lt(I:Inv X pins σ H s):X.env.locals<s.heap.objs.size:=let ⟨_,hn,_⟩:=I.loc;hn.lt
theorem Inv.sz(I:Inv X pins σ H s):X.s₀.heap.objs.size≤s.heap.objs.size:=Vak I.ok.above (Vam I.lt)
theorem Inv.nofs(I:Inv X pins σ H s){a:Addr}(h:s.heap.objs.size≤a):a∉X.fs:=fun hb=>by
 obtain ⟨_,o,ho,_⟩:=I.ok.funs.mem hb
 exact absurd (Vaf (Vae ho) (Vak I.sz h)) (Vag _)
theorem Inv.cne(I:Inv X pins σ H s):∀x c,X.env.cells.lookup x=some c→c≠X.env.locals:=fun x c e z=>by
 obtain ⟨v,o,ho,hd⟩:=I.cell x c e
 obtain ⟨m,⟨o',es,ep,ho',hd',_⟩,_⟩:=I.loc
 rw [z,ho'] at ho;cases ho;rw [hd'] at hd;cases hd
theorem Inv.funs(I:Inv X pins σ H s):s.heap.FunFrames X.base X.outer:=by
 have all:∀(l:List Env),(∀b∈frs l,b∈X.fs)→X.s₀.heap.FunFrames X.base l→s.heap.FunFrames X.base l:=by
  intro l
  induction l with
  | nil=>intro _ _;trivial
  | cons env r ih =>
   intro hs hl
   obtain ⟨hk,⟨L,o,hf,hn,ho,hd⟩,hr⟩:=hl
   have hL:L∈X.fs:=hs L (by unfold frs;rw [List.filterMap_cons,hf];exact List.mem_cons_self)
   obtain ⟨sl,e⟩:=I.base.slot L o ho (I.ok.frf L hL) hL fun z=>I.ok.exfs L z hL
   exact ⟨hk,⟨L,_,hf,hn,e,hd⟩,ih (fun b hb=>hs b (by unfold frs;rw [List.filterMap_cons,hf];exact List.mem_cons_of_mem _ hb)) hr⟩
 exact all X.outer (fun _ hb=>hb) I.ok.funs
theorem Inv.stack(I:Inv X pins σ H s):s.heap.FunFrames X.base X.stack:=by
 rcases I.ok.stk with e | ⟨e,hf⟩
 ·rw [e];exact I.funs
 ·rw [e]
  obtain ⟨m,hn,_⟩:=I.loc
  refine .cons (by rw [I.ok.kind];decide) hf hn ?_ I.funs
  exact Vaq (Vak I.ok.bsz I.ok.above)
theorem Inv.stkSub(I:Inv X pins σ H s):∀b∈frs X.stack,b∈X.env.locals::X.fs:=fun b hb=>by
 rcases I.ok.stk with e | ⟨e,hf⟩
 ·rw [e] at hb;exact Vap _ hb
 ·rw [e] at hb
  unfold frs at hb
  rw [Van,hf] at hb
  exact hb
theorem Inv.stkFree(I:Inv X pins σ H s):∀b∈frs X.stack,H b=none:=fun b hb=>by
 rcases Var.mp (I.stkSub b hb) with e | hb
 ·rw [e];exact I.free
 ·obtain ⟨_,o,ho,_⟩:=I.ok.funs.mem hb
  exact I.base.free b o ho (I.ok.frf b hb) fun z=>I.ok.exfs b z hb
theorem Inv.step{g':Array GenState}{t':Nat}{d':Drawn}{ch:List Addr}(I:Inv X pins σ H s)
  (hch:∀b∈ch,(b∈X.ex∨X.s₀.heap.objs.size≤b)∧b≠X.env.locals∧(∀x c,X.env.cells.lookup x=some c→c≠b)∧∀p∈X.pn++pins,p.1≠b)
  (keep:∀b o,b≠X.env.locals→b∉X.fs→b∉ch→s.heap.get? b=some o→H b=none→h'.get? b=some o)
  (slot:∀b o,b≠X.env.locals→b∈X.fs→b∉ch→s.heap.get? b=some o→H b=none→∃sl,h'.get? b=some { o with slots:=sl }) (free:∀b o,b∉ch→s.heap.get? b=some o→H b=none→H' b=none)
  (there:∀b o,b∉ch→s.heap.get? b=some o→∃o',h'.get? b=some o')
  (tups:∀b xs,H b=some (.tup xs)→H' b=some (.tup xs)) (frzs:∀b o u,H b=some (.frz o u)→H' b=some (.frz o u)) (tbls:∀b ps,H b=some (.tbl ps)→∃more,H' b=some (.tbl (ps++more)))
  (ns:∀m,s.heap.Ns X.env.locals m→h'.Ns X.env.locals m) (hok:HOk X.prog X.w H' h') (hg:AllBare g') :
  Inv X pins σ H' { s with heap:=h',gens:=g',drawn:=d',toks:=t' }:=by
 have neL:∀b o,X.s₀.heap.get? b=some o→b≠X.env.locals:=fun b o e=>Vah (Vaf (Vae e) I.ok.above)
 have neC:∀b o,X.s₀.heap.get? b=some o→b∉X.ex→b∉ch:=fun b o e hx hb=>by
  rcases (hch b hb).1 with z | z
  ·exact hx z
  ·exact absurd (Vaf (Vae e) z) (Vag _)
 have cellK:∀x c,X.env.cells.lookup x=some c→∀v,s.heap.IsCell c v→h'.IsCell c v:=fun x c e v ⟨o,ho,hd⟩=>by
  have nch:c∉ch:=fun z=>(hch c z).2.2.1 x c e rfl
  by_cases hc:c∈X.fs
  ·obtain ⟨sl,q⟩:=slot c o (I.cne x c e) hc nch ho (I.freeC x c e)
   exact ⟨_,q,hd⟩
  ·exact ⟨o,keep c o (I.cne x c e) hc nch ho (I.freeC x c e),hd⟩
 refine ⟨I.ok,I.os,hg,⟨fun b o e n hb hx=>?_,fun b o e n hb hx=>?_,fun b o e n hx=>?_,fun b o e hx=>?_,fun b xs e=>tups b xs (I.base.tups b xs e),fun b o xs e=>frzs b o xs (I.base.frzs b o xs e),fun b ps e=>?_⟩,?_,fun x c e=>?_,?_,fun x c e=>?_,fun p hp=>?_,hok,I.len⟩
 ·exact keep b o (neL b o e) hb (neC b o e hx) (I.base.keep b o e n hb hx) (I.base.free b o e n hx)
 ·obtain ⟨sl,e1⟩:=I.base.slot b o e n hb hx
  obtain ⟨sl',e2⟩:=slot b _ (neL b o e) hb (neC b o e hx) e1 (I.base.free b o e n hx)
  exact ⟨sl',e2⟩
 ·obtain ⟨o',e1⟩:=I.base.there b o e hx
  exact free b o' (neC b o e hx) e1 (I.base.free b o e n hx)
 ·obtain ⟨o',e1⟩:=I.base.there b o e hx
  exact there b o' (neC b o e hx) e1
 ·obtain ⟨m1,e1⟩:=I.base.tbls b ps e
  obtain ⟨m2,e2⟩:=tbls b _ e1
  exact ⟨m1++m2,by rw [e2,Array.append_assoc]⟩
 ·obtain ⟨m,hn,hl⟩:=I.loc
  refine ⟨m,ns m hn,fun i x v e1 e2 e3=>?_⟩
  obtain ⟨u,r,l⟩:=hl i x v e1 e2 e3
  refine ⟨u,r,?_⟩
  rcases l with l | ⟨k,c,e,z⟩
  ·exact .inl l
  ·exact .inr ⟨k,c,e,cellK x c e _ z⟩
 ·obtain ⟨v,z⟩:=I.cell x c e
  exact ⟨v,cellK x c e v z⟩
 ·obtain ⟨m,⟨o,_,_,ho,_⟩,_⟩:=I.loc
  exact free _ o (fun z=>(hch _ z).2.1 rfl) ho I.free
 ·obtain ⟨v,o,ho,hd⟩:=I.cell x c e
  exact free c o (fun z=>(hch c z).2.2.1 x c e rfl) ho (I.freeC x c e)
 ·obtain ⟨e,n,ne,nf,d⟩:=I.pin p hp
  have nch:p.1∉ch:=fun z=>(hch p.1 z).2.2.2 p hp rfl
  exact ⟨keep p.1 p.2 ne nf nch e n,free p.1 p.2 nch e n,ne,nf,d⟩
theorem Inv.un{t':Nat}(I:Inv X pins σ H s)(u:Un X.fs [] H H' s.heap h')(hok:HOk X.prog X.w H' h'):Inv X pins σ H' { s with heap:=h',toks:=t' }:=by
 obtain ⟨m,⟨o,es,ep,ho,r⟩,_⟩:=id I.loc
 obtain ⟨sl,hL⟩:=u.any ho I.free (by simp)
 exact I.step (g':=s.gens) (d':=s.drawn) (ch:=[]) (fun _ z=>nomatch z) (fun b o _ hb _ e n=>u.keep b o e n hb (by simp)) (fun b o _ hb _ e n=>u.slot b o e n hb (by simp)) (fun b o _ e n=>u.free b o e n (by simp)) (fun b o _ e=>u.there b o e (by simp)) u.tups u.frzs u.tbls (fun m' hm=>by
  obtain ⟨o',es',ep',ho',r'⟩:=hm
  rw [ho] at ho';cases ho'
  exact ⟨_,es',ep',hL,r'⟩) hok I.bare
theorem Inv.call{g':Array GenState}{t':Nat}{d':Drawn}{ch:List Addr}(I:Inv X pins σ H s)(u:Un (frs X.stack) ch H H' s.heap h')(hok:HOk X.prog X.w H' h')(hg:AllBare g')
  (hch:∀b∈ch,(b∈X.ex∨X.s₀.heap.objs.size≤b)∧b≠X.env.locals∧(∀x c,X.env.cells.lookup x=some c→c≠b)∧∀p∈X.pn++pins,p.1≠b) :
  Inv X pins σ H' { s with heap:=h',gens:=g',drawn:=d',toks:=t' }:=by
 obtain ⟨m,⟨o,es,ep,ho,r⟩,_⟩:=id I.loc
 obtain ⟨sl,hL⟩:=u.any ho I.free fun z=>(hch _ z).2.1 rfl
 exact I.step (ch:=ch) hch (fun b o hL hb hc e n=>u.keep b o e n (fun z=>(Var.mp (I.stkSub b z)).elim hL hb) hc) (fun b o _ _ hc e n=>u.any e n hc) (fun b o hc e n=>u.free b o e n hc) (fun b o hc e=>u.there b o e hc) u.tups u.frzs u.tbls (fun m' hm=>by
  obtain ⟨o',es',ep',ho',r'⟩:=hm
  rw [ho] at ho';cases ho'
  exact ⟨_,es',ep',hL,r'⟩) hok hg
theorem Inv.turned{t':Nat}{it:Addr}(I:Inv X pins σ H s)(k:∀b o,b≠it→s.heap.get? b=some o→h'.get? b=some o)(hn:H it=none)(hL:it≠X.env.locals)
  (h1:it∈X.ex∨X.s₀.heap.objs.size≤it) (h2:∀x c,X.env.cells.lookup x=some c→c≠it) (h3:∀p∈X.pn++pins,p.1≠it):Inv X pins σ H { s with heap:=h',toks:=t' }:=by
 have nit:∀b u,H b=some u→b≠it:=fun b u e z=>by rw [z,hn] at e;cases e
 refine I.step (g':=s.gens) (d':=s.drawn) (ch:=[it]) (fun b hb=>?_) (fun b o _ _ hc e _=>k b o (fun z=>hc (by simp [z])) e) (fun b o _ _ hc e _=>⟨o.slots,k b o (fun z=>hc (by simp [z])) e⟩) (fun _ _ _ _ n=>n)
  (fun b o hc e=>⟨o,k b o (fun z=>hc (by simp [z])) e⟩) (fun _ _ e=>e) (fun _ _ _ e=>e) (fun b ps e=>⟨#[],by rw [e];simp⟩) (fun m hm=>?_) (fun b u e=>?_) I.bare
 ·have e:b=it:=by simpa using hb
  subst e
  exact ⟨h1,hL,h2,h3⟩
 ·obtain ⟨o,es,ep,ho,r⟩:=hm
  exact ⟨o,es,ep,k _ o (Ne.symm hL) ho,r⟩
 ·refine (I.hok b u e).stay (fun c v hc q=>k c v ?_ q) (fun _ q=>q) fun _ _ q=>q
  rcases hc with z | z
  ·rw [z];exact nit b u e
  ·exact nit c _ z
theorem Inv.tok(I:Inv X pins σ H s)(t:Nat):Inv X pins σ H { s with toks:=t }:=I.un (h':=s.heap) (t':=t) Un.refl I.hok
theorem Inv.kept{t':Nat}(I:Inv X pins σ H s)(k:∀b u,s.heap.get? b=some u→h'.get? b=some u):Inv X pins σ H { s with heap:=h',toks:=t' }:=I.un (Un.kept k) (I.hok.kept k)
theorem Inv.laid{a:Addr}{o:HO}{t':Nat}(I:Inv X pins σ H s)(k:∀b u,s.heap.get? b=some u→h'.get? b=some u)(hp:s.heap.objs.size≤a)(new:ZbS X.prog X.w (upd H a o) h' a o) :
  Inv X pins σ (upd H a o) { s with heap:=h',toks:=t' }:=I.un (Un.laid k hp (I.hok.fresh hp)) (I.hok.laid k hp new)
theorem Inv.write{x e:Addr}{o:HO}{t':Nat}(I:Inv X pins σ H s)(mu:Mut (H x))(he:e=x∨H e=some (.own x))(k:∀b u,b≠e→s.heap.get? b=some u→h'.get? b=some u)(heo:∃u,h'.get? e=some u)
  (new:ZbS X.prog X.w (upd H x o) h' x o):Inv X pins σ (upd H x o) { s with heap:=h',toks:=t' }:=I.un (Un.write mu he k heo) (I.hok.write mu he k heo new)
theorem Inv.weak{σ':List (Option V)}(I:Inv X pins σ H s)(hl:σ'.length=σ.length)(w:∀(i:Nat) v,σ'[i]?=some (some v)→σ[i]?=some (some v)):Inv X pins σ' H s :=
 ⟨I.ok,I.os,I.bare,I.base,let ⟨m,hn,hl'⟩:=I.loc;⟨m,hn,fun i x v e1 e2 e3=>hl' i x v e1 (w i v e2) e3⟩,I.cell,I.free,I.freeC,I.pin,I.hok,hl.trans I.len⟩
theorem Inv.pins_of{pins':List (Addr×Obj)}(I:Inv X pins σ H s)(h:∀p∈pins',s.heap.get? p.1=some p.2∧H p.1=none∧p.1≠X.env.locals∧p.1∉X.fs∧∀v,p.2.data≠.cell v):Inv X pins' σ H s :=
 ⟨I.ok,I.os,I.bare,I.base,I.loc,I.cell,I.free,I.freeC,fun p hp=>(Vas.mp hp).elim (fun z=>I.pin p (Vat _ z)) (h p),I.hok,I.len⟩
theorem Zjy{N:List Str}(hN:N.Nodup){i j:Nat}{x:Str}(a:N[i]?=some x)(b:N[j]?=some x):i=j:=by
 obtain ⟨h1,e1⟩:=Vau.mp a
 obtain ⟨h2,e2⟩:=Vau.mp b
 exact (List.getElem_inj hN).mp (e1.trans e2.symm)
theorem ZmG{M:Model}{A:Around}{E:Value→Shared→Prop}{i:Nat}{x:Str}{v:V}{u:Value}{Q:Unit→Shared→Prop}(I:Inv X pins σ H s)(hN:X.N.Nodup)(hi:X.N[i]?=some x)(hx:Loc X.env.scope x)(r:RelV v u)
  (h:∀s',Inv X pins (σ.set i (some v)) H s'→(∃a,Heap.SameBut a s.heap s'.heap∧(a=X.env.locals∨X.env.cells.lookup x=some a))→Q () s') (hf:X.fn x=true∨X.env.scope.names.lookup x=some .local:=by first | exact .inl rfl | exact .inr rfl | assumption):wpAny M A (storeName X.env x u) Q E s:=by
 obtain ⟨m,hn,hl⟩:=id I.loc
 have hcls:(X.env.scope.kind==.class||(X.env.scope.kind==.module&&X.env.locals != X.env.globals))=false:=by rw [I.ok.kind];rfl
 have hiσ:i<σ.length:=by rw [I.len];exact (Vau.mp hi).1
 have cne:=I.cne
 have tracked:∀{a:Addr} {h':Heap},(∃o,s.heap.get? a=some o∧H a=none)→Heap.SameBut a s.heap h'→HOk X.prog X.w H h':=fun {a h'} ha hs b ob e=>by
  obtain ⟨_,_,hfree⟩:=ha
  refine (I.hok b ob e).stay (fun c w' hc q=>(hs.2 c ?_).trans q) (fun _ q=>q) fun _ _ q=>q
  rintro rfl
  rcases hc with rfl | hc
  ·rw [hfree] at e;cases e
  ·rw [hfree] at hc;cases hc
 rcases hx with hk | hk
 ·refine wpAny_storeName_local hk hn (fun h' hn' hs=>?_) hcls
  obtain ⟨oL,_,_,hoL,_⟩:=id hn
  refine h _ ⟨I.ok,I.os,I.bare,⟨fun b o e n hb hx=>?_,fun b o e n hb hx=>?_,I.base.free,fun b o e hx=>?_,I.base.tups,I.base.frzs,I.base.tbls⟩,⟨_,hn',fun j y v' e1 e2 e3=>?_⟩,fun y c e=>?_,I.free,I.freeC,fun p hp=>?_,tracked ⟨oL,hoL,I.free⟩ hs,by simpa using I.len⟩ ⟨_,hs,.inl rfl⟩
  ·exact (hs.2 b (Vah (Vaf (Vae e) I.ok.above))).trans (I.base.keep b o e n hb hx)
  ·obtain ⟨sl,e1⟩:=I.base.slot b o e n hb hx
   exact ⟨sl,(hs.2 b (Vah (Vaf (Vae e) I.ok.above))).trans e1⟩
  ·obtain ⟨o',e1⟩:=I.base.there b o e hx
   exact ⟨o',(hs.2 b (Vah (Vaf (Vae e) I.ok.above))).trans e1⟩
  ·by_cases hj:j=i
   ·subst hj
    rw [hi] at e1;cases e1
    rw [List.getElem?_set_self hiσ] at e2
    cases e2
    exact ⟨u,r,.inl ⟨hk,by simp⟩⟩
   ·rw [List.getElem?_set_ne (Ne.symm hj)] at e2
    obtain ⟨u',r',q⟩:=hl j y v' e1 e2 e3
    refine ⟨u',r',?_⟩
    rcases q with ⟨k,e⟩ | ⟨k,c,e,z⟩
    ·refine .inl ⟨k,?_⟩
     have:y≠x:=fun e=>hj (Zjy hN e1 (e▸hi))
     simp [this,e]
    ·exact .inr ⟨k,c,e,z.sameBut hs (cne y c e)⟩
  ·obtain ⟨w',z⟩:=I.cell y c e
   exact ⟨w',z.sameBut hs (cne y c e)⟩
  ·obtain ⟨e,n,ne,nf,d⟩:=I.pin p hp
   exact ⟨(hs.2 p.1 ne).trans e,n,ne,nf,d⟩
 ·have hfn:X.fn x=true:=by
   rcases hf with z | z
   ·exact z
   ·rw [z] at hk;cases hk
  obtain ⟨c,hc⟩:=I.ok.has x (.inl hk)
  obtain ⟨w',z⟩:=I.cell x c hc
  refine wpAny_storeName_cell I.ok.kind hk hc z (fun h' hc' hs=>?_)
  obtain ⟨oc,hoc,hocd⟩:=id z
  refine h { s with heap:=h' } ⟨I.ok,I.os,I.bare,⟨fun b o e n hb hx=>?_,fun b o e n hb hx=>?_,I.base.free,fun b o e hx=>?_,I.base.tups,I.base.frzs,I.base.tbls⟩,⟨m,hn.sameBut hs (Ne.symm (cne x c hc)),fun j y v' e1 e2 e3=>?_⟩,fun y c' e=>?_,I.free,I.freeC,fun p hp=>?_,tracked ⟨oc,hoc,I.freeC x c hc⟩ hs,by simpa using I.len⟩ ⟨c,hs,.inr hc⟩
  ·exact (hs.2 b (Vah (Vaf (Vae e) (I.ok.cab x c hfn hc)))).trans (I.base.keep b o e n hb hx)
  ·obtain ⟨sl,e1⟩:=I.base.slot b o e n hb hx
   exact ⟨sl,(hs.2 b (Vah (Vaf (Vae e) (I.ok.cab x c hfn hc)))).trans e1⟩
  ·obtain ⟨o',e1⟩:=I.base.there b o e hx
   exact ⟨o',(hs.2 b (Vah (Vaf (Vae e) (I.ok.cab x c hfn hc)))).trans e1⟩
  ·by_cases hj:j=i
   ·subst hj
    rw [hi] at e1;cases e1
    rw [List.getElem?_set_self hiσ] at e2
    cases e2
    exact ⟨u,r,.inr ⟨.inl hk,c,hc,hc'⟩⟩
   ·rw [List.getElem?_set_ne (Ne.symm hj)] at e2
    obtain ⟨u',r',q⟩:=hl j y v' e1 e2 e3
    refine ⟨u',r',?_⟩
    rcases q with q | ⟨k,c',e,z'⟩
    ·exact .inl q
    ·refine .inr ⟨k,c',e,z'.sameBut hs ?_⟩
     rintro rfl
     exact hj (Zjy hN e1 (I.ok.inj _ _ _ e hc▸hi))
  ·by_cases hcc:c'=c
   ·subst hcc;exact ⟨_,hc'⟩
   ·obtain ⟨w2,z2⟩:=I.cell y c' e
    exact ⟨w2,z2.sameBut hs hcc⟩
  ·obtain ⟨e,n,ne,nf,d⟩:=I.pin p hp
   refine ⟨(hs.2 p.1 ?_).trans e,n,ne,nf,d⟩
   intro q
   rw [q,hoc] at e
   have q':oc=p.2:=Vav e
   exact d w' (by rw [←q'];exact hocd)
theorem Zd2{M:Model}{A:Around}{E:Value→Shared→Prop}{i:Nat}{x:Str}{v:V}{u:Value}{Q:Unit→Shared→Prop}(I:Inv X pins σ H s)(hN:X.N.Nodup)(hi:X.N[i]?=some x)(hx:Loc X.env.scope x)(r:RelV v u)
  (h:∀s',Inv X pins (σ.set i (some v)) H s'→Q () s') (hf:X.fn x=true∨X.env.scope.names.lookup x=some .local:=by first | exact .inl rfl | exact .inr rfl | assumption):wpAny M A (storeName X.env x u) Q E s :=
 ZmG I hN hi hx r (fun s' I' _=>h s' I') hf
theorem Inv.call'{s':Shared}{ch:List Addr}(I:Inv X pins σ H s)(ho:s'.os=s.os)(u:Un (frs X.stack) ch H H' s.heap s'.heap)(hok:HOk X.prog X.w H' s'.heap)(hg:AllBare s'.gens)
  (hch:∀b∈ch,(b∈X.ex∨X.s₀.heap.objs.size≤b)∧b≠X.env.locals∧(∀x c,X.env.cells.lookup x=some c→c≠b)∧∀p∈X.pn++pins,p.1≠b):Inv X pins σ H' s':=by
 obtain ⟨h',g',d',t',o'⟩:=s'
 have e:o'=s.os:=ho
 subst e
 exact I.call (g':=g') (t':=t') (d':=d') u hok hg hch
end
abbrev XK:=Value→Option Addr→Hp→Prop
abbrev St:=List (Option V)
abbrev VK:=V→Hp→Prop
abbrev TE:=St→Hp→VK→Prop
abbrev TT:=St→Hp→(Bool→Hp→Prop)→Prop
abbrev TA:=St→Hp→(List V→Hp→Prop)→Prop
structure Ends where
 nx:St→Hp→Prop
 rt:VK
 bk:St→Hp→Prop:=fun _ _=>False
 ct:St→Hp→Prop:=fun _ _=>False
abbrev TS:=Ends→St→Hp→Prop
def EP(X:Cx)(pins:List (Addr×Obj))(σ:St)(Q:VK)(u:Value)(s':Shared):Prop:=∃v H',Inv X pins σ H' s'∧RelV v u∧Q v H'
def TP(X:Cx)(pins:List (Addr×Obj))(σ:St)(Q:Bool→Hp→Prop)(b:Bool)(s':Shared):Prop:=∃H',Inv X pins σ H' s'∧Q b H'
def AP(X:Cx)(pins:List (Addr×Obj))(σ:St)(Q:List V→Hp→Prop)(us:List Value)(s':Shared):Prop:=∃vs H',Inv X pins σ H' s'∧Vals vs us∧Q vs H'
def SP(X:Cx)(pins:List (Addr×Obj))(D:Ends)(f:Flow)(s':Shared):Prop :=
 match f with
 | .next=>∃σ' H',Inv X pins σ' H' s'∧D.nx σ' H'
 | .brk=>∃σ' H',Inv X pins σ' H' s'∧D.bk σ' H'
 | .cont=>∃σ' H',Inv X pins σ' H' s'∧D.ct σ' H'
 | .ret u=>∃v σ' H',Inv X pins σ' H' s'∧RelV v u∧D.rt v H'
def PE(X:Cx)(e:Expr)(t:TE):Prop :=
 ∀(pins:List (Addr×Obj)) (s:Shared) (σ:St) (H:Hp) (Q:VK),Inv X pins σ H s→t σ H Q→wpAny (model X.prog X.w) X.A (eval e X.env) (EP X pins σ Q) X.xe s
def PT(X:Cx)(e:Expr)(t:TT):Prop :=
 ∀(pins:List (Addr×Obj)) (s:Shared) (σ:St) (H:Hp) (Q:Bool→Hp→Prop),Inv X pins σ H s→t σ H Q→wpAny (model X.prog X.w) X.A (isTrue e X.env (eval e X.env)) (TP X pins σ Q) X.xe s
def PW(X:Cx)(e:Expr)(t:TT):Prop :=
 ∀(whole:Sem Value) (pins:List (Addr×Obj)) (s:Shared) (σ:St) (H:Hp) (Q:Bool→Hp→Prop),Inv X pins σ H s→t σ H Q→wpAny (model X.prog X.w) X.A (isTrue e X.env whole) (TP X pins σ Q) X.xe s
theorem PW.pt{X:Cx}{e:Expr}{t:TT}(h:PW X e t):PT X e t:=h _
def PA(X:Cx)(es:List Expr)(t:TA):Prop :=
 ∀(pos:Pos) (pins:List (Addr×Obj)) (s:Shared) (σ:St) (H:Hp) (Q:List V→Hp→Prop),Inv X pins σ H s→t σ H Q→wpAny (model X.prog X.w) X.A (spliced (backTo pos (starEach es X.env))) (AP X pins σ Q) X.xe s
def PS(X:Cx)(st:Stmt)(t:TS):Prop :=
 ∀(pins:List (Addr×Obj)) (s:Shared) (σ:St) (H:Hp) (D:Ends),Inv X pins σ H s→t D σ H→wpAny (model X.prog X.w) X.A (exec st X.env) (SP X pins D) X.xe s
def PSs(X:Cx)(st:List Stmt)(t:TS):Prop :=
 ∀(pins:List (Addr×Obj)) (s:Shared) (σ:St) (H:Hp) (D:Ends),Inv X pins σ H s→t D σ H→wpAny (model X.prog X.w) X.A (execs st X.env) (SP X pins D) X.xe s
theorem thn{α:Type}{t:Sem α}{Q Q':α→Shared→Prop}{M:Model}{A:Around}{E:Value→Shared→Prop}{s:Shared}(h:wpAny M A t Q E s)(hQ:∀a s,Q a s→Q' a s):wpAny M A t Q' E s:=Vaw h hQ fun _ _ x=>x
section
variable{X:Cx}
def tVar(i:Nat):TE:=fun σ H Q=>∃v,σ[i]?=some (some v)∧Q v H
def tC(v:V):TE:=fun _ H Q=>Q v H
theorem ZhZ{i:Nat}{x:Str}{pos:Pos}(hN:X.N[i]?=some x)(hv:Vis X.env.scope x)(hd:(x==("__debug__" : Str))=false:=by decide)(hcd:(x==("__classdict__" : Str))=false:=by decide):PE X (.Name x pos) (tVar i):=by
 intro pins s σ H Q I h
 obtain ⟨v,e,h⟩:=h
 obtain ⟨m,hn,hl⟩:=I.loc
 obtain ⟨u,r,l⟩:=hl i x v hN e hv
 have fin:EP X pins σ Q u s:=⟨v,H,I,r,h⟩
 rcases l with ⟨hk,hm⟩ | ⟨hk,c,hc,hcell⟩
 ·exact wpAny_Name (wpAny_loadName_local I.ok.kind hk hn hm fin) hd
 ·rcases hk with hk | hk
  ·exact wpAny_Name (wpAny_loadName_cell I.ok.kind hk hc hcell fin) hd
  ·exact wpAny_Name (wpAny_loadName_free I.ok.kind hk hc hcell fin hcd) hd
theorem Zt6{i j pos}:PE X (.Constant (.int i) j pos) (tC (.int i)):=fun _ _ _ H _ I h=>wpAny_Constant_int ⟨.int i,H,I.tok _,⟨_,rfl⟩,h⟩
theorem Zvd{b j pos}:PE X (.Constant (.bool b) j pos) (tC (.bl b)):=fun _ _ _ H _ I h=>Constant_bool ⟨.bl b,H,I,rfl,h⟩
theorem ZlE{j pos}:PE X (.Constant .none j pos) (tC .non):=fun _ _ _ H _ I h=>Constant_none ⟨.non,H,I,rfl,h⟩
theorem ZrU{x j pos}:PE X (.Constant (.str x) j pos) (tC (.str x)):=fun _ _ _ H _ I h=>Calls.Constant_str ⟨.str x,H,I.tok _,⟨_,rfl⟩,h⟩
def Gl(X:Cx)(x:Str):Prop:=X.env.kindOf x=some .globalImplicit
theorem Zg0{E:Value→Shared→Prop}{pins:List (Addr×Obj)}{s:Shared}{σ:St}{H:Hp}{x:Str}{u:Value}{pos:Pos}{Q:Value→Shared→Prop}(I:Inv X pins σ H s)(hg:Gl X x)(hm:X.mg x=some u)(h:Q u s)
  (hd:(x==("__debug__" : Str))=false:=by decide):wpAny (model X.prog X.w) X.A (eval (.Name x pos) X.env) Q E s :=
 Calls.Name_function_global I.ok.kind hg (Calls.loadGlobal_global (by rw [I.ok.glob];exact I.mod.glob.keeps I.bk) hm h) hd
theorem Zfr{E:Value→Shared→Prop}{pins:List (Addr×Obj)}{s:Shared}{σ:St}{H:Hp}{x:Str}{u:Value}{pos:Pos}{Q:Value→Shared→Prop}(I:Inv X pins σ H s)(hg:Gl X x)(hm:X.mg x=none)(hv:bootBuiltins x=some u)(h:Q u s)
  (hn:x ≠ "__name__" := by decide) (hd:(x==("__debug__" : Str))=false:=by decide):wpAny (model X.prog X.w) X.A (eval (.Name x pos) X.env) Q E s:=by
 obtain ⟨mb,h1,h2⟩:=I.mod.blt
 exact Calls.Name_function_global I.ok.kind hg (Calls.loadGlobal_builtin (by rw [I.ok.glob];exact I.mod.glob.keeps I.bk) hm (by rw [I.ok.blt];exact h1.keeps I.bk) ((h2 x hn).trans hv) h) hd
theorem ZlY{x:Str}{v:V}{u:Value}{pos:Pos}(hg:Gl X x)(hm:X.mg x=some u)(r:RelV v u)(hd:(x==("__debug__" : Str))=false:=by decide):PE X (.Name x pos) (tC v) :=
 fun _ _ _ H _ I h=>Zg0 I hg hm ⟨v,H,I,r,h⟩ hd
theorem Zp9{x:Str}{v:V}{u:Value}{pos:Pos}(hg:Gl X x)(hm:X.mg x=none)(hv:bootBuiltins x=some u)(r:RelV v u)(hn:x ≠ "__name__" := by decide)(hd:(x==("__debug__" : Str))=false:=by decide):PE X (.Name x pos) (tC v) :=
 fun _ _ _ H _ I h=>Zfr I hg hm hv ⟨v,H,I,r,h⟩ hn hd
variable{a b:Expr}{ta tb:TE}{pos:Pos}
def tB(t:TE):TT:=fun σ H Q=>t σ H fun x H1=>∃c,x=.bl c∧Q c H1
theorem ZrS{e:Expr}{t:TE}(h:PE X e t)(he:∀whole,isTrue e X.env whole=(do let v ←whole;standAt e.pos;holding [v] (truthy v)):=by intro _;rfl):PT X e (tB t):=by
 intro pins s σ H Q I hw
 refine isTrue_plain (thn (h pins s σ H _ I hw) fun v s1 ⟨x,H1,I1,r1,q1⟩=>?_) (he _)
 obtain ⟨d,rfl,q⟩:=q1
 cases r1
 exact wpAny_truthy_bool ⟨H1,I1,q⟩
variable{tA tB':TT}{rest:List Expr}
def tAnd(t u:TT):TT:=fun σ H Q=>t σ H fun c H1=>if c=true then u σ H1 Q else Q false H1
def tOr(t u:TT):TT:=fun σ H Q=>t σ H fun c H1=>if c=true then Q true H1 else u σ H1 Q
def tNot(t:TT):TT:=fun σ H Q=>t σ H fun c H1=>Q (!c) H1
theorem ZpU(ha:PT X a tA):PW X (.BoolOp .And [a] pos) tA:=by
 intro wh pins s σ H Q I h
 refine isTrue_and (thn (ha pins s σ H Q I h) fun c s1 e=>?_)
 cases c with
 | true=>exact isTrue_and_nil e
 | false=>exact e
theorem Ztw(ha:PT X a tA):PW X (.BoolOp .Or [a] pos) tA:=by
 intro wh pins s σ H Q I h
 refine isTrue_or (thn (ha pins s σ H Q I h) fun c s1 e=>?_)
 cases c with
 | false=>exact isTrue_or_nil e
 | true=>exact e
theorem ZrN(ha:PT X a tA)(hb:PW X (.BoolOp .And (b::rest) pos) tB'):PW X (.BoolOp .And (a::b::rest) pos) (tAnd tA tB'):=by
 intro wh pins s σ H Q I h
 refine isTrue_and (thn (ha pins s σ H _ I h) fun c s1 ⟨H1,I1,q1⟩=>?_)
 cases c with
 | true=>exact hb wh pins s1 σ H1 Q I1 q1
 | false=>exact ⟨H1,I1,q1⟩
theorem Zuu(ha:PT X a tA)(hb:PW X (.BoolOp .Or (b::rest) pos) tB'):PW X (.BoolOp .Or (a::b::rest) pos) (tOr tA tB'):=by
 intro wh pins s σ H Q I h
 refine isTrue_or (thn (ha pins s σ H _ I h) fun c s1 ⟨H1,I1,q1⟩=>?_)
 cases c with
 | true=>exact ⟨H1,I1,q1⟩
 | false=>exact hb wh pins s1 σ H1 Q I1 q1
theorem ZsT(ha:PT X a tA):PT X (.UnaryOp .Not a pos) (tNot tA):=by
 intro pins s σ H Q I h
 exact isTrue_not (ha pins s σ H (fun c H1=>Q (!c) H1) I h)
def Zp3(ta tb:TE):TE:=fun σ H Q=>ta σ H fun x H1=>∃c,x=.bl c∧if c=true then tb σ H1 Q else Q (.bl false) H1
def Zrd(ta:TE):TE:=fun σ H Q=>ta σ H fun x H1=>∃c,x=.bl c∧Q (.bl (!c)) H1
theorem ZrX{op}{t:TE}(h:PE X a t):PE X (.BoolOp op [a] pos) t:=fun pins s σ H Q I hw=>BoolOp_one (h pins s σ H Q I hw)
theorem Zt1(ha:PE X a ta)(hb:PE X (.BoolOp .And (b::rest) pos) tb):PE X (.BoolOp .And (a::b::rest) pos) (Zp3 ta tb):=by
 intro pins s σ H Q I h
 refine BoolOp_and (thn (ha pins s σ H _ I h) fun v s1 ⟨x,H1,I1,r1,q1⟩=>?_)
 obtain ⟨c,rfl,q1⟩:=q1
 cases r1
 refine wpAny_truthy_bool ?_
 cases c with
 | true=>exact hb pins s1 σ H1 Q I1 q1
 | false=>exact ⟨.bl false,H1,I1,rfl,q1⟩
theorem ZtU(ha:PE X a ta):PE X (.UnaryOp .Not a pos) (Zrd ta):=by
 intro pins s σ H Q I h
 refine UnaryOp_ (thn (ha pins s σ H _ I h) fun v s1 ⟨x,H1,I1,r1,q1⟩=>?_)
 obtain ⟨c,rfl,q1⟩:=q1
 cases r1
 exact not_of (wpAny_truthy_bool ⟨.bl (!c),H1,I1,rfl,q1⟩)
def tIf(t:TT)(ta tb:TE):TE:=fun σ H Q=>t σ H fun c H1=>if c=true then ta σ H1 Q else tb σ H1 Q
theorem ZnF{c:Expr}(hc:PT X c tA)(ha:PE X a ta)(hb:PE X b tb):PE X (.IfExp c a b pos) (tIf tA ta tb):=by
 intro pins s σ H Q I h
 refine wpAny_IfExp (thn (hc pins s σ H _ I h) fun d s1 ⟨H1,I1,q1⟩=>?_)
 cases d with
 | true=>exact ha pins s1 σ H1 Q I1 q1
 | false=>exact hb pins s1 σ H1 Q I1 q1
end
def SqL(K:W.Frag)(H:Hp)(a:Addr)(xs:List V):Prop :=
 Rd H a (.lst xs) ∨
  ∃(o:Obj) (its:Array Value) (n:Nat),K.lookup a=some o∧o.cls=.type "list"∧o.dict=none∧o.data=.seq its n∧its.size≤sizeLine∧Vals xs its.toList
def SqT(K:W.Frag)(H:Hp)(a:Addr)(xs:List V):Prop :=
 Rd H a (.tup xs) ∨
  ∃(o:Obj) (its:Array Value) (n:Nat),K.lookup a=some o∧o.cls=.type "tuple"∧o.data=.seq its n∧its.size≤sizeLine∧Vals xs its.toList
def absV:Value→Option V
 | .none=>some .non
 | .bool b=>some (.bl b)
 | .int i _=>some (.int i)
 | .str x _=>some (.str x)
 | .bytes b _=>some (.byt b)
 | .float b _=>some (.flt b)
 | .ref a=>some (.ref a)
 | .type n=>some (.ty n)
 | _=>none
theorem RelV.abs{x:V}{u:Value}(r:RelV x u):absV u=some x:=by
 cases x with
 | non=>cases r;rfl
 | bl _=>cases r;rfl
 | int _=>obtain ⟨t,rfl⟩:=r;rfl
 | str _=>obtain ⟨t,rfl⟩:=r;rfl
 | byt _=>obtain ⟨t,rfl⟩:=r;rfl
 | flt _=>obtain ⟨t,rfl⟩:=r;rfl
 | ref _=>cases r;rfl
 | ty _=>cases r;rfl
theorem RelV.inj{x y:V}{u:Value}(r:RelV x u)(q:RelV y u):x=y:=Vav (r.abs.symm.trans q.abs)
theorem Vals.inj:∀{xs ys:List V} {us:List Value},Vals xs us→Vals ys us→xs=ys
 | _,_,_,.nil,.nil=>rfl
 | _,_,_,.cons r t,.cons r' t'=>by rw [r.inj r',Vals.inj t t']
section
variable{X:Cx}{pins:List (Addr×Obj)}{σ:St}{H:Hp}{s:Shared}{a:Addr}{xs ys:List V}
theorem SqL.of{K:W.Frag}(h:H a=some (.lst xs)):SqL K H a xs:=.inl (.inl h)
theorem SqT.of{K:W.Frag}(h:H a=some (.tup xs)):SqT K H a xs:=.inl (.inl h)
theorem Inv.list(I:Inv X pins σ H s)(h:SqL X.K H a xs):∃its:List Value,Vals xs its∧PlainL s.heap a its.toArray∧xs.length≤sizeLine:=by
 rcases h with h | ⟨o,its,n,hk,hc,hd,hs,hz,r⟩
 ·obtain ⟨z,its,n,r,e⟩:=h.ok I.hok
  exact ⟨its,r,⟨_,n,e,rfl,rfl,rfl⟩,z⟩
 ·refine ⟨its.toList,r,⟨o,n,I.kIn a o hk,hc,hd,by simpa using hs⟩,?_⟩
  have e:=r.length
  simp only [Vax] at e
  omega
theorem Inv.tuple(I:Inv X pins σ H s)(h:SqT X.K H a xs):∃its:List Value,Vals xs its∧IsTup s.heap a its.toArray∧xs.length≤sizeLine:=by
 rcases h with h | ⟨o,its,n,hk,hc,hs,hz,r⟩
 ·obtain ⟨z,its,r,p⟩:=h.ok I.hok
  exact ⟨its,r,p,z⟩
 ·refine ⟨its.toList,r,⟨o,I.kIn a o hk,hc,n,by simpa using hs⟩,?_⟩
  have e:=r.length
  simp only [Vax] at e
  omega
theorem Inv.list_inj(I:Inv X pins σ H s)(h:SqL X.K H a xs)(h':SqL X.K H a ys):xs=ys:=by
 obtain ⟨its,r,⟨o,n,e,_,_,d⟩,_⟩:=I.list h
 obtain ⟨its',r',⟨o',n',e',_,_,d'⟩,_⟩:=I.list h'
 rw [e] at e';cases e'
 rw [d] at d'
 injection d' with d1 _
 have:its=its':=by simpa using Vay Array.toList d1
 subst this
 exact r.inj r'
theorem Inv.tuple_inj(I:Inv X pins σ H s)(h:SqT X.K H a xs)(h':SqT X.K H a ys):xs=ys:=by
 obtain ⟨its,r,⟨o,e,_,n,d⟩,_⟩:=I.tuple h
 obtain ⟨its',r',⟨o',e',_,n',d'⟩,_⟩:=I.tuple h'
 rw [e] at e';cases e'
 rw [d] at d'
 injection d' with d1 _
 have:its=its':=by simpa using Vay Array.toList d1
 subst this
 exact r.inj r'
end
section
variable{X:Cx}{st:Stmt}{rest:List Stmt}{t u:TS}{e:Expr}{te:TE}{pos:Pos}
def Zom:TS:=fun D σ H=>D.nx σ H
def tSeq(t u:TS):TS:=fun D σ H=>t { D with nx:=u D } σ H
theorem Zmb:PSs X [] Zom:=fun _ _ σ H _ I h=>wpAny_execs_nil ⟨σ,H,I,h⟩
theorem Ze7(h1:PS X st t)(h2:PSs X rest u):PSs X (st::rest) (tSeq t u):=by
 intro pins s σ H D I h
 refine wpAny_execs_cons (thn (h1 pins s σ H { D with nx:=u D } I h) fun f s1 q=>?_)
 cases f with
 | next =>
  obtain ⟨σ',H',I',q⟩:=q
  exact h2 pins s1 σ' H' D I' q
 | ret v=>exact q
 | brk=>exact q
 | cont=>exact q
theorem Zpr(h1:PS X st t):PSs X [st] t:=by
 intro pins s σ H D I h
 refine wpAny_execs_cons (thn (h1 pins s σ H D I h) fun f s1 q=>?_)
 cases f with
 | next=>exact wpAny_execs_nil q
 | ret v=>exact q
 | brk=>exact q
 | cont=>exact q
def ZqU:TS:=fun D σ H=>D.ct σ H
theorem Zir:PS X (.Continue pos) ZqU:=fun _ _ σ H _ I h=>wpAny_Continue ⟨σ,H,I,h⟩
theorem Inv.quiet{pins:List (Addr×Obj)}{σ:St}{H:Hp}{s:Shared}(I:Inv X pins σ H s):interactive X.env=false:=by simp [interactive,I.ok.kind]
def ZfC(te:TE):TS:=fun D σ H=>te σ H fun _ H1=>D.nx σ H1
theorem Zfh(he:PE X e te)(hs:swapsWith e none pos.line X.env=pure false:=by rfl):PS X (.Expr e pos) (ZfC te):=by
 intro pins s σ H D I h
 exact wpAny_Expr_any (thn (he pins s σ H _ I h) fun v s1 ⟨x,H1,I1,r1,q1⟩=>⟨σ,H1,I1,q1⟩) I.quiet hs
def tRet(te:TE):TS:=fun D σ H=>te σ H D.rt
theorem ZtA(he:PE X e te):PS X (.Return (some e) pos) (tRet te):=by
 intro pins s σ H D I h
 exact wpAny_Return_some (thn (he pins s σ H _ I h) fun v s1 ⟨x,H1,I1,r1,q1⟩=>⟨x,σ,H1,I1,r1,q1⟩)
def tIfS(c:TT)(t u:TS):TS:=fun D σ H=>c σ H fun b H1=>if b=true then t D σ H1 else u D σ H1
theorem Zu6{c:Expr}{a b:List Stmt}{tc:TT}(hc:PT X c tc)(ha:PSs X a t)(hb:PSs X b u):PS X (.If c a b pos) (tIfS tc t u):=by
 intro pins s σ H D I h
 refine wpAny_If (thn (hc pins s σ H _ I h) fun d s1 ⟨H1,I1,q1⟩=>?_)
 cases d with
 | true=>exact ha pins s1 σ H1 D I1 q1
 | false=>exact hb pins s1 σ H1 D I1 q1
end
abbrev TG:=V→St→Hp→(St→Hp→Prop)→Prop
abbrev TGs:=List V→St→Hp→(St→Hp→Prop)→Prop
def PG(X:Cx)(target:Expr)(t:TG):Prop :=
 ∀(pins:List (Addr×Obj)) (s:Shared) (σ:St) (H:Hp) (v:V) (u:Value) (Q:St→Hp→Prop),Inv X pins σ H s→RelV v u→t v σ H Q →
  wpAny (model X.prog X.w) X.A (assign target X.env u) (fun _ s'=>∃σ' H',Inv X pins σ' H' s'∧Q σ' H') X.xe s
def PGs(X:Cx)(ts:List Expr)(t:TGs):Prop :=
 ∀(pins:List (Addr×Obj)) (s:Shared) (σ:St) (H:Hp) (vs:List V) (us:List Value) (Q:St→Hp→Prop),Inv X pins σ H s→Vals vs us→t vs σ H Q →
  wpAny (model X.prog X.w) X.A (assignInOrder ((assignEach ts X.env).map (·.2)) us) (fun _ s'=>∃σ' H',Inv X pins σ' H' s'∧Q σ' H') X.xe s
section
variable{X:Cx}{pos:Pos}
def ZfL(i:Nat):TG:=fun v σ H Q=>Q (σ.set i (some v)) H
theorem Zp7{i:Nat}{x:Str}(hN:X.N.Nodup)(hi:X.N[i]?=some x)(hx:Loc X.env.scope x)(hf:X.fn x=true∨X.env.scope.names.lookup x=some .local:=by first | exact .inl rfl | exact .inr rfl | assumption):PG X (.Name x pos) (ZfL i):=by
 intro pins s σ H v u Q I r h
 exact wpAny_assign_Name (Zd2 I hN hi hx r (fun s' I'=>⟨_,H,I',h⟩) hf)
def gNil:TGs:=fun vs σ H Q=>vs=[]∧Q σ H
def Zpd(t:TG)(u:TGs):TGs:=fun vs σ H Q=>∃v r,vs=v::r∧t v σ H fun σ' H'=>u r σ' H' Q
theorem Zpb:PGs X [] gNil:=by
 intro pins s σ H vs us Q I r h
 obtain ⟨e,h⟩:=h
 subst e
 cases r
 exact assignInOrder_nil ⟨σ,H,I,h⟩
theorem Zn0{e:Expr}{es:List Expr}{t:TG}{u:TGs}(h1:PG X e t)(h2:PGs X es u)
  (hs:(assignEach (e::es) X.env).map (·.2)=assign e X.env::(assignEach es X.env).map (·.2):=by rfl):PGs X (e::es) (Zpd t u):=by
 intro pins s σ H vs us Q I r h
 obtain ⟨v,vr,e1,h⟩:=h
 subst e1
 cases r with
 | cons r rr =>
  rw [hs]
  refine assignInOrder_cons (thn (h1 pins s σ H _ _ _ I r h) fun _ s1 ⟨σ1,H1,I1,q1⟩=>?_)
  exact h2 pins s1 σ1 H1 _ _ Q I1 rr q1
def gTup(K:W.Frag)(n:Nat)(t:TGs):TG:=fun v σ H Q=>∃a xs,v=.ref a∧SqT K H a xs∧xs.length=n∧t xs σ H Q
theorem ZsX{es:List Expr}{k:Nat}{t:TGs}{n:Nat}(hc:X.calm=true)(h:PGs X es t)
  (hn:(assignEach es X.env).length=n:=by rfl) (hst:(assignEach es X.env).findIdx? (·.1)=none:=by rfl):PG X (.Tuple es k pos) (gTup X.K n t):=by
 intro pins s σ H v u Q I r hw
 obtain ⟨a,xs,e1,hq,hl,hw⟩:=hw
 subst e1
 cases r
 obtain ⟨its,rv,ht,hz⟩:=I.tuple hq
 refine assign_Tuple_tuple (I.ok.hd hc) ht (by simp [hn,←hl,rv.length]) hst fun h' hx=>?_
 have I1:Inv X pins σ H { s with heap:=h' }:=I.kept (t':=s.toks) fun b o e=>hx b o (Vah (Vae e)) e
 exact h pins _ σ H xs _ Q I1 (by simpa using rv) hw
def tAsg(te:TE)(g:TG):TS:=fun D σ H=>te σ H fun x H1=>g x σ H1 D.nx
theorem ZrM{tg e:Expr}{te:TE}{g:TG}(he:PE X e te)(hg:PG X tg g)(hs:swapsWithSole [tg] e pos.line X.env=pure false:=by rfl)(hw:swappedStores [tg] e X.env=pure none:=by rfl)
  (h1:(assignEach [tg] X.env).map (·.2)=[assign tg X.env]:=by rfl):PS X (.Assign [tg] e pos) (tAsg te g):=by
 intro pins s σ H D I h
 refine wpAny_Assign_stores (thn (he pins s σ H _ I h) fun v s1 ⟨x,H1,I1,r1,q1⟩=>?_) hs hw
 rw [h1]
 exact thn (hg pins s1 σ H1 x v _ I1 r1 q1) fun _ s2 q=>q
theorem Zou{i:Nat}{x:Str}{e:Expr}{te:TE}{pos':Pos}(hN:X.N.Nodup)(hi:X.N[i]?=some x)(hx:Loc X.env.scope x)(he:PE X e te)(hs:swapsWith e (some (.Name x pos')) pos.line X.env=pure false:=by rfl)(hf:X.fn x=true∨X.env.scope.names.lookup x=some .local:=by first | exact .inl rfl | exact .inr rfl | assumption) :
  PS X (.Assign [.Name x pos'] e pos) (tAsg te (ZfL i)):=by
 intro pins s σ H D I h
 refine wpAny_Assign_Name (thn (he pins s σ H _ I h) fun v s1 ⟨y,H1,I1,r1,q1⟩=>?_) hs
 exact Zd2 I1 hN hi hx r1 (fun s2 I2=>⟨_,H1,I2,q1⟩) hf
def tPar(i j:Nat)(ta:TA):TS:=fun D σ H=>ta σ H fun vs H1=>∃v w,vs=[v,w]∧D.nx ((σ.set i (some v)).set j (some w)) H1
theorem ZtG{i j:Nat}{x y:Str}{a b:Expr}{ta:TA}{px py pt:Pos}{kt k2 pt2}(hc:X.calm=true)(hN:X.N.Nodup)(hi:X.N[i]?=some x)(hj:X.N[j]?=some y)(hij:i≠j)
  (hx:X.env.scope.names.lookup x=some .local) (hy:X.env.scope.names.lookup y=some .local) (ha:PA X [a,b] ta)
  (hw:swappedStores [.Tuple [.Name x px,.Name y py] kt pt] (.Tuple [a,b] k2 pt2) X.env=pure (some [x,y]))
  (hs:swapsWithSole [.Tuple [.Name x px,.Name y py] kt pt] (.Tuple [a,b] k2 pt2) pos.line X.env=pure false:=by rfl) :
  PS X (.Assign [.Tuple [.Name x px,.Name y py] kt pt] (.Tuple [a,b] k2 pt2) pos) (tPar i j ta):=by
 intro pins s σ H D I h
 rw [exec_Assign_arm]
 refine Vaz (wpAny_standAt ?_)
 rw [hs]
 refine Vaz (VaA ?_)
 rw [if_neg (by decide)]
 refine Vaz (Tuple_ (thn (ha _ pins s σ H _ I h) fun us s1 ⟨vs,H1,I1,r1,q1⟩=>?_))
 obtain ⟨v,w,e1,q1⟩:=q1
 subst e1
 obtain ⟨u1,u2,rfl,rv,rw'⟩ : ∃u1 u2,us=[u1,u2]∧RelV v u1∧RelV w u2:=by
  cases r1 with
  | cons p q =>
   cases q with
   | cons p' q' =>
    cases q'
    exact ⟨_,_,rfl,p,p'⟩
 refine VaB ?_ (by show 2≤sizeLine;decide)
 have I2:Inv X pins σ H1 { s1 with heap:=s1.heap.push { cls:=.type "tuple", data:=.seq [u1,u2].toArray } }:=I1.kept (t':=s1.toks) fun b o e=>VaC _ e
 rw [hw]
 refine Vaz (VaA ?_)
 show wpAny (model X.prog X.w) X.A (do rule "assign.swapped-stores"; let items ←unpackItems (.ref s1.heap.objs.size) 2 none;assignInOrder [fun v=>bindName X.env y v,fun v=>bindName X.env x v] items.reverse;pure Flow.next) _ _ _
 refine Vaz (VaD (Vaz (unpackItems_tuple (items:=#[u1,u2]) (I.ok.hd hc) (IsTup.new s1.heap _) fun h' hx'=>?_)))
 have I3:=I2.kept (h':=h') (t':=s1.toks) fun b o e=>hx' b o (Vah (Vae e)) e
 show wpAny _ _ (assignInOrder [fun v=>bindName X.env y v,fun v=>bindName X.env x v] [u2,u1] >>= fun _=>pure Flow.next) _ _ _
 refine Vaz (assignInOrder_cons (wpAny_bindName (Zd2 I3 hN hj (.inl hy) rw' (fun s2 I4=>?_) (.inr hy))))
 refine assignInOrder_cons (wpAny_bindName (Zd2 I4 hN hi (.inl hx) rv (fun s3 I5=>assignInOrder_nil (VaA ?_)) (.inr hx)))
 rw [List.set_comm _ _ (Ne.symm hij)] at I5
 exact ⟨_,H1,I5,q1⟩
end
section
variable{X:Cx}{pos:Pos}
def ZjG(c:TT)(tb:TS):TS:=fun D σ H=>∃W:Nat→St→Hp→Prop,(∃m,W m σ H)∧∀m σ H,W m σ H →
 c σ H fun b H1=>if b=true then ∃N:St→Hp→Prop,(∀σ' H',N σ' H'→∃m',m'<m∧W m' σ' H')∧tb { D with nx:=N,ct:=N,bk:=D.nx } σ H1 else D.nx σ H1
theorem ZnO{c:Expr}{body:List Stmt}{tc:TT}{tb:TS}(hp:PassesOwn (model X.prog X.w) X.A X.env X.xe)(hc:PT X c tc)(hb:PSs X body tb):PS X (.While c body [] pos) (ZjG tc tb):=by
 intro pins s σ H D I h
 obtain ⟨W,⟨m0,w0⟩,turn⟩:=h
 refine wpAny_While (codeAny_whileLoop (fun n s'=>∃σ' H',Inv X pins σ' H' s'∧W n σ' H') ?_ m0 ⟨σ,H,I,w0⟩)
 rintro n s1 ⟨σ1,H1,I1,w1⟩
 refine VaE hp (thn (hc pins s1 σ1 H1 _ I1 (turn n σ1 H1 w1)) fun b s2 ⟨H2,I2,q2⟩=>?_)
 cases b with
 | true =>
  obtain ⟨N,hN,q2⟩:=q2
  rw [if_pos rfl]
  refine VaE hp (thn (hb pins s2 σ1 H2 _ I2 q2) fun f s3 q3=>?_)
  cases f with
  | next =>
   obtain ⟨σ3,H3,I3,n3⟩:=q3
   obtain ⟨m',hm,w3⟩:=hN σ3 H3 n3
   exact ⟨m',hm,σ3,H3,I3,w3⟩
  | cont =>
   obtain ⟨σ3,H3,I3,n3⟩:=q3
   obtain ⟨m',hm,w3⟩:=hN σ3 H3 n3
   exact ⟨m',hm,σ3,H3,I3,w3⟩
  | brk=>exact q3
  | ret v=>exact q3
 | false =>
  rw [if_neg VaF]
  exact wpAny_execs_nil ⟨σ1,H2,I2,q2⟩
end
structure It where
 go:Nat→Hp→Prop
 yld:Nat→Hp→V→Hp→Prop
 stop:Nat→Hp→Prop
def FpOk(X:Cx)(pins:List (Addr×Obj))(H:Hp)(b:Addr):Prop :=
 H b=none∧b≠X.env.locals∧b∉X.fs∧(b∈X.ex∨X.s₀.heap.objs.size≤b)∧(∀x c,X.env.cells.lookup x=some c→c≠b)∧∀p∈X.pn++pins,p.1≠b
theorem Inv.fpOk{X:Cx}{pins:List (Addr×Obj)}{σ:St}{H H':Hp}{s:Shared}{b:Addr}(I:Inv X pins σ H s)(hb:s.heap.objs.size≤b)(hn:H' b=none):FpOk X pins H' b:=by
 refine ⟨hn,VaG (Vaf I.lt hb),I.nofs hb,.inr (Vak I.sz hb),fun x c e z=>?_,fun p hp z=>?_⟩
 ·obtain ⟨v,q⟩:=I.cell x c e
  exact absurd (Vaf q.lt (by rw [z];exact hb)) (Vag _)
 ·exact absurd (Vaf (Vae (I.pin p hp).1) (by rw [z];exact hb)) (Vag _)
structure Turn(P:Program)(w:World)(K:W.Frag)(tg:Expr)(J:It)(fp:List Addr)(it:Addr)(tn:Nat→Heap→Prop):Prop where
 mem:it∈fp
 obj:∀i h,tn i h→∀b∈fp,∃o,h.get? b=some o∧∀v,o.data≠.cell v
 keep:∀i h h',tn i h→(∀b∈fp,∀o,h.get? b=some o→h'.get? b=some o)→tn i h'
 item:∀(X:Cx),X.prog=P→X.w=w→X.K=K→X.calm=true→∀(i:Nat) (pins:List (Addr×Obj)) (s:Shared) (σ:St) (H:Hp) (E:Value→Shared→Prop),Inv X pins σ H s→(∀b∈fp,FpOk X pins H b)→tn i s.heap→J.go i H →
  wpAny (model P w) X.A (pyNext (.ref it)) (fun r s1=>∃u,r=some u ∧
   wpAny (model P w) X.A (letOwnedTupleGo tg (.ref it) u) (fun _ s2=>∃x H',Inv X pins σ H' s2∧RelV x u∧J.yld i H x H'∧tn (i+1) s2.heap∧∀b∈fp,H' b=none) E s1) E s
 done:∀(X:Cx),X.prog=P→X.w=w→X.K=K→X.calm=true→∀(i:Nat) (pins:List (Addr×Obj)) (s:Shared) (σ:St) (H:Hp) (E:Value→Shared→Prop),Inv X pins σ H s→(∀b∈fp,FpOk X pins H b)→tn i s.heap→J.stop i H →
  wpAny (model P w) X.A (pyNext (.ref it)) (fun r s1=>r=none∧Inv X pins σ H s1) E s
 self:∀(A:Around) (i:Nat) (s:Shared) (Q:Value→Shared→Prop) (E:Value→Shared→Prop),tn i s.heap→Q (.ref it) s→wpAny (model P w) A (pyIter (.ref it)) Q E s
abbrev TI:=St→Hp→(It→Hp→Prop)→Prop
def PIE(X:Cx)(pins:List (Addr×Obj))(σ:St)(tg:Expr)(R:It→Hp→Prop)(itv:Value)(s2:Shared):Prop :=
 ∃(it:Addr) (fp:List Addr) (tn:Nat→Heap→Prop) (J:It) (H':Hp),itv=.ref it∧Inv X pins σ H' s2∧Turn X.prog X.w X.K tg J fp it tn∧tn 0 s2.heap∧(∀b∈fp,FpOk X pins H' b)∧R J H'
def PI(X:Cx)(tg iter:Expr)(wi:TI):Prop :=
 ∀(pins:List (Addr×Obj)) (s:Shared) (σ:St) (H:Hp) (R:It→Hp→Prop),Inv X pins σ H s→wi σ H R →
  wpAny (model X.prog X.w) X.A (eval iter X.env) (fun v s1=>wpAny (model X.prog X.w) X.A (pyIter v) (PIE X pins σ tg R) X.xe s1) X.xe s
theorem ZpA{M:Model}{A:Around}{E:Value→Shared→Prop}{s:Shared}{tg:Expr}{it:Addr}{u:Value}{o:Obj}{n:String}{vs:Array Value}{Q:Unit→Shared→Prop}(ho:s.heap.get? it=some o)(hc:o.cls=.type n)(hd:o.data=.fields vs)
  (hn:["enumerate", "zip", "dict_itemiterator", "dict_reverseitemiterator", "odict_iterator", "itertools.zip_longest", "itertools.pairwise"].contains n=false) (hQ:Q () s):wpAny M A (letOwnedTupleGo tg (.ref it) u) Q E s:=by
 unfold letOwnedTupleGo
 cases tg<;>first
  | exact VaA hQ
  | (cases u<;>first
    | exact VaA hQ
    | (refine Vaz (wpAny_load ho ?_)
       rw [hc,hd]
       show wpAny M A (if (["enumerate", "zip", "dict_itemiterator", "dict_reverseitemiterator", "odict_iterator", "itertools.zip_longest", "itertools.pairwise"].contains n&&vs[0]?==some (rawInt _))=true then _ else _) Q E s
       rw [if_neg (by intro h;rw [hn,Bool.false_and] at h;cases h)]
       exact VaA hQ))
def Itl(K:W.Frag)(a:Addr):It :=
 ⟨fun i H=>∃xs x,SqL K H a xs∧xs[i]?=some x,fun i H x H'=>H'=H∧∀xs,SqL K H a xs→xs[i]?=some x,fun i H=>∃xs,SqL K H a xs∧xs.length≤i⟩
def Itt(K:W.Frag)(a:Addr):It :=
 ⟨fun i H=>∃xs x,SqT K H a xs∧xs[i]?=some x,fun i H x H'=>H'=H∧∀xs,SqT K H a xs→xs[i]?=some x,fun i H=>∃xs,SqT K H a xs∧xs.length≤i⟩
def Itr(lo:Int)(n:Nat):It:=⟨fun i _=>i<n,fun i H x H'=>H'=H∧x=.int (lo+i),fun i _=>n≤i⟩
theorem Zme{P:Program}{w:World}{K:W.Frag}{tg:Expr}(a it:Addr):Turn P w K tg (Itl K a) [it] it (fun i h=>h.IsListIter it a i) where
 mem:=by simp
 obj:=fun i h st b hb=>by
  have e:b=it:=by simpa using hb
  subst e
  obtain ⟨o,e,c,d⟩:=st
  exact ⟨o,e,fun v z=>by rw [d] at z;cases z⟩
 keep:=fun i h h' st k=>st.at fun o e=>k it (by simp) o e
 item:=by
  intro X hP hw hK hc i pins s σ H E I hf st hg
  subst hP hw hK
  obtain ⟨xs,x,hq,hx⟩:=hg
  obtain ⟨its,rv,p,hz⟩:=I.list hq
  obtain ⟨u,hu,ru⟩:=rv.get hx
  obtain ⟨f0,f1,f2,f3,f4,f5⟩:=hf it (by simp)
  refine wpAny_pyNext_list_item st p.isList (x:=u) (by simpa using hu) fun h' st' sb=>?_
  have I1:Inv X pins σ H { s with heap:=h' }:=I.turned (t':=s.toks) (fun b o hb e=>(sb.2 b hb).trans e) f0 f1 f3 f4 f5
  obtain ⟨o,e,c,d⟩:=id st'
  exact ⟨u,rfl,ZpA (s:={ s with heap:=h' }) e c d (by decide) ⟨x,H,I1,ru,⟨rfl,fun ys hy=>by rw [I.list_inj hy hq];exact hx⟩,st',fun b hb=>(hf b hb).1⟩⟩
 done:=by
  intro X hP hw hK hc i pins s σ H E I hf st hg
  subst hP hw hK
  obtain ⟨xs,hq,hx⟩:=hg
  obtain ⟨its,rv,p,hz⟩:=I.list hq
  obtain ⟨f0,f1,f2,f3,f4,f5⟩:=hf it (by simp)
  have hl:=rv.length
  exact wpAny_pyNext_list_end (I.ok.hd hc) st p.isList (by simp;omega) fun h' eb=>⟨rfl,I.turned (t':=s.toks) (fun b o hb e=>eb b o hb e) f0 f1 f3 f4 f5⟩
 self:=fun _ _ _ _ _ st h=>wpAny_pyIter_listiter st h
theorem ZkA{P:Program}{w:World}{K:W.Frag}{tg:Expr}(a it:Addr):Turn P w K tg (Itt K a) [it] it (fun i h=>h.IsTupleIter it a i) where
 mem:=by simp
 obj:=fun i h st b hb=>by
  have e:b=it:=by simpa using hb
  subst e
  obtain ⟨o,e,c,d⟩:=st
  exact ⟨o,e,fun v z=>by rw [d] at z;cases z⟩
 keep:=fun i h h' st k=>st.at fun o e=>k it (by simp) o e
 item:=by
  intro X hP hw hK hc i pins s σ H E I hf st hg
  subst hP hw hK
  obtain ⟨xs,x,hq,hx⟩:=hg
  obtain ⟨its,rv,p,hz⟩:=I.tuple hq
  obtain ⟨u,hu,ru⟩:=rv.get hx
  obtain ⟨f0,f1,f2,f3,f4,f5⟩:=hf it (by simp)
  refine wpAny_pyNext_tuple_item st (show s.heap.IsTuple a its.toArray from p) (x:=u) (by simpa using hu) fun h' st' sb=>?_
  have I1:Inv X pins σ H { s with heap:=h' }:=I.turned (t':=s.toks) (fun b o hb e=>(sb.2 b hb).trans e) f0 f1 f3 f4 f5
  obtain ⟨o,e,c,d⟩:=id st'
  exact ⟨u,rfl,ZpA (s:={ s with heap:=h' }) e c d (by decide) ⟨x,H,I1,ru,⟨rfl,fun ys hy=>by rw [I.tuple_inj hy hq];exact hx⟩,st',fun b hb=>(hf b hb).1⟩⟩
 done:=by
  intro X hP hw hK hc i pins s σ H E I hf st hg
  subst hP hw hK
  obtain ⟨xs,hq,hx⟩:=hg
  obtain ⟨its,rv,p,hz⟩:=I.tuple hq
  obtain ⟨f0,f1,f2,f3,f4,f5⟩:=hf it (by simp)
  have hl:=rv.length
  exact wpAny_pyNext_tuple_end (I.ok.hd hc) st (show s.heap.IsTuple a its.toArray from p) (by simp;omega) fun h' eb=>⟨rfl,I.turned (t':=s.toks) (fun b o hb e=>eb b o hb e) f0 f1 f3 f4 f5⟩
 self:=fun _ _ _ _ _ st h=>wpAny_pyIter_tupleiter st h
theorem Zj8{P:Program}{w:World}{K:W.Frag}{tg:Expr}(it:Addr)(lo:Int)(n:Nat):Turn P w K tg (Itr lo n) [it] it (fun i h=>IsRangeIter h it (lo+(i:Nat)*1) ((n:Int) - (i:Nat)) 1) where
 mem:=by simp
 obj:=fun i h st b hb=>by
  have e:b=it:=by simpa using hb
  subst e
  exact ⟨_,st,fun v z=>by
   have z':Data.fields _=Data.cell v:=z
   cases z'⟩
 keep:=fun i h h' st k=>k it (by simp) _ st
 item:=by
  intro X hP hw hK hc i pins s σ H E I hf st hg
  subst hP hw hK
  obtain ⟨f0,f1,f2,f3,f4,f5⟩:=hf it (by simp)
  have W:=Walks.range (prog:=X.prog) (w:=X.w) (I.ok.hd hc) it lo 1 n
  refine W.item i s _ _ hg st fun v h' tk hv st' kk=>?_
  obtain ⟨t,rfl⟩:=hv
  have I1:Inv X pins σ H { s with heap:=h',toks:=tk }:=I.turned (fun b o hb e=>kk b o (by simpa using hb) e) f0 f1 f3 f4 f5
  refine ⟨_,rfl,ZpA (s:={ s with heap:=h',toks:=tk }) (n := "range_iterator") st' rfl rfl (by decide) ⟨.int (lo+i),H,I1,⟨t,?_⟩,⟨rfl,rfl⟩,st',fun b hb=>(hf b hb).1⟩⟩
  rw [Int.mul_one]
 done:=by
  intro X hP hw hK hc i pins s σ H E I hf st hg
  subst hP hw hK
  obtain ⟨f0,f1,f2,f3,f4,f5⟩:=hf it (by simp)
  exact wpAny_pyNext_range_end (I.ok.hd hc) st (by have:n≤i:=hg;omega) fun h' eb=>⟨rfl,I.turned (t':=s.toks) (fun b o hb e=>eb b o hb e) f0 f1 f3 f4 f5⟩
 self:=fun _ _ _ _ _ st h=>wpAny_pyIter_rangeiter st h
section
variable{X:Cx}{tg:Expr}
theorem Znd{pins:List (Addr×Obj)}{σ:St}{H:Hp}{s:Shared}{R:It→Hp→Prop}{E:Value→Shared→Prop}{lo hi:Int}{t u v:Tok}{tk:Nat}(I:Inv X pins σ H s)(h1:-(2^62)≤lo)(h2:lo<2^62)(h3:-(2^62)≤hi)(h4:hi<2^62)
  (q:R (Itr lo (hi - lo).toNat) H):wpAny (model X.prog X.w) X.A (pyIter (.ref s.heap.objs.size)) (PIE X pins σ tg R) E { s with heap:=s.heap.push { cls:=.type "range", data:=.fields #[.int lo t,.int hi u,.int 1 v] },toks:=tk }:=by
 refine wpAny_pyIter_range (IsRange.new ..) (small_one h1 h2 h3 h4) ?_
 have I1:Inv X pins σ H { s with heap:=s.heap.push { cls:=.type "range", data:=.fields #[.int lo t,.int hi u,.int 1 v] },toks:=tk }:=I.kept fun b o e=>VaC _ e
 refine ⟨(s.heap.push { cls:=.type "range", data:=.fields #[.int lo t,.int hi u,.int 1 v] }).objs.size,[(s.heap.push { cls:=.type "range", data:=.fields #[.int lo t,.int hi u,.int 1 v] }).objs.size],_,_,H,rfl,
  I1.kept (t':=tk) fun b o e=>VaC _ e,Zj8 _ lo (hi - lo).toNat,?_,fun b hb=>?_,q⟩
 ·have e1:lo+((0:Nat):Int)*1=lo:=by simp
  have e2:(((hi - lo).toNat:Nat):Int) - ((0:Nat):Int)=Builtin.Range.rangeSize lo hi 1:=by rw [rangeSize_one];split<;>omega
  show IsRangeIter _ _ (lo+((0:Nat):Int)*1) ((((hi - lo).toNat:Nat):Int) - ((0:Nat):Int)) 1
  rw [e1,e2]
  exact VaH _ rfl
 ·have e:b=(s.heap.push { cls:=.type "range", data:=.fields #[.int lo t,.int hi u,.int 1 v] }).objs.size:=by simpa using hb
  subst e
  exact I1.fpOk (VaI _) (I1.hok.fresh (VaI _))
def Zpk(ta:TA):TI:=fun σ H R=>ta σ H fun vs H1=>∃j:Int,vs=[.int j]∧-(2^62)≤j∧j<2^62∧R (Itr 0 j.toNat) H1
theorem Zmy{a:Expr}{ta:TA}{p pos:Pos}(hg:Gl X "range")(hm:X.mg "range"=none)(ha:PA X [a] ta)(hs:starEach [a] X.env=[(false,eval a X.env)]:=by rfl):PI X tg (.Call (.Name "range" p) [a] [] pos) (Zpk ta):=by
 intro pins s σ H R I h
 refine Call_ (Zfr I hg hm boot_range (VaJ (thn (ha pos pins s σ H _ I h) fun us s1 ⟨vs,H1,I1,r1,q1⟩=>?_) hs rfl))
 obtain ⟨j,e,q1,q2,q⟩:=q1
 subst e
 cases r1 with
 | cons r rr =>
  cases rr
  obtain ⟨t,rfl⟩:=r
  exact call_range_1 (Znd I1 (by omega) (by omega) q1 q2 (by simpa using q))
def tFor(wi:TI)(g:TG)(tb:TS):TS:=fun D σ H=>wi σ H fun J H1=>∃W:Nat→Nat→St→Hp→Prop,(∃m,W 0 m σ H1)∧∀i m σ H,W i m σ H →
 (J.stop i H∧D.nx σ H)∨(J.go i H∧∃N:St→Hp→Prop,(∀σ' H',N σ' H'→∃m',m'<m∧W (i+1) m' σ' H')∧∀x H',J.yld i H x H'→g x σ H' fun σ2 H2=>tb { D with nx:=N,ct:=N,bk:=D.nx } σ2 H2)
def ZjX(fp:List Addr)(h:Heap):List (Addr×Obj):=fp.filterMap fun b=>(h.get? b).map fun o=>(b,o)
theorem ZbT{fp:List Addr}{h:Heap}{b:Addr}{o:Obj}(hb:b∈fp)(e:h.get? b=some o):(b,o)∈ZjX fp h:=VaK.mpr ⟨b,hb,by rw [e];rfl⟩
theorem Zl9{fp:List Addr}{h:Heap}{p:Addr×Obj}(hp:p∈ZjX fp h):p.1∈fp∧h.get? p.1=some p.2:=by
 obtain ⟨b,hb,e⟩:=VaK.mp hp
 cases q:h.get? b with
 | none=>rw [q] at e;cases e
 | some o =>
  rw [q] at e
  have e':(b,o)=p:=Vav e
  subst e'
  exact ⟨hb,q⟩
theorem Inv.pinned{pins:List (Addr×Obj)}{σ:St}{H:Hp}{s:Shared}{fp:List Addr}(I:Inv X pins σ H s)(hf:∀b∈fp,FpOk X pins H b)(ho:∀b∈fp,∃o,s.heap.get? b=some o∧∀v,o.data≠.cell v):Inv X (pins++ZjX fp s.heap) σ H s :=
 I.pins_of fun p hp=>(Vas.mp hp).elim (fun z=>I.pin p (VaL _ z)) fun z=>by
  obtain ⟨hb,e⟩:=Zl9 z
  obtain ⟨f0,f1,f2,_⟩:=hf p.1 hb
  obtain ⟨o,e',d⟩:=ho p.1 hb
  rw [e] at e';cases e'
  exact ⟨e,f0,f1,f2,d⟩
theorem Inv.unpinned{pins pl:List (Addr×Obj)}{σ:St}{H:Hp}{s:Shared}(I:Inv X (pins++pl) σ H s):Inv X pins σ H s:=I.pins_of fun p hp=>I.pin p (VaL _ (Vat _ hp))
theorem Ztf{iter:Expr}{body:List Stmt}{wi:TI}{g:TG}{tb:TS}{pos:Pos}(hp:PassesOwn (model X.prog X.w) X.A X.env X.xe)(hc:X.calm=true)(hi:PI X tg iter wi)(hg:PG X tg g)(hb:PSs X body tb)
  (hs:∀x,foldedSetIterable iter X.env x=pure x:=by intro _;rfl):PS X (.For tg iter body [] pos) (tFor wi g tb):=by
 intro pins s σ H D I h
 refine wpAny_For (thn (hi pins s σ H _ I h) fun v s1 h1=>thn h1 fun itv s2 h2=>?_) hs
 obtain ⟨it,fp,tn,J,H2,e,I2,T,st2,f2,W,⟨m0,w0⟩,turn⟩:=h2
 subst e
 have stat:∀{H':Hp},(∀b∈fp,H' b=none)→∀b∈fp,FpOk X pins H' b:=fun hn b hb=>⟨hn b hb,(f2 b hb).2⟩
 refine codeAny_forLoop_any (fun n s'=>∃i σ' H',Inv X pins σ' H' s'∧tn i s'.heap∧(∀b∈fp,H' b=none)∧W i n σ' H') ?_ m0 ⟨0,σ,H2,I2,st2,fun b hb=>(f2 b hb).1,w0⟩
 rintro n s3 ⟨i,σ3,H3,I3,st3,fr3,w3⟩
 rcases turn i n σ3 H3 w3 with ⟨stop,qn⟩ | ⟨go,N,hN,step⟩
 ·refine VaE hp (thn (T.done X rfl rfl rfl hc i pins s3 σ3 H3 X.xe I3 (stat fr3) st3 stop) fun r s4 ⟨hr,I4⟩=>?_)
  subst hr
  exact wpAny_execs_nil ⟨σ3,H3,I4,qn⟩
 ·refine VaE hp (thn (T.item X rfl rfl rfl hc i pins s3 σ3 H3 X.xe I3 (stat fr3) st3 go) fun r s4 ⟨u,hr,h4⟩=>?_)
  subst hr
  refine VaE hp (thn h4 fun _ s5 ⟨x,H5,I5,r5,y5,st5,fr5⟩=>?_)
  have I5':=I5.pinned (stat fr5) (T.obj _ _ st5)
  refine VaE hp (thn (hg _ s5 σ3 H5 x u _ I5' r5 (step x H5 y5)) fun _ s6 ⟨σ6,H6,I6,q6⟩=>?_)
  refine VaE hp (thn (hb _ s6 σ6 H6 _ I6 q6) fun f s7 q7=>?_)
  have again:∀{σ7:St} {H7:Hp},Inv X (pins++ZjX fp s5.heap) σ7 H7 s7→N σ7 H7→∃m,m<n∧∃i σ' H',Inv X pins σ' H' s7∧tn i s7.heap∧(∀b∈fp,H' b=none)∧W i m σ' H':=fun {σ7 H7} I7 n7=>by
   obtain ⟨m',hm,w7⟩:=hN σ7 H7 n7
   refine ⟨m',hm,i+1,σ7,H7,I7.unpinned,T.keep _ _ _ st5 fun b hb o e=>(I7.pin (b,o) (VaL _ (VaL _ (ZbT hb e)))).1,fun b hb=>?_,w7⟩
   obtain ⟨o,e,d⟩:=T.obj _ _ st5 b hb
   exact (I7.pin (b,o) (VaL _ (VaL _ (ZbT hb e)))).2.1
  cases f with
  | next=>obtain ⟨σ7,H7,I7,n7⟩:=q7;exact again I7 n7
  | cont=>obtain ⟨σ7,H7,I7,n7⟩:=q7;exact again I7 n7
  | brk=>obtain ⟨σ7,H7,I7,q7⟩:=q7;exact ⟨σ7,H7,I7.unpinned,q7⟩
  | ret v=>obtain ⟨x7,σ7,H7,I7,r7,q7⟩:=q7;exact ⟨x7,σ7,H7,I7.unpinned,r7,q7⟩
end
abbrev R2:=V→V→Hp→VK→Prop
def OpR(X:Cx)(f:Value→Value→Sem Value)(r:R2):Prop :=
 ∀(pins:List (Addr×Obj)) (s:Shared) (σ:St) (H:Hp) (x y:V) (v u:Value) (Q:VK),Inv X pins σ H s→RelV x v→RelV y u→r x y H Q →
  wpAny (model X.prog X.w) X.A (f v u) (EP X pins σ Q) X.xe s
def UnR(X:Cx)(f:Value→Sem Value)(r:V→Hp→VK→Prop):Prop :=
 ∀(pins:List (Addr×Obj)) (s:Shared) (σ:St) (H:Hp) (x:V) (v:Value) (Q:VK),Inv X pins σ H s→RelV x v→r x H Q →
  wpAny (model X.prog X.w) X.A (f v) (EP X pins σ Q) X.xe s
def Zex(X:Cx)(f:Value)(r:List V→Hp→VK→Prop):Prop :=
 ∀(pins:List (Addr×Obj)) (s:Shared) (σ:St) (H:Hp) (xs:List V) (us:List Value) (Q:VK),Inv X pins σ H s→Vals xs us→r xs H Q →
  wpAny (model X.prog X.w) X.A (call f us) (EP X pins σ Q) X.xe s
def tOp(r:R2)(ta tb:TE):TE:=fun σ H Q=>ta σ H fun x H1=>tb σ H1 fun y H2=>r x y H2 Q
def tUn(r:V→Hp→VK→Prop)(ta:TE):TE:=fun σ H Q=>ta σ H fun x H1=>r x H1 Q
def rI(C:Int→Int→Prop)(g:Int→Int→V):R2:=fun x y H Q=>∃i j,x=.int i∧y=.int j∧C i j∧Q (g i j) H
def rI0(g:Int→Int→V):R2:=fun x y H Q=>∃i j,x=.int i∧y=.int j∧Q (g i j) H
def rU(g:Int→V):V→Hp→VK→Prop:=fun x H Q=>∃i,x=.int i∧Q (g i) H
section
variable{X:Cx}{a b c:Expr}{ta tb tc:TE}{pos:Pos}
theorem binT(ha:PE X a ta)(hb:PE X b tb){pins:List (Addr×Obj)}{s:Shared}{σ:St}{H:Hp}{R:V→V→Hp→Prop}(I:Inv X pins σ H s)
  (h:ta σ H fun x H1=>tb σ H1 fun y H2=>R x y H2) {Q:Value→Shared→Prop} {f:Value→Value→Sem Value}
  (hf:∀v u s2 x y H2,Inv X pins σ H2 s2→RelV x v→RelV y u→R x y H2→wpAny (model X.prog X.w) X.A (f v u) Q X.xe s2) :
  wpAny (model X.prog X.w) X.A (eval a X.env) (fun v s₁=>wpAny (model X.prog X.w) X.A (eval b X.env) (fun u s₂=>wpAny (model X.prog X.w) X.A (f v u) Q X.xe s₂) X.xe s₁) X.xe s:=by
 refine thn (ha pins s σ H _ I h) fun v s1 ⟨x,H1,I1,r1,q1⟩=>?_
 refine thn (hb pins s1 σ H1 _ I1 q1) fun u s2 ⟨y,H2,I2,r2,q2⟩=>?_
 exact hf v u s2 x y H2 I2 r1 r2 q2
theorem Zu7{op:Operator}{r:R2}(ho:OpR X (binaryOp op) r)(ha:PE X a ta)(hb:PE X b tb):PE X (.BinOp a op b pos) (tOp r ta tb):=by
 intro pins s σ H Q I h
 exact wpAny_BinOp (binT ha hb I h fun v u s2 x y H2 I2 rx ry q=>ho pins s2 σ H2 x y v u Q I2 rx ry q)
theorem Zvk{op:UnaryOp}{r:V→Hp→VK→Prop}(ho:UnR X (unaryOp op) r)(ha:PE X a ta):PE X (.UnaryOp op a pos) (tUn r ta):=by
 intro pins s σ H Q I h
 exact UnaryOp_ (thn (ha pins s σ H _ I h) fun v s1 ⟨x,H1,I1,r1,q1⟩=>ho pins s1 σ H1 x v Q I1 r1 q1)
theorem opI{f:Value→Value→Sem Value}{C:Int→Int→Prop}{g:Int→Int→Int}
  (rule:∀(i j:Int) (t u:Tok) (s:Shared) (Q:Value→Shared→Prop) (E:Value→Shared→Prop),C i j→Q (.int (g i j) s.toks) { s with toks:=s.toks+1 }→wpAny (model X.prog X.w) X.A (f (.int i t) (.int j u)) Q E s) :
  OpR X f (rI C fun i j=>.int (g i j)):=by
 intro pins s σ H x y v u Q I rx ry h
 obtain ⟨i,j,rfl,rfl,hc,q⟩:=h
 obtain ⟨t,rfl⟩:=rx
 obtain ⟨t',rfl⟩:=ry
 exact rule i j t t' s _ _ hc ⟨.int (g i j),H,I.tok _,⟨_,rfl⟩,q⟩
theorem opI0{f:Value→Value→Sem Value}{g:Int→Int→Int}
  (rule:∀(i j:Int) (t u:Tok) (s:Shared) (Q:Value→Shared→Prop) (E:Value→Shared→Prop),Q (.int (g i j) s.toks) { s with toks:=s.toks+1 }→wpAny (model X.prog X.w) X.A (f (.int i t) (.int j u)) Q E s) :
  OpR X f (rI0 fun i j=>.int (g i j)):=by
 intro pins s σ H x y v u Q I rx ry h
 obtain ⟨i,j,rfl,rfl,q⟩:=h
 obtain ⟨t,rfl⟩:=rx
 obtain ⟨t',rfl⟩:=ry
 exact rule i j t t' s _ _ ⟨.int (g i j),H,I.tok _,⟨_,rfl⟩,q⟩
theorem opB0{f:Value→Value→Sem Value}{g:Int→Int→Bool}
  (rule:∀(i j:Int) (t u:Tok) (s:Shared) (Q:Value→Shared→Prop) (E:Value→Shared→Prop),Q (.bool (g i j)) s→wpAny (model X.prog X.w) X.A (f (.int i t) (.int j u)) Q E s) :
  OpR X f (rI0 fun i j=>.bl (g i j)):=by
 intro pins s σ H x y v u Q I rx ry h
 obtain ⟨i,j,rfl,rfl,q⟩:=h
 obtain ⟨t,rfl⟩:=rx
 obtain ⟨t',rfl⟩:=ry
 exact rule i j t t' s _ _ ⟨.bl (g i j),H,I,rfl,q⟩
def CPow(i j:Int):Prop:=0≤j∧j≤1000000∧i.natAbs<2^64
theorem Zki(k:Nat):(0:Int)≤2^k:=by
 rw [two_pow_cast]
 exact VaM _
theorem ZsV:OpR X (binaryOp .Add) (rI0 fun i j=>.int (i+j)):=opI0 fun _ _ _ _ _ _ _ q=>add_int q
theorem ZtX:OpR X (binaryOp .Sub) (rI0 fun i j=>.int (i - j)):=opI0 fun _ _ _ _ _ _ _ q=>sub_int q
theorem ZpK:OpR X (binaryOp .Mod) (rI (fun _ j=>j≠0) fun i j=>.int (i.fmod j)):=opI fun _ _ _ _ _ _ _ hc q=>mod_int' hc q
theorem Zs7:OpR X (binaryOp .Pow) (rI CPow fun i j=>.int (i^j.toNat)):=opI fun _ _ _ _ _ _ _ hc q=>pow_int_small hc.1 hc.2.1 hc.2.2 q
theorem Zst:OpR X (binaryOp .LShift) (rI CPow fun i j=>.int (i*2^j.toNat)):=opI fun _ _ _ _ _ _ _ hc q=>lshift_int_small hc.1 hc.2.1 hc.2.2 q
theorem ZtY:OpR X (binaryOp .RShift) (rI (fun _ j=>0≤j) fun i j=>.int (i/2^j.toNat)):=opI fun i j _ _ _ _ _ hc q =>
 rshift_int hc (by rw [VaN i (Zki _)];exact q)
theorem unI{f:Value→Sem Value}{g:Int→Int}
  (rule:∀(i:Int) (t:Tok) (s:Shared) (Q:Value→Shared→Prop) (E:Value→Shared→Prop),Q (.int (g i) s.toks) { s with toks:=s.toks+1 }→wpAny (model X.prog X.w) X.A (f (.int i t)) Q E s) :
  UnR X f (rU fun i=>.int (g i)):=by
 intro pins s σ H x v Q I rx h
 obtain ⟨i,rfl,q⟩:=h
 obtain ⟨t,rfl⟩:=rx
 exact rule i t s _ _ ⟨.int (g i),H,I.tok _,⟨_,rfl⟩,q⟩
theorem Zr8:UnR X (unaryOp .USub) (rU fun i=>.int (-i)):=unI fun _ _ _ _ _ q=>neg_int q
end
section
variable{X:Cx}{a b c:Expr}{ta tb tc:TE}{pos:Pos}
theorem ZjI{pins:List (Addr×Obj)}{σ:St}{H:Hp}{s:Shared}{Q:VK}{k k':Bool}(I:Inv X pins σ H s)(q:Q (.bl k) H)(e:k=k'):EP X pins σ Q (.bool k') s:=by
 subst e
 exact ⟨.bl k,H,I,rfl,q⟩
theorem Zsm:OpR X (compareOp .Lt) (rI0 fun i j=>.bl (decide (i<j))):=opB0 fun _ _ _ _ _ _ _ q=>lt_int q
theorem Zt8:OpR X (compareOp .LtE) (rI0 fun i j=>.bl (decide (i≤j))):=opB0 fun _ _ _ _ _ _ _ q=>le_int q
theorem ZuZ:OpR X (compareOp .Gt) (rI0 fun i j=>.bl (decide (j<i))):=opB0 fun _ _ _ _ _ _ _ q=>gt_int q
theorem ZtR:OpR X (compareOp .GtE) (rI0 fun i j=>.bl (decide (j≤i))):=opB0 fun _ _ _ _ _ _ _ q=>ge_int q
theorem Zs0:OpR X (compareOp .Is) (fun x y H Q=>y=.non∧Q (.bl (decide (x=.non))) H):=by
 intro pins s σ H x y v u Q I rx ry h
 obtain ⟨rfl,q⟩:=h
 cases ry
 refine is_none_gen (ZjI I q ?_)
 cases x<;>first
  | (cases rx;rfl)
  | (obtain ⟨t,rfl⟩:=rx;rfl)
theorem Zpo:OpR X (compareOp .IsNot) (fun x y H Q=>y=.non∧Q (.bl (!decide (x=.non))) H):=by
 intro pins s σ H x y v u Q I rx ry h
 obtain ⟨rfl,q⟩:=h
 cases ry
 refine isnot_none_gen (ZjI I q ?_)
 cases x<;>first
  | (cases rx;rfl)
  | (obtain ⟨t,rfl⟩:=rx;rfl)
theorem ZcT(b:Expr){op:CmpOp}(h:op≠.In:=by decide)(h2:op≠.NotIn:=by decide):behindInMarks op b=false:=by
 have e1:(op==CmpOp.In)=false:=by cases op<;>first | rfl | exact absurd rfl h
 have e2:(op==CmpOp.NotIn)=false:=by cases op<;>first | rfl | exact absurd rfl h2
 cases b<;>simp [behindInMarks,e1,e2]
theorem Zp1{op:CmpOp}{r:R2}(ho:OpR X (compareOp op) r)(ha:PE X a ta)(hb:PE X b tb)(hm:behindInMarks op b=false):PE X (.Compare a [op] [b] pos) (tOp r ta tb):=by
 intro pins s σ H Q I h
 exact wpAny_Compare1 (binT ha hb I h fun v u s2 x y H2 I2 rx ry q=>ho pins s2 σ H2 x y v u Q I2 rx ry q) hm
def Zfu(t:TE):TT:=fun σ H Q=>t σ H fun x H'=>∃k,x=.bl k∧Q k H'
theorem ZiX{op:CmpOp}{r:R2}(ho:OpR X (compareOp op) r)(ha:PE X a ta)(hb:PE X b tb)(hm:behindInMarks op b=false):PT X (.Compare a [op] [b] pos) (Zfu (tOp r ta tb)):=by
 intro pins s σ H Q I h
 refine wpAny_isTrue_Compare1 (thn (ha pins s σ H _ I h) fun v s1 ⟨x,H1,I1,r1,q1⟩=>thn (hb pins s1 σ H1 _ I1 q1) fun u s2 ⟨y,H2,I2,r2,q2⟩ =>
  thn (ho pins s2 σ H2 x y v u _ I2 r1 r2 q2) fun c s3 ⟨z,H3,I3,r3,k,e,q3⟩=>?_) hm
 subst e
 cases r3
 exact wpAny_truthy_bool ⟨H3,I3,q3⟩
theorem Zi4:(sizeLine:Nat)<2^63:=by rw [sizeLine_eq];decide
theorem Zke:OpR X (binaryOp .Add) (fun x y H Q=>∃i j,x=.str i∧y=.str j∧i.length+j.length≤sizeLine∧Q (.str (i++j)) H):=by
 intro pins s σ H x y v u Q I rx ry h
 obtain ⟨i,j,rfl,rfl,hz,q⟩:=h
 obtain ⟨t,rfl⟩:=rx
 obtain ⟨t',rfl⟩:=ry
 exact add_str (fun t' tk=>⟨.str (i++j),H,I.tok _,⟨_,rfl⟩,q⟩) hz
theorem vals1{x:V}{us:List Value}(r:Vals [x] us):∃u,us=[u]∧RelV x u:=by
 cases r with
 | cons r1 r2=>cases r2;exact ⟨_,rfl,r1⟩
theorem vals2{x y:V}{us:List Value}(r:Vals [x,y] us):∃u w',us=[u,w']∧RelV x u∧RelV y w':=by
 cases r with
 | cons r1 r2 =>
  cases r2 with
  | cons r3 r4=>cases r4;exact ⟨_,_,rfl,r1,r3⟩
theorem ZjR:Zex X (.builtin "abs") (fun xs H Q=>∃i,xs=[.int i]∧Q (.int (if i<0 then -i else i)) H):=by
 intro pins s σ H xs us Q I r h
 obtain ⟨i,rfl,q⟩:=h
 obtain ⟨u,rfl,t,rfl⟩:=vals1 r
 exact call_abs_int fun u tk=>⟨.int (if i<0 then -i else i),H,I.tok _,⟨_,rfl⟩,q⟩
end
structure ObjM(h:Heap)(x dx C:Addr)(mA:Str→Option Value):Prop where
 obj:h.get? x=some (W.instObj C dx)
 ns:h.Ns1 dx mA
 ne:dx≠x
theorem ZmJ{h:Heap}{dx:Addr}{mA:Str→Option Value}(n:h.Ns1 dx mA):∃od,h.get? dx=some od∧∀name,W.lookIn name od=some (mA name):=by
 obtain ⟨o,es,ep,ho,hd,hk,_,hm⟩:=n
 refine ⟨o,ho,fun name=>?_⟩
 have e:=hm name
 unfold nsFind findBy at e
 rw [←Array.find?_toList] at e
 unfold W.lookIn
 rw [hd]
 dsimp only
 split
 ·rename_i y q
  rw [q] at e
  exact Vay some e
 ·rename_i q
  rw [q] at e
  have a:es.toList.any (·.refKey)=false:=by
   rw [List.any_eq_false]
   intro y hy
   obtain ⟨z,t,hkey⟩:=hk y (Array.mem_toList_iff.mp hy)
   simp [DictEntry.refKey,hkey]
  have a':¬es.toList.any (·.refKey)=true:=by rw [a];exact VaF
  rw [if_neg a']
  exact Vay some e
theorem ObjM.look{h:Heap}{x dx C:Addr}{mA:Str→Option Value}(I:ObjM h x dx C mA):∃od,W.InstAt h x (W.instObj C dx) C (some od)∧∀name,W.lookIn name od=some (mA name) :=
 let ⟨od,ho,hl⟩:=ZmJ I.ns
 ⟨od,⟨I.obj,rfl,rfl,ho⟩,hl⟩
section
variable{prog:Program}{w:World}{A:Around}{E:Value→Shared→Prop}{s:Shared}{K:W.Frag}{x dx C f:Addr}{mA:Str→Option Value}{name:Str}{v:Value}
theorem Zq3{expr:Bool}{Q:Value→Shared→Prop}(X:K.In s.heap)(I:ObjM s.heap x dx C mA)(hg:W.plainGet K C name=true)(hh:W.hasDictIn K C=true)
  (ha:W.findIn K (.ref C) name=some none) (hv:mA name=some v) (hv':W.handedIn v=true) (h:Q v { s with toks:=s.toks+1 }) :
  wpAny (model prog w) A (getAttr (.ref x) name expr) Q E s:=by
 obtain ⟨od,J,hl⟩:=I.look
 exact W.get_value X J (W.plainGet_of hg).1 (W.findObj_own hh ha rfl (by rw [hl,hv])) hv' h
theorem Zn4{pl:Sem Bool}{Q:Value×List Value→Shared→Prop}(X:K.In s.heap)(I:ObjM s.heap x dx C mA)(hg:W.plainGet K C name=true)
  (hf:W.findIn K (.ref C) name=some (some (.ref f))) (ht:W.isFn K (.ref f)=true) (hv:mA name=none) (h:Q (.ref f,[.ref x]) s) :
  wpAny (model prog w) A (getMethod (.ref x) name pl) Q E s:=by
 obtain ⟨od,J,hl⟩:=I.look
 exact W.method_fn X J (W.plainGet_of hg).1 (W.plainGet_of hg).2 hf (beq_iff_eq.mp ht) (by show (W.lookIn name od).map (·.isSome)=some false;rw [hl,hv];rfl) h
theorem Zp5{ns:List Str}{Q:Unit→Shared→Prop}(X:K.In s.heap)(I:ObjM s.heap x dx C mA)
  (hs:W.findIn K (.ref C) "__setattr__"=some (some (.builtin "object.__setattr__"))) (hp:W.plainOver K C=true) (ht:W.takerIn K C name=some none) (hh:W.hasDictIn K C=true)
  (hw:PySem.Within mA ns) (hsz:ns.length≤sizeLine)
  (h:∀h',ObjM h' x dx C (fun y=>if y=name then some v else mA y)→Heap.SameBut dx s.heap h'→Q () { s with heap:=h',toks:=s.toks+2 }) :
  wpAny (model prog w) A (setAttr (.ref x) name v) Q E s:=by
 obtain ⟨od,J,hl⟩:=I.look
 refine W.set_plain X J hs (W.osa_open (s:={ s with toks:=s.toks+1 }) (r:=none) X J hp ht fun b=>?_)
 obtain ⟨cd,hc,hd'⟩:=W.any_some hh
 have hx:s.heap.get? x=some ⟨.ref C,some dx,.plain,#[]⟩:=I.obj
 refine Vaz (VaA (Vaz (Vaz (wpAny_loadPart hx (Vaz (W.Looks.here (s:={ s with toks:=s.toks+1 }) (W.looks_clsIn X hc) ?_))))))
 rw [hd']
 refine VaA (a:=some dx) (Vaz (VaA (Vaz ?_)))
 refine wpAny_nsSet1 (s:={ s with toks:=s.toks+1 }) I.ns fun h' hn2 hs2=>?_
 obtain ⟨oD,esD,epD,hoD,hdD,hcD⟩:=hn2.count (PySem.Within.cons name v hw)
 refine Vaz (wpAny_lookBehind hoD (by rw [hdD];exact pastItsLine_dict (Vak hcD (by rw [VaO];omega))) ?_)
 exact VaA (h _ ⟨(hs2.2 _ (Ne.symm I.ne)).trans I.obj,hn2,I.ne⟩ hs2)
theorem Zny{R:Result→Shared→Prop}{vs:List Value}{kw:List (Str×Value)}(X:K.In s.heap)(hm:W.makesIn K C=true)
  (hi:W.findIn K (.ref C) "__init__"=some (some (.ref f))) (hf:W.typeIn K (.ref f)=some (.type "function"))
  (h:codeAny (model prog w) (A.under (.builtin "type.__call__" ⟨.ref C::vs,kw⟩)) (.call (.ref f) ⟨.ref (s.heap.objs.size+1)::vs,kw⟩) (W.InitBack (s.heap.objs.size+1) R)
   { s with heap:=(s.heap.push W.emptyDict).push (W.instObj C s.heap.objs.size) }) :
  codeAny (model prog w) A (.call (.ref C) ⟨vs,kw⟩) R s:=by
 obtain ⟨hh,g,d,t,os⟩:=s
 exact W.make_core (W.makes_of X hm) (W.looks_findIn X hi) (fun self=>W.bind_fn X self hf) (.inl rfl) h
end
def putF(f:Str)(v:V):List (Str×V)→List (Str×V)
 | []=>[(f,v)]
 | (g,x)::r=>if g=f then (g,v)::r else (g,x)::putF f v r
theorem Zfz(f g:Str)(v:V):∀fs:List (Str×V),(putF f v fs).lookup g=if g=f then some v else fs.lookup g
 | []=>by
  show List.lookup g [(f,v)]=_
  by_cases h:g=f
  ·have hb:(g==f)=true:=beq_iff_eq.mpr h
   simp only [List.lookup,hb,if_pos h]
  ·have hb:(g==f)=false:=Vad.mpr h
   simp only [List.lookup,hb,if_neg h]
 | (k,x)::r=>by
  have ih:=Zfz f g v r
  rw [show putF f v ((k,x)::r)=(if k=f then (k,v)::r else (k,x)::putF f v r) from rfl]
  by_cases hk:k=f
  ·rw [if_pos hk]
   by_cases h:g=k
   ·have hb:(g==k)=true:=beq_iff_eq.mpr h
    simp only [List.lookup,hb,if_pos (h.trans hk)]
   ·have hb:(g==k)=false:=Vad.mpr h
    simp only [List.lookup,hb,if_neg (fun e:g=f=>h (e.trans hk.symm))]
  ·rw [if_neg hk]
   by_cases h:g=k
   ·have hb:(g==k)=true:=beq_iff_eq.mpr h
    simp only [List.lookup,hb,if_neg (fun e:g=f=>hk (h.symm.trans e))]
   ·have hb:(g==k)=false:=Vad.mpr h
    simp only [List.lookup,hb]
    exact ih
theorem ZfP(f:Str)(v:V):∀fs:List (Str×V),f∈(putF f v fs).map (·.1)∧∀g,g∈fs.map (·.1)→g∈(putF f v fs).map (·.1)
 | []=>⟨by simp [putF],fun g h=>by simp at h⟩
 | (k,x)::r=>by
  obtain ⟨i1,i2⟩:=ZfP f v r
  rw [show putF f v ((k,x)::r)=(if k=f then (k,v)::r else (k,x)::putF f v r) from rfl]
  by_cases hk:k=f
  ·rw [if_pos hk]
   subst hk
   exact ⟨by simp,fun g h=>by simpa using h⟩
  ·rw [if_neg hk]
   refine ⟨?_,fun g h=>?_⟩
   ·rw [VaP]
    exact Vap _ i1
   ·rw [VaP] at h ⊢
    rcases Var.mp h with e | e
    ·exact Var.mpr (.inl e)
    ·exact Vap _ (i2 g e)
theorem ZfV(f:Str)(v:V):∀fs:List (Str×V),(putF f v fs).length≤fs.length+1
 | []=>by simp [putF]
 | (k,x)::r=>by
  have ih:=ZfV f v r
  rw [show putF f v ((k,x)::r)=(if k=f then (k,v)::r else (k,x)::putF f v r) from rfl]
  by_cases hk:k=f
  ·rw [if_pos hk,VaO,VaO];omega
  ·rw [if_neg hk,VaO,VaO];omega
theorem RelO.some_of{v:V}{o:Option Value}(r:RelO (some v) o):∃u,o=some u∧RelV v u:=by
 cases o with
 | none=>exact (show False from r).elim
 | some u=>exact ⟨u,rfl,r⟩
theorem RelO.none_of{o:Option Value}(r:RelO none o):o=none:=by
 cases o with
 | none=>rfl
 | some u=>exact (show False from r).elim
theorem Zlg{v:V}{u:Value}(r:RelV v u):W.handedIn u=true:=by
 cases v with
 | non=>cases (show u=Value.none from r);rfl
 | bl b=>cases (show u=Value.bool b from r);rfl
 | int i=>obtain ⟨t,e⟩:=(show ∃t,u=Value.int i t from r);cases e;rfl
 | str x=>obtain ⟨t,e⟩:=(show ∃t,u=Value.str x t from r);cases e;rfl
 | byt b=>obtain ⟨t,e⟩:=(show ∃t,u=Value.bytes b t from r);cases e;rfl
 | flt b=>obtain ⟨t,e⟩:=(show ∃t,u=Value.float b t from r);cases e;rfl
 | ref a=>cases (show u=Value.ref a from r);rfl
 | ty n=>cases (show u=Value.type n from r);rfl
section
variable{P:Program}{w:World}{H H':Hp}{h h':Heap}{a C dx:Addr}{fs fs':List (Str×V)}
theorem ZgO(hok:HOk P w H h)(e:H a=some (.ins C dx fs)):∃mA,ObjM h a dx C mA∧(∀f,RelO (fs.lookup f) (mA f))∧PySem.Within mA (fs.map (·.1))∧fs.length≤1000∧H dx=some (.own a):=by
 obtain ⟨d,z,ne,ob,mA,n,r,q⟩:=(show ZbS P w H h a (.ins C dx fs) from hok a _ e)
 exact ⟨mA,⟨ob,n,ne⟩,r,q,z,d⟩
end
structure Cls(K:W.Frag)(C:Addr):Prop where
 pg:W.plainGet K C Str.empty=true
 hd:W.hasDictIn K C=true
 po:W.plainOver K C=true
 sa:W.findIn K (.ref C) "__setattr__"=some (some (.builtin "object.__setattr__"))
theorem Cls.get{K:W.Frag}{C:Addr}(c:Cls K C)(f:Str):W.plainGet K C f=true:=c.pg
def ZdE(K:W.Frag)(C:Addr)(f:Str):Prop:=W.findIn K (.ref C) f=some none
theorem ZdE.taker{K:W.Frag}{C:Addr}{f:Str}(n:ZdE K C f):W.takerIn K C f=some none:=by
 unfold W.takerIn
 rw [show W.findIn K (.ref C) f=some none from n]
 rfl
structure Meth(K:W.Frag)(C:Addr)(m:Str)(f:Addr):Prop where
 at_:W.findIn K (.ref C) m=some (some (.ref f))
 fn:W.isFn K (.ref f)=true
 kp:W.keepIn K (.ref f)=true
section
variable{X:Cx}{pins:List (Addr×Obj)}{σ:St}{H:Hp}{s:Shared}{a C dx:Addr}{fs:List (Str×V)}{f:Str}{v:V}{A:Around}{E:Value→Shared→Prop}
theorem Zkt{b:Bool}{Q:Value→Shared→Prop}(I:Inv X pins σ H s)(e:H a=some (.ins C dx fs))(c:Cls X.K C)(n:ZdE X.K C f)(l:fs.lookup f=some v)
  (h:∀u s',Inv X pins σ H s'→RelV v u→Q u s'):wpAny (model X.prog X.w) A (getAttr (.ref a) f b) Q E s:=by
 obtain ⟨mA,O,r,_,_,_⟩:=ZgO I.hok e
 obtain ⟨u,hu,ru⟩:=RelO.some_of (v:=v) (o:=mA f) (by rw [←l];exact r f)
 exact Zq3 I.kIn O (c.get f) c.hd n hu (Zlg ru) (h u _ (I.tok _) ru)
theorem Zgs{m:Str}{g:Addr}{pl:Sem Bool}{Q:Value×List Value→Shared→Prop}(I:Inv X pins σ H s)(e:H a=some (.ins C dx fs))(c:Cls X.K C)(k:Meth X.K C m g)(l:fs.lookup m=none)
  (h:Q (.ref g,[.ref a]) s):wpAny (model X.prog X.w) A (getMethod (.ref a) m pl) Q E s:=by
 obtain ⟨mA,O,r,_,_,_⟩:=ZgO I.hok e
 have hn:mA m=none:=RelO.none_of (by rw [←l];exact r m)
 exact Zn4 I.kIn O (c.get m) k.at_ k.fn hn h
theorem Zkh{y:V}{u:Value}{Q:Unit→Shared→Prop}(I:Inv X pins σ H s)(e:H a=some (.ins C dx fs))(c:Cls X.K C)(n:ZdE X.K C f)(hl:fs.length<1000)(ry:RelV y u)
  (h:∀s',Inv X pins σ (upd H a (.ins C dx (putF f y fs))) s'→Q () s'):wpAny (model X.prog X.w) A (setAttr (.ref a) f u) Q E s:=by
 obtain ⟨mA,O,r,wi,_,ho⟩:=ZgO I.hok e
 have hz:(fs.map (·.1)).length≤sizeLine:=by rw [VaQ,sizeLine_eq];omega
 refine Zp5 I.kIn O c.sa c.po n.taker c.hd wi hz fun h' O' sb=>h _ ?_
 have hd:∃o,h'.get? dx=some o:=let ⟨o,_,_,e',_⟩:=O'.ns;⟨o,e'⟩
 refine I.write (x:=a) (e:=dx) (by rw [e];exact True.intro) (.inr ho) (fun b q hb z=>(sb.2 b hb).trans z) hd ?_
 refine ⟨by rw [Zag O.ne];exact ho,?_,O.ne,O'.obj,_,O'.ns,fun g=>?_,fun g hg=>?_⟩
 ·have:=ZfV f y fs;omega
 ·show RelO ((putF f y fs).lookup g) (if g=f then some u else mA g)
  rw [Zfz]
  by_cases q:g=f
  ·rw [if_pos q,if_pos q];exact ry
  ·rw [if_neg q,if_neg q];exact r g
 ·by_cases q:g=f
  ·rw [q];exact (ZfP f y fs).1
  ·refine (ZfP f y fs).2 g (wi g fun z=>hg ?_)
   show (if g=f then some u else mA g)=none
   rw [if_neg q];exact z
theorem Inv.made(I:Inv X pins σ H s):Inv X pins σ (upd (upd H s.heap.objs.size (.own (s.heap.objs.size+1))) (s.heap.objs.size+1) (.ins C s.heap.objs.size []))
  { s with heap:=(s.heap.push W.emptyDict).push (W.instObj C s.heap.objs.size) }:=by
 have e1:(s.heap.push W.emptyDict).get? s.heap.objs.size=some W.emptyDict:=VaH s.heap rfl
 have e2:((s.heap.push W.emptyDict).push (W.instObj C s.heap.objs.size)).get? (s.heap.objs.size+1)=some (W.instObj C s.heap.objs.size):=by
  have:=VaH (s.heap.push W.emptyDict) (o:=W.instObj C s.heap.objs.size) rfl
  rwa [VaR] at this
 have e3:(s.heap.push W.emptyDict).Ns s.heap.objs.size (fun _=>none):=⟨W.emptyDict,#[],_,e1,rfl,(fun e he=>absurd he (by simp)),fun _=>rfl⟩
 have I1:=I.laid (a:=s.heap.objs.size) (o:=.own (s.heap.objs.size+1)) (h':=s.heap.push W.emptyDict) (t':=s.toks) (fun b u q=>VaC _ q) (VaI _) ⟨_,e1⟩
 refine I1.laid (a:=s.heap.objs.size+1) (o:=.ins C s.heap.objs.size []) (t':=s.toks) (fun b u q=>VaC _ q) (Nat.le_of_eq (VaR _ _)) ?_
 have ne:s.heap.objs.size≠s.heap.objs.size+1:=Vah (VaS _)
 refine ⟨by rw [Zag ne,Zah],VaT _,ne,e2,fun _=>none,(Heap.Ns1.of_empty e3).at fun o q=>VaC _ q,fun _=>True.intro,fun y hy=>absurd rfl hy⟩
theorem ZqP{prog:Program}{w:World}{env:Env}{e:Expr}{f:Str}{pos:Pos}{s:Shared}{Q:Value→Shared→Prop}(hb:attributeBase e f env (eval e env)=eval e env)
  (h:wpAny (model prog w) A (eval e env) (fun o s₁=>wpAny (model prog w) A (getAttr o f true) Q E s₁) E s):wpAny (model prog w) A (eval (.Attribute e f pos) env) Q E s :=
 Attribute_any_ h (by rw [arm_eval_Attribute,hb])
end
def tFld(K:W.Frag)(ta:TE)(f:Str):TE:=fun σ H Q=>ta σ H fun x H1=>∃a C dx fs v,x=.ref a∧H1 a=some (.ins C dx fs)∧Cls K C∧ZdE K C f∧fs.lookup f=some v∧Q v H1
def sFld(K:W.Frag)(ta tv:TE)(f:Str):TS:=fun D σ H=>tv σ H fun y H1=>ta σ H1 fun x H2=>∃a C dx fs,x=.ref a∧H2 a=some (.ins C dx fs)∧Cls K C∧ZdE K C f∧fs.length<1000 ∧
 D.nx σ (upd H2 a (.ins C dx (putF f y fs)))
section
variable{X:Cx}{o e value:Expr}{f:Str}{pos pos' tpos:Pos}{ta tv:TE}
theorem Zsx(he:PE X e ta)(hb:attributeBase e f X.env (eval e X.env)=eval e X.env):PE X (.Attribute e f pos) (tFld X.K ta f):=by
 intro pins s σ H Q I h
 refine ZqP hb (thn (he pins s σ H _ I h) fun u s1 ⟨x,H1,I1,rx,a,C,dx,fs,v,ex,ea,c,n,l,q⟩=>?_)
 subst ex
 obtain rfl:u=Value.ref a:=rx
 exact Zkt I1 ea c n l fun u' s2 I2 ru=>⟨v,H1,I2,ru,q⟩
theorem Zt3(ha:PE X o ta)(hv:PE X value tv)(hs:swapsWith value (some (.Attribute o f pos')) pos.line X.env=pure false):PS X (.Assign [.Attribute o f pos'] value pos) (sFld X.K ta tv f):=by
 intro pins s σ H D I h
 refine plainObj_wpAny_Assign_Attribute (thn (hv pins s σ H _ I h) fun u s1 ⟨y,H1,I1,ry,q⟩=>thn (ha pins s1 σ H1 _ I1 q) fun ov s2 ⟨x,H2,I2,rx,a,C,dx,fs,ex,ea,c,n,l,q2⟩=>?_) hs
 subst ex
 obtain rfl:ov=Value.ref a:=rx
 exact Zkh I2 ea c n l ry fun s3 I3=>⟨σ,_,I3,q2⟩
end
section
variable{X:Cx}{pins:List (Addr×Obj)}{σ:St}{H:Hp}{s:Shared}{A:Around}{E:Value→Shared→Prop}{Q:Value→Shared→Prop}{c:Value}{b:Bool}
inductive TyOf(K:W.Frag)(H:Hp):V→Value→Prop where
 | non:TyOf K H .non (.type "NoneType")
 | bl (x:Bool):TyOf K H (.bl x) (.type "bool")
 | int (i:Int):TyOf K H (.int i) (.type "int")
 | str (x:Str):TyOf K H (.str x) (.type "str")
 | flt (x:UInt64):TyOf K H (.flt x) (.type "float")
 | lst {a:Addr} {xs:List V} (e:H a=some (.lst xs)):TyOf K H (.ref a) (.type "list")
 | frz {a:Addr} {o:Obj} {xs:List V} (e:H a=some (.frz o (.lst xs))):TyOf K H (.ref a) (.type "list")
 | tup {a:Addr} {xs:List V} (e:H a=some (.tup xs)):TyOf K H (.ref a) (.type "tuple")
 | dK {a:Addr} {kvs:List (Key×V)} (e:H a=some (.dK kvs)):TyOf K H (.ref a) (.type "dict")
 | dT {a:Addr} {kvs:List (List Key×V)} (e:H a=some (.dT kvs)):TyOf K H (.ref a) (.type "dict")
 | ins {a C dx:Addr} {fs:List (Str×V)} (e:H a=some (.ins C dx fs)) (cl:Cls K C) (ha:W.findIn K (.ref C) "__class__"=some (some (.builtin "object.__class__")))
   (hn:W.specialIn K (.builtin "object.__class__") "__get__"=some (some (.builtin "getset_descriptor.__get__"))) (htk:W.takesIn K (.builtin "object.__class__")=some true)
   (hm:W.mroIn K C (.type "object")=some true):TyOf K H (.ref a) (.ref C)
theorem Zey{x:V}{u t:Value}(I:Inv X pins σ H s)(rx:RelV x u)(ty:TyOf X.K H x t)(e:W.kitOne X.K t c=some b)(h:∀tk,Q (.bool b) { s with toks:=tk }) :
  wpAny (model X.prog X.w) A (call (.builtin "isinstance") [u,c]) Q E s:=by
 cases ty with
 | non=>cases (show u=Value.none from rx);exact VaU W.kitx_none I.kIn True.intro e (fun z=>nomatch z) h
 | bl y=>cases (show u=Value.bool y from rx);exact VaU W.kitx_bool I.kIn True.intro e (fun z=>nomatch z) h
 | int i=>obtain ⟨t,q⟩:=(show ∃t,u=Value.int i t from rx);cases q;exact VaU W.kitx_int I.kIn True.intro e (fun z=>nomatch z) h
 | str y=>obtain ⟨t,q⟩:=(show ∃t,u=Value.str y t from rx);cases q;exact VaU W.kitx_str I.kIn True.intro e (fun z=>nomatch z) h
 | flt y=>obtain ⟨t,q⟩:=(show ∃t,u=Value.float y t from rx);cases q;exact VaU W.kitx_float I.kIn True.intro e (fun z=>nomatch z) h
 | @lst a xs ea =>
  cases (show u=Value.ref a from rx)
  obtain ⟨_,_,n,_,h1⟩:=(show ZbS X.prog X.w H s.heap a (.lst xs) from I.hok a _ ea)
  exact VaU W.kitx_list I.kIn ⟨_,h1,rfl⟩ e (fun z=>nomatch z) h
 | @frz a ob xs ea =>
  cases (show u=Value.ref a from rx)
  obtain ⟨_,_,_,n,_,h1⟩:=(show ZbS X.prog X.w H s.heap a (.frz ob (.lst xs)) from I.hok a _ ea)
  exact VaU W.kitx_list I.kIn ⟨_,h1,rfl⟩ e (fun z=>nomatch z) h
 | @tup a xs ea =>
  cases (show u=Value.ref a from rx)
  obtain ⟨_,_,_,p⟩:=(show ZbS X.prog X.w H s.heap a (.tup xs) from I.hok a _ ea)
  obtain ⟨o,h1,h2,_⟩:=p
  exact VaU W.kitx_tuple I.kIn ⟨o,h1,h2⟩ e (fun z=>nomatch z) h
 | @dK a kvs ea =>
  cases (show u=Value.ref a from rx)
  obtain ⟨_,_,vs,_,p⟩:=(show ZbS X.prog X.w H s.heap a (.dK kvs) from I.hok a _ ea)
  obtain ⟨o,es,ep,h1,h2,_⟩:=p
  exact VaU W.kitx_dict I.kIn ⟨o,h1,h2.1⟩ e (fun z=>nomatch z) h
 | @dT a kvs ea =>
  cases (show u=Value.ref a from rx)
  obtain ⟨_,_,xs,_,o,es,ep,h1,h2,_⟩:=(show ZbS X.prog X.w H s.heap a (.dT kvs) from I.hok a _ ea)
  exact VaU W.kitx_dict I.kIn ⟨o,h1,h2.1⟩ e (fun z=>nomatch z) h
 | @ins a C dx fs ea cl ha hn htk hm =>
  cases (show u=Value.ref a from rx)
  obtain ⟨mA,O,_⟩:=ZgO I.hok ea
  obtain ⟨od,J,_⟩:=O.look
  exact VaU (W.kitx_own (cl.get _) cl.hd ha hn htk hm) I.kIn J e (fun z=>nomatch z) h
end
structure Room(k:Nat)(A:Around):Prop where
 hd:A.handled=none
 dp:A.depth+3*k+5<recursionLimit
 un:A.units+16*k+200<cLine
theorem Room.mono{j k:Nat}{A:Around}(r:Room k A)(h:j≤k):Room j A:=⟨r.hd,by have:=r.dp;omega,by have:=r.un;omega⟩
theorem Room.deeper{k:Nat}{A:Around}(r:Room (k+1) A)(env:Env):Room k (A.deeper env) :=
 ⟨r.hd,by have:=r.dp;show A.depth+1+3*k+5<_;omega,by have:=r.un;show A.units+3+16*k+200<_;omega⟩
theorem ZkD{A:Around}{C:Addr}{us:List Value}{kw:List (Str×Value)}:(A.under (.builtin "type.__call__" ⟨.ref C::us,kw⟩)).depth=A.depth+1:=by
 first | rfl | simp [Around.under,Code.weight,Code.isCreation,Code.isGuard,Code.isCaller,Code.frames,Code.isFrame,guardIds]
theorem Zka{A:Around}{C:Addr}{us:List Value}{kw:List (Str×Value)}:(A.under (.builtin "type.__call__" ⟨.ref C::us,kw⟩)).units=A.units+1:=by
 first | rfl | simp [Around.under,Code.cUnits,Code.frames,Code.isFrame]
theorem Room.make{k:Nat}{A:Around}(r:Room (k+1) A)(C:Addr)(us:List Value)(kw:List (Str×Value)):Room k (A.under (.builtin "type.__call__" ⟨.ref C::us,kw⟩)) :=
 ⟨r.hd,by have:=r.dp;rw [ZkD];omega,by have:=r.un;rw [Zka];omega⟩
theorem Room.depth{k:Nat}{A:Around}(r:Room k A):A.depth<recursionLimit:=by have:=r.dp;omega
theorem Room.units{k:Nat}{A:Around}(r:Room k A):A.units+64<cLine:=by have:=r.un;omega
def tNil:TA:=fun _ H Q=>Q [] H
def Zb5(ta:TE)(tr:TA):TA:=fun σ H Q=>ta σ H fun x H1=>tr σ H1 fun xs H2=>Q (x::xs) H2
section
variable{X:Cx}{e:Expr}{es:List Expr}{te:TE}{t:TA}{pos:Pos}
theorem ZeQ:PA X [] tNil:=fun _ _ _ _ H Q I h=>Calls.spliced_nil ⟨[],H,I,.nil,h⟩
theorem Zb2(ha:PE X e te)(hr:PA X es t)(hs:starEach (e::es) X.env=(false,eval e X.env)::starEach es X.env:=by rfl):PA X (e::es) (Zb5 te t):=by
 intro pos pins s σ H Q I h
 rw [hs]
 show wpAny _ _ (spliced ((false,eval e X.env)::backTo pos (starEach es X.env))) _ _ s
 refine Calls.spliced_cons (thn (ha pins s σ H _ I h) fun u s1 ⟨x,H1,I1,r1,q1⟩=>?_)
 exact thn (hr pos pins s1 σ H1 _ I1 q1) fun us s2 ⟨xs,H2,I2,r2,q2⟩=>⟨x::xs,H2,I2,.cons r1 r2,q2⟩
def tTup(t:TA):TE:=fun σ H Q=>t σ H fun xs H1=>xs.length≤sizeLine∧∀p,H1 p=none→Q (.ref p) (upd H1 p (.tup xs))
def tLst(t:TA):TE:=fun σ H Q=>t σ H fun xs H1=>xs.length≤sizeLine∧∀p,H1 p=none→Q (.ref p) (upd H1 p (.lst xs))
theorem Zty{x1}(h:PA X es t):PE X (.Tuple es x1 pos) (tTup t):=by
 intro pins s σ H Q I hq
 refine wpAny_Tuple_spliced (thn (h pos pins s σ H _ I hq) fun us s1 ⟨xs,H1,I1,r,z,q⟩=>⟨by rw [←r.length];exact z,?_⟩)
 have hf:H1 s1.heap.objs.size=none:=I1.hok.fresh (VaI _)
 refine ⟨.ref s1.heap.objs.size,upd H1 s1.heap.objs.size (.tup xs),I1.laid (t':=s1.toks) (fun b u e=>VaC _ e) (VaI _) ?_,rfl,q _ hf⟩
 exact ⟨z,us,r,⟨_,VaH _ rfl,rfl,_,rfl⟩⟩
theorem Zo6(h:PA X es t):PE X (.List es pos) (tLst t):=by
 intro pins s σ H Q I hq
 refine wpAny_List_spliced (thn (h pos pins s σ H _ I hq) fun us s1 ⟨xs,H1,I1,r,z,q⟩=>⟨by rw [←r.length];exact z,?_⟩)
 have hf:H1 s1.heap.objs.size=none:=I1.hok.fresh (VaI _)
 refine ⟨.ref s1.heap.objs.size,upd H1 s1.heap.objs.size (.lst xs),I1.laid (t':=s1.toks) (fun b u e=>VaC _ e) (VaI _) ?_,rfl,q _ hf⟩
 exact ⟨z,us,0,r,VaH _ rfl⟩
end
abbrev Sp:=List V→Hp→VK→XK→Prop
abbrev CXT:=List Env→Hp→Shared→XK→Value→Shared→Prop
structure Env0(P:Program)(w:World)(K:W.Frag)(mg:Str→Option Value)(base:Heap)(A:Around)(outer:List Env)(s:Shared)(H:Hp):Prop where
 frames:A.frames=some outer
 mod:Mod K mg base
 bs:∀b o,base.get? b=some o→s.heap.get? b=some o∧H b=none
 bsz:base.objs.size≤s.heap.objs.size
 funs:s.heap.FunFrames base outer
 frf:∀b∈frs outer,H b=none
 hok:HOk P w H s.heap
 bare:AllBare s.gens
def CE(outer:List Env)(P:Program)(w:World)(H:Hp)(s:Shared)(Q:VK)(u:Value)(s':Shared):Prop :=
 ∃v H',s'.os=s.os∧AllBare s'.gens∧Un (frs outer) [] H H' s.heap s'.heap∧HOk P w H' s'.heap∧RelV v u∧Q v H'
def CR(CX:CXT)(outer:List Env)(P:Program)(w:World)(H:Hp)(s:Shared)(Q:VK)(E:XK)(r:Result)(s':Shared):Prop :=
 match r with
 | .ok (.ret u)=>CE outer P w H s Q u s'
 | .ok _=>False
 | .error e=>CX outer H s E e s'
structure FnOk(P:Program)(w:World)(K:W.Frag)(mg:Str→Option Value)(base:Heap)(CX:CXT)(k:Nat)(f:Addr)(fd:FuncData)(ps:List Str)(sp:Sp):Prop where
 len:∀vs H Q E,sp vs H Q E→vs.length=ps.length
 run:∀(A:Around) (outer:List Env) (s:Shared) (H:Hp) (args:Args) (us:List Value) (vs:List V) (Q:VK) (E:XK),Room k A→Env0 P w K mg base A outer s H→BindsTo s fd args (ps.zip us)→Vals vs us→sp vs H Q E →
  codeAny (model P w) A (.call (.ref f) args) (CR CX outer P w H s Q E) s
theorem FnOk.mono{P:Program}{w:World}{K:W.Frag}{mg:Str→Option Value}{base:Heap}{CX:CXT}{j k:Nat}{f:Addr}{fd:FuncData}{ps:List Str}{sp:Sp}(F:FnOk P w K mg base CX j f fd ps sp)(h:j≤k) :
  FnOk P w K mg base CX k f fd ps sp:=⟨F.len,fun A outer s H args us vs Q E hr=>F.run A outer s H args us vs Q E (hr.mono h)⟩
theorem FnOk.imp{P:Program}{w:World}{K:W.Frag}{mg:Str→Option Value}{base:Heap}{CX:CXT}{k:Nat}{f:Addr}{fd:FuncData}{ps:List Str}{sp sp':Sp}(F:FnOk P w K mg base CX k f fd ps sp)
  (h:∀vs H Q E,sp' vs H Q E→sp vs H Q E):FnOk P w K mg base CX k f fd ps sp' :=
 ⟨fun vs H Q E q=>F.len vs H Q E (h _ _ _ _ q),fun A outer s H args us vs Q E hr he hb hv hs=>F.run A outer s H args us vs Q E hr he hb hv (h _ _ _ _ hs)⟩
theorem Env0.make{P:Program}{w:World}{K:W.Frag}{mg:Str→Option Value}{base:Heap}{A:Around}{outer:List Env}{s:Shared}{H:Hp}(e:Env0 P w K mg base A outer s H)(C:Addr)(us:List Value)(kw:List (Str×Value)) :
  Env0 P w K mg base (A.under (.builtin "type.__call__" ⟨.ref C::us,kw⟩)) outer s H:=⟨by first | exact e.frames | (simpa [Around.under,Code.envs,Code.isFrame,pushEnvs] using e.frames),e.mod,e.bs,e.bsz,e.funs,e.frf,e.hok,e.bare⟩
section
variable{X:Cx}{pins:List (Addr×Obj)}{σ:St}{H:Hp}{s s':Shared}
theorem Inv.env0(I:Inv X pins σ H s):Env0 X.prog X.w X.K X.mg X.base X.A X.stack s H :=
 ⟨I.ok.frames,I.ok.mod,I.bs,Vak I.ok.bsz I.sz,I.stack,I.stkFree,I.hok,I.bare⟩
theorem Inv.after{Q:VK}{u:Value}(I:Inv X pins σ H s)(h:CE X.stack X.prog X.w H s Q u s'):EP X pins σ Q u s':=by
 obtain ⟨v,H',os,bare,un,hok,r,q⟩:=h
 obtain ⟨hh,g,d,t,os'⟩:=s'
 obtain rfl:os'=s.os:=os
 exact ⟨v,H',I.call (h':=hh) (g':=g) (d':=d) (t':=t) (ch:=[]) un hok bare (fun b z=>absurd z (by simp)),r,q⟩
end
def Zit(sp:Sp)(dvs:List V)(E:XK)(t:TA):TE:=fun σ H Q=>t σ H fun vs H1=>sp (vs++dvs) H1 Q E
def Zpf(C:Addr)(sp:Sp)(dvs:List V)(E:XK)(t:TA):TE:=fun σ H Q=>t σ H fun vs H1=>∀x dx,H1 x=none→H1 dx=none→dx≠x →
 sp (.ref x::(vs++dvs)) (upd (upd H1 dx (.own x)) x (.ins C dx [])) (fun v H2=>v=.non∧Q (.ref x) H2) E
def Binds(K:W.Frag)(fd:FuncData)(ps:List Str)(ds:List Value):Prop :=
 ∀(s:Shared) (us:List Value),K.In s.heap→(us++ds).length=ps.length→BindsTo s fd ⟨us,[]⟩ (ps.zip (us++ds))
theorem Binds.all{K:W.Frag}{fd:FuncData}{ps:List Str}(h:∀us:List Value,us.length=ps.length→bindArgs fd ⟨us,[]⟩=pure (ps.zip us)):Binds K fd ps []:=fun s us _ hl=>by
 rw [VaV] at hl ⊢
 exact .of_eq (h us hl)
def ZbV(CX:CXT)(X:Cx)(E:XK):Prop:=∀(pins:List (Addr×Obj)) (σ:St) (H:Hp) (s:Shared) (e:Value) (s':Shared),Inv X pins σ H s→CX X.stack H s E e s'→X.xe e s'
section
variable{X:Cx}{CX:CXT}{k:Nat}{f C:Addr}{fd:FuncData}{ps:List Str}{sp:Sp}{dvs:List V}{ds:List Value}{E:XK}{x m:Str}{p pos apos:Pos}{e o:Expr}{es:List Expr}{ta:TE}{t:TA}
theorem Zi5{pins:List (Addr×Obj)}{σ:St}{H:Hp}{s:Shared}{Q:VK}{us:List Value}{vs:List V}(F:FnOk X.prog X.w X.K X.mg X.base CX k f fd ps sp)(hr:Room k X.A)(hb:Binds X.K fd ps ds)(hd:Vals dvs ds)(hx:ZbV CX X E)
  (I:Inv X pins σ H s) (r:Vals vs us) (h:sp (vs++dvs) H Q E):wpAny (model X.prog X.w) X.A (call (.ref f) us) (EP X pins σ Q) X.xe s:=by
 have r2:Vals (vs++dvs) (us++ds):=r.append hd
 have hl:(us++ds).length=ps.length:=by rw [←r2.length];exact F.len _ _ _ _ h
 refine wpAny_call (VaW (F.run X.A X.stack s H ⟨us,[]⟩ (us++ds) (vs++dvs) Q E hr I.env0 (hb s us I.kIn hl) r2 h) fun r s' hq=>?_)
 cases r with
 | error e=>exact hx pins σ H s e s' I hq
 | ok fl =>
  cases fl with
  | ret u=>exact I.after hq
  | next=>exact False.elim hq
  | brk=>exact False.elim hq
  | cont=>exact False.elim hq
theorem Zp2(F:FnOk X.prog X.w X.K X.mg X.base CX k f fd ps sp)(hr:Room k X.A)(hg:Gl X x)(hm:X.mg x=some (.ref f))(hk:W.keepIn X.K (.ref f)=true)(hb:Binds X.K fd ps ds)(hd:Vals dvs ds)(hx:ZbV CX X E)
  (ha:PA X (e::es) t) (hdb:(x==("__debug__" : Str))=false:=by decide) (he:starEach (e::es) X.env=(false,eval e X.env)::starEach es X.env:=by rfl) (hpl:(backTo pos (starEach es X.env)).any (·.1)=false:=by rfl) :
  PE X (.Call (.Name x p) (e::es) [] pos) (Zit sp dvs E t):=by
 intro pins s σ H Q I h
 refine VaX (Zg0 I hg hm ?_ hdb)
 refine W.callWith_K (h₀:=X.base) I.ok.mod.kin hk (thn (ha pos pins s σ H _ I h) fun us s1 ⟨vs,H1,I1,r,q⟩=>⟨I1.kIn,?_⟩) he hpl
 exact Zi5 F hr hb hd hx I1 r q
structure Mk(K:W.Frag)(C f:Addr):Prop where
 makes:W.makesIn K C=true
 init:W.findIn K (.ref C) "__init__"=some (some (.ref f))
 fn:W.isFn K (.ref f)=true
 kp:W.keepIn K (.ref C)=true
theorem ZnK{pins:List (Addr×Obj)}{σ:St}{H:Hp}{s:Shared}{Q:VK}{us:List Value}{vs:List V}(M:Mk X.K C f)(F:FnOk X.prog X.w X.K X.mg X.base CX k f fd ps sp)(hr:Room (k+1) X.A)(hb:Binds X.K fd ps ds)(hd:Vals dvs ds)
  (hx:ZbV CX X E) (I:Inv X pins σ H s) (r:Vals vs us)
  (h:∀x dx,H x=none→H dx=none→dx≠x→sp (.ref x::(vs++dvs)) (upd (upd H dx (.own x)) x (.ins C dx [])) (fun v H2=>v=.non∧Q (.ref x) H2) E) :
  wpAny (model X.prog X.w) X.A (call (.ref C) us) (EP X pins σ Q) X.xe s:=by
 have hq:=h (s.heap.objs.size+1) s.heap.objs.size (I.hok.fresh (Nat.le_succ _)) (I.hok.fresh (VaI _)) (Vah (VaS _))
 have I2:=Inv.made (C:=C) I
 have r2:Vals (V.ref (s.heap.objs.size+1)::(vs++dvs)) (Value.ref (s.heap.objs.size+1)::(us++ds)):=.cons rfl (r.append hd)
 have hl:(Value.ref (s.heap.objs.size+1)::us++ds).length=ps.length:=by
  have e:=r2.length
  rw [F.len _ _ _ _ hq] at e
  exact e.symm
 refine wpAny_call (Zny (f:=f) I.kIn M.makes M.init (beq_iff_eq.mp M.fn) (VaW (F.run _ X.stack _ _ ⟨Value.ref (s.heap.objs.size+1)::us,[]⟩ (Value.ref (s.heap.objs.size+1)::(us++ds)) _ _ E (hr.make C us [])
  (I2.env0.make C us []) (hb _ (Value.ref (s.heap.objs.size+1)::us) I2.kIn hl) r2 hq) fun r s' hq'=>?_))
 cases r with
 | error e=>exact hx pins σ _ _ e s' I2 hq'
 | ok fl =>
  cases fl with
  | ret u =>
   obtain ⟨v,H',I3,rv,ev,q3⟩:=I2.after hq'
   subst ev
   exact ⟨rv,⟨V.ref (s.heap.objs.size+1),H',I3,rfl,q3⟩⟩
  | next=>exact False.elim hq'
  | brk=>exact False.elim hq'
  | cont=>exact False.elim hq'
theorem Zrj(M:Mk X.K C f)(F:FnOk X.prog X.w X.K X.mg X.base CX k f fd ps sp)(hr:Room (k+1) X.A)(hg:Gl X x)(hm:X.mg x=some (.ref C))(hb:Binds X.K fd ps ds)(hd:Vals dvs ds)(hx:ZbV CX X E)
  (ha:PA X (e::es) t) (hdb:(x==("__debug__" : Str))=false:=by decide) (he:starEach (e::es) X.env=(false,eval e X.env)::starEach es X.env:=by rfl) (hpl:(backTo pos (starEach es X.env)).any (·.1)=false:=by rfl) :
  PE X (.Call (.Name x p) (e::es) [] pos) (Zpf C sp dvs E t):=by
 intro pins s σ H Q I h
 refine VaX (Zg0 I hg hm ?_ hdb)
 refine W.callWith_K (h₀:=X.base) I.ok.mod.kin M.kp (thn (ha pos pins s σ H _ I h) fun us s1 ⟨vs,H1,I1,r,q⟩=>⟨I1.kIn,?_⟩) he hpl
 exact ZnK M F hr hb hd hx I1 r q
end
structure Zae(N P:List Str)(sc:Scope):Prop where
 kind:sc.kind=.function
 co:sc.isCoroutine=false
 gen:sc.isGenerator=false
 nd:N.Nodup
 pre:N.take P.length=P
 par:∀x∈P,sc.names.lookup x=some .local∨sc.names.lookup x=some .cell
 nofree:∀y∈sc.names,y.2≠.free
theorem ZhR{kindOf:Str→Option NameKind}{x:Str}:∀{binds:List (Str×Value)} {m:Str→Option Value},(∀v,(x,v)∉binds)→bindL kindOf binds m x=m x
 | [],_,_=>rfl
 | (n,v)::r,m,h=>by
  unfold bindL
  rw [ZhR fun w hw=>h w (Vap _ hw)]
  split
  ·have:x≠n:=by rintro rfl;exact h v Vao
   simp [this]
  ·rfl
theorem ZhP{kindOf:Str→Option NameKind}{x:Str}:∀{binds:List (Str×Value)} {m:Str→Option Value},(∀v,(x,v)∉binds)→bindC kindOf binds m x=m x
 | [],_,_=>rfl
 | (n,v)::r,m,h=>by
  unfold bindC
  rw [ZhP fun w hw=>h w (Vap _ hw)]
  split
  ·rfl
  ·have:x≠n:=by rintro rfl;exact h v Vao
   simp [this]
theorem Zig{kindOf:Str→Option NameKind}{x:Str}{v:Value}:∀{P:List Str} {vs:List Value} {i:Nat} {m:Str→Option Value},P.Nodup→P[i]?=some x→vs[i]?=some v→kindOf x=some .local →
  bindL kindOf (P.zip vs) m x=some v
 | [],_,_,_,_,h,_,_=>by simp at h
 | _::_,[],_,_,_,_,h,_=>by simp at h
 | p::P,w::vs,0,m,nd,h1,h2,hk=>by
  simp at h1 h2;subst h1;subst h2
  show bindL kindOf ((p,w)::P.zip vs) m p=_
  unfold bindL
  rw [ZhR fun v hv=>(VaY.mp nd).1 (VaZ hv).1,if_pos hk]
  simp
 | p::P,w::vs,i+1,m,nd,h1,h2,hk=>by
  show bindL kindOf ((p,w)::P.zip vs) m x=_
  unfold bindL
  exact Zig (i:=i) (VaY.mp nd).2 (by simpa using h1) (by simpa using h2) hk
theorem Zic{kindOf:Str→Option NameKind}{x:Str}{v:Value}:∀{P:List Str} {vs:List Value} {i:Nat} {m:Str→Option Value},P.Nodup→P[i]?=some x→vs[i]?=some v→kindOf x≠some .local →
  bindC kindOf (P.zip vs) m x=some v
 | [],_,_,_,_,h,_,_=>by simp at h
 | _::_,[],_,_,_,_,h,_=>by simp at h
 | p::P,w::vs,0,m,nd,h1,h2,hk=>by
  simp at h1 h2;subst h1;subst h2
  show bindC kindOf ((p,w)::P.zip vs) m p=_
  unfold bindC
  rw [ZhP fun v hv=>(VaY.mp nd).1 (VaZ hv).1,if_neg hk]
  simp
 | p::P,w::vs,i+1,m,nd,h1,h2,hk=>by
  show bindC kindOf ((p,w)::P.zip vs) m x=_
  unfold bindC
  exact Zic (i:=i) (VaY.mp nd).2 (by simpa using h1) (by simpa using h2) hk
def start(N:List Str)(vs:List V):St:=vs.map some++List.replicate (N.length - vs.length) none
def cxOf(CX:CXT)(P:Program)(w:World)(K:W.Frag)(mg:Str→Option Value)(base:Heap)(N:List Str)(qual:Str)(scope:Scope)(f:Addr)(cd:Value)(A:Around)(outer:List Env)(s:Shared)(H:Hp)(E:XK):Cx where
 prog:=P
 w:=w
 K:=K
 mg:=mg
 base:=base
 A:=A.deeper (envOfC qual scope s.heap.objs.size f cd)
 N:=N
 s₀:=s
 H₀:=H
 env:=envOfC qual scope s.heap.objs.size f cd
 outer:=outer
 stack:=envOfC qual scope s.heap.objs.size f cd::outer
 ex:=[]
 calm:=true
 fn:=fun _=>true
 pn:=[]
 xe:=fun e s'=>wpAny (model P w) (A.deeper (envOfC qual scope s.heap.objs.size f cd)) (leaving (envOfC qual scope s.heap.objs.size f cd) e) (fun _ s''=>CX outer H s E e s'') (fun e' s''=>CX outer H s E e' s'') s'
theorem Zi2{sc:Scope}{n:Nat}{x:Str}(h:sc.names.lookup x=some .cell):∃c,(cellsFrom n sc.names []).lookup x=some c:=by
 have q:=W.cellsFrom_some sc.names n [] (.inl h)
 exact Option.isSome_iff_exists.mp q
theorem Zls{CX:CXT}{P:Program}{w:World}{K:W.Frag}{mg:Str→Option Value}{base:Heap}{N ps:List Str}{qual:Str}{scope:Scope}{f:Addr}{cd:Value}{A:Around}{outer:List Env}{s s1:Shared}{H:Hp}{E:XK}{us:List Value}{vs:List V}
  (S:Zae N ps scope) (hd:A.handled=none) (e0:Env0 P w K mg base A outer s H) (hl:vs.length=ps.length) (r:Vals vs us)
  (x:InCallC s s.heap.objs.size (bindL (envOfC qual scope s.heap.objs.size f cd).kindOf (ps.zip us) fun _=>none) (cellsFrom (s.heap.objs.size+1) scope.names []) (bindC (envOfC qual scope s.heap.objs.size f cd).kindOf (ps.zip us) fun _=>none) s1) :
  Inv (cxOf CX P w K mg base N qual scope f cd A outer s H E) [] (start N vs) H s1:=by
 have hpl:ps.length≤N.length:=by have:=Vay List.length S.pre;rw [Va0] at this;omega
 obtain ⟨h1,tk,rfl,hk⟩:=x.done
 have noA:∀b:Addr,b∉(cxOf CX P w K mg base N qual scope f cd A outer s H E).ex:=fun b z=>absurd (show b∈([]:List Addr) from z) (by simp)
 refine ⟨⟨e0.mod,S.kind,rfl,rfl,VaI _,fun y z c h1 h2=>?_,fun y hy=>?_,fun y c _ h=>?_,fun _=>hd,Around.frames_deeper e0.frames,.inr ⟨rfl,rfl⟩,fun b z=>absurd z (noA b),e0.bs,e0.bsz,fun b _ _=>noA b,fun b z=>absurd z (noA b),e0.funs,e0.frf⟩,
  rfl,e0.bare,Un.kept hk,⟨_,x.toInCall.ns,fun i y v h1 h2 h3=>?_⟩,fun y c h=>⟨_,x.cell y c h⟩,e0.hok.fresh (VaI _),fun y c h=>?_,fun p hp=>absurd (show p∈([]:List (Addr×Obj)) from hp) (by simp),e0.hok.kept hk,?_⟩
 ·exact name_of_addr x.apart (Va1 h1) (Va1 h2)
 ·have hy:scope.names.lookup y=some .cell∨scope.names.lookup y=some .free:=hy
  rcases hy with hy | hy
  ·exact Zi2 hy
  ·exact absurd rfl (S.nofree _ (Va1 hy))
 ·exact Vam (x.above y c (Va1 h))
 ·have hi:i<vs.length:=by
   unfold start at h2
   by_cases hi:i<vs.length
   ·exact hi
   ·rw [Va2 (by simpa using hi)] at h2
    rw [Va3] at h2
    split at h2<;>cases h2
  have ha:vs[i]?=some v:=by
   unfold start at h2
   rw [Va4 (by simpa using hi),Va5] at h2
   cases e:vs[i]? with
   | none=>rw [e] at h2;cases h2
   | some a=>rw [e] at h2;cases h2;rfl
  obtain ⟨u,hu,rv⟩:=r.get ha
  have hp:ps[i]?=some y:=by
   rw [←S.pre,List.getElem?_take_of_lt (by omega)];exact h1
  have ndP:ps.Nodup:=by rw [←S.pre];exact S.nd.sublist (List.take_sublist _ _)
  refine ⟨u,rv,?_⟩
  rcases S.par y (Va6 hp) with k | k
  ·exact .inl ⟨k,Zig ndP hp hu k⟩
  ·obtain ⟨c,e⟩:=Zi2 (n:=s.heap.objs.size+1) k
   refine .inr ⟨.inl k,c,e,?_⟩
   have q:=x.cell y c e
   rw [Zic ndP hp hu (by show scope.names.lookup y≠_;rw [k];decide)] at q
   exact q
 ·exact e0.hok.fresh (Vam (x.above y c (Va1 h)))
 ·unfold start
  show _=N.length
  rw [Va7,VaQ,Va8]
  omega
theorem Zm4{CX:CXT}{P:Program}{w:World}{K:W.Frag}{mg:Str→Option Value}{base:Heap}{k:Nat}{f:Addr}{name qual:Str}{params:Arguments}{body:List Stmt}{scope:Scope}{dV kV doc pm cdv ct oc:Value}{an od:Option Addr}
  {osl:Array (Option Value)} {N ps:List Str} {sp:Sp} (lk:K.lookup f=some ⟨oc,od,.func (W.fnOf name qual params body scope dV kV doc pm an cdv ct),osl⟩) (hcd:W.codeIn K cdv qual=true) (S:Zae N ps scope)
  (len:∀vs H Q E,sp vs H Q E→vs.length=ps.length)
  (hbody:∀(A:Around) (outer:List Env) (s:Shared) (H:Hp) (vs:List V) (Q:VK) (E:XK),Room k (A.deeper (envOfC qual scope s.heap.objs.size f cdv))→sp vs H Q E →
   ∃t,PSs (cxOf CX P w K mg base N qual scope f cdv A outer s H E) body t∧t { nx:=fun _ H'=>Q .non H',rt:=Q } (start N vs) H) :
  FnOk P w K mg base CX (k+1) f (W.fnOf name qual params body scope dV kV doc pm an cdv ct) ps sp:=by
 refine ⟨len,fun A outer s H args us vs Q E hr e0 hb r hsp=>?_⟩
 have hl:=len _ _ _ _ hsp
 have KX:K.In s.heap:=e0.mod.kin.keeps fun b o e=>(e0.bs b o e).1
 have lim:s.heap.NoLimit:=e0.mod.nolimit.keeps fun b o e=>(e0.bs b o e).1
 have hkind:∀y∈ps.zip us,scope.names.lookup y.1=some .local∨(scope.names.lookup y.1=some .cell∧((cellsFrom (s.heap.objs.size+1) scope.names []).lookup y.1).isSome=true):=fun ⟨n,v⟩ hy=>by
  rcases S.par n (VaZ hy).1 with q | q
  ·exact .inl q
  ·exact .inr ⟨q,W.cellsFrom_some _ _ _ (.inl q)⟩
 refine codeAny_call_function hr.depth (KX _ _ lk) rfl S.co S.gen rfl (W.codeRec_of KX hcd) (hb _ _ _ _ ?_)
 refine wpAny_newFunctionEnv_cells S.kind hkind fun env he s1 x=>?_
 subst he
 refine ⟨lim.keeps x.toInCall.keep,codeAny_func ?_⟩
 obtain ⟨t,ht,hq⟩:=hbody A outer s H vs Q E (hr.deeper _) hsp
 have I:Inv (cxOf CX P w K mg base N qual scope f cdv A outer s H E) [] (start N vs) H s1:=Zls S hr.hd e0 hl r x
 refine Vaw (ht [] s1 (start N vs) H _ I hq) (fun fl s' hs=>?_) fun e s' hs=>hs
 have fin:∀{σ':St} {H':Hp} {v:V} {u:Value},Inv (cxOf CX P w K mg base N qual scope f cdv A outer s H E) [] σ' H' s'→RelV v u→Q v H'→CE outer P w H s Q u s' :=
  fun {σ' H' v u} J rv q=>⟨v,H',J.os,J.bare,J.base,J.hok,rv,q⟩
 cases fl with
 | ret u =>
  obtain ⟨v,σ',H',J,rv,q⟩:=hs
  exact fin J rv q
 | next =>
  obtain ⟨σ',H',J,q⟩:=hs
  exact fin (v:=V.non) (u:=Value.none) J rfl q
 | brk =>
  obtain ⟨_,_,_,q⟩:=hs
  exact False.elim q
 | cont =>
  obtain ⟨_,_,_,q⟩:=hs
  exact False.elim q
section
variable{X:Cx}{x:Str}{p pos:Pos}{e:Expr}{es:List Expr}{t:TA}{id T:String}{r:List V→Hp→VK→Prop}
def tCB(r:List V→Hp→VK→Prop)(t:TA):TE:=fun σ H Q=>t σ H fun vs H1=>r vs H1 Q
theorem Zjn(hc:Zex X (.builtin id) r)(hg:Gl X x)(hm:X.mg x=none)(hv:bootBuiltins x=some (.builtin id))(ha:PA X (e::es) t)(hn:x ≠ "__name__" := by decide)(hdb:(x==("__debug__" : Str))=false:=by decide)
  (he:starEach (e::es) X.env=(false,eval e X.env)::starEach es X.env:=by rfl) (hpl:(backTo pos (starEach es X.env)).any (·.1)=false:=by rfl):PE X (.Call (.Name x p) (e::es) [] pos) (tCB r t):=by
 intro pins s σ H Q I h
 refine VaX (Zfr I hg hm hv ?_ hn hdb)
 exact PyProof.Rows.callWith_builtin1 (thn (ha pos pins s σ H _ I h) fun us s1 ⟨vs,H1,I1,r1,q1⟩=>hc pins s1 σ H1 vs us Q I1 r1 q1) he hpl
theorem Zh7(hc:Zex X (.type T) r)(hg:Gl X x)(hm:X.mg x=none)(hv:bootBuiltins x=some (.type T))(ha:PA X (e::es) t)(hn:x ≠ "__name__" := by decide)(hdb:(x==("__debug__" : Str))=false:=by decide)
  (he:starEach (e::es) X.env=(false,eval e X.env)::starEach es X.env:=by rfl) (hpl:(backTo pos (starEach es X.env)).any (·.1)=false:=by rfl):PE X (.Call (.Name x p) (e::es) [] pos) (tCB r t):=by
 intro pins s σ H Q I h
 refine VaX (Zfr I hg hm hv ?_ hn hdb)
 exact VaJ (thn (ha pos pins s σ H _ I h) fun us s1 ⟨vs,H1,I1,r1,q1⟩=>hc pins s1 σ H1 vs us Q I1 r1 q1) he hpl
end
end L2
namespace HT
open PySem PyProof.Rows
section
open PySem.SeqAt
open PySem.AutoSeq1 (wpAny_loadPart')
open PySem.MeetsSeq PySem.MeetsSeq2 PySem.MeetsSeq3
end
section
variable{prog:Program}{w:World}{A:Around}{E:Value→Shared→Prop}{s:Shared}
theorem ZpJ{t b:Addr}{vs ws:List Value}{Q:Value→Shared→Prop}(ht:IsTup s.heap t vs.toArray)(hb:IsTup s.heap b ws.toArray)(hv:vs≠[])
  (h1:ws=[]→Q (.ref t) s) (h2:ws≠[]→Q (.ref s.heap.objs.size) { s with heap:=s.heap.push { cls:=.type "tuple", data:=.seq (vs++ws).toArray } })
  (hsz:vs.length+ws.length≤sizeLine):wpAny (model prog w) A (binaryOp .Add (.ref t) (.ref b)) Q E s:=by
 obtain ⟨⟨cls,dd,data,sl⟩,ho,hc,n,hd⟩:=id ht
 obtain ⟨⟨cls2,dd2,data2,sl2⟩,ho2,hc2,n2,hd2⟩:=id hb
 simp only at hc hd hc2 hd2
 subst hc hd hc2 hd2
 have e:vs.toArray++ws.toArray=(vs++ws).toArray:=by simp
 by_cases hw:ws=[]
 ·exact concat_meets ⟨_,ho,rfl⟩ ⟨_,ho2,rfl⟩ noFill_tuple_add seq_tuple_add PySem.F.slot_tuple_add PySem.F.entry_tuple_add (PySem.F.args_tuple_add_2 _ _)
   (tuple_addW1 t b vs.toArray ws.toArray n n2 dd dd2 sl sl2 (by simpa using hv) (by simp [hw])) ⟨ho,ho2,h1 hw⟩
 ·refine concat_meets ⟨_,ho,rfl⟩ ⟨_,ho2,rfl⟩ noFill_tuple_add seq_tuple_add PySem.F.slot_tuple_add PySem.F.entry_tuple_add (PySem.F.args_tuple_add_2 _ _)
   (tuple_addW2 t b vs.toArray ws.toArray n n2 dd dd2 sl sl2 (by simpa using hv) (by simpa using hw) (by rw [Va9,Va9];exact hsz)) ⟨ho,ho2,?_⟩
  rw [e]
  exact h2 hw
def sIx(n d:Nat):Option Int→Nat
 | none=>d
 | some v=>if v<0 then (v+(n:Int)).toNat else min v.toNat n
theorem Zse(n d:Nat)(hd:d≤n)(o:Option Int):sIx n d o≤n:=by
 cases o with
 | none=>exact hd
 | some v =>
  show (if v<0 then (v+(n:Int)).toNat else min v.toNat n)≤n
  by_cases hv:v<0
  ·rw [if_pos hv];omega
  ·rw [if_neg hv];exact Nat.min_le_right _ _
theorem Zlc(v:Int)(n d:Nat):(if v<0 then max (v+(n:Int)) 0 else min v (n:Int))=((sIx n d (some v):Nat):Int):=by
 show (if v<0 then max (v+(n:Int)) 0 else min v (n:Int))=(((if v<0 then (v+(n:Int)).toNat else min v.toNat n):Nat):Int)
 by_cases hv:v<0
 ·simp only [if_pos hv];omega
 ·simp only [if_neg hv];omega
theorem Zkw(lo hi:Option Int)(n:Nat):Builtin.Slice.sliceAdjust lo hi 1 (n:Int)=(((sIx n 0 lo:Nat):Int),((sIx n n hi:Nat):Int)):=by
 have h1:¬((1:Int)<0):=by omega
 unfold Builtin.Slice.sliceAdjust
 simp only [h1,Vba]
 refine Prod.ext ?_ ?_
 ·cases lo with
  | none=>rfl
  | some v=>exact Zlc v n 0
 ·cases hi with
  | none=>rfl
  | some v=>exact Zlc v n n
theorem Zko(i j:Nat):Builtin.Slice.slicePlaces (i:Int) (j:Int) 1=j - i:=by
 unfold Builtin.Slice.slicePlaces
 have h1:(1:Int)>0:=by omega
 simp only [h1,Vbb,Int.ediv_one]
 split<;>omega
theorem ZgE{v:Value}{o:Option Int}{Q:Option Int→Shared→Prop}(p:IsPart v o)(h:Q o s):wpAny (model prog w) A (Builtin.Slice.slicePartIndex v) Q E s:=by
 cases p with
 | none=>exact slicePart_none h
 | int i t=>exact slicePart_int h
theorem ZcS{sl:Addr}{vl vu:Value}{lo hi:Option Int}{n:Nat}{Q:Int×Int×Nat→Shared→Prop}(hs:s.heap.IsSliceOf sl vl vu .none)(pl:IsPart vl lo)(pu:IsPart vu hi)
  (h:Q (((sIx n 0 lo:Nat):Int),1,sIx n n hi - sIx n 0 lo) s):wpAny (model prog w) A (Builtin.Slice.sliceApplied (.ref sl) (pure (n:Int))) Q E s:=by
 obtain ⟨os,hos,hcs,hds⟩:=id hs
 unfold Builtin.Slice.sliceApplied Builtin.Slice.sliceFields
 refine Vaz (Vaz (Vbc hos hds (x:=vl) rfl (Vaz (Vbc hos hds (x:=vu) rfl (Vaz (Vbc hos hds (x:=.none) rfl (VaA ?_)))))))
 refine Vaz (slicePart_none ?_)
 show wpAny _ _ (if ((1:Int)==0)=true then _ else _) _ _ s
 rw [if_neg (by decide)]
 refine Vaz (ZgE pl (Vaz (ZgE pu (Vaz (VaA ?_)))))
 show wpAny _ _ (match Builtin.Slice.sliceAdjust lo hi 1 (n:Int) with | (lo,hi)=>pure (lo,(1:Int),Builtin.Slice.slicePlaces lo hi 1)) _ _ s
 rw [Zkw lo hi n]
 show wpAny _ _ (pure (((sIx n 0 lo:Nat):Int),(1:Int),Builtin.Slice.slicePlaces ((sIx n 0 lo:Nat):Int) ((sIx n n hi:Nat):Int) 1)) _ _ s
 rw [Zko]
 exact VaA h
theorem Zn8(xs:Array Value)(i k:Nat):((List.range k).filterMap fun (m:Nat)=>xs[((i:Int)+(m:Int)*1).toNat]?).toArray=((xs.toList.drop i).take k).toArray:=by
 have e:(fun (m:Nat)=>xs[((i:Int)+(m:Int)*1).toNat]?)=fun m=>xs[i+m]?:=by
  funext m
  have:((i:Int)+(m:Int)*1).toNat=i+m:=by omega
  rw [this]
 rw [e]
 have:=pick_run xs i k
 rw [List.filterMap_map] at this
 have e2:((fun x=>xs[x]?) ∘ fun x=>i+x)=fun m=>xs[i+m]?:=rfl
 rw [e2] at this
 rw [this]
theorem ZeE{t sl:Addr}{items:Array Value}{vl vu:Value}{lo hi:Option Int}{Q:Value→Shared→Prop}(ht:IsTup s.heap t items)(hs:s.heap.IsSliceOf sl vl vu .none)(pl:IsPart vl lo)(pu:IsPart vu hi)
  (hw:¬(sIx items.size 0 lo=0∧sIx items.size items.size hi=items.size))
  (h:Q (.ref s.heap.objs.size) { s with heap:=s.heap.push { cls:=.type "tuple", data:=.seq ((items.toList.drop (sIx items.size 0 lo)).take (sIx items.size items.size hi - sIx items.size 0 lo)).toArray } })
  (hsz:items.size≤sizeLine):wpAny (model prog w) A (getItem (.ref t) (.ref sl)) Q E s:=by
 have htake:sizeOk (.seq ((items.toList.drop (sIx items.size 0 lo)).take (sIx items.size items.size hi - sIx items.size 0 lo)).toArray):=by
  show ((items.toList.drop (sIx items.size 0 lo)).take (sIx items.size items.size hi - sIx items.size 0 lo)).toArray.size≤sizeLine
  rw [Va9,Va0,Vbd,Vax]
  omega
 have hj:sIx items.size items.size hi≤items.size:=Zse _ _ (VaI _) hi
 obtain ⟨os,hos,hcs,hds⟩:=id hs
 have hTs:s.TypeIs (.ref sl) "slice" := ⟨os,hos,hcs⟩
 unfold getItem
 try with_reducible refine Vbe ?_
 first | refine Vaz (VaA ?_) | skip
 refine Vaz (wpAny_sequenceKey ht.typeIs (by decide) ?_)
 refine Vaz (Vbf (name:=Str.ofString "__getitem__") ht.typeIs Vbg
  (Vbh Vbg ht.typeIs entry_tuple_getitem ?_ (args_tuple_getitem _ _)))
 show wpAny _ _ (Builtin.Tuple.tupleItemsOf (.ref t) >>= _) _ _ s
 refine Vaz (tupleItemsOf_ ht ?_)
 refine Vaz (Vbi hTs ?_)
 rw [if_pos (by decide)]
 refine Vaz (ZcS hs pl pu ?_)
 have hno:¬((((sIx items.size 0 lo:Nat):Int)==0&&(1:Int)==1&&(sIx items.size items.size hi - sIx items.size 0 lo)==items.size)=true):=by
  intro q
  rw [Vbj,Vbj] at q
  have q1:((sIx items.size 0 lo:Nat):Int)=0:=eq_of_beq q.1.1
  have q2:sIx items.size items.size hi - sIx items.size 0 lo=items.size:=eq_of_beq q.2
  exact hw ⟨by omega,by omega⟩
 show wpAny _ _ (if (((sIx items.size 0 lo:Nat):Int)==0&&(1:Int)==1&&(sIx items.size items.size hi - sIx items.size 0 lo)==items.size)=true then _ else _) _ _ s
 rw [if_neg hno,Zn8]
 first
  | exact Vaz (m:=Builtin.Tuple.tupleExact _) (VaB (VaA ⟨_,rfl,VaA h⟩) htake)
  | exact Vaz (m:=Builtin.Tuple.tupleExact _) (VaB (Vaz (VaA (VaA ⟨_,rfl,VaA h⟩))) htake)
  | exact Vaz (Vaz (m:=Builtin.Tuple.tupleExact _) (VaB (VaA (VaA ⟨_,rfl,VaA h⟩)) htake))
  | exact Vaz (Vaz (m:=Builtin.Tuple.tupleExact _) (VaB (VaA ⟨_,rfl,VaA h⟩) htake))
end
end HT
namespace L2
open PySem PySem.Spec PyProof.Rows
abbrev TO:=St→Hp→(Option Int→Hp→Prop)→Prop
def PO(X:Cx)(e:Option Expr)(t:TO):Prop :=
 ∀(pins:List (Addr×Obj)) (s:Shared) (σ:St) (H:Hp) (Q:Option Int→Hp→Prop),Inv X pins σ H s→t σ H Q →
  wpAny (model X.prog X.w) X.A (evalPart e X.env) (fun u s'=>∃o H',Inv X pins σ H' s'∧IsPart u o∧Q o H') X.xe s
def ZiY:TO:=fun _ H Q=>Q none H
def Zrf(t:TE):TO:=fun σ H Q=>t σ H fun x H1=>∃i,x=.int i∧Q (some i) H1
section
variable{X:Cx}{e:Expr}{te:TE}{lo hi:Option Expr}{tl th:TO}{pos p2:Pos}
theorem ZqB:PO X none ZiY:=by
 intro pins s σ H Q I h
 rw [evalPart_none]
 exact VaA ⟨none,H,I,.none,h⟩
theorem Zqt(h:PE X e te):PO X (some e) (Zrf te):=by
 intro pins s σ H Q I hw
 rw [evalPart_some]
 refine thn (h pins s σ H _ I hw) fun u s1 ⟨x,H1,I1,r1,q1⟩=>?_
 obtain ⟨i,rfl,q⟩:=q1
 obtain ⟨t,rfl⟩:=r1
 exact ⟨some i,H1,I1,.int i t,q⟩
def SlR(X:Cx)(r:V→Option Int→Option Int→Hp→VK→Prop):Prop :=
 ∀(pins:List (Addr×Obj)) (s:Shared) (σ:St) (H:Hp) (x:V) (v vl vu:Value) (lo hi:Option Int) (sl:Addr) (Q:VK),Inv X pins σ H s→RelV x v→s.heap.IsSliceOf sl vl vu .none→IsPart vl lo→IsPart vu hi→r x lo hi H Q →
  ∃T id,typeLookup (.type T) "__getitem__"=pure (some (.builtin id))∧s.TypeIs v T∧wpAny (model X.prog X.w) X.A (getItem v (.ref sl)) (EP X pins σ Q) X.xe s
theorem SlR.or{r r':V→Option Int→Option Int→Hp→VK→Prop}(h:SlR X r)(h':SlR X r'):SlR X (fun x lo hi H Q=>r x lo hi H Q∨r' x lo hi H Q):=by
 intro pins s σ H x v vl vu lo hi sl Q I rx hs pl pu q
 rcases q with q | q
 ·exact h pins s σ H x v vl vu lo hi sl Q I rx hs pl pu q
 ·exact h' pins s σ H x v vl vu lo hi sl Q I rx hs pl pu q
def tSl(r:V→Option Int→Option Int→Hp→VK→Prop)(te:TE)(tl th:TO):TE:=fun σ H Q=>te σ H fun x H1=>tl σ H1 fun l H2=>th σ H2 fun u H3=>r x l u H3 Q
theorem Zn3{r:V→Option Int→Option Int→Hp→VK→Prop}(hr:SlR X r)(he:PE X e te)(hl:PO X lo tl)(hu:PO X hi th):PE X (.Subscript e (.Slice lo hi none p2) pos) (tSl r te tl th):=by
 intro pins s σ H Q I h
 refine Subscript_ (thn (he pins s σ H _ I h) fun v s1 ⟨x,H1,I1,r1,q1⟩=>?_)
 refine wpAny_Slice (thn (hl pins s1 σ H1 _ I1 q1) fun vl s2 ⟨l,H2,I2,pl,q2⟩=>thn (hu pins s2 σ H2 _ I2 q2) fun vu s3 ⟨u,H3,I3,pu,q3⟩=>?_)
 rw [evalPart_none]
 refine VaA ?_
 have I4:Inv X pins σ H3 { s3 with heap:=s3.heap.push { cls:=.type "slice", data:=.fields #[vl,vu,.none] } }:=I3.kept (t':=s3.toks) fun b ob q=>VaC _ q
 obtain ⟨T,id,hT,ht,hg⟩:=hr pins { s3 with heap:=s3.heap.push { cls:=.type "slice", data:=.fields #[vl,vu,.none] } } σ H3 x v vl vu l u s3.heap.objs.size Q I4 r1 (Heap.IsSliceOf.new ..) pl pu q3
 show wpAny (model X.prog X.w) X.A (subscriptTail e (.Slice lo hi none p2) v (.ref s3.heap.objs.size)) (EP X pins σ Q) X.xe { s3 with heap:=s3.heap.push { cls:=.type "slice", data:=.fields #[vl,vu,.none] } }
 exact tail_any (ops:=[.ref s3.heap.objs.size,v]) ht hT hg (by with_unfolding_all rfl)
def cutV(xs:List V)(lo hi:Option Int):List V:=(xs.drop (HT.sIx xs.length 0 lo)).take (HT.sIx xs.length xs.length hi - HT.sIx xs.length 0 lo)
theorem ZfD(xs:List V)(lo hi:Option Int):(cutV xs lo hi).length≤xs.length:=by
 unfold cutV
 rw [Va0,Vbd]
 omega
def rSlT(K:W.Frag):V→Option Int→Option Int→Hp→VK→Prop:=fun x lo hi H Q=>∃a xs,x=.ref a∧SqT K H a xs ∧
 ¬(HT.sIx xs.length 0 lo=0∧HT.sIx xs.length xs.length hi=xs.length)∧∀p,H p=none→Q (.ref p) (upd H p (.tup (cutV xs lo hi)))
theorem Zr7:SlR X (rSlT X.K):=by
 intro pins s σ H x v vl vu lo hi sl Q I rx hs pl pu h
 obtain ⟨a,xs,rfl,hx,hw,q⟩:=h
 cases rx
 obtain ⟨its,r,ht,hz⟩:=I.tuple hx
 have hlen:its.toArray.size=xs.length:=by rw [Va9];exact r.length.symm
 refine ⟨"tuple", _,PyProof.Rows.slot_tuple_getitem.lookup,ht.typeIs,?_⟩
 refine HT.ZeE ht hs pl pu (by rw [hlen];exact hw) ?_ (by rw [hlen];exact hz)
 rw [hlen]
 refine ⟨.ref s.heap.objs.size,_,I.laid (t':=s.toks) (o:=.tup (cutV xs lo hi)) (fun b ob q=>VaC _ q) (VaI _) ?_,rfl,q _ (I.hok.fresh (VaI _))⟩
 exact ⟨Vak (ZfD xs lo hi) hz,_,(r.drop (HT.sIx xs.length 0 lo)).take (HT.sIx xs.length xs.length hi - HT.sIx xs.length 0 lo),IsTup.new _ _⟩
def ZuX(K:W.Frag):R2:=fun x y H Q=>∃a b xs ys,x=.ref a∧y=.ref b∧SqT K H a xs∧SqT K H b ys∧xs≠[]∧xs.length+ys.length≤sizeLine ∧
 (ys=[]→Q (.ref a) H)∧(ys≠[]→∀p,H p=none→Q (.ref p) (upd H p (.tup (xs++ys))))
theorem Vals.nil_iff{xs:List V}{us:List Value}(r:Vals xs us):us=[]↔xs=[]:=by
 cases r with
 | nil=>simp
 | cons _ _=>simp
theorem ZpE:OpR X (binaryOp .Add) (ZuX X.K):=by
 intro pins s σ H x y v u Q I rx ry h
 obtain ⟨a,b,xs,ys,rfl,rfl,ha,hb,hx,hz,q1,q2⟩:=h
 cases rx
 cases ry
 obtain ⟨its,r1,p1,_⟩:=I.tuple ha
 obtain ⟨its2,r2,p2,_⟩:=I.tuple hb
 refine HT.ZpJ p1 p2 (fun z=>hx (r1.nil_iff.mp z)) (fun z=>⟨.ref a,H,I,rfl,q1 (r2.nil_iff.mp z)⟩) (fun z=>?_) (by rw [←r1.length,←r2.length];exact hz)
 refine ⟨.ref s.heap.objs.size,_,I.laid (t':=s.toks) (o:=.tup (xs++ys)) (fun b ob q=>VaC _ q) (VaI _) ?_,rfl,q2 (fun w=>z (r2.nil_iff.mpr w)) _ (I.hok.fresh (VaI _))⟩
 exact ⟨by rw [Va7];exact hz,_,r1.append r2,IsTup.new _ _⟩
end
def ixN(n:Nat)(i:Int):Option Nat:=if 0≤i then (if i<n then some i.toNat else none) else if -(n:Int)≤i then some (i+n).toNat else none
def atI{α:Type}(xs:List α)(i:Int):Option α:=(ixN xs.length i).bind fun j=>xs[j]?
theorem Zqx{n:Nat}{i:Int}{j:Nat}(h:ixN n i=some j):seqIndex? i n=some j∧j<n∧-(n:Int)≤i∧i<n:=by
 unfold ixN at h
 by_cases h0:0≤i
 ·rw [if_pos h0] at h
  by_cases h1:i<n
  ·rw [if_pos h1] at h
   have e:i.toNat=j:=Vav h
   exact ⟨by rw [seqIndex_of h0 h1,e],by omega,by omega,h1⟩
  ·rw [if_neg h1] at h;cases h
 ·rw [if_neg h0] at h
  by_cases h1:-(n:Int)≤i
  ·rw [if_pos h1] at h
   have e:(i+n).toNat=j:=Vav h
   exact ⟨by rw [seqIndex_neg (by omega) h1,e],by omega,h1,by omega⟩
  ·rw [if_neg h1] at h;cases h
theorem Zlo{α:Type}{xs:List α}{i:Int}{v:α}(h:atI xs i=some v):∃j,seqIndex? i xs.length=some j∧xs[j]?=some v∧j<xs.length∧-(xs.length:Int)≤i∧i<xs.length:=by
 unfold atI at h
 cases e:ixN xs.length i with
 | none=>rw [e] at h;cases h
 | some j =>
  rw [e] at h
  obtain ⟨h1,h2,h3,h4⟩:=Zqx e
  exact ⟨j,h1,h,h2,h3,h4⟩
def Zla(b:Expr):Prop:=∀o i,subscripted b false o i=operate [o,i] (getItem o i)
def IxR(X:Cx)(r:R2):Prop :=
 ∀(value slice:Expr) (pins:List (Addr×Obj)) (s:Shared) (σ:St) (H:Hp) (x y:V) (v u:Value) (Q:VK),Inv X pins σ H s→RelV x v→RelV y u→r x y H Q →
  subscripted slice false v u=operate [v,u] (getItem v u)→wpAny (model X.prog X.w) X.A (subscriptTail value slice v u) (EP X pins σ Q) X.xe s
def MtR(X:Cx)(id:String)(r:V→List V→Hp→VK→Prop):Prop :=
 ∀(pins:List (Addr×Obj)) (s:Shared) (σ:St) (H:Hp) (x:V) (xs:List V) (v:Value) (us:List Value) (Q:VK),Inv X pins σ H s→RelV x v→Vals xs us→r x xs H Q →
  wpAny (model X.prog X.w) X.A (call (.builtin id) (v::us)) (EP X pins σ Q) X.xe s
section
variable{X:Cx}{a b:Expr}{ta tb:TE}{pos:Pos}
theorem IxR.or{r r':R2}(h:IxR X r)(h':IxR X r'):IxR X (fun x y H Q=>r x y H Q∨r' x y H Q):=by
 intro value slice pins s σ H x y v u Q I rx ry q hs
 rcases q with q | q
 ·exact h value slice pins s σ H x y v u Q I rx ry q hs
 ·exact h' value slice pins s σ H x y v u Q I rx ry q hs
theorem Zuy{r:R2}(hr:IxR X r)(ha:PE X a ta)(hb:PE X b tb)(hs:Zla b):PE X (.Subscript a b pos) (tOp r ta tb):=by
 intro pins s σ H Q I h
 exact Subscript_ (binT ha hb I h fun v u s2 x y H2 I2 rx ry q=>hr a b pins s2 σ H2 x y v u Q I2 rx ry q (hs _ _))
def rIxL(K:W.Frag):R2:=fun x y H Q=>∃p xs i v,x=.ref p∧y=.int i∧SqL K H p xs∧atI xs i=some v∧Q v H
def rIxT(K:W.Frag):R2:=fun x y H Q=>∃p xs i v,x=.ref p∧y=.int i∧SqT K H p xs∧atI xs i=some v∧Q v H
theorem ZqW:IxR X (rIxL X.K):=by
 intro value slice pins s σ H x y v u Q I rx ry h hs
 obtain ⟨p,xs,i,z,rfl,rfl,hq,he,q⟩:=h
 cases rx
 obtain ⟨t,rfl⟩:=ry
 obtain ⟨its,r,pl,hz⟩:=I.list hq
 obtain ⟨j,h1,h2,h3,h4,h5⟩:=Zlo he
 obtain ⟨w,ew,rw'⟩:=r.get h2
 have hl:=r.length
 have hn:=Zi4
 have fin:EP X pins σ Q w s:=⟨z,H,I,rw',q⟩
 by_cases h0:0≤i
 ·have hj:i.toNat=j:=by
   rw [seqIndex_of h0 h5] at h1
   exact Vav h1
  exact item_listR pl.isList h0 (by omega) (by rw [hj];simpa using ew) fin hs
 ·have hj:(i+(its.toArray.size:Int)).toNat=j:=by
   rw [seqIndex_neg (by omega) h4] at h1
   rw [Va9,←hl]
   exact Vav h1
  exact subscriptTail_builtinR (x:=w) pl.isList.typeIs slot_list_getitem.lookup
   (wpAny_getItem_list_neg (Q:=fun r s'=>r=w∧EP X pins σ Q r s') pl.isList (by omega) (by rw [Va9]<;>omega) (by omega) (by rw [hj];simpa using ew) ⟨rfl,fin⟩) hs
theorem Zsp:IxR X (rIxT X.K):=by
 intro value slice pins s σ H x y v u Q I rx ry h hs
 obtain ⟨p,xs,i,z,rfl,rfl,hq,he,q⟩:=h
 cases rx
 obtain ⟨t,rfl⟩:=ry
 obtain ⟨its,r,pl,hz⟩:=I.tuple hq
 obtain ⟨j,h1,h2,h3,h4,h5⟩:=Zlo he
 obtain ⟨w,ew,rw'⟩:=r.get h2
 have hl:=r.length
 have hn:=Zi4
 have fin:EP X pins σ Q w s:=⟨z,H,I,rw',q⟩
 exact subscriptTail_builtinR (x:=w) pl.typeIs slot_tuple_getitem.lookup
  (getItem_tuple (j:=j) (Q:=fun r s'=>r=w∧EP X pins σ Q r s') pl (by omega) (by omega) (by rw [Va9,←hl];exact h1) (by simpa using ew) ⟨rfl,fin⟩) hs
theorem Zif(lo hi:Option Int)(n:Nat):(sliceBounds lo hi none n).1=((HT.sIx n 0 lo:Nat):Int)∧(sliceBounds lo hi none n).2.1=((HT.sIx n n hi:Nat):Int)∧(sliceBounds lo hi none n).2.2=1:=by
 refine ⟨?_,?_,rfl⟩
 ·cases lo with
  | none=>simp [sliceBounds,HT.sIx]
  | some i =>
   simp only [sliceBounds,HT.sIx,Option.getD_none,show (1:Int)>0 by decide,Vbb]
   by_cases h:i<0
   ·simp only [h,Vbb]<;>omega
   ·simp only [h,Vba]<;>omega
 ·cases hi with
  | none=>simp [sliceBounds,HT.sIx]
  | some i =>
   simp only [sliceBounds,HT.sIx,Option.getD_none,show (1:Int)>0 by decide,Vbb]
   by_cases h:i<0
   ·simp only [h,Vbb]<;>omega
   ·simp only [h,Vba]<;>omega
theorem Zg8(its:List Value)(lo hi:Option Int):slicePick its.toArray lo hi none=((its.drop (HT.sIx its.length 0 lo)).take (HT.sIx its.length its.length hi - HT.sIx its.length 0 lo)).toArray:=by
 obtain ⟨h1,h2,h3⟩:=Zif lo hi its.toArray.size
 unfold slicePick
 rw [h1,h2,h3]
 simp only [sliceRange_one,pick_run,Va9]<;>rfl
def rSlL(K:W.Frag):V→Option Int→Option Int→Hp→VK→Prop:=fun x lo hi H Q=>∃a xs,x=.ref a∧SqL K H a xs∧∀p,H p=none→Q (.ref p) (upd H p (.lst (cutV xs lo hi)))
theorem Zqn:SlR X (rSlL X.K):=by
 intro pins s σ H x v vl vu lo hi sl Q I rx hs pl pu h
 obtain ⟨a,xs,rfl,hx,q⟩:=h
 cases rx
 obtain ⟨its,r,ht,hz⟩:=I.list hx
 have hlen:=r.length
 refine ⟨"list", _,slot_list_getitem.lookup,ht.isList.typeIs,?_⟩
 refine wpAny_getItem_list_slice ht.isList hs pl pu .none (by simp) ?_ (by rw [Va9]<;>omega)
 rw [Zg8,←hlen]
 refine ⟨.ref s.heap.objs.size,_,I.laid (t':=s.toks) (o:=.lst (cutV xs lo hi)) (fun b ob q=>VaC _ q) (VaI _) ?_,rfl,q _ (I.hok.fresh (VaI _))⟩
 exact ⟨Vak (ZfD xs lo hi) hz,_,0,(r.drop (HT.sIx xs.length 0 lo)).take (HT.sIx xs.length xs.length hi - HT.sIx xs.length 0 lo),VaH _ rfl⟩
theorem ZbJ:Zex X (.builtin "len") (fun xs H Q=>∃p ys,xs=[.ref p]∧(SqL X.K H p ys∨SqT X.K H p ys)∧Q (.int ys.length) H):=by
 intro pins s σ H xs us Q I r h
 obtain ⟨p,ys,rfl,hq,q⟩:=h
 obtain ⟨u,rfl,rx⟩:=vals1 r
 cases rx
 have hn:=Zi4
 rcases hq with hq | hq
 ·obtain ⟨its,r',pl,hz⟩:=I.list hq
  have hlen:=r'.length
  exact Calls.call_len_list pl.isList (by simp only [Va9]<;>omega) ⟨.int ys.length,H,I.tok _,⟨s.toks+1,by rw [Va9,hlen]⟩,q⟩
 ·obtain ⟨its,r',pl,hz⟩:=I.tuple hq
  have hlen:=r'.length
  exact len_tuple pl (by simp only [Va9]<;>omega) ⟨.int ys.length,H,I.tok _,⟨s.toks+1,by rw [Va9,hlen]⟩,q⟩
theorem ZhU:Zex X (.type "list") (fun xs H Q=>∃p ys,xs=[.ref p]∧(SqL X.K H p ys∨SqT X.K H p ys)∧∀l,H l=none→Q (.ref l) (upd H l (.lst ys))):=by
 intro pins s σ H xs us Q I r h
 obtain ⟨p,ys,rfl,hq,q⟩:=h
 obtain ⟨u,rfl,rx⟩:=vals1 r
 cases rx
 have fin:∀(its:List Value),Vals ys its→ys.length≤sizeLine→∀(h':Heap) (c':Nat),(∀b o',s.heap.get? b=some o'→h'.get? b=some o') →
   h'.get? s.heap.objs.size=some { cls:=.type "list", dict:=none,data:=.seq its.toArray c',slots:=#[] }→EP X pins σ Q (.ref s.heap.objs.size) { s with heap:=h' }:=fun its r' hz h' c' kp e =>
  ⟨.ref s.heap.objs.size,_,I.laid (t':=s.toks) kp (VaI _) (show ZbS X.prog X.w _ h' _ (.lst ys) from ⟨hz,its,c',r',e⟩),rfl,q _ (I.hok.fresh (VaI _))⟩
 rcases hq with hq | hq
 ·obtain ⟨its,r',pl,hz⟩:=I.list hq
  have hlen:=r'.length
  obtain ⟨o,ho,hc,n,hd⟩:=pl.isList
  exact call_list_seq p (.inl rfl) ho hc hd (fun h' c' kp e=>fin its r' hz h' c' kp e) (by simp only [Va9]<;>omega)
 ·obtain ⟨its,r',pl,hz⟩:=I.tuple hq
  have hlen:=r'.length
  obtain ⟨o,ho,hc,n,hd⟩:=pl
  exact call_list_seq p (.inr rfl) ho hc hd (fun h' c' kp e=>fin its r' hz h' c' kp e) (by simp only [Va9]<;>omega)
theorem Zbo:Zex X (.type "tuple") (fun xs H Q=>∃p ys,xs=[.ref p]∧((SqL X.K H p ys∧∀l,H l=none→Q (.ref l) (upd H l (.tup ys)))∨(SqT X.K H p ys∧Q (.ref p) H))):=by
 intro pins s σ H xs us Q I r h
 obtain ⟨p,ys,rfl,h⟩:=h
 obtain ⟨u,rfl,rx⟩:=vals1 r
 cases rx
 rcases h with ⟨hq,q⟩ | ⟨hq,q⟩
 ·obtain ⟨its,r',pl,hz⟩:=I.list hq
  have hlen:=r'.length
  refine call_tuple_list pl.isList (fun h' kp=>?_) (by simp only [Va9]<;>omega)
  have I1:Inv X pins σ H { s with heap:=h' }:=I.kept (t':=s.toks) kp
  have I2:Inv X pins σ (upd H h'.objs.size (.tup ys)) { s with heap:=h'.push { cls:=.type "tuple", data:=.seq its.toArray } } :=
   I1.laid (t':=s.toks) (fun b o e=>VaC _ e) (VaI _) (show ZbS X.prog X.w _ _ _ (.tup ys) from ⟨hz,its,r',IsTup.new _ _⟩)
  exact ⟨.ref h'.objs.size,_,I2,rfl,q _ (I1.hok.fresh (VaI _))⟩
 ·obtain ⟨its,r',pl,hz⟩:=I.tuple hq
  exact call_tuple_same pl ⟨.ref p,H,I,rfl,q⟩
def tyV(K:W.Frag)(T:String)(x:V)(H:Hp):Prop:=match x with
 | .str _=>T = "str"
 | .int _=>T = "int"
 | .ref p=>(T = "list"∧∃xs,SqL K H p xs)∨(T = "tuple"∧∃o,K.lookup p=some o∧o.cls=.type "tuple"∧o.dict=none) ∨
   (T = "dict"∧((∃kvs,H p=some (.dK kvs))∨∃kvs,H p=some (.dT kvs)))∨(T = "set"∧∃S n,H p=some (.set S n))
 | _=>False
theorem ZsA{pins:List (Addr×Obj)}{σ:St}{H:Hp}{s:Shared}{T:String}{x:V}{v:Value}(I:Inv X pins σ H s)(r:RelV x v)(ty:tyV X.K T x H) :
  s.TypeIs v T∧∀a,v=.ref a→∃ob,s.heap.get? a=some ob∧ob.dict=none:=by
 cases x with
 | str z =>
  obtain ⟨t,rfl⟩:=r
  cases (show T = "str" from ty)
  exact ⟨typeIs_str s z t,fun _ e=>nomatch e⟩
 | int i =>
  obtain ⟨t,rfl⟩:=r
  cases (show T = "int" from ty)
  exact ⟨typeIs_int s i t,fun _ e=>nomatch e⟩
 | ref p =>
  cases r
  rcases ty with ⟨rfl,xs,hq⟩ | ⟨rfl,o,hk,hc,hd⟩ | ⟨rfl,hk⟩ | ⟨rfl,S,n,hk⟩
  ·obtain ⟨its,_,pl,_⟩:=I.list hq
   refine ⟨pl.isList.typeIs,fun a e=>?_⟩
   cases e
   obtain ⟨o,n,e,c,hd,_⟩:=pl
   exact ⟨o,e,hd⟩
  ·refine ⟨⟨o,I.kIn p o hk,hc⟩,fun a e=>?_⟩
   cases e
   exact ⟨o,I.kIn _ o hk,hd⟩
  ·have z:∃o,s.heap.get? p=some o∧o.ExactDict:=by
    rcases hk with ⟨kvs,hk⟩ | ⟨kvs,hk⟩
    ·obtain ⟨_,_,_,_,o,_,_,e,ex,_⟩:=I.hok p _ hk
     exact ⟨o,e,ex⟩
    ·obtain ⟨_,_,_,_,o,_,_,e,ex,_⟩:=I.hok p _ hk
     exact ⟨o,e,ex⟩
   obtain ⟨o,e,ex⟩:=z
   refine ⟨⟨o,e,ex.1⟩,fun a e2=>?_⟩
   cases e2
   exact ⟨o,e,ex.2.1⟩
  ·obtain ⟨o,_,_,_,e,ex,_⟩:=I.hok p _ hk
   refine ⟨⟨o,e,ex.1⟩,fun a e2=>?_⟩
   cases e2
   exact ⟨o,e,ex.2.1⟩
 | _=>exact False.elim ty
def tBM(K:W.Frag)(T:String)(r:V→List V→Hp→VK→Prop)(to:TE)(t:TA):TE:=fun σ H Q=>to σ H fun x H1=>tyV K T x H1∧t σ H1 fun xs H2=>r x xs H2 Q
variable{o e:Expr}{es:List Expr}{to:TE}{t:TA}{name:Str}{apos cpos:Pos}{T id:String}{r:V→List V→Hp→VK→Prop}
theorem Znz(pa:PlainAttrs T)(slot:Slot T name id)(hty:typeOf (.builtin id)=pure (.type "method_descriptor"))(hm:MtR X id r)(ho:PE X o to)(ha:PA X (e::es) t)
  (hbase:attributeBase o name X.env (eval o X.env)=eval o X.env:=by rfl)
  (hfew:((backTo cpos (starEach (e::es) X.env)).all (fun x=>!x.1)&&(backToKw cpos (keywordEach [] X.env)).all (fun x=>x.1.isSome)
   && decide ((e::es).length+([]:List Keyword).length+(if ([]:List Keyword).isEmpty then 0 else 1)<30))=true:=by rfl)
  (hline:(apos.endLine==cpos.line)=true:=by rfl) (hs:starEach (e::es) X.env=(false,eval e X.env)::starEach es X.env:=by rfl) (hplain:(backTo cpos (starEach es X.env)).any (·.1)=false:=by rfl) :
  PE X (.Call (.Attribute o name apos) (e::es) [] cpos) (tBM X.K T r to t):=by
 intro pins s σ H Q I h
 refine wpAny_Call_method_late hbase hfew hline rfl (thn (ho pins s σ H _ I h) fun v s1 ⟨x,H1,I1,r1,ty,q1⟩=>?_)
 obtain ⟨h1,h2⟩:=ZsA I1 r1 ty
 refine ⟨T,id,pa,slot,hty,h1,h2,?_⟩
 have hA:=ha cpos pins s1 σ H1 _ I1 q1
 rw [hs] at hA ⊢
 refine Calls.callWith_builtin (by show (false||(backTo cpos (starEach es X.env)).any (·.1))=false;rw [hplain]<;>rfl) (Calls.evalArgs_plain ?_)
 exact thn hA fun us s2 ⟨vs,H2,I2,r2,q2⟩=>hm pins s2 σ H2 x vs v us Q I2 r1 r2 q2
end
def MtM(X:Cx)(id:String)(r:V→List V→Hp→VK→Prop):Prop :=
 ∀(pins:List (Addr×Obj)) (s:Shared) (σ:St) (H:Hp) (x:V) (xs:List V) (v:Value) (us:List Value) (Q:VK),Inv X pins σ H s→RelV x v→Vals xs us→r x xs H Q →
  wpAny (model X.prog X.w) X.A (call (.builtin id) (v::us)) (EP X pins σ Q) X.xe s
theorem Vals.one:∀{x:V} {us:List Value},Vals [x] us→∃u,us=[u]∧RelV x u
 | _,_,.cons r .nil=>⟨_,rfl,r⟩
section
variable{X:Cx}{pins:List (Addr×Obj)}{σ:St}{H:Hp}{s:Shared}{l b:Addr}{xs ys zs:List V}
theorem Inv.lset{its its':List Value}{n:Nat}{f:Array Value→Array Value}{t':Nat}(I:Inv X pins σ H s)(hH:H l=some (.lst xs))
  (e:s.heap.get? l=some { cls:=.type "list", data:=.seq its.toArray n }) (hf:f its.toArray=its'.toArray) (hv:Vals ys its') (hz:ys.length≤sizeLine) :
  Inv X pins σ (upd H l (.lst ys)) { s with heap:=s.heap.update l (Obj.mapSeq f),toks:=t' }:=by
 have q:=PySem.IsL.update e f
 rw [hf] at q
 refine I.write (x:=l) (e:=l) (by rw [hH];exact trivial) (.inl rfl) (fun b' u hb hu=>(Vbk s.heap (Obj.mapSeq f) (Ne.symm hb)).trans hu) ⟨_,q⟩ ?_
 exact ⟨hz,its',_,hv,q⟩
theorem Inv.lnew{its:List Value}{t':Nat}(I:Inv X pins σ H s)(hv:Vals ys its)(hz:ys.length≤sizeLine) :
  Inv X pins σ (upd H s.heap.objs.size (.lst ys)) { s with heap:=s.heap.push { cls:=.type "list", data:=.seq its.toArray },toks:=t' } :=
 I.laid (fun _ _ q=>VaC _ q) (VaI _) ⟨hz,its,0,hv,VaH _ rfl⟩
theorem Inv.fresh(I:Inv X pins σ H s):H s.heap.objs.size=none:=I.hok.fresh (VaI _)
theorem Inv.lstM(I:Inv X pins σ H s)(hH:H l=some (.lst xs)):xs.length≤sizeLine∧∃(its:List Value) (n:Nat),Vals xs its∧xs.length=its.length∧s.heap.get? l=some { cls:=.type "list", data:=.seq its.toArray n }:=by
 obtain ⟨z,its,n,r,e⟩:=I.hok l _ hH
 exact ⟨z,its,n,r,r.length,e⟩
end
section
variable{X:Cx}
def ZeL:V→List V→Hp→VK→Prop:=fun x vs H Q=>∃l xs y,x=.ref l∧vs=[y]∧H l=some (.lst xs)∧xs.length<sizeLine∧Q .non (upd H l (.lst (xs++[y])))
theorem Zlu:MtM X "list.append" ZeL:=by
 intro pins s σ H x vs v us Q I rx rv h
 obtain ⟨l,xs,y,rfl,rfl,hH,hz,q⟩:=h
 cases rx
 obtain ⟨u,rfl,ru⟩:=rv.one
 obtain ⟨z,its,n,r,hl,e⟩:=I.lstM hH
 refine call_meets F.slot_list_append ⟨_,e,rfl⟩ F.entry_list_append (F.args_list_append_2 _ _) (PySem.list_append l its.toArray n u (by rw [Va9];omega)) ⟨e,?_⟩
 refine ⟨.non,_,I.lset (its':=its++[u]) hH e (by simp) (r.append (.cons ru .nil)) ?_,rfl,q⟩
 rw [Va7,Vbl]
 omega
end
section
variable{prog:Program}{w:World}{A:Around}{E:Value→Shared→Prop}{s:Shared}
set_option maxRecDepth 100000 in
end
end L2
namespace Att
open PySem PySem.W PySem.Calls PyProof.Rows
theorem Zfg{P:Params}{h:Heap}:∀(ns:List Int) (vs:List Value),WellAll P h vs (ns.map WData.int)→IntsAre vs ns:=by
 intro ns
 induction ns with
 | nil =>
  intro vs w
  rw [List.map_nil] at w
  cases w
  exact .nil
 | cons n ns ih =>
  intro vs w
  rw [VaP] at w
  cases w with
  | cons a b =>
   cases a
   exact .cons _ _ (ih _ b)
theorem Zlp{l:OpenLaw}{n:Nat}(hn:l.most=some n){P:Params}{h:Heap}{args:List WData}{vals:List Value}
  (hpre:l.row.toRowW.claim.pre args=true) (hwl:WellAll P h vals args) :
  ∃a vs ns,vals=[Value.ref a]∧args=[WData.list (ns.map WData.int)]∧h.get? a=some { cls:=.type "list", data:=.seq vs.toArray }∧IntsAre vs ns∧ns.length≤n:=by
 have hsh:WShape.hasAll [] args [.list .int]=true:=(pre_splitW hpre).1
 have hc:l.pre.holds [] { args:=args }=true:=(pre_splitW hpre).2
 obtain ⟨d,r,rfl,h1,h2⟩:=hasAllW_cons hsh
 obtain rfl:=hasAllW_nil h2
 obtain ⟨xs,rfl,h3⟩:=hasW_list h1
 obtain ⟨ns,rfl⟩:=items_int h3
 have hlen:ns.length≤n:=by
  unfold OpenLaw.pre at hc
  have h4:(WTm.not (.lt (.lit (.int (n:Int))) (.len (.arg 0)))).holds [] { args:=[.list (ns.map .int)] }=true:=by
   have h4:=(holds_andW hc).1
   rw [hn] at h4
   exact h4
  have h5:=condW_of h4 (w_not (w_lt w_lit (w_len_list (w_arg rfl))))
  rw [VaQ] at h5
  refine Nat.le_of_not_lt fun q=>?_
  have q':(n:Int)<((ns.length:Nat):Int):=by omega
  first
   | (rw [Vbm q'] at h5;exact absurd h5 (by decide))
   | (simp at h5;omega)
 cases hwl with
 | cons w1 w2 =>
  cases w2
  cases w1 with
  | list ho hall=>exact ⟨_,_,ns,rfl,rfl,ho,Zfg ns _ hall,hlen⟩
theorem ZkQ(l:OpenLaw)(args:List WData):l.row.toRowW.claim.post args (.bool true) args=true :=
 postW_of (r:=l.row.toRowW) (X:=(true==true))
  (show WShape.has [] (.bool true) .bool=true by first | rfl | decide | simp [WShape.has,WShape.arms,WShape.armsAll])
  (show (WTm.eq .res (.lit (.bool true))).value [] { args:=args,res:=some (.bool true),after:=args }=some (.bool (true==true)) from w_eq_bool (w_res rfl) w_lit) rfl
theorem ZiN{l:OpenLaw}{n:Nat}{q:Program}{loose:List Str}{XP:(Str→Option Value)→Heap→Prop}{YP:World→Heap→Prop}{d:DefRec}
  (hn:l.most=some n) (hdf:d.params.defaults=[])
  (call:∀(w:World) (s₀ s₁:Shared) (mg mb:Str→Option Value) (fa:Addr) (o:Obj) (pm cd doc:Value) (a:Addr) (vs:List Value) (ns:List Int),
   Ground q loose [] XP w s₀ mg mb s₁.heap→YP w s₁.heap →
   s₁.heap.get? fa=some o→o.data=.func (docDef d.name d.params d.body d.scope pm cd doc)→s₁.heap.CodeRec cd d.name→mg d.name=some (.ref fa) →
   s₁.heap.get? a=some { cls:=.type "list", data:=.seq vs.toArray }→IntsAre vs ns→ns.length≤n→s₁.gens=#[] →
   codeAny (model l.prog w) callerA (.call (.ref fa) ⟨[.ref a],[]⟩) (fun r s'=>r=.ok (.ret (.bool true))∧OldK s₁.heap s'.heap∧s'.os=s₁.os∧AllBare s'.gens) s₁) :
  WalkO q loose XP YP l.row.toRowW d [] (fun f vs=>PySem.call f vs):=by
 intro w s₀ s₁ mg mb G Y fa o pm cd doc dV kV ho hd hcd hD hmg hg args vals as hpre hlay hrd hwl hlo
 obtain rfl:dV=.none:=Dflts.none hD hdf
 obtain rfl:kV=.none:=Dflts.noKw hD
 obtain ⟨a,vs,ns,rfl,rfl,hobj,hints,hlen⟩:=Zlp hn hpre hwl
 refine enter_call (VaW (call w s₀ s₁ mg mb fa o pm cd doc a vs ns G Y ho (fd_plain hd) hcd hmg hobj hints hlen hg) fun r s' hq=>?_)
 obtain ⟨rfl,h2,h3,h4⟩:=hq
 exact ⟨.inl ⟨.bool true,.bool true,[],rfl,fun _=>rfl,.bool true,ZkQ l _,fun _=>⟨List.Pairwise.nil,fun _ hm=>(nomatch hm)⟩⟩,h2,h3,h4⟩
end Att
namespace L2
open PySem PySem.Spec PyProof.Rows
theorem Zdm:∀{vs:List Value} {ns:List Int},IntsAre vs ns→Vals (ns.map V.int) vs
 | _,_,.nil=>.nil
 | _,_,.cons n t h=>.cons ⟨t,rfl⟩ (Zdm h)
def Only(H:Hp):Prop:=∀b,H b=none∨∃o xs,H b=some (.frz o (.lst xs))
theorem ZnZ{P:Program}{w:World}{K:W.Frag}{mg mb:Str→Option Value}{CX:CXT}{k:Nat}{fa a:Addr}{fd:FuncData}{x:Str}{sp:Sp}{s₁:Shared}{vs:List Value}{ns:List Int}
  (KX:K.In s₁.heap) (hns:s₁.heap.Ns mainGlobals mg) (hb:s₁.heap.Ns builtinsNs mb) (hbb:∀x:Str,x ≠ "__name__"→mb x=bootBuiltins x) (hlim:s₁.heap.NoLimit) (hg:s₁.gens=#[])
  (ha:s₁.heap.get? a=some { cls:=.type "list", data:=.seq vs.toArray }) (hi:IntsAre vs ns) (hl:ns.length≤sizeLine) (hr:Room k callerA)
  (F:∀base:Heap,K.In base→base.Ns mainGlobals mg→FnOk P w K mg base CX k fa fd [x] sp) (hbind:∀(s:Shared) (u:Value),BindsTo s fd ⟨[u],[]⟩ [(x,u)])
  (hsp:∀H:Hp,Only H→SqL K H a (ns.map V.int)→sp [.ref a] H (fun v _=>v=.bl true) fun _ _ _=>False)
  (hCX:∀H e s',CX [] H s₁ (fun _ _ _=>False) e s'→False) :
  codeAny (model P w) callerA (.call (.ref fa) ⟨[.ref a],[]⟩) (fun r s'=>r=.ok (.ret (.bool true))∧OldK s₁.heap s'.heap∧s'.os=s₁.os∧AllBare s'.gens) s₁:=by
 have rv:=Zdm hi
 have lenV:=hi.length
 have core:∀H:Hp,Only H→SqL K H a (ns.map V.int)→HOk P w H s₁.heap→(∀b,H b≠none→b=a)→(H a≠none→K.lookup a=none) →
   codeAny (model P w) callerA (.call (.ref fa) ⟨[.ref a],[]⟩) (fun r s'=>r=.ok (.ret (.bool true))∧OldK s₁.heap s'.heap∧s'.os=s₁.os∧AllBare s'.gens) s₁:=by
  intro H hO hS hok hA hK
  have base_of:∀{b:Addr} {o:Obj},s₁.heap.get? b=some o→H b=none→(hidT s₁.heap H).get? b=some o:=fun e n=>ZnX e n
  have noA:∀{b:Addr} {o:Obj} {es:Array DictEntry} {ep:Nat},s₁.heap.get? b=some o→o.data=.dict es ep→H b=none:=fun {b o es ep} e d=>by
   cases q:H b with
   | none=>rfl
   | some u =>
    have e':b=a:=hA b (by rw [q];simp)
    subst e'
    rw [ha] at e;cases e
    have d':Data.seq vs.toArray _=Data.dict es ep:=d
    cases d'
  have nsK:∀{b:Addr} {m:Str→Option Value},s₁.heap.Ns b m→(hidT s₁.heap H).Ns b m:=fun {b m} ⟨o,es,ep,e,d,r⟩=>⟨o,es,ep,base_of e (noA e d),d,r⟩
  have hKb:K.In (hidT s₁.heap H):=fun b o e=>base_of (KX b o e) (by
   cases q:H b with
   | none=>rfl
   | some u =>
    have e':b=a:=hA b (by rw [q];simp)
    subst e'
    rw [hK (by rw [q];simp)] at e;cases e)
  have hM:Mod K mg (hidT s₁.heap H):=⟨hKb,nsK hns,⟨mb,nsK hb,hbb⟩,let ⟨mc,h1,h2⟩:=hlim;⟨mc,nsK h1,h2⟩⟩
  have e0:Env0 P w K mg (hidT s₁.heap H) callerA [] s₁ H:=⟨rfl,hM,fun b o e=>Zps e,Nat.le_of_eq (ZmH _ _),trivial,fun b hb=>absurd (show b∈([]:List Addr) from hb) (by simp),hok,.of_eq hg⟩
  refine VaW ((F _ hKb (nsK hns)).run callerA [] s₁ H ⟨[.ref a],[]⟩ [.ref a] [.ref a] _ _ hr e0 (hbind s₁ (.ref a)) (.cons rfl .nil) (hsp H hO hS)) fun r s' h=>?_
  cases r with
  | error e=>exact (hCX H e s' h).elim
  | ok fl =>
   cases fl with
   | next=>exact False.elim h
   | brk=>exact False.elim h
   | cont=>exact False.elim h
   | ret u =>
    obtain ⟨v,H',os,bare,un,hok',r',q⟩:=h
    have q':v=.bl true:=q
    subst q'
    obtain rfl:u=Value.bool true:=r'
    refine ⟨rfl,OldK.of_keep fun b o e=>?_,os,bare⟩
    cases q:H b with
    | none=>exact un.keep b o e q (by intro z;exact absurd (show b∈([]:List Addr) from z) (by simp)) (by simp)
    | some u =>
     rcases hO b with z | ⟨ob,xs,z⟩
     ·rw [q] at z;cases z
     ·have z2:=un.frzs b ob _ z
      obtain ⟨e1,_⟩:=hok b _ z
      obtain ⟨e2,_⟩:=hok' b _ z2
      rw [e] at e1;cases e1
      exact e2
 cases hk:K.lookup a with
 | some o =>
  have e:=KX a o hk
  rw [ha] at e
  cases e
  refine core (fun _=>none) (fun _=>.inl rfl) (.inr ⟨_,vs.toArray,_,hk,rfl,rfl,rfl,by rw [Va9,lenV];exact hl,by simpa using rv⟩) (fun b u z=>by have z':(none:Option HO)=some u:=z;cases z') (fun b z=>absurd rfl z) fun z=>absurd rfl z
 | none =>
  refine core (fun b=>if b=a then some (.frz { cls:=.type "list", data:=.seq vs.toArray } (.lst (ns.map V.int))) else none) (fun b=>?_) (.inl (.inr ⟨{ cls:=.type "list", data:=.seq vs.toArray },if_pos rfl⟩)) (fun b u z=>?_) (fun b z=>?_) fun _=>hk
  ·by_cases hb:b=a
   ·exact .inr ⟨_,_,if_pos hb⟩
   ·exact .inl (if_neg hb)
  ·by_cases hb:b=a
   ·have z':=(if_pos hb).symm.trans z
    cases z'
    subst hb
    exact ⟨ha,by rw [VaQ];exact hl,vs,_,rv,ha⟩
   ·have z':=(if_neg hb).symm.trans z
    cases z'
  ·by_cases hb:b=a
   ·exact hb
   ·exact absurd (if_neg hb) z
theorem ZqL{l:W.OpenLaw}{n k:Nat}{q:Program}{loose:List Str}{XP:(Str→Option Value)→Heap→Prop}{YP:World→Heap→Prop}{d:DefRec}{K:Params→W.Frag}{CX:World→CXT}{sp:World→Sp}{x:Str}
  (hn:l.most=some n) (hn2:n≤sizeLine) (hdf:d.params.defaults=[]) (hr:Room k callerA)
  (hY:∀(w:World) (h:Heap),YP w h→(K w.params).In h)
  (F:∀(w:World) (mg:Str→Option Value) (fa:Addr) (h:Heap),(K w.params).In h→h.Ns mainGlobals mg→mg d.name=some (.ref fa) →
   ∃fd:FuncData,(∀(s:Shared) (u:Value),BindsTo s fd ⟨[u],[]⟩ [(x,u)]) ∧
    ∀base:Heap,(K w.params).In base→base.Ns mainGlobals mg→FnOk l.prog w (K w.params) mg base (CX w) k fa fd [x] (sp w))
  (hsp:∀(w:World) (H:Hp) (a:Addr) (ns:List Int),ns.length≤n→Only H→SqL (K w.params) H a (ns.map V.int)→sp w [.ref a] H (fun v _=>v=.bl true) fun _ _ _=>False)
  (hCX:∀(w:World) (H:Hp) (s:Shared) (e:Value) (s':Shared),CX w [] H s (fun _ _ _=>False) e s'→False) :
  W.WalkO q loose XP YP l.row.toRowW d [] (fun f vs=>PySem.call f vs):=by
 refine Att.ZiN hn hdf fun w s₀ s₁ mg mb fa o pm cd doc a vs ns G Y ho hd hcd hmg hobj hints hlen hg=>?_
 have KX:=hY w _ Y
 obtain ⟨fd,hb,hF⟩:=F w mg fa _ KX G.T.g hmg
 exact ZnZ KX G.T.g G.T.b G.T.builtins G.T.nolimit hg hobj hints (Vak hlen hn2) hr hF hb (fun H hO hS=>hsp w H a ns hlen hO hS) fun H e s'=>hCX w H s₁ e s'
abbrev E0:XK:=fun _ _ _=>False
structure Fun(K:W.Frag)(x qual:Str)(st:Stmt)(f:Addr)(fd:FuncData):Prop where
 ex:∃(oc:Value) (od:Option Addr) (kV doc pm:Value) (an:Option Addr) (cdv ct:Value) (osl:Array (Option Value)),
  fd=W.fnOf x qual (Zch st) (Za8 st) (Zac st) .none kV doc pm an cdv ct∧K.lookup f=some ⟨oc,od,.func fd,osl⟩∧W.codeIn K cdv qual=true
 kp:W.keepIn K (.ref f)=true
section
variable{P:Program}{w:World}{K:W.Frag}{mg:Str→Option Value}{base:Heap}
theorem Fun.binds{x qual:Str}{st:Stmt}{f:Addr}{fd:FuncData}{ps:List Str}(F:Fun K x qual st f fd)
  (h:∀(kV doc pm:Value) (an:Option Addr) (cdv ct:Value) (us:List Value),us.length=ps.length→bindArgs (W.fnOf x qual (Zch st) (Za8 st) (Zac st) .none kV doc pm an cdv ct) ⟨us,[]⟩=pure (ps.zip us)):Binds K fd ps []:=by
 obtain ⟨oc,od,kV,doc,pm,an,cdv,ct,osl,rfl,lk,hcd⟩:=F.ex
 exact .all (h kV doc pm an cdv ct)
theorem ZcV{x qual:Str}{st:Stmt}{f:Addr}{oc:Value}{od an:Option Addr}{osl:Array (Option Value)}{kV doc pm cdv ct:Value}(l:K.lookup f=some ⟨oc,od,.func (W.fnOf x qual (Zch st) (Za8 st) (Zac st) .none kV doc pm an cdv ct),osl⟩)
  (c:W.codeIn K cdv qual=true) (k:W.keepIn K (.ref f)=true):Fun K x qual st f (W.fnOf x qual (Zch st) (Za8 st) (Zac st) .none kV doc pm an cdv ct):=⟨⟨oc,od,kV,doc,pm,an,cdv,ct,osl,rfl,l,c⟩,k⟩
end
theorem Zl1{n:Nat}(h:n≤1000):n<sizeLine:=Vbn h (by decide)
def Same(H H':Hp):Prop:=∀b o,H b=some o→H' b=some o
theorem Same.refl(H:Hp):Same H H:=fun _ _ h=>h
theorem Same.trans{H H1 H2:Hp}(a:Same H H1)(b:Same H1 H2):Same H H2:=fun c o h=>b c o (a c o h)
theorem Same.free{H H':Hp}(e:Same H H'){l:Addr}(h:H' l=Option.none):H l=Option.none:=by
 cases q:H l with
 | none=>rfl
 | some o =>
  rw [e l o q] at h
  cases h
theorem Same.seq{K:W.Frag}{H H':Hp}{a:Addr}{xs:List V}(e:Same H H')(h:SqL K H a xs):SqL K H' a xs:=by
 rcases h with (h | ⟨o,h⟩) | h
 ·exact .inl (.inl (e _ _ h))
 ·exact .inl (.inr ⟨o,e _ _ h⟩)
 ·exact .inr h
end L2
set_option maxHeartbeats 4000000
namespace L2
open PySem PySem.Spec PyProof.Rows
section
variable{X:Cx}
theorem Zrn:OpR X (binaryOp .Mult) (rI IntMulOk fun i j=>.int (i*j)):=opI fun _ _ _ _ _ _ _ hc q=>mul_int q hc
def ZpY(_ j:Int):Prop:=j≠0∧j.natAbs.log2<9000
theorem Znb:OpR X (binaryOp .FloorDiv) (rI ZpY fun i j=>.int (i.fdiv j)):=opI fun _ _ _ _ _ _ _ hc q=>floordiv_int hc.1 q (.inl (PyProof.noPylong_of_log2 hc.2))
theorem Zsg{n:String}{x:Str}{pos:Pos}(hg:Gl X x)(hm:X.mg x=none)(hv:bootBuiltins x=some (.type n))(hn:x ≠ "__name__" := by decide)(hd:(x==("__debug__" : Str))=false:=by decide):PE X (.Name x pos) (tC (.ty n)) :=
 Zp9 hg hm hv rfl hn hd
end
theorem Zoq:bootBuiltins "abs"=some (.builtin "abs"):=by decide +kernel
theorem Zja:bootBuiltins "all"=some (.builtin "all"):=by decide +kernel
theorem ZgV:bootBuiltins "isinstance"=some (.builtin "isinstance"):=by decide +kernel
theorem ZgH:bootBuiltins "len"=some (.builtin "len"):=by decide +kernel
theorem ZtQ:bootBuiltins "max"=some (.builtin "max"):=by decide +kernel
theorem Zsu:bootBuiltins "int"=some (.type "int"):=by decide +kernel
theorem Zrs:bootBuiltins "bool"=some (.type "bool"):=by decide +kernel
theorem Zdq:bootBuiltins "tuple"=some (.type "tuple"):=by decide +kernel
theorem Zik:bootBuiltins "list"=some (.type "list"):=by decide +kernel
theorem Zox:bootBuiltins "zip"=some (.type "zip"):=by decide +kernel
theorem ZnG(K:W.Frag)(t:Value):W.kitOne K t t=some true:=by
 unfold W.kitOne
 rw [if_pos (beq_self_eq_true t)]
theorem Zug(K:W.Frag){T U:String}{b:Bool}(hne:(Value.type T==Value.type U)=false)(hm:W.kitMeta U=true)(h:(fastBuiltinMro T).map (·.contains (Value.type U))=some b):W.kitOne K (.type T) (.type U)=some b:=by
 unfold W.kitOne
 rw [if_neg (by rw [hne];exact VaF)]
 show (if W.kitMeta U=true then _ else none)=_
 rw [if_pos hm]
 exact h
mutual
inductive DV(K:W.Frag)(H:Hp):V→PyData→Prop
 | non:DV K H .non .none
 | bl (b:Bool):DV K H (.bl b) (.bool b)
 | int (i:Int):DV K H (.int i) (.int i)
 | str (x:Str):DV K H (.str x) (.str x)
 | tup {a:Addr} {xs:List V} {ds:List PyData} (h:SqT K H a xs) (r:DVs K H xs ds):DV K H (.ref a) (.tuple ds)
 | lst {a:Addr} {xs:List V} {ds:List PyData} (h:SqL K H a xs) (r:DVs K H xs ds):DV K H (.ref a) (.list ds)
inductive DVs(K:W.Frag)(H:Hp):List V→List PyData→Prop
 | nil:DVs K H [] []
 | cons {x:V} {xs:List V} {d:PyData} {ds:List PyData} (h:DV K H x d) (r:DVs K H xs ds):DVs K H (x::xs) (d::ds)
end
section
variable{X:Cx}{pins:List (Addr×Obj)}{σ:St}{H:Hp}{s:Shared}
mutual
theorem DV.reads(I:Inv X pins σ H s):∀{x:V} {d:PyData} {u:Value},DV X.K H x d→RelV x u→∃as,Reads s.heap u d as
 | _,_,_,.non,r=>by cases r;exact ⟨_,.none⟩
 | _,_,_,.bl b,r=>by cases r;exact ⟨_,.bool b⟩
 | _,_,_,.int i,r=>by obtain ⟨t,rfl⟩:=r;exact ⟨_,.int i t⟩
 | _,_,_,.str i,r=>by obtain ⟨t,rfl⟩:=r;exact ⟨_,.str i t⟩
 | _,_,_,.tup h q,r=>by
  cases r
  obtain ⟨its,rv,⟨o,h1,h2,n,h3⟩,_⟩:=I.tuple h
  obtain ⟨as,ra⟩:=DVs.reads I q rv
  exact ⟨_,.tuple h1 h2 h3 (by simpa using ra)⟩
 | _,_,_,.lst h q,r=>by
  cases r
  obtain ⟨its,rv,pl,_⟩:=I.list h
  obtain ⟨o,h1,h2,n,h3⟩:=pl.isList
  obtain ⟨as,ra⟩:=DVs.reads I q rv
  exact ⟨_,.list h1 h2 h3 (by simpa using ra)⟩
theorem DVs.reads(I:Inv X pins σ H s):∀{xs:List V} {ds:List PyData} {us:List Value},DVs X.K H xs ds→Vals xs us→∃as,ReadsAll s.heap us ds as
 | _,_,_,.nil,r=>by cases r;exact ⟨_,.nil⟩
 | _,_,_,.cons h q,r=>by
  cases r with
  | cons r1 r2 =>
   obtain ⟨as,ra⟩:=DV.reads I h r1
   obtain ⟨bs,rb⟩:=DVs.reads I q r2
   exact ⟨_,.cons ra rb⟩
end
end
section
variable{X:Cx}
def rEqD(K:W.Frag)(f:Bool→Bool):R2:=fun x y H Q=>∃dx dy,DV K H x dx∧DV K H y dy∧dx.canLay0=true∧dy.canLay0=true∧dx.depth≤60∧Q (.bl (f (PyData.eqv dx dy))) H
theorem Zoz(hu:X.A.units+64<cLine):OpR X (compareOp .Eq) (rEqD X.K id):=by
 intro pins s σ H x y v u Q I rx ry h
 obtain ⟨dx,dy,h1,h2,h3,h4,h5,q⟩:=h
 obtain ⟨as,ra⟩:=h1.reads I rx
 obtain ⟨bs,rb⟩:=h2.reads I ry
 exact PySem.SeqAt.compareEq_reads ra rb h3 h4 (by omega) (ZjI I q rfl)
theorem Zsi(hu:X.A.units+64<cLine):OpR X (compareOp .NotEq) (rEqD X.K not):=by
 intro pins s σ H x y v u Q I rx ry h
 obtain ⟨dx,dy,h1,h2,h3,h4,h5,q⟩:=h
 obtain ⟨as,ra⟩:=h1.reads I rx
 obtain ⟨bs,rb⟩:=h2.reads I ry
 exact PySem.SeqAt.compareNe_reads ra rb h3 h4 (by omega) (ZjI I q rfl)
end
structure Def(K:W.Frag)(mg:Str→Option Value)(x:Str)(st:Stmt)(ps:List Str):Prop where
 ex:∃(f:Addr) (fd:FuncData),Fun K x x st f fd∧Binds K fd ps []∧mg x=some (.ref f)
theorem ZaA{H:Hp}{p:Addr}(h:H p=none)(o:HO):Same H (upd H p o):=fun b u q=>by rw [Zag (Zaf q h)];exact q
end L2
namespace L2
open PySem
end L2
namespace L2
end L2
namespace L2
open PySem PySem.Spec PyProof.Rows
def Zpa(ts:List Expr)(env:Env):Sem Bool:=match ts with
 | []=>pure true
 | c::_=>isTrue c env (eval c env)
theorem ZhN(elt target iter:Expr)(scope:Scope)(pos:Pos)(it acc:Value)(env:Env) :
  compTurn (.ListComp elt [⟨target,iter,[],0⟩] scope pos) 0 it acc env=(standAt iter.pos >>= fun _=>pyNext it >>= fun r=>match r with
   | none=>pure (.done .next)
   | some v=>letOwnedTupleGo target it v >>= fun _=>assign target env v >>= fun _ =>
    (eval elt env >>= fun x=>call (.builtin "list.append") [acc,x] >>= fun _=>pure ()) >>= fun _ =>
     again (.compLoop (.ListComp elt [⟨target,iter,[],0⟩] scope pos) 0 it acc env)):=by rfl
theorem ZiG(elt target iter c:Expr)(scope:Scope)(pos:Pos)(it acc:Value)(env:Env) :
  compTurn (.ListComp elt [⟨target,iter,[c],0⟩] scope pos) 0 it acc env=(standAt iter.pos >>= fun _=>pyNext it >>= fun r=>match r with
   | none=>pure (.done .next)
   | some v=>letOwnedTupleGo target it v >>= fun _=>assign target env v >>= fun _ =>
    (forIn [c] true fun (c:Expr) (s:Bool)=>if s=true then (isTrue c env (eval c env) >>= fun ok=>pure (ForInStep.yield ok)) else pure (ForInStep.yield s)) >>= fun s=>if s=true then
     (eval elt env >>= fun x=>call (.builtin "list.append") [acc,x] >>= fun _=>pure ()) >>= fun _ =>
      again (.compLoop (.ListComp elt [⟨target,iter,[c],0⟩] scope pos) 0 it acc env)
     else again (.compLoop (.ListComp elt [⟨target,iter,[c],0⟩] scope pos) 0 it acc env)):=by rfl
theorem ZhD{prog:Program}{w:World}{A:Around}{R:Result→Shared→Prop}{s:Shared}{elt target iter:Expr}{ts:List Expr}{scope:Scope}{pos:Pos}{it acc:Value}{env:Env}(hts:ts.length≤1)(I:Nat→Shared→Prop)
  (turn:∀n s,I n s→wpAny (model prog w) A (pyNext it) (fun r s₁=>match r with
   | none=>R (.ok .next) s₁
   | some v=>wpAny (model prog w) A (letOwnedTupleGo target it v) (fun _ s₁'=>wpAny (model prog w) A (assign target env v) (fun _ s₂=>wpAny (model prog w) A (Zpa ts env) (fun b s₂'=>if b=true then wpAny (model prog w) A (eval elt env) (fun x s₃ =>
     wpAny (model prog w) A (call (.builtin "list.append") [acc,x]) (fun _ s₄=>∃m,m<n∧I m s₄) (notedBy (model prog w) A env fun e s'=>R (.error e) s') s₃)
     (notedBy (model prog w) A env fun e s'=>R (.error e) s') s₂' else ∃m,m<n∧I m s₂') (notedBy (model prog w) A env fun e s'=>R (.error e) s') s₂) (notedBy (model prog w) A env fun e s'=>R (.error e) s') s₁') (notedBy (model prog w) A env fun e s'=>R (.error e) s') s₁) (notedBy (model prog w) A env fun e s'=>R (.error e) s') s)
  (n:Nat) (h:I n s) :
  codeAny (model prog w) A (.compLoop (.ListComp elt [⟨target,iter,ts,0⟩] scope pos) 0 it acc env) R s:=by
 refine codeAny_loop rfl I (fun n s hI=>?_) n h
 show wpAny _ _ ((compTurn (.ListComp elt [⟨target,iter,ts,0⟩] scope pos) 0 it acc env).onRaise (fun x=>do noteFrame x env;theTreesLotGoes x)) _ _ s
 refine wpAny_noted ?_
 match ts,hts with
 | [],_ =>
  rw [ZhN]
  refine Vaz (wpAny_standAt (Vaz (Vaw (turn n s hI) (fun r s₁ h₁=>?_) fun _ _ h'=>h')))
  cases r with
  | none=>exact VaA h₁
  | some v =>
   refine Vaz (Vaw h₁ (fun _ s₁' h₁'=>?_) fun _ _ h'=>h')
   refine Vaz (Vaw h₁' (fun _ s₂ h₂=>?_) fun _ _ h'=>h')
   show wpAny _ _ ((pure true:Sem Bool) >>= fun b=>if b=true then ((eval elt env >>= fun x=>call (.builtin "list.append") [acc,x] >>= fun _=>pure ()) >>= fun _=>again (.compLoop (.ListComp elt [⟨target,iter,[],0⟩] scope pos) 0 it acc env)) else again (.compLoop (.ListComp elt [⟨target,iter,[],0⟩] scope pos) 0 it acc env)) _ _ s₂
   refine Vaz (Vaw h₂ (fun b s₂' h₂'=>?_) fun _ _ h'=>h')
   cases b with
   | true =>
    rw [if_pos rfl] at h₂' ⊢
    exact Vaz (Vaz (Vaw h₂' (fun x s₃ h₃=>Vaz (Vaw h₃ (fun _ s₄ h₄=>VaA (VaA ⟨rfl,h₄⟩)) fun _ _ h'=>h')) fun _ _ h'=>h'))
   | false =>
    rw [if_neg VaF] at h₂' ⊢
    exact VaA ⟨rfl,h₂'⟩
 | [c],_ =>
  rw [ZiG]
  refine Vaz (wpAny_standAt (Vaz (Vaw (turn n s hI) (fun r s₁ h₁=>?_) fun _ _ h'=>h')))
  cases r with
  | none=>exact VaA h₁
  | some v =>
   refine Vaz (Vaw h₁ (fun _ s₁' h₁'=>?_) fun _ _ h'=>h')
   refine Vaz (Vaw h₁' (fun _ s₂ h₂=>?_) fun _ _ h'=>h')
   rw [Vbo]
   refine Vaz (Vaz ?_)
   rw [if_pos rfl]
   refine Vaz (Vaw h₂ (fun b s₂' h₂'=>VaA ?_) fun _ _ h'=>h')
   show wpAny _ _ (forIn [] b _) _ _ _
   rw [Vbp]
   refine VaA ?_
   cases b with
   | true =>
    rw [if_pos rfl] at h₂' ⊢
    exact Vaz (Vaz (Vaw h₂' (fun x s₃ h₃=>Vaz (Vaw h₃ (fun _ s₄ h₄=>VaA (VaA ⟨rfl,h₄⟩)) fun _ _ h'=>h')) fun _ _ h'=>h'))
   | false =>
    rw [if_neg VaF] at h₂' ⊢
    exact VaA ⟨rfl,h₂'⟩
theorem Zf1:∀(names:List (Str×NameKind)) (h:Heap) (acc:List (Str×Addr)) (n:Str) (c:Addr),(n,c)∈PySem.cellsFrom h.objs.size names acc→(n,c)∈acc∨((PySem.pushCells h names).IsCell c none∧h.objs.size≤c)
 | [],_,_,_,_,hm=>.inl hm
 | (name,kind)::r,h,acc,n,c,hm=>by
  unfold PySem.cellsFrom at hm
  unfold PySem.pushCells
  split at hm
  ·rename_i hk
   rw [if_pos hk]
   have hm':(n,c)∈PySem.cellsFrom (h.push { cls:=.type "cell", data:=.cell none }).objs.size r ((name,h.objs.size)::acc):=by rw [VaR];exact hm
   rcases Zf1 r (h.push { cls:=.type "cell", data:=.cell none }) ((name,h.objs.size)::acc) n c hm' with z | ⟨z1,z2⟩
   ·rcases Var.mp z with e | z
    ·cases e
     exact .inr ⟨⟨_,PySem.pushCells_keeps r _ _ _ (VaH _ rfl),rfl⟩,VaI _⟩
    ·exact .inl z
   ·rw [VaR] at z2
    exact .inr ⟨z1,by omega⟩
  ·rename_i hk
   rw [if_neg hk]
   exact Zf1 r h acc n c hm
theorem Zfs:∀(names:List (Str×NameKind)) (k:Nat) (acc:List (Str×Addr)),(∀n c,(n,c)∈acc→c<k)→(∀n n' c,(n,c)∈acc→(n',c)∈acc→n=n')→∀n n' c,(n,c)∈PySem.cellsFrom k names acc→(n',c)∈PySem.cellsFrom k names acc→n=n'
 | [],_,_,_,hi,n,n',c,h1,h2=>hi n n' c h1 h2
 | (name,kind)::r,k,acc,hl,hi,n,n',c,h1,h2=>by
  unfold PySem.cellsFrom at h1 h2
  split at h1
  ·rename_i hk
   rw [if_pos hk] at h2
   refine Zfs r (k+1) ((name,k)::acc) (fun m d hm=>?_) (fun m m' d hm hm'=>?_) n n' c h1 h2
   ·rcases Var.mp hm with e | hm
    ·cases e;exact VaS _
    ·exact Nat.lt_succ_of_lt (hl m d hm)
   ·rcases Var.mp hm with e | hm<;>rcases Var.mp hm' with e' | hm'
    ·cases e;cases e';rfl
    ·cases e;exact absurd (hl _ _ hm') (Vag _)
    ·cases e';exact absurd (hl _ _ hm) (Vag _)
    ·exact hi m m' d hm hm'
  ·rename_i hk
   rw [if_neg hk] at h2
   exact Zfs r k acc hl hi n n' c h1 h2
theorem ZfU{x:Str}:∀(names:List (Str×NameKind)) (k:Nat) (acc:List (Str×Addr)),(∀y∈names,y.2=.cell→y.1≠x)→(PySem.cellsFrom k names acc).lookup x=acc.lookup x
 | [],_,_,_=>rfl
 | (name,kind)::r,k,acc,h=>by
  unfold PySem.cellsFrom
  split
  ·rename_i hk
   rw [ZfU r (k+1) _ fun y hy=>h y (Vap _ hy)]
   have ne:name≠x:=h (name,kind) Vao (by simpa using hk)
   rw [Vbq,beq_false_of_ne (Ne.symm ne)]
  ·exact ZfU r k acc fun y hy=>h y (Vap _ hy)
theorem ZeF{x:Str}:∀(names:List (Str×NameKind)) (k:Nat) (acc:List (Str×Addr)),((acc.lookup x).isSome=true∨(x,NameKind.cell)∈names)→((PySem.cellsFrom k names acc).lookup x).isSome=true
 | [],_,_,h=>by
  rcases h with h | h
  ·exact h
  ·cases h
 | (name,kind)::r,k,acc,h=>by
  unfold PySem.cellsFrom
  split
  ·rename_i hk
   refine ZeF r (k+1) _ ?_
   by_cases e:x=name
   ·subst e;exact .inl (by simp)
   ·rcases h with h | h
    ·exact .inl (by rw [Vbq,beq_false_of_ne e];exact h)
    ·rcases Var.mp h with z | h
     ·cases z;exact absurd rfl e
     ·exact .inr h
  ·rename_i hk
   refine ZeF r k acc ?_
   rcases h with h | h
   ·exact .inl h
   ·rcases Var.mp h with z | h
    ·cases z;exact absurd rfl hk
    ·exact .inr h
theorem Zj7{M:Model}{A:Around}{E:Value→Shared→Prop}{s:Shared}{scope:Scope}{globals:Addr}{closure:List (Str×Addr)}{qual:Str}{func:Option Addr}{code:Value}{outer:Env}{builtins:Addr}{Q:Env→Shared→Prop}
  (hQ:∀h',h'.Ns s.heap.objs.size (fun _=>none)→(∀b o,s.heap.get? b=some o→h'.get? b=some o)→(∀n c,(n,c)∈PySem.cellsFrom (s.heap.objs.size+1) scope.names closure→(n,c)∈closure∨(h'.IsCell c none∧s.heap.objs.size+1≤c)) →
   Q (newEnv scope s.heap.objs.size globals (PySem.cellsFrom (s.heap.objs.size+1) scope.names closure) qual func code (some outer) builtins) { s with heap:=h' }) :
  wpAny M A (newFunctionEnv scope globals closure [] qual func code (some outer) builtins) Q E s:=by
 simp only [newFunctionEnv,Option.isSome_some,Vbb]
 refine Vaz (wpAny_alloc ?_)
 refine Vaz (wpAny_layCells _ (fun name kind cells=>by cases hkc:kind==NameKind.cell<;>simp [hkc]) _ _ _ _ ?_)
 rw [show ({ s with heap:=s.heap.push { cls:=.type "dict", data:=.dict #[] } }:Shared).heap.objs.size=s.heap.objs.size+1 from VaR ..]
 rw [Vbp]
 refine Vaz (VaA (VaA ?_))
 refine hQ _ ((Heap.Ns.new s.heap (.type "dict")).keeps (PySem.pushCells_keeps _ _)) (fun b o e=>PySem.pushCells_keeps _ _ b o (VaC _ e)) fun n c hm=>?_
 have z:=Zf1 scope.names (s.heap.push { cls:=.type "dict", data:=.dict #[] }) closure n c (by rw [VaR];exact hm)
 rwa [VaR] at z
def PTs(X:Cx)(ts:List Expr)(tt:TT):Prop :=
 ∀(pins:List (Addr×Obj)) (s:Shared) (σ:St) (H:Hp) (Q:Bool→Hp→Prop),Inv X pins σ H s→tt σ H Q→wpAny (model X.prog X.w) X.A (Zpa ts X.env) (TP X pins σ Q) X.xe s
def tYes:TT:=fun _ H Q=>Q true H
theorem ZpM{X:Cx}:PTs X [] tYes:=fun _ _ _ H _ I h=>VaA ⟨H,I,h⟩
theorem Zqy{X:Cx}{c:Expr}{tt:TT}(h:PT X c tt):PTs X [c] tt:=h
def ZaJ(X:Cx)(N:List Str)(scope:Scope)(cl:List (Str×Addr))(C:Addr)(s₂:Shared)(H₂:Hp)(fp:List Addr)(pn:List (Addr×Obj)):Cx :=
 { X with N:=N,s₀:=s₂,H₀:=H₂,env:=compEnvC scope (PySem.cellsFrom (C+1) scope.names cl) C X.env,outer:=X.stack,ex:=fp,fn:=fun x=>scope.names.lookup x==some .cell,pn:=pn,xe:=fun _ _=>False }
def ZkF(X:Cx)(sc:Scope)(cl:List (Str×Addr)):List (Str×Nat)→Prop
 | []=>True
 | p::r=>(X.N[p.2]?=some p.1∧X.env.scope.names.lookup p.1=some .cell∧(sc.names.lookup p.1=some .cell)∧∃c,cl.lookup p.1=some c∧X.env.cells.lookup p.1=some c)∧ZkF X sc cl r
theorem ZkF.get{X:Cx}{sc:Scope}{cl:List (Str×Addr)}:∀{cap:List (Str×Nat)} {j:Nat} {p:Str×Nat},ZkF X sc cl cap→cap[j]?=some p →
  X.N[p.2]?=some p.1∧X.env.scope.names.lookup p.1=some .cell∧(sc.names.lookup p.1=some .cell)∧∃c,cl.lookup p.1=some c∧X.env.cells.lookup p.1=some c
 | [],_,_,_,e=>by simp at e
 | _::_,0,_,h,e=>by simp at e;subst e;exact h.1
 | _::_,j+1,_,h,e=>ZkF.get (j:=j) h.2 (by simpa using e)
def capt(σ:St)(cap:List (Str×Nat)):St:=cap.map fun p=>(σ[p.2]?).join
def st0(own:List Str)(σ:St)(cap:List (Str×Nat)):St:=List.replicate own.length none++capt σ cap
def ZcX(J:It)(g:TG)(tt:TT)(te:TE)(own:List Str)(cap:List (Str×Nat))(σ:St)(Q:VK)(H1:Hp):Prop:=∃W:Nat→Nat→List V→Hp→Prop,(∃m,W 0 m [] H1)∧∀i m acc H,W i m acc H→acc.length≤sizeLine ∧
 ((J.stop i H∧∀p,H p=none→Q (.ref p) (upd H p (.lst acc))) ∨
  (J.go i H∧∀x H',J.yld i H x H'→g x (st0 own σ cap) H' fun σ2 H2=>σ2.drop own.length=capt σ cap∧tt σ2 H2 fun b H3=>if b=true then te σ2 H3 fun v H4=>acc.length<sizeLine∧∃m',m'<m∧W (i+1) m' (acc++[v]) H4 else ∃m',m'<m∧W (i+1) m' acc H3))
abbrev Fam(α:Type):=Addr→Shared→Hp→List Addr→List (Addr×Obj)→α
def ZeS(wi:TI)(g:Fam TG)(tt:Fam TT)(te:Fam TE)(own:List Str)(cap:List (Str×Nat)):TE:=fun σ H Q=>wi σ H fun J H1=>∀C s H2 fp pn,ZcX J (g C s H2 fp pn) (tt C s H2 fp pn) (te C s H2 fp pn) own cap σ Q H1
structure ZcU(X:Cx)(own:List Str)(cap:List (Str×Nat))(scope:Scope)(cl:List (Str×Addr)):Prop where
 clos:closureFor scope X.env=pure cl
 kind:scope.kind=.function
 nown:∀x c,(x,c)∈cl→∀y∈scope.names,y.2=.cell→y.1≠x
 locals:∀y∈scope.names,y.2=.local→scope.names.lookup y.1=some .local
 sub:∀x c,(x,c)∈cl→X.env.cells.lookup x=some c
 has:∀k x,((relabel scope X.env).names.lookup x=some .cell∨(relabel scope X.env).names.lookup x=some .free)→∃c,(PySem.cellsFrom k scope.names cl).lookup x=some c
 cap:ZkF X (relabel scope X.env) cl cap
section
variable{X:Cx}{own:List Str}{cap:List (Str×Nat)}{scope:Scope}{cl:List (Str×Addr)}{pins:List (Addr×Obj)}{σ:St}{H:Hp}{s:Shared}{fp:List Addr}{tg:Expr}{J:It}{it:Addr}{tn:Nat→Heap→Prop}
theorem ZlR{i:Nat}{v:V}(e:(st0 own σ cap)[i]?=some (some v)):∃j p,i=own.length+j∧cap[j]?=some p∧σ[p.2]?=some (some v):=by
 unfold st0 at e
 by_cases hi:i<own.length
 ·rw [Va4 (by simpa using hi),Va3,if_pos hi] at e
  cases e
 ·rw [Va2 (by simpa using hi),Va8] at e
  unfold capt at e
  rw [Va5] at e
  cases q:cap[i - own.length]? with
  | none=>rw [q] at e;cases e
  | some p =>
   rw [q] at e
   have e':(σ[p.2]?).join=some v:=Vav e
   refine ⟨i - own.length,p,by omega,q,?_⟩
   cases z:σ[p.2]? with
   | none=>rw [z] at e';cases e'
   | some o=>rw [z] at e';have e2:o=some v:=e';rw [e2]
theorem Inv.comp(I:Inv X pins σ H s)(O:ZcU X own cap scope cl)(T:Turn X.prog X.w X.K tg J fp it tn)(st:tn 0 s.heap)(f:∀b∈fp,FpOk X pins H b){C:Addr}{h':Heap}{t':Nat}{m:Str→Option Value}(hC:s.heap.objs.size≤C)
  (k:∀b o,s.heap.get? b=some o→h'.get? b=some o) (hn:h'.Ns C m) (hx:∀n c,(n,c)∈PySem.cellsFrom (C+1) scope.names cl→(n,c)∈cl∨(h'.IsCell c none∧C+1≤c)) :
  Inv (ZaJ X (own++cap.map (·.1)) scope cl C s H fp (X.pn++pins)) [] (st0 own σ cap) H { s with heap:=h',toks:=t' }:=by
 have neC:∀{b:Addr} {o:Obj},s.heap.get? b=some o→b≠C:=fun e=>Vah (Vaf (Vae e) hC)
 have cellC:∀x c,(x,c)∈cl→∃v,s.heap.IsCell c v:=fun x c e=>I.cell x c (O.sub x c e)
 have ltC:∀x c,(x,c)∈cl→c<C+1:=fun x c e=>by
  obtain ⟨v,o,ho,_⟩:=cellC x c e
  exact Nat.lt_succ_of_le (Vam (Vaf (Vae ho) hC))
 have nefp:∀b∈fp,b≠C:=fun b hb=>by
  obtain ⟨o,e,_⟩:=T.obj _ _ st b hb
  exact neC e
 refine ⟨⟨I.ok.mod,O.kind,I.ok.glob,I.ok.blt,hC,fun x y c e1 e2=>Zfs scope.names (C+1) cl ltC (fun n n' c h1 h2=>I.ok.inj n n' c (O.sub n c h1) (O.sub n' c h2)) x y c (Va1 e1) (Va1 e2),O.has (C+1),fun x c e1 e2=>?_,I.ok.hd,I.ok.frames,.inl rfl,fun b hb=>⟨nefp b hb,fun x c e=>?_⟩,I.bs,Vak I.ok.bsz I.sz,fun b o e hb=>?_,fun b hb z=>?_,I.stack,I.stkFree⟩,
  rfl,I.bare,Un.kept k,⟨m,hn,fun i x v e1 e2 e3=>?_⟩,fun x c e=>?_,?_,fun x c e=>?_,fun p hp=>?_,I.hok.kept k,?_⟩
 ·have e1':scope.names.lookup x=some .cell:=by simpa [ZaJ] using e1
  rcases hx x c (Va1 e2) with z | ⟨_,z⟩
  ·exact absurd rfl (O.nown x c z (x,.cell) (Va1 e1') rfl)
  ·exact Vak hC (Nat.le_of_succ_le z)
 ·rcases hx x c (Va1 e) with z | ⟨_,z⟩
  ·exact (f b hb).2.2.2.2.1 x c (O.sub x c z)
  ·obtain ⟨o,eo,_⟩:=T.obj _ _ st b hb
   exact VaG (Vaf (Vaf (Vae eo) hC) (Nat.le_of_succ_le z))
 ·rcases (f b hb).2.2.2.1 with z | z
  ·exact I.ok.noex b o e z
  ·exact absurd (Vaf (Vae (I.ok.bs b o e).1) z) (Vag _)
 ·rcases Var.mp (I.stkSub b z) with q | q
  ·exact (f b hb).2.1 q
  ·exact (f b hb).2.2.1 q
 ·obtain ⟨j,p,rfl,hp,hs⟩:=ZlR e2
  obtain ⟨c1,c2,c3,c,c4,c5⟩:=O.cap.get hp
  have e1':(own++cap.map (·.1))[own.length+j]?=some x:=e1
  rw [Va2 (Nat.le_add_right _ _),Nat.add_sub_cancel_left,Va5,hp] at e1'
  have ex:p.1=x:=Vav e1'
  subst ex
  obtain ⟨m2,_,hl⟩:=I.loc
  obtain ⟨u,r,l⟩:=hl p.2 p.1 v c1 hs (.inr (.inl c2))
  refine ⟨u,r,.inr ⟨.inl c3,c,(ZfU scope.names (C+1) cl fun y hy hk=>O.nown p.1 c (Va1 c4) y hy hk).trans c4,?_⟩⟩
  rcases l with ⟨z,_⟩ | ⟨_,c',z,⟨o,ho,hd⟩⟩
  ·have z':X.env.scope.names.lookup p.1=some .local:=z
   rw [c2] at z';cases z'
  ·rw [c5] at z;cases z
   exact ⟨o,k _ _ ho,hd⟩
 ·rcases hx x c (Va1 e) with z | ⟨z,_⟩
  ·obtain ⟨v,o,ho,hd⟩:=cellC x c z
   exact ⟨v,o,k _ _ ho,hd⟩
  ·exact ⟨none,z⟩
 ·exact I.hok.fresh hC
 ·rcases hx x c (Va1 e) with z | ⟨_,z⟩
  ·exact I.freeC x c (O.sub x c z)
  ·exact I.hok.fresh (Vak hC (Nat.le_of_succ_le z))
 ·have hp':p∈X.pn++pins:=by simpa [ZaJ] using hp
  obtain ⟨e,n,ne,nf,d⟩:=I.pin p hp'
  exact ⟨k _ _ e,n,neC e,fun z=>(Var.mp (I.stkSub p.1 z)).elim ne nf,d⟩
 ·show (st0 own σ cap).length=(own++cap.map (·.1)).length
  unfold st0 capt
  simp
theorem Cx.Ok.rexe{X:Cx}{xe:Value→Shared→Prop}(o:X.Ok):({ X with xe:=xe }:Cx).Ok:=by
 cases o
 constructor<;>assumption
theorem Inv.rexe{X:Cx}{pins:List (Addr×Obj)}{σ:St}{H:Hp}{s:Shared}{xe:Value→Shared→Prop}(I:Inv X pins σ H s):Inv { X with xe:=xe } pins σ H s:=by
 obtain ⟨ok,i1,i2,i3,i4,i5,i6,i7,i8,i9,i10⟩:=I
 exact ⟨ok.rexe,i1,i2,i3,i4,i5,i6,i7,i8,i9,i10⟩
def Zav(xf:Addr→Shared→Hp→List Addr→Value→Shared→Prop)(X:Cx)(N:List Str)(scope:Scope)(cl:List (Str×Addr))(C:Addr)(s₂:Shared)(H₂:Hp)(fp:List Addr)(pn:List (Addr×Obj)):Cx:={ ZaJ X N scope cl C s₂ H₂ fp pn with xe:=xf C s₂ H₂ fp }
theorem Zh8{xf:Addr→Shared→Hp→List Addr→Value→Shared→Prop}{elt iter:Expr}{ts:List Expr}{pos:Pos}{gF:Fam TG}{ttF:Fam TT}{teF:Fam TE}{E:Value→Shared→Prop}(O:ZcU X own cap scope cl)(hc:X.calm=true)
  (hgF:∀C s H fp pn,PG (Zav xf X (own++cap.map (·.1)) scope cl C s H fp pn) tg (gF C s H fp pn)) (htF:∀C s H fp pn,PTs (Zav xf X (own++cap.map (·.1)) scope cl C s H fp pn) ts (ttF C s H fp pn)) (heF:∀C s H fp pn,PE (Zav xf X (own++cap.map (·.1)) scope cl C s H fp pn) elt (teF C s H fp pn)) (hts:ts.length≤1)
  (I2:Inv X pins σ H s) (T:Turn X.prog X.w X.K tg J fp it tn) (st2:tn 0 s.heap) (f2:∀b∈fp,FpOk X pins H b) {Q:VK}
  (hw:∀C s H2 fp pn,ZcX J (gF C s H2 fp pn) (ttF C s H2 fp pn) (teF C s H2 fp pn) own cap σ Q H)
  {R:Value→Addr→Result→Shared→Prop}
  (fin:∀(D C:Addr) (H':Hp) (s':Shared) (m:Str→Option Value),s.heap.objs.size≤C→s'.heap.Ns C m→H' C=none →
   (∀h',Heap.SameBut C s'.heap h'→Inv X pins σ H' { s' with heap:=h' })→Q (.ref D) H'→R (.ref D) C (.ok .next) s')
  (hexc:∀(D C:Addr) (cells:List (Str×Addr)) (e:Value) (s':Shared),s.heap.objs.size≤C→xf C s H fp e s'→notedBy (model X.prog X.w) X.A (compEnvC scope cells C X.env) (fun e s'=>R (.ref D) C (.error e) s') e s') :
  wpAny (model X.prog X.w) X.A (newList []) (fun acc s₃=>wpAny (model X.prog X.w) X.A (newFunctionEnv scope X.env.globals cl [] X.env.qual none .none (some X.env)) (fun cenv s₄ =>
   codeAny (model X.prog X.w) X.A (.compStart (.ListComp elt [⟨tg,iter,ts,0⟩] scope pos) 0 (.ref it) acc { cenv with scope:=relabel scope X.env }) (R acc cenv.locals) s₄) E s₃) E s:=by
 refine VaB (Zj7 (fun h₁ hns₁ hk₁ hx₁=>?_))
 dsimp only at hns₁ hk₁ hx₁ ⊢
 generalize hHh:s.heap.push { cls:=.type "list", dict:=none,data:=.seq ([]:List Value).toArray }=Hh at hns₁ hk₁ hx₁ ⊢
 have hCs:Hh.objs.size=s.heap.objs.size+1:=by rw [←hHh,VaR]
 generalize hCC:Hh.objs.size=C at hns₁ hx₁ hCs ⊢
 generalize hDD:s.heap.objs.size=D at hCs ⊢
 have ltDC:D<C:=by omega
 have hDC:D≠C:=Vah ltDC
 have hsD:s.heap.objs.size≤D:=Nat.le_of_eq hDD
 have hsC:s.heap.objs.size≤C:=by omega
 have ltS:∀{b:Addr} {o:Obj},s.heap.get? b=some o→b<D:=fun e=>by rw [←hDD];exact Vae e
 have old:∀b o,s.heap.get? b=some o→h₁.get? b=some o:=fun b o e=>by
  refine hk₁ b o ?_
  rw [←hHh]
  exact VaC _ e
 have hD0:h₁.PlainList D #[]:=by
  have z:Hh.get? D=some { cls:=.type "list", dict:=none,data:=.seq ([]:List Value).toArray }:=by
   rw [←hHh,←hDD]
   exact VaH _ rfl
  exact ⟨_,hk₁ D _ z⟩
 obtain ⟨W,⟨m0,w0⟩,turn⟩:=hw C s H fp (X.pn++pins)
 have hg:=hgF C s H fp (X.pn++pins)
 have ht:=htF C s H fp (X.pn++pins)
 have he:=heF C s H fp (X.pn++pins)
 have I':Inv (Zav xf X (own++cap.map (·.1)) scope cl C s H fp (X.pn++pins)) [] (st0 own σ cap) H { s with heap:=h₁,toks:=s.toks }:=(I2.comp (t':=s.toks) O T st2 f2 hsC old hns₁ hx₁).rexe
 have cne:∀x c,(PySem.cellsFrom (C+1) scope.names cl).lookup x=some c→(∃v,s.heap.IsCell c v∧X.env.cells.lookup x=some c)∨C<c:=fun x c e=>by
  rcases hx₁ x c (Va1 e) with z | ⟨_,z⟩
  ·obtain ⟨v,hv⟩:=I2.cell x c (O.sub x c z)
   exact .inl ⟨v,hv,O.sub x c z⟩
  ·exact .inr z
 have st':tn 0 h₁:=T.keep _ _ _ st2 fun b hb o e=>old b o e
 have nofr:∀{a:Addr},s.heap.objs.size≤a→a∉frs X.stack:=fun {a} ha z=>by
  rcases Var.mp (I2.stkSub a z) with q | q
  ·exact absurd (Vaf I2.lt ha) (by rw [q];exact Vag _)
  ·exact I2.nofs ha q
 have ltfp:∀b∈fp,b<D:=fun b hb=>by
  obtain ⟨o,e,_⟩:=T.obj _ _ st2 b hb
  exact ltS e
 have fpk:∀{H3:Hp} {objD:Obj},(∀b∈fp,H3 b=none)→∀b∈fp,FpOk (Zav xf X (own++cap.map (·.1)) scope cl C s H fp (X.pn++pins)) [(D,objD)] H3 b:=fun {H3 objD} hn b hb=>by
  obtain ⟨_,f1,f3,f4,f5,f6⟩:=f2 b hb
  have lb:=ltfp b hb
  refine ⟨hn b hb,(Vah (Vbr lb ltDC)),fun z=>?_,.inl hb,fun x c e=>?_,fun p hp=>?_⟩
  ·rcases Var.mp (I2.stkSub b z) with q | q
   ·exact f1 q
   ·exact f3 q
  ·rcases cne x c e with ⟨_,_,z⟩ | z
   ·exact f5 x c z
   ·exact VaG (Vbr lb (Vbr ltDC z))
  ·rcases Vas.mp hp with z | z
   ·exact f6 p z
   ·have z':p=(D,objD):=by simpa using z
    subst z'
    exact VaG lb
 have loop:∀s₃:Shared,s₃={ s with heap:=h₁ } →
   codeAny (model X.prog X.w) X.A (.compLoop (.ListComp elt [⟨tg,iter,ts,0⟩] scope pos) 0 (.ref it) (.ref D) (compEnvC scope (PySem.cellsFrom (C+1) scope.names cl) C X.env)) (R (.ref D) C) s₃:=by
  rintro s₃ rfl
  refine ZhD hts (fun n s'=>∃(i:Nat) (acc:List V) (its:List Value) (H':Hp),Inv (Zav xf X (own++cap.map (·.1)) scope cl C s H fp (X.pn++pins)) [] (st0 own σ cap) H' s'∧tn i s'.heap∧(∀b∈fp,H' b=none)∧H' D=none ∧
   s'.heap.PlainList D its.toArray∧Vals acc its∧W i n acc H') ?_ m0 ⟨0,[],[],H,I',st',fun b hb=>(f2 b hb).1,I2.hok.fresh hsD,hD0,.nil,w0⟩
  rintro n s3 ⟨i,acc,its,H3,I3,st3,fr3,nD,⟨nn,hD⟩,rv,w3⟩
  obtain ⟨hlen,hturn⟩:=turn i n acc H3 w3
  have lenV:=rv.length
  have pinD:∀{s5:Shared} {H5:Hp},s5.heap.get? D=some { cls:=.type "list", data:=.seq its.toArray nn }→H5 D=none→∀p∈[(D,({ cls:=.type "list", data:=.seq its.toArray nn }:Obj))],s5.heap.get? p.1=some p.2∧H5 p.1=none∧p.1≠C∧p.1∉frs X.stack∧∀v,p.2.data≠.cell v:=by
   intro s5 H5 e1 e2 p hp
   have z':p=(D,({ cls:=.type "list", data:=.seq its.toArray nn }:Obj)):=by simpa using hp
   subst z'
   exact ⟨e1,e2,hDC,nofr hsD,fun v z=>by cases z⟩
  have I3p:Inv (Zav xf X (own++cap.map (·.1)) scope cl C s H fp (X.pn++pins)) [(D,{ cls:=.type "list", data:=.seq its.toArray nn })] (st0 own σ cap) H3 s3:=I3.pins_of (pinD hD nD)
  rcases hturn with ⟨stop,qn⟩ | ⟨go,step⟩
  ·refine Vaw (T.done (Zav xf X (own++cap.map (·.1)) scope cl C s H fp (X.pn++pins)) rfl rfl rfl hc i _ s3 _ H3 (fun _ _=>False) I3p (fpk fr3) st3 stop) (fun r s4 h4=>?_) (fun _ _ z=>z.elim)
   obtain ⟨hr,I4⟩:=h4
   subst hr
   obtain ⟨m4,hm4,_⟩:=I4.loc
   have hD4:=(I4.pin (D,{ cls:=.type "list", data:=.seq its.toArray nn }) (VaL _ (by simp))).1
   have nC:H3 C=none:=I4.free
   refine fin D C (upd H3 D (.lst acc)) s4 m4 hsC hm4 (by rw [Zag (Ne.symm hDC)];exact nC) (fun h' sb=>?_) (qn D nD)
   have kc:∀b o,b≠C→s4.heap.get? b=some o→h'.get? b=some o:=fun b o hb e=>sb.extBut b o hb e
   have neD:∀{b:Addr} {o:Obj},s.heap.get? b=some o→b≠D:=fun e=>Vah (ltS e)
   have neC:∀{b:Addr} {o:Obj},s.heap.get? b=some o→b≠C:=fun e=>Vah (Vbr (ltS e) ltDC)
   refine I2.call' (s':={ s4 with heap:=h' }) (ch:=fp) I4.os ⟨?_,?_,?_,?_,?_,?_,?_⟩ (fun a o e=>?_) I4.bare (fun b hb=>?_)
   ·exact fun b o e n hb hx=>kc b o (neC e) (I4.base.keep b o e n hb hx)
   ·intro b o e n hb hx
    obtain ⟨sl,q⟩:=I4.base.slot b o e n hb hx
    exact ⟨sl,kc b _ (neC e) q⟩
   ·intro b o e n hx
    rw [Zag (neD e)]
    exact I4.base.free b o e n hx
   ·intro b o e hx
    obtain ⟨o',q⟩:=I4.base.there b o e hx
    exact ⟨o',kc b _ (neC e) q⟩
   ·intro b xs e
    have q:=I4.base.tups b xs e
    rw [Zag (Zaf q nD)]
    exact q
   ·intro b o u e
    have q:=I4.base.frzs b o u e
    rw [Zag (Zaf q nD)]
    exact q
   ·intro b ps e
    obtain ⟨more,q⟩:=I4.base.tbls b ps e
    exact ⟨more,by rw [Zag (Zaf q nD)];exact q⟩
   ·by_cases ha:a=D
    ·subst ha
     rw [Zah] at e
     cases e
     exact ⟨hlen,its,nn,rv,kc _ _ hDC hD4⟩
    ·rw [Zag ha] at e
     refine (I4.hok a o e).stay (fun b u hb q=>kc b u ?_ q) (fun b q=>?_) (fun b xs q=>?_)
     ·rcases hb with rfl | hb
      ·exact Zaf e nC
      ·exact Zaf hb nC
     ·rw [Zag (Zaf q nD)];exact q
     ·rw [Zag (Zaf q nD)];exact q
   ·obtain ⟨_,f1,_,f4,f5,f6⟩:=f2 b hb
    exact ⟨f4,f1,f5,f6⟩
  ·refine Vaw (T.item (Zav xf X (own++cap.map (·.1)) scope cl C s H fp (X.pn++pins)) rfl rfl rfl hc i _ s3 _ H3 (fun _ _=>False) I3p (fpk fr3) st3 go) (fun r s4 h4=>?_) (fun _ _ z=>z.elim)
   obtain ⟨u,hr,h4⟩:=h4
   subst hr
   refine Vaw h4 (fun _ s5 h5=>?_) (fun _ _ z=>z.elim)
   obtain ⟨x,H5,I5,r5,y5,st5,fr5⟩:=h5
   have I5':=I5.pinned (fpk fr5) (T.obj _ _ st5)
   refine Vaw (hg _ s5 _ H5 x u _ I5' r5 (step x H5 y5)) (fun _ s6 h6=>?_) (fun e s' z=>hexc D C _ e s' hsC z)
   obtain ⟨σ6,H6,I6,e6,q6⟩:=h6
   refine Vaw (ht _ s6 σ6 H6 _ I6 q6) (fun bb s6' h6'=>?_) (fun e s' z=>hexc D C _ e s' hsC z)
   obtain ⟨H6',I6',q6'⟩:=h6'
   have stay:∀{H7:Hp} {s7:Shared},Inv (Zav xf X (own++cap.map (·.1)) scope cl C s H fp (X.pn++pins)) [] σ6 H7 s7→Inv (Zav xf X (own++cap.map (·.1)) scope cl C s H fp (X.pn++pins)) [] (st0 own σ cap) H7 s7:=fun {H7 s7} I8=>by
    refine I8.weak (I'.len.trans I8.len.symm) (fun j v e=>?_)
    obtain ⟨l,p,rfl,hp,hs⟩:=ZlR e
    have q:(σ6.drop own.length)[l]?=some (some v):=by
     rw [e6]
     unfold capt
     rw [Va5,hp]
     show some ((σ[p.2]?).join)=_
     rw [hs]
     rfl
    rwa [List.getElem?_drop] at q
   cases bb with
   | false =>
    rw [if_neg VaF] at q6' ⊢
    obtain ⟨m',hm,w7⟩:=q6'
    obtain ⟨hD7,nD7,_⟩:=I6'.pin (D,{ cls:=.type "list", data:=.seq its.toArray nn }) (VaL _ (by simp))
    have st7:tn (i+1) s6'.heap:=T.keep _ _ _ st5 fun b hb o e=>(I6'.pin (b,o) (VaL _ (VaL _ (ZbT hb e)))).1
    have fr7:∀b∈fp,H6' b=none:=fun b hb=>by
     obtain ⟨o,e,_⟩:=T.obj _ _ st5 b hb
     exact (I6'.pin (b,o) (VaL _ (VaL _ (ZbT hb e)))).2.1
    exact ⟨m',hm,i+1,acc,its,H6',stay (I6'.pins_of fun p hp=>nomatch hp),st7,fr7,nD7,⟨nn,hD7⟩,rv,w7⟩
   | true =>
   rw [if_pos rfl] at q6' ⊢
   refine Vaw (he _ s6' σ6 H6' _ I6' q6') (fun y s7 h7=>?_) (fun e s' z=>hexc D C _ e s' hsC z)
   obtain ⟨v,H7,I7,r7,hl7,m',hm,w7⟩:=h7
   obtain ⟨hD7,nD7,_⟩:=I7.pin (D,{ cls:=.type "list", data:=.seq its.toArray nn }) (VaL _ (by simp))
   have st7:tn (i+1) s7.heap:=T.keep _ _ _ st5 fun b hb o e=>(I7.pin (b,o) (VaL _ (VaL _ (ZbT hb e)))).1
   have fr7:∀b∈fp,H7 b=none:=fun b hb=>by
    obtain ⟨o,e,_⟩:=T.obj _ _ st5 b hb
    exact (I7.pin (b,o) (VaL _ (VaL _ (ZbT hb e)))).2.1
   refine wpAny_list_append_plain (l:=D) (items:=its.toArray) ⟨nn,hD7⟩ (fun h8 hp8 hs8=>?_) (by rw [Va9];omega)
   have I7w:Inv (Zav xf X (own++cap.map (·.1)) scope cl C s H fp (X.pn++pins)) [] σ6 H7 s7:=I7.pins_of fun p hp=>nomatch hp
   have I8:Inv (Zav xf X (own++cap.map (·.1)) scope cl C s H fp (X.pn++pins)) [] σ6 H7 { s7 with heap:=h8 }:=by
    refine I7w.turned (t':=s7.toks) (it:=D) (fun b o hb e=>hs8.extBut b o hb e) nD7 hDC (.inr hsD) (fun x c e=>?_) (fun p hp=>?_)
    ·rcases cne x c e with ⟨v,⟨o,ho,_⟩,_⟩ | z
     ·exact Vah (ltS ho)
     ·exact VaG (Vbr ltDC z)
    ·have hp':p∈X.pn++pins:=by simpa [Zav,ZaJ] using hp
     exact Vah (ltS (I2.pin p hp').1)
   have I9:=stay I8
   refine ⟨m',hm,i+1,acc++[v],its++[y],H7,I9,T.keep _ _ _ st7 (fun b hb o e=>hs8.extBut b o (Vah (ltfp b hb)) e),fr7,nD7,?_,rv.append (.cons r7 .nil),w7⟩
   simpa using hp8
 exact codeAny_compStart_list (loop _ rfl) (T.self X.A 0 _ _ _ st' (loop _ rfl))
theorem ZjK{elt iter:Expr}{ts:List Expr}{pos:Pos}{gF:Fam TG}{ttF:Fam TT}{teF:Fam TE}{E:Value→Shared→Prop}(O:ZcU X own cap scope cl)(hc:X.calm=true)
  (hgF:∀C s H fp pn,PG (ZaJ X (own++cap.map (·.1)) scope cl C s H fp pn) tg (gF C s H fp pn)) (htF:∀C s H fp pn,PTs (ZaJ X (own++cap.map (·.1)) scope cl C s H fp pn) ts (ttF C s H fp pn)) (heF:∀C s H fp pn,PE (ZaJ X (own++cap.map (·.1)) scope cl C s H fp pn) elt (teF C s H fp pn)) (hts:ts.length≤1)
  (I2:Inv X pins σ H s) (T:Turn X.prog X.w X.K tg J fp it tn) (st2:tn 0 s.heap) (f2:∀b∈fp,FpOk X pins H b) {Q:VK}
  (hw:∀C s H2 fp pn,ZcX J (gF C s H2 fp pn) (ttF C s H2 fp pn) (teF C s H2 fp pn) own cap σ Q H)
  {R:Value→Addr→Result→Shared→Prop}
  (fin:∀(D C:Addr) (H':Hp) (s':Shared) (m:Str→Option Value),s.heap.objs.size≤C→s'.heap.Ns C m→H' C=none →
   (∀h',Heap.SameBut C s'.heap h'→Inv X pins σ H' { s' with heap:=h' })→Q (.ref D) H'→R (.ref D) C (.ok .next) s') :
  wpAny (model X.prog X.w) X.A (newList []) (fun acc s₃=>wpAny (model X.prog X.w) X.A (newFunctionEnv scope X.env.globals cl [] X.env.qual none .none (some X.env)) (fun cenv s₄ =>
   codeAny (model X.prog X.w) X.A (.compStart (.ListComp elt [⟨tg,iter,ts,0⟩] scope pos) 0 (.ref it) acc { cenv with scope:=relabel scope X.env }) (R acc cenv.locals) s₄) E s₃) E s :=
 Zh8 (xf:=fun _ _ _ _ _ _=>False) O hc hgF htF heF hts I2 T st2 f2 hw fin fun _ _ _ _ _ _ z=>z.elim
theorem Zpw{elt iter:Expr}{pos:Pos}{wi:TI}{ts:List Expr}{g:Fam TG}{tt:Fam TT}{te:Fam TE}(hi:PI X tg iter wi)(O:ZcU X own cap scope cl)(hc:X.calm=true)
  (hg:∀C s H fp pn,PG (ZaJ X (own++cap.map (·.1)) scope cl C s H fp pn) tg (g C s H fp pn)) (ht:∀C s H fp pn,PTs (ZaJ X (own++cap.map (·.1)) scope cl C s H fp pn) ts (tt C s H fp pn)) (he:∀C s H fp pn,PE (ZaJ X (own++cap.map (·.1)) scope cl C s H fp pn) elt (te C s H fp pn)) (hts:ts.length≤1)
  (hs:∀x,foldedSetIterable iter X.env x=pure x:=by intro _;rfl):PE X (.ListComp elt [⟨tg,iter,ts,0⟩] scope pos) (ZeS wi g tt te own cap):=by
 intro pins s σ H Q I h
 rw [eval_ListComp]
 refine wpAny_comprehension_free (use:=none) rfl hs O.clos O.kind O.locals (thn (hi pins s σ H _ I h) fun xv s₁ h₁=>thn h₁ fun itv s₂ h₂=>?_)
 obtain ⟨it,fp,tn,J,H2,rfl,I2,T,st2,f2,hw⟩:=h₂
 refine ZjK (R:=fun acc C=>compPost (model X.prog X.w) X.A X.xe none (EP X pins σ Q) acc C) O hc hg ht he hts I2 T st2 f2 hw ?_
 intro D C H' s' m hC hn hH IV q
 exact ⟨m,hn,fun h' sb=>⟨.ref D,H',IV h' sb,rfl,q⟩⟩
theorem Zkv{elt iter:Expr}{pos pos' spos:Pos}{wi:TI}{ts:List Expr}{g:Fam TG}{tt:Fam TT}{te:Fam TE}{i:Nat}{x:Str}(hN:X.N.Nodup)(hix:X.N[i]?=some x)(hx:Loc X.env.scope x)(hi:PI X tg iter wi)(O:ZcU X own cap scope cl)(hc:X.calm=true)
  (hg:∀C s H fp pn,PG (ZaJ X (own++cap.map (·.1)) scope cl C s H fp pn) tg (g C s H fp pn)) (ht:∀C s H fp pn,PTs (ZaJ X (own++cap.map (·.1)) scope cl C s H fp pn) ts (tt C s H fp pn)) (he:∀C s H fp pn,PE (ZaJ X (own++cap.map (·.1)) scope cl C s H fp pn) elt (te C s H fp pn)) (hts:ts.length≤1)
  (hsw:swapsWith (.ListComp elt [⟨tg,iter,ts,0⟩] scope pos) (some (.Name x pos')) spos.line X.env=pure true:=by rfl)
  (hs:∀x,foldedSetIterable iter X.env x=pure x:=by intro _;rfl)
  (hf:X.fn x=true∨X.env.scope.names.lookup x=some .local:=by first | exact .inl rfl | exact .inr rfl | assumption):PS X (.Assign [.Name x pos'] (.ListComp elt [⟨tg,iter,ts,0⟩] scope pos) spos) (tAsg (ZeS wi g tt te own cap) (ZfL i)):=by
 intro pins s σ H D I h
 rw [exec_Assign_Name_used _ _ _ _ hsw]
 refine Vaz (wpAny_standAt (Vaz ?_))
 show wpAny _ X.A (do let _ ←comprehension (.ListComp elt [⟨tg,iter,ts,0⟩] scope pos) scope X.env _ (newList []) false (eval iter X.env) (some (assign (.Name x pos') X.env))) _ _ s
 refine Vaz (Vaw (wpAny_comprehension_free (use:=some (assign (.Name x pos') X.env)) (Q:=fun _ s'=>SP X pins D .next s') rfl hs O.clos O.kind O.locals
  (thn (hi pins s σ H _ I h) fun xv s₁ h₁=>thn h₁ fun itv s₂ h₂=>?_)) (fun _ s' hq=>VaA (VaA hq)) fun _ _ e=>e)
 obtain ⟨it,fp,tn,J,H2,rfl,I2,T,st2,f2,hw⟩:=h₂
 refine ZjK (Q:=fun x H1=>ZfL i x σ H1 D.nx) (R:=fun acc C=>compPost (model X.prog X.w) X.A X.xe (some (assign (.Name x pos') X.env)) (fun _ s'=>SP X pins D .next s') acc C) O hc hg ht he hts I2 T st2 f2 hw ?_
 intro A C H' s' m hC hn hH IV q
 show wpAny _ X.A (assign (.Name x pos') X.env (.ref A)) _ _ _
 have I3:Inv X pins σ H' s':=IV s'.heap (Heap.SameBut.refl ..)
 obtain ⟨oc,es,ep,ho,hd,hk⟩:=id hn
 have neL:C≠X.env.locals:=VaG (Vaf I2.lt hC)
 have neF:C∉X.fs:=I2.nofs hC
 have I4:Inv X (pins++[(C,oc)]) σ H' s':=I3.pins_of fun p hp=>by
  rcases Vas.mp hp with z | z
  ·exact I3.pin p (VaL _ z)
  ·have z':p=(C,oc):=by simpa using z
   subst z'
   exact ⟨ho,hH,neL,neF,fun v e=>by rw [hd] at e;cases e⟩
 refine wpAny_assign_Name (Zd2 I4 hN hix hx (v:=.ref A) rfl (fun s5 I5=>?_) hf)
 have ho5:=(I5.pin (C,oc) (VaL _ (VaL _ (by simp)))).1
 refine ⟨m,⟨oc,es,ep,ho5,hd,hk⟩,fun h' sb=>⟨_,H',?_,q⟩⟩
 refine (I5.unpinned (pl:=[(C,oc)])).turned (t':=s5.toks) (it:=C) (fun b o hb e=>sb.extBut b o hb e) hH neL (.inr (Vak I2.sz hC)) (fun y c e=>?_) (fun p hp=>?_)
 ·obtain ⟨v,o,hc',_⟩:=I2.cell y c e
  exact Vah (Vaf (Vae hc') hC)
 ·exact Vah (Vaf (Vae (I2.pin p hp).1) hC)
end
def Ze6(scope out:Scope):List (Str×NameKind):=scope.names.map fun (n,k)=>if (k==.free&&out.kind==.function&&out.names.lookup n==some .cell) then (n,.cell) else (n,k)
def ZmR(scope out:Scope)(cn:List Str):Bool :=
 scope.names.all (fun y=>y.2 != .cell||!cn.contains y.1)&&scope.names.all (fun y=>y.2 != .local||scope.names.lookup y.1==some .local)&&(Ze6 scope out).all (fun y=>!(y.2==.cell||y.2==.free)||cn.contains y.1||scope.names.contains (y.1,.cell))&&cn.all (fun n=>out.names.lookup n==some .cell&&(Ze6 scope out).lookup n==some .cell)
def ZkY(X:Cx):List (Str×Addr)→Prop
 | []=>True
 | p::r=>X.env.cells.lookup p.1=some p.2∧ZkY X r
theorem ZkY.mem{X:Cx}:∀{cl:List (Str×Addr)} {p:Str×Addr},ZkY X cl→p∈cl→X.env.cells.lookup p.1=some p.2
 | _::_,_,h,.head _=>h.1
 | _::_,_,h,.tail _ m=>ZkY.mem h.2 m
def CapN(X:Cx):List (Str×Nat)→Prop
 | []=>True
 | p::r=>X.N[p.2]?=some p.1∧CapN X r
theorem Zft{α:Type}{x:Str}:∀{l:List (Str×α)},x∈l.map (·.1)→∃c,l.lookup x=some c
 | [],h=>by simp at h
 | (y,c)::r,h=>by
  by_cases e:x=y
  ·subst e;exact ⟨c,by simp⟩
  ·have h':x∈r.map (·.1):=by
    rcases Vbs.mp h with ⟨p,hp,rfl⟩
    rcases Var.mp hp with rfl | hp
    ·exact absurd rfl e
    ·exact Vbs.mpr ⟨p,hp,rfl⟩
   obtain ⟨d,hd⟩:=Zft (l:=r) h'
   exact ⟨d,by rw [Vbq,beq_false_of_ne e];exact hd⟩
theorem ZcU.of{X:Cx}{own:List Str}{cap:List (Str×Nat)}{scope:Scope}{cl:List (Str×Addr)}(clos:closureFor scope X.env=pure cl)(kind:scope.kind=.function)(chk:ZmR scope X.env.scope (cap.map (·.1))=true)
  (names:cl.map (·.1)=cap.map (·.1)) (sub:ZkY X cl) (capn:CapN X cap):ZcU X own cap scope cl:=by
 unfold ZmR at chk
 simp only [Vbj,List.all_eq_true] at chk
 obtain ⟨⟨⟨h1,h2⟩,h3⟩,h4⟩:=chk
 have sub':∀x c,cl.lookup x=some c→X.env.cells.lookup x=some c:=fun x c e=>sub.mem (Va1 e)
 have capk:∀(l:List (Str×Nat)),(∀p∈l,p.1∈cap.map (·.1))→CapN X l→ZkF X (relabel scope X.env) cl l:=by
  intro l
  induction l with
  | nil=>exact fun _ _=>trivial
  | cons p r ih =>
   intro hm hn
   have hp:=hm p Vao
   have hq:=h4 p.1 hp
   have e1:X.env.scope.names.lookup p.1=some .cell:=by simpa using hq.1
   have e2:(Ze6 scope X.env.scope).lookup p.1=some .cell:=by simpa using hq.2
   obtain ⟨c,hc⟩:=Zft (l:=cl) (x:=p.1) (by rw [names];exact hp)
   exact ⟨⟨hn.1,e1,e2,c,hc,sub' _ _ hc⟩,ih (fun q hq=>hm q (Vap _ hq)) hn.2⟩
 refine ⟨clos,kind,fun x c hm y hy hk=>?_,fun y hy e=>?_,fun x c hm=>sub.mem hm,fun k x hx=>?_,capk cap (fun p hp=>Vbs.mpr ⟨p,hp,rfl⟩) capn⟩
 ·have:=h1 y hy
  rw [hk] at this
  rintro rfl
  have hc:y.1∈cap.map (·.1):=by rw [←names];exact Vbs.mpr ⟨_,hm,rfl⟩
  simp at this
  simp at hc
  obtain ⟨a,ha⟩:=hc
  exact this a ha
 ·have:=h2 y hy
  rw [e] at this
  simpa using this
 ·have fin:∀k',(Ze6 scope X.env.scope).lookup x=some k'→(k'=.cell∨k'=.free)→∃c,(PySem.cellsFrom k scope.names cl).lookup x=some c:=by
   intro k' e hk
   have:=h3 _ (Va1 e)
   refine Option.isSome_iff_exists.mp (ZeF scope.names k cl ?_)
   have this':x∈cap.map (·.1)∨(x,NameKind.cell)∈scope.names:=by
    rcases hk with rfl | rfl
    ·simpa using this
    ·simpa using this
   rcases this' with z | z
   ·obtain ⟨c,hc⟩:=Zft (l:=cl) (x:=x) (by rw [names];exact z)
    exact .inl (by rw [hc];rfl)
   ·exact .inr z
  rcases hx with e | e
  ·exact fin _ e (.inl rfl)
  ·exact fin _ e (.inr rfl)
theorem ZbS.there{P:Program}{w:World}{H:Hp}{h:Heap}{a:Addr}{o:HO}(x:ZbS P w H h a o):∃ob,h.get? a=some ob:=by
 cases o with
 | lst xs=>obtain ⟨_,_,_,_,e⟩:=x;exact ⟨_,e⟩
 | tup xs=>obtain ⟨_,_,_,o,e,_⟩:=x;exact ⟨_,e⟩
 | dK kvs=>obtain ⟨_,_,_,_,o,_,_,e,_⟩:=x;exact ⟨_,e⟩
 | dT kvs=>obtain ⟨_,_,_,_,o,_,_,e,_⟩:=x;exact ⟨_,e⟩
 | set S n=>obtain ⟨o,_,_,_,e,_⟩:=x;exact ⟨_,e⟩
 | ins C dx fs=>obtain ⟨_,_,_,e,_⟩:=x;exact ⟨_,e⟩
 | own y=>obtain ⟨_,e⟩:=x;exact ⟨_,e⟩
 | xd fs=>obtain ⟨_,⟨_,_,_,e,_⟩,_⟩:=x;exact ⟨_,e⟩
 | rng lo hi=>obtain ⟨_,_,_,e⟩:=x;exact ⟨_,e⟩
 | frz ob u=>obtain ⟨e,_⟩:=x;exact ⟨_,e⟩
 | tbl ps=>exact ⟨_,(show h.get? a=some _ from x)⟩
 | met f y=>exact ⟨_,(show h.get? a=some _ from x)⟩
 | ext φ=>obtain ⟨_,⟨_,e⟩,_⟩:=x;exact ⟨_,e⟩
theorem HOk.free{P:Program}{w:World}{H:Hp}{h:Heap}(x:HOk P w H h){a:Addr}(e:h.get? a=none):H a=none:=by
 cases q:H a with
 | none=>rfl
 | some o =>
  obtain ⟨ob,z⟩:=(x a o q).there
  rw [e] at z;cases z
structure Fly(P:Program)(w:World)(l:List Env)(H H':Hp)(s s':Shared)(x:Addr)(cls:Value):Prop where
 os:s'.os=s.os
 bare:AllBare s'.gens
 un:Un (frs l) [] H H' s.heap s'.heap
 hok:HOk P w H' s'.heap
 frf:∀b∈frs l,H' b=none
 free:H' x=none
 ex:∃(B:Heap) (a0:Value),Heap.FlyingW B l x cls a0 s'.heap∧∀b o,s'.heap.get? b=some o→(H' b≠none∨∃o',s.heap.get? b=some o')→b∉frs l→B.get? b=some o
theorem ZoM{P:Program}{w:World}{l l':List Env}{H H':Hp}{s s':Shared}{x:Addr}{cls a0:Value}{B h':Heap}(os:s'.os=s.os)(bare:AllBare s'.gens)(un:Un (frs l) [] H H' s.heap s'.heap)(hok:HOk P w H' s'.heap)
  (frf:∀b∈frs l,H' b=none) (nf:∀b∈frs l,∃o,s'.heap.get? b=some o∧∀vs,o.data≠.fields vs)
  (cov:∀b o,s'.heap.get? b=some o→(H' b≠none∨∃o',s.heap.get? b=some o')→b∉frs l→B.get? b=some o)
  (sub:∀b∈frs l',b∈frs l) (new:∀b∈frs l,b∉frs l'→s.heap.get? b=none) (fl:Heap.FlyingW B l' x cls a0 h') (sm:s'.heap.UpToSlots h') (free:H' x=none) :
  Fly P w l' H H' s { s' with heap:=h' } x cls:=by
 have stay:∀b o,s'.heap.get? b=some o→(H' b≠none∨∃o',s.heap.get? b=some o')→b∉frs l→h'.get? b=some o:=fun b o e q hb=>fl.1 b o (cov b o e q hb)
 have out:∀{b:Addr} {o:Obj},s.heap.get? b=some o→b∉frs l'→b∉frs l:=fun {b o} e hb z=>by
  rw [new b z hb] at e;cases e
 refine ⟨os,bare,⟨fun b o e n hb hx=>?_,fun b o e n hb hx=>?_,un.free,fun b o e hx=>?_,un.tups,un.frzs,un.tbls⟩,fun a o e=>?_,fun b hb=>frf b (sub b hb),free,B,a0,fl,fun b o e q hb=>?_⟩
 ·exact stay b o (un.keep b o e n (out e hb) hx) (.inr ⟨o,e⟩) (out e hb)
 ·obtain ⟨sl,q⟩:=un.slot b o e n (sub b hb) hx
  obtain ⟨o1,q1,d1⟩:=nf b (sub b hb)
  rw [q] at q1;cases q1
  obtain ⟨sl',q2⟩:=sm b _ q d1
  exact ⟨sl',q2⟩
 ·obtain ⟨o',q⟩:=un.there b o e hx
  by_cases hb:b∈frs l
  ·obtain ⟨o1,q1,d1⟩:=nf b hb
   obtain ⟨sl',q2⟩:=sm b _ q1 d1
   exact ⟨_,q2⟩
  ·exact ⟨o',stay b o' q (.inr ⟨o,e⟩) hb⟩
 ·refine (hok a o e).stay (fun b u hb q=>?_) (fun _ q=>q) fun _ _ q=>q
  have tr:H' b≠none:=by
   rcases hb with rfl | hb
   ·rw [e];simp
   ·rw [hb];simp
  exact stay b u q (.inl tr) fun z=>tr (frf b z)
 ·have hb':b∉frs l:=by
   intro z
   rcases q with q | ⟨o',q⟩
   ·exact q (frf b z)
   ·exact out q hb z
  have ⟨o1,q1⟩ : ∃o1,s'.heap.get? b=some o1:=by
   rcases q with q | ⟨o',q⟩
   ·cases z:H' b with
    | none=>exact absurd z q
    | some u=>exact (hok b u z).there
   ·exact un.there b o' q (by simp)
  have c:=cov b o1 q1 q hb'
  have z:=fl.1 b o1 c
  have e':h'.get? b=some o:=e
  rw [e'] at z;cases z
  exact c
section
variable{X:Cx}{pins:List (Addr×Obj)}{σ:St}{H H':Hp}{s s':Shared}{x:Addr}{cls:Value}
theorem Inv.unStack(I:Inv X pins σ H s)(hex:X.ex=[])(hfs:∀b∈X.fs,b∈frs X.stack):Un (frs X.stack) [] X.H₀ H X.s₀.heap s.heap:=I.base.mono hfs (by rw [hex];exact fun _ z=>z)
theorem Inv.sub(I:Inv X pins σ H s):∀b∈X.fs,b∈frs X.stack:=fun b hb=>by
 rcases I.ok.stk with e | ⟨e,hf⟩
 ·rw [e];exact hb
 ·rw [e]
  unfold frs
  rw [Van,hf]
  exact Vap _ hb
theorem Inv.flyOut(I:Inv X pins σ H s)(hex:X.ex=[])(F:Fly X.prog X.w X.stack H H' s s' x cls){B h':Heap}{a0:Value}(fl0:Heap.FlyingW B X.stack x cls a0 s'.heap)
  (cov:∀b o,s'.heap.get? b=some o→(H' b≠none∨∃o',s.heap.get? b=some o')→b∉frs X.stack→B.get? b=some o) (fl:Heap.FlyingW B X.outer x cls a0 h') (sm:s'.heap.UpToSlots h') :
  Fly X.prog X.w X.outer X.H₀ H' X.s₀ { s' with heap:=h' } x cls:=by
 refine ZoM (F.os.trans I.os) F.bare ((I.unStack hex I.sub).trans F.un) F.hok F.frf (fun b hb=>(fl0.2.2.1.mem hb).2) (fun b o e q hb=>cov b o e (q.imp id fun ⟨o',z⟩=>I.base.there b o' z (by rw [hex];simp)) hb) I.sub (fun b h1 h2=>?_) fl sm F.free
 rcases Var.mp (I.stkSub b h1) with e | e
 ·rw [e];exact Vaq I.ok.above
 ·exact absurd e h2
end
def CXR(P:Program)(w:World):CXT:=fun outer H s E e s'=>∃(x:Addr) (cls:Value) (H':Hp),e=.ref x∧Fly P w outer H H' s s' x cls∧E cls none H'
section
variable{P:Program}{w:World}{K:W.Frag}{mg:Str→Option Value}{base:Heap}{N:List Str}{qual:Str}{scope:Scope}{f:Addr}{cd:Value}{A:Around}{outer:List Env}{s₀:Shared}{H₀:Hp}{E:XK}
theorem Zas:ZbV (CXR P w) (cxOf (CXR P w) P w K mg base N qual scope f cd A outer s₀ H₀ E) E:=by
 intro pins σ H s e s' I h
 obtain ⟨x,cls,H',rfl,F,q⟩:=h
 obtain ⟨B,a0,fl,cov⟩:=F.ex
 show wpAny (model P w) (A.deeper (envOfC qual scope s₀.heap.objs.size f cd)) (leaving (envOfC qual scope s₀.heap.objs.size f cd) (.ref x)) _ _ s'
 exact wpAny_leaves_onW I.ok.frames rfl fl fun h' fl' sm=>⟨x,cls,H',rfl,I.flyOut rfl F fl cov fl' sm,q⟩
end
abbrev Zha:List Value:=[.type "ValueError", .type "Exception", .type "BaseException", .type "object"]
theorem Zr1{K:W.Frag}{h₀:Heap}{mg:Str→Option Value}{x:Str}{C:Addr}{bmB:List Value}{newId:String}(X:K.In h₀)(m:mg x=some (.ref C))(q:W.excIn K C bmB newId=true):OwnCls x C bmB newId mg h₀:=by
 refine ⟨m,?_⟩
 unfold W.excIn at q
 split at q
 ·rename_i dd cd sl ho
  split at q
  ·rename_i C' bm k0 k1 k2 k3 n k5 hm hs
   simp only [Vbj,beq_iff_eq,Bool.not_eq_true'] at q
   obtain ⟨⟨⟨⟨⟨rfl,rfl⟩,hdel⟩,ht⟩,hok⟩,hni⟩:=q
   obtain ⟨nm,bs,mro,ns,qn,hd,sn,sub,ab,col,del⟩:=cd
   dsimp only at hm hdel hok hni
   subst hm hdel
   have hsl:sl=#[k0,k1,k2,k3,some (.builtin n),k5]:=by
    obtain ⟨l⟩:=sl
    simp only at hs
    rw [hs]
   subst hsl
   exact ⟨bm,ns,nm,qn,bs,hd,sn,sub,ab,col,dd,k0,k1,k2,k3,k5,_,X _ _ ho,.of_isNs (W.isNs_of_in X hok),W.nsMap_none_of_in X hok hni,W.tail_of_in X ht⟩
  ·cases q
 ·cases q
section
variable{X:Cx}{pins:List (Addr×Obj)}{σ:St}{H:Hp}{s:Shared}
theorem Inv.flyMade(I:Inv X pins σ H s)(hex:X.ex=[])(hst:X.stack=X.env::X.outer)(hfr:X.env.frame=some X.env.locals){x:Addr}{cls:Value}{args:List Value}{s1:Shared}{h1:Heap}(e1:s1={ s with heap:=h1,toks:=s1.toks })(hx:Heap.MadeExcOf s.heap h1 x cls args)
  {Q:Unit→Shared→Prop} {E:Value→Shared→Prop} (k:∀s2,Fly X.prog X.w X.outer X.H₀ H X.s₀ s2 x cls→Q () s2):wpAny (model X.prog X.w) X.A (leaving X.env (.ref x)) Q E s1:=by
 have hin:∀env∈X.stack,∀b,env.frame=some b→b∈frs X.stack:=fun env he b hb=>VaK.mpr ⟨env,he,hb⟩
 have hh1:s1.heap=h1:=by rw [e1]
 refine wpAny_leaves_madeW (base:=W.hideAll s.heap (frs X.stack)) (h:=s.heap) (outer:=X.outer) (by rw [←hst];exact I.ok.frames) hfr (fun b o q=>W.of_hideAll _ q) (by rw [←hst];exact W.funFrames_hide I.stack hin) (by rw [hh1];exact hx) fun h2 t fl _ _ sm=>?_
 refine k _ ?_
 have F:Fly X.prog X.w X.outer X.H₀ H X.s₀ { s with heap:=h2 } x cls:=by
  refine ZoM (B:=W.hideAll s.heap (frs X.stack)) I.os I.bare (I.unStack hex I.sub) I.hok I.stkFree (fun b hb=>(I.stack.mem hb).2) (fun b o e _ hb=>W.hideAll_get _ e hb) I.sub (fun b h1 h2=>?_) fl ((Heap.UpToSlots.of_keeps hx.keeps).trans (by rw [←hh1];exact sm)) (I.hok.free hx.new)
  rcases Var.mp (I.stkSub b h1) with e | e
  ·rw [e];exact Vaq I.ok.above
  ·exact absurd e h2
 refine ⟨?_,?_,F.un,F.hok,F.frf,F.free,F.ex⟩
 ·rw [e1];exact I.os
 ·rw [e1];exact I.bare
end
section
variable{P:Program}{w:World}{K:W.Frag}{mg:Str→Option Value}{base:Heap}{N:List Str}{qual:Str}{scope:Scope}{f:Addr}{cd:Value}{A:Around}{outer:List Env}{s₀:Shared}{H₀:Hp}{E:XK}
def ZoY(E:XK)(C:Addr)(te:TA):TS:=fun _ σ H=>te σ H fun vs H1=>vs.length≤1000∧E (.ref C) none H1
theorem ZnH{x:Str}{C:Addr}{np cpos pos:Pos}{e:Expr}{es:List Expr}{t:TA}(hg:Gl (cxOf (CXR P w) P w K mg base N qual scope f cd A outer s₀ H₀ E) x)(hm:mg x=some (.ref C))(hq:W.excIn K C Zha "ValueError.__new__"=true)
  (ha:PA (cxOf (CXR P w) P w K mg base N qual scope f cd A outer s₀ H₀ E) (e::es) t) (hd:(x==("__debug__" : Str))=false:=by decide)
  (he:starEach (e::es) (cxOf (CXR P w) P w K mg base N qual scope f cd A outer s₀ H₀ E).env=(false,eval e (cxOf (CXR P w) P w K mg base N qual scope f cd A outer s₀ H₀ E).env)::starEach es (cxOf (CXR P w) P w K mg base N qual scope f cd A outer s₀ H₀ E).env:=by rfl)
  (hpl:(backTo cpos (starEach es (cxOf (CXR P w) P w K mg base N qual scope f cd A outer s₀ H₀ E).env)).any (·.1)=false:=by rfl) :
  PS (cxOf (CXR P w) P w K mg base N qual scope f cd A outer s₀ H₀ E) (.Raise (some (.Call (.Name x np) (e::es) [] cpos)) none pos) (ZoY E C t):=by
 intro pins s σ H D I h
 obtain ⟨tl,Nn,nm,q,bs,hdct,sn,sub,ab,col,dd,k0,k1,k2,k3,k5,mN,hC,hN,hni,T⟩:=(Zr1 I.mod.kin hm hq).obj
 refine wpAny_Raise_call_subU (C:=C) (nm:=nm) (q:=q) (N:=Nn) (bs:=bs) (bm:=tl) (hdct:=hdct) (sn:=sn) (sub:=sub) (ab:=ab) (col:=col) (dd:=dd) (k0:=k0) (k1:=k1) (k2:=k2) (k3:=k3) (k5:=k5)
  PySem.F.excBase_ValueError (bmB:=Zha) (by decide +kernel) PySem.F.excBase_ValueError (mN:=mN) (T.hasType PySem.F.excBase_ValueError.hasBase) (I.ok.hd rfl) (by rw [he];show (false||(backTo cpos (starEach es _)).any (·.1))=false;rw [hpl];rfl) hni (Zg0 I hg hm ⟨rfl,?_⟩ hd)
 have hw:=ha cpos pins s σ H _ I h
 rw [he] at hw ⊢
 refine Calls.evalArgs_plain (Vaw hw (fun us s2 z=>?_) fun _ _ y=>y)
 obtain ⟨vs,H2,I2,rv,hl,q2⟩:=z
 refine ⟨rfl,by rw [←rv.length];exact Vam (Zl1 hl),I2.bk _ _ hC,hN.keeps I2.bk,T.keeps I2.bk,fun h' ex hx=>?_⟩
 exact I2.flyMade rfl rfl rfl rfl hx fun s3 F=>⟨ex,.ref C,H2,rfl,F,q2⟩
end
def ExcAt(a:Addr)(C:Value)(h:Heap):Prop:=∃ob,h.get? a=some ob∧ob.cls=C
def exO(a:Addr)(C:Value):HO:=.ext (ExcAt a C)
end L2
namespace L2
open PySem PySem.Spec PyProof.Rows PySem.Calls
section
open PySem.Builtin PySem.Builtin.ObjectAttr PySem.Builtin.Getset_descriptor PySem.W
variable{prog:Program}{w:World}{A:Around}{E:Value→Shared→Prop}{s:Shared}{K:W.Frag}{x D:Addr}{name:Str}{M:Model}{h:Heap}
end
end L2
namespace L2
open PySem PySem.Spec PyProof.Rows
theorem ZlD(l:Addr)(items:Array Value)(n:Nat)(sl:Array (Option Value))(b:Addr)(items2:Array Value)(n2:Nat)(sl2:Array (Option Value))(hc0:items.size+items2.size≤sizeLine) :
  Meets (Builtin.«list.__add__» ⟨[.ref l,.ref b],[]⟩) (fun _ R s=>s.heap.get? l=some { cls:=.type "list", dict:=none,data:=.seq items n,slots:=sl }∧s.heap.get? b=some { cls:=.type "list", dict:=none,data:=.seq items2 n2,slots:=sl2 }∧R (.ok (.ret (Value.ref s.heap.objs.size))) { s with heap:=s.heap.push { cls:=Value.type "list", data:=Data.seq (items++items2) },toks:=s.toks }) :=
 .of_wp fun prog w A R s h=>by obtain ⟨hp,g,d,tk,os⟩:=s;obtain ⟨hl,hb,h⟩:=h;have f1:=AutoSeq1.idx_int;have f2:=AutoSeq1.sub_tuple_tuple;have f3:=AutoSeq1.sub_list_list;have f4:=AutoSeq1.sub_tuple_list;have f5:=AutoSeq1.sub_list_tuple;wp_walk using AutoSeq1.wpAny_loadPart' hl,AutoSeq1.wpAny_loadPart' hb;exact ⟨_,rfl,h⟩
section
variable{X:Cx}
theorem Zn9{pins:List (Addr×Obj)}{s:Shared}{σ:St}{H:Hp}{l b:Addr}{xs zs:List V}{Q:VK}(I:Inv X pins σ H s)(hH:SqL X.K H l xs)(hB:SqL X.K H b zs)(hz:xs.length+zs.length≤sizeLine)(q:∀p,H p=none→Q (.ref p) (upd H p (.lst (xs++zs)))) :
  wpAny (model X.prog X.w) X.A (binaryOp .Add (.ref l) (.ref b)) (EP X pins σ Q) X.xe s:=by
 obtain ⟨its,r,⟨⟨c1,d1,t1,sl1⟩,n,e,h1,h2,h3⟩,z⟩:=I.list hH
 obtain ⟨its2,r2,⟨⟨c2,d2,t2,sl2⟩,n2,e2,g1,g2,g3⟩,z2⟩:=I.list hB
 simp only at h1 h2 h3 g1 g2 g3
 subst h1 h2 h3 g1 g2 g3
 refine concat_meets ⟨_,e,rfl⟩ ⟨_,e2,rfl⟩ noFill_list_add seq_list_add F.slot_list_add F.entry_list_add (F.args_list_add_2 _ _) (ZlD l its.toArray n sl1 b its2.toArray n2 sl2 (by rw [Va9,Va9,←r.length,←r2.length];exact hz)) ⟨e,e2,?_⟩
 have ea:its.toArray++its2.toArray=(its++its2).toArray:=by simp
 rw [ea]
 exact ⟨.ref _,_,I.lnew (t':=s.toks) (r.append r2) (by rw [Va7];exact hz),rfl,q _ I.fresh⟩
theorem Zn1{pins:List (Addr×Obj)}{s:Shared}{σ:St}{H:Hp}{a b:Addr}{xs ys:List V}{Q:VK}(I:Inv X pins σ H s)(ha:SqT X.K H a xs)(hb:SqT X.K H b ys)(hz:xs.length+ys.length≤sizeLine)(q0:xs=[]→Q (.ref b) H)
  (q1:xs≠[]→ys=[]→Q (.ref a) H) (q2:xs≠[]→ys≠[]→∀p,H p=none→Q (.ref p) (upd H p (.tup (xs++ys)))) :
  wpAny (model X.prog X.w) X.A (binaryOp .Add (.ref a) (.ref b)) (EP X pins σ Q) X.xe s:=by
 by_cases hx:xs=[]
 ·obtain ⟨its,r1,p1,_⟩:=I.tuple ha
  obtain ⟨its2,r2,p2,_⟩:=I.tuple hb
  have hi:its=[]:=r1.nil_iff.mpr hx
  subst hi
  obtain ⟨⟨cls,dd,data,sl⟩,ho,hc,n,hd⟩:=id p1
  obtain ⟨⟨cls2,dd2,data2,sl2⟩,ho2,hc2,n2,hd2⟩:=id p2
  simp only at hc hd hc2 hd2
  subst hc hd hc2 hd2
  exact concat_meets ⟨_,ho,rfl⟩ ⟨_,ho2,rfl⟩ noFill_tuple_add seq_tuple_add PySem.F.slot_tuple_add PySem.F.entry_tuple_add (PySem.F.args_tuple_add_2 _ _)
   (tuple_addW0 a b ([]:List Value).toArray its2.toArray n n2 dd dd2 sl sl2 rfl) ⟨ho,ho2,⟨.ref b,H,I,rfl,q0 hx⟩⟩
 ·exact ZpE pins s σ H (.ref a) (.ref b) _ _ Q I rfl rfl ⟨a,b,xs,ys,rfl,rfl,ha,hb,hx,hz,q1 hx,q2 hx⟩
end
end L2
namespace HT
open PySem PyProof.Rows
section
variable{prog:Program}{w:World}{A:Around}{E:Value→Shared→Prop}{s:Shared}
theorem ZdY{t sl:Addr}{items:Array Value}{vl vu:Value}{lo hi:Option Int}{Q:Value→Shared→Prop}(ht:IsTup s.heap t items)(hs:s.heap.IsSliceOf sl vl vu .none)(pl:IsPart vl lo)(pu:IsPart vu hi)
  (hw:sIx items.size 0 lo=0∧sIx items.size items.size hi=items.size) (h:Q (.ref t) s):wpAny (model prog w) A (getItem (.ref t) (.ref sl)) Q E s:=by
 obtain ⟨os,hos,hcs,hds⟩:=id hs
 have hTs:s.TypeIs (.ref sl) "slice" := ⟨os,hos,hcs⟩
 unfold getItem
 try with_reducible refine Vbe ?_
 first | refine Vaz (VaA ?_) | skip
 refine Vaz (wpAny_sequenceKey ht.typeIs (by decide) ?_)
 refine Vaz (Vbf (name:=Str.ofString "__getitem__") ht.typeIs Vbg
  (Vbh Vbg ht.typeIs entry_tuple_getitem ?_ (args_tuple_getitem _ _)))
 show wpAny _ _ (Builtin.Tuple.tupleItemsOf (.ref t) >>= _) _ _ s
 refine Vaz (tupleItemsOf_ ht ?_)
 refine Vaz (Vbi hTs ?_)
 rw [if_pos (by decide)]
 refine Vaz (ZcS hs pl pu ?_)
 have hyes:(((sIx items.size 0 lo:Nat):Int)==0&&(1:Int)==1&&(sIx items.size items.size hi - sIx items.size 0 lo)==items.size)=true:=by
  rw [hw.1,hw.2];simp
 show wpAny _ _ (if (((sIx items.size 0 lo:Nat):Int)==0&&(1:Int)==1&&(sIx items.size items.size hi - sIx items.size 0 lo)==items.size)=true then _ else _) _ _ s
 rw [if_pos hyes]
 first
  | exact Vaz (Vaz (Vbi ht.typeIs (VaA (by rw [if_pos (by decide)];exact Vaz (VaD (VaA ⟨_,rfl,VaA h⟩))))))
  | (refine Vaz (m:=Builtin.Tuple.tupleIsExact _) (Vaz (Vbi ht.typeIs (VaA ?_)))
     rw [if_pos (by decide)]
     trace_state
     exact Vaz (VaD (VaA ⟨_,rfl,VaA h⟩)))
end
end HT
namespace L2
open PySem PySem.Spec PyProof.Rows
section
variable{X:Cx}{pins:List (Addr×Obj)}{σ:St}{H:Hp}{s:Shared}
theorem Inv.turnNew{fp:List Addr}{T:Addr}{o:HO}{h':Heap}{t':Nat}(I:Inv X pins σ H s)(k:∀b u,b∉fp→s.heap.get? b=some u→h'.get? b=some u)(hf:∀b∈fp,FpOk X pins H b)(hT:s.heap.objs.size≤T)(new:ZbS X.prog X.w (upd H T o) h' T o) :
  Inv X pins σ (upd H T o) { s with heap:=h',toks:=t' }:=by
 have hn:H T=none:=I.hok.fresh hT
 have ntr:∀b u,H b=some u→b∉fp:=fun b u e z=>by rw [(hf b z).1] at e;cases e
 refine I.call (g':=s.gens) (d':=s.drawn) (ch:=fp) ⟨fun b u q _ _ hx=>k b u hx q,fun b u q _ _ hx=>⟨u.slots,k b u hx q⟩,fun b u q n _=>?_,fun b u q hx=>⟨u,k b u hx q⟩,fun b xs q=>?_,fun b u xs q=>?_,fun b ps q=>?_⟩ (fun b u e=>?_) I.bare (fun b hb=>?_)
 ·rw [Zag (Vah (Vaf (Vae q) hT))];exact n
 ·rw [Zag (Zaf q hn)];exact q
 ·rw [Zag (Zaf q hn)];exact q
 ·exact ⟨#[],by rw [Zag (Zaf q hn),q];simp⟩
 ·by_cases hb:b=T
  ·subst hb;rw [Zah] at e;cases e;exact new
  ·rw [Zag hb] at e
   refine (I.hok b u e).stay (fun c v hc q=>k c v ?_ q) (fun c q=>by rw [Zag (Zaf q hn)];exact q) fun c xs q=>by rw [Zag (Zaf q hn)];exact q
   rcases hc with rfl | hc
   ·exact ntr c u e
   ·exact ntr c _ hc
 ·obtain ⟨_,f1,_,f3,f4,f5⟩:=hf b hb
  exact ⟨f3,f1,f4,f5⟩
theorem Inv.turnedL{fp:List Addr}{h':Heap}{t':Nat}(I:Inv X pins σ H s)(k:∀b u,b∉fp→s.heap.get? b=some u→h'.get? b=some u)(hf:∀b∈fp,FpOk X pins H b):Inv X pins σ H { s with heap:=h',toks:=t' }:=by
 have ntr:∀b u,H b=some u→b∉fp:=fun b u e z=>by rw [(hf b z).1] at e;cases e
 refine I.call (g':=s.gens) (d':=s.drawn) (ch:=fp) ⟨fun b u q _ _ hx=>k b u hx q,fun b u q _ _ hx=>⟨u.slots,k b u hx q⟩,fun b u q n _=>n,fun b u q hx=>⟨u,k b u hx q⟩,fun b xs q=>q,fun b u xs q=>q,fun b ps q=>⟨#[],by rw [q];simp⟩⟩ (fun b u e=>?_) I.bare (fun b hb=>?_)
 ·refine (I.hok b u e).stay (fun c v hc q=>k c v ?_ q) (fun c q=>q) fun c xs q=>q
  rcases hc with rfl | hc
  ·exact ntr c u e
  ·exact ntr c _ hc
 ·obtain ⟨_,f1,_,f3,f4,f5⟩:=hf b hb
  exact ⟨f3,f1,f4,f5⟩
end
section
variable{prog:Program}{w:World}{A:Around}{E:Value→Shared→Prop}{s:Shared}
theorem ZhC{it t:Addr}{items:Array Value}(hne:t≠it):∀(n i:Nat) (s:Shared) (Q:List Value→Shared→Prop),s.heap.IsListIter it t i→s.heap.IsList t items→i+n≤items.size →
  (∀h',h'.IsListIter it t (i+n)→Heap.SameBut it s.heap h'→Q ((items.toList.drop i).take n) { s with heap:=h' })→wpAny (model prog w) A (draw (.ref it) n) Q E s
 | 0,i,s,Q,hit,_,_,hQ=>by
  show wpAny _ _ (pure []) Q E s
  exact VaA (by simpa using hQ s.heap hit (Heap.SameBut.refl ..))
 | n+1,i,s,Q,hit,ht,hle,hQ=>by
  have hlt:i<items.size:=by omega
  show wpAny _ _ (pyNext (.ref it) >>= _) Q E s
  refine Vaz (wpAny_pyNext_list_item hit ht (x:=items[i]) (by simp [hlt]) fun h₁ hit₁ hs₁=>?_)
  refine Vaz (Vbe (ZhC hne n (i+1) _ _ hit₁ (ht.extBut hs₁.extBut hne) (by omega) fun h₂ hit₂ hs₂=>VaA ?_))
  have hd:items.toList.drop i=items[i]::items.toList.drop (i+1):=by simp [Vbt,hlt]
  have:=hQ h₂ (by rw [show i+(n+1)=i+1+n by omega];exact hit₂) (hs₁.trans hs₂)
  rw [hd,List.take_succ_cons] at this
  exact this
theorem Ze2{t:Addr}{items:Array Value}{Q:List Value→Shared→Prop}(hh:A.handled=none)(ht:s.heap.IsList t items)
  (hQ:∀h',Heap.ExtBut s.heap.objs.size s.heap h'→Q items.toList { s with heap:=h' }):wpAny (model prog w) A (unpackItems (.ref t) items.size none) Q E s:=by
 have hlt:t≠s.heap.objs.size:=by obtain ⟨o,ho,_⟩:=ht;exact Vah (Vae ho)
 unfold unpackItems
 refine Vaz ?_
 ·unfold notIterableAtAll
  refine Vaz (wpAny_specialOf ht.typeIs F.slot_list_iter.lookup ?_)
  refine VaA ?_
  simp only [Vbu,Vba]
  refine Vaz (Vbe (Vbv ht ?_))
  refine Vaz (Vbe (ZhC hlt items.size 0 _ _ ⟨_,VaH _ rfl,rfl,rfl⟩ (ht.push _) (by omega) fun h₁ hit₁ hs₁=>?_))
  have hall:List.take items.size (List.drop 0 items.toList)=items.toList:=by
   rw [List.drop_zero];exact Vbw (by simp)
  rw [hall]
  rw [if_neg (by simp)]
  have ht₁:h₁.IsList t items:=(ht.push _).extBut hs₁.extBut hlt
  refine Vaz (Vbe (wpAny_pyNext_list_end hh hit₁ ht₁ (by simp) fun h₂ he₂=>?_))
  simp only [Option.isSome_none,Vbu,Vba]
  refine VaA (hQ h₂ fun b o hb e=>he₂ b o hb (hs₁.extBut b o hb (VaC _ e)))
theorem ZeK{env:Env}{elts:List Expr}{x1}{pos:Pos}{t:Addr}{items:Array Value}{Q:Unit→Shared→Prop}(hh:A.handled=none)(ht:s.heap.IsList t items)
  (hn:(assignEach elts env).length=items.size) (hstar:(assignEach elts env).findIdx? (·.1)=none)
  (h:∀h',Heap.ExtBut s.heap.objs.size s.heap h'→wpAny (model prog w) A (assignInOrder ((assignEach elts env).map (·.2)) items.toList) Q E { s with heap:=h' }) :
  wpAny (model prog w) A (assign (.Tuple elts x1 pos) env (.ref t)) Q E s:=by
 rw [assign_Tuple]
 refine Vaz (wpAny_standAt ?_)
 unfold unpack
 rw [hn,hstar]
 exact Vaz (Vbe (Ze2 hh ht h))
end
def ItK:Bool→Heap→Addr→Addr→Nat→Prop
 | false,h,a,l,i=>h.IsListIter a l i
 | true,h,a,l,i=>h.IsTupleIter a l i
def SqK:Bool→Heap→Addr→Array Value→Prop
 | false,h,a,xs=>h.IsList a xs
 | true,h,a,xs=>h.IsTuple a xs
def ZfQ(p:Bool)(l:Addr):Obj:={ cls:=.type (if p then "tuple_iterator" else "list_iterator"),data:=.fields #[.ref l,.int 0 0] }
theorem ItK.extBut{p:Bool}{h h':Heap}{a b l:Addr}{i:Nat}(x:ItK p h a l i)(hs:Heap.ExtBut b h h')(hab:a≠b):ItK p h' a l i:=by
 cases p
 ·exact Heap.IsListIter.extBut x hs hab
 ·exact Heap.IsTupleIter.extBut x hs hab
theorem ItK.at{p:Bool}{h h':Heap}{a l:Addr}{i:Nat}(x:ItK p h a l i)(k:∀o,h.get? a=some o→h'.get? a=some o):ItK p h' a l i:=by
 cases p
 ·obtain ⟨o,e,r⟩:=(show h.IsListIter a l i from x);exact ⟨o,k o e,r⟩
 ·obtain ⟨o,e,r⟩:=(show h.IsTupleIter a l i from x);exact ⟨o,k o e,r⟩
theorem ItK.here{p:Bool}{h:Heap}{a l:Addr}{i:Nat}(x:ItK p h a l i):∃o,h.get? a=some o:=by
 cases p
 ·obtain ⟨o,e,_⟩:=(show h.IsListIter a l i from x);exact ⟨o,e⟩
 ·obtain ⟨o,e,_⟩:=(show h.IsTupleIter a l i from x);exact ⟨o,e⟩
theorem ItK.flds{p:Bool}{h:Heap}{a l:Addr}{i:Nat}(x:ItK p h a l i):∃o vs,h.get? a=some o∧o.data=.fields vs:=by
 cases p
 ·obtain ⟨o,e,_,d⟩:=(show h.IsListIter a l i from x);exact ⟨o,_,e,d⟩
 ·obtain ⟨o,e,_,d⟩:=(show h.IsTupleIter a l i from x);exact ⟨o,_,e,d⟩
theorem ItK.new{p:Bool}{h:Heap}{a l:Addr}(e:h.get? a=some (ZfQ p l)):ItK p h a l 0:=by
 cases p
 ·exact ⟨_,e,rfl,rfl⟩
 ·exact ⟨_,e,rfl,rfl⟩
theorem SqK.extBut{p:Bool}{h h':Heap}{a b:Addr}{xs:Array Value}(x:SqK p h a xs)(hs:Heap.ExtBut b h h')(hab:a≠b):SqK p h' a xs:=by
 cases p
 ·exact Heap.IsList.extBut x hs hab
 ·exact Heap.IsTuple.extBut x hs hab
theorem SqK.push{p:Bool}{h:Heap}{a:Addr}{xs:Array Value}(x:SqK p h a xs)(o:Obj):SqK p (h.push o) a xs:=by
 cases p
 ·exact Heap.IsList.push x o
 ·exact Heap.IsTuple.push x o
section
variable{prog:Program}{w:World}{A:Around}{E:Value→Shared→Prop}{s:Shared}
theorem ZmP{p:Bool}{l:Addr}{xs:Array Value}{Q:Value→Shared→Prop}(x:SqK p s.heap l xs)(h:Q (.ref s.heap.objs.size) { s with heap:=s.heap.push (ZfQ p l) }):wpAny (model prog w) A (pyIter (.ref l)) Q E s:=by
 cases p
 ·exact Vbv x h
 ·exact wpAny_pyIter_tuple x h
theorem Zky{ia la:Addr}{i:Nat}{zs}{x:Value}{Q:Value→Shared→Prop}(ki:s.heap.IsTupleIter ia la i)
  (kl:s.heap.IsTuple la zs) (kx:zs[i]?=some x)
  (kQ:∀h',h'.IsTupleIter ia la (i+1)→Heap.SameBut ia s.heap h'→Q x { s with heap:=h' }) :
  wpAny (model prog w) A (Builtin.SmallTypes.nextOf (.ref ia)) Q E s:=by
 obtain ⟨ob,ko,kc,kd⟩:=id ki
 obtain ⟨oq,kol,_,nq,kdl⟩:=kl
 unfold Builtin.SmallTypes.nextOf
 refine Vaz (Vbf (name:=Str.ofString "__next__") ki.typeIs Vbx
  (Vbh Vbx ki.typeIs F.entry_tuple_iterator_next ?_ (F.args_tuple_iterator_next_1 _)))
 show wpAny _ _ (field (.ref ia) 0 >>= _) _ _ s
 refine Vaz (Vbc ko kd (x:=.ref la) rfl ?_)
 show wpAny _ _ (if (Value.ref la==Value.none)=true then _ else _) _ _ s
 rw [if_neg (show ¬((Value.ref la==Value.none)=true) from VaF)]
 show wpAny _ _ (field (.ref ia) 1 >>= _) _ _ s
 refine Vaz (Vbc ko kd (x:=.int i 0) rfl ?_)
 show wpAny _ _ (seqItems? (.ref la) >>= _) _ _ s
 refine Vaz (Vby kol kdl ?_)
 simp only [Vbz,kx]
 refine Vaz (wpAny_setField ko kd (by simp) (VaA ⟨x,rfl,VaA (kQ _ ?_ (VbA ..))⟩))
 exact ⟨_,VbB _ ko (Obj.isFreed_of_fields (VbC kd _)),(Obj.cls_mapFields ..).trans kc,by
  rw [VbC kd];simp [rawInt]⟩
theorem ZlF{ia la:Addr}{i:Nat}{zs}{Q:Value→Shared→Prop}(kh:A.handled=none)
  (ki:s.heap.IsTupleIter ia la i) (kl:s.heap.IsTuple la zs) (kx:zs[i]?=none)
  (kE:∀h' e,Heap.ExtBut ia s.heap h'→(∃ob,h'.get? e=some ob∧ob.cls=.type "StopIteration")→E (.ref e) { s with heap:=h' }) :
  wpAny (model prog w) A (Builtin.SmallTypes.nextOf (.ref ia)) Q E s:=by
 obtain ⟨ob,ko,kc,kd⟩:=id ki
 obtain ⟨oq,kol,_,nq,kdl⟩:=kl
 unfold Builtin.SmallTypes.nextOf
 refine Vaz (Vbf (name:=Str.ofString "__next__") ki.typeIs Vbx
  (Vbh Vbx ki.typeIs F.entry_tuple_iterator_next ?_ (F.args_tuple_iterator_next_1 _)))
 show wpAny _ _ (field (.ref ia) 0 >>= _) _ _ s
 refine Vaz (Vbc ko kd (x:=.ref la) rfl ?_)
 show wpAny _ _ (if (Value.ref la==Value.none)=true then _ else _) _ _ s
 rw [if_neg (show ¬((Value.ref la==Value.none)=true) from VaF)]
 show wpAny _ _ (field (.ref ia) 1 >>= _) _ _ s
 refine Vaz (Vbc ko kd (x:=.int i 0) rfl ?_)
 show wpAny _ _ (seqItems? (.ref la) >>= _) _ _ s
 refine Vaz (Vby kol kdl ?_)
 simp only [Vbz,kx]
 refine Vaz (VaD (Vaz (wpAny_setField ko kd (by simp) ?_)))
 show wpAny _ _ (newExc (.type "StopIteration") [] >>= _) _ _ _
 refine Vaz ?_
 simp only [newExc,newTuple]
 refine Vaz (VaB ?_ (by size_fits))
 refine Vaz (m:=firstArgMember _ _) (wpAny_of_eq (a:=Value.none) (by first | rfl | (simp only [firstArgMember];rfl)) ?_)
 refine VaB ?_ (by size_fits)
 simp only [raiseNew]
 refine Vaz (wpAny_handled ?_)
 first | rw [show A.in1.handled=none from kh] | rw [kh]
 refine Vaz (VaA (wpAny_throw ?_))
 exact kE _ _ (((VbA ..).extBut.push _).push _) ⟨_,VaH _ rfl,rfl⟩
theorem ZaE{p:Bool}{ia la:Addr}{i:Nat}{zs:Array Value}{x:Value}{Q:Value→Shared→Prop}(ki:ItK p s.heap ia la i)(kl:SqK p s.heap la zs)(kx:zs[i]?=some x)
  (kQ:∀h',ItK p h' ia la (i+1)→Heap.SameBut ia s.heap h'→Q x { s with heap:=h' }):wpAny (model prog w) A (Builtin.SmallTypes.nextOf (.ref ia)) Q E s:=by
 cases p
 ·exact wpAny_nextOf_list_item ki kl kx kQ
 ·exact Zky ki kl kx kQ
theorem ZbI{p:Bool}{ia la:Addr}{i:Nat}{zs:Array Value}{Q:Value→Shared→Prop}(kh:A.handled=none)(ki:ItK p s.heap ia la i)(kl:SqK p s.heap la zs)(kx:zs[i]?=none)
  (kE:∀h' e,Heap.ExtBut ia s.heap h'→(∃o,h'.get? e=some o∧o.cls=.type "StopIteration")→E (.ref e) { s with heap:=h' }):wpAny (model prog w) A (Builtin.SmallTypes.nextOf (.ref ia)) Q E s:=by
 cases p
 ·exact wpAny_nextOf_list_end kh ki kl kx kE
 ·exact ZlF kh ki kl kx kE
theorem Zlv{p q:Bool}{z TI TO i1 i2 l1 l2:Addr}{k1 k2:Nat}{us vs:Array Value}{x y a b:Value}{Q:Value→Shared→Prop}(Z:ZipApart z TI TO i1 i2 l1 l2)
  (kz:IsZip s.heap z TI TO .none) (kTI:IsPair s.heap TI (.ref i1) (.ref i2)) (kTO:IsPair s.heap TO a b)
  (m1:ItK p s.heap i1 l1 k1) (m2:ItK q s.heap i2 l2 k2) (n1:SqK p s.heap l1 us) (n2:SqK q s.heap l2 vs) (kx:us[k1]?=some x) (ky:vs[k2]?=some y)
  (kQ:∀h',IsZip h' z TI TO (rawInt s.heap.objs.size)→IsPair h' TO x y→ItK p h' i1 l1 (k1+1)→ItK q h' i2 l2 (k2+1)→IsPair h' s.heap.objs.size x y→h'.objs.size=s.heap.objs.size+1 →
   (∀c o,c≠z→c≠TO→c≠i1→c≠i2→s.heap.get? c=some o→h'.get? c=some o)→Q (.ref s.heap.objs.size) { s with heap:=h' }) :
  wpAny (model prog w) A (Builtin.«zip.__next__» ⟨[.ref z],[]⟩) (fun fin s'=>∃v,fin=.done (.ret v)∧Q v s') E s:=by
 show wpAny _ _ (field (.ref z) 2 >>= _) _ _ _
 refine Vaz (Vbc kz rfl (x:=.bool false) rfl ?_)
 show wpAny _ _ (field (.ref z) 3 >>= _) _ _ _
 refine Vaz (Vbc kz rfl (x:=.ref TI) rfl ?_)
 refine Vaz (Vby kTI rfl ?_)
 show wpAny _ _ (Builtin.SmallTypes.ownedTupleIsFree (.ref z) >>= _) _ _ _
 refine Vaz ?_
 unfold Builtin.SmallTypes.ownedTupleIsFree
 refine Vaz (Vbc kz rfl (x:=.none) rfl (VaA ?_))
 simp only [Vbb]
 refine Vaz (VaD ?_)
 refine Vaz (Vbc kz rfl (x:=.ref TO) rfl ?_)
 refine Vaz (VbD kz (by simp) fun g₁ kz₁ ks₁=>?_)
 replace kz₁:IsZip g₁ z TI TO .ellipsis:=kz₁
 refine Vaz ?_
 simp only [List.zipIdx_cons,List.zipIdx_nil,Vbo,Vbp]
 refine Vaz (Vaz (VbE ?_))
 show wpAny _ _ (Builtin.SmallTypes.nextOf (.ref i1) >>= _) _ _ _
 refine Vaz (ZaE (m1.extBut ks₁.extBut Z.i1z) (n1.extBut ks₁.extBut Z.l1z) kx fun g₂ m1₂ ks₂=>VaA ?_)
 have kTO₂:IsPair g₂ TO a b:=ks₂.extBut _ _ Z.TOi1 (ks₁.extBut _ _ Z.TOz kTO)
 refine Vaz (Vby kTO₂ rfl ?_)
 refine Vaz (wpAny_updateSeq_pair kTO₂ fun g₃ kTO₃ ks₃=>?_)
 replace kTO₃:IsPair g₃ TO x b:=kTO₃
 refine Vaz (VbF (VaA ?_))
 refine Vaz (Vaz (VbE ?_))
 show wpAny _ _ (Builtin.SmallTypes.nextOf (.ref i2) >>= _) _ _ _
 refine Vaz (ZaE (((m2.extBut ks₁.extBut Z.i2z).extBut ks₂.extBut Z.i12.symm).extBut ks₃.extBut Z.TOi2.symm)
  (((n2.extBut ks₁.extBut Z.l2z).extBut ks₂.extBut Z.l2i1).extBut ks₃.extBut Z.l2TO) ky fun g₄ m2₄ ks₄=>VaA ?_)
 have kTO₄:IsPair g₄ TO x b:=ks₄.extBut _ _ Z.TOi2 kTO₃
 refine Vaz (Vby kTO₄ rfl ?_)
 refine Vaz (wpAny_updateSeq_pair kTO₄ fun g₅ kTO₅ ks₅=>?_)
 replace kTO₅:IsPair g₅ TO x y:=kTO₅
 refine Vaz (VbF (VaA (VaA ?_)))
 refine Vaz (Vby kTO₅ rfl ?_)
 refine Vaz (wpAny_newTuple ?_)
 have ksz:g₅.objs.size=s.heap.objs.size:=by rw [ks₅.1,ks₄.1,ks₃.1,ks₂.1,ks₁.1]
 have kz₅:IsZip g₅ z TI TO .ellipsis:=ks₅.extBut _ _ Z.TOz.symm (ks₄.extBut _ _ Z.i2z.symm (ks₃.extBut _ _ Z.TOz.symm (ks₂.extBut _ _ Z.i1z.symm kz₁)))
 have kk₅:∀c o,c≠z→c≠TO→c≠i1→c≠i2→s.heap.get? c=some o→g₅.get? c=some o:=fun c o c1 c2 c3 c4 e =>
  ks₅.extBut _ _ c2 (ks₄.extBut _ _ c4 (ks₃.extBut _ _ c2 (ks₂.extBut _ _ c3 (ks₁.extBut _ _ c1 e))))
 have m1₅:ItK p g₅ i1 l1 (k1+1):=((m1₂.extBut ks₃.extBut Z.TOi1.symm).extBut ks₄.extBut Z.i12).extBut ks₅.extBut Z.TOi1.symm
 have m2₅:ItK q g₅ i2 l2 (k2+1):=m2₄.extBut ks₅.extBut Z.TOi2.symm
 have kzlt:z<g₅.objs.size:=Vae kz₅
 have kTOlt:TO<g₅.objs.size:=Vae kTO₅
 have ki1lt:i1<g₅.objs.size:=by obtain ⟨_,e⟩:=m1₅.here;exact Vae e
 have ki2lt:i2<g₅.objs.size:=by obtain ⟨_,e⟩:=m2₅.here;exact Vae e
 show wpAny _ _ (Builtin.SmallTypes.ownedTupleHandOut (.ref z) (.ref g₅.objs.size) >>= _) _ _ _
 refine Vaz ?_
 unfold Builtin.SmallTypes.ownedTupleHandOut
 have kz₆:IsZip (g₅.push { cls:=.type "tuple", data:=.seq #[x,y] }) z TI TO .ellipsis:=VaC _ kz₅
 refine Vaz (VbD kz₆ (by simp) fun g₇ kz₇ ks₇=>?_)
 replace kz₇:IsZip g₇ z TI TO (rawInt g₅.objs.size):=kz₇
 refine VbD kz₇ (by simp) fun g₈ kz₈ ks₈=>?_
 replace kz₈:IsZip g₈ z TI TO (rawInt g₅.objs.size):=kz₈
 have up:∀c o,c≠z→g₅.get? c=some o→g₈.get? c=some o:=fun c o c1 e=>ks₈.extBut _ _ c1 (ks₇.extBut _ _ c1 (VaC _ e))
 have kT₈:IsPair g₈ g₅.objs.size x y:=ks₈.extBut _ _ (VaG kzlt) (ks₇.extBut _ _ (VaG kzlt) (VaH _ rfl))
 have kz8:g₈.objs.size=g₅.objs.size+1:=by rw [ks₈.1,ks₇.1,VaR]
 rw [ksz] at kz₈ kT₈ kz8
 refine VaA ⟨_,rfl,?_⟩
 show Q (.ref g₅.objs.size) _
 rw [ksz]
 exact kQ g₈ kz₈ (up _ _ Z.TOz kTO₅) (m1₅.at fun o e=>up _ o Z.i1z e) (m2₅.at fun o e=>up _ o Z.i2z e) kT₈ kz8 fun c o c1 c2 c3 c4 e=>up c o c1 (kk₅ c o c1 c2 c3 c4 e)
theorem ZlQ{p q:Bool}{z TI TO i1 i2 l1 l2:Addr}{k1 k2:Nat}{us vs:Array Value}{a b:Value}{Q:Fin→Shared→Prop}(kh:A.handled=none)(Z:ZipApart z TI TO i1 i2 l1 l2)
  (kz:IsZip s.heap z TI TO .none) (kTI:IsPair s.heap TI (.ref i1) (.ref i2)) (kTO:IsPair s.heap TO a b)
  (m1:ItK p s.heap i1 l1 k1) (m2:ItK q s.heap i2 l2 k2) (n1:SqK p s.heap l1 us) (n2:SqK q s.heap l2 vs) (kend:us[k1]?=none∨vs[k2]?=none)
  (kE:∀h' e,(∀c o,c≠z→c≠TO→c≠i1→c≠i2→s.heap.get? c=some o→h'.get? c=some o)→(∃o,h'.get? e=some o∧o.cls=.type "StopIteration")→E (.ref e) { s with heap:=h' }) :
  wpAny (model prog w) A (Builtin.«zip.__next__» ⟨[.ref z],[]⟩) Q E s:=by
 show wpAny _ _ (field (.ref z) 2 >>= _) _ _ _
 refine Vaz (Vbc kz rfl (x:=.bool false) rfl ?_)
 show wpAny _ _ (field (.ref z) 3 >>= _) _ _ _
 refine Vaz (Vbc kz rfl (x:=.ref TI) rfl ?_)
 refine Vaz (Vby kTI rfl ?_)
 show wpAny _ _ (Builtin.SmallTypes.ownedTupleIsFree (.ref z) >>= _) _ _ _
 refine Vaz ?_
 unfold Builtin.SmallTypes.ownedTupleIsFree
 refine Vaz (Vbc kz rfl (x:=.none) rfl (VaA ?_))
 simp only [Vbb]
 refine Vaz (VaD ?_)
 refine Vaz (Vbc kz rfl (x:=.ref TO) rfl ?_)
 refine Vaz (VbD kz (by simp) fun g₁ kz₁ ks₁=>?_)
 replace kz₁:IsZip g₁ z TI TO .ellipsis:=kz₁
 refine Vaz ?_
 simp only [List.zipIdx_cons,List.zipIdx_nil,Vbo,Vbp]
 refine Vaz (Vaz (VbE ?_))
 show wpAny _ _ (Builtin.SmallTypes.nextOf (.ref i1) >>= _) _ _ _
 cases kx:us[k1]? with
 | none =>
  refine Vaz (ZbI kh (m1.extBut ks₁.extBut Z.i1z) (n1.extBut ks₁.extBut Z.l1z) kx fun g₂ e ks₂ ke=>?_)
  obtain ⟨ox,koe,kce⟩:=ke
  have kz₂:IsZip g₂ z TI TO .ellipsis:=ks₂ _ _ Z.i1z.symm kz₁
  have kez:e≠z:=fun x=>by subst x;rw [kz₂] at koe;cases koe;simp at kce
  refine VbD kz₂ (by simp) fun g₃ _ ks₃=>kE g₃ e (fun c o c1 _ c3 _ x=>ks₃.extBut _ _ c1 (ks₂ _ _ c3 (ks₁.extBut _ _ c1 x))) ⟨ox,ks₃.extBut _ _ kez koe,kce⟩
 | some x =>
  have ky:vs[k2]?=none:=by rcases kend with h | h;rw [kx] at h;cases h;exact h
  refine Vaz (ZaE (m1.extBut ks₁.extBut Z.i1z) (n1.extBut ks₁.extBut Z.l1z) kx fun g₂ m1₂ ks₂=>VaA ?_)
  have kTO₂:IsPair g₂ TO a b:=ks₂.extBut _ _ Z.TOi1 (ks₁.extBut _ _ Z.TOz kTO)
  refine Vaz (Vby kTO₂ rfl ?_)
  refine Vaz (wpAny_updateSeq_pair kTO₂ fun g₃ kTO₃ ks₃=>?_)
  refine Vaz (VbF (VaA ?_))
  refine Vaz (Vaz (VbE ?_))
  show wpAny _ _ (Builtin.SmallTypes.nextOf (.ref i2) >>= _) _ _ _
  refine Vaz (ZbI kh (((m2.extBut ks₁.extBut Z.i2z).extBut ks₂.extBut Z.i12.symm).extBut ks₃.extBut Z.TOi2.symm)
   (((n2.extBut ks₁.extBut Z.l2z).extBut ks₂.extBut Z.l2i1).extBut ks₃.extBut Z.l2TO) ky fun g₄ e ks₄ ke=>?_)
  obtain ⟨ox,koe,kce⟩:=ke
  have kz₄:IsZip g₄ z TI TO .ellipsis:=ks₄ _ _ Z.i2z.symm (ks₃.extBut _ _ Z.TOz.symm (ks₂.extBut _ _ Z.i1z.symm kz₁))
  have kez:e≠z:=fun x=>by subst x;rw [kz₄] at koe;cases koe;simp at kce
  refine VbD kz₄ (by simp) fun g₅ _ ks₅=>kE g₅ e (fun c o c1 c2 c3 c4 x=>ks₅.extBut _ _ c1 (ks₄ _ _ c4 (ks₃.extBut _ _ c2 (ks₂.extBut _ _ c3 (ks₁.extBut _ _ c1 x))))) ⟨ox,ks₅.extBut _ _ kez koe,kce⟩
theorem Zlb{p q:Bool}{z TI TO i1 i2 l1 l2:Addr}{k1 k2:Nat}{us vs:Array Value}{x y a b:Value}{Q:Option Value→Shared→Prop}(Z:ZipApart z TI TO i1 i2 l1 l2)
  (kz:IsZip s.heap z TI TO .none) (kTI:IsPair s.heap TI (.ref i1) (.ref i2)) (kTO:IsPair s.heap TO a b)
  (m1:ItK p s.heap i1 l1 k1) (m2:ItK q s.heap i2 l2 k2) (n1:SqK p s.heap l1 us) (n2:SqK q s.heap l2 vs) (kx:us[k1]?=some x) (ky:vs[k2]?=some y)
  (kQ:∀h',IsZip h' z TI TO (rawInt s.heap.objs.size)→IsPair h' TO x y→ItK p h' i1 l1 (k1+1)→ItK q h' i2 l2 (k2+1)→IsPair h' s.heap.objs.size x y→h'.objs.size=s.heap.objs.size+1 →
   (∀c o,c≠z→c≠TO→c≠i1→c≠i2→s.heap.get? c=some o→h'.get? c=some o)→Q (some (.ref s.heap.objs.size)) { s with heap:=h' }) :
  wpAny (model prog w) A (pyNext (.ref z)) Q E s:=by
 have kT:s.TypeIs (.ref z) "zip" := ⟨_,kz,rfl⟩
 unfold pyNext
 exact Vaz (wpAny_attempt (Vbf (name:=Str.ofString "__next__") kT VbG
  (Vbh VbG kT F.entry_zip_next
   (Zlv Z kz kTI kTO m1 m2 n1 n2 kx ky fun h' a1 a2 a3 a4 a5 a6 a7=>VaA (kQ h' a1 a2 a3 a4 a5 a6 a7)) (F.args_zip_next_1 _))))
theorem ZnV{p q:Bool}{z TI TO i1 i2 l1 l2:Addr}{k1 k2:Nat}{us vs:Array Value}{a b:Value}{Q:Option Value→Shared→Prop}(kh:A.handled=none)(Z:ZipApart z TI TO i1 i2 l1 l2)
  (kz:IsZip s.heap z TI TO .none) (kTI:IsPair s.heap TI (.ref i1) (.ref i2)) (kTO:IsPair s.heap TO a b)
  (m1:ItK p s.heap i1 l1 k1) (m2:ItK q s.heap i2 l2 k2) (n1:SqK p s.heap l1 us) (n2:SqK q s.heap l2 vs) (kend:us[k1]?=none∨vs[k2]?=none)
  (kQ:∀h',(∀c o,c≠z→c≠TO→c≠i1→c≠i2→s.heap.get? c=some o→h'.get? c=some o)→Q none { s with heap:=h' }):wpAny (model prog w) A (pyNext (.ref z)) Q E s:=by
 have kT:s.TypeIs (.ref z) "zip" := ⟨_,kz,rfl⟩
 unfold pyNext
 refine Vaz (wpAny_attempt (Vbf (name:=Str.ofString "__next__") kT VbG
  (Vbh VbG kT F.entry_zip_next (ZlQ kh Z kz kTI kTO m1 m2 n1 n2 kend fun h' e kk ke=>?_) (F.args_zip_next_1 _))))
 obtain ⟨o,ho,hc⟩:=ke
 refine Vaz (wpAny_isInstance (T := "StopIteration") (b:=true) ⟨o,ho,hc⟩ isSubtype_stop ?_)
 exact VaA (kQ _ kk)
end
abbrev kH1(p:Bool)(h:Heap)(l1:Addr):Heap:=h.push (ZfQ p l1)
abbrev kH2(p q:Bool)(h:Heap)(l1 l2:Addr):Heap:=(kH1 p h l1).push (ZfQ q l2)
abbrev kH3(p q:Bool)(h:Heap)(l1 l2:Addr):Heap:=(kH2 p q h l1 l2).push { cls:=.type "tuple", data:=.seq #[.ref h.objs.size,.ref (kH1 p h l1).objs.size] }
abbrev kH4(p q:Bool)(h:Heap)(l1 l2:Addr):Heap:=(kH3 p q h l1 l2).push { cls:=.type "tuple", data:=.seq #[.none,.none] }
abbrev kH5(p q:Bool)(h:Heap)(l1 l2:Addr):Heap:=(kH4 p q h l1 l2).push { cls:=.type "zip", data:=.fields #[.none,.bool false,.bool false,.ref (kH2 p q h l1 l2).objs.size,.ref (kH3 p q h l1 l2).objs.size] }
theorem Zkm(p q:Bool)(l1 l2:Addr)(us vs:Array Value) :
  Meets (Builtin.«zip.__new__» ⟨[.type "zip", .ref l1,.ref l2],[]⟩) (fun _ R s=>SqK p s.heap l1 us∧SqK q s.heap l2 vs ∧
   R (.ok (.ret (.ref (kH4 p q s.heap l1 l2).objs.size))) { s with heap:=kH5 p q s.heap l1 l2 }) :=
 .of_wp fun prog w A R s h=>by
  obtain ⟨hp,g,d,tk,os⟩:=s;obtain ⟨n1,n2,h⟩:=h
  have hsub:=sub_zip
  have kL1:SqK p (Shared.heap ⟨hp,g,d,tk,os⟩) l1 us:=n1
  have kL2:SqK q (Shared.heap ⟨hp.push (ZfQ p l1),g,d,tk,os⟩) l2 vs:=SqK.push n2 _
  wp_walk using ZmP kL1,ZmP kL2
  exact ⟨_,rfl,h⟩
section
variable{prog:Program}{w:World}{A:Around}{E:Value→Shared→Prop}{s:Shared}
theorem Zl5{p q:Bool}{l1 l2:Addr}{us vs:Array Value}{Q:Value→Shared→Prop}(n1:SqK p s.heap l1 us)(n2:SqK q s.heap l2 vs)
  (h:∀h',IsZip h' (s.heap.objs.size+4) (s.heap.objs.size+2) (s.heap.objs.size+3) .none→IsPair h' (s.heap.objs.size+2) (.ref s.heap.objs.size) (.ref (s.heap.objs.size+1)) →
   IsPair h' (s.heap.objs.size+3) .none .none→ItK p h' s.heap.objs.size l1 0→ItK q h' (s.heap.objs.size+1) l2 0→h'.objs.size=s.heap.objs.size+5 →
   (∀c o,s.heap.get? c=some o→h'.get? c=some o)→Q (.ref (s.heap.objs.size+4)) { s with heap:=h' }) :
  wpAny (model prog w) A (call (.type "zip") [.ref l1,.ref l2]) Q E s:=by
 refine callType_new F.called_zip (by decide) (F.typeCall_zip_2 _ _) (F.newCall_zip_2 _ _) (fun obj=>F.args_object_init_3 obj _ _) F.entry_zip_new
  (Zkm p q l1 l2 us vs) ⟨n1,n2,?_⟩
 have z1:(kH1 p s.heap l1).objs.size=s.heap.objs.size+1:=VaR ..
 have z2:(kH2 p q s.heap l1 l2).objs.size=s.heap.objs.size+2:=by rw [VaR,z1]
 have z3:(kH3 p q s.heap l1 l2).objs.size=s.heap.objs.size+3:=by rw [VaR,z2]
 have z4:(kH4 p q s.heap l1 l2).objs.size=s.heap.objs.size+4:=by rw [VaR,z3]
 have z5:(kH5 p q s.heap l1 l2).objs.size=s.heap.objs.size+5:=by rw [VaR,z4]
 have g5:(kH5 p q s.heap l1 l2).get? (kH4 p q s.heap l1 l2).objs.size=some _:=VaH _ rfl
 have g4:(kH5 p q s.heap l1 l2).get? (kH3 p q s.heap l1 l2).objs.size=some _:=VaC _ (VaH _ rfl)
 have g3:(kH5 p q s.heap l1 l2).get? (kH2 p q s.heap l1 l2).objs.size=some _:=VaC _ (VaC _ (VaH _ rfl))
 have g2:(kH5 p q s.heap l1 l2).get? (kH1 p s.heap l1).objs.size=some _:=VaC _ (VaC _ (VaC _ (VaH _ rfl)))
 have g1:(kH5 p q s.heap l1 l2).get? s.heap.objs.size=some _:=VaC _ (VaC _ (VaC _ (VaC _ (VaH _ rfl))))
 show _∧_
 rw [z2,z3,z4] at g5
 rw [z1,z2] at g3
 rw [z3] at g4
 rw [z1] at g2
 rw [z4]
 exact ⟨⟨_,g5,rfl⟩,h _ g5 g3 g4 (ItK.new g1) (ItK.new g2) z5 fun c o x =>
  VaC _ (VaC _ (VaC _ (VaC _ (VaC _ x))))⟩
end
def SqB(K:W.Frag):Bool→Hp→Addr→List V→Prop
 | false,H,a,xs=>SqL K H a xs
 | true,H,a,xs=>SqT K H a xs
theorem SqK.here{p:Bool}{h:Heap}{a:Addr}{xs:Array Value}(x:SqK p h a xs):∃o,h.get? a=some o:=by
 cases p
 ·obtain ⟨o,e,_⟩:=(show h.IsList a xs from x);exact ⟨o,e⟩
 ·obtain ⟨o,e,_⟩:=(show h.IsTuple a xs from x);exact ⟨o,e⟩
theorem Inv.seqB{X:Cx}{pins:List (Addr×Obj)}{σ:St}{H:Hp}{s:Shared}{p:Bool}{a:Addr}{xs:List V}(I:Inv X pins σ H s)(h:SqB X.K p H a xs):∃its:List Value,Vals xs its∧SqK p s.heap a its.toArray∧xs.length≤sizeLine:=by
 cases p
 ·obtain ⟨its,rv,pl,hz⟩:=I.list h
  exact ⟨its,rv,pl.isList,hz⟩
 ·obtain ⟨its,rv,pl,hz⟩:=I.tuple h
  exact ⟨its,rv,pl,hz⟩
theorem Inv.seqB_inj{X:Cx}{pins:List (Addr×Obj)}{σ:St}{H:Hp}{s:Shared}{p:Bool}{a:Addr}{xs ys:List V}(I:Inv X pins σ H s)(h:SqB X.K p H a xs)(h':SqB X.K p H a ys):xs=ys:=by
 cases p
 ·exact I.list_inj h h'
 ·exact I.tuple_inj h h'
def ItzK(K:W.Frag)(p q:Bool)(a b:Addr):It :=
 ⟨fun i H=>∃xs ys x y,SqB K p H a xs∧SqB K q H b ys∧xs[i]?=some x∧ys[i]?=some y,fun i H x H'=>∃T p₀ q₀,H T=none∧x=.ref T∧H'=upd H T (.tup [p₀,q₀])∧(∀xs,SqB K p H a xs→xs[i]?=some p₀)∧(∀ys,SqB K q H b ys→ys[i]?=some q₀),
  fun i H=>∃xs ys,SqB K p H a xs∧SqB K q H b ys∧(xs.length≤i∨ys.length≤i)⟩
theorem Zmi{p q:Bool}{P:Program}{w:World}{K:W.Frag}{elts:List Expr}{x1:Nat}{pos:Pos}{a b z TI TO i1 i2:Addr}(D:ZipApart z TI TO i1 i2 a b):Turn P w K (.Tuple elts x1 pos) (ItzK K p q a b) [z,TI,TO,i1,i2] z
  (fun i h=>IsZip h z TI TO .none∧IsPair h TI (.ref i1) (.ref i2)∧(∃u v,IsPair h TO u v)∧ItK p h i1 a i∧ItK q h i2 b i) where
 mem:=by simp
 obj:=fun i h st c hb=>by
  obtain ⟨hz,hTI,⟨u,v,hTO⟩,f1,f2⟩:=st
  obtain ⟨o1,_,e1,d1⟩:=f1.flds
  obtain ⟨o2,_,e2,d2⟩:=f2.flds
  simp only [Var,VbH,VbI] at hb
  rcases hb with rfl | rfl | rfl | rfl | rfl
  ·exact ⟨_,hz,fun v z=>by cases z⟩
  ·exact ⟨_,hTI,fun v z=>by cases z⟩
  ·exact ⟨_,hTO,fun v z=>by cases z⟩
  ·exact ⟨_,e1,fun v z=>by rw [d1] at z;cases z⟩
  ·exact ⟨_,e2,fun v z=>by rw [d2] at z;cases z⟩
 keep:=fun i h h' st k=>by
  obtain ⟨hz,hTI,⟨u,v,hTO⟩,h1,h2⟩:=st
  exact ⟨k z (by simp) _ hz,k TI (by simp) _ hTI,⟨u,v,k TO (by simp) _ hTO⟩,h1.at fun o e=>k i1 (by simp) o e,h2.at fun o e=>k i2 (by simp) o e⟩
 item:=by
  intro X hP hw hK hc i pins s σ H E I hf st hg
  subst hP hw hK
  obtain ⟨hz,hTI,⟨u0,v0,hTO⟩,h1,h2⟩:=st
  obtain ⟨xs,ys,x,y,hqa,hqb,hx,hy⟩:=hg
  obtain ⟨its,rv,pa,za⟩:=I.seqB hqa
  obtain ⟨its2,rv2,pb,zb⟩:=I.seqB hqb
  obtain ⟨u,hu,ru⟩:=rv.get hx
  obtain ⟨v,hv,rv'⟩:=rv2.get hy
  refine Zlb D hz hTI hTO h1 h2 pa pb (x:=u) (y:=v) (by simpa using hu) (by simpa using hv) fun g1 a1 a2 a3 a4 a5 a6 hk=>⟨_,rfl,?_⟩
  refine wpAny_letOwnedTupleGo_zip a1 fun g2 hz2 hs2=>?_
  have hs2':Heap.SameBut z g1 g2:=hs2
  have hsz:∀{c:Addr} {ob:Obj},s.heap.get? c=some ob→c≠s.heap.objs.size:=fun q=>Vah (Vae q)
  have zT:=hsz hz
  have TIT:=hsz hTI
  have TOT:=hsz hTO
  have i1T:i1≠s.heap.objs.size:=by obtain ⟨_,q⟩:=h1.here;exact hsz q
  have i2T:i2≠s.heap.objs.size:=by obtain ⟨_,q⟩:=h2.here;exact hsz q
  have hT:H s.heap.objs.size=none:=I.hok.fresh (VaI _)
  have I2:Inv X pins σ (upd H s.heap.objs.size (.tup [x,y])) { s with heap:=g2,toks:=s.toks }:=by
   refine I.turnNew (fp:=[z,TI,TO,i1,i2]) (fun c ob hb q=>?_) hf (VaI _) ?_
   ·have b1:c≠z:=fun e=>hb (by simp [e])
    have b2:c≠TO:=fun e=>hb (by simp [e])
    have b3:c≠i1:=fun e=>hb (by simp [e])
    have b4:c≠i2:=fun e=>hb (by simp [e])
    exact hs2'.extBut c ob b1 (hk c ob b1 b2 b3 b4 q)
   ·have lt2:(2:Nat)≤sizeLine:=by decide
    exact ⟨lt2,[u,v],.cons ru (.cons rv' .nil),⟨_,hs2'.extBut _ _ (Ne.symm zT) a5,rfl,_,rfl⟩⟩
  refine ⟨.ref s.heap.objs.size,_,I2,rfl,⟨_,x,y,hT,rfl,rfl,(fun ws hw=>by rw [I.seqB_inj hw hqa];exact hx),(fun ws hw=>by rw [I.seqB_inj hw hqb];exact hy)⟩,
   ⟨hz2,hs2'.extBut _ _ D.TIz (hk _ _ D.TIz D.TITO D.TIi1 D.TIi2 hTI),⟨_,_,hs2'.extBut _ _ D.TOz a2⟩,a3.extBut hs2'.extBut D.i1z,a4.extBut hs2'.extBut D.i2z⟩,fun c hb=>?_⟩
  have nb:c≠s.heap.objs.size:=by
   simp only [Var,VbH,VbI] at hb
   rcases hb with rfl | rfl | rfl | rfl | rfl<;>assumption
  rw [Zag nb];exact (hf c hb).1
 done:=by
  intro X hP hw hK hc i pins s σ H E I hf st hg
  subst hP hw hK
  obtain ⟨hz,hTI,⟨u0,v0,hTO⟩,h1,h2⟩:=st
  obtain ⟨xs,ys,hqa,hqb,hx⟩:=hg
  obtain ⟨its,rv,pa,za⟩:=I.seqB hqa
  obtain ⟨its2,rv2,pb,zb⟩:=I.seqB hqb
  have hl:=rv.length
  have hl2:=rv2.length
  refine ZnV (I.ok.hd hc) D hz hTI hTO h1 h2 pa pb (hx.imp (fun q=>by simp;omega) (fun q=>by simp;omega)) fun h' hk=>⟨rfl,?_⟩
  exact I.turnedL (fp:=[z,TI,TO,i1,i2]) (t':=s.toks) (fun c ob hb q=>hk c ob (fun e=>hb (by simp [e])) (fun e=>hb (by simp [e])) (fun e=>hb (by simp [e])) (fun e=>hb (by simp [e])) q) hf
 self:=fun _ _ _ _ _ st h=>wpAny_pyIter_zip st.1 h
def Zsl(K:W.Frag)(ta:TA):TI:=fun σ H R=>ta σ H fun vs H1=>∃p q a b,vs=[.ref a,.ref b]∧(∃xs,SqB K p H1 a xs)∧(∃ys,SqB K q H1 b ys)∧R (ItzK K p q a b) H1
theorem ZqH{X:Cx}{elts:List Expr}{x1:Nat}{tpos:Pos}{a b:Expr}{ta:TA}{np pos:Pos}(hg:Gl X "zip")(hm:X.mg "zip"=none)(ha:PA X [a,b] ta)(hs:starEach [a,b] X.env=[(false,eval a X.env),(false,eval b X.env)]:=by rfl)(hs2:starEach [b] X.env=[(false,eval b X.env)]:=by rfl) :
  PI X (.Tuple elts x1 tpos) (.Call (.Name "zip" np) [a,b] [] pos) (Zsl X.K ta):=by
 intro pins s σ H R I h
 refine Call_ (Zfr I hg hm Zox (VaJ (thn (ha pos pins s σ H _ I h) fun us s1 ⟨vs,H1,I1,r1,q1⟩=>?_) (by rw [hs,hs2]) (by rw [hs2];rfl)))
 obtain ⟨κ,μ,l,m,e,⟨xs,hqa⟩,⟨ys,hqb⟩,q⟩:=q1
 subst e
 cases r1 with
 | cons r rr =>
  cases rr with
  | cons r' rr =>
   cases rr
   cases r
   cases r'
   obtain ⟨its,rv,pa,hz⟩:=I1.seqB hqa
   obtain ⟨its2,rv2,pb,hz2⟩:=I1.seqB hqb
   have a1:l<s1.heap.objs.size:=by obtain ⟨_,e⟩:=pa.here;exact Vae e
   have a2:m<s1.heap.objs.size:=by obtain ⟨_,e⟩:=pb.here;exact Vae e
   refine Zl5 pa pb fun h' gz gTI gTO g1 g2 hsz hk=>?_
   have hI:Inv X pins σ H1 { s1 with heap:=h' }:=I1.kept (t':=s1.toks) hk
   refine wpAny_pyIter_zip gz ?_
   refine ⟨_,_,_,ItzK X.K κ μ l m,H1,rfl,hI,Zmi (zipApart_new a1 a2),⟨gz,gTI,⟨_,_,gTO⟩,g1,g2⟩,fun c hb=>?_,q⟩
   have hb':s1.heap.objs.size≤c:=by
    simp only [Var,VbH,VbI] at hb
    rcases hb with rfl | rfl | rfl | rfl | rfl<;>omega
   exact I1.fpOk hb' (I1.hok.fresh hb')
end L2
namespace Dl
open PySem
inductive D where
 | non | bl (b:Bool) | int (i:Int) | str (x:Str) | ty (n:String) | cls (c:Str)
 | tup (xs:List D) | lst (xs:List D) | exc (c:Str) | ins (c:Str) (ns:List Str) (vs:List D)
inductive Res(α:Type) where
 | ok (a:α) | ex (c:Str) | bad
def Res.bind{α β:Type}:Res α→(α→Res β)→Res β
 | .ok a,f=>f a
 | .ex c,_=>.ex c
 | .bad,_=>.bad
theorem ZcM{α β:Type}(a:α)(f:α→Res β):(Res.ok a).bind f=f a:=rfl
inductive Cl where
 | no | im (d:D) | ow (ds:List D)
abbrev Ev:=List Cl
abbrev ME:=Ev→Res D
abbrev MB:=Ev→Res Bool
abbrev MA:=Ev→Res (List D)
def getC:Option Cl→Res D
 | some (.im d)=>.ok d
 | _=>.bad
def v(i:Nat):ME:=fun ρ=>getC ρ[i]?
def c(d:D):ME:=fun _=>.ok d
def o1(f:D→Res D)(a:ME):ME:=fun ρ=>(a ρ).bind f
def o2(f:D→D→Res D)(a b:ME):ME:=fun ρ=>(a ρ).bind fun x=>(b ρ).bind fun y=>f x y
def yaa:MA:=fun _=>.ok []
def Zaa(a:ME)(r:MA):MA:=fun ρ=>(a ρ).bind fun x=>(r ρ).bind fun xs=>.ok (x::xs)
def on(f:List D→Res D)(a:MA):ME:=fun ρ=>(a ρ).bind f
def mtp(a:MA):ME:=fun ρ=>(a ρ).bind fun xs=>.ok (.tup xs)
def mls(a:MA):ME:=fun ρ=>(a ρ).bind fun xs=>.ok (.lst xs)
def tru:D→Res Bool
 | .bl b=>.ok b
 | _=>.bad
def trb(a:ME):MB:=fun ρ=>(a ρ).bind tru
def bAnd(a b:MB):MB:=fun ρ=>(a ρ).bind fun x=>if x=true then b ρ else .ok false
def bOr(a b:MB):MB:=fun ρ=>(a ρ).bind fun x=>if x=true then .ok true else b ρ
def bNot(a:MB):MB:=fun ρ=>(a ρ).bind fun x=>.ok (!x)
def eAnd(a b:ME):ME:=fun ρ=>(trb a ρ).bind fun x=>if x=true then b ρ else .ok (.bl false)
def eNot(a:ME):ME:=fun ρ=>(trb a ρ).bind fun x=>.ok (.bl (!x))
def ife(t:MB)(a b:ME):ME:=fun ρ=>(t ρ).bind fun x=>if x=true then a ρ else b ρ
def ZaT(a b:Int):Bool:=decide (a.natAbs<2^64)||decide (b.natAbs<2^64)||decide (a.natAbs.log2+b.natAbs.log2<100000000)
def LIM:Nat:=1000000
def yan:D→D→Res D
 | .int a,.int b=>.ok (.int (a+b))
 | .lst a,.lst b=>if a.length+b.length≤LIM then .ok (.lst (a++b)) else .bad
 | .tup a,.tup b=>if a.length+b.length≤LIM then .ok (.tup (a++b)) else .bad
 | .str a,.str b=>if a.length+b.length≤LIM then .ok (.str (a++b)) else .bad
 | _,_=>.bad
def ii(f:Int→Int→Res D):D→D→Res D
 | .int a,.int b=>f a b
 | _,_=>.bad
def iSub(a b:Int):Res D:=.ok (.int (a - b))
def iMul(a b:Int):Res D:=if ZaT a b=true then .ok (.int (a*b)) else .bad
def iMod(a b:Int):Res D:=if 0<b then .ok (.int (a%b)) else if b=0 then .bad else .ok (.int (a.fmod b))
def iDiv(a b:Int):Res D:=if b.natAbs.log2<9000 then (if 0<b then .ok (.int (a/b)) else if b=0 then .bad else .ok (.int (a.fdiv b))) else .bad
def iPow(a b:Int):Res D:=if 0≤b∧b≤1000000∧a.natAbs<2^64 then .ok (.int (a^b.toNat)) else .bad
def iShl(a b:Int):Res D:=if 0≤b∧b≤1000000∧a.natAbs<2^64 then .ok (.int (a*2^b.toNat)) else .bad
def iShr(a b:Int):Res D:=if 0≤b then .ok (.int (a/2^b.toNat)) else .bad
def iLt(a b:Int):Res D:=.ok (.bl (decide (a<b)))
def iLe(a b:Int):Res D:=.ok (.bl (decide (a≤b)))
def iGt(a b:Int):Res D:=.ok (.bl (decide (b<a)))
def iGe(a b:Int):Res D:=.ok (.bl (decide (b≤a)))
abbrev dSub:=ii iSub
abbrev yaC:=ii iMul
abbrev yam:=ii iMod
abbrev ya0:=ii iDiv
abbrev dPow:=ii iPow
abbrev dShl:=ii iShl
abbrev dShr:=ii iShr
abbrev dLt:=ii iLt
abbrev dLe:=ii iLe
abbrev dGt:=ii iGt
abbrev dGe:=ii iGe
def dNeg:D→Res D
 | .int a=>.ok (.int (-a))
 | _=>.bad
mutual
def eqD:D→D→Bool
 | .non,.non=>true
 | .bl a,.bl b=>a==b
 | .bl a,.int j=>(if a then 1 else 0)==j
 | .int i,.bl b=>i==(if b then 1 else 0)
 | .int i,.int j=>i==j
 | .str x,.str y=>x==y
 | .lst xs,.lst ys=>eqDs xs ys
 | .tup xs,.tup ys=>eqDs xs ys
 | _,_=>false
def eqDs:List D→List D→Bool
 | [],[]=>true
 | x::xs,y::ys=>eqD x y&&eqDs xs ys
 | _,_=>false
end
mutual
def plain:Nat→D→Bool
 | _,.non=>true
 | _,.bl _=>true
 | _,.int _=>true
 | _,.str x=>x.cps.all (·<0x110000)
 | k+1,.tup xs=>Zay k xs
 | k+1,.lst xs=>Zay k xs
 | _,_=>false
def Zay:Nat→List D→Bool
 | _,[]=>true
 | k,x::xs=>plain k x&&Zay k xs
end
def dEq(x y:D):Res D:=if plain 50 x&&plain 50 y then .ok (.bl (eqD x y)) else .bad
def dNe(x y:D):Res D:=if plain 50 x&&plain 50 y then .ok (.bl (!eqD x y)) else .bad
def seqD:D→Res (List D)
 | .lst ys=>.ok ys
 | .tup ys=>.ok ys
 | _=>.bad
def Zj0:D→Bool
 | .non=>true
 | _=>false
def dIsN(x:D):Res D:=.ok (.bl (Zj0 x))
def Zmk(x:D):Res D:=.ok (.bl (!Zj0 x))
def at_{α:Type}(xs:List α)(i:Int):Option α:=if 0≤i then xs[i.toNat]? else if -(xs.length:Int)≤i then xs[(i+xs.length).toNat]? else none
def ofO{α:Type}:Option α→Res α
 | some a=>.ok a
 | none=>.bad
def dIx:D→D→Res D
 | .lst xs,.int i=>ofO (at_ xs i)
 | .tup xs,.int i=>ofO (at_ xs i)
 | _,_=>.bad
def cutAt(n d:Nat):Option Int→Nat
 | none=>d
 | some i=>if i<0 then (i+n).toNat else min i.toNat n
def cutL(xs:List D)(lo hi:Option Int):List D:=(xs.drop (cutAt xs.length 0 lo)).take (cutAt xs.length xs.length hi - cutAt xs.length 0 lo)
def dCut(x:D)(lo hi:Option Int):Res D:=match x with
 | .lst xs=>.ok (.lst (cutL xs lo hi))
 | .tup xs=>.ok (.tup (cutL xs lo hi))
 | _=>.bad
def pno:Ev→Res (Option Int):=fun _=>.ok none
def optI:D→Res (Option Int)
 | .int i=>.ok (some i)
 | _=>.bad
def pso(a:ME):Ev→Res (Option Int):=fun ρ=>(a ρ).bind optI
def cut(a:ME)(lo hi:Ev→Res (Option Int)):ME:=fun ρ=>(a ρ).bind fun x=>(lo ρ).bind fun l=>(hi ρ).bind fun h=>dCut x l h
def bLen:List D→Res D
 | [.lst xs]=>.ok (.int xs.length)
 | [.tup xs]=>.ok (.int xs.length)
 | _=>.bad
def bAbs:List D→Res D
 | [.int i]=>.ok (.int (if i<0 then -i else i))
 | _=>.bad
def bTup:List D→Res D
 | [.lst xs]=>.ok (.tup xs)
 | [.tup xs]=>.ok (.tup xs)
 | _=>.bad
def bLst:List D→Res D
 | [.lst xs]=>.ok (.lst xs)
 | [.tup xs]=>.ok (.lst xs)
 | _=>.bad
def ZjB:D→Option String
 | .non=>some "NoneType"
 | .bl _=>some "bool"
 | .int _=>some "int"
 | .str _=>some "str"
 | .tup _=>some "tuple"
 | .lst _=>some "list"
 | _=>none
def isTy(t n:String):Bool:=t==n||(t == "bool"&&n == "int")
def Zjg:List String:=["int", "bool", "str", "tuple", "list", "dict"]
def bIsi:List D→Res D
 | [x,.ty n]=>if Zjg.contains n=true then (ofO (ZjB x)).bind fun t=>.ok (.bl (isTy t n)) else .bad
 | _=>.bad
def bools:List D→Res (List Bool)
 | []=>.ok []
 | d::r=>match d with
  | .bl b=>(bools r).bind fun bs=>.ok (b::bs)
  | _=>.bad
def bAll:List D→Res D
 | [d]=>match d with
  | .lst xs=>(bools xs).bind fun bs=>.ok (.bl (bs.all id))
  | _=>.bad
 | _=>.bad
def ZeJ:List D→Res (List Int)
 | []=>.ok []
 | d::r=>match d with
  | .int n=>(ZeJ r).bind fun ns=>.ok (n::ns)
  | _=>.bad
def maxI:List Int→Res D
 | []=>.bad
 | n::r=>.ok (.int (r.foldl max n))
def Znw:List D→Res D
 | [d]=>match d with
  | .lst xs=>(ZeJ xs).bind maxI
  | _=>.bad
 | _=>.bad
abbrev MI:=Ev→Res (List D)
def items:D→Res (List D)
 | .lst xs=>.ok xs
 | .tup xs=>.ok xs
 | _=>.bad
def iv(a:ME):MI:=fun ρ=>(a ρ).bind items
def pairs:List D→List D→List D
 | x::xs,y::ys=>.tup [x,y]::pairs xs ys
 | _,_=>[]
def zip2:List D→Res (List D)
 | [x,y]=>(seqD x).bind fun xs=>(seqD y).bind fun ys=>.ok (pairs xs ys)
 | _=>.bad
def iZip(a:MA):MI:=fun ρ=>(a ρ).bind zip2
def ZbQ(lo:Int)(n:Nat):List D:=(List.range n).map fun (k:Nat)=>D.int (lo+(k:Int))
def rng1:List D→Res (List D)
 | [.int j]=>if -1000000000≤j∧j≤1000000000 then .ok (ZbQ 0 j.toNat) else .bad
 | _=>.bad
def r1(a:MA):MI:=fun ρ=>(a ρ).bind rng1
abbrev MG:=D→Ev→Res Ev
abbrev MGs:=List D→Ev→Res Ev
def gN(i:Nat):MG:=fun d ρ=>.ok (ρ.set i (.im d))
def gs0:MGs:=fun ds ρ=>match ds with
 | []=>.ok ρ
 | _=>.bad
def gs1(g:MG)(r:MGs):MGs:=fun ds ρ=>match ds with
 | d::ds=>(g d ρ).bind fun ρ'=>r ds ρ'
 | []=>.bad
def gU(n:Nat)(g:MGs):MG:=fun d ρ=>(items d).bind fun xs=>if xs.length=n then g xs ρ else .bad
def imOf:Option Cl→Cl
 | some (.im d)=>.im d
 | _=>.no
def yav(ρ:Ev):List Nat→Ev
 | []=>[]
 | j::r=>imOf ρ[j]?::yav ρ r
def noA:Nat→Ev→Ev
 | 0,e=>e
 | k+1,e=>.no::noA k e
def Zan(g:MG)(t:MB)(e:ME)(ρ0:Ev):List D→Res (List D)
 | []=>.ok []
 | x::r=>(g x ρ0).bind fun ρ1=>(t ρ1).bind fun b=>if b=true then (e ρ1).bind fun y=>(Zan g t e ρ0 r).bind fun ys=>.ok (y::ys) else Zan g t e ρ0 r
def yes:MB:=fun _=>.ok true
def noEx{α:Type}:Res α→Res α
 | .ex _=>.bad
 | r=>r
def comp(it:MI)(own:Nat)(cap:List Nat)(g:MG)(t:MB)(e:ME):ME:=fun ρ=>(it ρ).bind fun xs =>
 if xs.length≤LIM then (noEx (Zan g t e (noA own (yav ρ cap)) xs)).bind fun ys=>.ok (.lst ys) else .bad
inductive Fl where
 | nx (ρ:Ev) | rt (d:D) | bk (ρ:Ev) | ct (ρ:Ev)
abbrev MS:=Ev→Res Fl
def nop:MS:=fun ρ=>.ok (.nx ρ)
def goOn(b:MS):Fl→Res Fl
 | .nx ρ=>b ρ
 | f=>.ok f
def sq(a b:MS):MS:=fun ρ=>(a ρ).bind (goOn b)
def st(i:Nat)(e:ME):MS:=fun ρ=>(e ρ).bind fun d=>.ok (.nx (ρ.set i (.im d)))
def lstO:D→Res (List D)
 | .lst xs=>.ok xs
 | _=>.bad
def stO(i:Nat)(e:ME):MS:=fun ρ=>(e ρ).bind fun d=>(lstO d).bind fun xs=>.ok (.nx (ρ.set i (.ow xs)))
def getO:Option Cl→Res (List D)
 | some (.ow xs)=>.ok xs
 | _=>.bad
def frz(i:Nat)(m:MS):MS:=fun ρ=>(getO ρ[i]?).bind fun xs=>m (ρ.set i (.im (.lst xs)))
def app(i:Nat)(e:ME):MS:=fun ρ=>(getO ρ[i]?).bind fun xs=>(e ρ).bind fun d=>if xs.length<LIM then .ok (.nx (ρ.set i (.ow (xs++[d])))) else .bad
def asg(g:MG)(e:ME):MS:=fun ρ=>(e ρ).bind fun d=>(g d ρ).bind fun ρ'=>.ok (.nx ρ')
def par(i j:Nat)(a b:ME):MS:=fun ρ=>(a ρ).bind fun x=>(b ρ).bind fun y=>.ok (.nx ((ρ.set i (.im x)).set j (.im y)))
def drp(e:ME):MS:=fun ρ=>(e ρ).bind fun _=>.ok (.nx ρ)
def ret(e:ME):MS:=fun ρ=>(e ρ).bind fun d=>.ok (.rt d)
def ifs(t:MB)(a b:MS):MS:=fun ρ=>(t ρ).bind fun x=>if x=true then a ρ else b ρ
def cnt:MS:=fun ρ=>.ok (.ct ρ)
def rse(c:Str)(a:MA):MS:=fun ρ=>(a ρ).bind fun _=>.ex c
def ZhH:D→Res D
 | .non=>.ok .non
 | .bl b=>.ok (.bl b)
 | .int i=>.ok (.int i)
 | .str x=>.ok (.str x)
 | _=>.bad
def pk(i:Nat)(m:ME):ME:=fun ρ=>(getO ρ[i]?).bind fun xs=>(m (ρ.set i (.im (.lst xs)))).bind ZhH
def pkB(i:Nat)(m:MB):MB:=fun ρ=>(getO ρ[i]?).bind fun xs=>m (ρ.set i (.im (.lst xs)))
def turn(k:MS):Fl→Res Fl
 | .nx ρ=>k ρ
 | .ct ρ=>k ρ
 | .bk ρ=>.ok (.nx ρ)
 | .rt d=>.ok (.rt d)
def ZbE(g:MG)(b:MS):List D→MS
 | [],ρ=>.ok (.nx ρ)
 | x::r,ρ=>(g x ρ).bind fun ρ1=>(b ρ1).bind (turn (ZbE g b r))
def for_(it:MI)(g:MG)(b:MS):MS:=fun ρ=>(it ρ).bind fun xs=>ZbE g b xs ρ
def whGo(t:MB)(b:MS):Nat→MS
 | 0,_=>.bad
 | n+1,ρ=>(t ρ).bind fun x=>if x=true then (b ρ).bind (turn (whGo t b n)) else .ok (.nx ρ)
def absC:Cl→Nat
 | .im (.int i)=>i.natAbs
 | _=>0
def fuel(ρ:Ev):Nat:=(ρ.map absC).sum+1
def whl(n:Ev→Nat)(t:MB)(b:MS):MS:=fun ρ=>whGo t b (n ρ) ρ
def evF:List D→Nat→Ev
 | [],k=>noA k []
 | d::r,k=>.im d::evF r (k - 1)
def ev0(n:Nat)(ds:List D):Ev:=evF ds n
theorem ZjW:∀(k:Nat) (e:Ev),noA k e=List.replicate k .no++e
 | 0,_=>rfl
 | k+1,e=>by rw [noA,ZjW k e,List.replicate_succ,List.cons_append]
theorem ZgP(ρ:Ev):∀cap:List Nat,yav ρ cap=cap.map fun j=>imOf ρ[j]?
 | []=>rfl
 | j::r=>by rw [yav,ZgP ρ r,VaP]
theorem ZhA:∀(ds:List D) (n:Nat),ev0 n ds=ds.map .im++List.replicate (n - ds.length) .no
 | [],n=>by show noA n []=_;rw [ZjW];simp
 | d::r,n=>by
  have ih:=ZhA r (n - 1)
  show .im d::ev0 (n - 1) r=_
  rw [ih,VaP,List.cons_append,VaO,Nat.sub_sub,Nat.add_comm 1]
def endOf:Fl→Res D
 | .rt d=>.ok d
 | .nx _=>.ok .non
 | _=>.bad
def fn(n:Nat)(b:MS)(ds:List D):Res D:=(b (ev0 n ds)).bind endOf
end Dl
namespace L2.Ds
open PySem PySem.Spec PyProof.Rows Dl
mutual
inductive Rp(K:W.Frag)(mg:Str→Option Value)(H:Hp):V→D→Prop
 | non:Rp K mg H .non .non
 | bl (b:Bool):Rp K mg H (.bl b) (.bl b)
 | int (i:Int):Rp K mg H (.int i) (.int i)
 | str (x:Str):Rp K mg H (.str x) (.str x)
 | ty (n:String):Rp K mg H (.ty n) (.ty n)
 | cls {c:Str} {C:Addr} (h:mg c=some (.ref C)):Rp K mg H (.ref C) (.cls c)
 | tup {a:Addr} {xs:List V} {ds:List D} (h:SqT K H a xs) (r:Rps K mg H xs ds):Rp K mg H (.ref a) (.tup ds)
 | lst {a:Addr} {xs:List V} {ds:List D} (h:SqL K H a xs) (r:Rps K mg H xs ds):Rp K mg H (.ref a) (.lst ds)
 | exc {c:Str} {C a:Addr} (m:mg c=some (.ref C)) (h:H a=some (exO a (.ref C))):Rp K mg H (.ref a) (.exc c)
 | ins {c:Str} {C a dx:Addr} {fs:List (Str×V)} {xs:List V} {vs:List D} (m:mg c=some (.ref C)) (h:H a=some (.ins C dx fs)) (o:H dx=some (.own a)) (e:fs.map (·.2)=xs) (r:Rps K mg H xs vs):Rp K mg H (.ref a) (.ins c (fs.map (·.1)) vs)
inductive Rps(K:W.Frag)(mg:Str→Option Value)(H:Hp):List V→List D→Prop
 | nil:Rps K mg H [] []
 | cons {x:V} {xs:List V} {d:D} {ds:List D} (h:Rp K mg H x d) (r:Rps K mg H xs ds):Rps K mg H (x::xs) (d::ds)
end
section
variable{K:W.Frag}{mg:Str→Option Value}{H H':Hp}
theorem ZaF{a:Addr}{xs:List V}(e:Same H H')(h:SqT K H a xs):SqT K H' a xs:=by
 rcases h with (h | ⟨o,h⟩) | h
 ·exact .inl (.inl (e _ _ h))
 ·exact .inl (.inr ⟨o,e _ _ h⟩)
 ·exact .inr h
mutual
theorem Rp.same(e:Same H H'):∀{x:V} {d:D},Rp K mg H x d→Rp K mg H' x d
 | _,_,.non=>.non
 | _,_,.bl b=>.bl b
 | _,_,.int i=>.int i
 | _,_,.str x=>.str x
 | _,_,.ty n=>.ty n
 | _,_,.cls h=>.cls h
 | _,_,.tup h r=>.tup (ZaF e h) (Rps.same e r)
 | _,_,.lst h r=>.lst (e.seq h) (Rps.same e r)
 | _,_,.exc m h=>.exc m (e _ _ h)
 | _,_,.ins m h o q r=>.ins m (e _ _ h) (e _ _ o) q (Rps.same e r)
theorem Rps.same(e:Same H H'):∀{xs:List V} {ds:List D},Rps K mg H xs ds→Rps K mg H' xs ds
 | _,_,.nil=>.nil
 | _,_,.cons h r=>.cons (Rp.same e h) (Rps.same e r)
end
theorem Rps.length:∀{xs:List V} {ds:List D},Rps K mg H xs ds→xs.length=ds.length
 | _,_,.nil=>rfl
 | _,_,.cons _ r=>Vay (·+1) (Rps.length r)
theorem Rps.get:∀{xs:List V} {ds:List D} {i:Nat} {d:D},Rps K mg H xs ds→ds[i]?=some d→∃x,xs[i]?=some x∧Rp K mg H x d
 | _,_,_,_,.nil,e=>by simp at e
 | _,_,0,_,.cons h _,e=>by simp at e;subst e;exact ⟨_,rfl,h⟩
 | _,_,i+1,_,.cons _ r,e=>by
  obtain ⟨x,h1,h2⟩:=Rps.get (i:=i) r (by simpa using e)
  exact ⟨x,by simpa using h1,h2⟩
theorem Rps.app{ys:List V}{es:List D}(q:Rps K mg H ys es):∀{xs:List V} {ds:List D},Rps K mg H xs ds→Rps K mg H (xs++ys) (ds++es)
 | _,_,.nil=>q
 | _,_,.cons h r=>.cons h (Rps.app q r)
theorem Rps.drop:∀{xs:List V} {ds:List D} (n:Nat),Rps K mg H xs ds→Rps K mg H (xs.drop n) (ds.drop n)
 | _,_,0,r=>r
 | _,_,_+1,.nil=>.nil
 | _,_,n+1,.cons _ r=>Rps.drop n r
theorem Rps.take:∀{xs:List V} {ds:List D} (n:Nat),Rps K mg H xs ds→Rps K mg H (xs.take n) (ds.take n)
 | _,_,0,_=>.nil
 | _,_,_+1,.nil=>.nil
 | _,_,n+1,.cons h r=>.cons h (Rps.take n r)
theorem Rps.one{xs:List V}{d:D}(h:Rps K mg H xs [d]):∃x,xs=[x]∧Rp K mg H x d:=by
 cases h with | cons h r=>cases r;exact ⟨_,rfl,h⟩
theorem Rps.two{xs:List V}{d e:D}(h:Rps K mg H xs [d,e]):∃x y,xs=[x,y]∧Rp K mg H x d∧Rp K mg H y e:=by
 cases h with | cons h r=>obtain ⟨_,rfl,g⟩:=Rps.one r;exact ⟨_,_,rfl,h,g⟩
end
structure Gr(F H F' H':Hp):Prop where
 f:Same F F'
 s:Same F' H'
 o:∀a o,F a=none→H a=some o→F' a=none∧H' a=some o
theorem Gr.refl{F H:Hp}(s:Same F H):Gr F H F H:=⟨Same.refl _,s,fun _ _ h1 h2=>⟨h1,h2⟩⟩
theorem Gr.trans{F H F1 H1 F2 H2:Hp}(g:Gr F H F1 H1)(h:Gr F1 H1 F2 H2):Gr F H F2 H2:=⟨g.f.trans h.f,h.s,fun a o h1 h2=>let ⟨q1,q2⟩:=g.o a o h1 h2;h.o a o q1 q2⟩
theorem ZmY{F H:Hp}{p:Addr}{o:HO}(s:Same F H):Same (upd F p o) (upd H p o):=fun b u e=>by
 by_cases hb:b=p
 ·subst hb;rw [Zah] at e ⊢;exact e
 ·rw [Zag hb] at e ⊢;exact s b u e
theorem Gr.new{F H:Hp}{p:Addr}(s:Same F H)(h:H p=none)(o:HO):Gr F H (upd F p o) (upd H p o) :=
 ⟨ZaA (s.free h) o,ZmY s,fun a u h1 h2=>by
  have ne:a≠p:=Zaf h2 h
  rw [Zag ne,Zag ne];exact ⟨h1,h2⟩⟩
structure Rep(K:W.Frag)(mg:Str→Option Value)(F0 H0 F H:Hp)(σ:St)(ρ:Ev):Prop where
 g:Gr F0 H0 F H
 len:σ.length=ρ.length
 im:∀(i:Nat) (d:D),ρ[i]?=some (.im d)→∃x,σ[i]?=some (some x)∧Rp K mg F x d
 ow:∀(i:Nat) (ds:List D),ρ[i]?=some (.ow ds)→∃a xs,σ[i]?=some (some (.ref a))∧H0 a=none∧F a=none∧H a=some (.lst xs)∧Rps K mg F xs ds
 ne:∀(i j:Nat) (ds es:List D) (a:Addr),ρ[i]?=some (.ow ds)→ρ[j]?=some (.ow es)→σ[i]?=some (some (.ref a))→σ[j]?=some (some (.ref a))→i=j
section
variable{K:W.Frag}{mg:Str→Option Value}{F0 H0 F H F' H':Hp}{σ:St}{ρ:Ev}
theorem Rep.gr(r:Rep K mg F0 H0 F H σ ρ)(g:Gr F H F' H'):Rep K mg F0 H0 F' H' σ ρ:=by
 refine ⟨r.g.trans g,r.len,fun i d e=>?_,fun i ds e=>?_,r.ne⟩
 ·obtain ⟨x,h1,h2⟩:=r.im i d e
  exact ⟨x,h1,h2.same g.f⟩
 ·obtain ⟨a,xs,h1,h2,h3,h4,h5⟩:=r.ow i ds e
  obtain ⟨q1,q2⟩:=g.o a _ h3 h4
  exact ⟨a,xs,h1,h2,q1,q2,h5.same g.f⟩
theorem ZaC{α:Type}{l:List α}{i j:Nat}{x y:α}(h:(l.set i x)[j]?=some y):(i=j∧y=x∧i<l.length)∨(i≠j∧l[j]?=some y):=by
 rw [List.getElem?_set] at h
 by_cases e:i=j
 ·rw [if_pos e] at h
  split at h
  ·exact .inl ⟨e,(Vav h).symm,by assumption⟩
  ·cases h
 ·rw [if_neg e] at h;exact .inr ⟨e,h⟩
theorem ZjT{α:Type}{l:List α}{i:Nat}{x:α}(h:i<l.length):(l.set i x)[i]?=some x:=by
 rw [List.getElem?_set,if_pos rfl,if_pos h]
theorem Zcq{α:Type}{l:List α}{i j:Nat}{x:α}(h:i≠j):(l.set i x)[j]?=l[j]?:=by
 rw [List.getElem?_set,if_neg h]
theorem Rep.set{x:V}{d:D}(r:Rep K mg F0 H0 F H σ ρ)(i:Nat)(h:Rp K mg F x d):Rep K mg F0 H0 F H (σ.set i (some x)) (ρ.set i (.im d)):=by
 refine ⟨r.g,by rw [VbJ,VbJ];exact r.len,fun j e q=>?_,fun j ds q=>?_,fun j k ds es a q1 q2 q3 q4=>?_⟩
 ·rcases ZaC q with ⟨rfl,z,l⟩ | ⟨hij,q⟩
  ·cases z
   exact ⟨x,ZjT (by rw [r.len];exact l),h⟩
  ·rw [Zcq hij];exact r.im j e q
 ·rcases ZaC q with ⟨_,z,_⟩ | ⟨hij,q⟩
  ·cases z
  ·rw [Zcq hij];exact r.ow j ds q
 ·rcases ZaC q1 with ⟨_,z,_⟩ | ⟨h1,q1⟩
  ·cases z
  ·rcases ZaC q2 with ⟨_,z,_⟩ | ⟨h2,q2⟩
   ·cases z
   ·rw [Zcq h1] at q3
    rw [Zcq h2] at q4
    exact r.ne j k ds es a q1 q2 q3 q4
theorem Rep.own{a:Addr}{xs:List V}{ds:List D}(r:Rep K mg F0 H0 F H σ ρ)(i:Nat)(hn:H a=none)(h:Rps K mg F xs ds):Rep K mg F0 H0 F (upd H a (.lst xs)) (σ.set i (some (.ref a))) (ρ.set i (.ow ds)):=by
 have fa:F a=none:=r.g.s.free hn
 have h0a:H0 a=none:=by
  cases q:H0 a with
  | none=>rfl
  | some o =>
   cases q2:F0 a with
   | none=>rw [(r.g.o a o q2 q).2] at hn;cases hn
   | some u=>rw [r.g.f a u q2] at fa;cases fa
 have nea:∀{j:Nat} {es:List D} {b:Addr},ρ[j]?=some (.ow es)→σ[j]?=some (some (.ref b))→b≠a:=fun {j es b} q1 q2=>by
  obtain ⟨b',xs',h1,_,_,h4,_⟩:=r.ow j es q1
  rw [q2] at h1;cases h1
  exact Zaf h4 hn
 refine ⟨⟨r.g.f,fun b o e=>?_,fun b o e1 e2=>?_⟩,by rw [VbJ,VbJ];exact r.len,fun j e q=>?_,fun j es q=>?_,fun j k es ts b q1 q2 q3 q4=>?_⟩
 ·rw [Zag (Zaf e fa)];exact r.g.s b o e
 ·rw [Zag (Zaf e2 h0a)];exact r.g.o b o e1 e2
 ·rcases ZaC q with ⟨_,z,_⟩ | ⟨hij,q⟩
  ·cases z
  ·rw [Zcq hij];exact r.im j e q
 ·rcases ZaC q with ⟨rfl,z,l⟩ | ⟨hij,q⟩
  ·cases z
   exact ⟨a,xs,ZjT (by rw [r.len];exact l),h0a,fa,Zah,h⟩
  ·rw [Zcq hij]
   obtain ⟨b,ys,h1,h2,h3,h4,h5⟩:=r.ow j es q
   exact ⟨b,ys,h1,h2,h3,by rw [Zag (Zaf h4 hn)];exact h4,h5⟩
 ·rcases ZaC q1 with ⟨rfl,_,l1⟩ | ⟨h1,q1⟩
  ·rcases ZaC q2 with ⟨rfl,_,_⟩ | ⟨h2,q2⟩
   ·rfl
   ·rw [ZjT (by rw [r.len];exact l1)] at q3
    rw [Zcq h2] at q4
    cases q3
    exact absurd rfl (nea q2 q4)
  ·rcases ZaC q2 with ⟨rfl,_,l2⟩ | ⟨h2,q2⟩
   ·rw [ZjT (by rw [r.len];exact l2)] at q4
    rw [Zcq h1] at q3
    cases q4
    exact absurd rfl (nea q1 q3)
   ·rw [Zcq h1] at q3
    rw [Zcq h2] at q4
    exact r.ne j k es ts b q1 q2 q3 q4
theorem Rep.app{i:Nat}{x:V}{d:D}{ds:List D}{a:Addr}{xs:List V}(r:Rep K mg F0 H0 F H σ ρ)(e:ρ[i]?=some (.ow ds))(e2:σ[i]?=some (some (.ref a)))(e3:H a=some (.lst xs))(e4:H0 a=none)(e5:F a=none)(hr:Rps K mg F xs ds)(h:Rp K mg F x d) :
  Rep K mg F0 H0 F (upd H a (.lst (xs++[x]))) σ (ρ.set i (.ow (ds++[d]))):=by
 have li:i<ρ.length:=(Vau.mp e).1
 refine ⟨⟨r.g.f,fun b o q=>?_,fun b o q1 q2=>?_⟩,by rw [VbJ];exact r.len,fun j u q=>?_,fun j es q=>?_,fun j k es ts b q1 q2 q3 q4=>?_⟩
 ·rw [Zag (Zaf q e5)];exact r.g.s b o q
 ·rw [Zag (Zaf q2 e4)];exact r.g.o b o q1 q2
 ·rcases ZaC q with ⟨_,z,_⟩ | ⟨_,q⟩
  ·cases z
  ·exact r.im j u q
 ·rcases ZaC q with ⟨rfl,z,l⟩ | ⟨hij,q⟩
  ·cases z
   exact ⟨a,_,e2,e4,e5,Zah,Rps.app (.cons h .nil) hr⟩
  ·obtain ⟨b,ys,h1,h2,h3,h4,h5⟩:=r.ow j es q
   have nb:b≠a:=by
    rintro rfl
    exact hij (r.ne i j ds es b e q e2 h1)
   exact ⟨b,ys,h1,h2,h3,by rw [Zag nb];exact h4,h5⟩
 ·have o1:∃es',ρ[j]?=some (.ow es'):=by
   rcases ZaC q1 with ⟨rfl,_,_⟩ | ⟨_,q⟩
   ·exact ⟨_,e⟩
   ·exact ⟨_,q⟩
  have o2:∃es',ρ[k]?=some (.ow es'):=by
   rcases ZaC q2 with ⟨rfl,_,_⟩ | ⟨_,q⟩
   ·exact ⟨_,e⟩
   ·exact ⟨_,q⟩
  obtain ⟨_,o1⟩:=o1
  obtain ⟨_,o2⟩:=o2
  exact r.ne j k _ _ b o1 o2 q3 q4
theorem Rep.frz{i:Nat}{ds:List D}(r:Rep K mg F0 H0 F H σ ρ)(e:ρ[i]?=some (.ow ds)):∃F',Same F F'∧Rep K mg F0 H0 F' H σ (ρ.set i (.im (.lst ds))):=by
 obtain ⟨a,xs,e2,e4,e5,e3,hr⟩:=r.ow i ds e
 have sF:Same F (upd F a (.lst xs)):=ZaA e5 _
 refine ⟨upd F a (.lst xs),sF,⟨r.g.f.trans sF,fun b o q=>?_,fun b o q1 q2=>?_⟩,by rw [VbJ];exact r.len,fun j u q=>?_,fun j es q=>?_,fun j k es ts b q1 q2 q3 q4=>?_⟩
 ·by_cases hb:b=a
  ·subst hb;rw [Zah] at q;cases q;exact e3
  ·rw [Zag hb] at q;exact r.g.s b o q
 ·rw [Zag (Zaf q2 e4)];exact r.g.o b o q1 q2
 ·rcases ZaC q with ⟨rfl,z,_⟩ | ⟨_,q⟩
  ·cases z
   exact ⟨.ref a,e2,.lst (SqL.of Zah) (hr.same sF)⟩
  ·obtain ⟨x,h1,h2⟩:=r.im j u q
   exact ⟨x,h1,h2.same sF⟩
 ·rcases ZaC q with ⟨_,z,_⟩ | ⟨hij,q⟩
  ·cases z
  ·obtain ⟨b,ys,h1,h2,h3,h4,h5⟩:=r.ow j es q
   have nb:b≠a:=by
    rintro rfl
    exact hij (r.ne i j ds es b e q e2 h1)
   exact ⟨b,ys,h1,h2,by rw [Zag nb];exact h3,h4,h5.same sF⟩
 ·rcases ZaC q1 with ⟨_,z,_⟩ | ⟨_,q1⟩
  ·cases z
  ·rcases ZaC q2 with ⟨_,z,_⟩ | ⟨_,q2⟩
   ·cases z
   ·exact r.ne j k es ts b q1 q2 q3 q4
end
def Ans{α β:Type}(mg:Str→Option Value)(E:XK)(R:Hp→β→α→Prop)(F H:Hp)(r:Res α)(w:(β→Hp→Prop)→Prop):Prop :=
 match r with
 | .ok a=>∀Q:β→Hp→Prop,(∀F' H' b,Gr F H F' H'→R F' b a→Q b H')→w Q
 | .ex c=>∀Q:β→Hp→Prop,(∀F' H' C,Gr F H F' H'→mg c=some (.ref C)→E (.ref C) none H')→w Q
 | .bad=>True
section
variable{α β γ δ:Type}{mg:Str→Option Value}{E:XK}{R:Hp→β→α→Prop}{R':Hp→δ→γ→Prop}{F H:Hp}
theorem Ans.ret{a:α}{b:β}{w:(β→Hp→Prop)→Prop}(s:Same F H)(r:R F b a)(h:∀Q:β→Hp→Prop,Q b H→w Q):Ans mg E R F H (.ok a) w:=fun Q q=>h Q (q F H b (.refl s) r)
theorem Ans.bindE{r:Res α}{w:(β→Hp→Prop)→Prop}{k:α→Res γ}{w':β→Hp→(δ→Hp→Prop)→Prop}(h1:Ans mg E R F H r w)(h2:∀a,r=.ok a→∀F1 H1 b,Gr F H F1 H1→R F1 b a→Ans mg E R' F1 H1 (k a) (w' b H1)) :
  Ans mg E R' F H (r.bind k) (fun Q=>w fun b H1=>w' b H1 Q):=by
 cases r with
 | ok a =>
  show Ans mg E R' F H (k a) _
  have h2':=h2 a rfl
  generalize k a=r2 at h2'
  cases r2 with
  | ok d=>exact fun Q q=>h1 _ fun F1 H1 b g rb=>h2' F1 H1 b g rb Q fun F2 H2 e g2 re=>q F2 H2 e (g.trans g2) re
  | ex c=>exact fun Q q=>h1 _ fun F1 H1 b g rb=>h2' F1 H1 b g rb Q fun F2 H2 C g2 hc=>q F2 H2 C (g.trans g2) hc
  | bad=>trivial
 | ex c=>exact fun Q q=>h1 _ q
 | bad=>trivial
theorem Ans.bind{r:Res α}{w:(β→Hp→Prop)→Prop}{k:α→Res γ}{w':β→Hp→(δ→Hp→Prop)→Prop}(h1:Ans mg E R F H r w)(h2:∀F1 H1 b a,Gr F H F1 H1→R F1 b a→Ans mg E R' F1 H1 (k a) (w' b H1)) :
  Ans mg E R' F H (r.bind k) (fun Q=>w fun b H1=>w' b H1 Q):=h1.bindE fun a _ F1 H1 b g q=>h2 F1 H1 b a g q
end
def AnsS(K:W.Frag)(mg:Str→Option Value)(E:XK)(F0 H0 F:Hp)(r:Res Fl)(w:Ends→Prop):Prop :=
 match r with
 | .ok (.nx ρ)=>∀D:Ends,(∀F' H' σ',Same F F'→Rep K mg F0 H0 F' H' σ' ρ→D.nx σ' H')→w D
 | .ok (.bk ρ)=>∀D:Ends,(∀F' H' σ',Same F F'→Rep K mg F0 H0 F' H' σ' ρ→D.bk σ' H')→w D
 | .ok (.ct ρ)=>∀D:Ends,(∀F' H' σ',Same F F'→Rep K mg F0 H0 F' H' σ' ρ→D.ct σ' H')→w D
 | .ok (.rt d)=>∀D:Ends,(∀F' H' x,Gr F0 H0 F' H'→Rp K mg F' x d→D.rt x H')→w D
 | .ex c=>∀D:Ends,(∀F' H' C,Gr F0 H0 F' H'→mg c=some (.ref C)→E (.ref C) none H')→w D
 | .bad=>True
abbrev RB:Hp→Bool→Bool→Prop:=fun _ b b'=>b=b'
abbrev RO:Hp→Option Int→Option Int→Prop:=fun _ b b'=>b=b'
def SE(K:W.Frag)(mg:Str→Option Value)(E:XK)(t:TE)(m:ME):Prop:=∀F0 H0 F H σ ρ,Rep K mg F0 H0 F H σ ρ→Ans mg E (Rp K mg) F H (m ρ) (t σ H)
def STt(K:W.Frag)(mg:Str→Option Value)(E:XK)(t:TT)(m:MB):Prop:=∀F0 H0 F H σ ρ,Rep K mg F0 H0 F H σ ρ→Ans mg E RB F H (m ρ) (t σ H)
def SA(K:W.Frag)(mg:Str→Option Value)(E:XK)(t:TA)(m:MA):Prop:=∀F0 H0 F H σ ρ,Rep K mg F0 H0 F H σ ρ→Ans mg E (Rps K mg) F H (m ρ) (t σ H)
def SO(K:W.Frag)(mg:Str→Option Value)(E:XK)(t:TO)(m:Ev→Res (Option Int)):Prop:=∀F0 H0 F H σ ρ,Rep K mg F0 H0 F H σ ρ→Ans mg E RO F H (m ρ) (t σ H)
def SS(K:W.Frag)(mg:Str→Option Value)(E:XK)(t:TS)(m:MS):Prop:=∀F0 H0 F H σ ρ,Rep K mg F0 H0 F H σ ρ→AnsS K mg E F0 H0 F (m ρ) (fun D=>t D σ H)
def AnsG(K:W.Frag)(mg:Str→Option Value)(F0 H0 F:Hp)(n:Nat)(σ:St)(r:Res Ev)(w:(St→Hp→Prop)→Prop):Prop :=
 match r with
 | .ok ρ'=>∀Q:St→Hp→Prop,(∀F' H' σ',Same F F'→Rep K mg F0 H0 F' H' σ' ρ'→σ'.drop n=σ.drop n→Q σ' H')→w Q
 | _=>True
def SG(K:W.Frag)(mg:Str→Option Value)(n:Nat)(t:TG)(g:MG):Prop:=∀F0 H0 F H σ ρ x d,Rep K mg F0 H0 F H σ ρ→Rp K mg F x d→AnsG K mg F0 H0 F n σ (g d ρ) (t x σ H)
def SGs(K:W.Frag)(mg:Str→Option Value)(n:Nat)(t:TGs)(g:MGs):Prop:=∀F0 H0 F H σ ρ xs ds,Rep K mg F0 H0 F H σ ρ→Rps K mg F xs ds→AnsG K mg F0 H0 F n σ (g ds ρ) (t xs σ H)
def ItOk(K:W.Frag)(mg:Str→Option Value)(F:Hp)(J:It)(ds:List D):Prop:=∀F' H',Same F F'→Same F' H'→∀i:Nat,
 (∀d,ds[i]?=some d→J.go i H'∧∀x H'',J.yld i H' x H''→∃F'',Gr F' H' F'' H''∧Rp K mg F'' x d)∧(ds.length≤i→J.stop i H')
def SI(K:W.Frag)(mg:Str→Option Value)(E:XK)(t:TI)(m:MI):Prop:=∀F0 H0 F H σ ρ,Rep K mg F0 H0 F H σ ρ→Ans mg E (ItOk K mg) F H (m ρ) (t σ H)
def OpD(K:W.Frag)(mg:Str→Option Value)(r:R2)(f:D→D→Res D):Prop:=∀(E:XK) F H x y dx dy,Same F H→Rp K mg F x dx→Rp K mg F y dy→Ans mg E (Rp K mg) F H (f dx dy) (r x y H)
def UnD(K:W.Frag)(mg:Str→Option Value)(r:V→Hp→VK→Prop)(f:D→Res D):Prop:=∀(E:XK) F H x dx,Same F H→Rp K mg F x dx→Ans mg E (Rp K mg) F H (f dx) (r x H)
def CallD(K:W.Frag)(mg:Str→Option Value)(r:List V→Hp→VK→Prop)(f:List D→Res D):Prop:=∀(E:XK) F H xs ds,Same F H→Rps K mg F xs ds→Ans mg E (Rp K mg) F H (f ds) (r xs H)
section
variable{K:W.Frag}{mg:Str→Option Value}{E:XK}{ta tb tc:TE}{ma mb mc:ME}{sa sb:TT}{na nb:MB}
theorem Rep.ss{F0 H0 F H:Hp}{σ:St}{ρ:Ev}(r:Rep K mg F0 H0 F H σ ρ):Same F H:=r.g.s
theorem se_v(i:Nat):SE K mg E (tVar i) (v i):=by
 intro F0 H0 F H σ ρ r
 unfold v getC
 split
 ·next d h =>
  obtain ⟨x,h1,h2⟩:=r.im i d h
  exact .ret r.ss h2 fun Q q=>⟨x,h1,q⟩
 ·trivial
theorem se_c{x:V}{d:D}(h:∀F,Rp K mg F x d):SE K mg E (tC x) (c d):=fun _ _ F _ _ _ r=>.ret r.ss (h F) fun _ q=>q
theorem Znu{r:R2}{f:D→D→Res D}(hf:OpD K mg r f)(ha:SE K mg E ta ma)(hb:SE K mg E tb mb):SE K mg E (tOp r ta tb) (o2 f ma mb):=by
 intro F0 H0 F H σ ρ rr
 refine (ha F0 H0 F H σ ρ rr).bind fun F1 H1 x dx g1 rx=>?_
 refine (hb F0 H0 F1 H1 σ ρ (rr.gr g1)).bind fun F2 H2 y dy g2 ry=>?_
 exact hf E F2 H2 x y dx dy g2.s (rx.same g2.f) ry
theorem ZtP{r:V→Hp→VK→Prop}{f:D→Res D}(hf:UnD K mg r f)(ha:SE K mg E ta ma):SE K mg E (tUn r ta) (o1 f ma):=by
 intro F0 H0 F H σ ρ rr
 exact (ha F0 H0 F H σ ρ rr).bind fun F1 H1 x dx g1 rx=>hf E F1 H1 x dx g1.s rx
theorem Zo1:SA K mg E tNil yaa:=fun _ _ _ _ _ _ r=>.ret r.ss .nil fun _ q=>q
theorem Zqf{t:TA}{m:MA}(ha:SE K mg E ta ma)(hr:SA K mg E t m):SA K mg E (Zb5 ta t) (Zaa ma m):=by
 intro F0 H0 F H σ ρ rr
 refine (ha F0 H0 F H σ ρ rr).bind fun F1 H1 x dx g1 rx=>?_
 refine (hr F0 H0 F1 H1 σ ρ (rr.gr g1)).bind fun F2 H2 xs ds g2 rs=>?_
 exact .ret g2.s (.cons (rx.same g2.f) rs) fun _ q=>q
theorem ZsP{r:List V→Hp→VK→Prop}{f:List D→Res D}{t:TA}{m:MA}(hf:CallD K mg r f)(ha:SA K mg E t m):SE K mg E (tCB r t) (on f m):=by
 intro F0 H0 F H σ ρ rr
 exact (ha F0 H0 F H σ ρ rr).bind fun F1 H1 x dx g1 rx=>hf E F1 H1 x dx g1.s rx
theorem ZfA{α:Type}{R:Hp→V→α→Prop}{F H:Hp}{a:α}{o:HO}{w:VK→Prop}(s:Same F H)(hr:∀p,H p=none→R (upd F p o) (.ref p) a)(h:∀Q:VK,(∀p,H p=none→Q (.ref p) (upd H p o))→w Q):Ans mg E R F H (.ok a) w :=
 fun Q q=>h Q fun p hp=>q (upd F p o) (upd H p o) (.ref p) (.new s hp o) (hr p hp)
def SAn(n:Nat)(m:MA):Prop:=∀ρ ds,m ρ=.ok ds→ds.length=n
theorem Zl0:SAn 0 yaa:=fun ρ ds h=>by cases h;rfl
theorem Zn7{n:Nat}{m:MA}(h:SAn n m):SAn (n+1) (Zaa ma m):=fun ρ ds e=>by
 unfold Zaa at e
 cases ea:ma ρ with
 | ok x =>
  rw [ea] at e
  cases em:m ρ with
  | ok xs =>
   have e':(m ρ).bind (fun xs=>Res.ok (x::xs))=.ok ds:=e
   rw [em] at e'
   have e2:Res.ok (x::xs)=.ok ds:=e'
   cases e2
   exact Vay (·+1) (h ρ xs em)
  | ex c =>
   have e':(m ρ).bind (fun xs=>Res.ok (x::xs))=.ok ds:=e
   rw [em] at e';cases e'
  | bad =>
   have e':(m ρ).bind (fun xs=>Res.ok (x::xs))=.ok ds:=e
   rw [em] at e';cases e'
 | ex c=>rw [ea] at e;cases e
 | bad=>rw [ea] at e;cases e
theorem ZrJ{t:TA}{m:MA}{n:Nat}(ha:SA K mg E t m)(hl:SAn n m)(hn:n≤sizeLine):SE K mg E (tTup t) (mtp m):=by
 intro F0 H0 F H σ ρ rr
 have h:=ha F0 H0 F H σ ρ rr
 unfold mtp
 cases e:m ρ with
 | ok ds =>
  rw [e] at h
  exact fun Q q=>h _ fun F' H' xs g rs=>⟨by rw [rs.length,hl ρ ds e];exact hn,fun p hp=>q _ _ _ (g.trans (.new g.s hp _)) (.tup (SqT.of Zah) (rs.same (ZaA (g.s.free hp) _)))⟩
 | ex c =>
  rw [e] at h
  exact fun Q q=>h _ q
 | bad=>trivial
theorem Zua{t:TA}{m:MA}{n:Nat}(ha:SA K mg E t m)(hl:SAn n m)(hn:n≤sizeLine):SE K mg E (tLst t) (mls m):=by
 intro F0 H0 F H σ ρ rr
 have h:=ha F0 H0 F H σ ρ rr
 unfold mls
 cases e:m ρ with
 | ok ds =>
  rw [e] at h
  exact fun Q q=>h _ fun F' H' xs g rs=>⟨by rw [rs.length,hl ρ ds e];exact hn,fun p hp=>q _ _ _ (g.trans (.new g.s hp _)) (.lst (SqL.of Zah) (rs.same (ZaA (g.s.free hp) _)))⟩
 | ex c =>
  rw [e] at h
  exact fun Q q=>h _ q
 | bad=>trivial
theorem st_b(ha:SE K mg E ta ma):STt K mg E (L2.tB ta) (trb ma):=by
 intro F0 H0 F H σ ρ rr
 refine (ha F0 H0 F H σ ρ rr).bind fun F1 H1 x dx g1 rx=>?_
 cases dx with
 | bl b=>cases rx;exact .ret g1.s rfl fun Q q=>⟨b,rfl,q⟩
 | _=>trivial
theorem Ziy(ha:SE K mg E ta ma):STt K mg E (Zfu ta) (trb ma):=st_b ha
theorem Zs5(ha:STt K mg E sa na)(hb:STt K mg E sb nb):STt K mg E (tAnd sa sb) (bAnd na nb):=by
 intro F0 H0 F H σ ρ rr
 refine (ha F0 H0 F H σ ρ rr).bind fun F1 H1 x dx g1 rx=>?_
 cases (show x=dx from rx)
 cases x with
 | true =>
  have z:=hb F0 H0 F1 H1 σ ρ (rr.gr g1)
  simp only [Vbb];exact z
 | false =>
  simp only [Vbu,Vba]
  exact Ans.ret (R:=RB) g1.s rfl fun Q q=>q
theorem ZuR(ha:STt K mg E sa na)(hb:STt K mg E sb nb):STt K mg E (tOr sa sb) (bOr na nb):=by
 intro F0 H0 F H σ ρ rr
 refine (ha F0 H0 F H σ ρ rr).bind fun F1 H1 x dx g1 rx=>?_
 cases (show x=dx from rx)
 cases x with
 | true =>
  simp only [Vbb]
  exact Ans.ret (R:=RB) g1.s rfl fun Q q=>q
 | false =>
  have z:=hb F0 H0 F1 H1 σ ρ (rr.gr g1)
  simp only [Vbu,Vba];exact z
theorem Zte(ha:STt K mg E sa na):STt K mg E (tNot sa) (bNot na):=by
 intro F0 H0 F H σ ρ rr
 refine (ha F0 H0 F H σ ρ rr).bind fun F1 H1 x dx g1 rx=>?_
 cases (show x=dx from rx)
 exact Ans.ret (R:=RB) g1.s rfl fun Q q=>q
theorem Ztu(ha:SE K mg E ta ma)(hb:SE K mg E tb mb):SE K mg E (Zp3 ta tb) (eAnd ma mb):=by
 intro F0 H0 F H σ ρ rr
 have z:=(st_b ha F0 H0 F H σ ρ rr).bind (R':=Rp K mg) (k:=fun x=>if x=true then mb ρ else .ok (D.bl false)) (w':=fun c H1 Q=>if c=true then tb σ H1 Q else Q (V.bl false) H1) fun F1 H1 x dx g1 rx=>by
  cases (show x=dx from rx)
  cases x with
  | true =>
   have z:=hb F0 H0 F1 H1 σ ρ (rr.gr g1)
   simp only [Vbb];exact z
  | false =>
   simp only [Vbu,Vba]
   exact Ans.ret (R:=Rp K mg) g1.s (.bl false) fun Q q=>q
 exact z
theorem Zsc(ha:SE K mg E ta ma):SE K mg E (Zrd ta) (eNot ma):=by
 intro F0 H0 F H σ ρ rr
 exact (st_b ha F0 H0 F H σ ρ rr).bind (R':=Rp K mg) (k:=fun x=>.ok (D.bl (!x))) (w':=fun c H1 Q=>Q (V.bl (!c)) H1) fun F1 H1 x dx g1 rx=>by
  cases (show x=dx from rx)
  exact Ans.ret (R:=Rp K mg) g1.s (.bl _) fun Q q=>q
theorem Ztl(hc:STt K mg E sa na)(ha:SE K mg E ta ma)(hb:SE K mg E tb mb):SE K mg E (tIf sa ta tb) (ife na ma mb):=by
 intro F0 H0 F H σ ρ rr
 refine (hc F0 H0 F H σ ρ rr).bind fun F1 H1 x dx g1 rx=>?_
 cases (show x=dx from rx)
 cases x with
 | true =>
  have z:=ha F0 H0 F1 H1 σ ρ (rr.gr g1)
  simp only [Vbb];exact z
 | false =>
  have z:=hb F0 H0 F1 H1 σ ρ (rr.gr g1)
  simp only [Vbu,Vba];exact z
end
section
variable{K:W.Frag}{mg:Str→Option Value}{E:XK}
theorem ZoV{r:R2}{f:Int→Int→Res D}(h:∀(E:XK) F H a b,Same F H→Ans mg E (Rp K mg) F H (f a b) (r (.int a) (.int b) H)):OpD K mg r (ii f):=by
 intro E F H x y dx dy s rx ry
 unfold ii
 split
 ·cases rx;cases ry;exact h E F H _ _ s
 ·trivial
theorem Zj3{C:Int→Int→Prop}{g:Int→Int→V}{f:Int→Int→Res D}(h:∀a b,(∃d,f a b=.ok d∧C a b∧∀F,Rp K mg F (g a b) d)∨f a b=.bad):OpD K mg (rI C g) (ii f):=by
 refine ZoV fun E F H a b s=>?_
 rcases h a b with ⟨d,e,hc,hr⟩ | e
 ·rw [e];exact .ret s (hr F) fun Q q=>⟨a,b,rfl,rfl,hc,q⟩
 ·rw [e];trivial
theorem ZhT{g:Int→Int→V}{f:Int→Int→Res D}(h:∀a b,(∃d,f a b=.ok d∧∀F,Rp K mg F (g a b) d)∨f a b=.bad):OpD K mg (rI0 g) (ii f):=by
 refine ZoV fun E F H a b s=>?_
 rcases h a b with ⟨d,e,hr⟩ | e
 ·rw [e];exact .ret s (hr F) fun Q q=>⟨a,b,rfl,rfl,q⟩
 ·rw [e];trivial
theorem ZpQ:OpD K mg (rI0 fun i j=>.int (i - j)) dSub:=ZhT fun _ _=>.inl ⟨_,rfl,fun _=>.int _⟩
theorem ZoA:OpD K mg (rI0 fun i j=>.bl (decide (i<j))) dLt:=ZhT fun _ _=>.inl ⟨_,rfl,fun _=>.bl _⟩
theorem ZoD:OpD K mg (rI0 fun i j=>.bl (decide (i≤j))) dLe:=ZhT fun _ _=>.inl ⟨_,rfl,fun _=>.bl _⟩
theorem ZrV:OpD K mg (rI0 fun i j=>.bl (decide (j<i))) dGt:=ZhT fun _ _=>.inl ⟨_,rfl,fun _=>.bl _⟩
theorem Zo7:OpD K mg (rI0 fun i j=>.bl (decide (j≤i))) dGe:=ZhT fun _ _=>.inl ⟨_,rfl,fun _=>.bl _⟩
theorem Zq2:OpD K mg (rI (fun _ j=>j≠0) fun i j=>.int (i.fmod j)) yam:=Zj3 fun a b=>by
 unfold iMod
 by_cases h1:0<b
 ·rw [if_pos h1]
  exact .inl ⟨_,rfl,by omega,fun _=>by rw [Int.fmod_eq_emod_of_nonneg a (by omega)];exact .int _⟩
 ·rw [if_neg h1]
  by_cases h2:b=0
  ·rw [if_pos h2];exact .inr rfl
  ·rw [if_neg h2];exact .inl ⟨_,rfl,h2,fun _=>.int _⟩
theorem ZqJ:OpD K mg (rI ZpY fun i j=>.int (i.fdiv j)) ya0:=Zj3 fun a b=>by
 unfold iDiv
 by_cases h0:b.natAbs.log2<9000
 ·rw [if_pos h0]
  by_cases h1:0<b
  ·rw [if_pos h1]
   exact .inl ⟨_,rfl,⟨by omega,h0⟩,fun _=>by rw [VaN a (by omega)];exact .int _⟩
  ·rw [if_neg h1]
   by_cases h2:b=0
   ·rw [if_pos h2];exact .inr rfl
   ·rw [if_neg h2];exact .inl ⟨_,rfl,⟨h2,h0⟩,fun _=>.int _⟩
 ·rw [if_neg h0];exact .inr rfl
theorem Zq9:OpD K mg (rI CPow fun i j=>.int (i^j.toNat)) dPow:=Zj3 fun a b=>by
 unfold iPow
 by_cases h:0≤b∧b≤1000000∧a.natAbs<2^64
 ·rw [if_pos h];exact .inl ⟨_,rfl,h,fun _=>.int _⟩
 ·rw [if_neg h];exact .inr rfl
theorem ZpH:OpD K mg (rI CPow fun i j=>.int (i*2^j.toNat)) dShl:=Zj3 fun a b=>by
 unfold iShl
 by_cases h:0≤b∧b≤1000000∧a.natAbs<2^64
 ·rw [if_pos h];exact .inl ⟨_,rfl,h,fun _=>.int _⟩
 ·rw [if_neg h];exact .inr rfl
theorem Zq7:OpD K mg (rI (fun _ j=>0≤j) fun i j=>.int (i/2^j.toNat)) dShr:=Zj3 fun a b=>by
 unfold iShr
 by_cases h:0≤b
 ·rw [if_pos h];exact .inl ⟨_,rfl,h,fun _=>.int _⟩
 ·rw [if_neg h];exact .inr rfl
theorem Zrr{r:V→Hp→VK→Prop}(h:∀i H Q,Q (.int (-i)) H→r (.int i) H Q):UnD K mg r dNeg:=by
 intro E F H x dx s rx
 unfold dNeg
 split
 ·cases rx;exact .ret s (.int _) fun Q q=>h _ _ _ q
 ·trivial
def Ztn(K:W.Frag):R2:=fun x y H Q=>∃l b xs zs,x=.ref l∧y=.ref b∧SqL K H l xs∧SqL K H b zs∧xs.length+zs.length≤sizeLine∧∀p,H p=none→Q (.ref p) (upd H p (.lst (xs++zs)))
def Zsa(K:W.Frag):R2:=fun x y H Q=>∃a b xs ys,x=.ref a∧y=.ref b∧SqT K H a xs∧SqT K H b ys∧xs.length+ys.length≤sizeLine ∧
 (xs=[]→Q (.ref b) H)∧(xs≠[]→ys=[]→Q (.ref a) H)∧(xs≠[]→ys≠[]→∀p,H p=none→Q (.ref p) (upd H p (.tup (xs++ys))))
def Zu0:R2:=fun x y H Q=>∃i j:Str,x=.str i∧y=.str j∧i.length+j.length≤sizeLine∧Q (.str (i++j)) H
def ZqZ(K:W.Frag):R2:=fun x y H Q=>rI0 (fun i j=>.int (i+j)) x y H Q∨Ztn K x y H Q∨Zsa K x y H Q∨Zu0 x y H Q
theorem ZeY{n:Nat}(h:n≤LIM):n≤sizeLine:=Vak h (by decide)
theorem Zqe:OpD K mg (ZqZ K) yan:=by
 intro E F H x y dx dy s rx ry
 unfold yan
 split
 ·cases rx;cases ry
  exact .ret s (.int _) fun Q q=>.inl ⟨_,_,rfl,rfl,q⟩
 ·next as bs =>
  by_cases h:as.length+bs.length≤LIM
  ·rw [if_pos h]
   cases rx with
   | lst ha ra =>
    cases ry with
    | lst hb rb =>
     refine ZfA s (o:=.lst _) (fun p hp=>.lst (SqL.of Zah) ((Rps.app rb ra).same (ZaA (s.free hp) _))) fun Q q=>.inr (.inl ⟨_,_,_,_,rfl,rfl,s.seq ha,s.seq hb,?_,q⟩)
     rw [ra.length,rb.length];exact ZeY h
  ·rw [if_neg h];trivial
 ·next as bs =>
  by_cases h:as.length+bs.length≤LIM
  ·rw [if_pos h]
   cases rx with
   | tup ha ra =>
    cases ry with
    | tup hb rb =>
     rename_i a xs b ys
     have hl:xs.length+ys.length≤sizeLine:=by rw [ra.length,rb.length];exact ZeY h
     intro Q q
     refine .inr (.inr (.inl ⟨a,b,xs,ys,rfl,rfl,ZaF s ha,ZaF s hb,hl,fun e=>?_,fun _ e=>?_,fun _ _ p hp=>?_⟩))
     ·subst e
      cases ra
      exact q F H _ (.refl s) (.tup hb rb)
     ·subst e
      cases rb
      rw [VaV] at q
      exact q F H _ (.refl s) (.tup ha ra)
     ·exact q _ _ _ (.new s hp _) (.tup (SqT.of Zah) ((Rps.app rb ra).same (ZaA (s.free hp) _)))
  ·rw [if_neg h];trivial
 ·next a b =>
  by_cases h:a.length+b.length≤LIM
  ·rw [if_pos h]
   cases rx;cases ry
   exact .ret s (.str _) fun Q q=>.inr (.inr (.inr ⟨_,_,rfl,rfl,ZeY h,q⟩))
  ·rw [if_neg h];trivial
 ·trivial
theorem ZtZ{ta:TE}{ma:ME}(ha:SE K mg E ta ma):SE K mg E (tOp (fun x y H Q=>y=.non∧Q (.bl (decide (x=.non))) H) ta (tC .non)) (o1 dIsN ma):=by
 intro F0 H0 F H σ ρ rr
 refine (ha F0 H0 F H σ ρ rr).bind fun F1 H1 x dx g1 rx=>?_
 have e:decide (x=V.non)=Zj0 dx:=by cases rx<;>rfl
 exact .ret g1.s (.bl _) fun Q q=>⟨rfl,by rw [e];exact q⟩
theorem Zpy{ta:TE}{ma:ME}(ha:SE K mg E ta ma):SE K mg E (tOp (fun x y H Q=>y=.non∧Q (.bl (!decide (x=.non))) H) ta (tC .non)) (o1 Zmk ma):=by
 intro F0 H0 F H σ ρ rr
 refine (ha F0 H0 F H σ ρ rr).bind fun F1 H1 x dx g1 rx=>?_
 have e:decide (x=V.non)=Zj0 dx:=by cases rx<;>rfl
 exact .ret g1.s (.bl _) fun Q q=>⟨rfl,by rw [e];exact q⟩
theorem ZoQ{F:Hp}{xs:List V}{ds:List D}{i:Int}{d:D}(r:Rps K mg F xs ds)(h:at_ ds i=some d):∃x,atI xs i=some x∧Rp K mg F x d:=by
 have hl:=r.length
 unfold at_ at h
 unfold atI ixN
 by_cases h0:0≤i
 ·rw [if_pos h0] at h
  obtain ⟨x,e,rx⟩:=r.get h
  have lt:i.toNat<xs.length:=(Vau.mp e).1
  exact ⟨x,by rw [if_pos h0,if_pos (by omega)];exact e,rx⟩
 ·rw [if_neg h0] at h
  by_cases h1:-(ds.length:Int)≤i
  ·rw [if_pos h1] at h
   obtain ⟨x,e,rx⟩:=r.get h
   exact ⟨x,by rw [if_neg h0,if_pos (by omega),hl];exact e,rx⟩
  ·rw [if_neg h1] at h;cases h
def rIxD(K:W.Frag):R2:=fun x y H Q=>rIxL K x y H Q∨rIxT K x y H Q
theorem ZsC:OpD K mg (rIxD K) dIx:=by
 intro E F H x y dx dy s rx ry
 unfold dIx
 split
 ·next ds i =>
  cases e:at_ ds i with
  | none=>trivial
  | some d =>
   cases rx with
   | lst ha ra =>
    cases ry
    obtain ⟨z,e1,rz⟩:=ZoQ ra e
    exact Ans.ret s rz fun Q q=>.inl ⟨_,_,_,_,rfl,rfl,s.seq ha,e1,q⟩
 ·next ds i =>
  cases e:at_ ds i with
  | none=>trivial
  | some d =>
   cases rx with
   | tup ha ra =>
    cases ry
    obtain ⟨z,e1,rz⟩:=ZoQ ra e
    exact Ans.ret s rz fun Q q=>.inr ⟨_,_,_,_,rfl,rfl,ZaF s ha,e1,q⟩
 ·trivial
theorem ZjV(n d:Nat)(o:Option Int):cutAt n d o=HT.sIx n d o:=by cases o<;>rfl
theorem ZlI{F:Hp}{xs:List V}{ds:List D}(r:Rps K mg F xs ds)(lo hi:Option Int):Rps K mg F (cutV xs lo hi) (cutL ds lo hi):=by
 unfold cutV cutL
 simp only [ZjV,r.length]
 exact (r.drop _).take _
def rSlU(K:W.Frag):V→Option Int→Option Int→Hp→VK→Prop:=fun x lo hi H Q=>∃a xs,x=.ref a∧SqT K H a xs ∧
 ((HT.sIx xs.length 0 lo=0∧HT.sIx xs.length xs.length hi=xs.length)→Q (.ref a) H)∧(¬(HT.sIx xs.length 0 lo=0∧HT.sIx xs.length xs.length hi=xs.length)→∀p,H p=none→Q (.ref p) (upd H p (.tup (cutV xs lo hi))))
def rSlD(K:W.Frag):V→Option Int→Option Int→Hp→VK→Prop:=fun x lo hi H Q=>rSlL K x lo hi H Q∨rSlU K x lo hi H Q
theorem ZtD{ta:TE}{ma:ME}{tl th:TO}{ml mh:Ev→Res (Option Int)}(ha:SE K mg E ta ma)(hl:SO K mg E tl ml)(hh:SO K mg E th mh):SE K mg E (tSl (rSlD K) ta tl th) (cut ma ml mh):=by
 intro F0 H0 F H σ ρ rr
 refine (ha F0 H0 F H σ ρ rr).bind fun F1 H1 x dx g1 rx=>?_
 refine (hl F0 H0 F1 H1 σ ρ (rr.gr g1)).bind fun F2 H2 l l' g2 e2=>?_
 cases (show l=l' from e2)
 refine (hh F0 H0 F2 H2 σ ρ ((rr.gr g1).gr g2)).bind fun F3 H3 h h' g3 e3=>?_
 cases (show h=h' from e3)
 have rx':=rx.same (g2.f.trans g3.f)
 unfold dCut
 split
 ·cases rx' with
  | lst hx r =>
   refine ZfA g3.s (o:=.lst _) (fun p hp=>.lst (SqL.of Zah) ((ZlI r l h).same (ZaA (g3.s.free hp) _))) fun Q q=>.inl ⟨_,_,rfl,g3.s.seq hx,q⟩
 ·cases rx' with
  | tup hx r =>
   rename_i ds a xs
   intro Q q
   refine .inr ⟨a,xs,rfl,ZaF g3.s hx,fun e=>?_,fun _ p hp=>q _ _ _ (.new g3.s hp _) (.tup (SqT.of Zah) ((ZlI r l h).same (ZaA (g3.s.free hp) _)))⟩
   have ec:cutL ds l h=ds:=by
    unfold cutL
    simp only [ZjV,←r.length,e.1,e.2]
    rw [List.drop_zero,Nat.sub_zero,r.length,List.take_length]
   rw [ec] at q
   exact q F3 H3 _ (.refl g3.s) (.tup hx r)
 ·trivial
theorem Zi0:SO K mg E ZiY pno:=fun _ _ _ _ _ _ r=>Ans.ret (R:=RO) r.ss rfl fun _ q=>q
theorem ZiW{ta:TE}{ma:ME}(ha:SE K mg E ta ma):SO K mg E (Zrf ta) (pso ma):=by
 intro F0 H0 F H σ ρ rr
 refine (ha F0 H0 F H σ ρ rr).bind fun F1 H1 x dx g1 rx=>?_
 cases dx with
 | int i=>cases rx;exact Ans.ret (R:=RO) g1.s rfl fun Q q=>⟨i,rfl,q⟩
 | _=>trivial
theorem ZcY:CallD K mg (fun xs H Q=>∃p ys,xs=[.ref p]∧(SqL K H p ys∨SqT K H p ys)∧Q (.int ys.length) H) bLen:=by
 intro E F H xs ds s r
 unfold bLen
 split
 ·obtain ⟨x,rfl,rx⟩:=r.one
  cases rx with
  | lst h q=>rw [←q.length];exact .ret s (.int _) fun Q q=>⟨_,_,rfl,.inl (s.seq h),q⟩
 ·obtain ⟨x,rfl,rx⟩:=r.one
  cases rx with
  | tup h q=>rw [←q.length];exact .ret s (.int _) fun Q q=>⟨_,_,rfl,.inr (ZaF s h),q⟩
 ·trivial
theorem ZhS:CallD K mg (fun xs H Q=>∃i,xs=[.int i]∧Q (.int (if i<0 then -i else i)) H) bAbs:=by
 intro E F H xs ds s r
 unfold bAbs
 split
 ·obtain ⟨x,rfl,rx⟩:=r.one
  cases rx
  exact .ret s (.int _) fun Q q=>⟨_,rfl,q⟩
 ·trivial
theorem ZbY:CallD K mg (fun xs H Q=>∃p ys,xs=[.ref p]∧((SqL K H p ys∧∀l,H l=none→Q (.ref l) (upd H l (.tup ys)))∨(SqT K H p ys∧Q (.ref p) H))) bTup:=by
 intro E F H xs ds s r
 unfold bTup
 split
 ·obtain ⟨x,rfl,rx⟩:=r.one
  cases rx with
  | lst h q=>exact ZfA s (o:=.tup _) (fun p hp=>.tup (SqT.of Zah) (q.same (ZaA (s.free hp) _))) fun Q z=>⟨_,_,rfl,.inl ⟨s.seq h,z⟩⟩
 ·obtain ⟨x,rfl,rx⟩:=r.one
  cases rx with
  | tup h q=>exact .ret s (.tup h q) fun Q z=>⟨_,_,rfl,.inr ⟨ZaF s h,z⟩⟩
 ·trivial
theorem ZjZ:CallD K mg (fun xs H Q=>∃p ys,xs=[.ref p]∧(SqL K H p ys∨SqT K H p ys)∧∀l,H l=none→Q (.ref l) (upd H l (.lst ys))) bLst:=by
 intro E F H xs ds s r
 unfold bLst
 split
 ·obtain ⟨x,rfl,rx⟩:=r.one
  cases rx with
  | lst h q=>exact ZfA s (o:=.lst _) (fun p hp=>.lst (SqL.of Zah) (q.same (ZaA (s.free hp) _))) fun Q z=>⟨_,_,rfl,.inl (s.seq h),z⟩
 ·obtain ⟨x,rfl,rx⟩:=r.one
  cases rx with
  | tup h q=>exact ZfA s (o:=.lst _) (fun p hp=>.lst (SqL.of Zah) (q.same (ZaA (s.free hp) _))) fun Q z=>⟨_,_,rfl,.inr (ZaF s h),z⟩
 ·trivial
def spD(K:W.Frag)(mg:Str→Option Value)(n:Nat)(m:List D→Res D):Sp:=fun vs H Q E=>vs.length=n∧∃F ds,Same F H∧Rps K mg F vs ds∧m ds≠.bad ∧
 (∀d,m ds=.ok d→∀F' H' x,Gr F H F' H'→Rp K mg F' x d→Q x H')∧(∀c,m ds=.ex c→∀F' H' C,Gr F H F' H'→mg c=some (.ref C)→E (.ref C) none H')
theorem Zjt{n:Nat}{m:List D→Res D}{F H:Hp}{vs:List V}{ds:List D}(s:Same F H)(r:Rps K mg F vs ds)(hl:ds.length=n):Ans mg E (Rp K mg) F H (m ds) (fun Q=>spD K mg n m vs H Q E):=by
 have hv:vs.length=n:=r.length.trans hl
 cases e:m ds with
 | ok d =>
  intro Q q
  refine ⟨hv,F,ds,s,r,fun z=>?_,fun d' e'=>?_,fun c e'=>?_⟩
  ·rw [e] at z;cases z
  ·rw [e] at e';cases e';exact q
  ·rw [e] at e';cases e'
 | ex c =>
  intro Q q
  refine ⟨hv,F,ds,s,r,fun z=>?_,fun d' e'=>?_,fun c e'=>?_⟩
  ·rw [e] at z;cases z
  ·rw [e] at e';cases e'
  ·rw [e] at e';cases e';exact q
 | bad=>trivial
theorem Zrx{n:Nat}{m:List D→Res D}{t:TA}{ma:MA}(ha:SA K mg E t ma)(hl:SAn n ma):SE K mg E (Zit (spD K mg n m) [] E t) (on m ma):=by
 intro F0 H0 F H σ ρ rr
 refine (ha F0 H0 F H σ ρ rr).bindE (w':=fun vs H1 Q=>spD K mg n m (vs++[]) H1 Q E) fun ds e F1 H1 vs g1 rs=>?_
 have z:=Zjt (E:=E) (m:=m) g1.s rs (hl ρ ds e)
 simp only [VaV]
 exact z
end
section
variable{K:W.Frag}{mg:Str→Option Value}{E:XK}{ta:TE}{ma:ME}{F0 H0 F H:Hp}
theorem AnsS.mono{F1:Hp}{r:Res Fl}{w:Ends→Prop}(s:Same F F1)(h:AnsS K mg E F0 H0 F1 r w):AnsS K mg E F0 H0 F r w:=by
 cases r with
 | ok f =>
  cases f with
  | nx ρ=>exact fun D q=>h D fun F' H' σ' s' r'=>q F' H' σ' (s.trans s') r'
  | bk ρ=>exact fun D q=>h D fun F' H' σ' s' r'=>q F' H' σ' (s.trans s') r'
  | ct ρ=>exact fun D q=>h D fun F' H' σ' s' r'=>q F' H' σ' (s.trans s') r'
  | rt d=>exact h
 | ex c=>exact h
 | bad=>trivial
theorem Ans.stm{α β:Type}{R:Hp→β→α→Prop}{r:Res α}{w:(β→Hp→Prop)→Prop}{k:α→Res Fl}{w':β→Hp→Ends→Prop}(h1:Ans mg E R F H r w)(g0:Gr F0 H0 F H)(h2:∀a,r=.ok a→∀F1 H1 b,Gr F H F1 H1→R F1 b a→AnsS K mg E F0 H0 F1 (k a) (w' b H1)) :
  AnsS K mg E F0 H0 F (r.bind k) (fun D=>w fun b H1=>w' b H1 D):=by
 cases r with
 | ok a =>
  show AnsS K mg E F0 H0 F (k a) _
  have h2':=fun F1 H1 b (g:Gr F H F1 H1) q=>(h2 a rfl F1 H1 b g q).mono g.f
  generalize k a=r2 at h2'
  cases r2 with
  | ok f =>
   cases f with
   | nx ρ=>exact fun D q=>h1 _ fun F1 H1 b g rb=>h2' F1 H1 b g rb D q
   | bk ρ=>exact fun D q=>h1 _ fun F1 H1 b g rb=>h2' F1 H1 b g rb D q
   | ct ρ=>exact fun D q=>h1 _ fun F1 H1 b g rb=>h2' F1 H1 b g rb D q
   | rt d=>exact fun D q=>h1 _ fun F1 H1 b g rb=>h2' F1 H1 b g rb D q
  | ex c=>exact fun D q=>h1 _ fun F1 H1 b g rb=>h2' F1 H1 b g rb D q
  | bad=>trivial
 | ex c=>exact fun D q=>h1 _ fun F1 H1 C g hc=>q F1 H1 C (g0.trans g) hc
 | bad=>trivial
theorem Zso:SS K mg E Zom nop:=fun _ _ _ _ _ _ r D q=>q _ _ _ (Same.refl _) r
theorem ZrQ{t u:TS}{m n:MS}(h1:SS K mg E t m)(h2:SS K mg E u n):SS K mg E (tSeq t u) (sq m n):=by
 intro F0 H0 F H σ ρ rr
 have h:=h1 F0 H0 F H σ ρ rr
 unfold sq
 cases e:m ρ with
 | ok f =>
  rw [e] at h
  cases f with
  | nx ρ' =>
   show AnsS K mg E F0 H0 F (n ρ') _
   have h2':=fun F1 H1 σ1 (s:Same F F1) r1=>(h2 F0 H0 F1 H1 σ1 ρ' r1).mono s
   generalize n ρ'=r2 at h2'
   cases r2 with
   | ok f =>
    cases f with
    | nx ρ=>exact fun D q=>h _ fun F1 H1 σ1 s r1=>h2' F1 H1 σ1 s r1 D q
    | bk ρ=>exact fun D q=>h _ fun F1 H1 σ1 s r1=>h2' F1 H1 σ1 s r1 D q
    | ct ρ=>exact fun D q=>h _ fun F1 H1 σ1 s r1=>h2' F1 H1 σ1 s r1 D q
    | rt d=>exact fun D q=>h _ fun F1 H1 σ1 s r1=>h2' F1 H1 σ1 s r1 D q
   | ex c=>exact fun D q=>h _ fun F1 H1 σ1 s r1=>h2' F1 H1 σ1 s r1 D q
   | bad=>trivial
  | bk ρ'=>exact fun D q=>h _ q
  | ct ρ'=>exact fun D q=>h _ q
  | rt d=>exact fun D q=>h _ q
 | ex c=>rw [e] at h;exact fun D q=>h _ q
 | bad=>trivial
theorem ZqI(ha:SE K mg E ta ma):SS K mg E (ZfC ta) (drp ma):=by
 intro F0 H0 F H σ ρ rr
 exact (ha F0 H0 F H σ ρ rr).stm (w':=fun _ H1 D=>D.nx σ H1) rr.g fun d _ F1 H1 x g1 rx=>fun D q=>q F1 H1 σ (Same.refl _) (rr.gr g1)
theorem Zsk(ha:SE K mg E ta ma):SS K mg E (tRet ta) (ret ma):=by
 intro F0 H0 F H σ ρ rr
 exact (ha F0 H0 F H σ ρ rr).stm (w':=fun x H1 D=>D.rt x H1) rr.g fun d _ F1 H1 x g1 rx=>fun D q=>q F1 H1 x (rr.g.trans g1) rx
theorem ZtE:SS K mg E ZqU cnt:=fun _ _ _ _ _ _ r D q=>q _ _ _ (Same.refl _) r
theorem Zuv{sc:TT}{nc:MB}{t u:TS}{m n:MS}(hc:STt K mg E sc nc)(h1:SS K mg E t m)(h2:SS K mg E u n):SS K mg E (tIfS sc t u) (ifs nc m n):=by
 intro F0 H0 F H σ ρ rr
 refine (hc F0 H0 F H σ ρ rr).stm (w':=fun b H1 D=>if b=true then t D σ H1 else u D σ H1) rr.g fun b _ F1 H1 x g1 rx=>?_
 cases (show x=b from rx)
 cases b with
 | true =>
  have z:=h1 F0 H0 F1 H1 σ ρ (rr.gr g1)
  simp only [Vbb];exact z
 | false =>
  have z:=h2 F0 H0 F1 H1 σ ρ (rr.gr g1)
  simp only [Vbu,Vba];exact z
theorem Zil{α:Type}{l:List α}{i n:Nat}{x:α}(h:i<n):(l.set i x).drop n=l.drop n:=by
 rw [List.drop_set,if_pos h]
theorem Zqj{i n:Nat}(h:i<n):SG K mg n (ZfL i) (gN i):=fun _ _ _ _ _ _ _ _ r rx _ q=>q _ _ _ (Same.refl _) (r.set i rx) (Zil h)
theorem ZrB{n:Nat}:SGs K mg n gNil gs0:=by
 intro F0 H0 F H σ ρ xs ds r rs
 unfold gs0
 split
 ·cases rs
  exact fun Q q=>⟨rfl,q _ _ _ (Same.refl _) r rfl⟩
 ·trivial
theorem ZmV{n:Nat}{t:TG}{u:TGs}{g:MG}{gs:MGs}(h1:SG K mg n t g)(h2:SGs K mg n u gs):SGs K mg n (Zpd t u) (gs1 g gs):=by
 intro F0 H0 F H σ ρ xs ds r rs
 unfold gs1
 cases rs with
 | nil=>trivial
 | cons rx rs =>
  rename_i x xs d ds
  have h:=h1 F0 H0 F H σ ρ x d r rx
  show AnsG K mg F0 H0 F n σ ((g d ρ).bind fun ρ'=>gs ds ρ') _
  cases e:g d ρ with
  | ok ρ' =>
   rw [e] at h
   show AnsG K mg F0 H0 F n σ (gs ds ρ') _
   cases e2:gs ds ρ' with
   | ok ρ'' =>
    refine fun Q q=>⟨x,xs,rfl,h _ fun F1 H1 σ1 s1 r1 d1=>?_⟩
    have h':=h2 F0 H0 F1 H1 σ1 ρ' xs ds r1 (rs.same s1)
    rw [e2] at h'
    exact h' _ fun F2 H2 σ2 s2 r2 d2=>q F2 H2 σ2 (s1.trans s2) r2 (d2.trans d1)
   | ex c=>trivial
   | bad=>trivial
  | ex c=>trivial
  | bad=>trivial
def gLst(K:W.Frag)(n:Nat)(t:TGs):TG:=fun v σ H Q=>∃a xs,v=.ref a∧SqL K H a xs∧xs.length=n∧t xs σ H Q
def gSeq(K:W.Frag)(n:Nat)(t:TGs):TG:=fun v σ H Q=>gTup K n t v σ H Q∨gLst K n t v σ H Q
theorem ZsS{n k:Nat}{t:TGs}{g:MGs}(h:SGs K mg n t g):SG K mg n (gSeq K k t) (gU k g):=by
 intro F0 H0 F H σ ρ x d r rx
 unfold gU items
 split
 ·next ds =>
  show AnsG K mg F0 H0 F n σ (if ds.length=k then g ds ρ else .bad) _
  by_cases hl:ds.length=k
  ·rw [if_pos hl]
   cases rx with
   | lst ha ra =>
    have h':=h F0 H0 F H σ ρ _ _ r ra
    cases e:g ds ρ with
    | ok ρ' =>
     rw [e] at h'
     exact fun Q q=>.inr ⟨_,_,rfl,r.ss.seq ha,ra.length.trans hl,h' Q q⟩
    | ex c=>trivial
    | bad=>trivial
  ·rw [if_neg hl];trivial
 ·next ds =>
  show AnsG K mg F0 H0 F n σ (if ds.length=k then g ds ρ else .bad) _
  by_cases hl:ds.length=k
  ·rw [if_pos hl]
   cases rx with
   | tup ha ra =>
    have h':=h F0 H0 F H σ ρ _ _ r ra
    cases e:g ds ρ with
    | ok ρ' =>
     rw [e] at h'
     exact fun Q q=>.inl ⟨_,_,rfl,ZaF r.ss ha,ra.length.trans hl,h' Q q⟩
    | ex c=>trivial
    | bad=>trivial
  ·rw [if_neg hl];trivial
 ·trivial
theorem Zr4{n:Nat}{t:TG}{g:MG}(ha:SE K mg E ta ma)(hg:SG K mg n t g)(hx:∀d ρ c,g d ρ≠.ex c):SS K mg E (tAsg ta t) (asg g ma):=by
 intro F0 H0 F H σ ρ rr
 refine (ha F0 H0 F H σ ρ rr).stm (w':=fun x H1 D=>t x σ H1 D.nx) rr.g fun d _ F1 H1 x g1 rx=>?_
 have h:=hg F0 H0 F1 H1 σ ρ x d (rr.gr g1) rx
 cases e:g d ρ with
 | ok ρ' =>
  rw [e] at h
  exact fun D q=>h _ fun F' H' σ' s r' _=>q F' H' σ' s r'
 | ex c=>exact absurd e (hx d ρ c)
 | bad=>trivial
theorem Zot{i:Nat}(ha:SE K mg E ta ma):SS K mg E (tAsg ta (ZfL i)) (st i ma):=by
 intro F0 H0 F H σ ρ rr
 exact (ha F0 H0 F H σ ρ rr).stm (w':=fun x H1 D=>D.nx (σ.set i (some x)) H1) rr.g fun d _ F1 H1 x g1 rx=>fun D q=>q F1 H1 _ (Same.refl _) ((rr.gr g1).set i rx)
theorem Zth{i j:Nat}{tb:TE}{mb:ME}(ha:SE K mg E ta ma)(hb:SE K mg E tb mb):SS K mg E (tPar i j (Zb5 ta (Zb5 tb tNil))) (par i j ma mb):=by
 intro F0 H0 F H σ ρ rr
 refine (ha F0 H0 F H σ ρ rr).stm (w':=fun x H1 D=>tb σ H1 fun y H2=>∃v w,[x,y]=[v,w]∧D.nx ((σ.set i (some v)).set j (some w)) H2) rr.g fun d _ F1 H1 x g1 rx=>?_
 refine (hb F0 H0 F1 H1 σ ρ (rr.gr g1)).stm (w':=fun y H2 D=>∃v w,[x,y]=[v,w]∧D.nx ((σ.set i (some v)).set j (some w)) H2) (rr.g.trans g1) fun e _ F2 H2 y g2 ry=>?_
 exact fun D q=>⟨x,y,rfl,q F2 H2 _ (Same.refl _) ((((rr.gr g1).gr g2).set i (rx.same g2.f)).set j ry)⟩
theorem Ztp{i:Nat}{t:TS}{m:MS}(h:SS K mg E t m):SS K mg E t (frz i m):=by
 intro F0 H0 F H σ ρ rr
 unfold frz getO
 split
 ·next xs e =>
  show AnsS K mg E F0 H0 F (m (ρ.set i (.im (.lst xs)))) _
  obtain ⟨F',s,r'⟩:=rr.frz e
  exact (h F0 H0 F' H σ _ r').mono s
 ·trivial
theorem Zt7{i:Nat}(ha:SE K mg E ta ma)(hty:∀H a xs,H a=some (.lst xs)→tyV K "list" (.ref a) H):SS K mg E (ZfC (tBM K "list" ZeL (tVar i) (Zb5 ta tNil))) (app i ma):=by
 intro F0 H0 F H σ ρ rr
 unfold app getO
 split
 ·next ds e =>
  show AnsS K mg E F0 H0 F ((ma ρ).bind fun d=>if ds.length<LIM then .ok (.nx (ρ.set i (.ow (ds++[d])))) else .bad) _
  obtain ⟨a,xs,e2,e4,e5,e3,hr⟩:=rr.ow i ds e
  have hl:xs.length=ds.length:=hr.length
  have h:=(ha F0 H0 F H σ ρ rr).stm (K:=K) (k:=fun d=>if ds.length<LIM then .ok (.nx (ρ.set i (.ow (ds++[d])))) else .bad) (w':=fun x H2 D=>ZeL (.ref a) [x] H2 fun _ H3=>D.nx σ H3) rr.g fun d _ F1 H1 x g1 rx=>?_
  ·generalize ((ma ρ).bind fun d=>if ds.length<LIM then Res.ok (Fl.nx (ρ.set i (.ow (ds++[d])))) else .bad)=res at h
   have fin:∀D:Ends,(ta σ H fun x H2=>ZeL (.ref a) [x] H2 fun _ H3=>D.nx σ H3)→ZfC (tBM K "list" ZeL (tVar i) (Zb5 ta tNil)) D σ H:=fun D z=>⟨.ref a,e2,hty H a xs e3,z⟩
   cases res with
   | ok f =>
    cases f with
    | nx ρ=>exact fun D q=>fin D (h D q)
    | bk ρ=>exact fun D q=>fin D (h D q)
    | ct ρ=>exact fun D q=>fin D (h D q)
    | rt d=>exact fun D q=>fin D (h D q)
   | ex c=>exact fun D q=>fin D (h D q)
   | bad=>trivial
  ·by_cases hlim:ds.length<LIM
   ·simp only [hlim,Vbb]
    have r1:=rr.gr g1
    obtain ⟨q1,q2⟩:=g1.o a _ e5 e3
    exact fun D q=>⟨a,xs,x,rfl,rfl,q2,by rw [hl];exact Vaf hlim (by decide),q F1 _ σ (Same.refl _) (r1.app e e2 q2 e4 q1 (hr.same g1.f) rx)⟩
   ·simp only [hlim,Vba];trivial
 ·trivial
def iSeq(K:W.Frag)(tl:TE):TI:=fun σ H R=>tl σ H fun x H1=>∃a,x=.ref a∧(((∃xs,SqL K H1 a xs)∧R (Itl K a) H1)∨((∃xs,SqT K H1 a xs)∧R (Itt K a) H1))
theorem Ztg{a:Addr}{xs:List V}{ds:List D}(h:SqL K F a xs)(r:Rps K mg F xs ds):ItOk K mg F (Itl K a) ds:=by
 intro F' H' s1 s2 i
 have hq:SqL K H' a xs:=(s1.trans s2).seq h
 refine ⟨fun d e=>?_,fun hl=>⟨xs,hq,by rw [r.length];exact hl⟩⟩
 obtain ⟨x,e1,rx⟩:=r.get e
 refine ⟨⟨xs,x,hq,e1⟩,fun y H'' q=>?_⟩
 obtain ⟨rfl,q⟩:=q
 have e2:=q xs hq
 rw [e1] at e2;cases e2
 exact ⟨F',.refl s2,rx.same s1⟩
theorem ZtN{a:Addr}{xs:List V}{ds:List D}(h:SqT K F a xs)(r:Rps K mg F xs ds):ItOk K mg F (Itt K a) ds:=by
 intro F' H' s1 s2 i
 have hq:SqT K H' a xs:=ZaF (s1.trans s2) h
 refine ⟨fun d e=>?_,fun hl=>⟨xs,hq,by rw [r.length];exact hl⟩⟩
 obtain ⟨x,e1,rx⟩:=r.get e
 refine ⟨⟨xs,x,hq,e1⟩,fun y H'' q=>?_⟩
 obtain ⟨rfl,q⟩:=q
 have e2:=q xs hq
 rw [e1] at e2;cases e2
 exact ⟨F',.refl s2,rx.same s1⟩
theorem ZsO(lo:Int)(n:Nat):ItOk K mg F (Itr lo n) (ZbQ lo n):=by
 intro F' H' s1 s2 i
 unfold ZbQ
 refine ⟨fun d e=>?_,fun hl=>?_⟩
 ·rw [Va5] at e
  have hi:i<n:=by
   rcases Nat.lt_or_ge i n with z | z
   ·exact z
   ·rw [List.getElem?_eq_none (by rw [VbK];exact z)] at e;cases e
  rw [VbL hi] at e
  cases e
  refine ⟨hi,fun y H'' q=>?_⟩
  obtain ⟨rfl,rfl⟩:=q
  exact ⟨F',.refl s2,.int _⟩
 ·rw [VaQ,VbK] at hl
  exact hl
theorem Zud(ha:SE K mg E ta ma):SI K mg E (iSeq K ta) (iv ma):=by
 intro F0 H0 F H σ ρ rr
 refine (ha F0 H0 F H σ ρ rr).bind fun F1 H1 x dx g1 rx=>?_
 cases dx with
 | lst ds =>
  cases rx with
  | lst h r=>exact Ans.ret (R:=ItOk K mg) g1.s (Ztg h r) fun Q q=>⟨_,rfl,.inl ⟨⟨_,g1.s.seq h⟩,q⟩⟩
 | tup ds =>
  cases rx with
  | tup h r=>exact Ans.ret (R:=ItOk K mg) g1.s (ZtN h r) fun Q q=>⟨_,rfl,.inr ⟨⟨_,ZaF g1.s h⟩,q⟩⟩
 | _=>trivial
theorem ZuV{t:TA}{m:MA}(ha:SA K mg E t m):SI K mg E (Zpk t) (r1 m):=by
 intro F0 H0 F H σ ρ rr
 refine (ha F0 H0 F H σ ρ rr).bind fun F1 H1 xs ds g1 rs=>?_
 unfold rng1
 split
 ·next j =>
  by_cases h:-1000000000≤j∧j≤1000000000
  ·rw [if_pos h]
   obtain ⟨x,rfl,rx⟩:=rs.one
   cases rx
   exact Ans.ret (R:=ItOk K mg) g1.s (ZsO 0 _) fun Q q=>⟨j,rfl,by omega,by omega,q⟩
  ·rw [if_neg h];trivial
 ·trivial
theorem Ztq{wi:TI}{mi:MI}{n:Nat}{t:TG}{g:MG}{u:TS}{m:MS}(hi:SI K mg E wi mi)(hg:SG K mg n t g)(hx:∀d ρ c,g d ρ≠.ex c)(hb:SS K mg E u m):SS K mg E (tFor wi t u) (for_ mi g m):=by
 intro F0 H0 F H σ ρ rr
 refine (hi F0 H0 F H σ ρ rr).stm (w':=fun J H1 D=>∃W:Nat→Nat→St→Hp→Prop,(∃m,W 0 m σ H1)∧∀i m σ H,W i m σ H →
  (J.stop i H∧D.nx σ H)∨(J.go i H∧∃N:St→Hp→Prop,(∀σ' H',N σ' H'→∃m',m'<m∧W (i+1) m' σ' H')∧∀x H',J.yld i H x H'→t x σ H' fun σ2 H2=>u { D with nx:=N,ct:=N,bk:=D.nx } σ2 H2)) rr.g fun ds _ F1 H1 J g1 jo=>?_
 have r1:=rr.gr g1
 have key:∀(D:Ends) (res:Res Fl),res≠.bad→(∀ρ',res=.ok (.nx ρ')→∀F' H' σ',Same F1 F'→Rep K mg F0 H0 F' H' σ' ρ'→D.nx σ' H')→(∀ρ',res=.ok (.bk ρ')→∀F' H' σ',Same F1 F'→Rep K mg F0 H0 F' H' σ' ρ'→D.bk σ' H') →
   (∀ρ',res=.ok (.ct ρ')→∀F' H' σ',Same F1 F'→Rep K mg F0 H0 F' H' σ' ρ'→D.ct σ' H')→(∀d,res=.ok (.rt d)→∀F' H' x,Gr F0 H0 F' H'→Rp K mg F' x d→D.rt x H') →
   (∀c,res=.ex c→∀F' H' C,Gr F0 H0 F' H'→mg c=some (.ref C)→E (.ref C) none H')→ZbE g m ds ρ=res →
   ∃W:Nat→Nat→St→Hp→Prop,(∃m,W 0 m σ H1)∧∀i m σ H,W i m σ H →
    (J.stop i H∧D.nx σ H)∨(J.go i H∧∃N:St→Hp→Prop,(∀σ' H',N σ' H'→∃m',m'<m∧W (i+1) m' σ' H')∧∀x H',J.yld i H x H'→t x σ H' fun σ2 H2=>u { D with nx:=N,ct:=N,bk:=D.nx } σ2 H2):=by
  intro D res hbad qn qb qc qr qe e0
  refine ⟨fun i k σ' H'=>k=ds.length - i∧i≤ds.length∧∃ρ' F',Same F1 F'∧Rep K mg F0 H0 F' H' σ' ρ'∧ZbE g m (ds.drop i) ρ'=res,⟨ds.length,by simp,VaT _,ρ,F1,Same.refl _,r1,e0⟩,?_⟩
  rintro i k σ' H' ⟨rfl,hi',ρ',F',s1,r',e⟩
  by_cases hlt:i<ds.length
  ·refine .inr ?_
   have hd:ds[i]?=some ds[i]:=VbM hlt
   obtain ⟨go,yl⟩:=(jo F' H' s1 r'.ss i).1 _ hd
   rw [Vbt hlt] at e
   refine ⟨go,fun σ2 H2=>∃ρ2 F2,Same F1 F2∧Rep K mg F0 H0 F2 H2 σ2 ρ2∧ZbE g m (ds.drop (i+1)) ρ2=res,fun σ2 H2 ⟨ρ2,F2,s2,r2,e2⟩=>⟨ds.length - (i+1),by omega,rfl,hlt,ρ2,F2,s2,r2,e2⟩,fun x H2 y=>?_⟩
   obtain ⟨F2,g2,rx⟩:=yl x H2 y
   have r2:=r'.gr g2
   have hG:=hg F0 H0 F2 H2 σ' ρ' x _ r2 rx
   have e':(g ds[i] ρ').bind (fun ρ1=>(m ρ1).bind (turn (ZbE g m (ds.drop (i+1)))))=res:=e
   cases eg:g ds[i] ρ' with
   | ok ρ1 =>
    rw [eg] at e' hG
    refine hG _ fun F3 H3 σ3 s3 r3 _=>?_
    have hB:=hb F0 H0 F3 H3 σ3 ρ1 r3
    have sF:Same F1 F3:=s1.trans (g2.f.trans s3)
    have e2:(m ρ1).bind (turn (ZbE g m (ds.drop (i+1))))=res:=e'
    cases em:m ρ1 with
    | ok f =>
     rw [em] at e2 hB
     cases f with
     | nx ρ2=>exact hB _ fun F4 H4 σ4 s4 r4=>⟨ρ2,F4,sF.trans s4,r4,e2⟩
     | ct ρ2=>exact hB _ fun F4 H4 σ4 s4 r4=>⟨ρ2,F4,sF.trans s4,r4,e2⟩
     | bk ρ2=>exact hB _ fun F4 H4 σ4 s4 r4=>qn ρ2 e2.symm F4 H4 σ4 (sF.trans s4) r4
     | rt d=>exact hB _ fun F4 H4 y g4 ry=>qr d e2.symm F4 H4 y g4 ry
    | ex c =>
     rw [em] at e2 hB
     exact hB _ fun F4 H4 C g4 hc=>qe c e2.symm F4 H4 C g4 hc
    | bad=>rw [em] at e2;exact absurd e2.symm hbad
   | ex c=>exact absurd eg (hx _ _ c)
   | bad=>rw [eg] at e';exact absurd e'.symm hbad
  ·have hi2:i=ds.length:=by omega
   subst hi2
   rw [VbN (VaI _)] at e
   exact .inl ⟨(jo F' H' s1 r'.ss _).2 (VaI _),qn ρ' e.symm F' H' σ' s1 r'⟩
 cases e:ZbE g m ds ρ with
 | ok f =>
  cases f with
  | nx ρ2=>exact fun D q=>key D _ (fun z=>by cases z) (fun _ z=>by cases z;exact q) (fun _ z=>by cases z) (fun _ z=>by cases z) (fun _ z=>by cases z) (fun _ z=>by cases z) e
  | bk ρ2=>exact fun D q=>key D _ (fun z=>by cases z) (fun _ z=>by cases z) (fun _ z=>by cases z;exact q) (fun _ z=>by cases z) (fun _ z=>by cases z) (fun _ z=>by cases z) e
  | ct ρ2=>exact fun D q=>key D _ (fun z=>by cases z) (fun _ z=>by cases z) (fun _ z=>by cases z) (fun _ z=>by cases z;exact q) (fun _ z=>by cases z) (fun _ z=>by cases z) e
  | rt d=>exact fun D q=>key D _ (fun z=>by cases z) (fun _ z=>by cases z) (fun _ z=>by cases z) (fun _ z=>by cases z) (fun _ z=>by cases z;exact q) (fun _ z=>by cases z) e
 | ex c=>exact fun D q=>key D _ (fun z=>by cases z) (fun _ z=>by cases z) (fun _ z=>by cases z) (fun _ z=>by cases z) (fun _ z=>by cases z) (fun _ z=>by cases z;exact q) e
 | bad=>trivial
theorem ZnC{n:Ev→Nat}{sc:TT}{nc:MB}{u:TS}{m:MS}(hc:STt K mg E sc nc)(hb:SS K mg E u m):SS K mg E (ZjG sc u) (whl n nc m):=by
 intro F0 H0 F H σ ρ rr
 have key:∀(D:Ends) (res:Res Fl),res≠.bad→(∀ρ',res=.ok (.nx ρ')→∀F' H' σ',Same F F'→Rep K mg F0 H0 F' H' σ' ρ'→D.nx σ' H')→(∀ρ',res=.ok (.bk ρ')→∀F' H' σ',Same F F'→Rep K mg F0 H0 F' H' σ' ρ'→D.bk σ' H') →
   (∀ρ',res=.ok (.ct ρ')→∀F' H' σ',Same F F'→Rep K mg F0 H0 F' H' σ' ρ'→D.ct σ' H')→(∀d,res=.ok (.rt d)→∀F' H' x,Gr F0 H0 F' H'→Rp K mg F' x d→D.rt x H') →
   (∀c,res=.ex c→∀F' H' C,Gr F0 H0 F' H'→mg c=some (.ref C)→E (.ref C) none H')→whGo nc m (n ρ) ρ=res→ZjG sc u D σ H:=by
  intro D res hbad qn qb qc qr qe e0
  refine ⟨fun k σ' H'=>∃ρ' F',Same F F'∧Rep K mg F0 H0 F' H' σ' ρ'∧whGo nc m k ρ'=res,⟨n ρ,ρ,F,Same.refl _,rr,e0⟩,?_⟩
  rintro k σ' H' ⟨ρ',F',s1,r',e⟩
  cases k with
  | zero=>exact absurd e.symm hbad
  | succ k =>
   have e':(nc ρ').bind (fun x=>if x=true then (m ρ').bind (turn (whGo nc m k)) else .ok (.nx ρ'))=res:=e
   have hC:=hc F0 H0 F' H' σ' ρ' r'
   cases ec:nc ρ' with
   | ok b =>
    rw [ec] at e' hC
    refine hC _ fun F2 H2 b' g2 eb=>?_
    cases (show b'=b from eb)
    have r2:=r'.gr g2
    cases b with
    | true =>
     rw [if_pos rfl]
     have hB:=hb F0 H0 F2 H2 σ' ρ' r2
     have e2:(m ρ').bind (turn (whGo nc m k))=res:=e'
     refine ⟨fun σ3 H3=>∃ρ3 F3,Same F F3∧Rep K mg F0 H0 F3 H3 σ3 ρ3∧whGo nc m k ρ3=res,fun σ3 H3 h=>⟨k,VaS _,h⟩,?_⟩
     have sF:Same F F2:=s1.trans g2.f
     cases em:m ρ' with
     | ok f =>
      rw [em] at e2 hB
      cases f with
      | nx ρ2=>exact hB _ fun F4 H4 σ4 s4 r4=>⟨ρ2,F4,sF.trans s4,r4,e2⟩
      | ct ρ2=>exact hB _ fun F4 H4 σ4 s4 r4=>⟨ρ2,F4,sF.trans s4,r4,e2⟩
      | bk ρ2=>exact hB _ fun F4 H4 σ4 s4 r4=>qn ρ2 e2.symm F4 H4 σ4 (sF.trans s4) r4
      | rt d=>exact hB _ fun F4 H4 y g4 ry=>qr d e2.symm F4 H4 y g4 ry
     | ex c =>
      rw [em] at e2 hB
      exact hB _ fun F4 H4 C g4 hc=>qe c e2.symm F4 H4 C g4 hc
     | bad=>rw [em] at e2;exact absurd e2.symm hbad
    | false =>
     rw [if_neg VaF]
     have e2:Res.ok (Fl.nx ρ')=res:=e'
     exact qn ρ' e2.symm F2 H2 σ' (s1.trans g2.f) r2
   | ex c =>
    rw [ec] at e' hC
    exact hC _ fun F4 H4 C g4 hc=>qe c e'.symm F4 H4 C (r'.g.trans g4) hc
   | bad=>rw [ec] at e';exact absurd e'.symm hbad
 unfold whl
 cases e:whGo nc m (n ρ) ρ with
 | ok f =>
  cases f with
  | nx ρ2=>exact fun D q=>key D _ (fun z=>by cases z) (fun _ z=>by cases z;exact q) (fun _ z=>by cases z) (fun _ z=>by cases z) (fun _ z=>by cases z) (fun _ z=>by cases z) e
  | bk ρ2=>exact fun D q=>key D _ (fun z=>by cases z) (fun _ z=>by cases z) (fun _ z=>by cases z;exact q) (fun _ z=>by cases z) (fun _ z=>by cases z) (fun _ z=>by cases z) e
  | ct ρ2=>exact fun D q=>key D _ (fun z=>by cases z) (fun _ z=>by cases z) (fun _ z=>by cases z) (fun _ z=>by cases z;exact q) (fun _ z=>by cases z) (fun _ z=>by cases z) e
  | rt d=>exact fun D q=>key D _ (fun z=>by cases z) (fun _ z=>by cases z) (fun _ z=>by cases z) (fun _ z=>by cases z) (fun _ z=>by cases z;exact q) (fun _ z=>by cases z) e
 | ex c=>exact fun D q=>key D _ (fun z=>by cases z) (fun _ z=>by cases z) (fun _ z=>by cases z) (fun _ z=>by cases z) (fun _ z=>by cases z) (fun _ z=>by cases z;exact q) e
 | bad=>trivial
end
section
variable{K:W.Frag}{mg:Str→Option Value}{E:XK}{F0 H0 F H:Hp}{σ:St}{ρ:Ev}
theorem Rep.inner{own:List Str}{cap:List (Str×Nat)}{Fb Hb:Hp}(r:Rep K mg F0 H0 F H σ ρ)(gb:Gr Fb Hb F H):Rep K mg Fb Hb F H (st0 own σ cap) (noA own.length (yav ρ (cap.map (·.2)))):=by
 have key:∀(i:Nat) (cl:Cl),(noA own.length (yav ρ (cap.map (·.2))))[i]?=some cl→cl=.no∨∃j p d,i=own.length+j∧cap[j]?=some p∧ρ[p.2]?=some (.im d)∧cl=.im d:=by
  intro i cl e
  rw [ZjW,ZgP] at e
  by_cases hi:i<own.length
  ·rw [Va4 (by simpa using hi),Va3,if_pos hi] at e
   cases e
   exact .inl rfl
  ·rw [Va2 (by simpa using hi),Va8] at e
   rw [VbO,Va5] at e
   cases q:cap[i - own.length]? with
   | none=>rw [q] at e;cases e
   | some p =>
    rw [q] at e
    have e':imOf ρ[p.2]?=cl:=Vav e
    unfold imOf at e'
    split at e'
    ·next d h=>exact .inr ⟨i - own.length,p,d,by omega,q,h,e'.symm⟩
    ·exact .inl e'.symm
 refine ⟨gb,?_,fun i d e=>?_,fun i ds e=>?_,fun i j ds es a e=>?_⟩
 ·rw [ZjW,ZgP]
  unfold st0 capt
  simp
 ·rcases key i _ e with z | ⟨j,p,d',rfl,hp,hρ,z⟩
  ·cases z
  ·cases z
   obtain ⟨x,hx,rx⟩:=r.im p.2 d hρ
   refine ⟨x,?_,rx⟩
   unfold st0 capt
   rw [Va2 (by simp),Va8,Nat.add_sub_cancel_left,Va5,hp]
   show some ((σ[p.2]?).join)=_
   rw [hx];rfl
 ·rcases key i _ e with z | ⟨j,p,d',rfl,hp,hρ,z⟩<;>cases z
 ·rcases key i _ e with z | ⟨j,p,d',rfl,hp,hρ,z⟩<;>cases z
theorem Zim{own:List Str}{cap:List (Str×Nat)}:(st0 own σ cap).drop own.length=capt σ cap:=by
 unfold st0
 rw [List.drop_append_of_le_length (by simp),List.drop_of_length_le (by simp)]
 rfl
theorem ZqE{t:TG}{g:MG}{tt:TT}{nt:MB}{te:TE}{me:ME}{own:List Str}{cap:List (Str×Nat)}{J:It}{ds ys:List D}(r:Rep K mg F0 H0 F H σ ρ)(jo:ItOk K mg F J ds)(hg:SG K mg own.length t g)(ht:STt K mg E0 tt nt)(he:SE K mg E0 te me)
  (hl:ds.length≤LIM) (e0:Dl.Zan g nt me (noA own.length (yav ρ (cap.map (·.2)))) ds=.ok ys) (Q:VK) (q:∀F' H' xs,Gr F H F' H'→Rps K mg F' xs ys→xs.length≤sizeLine→∀p,H' p=none→Q (.ref p) (upd H' p (.lst xs))) :
  ZcX J t tt te own cap σ Q H:=by
 refine ⟨fun i k acc H'=>k=ds.length - i∧i≤ds.length∧acc.length≤i∧∃F' zs rs,Gr F H F' H'∧Rps K mg F' acc zs∧Dl.Zan g nt me (noA own.length (yav ρ (cap.map (·.2)))) (ds.drop i)=.ok rs∧zs++rs=ys,
  ⟨ds.length,by simp,VaT _,VaI _,F,[],ys,.refl r.ss,.nil,e0,rfl⟩,?_⟩
 rintro i k acc H' ⟨rfl,hi,ha,F',zs,rs,g1,r1,e1,e2⟩
 have la:acc.length≤LIM:=Vak ha (Vak hi hl)
 refine ⟨ZeY la,?_⟩
 by_cases hlt:i<ds.length
 ·refine .inr ?_
  have hd:ds[i]?=some ds[i]:=VbM hlt
  obtain ⟨go,yl⟩:=(jo F' H' g1.f g1.s i).1 _ hd
  rw [Vbt hlt] at e1
  refine ⟨go,fun x H2 y=>?_⟩
  obtain ⟨F2,g2,rx⟩:=yl x H2 y
  have rr:=(r.gr (g1.trans g2)).inner (own:=own) (cap:=cap) (g1.trans g2)
  have hG:=hg F H F2 H2 _ _ x _ rr rx
  have e':(g ds[i] (noA own.length (yav ρ (cap.map (·.2))))).bind (fun ρ1=>(nt ρ1).bind fun b=>if b=true then (me ρ1).bind fun y=>(Dl.Zan g nt me (noA own.length (yav ρ (cap.map (·.2)))) (ds.drop (i+1))).bind fun ys=>.ok (y::ys) else Dl.Zan g nt me (noA own.length (yav ρ (cap.map (·.2)))) (ds.drop (i+1)))=.ok rs:=e1
  cases eg:g ds[i] (noA own.length (yav ρ (cap.map (·.2)))) with
  | ok ρ1 =>
   rw [eg] at e' hG
   refine hG _ fun F3 H3 σ3 s3 r3 d3=>⟨d3.trans Zim,?_⟩
   have hT:=ht F H F3 H3 σ3 ρ1 r3
   have sF:Same F' F3:=g2.f.trans s3
   have e3:(nt ρ1).bind (fun b=>if b=true then (me ρ1).bind fun y=>(Dl.Zan g nt me (noA own.length (yav ρ (cap.map (·.2)))) (ds.drop (i+1))).bind fun ys=>.ok (y::ys) else Dl.Zan g nt me (noA own.length (yav ρ (cap.map (·.2)))) (ds.drop (i+1)))=.ok rs:=e'
   cases et:nt ρ1 with
   | ok b =>
    rw [et] at e3 hT
    refine hT _ fun F4 H4 b' g4 eb=>?_
    cases (show b'=b from eb)
    cases b with
    | true =>
     rw [if_pos rfl]
     have e4:(me ρ1).bind (fun y=>(Dl.Zan g nt me (noA own.length (yav ρ (cap.map (·.2)))) (ds.drop (i+1))).bind fun ys=>.ok (y::ys))=.ok rs:=e3
     have hE:=he F H F4 H4 σ3 ρ1 (r3.gr g4)
     cases em:me ρ1 with
     | ok y' =>
      rw [em] at e4 hE
      refine hE _ fun F5 H5 u g5 ru=>⟨Vbn la (by decide),ds.length - (i+1),by omega,rfl,hlt,by rw [Va7];show acc.length+1≤i+1;omega,?_⟩
      have e5:(Dl.Zan g nt me (noA own.length (yav ρ (cap.map (·.2)))) (ds.drop (i+1))).bind (fun ys=>.ok (y'::ys))=.ok rs:=e4
      cases ec:Dl.Zan g nt me (noA own.length (yav ρ (cap.map (·.2)))) (ds.drop (i+1)) with
      | ok rs' =>
       rw [ec] at e5
       have e6:Res.ok (y'::rs')=.ok rs:=e5
       cases e6
       exact ⟨F5,zs++[y'],rs',r3.g.trans (g4.trans g5),Rps.app (.cons ru .nil) (r1.same (sF.trans (g4.f.trans g5.f))),rfl,by rw [VbP];exact e2⟩
      | ex c=>rw [ec] at e5;cases e5
      | bad=>rw [ec] at e5;cases e5
     | ex c=>rw [em] at e4;cases e4
     | bad=>rw [em] at e4;cases e4
    | false =>
     rw [if_neg VaF]
     have e4:Dl.Zan g nt me (noA own.length (yav ρ (cap.map (·.2)))) (ds.drop (i+1))=.ok rs:=e3
     exact ⟨ds.length - (i+1),by omega,rfl,hlt,by omega,F4,zs,rs,r3.g.trans g4,r1.same (sF.trans g4.f),e4,e2⟩
   | ex c=>rw [et] at e3;cases e3
   | bad=>rw [et] at e3;cases e3
  | ex c=>rw [eg] at e';cases e'
  | bad=>rw [eg] at e';cases e'
 ·have hi2:i=ds.length:=by omega
  subst hi2
  rw [VbN (VaI _)] at e1
  cases e1
  rw [VaV] at e2
  subst e2
  exact .inl ⟨(jo F' H' g1.f g1.s _).2 (VaI _),q F' H' acc g1 r1 (ZeY la)⟩
theorem ZlO{wi:TI}{mi:MI}{t:Fam TG}{g:MG}{tt:Fam TT}{nt:MB}{te:Fam TE}{me:ME}{own:List Str}{cap:List (Str×Nat)}(hi:SI K mg E wi mi)(hg:∀C s H fp pn,SG K mg own.length (t C s H fp pn) g)(ht:∀C s H fp pn,STt K mg E0 (tt C s H fp pn) nt)(he:∀C s H fp pn,SE K mg E0 (te C s H fp pn) me) :
  SE K mg E (ZeS wi t tt te own cap) (comp mi own.length (cap.map (·.2)) g nt me):=by
 intro F0 H0 F H σ ρ rr
 refine (hi F0 H0 F H σ ρ rr).bind (w':=fun J H1 Q=>∀C s H2 fp pn,ZcX J (t C s H2 fp pn) (tt C s H2 fp pn) (te C s H2 fp pn) own cap σ Q H1) fun F1 H1 J ds g1 jo=>?_
 by_cases hl:ds.length≤LIM
 ·rw [if_pos hl]
  cases e:Dl.Zan g nt me (noA own.length (yav ρ (cap.map (·.2)))) ds with
  | ok ys=>exact fun Q q C s H2 fp pn=>ZqE (rr.gr g1) jo (hg C s H2 fp pn) (ht C s H2 fp pn) (he C s H2 fp pn) hl e Q fun F' H' xs g2 rs _ p hp=>q _ _ _ (g2.trans (.new g2.s hp _)) (.lst (SqL.of Zah) (rs.same (ZaA (g2.s.free hp) _)))
  | ex c=>trivial
  | bad=>trivial
 ·rw [if_neg hl];trivial
end
structure DE(X:Cx)(E:XK)(e:Expr)(t:TE)(m:ME):Prop where
 p:PE X e t
 s:SE X.K X.mg E t m
structure DT(X:Cx)(E:XK)(e:Expr)(t:TT)(m:MB):Prop where
 p:PT X e t
 s:STt X.K X.mg E t m
structure DW(X:Cx)(E:XK)(e:Expr)(t:TT)(m:MB):Prop where
 p:PW X e t
 s:STt X.K X.mg E t m
structure DA(X:Cx)(E:XK)(n:Nat)(es:List Expr)(t:TA)(m:MA):Prop where
 p:PA X es t
 s:SA X.K X.mg E t m
 n:SAn n m
structure DO(X:Cx)(E:XK)(e:Option Expr)(t:TO)(m:Ev→Res (Option Int)):Prop where
 p:PO X e t
 s:SO X.K X.mg E t m
structure DS(X:Cx)(E:XK)(st:Stmt)(t:TS)(m:MS):Prop where
 p:PS X st t
 s:SS X.K X.mg E t m
structure DSs(X:Cx)(E:XK)(st:List Stmt)(t:TS)(m:MS):Prop where
 p:PSs X st t
 s:SS X.K X.mg E t m
structure DG(X:Cx)(n:Nat)(e:Expr)(t:TG)(g:MG):Prop where
 p:PG X e t
 s:SG X.K X.mg n t g
 x:∀d ρ c,g d ρ≠.ex c
structure DGs(X:Cx)(n:Nat)(es:List Expr)(t:TGs)(g:MGs):Prop where
 p:PGs X es t
 s:SGs X.K X.mg n t g
 x:∀d ρ c,g d ρ≠.ex c
structure DI(X:Cx)(E:XK)(tg e:Expr)(t:TI)(m:MI):Prop where
 p:PI X tg e t
 s:SI X.K X.mg E t m
section
variable{X:Cx}{E:XK}{a b e c':Expr}{es:List Expr}{ta tb tc te:TE}{ma mb mc me:ME}{sa sb:TT}{na nb:MB}{t:TA}{m:MA}{pos:Pos}{n:Nat}
theorem d_v(i:Nat){x:Str}(hN:X.N[i]?=some x:=by rfl)(hv:Vis X.env.scope x:=by first | exact Or.inl rfl | exact Or.inr (Or.inl rfl) | exact Or.inr (Or.inr rfl))(hd:(x==("__debug__" : Str))=false:=by decide)
  (hcd:(x==("__classdict__" : Str))=false:=by decide):DE X E (.Name x pos) (tVar i) (v i):=⟨ZhZ hN hv hd hcd,se_v i⟩
theorem Zat{i j}:DE X E (.Constant (.int i) j pos) (tC (.int i)) (c (.int i)):=⟨Zt6,se_c fun _=>.int _⟩
theorem ycG{i j}:DE X E (.Constant (.bool i) j pos) (tC (.bl i)) (c (.bl i)):=⟨Zvd,se_c fun _=>.bl _⟩
theorem Ztk{j}:DE X E (.Constant .none j pos) (tC .non) (c .non):=⟨ZlE,se_c fun _=>.non⟩
theorem ZmZ{i j}:DE X E (.Constant (.str i) j pos) (tC (.str i)) (c (.str i)):=⟨ZrU,se_c fun _=>.str _⟩
theorem ycX{k:String}{x:Str}(hg:Gl X x)(hm:X.mg x=none)(hv:bootBuiltins x=some (.type k))(hn:x ≠ "__name__" := by decide)(hd:(x==("__debug__" : Str))=false:=by decide):DE X E (.Name x pos) (tC (.ty k)) (c (.ty k)) :=
 ⟨Zsg hg hm hv hn hd,se_c fun _=>.ty _⟩
theorem ycY{x:Str}{i:Int}{tk:Tok}(hg:Gl X x)(hm:X.mg x=some (.int i tk))(hd:(x==("__debug__" : Str))=false:=by decide):DE X E (.Name x pos) (tC (.int i)) (c (.int i)):=⟨ZlY hg hm ⟨_,rfl⟩ hd,se_c fun _=>.int _⟩
theorem Zh2{op:Operator}{r:R2}{f:D→D→Res D}(ho:OpR X (binaryOp op) r)(hf:OpD X.K X.mg r f)(ha:DE X E a ta ma)(hb:DE X E b tb mb):DE X E (.BinOp a op b pos) (tOp r ta tb) (o2 f ma mb):=⟨Zu7 ho ha.p hb.p,Znu hf ha.s hb.s⟩
theorem Znk{op:CmpOp}{r:R2}{f:D→D→Res D}(ho:OpR X (compareOp op) r)(hf:OpD X.K X.mg r f)(ha:DE X E a ta ma)(hb:DE X E b tb mb)(hm:behindInMarks op b=false):DE X E (.Compare a [op] [b] pos) (tOp r ta tb) (o2 f ma mb):=⟨Zp1 ho ha.p hb.p hm,Znu hf ha.s hb.s⟩
theorem ZgG{op:CmpOp}{r:R2}{f:D→D→Res D}(ho:OpR X (compareOp op) r)(hf:OpD X.K X.mg r f)(ha:DE X E a ta ma)(hb:DE X E b tb mb)(hm:behindInMarks op b=false):DT X E (.Compare a [op] [b] pos) (Zfu (tOp r ta tb)) (trb (o2 f ma mb)):=⟨ZiX ho ha.p hb.p hm,Ziy (Znu hf ha.s hb.s)⟩
theorem OpR.or{f:Value→Value→Sem Value}{r r':R2}(h:OpR X f r)(h':OpR X f r'):OpR X f (fun x y H Q=>r x y H Q∨r' x y H Q):=by
 intro pins s σ H x y v u Q I rx ry q
 rcases q with q | q
 ·exact h pins s σ H x y v u Q I rx ry q
 ·exact h' pins s σ H x y v u Q I rx ry q
theorem Zp4:OpR X (binaryOp .Add) (Ztn X.K):=by
 intro pins s σ H x y v u Q I rx ry h
 obtain ⟨l,b,xs,zs,rfl,rfl,hH,hB,hz,q⟩:=h
 cases rx
 cases ry
 exact Zn9 I hH hB hz q
theorem Zrq:OpR X (binaryOp .Add) (Zsa X.K):=by
 intro pins s σ H x y v u Q I rx ry h
 obtain ⟨a,b,xs,ys,rfl,rfl,ha,hb,hz,q0,q1,q2⟩:=h
 cases rx
 cases ry
 exact Zn1 I ha hb hz q0 q1 q2
theorem Zpv:OpR X (binaryOp .Add) (ZqZ X.K):=OpR.or ZsV (OpR.or Zp4 (OpR.or Zrq Zke))
theorem Zku(ha:DE X E a ta ma)(hb:DE X E b tb mb):DE X E (.BinOp a .Add b pos) (tOp (ZqZ X.K) ta tb) (o2 yan ma mb):=Zh2 Zpv Zqe ha hb
theorem ZrP(ha:DE X E a ta ma)(hb:DE X E b tb mb):DE X E (.BinOp a .Sub b pos) (tOp (rI0 fun i j=>V.int (i - j)) ta tb) (o2 dSub ma mb):=Zh2 ZtX ZpQ ha hb
theorem Zue{a b:Int}(h:ZaT a b=true):IntMulOk a b:=by
 have h':(a.natAbs<2^64∨b.natAbs<2^64)∨a.natAbs.log2+b.natAbs.log2<100000000:=by simpa [ZaT] using h
 rcases h' with (h' | h') | h'
 ·exact .of_left (intBits_le_iff.mpr h')
 ·exact .of_right (intBits_le_iff.mpr h')
 ·have la:a.natAbs<2^(a.natAbs.log2+1):=Nat.lt_log2_self
  have lb:b.natAbs<2^(b.natAbs.log2+1):=Nat.lt_log2_self
  exact IntMulOk.of_le (intBits_le_iff.mpr la) (intBits_le_iff.mpr lb) (by omega)
theorem ZrA{K:W.Frag}{mg:Str→Option Value}:OpD K mg (rI IntMulOk fun i j=>.int (i*j)) yaC:=Zj3 fun a b=>by
 unfold iMul
 by_cases h:ZaT a b=true
 ·rw [if_pos h];exact .inl ⟨_,rfl,Zue h,fun _=>.int _⟩
 ·rw [if_neg h];exact .inr rfl
theorem ZuU(ha:DE X E a ta ma)(hb:DE X E b tb mb):DE X E (.BinOp a .Mult b pos) (tOp (rI IntMulOk fun i j=>V.int (i*j)) ta tb) (o2 yaC ma mb):=Zh2 Zrn ZrA ha hb
theorem Zkf(ha:DE X E a ta ma)(hb:DE X E b tb mb):DE X E (.BinOp a .Mod b pos) (tOp (rI (fun _ j=>j≠0) fun i j=>V.int (i.fmod j)) ta tb) (o2 yam ma mb):=Zh2 ZpK Zq2 ha hb
theorem Zng(ha:DE X E a ta ma)(hb:DE X E b tb mb):DE X E (.BinOp a .FloorDiv b pos) (tOp (rI ZpY fun i j=>V.int (i.fdiv j)) ta tb) (o2 ya0 ma mb):=Zh2 Znb ZqJ ha hb
theorem ZrD(ha:DE X E a ta ma)(hb:DE X E b tb mb):DE X E (.BinOp a .Pow b pos) (tOp (rI CPow fun i j=>V.int (i^j.toNat)) ta tb) (o2 dPow ma mb):=Zh2 Zs7 Zq9 ha hb
theorem Zux(ha:DE X E a ta ma)(hb:DE X E b tb mb):DE X E (.BinOp a .LShift b pos) (tOp (rI CPow fun i j=>V.int (i*2^j.toNat)) ta tb) (o2 dShl ma mb):=Zh2 Zst ZpH ha hb
theorem ZuC(ha:DE X E a ta ma)(hb:DE X E b tb mb):DE X E (.BinOp a .RShift b pos) (tOp (rI (fun _ j=>0≤j) fun i j=>V.int (i/2^j.toNat)) ta tb) (o2 dShr ma mb):=Zh2 ZtY Zq7 ha hb
theorem ZuY(ha:DE X E a ta ma):DE X E (.UnaryOp .USub a pos) (tUn (rU fun i=>V.int (-i)) ta) (o1 dNeg ma):=⟨Zvk Zr8 ha.p,ZtP (Zrr fun _ _ _ q=>⟨_,rfl,q⟩) ha.s⟩
theorem yc8(ha:DE X E a ta ma)(hb:DE X E b tb mb):DE X E (.Compare a [.Lt] [b] pos) (tOp (rI0 fun i j=>V.bl (decide (i<j))) ta tb) (o2 dLt ma mb):=Znk Zsm ZoA ha hb (ZcT _)
theorem yc9(ha:DE X E a ta ma)(hb:DE X E b tb mb):DE X E (.Compare a [.LtE] [b] pos) (tOp (rI0 fun i j=>V.bl (decide (i≤j))) ta tb) (o2 dLe ma mb):=Znk Zt8 ZoD ha hb (ZcT _)
theorem yc6(ha:DE X E a ta ma)(hb:DE X E b tb mb):DE X E (.Compare a [.GtE] [b] pos) (tOp (rI0 fun i j=>V.bl (decide (j≤i))) ta tb) (o2 dGe ma mb):=Znk ZtR Zo7 ha hb (ZcT _)
theorem ZtF(ha:DE X E a ta ma)(hb:DE X E b tb mb):DT X E (.Compare a [.Lt] [b] pos) (Zfu (tOp (rI0 fun i j=>V.bl (decide (i<j))) ta tb)) (trb (o2 dLt ma mb)):=ZgG Zsm ZoA ha hb (ZcT _)
theorem ZsL(ha:DE X E a ta ma)(hb:DE X E b tb mb):DT X E (.Compare a [.LtE] [b] pos) (Zfu (tOp (rI0 fun i j=>V.bl (decide (i≤j))) ta tb)) (trb (o2 dLe ma mb)):=ZgG Zt8 ZoD ha hb (ZcT _)
theorem Zpj(ha:DE X E a ta ma)(hb:DE X E b tb mb):DT X E (.Compare a [.Gt] [b] pos) (Zfu (tOp (rI0 fun i j=>V.bl (decide (j<i))) ta tb)) (trb (o2 dGt ma mb)):=ZgG ZuZ ZrV ha hb (ZcT _)
theorem Zve(ha:DE X E a ta ma)(hb:DE X E b tb mb):DT X E (.Compare a [.GtE] [b] pos) (Zfu (tOp (rI0 fun i j=>V.bl (decide (j≤i))) ta tb)) (trb (o2 dGe ma mb)):=ZgG ZtR Zo7 ha hb (ZcT _)
mutual
def pyD:D→PyData
 | .non=>.none
 | .bl b=>.bool b
 | .int i=>.int i
 | .str x=>.str x
 | .tup xs=>.tuple (pyDs xs)
 | .lst xs=>.list (pyDs xs)
 | _=>.none
def pyDs:List D→List PyData
 | []=>[]
 | x::r=>pyD x::pyDs r
end
mutual
theorem ZhK:∀x y:D,∀k l,Dl.plain k x=true→Dl.plain l y=true→eqD x y=PyData.eqv (pyD x) (pyD y)
 | .non,y,_,_,_,hy=>by cases y<;>first | rfl | (simp [Dl.plain] at hy)
 | .bl _,y,_,_,_,hy=>by cases y<;>first | rfl | (simp [Dl.plain] at hy)
 | .int _,y,_,_,_,hy=>by cases y<;>first | rfl | (simp [Dl.plain] at hy)
 | .str _,y,_,_,_,hy=>by cases y<;>first | rfl | (simp [Dl.plain] at hy)
 | .tup xs,y,k,l,hx,hy=>by
  cases y<;>first | rfl | (simp [Dl.plain] at hy;done) | skip
  rename_i ys
  cases k with
  | zero=>simp [Dl.plain] at hx
  | succ k =>
   cases l with
   | zero=>simp [Dl.plain] at hy
   | succ l=>exact ZiB xs ys k l (by simpa [Dl.plain] using hx) (by simpa [Dl.plain] using hy)
 | .lst xs,y,k,l,hx,hy=>by
  cases y<;>first | rfl | (simp [Dl.plain] at hy;done) | skip
  rename_i ys
  cases k with
  | zero=>simp [Dl.plain] at hx
  | succ k =>
   cases l with
   | zero=>simp [Dl.plain] at hy
   | succ l=>exact ZiB xs ys k l (by simpa [Dl.plain] using hx) (by simpa [Dl.plain] using hy)
 | .ty _,_,k,_,hx,_=>by cases k<;>simp [Dl.plain] at hx
 | .cls _,_,k,_,hx,_=>by cases k<;>simp [Dl.plain] at hx
 | .exc _,_,k,_,hx,_=>by cases k<;>simp [Dl.plain] at hx
 | .ins _ _ _,_,k,_,hx,_=>by cases k<;>simp [Dl.plain] at hx
theorem ZiB:∀xs ys:List D,∀k l,Dl.Zay k xs=true→Dl.Zay l ys=true→eqDs xs ys=PyData.eqvAll (pyDs xs) (pyDs ys)
 | [],[],_,_,_,_=>rfl
 | [],_::_,_,_,_,_=>rfl
 | _::_,[],_,_,_,_=>rfl
 | x::xs,y::ys,k,l,hx,hy=>by
  have h1:Dl.plain k x=true∧Dl.Zay k xs=true:=by simpa [Dl.Zay] using hx
  have h2:Dl.plain l y=true∧Dl.Zay l ys=true:=by simpa [Dl.Zay] using hy
  show (eqD x y&&eqDs xs ys)=(PyData.eqv (pyD x) (pyD y)&&PyData.eqvAll (pyDs xs) (pyDs ys))
  rw [ZhK x y k l h1.1 h2.1,ZiB xs ys k l h1.2 h2.2]
end
mutual
theorem Zcz:∀(x:D) (k:Nat),Dl.plain k x=true→(pyD x).canLay0=true∧(pyD x).depth≤k
 | .non,_,_=>⟨rfl,VaT _⟩
 | .bl _,_,_=>⟨rfl,VaT _⟩
 | .int _,_,_=>⟨rfl,VaT _⟩
 | .str x,_,h=>⟨by simpa [Dl.plain,pyD,PyData.canLay0,PyData.strOk] using h,VaT _⟩
 | .tup xs,0,h=>by simp [Dl.plain] at h
 | .lst xs,0,h=>by simp [Dl.plain] at h
 | .tup xs,k+1,h=>by
  obtain ⟨h1,h2⟩:=Zdk xs k (by simpa [Dl.plain] using h)
  exact ⟨h1,Nat.succ_le_succ h2⟩
 | .lst xs,k+1,h=>by
  obtain ⟨h1,h2⟩:=Zdk xs k (by simpa [Dl.plain] using h)
  exact ⟨h1,Nat.succ_le_succ h2⟩
 | .ty _,k,h=>by cases k<;>simp [Dl.plain] at h
 | .cls _,k,h=>by cases k<;>simp [Dl.plain] at h
 | .exc _,k,h=>by cases k<;>simp [Dl.plain] at h
 | .ins _ _ _,k,h=>by cases k<;>simp [Dl.plain] at h
theorem Zdk:∀(xs:List D) (k:Nat),Dl.Zay k xs=true→PyData.canLayAll0 (pyDs xs)=true∧PyData.depthAll (pyDs xs)≤k
 | [],_,_=>⟨rfl,VaT _⟩
 | x::xs,k,h=>by
  have h':Dl.plain k x=true∧Dl.Zay k xs=true:=by simpa [Dl.Zay] using h
  obtain ⟨a1,a2⟩:=Zcz x k h'.1
  obtain ⟨b1,b2⟩:=Zdk xs k h'.2
  refine ⟨?_,Nat.max_le.mpr ⟨a2,b2⟩⟩
  show (PyData.canLay0 (pyD x)&&PyData.canLayAll0 (pyDs xs))=true
  rw [a1,b1];rfl
end
mutual
theorem Ziv{K:W.Frag}{mg:Str→Option Value}{F:Hp}:∀{x:V} {d:D} {k:Nat},Rp K mg F x d→Dl.plain k d=true→DV K F x (pyD d)
 | _,_,_,.non,_=>.non
 | _,_,_,.bl b,_=>.bl b
 | _,_,_,.int b,_=>.int b
 | _,_,_,.str b,_=>.str b
 | _,_,0,.tup h r,p=>by simp [Dl.plain] at p
 | _,_,0,.lst h r,p=>by simp [Dl.plain] at p
 | _,_,k+1,.tup h r,p=>.tup h (Zf2 r (by simpa [Dl.plain] using p))
 | _,_,k+1,.lst h r,p=>.lst h (Zf2 r (by simpa [Dl.plain] using p))
 | _,_,k,.ty _,p=>by cases k<;>simp [Dl.plain] at p
 | _,_,k,.cls _,p=>by cases k<;>simp [Dl.plain] at p
 | _,_,k,.exc _ _,p=>by cases k<;>simp [Dl.plain] at p
 | _,_,k,.ins _ _ _ _ _,p=>by cases k<;>simp [Dl.plain] at p
theorem Zf2{K:W.Frag}{mg:Str→Option Value}{F:Hp}:∀{xs:List V} {ds:List D} {k:Nat},Rps K mg F xs ds→Dl.Zay k ds=true→DVs K F xs (pyDs ds)
 | _,_,_,.nil,_=>.nil
 | _,_,k,.cons h r,p=>by
  have p':=(show Dl.plain k _=true∧Dl.Zay k _=true by simpa [Dl.Zay] using p)
  exact .cons (Ziv h p'.1) (Zf2 r p'.2)
end
mutual
theorem ZdO{K:W.Frag}{F H:Hp}(s:Same F H):∀{x:V} {d:PyData},DV K F x d→DV K H x d
 | _,_,.non=>.non
 | _,_,.bl b=>.bl b
 | _,_,.int b=>.int b
 | _,_,.str b=>.str b
 | _,_,.tup h r=>.tup (ZaF s h) (Zeu s r)
 | _,_,.lst h r=>.lst (s.seq h) (Zeu s r)
theorem Zeu{K:W.Frag}{F H:Hp}(s:Same F H):∀{xs:List V} {ds:List PyData},DVs K F xs ds→DVs K H xs ds
 | _,_,.nil=>.nil
 | _,_,.cons h r=>.cons (ZdO s h) (Zeu s r)
end
theorem Zor{K:W.Frag}{mg:Str→Option Value}:OpD K mg (rEqD K id) dEq:=by
 intro E F H x y dx dy s rx ry
 unfold dEq
 by_cases h:(Dl.plain 50 dx&&Dl.plain 50 dy)=true
 ·rw [if_pos h]
  have h':Dl.plain 50 dx=true∧Dl.plain 50 dy=true:=by simpa using h
  obtain ⟨a1,a2⟩:=Zcz dx 50 h'.1
  obtain ⟨b1,b2⟩:=Zcz dy 50 h'.2
  exact .ret s (.bl _) fun Q q=>⟨_,_,ZdO s (Ziv rx h'.1),ZdO s (Ziv ry h'.2),a1,b1,Vak a2 (by decide),by rw [←ZhK dx dy 50 50 h'.1 h'.2];exact q⟩
 ·rw [if_neg h];trivial
theorem ZsW{K:W.Frag}{mg:Str→Option Value}:OpD K mg (rEqD K not) dNe:=by
 intro E F H x y dx dy s rx ry
 unfold dNe
 by_cases h:(Dl.plain 50 dx&&Dl.plain 50 dy)=true
 ·rw [if_pos h]
  have h':Dl.plain 50 dx=true∧Dl.plain 50 dy=true:=by simpa using h
  obtain ⟨a1,a2⟩:=Zcz dx 50 h'.1
  obtain ⟨b1,b2⟩:=Zcz dy 50 h'.2
  exact .ret s (.bl _) fun Q q=>⟨_,_,ZdO s (Ziv rx h'.1),ZdO s (Ziv ry h'.2),a1,b1,Vak a2 (by decide),by rw [←ZhK dx dy 50 50 h'.1 h'.2];exact q⟩
 ·rw [if_neg h];trivial
theorem yc7{k:Nat}(hr:Room k X.A)(ha:DE X E a ta ma)(hb:DE X E b tb mb):DE X E (.Compare a [.Eq] [b] pos) (tOp (rEqD X.K id) ta tb) (o2 dEq ma mb):=Znk (Zoz hr.units) Zor ha hb (ZcT _)
theorem Zvp{k:Nat}(hr:Room k X.A)(ha:DE X E a ta ma)(hb:DE X E b tb mb):DT X E (.Compare a [.Eq] [b] pos) (Zfu (tOp (rEqD X.K id) ta tb)) (trb (o2 dEq ma mb)):=ZgG (Zoz hr.units) Zor ha hb (ZcT _)
theorem Zkd{k:Nat}(hr:Room k X.A)(ha:DE X E a ta ma)(hb:DE X E b tb mb):DT X E (.Compare a [.NotEq] [b] pos) (Zfu (tOp (rEqD X.K not) ta tb)) (trb (o2 dNe ma mb)):=ZgG (Zsi hr.units) ZsW ha hb (ZcT _)
theorem Zo8{j pos'}(ha:DE X E a ta ma):DT X E (.Compare a [.Is] [.Constant .none j pos'] pos) (Zfu (tOp (fun x y H Q=>y=V.non∧Q (V.bl (decide (x=V.non))) H) ta (tC .non))) (trb (o1 dIsN ma)):=⟨ZiX Zs0 ha.p ZlE (ZcT _),Ziy (ZtZ ha.s)⟩
theorem Zmn{j pos'}(ha:DE X E a ta ma):DT X E (.Compare a [.IsNot] [.Constant .none j pos'] pos) (Zfu (tOp (fun x y H Q=>y=V.non∧Q (V.bl (!decide (x=V.non))) H) ta (tC .non))) (trb (o1 Zmk ma)):=⟨ZiX Zpo ha.p ZlE (ZcT _),Ziy (Zpy ha.s)⟩
theorem ycK(ha:DE X E a ta ma)(hb:DE X E b tb mb)(hs:Zla b:=by exact fun _ _=>rfl):DE X E (.Subscript a b pos) (tOp (rIxD X.K) ta tb) (o2 dIx ma mb):=⟨Zuy (IxR.or ZqW Zsp) ha.p hb.p hs,Znu ZsC ha.s hb.s⟩
theorem ZfO(ha:DE X E a ta ma)(he:∀whole,isTrue a X.env whole=(do let v ←whole;standAt a.pos;holding [v] (truthy v)):=by intro _;rfl):DT X E a (L2.tB ta) (trb ma):=⟨ZrS ha.p he,st_b ha.s⟩
theorem Zrb(ha:DT X E a sa na):DW X E (.BoolOp .And [a] pos) sa na:=⟨ZpU ha.p,ha.s⟩
theorem ZjS(ha:DT X E a sa na):DW X E (.BoolOp .Or [a] pos) sa na:=⟨Ztw ha.p,ha.s⟩
theorem ZoK{rest:List Expr}(ha:DT X E a sa na)(hb:DW X E (.BoolOp .And (b::rest) pos) sb nb):DW X E (.BoolOp .And (a::b::rest) pos) (tAnd sa sb) (bAnd na nb):=⟨ZrN ha.p hb.p,Zs5 ha.s hb.s⟩
theorem ZmA{rest:List Expr}(ha:DT X E a sa na)(hb:DW X E (.BoolOp .Or (b::rest) pos) sb nb):DW X E (.BoolOp .Or (a::b::rest) pos) (tOr sa sb) (bOr na nb):=⟨Zuu ha.p hb.p,ZuR ha.s hb.s⟩
theorem DW.dt(h:DW X E a sa na):DT X E a sa na:=⟨h.p.pt,h.s⟩
theorem Zhv(ha:DT X E a sa na):DT X E (.UnaryOp .Not a pos) (tNot sa) (bNot na):=⟨ZsT ha.p,Zte ha.s⟩
theorem Zvc{op}(ha:DE X E a ta ma):DE X E (.BoolOp op [a] pos) ta ma:=⟨ZrX ha.p,ha.s⟩
theorem Zup{rest:List Expr}(ha:DE X E a ta ma)(hb:DE X E (.BoolOp .And (b::rest) pos) tb mb):DE X E (.BoolOp .And (a::b::rest) pos) (Zp3 ta tb) (eAnd ma mb):=⟨Zt1 ha.p hb.p,Ztu ha.s hb.s⟩
theorem Zvj(ha:DE X E a ta ma):DE X E (.UnaryOp .Not a pos) (Zrd ta) (eNot ma):=⟨ZtU ha.p,Zsc ha.s⟩
theorem Zuo(hc:DT X E c' sa na)(ha:DE X E a ta ma)(hb:DE X E b tb mb):DE X E (.IfExp c' a b pos) (tIf sa ta tb) (ife na ma mb):=⟨ZnF hc.p ha.p hb.p,Ztl hc.s ha.s hb.s⟩
theorem Zaj:DA X E 0 [] tNil yaa:=⟨ZeQ,Zo1,Zl0⟩
theorem Zab(ha:DE X E e te me)(hr:DA X E n es t m)(hs:starEach (e::es) X.env=(false,eval e X.env)::starEach es X.env:=by rfl):DA X E (n+1) (e::es) (Zb5 te t) (Zaa me m):=⟨Zb2 ha.p hr.p hs,Zqf ha.s hr.s,Zn7 hr.n⟩
theorem Zd0{x1}(h:DA X E n es t m)(hn:n≤sizeLine:=by decide):DE X E (.Tuple es x1 pos) (tTup t) (mtp m):=⟨Zty h.p,ZrJ h.s h.n hn⟩
theorem Zg2(h:DA X E n es t m)(hn:n≤sizeLine:=by decide):DE X E (.List es pos) (tLst t) (mls m):=⟨Zo6 h.p,Zua h.s h.n hn⟩
theorem yco{id:String}{r:List V→Hp→VK→Prop}{f:List D→Res D}{x:Str}{p:Pos}(hc:Zex X (.builtin id) r)(hf:CallD X.K X.mg r f)(hg:Gl X x)(hm:X.mg x=none)(hv:bootBuiltins x=some (.builtin id))(ha:DA X E n (e::es) t m)(hn:x ≠ "__name__" := by decide)(hdb:(x==("__debug__" : Str))=false:=by decide)
  (he:starEach (e::es) X.env=(false,eval e X.env)::starEach es X.env:=by rfl) (hpl:(backTo pos (starEach es X.env)).any (·.1)=false:=by rfl):DE X E (.Call (.Name x p) (e::es) [] pos) (tCB r t) (on f m):=⟨Zjn hc hg hm hv ha.p hn hdb he hpl,ZsP hf ha.s⟩
theorem ycP{T:String}{r:List V→Hp→VK→Prop}{f:List D→Res D}{x:Str}{p:Pos}(hc:Zex X (.type T) r)(hf:CallD X.K X.mg r f)(hg:Gl X x)(hm:X.mg x=none)(hv:bootBuiltins x=some (.type T))(ha:DA X E n (e::es) t m)(hn:x ≠ "__name__" := by decide)(hdb:(x==("__debug__" : Str))=false:=by decide)
  (he:starEach (e::es) X.env=(false,eval e X.env)::starEach es X.env:=by rfl) (hpl:(backTo pos (starEach es X.env)).any (·.1)=false:=by rfl):DE X E (.Call (.Name x p) (e::es) [] pos) (tCB r t) (on f m):=⟨Zh7 hc hg hm hv ha.p hn hdb he hpl,ZsP hf ha.s⟩
structure Cal(P:Program)(w:World)(K:W.Frag)(mg:Str→Option Value)(base:Heap)(n:Nat)(x:Str)(ps:List Str)(m:List D→Res D):Prop where
 ex:∃(f:Addr) (fd:FuncData),FnOk P w K mg base (CXR P w) n f fd ps (spD K mg ps.length m)∧Binds K fd ps []∧W.keepIn K (.ref f)=true∧mg x=some (.ref f)
theorem ZaN{k l:Nat}{x:Str}{ps:List Str}{f:List D→Res D}{p:Pos}(C:Cal X.prog X.w X.K X.mg X.base k x ps f)(hr:Room l X.A)(hn:k≤l)(hg:Gl X x)(hx:ZbV (CXR X.prog X.w) X E)(ha:DA X E n (e::es) t m)(hps:ps.length=n:=by rfl)
  (hdb:(x==("__debug__" : Str))=false:=by decide) (he:starEach (e::es) X.env=(false,eval e X.env)::starEach es X.env:=by rfl) (hpl:(backTo pos (starEach es X.env)).any (·.1)=false:=by rfl) :
  DE X E (.Call (.Name x p) (e::es) [] pos) (Zit (spD X.K X.mg ps.length f) [] E t) (on f m):=by
 obtain ⟨g,fd,F,b,kp,hm⟩:=C.ex
 exact ⟨Zp2 F (hr.mono hn) hg hm kp b .nil hx ha.p hdb he hpl,by rw [hps];exact Zrx ha.s ha.n⟩
theorem Zss{N:List Str}{scope:Scope}{cl:List (Str×Addr)}{C:Addr}{s:Shared}{H:Hp}{fp:List Addr}{pn:List (Addr×Obj)}:ZbV (CXR X.prog X.w) (ZaJ X N scope cl C s H fp pn) E0:=by
 intro pins σ H s e s' I h
 obtain ⟨_,_,_,_,_,q⟩:=h
 exact q.elim
end
section
variable{X:Cx}{E:XK}{a b e c' tg:Expr}{es:List Expr}{ta tb tc te:TE}{ma mb mc me:ME}{sa sb:TT}{na nb:MB}{t:TA}{m:MA}{pos:Pos}{n:Nat}
theorem Zph:SlR X (rSlU X.K):=by
 intro pins s σ H x v vl vu lo hi sl Q I rx hs pl pu h
 obtain ⟨a,xs,rfl,hx,q1,q2⟩:=h
 by_cases hw:HT.sIx xs.length 0 lo=0∧HT.sIx xs.length xs.length hi=xs.length
 ·cases rx
  obtain ⟨its,r,ht,hz⟩:=I.tuple hx
  have hlen:its.toArray.size=xs.length:=by rw [Va9];exact r.length.symm
  exact ⟨"tuple", _,PyProof.Rows.slot_tuple_getitem.lookup,ht.typeIs,HT.ZdY ht hs pl pu (by rw [hlen];exact hw) ⟨.ref a,H,I,rfl,q1 hw⟩⟩
 ·exact Zr7 pins s σ H (.ref a) v vl vu lo hi sl Q I rx hs pl pu ⟨a,xs,rfl,hx,hw,q2 hw⟩
theorem ZiH:DO X E none ZiY pno:=⟨ZqB,Zi0⟩
theorem ZfS(h:DE X E a ta ma):DO X E (some a) (Zrf ta) (pso ma):=⟨Zqt h.p,ZiW h.s⟩
theorem Zm0{lo hi:Option Expr}{tl th:TO}{ml mh:Ev→Res (Option Int)}{p2:Pos}(ha:DE X E a ta ma)(hl:DO X E lo tl ml)(hh:DO X E hi th mh):DE X E (.Subscript a (.Slice lo hi none p2) pos) (tSl (rSlD X.K) ta tl th) (cut ma ml mh) :=
 ⟨Zn3 (SlR.or Zqn Zph) ha.p hl.p hh.p,ZtD ha.s hl.s hh.s⟩
theorem Zru{K:W.Frag}{d:D}{tn n:String}(ht:ZjB d=some tn)(hn:Zjg.contains n=true):W.kitOne K (.type tn) (.type n)=some (isTy tn n):=by
 have hn':n = "int"∨n = "bool"∨n = "str"∨n = "tuple"∨n = "list"∨n = "dict" := by
  simpa [Zjg] using hn
 have ht':tn = "NoneType"∨tn = "bool"∨tn = "int"∨tn = "str"∨tn = "tuple"∨tn = "list" := by
  cases d<;>simp [ZjB] at ht<;>subst ht<;>simp
 rcases ht' with rfl | rfl | rfl | rfl | rfl | rfl<;>rcases hn' with rfl | rfl | rfl | rfl | rfl | rfl <;>
  first
  | exact ZnG K _
  | exact Zug K (by decide +kernel) (by decide +kernel) (by decide +kernel)
def rIsi(K:W.Frag):List V→Hp→VK→Prop:=fun xs H Q=>∃x n tn b,xs=[x,.ty n]∧W.kitOne K (.type tn) (.type n)=some b∧Q (.bl b) H ∧
 ((x=.non∧tn = "NoneType")∨(∃y,x=.bl y∧tn = "bool")∨(∃y,x=.int y∧tn = "int")∨(∃y,x=.str y∧tn = "str")∨(∃a xs,x=.ref a∧SqT K H a xs∧tn = "tuple")∨(∃a xs,x=.ref a∧SqL K H a xs∧tn = "list"))
theorem Zli:Zex X (.builtin "isinstance") (rIsi X.K):=by
 intro pins s σ H xs us Q I r h
 obtain ⟨x,n,tn,bb,rfl,e,q,h⟩:=h
 obtain ⟨u,w',rfl,r1,r2⟩:=vals2 r
 cases r2
 have fin:∀tk,EP X pins σ Q (.bool bb) { s with toks:=tk }:=fun tk=>⟨.bl bb,H,I.tok _,rfl,q⟩
 rcases h with ⟨rfl,rfl⟩ | ⟨y,rfl,rfl⟩ | ⟨y,rfl,rfl⟩ | ⟨y,rfl,rfl⟩ | ⟨a,xs,rfl,hq,rfl⟩ | ⟨a,xs,rfl,hq,rfl⟩
 ·exact Zey I r1 .non e fin
 ·exact Zey I r1 (.bl y) e fin
 ·exact Zey I r1 (.int y) e fin
 ·exact Zey I r1 (.str y) e fin
 ·cases r1
  obtain ⟨its,_,⟨o,h1,h2,_⟩,_⟩:=I.tuple hq
  exact VaU W.kitx_tuple I.kIn ⟨o,h1,h2⟩ e (fun z=>nomatch z) fin
 ·cases r1
  obtain ⟨its,_,⟨o,_,h1,h2,_⟩,_⟩:=I.list hq
  exact VaU W.kitx_list I.kIn ⟨o,h1,h2⟩ e (fun z=>nomatch z) fin
theorem ZkH{K:W.Frag}{mg:Str→Option Value}:CallD K mg (rIsi K) bIsi:=by
 intro E F H xs ds s r
 unfold bIsi
 split
 ·next d nm =>
  obtain ⟨x,y,rfl,rx,ry⟩:=r.two
  cases ry
  by_cases hn:Zjg.contains nm=true
  ·rw [if_pos hn]
   cases e:ZjB d with
   | none=>trivial
   | some tn =>
    have k:=Zru (K:=K) e hn
    show Ans mg E (Rp K mg) F H (.ok (.bl (isTy tn nm))) _
    refine .ret s (.bl _) fun Q q=>⟨x,nm,tn,_,rfl,k,q,?_⟩
    cases rx with
    | non=>cases e;exact .inl ⟨rfl,rfl⟩
    | bl y=>cases e;exact .inr (.inl ⟨y,rfl,rfl⟩)
    | int y=>cases e;exact .inr (.inr (.inl ⟨y,rfl,rfl⟩))
    | str y=>cases e;exact .inr (.inr (.inr (.inl ⟨y,rfl,rfl⟩)))
    | ty y=>cases e
    | cls y=>cases e
    | exc y h=>cases e
    | ins m h o q r=>cases e
    | tup h r=>cases e;exact .inr (.inr (.inr (.inr (.inl ⟨_,_,rfl,ZaF s h,rfl⟩))))
    | lst h r=>cases e;exact .inr (.inr (.inr (.inr (.inr ⟨_,_,rfl,s.seq h,rfl⟩))))
  ·rw [if_neg hn];trivial
 ·trivial
theorem ZdI{i:Nat}{x:Str}(hN:X.N.Nodup)(hi:X.N[i]?=some x)(hx:Loc X.env.scope x)(hl:i<n)(hf:X.fn x=true∨X.env.scope.names.lookup x=some .local:=by first | exact .inl rfl | exact .inr rfl | assumption):DG X n (.Name x pos) (ZfL i) (gN i) :=
 ⟨Zp7 hN hi hx hf,Zqj hl,fun _ _ _ h=>by cases h⟩
theorem ZlA:DGs X n [] gNil gs0:=⟨Zpb,ZrB,fun d ρ c h=>by
 unfold gs0 at h
 split at h<;>cases h⟩
theorem ZgZ{t:TG}{u:TGs}{g:MG}{gs:MGs}(h1:DG X n e t g)(h2:DGs X n es u gs)(hs:(assignEach (e::es) X.env).map (·.2)=assign e X.env::(assignEach es X.env).map (·.2):=by rfl):DGs X n (e::es) (Zpd t u) (gs1 g gs) :=
 ⟨Zn0 h1.p h2.p hs,ZmV h1.s h2.s,fun d ρ c h=>by
  unfold gs1 at h
  split at h
  ·next d' ds =>
   cases eg:g d' ρ with
   | ok ρ' =>
    rw [eg] at h
    exact h2.x ds ρ' c h
   | ex c'=>exact h1.x d' ρ c' eg
   | bad=>rw [eg] at h;cases h
  ·cases h⟩
theorem ZoR{k:Nat}{u:TGs}{g:MGs}{j:Nat}(hc:X.calm=true)(h:DGs X n es u g)(hn:(assignEach es X.env).length=j:=by rfl)(hst:(assignEach es X.env).findIdx? (·.1)=none:=by rfl):DG X n (.Tuple es k pos) (gSeq X.K j u) (gU j g):=by
 refine ⟨?_,ZsS h.s,fun d ρ c hh=>?_⟩
 ·intro pins s σ H v w Q I r hw
  rcases hw with hw | hw
  ·exact ZsX hc h.p hn hst pins s σ H v w Q I r hw
  ·obtain ⟨a,xs,e1,hq,hl,hw⟩:=hw
   subst e1
   cases r
   obtain ⟨its,rv,ht,hz⟩:=I.list hq
   refine ZeK (I.ok.hd hc) ht.isList (by simp [hn,←hl,rv.length]) hst fun h' hx=>?_
   have I1:Inv X pins σ H { s with heap:=h' }:=I.kept (t':=s.toks) fun b o e=>hx b o (Vah (Vae e)) e
   exact h.p pins _ σ H xs _ Q I1 (by simpa using rv) hw
 ·unfold gU at hh
  cases ei:items d with
  | ok xs =>
   rw [ei] at hh
   have hh':(if xs.length=j then g xs ρ else .bad)=.ex c:=hh
   split at hh'
   ·exact h.x xs ρ c hh'
   ·cases hh'
  | ex c'=>unfold items at ei;split at ei<;>cases ei
  | bad=>rw [ei] at hh;cases hh
theorem Za4(h:DE X E a ta ma):DI X E tg a (iSeq X.K ta) (iv ma):=by
 refine ⟨?_,Zud h.s⟩
 intro pins s σ H R I hw
 refine thn (h.p pins s σ H _ I hw) fun v s1 ⟨x,H1,I1,r1,q1⟩=>?_
 obtain ⟨p,rfl,q1⟩:=q1
 cases r1
 rcases q1 with ⟨⟨xs,hq⟩,q⟩ | ⟨⟨xs,hq⟩,q⟩
 ·obtain ⟨its,rv,pl,hz⟩:=I1.list hq
  refine Vbv pl.isList ?_
  refine ⟨s1.heap.objs.size,[s1.heap.objs.size],_,_,H1,rfl,I1.kept (t':=s1.toks) fun b o e=>VaC _ e,Zme p _,⟨_,VaH _ rfl,rfl,rfl⟩,fun b hb=>?_,q⟩
  have e:b=s1.heap.objs.size:=by simpa using hb
  subst e
  exact I1.fpOk (VaI _) (I1.hok.fresh (VaI _))
 ·obtain ⟨its,rv,pl,hz⟩:=I1.tuple hq
  refine wpAny_pyIter_tuple (show s1.heap.IsTuple p its.toArray from pl) ?_
  refine ⟨s1.heap.objs.size,[s1.heap.objs.size],_,_,H1,rfl,I1.kept (t':=s1.toks) fun b o e=>VaC _ e,ZkA p _,⟨_,VaH _ rfl,rfl,rfl⟩,fun b hb=>?_,q⟩
  have e:b=s1.heap.objs.size:=by simpa using hb
  subst e
  exact I1.fpOk (VaI _) (I1.hok.fresh (VaI _))
theorem Zqr{p:Pos}(hg:Gl X "range")(hm:X.mg "range"=none)(ha:DA X E n [a] t m)(hs:starEach [a] X.env=[(false,eval a X.env)]:=by rfl):DI X E tg (.Call (.Name "range" p) [a] [] pos) (Zpk t) (r1 m):=⟨Zmy hg hm ha.p hs,ZuV ha.s⟩
theorem Zie:∀(xs ys:List D) (i:Nat) (d:D),(pairs xs ys)[i]?=some d→∃x y,xs[i]?=some x∧ys[i]?=some y∧d=.tup [x,y]
 | [],_,_,_,h=>by simp [pairs] at h
 | _::_,[],_,_,h=>by simp [pairs] at h
 | x::r,y::s,0,d,h=>by simp [pairs] at h;exact ⟨x,y,rfl,rfl,h.symm⟩
 | x::r,y::s,i+1,d,h=>by
  obtain ⟨a,b,h1,h2,h3⟩:=Zie r s i d (by simpa [pairs] using h)
  exact ⟨a,b,by simpa using h1,by simpa using h2,h3⟩
theorem pairs_len:∀(xs ys:List D),(pairs xs ys).length=min xs.length ys.length
 | [],_=>by simp [pairs]
 | _::_,[]=>by simp [pairs]
 | x::r,y::s=>by simp [pairs,pairs_len r s]
theorem ZcH{K:W.Frag}{H H':Hp}{p:Bool}{a:Addr}{xs:List V}(e:Same H H')(h:SqB K p H a xs):SqB K p H' a xs:=by
 cases p
 ·exact e.seq h
 ·exact ZaF e h
theorem ZrE{K:W.Frag}{mg:Str→Option Value}{F:Hp}{p q:Bool}{a b:Addr}{xs ys:List V}{ds es:List D}(h:SqB K p F a xs)(r:Rps K mg F xs ds)(h':SqB K q F b ys)(r':Rps K mg F ys es):ItOk K mg F (ItzK K p q a b) (pairs ds es):=by
 intro F' H' s1 s2 i
 have hq:SqB K p H' a xs:=ZcH (s1.trans s2) h
 have hq':SqB K q H' b ys:=ZcH (s1.trans s2) h'
 refine ⟨fun d e=>?_,fun hl=>⟨xs,ys,hq,hq',by rw [r.length,r'.length];rw [pairs_len] at hl;omega⟩⟩
 obtain ⟨x',y',ea,eb,rfl⟩:=Zie ds es i d e
 obtain ⟨x,e1,rx⟩:=r.get ea
 obtain ⟨y,e2,ry⟩:=r'.get eb
 refine ⟨⟨xs,ys,x,y,hq,hq',e1,e2⟩,fun z H'' q=>?_⟩
 obtain ⟨T,p0,q0,hT,rfl,rfl,hp,hp'⟩:=q
 have f1:=hp xs hq
 have f2:=hp' ys hq'
 rw [e1] at f1;cases f1
 rw [e2] at f2;cases f2
 exact ⟨_,.new s2 hT _,.tup (SqT.of Zah) (.cons ((rx.same s1).same (ZaA (s2.free hT) _)) (.cons ((ry.same s1).same (ZaA (s2.free hT) _)) .nil))⟩
theorem Zh0{K:W.Frag}{mg:Str→Option Value}{F:Hp}{x:V}{d:D}{ds:List D}(r:Rp K mg F x d)(e:seqD d=.ok ds):∃p a xs,x=.ref a∧SqB K p F a xs∧Rps K mg F xs ds:=by
 cases r with
 | tup h q=>cases e;exact ⟨true,_,_,rfl,h,q⟩
 | lst h q=>cases e;exact ⟨false,_,_,rfl,h,q⟩
 | _=>cases e
theorem ZhO{d:D}{c:Str}:seqD d≠.ex c:=by cases d<;>intro h<;>cases h
theorem Zui{elts:List Expr}{x1:Nat}{tpos p:Pos}(hg:Gl X "zip")(hm:X.mg "zip"=none)(ha:DA X E n [a,b] t m)(hs:starEach [a,b] X.env=[(false,eval a X.env),(false,eval b X.env)]:=by rfl)(hs2:starEach [b] X.env=[(false,eval b X.env)]:=by rfl) :
  DI X E (.Tuple elts x1 tpos) (.Call (.Name "zip" p) [a,b] [] pos) (Zsl X.K t) (iZip m):=by
 refine ⟨ZqH hg hm ha.p hs hs2,?_⟩
 intro F0 H0 F H σ ρ rr
 refine (ha.s F0 H0 F H σ ρ rr).bind (w':=fun vs H1 R=>∃p q a b,vs=[V.ref a,V.ref b]∧(∃xs,SqB X.K p H1 a xs)∧(∃ys,SqB X.K q H1 b ys)∧R (ItzK X.K p q a b) H1) fun F1 H1 xs ds g1 rs=>?_
 unfold zip2
 split
 ·next d d' =>
  obtain ⟨x,y,rfl,rx,ry⟩:=rs.two
  cases e1:seqD d with
  | ok us =>
   cases e2:seqD d' with
   | ok ws =>
    obtain ⟨p1,l1,xs1,rfl,h1,r1⟩:=Zh0 rx e1
    obtain ⟨p2,l2,xs2,rfl,h2,r2⟩:=Zh0 ry e2
    exact Ans.ret (R:=ItOk X.K X.mg) g1.s (ZrE h1 r1 h2 r2) fun Q q=>⟨p1,p2,_,_,rfl,⟨_,ZcH g1.s h1⟩,⟨_,ZcH g1.s h2⟩,q⟩
   | ex c=>exact absurd e2 ZhO
   | bad=>trivial
  | ex c=>exact absurd e1 ZhO
  | bad=>trivial
 ·trivial
end
structure DTs(X:Cx)(E:XK)(ts:List Expr)(t:TT)(m:MB):Prop where
 p:PTs X ts t
 s:STt X.K X.mg E t m
section
variable{X:Cx}{E:XK}{a b e c' tg iter elt:Expr}{es ts:List Expr}{ta tb tc te:TE}{ma mb mc me:ME}{sa sb:TT}{na nb:MB}{t:TA}{m:MA}{pos spos pos':Pos}{n i j:Nat}{x y:Str}
theorem Ztm{K:W.Frag}{mg:Str→Option Value}{E:XK}:STt K mg E tYes yes:=fun _ _ _ _ _ _ r=>Ans.ret (R:=RB) r.ss rfl fun _ q=>q
theorem Zqz:DTs X E [] tYes yes:=⟨ZpM,Ztm⟩
theorem ZkT(h:DT X E a sa na):DTs X E [a] sa na:=⟨Zqy h.p,h.s⟩
theorem Zcf{own:List Str}{cap:List (Str×Nat)}{scope:Scope}{cl:List (Str×Addr)}{wi:TI}{mi:MI}{g:Fam TG}{gm:MG}{tt:Fam TT}{tf:Fam TE}(hi:DI X E tg iter wi mi)(O:ZcU X own cap scope cl)(hc:X.calm=true)
  (hg:∀C s H fp pn,DG (ZaJ X (own++cap.map (·.1)) scope cl C s H fp pn) own.length tg (g C s H fp pn) gm) (ht:∀C s H fp pn,DTs (ZaJ X (own++cap.map (·.1)) scope cl C s H fp pn) E0 ts (tt C s H fp pn) na)
  (he:∀C s H fp pn,DE (ZaJ X (own++cap.map (·.1)) scope cl C s H fp pn) E0 elt (tf C s H fp pn) me) (hts:ts.length≤1:=by decide) (hs:∀x,foldedSetIterable iter X.env x=pure x:=by intro _;rfl) :
  DE X E (.ListComp elt [⟨tg,iter,ts,0⟩] scope pos) (ZeS wi g tt tf own cap) (comp mi own.length (cap.map (·.2)) gm na me) :=
 ⟨Zpw hi.p O hc (fun C s H fp pn=>(hg C s H fp pn).p) (fun C s H fp pn=>(ht C s H fp pn).p) (fun C s H fp pn=>(he C s H fp pn).p) hts hs,
  ZlO hi.s (fun C s H fp pn=>(hg C s H fp pn).s) (fun C s H fp pn=>(ht C s H fp pn).s) (fun C s H fp pn=>(he C s H fp pn).s)⟩
theorem ZfF{own:List Str}{cap:List (Str×Nat)}{scope:Scope}{cl:List (Str×Addr)}{wi:TI}{mi:MI}{g:Fam TG}{gm:MG}{tt:Fam TT}{tf:Fam TE}(hN:X.N.Nodup)(hix:X.N[i]?=some x)(hx:Loc X.env.scope x)(hi:DI X E tg iter wi mi)(O:ZcU X own cap scope cl)(hc:X.calm=true)
  (hg:∀C s H fp pn,DG (ZaJ X (own++cap.map (·.1)) scope cl C s H fp pn) own.length tg (g C s H fp pn) gm) (ht:∀C s H fp pn,DTs (ZaJ X (own++cap.map (·.1)) scope cl C s H fp pn) E0 ts (tt C s H fp pn) na)
  (he:∀C s H fp pn,DE (ZaJ X (own++cap.map (·.1)) scope cl C s H fp pn) E0 elt (tf C s H fp pn) me) (hts:ts.length≤1:=by decide)
  (hsw:swapsWith (.ListComp elt [⟨tg,iter,ts,0⟩] scope pos) (some (.Name x pos')) spos.line X.env=pure true:=by rfl)
  (hs:∀x,foldedSetIterable iter X.env x=pure x:=by intro _;rfl)
  (hf:X.fn x=true∨X.env.scope.names.lookup x=some .local:=by first | exact .inl rfl | exact .inr rfl | assumption) :
  DS X E (.Assign [.Name x pos'] (.ListComp elt [⟨tg,iter,ts,0⟩] scope pos) spos) (tAsg (ZeS wi g tt tf own cap) (ZfL i)) (st i (comp mi own.length (cap.map (·.2)) gm na me)) :=
 ⟨Zkv hN hix hx hi.p O hc (fun C s H fp pn=>(hg C s H fp pn).p) (fun C s H fp pn=>(ht C s H fp pn).p) (fun C s H fp pn=>(he C s H fp pn).p) hts hsw hs hf,
  Zot (ZlO hi.s (fun C s H fp pn=>(hg C s H fp pn).s) (fun C s H fp pn=>(ht C s H fp pn).s) (fun C s H fp pn=>(he C s H fp pn).s))⟩
theorem Za3(hN:X.N.Nodup)(hi:X.N[i]?=some x)(hx:Loc X.env.scope x)(he:DE X E e te me)(hs:swapsWith e (some (.Name x pos')) spos.line X.env=pure false:=by rfl)(hf:X.fn x=true∨X.env.scope.names.lookup x=some .local:=by first | exact .inl rfl | exact .inr rfl | assumption) :
  DS X E (.Assign [.Name x pos'] e spos) (tAsg te (ZfL i)) (st i me):=⟨Zou hN hi hx he.p hs hf,Zot he.s⟩
theorem Zr2{g:TG}{gm:MG}(he:DE X E e te me)(hg:DG X 1000 tg g gm)(hs:swapsWithSole [tg] e spos.line X.env=pure false:=by rfl)(hw:swappedStores [tg] e X.env=pure none:=by rfl)
  (h1:(assignEach [tg] X.env).map (·.2)=[assign tg X.env]:=by rfl):DS X E (.Assign [tg] e spos) (tAsg te g) (asg gm me):=⟨ZrM he.p hg.p hs hw h1,Zr4 he.s hg.s hg.x⟩
theorem ZkP(he:DE X E e te me)(hs:swapsWith e none spos.line X.env=pure false:=by rfl):DS X E (.Expr e spos) (ZfC te) (drp me):=⟨Zfh he.p hs,ZqI he.s⟩
theorem Zbd(he:DE X E e te me):DS X E (.Return (some e) spos) (tRet te) (ret me):=⟨ZtA he.p,Zsk he.s⟩
theorem ZoC:DS X E (.Continue spos) ZqU cnt:=⟨Zir,ZtE⟩
theorem ZsQ{st:Stmt}{u:TS}{k:MS}(h:DS X E st u k):DS X E st u (frz i k):=⟨h.p,Ztp h.s⟩
theorem ZaQ:DSs X E [] Zom nop:=⟨Zmb,Zso⟩
theorem Zap{st:Stmt}{u:TS}{k:MS}(h:DS X E st u k):DSs X E [st] u k:=⟨Zpr h.p,h.s⟩
theorem Zad{st:Stmt}{rest:List Stmt}{u u':TS}{k k':MS}(h:DS X E st u k)(h':DSs X E rest u' k'):DSs X E (st::rest) (tSeq u u') (sq k k'):=⟨Ze7 h.p h'.p,ZrQ h.s h'.s⟩
theorem ZcP{as bs:List Stmt}{u u':TS}{k k':MS}(hc:DT X E c' sa na)(ha:DSs X E as u k)(hb:DSs X E bs u' k'):DS X E (.If c' as bs spos) (tIfS sa u u') (ifs na k k'):=⟨Zu6 hc.p ha.p hb.p,Zuv hc.s ha.s hb.s⟩
theorem Zfv{body:List Stmt}{wi:TI}{mi:MI}{g:TG}{gm:MG}{u:TS}{k:MS}(hp:PassesOwn (model X.prog X.w) X.A X.env X.xe)(hc:X.calm=true)(hi:DI X E tg iter wi mi)(hg:DG X 1000 tg g gm)(hb:DSs X E body u k)
  (hs:∀x,foldedSetIterable iter X.env x=pure x:=by intro _;rfl):DS X E (.For tg iter body [] spos) (tFor wi g u) (for_ mi gm k):=⟨Ztf hp hc hi.p hg.p hb.p hs,Ztq hi.s hg.s hg.x hb.s⟩
theorem ZoU{body:List Stmt}{u:TS}{k:MS}{fu:Ev→Nat}(hp:PassesOwn (model X.prog X.w) X.A X.env X.xe)(hc:DT X E c' sa na)(hb:DSs X E body u k):DS X E (.While c' body [] spos) (ZjG sa u) (whl fu na k):=⟨ZnO hp hc.p hb.p,ZnC hc.s hb.s⟩
theorem ZrT{px py pt:Pos}{kt k2 pt2}(hc:X.calm=true)(hN:X.N.Nodup)(hi:X.N[i]?=some x)(hj:X.N[j]?=some y)(hij:i≠j)
  (hx:X.env.scope.names.lookup x=some .local) (hy:X.env.scope.names.lookup y=some .local) (ha:DE X E a ta ma) (hb:DE X E b tb mb)
  (hw:swappedStores [.Tuple [.Name x px,.Name y py] kt pt] (.Tuple [a,b] k2 pt2) X.env=pure (some [x,y]):=by rfl)
  (hs:swapsWithSole [.Tuple [.Name x px,.Name y py] kt pt] (.Tuple [a,b] k2 pt2) spos.line X.env=pure false:=by rfl)
  (hs1:starEach [a,b] X.env=(false,eval a X.env)::starEach [b] X.env:=by rfl) (hs2:starEach [b] X.env=(false,eval b X.env)::starEach [] X.env:=by rfl) :
  DS X E (.Assign [.Tuple [.Name x px,.Name y py] kt pt] (.Tuple [a,b] k2 pt2) spos) (tPar i j (Zb5 ta (Zb5 tb tNil))) (par i j ma mb) :=
 ⟨ZtG hc hN hi hj hij hx hy (Zb2 ha.p (Zb2 hb.p ZeQ hs2) hs1) hw hs,Zth ha.s hb.s⟩
end
section
variable{P:Program}{w:World}{K:W.Frag}{mg:Str→Option Value}{base:Heap}{N ps:List Str}{qual x:Str}{scope:Scope}{f:Addr}{cd:Value}{A:Around}{outer:List Env}{s₀:Shared}{H₀:Hp}{E:XK}{t:TA}{m:MA}{n:Nat}
theorem Zgu{C:Addr}{np cpos pos:Pos}{e:Expr}{es:List Expr}(hg:Gl (cxOf (CXR P w) P w K mg base N qual scope f cd A outer s₀ H₀ E) x)(hm:mg x=some (.ref C))(hq:W.excIn K C Zha "ValueError.__new__"=true)
  (ha:DA (cxOf (CXR P w) P w K mg base N qual scope f cd A outer s₀ H₀ E) E n (e::es) t m) (hn:n≤1000:=by decide) (hd:(x==("__debug__" : Str))=false:=by decide)
  (he:starEach (e::es) (cxOf (CXR P w) P w K mg base N qual scope f cd A outer s₀ H₀ E).env=(false,eval e (cxOf (CXR P w) P w K mg base N qual scope f cd A outer s₀ H₀ E).env)::starEach es (cxOf (CXR P w) P w K mg base N qual scope f cd A outer s₀ H₀ E).env:=by rfl)
  (hpl:(backTo cpos (starEach es (cxOf (CXR P w) P w K mg base N qual scope f cd A outer s₀ H₀ E).env)).any (·.1)=false:=by rfl) :
  DS (cxOf (CXR P w) P w K mg base N qual scope f cd A outer s₀ H₀ E) E (.Raise (some (.Call (.Name x np) (e::es) [] cpos)) none pos) (ZoY E C t) (rse x m):=by
 refine ⟨ZnH hg hm hq ha.p hd he hpl,?_⟩
 intro F0 H0 F H σ ρ rr
 refine (ha.s F0 H0 F H σ ρ rr).stm (w':=fun vs H1 _=>vs.length≤1000∧E (.ref C) none H1) rr.g fun ds ed F1 H1 vs g1 rs=>?_
 exact fun D q=>⟨by rw [rs.length,ha.n ρ ds ed];exact hn,q F1 H1 C (rr.g.trans g1) hm⟩
theorem ZfI{F H:Hp}{vs:List V}{ds:List D}(s:Same F H)(r:Rps K mg F vs ds):Rep K mg F H F H (start N vs) (ev0 N.length ds):=by
 have hl:=r.length
 have key:∀(i:Nat) (c:Cl),(ev0 N.length ds)[i]?=some c→c=.no∨∃d,ds[i]?=some d∧c=.im d:=by
  intro i c e
  rw [ZhA] at e
  by_cases hi:i<ds.length
  ·rw [Va4 (by simpa using hi),Va5,VbM hi] at e
   exact .inr ⟨ds[i],VbM hi,(Vav e).symm⟩
  ·rw [Va2 (by simpa using hi),Va3] at e
   split at e
   ·exact .inl (Vav e).symm
   ·cases e
 refine ⟨.refl s,?_,fun i d e=>?_,fun i ds' e=>?_,fun i j ds' es' a e=>?_⟩
 ·rw [ZhA]
  unfold start
  simp [hl]
 ·rcases key i _ e with z | ⟨d',e1,z⟩
  ·cases z
  ·cases z
   obtain ⟨v,e2,rv⟩:=r.get e1
   refine ⟨v,?_,rv⟩
   have hi:i<vs.length:=(Vau.mp e2).1
   unfold start
   rw [Va4 (by simpa using hi),Va5,e2]
   rfl
 ·rcases key i _ e with z | ⟨d',e1,z⟩<;>cases z
 ·rcases key i _ e with z | ⟨d',e1,z⟩<;>cases z
theorem okD{st:Stmt}{fd:FuncData}{k:Nat}{mb:MS}(F:Fun K x x st f fd)(S:Zae N ps (Zac st))
  (h:∀(cdv:Value) (A:Around) (outer:List Env) (s:Shared) (H:Hp) (E:XK),Room k (A.deeper (envOfC x (Zac st) s.heap.objs.size f cdv))→∃t,DSs (cxOf (CXR P w) P w K mg base N x (Zac st) f cdv A outer s H E) E (Za8 st) t mb) :
  FnOk P w K mg base (CXR P w) (k+1) f fd ps (spD K mg ps.length (fn N.length mb)):=by
 obtain ⟨oc,od,kV,doc,pm,an,cdv,ct,osl,rfl,lk,hcd⟩:=F.ex
 refine Zm4 lk hcd S (fun vs H Q E q=>q.1) fun A outer s H vs Q E hr hsp=>?_
 obtain ⟨t,hd⟩:=h cdv A outer s H E hr
 refine ⟨t,hd.p,?_⟩
 obtain ⟨_,F0,ds,s0,rs,hb,hok,hex⟩:=hsp
 have z:=hd.s F0 H F0 H (start N vs) (ev0 N.length ds) (ZfI s0 rs)
 unfold fn at hb hok hex
 cases e:mb (ev0 N.length ds) with
 | ok fl =>
  rw [e] at z hb hok hex
  cases fl with
  | nx ρ=>exact z _ fun F' H' σ' _ r'=>hok .non rfl F' H' .non r'.g .non
  | rt d=>exact z _ fun F' H' v g rv=>hok d rfl F' H' v g rv
  | bk ρ=>exact absurd rfl hb
  | ct ρ=>exact absurd rfl hb
 | ex c =>
  rw [e] at z hex
  exact z _ fun F' H' C g hc=>hex c rfl F' H' C g hc
 | bad=>rw [e] at hb;exact absurd rfl hb
theorem _root_.L2.Def.cal{st:Stmt}{k:Nat}{mb:MS}(D:Def K mg x st ps)(S:Zae N ps (Zac st))
  (h:∀(f:Addr) (cdv:Value) (A:Around) (outer:List Env) (s:Shared) (H:Hp) (E:XK),Room k (A.deeper (envOfC x (Zac st) s.heap.objs.size f cdv))→∃t,DSs (cxOf (CXR P w) P w K mg base N x (Zac st) f cdv A outer s H E) E (Za8 st) t mb) :
  Cal P w K mg base (k+1) x ps (fn N.length mb):=by
 obtain ⟨f,fd,F,b,hm⟩:=D.ex
 exact ⟨f,fd,okD F S (h f),b,F.kp,hm⟩
end
theorem ZsH{P:Program}{w:World}{l:List Env}{H:Hp}{s s':Shared}{e:Value}(h:CXR P w l H s (fun _ _ _=>False) e s'):False:=by
 obtain ⟨_,_,_,_,_,q⟩:=h
 exact q
def Zoj(K:W.Frag):Sp:=fun vs H Q _=>∃(a:Addr) (ns:List Int),vs=[.ref a]∧SqL K H a (ns.map V.int)∧ns.length≤63∧∀H',Q (.bl true) H'
theorem ZjD{K:W.Frag}{mg:Str→Option Value}{H:Hp}:∀ns:List Int,Rps K mg H (ns.map V.int) (ns.map D.int)
 | []=>.nil
 | n::r=>.cons (.int n) (ZjD r)
theorem Zsj{K:W.Frag}{mg:Str→Option Value}{m:List D→Res D}(h:∀ns:List Int,ns.length≤63→m [.lst (ns.map .int)]=.ok (.bl true)):∀vs H Q E,Zoj K vs H Q E→spD K mg 1 m vs H Q E:=by
 rintro vs H Q E ⟨a,ns,rfl,hS,hl,q⟩
 have e:=h ns hl
 refine ⟨rfl,H,_,Same.refl _,.cons (.lst hS (ZjD ns)) .nil,fun z=>?_,fun d e'=>?_,fun c e'=>?_⟩
 ·rw [e] at z;cases z
 ·rw [e] at e';cases e'
  intro F' H' x _ rx
  cases rx
  exact q H'
 ·rw [e] at e';cases e'
theorem Zff{X:Cx}{N:List Str}{scope:Scope}{cl:List (Str×Addr)}{C':Addr}{s:Shared}{H:Hp}{fp:List Addr}{pn:List (Addr×Obj)}{e:Expr}{es:List Expr}{t:TA}{m:MA}{n k l:Nat}{x:Str}{ps:List Str}{f:List D→Res D}{p pos:Pos}
  (C:Cal X.prog X.w X.K X.mg X.base k x ps f) (hr:Room l X.A) (hn:k≤l) (hg:Gl (ZaJ X N scope cl C' s H fp pn) x) (ha:DA (ZaJ X N scope cl C' s H fp pn) E0 n (e::es) t m) (hps:ps.length=n:=by rfl)
  (hdb:(x==("__debug__" : Str))=false:=by decide) (he:starEach (e::es) (ZaJ X N scope cl C' s H fp pn).env=(false,eval e (ZaJ X N scope cl C' s H fp pn).env)::starEach es (ZaJ X N scope cl C' s H fp pn).env:=by rfl)
  (hpl:(backTo pos (starEach es (ZaJ X N scope cl C' s H fp pn).env)).any (·.1)=false:=by rfl) :
  DE (ZaJ X N scope cl C' s H fp pn) E0 (.Call (.Name x p) (e::es) [] pos) (Zit (spD X.K X.mg ps.length f) [] E0 t) (on f m) :=
 ZaN (X:=ZaJ X N scope cl C' s H fp pn) C hr hn hg Zss ha hps hdb he hpl
section
variable{X:Cx}{E:XK}
theorem all_range:∀bs:List Bool,((List.range bs.length).all fun i=>bs.getD i true)=bs.all id
 | []=>rfl
 | b::r=>by
  rw [VaO,List.range_succ_eq_map,List.all_cons,List.all_map,List.all_cons,←all_range r]
  rfl
theorem ZeH:∀(bs:List Bool) (its:List Value),Vals (bs.map V.bl) its→its=bs.map Value.bool
 | [],_,.nil=>rfl
 | b::r,_,.cons h t=>by
  cases h
  rw [VaP,ZeH r _ t]
def rAll(K:W.Frag):List V→Hp→VK→Prop:=fun xs H Q=>∃(a:Addr) (bs:List Bool),xs=[.ref a]∧SqL K H a (bs.map V.bl)∧Q (.bl (bs.all id)) H
theorem Zd3(hc:X.calm=true):Zex X (.builtin "all") (rAll X.K):=by
 intro pins s σ H xs us Q I r h
 obtain ⟨a,bs,rfl,hq,q⟩:=h
 obtain ⟨u,rfl,r1⟩:=vals1 r
 cases r1
 obtain ⟨its,rv,pl,hz⟩:=I.list hq
 obtain rfl:=ZeH bs its rv
 have la:a<s.heap.objs.size:=by
  obtain ⟨o,_,ho,_⟩:=pl
  exact Vae ho
 refine call_all_walk (Vbv pl.isList ?_)
 refine ⟨s.heap.objs.size,_,_,_,_,_,fun i=>bs.getD i true,rfl,Walks.list (A:=X.A.in1) (I.ok.hd hc) s.heap.objs.size a (Vah la) (bs.map Value.bool).toArray,⟨⟨_,VaH _ rfl,rfl,rfl⟩,?_⟩,?_,fun h' tk k=>?_⟩
 ·exact pl.isList.at fun o e=>VaC _ e
 ·intro i v s2 Q2 E2 hP hQ
  have e:v=.bool (bs.getD i true):=by
   rw [VbQ,Va5] at hP
   cases q:bs[i]? with
   | none=>rw [q] at hP;cases hP
   | some b =>
    rw [q] at hP
    cases hP
    rw [VbR,q];rfl
  subst e
  exact VaA hQ
 ·have e:(List.range (bs.map Value.bool).toArray.size).all (fun i=>bs.getD i true)=bs.all id:=by
   rw [Va9,VaQ];exact all_range bs
  rw [e]
  exact ⟨.bl (bs.all id),H,I.kept fun b o z=>k b o (by simp;exact Vah (Vae z)) (VaC _ z),rfl,q⟩
theorem Zg3{K:W.Frag}{mg:Str→Option Value}{F:Hp}:∀{xs:List V} {ds:List D} {bs:List Bool},Rps K mg F xs ds→bools ds=.ok bs→xs=bs.map V.bl
 | _,_,_,.nil,e=>by cases e;rfl
 | _,_,bs,.cons (d:=d) (ds:=ds) h r,e=>by
  unfold bools at e
  cases d with
  | bl b =>
   cases q:bools ds with
   | ok bs' =>
    simp only [q,Res.bind] at e
    cases e
    cases h
    rw [VaP,Zg3 r q]
   | ex c=>simp only [q,Res.bind] at e;cases e
   | bad=>simp only [q,Res.bind] at e;cases e
  | _=>cases e
theorem ZgY{c:Str}:∀ds:List D,bools ds≠.ex c
 | [],h=>by cases h
 | d::r,h=>by
  unfold bools at h
  cases d with
  | bl b =>
   cases q:bools r with
   | ok bs'=>simp only [q,Res.bind] at h;cases h
   | ex c'=>exact ZgY r q
   | bad=>simp only [q,Res.bind] at h;cases h
  | _=>cases h
theorem Zem{K:W.Frag}{mg:Str→Option Value}:CallD K mg (rAll K) bAll:=by
 intro E F H xs ds s r
 unfold bAll
 split
 ·next d =>
  obtain ⟨x,rfl,rx⟩:=r.one
  cases d with
  | lst es =>
   cases rx with
   | lst h rs =>
    show Ans mg E (Rp K mg) F H ((bools es).bind fun bs=>.ok (.bl (bs.all id))) _
    cases q:bools es with
    | ok bs =>
     have e:=Zg3 rs q
     subst e
     exact Ans.ret s (.bl _) fun Q z=>⟨_,bs,rfl,s.seq h,z⟩
    | ex c=>exact absurd q (ZgY es)
    | bad=>trivial
  | _=>trivial
 ·trivial
theorem Rps.three{K:W.Frag}{mg:Str→Option Value}{H:Hp}{xs:List V}{d e f:D}(h:Rps K mg H xs [d,e,f]):∃x y z,xs=[x,y,z]∧Rp K mg H x d∧Rp K mg H y e∧Rp K mg H z f:=by
 cases h with | cons h r=>obtain ⟨_,_,rfl,g⟩:=Rps.two r;exact ⟨_,_,_,rfl,h,g⟩
end
section
variable{X:Cx}{E:XK}
theorem Zdm:∀(ns:List Int) (its:List Value),Vals (ns.map V.int) its→∃xs:List (Int×Tok),its=xs.map (fun p=>Value.int p.1 p.2)∧xs.map (·.1)=ns
 | [],_,.nil=>⟨[],rfl,rfl⟩
 | n::r,_,.cons h t=>by
  obtain ⟨tk,rfl⟩:=h
  obtain ⟨xs,rfl,rfl⟩:=Zdm r _ t
  exact ⟨(n,tk)::xs,rfl,rfl⟩
theorem Ze3(xs:List (Int×Tok)):(xs.map (fun p=>Value.int p.1 p.2)).toArray=intItems xs.toArray:=by simp [intItems]
theorem Zmw:∀(r:List Int) (n:Int),n≤r.foldl max n∧(∀a∈r,a≤r.foldl max n)∧(r.foldl max n=n∨r.foldl max n∈r)
 | [],n=>⟨Int.le_refl _,(fun _ h=>absurd h VbH),.inl rfl⟩
 | a::r,n=>by
  obtain ⟨h1,h2,h3⟩:=Zmw r (max n a)
  refine ⟨Int.le_trans (Int.le_max_left n a) h1,fun b hb=>?_,?_⟩
  ·rcases Var.mp hb with rfl | hb
   ·exact Int.le_trans (Int.le_max_right n b) h1
   ·exact h2 b hb
  ·show r.foldl max (max n a)=n∨r.foldl max (max n a)∈a::r
   rcases h3 with e | e
   ·rw [e]
    rcases Int.le_total n a with z | z
    ·rw [Int.max_eq_right z];exact .inr Vao
    ·rw [Int.max_eq_left z];exact .inl rfl
   ·exact .inr (Vap _ e)
def Zsd(K:W.Frag):List V→Hp→VK→Prop:=fun xs H Q=>∃(a:Addr) (n:Int) (r:List Int),xs=[.ref a]∧SqL K H a ((n::r).map V.int)∧Q (.int (r.foldl max n)) H
theorem Zq4(xs:List (Int×Tok)){i:Nat}(h:i<xs.length):numAt xs.toArray i∈xs.map (·.1):=by
 unfold numAt
 rw [VbQ,VbM h]
 exact Vbs.mpr ⟨xs[i],VbS h,rfl⟩
theorem Zs4(xs:List (Int×Tok)){a:Int}(h:a∈xs.map (·.1)):∃i,i<xs.length∧a=numAt xs.toArray i:=by
 obtain ⟨p,hp,rfl⟩:=Vbs.mp h
 obtain ⟨i,hi,rfl⟩:=VbT.mp hp
 refine ⟨i,hi,?_⟩
 unfold numAt
 rw [VbQ,VbM hi]
 rfl
theorem ZlS(hc:X.calm=true):Zex X (.builtin "max") (Zsd X.K):=by
 intro pins s σ H xs us Q I r h
 obtain ⟨a,n,l,rfl,hq,q⟩:=h
 obtain ⟨u,rfl,r1⟩:=vals1 r
 cases r1
 obtain ⟨its,rv,pl,hz⟩:=I.list hq
 obtain ⟨zs,rfl,e2⟩:=Zdm _ _ rv
 have pl':=pl.isList
 rw [Ze3] at pl'
 have len:zs.length=l.length+1:=by rw [←VaQ (f:=(·.1)),e2];rfl
 refine max_intList (I.ok.hd hc) pl' (by simp;omega) fun v h' tk hv k=>?_
 obtain ⟨t,rfl⟩:=intItems_at hv
 obtain ⟨h1,h2⟩:=argBest_gt (numAt zs.toArray) (zs.toArray.size - 1)
 generalize hM:argBest (fun i j=>decide (numAt zs.toArray i>numAt zs.toArray j)) (zs.toArray.size - 1)=M at *
 have sz:zs.toArray.size=zs.length:=by simp
 have m1:numAt zs.toArray M∈n::l:=by rw [←e2];exact Zq4 zs (by omega)
 have m2:∀b∈n::l,b≤numAt zs.toArray M:=fun b hb=>by
  rw [←e2] at hb
  obtain ⟨i,hi,rfl⟩:=Zs4 zs hb
  exact h2 i (by omega)
 obtain ⟨f1,f2,f3⟩:=Zmw l n
 have e:numAt zs.toArray M=l.foldl max n:=by
  refine Int.le_antisymm ?_ ?_
  ·rcases Var.mp m1 with z | z
   ·rw [z];exact f1
   ·exact f2 _ z
  ·refine m2 _ ?_
   rcases f3 with z | z
   ·rw [z];exact Vao
   ·exact Vap _ z
 exact ⟨.int (l.foldl max n),H,I.kept k,⟨t,by rw [e]⟩,q⟩
theorem Zk7{K:W.Frag}{mg:Str→Option Value}{F:Hp}:∀{xs:List V} {ds:List D} {ns:List Int},Rps K mg F xs ds→ZeJ ds=.ok ns→xs=ns.map V.int
 | _,_,_,.nil,e=>by cases e;rfl
 | _,_,ns,.cons (d:=d) (ds:=ds) h r,e=>by
  unfold ZeJ at e
  cases d with
  | int b =>
   cases q:ZeJ ds with
   | ok bs' =>
    simp only [q,Res.bind] at e
    cases e
    cases h
    rw [VaP,Zk7 r q]
   | ex c=>simp only [q,Res.bind] at e;cases e
   | bad=>simp only [q,Res.bind] at e;cases e
  | _=>cases e
theorem Zma{c:Str}:∀ds:List D,ZeJ ds≠.ex c
 | [],h=>by cases h
 | d::r,h=>by
  unfold ZeJ at h
  cases d with
  | int b =>
   cases q:ZeJ r with
   | ok bs'=>simp only [q,Res.bind] at h;cases h
   | ex c'=>exact Zma r q
   | bad=>simp only [q,Res.bind] at h;cases h
  | _=>cases h
theorem Zks{K:W.Frag}{mg:Str→Option Value}:CallD K mg (Zsd K) Znw:=by
 intro E F H xs ds s r
 unfold Znw
 split
 ·next d =>
  obtain ⟨x,rfl,rx⟩:=r.one
  cases d with
  | lst es =>
   cases rx with
   | lst h rs =>
    show Ans mg E (Rp K mg) F H ((ZeJ es).bind maxI) _
    cases q:ZeJ es with
    | ok ns =>
     have e:=Zk7 rs q
     subst e
     cases ns with
     | nil=>trivial
     | cons n l=>exact Ans.ret s (.int _) fun Q z=>⟨_,n,l,rfl,s.seq h,z⟩
    | ex c=>exact absurd q (Zma es)
    | bad=>trivial
  | _=>trivial
 ·trivial
end
section
variable{K:W.Frag}{mg:Str→Option Value}{E:XK}{i:Nat}
theorem ZqT{t:TA}{m:MA}{n:Nat}(ha:SA K mg E t m)(hl:SAn n m)(hn:n≤sizeLine):SS K mg E (tAsg (tLst t) (ZfL i)) (stO i (mls m)):=by
 intro F0 H0 F H σ ρ rr
 have h:=ha F0 H0 F H σ ρ rr
 unfold stO mls
 cases e:m ρ with
 | ok ds =>
  rw [e] at h
  exact fun D q=>h _ fun F' H' xs g rs=>⟨by rw [rs.length,hl ρ ds e];exact hn,fun p hp=>q F' _ _ g.f ((rr.gr g).own i hp rs)⟩
 | ex c =>
  rw [e] at h
  exact fun D q=>h _ fun F' H' C g hC=>q F' H' C (rr.g.trans g) hC
 | bad=>trivial
end
section
variable{X:Cx}{E:XK}{a b e c' tg iter elt:Expr}{es ts:List Expr}{ta tb tc te:TE}{ma mb mc me:ME}{sa sb:TT}{na nb:MB}{t:TA}{m:MA}{pos spos pos':Pos}{n i j:Nat}{x y:Str}
theorem ZiD(hN:X.N.Nodup)(hi:X.N[i]?=some x)(hx:Loc X.env.scope x)(ha:DA X E n es t m)(hn:n≤sizeLine:=by decide)(hs:swapsWith (.List es pos) (some (.Name x pos')) spos.line X.env=pure false:=by rfl)(hf:X.fn x=true∨X.env.scope.names.lookup x=some .local:=by first | exact .inl rfl | exact .inr rfl | assumption) :
  DS X E (.Assign [.Name x pos'] (.List es pos) spos) (tAsg (tLst t) (ZfL i)) (stO i (mls m)):=⟨Zou hN hi hx (Zo6 ha.p) hs hf,ZqT ha.s ha.n hn⟩
theorem ZkJ(i:Nat){np apos cpos:Pos}(he:DE X E e te me)(hN:X.N[i]?=some x:=by rfl)(hv:Vis X.env.scope x:=by first | exact Or.inl rfl | exact Or.inr (Or.inl rfl) | exact Or.inr (Or.inr rfl))(hd:(x==("__debug__" : Str))=false:=by decide)
  (hcd:(x==("__classdict__" : Str))=false:=by decide) (hbase:attributeBase (.Name x np) "append" X.env (eval (.Name x np) X.env)=eval (.Name x np) X.env:=by rfl)
  (hfew:((backTo cpos (starEach [e] X.env)).all (fun x=>!x.1)&&(backToKw cpos (keywordEach [] X.env)).all (fun x=>x.1.isSome)
   && decide ([e].length+([]:List Keyword).length+(if ([]:List Keyword).isEmpty then 0 else 1)<30))=true:=by rfl)
  (hline:(apos.endLine==cpos.line)=true:=by rfl) (hs:starEach [e] X.env=(false,eval e X.env)::starEach [] X.env:=by rfl) (hplain:(backTo cpos (starEach [] X.env)).any (·.1)=false:=by rfl)
  (hsw:swapsWith (.Call (.Attribute (.Name x np) "append" apos) [e] [] cpos) none spos.line X.env=pure false:=by rfl) :
  DS X E (.Expr (.Call (.Attribute (.Name x np) "append" apos) [e] [] cpos) spos) (ZfC (tBM X.K "list" ZeL (tVar i) (Zb5 te tNil))) (app i me) :=
 ⟨Zfh (Znz VbU PySem.F.slot_list_append PySem.F.type_list_append Zlu (ZhZ hN hv hd hcd) (Zb2 he.p ZeQ hs) hbase hfew hline hs hplain) hsw,
  Zt7 he.s fun H a xs h=>.inl ⟨rfl,xs,SqL.of h⟩⟩
end
end L2.Ds
namespace L2
open PySem PySem.Spec PyProof.Rows PySem.Calls
end L2
namespace L2.Ds
open PySem PySem.Spec PyProof.Rows Dl
section
variable{K:W.Frag}{mg:Str→Option Value}
def del(F:Hp)(a:Addr):Hp:=fun b=>if b=a then none else F b
theorem Zgv{F:Hp}{a:Addr}:del F a a=none:=if_pos rfl
theorem Zeg{F:Hp}{a b:Addr}(h:b≠a):del F a b=F b:=if_neg h
theorem Rep.look{F0 H0 F H:Hp}{σ:St}{ρ:Ev}{i:Nat}{ds:List D}(r:Rep K mg F0 H0 F H σ ρ)(e:ρ[i]?=some (.ow ds)) :
  ∃F',Rep K mg F0 H0 F' H σ (ρ.set i (.im (.lst ds)))∧∀F1 H1,Gr F' H F1 H1→∃F2,Gr F H F2 H1:=by
 obtain ⟨a,xs,e2,e4,e5,e3,hr⟩:=r.ow i ds e
 have sF:Same F (upd F a (.lst xs)):=ZaA e5 _
 refine ⟨upd F a (.lst xs),⟨⟨r.g.f.trans sF,fun b o q=>?_,fun b o q1 q2=>?_⟩,by rw [VbJ];exact r.len,fun j u q=>?_,fun j es q=>?_,fun j k es ts b q1 q2 q3 q4=>?_⟩,fun F1 H1 g=>⟨del F1 a,⟨fun b o q=>?_,fun b o q=>?_,fun b o q1 q2=>?_⟩⟩⟩
 ·by_cases hb:b=a
  ·subst hb;rw [Zah] at q;cases q;exact e3
  ·rw [Zag hb] at q;exact r.g.s b o q
 ·rw [Zag (Zaf q2 e4)];exact r.g.o b o q1 q2
 ·rcases ZaC q with ⟨rfl,z,_⟩ | ⟨_,q⟩
  ·cases z
   exact ⟨.ref a,e2,.lst (SqL.of Zah) (hr.same sF)⟩
  ·obtain ⟨x,h1,h2⟩:=r.im j u q
   exact ⟨x,h1,h2.same sF⟩
 ·rcases ZaC q with ⟨_,z,_⟩ | ⟨hij,q⟩
  ·cases z
  ·obtain ⟨b,ys,h1,h2,h3,h4,h5⟩:=r.ow j es q
   have nb:b≠a:=by
    rintro rfl
    exact hij (r.ne i j ds es b e q e2 h1)
   exact ⟨b,ys,h1,h2,by rw [Zag nb];exact h3,h4,h5.same sF⟩
 ·rcases ZaC q1 with ⟨_,z,_⟩ | ⟨_,q1⟩
  ·cases z
  ·rcases ZaC q2 with ⟨_,z,_⟩ | ⟨_,q2⟩
   ·cases z
   ·exact r.ne j k es ts b q1 q2 q3 q4
 ·rw [Zeg (Zaf q e5)];exact g.f b o (sF b o q)
 ·by_cases hb:b=a
  ·subst hb;rw [Zgv] at q;cases q
  ·rw [Zeg hb] at q;exact g.s b o q
 ·by_cases hb:b=a
  ·subst hb
   rw [e3] at q2;cases q2
   exact ⟨Zgv,g.s _ _ (g.f _ _ Zah)⟩
  ·rw [Zeg hb]
   exact g.o b o (by rw [Zag hb];exact q1) q2
theorem Zqo{F F':Hp}{x:V}{d d':D}(r:Rp K mg F x d)(e:ZhH d=.ok d'):Rp K mg F' x d':=by
 cases r with
 | non=>cases e;exact .non
 | bl b=>cases e;exact .bl b
 | int b=>cases e;exact .int b
 | str b=>cases e;exact .str b
 | _=>cases e
theorem ZpB{d:D}{c:Str}:ZhH d≠.ex c:=by cases d<;>intro h<;>cases h
theorem ZuD{E:XK}{t:TE}{m:ME}(i:Nat)(h:SE K mg E t m):SE K mg E t (pk i m):=by
 intro F0 H0 F H σ ρ rr
 unfold pk getO
 split
 ·next ds e =>
  obtain ⟨F',r',back⟩:=rr.look e
  have z:=h F0 H0 F' H σ _ r'
  show Ans mg E (Rp K mg) F H ((m (ρ.set i (.im (.lst ds)))).bind ZhH) _
  cases em:m (ρ.set i (.im (.lst ds))) with
  | ok d =>
   rw [em] at z
   show Ans mg E (Rp K mg) F H (ZhH d) _
   cases es:ZhH d with
   | ok d' =>
    exact fun Q q=>z Q fun F1 H1 b g1 rb=>by
     obtain ⟨F2,g2⟩:=back F1 H1 g1
     exact q F2 H1 b g2 (Zqo rb es)
   | ex c=>exact absurd es ZpB
   | bad=>trivial
  | ex c =>
   rw [em] at z
   exact fun Q q=>z Q fun F1 H1 C g1 hC=>by
    obtain ⟨F2,g2⟩:=back F1 H1 g1
    exact q F2 H1 C g2 hC
  | bad=>trivial
 ·trivial
theorem ZuM{E:XK}{t:TT}{m:MB}(i:Nat)(h:STt K mg E t m):STt K mg E t (pkB i m):=by
 intro F0 H0 F H σ ρ rr
 unfold pkB getO
 split
 ·next ds e =>
  obtain ⟨F',r',back⟩:=rr.look e
  have z:=h F0 H0 F' H σ _ r'
  show Ans mg E RB F H (m (ρ.set i (.im (.lst ds)))) _
  cases em:m (ρ.set i (.im (.lst ds))) with
  | ok d =>
   rw [em] at z
   exact fun Q q=>z Q fun F1 H1 b g1 rb=>by
    obtain ⟨F2,g2⟩:=back F1 H1 g1
    exact q F2 H1 b g2 rb
  | ex c =>
   rw [em] at z
   exact fun Q q=>z Q fun F1 H1 C g1 hC=>by
    obtain ⟨F2,g2⟩:=back F1 H1 g1
    exact q F2 H1 C g2 hC
  | bad=>trivial
 ·trivial
end
section
variable{X:Cx}{E:XK}{k l i j:Nat}{x y:Str}{Cy:Addr}{ps:List Str}{f:List D→Res D}{t:TA}{m:MA}{u:Addr→TS}{b:MS}{e:Expr}{es:List Expr}{p yp cpos epos hpos pos:Pos}{b₀:Stmt}{suite:List Stmt}{hits:List Str}{te:TE}{me:ME}{tt:TT}{mt:MB}
theorem yda(i:Nat)(h:DE X E e te me):DE X E e te (pk i me):=⟨h.p,ZuD i h.s⟩
theorem ZnM(i:Nat)(h:DT X E e tt mt):DT X E e tt (pkB i mt):=⟨h.p,ZuM i h.s⟩
end
section
variable{X:Cx}{pins:List (Addr×Obj)}{σ:St}{H:Hp}{s:Shared}
mutual
theorem ZoN(I:Inv X pins σ H s):∀{x:V} {d d':PyData},DV X.K H x d→DV X.K H x d'→d=d'
 | _,_,_,.non,.non=>rfl
 | _,_,_,.bl _,.bl _=>rfl
 | _,_,_,.int _,.int _=>rfl
 | _,_,_,.str _,.str _=>rfl
 | _,_,_,.tup h q,.tup h' q'=>by
  have e:=I.tuple_inj h h'
  subst e
  rw [Zis I q q']
 | _,_,_,.lst h q,.lst h' q'=>by
  have e:=I.list_inj h h'
  subst e
  rw [Zis I q q']
 | _,_,_,.tup h q,.lst h' q'=>by
  obtain ⟨_,_,⟨o,e1,e2,_⟩,_⟩:=I.tuple h
  obtain ⟨_,_,⟨o',_,e1',e2',_⟩,_⟩:=I.list h'
  rw [e1] at e1';cases e1'
  rw [e2] at e2';simp at e2'
 | _,_,_,.lst h q,.tup h' q'=>by
  obtain ⟨_,_,⟨o,e1,e2,_⟩,_⟩:=I.tuple h'
  obtain ⟨_,_,⟨o',_,e1',e2',_⟩,_⟩:=I.list h
  rw [e1] at e1';cases e1'
  rw [e2] at e2';simp at e2'
theorem Zis(I:Inv X pins σ H s):∀{xs:List V} {ds ds':List PyData},DVs X.K H xs ds→DVs X.K H xs ds'→ds=ds'
 | _,_,_,.nil,.nil=>rfl
 | _,_,_,.cons h r,.cons h' r'=>by rw [ZoN I h h',Zis I r r']
end
def hitE(X:Cx)(H:Hp)(dx:PyData)(u:Value):Bool:=@decide (∃y d,RelV y u∧DV X.K H y d∧PyData.eqv d dx=true) (Classical.propDecidable _)
theorem ZiL(I:Inv X pins σ H s){dx d:PyData}{u:Value}{y:V}(r:RelV y u)(h:DV X.K H y d):hitE X H dx u=PyData.eqv d dx:=by
 unfold hitE
 cases e:PyData.eqv d dx with
 | true=>exact @Vbm _ (Classical.propDecidable _) ⟨y,d,r,h,e⟩
 | false =>
  refine @Vac _ (Classical.propDecidable _) ?_
  rintro ⟨y',d',r',h',e'⟩
  have ey:=r.inj r'
  subst ey
  rw [ZoN I h h',e'] at e
  cases e
theorem ZoP(I:Inv X pins σ H s):∀{ys:List V} {its:List Value} {ds:List PyData} {u:Value},Vals ys its→DVs X.K H ys ds→PyData.canLayAll0 ds=true→u∈its→∃y d,RelV y u∧DV X.K H y d∧d.canLay0=true
 | _,_,_,_,.nil,.nil,_,hu=>by cases hu
 | _,_,_,u,.cons r1 r2,.cons h1 h2,hc,hu=>by
  have hc':=(show PyData.canLay0 _=true∧PyData.canLayAll0 _=true by simpa [PyData.canLayAll0] using hc)
  rcases Var.mp hu with rfl | hu
  ·exact ⟨_,_,r1,h1,hc'.1⟩
  ·exact ZoP I r2 h2 hc'.2 hu
end
end L2.Ds
namespace Dl
open PySem
def mLst(f:List D→D→Res D)(a b:ME):ME:=fun ρ=>(a ρ).bind fun x=>(lstO x).bind fun xs=>(b ρ).bind fun y=>f xs y
def cntD(xs:List D)(y:D):Res D:=if (plain 50 y&&Zay 50 xs)=true then .ok (.int ((xs.countP fun x=>eqD x y:Nat):Int)) else .bad
def idxD(xs:List D)(y:D):Res D:=if (plain 50 y&&Zay 50 xs)=true then (ofO (xs.findIdx? fun x=>eqD x y)).bind fun k=>.ok (.int (k:Int)) else .bad
def bAny:List D→Res D
 | [d]=>match d with
  | .lst xs=>(bools xs).bind fun bs=>.ok (.bl (bs.any id))
  | _=>.bad
 | _=>.bad
def trips:List D→List D→List D→List D
 | x::xs,y::ys,z::zs=>.tup [x,y,z]::trips xs ys zs
 | _,_,_=>[]
def zip3:List D→Res (List D)
 | [x,y,z]=>(seqD x).bind fun xs=>(seqD y).bind fun ys=>(seqD z).bind fun zs=>.ok (trips xs ys zs)
 | _=>.bad
def lz3(ds:List D):Res D:=(zip3 ds).bind fun xs=>.ok (.lst xs)
end Dl
namespace L2.Ds
open PySem PySem.Spec PyProof.Rows Dl
section
variable{X:Cx}{pins:List (Addr×Obj)}{σ:St}{H:Hp}{s:Shared}
theorem Zi1(I:Inv X pins σ H s){dx:PyData}:∀{ys:List V} {its:List Value} {ds:List PyData},Vals ys its→DVs X.K H ys ds→∀(m:Nat) (u:Value),its[m]?=some u→∃d,ds[m]?=some d∧hitE X H dx u=PyData.eqv d dx
 | _,_,_,.nil,.nil,_,_,e=>by simp at e
 | _,_,_,.cons r1 r2,.cons h1 h2,0,u,e=>by
  simp at e
  subst e
  exact ⟨_,rfl,ZiL I r1 h1⟩
 | _,_,_,.cons r1 r2,.cons h1 h2,m+1,u,e=>by
  obtain ⟨d,q1,q2⟩:=Zi1 I r2 h2 m u (by simpa using e)
  exact ⟨d,by simpa using q1,q2⟩
theorem Zmt(I:Inv X pins σ H s){dx:PyData}:∀{ys:List V} {its:List Value} {ds:List PyData},Vals ys its→DVs X.K H ys ds→its.countP (hitE X H dx)=ds.countP fun d=>PyData.eqv d dx
 | _,_,_,.nil,.nil=>rfl
 | _,_,_,.cons r1 r2,.cons h1 h2=>by rw [List.countP_cons,List.countP_cons,Zmt I r2 h2,ZiL I r1 h1]
theorem Zk3{K:W.Frag}{H:Hp}:∀{ys:List V} {ds:List PyData},DVs K H ys ds→ys.length=ds.length
 | _,_,.nil=>rfl
 | _,_,.cons _ r=>Vay (·+1) (Zk3 r)
def Zq6(K:W.Frag):V→List V→Hp→VK→Prop:=fun x vs H Q=>∃a ys y dy dys,x=.ref a∧vs=[y]∧SqL K H a ys∧DV K H y dy∧DVs K H ys dys∧dy.canLay0=true∧PyData.canLayAll0 dys=true∧dy.depth≤50∧Q (.int ((dys.countP fun d=>PyData.eqv d dy:Nat):Int)) H
def At1(dys:List PyData)(dy:PyData)(j:Nat):Prop:=(∃d,dys[j]?=some d∧PyData.eqv d dy=true)∧∀m,m<j→∃d,dys[m]?=some d∧PyData.eqv d dy=false
def ZqR(K:W.Frag):V→List V→Hp→VK→Prop:=fun x vs H Q=>∃a ys y dy dys j,x=.ref a∧vs=[y]∧SqL K H a ys∧DV K H y dy∧DVs K H ys dys∧dy.canLay0=true∧PyData.canLayAll0 dys=true∧dy.depth≤50∧At1 dys dy j∧Q (.int (j:Int)) H
theorem ZoL(I:Inv X pins σ H s)(hu:X.A.units+64<cLine){y:V}{u:Value}{dy:PyData}{ys:List V}{dys:List PyData}{its:List Value}(ry:RelV y u)(h1:DV X.K H y dy)(h2:DVs X.K H ys dys)(h3:dy.canLay0=true)(h4:PyData.canLayAll0 dys=true)(h5:dy.depth≤50)(rv:Vals ys its) :
  ∀v,v∈its.toArray→PySem.SeqAt.EqAt X.A.in1 s v u (hitE X H dy v):=fun v hm=>by
 obtain ⟨bs,rb⟩:=h1.reads I ry
 obtain ⟨y',d',r',h',c'⟩:=ZoP I rv h2 h4 (by simpa using hm)
 obtain ⟨as,ra⟩:=h'.reads I r'
 rw [ZiL I r' h']
 exact PySem.SeqAt.eqAt_reads d' dy X.A.in1 s v u as bs ra rb c' h3 (by show X.A.units+1+_<_;omega)
theorem ZqG(I:Inv X pins σ H s){dy:PyData}{ys:List V}{dys:List PyData}{its:List Value}{j:Nat}(h2:DVs X.K H ys dys)(rv:Vals ys its)(h:At1 dys dy j) :
  ∃hj:j<its.toArray.size,hitE X H dy its.toArray[j]=true∧∀m (hm:m<its.toArray.size),m<j→hitE X H dy its.toArray[m]=false:=by
 obtain ⟨⟨d,e1,e2⟩,no⟩:=h
 have hj:j<dys.length:=(Vau.mp e1).1
 have hl:=rv.length
 have hl2:=Zk3 h2
 have hj':j<its.toArray.size:=by rw [Va9];omega
 refine ⟨hj',?_,fun m hm hmj=>?_⟩
 ·obtain ⟨d',q1,q2⟩:=Zi1 I rv h2 (dx:=dy) j its.toArray[j] (by simpa using hj')
  rw [e1] at q1
  cases q1
  rw [q2,e2]
 ·obtain ⟨d',q1,q2⟩:=Zi1 I rv h2 (dx:=dy) m its.toArray[m] (by simpa using hm)
  obtain ⟨d'',e3,e4⟩:=no m hmj
  rw [e3] at q1
  cases q1
  rw [q2,e4]
end
section
variable{X:Cx}{E:XK}
theorem Zmq(hu:X.A.units+64<cLine):MtR X "list.count" (Zq6 X.K):=by
 intro pins s σ H x vs v us Q I rx rv h
 obtain ⟨a,ys,y,dy,dys,rfl,rfl,hq,h1,h2,h3,h4,h5,q⟩:=h
 cases rx
 obtain ⟨u,rfl,ru⟩:=rv.one
 obtain ⟨its,ri,⟨o,n,e,oc,od,os⟩,hz⟩:=I.list hq
 obtain ⟨cl,di,da,sl⟩:=o
 cases oc;cases od;cases os
 refine call_meets PySem.F.slot_list_count ⟨_,e,rfl⟩ PySem.F.entry_list_count (PySem.F.args_list_count_2 _ _) (PySem.SeqAt.list_countAt a its.toArray n none sl u (hitE X H dy)) ⟨e,ZoL I hu ru h1 h2 h3 h4 h5 ri,?_⟩
 have ec:its.toArray.toList.countP (hitE X H dy)=dys.countP fun d=>PyData.eqv d dy:=Zmt I ri h2
 rw [ec]
 exact ⟨.int _,H,I.tok _,⟨_,rfl⟩,q⟩
theorem Zlt(hu:X.A.units+64<cLine):MtR X "list.index" (ZqR X.K):=by
 intro pins s σ H x vs v us Q I rx rv h
 obtain ⟨a,ys,y,dy,dys,j,rfl,rfl,hq,h1,h2,h3,h4,h5,h6,q⟩:=h
 cases rx
 obtain ⟨u,rfl,ru⟩:=rv.one
 obtain ⟨its,ri,⟨o,n,e,oc,od,os⟩,hz⟩:=I.list hq
 obtain ⟨cl,di,da,sl⟩:=o
 cases oc;cases od;cases os
 obtain ⟨hj,hit,hno⟩:=ZqG I h2 ri h6
 have hsm:(j:Int)<2^63 - 1:=by
  have hn:=Zi4
  have hl:=ri.length
  rw [Va9] at hj
  omega
 refine call_meets PySem.F.slot_list_index ⟨_,e,rfl⟩ PySem.F.entry_list_index (PySem.F.args_list_index_2 _ _) (PySem.SeqAt.list_indexAt a its.toArray n none sl u (hitE X H dy) j hj hsm hit hno) ⟨e,ZoL I hu ru h1 h2 h3 h4 h5 ri,?_⟩
 exact ⟨.int _,H,I.tok _,⟨_,rfl⟩,q⟩
end
section
variable{K:W.Frag}{mg:Str→Option Value}{E:XK}{ta tb te:TE}{ma mb me:ME}{F0 H0 F H:Hp}
theorem ZoB(x:D)(k:Nat)(hx:Dl.plain k x=true):∀(ys:List D) (l:Nat),Dl.Zay l ys=true→((pyDs ys).countP fun d=>PyData.eqv d (pyD x))=ys.countP fun y=>eqD y x
 | [],_,_=>rfl
 | y::r,l,h=>by
  have h':Dl.plain l y=true∧Dl.Zay l r=true:=by simpa [Dl.Zay] using h
  show (pyD y::pyDs r).countP _=_
  rw [List.countP_cons,List.countP_cons,ZoB x k hx r l h'.2,←ZhK y x l k h'.1 hx]
theorem ZkG(x:D)(k:Nat)(hx:Dl.plain k x=true):∀(ys:List D) (l:Nat),Dl.Zay l ys=true→∀(m:Nat) (y:D),ys[m]?=some y→∃d,(pyDs ys)[m]?=some d∧PyData.eqv d (pyD x)=eqD y x
 | [],_,_,_,_,e=>by simp at e
 | z::r,l,h,0,y,e=>by
  have h':Dl.plain l z=true∧Dl.Zay l r=true:=by simpa [Dl.Zay] using h
  simp at e
  subst e
  exact ⟨pyD z,rfl,(ZhK z x l k h'.1 hx).symm⟩
 | z::r,l,h,m+1,y,e=>by
  have h':Dl.plain l z=true∧Dl.Zay l r=true:=by simpa [Dl.Zay] using h
  obtain ⟨d,q1,q2⟩:=ZkG x k hx r l h'.2 m y (by simpa using e)
  exact ⟨d,by show (pyD z::pyDs r)[m+1]?=_;simpa using q1,q2⟩
theorem ZrI{x:D}{ys:List D}{j:Nat}(hx:Dl.plain 50 x=true)(hy:Dl.Zay 50 ys=true)(e:(ys.findIdx? fun y=>eqD y x)=some j):At1 (pyDs ys) (pyD x) j:=by
 obtain ⟨hj,h1,h2⟩:=List.findIdx?_eq_some_iff_getElem.mp e
 refine ⟨?_,fun m hm=>?_⟩
 ·obtain ⟨d,q1,q2⟩:=ZkG x 50 hx ys 50 hy j ys[j] (VbM hj)
  exact ⟨d,q1,by rw [q2];exact h1⟩
 ·obtain ⟨d,q1,q2⟩:=ZkG x 50 hx ys 50 hy m ys[m] (VbM (by omega))
  exact ⟨d,q1,by rw [q2];simpa using h2 m hm⟩
theorem Zlk{r:V→List V→Hp→VK→Prop}{f:List D→D→Res D}(hf:∀(F H:Hp) (a:Addr) (ws:List V) (ys:List D) (y:V) (dy:D),Same F H→SqL K F a ws→Rps K mg F ws ys→Rp K mg F y dy→Ans mg E (Rp K mg) F H (f ys dy) (r (.ref a) [y] H))
  (ha:SE K mg E ta ma) (hb:SE K mg E tb mb):SE K mg E (tBM K "list" r ta (Zb5 tb tNil)) (mLst f ma mb):=by
 intro F0 H0 F H σ ρ rr
 refine (ha F0 H0 F H σ ρ rr).bind fun F1 H1 x dx g1 rx=>?_
 cases dx with
 | lst ys =>
  cases rx with
  | lst h q =>
   show Ans mg E (Rp K mg) F1 H1 ((mb ρ).bind fun y=>f ys y) _
   have w:=(hb F0 H0 F1 H1 σ ρ (rr.gr g1)).bind (k:=fun y=>f ys y) (w':=fun y H2 Q=>r (.ref _) [y] H2 Q) fun F2 H2 y dy g2 ry=>hf F2 H2 _ _ ys y dy g2.s (g2.f.seq h) (q.same g2.f) ry
   generalize ((mb ρ).bind fun y=>f ys y)=res at w
   cases res with
   | ok d=>exact fun Q q'=>⟨.inl ⟨rfl,_,g1.s.seq h⟩,w Q q'⟩
   | ex c=>exact fun Q q'=>⟨.inl ⟨rfl,_,g1.s.seq h⟩,w Q q'⟩
   | bad=>trivial
 | _=>trivial
theorem ZsN(F H:Hp)(a:Addr)(ws:List V)(ys:List D)(y:V)(dy:D)(s:Same F H)(h:SqL K F a ws)(q:Rps K mg F ws ys)(ry:Rp K mg F y dy):Ans mg E (Rp K mg) F H (cntD ys dy) (Zq6 K (.ref a) [y] H):=by
 unfold cntD
 by_cases hp:(Dl.plain 50 dy&&Dl.Zay 50 ys)=true
 ·rw [if_pos hp]
  rw [Vbj] at hp
  obtain ⟨c1,c2⟩:=Zcz dy 50 hp.1
  obtain ⟨c3,_⟩:=Zdk ys 50 hp.2
  refine Ans.ret s (.int _) fun Q q'=>⟨a,ws,y,pyD dy,pyDs ys,rfl,rfl,s.seq h,ZdO s (Ziv ry hp.1),Zeu s (Zf2 q hp.2),c1,c3,c2,?_⟩
  rw [ZoB dy 50 hp.1 ys 50 hp.2]
  exact q'
 ·rw [if_neg hp];trivial
theorem ZsY(F H:Hp)(a:Addr)(ws:List V)(ys:List D)(y:V)(dy:D)(s:Same F H)(h:SqL K F a ws)(q:Rps K mg F ws ys)(ry:Rp K mg F y dy):Ans mg E (Rp K mg) F H (idxD ys dy) (ZqR K (.ref a) [y] H):=by
 unfold idxD
 by_cases hp:(Dl.plain 50 dy&&Dl.Zay 50 ys)=true
 ·rw [if_pos hp]
  rw [Vbj] at hp
  obtain ⟨c1,c2⟩:=Zcz dy 50 hp.1
  obtain ⟨c3,_⟩:=Zdk ys 50 hp.2
  cases e:ys.findIdx? fun x=>eqD x dy with
  | none=>trivial
  | some j=>exact Ans.ret (R:=Rp K mg) s (.int _) fun Q q'=>⟨a,ws,y,pyD dy,pyDs ys,j,rfl,rfl,s.seq h,ZdO s (Ziv ry hp.1),Zeu s (Zf2 q hp.2),c1,c3,c2,ZrI hp.1 hp.2 e,q'⟩
 ·rw [if_neg hp];trivial
theorem Rep.put{σ:St}{ρ:Ev}{i:Nat}{ds es:List D}{a:Addr}{xs ys:List V}(r:Rep K mg F0 H0 F H σ ρ)(e:ρ[i]?=some (.ow ds))(e2:σ[i]?=some (some (.ref a)))(e3:H a=some (.lst xs))(e4:H0 a=none)(e5:F a=none)(hr:Rps K mg F ys es) :
  Rep K mg F0 H0 F (upd H a (.lst ys)) σ (ρ.set i (.ow es)):=by
 refine ⟨⟨r.g.f,fun b o q=>?_,fun b o q1 q2=>?_⟩,by rw [VbJ];exact r.len,fun j u q=>?_,fun j es q=>?_,fun j k es ts b q1 q2 q3 q4=>?_⟩
 ·rw [Zag (Zaf q e5)];exact r.g.s b o q
 ·rw [Zag (Zaf q2 e4)];exact r.g.o b o q1 q2
 ·rcases ZaC q with ⟨_,z,_⟩ | ⟨_,q⟩
  ·cases z
  ·exact r.im j u q
 ·rcases ZaC q with ⟨rfl,z,l⟩ | ⟨hij,q⟩
  ·cases z
   exact ⟨a,_,e2,e4,e5,Zah,hr⟩
  ·obtain ⟨b,ys,h1,h2,h3,h4,h5⟩:=r.ow j es q
   have nb:b≠a:=by
    rintro rfl
    exact hij (r.ne i j ds es b e q e2 h1)
   exact ⟨b,ys,h1,h2,h3,by rw [Zag nb];exact h4,h5⟩
 ·have o1:∃es',ρ[j]?=some (.ow es'):=by
   rcases ZaC q1 with ⟨rfl,_,_⟩ | ⟨_,q⟩
   ·exact ⟨_,e⟩
   ·exact ⟨_,q⟩
  have o2:∃es',ρ[k]?=some (.ow es'):=by
   rcases ZaC q2 with ⟨rfl,_,_⟩ | ⟨_,q⟩
   ·exact ⟨_,e⟩
   ·exact ⟨_,q⟩
  obtain ⟨_,o1⟩:=o1
  obtain ⟨_,o2⟩:=o2
  exact r.ne j k _ _ b o1 o2 q3 q4
end
section
variable{X:Cx}{E:XK}{k i:Nat}{o e k' a b c' d':Expr}{to te tk ta tb tc td:TE}{mo me mk ma mb mc md:ME}{x:Str}{np apos cpos spos pos spos':Pos}
theorem Zvf(hr:Room k X.A)(ho:DE X E o to mo)(he:DE X E e te me)(hbase:attributeBase o "count" X.env (eval o X.env)=eval o X.env:=by rfl)
  (hfew:((backTo cpos (starEach [e] X.env)).all (fun x=>!x.1)&&(backToKw cpos (keywordEach [] X.env)).all (fun x=>x.1.isSome)
   && decide ([e].length+([]:List Keyword).length+(if ([]:List Keyword).isEmpty then 0 else 1)<30))=true:=by rfl)
  (hline:(apos.endLine==cpos.line)=true:=by rfl) (hs:starEach [e] X.env=(false,eval e X.env)::starEach [] X.env:=by rfl) (hplain:(backTo cpos (starEach [] X.env)).any (·.1)=false:=by rfl) :
  DE X E (.Call (.Attribute o "count" apos) [e] [] cpos) (tBM X.K "list" (Zq6 X.K) to (Zb5 te tNil)) (mLst cntD mo me) :=
 ⟨Znz VbU PySem.F.slot_list_count PySem.F.type_list_count (Zmq hr.units) ho.p (Zb2 he.p ZeQ hs) hbase hfew hline hs hplain,Zlk ZsN ho.s he.s⟩
theorem Zpt(hr:Room k X.A)(ho:DE X E o to mo)(he:DE X E e te me)(hbase:attributeBase o "index" X.env (eval o X.env)=eval o X.env:=by rfl)
  (hfew:((backTo cpos (starEach [e] X.env)).all (fun x=>!x.1)&&(backToKw cpos (keywordEach [] X.env)).all (fun x=>x.1.isSome)
   && decide ([e].length+([]:List Keyword).length+(if ([]:List Keyword).isEmpty then 0 else 1)<30))=true:=by rfl)
  (hline:(apos.endLine==cpos.line)=true:=by rfl) (hs:starEach [e] X.env=(false,eval e X.env)::starEach [] X.env:=by rfl) (hplain:(backTo cpos (starEach [] X.env)).any (·.1)=false:=by rfl) :
  DE X E (.Call (.Attribute o "index" apos) [e] [] cpos) (tBM X.K "list" (ZqR X.K) to (Zb5 te tNil)) (mLst idxD mo me) :=
 ⟨Znz VbU PySem.F.slot_list_index PySem.F.type_list_index (Zlt hr.units) ho.p (Zb2 he.p ZeQ hs) hbase hfew hline hs hplain,Zlk ZsY ho.s he.s⟩
end
section
variable{X:Cx}{E:XK}
theorem any_range:∀bs:List Bool,((List.range bs.length).any fun i=>bs.getD i false)=bs.any id
 | []=>rfl
 | b::r=>by
  rw [VaO,List.range_succ_eq_map,List.any_cons,List.any_map,List.any_cons,←any_range r]
  rfl
def rAny(K:W.Frag):List V→Hp→VK→Prop:=fun xs H Q=>∃(a:Addr) (bs:List Bool),xs=[.ref a]∧SqL K H a (bs.map V.bl)∧Q (.bl (bs.any id)) H
theorem Zml(hc:X.calm=true):Zex X (.builtin "any") (rAny X.K):=by
 intro pins s σ H xs us Q I r h
 obtain ⟨a,bs,rfl,hq,q⟩:=h
 obtain ⟨u,rfl,r1⟩:=vals1 r
 cases r1
 obtain ⟨its,rv,pl,hz⟩:=I.list hq
 obtain rfl:=ZeH bs its rv
 have la:a<s.heap.objs.size:=by
  obtain ⟨o,_,ho,_⟩:=pl
  exact Vae ho
 refine call_any_walk (Vbv pl.isList ?_)
 refine ⟨s.heap.objs.size,_,_,_,_,_,fun i=>bs.getD i false,rfl,Walks.list (A:=X.A.in1) (I.ok.hd hc) s.heap.objs.size a (Vah la) (bs.map Value.bool).toArray,⟨⟨_,VaH _ rfl,rfl,rfl⟩,?_⟩,?_,fun h' tk k=>?_⟩
 ·exact pl.isList.at fun o e=>VaC _ e
 ·intro i v s2 Q2 E2 hP hQ
  have e:v=.bool (bs.getD i false):=by
   rw [VbQ,Va5] at hP
   cases q:bs[i]? with
   | none=>rw [q] at hP;cases hP
   | some b =>
    rw [q] at hP
    cases hP
    rw [VbR,q];rfl
  subst e
  exact VaA hQ
 ·have e:(List.range (bs.map Value.bool).toArray.size).any (fun i=>bs.getD i false)=bs.any id:=by
   rw [Va9,VaQ];exact any_range bs
  rw [e]
  exact ⟨.bl (bs.any id),H,I.kept fun b o z=>k b o (by simp;exact Vah (Vae z)) (VaC _ z),rfl,q⟩
theorem ZkR{K:W.Frag}{mg:Str→Option Value}:CallD K mg (rAny K) bAny:=by
 intro E F H xs ds s r
 unfold bAny
 split
 ·next d =>
  obtain ⟨x,rfl,rx⟩:=r.one
  cases d with
  | lst es =>
   cases rx with
   | lst h rs =>
    show Ans mg E (Rp K mg) F H ((bools es).bind fun bs=>.ok (.bl (bs.any id))) _
    cases q:bools es with
    | ok bs =>
     have e:=Zg3 rs q
     subst e
     exact Ans.ret s (.bl _) fun Q z=>⟨_,bs,rfl,s.seq h,z⟩
    | ex c=>exact absurd q (ZgY es)
    | bad=>trivial
  | _=>trivial
 ·trivial
theorem ZtO:bootBuiltins "any"=some (.builtin "any"):=by decide +kernel
end
end L2.Ds
namespace L2
open PySem PySem.Spec PyProof.Rows
abbrev Z3(h:Heap)(z TI TO:Addr)(f0 f1:Value):Prop:=h.get? z=some { cls:=.type "zip", dict:=none,data:=.fields #[f0,f1,.bool false,.ref TI,.ref TO],slots:=#[] }
abbrev Tr(h:Heap)(T:Addr)(a b c:Value):Prop:=h.get? T=some { cls:=.type "tuple", data:=.seq #[a,b,c] }
def Mk3(f0:Value):Prop:=f0=.none∨∃T:Nat,f0=rawInt T
structure Ap3(z TI TO i1 i2 i3 l1 l2 l3:Addr):Prop where
 o1:@LT.lt Nat _ i1 i2
 o2:@LT.lt Nat _ i2 i3
 o3:@LT.lt Nat _ i3 TI
 o4:@LT.lt Nat _ TI TO
 o5:@LT.lt Nat _ TO z
 a1:@LT.lt Nat _ l1 i1
 a2:@LT.lt Nat _ l2 i1
 a3:@LT.lt Nat _ l3 i1
theorem ycW{a b:Nat}(h:a<b∨b<a):a≠b:=by omega
local macro_rules | `(tactic| walk_at "nl")=>`(tactic| first | exact Nat.ne_of_gt (by assumption) | exact Nat.ne_of_lt (by assumption))
section
variable{prog:Program}{w:World}{A:Around}{E:Value→Shared→Prop}{s:Shared}
theorem Zh3{T:Addr}{a b c x:Value}{k:Nat}{Q:Unit→Shared→Prop}(kT:Tr s.heap T a b c)
  (h:∀h',h'.get? T=some { cls:=.type "tuple", data:=.seq ((#[a,b,c]:Array Value).setIfInBounds k x) }→Heap.SameBut T s.heap h'→Q () { s with heap:=h' }) :
  wpAny (model prog w) A (updateSeq T (·.setIfInBounds k x)) Q E s:=by
 refine VbV kT rfl (h _ ?_ (VbA ..))
 rw [VbB _ kT rfl]
 simp [Obj.mapSeq]
theorem ZnE{a:Addr}{Q:Option Obj→Shared→Prop}(h:Q (s.heap.get? a) s):wpAny (model prog w) A (loadIfAlive a) Q E s:=fun Γ p _=>by
 show PySem.Sem.wp _ Γ (Sem.loadIfAlive a fun x=>.pure x) _ _ p s
 rw [PySem.Sem.wp_loadIfAlive]
 exact h
theorem Zjr{z TI TO:Addr}{f0 f1:Value}{Q:Bool→Shared→Prop}(kz:Z3 s.heap z TI TO f0 f1)(kf:Mk3 f0)(h1:Q true s)(h2:∀h' f,Z3 h' z TI TO f0 f→Heap.SameBut z s.heap h'→Q false { s with heap:=h' }) :
  wpAny (model prog w) A (Builtin.SmallTypes.ownedTupleIsFree (.ref z)) Q E s:=by
 unfold Builtin.SmallTypes.ownedTupleIsFree
 refine Vaz (Vbc kz rfl (x:=f0) rfl ?_)
 rcases kf with rfl | ⟨T,rfl⟩
 ·exact VaA h1
 ·refine Vaz (ZnE ?_)
  split
  ·exact VaA h1
  ·refine Vaz (Vbc kz rfl (x:=f1) rfl ?_)
   split
   ·refine Vaz (VbD kz (by simp) fun g kg ks=>VaA (h2 g _ kg ks))
   ·exact VaA (h2 s.heap f1 kz (Heap.SameBut.refl ..))
theorem Zrh{p q r:Bool}{z TI TO i1 i2 i3 l1 l2 l3:Addr}{k:Nat}{us vs ws:Array Value}{x y u a b c f0 f1:Value}{Q:Value→Shared→Prop}(D:Ap3 z TI TO i1 i2 i3 l1 l2 l3)
  (kz:Z3 s.heap z TI TO f0 f1) (kf:Mk3 f0) (kTI:Tr s.heap TI (.ref i1) (.ref i2) (.ref i3)) (kTO:Tr s.heap TO a b c)
  (m1:ItK p s.heap i1 l1 k) (m2:ItK q s.heap i2 l2 k) (m3:ItK r s.heap i3 l3 k) (n1:SqK p s.heap l1 us) (n2:SqK q s.heap l2 vs) (n3:SqK r s.heap l3 ws) (kx:us[k]?=some x) (ky:vs[k]?=some y) (ku:ws[k]?=some u)
  (kQ:∀h' f0' f1',Z3 h' z TI TO f0' f1'→Mk3 f0'→(∃a b c,Tr h' TO a b c)→ItK p h' i1 l1 (k+1)→ItK q h' i2 l2 (k+1)→ItK r h' i3 l3 (k+1)→Tr h' s.heap.objs.size x y u →
   (∀c o,c≠z→c≠TO→c≠i1→c≠i2→c≠i3→s.heap.get? c=some o→h'.get? c=some o)→Q (.ref s.heap.objs.size) { s with heap:=h' }) :
  wpAny (model prog w) A (Builtin.«zip.__next__» ⟨[.ref z],[]⟩) (fun fin s'=>∃v,fin=.done (.ret v)∧Q v s') E s:=by
 obtain ⟨o1,o2,o3,o4,o5,a1,a2,a3⟩:=D
 have x1:=Nat.lt_trans o1 o2;have x2:=Nat.lt_trans o3 o4;have x3:=Nat.lt_trans o2 x2;have x4:=Nat.lt_trans o1 x3;have y1:=Nat.lt_trans x2 o5;have y2:=Nat.lt_trans x3 o5;have y3:=Nat.lt_trans x4 o5
 have b1:=Nat.lt_trans a1 o1;have c1:=Nat.lt_trans a1 x1;have d1:=Nat.lt_trans a1 x4;have e1:=Nat.lt_trans a1 y3
 have b2:=Nat.lt_trans a2 o1;have c2:=Nat.lt_trans a2 x1;have d2:=Nat.lt_trans a2 x4;have e2:=Nat.lt_trans a2 y3
 have b3:=Nat.lt_trans a3 o1;have c3:=Nat.lt_trans a3 x1;have d3:=Nat.lt_trans a3 x4;have e3:=Nat.lt_trans a3 y3
 show wpAny _ _ (field (.ref z) 2 >>= _) _ _ _
 refine Vaz (Vbc kz rfl (x:=.bool false) rfl ?_)
 show wpAny _ _ (field (.ref z) 3 >>= _) _ _ _
 refine Vaz (Vbc kz rfl (x:=.ref TI) rfl ?_)
 refine Vaz (Vby kTI rfl ?_)
 show wpAny _ _ (Builtin.SmallTypes.ownedTupleIsFree (.ref z) >>= _) _ _ _
 refine Vaz (Zjr kz kf ?_ fun g₁ f kz₁ ks₁=>?_)
 ·simp only [Vbb]
  refine Vaz (VaD ?_)
  refine Vaz (Vbc kz rfl (x:=.ref TO) rfl ?_)
  refine Vaz (VbD kz (by simp) fun g₁ kz₁ ks₁=>?_)
  replace kz₁:Z3 g₁ z TI TO .ellipsis f1:=kz₁
  refine Vaz ?_
  simp only [List.zipIdx_cons,List.zipIdx_nil,Vbo,Vbp]
  refine Vaz (Vaz (VbE ?_))
  show wpAny _ _ (Builtin.SmallTypes.nextOf (.ref i1) >>= _) _ _ _
  refine Vaz (ZaE (m1.extBut ks₁.extBut (by walk_at "nl")) (n1.extBut ks₁.extBut (by walk_at "nl")) kx fun g₂ m1₂ ks₂=>VaA ?_)
  have kT₂:Tr g₂ TO a b c:=ks₂.extBut _ _ (by walk_at "nl") (ks₁.extBut _ _ (by walk_at "nl") kTO)
  refine Vaz (Vby kT₂ rfl ?_)
  refine Vaz (Zh3 kT₂ fun g₃ kT₃ ks₃=>?_)
  replace kT₃:Tr g₃ TO x b c:=kT₃
  refine Vaz (VbF (VaA ?_))
  refine Vaz (Vaz (VbE ?_))
  show wpAny _ _ (Builtin.SmallTypes.nextOf (.ref i2) >>= _) _ _ _
  refine Vaz (ZaE (((m2.extBut ks₁.extBut (by walk_at "nl")).extBut ks₂.extBut (by walk_at "nl")).extBut ks₃.extBut (by walk_at "nl")) (((n2.extBut ks₁.extBut (by walk_at "nl")).extBut ks₂.extBut (by walk_at "nl")).extBut ks₃.extBut (by walk_at "nl")) ky fun g₄ m2₄ ks₄=>VaA ?_)
  have kT₄:Tr g₄ TO x b c:=ks₄.extBut _ _ (by walk_at "nl") kT₃
  refine Vaz (Vby kT₄ rfl ?_)
  refine Vaz (Zh3 kT₄ fun g₅ kT₅ ks₅=>?_)
  replace kT₅:Tr g₅ TO x y c:=kT₅
  refine Vaz (VbF (VaA ?_))
  refine Vaz (Vaz (VbE ?_))
  show wpAny _ _ (Builtin.SmallTypes.nextOf (.ref i3) >>= _) _ _ _
  refine Vaz (ZaE (((((m3.extBut ks₁.extBut (by walk_at "nl")).extBut ks₂.extBut (by walk_at "nl")).extBut ks₃.extBut (by walk_at "nl")).extBut ks₄.extBut (by walk_at "nl")).extBut ks₅.extBut (by walk_at "nl")) (((((n3.extBut ks₁.extBut (by walk_at "nl")).extBut ks₂.extBut (by walk_at "nl")).extBut ks₃.extBut (by walk_at "nl")).extBut ks₄.extBut (by walk_at "nl")).extBut ks₅.extBut (by walk_at "nl")) ku fun g₆ m3₆ ks₆=>VaA ?_)
  have kT₆:Tr g₆ TO x y c:=ks₆.extBut _ _ (by walk_at "nl") kT₅
  refine Vaz (Vby kT₆ rfl ?_)
  refine Vaz (Zh3 kT₆ fun g₇ kT₇ ks₇=>?_)
  replace kT₇:Tr g₇ TO x y u:=kT₇
  refine Vaz (VbF (VaA (VaA ?_)))
  refine Vaz (Vby kT₇ rfl ?_)
  refine Vaz (wpAny_newTuple ?_)
  have sz:g₇.objs.size=s.heap.objs.size:=by rw [ks₇.1,ks₆.1,ks₅.1,ks₄.1,ks₃.1,ks₂.1,ks₁.1]
  have kz₇:Z3 g₇ z TI TO .ellipsis f1:=ks₇.extBut _ _ (by walk_at "nl") (ks₆.extBut _ _ (by walk_at "nl") (ks₅.extBut _ _ (by walk_at "nl") (ks₄.extBut _ _ (by walk_at "nl") (ks₃.extBut _ _ (by walk_at "nl") (ks₂.extBut _ _ (by walk_at "nl") kz₁)))))
  have keep:∀c o,c≠z→c≠TO→c≠i1→c≠i2→c≠i3→s.heap.get? c=some o→g₇.get? c=some o:=fun c o c1 c2 c3 c4 c5 e =>
   ks₇.extBut _ _ c2 (ks₆.extBut _ _ c5 (ks₅.extBut _ _ c2 (ks₄.extBut _ _ c4 (ks₃.extBut _ _ c2 (ks₂.extBut _ _ c3 (ks₁.extBut _ _ c1 e))))))
  have q1:ItK p g₇ i1 l1 (k+1):=((((m1₂.extBut ks₃.extBut (by walk_at "nl")).extBut ks₄.extBut (by walk_at "nl")).extBut ks₅.extBut (by walk_at "nl")).extBut ks₆.extBut (by walk_at "nl")).extBut ks₇.extBut (by walk_at "nl")
  have q2:ItK q g₇ i2 l2 (k+1):=((m2₄.extBut ks₅.extBut (by walk_at "nl")).extBut ks₆.extBut (by walk_at "nl")).extBut ks₇.extBut (by walk_at "nl")
  have q3:ItK r g₇ i3 l3 (k+1):=m3₆.extBut ks₇.extBut (by walk_at "nl")
  have zlt:z<g₇.objs.size:=Vae kz₇
  show wpAny _ _ (Builtin.SmallTypes.ownedTupleHandOut (.ref z) (.ref g₇.objs.size) >>= _) _ _ _
  refine Vaz ?_
  unfold Builtin.SmallTypes.ownedTupleHandOut
  have kz₈:Z3 (g₇.push { cls:=.type "tuple", data:=.seq #[x,y,u] }) z TI TO .ellipsis f1:=VaC _ kz₇
  refine Vaz (VbD kz₈ (by simp) fun g₉ kz₉ ks₉=>?_)
  replace kz₉:Z3 g₉ z TI TO (rawInt g₇.objs.size) f1:=kz₉
  refine VbD kz₉ (by simp) fun gA kzA ksA=>?_
  replace kzA:Z3 gA z TI TO (rawInt g₇.objs.size) (.bool false):=kzA
  have up:∀c o,c≠z→g₇.get? c=some o→gA.get? c=some o:=fun c o c1 e=>ksA.extBut _ _ c1 (ks₉.extBut _ _ c1 (VaC _ e))
  have kTA:Tr gA g₇.objs.size x y u:=ksA.extBut _ _ (VaG zlt) (ks₉.extBut _ _ (VaG zlt) (VaH _ rfl))
  rw [sz] at kTA
  refine VaA ⟨_,rfl,?_⟩
  show Q (.ref g₇.objs.size) _
  rw [sz]
  exact kQ gA _ _ kzA (.inr ⟨_,rfl⟩) ⟨_,_,_,up _ _ (by walk_at "nl") kT₇⟩ (q1.at fun o e=>up _ o (by walk_at "nl") e) (q2.at fun o e=>up _ o (by walk_at "nl") e) (q3.at fun o e=>up _ o (by walk_at "nl") e) kTA fun c o c1 c2 c3 c4 c5 e=>up c o c1 (keep c o c1 c2 c3 c4 c5 e)
 ·simp only [Vbu,Vba]
  rw [←VbW]
  simp only [Vbo,Vbp]
  refine Vaz (Vaz (Vaz (Vbe ?_)))
  show wpAny _ _ (Builtin.SmallTypes.nextOf (.ref i1) >>= _) _ _ _
  refine Vaz (ZaE (m1.extBut ks₁.extBut (by walk_at "nl")) (n1.extBut ks₁.extBut (by walk_at "nl")) kx fun g₂ m1₂ ks₂=>VaA (VaA ?_))
  refine Vaz (Vaz (Vbe ?_))
  show wpAny _ _ (Builtin.SmallTypes.nextOf (.ref i2) >>= _) _ _ _
  refine Vaz (ZaE ((m2.extBut ks₁.extBut (by walk_at "nl")).extBut ks₂.extBut (by walk_at "nl")) ((n2.extBut ks₁.extBut (by walk_at "nl")).extBut ks₂.extBut (by walk_at "nl")) ky fun g₃ m2₃ ks₃=>VaA (VaA ?_))
  refine Vaz (Vaz (Vbe ?_))
  show wpAny _ _ (Builtin.SmallTypes.nextOf (.ref i3) >>= _) _ _ _
  refine Vaz (ZaE (((m3.extBut ks₁.extBut (by walk_at "nl")).extBut ks₂.extBut (by walk_at "nl")).extBut ks₃.extBut (by walk_at "nl")) (((n3.extBut ks₁.extBut (by walk_at "nl")).extBut ks₂.extBut (by walk_at "nl")).extBut ks₃.extBut (by walk_at "nl")) ku fun g₄ m3₄ ks₄=>VaA (VaA (VaA ?_)))
  refine Vaz (wpAny_newTuple (hsz:=show (3:Nat)≤sizeLine by decide) (VaA ⟨_,rfl,?_⟩))
  have sz:g₄.objs.size=s.heap.objs.size:=by rw [ks₄.1,ks₃.1,ks₂.1,ks₁.1]
  have keep:∀c o,c≠z→c≠TO→c≠i1→c≠i2→c≠i3→s.heap.get? c=some o→g₄.get? c=some o:=fun c o c1 _ c3 c4 c5 e=>ks₄.extBut _ _ c5 (ks₃.extBut _ _ c4 (ks₂.extBut _ _ c3 (ks₁.extBut _ _ c1 e)))
  have kz₄:Z3 g₄ z TI TO f0 f:=ks₄.extBut _ _ (by walk_at "nl") (ks₃.extBut _ _ (by walk_at "nl") (ks₂.extBut _ _ (by walk_at "nl") kz₁))
  have kT₄:Tr g₄ TO a b c:=ks₄.extBut _ _ (by walk_at "nl") (ks₃.extBut _ _ (by walk_at "nl") (ks₂.extBut _ _ (by walk_at "nl") (ks₁.extBut _ _ (by walk_at "nl") kTO)))
  have q1:ItK p g₄ i1 l1 (k+1):=(m1₂.extBut ks₃.extBut (by walk_at "nl")).extBut ks₄.extBut (by walk_at "nl")
  have q2:ItK q g₄ i2 l2 (k+1):=m2₃.extBut ks₄.extBut (by walk_at "nl")
  have up:∀c o,g₄.get? c=some o→(g₄.push { cls:=.type "tuple", data:=.seq #[x,y,u] }).get? c=some o:=fun c o e=>VaC _ e
  have kTA:Tr (g₄.push { cls:=.type "tuple", data:=.seq #[x,y,u] }) g₄.objs.size x y u:=VaH _ rfl
  rw [sz] at kTA
  show Q (.ref g₄.objs.size) _
  rw [sz]
  exact kQ _ _ _ (up _ _ kz₄) kf ⟨_,_,_,up _ _ kT₄⟩ (q1.at fun o e=>up _ o e) (q2.at fun o e=>up _ o e) (m3₄.at fun o e=>up _ o e) kTA fun c o c1 c2 c3 c4 c5 e=>up c o (keep c o c1 c2 c3 c4 c5 e)
theorem Zqg{p q r:Bool}{z TI TO i1 i2 i3 l1 l2 l3:Addr}{k:Nat}{us vs ws:Array Value}{a b c f0 f1:Value}{Q:Fin→Shared→Prop}(kh:A.handled=none)(D:Ap3 z TI TO i1 i2 i3 l1 l2 l3)
  (kz:Z3 s.heap z TI TO f0 f1) (kf:Mk3 f0) (kTI:Tr s.heap TI (.ref i1) (.ref i2) (.ref i3)) (kTO:Tr s.heap TO a b c)
  (m1:ItK p s.heap i1 l1 k) (m2:ItK q s.heap i2 l2 k) (m3:ItK r s.heap i3 l3 k) (n1:SqK p s.heap l1 us) (n2:SqK q s.heap l2 vs) (n3:SqK r s.heap l3 ws) (kend:us[k]?=none∨vs[k]?=none∨ws[k]?=none)
  (kE:∀h' e,(∀c o,c≠z→c≠TO→c≠i1→c≠i2→c≠i3→s.heap.get? c=some o→h'.get? c=some o)→(∃o,h'.get? e=some o∧o.cls=.type "StopIteration")→E (.ref e) { s with heap:=h' }) :
  wpAny (model prog w) A (Builtin.«zip.__next__» ⟨[.ref z],[]⟩) Q E s:=by
 obtain ⟨o1,o2,o3,o4,o5,a1,a2,a3⟩:=D
 have x1:=Nat.lt_trans o1 o2;have x2:=Nat.lt_trans o3 o4;have x3:=Nat.lt_trans o2 x2;have x4:=Nat.lt_trans o1 x3;have y1:=Nat.lt_trans x2 o5;have y2:=Nat.lt_trans x3 o5;have y3:=Nat.lt_trans x4 o5
 have b1:=Nat.lt_trans a1 o1;have c1:=Nat.lt_trans a1 x1;have d1:=Nat.lt_trans a1 x4;have e1:=Nat.lt_trans a1 y3
 have b2:=Nat.lt_trans a2 o1;have c2:=Nat.lt_trans a2 x1;have d2:=Nat.lt_trans a2 x4;have e2:=Nat.lt_trans a2 y3
 have b3:=Nat.lt_trans a3 o1;have c3:=Nat.lt_trans a3 x1;have d3:=Nat.lt_trans a3 x4;have e3:=Nat.lt_trans a3 y3
 show wpAny _ _ (field (.ref z) 2 >>= _) _ _ _
 refine Vaz (Vbc kz rfl (x:=.bool false) rfl ?_)
 show wpAny _ _ (field (.ref z) 3 >>= _) _ _ _
 refine Vaz (Vbc kz rfl (x:=.ref TI) rfl ?_)
 refine Vaz (Vby kTI rfl ?_)
 show wpAny _ _ (Builtin.SmallTypes.ownedTupleIsFree (.ref z) >>= _) _ _ _
 refine Vaz (Zjr kz kf ?_ fun g₁ f kz₁ ks₁=>?_)
 ·simp only [Vbb]
  refine Vaz (VaD ?_)
  refine Vaz (Vbc kz rfl (x:=.ref TO) rfl ?_)
  refine Vaz (VbD kz (by simp) fun g₁ kz₁ ks₁=>?_)
  replace kz₁:Z3 g₁ z TI TO .ellipsis f1:=kz₁
  refine Vaz ?_
  simp only [List.zipIdx_cons,List.zipIdx_nil,Vbo,Vbp]
  refine Vaz (Vaz (VbE ?_))
  show wpAny _ _ (Builtin.SmallTypes.nextOf (.ref i1) >>= _) _ _ _
  cases kx:us[k]? with
  | none =>
   refine Vaz (ZbI kh (m1.extBut ks₁.extBut (by walk_at "nl")) (n1.extBut ks₁.extBut (by walk_at "nl")) kx fun g₂ e ks₂ ke=>?_)
   obtain ⟨ox,koe,kce⟩:=ke
   have kz₂:Z3 g₂ z TI TO .ellipsis f1:=ks₂ _ _ (by walk_at "nl") kz₁
   have kez:e≠z:=fun x=>by subst x;rw [kz₂] at koe;cases koe;simp at kce
   exact VbD kz₂ (by simp) fun g₃ _ ks₃=>kE g₃ e (fun c o c1 _ c3 _ _ x=>ks₃.extBut _ _ c1 (ks₂ _ _ c3 (ks₁.extBut _ _ c1 x))) ⟨ox,ks₃.extBut _ _ kez koe,kce⟩
  | some x =>
   refine Vaz (ZaE (m1.extBut ks₁.extBut (by walk_at "nl")) (n1.extBut ks₁.extBut (by walk_at "nl")) kx fun g₂ m1₂ ks₂=>VaA ?_)
   have kT₂:Tr g₂ TO a b c:=ks₂.extBut _ _ (by walk_at "nl") (ks₁.extBut _ _ (by walk_at "nl") kTO)
   refine Vaz (Vby kT₂ rfl ?_)
   refine Vaz (Zh3 kT₂ fun g₃ kT₃ ks₃=>?_)
   replace kT₃:Tr g₃ TO x b c:=kT₃
   refine Vaz (VbF (VaA ?_))
   refine Vaz (Vaz (VbE ?_))
   show wpAny _ _ (Builtin.SmallTypes.nextOf (.ref i2) >>= _) _ _ _
   have m2':=((m2.extBut ks₁.extBut (by walk_at "nl")).extBut ks₂.extBut (by walk_at "nl")).extBut ks₃.extBut (by walk_at "nl")
   have n2':=((n2.extBut ks₁.extBut (by walk_at "nl")).extBut ks₂.extBut (by walk_at "nl")).extBut ks₃.extBut (by walk_at "nl")
   have kz₃:Z3 g₃ z TI TO .ellipsis f1:=ks₃.extBut _ _ (by walk_at "nl") (ks₂.extBut _ _ (by walk_at "nl") kz₁)
   have keep₃:∀c o,c≠z→c≠TO→c≠i1→c≠i2→c≠i3→s.heap.get? c=some o→g₃.get? c=some o:=fun c o c1 c2 c3 _ _ x=>ks₃.extBut _ _ c2 (ks₂.extBut _ _ c3 (ks₁.extBut _ _ c1 x))
   cases ky:vs[k]? with
   | none =>
    refine Vaz (ZbI kh m2' n2' ky fun g₄ e ks₄ ke=>?_)
    obtain ⟨ox,koe,kce⟩:=ke
    have kz₄:Z3 g₄ z TI TO .ellipsis f1:=ks₄ _ _ (by walk_at "nl") kz₃
    have kez:e≠z:=fun x=>by subst x;rw [kz₄] at koe;cases koe;simp at kce
    exact VbD kz₄ (by simp) fun g₅ _ ks₅=>kE g₅ e (fun c o c1 c2 c3 c4 c5 x=>ks₅.extBut _ _ c1 (ks₄ _ _ c4 (keep₃ c o c1 c2 c3 c4 c5 x))) ⟨ox,ks₅.extBut _ _ kez koe,kce⟩
   | some y =>
    have ku:ws[k]?=none:=by
     rcases kend with h | h | h
     ·rw [kx] at h;cases h
     ·rw [ky] at h;cases h
     ·exact h
    refine Vaz (ZaE m2' n2' ky fun g₄ m2₄ ks₄=>VaA ?_)
    have kT₄:Tr g₄ TO x b c:=ks₄.extBut _ _ (by walk_at "nl") kT₃
    refine Vaz (Vby kT₄ rfl ?_)
    refine Vaz (Zh3 kT₄ fun g₅ kT₅ ks₅=>?_)
    refine Vaz (VbF (VaA ?_))
    refine Vaz (Vaz (VbE ?_))
    show wpAny _ _ (Builtin.SmallTypes.nextOf (.ref i3) >>= _) _ _ _
    refine Vaz (ZbI kh (((((m3.extBut ks₁.extBut (by walk_at "nl")).extBut ks₂.extBut (by walk_at "nl")).extBut ks₃.extBut (by walk_at "nl")).extBut ks₄.extBut (by walk_at "nl")).extBut ks₅.extBut (by walk_at "nl")) (((((n3.extBut ks₁.extBut (by walk_at "nl")).extBut ks₂.extBut (by walk_at "nl")).extBut ks₃.extBut (by walk_at "nl")).extBut ks₄.extBut (by walk_at "nl")).extBut ks₅.extBut (by walk_at "nl")) ku fun g₆ e ks₆ ke=>?_)
    obtain ⟨ox,koe,kce⟩:=ke
    have kz₆:Z3 g₆ z TI TO .ellipsis f1:=ks₆ _ _ (by walk_at "nl") (ks₅.extBut _ _ (by walk_at "nl") (ks₄.extBut _ _ (by walk_at "nl") kz₃))
    have kez:e≠z:=fun x=>by subst x;rw [kz₆] at koe;cases koe;simp at kce
    exact VbD kz₆ (by simp) fun g₇ _ ks₇=>kE g₇ e (fun c o c1 c2 c3 c4 c5 x=>ks₇.extBut _ _ c1 (ks₆ _ _ c5 (ks₅.extBut _ _ c2 (ks₄.extBut _ _ c4 (keep₃ c o c1 c2 c3 c4 c5 x))))) ⟨ox,ks₇.extBut _ _ kez koe,kce⟩
 ·simp only [Vbu,Vba]
  rw [←VbW]
  simp only [Vbo,Vbp]
  refine Vaz (Vaz (Vaz (Vbe ?_)))
  show wpAny _ _ (Builtin.SmallTypes.nextOf (.ref i1) >>= _) _ _ _
  cases kx:us[k]? with
  | none =>
   refine Vaz (ZbI kh (m1.extBut ks₁.extBut (by walk_at "nl")) (n1.extBut ks₁.extBut (by walk_at "nl")) kx fun g₂ e ks₂ ke=>?_)
   exact kE g₂ e (fun c o c1 _ c3 _ _ x=>ks₂ _ _ c3 (ks₁.extBut _ _ c1 x)) ke
  | some x =>
   refine Vaz (ZaE (m1.extBut ks₁.extBut (by walk_at "nl")) (n1.extBut ks₁.extBut (by walk_at "nl")) kx fun g₂ m1₂ ks₂=>VaA (VaA ?_))
   refine Vaz (Vaz (Vbe ?_))
   show wpAny _ _ (Builtin.SmallTypes.nextOf (.ref i2) >>= _) _ _ _
   have m2':=(m2.extBut ks₁.extBut (by walk_at "nl")).extBut ks₂.extBut (by walk_at "nl")
   have n2':=(n2.extBut ks₁.extBut (by walk_at "nl")).extBut ks₂.extBut (by walk_at "nl")
   cases ky:vs[k]? with
   | none =>
    refine Vaz (ZbI kh m2' n2' ky fun g₃ e ks₃ ke=>?_)
    exact kE g₃ e (fun c o c1 _ c3 c4 _ x=>ks₃ _ _ c4 (ks₂.extBut _ _ c3 (ks₁.extBut _ _ c1 x))) ke
   | some y =>
    have ku:ws[k]?=none:=by
     rcases kend with h | h | h
     ·rw [kx] at h;cases h
     ·rw [ky] at h;cases h
     ·exact h
    refine Vaz (ZaE m2' n2' ky fun g₃ m2₃ ks₃=>VaA (VaA ?_))
    refine Vaz (Vaz (Vbe ?_))
    show wpAny _ _ (Builtin.SmallTypes.nextOf (.ref i3) >>= _) _ _ _
    refine Vaz (ZbI kh (((m3.extBut ks₁.extBut (by walk_at "nl")).extBut ks₂.extBut (by walk_at "nl")).extBut ks₃.extBut (by walk_at "nl")) (((n3.extBut ks₁.extBut (by walk_at "nl")).extBut ks₂.extBut (by walk_at "nl")).extBut ks₃.extBut (by walk_at "nl")) ku fun g₄ e ks₄ ke=>?_)
    exact kE g₄ e (fun c o c1 _ c3 c4 c5 x=>ks₄ _ _ c5 (ks₃.extBut _ _ c4 (ks₂.extBut _ _ c3 (ks₁.extBut _ _ c1 x)))) ke
theorem Zp0{p q r:Bool}{z TI TO i1 i2 i3 l1 l2 l3:Addr}{k:Nat}{us vs ws:Array Value}{x y u a b c f0 f1:Value}{Q:Option Value→Shared→Prop}(D:Ap3 z TI TO i1 i2 i3 l1 l2 l3)
  (kz:Z3 s.heap z TI TO f0 f1) (kf:Mk3 f0) (kTI:Tr s.heap TI (.ref i1) (.ref i2) (.ref i3)) (kTO:Tr s.heap TO a b c)
  (m1:ItK p s.heap i1 l1 k) (m2:ItK q s.heap i2 l2 k) (m3:ItK r s.heap i3 l3 k) (n1:SqK p s.heap l1 us) (n2:SqK q s.heap l2 vs) (n3:SqK r s.heap l3 ws) (kx:us[k]?=some x) (ky:vs[k]?=some y) (ku:ws[k]?=some u)
  (kQ:∀h' f0' f1',Z3 h' z TI TO f0' f1'→Mk3 f0'→(∃a b c,Tr h' TO a b c)→ItK p h' i1 l1 (k+1)→ItK q h' i2 l2 (k+1)→ItK r h' i3 l3 (k+1)→Tr h' s.heap.objs.size x y u →
   (∀c o,c≠z→c≠TO→c≠i1→c≠i2→c≠i3→s.heap.get? c=some o→h'.get? c=some o)→Q (some (.ref s.heap.objs.size)) { s with heap:=h' }) :
  wpAny (model prog w) A (pyNext (.ref z)) Q E s:=by
 have kT:s.TypeIs (.ref z) "zip" := ⟨_,kz,rfl⟩
 unfold pyNext
 exact Vaz (wpAny_attempt (Vbf (name:=Str.ofString "__next__") kT VbG
  (Vbh VbG kT F.entry_zip_next
   (Zrh D kz kf kTI kTO m1 m2 m3 n1 n2 n3 kx ky ku fun h' f0' f1' b1 b2 b3 b4 b5 b6 b7 b8=>VaA (kQ h' f0' f1' b1 b2 b3 b4 b5 b6 b7 b8)) (F.args_zip_next_1 _))))
theorem Zs6{p q r:Bool}{z TI TO i1 i2 i3 l1 l2 l3:Addr}{k:Nat}{us vs ws:Array Value}{a b c f0 f1:Value}{Q:Option Value→Shared→Prop}(kh:A.handled=none)(D:Ap3 z TI TO i1 i2 i3 l1 l2 l3)
  (kz:Z3 s.heap z TI TO f0 f1) (kf:Mk3 f0) (kTI:Tr s.heap TI (.ref i1) (.ref i2) (.ref i3)) (kTO:Tr s.heap TO a b c)
  (m1:ItK p s.heap i1 l1 k) (m2:ItK q s.heap i2 l2 k) (m3:ItK r s.heap i3 l3 k) (n1:SqK p s.heap l1 us) (n2:SqK q s.heap l2 vs) (n3:SqK r s.heap l3 ws) (kend:us[k]?=none∨vs[k]?=none∨ws[k]?=none)
  (kQ:∀h',(∀c o,c≠z→c≠TO→c≠i1→c≠i2→c≠i3→s.heap.get? c=some o→h'.get? c=some o)→Q none { s with heap:=h' }):wpAny (model prog w) A (pyNext (.ref z)) Q E s:=by
 have kT:s.TypeIs (.ref z) "zip" := ⟨_,kz,rfl⟩
 unfold pyNext
 refine Vaz (wpAny_attempt (Vbf (name:=Str.ofString "__next__") kT VbG
  (Vbh VbG kT F.entry_zip_next (Zqg kh D kz kf kTI kTO m1 m2 m3 n1 n2 n3 kend fun h' e kk ke=>?_) (F.args_zip_next_1 _))))
 obtain ⟨o,ho,hc⟩:=ke
 refine Vaz (wpAny_isInstance (T := "StopIteration") (b:=true) ⟨o,ho,hc⟩ isSubtype_stop ?_)
 exact VaA (kQ _ kk)
theorem ZqN{z TI TO:Addr}{f0 f1:Value}{Q:Value→Shared→Prop}(kz:Z3 s.heap z TI TO f0 f1)(h:Q (.ref z) s):wpAny (model prog w) A (pyIter (.ref z)) Q E s:=by
 have kT:s.TypeIs (.ref z) "zip" := ⟨_,kz,rfl⟩
 refine wpAny_pyIter_slot kT F.slot_zip_iter (Vbh F.slot_zip_iter kT F.entry_zip_iter ?_ (F.args_zip_iter_1 _))
 show wpAny _ _ (ret (.ref z)) _ _ s
 exact VaA ⟨_,rfl, "zip", _,kT,F.slot_zip_next.lookup,h⟩
end
theorem Zqm(a b c:Value):checkTypeCall "zip" ⟨[a,b,c],[]⟩=pure ():=by kernel_rfl
theorem Zql(a b c:Value):checkBuiltinCall "zip.__new__" ⟨[.type "zip", a,b,c],[]⟩=pure ():=by kernel_rfl
theorem oi_4(a b c d:Value):argsOk "object.__init__" ⟨[a,b,c,d],[]⟩:=by
 have e:=signature?_of (id := "object.__init__") (o:=['t','c','e','j','b','o']) (n:=['_','_','t','i','n','i','_','_']) (by kernel_rfl) PySem.F.owner_object
 unfold argsOk
 rw [e]
 kernel_rfl
abbrev j1(p:Bool)(h:Heap)(l1:Addr):Heap:=h.push (ZfQ p l1)
abbrev j2(p q:Bool)(h:Heap)(l1 l2:Addr):Heap:=(j1 p h l1).push (ZfQ q l2)
abbrev j3(p q r:Bool)(h:Heap)(l1 l2 l3:Addr):Heap:=(j2 p q h l1 l2).push (ZfQ r l3)
abbrev j4(p q r:Bool)(h:Heap)(l1 l2 l3:Addr):Heap:=(j3 p q r h l1 l2 l3).push { cls:=.type "tuple", data:=.seq #[.ref h.objs.size,.ref (j1 p h l1).objs.size,.ref (j2 p q h l1 l2).objs.size] }
abbrev j5(p q r:Bool)(h:Heap)(l1 l2 l3:Addr):Heap:=(j4 p q r h l1 l2 l3).push { cls:=.type "tuple", data:=.seq #[.none,.none,.none] }
abbrev j6(p q r:Bool)(h:Heap)(l1 l2 l3:Addr):Heap:=(j5 p q r h l1 l2 l3).push { cls:=.type "zip", data:=.fields #[.none,.bool false,.bool false,.ref (j3 p q r h l1 l2 l3).objs.size,.ref (j4 p q r h l1 l2 l3).objs.size] }
theorem ZnU(p q r:Bool)(l1 l2 l3:Addr)(us vs ws:Array Value) :
  Meets (Builtin.«zip.__new__» ⟨[.type "zip", .ref l1,.ref l2,.ref l3],[]⟩) (fun _ R s=>SqK p s.heap l1 us∧SqK q s.heap l2 vs∧SqK r s.heap l3 ws ∧
   R (.ok (.ret (.ref (j5 p q r s.heap l1 l2 l3).objs.size))) { s with heap:=j6 p q r s.heap l1 l2 l3 }) :=
 .of_wp fun prog w A R s h=>by
  obtain ⟨hp,g,d,tk,os⟩:=s
  obtain ⟨n1,n2,n3,h⟩:=h
  have ksub:=sub_zip
  have k1:SqK p (Shared.heap ⟨hp,g,d,tk,os⟩) l1 us:=n1
  have k2:SqK q (Shared.heap ⟨hp.push (ZfQ p l1),g,d,tk,os⟩) l2 vs:=SqK.push n2 _
  have k3:SqK r (Shared.heap ⟨(hp.push (ZfQ p l1)).push (ZfQ q l2),g,d,tk,os⟩) l3 ws:=SqK.push (SqK.push n3 _) _
  wp_walk using ZmP k1,ZmP k2,ZmP k3
  exact ⟨_,rfl,h⟩
section
variable{prog:Program}{w:World}{A:Around}{E:Value→Shared→Prop}{s:Shared}
theorem ZqF{p q r:Bool}{l1 l2 l3:Addr}{us vs ws:Array Value}{Q:Value→Shared→Prop}(n1:SqK p s.heap l1 us)(n2:SqK q s.heap l2 vs)(n3:SqK r s.heap l3 ws)
  (h:∀h',Z3 h' (s.heap.objs.size+5) (s.heap.objs.size+3) (s.heap.objs.size+4) .none (.bool false)→Tr h' (s.heap.objs.size+3) (.ref s.heap.objs.size) (.ref (s.heap.objs.size+1)) (.ref (s.heap.objs.size+2)) →
   Tr h' (s.heap.objs.size+4) .none .none .none→ItK p h' s.heap.objs.size l1 0→ItK q h' (s.heap.objs.size+1) l2 0→ItK r h' (s.heap.objs.size+2) l3 0→h'.objs.size=s.heap.objs.size+6 →
   (∀c o,s.heap.get? c=some o→h'.get? c=some o)→Q (.ref (s.heap.objs.size+5)) { s with heap:=h' }) :
  wpAny (model prog w) A (call (.type "zip") [.ref l1,.ref l2,.ref l3]) Q E s:=by
 refine callType_new F.called_zip (by decide) (Zqm _ _ _) (Zql _ _ _) (fun obj=>oi_4 obj _ _ _) F.entry_zip_new (ZnU p q r l1 l2 l3 us vs ws) ⟨n1,n2,n3,?_⟩
 have z1:(j1 p s.heap l1).objs.size=s.heap.objs.size+1:=VaR ..
 have z2:(j2 p q s.heap l1 l2).objs.size=s.heap.objs.size+2:=by rw [VaR,z1]
 have z3:(j3 p q r s.heap l1 l2 l3).objs.size=s.heap.objs.size+3:=by rw [VaR,z2]
 have z4:(j4 p q r s.heap l1 l2 l3).objs.size=s.heap.objs.size+4:=by rw [VaR,z3]
 have z5:(j5 p q r s.heap l1 l2 l3).objs.size=s.heap.objs.size+5:=by rw [VaR,z4]
 have z6:(j6 p q r s.heap l1 l2 l3).objs.size=s.heap.objs.size+6:=by rw [VaR,z5]
 have up1:∀{c:Addr} {o:Obj},(j5 p q r s.heap l1 l2 l3).get? c=some o→(j6 p q r s.heap l1 l2 l3).get? c=some o:=fun e=>VaC _ e
 have up2:∀{c:Addr} {o:Obj},(j4 p q r s.heap l1 l2 l3).get? c=some o→(j6 p q r s.heap l1 l2 l3).get? c=some o:=fun e=>up1 (VaC _ e)
 have up3:∀{c:Addr} {o:Obj},(j3 p q r s.heap l1 l2 l3).get? c=some o→(j6 p q r s.heap l1 l2 l3).get? c=some o:=fun e=>up2 (VaC _ e)
 have up4:∀{c:Addr} {o:Obj},(j2 p q s.heap l1 l2).get? c=some o→(j6 p q r s.heap l1 l2 l3).get? c=some o:=fun e=>up3 (VaC _ e)
 have up5:∀{c:Addr} {o:Obj},(j1 p s.heap l1).get? c=some o→(j6 p q r s.heap l1 l2 l3).get? c=some o:=fun e=>up4 (VaC _ e)
 have g6:(j6 p q r s.heap l1 l2 l3).get? (j5 p q r s.heap l1 l2 l3).objs.size=some _:=VaH _ rfl
 have g5:(j6 p q r s.heap l1 l2 l3).get? (j4 p q r s.heap l1 l2 l3).objs.size=some _:=up1 (VaH _ rfl)
 have g4:(j6 p q r s.heap l1 l2 l3).get? (j3 p q r s.heap l1 l2 l3).objs.size=some _:=up2 (VaH _ rfl)
 have g3:(j6 p q r s.heap l1 l2 l3).get? (j2 p q s.heap l1 l2).objs.size=some _:=up3 (VaH _ rfl)
 have g2:(j6 p q r s.heap l1 l2 l3).get? (j1 p s.heap l1).objs.size=some _:=up4 (VaH _ rfl)
 have g1:(j6 p q r s.heap l1 l2 l3).get? s.heap.objs.size=some _:=up5 (VaH _ rfl)
 show _∧_
 rw [z3,z4,z5] at g6
 rw [z1,z2,z3] at g4
 rw [z4] at g5
 rw [z2] at g3
 rw [z1] at g2
 rw [z5]
 exact ⟨⟨_,g6,rfl⟩,h _ g6 g4 g5 (ItK.new g1) (ItK.new g2) (ItK.new g3) z6 fun c o x=>up5 (VaC _ x)⟩
end
def At3(p q r:Bool)(z TI TO i1 i2 i3 a b c:Addr)(i:Nat)(h:Heap):Prop :=
 ∃f0 f1 u v w,Z3 h z TI TO f0 f1∧Mk3 f0∧Tr h TI (.ref i1) (.ref i2) (.ref i3)∧Tr h TO u v w∧ItK p h i1 a i∧ItK q h i2 b i∧ItK r h i3 c i
theorem At3.obj{p q r:Bool}{z TI TO i1 i2 i3 a b c:Addr}{i:Nat}{h:Heap}(st:At3 p q r z TI TO i1 i2 i3 a b c i h){x:Addr}(hx:x∈[z,TI,TO,i1,i2,i3]):∃o,h.get? x=some o∧∀v,o.data≠.cell v:=by
 obtain ⟨f0,f1,u,v,w,kz,kf,kTI,kTO,m1,m2,m3⟩:=st
 obtain ⟨o1,_,e1,d1⟩:=m1.flds
 obtain ⟨o2,_,e2,d2⟩:=m2.flds
 obtain ⟨o3,_,e3,d3⟩:=m3.flds
 simp only [Var,VbH,VbI] at hx
 rcases hx with rfl | rfl | rfl | rfl | rfl | rfl
 ·exact ⟨_,kz,fun v z=>by cases z⟩
 ·exact ⟨_,kTI,fun v z=>by cases z⟩
 ·exact ⟨_,kTO,fun v z=>by cases z⟩
 ·exact ⟨_,e1,fun v z=>by rw [d1] at z;cases z⟩
 ·exact ⟨_,e2,fun v z=>by rw [d2] at z;cases z⟩
 ·exact ⟨_,e3,fun v z=>by rw [d3] at z;cases z⟩
theorem At3.keep{p q r:Bool}{z TI TO i1 i2 i3 a b c:Addr}{i:Nat}{h h':Heap}(st:At3 p q r z TI TO i1 i2 i3 a b c i h)(k:∀x∈[z,TI,TO,i1,i2,i3],∀o,h.get? x=some o→h'.get? x=some o):At3 p q r z TI TO i1 i2 i3 a b c i h':=by
 obtain ⟨f0,f1,u,v,w,kz,kf,kTI,kTO,m1,m2,m3⟩:=st
 exact ⟨f0,f1,u,v,w,k z (by simp) _ kz,kf,k TI (by simp) _ kTI,k TO (by simp) _ kTO,m1.at fun o e=>k i1 (by simp) o e,m2.at fun o e=>k i2 (by simp) o e,m3.at fun o e=>k i3 (by simp) o e⟩
section
variable{X:Cx}{B:Around}{pins:List (Addr×Obj)}{σ:St}{H:Hp}{s:Shared}{p q r:Bool}{z TI TO i1 i2 i3 a b c:Addr}{i:Nat}
theorem Ztr{Q:Option Value→Shared→Prop}{E:Value→Shared→Prop}{xs ys zs:List V}{x y u:V}(D:Ap3 z TI TO i1 i2 i3 a b c)(I:Inv X pins σ H s)(hf:∀d∈[z,TI,TO,i1,i2,i3],FpOk X pins H d)(st:At3 p q r z TI TO i1 i2 i3 a b c i s.heap)(hqa:SqB X.K p H a xs)(hqb:SqB X.K q H b ys)(hqc:SqB X.K r H c zs)(hx:xs[i]?=some x)(hy:ys[i]?=some y)(hu:zs[i]?=some u)
  (kQ:∀h' T,T=s.heap.objs.size→H T=none→Inv X pins σ (upd H T (.tup [x,y,u])) { s with heap:=h' }→At3 p q r z TI TO i1 i2 i3 a b c (i+1) h'→(∀d o,d∉[z,TI,TO,i1,i2,i3]→s.heap.get? d=some o→h'.get? d=some o)→Q (some (.ref T)) { s with heap:=h' }) :
  wpAny (model X.prog X.w) B (pyNext (.ref z)) Q E s:=by
 obtain ⟨f0,f1,u0,v0,w0,kz,kf,kTI,kTO,m1,m2,m3⟩:=st
 obtain ⟨its,rv,pa,za⟩:=I.seqB hqa
 obtain ⟨its2,rv2,pb,zb⟩:=I.seqB hqb
 obtain ⟨its3,rv3,pc,zc⟩:=I.seqB hqc
 obtain ⟨u1,e1,r1⟩:=rv.get hx
 obtain ⟨u2,e2,r2⟩:=rv2.get hy
 obtain ⟨u3,e3,r3⟩:=rv3.get hu
 refine Zp0 D kz kf kTI kTO m1 m2 m3 pa pb pc (x:=u1) (y:=u2) (u:=u3) (by simpa using e1) (by simpa using e2) (by simpa using e3) fun h' f0' f1' b1 b2 b3 b4 b5 b6 b7 b8=>?_
 have hT:H s.heap.objs.size=none:=I.hok.fresh (VaI _)
 have kp:∀d o,d∉[z,TI,TO,i1,i2,i3]→s.heap.get? d=some o→h'.get? d=some o:=fun d o hd e=>b8 d o (fun q=>hd (by simp [q])) (fun q=>hd (by simp [q])) (fun q=>hd (by simp [q])) (fun q=>hd (by simp [q])) (fun q=>hd (by simp [q])) e
 have kTI':Tr h' TI (.ref i1) (.ref i2) (.ref i3):=by
  obtain ⟨o1,o2,o3,o4,o5,a1,a2,a3⟩:=D
  exact b8 TI _ (ycW (by omega)) (ycW (by omega)) (ycW (by omega)) (ycW (by omega)) (ycW (by omega)) kTI
 obtain ⟨u0',v0',w0',b3⟩:=b3
 refine kQ h' _ rfl hT ?_ ⟨f0',f1',u0',v0',w0',b1,b2,kTI',b3,b4,b5,b6⟩ kp
 refine I.turnNew (fp:=[z,TI,TO,i1,i2,i3]) (t':=s.toks) (fun d ob hb e=>kp d ob hb e) hf (VaI _) ?_
 have lt3:(3:Nat)≤sizeLine:=by decide
 exact ⟨lt3,[u1,u2,u3],.cons r1 (.cons r2 (.cons r3 .nil)),⟨_,b7,rfl,_,rfl⟩⟩
theorem Zta{Q:Option Value→Shared→Prop}{E:Value→Shared→Prop}{xs ys zs:List V}(hc:B.handled=none)(D:Ap3 z TI TO i1 i2 i3 a b c)(I:Inv X pins σ H s)(hf:∀d∈[z,TI,TO,i1,i2,i3],FpOk X pins H d)(st:At3 p q r z TI TO i1 i2 i3 a b c i s.heap)(hqa:SqB X.K p H a xs)(hqb:SqB X.K q H b ys)(hqc:SqB X.K r H c zs)(hx:xs.length≤i∨ys.length≤i∨zs.length≤i)
  (kQ:∀h',Inv X pins σ H { s with heap:=h' }→(∀d o,d∉[z,TI,TO,i1,i2,i3]→s.heap.get? d=some o→h'.get? d=some o)→Q none { s with heap:=h' }) :
  wpAny (model X.prog X.w) B (pyNext (.ref z)) Q E s:=by
 obtain ⟨f0,f1,u0,v0,w0,kz,kf,kTI,kTO,m1,m2,m3⟩:=st
 obtain ⟨its,rv,pa,za⟩:=I.seqB hqa
 obtain ⟨its2,rv2,pb,zb⟩:=I.seqB hqb
 obtain ⟨its3,rv3,pc,zc⟩:=I.seqB hqc
 have hl:=rv.length
 have hl2:=rv2.length
 have hl3:=rv3.length
 refine Zs6 hc D kz kf kTI kTO m1 m2 m3 pa pb pc (hx.imp (fun q=>by simp;omega) (fun q=>q.imp (fun q=>by simp;omega) (fun q=>by simp;omega))) fun h' hk=>?_
 have kp:∀d o,d∉[z,TI,TO,i1,i2,i3]→s.heap.get? d=some o→h'.get? d=some o:=fun d o hd e=>hk d o (fun q=>hd (by simp [q])) (fun q=>hd (by simp [q])) (fun q=>hd (by simp [q])) (fun q=>hd (by simp [q])) (fun q=>hd (by simp [q])) e
 exact kQ h' (I.turnedL (fp:=[z,TI,TO,i1,i2,i3]) (t':=s.toks) kp hf) kp
end
theorem Zqp{n a b c:Addr}(h1:@LT.lt Nat _ a n)(h2:@LT.lt Nat _ b n)(h3:@LT.lt Nat _ c n):Ap3 (n+5) (n+3) (n+4) n (n+1) (n+2) a b c:=⟨VaS _,VaS _,VaS _,VaS _,VaS _,h1,h2,h3⟩
theorem Zmh{X:Cx}{pins:List (Addr×Obj)}{σ:St}{H:Hp}{s:Shared}{p q r:Bool}{a b c:Addr}{xs ys zs:List V}{Q:Value→Shared→Prop}{E:Value→Shared→Prop}(I:Inv X pins σ H s)(hqa:SqB X.K p H a xs)(hqb:SqB X.K q H b ys)(hqc:SqB X.K r H c zs)
  (k:∀h' z TI TO i1 i2 i3,Ap3 z TI TO i1 i2 i3 a b c→Inv X pins σ H { s with heap:=h' }→At3 p q r z TI TO i1 i2 i3 a b c 0 h'→(∀d∈[z,TI,TO,i1,i2,i3],FpOk X pins H d)→(∀d∈[z,TI,TO,i1,i2,i3],@LT.lt Nat _ d h'.objs.size)→Q (.ref z) { s with heap:=h' }):wpAny (model X.prog X.w) X.A (call (.type "zip") [.ref a,.ref b,.ref c]) Q E s:=by
 obtain ⟨its,rv,pa,hz⟩:=I.seqB hqa
 obtain ⟨its2,rv2,pb,hz2⟩:=I.seqB hqb
 obtain ⟨its3,rv3,pc,hz3⟩:=I.seqB hqc
 have a1:a<s.heap.objs.size:=by obtain ⟨_,e⟩:=pa.here;exact Vae e
 have a2:b<s.heap.objs.size:=by obtain ⟨_,e⟩:=pb.here;exact Vae e
 have a3:c<s.heap.objs.size:=by obtain ⟨_,e⟩:=pc.here;exact Vae e
 refine ZqF pa pb pc fun h' gz gTI gTO g1 g2 g3 sz hk=>?_
 have hI:Inv X pins σ H { s with heap:=h' }:=I.kept (t':=s.toks) hk
 refine k h' _ _ _ _ _ _ (Zqp a1 a2 a3) hI ⟨_,_,_,_,_,gz,.inl rfl,gTI,gTO,g1,g2,g3⟩ (fun d hd=>?_) (fun d hd=>?_)
 ·have hb':s.heap.objs.size≤d:=by
   simp only [Var,VbH,VbI] at hd
   rcases hd with rfl | rfl | rfl | rfl | rfl | rfl<;>omega
  exact I.fpOk hb' (I.hok.fresh hb')
 ·rw [sz]
  simp only [Var,VbH,VbI] at hd
  rcases hd with rfl | rfl | rfl | rfl | rfl | rfl<;>omega
def ZaU:List V→List V→List V→List (V×V×V)
 | x::xs,y::ys,u::us=>(x,y,u)::ZaU xs ys us
 | _,_,_=>[]
theorem ZhB:∀{xs ys us:List V} {i:Nat} {x y u:V},(ZaU xs ys us)[i]?=some (x,y,u)→xs[i]?=some x∧ys[i]?=some y∧us[i]?=some u
 | [],_,_,_,_,_,_,h=>by simp [ZaU] at h
 | _::_,[],_,_,_,_,_,h=>by simp [ZaU] at h
 | _::_,_::_,[],_,_,_,_,h=>by simp [ZaU] at h
 | _::_,_::_,_::_,0,_,_,_,h=>by simp [ZaU] at h;obtain ⟨rfl,rfl,rfl⟩:=h;simp
 | _::xs,_::ys,_::us,i+1,_,_,_,h=>by
  have:=ZhB (xs:=xs) (ys:=ys) (us:=us) (i:=i) (by simpa [ZaU] using h)
  simpa using this
theorem Zia:∀(xs ys us:List V),xs.length≤(ZaU xs ys us).length∨ys.length≤(ZaU xs ys us).length∨us.length≤(ZaU xs ys us).length
 | [],_,_=>.inl (by simp)
 | _::_,[],_=>.inr (.inl (by simp))
 | _::_,_::_,[]=>.inr (.inr (by simp))
 | _::xs,_::ys,_::us=>by
  have:=Zia xs ys us
  simp [ZaU]
  exact this
theorem ZjC:∀(xs ys us:List V),(ZaU xs ys us).length≤xs.length
 | [],_,_=>by simp [ZaU]
 | _::_,[],_=>by simp [ZaU]
 | _::_,_::_,[]=>by simp [ZaU]
 | _::xs,_::ys,_::us=>by
  have:=ZjC xs ys us
  simp [ZaU]
  exact this
inductive Lay3(H:Hp):List (V×V×V)→List Addr→Hp→Prop
 | nil:Lay3 H [] [] H
 | snoc {ts:List (V×V×V)} {as:List Addr} {H':Hp} {T:Addr} {x y u:V} (h:Lay3 H ts as H') (hT:H' T=none):Lay3 H (ts++[(x,y,u)]) (as++[T]) (upd H' T (.tup [x,y,u]))
theorem Lay3.same{H H':Hp}{ts:List (V×V×V)}{as:List Addr}(h:Lay3 H ts as H'):Same H H':=by
 induction h with
 | nil=>exact fun _ _ e=>e
 | snoc h hT ih=>exact fun b o e=>(by
   have e':=ih b o e
   rw [Zag (fun q=>by subst q;rw [hT] at e';cases e')]
   exact e')
theorem Znh{H:Hp}{S T:Addr}{o o':HO}(h:S≠T):upd (upd H S o) T o'=upd (upd H T o') S o:=by
 funext b
 by_cases h1:b=S
 ·subst h1;rw [Zag h,Zah,Zah]
 ·by_cases h2:b=T
  ·subst h2;rw [Zah,Zag h1,Zah]
  ·rw [Zag h2,Zag h1,Zag h1,Zag h2]
theorem Zeb{H:Hp}{S:Addr}{o o':HO}:upd (upd H S o) S o'=upd H S o':=by
 funext b
 by_cases h1:b=S
 ·subst h1;rw [Zah,Zah]
 ·rw [Zag h1,Zag h1,Zag h1]
theorem ZcG{K:W.Frag}{H H':Hp}{p:Bool}{a:Addr}{xs:List V}(e:Same H H')(h:SqB K p H a xs):SqB K p H' a xs:=by
 cases p
 ·exact Same.seq e h
 ·rcases (show SqT K H a xs from h) with (h | ⟨o,h⟩) | h
  ·exact .inl (.inl (e _ _ h))
  ·exact .inl (.inr ⟨o,e _ _ h⟩)
  ·exact .inr h
theorem ZhL{H:Hp}{S:Addr}{o:HO}(h:H S=none):Same H (upd H S o):=fun b u e=>by
 rw [Zag (fun q=>by subst q;rw [h] at e;cases e)]
 exact e
section
variable{X:Cx}{pins:List (Addr×Obj)}{σ:St}{H:Hp}{p q r:Bool}{z TI TO i1 i2 i3 a b c S:Addr}{xs ys us:List V}
theorem Zqk{B:Around}{R:Result→Shared→Prop}(kh:B.in1.handled=none)(D:Ap3 z TI TO i1 i2 i3 a b c)(hqa:SqB X.K p H a xs)(hqb:SqB X.K q H b ys)(hqc:SqB X.K r H c us)(hS:S∉[z,TI,TO,i1,i2,i3])
  (kR:∀s' as H',Inv X pins σ (upd H' S (.lst (as.map V.ref))) s'→H' S=none→Lay3 H (ZaU xs ys us) as H'→R (.ok (.ret .none)) s') :
  ∀(k i:Nat) (s:Shared) (H':Hp) (as:List Addr),i+k=(ZaU xs ys us).length→Inv X pins σ (upd H' S (.lst (as.map V.ref))) s→H' S=none→Lay3 H ((ZaU xs ys us).take i) as H'→At3 p q r z TI TO i1 i2 i3 a b c i s.heap→as.length=i→(∀d∈[z,TI,TO,i1,i2,i3],FpOk X pins (upd H' S (.lst (as.map V.ref))) d) →
   codeAny (model X.prog X.w) B (.builtin "list.extend.loop" ⟨[.ref S,.ref z,.none],[]⟩) R s:=by
 intro k
 induction k with
 | zero =>
  intro i s H' as hk I hS' L st la hf
  have sm:Same H (upd H' S (.lst (as.map V.ref))):=fun b o e=>ZhL hS' b o (L.same b o e)
  refine VbX F.entry_extend_loop ?_
  rw [VbY VbZ _]
  show wpAny _ B.in1 (pyNext (.ref z) >>= _) _ _ s
  refine Vaz (Zta kh D I hf st (ZcG sm hqa) (ZcG sm hqb) (ZcG sm hqc) (by have:=Zia xs ys us;omega) fun h' I' _=>?_)
  refine VaA (kR _ as H' I' hS' ?_)
  rw [show i=(ZaU xs ys us).length by omega,List.take_length] at L
  exact L
 | succ k ih =>
  intro i s H' as hk I hS' L st la hf
  have sm:Same H (upd H' S (.lst (as.map V.ref))):=fun b o e=>ZhL hS' b o (L.same b o e)
  have hi:i<(ZaU xs ys us).length:=by omega
  obtain ⟨⟨x,y,u⟩,et⟩ : ∃t,(ZaU xs ys us)[i]?=some t:=⟨_,VbM hi⟩
  obtain ⟨e1,e2,e3⟩:=ZhB et
  refine VbX F.entry_extend_loop ?_
  rw [VbY VbZ _]
  show wpAny _ B.in1 (pyNext (.ref z) >>= _) _ _ s
  refine Vaz (Ztr D I hf st (ZcG sm hqa) (ZcG sm hqb) (ZcG sm hqc) e1 e2 e3 fun h' T eT hT I2 st2 kp=>?_)
  have hl:as.length<sizeLine:=by
   obtain ⟨_,_,_,hz⟩:=I.seqB (ZcG sm hqa)
   have:=ZjC xs ys us
   omega
  have ST:S≠T:=fun q=>by subst q;rw [Zah] at hT;cases hT
  have hT':H' T=none:=by rw [Zag (Ne.symm ST)] at hT;exact hT
  rw [Znh ST] at I2
  have hH:(upd (upd H' T (.tup [x,y,u])) S (.lst (as.map V.ref))) S=some (.lst (as.map V.ref)):=Zah
  obtain ⟨zz,its,n,rr,hlen,e⟩:=I2.lstM hH
  have hlen':its.length=as.length:=by rw [←hlen,VaQ]
  show wpAny _ B.in1 (updateSeq S (·.push (.ref T)) >>= _) _ _ _
  refine Vaz ?_
  refine VbV e rfl (VaA ⟨plainId_quiet VbZ _,?_⟩) (by rw [Va9];omega) (by show (its.toArray.push _).size≤sizeLine+1;rw [Array.size_push,Va9];omega)
  have I3:=I2.lset (f:=(·.push (.ref T))) (t':=s.toks) (ys:=as.map V.ref++[.ref T]) (its':=its++[.ref T]) hH e (by simp) (rr.append (.cons (show RelV (.ref T) (.ref T) from rfl) .nil)) (by rw [Va7,VaQ,Vbl];omega)
  rw [Zeb] at I3
  refine ih (i+1) _ (upd H' T (.tup [x,y,u])) (as++[T]) (by omega) ?_ ?_ ?_ ?_ ?_ ?_
  ·rw [Vb0];exact I3
  ·rw [Zag ST];exact hS'
  ·rw [List.take_add_one,et];exact .snoc L hT'
  ·exact st2.keep fun d hd o e=>(Vbk _ _ (fun h=>hS (by rw [h];exact hd))).trans e
  ·rw [Va7,la];rfl
  ·intro d hd
   have dS:d≠S:=fun q=>hS (by rw [←q];exact hd)
   have dT:d≠T:=by
    obtain ⟨o,ho,_⟩:=st.obj hd
    rw [eT]
    exact Vah (Vae ho)
   have z:=hf d hd
   refine ⟨?_,z.2⟩
   rw [Zag dS,Zag dT]
   have z1:=z.1
   rw [Zag dS] at z1
   exact z1
theorem Zoa:typeLookup (.type "zip") "__len__"=pure none:=by rw [typeLookup_type,builtinLookup_eq_fast];kernel_rfl
theorem ZmD:typeLookup (.type "zip") "__length_hint__"=pure none:=by rw [typeLookup_type,builtinLookup_eq_fast];kernel_rfl
theorem Zq5{s:Shared}{Q:Value→Shared→Prop}{E:Value→Shared→Prop}(hc:X.calm=true)(D:Ap3 z TI TO i1 i2 i3 a b c)(I:Inv X pins σ H s)(st:At3 p q r z TI TO i1 i2 i3 a b c 0 s.heap)(hf:∀d∈[z,TI,TO,i1,i2,i3],FpOk X pins H d)(hqa:SqB X.K p H a xs)(hqb:SqB X.K q H b ys)(hqc:SqB X.K r H c us)
  (kQ:∀s' S as H',Inv X pins σ (upd H' S (.lst (as.map V.ref))) s'→H' S=none→Lay3 H (ZaU xs ys us) as H'→Q (.ref S) s'):wpAny (model X.prog X.w) X.A (call (.type "list") [.ref z]) Q E s:=by
 have lt:∀d∈[z,TI,TO,i1,i2,i3],d≠s.heap.objs.size:=fun d hd=>by
  obtain ⟨o,ho,_⟩:=st.obj hd
  exact Vah (Vae ho)
 have zin:z∈[z,TI,TO,i1,i2,i3]:=by simp
 refine callType_codes (Q₁:=fun obj s₁=>obj=.ref s.heap.objs.size∧s₁={ s with heap:=s.heap.push { cls:=.type "list", data:=.seq #[] } }) F.called_list (F.typeCall_list_1 _) F.entry_list_init
  (code_list_new _ ⟨rfl,rfl⟩) fun obj s₁ hq=>?_
 obtain ⟨rfl,rfl⟩:=hq
 have hS0:H s.heap.objs.size=none:=I.fresh
 have I1:Inv X pins σ (upd H s.heap.objs.size (.lst [])) { s with heap:=s.heap.push { cls:=.type "list", data:=.seq #[] } }:=I.lnew (its:=[]) (t':=s.toks) .nil (VaT _)
 have st1:At3 p q r z TI TO i1 i2 i3 a b c 0 (s.heap.push { cls:=.type "list", data:=.seq #[] }):=st.keep fun d _ o e=>VaC _ e
 generalize hsz:s.heap.objs.size=S at *
 have kS:(s.heap.push { cls:=.type "list", data:=.seq #[] }).get? S=some { cls:=.type "list", data:=.seq #[] }:=by rw [←hsz];exact VaH _ rfl
 generalize s.heap.push { cls:=.type "list", data:=.seq #[] }=g at *
 refine ⟨⟨_,kS,rfl⟩,F.args_list_init_2 _ _,?_⟩
 show wpAny _ X.A.in1.in1 (do let old ←Builtin.List.listItems (.ref S);Builtin.List.listUpdate (.ref S) (fun _=>#[]);letGo old.toList.reverse;Builtin.List.listExtendWith (.ref S) (.ref z) .none) _ _ _
 refine Vaz ?_
 unfold Builtin.List.listItems
 refine Vaz (Vby kS rfl (VaA ?_))
 show wpAny _ X.A.in1.in1 (updateSeq S (fun _=>#[]) >>= fun _=>letGo (#[]:Array Value).toList.reverse >>= fun _=>Builtin.List.listExtendWith (.ref S) (.ref z) .none) _ _ _
 refine Vaz (VbV kS rfl ?_)
 have I2:=I1.lset (f:=fun _=>#[]) (t':=s.toks) (its:=[]) (its':=[]) (ys:=[]) (n:=0) Zah kS rfl .nil (VaT _)
 rw [Zeb] at I2
 have st2:At3 p q r z TI TO i1 i2 i3 a b c 0 (g.update S (Obj.mapSeq fun _=>#[])):=st1.keep fun d hd o e=>(Vbk _ _ (fun h=>lt d hd h.symm)).trans e
 have kS2:=VbB (Obj.mapSeq (fun _=>(#[]:Array Value))) kS rfl
 generalize g.update S (Obj.mapSeq fun _=>#[])=g2 at *
 refine Vaz (VbF ?_)
 unfold Builtin.List.listExtendWith
 obtain ⟨f0,f1,u0,v0,w0,kz,_⟩:=id st2
 have kT:(Shared.TypeIs { s with heap:=g2 } (.ref z) "zip"):=⟨_,kz,rfl⟩
 refine Vaz (Vbi kT ?_)
 have zS:S≠z:=fun h=>lt z zin h.symm
 have h1:Builtin.List.listSameRef (.ref S) (.ref z)=false:=by simp [Builtin.List.listSameRef,zS]
 have h2:(Value.type "zip"==Value.type "list")=false:=by decide
 have h3:(Value.type "zip"==Value.type "tuple")=false:=by decide
 simp only [h1,h2,h3,Bool.or_false,Vbu,Vba]
 refine Vaz (ZqN kz ?_)
 refine Vaz (Vbe ?_)
 unfold Builtin.List.listLengthHint
 refine Vaz (wpAny_specialOf kT Zoa ?_)
 show wpAny _ X.A.in1.in1 (specialOf (Value.ref z) (Str.ofString "__length_hint__") >>= _) _ _ _
 refine Vaz (wpAny_specialOf kT ZmD ?_)
 refine VaA ?_
 show wpAny _ X.A.in1.in1 (rule "list.extend.makes-room" >>= fun _=>Builtin.List.listTouch (.ref S) >>= fun _=>again (.builtin "list.extend.loop" ⟨[.ref S,.ref z,.none],[]⟩)) _ _ _
 refine Vaz (VaD ?_)
 refine Vaz ?_
 show wpAny _ X.A.in1.in1 (updateSeq S (·.push .none) >>= fun _=>updateSeq S (·.pop)) _ _ _
 refine Vaz (VbV kS2 rfl ?_)
 have kS3:=VbB (Obj.mapSeq (·.push Value.none)) kS2 rfl
 refine VbV (hz:=by seq_fits) kS3 rfl ?_
 have I3:=I2.lset (f:=(·.push Value.none)) (t':=s.toks) (its:=[]) (its':=[.none]) (ys:=[.non]) Zah kS2 rfl (.cons (show RelV .non .none from rfl) .nil) (by show (1:Nat)≤sizeLine;decide)
 rw [Zeb] at I3
 have I4:=I3.lset (f:=(·.pop)) (t':=s.toks) (its:=[.none]) (its':=[]) (ys:=[]) Zah kS3 rfl .nil (VaT _)
 rw [Zeb] at I4
 have st4:At3 p q r z TI TO i1 i2 i3 a b c 0 ((g2.update S (Obj.mapSeq (·.push Value.none))).update S (Obj.mapSeq (·.pop))):=st2.keep fun d hd o e=>(Vbk _ _ (fun h=>lt d hd h.symm)).trans ((Vbk _ _ (fun h=>lt d hd h.symm)).trans e)
 refine VaA ⟨plainId_quiet VbZ _,?_⟩
 refine Zqk (B:=X.A.in1) (I.ok.hd hc) D hqa hqb hqc (fun h=>lt S h rfl) (fun s' as H' I' e L=>⟨rfl,kQ s' S as H' I' e L⟩) (ZaU xs ys us).length 0 _ H [] (by omega) I4 hS0 .nil st4 rfl fun d hd=>?_
 have z:=hf d hd
 exact ⟨by rw [Zag (lt d hd)];exact z.1,z.2⟩
end
section
variable{X:Cx}
def tLZ(K:W.Frag)(ta:TA):TE:=fun σ H Q=>ta σ H fun vs H1=>∃p q r a b c xs ys us,vs=[.ref a,.ref b,.ref c]∧SqB K p H1 a xs∧SqB K q H1 b ys∧SqB K r H1 c us∧∀S as H',H' S=none→Lay3 H1 (ZaU xs ys us) as H'→Q (.ref S) (upd H' S (.lst (as.map V.ref)))
theorem ZuA{a b c:Expr}{ta:TA}{np lp pos pos':Pos}(hc:X.calm=true)(hg:Gl X "zip")(hm:X.mg "zip"=none)(hgl:Gl X "list")(hml:X.mg "list"=none)(ha:PA X [a,b,c] ta)(hs:starEach [a,b,c] X.env=[(false,eval a X.env),(false,eval b X.env),(false,eval c X.env)]:=by rfl)(hs2:starEach [b,c] X.env=[(false,eval b X.env),(false,eval c X.env)]:=by rfl)
  (hs3:starEach [.Call (.Name "zip" np) [a,b,c] [] pos] X.env=(false,eval (.Call (.Name "zip" np) [a,b,c] [] pos) X.env)::starEach [] X.env:=by rfl) :
  PE X (.Call (.Name "list" lp) [.Call (.Name "zip" np) [a,b,c] [] pos] [] pos') (tLZ X.K ta):=by
 intro pins s σ H Q I h
 refine Call_ (Zfr I hgl hml Zik (VaJ ?_ hs3 rfl))
 rw [hs3]
 show wpAny _ _ (spliced ((false,eval (.Call (.Name "zip" np) [a,b,c] [] pos) X.env)::backTo pos' (starEach [] X.env))) _ _ s
 refine Calls.spliced_cons ?_
 refine Call_ (Zfr I hg hm Zox (VaJ (thn (ha pos pins s σ H _ I h) fun vs0 s1 ⟨vs,H1,I1,r1,q1⟩=>?_) (by rw [hs,hs2]) (by rw [hs2];rfl)))
 obtain ⟨κ,μ,ν,l,m,n,xs,ys,us,e,hqa,hqb,hqc,q⟩:=q1
 subst e
 cases r1 with
 | cons r rr =>
  cases rr with
  | cons r' rr =>
   cases rr with
   | cons r'' rr =>
    cases rr
    cases r
    cases r'
    cases r''
    refine Zmh I1 hqa hqb hqc fun h' z TI TO i1 i2 i3 D hI st hfp _=>?_
    refine Calls.spliced_nil ?_
    exact Zq5 hc D hI st hfp hqa hqb hqc fun s' S as H' I' e L=>⟨.ref S,_,I',rfl,q S as H' e L⟩
end
end L2
namespace L2.Ds
open PySem PySem.Spec PyProof.Rows Dl
section
variable{K:W.Frag}{mg:Str→Option Value}{F:Hp}
theorem ZqX{xs:List V}{ds:List D}{us:List D}(r:Rps K mg F xs ds)(e:zip3 ds=.ok us):∃p q t a b c as bs cs d1 d2 d3,xs=[.ref a,.ref b,.ref c]∧SqB K p F a as∧SqB K q F b bs∧SqB K t F c cs∧Rps K mg F as d1∧Rps K mg F bs d2∧Rps K mg F cs d3∧us=trips d1 d2 d3:=by
 unfold zip3 at e
 split at e
 ·next x y z =>
  obtain ⟨vx,vy,vz,rfl,rx,ry,rz⟩:=r.three
  cases e1:seqD x with
  | ok d1 =>
   rw [e1] at e
   cases e2:seqD y with
   | ok d2 =>
    cases e3:seqD z with
    | ok d3 =>
     have e':((seqD y).bind fun ys=>(seqD z).bind fun zs=>Res.ok (trips d1 ys zs))=.ok us:=e
     rw [e2] at e'
     have e'':((seqD z).bind fun zs=>Res.ok (trips d1 d2 zs))=.ok us:=e'
     rw [e3] at e''
     have e4:Res.ok (trips d1 d2 d3)=.ok us:=e''
     cases e4
     obtain ⟨p,a,as,rfl,ha,ra⟩:=Zh0 rx e1
     obtain ⟨q,b,bs,rfl,hb,rb⟩:=Zh0 ry e2
     obtain ⟨t,c,cs,rfl,hc,rc⟩:=Zh0 rz e3
     exact ⟨p,q,t,a,b,c,as,bs,cs,d1,d2,d3,rfl,ha,hb,hc,ra,rb,rc,rfl⟩
    | ex c =>
     have e':((seqD y).bind fun ys=>(seqD z).bind fun zs=>Res.ok (trips d1 ys zs))=.ok us:=e
     rw [e2] at e'
     have e'':((seqD z).bind fun zs=>Res.ok (trips d1 d2 zs))=.ok us:=e'
     rw [e3] at e'';cases e''
    | bad =>
     have e':((seqD y).bind fun ys=>(seqD z).bind fun zs=>Res.ok (trips d1 ys zs))=.ok us:=e
     rw [e2] at e'
     have e'':((seqD z).bind fun zs=>Res.ok (trips d1 d2 zs))=.ok us:=e'
     rw [e3] at e'';cases e''
   | ex c =>
    have e':((seqD y).bind fun ys=>(seqD z).bind fun zs=>Res.ok (trips d1 ys zs))=.ok us:=e
    rw [e2] at e';cases e'
   | bad =>
    have e':((seqD y).bind fun ys=>(seqD z).bind fun zs=>Res.ok (trips d1 ys zs))=.ok us:=e
    rw [e2] at e';cases e'
  | ex c=>rw [e1] at e;cases e
  | bad=>rw [e1] at e;cases e
 ·cases e
theorem ZpV{ds:List D}{c:Str}:zip3 ds≠.ex c:=by
 intro e
 unfold zip3 at e
 split at e
 ·next x y z =>
  cases e1:seqD x with
  | ok d1 =>
   rw [e1] at e
   have e':((seqD y).bind fun ys=>(seqD z).bind fun zs=>Res.ok (trips d1 ys zs))=.ex c:=e
   cases e2:seqD y with
   | ok d2 =>
    rw [e2] at e'
    have e'':((seqD z).bind fun zs=>Res.ok (trips d1 d2 zs))=.ex c:=e'
    cases e3:seqD z with
    | ok d3=>rw [e3] at e'';cases e''
    | ex c'=>exact absurd e3 ZhO
    | bad=>rw [e3] at e'';cases e''
   | ex c'=>exact absurd e2 ZhO
   | bad=>rw [e2] at e';cases e'
  | ex c'=>exact absurd e1 ZhO
  | bad=>rw [e1] at e;cases e
 ·cases e
theorem ZqA:∀{H H':Hp} {ts:List (V×V×V)} {as:List Addr},Lay3 H ts as H'→∀{F:Hp},Same F H→∀{us:List D},us.length=ts.length→(∀(i:Nat) x y z d,ts[i]?=some (x,y,z)→us[i]?=some d→∃a b c,d=.tup [a,b,c]∧Rp K mg F x a∧Rp K mg F y b∧Rp K mg F z c)→∃F',Gr F H F' H'∧Rps K mg F' (as.map V.ref) us:=by
 intro H H' ts as L
 induction L with
 | nil =>
  intro F s us hl _
  have:us=[]:=List.length_eq_zero_iff.mp hl
  subst this
  exact ⟨F,.refl s,.nil⟩
 | @snoc ts as H1 T x y u L hT ih =>
  intro F s us hl hd
  have hl':us.length=ts.length+1:=by rw [hl,Va7];rfl
  obtain ⟨d,eu⟩ : ∃d,us[ts.length]?=some d:=⟨_,VbM (by omega)⟩
  obtain ⟨us',rfl⟩ : ∃us',us=us'++[d]:=by
   refine ⟨us.take ts.length,?_⟩
   have:=List.take_append_drop ts.length us
   rw [Vbt (by omega),VbN (by omega)] at this
   have e:us[ts.length]=d:=by
    have:=VbM (show ts.length<us.length by omega)
    rw [eu] at this
    exact (Vav this).symm
   rw [e] at this
   exact this.symm
  have hl2:us'.length=ts.length:=by rw [Va7] at hl';simpa using hl'
  obtain ⟨F1,g1,r1⟩:=ih s hl2 fun i x y z e h1 h2=>hd i x y z e (by rw [Va4 ((Vau.mp h1).1)];exact h1) (by rw [Va4 ((Vau.mp h2).1)];exact h2)
  obtain ⟨a,b,c,rfl,ra,rb,rc⟩:=hd ts.length x y u d (by simp) eu
  have g2:Gr F1 H1 _ _:=.new g1.s hT (.tup [x,y,u])
  refine ⟨_,g1.trans g2,?_⟩
  rw [Vb0]
  refine Rps.app (.cons (.tup (SqT.of Zah) (.cons ((ra.same g1.f).same g2.f) (.cons ((rb.same g1.f).same g2.f) (.cons ((rc.same g1.f).same g2.f) .nil)))) .nil) (r1.same g2.f)
theorem Zfl:∀{xs ys zs:List V} {ds es fs:List D},Rps K mg F xs ds→Rps K mg F ys es→Rps K mg F zs fs→(trips ds es fs).length=(ZaU xs ys zs).length∧∀(i:Nat) x y z d,(ZaU xs ys zs)[i]?=some (x,y,z)→(trips ds es fs)[i]?=some d→∃a b c,d=.tup [a,b,c]∧Rp K mg F x a∧Rp K mg F y b∧Rp K mg F z c
 | _,_,_,_,_,_,.nil,_,_=>⟨by simp [trips,ZaU],fun i x y z d h=>by simp [ZaU] at h⟩
 | _,_,_,_,_,_,.cons _ _,.nil,_=>⟨by simp [trips,ZaU],fun i x y z d h=>by simp [ZaU] at h⟩
 | _,_,_,_,_,_,.cons _ _,.cons _ _,.nil=>⟨by simp [trips,ZaU],fun i x y z d h=>by simp [ZaU] at h⟩
 | _,_,_,_,_,_,.cons h1 r1,.cons h2 r2,.cons h3 r3=>by
  obtain ⟨l,q⟩:=Zfl r1 r2 r3
  refine ⟨by simp [trips,ZaU,l],fun i x y z d e1 e2=>?_⟩
  cases i with
  | zero =>
   simp [ZaU] at e1
   obtain ⟨rfl,rfl,rfl⟩:=e1
   simp [trips] at e2
   subst e2
   exact ⟨_,_,_,rfl,h1,h2,h3⟩
  | succ i=>exact q i x y z d (by simpa [ZaU] using e1) (by simpa [trips] using e2)
end
section
variable{X:Cx}{E:XK}{a b c:Expr}{n:Nat}{t:TA}{m:MA}{pos pos' lp p:Pos}
theorem ydb(hcm:X.calm=true)(hg:Gl X "zip")(hm:X.mg "zip"=none)(hgl:Gl X "list")(hml:X.mg "list"=none)(ha:DA X E n [a,b,c] t m)(hs:starEach [a,b,c] X.env=[(false,eval a X.env),(false,eval b X.env),(false,eval c X.env)]:=by rfl)(hs2:starEach [b,c] X.env=[(false,eval b X.env),(false,eval c X.env)]:=by rfl)
  (hs3:starEach [.Call (.Name "zip" p) [a,b,c] [] pos] X.env=(false,eval (.Call (.Name "zip" p) [a,b,c] [] pos) X.env)::starEach [] X.env:=by rfl) :
  DE X E (.Call (.Name "list" lp) [.Call (.Name "zip" p) [a,b,c] [] pos] [] pos') (tLZ X.K t) (on lz3 m):=by
 refine ⟨ZuA hcm hg hm hgl hml ha.p hs hs2 hs3,?_⟩
 intro F0 H0 F H σ ρ rr
 refine (ha.s F0 H0 F H σ ρ rr).bind (w':=fun vs H1 Q=>∃p q r a b c xs ys us,vs=[V.ref a,V.ref b,V.ref c]∧SqB X.K p H1 a xs∧SqB X.K q H1 b ys∧SqB X.K r H1 c us∧∀S as H',H' S=none→Lay3 H1 (ZaU xs ys us) as H'→Q (V.ref S) (upd H' S (.lst (as.map V.ref)))) fun F1 H1 xs ds g1 rs=>?_
 unfold lz3
 cases e:zip3 ds with
 | ok us =>
  obtain ⟨p,q,t,a,b,c,as,bs,cs,d1,d2,d3,rfl,ha,hb,hc,ra,rb,rc,rfl⟩:=ZqX rs e
  obtain ⟨l,z⟩:=Zfl ra rb rc
  refine fun Q q'=>⟨p,q,t,a,b,c,as,bs,cs,rfl,ZcH g1.s ha,ZcH g1.s hb,ZcH g1.s hc,fun S as' H' hS L=>?_⟩
  obtain ⟨F2,g2,r2⟩:=ZqA L g1.s l z
  have g3:Gr F2 H' _ _:=.new g2.s hS (.lst (as'.map V.ref))
  exact q' _ _ _ (g2.trans g3) (.lst (SqL.of Zah) (r2.same g3.f))
 | ex c'=>exact absurd e ZpV
 | bad=>trivial
end
end L2.Ds
namespace Dl
open PySem
end Dl
namespace L2
open PySem PySem.Spec PyProof.Rows PySem.Calls
end L2
namespace L2.Ds
open PySem PySem.Spec PyProof.Rows PySem.Calls Dl
end L2.Ds
namespace Dl
open PySem
end Dl
namespace L2
open PySem PySem.Spec PyProof.Rows
end L2
namespace L2.Ds
open PySem PySem.Spec PyProof.Rows PySem.Calls Dl
end L2.Ds
namespace Dl
open PySem
end Dl
namespace L2.Ds
open PySem PySem.Spec PyProof.Rows PySem.Calls Dl
end L2.Ds
namespace Dl
open PySem
end Dl
namespace L2.Ds
open PySem PySem.Spec PyProof.Rows Dl
end L2.Ds
namespace Dl
open PySem
def ZiI(it:MI)(own:Nat)(cap:List Nat)(g:MG)(t:MB)(e:ME):ME:=fun ρ=>(it ρ).bind fun xs =>
 if xs.length≤LIM then (Zan g t e (noA own (yav ρ cap)) xs).bind fun ys=>.ok (.lst ys) else .bad
end Dl
namespace L2
open PySem PySem.Spec PyProof.Rows
section
variable{M:Model}{A:Around}{E:Value→Shared→Prop}{s:Shared}{B:Heap}{env cenv:Env}{outer l:List Env}{L e:Addr}{cls a0 fl:Value}
theorem Zgm{h h' B':Heap}{C:Addr}(sB:∀b o,B'.get? b=some o→B.get? b=some o)(k:∀b o,b≠C→h.get? b=some o→h'.get? b=some o):∀{l:List Env},C∉frs l→h.FunFrames B l→h'.FunFrames B' l
 | [],_,_=>trivial
 | v::r,hC,⟨h1,⟨L,o,h2,h3,h4,h5⟩,h6⟩=>by
  have nC:L≠C∧C∉frs r:=by
   unfold frs at hC ⊢
   rw [Van,h2] at hC
   exact ⟨fun z=>hC (z▸Vao),fun z=>hC (Vap _ z)⟩
  refine ⟨h1,⟨L,o,h2,?_,k L o nC.1 h4,h5⟩,Zgm sB k nC.2 h6⟩
  cases q:B'.get? L with
  | none=>rfl
  | some u=>rw [sB L u q] at h3;cases h3
theorem Ze1{Q:Unit→Shared→Prop}(hfr:A.frames=some (env::outer))(hf:env.frame=some L)(hkb:B.StaysIn s.heap)(hen:B.get? e=none)(hl:s.heap.FunFrames B (env::outer))(ht:s.heap.TracedAtW B e cls a0 fl)
  (hQ:∀h',Heap.FlyingW B outer e cls a0 h'→s.heap.UpToSlots h'→Q () { s with heap:=h' }):wpAny M A (leaving env (.ref e)) Q E s:=by
 by_cases hfl:fl=rawInt L
 ·subst hfl
  unfold leaving
  refine Vaz (wpAny_noteFrame_againW hf ht ?_)
  refine wpAny_landsW (L:=L) ⟨hkb,hen,hl,ht⟩ fun h' x1 sm=>?_
  obtain ⟨k1,k2,⟨_,_,k3⟩,k4⟩:=x1
  exact hQ h' ⟨k1,k2,k3,k4⟩ sm
 ·obtain ⟨oe,vs,T,oT,ts,he,⟨hcls,h0⟩,hd,h1,hnT,hTe,hT,hdT,h3⟩:=ht
  subst hcls
  have away:∀b,b≠T→(s.heap.update T (Obj.mapFields (·.setIfInBounds 3 Value.none))).get? b=s.heap.get? b:=fun b hb=>Vbk _ _ (Ne.symm hb)
  have neT:∀b o,s.heap.get? b=some o→(∀vs,o.data≠.fields vs)→b≠T:=fun b o hb hnf q=>by
   rw [q,hT] at hb
   cases hb
   exact hnf ts hdT
  unfold leaving noteFrame
  simp only [hf]
  refine Vaz (Vaz (Vbc he hd h1 ?_))
  rw [if_pos (show (Value.ref T != Value.none)=true from by simp)]
  refine Vaz (Vbc hT hdT h3 ?_)
  rw [if_neg (show ¬((fl==rawInt L)=true) from by simpa using hfl)]
  refine Vaz (wpAny_setField hT hdT (Vb1.mp h3).1 ?_)
  refine wpAny_newEntryW hfr (hl.of_keeps fun b o hb hnf=>⟨o,(away b (neT b o hb hnf)).trans hb,rfl⟩) hf ((away e (Ne.symm hTe)).trans he) (fun b o hbo=>(away b fun q=>by rw [q,hnT] at hbo;cases hbo).trans (hkb b o hbo)) hen hd (Vb1.mp h1).1 h0 fun h' x=>?_
  obtain ⟨x1,⟨_,_,x2⟩,x3,x4⟩:=x
  exact hQ h' ⟨x1,hen,x2,x3⟩ fun b o hb hnf=>x4 b o ((away b (neT b o hb hnf)).trans hb) hnf
theorem Zf3{what:String}(hkb:B.StaysIn s.heap)(hl:s.heap.FunFrames B l)(ht:s.heap.TracedAtW B e cls a0 fl)
  (h:∀h' fl',B.StaysIn h'→h'.FunFrames B l→h'.TracedAtW B e cls a0 fl'→(∀b o,s.heap.get? b=some o→(∀vs,o.data≠.fields vs)→h'.get? b=some o)→E (.ref e) { s with heap:=h' }) :
  wpAny M A (PySem.passOn what (.ref e) cenv:Sem Value) (fun _ _=>False) E s:=by
 obtain ⟨oe,vs,T,oT,ts,he,hcls,hd,h1,hnT,hTe,hT,hdT,h3⟩:=ht
 have sz:3<ts.size:=(Vb1.mp h3).1
 have away:∀b,b≠T→(s.heap.update T (Obj.mapFields (·.setIfInBounds 3 (cenv.frame.elim Value.none fun f=>rawInt f)))).get? b=s.heap.get? b:=fun b hb=>Vbk _ _ (Ne.symm hb)
 have neT:∀b o,s.heap.get? b=some o→(∀vs,o.data≠.fields vs)→b≠T:=fun b o hb hnf q=>by
  rw [q,hT] at hb
  cases hb
  exact hnf ts hdT
 unfold PySem.passOn
 refine Vaz (Vbc he hd h1 ?_)
 rw [if_neg (show ¬((Value.ref T==Value.none)=true) from by simp)]
 refine Vaz ?_
 unfold setFlight
 refine Vaz (Vbc he hd h1 ?_)
 rw [if_pos (show (Value.ref T != Value.none)=true from by simp)]
 refine wpAny_setField hT hdT sz ?_
 refine wpAny_throw ?_
 refine h _ (cenv.frame.elim Value.none fun f=>rawInt f) (fun b o hbo=>(away b fun q=>by rw [q,hnT] at hbo;cases hbo).trans (hkb b o hbo)) (hl.of_keeps fun b o hb hnf=>⟨o,(away b (neT b o hb hnf)).trans hb,rfl⟩) ?_ fun b o hb hnf=>(away b (neT b o hb hnf)).trans hb
 exact ⟨oe,vs,T,_,_,(away e (Ne.symm hTe)).trans he,hcls,hd,h1,hnT,hTe,VbB _ hT (Obj.isFreed_of_fields (VbC hdT _)),VbC hdT _,by simp [sz]⟩
end
theorem Zqv{P:Program}{w:World}{l l':List Env}{H H':Hp}{s s':Shared}{x:Addr}{cls a0:Value}{B h':Heap}(os:s'.os=s.os)(bare:AllBare s'.gens)(un:Un (frs l) [] H H' s.heap s'.heap)(hok:HOk P w H' s'.heap)
  (frf:∀b∈frs l,H' b=none) (nf:∀b∈frs l,∃o,s'.heap.get? b=some o∧∀vs,o.data≠.fields vs)
  (cov:∀b o,s'.heap.get? b=some o→(H' b≠none∨∃o',s.heap.get? b=some o')→b∉frs l→B.get? b=some o)
  (sub:∀b∈frs l',b∈frs l) (new:∀b∈frs l,b∉frs l'→s.heap.get? b=none) (fl:Heap.FlyingW B l' x cls a0 h') (sm:∀b∈frs l,∀o,s'.heap.get? b=some o→(∀vs,o.data≠.fields vs)→∃sl,h'.get? b=some { o with slots:=sl }) (free:H' x=none) :
  Fly P w l' H H' s { s' with heap:=h' } x cls:=by
 have stay:∀b o,s'.heap.get? b=some o→(H' b≠none∨∃o',s.heap.get? b=some o')→b∉frs l→h'.get? b=some o:=fun b o e q hb=>fl.1 b o (cov b o e q hb)
 have out:∀{b:Addr} {o:Obj},s.heap.get? b=some o→b∉frs l'→b∉frs l:=fun {b o} e hb z=>by
  rw [new b z hb] at e;cases e
 refine ⟨os,bare,⟨fun b o e n hb hx=>?_,fun b o e n hb hx=>?_,un.free,fun b o e hx=>?_,un.tups,un.frzs,un.tbls⟩,fun a o e=>?_,fun b hb=>frf b (sub b hb),free,B,a0,fl,fun b o e q hb=>?_⟩
 ·exact stay b o (un.keep b o e n (out e hb) hx) (.inr ⟨o,e⟩) (out e hb)
 ·obtain ⟨sl,q⟩:=un.slot b o e n (sub b hb) hx
  obtain ⟨o1,q1,d1⟩:=nf b (sub b hb)
  rw [q] at q1;cases q1
  obtain ⟨sl',q2⟩:=sm b (sub b hb) _ q d1
  exact ⟨sl',q2⟩
 ·obtain ⟨o',q⟩:=un.there b o e hx
  by_cases hb:b∈frs l
  ·obtain ⟨o1,q1,d1⟩:=nf b hb
   obtain ⟨sl',q2⟩:=sm b hb _ q1 d1
   exact ⟨_,q2⟩
  ·exact ⟨o',stay b o' q (.inr ⟨o,e⟩) hb⟩
 ·refine (hok a o e).stay (fun b u hb q=>?_) (fun _ q=>q) fun _ _ q=>q
  have tr:H' b≠none:=by
   rcases hb with rfl | hb
   ·rw [e];simp
   ·rw [hb];simp
  exact stay b u q (.inl tr) fun z=>tr (frf b z)
 ·have hb':b∉frs l:=by
   intro z
   rcases q with q | ⟨o',q⟩
   ·exact q (frf b z)
   ·exact out q hb z
  have ⟨o1,q1⟩ : ∃o1,s'.heap.get? b=some o1:=by
   rcases q with q | ⟨o',q⟩
   ·cases z:H' b with
    | none=>exact absurd z q
    | some u=>exact (hok b u z).there
   ·exact un.there b o' q (by simp)
  have c:=cov b o1 q1 q hb'
  have z:=fl.1 b o1 c
  have e':h'.get? b=some o:=e
  rw [e'] at z;cases z
  exact c
def xfE(E:XK)(X:Cx):Addr→Shared→Hp→List Addr→Value→Shared→Prop:=fun C s H fp e s'=>∃H6 s6,s6.os=s.os∧Un (frs X.stack) fp H H6 s.heap s6.heap∧(∃m,s6.heap.Ns C m)∧H6 C=none∧CXR X.prog X.w X.stack H6 s6 E e s'
theorem ZqV{X:Cx}{E:XK}{N:List Str}{scope:Scope}{cl:List (Str×Addr)}{C:Addr}{s:Shared}{H:Hp}{fp:List Addr}{pn:List (Addr×Obj)}:ZbV (CXR X.prog X.w) (Zav (xfE E X) X N scope cl C s H fp pn) E:=by
 intro pins σ H6 s6 e s' I h
 obtain ⟨m,hn,_⟩:=I.loc
 exact ⟨H6,s6,I.os,I.base,⟨m,hn⟩,I.free,h⟩
section
variable{X:Cx}{E:XK}{pins:List (Addr×Obj)}{σ:St}{H:Hp}{s s7:Shared}{fp:List Addr}{scope:Scope}{cells:List (Str×Addr)}{C:Addr}{e acc:Value}{use:Option (Value→Sem Unit)}{Q:Value→Shared→Prop}
theorem Un.strip{fs ex:List Addr}{H H1:Hp}{h h1:Heap}(u:Un fs ex H H1 h h1)(n:∀b∈ex,h.get? b=none):Un fs [] H H1 h h1:=by
 have no:∀{b:Addr} {o:Obj},h.get? b=some o→b∉ex:=fun {b o} e z=>by rw [n b z] at e;cases e
 exact ⟨fun b o e q1 q2 _=>u.keep b o e q1 q2 (no e),fun b o e q1 q2 _=>u.slot b o e q1 q2 (no e),fun b o e q1 _=>u.free b o e q1 (no e),fun b o e _=>u.there b o e (no e),u.tups,u.frzs,u.tbls⟩
theorem Znv(hst:X.stack=X.env::X.outer)(hfr:X.env.frame=some X.env.locals)(hex:X.ex=[])
  (hxe:X.xe=fun e s'=>wpAny (model X.prog X.w) X.A (leaving X.env e) (fun _ s''=>CXR X.prog X.w X.outer X.H₀ X.s₀ E e s'') (fun e' s''=>CXR X.prog X.w X.outer X.H₀ X.s₀ E e' s'') s')
  (I:Inv X pins σ H s) (fpn:∀b∈fp,X.s₀.heap.objs.size≤b) (hC:s.heap.objs.size≤C) (h:xfE E X C s H fp e s7) :
  notedBy (model X.prog X.w) X.A (compEnvC scope cells C X.env) (fun e s'=>compPost (model X.prog X.w) X.A X.xe use Q acc C (.error e) s') e s7:=by
 obtain ⟨H6,s6,os6,un6,⟨m,oc,es,ep,ho,hd,hk⟩,fC,x,cls,H',rfl,F,q⟩:=h
 obtain ⟨B,a0,fl,cov⟩:=F.ex
 have nfC:C∉frs X.stack:=fun z=>by
  rcases Var.mp (I.stkSub C z) with q | q
  ·exact absurd (Vaf I.lt hC) (by rw [q];exact Vag _)
  ·exact I.nofs hC q
 have C7:s7.heap.get? C=some oc:=F.un.keep C oc ho fC nfC (by simp)
 have nC7:H' C=none:=F.un.free C oc ho fC (by simp)
 have C0:X.s₀.heap.get? C=none:=Vaq (Vak I.sz hC)
 have ns7:s7.heap.Ns C m:=⟨oc,es,ep,C7,hd,hk⟩
 show wpAny _ _ (noteFrame (.ref x) X.env) _ _ s7
 refine wpAny_looks_onW (outer:=X.outer) (by rw [←hst];exact I.ok.frames) hfr (by rw [←hst];exact fl) fun h8 held sm8=>?_
 obtain ⟨k1,k2,k3,k4⟩:=held
 refine ⟨m,sm8.ns ns7,fun h9 sb cenv' _=>?_⟩
 have kb9:∀b o,b≠C→h8.get? b=some o→h9.get? b=some o:=fun b o hb z=>sb.extBut b o hb z
 obtain ⟨sl8,C8⟩:=sm8 C oc C7 fun vs z=>by rw [hd] at z;cases z
 have neF:∀{b:Addr} {o:Obj} {vs:Array Value},h8.get? b=some o→o.data=.fields vs→b≠C:=fun {b o vs} z1 z2 z3=>by
  rw [z3,C8] at z1
  cases z1
  have z2':oc.data=.fields vs:=z2
  rw [hd] at z2'
  cases z2'
 have hide:∀b o,(W.hideAll B [C]).get? b=some o→B.get? b=some o:=fun b o z=>W.of_hideAll _ z
 have hideC:∀b o,(W.hideAll B [C]).get? b=some o→b≠C:=fun b o z1 z2=>by
  rw [z2,W.hideAll_none [C] (by simp)] at z1
  cases z1
 have t9:h9.TracedAtW (W.hideAll B [C]) x cls a0 (rawInt X.env.locals):=by
  obtain ⟨oe,vs,T,oT,ts,he,hc,hd,h1,hnT,hTe,hT,hdT,h3⟩:=k4
  refine ⟨oe,vs,T,oT,ts,kb9 _ _ (neF he hd) he,hc,hd,h1,?_,hTe,kb9 _ _ (neF hT hdT) hT,hdT,h3⟩
  cases z:(W.hideAll B [C]).get? T with
  | none=>rfl
  | some u=>rw [hide _ _ z] at hnT;cases hnT
 have st9:(W.hideAll B [C]).StaysIn h9:=fun b o z=>kb9 b o (hideC b o z) (k1 b o (hide b o z))
 have en9:(W.hideAll B [C]).get? x=none:=by
  cases z:(W.hideAll B [C]).get? x with
  | none=>rfl
  | some u=>rw [hide _ _ z] at k2;cases k2
 have f9:h9.FunFrames (W.hideAll B [C]) (X.env::X.outer):=Zgm hide kb9 (by rw [←hst];exact nfC) k3
 refine Zf3 (l:=X.env::X.outer) st9 f9 t9 fun h10 fl' st10 f10 t10 sm10=>?_
 rw [hxe]
 refine Ze1 (by rw [←hst];exact I.ok.frames) hfr st10 en9 f10 t10 fun h11 fl11 sm11=>?_
 refine ⟨x,cls,H',rfl,?_,q⟩
 have un:Un (frs X.stack) [] X.H₀ H' X.s₀.heap s7.heap:=by
  refine Un.strip (ex:=fp) ?_ fun b hb=>Vaq (fpn b hb)
  exact ((I.base.mono I.sub (by rw [hex];simp)).trans un6).trans (F.un.mono (fun _ z=>z) (by simp))
 refine Zqv (l:=X.stack) (s':=s7) (F.os.trans (os6.trans I.os)) F.bare un F.hok F.frf (fun b hb=>(fl.2.2.1.mem hb).2) (B:=W.hideAll B [C]) (a0:=a0) (fun b o z1 z2 z3=>?_) I.sub (fun b h1 h2=>?_) fl11 (fun b hb o z1 z2=>?_) F.free
 ·have nb:b≠C:=by
   rintro rfl
   rcases z2 with z2 | ⟨o',z2⟩
   ·exact z2 nC7
   ·rw [C0] at z2;cases z2
  have zB:B.get? b=some o:=cov b o z1 (z2.imp id fun ⟨o',z⟩=>by
   obtain ⟨o1,w1⟩:=I.base.there b o' z (by rw [hex];simp)
   exact un6.there b o1 w1 fun hb=>by
    rw [Vaq (fpn b hb)] at z;cases z) z3
  exact W.hideAll_get _ zB (by simpa using nb)
 ·rcases Var.mp (I.stkSub b h1) with e | e
  ·rw [e];exact Vaq I.ok.above
  ·exact absurd e h2
 ·have nb:b≠C:=fun z=>nfC (z▸hb)
  obtain ⟨sl,w8⟩:=sm8 b o z1 z2
  have w9:=kb9 b _ nb w8
  have w10:=sm10 b _ w9 z2
  obtain ⟨sl',w11⟩:=sm11 b _ w10 z2
  exact ⟨sl',w11⟩
end
section
variable{X:Cx}{own:List Str}{cap:List (Str×Nat)}{scope:Scope}{cl:List (Str×Addr)}{pins:List (Addr×Obj)}{σ:St}{H:Hp}{s:Shared}{fp:List Addr}{tg:Expr}{J:It}{it:Addr}{tn:Nat→Heap→Prop}{E:XK}
structure Ztt(X:Cx)(E:XK):Prop where
 hst:X.stack=X.env::X.outer
 hfr:X.env.frame=some X.env.locals
 hex:X.ex=[]
 hxe:X.xe=fun e s'=>wpAny (model X.prog X.w) X.A (leaving X.env e) (fun _ s''=>CXR X.prog X.w X.outer X.H₀ X.s₀ E e s'') (fun e' s''=>CXR X.prog X.w X.outer X.H₀ X.s₀ E e' s'') s'
theorem Zn5{elt iter:Expr}{pos:Pos}{wi:TI}{ts:List Expr}{g:Fam TG}{tt:Fam TT}{te:Fam TE}(b:Ztt X E)(hi:PI X tg iter wi)(O:ZcU X own cap scope cl)(hc:X.calm=true)
  (hg:∀C s H fp pn,PG (Zav (xfE E X) X (own++cap.map (·.1)) scope cl C s H fp pn) tg (g C s H fp pn)) (ht:∀C s H fp pn,PTs (Zav (xfE E X) X (own++cap.map (·.1)) scope cl C s H fp pn) ts (tt C s H fp pn)) (he:∀C s H fp pn,PE (Zav (xfE E X) X (own++cap.map (·.1)) scope cl C s H fp pn) elt (te C s H fp pn)) (hts:ts.length≤1)
  (hs:∀x,foldedSetIterable iter X.env x=pure x:=by intro _;rfl):PE X (.ListComp elt [⟨tg,iter,ts,0⟩] scope pos) (ZeS wi g tt te own cap):=by
 intro pins s σ H Q I h
 rw [eval_ListComp]
 refine wpAny_comprehension_free (use:=none) rfl hs O.clos O.kind O.locals (thn (hi pins s σ H _ I h) fun xv s₁ h₁=>thn h₁ fun itv s₂ h₂=>?_)
 obtain ⟨it,fp,tn,J,H2,rfl,I2,T,st2,f2,hw⟩:=h₂
 refine Zh8 (xf:=xfE E X) (R:=fun acc C=>compPost (model X.prog X.w) X.A X.xe none (EP X pins σ Q) acc C) O hc hg ht he hts I2 T st2 f2 hw ?_ ?_
 ·intro D C H' s' m hC hn hH IV q
  exact ⟨m,hn,fun h' sb=>⟨.ref D,H',IV h' sb,rfl,q⟩⟩
 ·intro D C cells e s' hC z
  refine Znv b.hst b.hfr b.hex b.hxe I2 (fun a ha=>?_) hC z
  rcases (f2 a ha).2.2.2.1 with q | q
  ·rw [b.hex] at q;cases q
  ·exact q
end
end L2
namespace L2.Ds
open PySem PySem.Spec PyProof.Rows Dl
section
variable{K:W.Frag}{mg:Str→Option Value}{E:XK}{F0 H0 F H:Hp}{σ:St}{ρ:Ev}
theorem Zok{t:TG}{g:MG}{tt:TT}{nt:MB}{te:TE}{me:ME}{own:List Str}{cap:List (Str×Nat)}{J:It}{ds ys:List D}(r:Rep K mg F0 H0 F H σ ρ)(jo:ItOk K mg F J ds)(hg:SG K mg own.length t g)(ht:STt K mg E tt nt)(he:SE K mg E te me)
  (hl:ds.length≤LIM) (e0:Dl.Zan g nt me (noA own.length (yav ρ (cap.map (·.2)))) ds=.ok ys) (Q:VK) (q:∀F' H' xs,Gr F H F' H'→Rps K mg F' xs ys→xs.length≤sizeLine→∀p,H' p=none→Q (.ref p) (upd H' p (.lst xs))) :
  ZcX J t tt te own cap σ Q H:=by
 refine ⟨fun i k acc H'=>k=ds.length - i∧i≤ds.length∧acc.length≤i∧∃F' zs rs,Gr F H F' H'∧Rps K mg F' acc zs∧Dl.Zan g nt me (noA own.length (yav ρ (cap.map (·.2)))) (ds.drop i)=.ok rs∧zs++rs=ys,
  ⟨ds.length,by simp,VaT _,VaI _,F,[],ys,.refl r.ss,.nil,e0,rfl⟩,?_⟩
 rintro i k acc H' ⟨rfl,hi,ha,F',zs,rs,g1,r1,e1,e2⟩
 have la:acc.length≤LIM:=Vak ha (Vak hi hl)
 refine ⟨ZeY la,?_⟩
 by_cases hlt:i<ds.length
 ·refine .inr ?_
  have hd:ds[i]?=some ds[i]:=VbM hlt
  obtain ⟨go,yl⟩:=(jo F' H' g1.f g1.s i).1 _ hd
  rw [Vbt hlt] at e1
  refine ⟨go,fun x H2 y=>?_⟩
  obtain ⟨F2,g2,rx⟩:=yl x H2 y
  have rr:=(r.gr (g1.trans g2)).inner (own:=own) (cap:=cap) (g1.trans g2)
  have hG:=hg F H F2 H2 _ _ x _ rr rx
  have e':(g ds[i] (noA own.length (yav ρ (cap.map (·.2))))).bind (fun ρ1=>(nt ρ1).bind fun b=>if b=true then (me ρ1).bind fun y=>(Dl.Zan g nt me (noA own.length (yav ρ (cap.map (·.2)))) (ds.drop (i+1))).bind fun ys=>.ok (y::ys) else Dl.Zan g nt me (noA own.length (yav ρ (cap.map (·.2)))) (ds.drop (i+1)))=.ok rs:=e1
  cases eg:g ds[i] (noA own.length (yav ρ (cap.map (·.2)))) with
  | ok ρ1 =>
   rw [eg] at e' hG
   refine hG _ fun F3 H3 σ3 s3 r3 d3=>⟨d3.trans Zim,?_⟩
   have hT:=ht F H F3 H3 σ3 ρ1 r3
   have sF:Same F' F3:=g2.f.trans s3
   have e3:(nt ρ1).bind (fun b=>if b=true then (me ρ1).bind fun y=>(Dl.Zan g nt me (noA own.length (yav ρ (cap.map (·.2)))) (ds.drop (i+1))).bind fun ys=>.ok (y::ys) else Dl.Zan g nt me (noA own.length (yav ρ (cap.map (·.2)))) (ds.drop (i+1)))=.ok rs:=e'
   cases et:nt ρ1 with
   | ok b =>
    rw [et] at e3 hT
    refine hT _ fun F4 H4 b' g4 eb=>?_
    cases (show b'=b from eb)
    cases b with
    | true =>
     rw [if_pos rfl]
     have e4:(me ρ1).bind (fun y=>(Dl.Zan g nt me (noA own.length (yav ρ (cap.map (·.2)))) (ds.drop (i+1))).bind fun ys=>.ok (y::ys))=.ok rs:=e3
     have hE:=he F H F4 H4 σ3 ρ1 (r3.gr g4)
     cases em:me ρ1 with
     | ok y' =>
      rw [em] at e4 hE
      refine hE _ fun F5 H5 u g5 ru=>⟨Vbn la (by decide),ds.length - (i+1),by omega,rfl,hlt,by rw [Va7];show acc.length+1≤i+1;omega,?_⟩
      have e5:(Dl.Zan g nt me (noA own.length (yav ρ (cap.map (·.2)))) (ds.drop (i+1))).bind (fun ys=>.ok (y'::ys))=.ok rs:=e4
      cases ec:Dl.Zan g nt me (noA own.length (yav ρ (cap.map (·.2)))) (ds.drop (i+1)) with
      | ok rs' =>
       rw [ec] at e5
       have e6:Res.ok (y'::rs')=.ok rs:=e5
       cases e6
       exact ⟨F5,zs++[y'],rs',r3.g.trans (g4.trans g5),Rps.app (.cons ru .nil) (r1.same (sF.trans (g4.f.trans g5.f))),rfl,by rw [VbP];exact e2⟩
      | ex c=>rw [ec] at e5;cases e5
      | bad=>rw [ec] at e5;cases e5
     | ex c=>rw [em] at e4;cases e4
     | bad=>rw [em] at e4;cases e4
    | false =>
     rw [if_neg VaF]
     have e4:Dl.Zan g nt me (noA own.length (yav ρ (cap.map (·.2)))) (ds.drop (i+1))=.ok rs:=e3
     exact ⟨ds.length - (i+1),by omega,rfl,hlt,by omega,F4,zs,rs,r3.g.trans g4,r1.same (sF.trans g4.f),e4,e2⟩
   | ex c=>rw [et] at e3;cases e3
   | bad=>rw [et] at e3;cases e3
  | ex c=>rw [eg] at e';cases e'
  | bad=>rw [eg] at e';cases e'
 ·have hi2:i=ds.length:=by omega
  subst hi2
  rw [VbN (VaI _)] at e1
  cases e1
  rw [VaV] at e2
  subst e2
  exact .inl ⟨(jo F' H' g1.f g1.s _).2 (VaI _),q F' H' acc g1 r1 (ZeY la)⟩
theorem ZmT{t:TG}{g:MG}{tt:TT}{nt:MB}{te:TE}{me:ME}{own:List Str}{cap:List (Str×Nat)}{J:It}{ds:List D}{c:Str}(r:Rep K mg F0 H0 F H σ ρ)(jo:ItOk K mg F J ds)(hg:SG K mg own.length t g)(hgx:∀d ρ c,g d ρ≠.ex c)(ht:STt K mg E tt nt)(he:SE K mg E te me)
  (hl:ds.length≤LIM) (e0:Dl.Zan g nt me (noA own.length (yav ρ (cap.map (·.2)))) ds=.ex c) (Q:VK) (q:∀F' H' C,Gr F H F' H'→mg c=some (.ref C)→E (.ref C) none H') :
  ZcX J t tt te own cap σ Q H:=by
 refine ⟨fun i k acc H'=>k=ds.length - i∧i≤ds.length∧acc.length≤i∧∃F',Gr F H F' H'∧Dl.Zan g nt me (noA own.length (yav ρ (cap.map (·.2)))) (ds.drop i)=.ex c,
  ⟨ds.length,by simp,VaT _,VaI _,F,.refl r.ss,e0⟩,?_⟩
 rintro i k acc H' ⟨rfl,hi,ha,F',g1,e1⟩
 have la:acc.length≤LIM:=Vak ha (Vak hi hl)
 refine ⟨ZeY la,?_⟩
 by_cases hlt:i<ds.length
 case neg =>
  rw [VbN (by omega)] at e1
  cases e1
 refine .inr ?_
 have hd:ds[i]?=some ds[i]:=VbM hlt
 obtain ⟨go,yl⟩:=(jo F' H' g1.f g1.s i).1 _ hd
 rw [Vbt hlt] at e1
 refine ⟨go,fun x H2 y=>?_⟩
 obtain ⟨F2,g2,rx⟩:=yl x H2 y
 have rr:=(r.gr (g1.trans g2)).inner (own:=own) (cap:=cap) (g1.trans g2)
 have hG:=hg F H F2 H2 _ _ x _ rr rx
 have e':(g ds[i] (noA own.length (yav ρ (cap.map (·.2))))).bind (fun ρ1=>(nt ρ1).bind fun b=>if b=true then (me ρ1).bind fun y=>(Dl.Zan g nt me (noA own.length (yav ρ (cap.map (·.2)))) (ds.drop (i+1))).bind fun ys=>.ok (y::ys) else Dl.Zan g nt me (noA own.length (yav ρ (cap.map (·.2)))) (ds.drop (i+1)))=.ex c:=e1
 cases eg:g ds[i] (noA own.length (yav ρ (cap.map (·.2)))) with
 | bad=>rw [eg] at e';cases e'
 | ex c'=>exact absurd eg (hgx _ _ _)
 | ok ρ1 =>
  rw [eg] at e' hG
  refine hG _ fun F3 H3 σ3 s3 r3 d3=>⟨d3.trans Zim,?_⟩
  have hT:=ht F H F3 H3 σ3 ρ1 r3
  have e3:(nt ρ1).bind (fun b=>if b=true then (me ρ1).bind fun y=>(Dl.Zan g nt me (noA own.length (yav ρ (cap.map (·.2)))) (ds.drop (i+1))).bind fun ys=>.ok (y::ys) else Dl.Zan g nt me (noA own.length (yav ρ (cap.map (·.2)))) (ds.drop (i+1)))=.ex c:=e'
  cases et:nt ρ1 with
  | bad=>rw [et] at e3;cases e3
  | ex c' =>
   rw [et] at e3 hT
   cases (show Res.ex c'=.ex c from e3)
   exact hT _ fun F4 H4 C g4 hC=>q F4 H4 C (r3.g.trans g4) hC
  | ok b =>
   rw [et] at e3 hT
   refine hT _ fun F4 H4 b' g4 eb=>?_
   cases (show b'=b from eb)
   cases b with
   | false =>
    rw [if_neg VaF]
    exact ⟨ds.length - (i+1),by omega,rfl,hlt,by omega,F4,r3.g.trans g4,e3⟩
   | true =>
    rw [if_pos rfl]
    have e4:(me ρ1).bind (fun y=>(Dl.Zan g nt me (noA own.length (yav ρ (cap.map (·.2)))) (ds.drop (i+1))).bind fun ys=>.ok (y::ys))=.ex c:=e3
    have hE:=he F H F4 H4 σ3 ρ1 (r3.gr g4)
    cases em:me ρ1 with
    | bad=>rw [em] at e4;cases e4
    | ex c' =>
     rw [em] at e4 hE
     cases (show Res.ex c'=.ex c from e4)
     exact hE _ fun F5 H5 C g5 hC=>q F5 H5 C (r3.g.trans (g4.trans g5)) hC
    | ok y' =>
     rw [em] at e4 hE
     have e5:(Dl.Zan g nt me (noA own.length (yav ρ (cap.map (·.2)))) (ds.drop (i+1))).bind (fun ys=>.ok (y'::ys))=.ex c:=e4
     refine hE _ fun F5 H5 u g5 ru=>⟨Vbn la (by decide),ds.length - (i+1),by omega,rfl,hlt,by rw [Va7];show acc.length+1≤i+1;omega,F5,r3.g.trans (g4.trans g5),?_⟩
     cases ec:Dl.Zan g nt me (noA own.length (yav ρ (cap.map (·.2)))) (ds.drop (i+1)) with
     | ok rs=>rw [ec] at e5;cases e5
     | bad=>rw [ec] at e5;cases e5
     | ex c' =>
      rw [ec] at e5
      exact e5
theorem ZmX{wi:TI}{mi:MI}{t:Fam TG}{g:MG}{tt:Fam TT}{nt:MB}{te:Fam TE}{me:ME}{own:List Str}{cap:List (Str×Nat)}(hi:SI K mg E wi mi)(hg:∀C s H fp pn,SG K mg own.length (t C s H fp pn) g)(hgx:∀d ρ c,g d ρ≠.ex c)(ht:∀C s H fp pn,STt K mg E (tt C s H fp pn) nt)(he:∀C s H fp pn,SE K mg E (te C s H fp pn) me) :
  SE K mg E (ZeS wi t tt te own cap) (ZiI mi own.length (cap.map (·.2)) g nt me):=by
 intro F0 H0 F H σ ρ rr
 refine (hi F0 H0 F H σ ρ rr).bind (w':=fun J H1 Q=>∀C s H2 fp pn,ZcX J (t C s H2 fp pn) (tt C s H2 fp pn) (te C s H2 fp pn) own cap σ Q H1) fun F1 H1 J ds g1 jo=>?_
 by_cases hl:ds.length≤LIM
 ·rw [if_pos hl]
  cases e:Dl.Zan g nt me (noA own.length (yav ρ (cap.map (·.2)))) ds with
  | ok ys=>exact fun Q q C s H2 fp pn=>Zok (rr.gr g1) jo (hg C s H2 fp pn) (ht C s H2 fp pn) (he C s H2 fp pn) hl e Q fun F' H' xs g2 rs _ p hp=>q _ _ _ (g2.trans (.new g2.s hp _)) (.lst (SqL.of Zah) (rs.same (ZaA (g2.s.free hp) _)))
  | ex c=>exact fun Q q C s H2 fp pn=>ZmT (rr.gr g1) jo (hg C s H2 fp pn) hgx (ht C s H2 fp pn) (he C s H2 fp pn) hl e Q fun F' H' C g2 hC=>q F' H' C g2 hC
  | bad=>trivial
 ·rw [if_neg hl];trivial
end
section
variable{X:Cx}{E:XK}{tg iter elt:Expr}{ts:List Expr}{me:ME}{na:MB}{pos:Pos}
theorem ZiF{own:List Str}{cap:List (Str×Nat)}{scope:Scope}{cl:List (Str×Addr)}{wi:TI}{mi:MI}{g:Fam TG}{gm:MG}{tt:Fam TT}{tf:Fam TE}(b:Ztt X E)(hi:DI X E tg iter wi mi)(O:ZcU X own cap scope cl)(hc:X.calm=true)
  (hg:∀C s H fp pn,DG (Zav (xfE E X) X (own++cap.map (·.1)) scope cl C s H fp pn) own.length tg (g C s H fp pn) gm) (ht:∀C s H fp pn,DTs (Zav (xfE E X) X (own++cap.map (·.1)) scope cl C s H fp pn) E ts (tt C s H fp pn) na)
  (he:∀C s H fp pn,DE (Zav (xfE E X) X (own++cap.map (·.1)) scope cl C s H fp pn) E elt (tf C s H fp pn) me) (hts:ts.length≤1:=by decide) (hs:∀x,foldedSetIterable iter X.env x=pure x:=by intro _;rfl) :
  DE X E (.ListComp elt [⟨tg,iter,ts,0⟩] scope pos) (ZeS wi g tt tf own cap) (ZiI mi own.length (cap.map (·.2)) gm na me) :=
 ⟨Zn5 b hi.p O hc (fun C s H fp pn=>(hg C s H fp pn).p) (fun C s H fp pn=>(ht C s H fp pn).p) (fun C s H fp pn=>(he C s H fp pn).p) hts hs,
  ZmX hi.s (fun C s H fp pn=>(hg C s H fp pn).s) (hg 0 X.s₀ (fun _=>none) [] []).x (fun C s H fp pn=>(ht C s H fp pn).s) (fun C s H fp pn=>(he C s H fp pn).s)⟩
theorem Zl7{X:Cx}{E:XK}{N:List Str}{scope:Scope}{cl:List (Str×Addr)}{C':Addr}{s:Shared}{H:Hp}{fp:List Addr}{pn:List (Addr×Obj)}{e:Expr}{es:List Expr}{t:TA}{m:MA}{n k l:Nat}{x:Str}{ps:List Str}{f:List D→Res D}{p pos:Pos}
  (C:Cal X.prog X.w X.K X.mg X.base k x ps f) (hr:Room l X.A) (hn:k≤l) (hg:Gl (Zav (xfE E X) X N scope cl C' s H fp pn) x) (ha:DA (Zav (xfE E X) X N scope cl C' s H fp pn) E n (e::es) t m) (hps:ps.length=n:=by rfl)
  (hdb:(x==("__debug__" : Str))=false:=by decide) (he:starEach (e::es) (Zav (xfE E X) X N scope cl C' s H fp pn).env=(false,eval e (Zav (xfE E X) X N scope cl C' s H fp pn).env)::starEach es (Zav (xfE E X) X N scope cl C' s H fp pn).env:=by rfl)
  (hpl:(backTo pos (starEach es (Zav (xfE E X) X N scope cl C' s H fp pn).env)).any (·.1)=false:=by rfl) :
  DE (Zav (xfE E X) X N scope cl C' s H fp pn) E (.Call (.Name x p) (e::es) [] pos) (Zit (spD X.K X.mg ps.length f) [] E t) (on f m) :=
 ZaN (X:=Zav (xfE E X) X N scope cl C' s H fp pn) C hr hn hg ZqV ha hps hdb he hpl
end
end L2.Ds
namespace Dl
open PySem
def dFld(cs:List Str)(f:Str):D→Res D
 | .ins c ns vs=>if cs.contains c=true then ofO ((ns.zip vs).lookup f) else .bad
 | _=>.bad
def badS:MS:=fun _=>.bad
end Dl
namespace L2.Ds
open PySem PySem.Spec PyProof.Rows Dl
def ZfW(K:W.Frag)(mg:Str→Option Value)(cs:List Str)(f:Str):Prop:=∀c,cs.contains c=true→∀C,mg c=some (.ref C)→Cls K C∧ZdE K C f
def rFld(K:W.Frag)(f:Str):V→Hp→VK→Prop:=fun x H Q=>∃a C dx fs v,x=.ref a∧H a=some (.ins C dx fs)∧Cls K C∧ZdE K C f∧fs.lookup f=some v∧Q v H
section
variable{K:W.Frag}{mg:Str→Option Value}
theorem Zgr{F:Hp}{f:Str}{d:D}:∀{fs:List (Str×V)} {vs:List D},Rps K mg F (fs.map (·.2)) vs→((fs.map (·.1)).zip vs).lookup f=some d→∃v,fs.lookup f=some v∧Rp K mg F v d
 | [],_,_,e=>by simp at e
 | (n,x)::r,[],q,_=>nomatch q
 | (n,x)::r,d0::vs,.cons h q,e=>by
  rw [VaP,List.zip_cons_cons,Vbq] at e
  rw [Vbq]
  cases z:f==n with
  | true =>
   rw [show (f==(n,x).fst)=true from z] at e
   cases e
   exact ⟨x,rfl,h⟩
  | false =>
   rw [show (f==(n,x).fst)=false from z] at e
   exact Zgr q e
theorem Zpe{cs:List Str}{f:Str}(T:ZfW K mg cs f):UnD K mg (rFld K f) (dFld cs f):=by
 intro E F H x dx s rx
 cases dx with
 | ins c ns vs =>
  show Ans mg E (Rp K mg) F H (if cs.contains c=true then ofO ((ns.zip vs).lookup f) else .bad) _
  by_cases hc:cs.contains c=true
  ·rw [if_pos hc]
   cases rx with
   | @ins _ C a dx fs xs _ m h o e r =>
    subst e
    cases q:((fs.map (·.1)).zip vs).lookup f with
    | none=>trivial
    | some d =>
     obtain ⟨v,hv,rv⟩:=Zgr r q
     obtain ⟨c1,c2⟩:=T c hc C m
     exact .ret s rv fun Q z=>⟨a,C,dx,fs,v,rfl,s _ _ h,c1,c2,hv,z⟩
  ·rw [if_neg hc];trivial
 | _=>trivial
end
theorem ZpC{X:Cx}{E:XK}{e:Expr}{te:TE}{me:ME}{cs:List Str}{f:Str}{pos:Pos}(T:ZfW X.K X.mg cs f)(he:DE X E e te me)(hb:attributeBase e f X.env (eval e X.env)=eval e X.env:=by rfl) :
  DE X E (.Attribute e f pos) (tFld X.K te f) (o1 (dFld cs f) me):=⟨Zsx he.p hb,ZtP (Zpe T) he.s⟩
theorem Zrp{X:Cx}{E:XK}{sts:List Stmt}:DSs X E sts (fun _ _ _=>False) badS:=⟨fun _ _ _ _ _ _ h=>h.elim,fun _ _ _ _ _ _ _=>trivial⟩
end L2.Ds
namespace Dl
open PySem
end Dl
namespace L2.Ds
open PySem PySem.Spec PyProof.Rows Dl
end L2.Ds
namespace Dl
open PySem
end Dl
namespace L2
open PySem PySem.Spec PyProof.Rows
end L2
namespace L2.Ds
open PySem PySem.Spec PyProof.Rows PySem.Calls Dl
end L2.Ds
namespace Dl
open PySem
abbrev Fs:=List (Str×D)
abbrev MSi:=Ev→Fs→Res Fs
def iEnd:MSi:=fun _ fl=>.ok fl
def iDrp(e:ME)(k:MSi):MSi:=fun ρ fl=>(e ρ).bind fun _=>k ρ fl
def iSet(f:Str)(e:ME)(k:MSi):MSi:=fun ρ fl=>(e ρ).bind fun d=>if (fl.map (·.1)).contains f=true∨100≤fl.length then .bad else k ρ (fl++[(f,d)])
def iSup(g:List D→Fs→Res Fs)(a:MA)(k:MSi):MSi:=fun ρ fl=>(a ρ).bind fun ds=>(g ds fl).bind fun fl'=>k ρ fl'
def fnI(n:Nat)(k:MSi):List D→Fs→Res Fs:=fun ds fl=>k (.no::ev0 (n - 1) ds) fl
def make(c:Str)(g:List D→Fs→Res Fs)(a:MA):ME:=fun ρ=>(a ρ).bind fun ds=>(g ds []).bind fun fl=>.ok (.ins c (fl.map (·.1)) (fl.map (·.2)))
def meth(tab:List (Str×(List D→Res D)))(m:Str)(o:ME)(a:MA):ME:=fun ρ=>(o ρ).bind fun d=>match d with
 | .ins c ns vs=>if ns.contains m=true then .bad else match tab.lookup c with
  | some f=>(a ρ).bind fun ds=>f (.ins c ns vs::ds)
  | none=>.bad
 | _=>.bad
end Dl
namespace L2.Ds
open PySem PySem.Spec PyProof.Rows Dl
theorem Ans.imp{α β:Type}{mg:Str→Option Value}{E:XK}{R:Hp→β→α→Prop}{F H:Hp}{r:Res α}{w w':(β→Hp→Prop)→Prop}(h:Ans mg E R F H r w)(hw:∀Q,w Q→w' Q):Ans mg E R F H r w':=by
 cases r with
 | ok a=>exact fun Q q=>hw Q (h Q q)
 | ex c=>exact fun Q q=>hw Q (h Q q)
 | bad=>trivial
def ZhX(P:Program)(w:World)(K:W.Frag)(mg:Str→Option Value)(base:Heap)(k:Nat)(m:Str)(E:XK)(ta:TE)(t:TA):TE:=fun σ H Q=>ta σ H fun x H1=>∃a C dx fs g fd ps sp,x=.ref a∧H1 a=some (.ins C dx fs)∧fs.lookup m=none ∧
 Cls K C∧Meth K C m g∧FnOk P w K mg base (CXR P w) k g fd ps sp∧Binds K fd ps []∧t σ H1 fun vs H2=>sp (x::vs) H2 Q E
section
variable{X:Cx}{E:XK}{k:Nat}{m:Str}{e o:Expr}{es:List Expr}{ta:TE}{t:TA}{pos apos:Pos}{pl:Sem Bool}
theorem ZnN(he:PE X o ta)(hr:Room k X.A)(hx:ZbV (CXR X.prog X.w) X E)(ha:PA X (e::es) t)
  (hst:starEach (e::es) X.env=(false,eval e X.env)::starEach es X.env:=by rfl) (hpl:(backTo pos (starEach es X.env)).any (·.1)=false:=by rfl)
  (ht:eval (.Call (.Attribute o m apos) (e::es) [] pos) X.env=(do
   let ov ←eval o X.env
   standAt apos.atName
   let (f,first) ←holding [ov] (getMethod ov m pl)
   callWith pos f first (backTo pos (starEach (e::es) X.env)) (backToKw pos (keywordEach [] X.env))):=by rfl) :
  PE X (.Call (.Attribute o m apos) (e::es) [] pos) (ZhX X.prog X.w X.K X.mg X.base k m E ta t):=by
 intro pins s σ H Q I h
 refine W.methodCall_KW (pl:=pl) (thn (he pins s σ H _ I h) fun u s1 hZ=>?_) ht
 obtain ⟨x,H1,I1,rx,a,C,dx,fs,g,fd,ps,sp,ex,ea,l,c,hm,F,hb,q⟩:=hZ
 subst ex
 obtain rfl:u=Value.ref a:=rx
 refine Zgs I1 ea c hm l ?_
 refine W.callWith_K (first:=[.ref a]) (h₀:=X.base) I.ok.mod.kin hm.kp (thn (ha pos pins s1 σ H1 _ I1 q) fun us s2 ⟨vs,H2,I2,r,q2⟩=>⟨I2.kIn,?_⟩) hst hpl
 exact Zi5 (us:=.ref a::us) (vs:=.ref a::vs) (dvs:=[]) F hr hb .nil hx I2 (.cons rfl r) (by rw [VaV];exact q2)
theorem ZkS(he:PE X o ta)(hr:Room k X.A)(hx:ZbV (CXR X.prog X.w) X E)
  (ht:eval (.Call (.Attribute o m apos) [] [] pos) X.env=(do
   let ov ←eval o X.env
   standAt apos.atName
   let (f,first) ←holding [ov] (getMethod ov m pl)
   callWith pos f first (backTo pos (starEach [] X.env)) (backToKw pos (keywordEach [] X.env))):=by rfl) :
  PE X (.Call (.Attribute o m apos) [] [] pos) (ZhX X.prog X.w X.K X.mg X.base k m E ta tNil):=by
 intro pins s σ H Q I h
 refine W.methodCall_KW (pl:=pl) (thn (he pins s σ H _ I h) fun u s1 hZ=>?_) ht
 obtain ⟨x,H1,I1,rx,a,C,dx,fs,g,fd,ps,sp,ex,ea,l,c,hm,F,hb,q⟩:=hZ
 subst ex
 obtain rfl:u=Value.ref a:=rx
 refine Zgs I1 ea c hm l ?_
 exact W.callWith_K0 (first:=[.ref a]) I1.kIn hm.kp (Zi5 (us:=[.ref a]) (vs:=[.ref a]) (dvs:=[]) F hr hb .nil hx I1 (.cons rfl .nil) q)
end
def Zcw(P:Program)(w:World)(K:W.Frag)(mg:Str→Option Value)(base:Heap)(k n:Nat)(m:Str)(tab:List (Str×(List D→Res D))):Prop:=∀c f,tab.lookup c=some f→∀C,mg c=some (.ref C) →
 Cls K C∧∃g fd ps,Meth K C m g∧FnOk P w K mg base (CXR P w) k g fd ps (spD K mg ps.length f)∧Binds K fd ps []∧ps.length=n+1
theorem Zcw.nil{P:Program}{w:World}{K:W.Frag}{mg:Str→Option Value}{base:Heap}{k n:Nat}{m:Str}:Zcw P w K mg base k n m []:=fun _ _ e=>by cases e
theorem Zcw.cons{P:Program}{w:World}{K:W.Frag}{mg:Str→Option Value}{base:Heap}{k n:Nat}{m c:Str}{f:List D→Res D}{tab:List (Str×(List D→Res D))}
  (h:∀C,mg c=some (.ref C)→Cls K C∧∃g fd ps,Meth K C m g∧FnOk P w K mg base (CXR P w) k g fd ps (spD K mg ps.length f)∧Binds K fd ps []∧ps.length=n+1) (r:Zcw P w K mg base k n m tab):Zcw P w K mg base k n m ((c,f)::tab):=by
 intro c' f' e
 rw [Vbq] at e
 split at e
 ·next q =>
  cases e
  rw [eq_of_beq q]
  exact h
 ·exact r c' f' e
theorem Zhx{m:Str}:∀{fs:List (Str×V)},¬(fs.map (·.1)).contains m=true→fs.lookup m=none
 | [],_=>rfl
 | (n,x)::r,h=>by
  rw [VaP,List.contains_cons] at h
  rw [Vbq]
  cases z:m==n with
  | true=>exact absurd (by rw [show (m==(n,x).fst)=true from z];rfl) h
  | false=>exact Zhx fun q=>h (by rw [q,Bool.or_true])
section
variable{P:Program}{w:World}{K:W.Frag}{mg:Str→Option Value}{base:Heap}{E:XK}{k n:Nat}{m:Str}{tab:List (Str×(List D→Res D))}{ta:TE}{mo:ME}{t:TA}{ma:MA}
theorem Zl2(T:Zcw P w K mg base k n m tab)(ho:SE K mg E ta mo)(ha:SA K mg E t ma)(hl:SAn n ma):SE K mg E (ZhX P w K mg base k m E ta t) (meth tab m mo ma):=by
 intro F0 H0 F H σ ρ rr
 refine (ho F0 H0 F H σ ρ rr).bind fun F1 H1 x d g1 rx=>?_
 cases d with
 | ins c ns vs =>
  show Ans mg E (Rp K mg) F1 H1 (if ns.contains m=true then .bad else match tab.lookup c with
   | some f=>(ma ρ).bind fun ds=>f (.ins c ns vs::ds)
   | none=>.bad) _
  by_cases hc:ns.contains m=true
  ·rw [if_pos hc];trivial
  rw [if_neg hc]
  cases e:tab.lookup c with
  | none=>trivial
  | some f =>
   show Ans mg E (Rp K mg) F1 H1 ((ma ρ).bind fun ds=>f (.ins c ns vs::ds)) _
   have rx':=rx
   cases rx with
   | @ins _ C a dx fs xs _ hm h o q r =>
    obtain ⟨c1,g,fd,ps,hM,hF,hB,hp⟩:=T c f e C hm
    refine Ans.imp ((ha F0 H0 F1 H1 σ ρ (rr.gr g1)).bindE (w':=fun vs' H2 Q=>spD K mg ps.length f (.ref a::vs') H2 Q E) fun ds ed F2 H2 vs' g2 rs=>?_) fun Q z=>⟨a,C,dx,fs,g,fd,ps,spD K mg ps.length f,rfl,g1.s _ _ h,Zhx hc,c1,hM,hF,hB,z⟩
    exact Zjt g2.s (.cons (rx'.same g2.f) rs) (by rw [VaO,hl ρ ds ed,hp])
 | _=>trivial
end
section
variable{X:Cx}{E:XK}{k l n:Nat}{m:Str}{e o:Expr}{es:List Expr}{ta:TE}{mo:ME}{t:TA}{ma:MA}{pos apos:Pos}{pl:Sem Bool}{tab:List (Str×(List D→Res D))}
theorem ZrF(T:Zcw X.prog X.w X.K X.mg X.base k n m tab)(hr:Room l X.A)(hn:k≤l)(hx:ZbV (CXR X.prog X.w) X E)(ho:DE X E o ta mo)(ha:DA X E n (e::es) t ma)
  (hst:starEach (e::es) X.env=(false,eval e X.env)::starEach es X.env:=by rfl) (hpl:(backTo pos (starEach es X.env)).any (·.1)=false:=by rfl)
  (ht:eval (.Call (.Attribute o m apos) (e::es) [] pos) X.env=(do
   let ov ←eval o X.env
   standAt apos.atName
   let (f,first) ←holding [ov] (getMethod ov m pl)
   callWith pos f first (backTo pos (starEach (e::es) X.env)) (backToKw pos (keywordEach [] X.env))):=by rfl) :
  DE X E (.Call (.Attribute o m apos) (e::es) [] pos) (ZhX X.prog X.w X.K X.mg X.base k m E ta t) (meth tab m mo ma):=⟨ZnN ho.p (hr.mono hn) hx ha.p hst hpl ht,Zl2 T ho.s ha.s ha.n⟩
theorem ZkK(T:Zcw X.prog X.w X.K X.mg X.base k 0 m tab)(hr:Room l X.A)(hn:k≤l)(hx:ZbV (CXR X.prog X.w) X E)(ho:DE X E o ta mo)
  (ht:eval (.Call (.Attribute o m apos) [] [] pos) X.env=(do
   let ov ←eval o X.env
   standAt apos.atName
   let (f,first) ←holding [ov] (getMethod ov m pl)
   callWith pos f first (backTo pos (starEach [] X.env)) (backToKw pos (keywordEach [] X.env))):=by rfl) :
  DE X E (.Call (.Attribute o m apos) [] [] pos) (ZhX X.prog X.w X.K X.mg X.base k m E ta tNil) (meth tab m mo yaa):=⟨ZkS ho.p (hr.mono hn) hx ht,Zl2 T ho.s Zo1 Zl0⟩
end
theorem ZfW.nil{K:W.Frag}{mg:Str→Option Value}{f:Str}:ZfW K mg [] f:=fun _ h=>by cases h
theorem ZfW.cons{K:W.Frag}{mg:Str→Option Value}{c f:Str}{cs:List Str}(h:∀C,mg c=some (.ref C)→Cls K C∧ZdE K C f)(r:ZfW K mg cs f):ZfW K mg (c::cs) f:=fun c' hc=>by
 rw [List.contains_cons] at hc
 cases z:c'==c with
 | true=>rw [eq_of_beq z];exact h
 | false =>
  rw [z,Bool.false_or] at hc
  exact r c' hc
structure FR(K:W.Frag)(mg:Str→Option Value)(F:Hp)(fs:List (Str×V))(fl:Fs):Prop where
 nm:fs.map (·.1)=fl.map (·.1)
 rv:Rps K mg F (fs.map (·.2)) (fl.map (·.2))
theorem FR.same{K:W.Frag}{mg:Str→Option Value}{F F':Hp}{fs:List (Str×V)}{fl:Fs}(h:FR K mg F fs fl)(s:Same F F'):FR K mg F' fs fl:=⟨h.nm,h.rv.same s⟩
theorem FR.len{K:W.Frag}{mg:Str→Option Value}{F:Hp}{fs:List (Str×V)}{fl:Fs}(h:FR K mg F fs fl):fs.length=fl.length:=by
 have:=Vay List.length h.nm
 rwa [VaQ,VaQ] at this
theorem ZjA{f:Str}{y:V}:∀{fs:List (Str×V)},¬(fs.map (·.1)).contains f=true→putF f y fs=fs++[(f,y)]
 | [],_=>rfl
 | (g,x)::r,h=>by
  rw [VaP,List.contains_cons] at h
  have hg:g≠f:=by
   rintro rfl
   exact h (by rw [show ((g,x).fst==g)=true from beq_self_eq_true g];rfl)
  show (if g=f then (g,y)::r else (g,x)::putF f y r)=_
  rw [if_neg hg,ZjA fun q=>h (by rw [q,Bool.or_true])]
  rfl
theorem FR.put{K:W.Frag}{mg:Str→Option Value}{F:Hp}{fs:List (Str×V)}{fl:Fs}{f:Str}{y:V}{d:D}(h:FR K mg F fs fl)(hn:¬(fl.map (·.1)).contains f=true)(ry:Rp K mg F y d):FR K mg F (putF f y fs) (fl++[(f,d)]):=by
 rw [ZjA (by rw [h.nm];exact hn)]
 refine ⟨by rw [Vb0,Vb0,h.nm];rfl,?_⟩
 rw [Vb0,Vb0]
 exact Rps.app (.cons ry .nil) h.rv
def spI(K:W.Frag)(mg:Str→Option Value)(n:Nat)(cs:List Str)(m:List D→Fs→Res Fs):Sp:=fun vs H Q E=>vs.length=n+1∧∃(x dx C:Addr) (c:Str) (ys:List V) (fs:List (Str×V)) (F:Hp) (ds:List D) (fl:Fs),
 vs=.ref x::ys∧cs.contains c=true∧mg c=some (.ref C)∧H x=some (.ins C dx fs)∧F x=none∧Same F H∧Rps K mg F ys ds∧FR K mg F fs fl∧m ds fl≠.bad ∧
 (∀fl',m ds fl=.ok fl'→∀F' H' fs',Gr F (del H x) F' H'→F' x=none→H' x=some (.ins C dx fs')→FR K mg F' fs' fl'→Q .non H') ∧
 (∀e,m ds fl=.ex e→∀F' H' fs' Ce,Gr F (del H x) F' H'→F' x=none→H' x=some (.ins C dx fs')→mg e=some (.ref Ce)→E (.ref Ce) none H')
structure RepI(K:W.Frag)(mg:Str→Option Value)(x dx C:Addr)(F0 H0 F H:Hp)(σ:St)(ρ:Ev)(fs:List (Str×V))(fl:Fs):Prop where
 rep:Rep K mg F0 H0 F H σ ρ
 h0:H0 x=none
 self:σ[0]?=some (some (.ref x))
 fx:F x=none
 hx:H x=some (.ins C dx fs)
 fr:FR K mg F fs fl
section
variable{K:W.Frag}{mg:Str→Option Value}{x dx C:Addr}{F0 H0 F H F' H':Hp}{σ:St}{ρ:Ev}{fs fs':List (Str×V)}{fl fl':Fs}
theorem RepI.gr(r:RepI K mg x dx C F0 H0 F H σ ρ fs fl)(g:Gr F H F' H'):RepI K mg x dx C F0 H0 F' H' σ ρ fs fl:=by
 obtain ⟨q1,q2⟩:=g.o x _ r.fx r.hx
 exact ⟨r.rep.gr g,r.h0,r.self,q1,q2,r.fr.same g.f⟩
theorem RepI.go(r:RepI K mg x dx C F0 H0 F H σ ρ fs fl)(g:Gr F (del H x) F' H')(fx:F' x=none)(hx:H' x=some (.ins C dx fs'))(fr:FR K mg F' fs' fl'):RepI K mg x dx C F0 H0 F' H' σ ρ fs' fl':=by
 refine ⟨⟨⟨r.rep.g.f.trans g.f,g.s,fun a o h1 h2=>?_⟩,r.rep.len,fun i d e=>?_,fun i ds e=>?_,r.rep.ne⟩,r.h0,r.self,fx,hx,fr⟩
 ·obtain ⟨q1,q2⟩:=r.rep.g.o a o h1 h2
  exact g.o a o q1 (by rw [Zeg (Zaf h2 r.h0)];exact q2)
 ·obtain ⟨y,h1,h2⟩:=r.rep.im i d e
  exact ⟨y,h1,h2.same g.f⟩
 ·obtain ⟨a,xs,h1,h2,h3,h4,h5⟩:=r.rep.ow i ds e
  have ne:a≠x:=by
   rintro rfl
   rw [r.hx] at h4
   cases h4
  obtain ⟨q1,q2⟩:=g.o a _ h3 (by rw [Zeg ne];exact h4)
  exact ⟨a,xs,h1,h2,q1,q2,h5.same g.f⟩
theorem RepI.set{f:Str}{y:V}{d:D}(r:RepI K mg x dx C F0 H0 F H σ ρ fs fl)(hn:¬(fl.map (·.1)).contains f=true)(ry:Rp K mg F y d):RepI K mg x dx C F0 H0 F (upd H x (.ins C dx (putF f y fs))) σ ρ (putF f y fs) (fl++[(f,d)]):=by
 refine r.go ⟨Same.refl _,fun a o e=>?_,fun a o h1 h2=>⟨h1,?_⟩⟩ r.fx Zah (r.fr.put hn ry)
 ·rw [Zag (Zaf e r.fx)];exact r.rep.g.s a o e
 ·have ne:a≠x:=by
   rintro rfl
   rw [Zgv] at h2
   cases h2
  rw [Zeg ne] at h2
  rw [Zag ne];exact h2
end
def AnsI(K:W.Frag)(mg:Str→Option Value)(E:XK)(x dx C:Addr)(F0 H0:Hp)(r:Res Fs)(w:Ends→Prop):Prop :=
 match r with
 | .ok fl=>∀D:Ends,(∀F' H' σ' fs,Gr F0 H0 F' H'→F' x=none→H' x=some (.ins C dx fs)→FR K mg F' fs fl→D.nx σ' H')→w D
 | .ex c=>∀D:Ends,(∀F' H' fs Ce,Gr F0 H0 F' H'→F' x=none→H' x=some (.ins C dx fs)→mg c=some (.ref Ce)→E (.ref Ce) none H')→w D
 | .bad=>True
def SSi(K:W.Frag)(mg:Str→Option Value)(E:XK)(cs:List Str)(t:TS)(m:MSi):Prop:=∀x dx C c F0 H0 F H σ ρ fs fl,cs.contains c=true→mg c=some (.ref C)→RepI K mg x dx C F0 H0 F H σ ρ fs fl→AnsI K mg E x dx C F0 H0 (m ρ fl) (fun D=>t D σ H)
structure DSi(X:Cx)(E:XK)(cs:List Str)(sts:List Stmt)(t:TS)(m:MSi):Prop where
 p:PSs X sts t
 s:SSi X.K X.mg E cs t m
section
variable{K:W.Frag}{mg:Str→Option Value}{E:XK}{x dx C:Addr}{F0 H0 F H:Hp}{α β:Type}{R:Hp→β→α→Prop}{σ:St}{ρ:Ev}{fs:List (Str×V)}{fl:Fs}
theorem ZfJ{r:Res α}{w:(β→Hp→Prop)→Prop}{k:α→Res Fs}{w':β→Hp→Ends→Prop}(rr:RepI K mg x dx C F0 H0 F H σ ρ fs fl)(h1:Ans mg E R F H r w)(h2:∀a,r=.ok a→∀F1 H1 b,Gr F H F1 H1→R F1 b a→AnsI K mg E x dx C F0 H0 (k a) (w' b H1)) :
  AnsI K mg E x dx C F0 H0 (r.bind k) (fun D=>w fun b H1=>w' b H1 D):=by
 cases r with
 | ok a =>
  show AnsI K mg E x dx C F0 H0 (k a) _
  have h2':=h2 a rfl
  generalize k a=r2 at h2'
  cases r2 with
  | ok d=>exact fun D q=>h1 _ fun F1 H1 b g rb=>h2' F1 H1 b g rb D q
  | ex c=>exact fun D q=>h1 _ fun F1 H1 b g rb=>h2' F1 H1 b g rb D q
  | bad=>trivial
 | ex c=>exact fun D q=>h1 _ fun F1 H1 Ce g hc=>let r2:=rr.gr g;q F1 H1 fs Ce r2.rep.g r2.fx r2.hx hc
 | bad=>trivial
end
section
variable{X:Cx}{E:XK}{cs cs':List Str}{rest:List Stmt}{u:TS}{k:MSi}{e o:Expr}{es:List Expr}{te:TE}{me:ME}{t:TA}{ma:MA}{spos pos apos p p':Pos}{f x y m:Str}{n j l:Nat}
theorem Zi3:DSi X E cs [] Zom iEnd:=⟨Zmb,fun x dx C c F0 H0 F H σ ρ fs fl _ _ r=>fun D q=>q F H σ fs r.rep.g r.fx r.hx r.fr⟩
theorem Zgt(he:DE X E e te me)(h:DSi X E cs rest u k)(hs:swapsWith e none spos.line X.env=pure false:=by rfl):DSi X E cs (.Expr e spos::rest) (tSeq (ZfC te) u) (iDrp me k):=by
 refine ⟨Ze7 (Zfh he.p hs) h.p,?_⟩
 intro x dx C c F0 H0 F H σ ρ fs fl hc hm r
 exact ZfJ (w':=fun _ H1 D=>u D σ H1) r (he.s F0 H0 F H σ ρ r.rep) fun a _ F1 H1 b g _=>h.s x dx C c F0 H0 F1 H1 σ ρ fs fl hc hm (r.gr g)
theorem Zjj(T:ZfW X.K X.mg cs f)(he:DE X E e te me)(h:DSi X E cs rest u k)(hN:X.N[0]?=some x:=by rfl)(hv:Vis X.env.scope x:=by first | exact Or.inl rfl | exact Or.inr (Or.inl rfl) | exact Or.inr (Or.inr rfl))(hd:(x==("__debug__" : Str))=false:=by decide)
  (hcd:(x==("__classdict__" : Str))=false:=by decide) (hs:swapsWith e (some (.Attribute (.Name x p) f p')) spos.line X.env=pure false:=by rfl) :
  DSi X E cs (.Assign [.Attribute (.Name x p) f p'] e spos::rest) (tSeq (sFld X.K (tVar 0) te f) u) (iSet f me k):=by
 refine ⟨Ze7 (Zt3 (ZhZ hN hv hd hcd) he.p hs) h.p,?_⟩
 intro x dx C c F0 H0 F H σ ρ fs fl hc hm r
 refine ZfJ (w':=fun y H1 D=>(tVar 0) σ H1 fun z H2=>∃a C dx fs,z=.ref a∧H2 a=some (.ins C dx fs)∧Cls X.K C∧ZdE X.K C f∧fs.length<1000∧u D σ (upd H2 a (.ins C dx (putF f y fs)))) r (he.s F0 H0 F H σ ρ r.rep) fun d _ F1 H1 y g ry=>?_
 have r1:=r.gr g
 by_cases hb:(fl.map (·.1)).contains f=true∨100≤fl.length
 ·rw [if_pos hb];trivial
 rw [if_neg hb]
 obtain ⟨c1,c2⟩:=T c hc C hm
 have r2:=r1.set (f:=f) (fun z=>hb (.inl z)) ry
 have z:=h.s x dx C c F0 H0 F1 _ σ ρ _ _ hc hm r2
 have hl:fs.length<1000:=by have:=r.fr.len;have:¬100≤fl.length:=fun z=>hb (.inr z);omega
 generalize k ρ (fl++[(f,d)])=q0 at z
 cases q0 with
 | ok fl'=>exact fun D q=>⟨_,r1.self,x,C,dx,fs,rfl,r1.hx,c1,c2,hl,z D q⟩
 | ex c=>exact fun D q=>⟨_,r1.self,x,C,dx,fs,rfl,r1.hx,c1,c2,hl,z D q⟩
 | bad=>trivial
end
structure ClsM(K:W.Frag)(C:Addr)(m:Str)(f:Addr):Prop where
 sg:W.specialIn K (.ref C) "__getattribute__"=some (some (.builtin "type.__getattribute__"))
 rd:∃mc,W.readsIn K C mc=true∧W.findCls K (.ref C) mc m=some (.val (.ref f))
 hh:W.handedIn (.ref f)=true
 kp:W.keepIn K (.ref f)=true
section
variable{X:Cx}{E:XK}{k:Nat}{y m:Str}{C f:Addr}{fd:FuncData}{ps:List Str}{sp:Sp}{e:Expr}{es:List Expr}{t:TA}{p pos apos:Pos}{pl:Sem Bool}
theorem Zrc(hg:Gl X y)(hy:X.mg y=some (.ref C))(c:ClsM X.K C m f)(F:FnOk X.prog X.w X.K X.mg X.base (CXR X.prog X.w) k f fd ps sp)(hr:Room k X.A)(hb:Binds X.K fd ps [])(hx:ZbV (CXR X.prog X.w) X E)(ha:PA X (e::es) t)(hd:(y==("__debug__" : Str))=false:=by decide)
  (hst:starEach (e::es) X.env=(false,eval e X.env)::starEach es X.env:=by rfl) (hpl:(backTo pos (starEach es X.env)).any (·.1)=false:=by rfl)
  (ht:eval (.Call (.Attribute (.Name y p) m apos) (e::es) [] pos) X.env=(do
   let ov ←eval (.Name y p) X.env
   standAt apos.atName
   let (f,first) ←holding [ov] (getMethod ov m pl)
   callWith pos f first (backTo pos (starEach (e::es) X.env)) (backToKw pos (keywordEach [] X.env))):=by rfl) :
  PE X (.Call (.Attribute (.Name y p) m apos) (e::es) [] pos) (Zit sp [] E t):=by
 intro pins s σ H Q I h
 refine W.methodCall_KW (pl:=pl) (thn (ZlY (v:=.ref C) hg hy rfl hd pins s σ H (fun v H1=>v=.ref C∧H1=H) I ⟨rfl,rfl⟩) fun u s1 ⟨x,H1,I1,rx,ex,eh⟩=>?_) ht
 subst ex eh
 obtain rfl:u=Value.ref C:=rx
 obtain ⟨mc,r1,r2⟩:=c.rd
 refine W.method_cls I1.kIn c.sg (W.cls_value I1.kIn r1 r2 c.hh ?_)
 have I2:=I1.tok (s1.toks+1)
 refine W.callWith_K (first:=[]) (h₀:=X.base) I.ok.mod.kin c.kp (thn (ha pos pins _ σ H1 _ I2 h) fun us s2 ⟨vs,H2,I3,r,q2⟩=>⟨I3.kIn,?_⟩) hst hpl
 exact Zi5 (us:=us) (vs:=vs) (dvs:=[]) F hr hb .nil hx I3 r q2
end
structure CalS(P:Program)(w:World)(K:W.Frag)(mg:Str→Option Value)(base:Heap)(k:Nat)(y m:Str)(n:Nat)(cs:List Str)(g:List D→Fs→Res Fs):Prop where
 ex:∃(C f:Addr) (fd:FuncData) (ps:List Str),mg y=some (.ref C)∧ClsM K C m f∧FnOk P w K mg base (CXR P w) k f fd ps (spI K mg n cs g)∧Binds K fd ps []
section
variable{X:Cx}{E:XK}{cs cs':List Str}{rest:List Stmt}{u:TS}{k:MSi}{e:Expr}{es:List Expr}{t:TA}{ma:MA}{spos pos apos p p':Pos}{x y m:Str}{n j l:Nat}{g:List D→Fs→Res Fs}{pl:Sem Bool}
theorem Zmp(S:CalS X.prog X.w X.K X.mg X.base j y m n cs' g)(hr:Room l X.A)(hn:j≤l)(hg:Gl X y)(hx:ZbV (CXR X.prog X.w) X E)(hcs:∀c,cs.contains c=true→cs'.contains c=true)(ha:DA X E n es t ma)(h:DSi X E cs rest u k)
  (hN:X.N[0]?=some x:=by rfl) (hv:Vis X.env.scope x:=by first | exact Or.inl rfl | exact Or.inr (Or.inl rfl) | exact Or.inr (Or.inr rfl)) (hd:(x==("__debug__" : Str))=false:=by decide) (hcd:(x==("__classdict__" : Str))=false:=by decide) (hdy:(y==("__debug__" : Str))=false:=by decide)
  (hst:starEach (.Name x p'::es) X.env=(false,eval (.Name x p') X.env)::starEach es X.env:=by rfl) (hpl:(backTo pos (starEach es X.env)).any (·.1)=false:=by rfl)
  (ht:eval (.Call (.Attribute (.Name y p) m apos) (.Name x p'::es) [] pos) X.env=(do
   let ov ←eval (.Name y p) X.env
   standAt apos.atName
   let (f,first) ←holding [ov] (getMethod ov m pl)
   callWith pos f first (backTo pos (starEach (.Name x p'::es) X.env)) (backToKw pos (keywordEach [] X.env))):=by rfl)
  (hs:swapsWith (.Call (.Attribute (.Name y p) m apos) (.Name x p'::es) [] pos) none spos.line X.env=pure false:=by rfl) :
  DSi X E cs (.Expr (.Call (.Attribute (.Name y p) m apos) (.Name x p'::es) [] pos) spos::rest) (tSeq (ZfC (Zit (spI X.K X.mg n cs' g) [] E (Zb5 (tVar 0) t))) u) (iSup g ma k):=by
 obtain ⟨C0,f,fd,ps,hy,cm,F,hb⟩:=S.ex
 refine ⟨Ze7 (Zfh (Zrc hg hy cm F (hr.mono hn) hb hx (Zb2 (ZhZ hN hv hd hcd) ha.p hst) hdy hst hpl ht) hs) h.p,?_⟩
 intro x dx C c F0 H0 F H σ ρ fs fl hc hm r
 have A:=ha.s F0 H0 F H σ ρ r.rep
 have L:=ha.n ρ
 show AnsI X.K X.mg E x dx C F0 H0 ((ma ρ).bind fun ds=>(g ds fl).bind fun fl'=>k ρ fl') (fun D=>∃v,σ[0]?=some (some v)∧t σ H fun vs H1=>spI X.K X.mg n cs' g (v::vs++[]) H1 (fun _ H2=>u D σ H2) E)
 have key:AnsI X.K X.mg E x dx C F0 H0 ((ma ρ).bind fun ds=>(g ds fl).bind fun fl'=>k ρ fl') (fun D=>t σ H fun vs H1=>spI X.K X.mg n cs' g (.ref x::vs) H1 (fun _ H2=>u D σ H2) E):=by
  refine ZfJ (w':=fun vs H1 D=>spI X.K X.mg n cs' g (.ref x::vs) H1 (fun _ H2=>u D σ H2) E) r A fun ds eds F1 H1 vs g1 rs=>?_
  have r1:=r.gr g1
  have hl:vs.length=n:=rs.length.trans (L ds eds)
  cases eg:g ds fl with
  | bad=>trivial
  | ex ec =>
   show AnsI X.K X.mg E x dx C F0 H0 (.ex ec) _
   intro D q
   refine ⟨by rw [VaO,hl],x,dx,C,c,vs,fs,F1,ds,fl,rfl,hcs c hc,hm,r1.hx,r1.fx,r1.rep.g.s,rs,r1.fr,(by rw [eg];intro z;cases z),(fun fl' e=>by rw [eg] at e;cases e),fun e' he F' H' fs' Ce g2 fx hx hce=>?_⟩
   rw [eg] at he
   cases he
   have r2:=r1.go (fl':=fl) (fs':=fs) (F':=F') (H':=H') g2 fx
   refine q F' H' fs' Ce ?_ fx hx hce
   refine ⟨r1.rep.g.f.trans g2.f,g2.s,fun a o h1 h2=>?_⟩
   obtain ⟨q1,q2⟩:=r1.rep.g.o a o h1 h2
   exact g2.o a o q1 (by rw [Zeg (Zaf h2 r.h0)];exact q2)
  | ok fl' =>
   show AnsI X.K X.mg E x dx C F0 H0 (k ρ fl') _
   have nx:∀F' H' fs',Gr F1 (del H1 x) F' H'→F' x=none→H' x=some (.ins C dx fs')→FR X.K X.mg F' fs' fl'→AnsI X.K X.mg E x dx C F0 H0 (k ρ fl') (fun D=>u D σ H'):=fun F' H' fs' g2 fx hx fr=>h.s x dx C c F0 H0 F' H' σ ρ fs' fl' hc hm (r1.go g2 fx hx fr)
   generalize k ρ fl'=q0 at nx
   cases q0 with
   | bad=>trivial
   | ok fl2 =>
    intro D q
    refine ⟨by rw [VaO,hl],x,dx,C,c,vs,fs,F1,ds,fl,rfl,hcs c hc,hm,r1.hx,r1.fx,r1.rep.g.s,rs,r1.fr,(by rw [eg];intro z;cases z),(fun fl'' e F' H' fs' g2 fx hx fr=>?_),fun e' he=>by rw [eg] at he;cases he⟩
    rw [eg] at e
    cases e
    exact nx F' H' fs' g2 fx hx fr D q
   | ex c2 =>
    intro D q
    refine ⟨by rw [VaO,hl],x,dx,C,c,vs,fs,F1,ds,fl,rfl,hcs c hc,hm,r1.hx,r1.fx,r1.rep.g.s,rs,r1.fr,(by rw [eg];intro z;cases z),(fun fl'' e F' H' fs' g2 fx hx fr=>?_),fun e' he=>by rw [eg] at he;cases he⟩
    rw [eg] at e
    cases e
    exact nx F' H' fs' g2 fx hx fr D q
 generalize ((ma ρ).bind fun ds=>(g ds fl).bind fun fl'=>k ρ fl')=q0 at key
 cases q0 with
 | bad=>trivial
 | ok fl'=>exact fun D q=>⟨.ref x,r.self,by simpa using key D q⟩
 | ex c'=>exact fun D q=>⟨.ref x,r.self,by simpa using key D q⟩
end
section
variable{P:Program}{w:World}{K:W.Frag}{mg:Str→Option Value}{base:Heap}{N ps:List Str}{x qual:Str}{f:Addr}{cs:List Str}
theorem Zkk{F H:Hp}{z:V}{a:Addr}{vs:List V}{ds:List D}(s:Same F H)(fa:F a=none)(r:Rps K mg F vs ds)(hN:1≤N.length):Rep K mg F (del H a) F H (start N (z::vs)) (.no::ev0 (N.length - 1) ds):=by
 have hl:=r.length
 have key:∀(i:Nat) (c:Cl),(ev0 (N.length - 1) ds)[i]?=some c→c=.no∨∃d,ds[i]?=some d∧c=.im d:=by
  intro i c e
  rw [ZhA] at e
  by_cases hi:i<ds.length
  ·rw [Va4 (by simpa using hi),Va5,VbM hi] at e
   exact .inr ⟨ds[i],VbM hi,(Vav e).symm⟩
  ·rw [Va2 (by simpa using hi),Va3] at e
   split at e
   ·exact .inl (Vav e).symm
   ·cases e
 have key2:∀(i:Nat) (c:Cl),(Cl.no::ev0 (N.length - 1) ds)[i]?=some c→c=.no∨∃d j,i=j+1∧ds[j]?=some d∧c=.im d:=by
  intro i c e
  cases i with
  | zero=>exact .inl (Vav e).symm
  | succ j =>
   rcases key j c (by simpa using e) with q | ⟨d,e1,e2⟩
   ·exact .inl q
   ·exact .inr ⟨d,j,rfl,e1,e2⟩
 refine ⟨⟨Same.refl _,s,fun b o h1 h2=>⟨h1,?_⟩⟩,?_,fun i d e=>?_,fun i ds' e=>?_,fun i j ds' es' a e=>?_⟩
 ·by_cases hb:b=a
  ·subst hb;rw [Zgv] at h2;cases h2
  ·rw [Zeg hb] at h2;exact h2
 ·rw [ZhA]
  unfold start
  simp [hl]
  omega
 ·rcases key2 i _ e with q | ⟨d',j,rfl,e1,q⟩
  ·cases q
  ·cases q
   obtain ⟨v,e2,rv⟩:=r.get e1
   refine ⟨v,?_,rv⟩
   have hi:j<vs.length:=(Vau.mp e2).1
   unfold start
   rw [VaP,List.cons_append,List.getElem?_cons_succ,Va4 (by simpa using hi),Va5,e2]
   rfl
 ·rcases key2 i _ e with q | ⟨d',j,_,e1,q⟩<;>cases q
 ·rcases key2 i _ e with q | ⟨d',j,_,e1,q⟩<;>cases q
theorem okI{st:Stmt}{fd:FuncData}{k n:Nat}{mb:MSi}(F:Fun K x qual st f fd)(S:Zae N ps (Zac st))(hN:1≤N.length)(hp:ps.length=n+1)
  (h:∀(cdv:Value) (A:Around) (outer:List Env) (s:Shared) (H:Hp) (E:XK),Room k (A.deeper (envOfC qual (Zac st) s.heap.objs.size f cdv))→∃t,DSi (cxOf (CXR P w) P w K mg base N qual (Zac st) f cdv A outer s H E) E cs (Za8 st) t mb) :
  FnOk P w K mg base (CXR P w) (k+1) f fd ps (spI K mg n cs (fnI N.length mb)):=by
 obtain ⟨oc,od,kV,doc,pm,an,cdv,ct,osl,rfl,lk,hcd⟩:=F.ex
 refine Zm4 lk hcd S (fun vs H Q E q=>q.1.trans hp.symm) fun A outer s H vs Q E hr hsp=>?_
 obtain ⟨t,hd⟩:=h cdv A outer s H E hr
 refine ⟨t,hd.p,?_⟩
 obtain ⟨_,x,dx,C,c,ys,fs,F0,ds,fl,rfl,hc,hm,hx,fx,s0,rs,fr,hb,hok,hex⟩:=hsp
 have z:=hd.s x dx C c F0 (del H x) F0 H (start N (.ref x::ys)) (.no::ev0 (N.length - 1) ds) fs fl hc hm ⟨Zkk s0 fx rs hN,Zgv,rfl,fx,hx,fr⟩
 unfold fnI at hb hok hex
 cases e:mb (.no::ev0 (N.length - 1) ds) fl with
 | ok fl' =>
  rw [e] at z
  exact z _ fun F' H' σ' fs' g fx' hx' fr'=>hok fl' e F' H' fs' g fx' hx' fr'
 | ex c' =>
  rw [e] at z
  exact z _ fun F' H' fs' Ce g fx' hx' hce=>hex c' e F' H' fs' Ce g fx' hx' hce
 | bad=>exact absurd e hb
theorem okM{st:Stmt}{fd:FuncData}{k:Nat}{mb:MS}(F:Fun K x qual st f fd)(S:Zae N ps (Zac st))
  (h:∀(cdv:Value) (A:Around) (outer:List Env) (s:Shared) (H:Hp) (E:XK),Room k (A.deeper (envOfC qual (Zac st) s.heap.objs.size f cdv))→∃t,DSs (cxOf (CXR P w) P w K mg base N qual (Zac st) f cdv A outer s H E) E (Za8 st) t mb) :
  FnOk P w K mg base (CXR P w) (k+1) f fd ps (spD K mg ps.length (fn N.length mb)):=by
 obtain ⟨oc,od,kV,doc,pm,an,cdv,ct,osl,rfl,lk,hcd⟩:=F.ex
 refine Zm4 lk hcd S (fun vs H Q E q=>q.1) fun A outer s H vs Q E hr hsp=>?_
 obtain ⟨t,hd⟩:=h cdv A outer s H E hr
 refine ⟨t,hd.p,?_⟩
 obtain ⟨_,F0,ds,s0,rs,hb,hok,hex⟩:=hsp
 have z:=hd.s F0 H F0 H (start N vs) (ev0 N.length ds) (ZfI s0 rs)
 unfold fn at hb hok hex
 cases e:mb (ev0 N.length ds) with
 | ok fl =>
  rw [e] at z hb hok hex
  cases fl with
  | nx ρ=>exact z _ fun F' H' σ' _ r'=>hok .non rfl F' H' .non r'.g .non
  | rt d=>exact z _ fun F' H' v g rv=>hok d rfl F' H' v g rv
  | bk ρ=>exact absurd rfl hb
  | ct ρ=>exact absurd rfl hb
 | ex c =>
  rw [e] at z hex
  exact z _ fun F' H' C g hc=>hex c rfl F' H' C g hc
 | bad=>rw [e] at hb;exact absurd rfl hb
end
structure CalI(P:Program)(w:World)(K:W.Frag)(mg:Str→Option Value)(base:Heap)(k:Nat)(c:Str)(n:Nat)(cs:List Str)(g:List D→Fs→Res Fs):Prop where
 ex:∃(C f:Addr) (fd:FuncData) (ps:List Str),mg c=some (.ref C)∧Mk K C f∧FnOk P w K mg base (CXR P w) k f fd ps (spI K mg n cs g)∧Binds K fd ps []∧cs.contains c=true
def ZoH(K:W.Frag)(mg:Str→Option Value)(c:Str)(n:Nat)(cs:List Str)(g:List D→Fs→Res Fs)(E:XK)(t:TA):TE:=fun σ H Q=>∃C,mg c=some (.ref C)∧Zpf C (spI K mg n cs g) [] E t σ H Q
section
variable{K:W.Frag}{mg:Str→Option Value}{E:XK}{c:Str}{n:Nat}{cs:List Str}{g:List D→Fs→Res Fs}{t:TA}{ma:MA}
theorem ZrC{C:Addr}(hm:mg c=some (.ref C))(hc:cs.contains c=true)(ha:SA K mg E t ma)(hl:SAn n ma):SE K mg E (ZoH K mg c n cs g E t) (make c g ma):=by
 intro F0 H0 F H σ ρ rr
 refine Ans.imp (w:=fun Q=>Zpf C (spI K mg n cs g) [] E t σ H Q) ?_ fun Q q=>⟨C,hm,q⟩
 show Ans mg E (Rp K mg) F H ((ma ρ).bind fun ds=>(g ds []).bind fun fl=>.ok (.ins c (fl.map (·.1)) (fl.map (·.2)))) _
 refine (ha F0 H0 F H σ ρ rr).bindE (w':=fun vs H1 (Q:V→Hp→Prop)=>∀x dx,H1 x=none→H1 dx=none→dx≠x→spI K mg n cs g (.ref x::(vs++[])) (upd (upd H1 dx (.own x)) x (.ins C dx [])) (fun v H2=>v=.non∧Q (V.ref x) H2) E) fun ds eds F1 H1 vs g1 rs=>?_
 have hl':vs.length=n:=rs.length.trans (hl ρ ds eds)
 have base:∀x dx,H1 x=none→H1 dx=none→dx≠x→F1 x=none∧F1 dx=none∧Same F1 (upd (upd H1 dx (.own x)) x (.ins C dx []))∧del (upd (upd H1 dx (.own x)) x (.ins C dx [])) x=upd H1 dx (.own x):=by
  intro x dx hx hdx hne
  refine ⟨g1.s.free hx,g1.s.free hdx,fun a o e=>?_,?_⟩
  ·have z:=g1.s a o e
   rw [Zag (Zaf z hx),Zag (Zaf z hdx)]
   exact z
  ·funext a
   by_cases h:a=x
   ·subst h;rw [Zgv,Zag (Ne.symm hne)];exact hx.symm
   ·rw [Zeg h,Zag h]
 cases eg:g ds [] with
 | bad=>trivial
 | ex ec =>
  show Ans mg E (Rp K mg) F1 H1 (.ex ec) _
  intro Q q x dx hx hdx hne
  obtain ⟨f1,f2,s1,e1⟩:=base x dx hx hdx hne
  refine ⟨by simp [hl'],x,dx,C,c,vs,[],F1,ds,[],by simp,hc,hm,Zah,f1,s1,rs,⟨rfl,.nil⟩,(by rw [eg];intro z;cases z),(fun fl' e=>by rw [eg] at e;cases e),fun e' he F' H' fs' Ce g2 fx hx' hce=>?_⟩
  rw [eg] at he
  cases he
  rw [e1] at g2
  refine q F' H' Ce ⟨g2.f,g2.s,fun a o h1 h2=>?_⟩ hce
  exact g2.o a o h1 (by rw [Zag (Zaf h2 hdx)];exact h2)
 | ok fl =>
  show Ans mg E (Rp K mg) F1 H1 (.ok (.ins c (fl.map (·.1)) (fl.map (·.2)))) _
  intro Q q x dx hx hdx hne
  obtain ⟨f1,f2,s1,e1⟩:=base x dx hx hdx hne
  refine ⟨by simp [hl'],x,dx,C,c,vs,[],F1,ds,[],by simp,hc,hm,Zah,f1,s1,rs,⟨rfl,.nil⟩,(by rw [eg];intro z;cases z),(fun fl' e F' H' fs' g2 fx hx' fr=>?_),fun e' he=>by rw [eg] at he;cases he⟩
  rw [eg] at e
  cases e
  rw [e1] at g2
  obtain ⟨d1,d2⟩:=g2.o dx _ f2 Zah
  refine ⟨rfl,q (upd (upd F' dx (.own x)) x (.ins C dx fs')) H' (.ref x) ⟨?_,?_,fun a o h1 h2=>?_⟩ ?_⟩
  ·refine (g2.f.trans (ZaA d1 _)).trans (ZaA ?_ _)
   rw [Zag (Ne.symm hne)];exact fx
  ·intro a o e
   by_cases ha:a=x
   ·subst ha;rw [Zah] at e;cases e;exact hx'
   ·rw [Zag ha] at e
    by_cases hb:a=dx
    ·subst hb;rw [Zah] at e;cases e;exact d2
    ·rw [Zag hb] at e;exact g2.s a o e
  ·have n1:a≠x:=Zaf h2 hx
   have n2:a≠dx:=Zaf h2 hdx
   obtain ⟨q1,q2⟩:=g2.o a o h1 (by rw [Zag n2];exact h2)
   rw [Zag n1,Zag n2]
   exact ⟨q1,q2⟩
  ·have sF:Same F' (upd (upd F' dx (.own x)) x (.ins C dx fs')):=(ZaA d1 _).trans (ZaA (by rw [Zag (Ne.symm hne)];exact fx) _)
   have z:Rp K mg (upd (upd F' dx (.own x)) x (.ins C dx fs')) (.ref x) (.ins c (fs'.map (·.1)) (fl.map (·.2))):=.ins hm Zah (by rw [Zag hne,Zah]) rfl (fr.rv.same sF)
   rw [fr.nm] at z
   exact z
end
section
variable{X:Cx}{E:XK}{k l n:Nat}{c:Str}{cs:List Str}{g:List D→Fs→Res Fs}{e:Expr}{es:List Expr}{t:TA}{ma:MA}{p pos:Pos}
theorem ZlX(M:CalI X.prog X.w X.K X.mg X.base k c n cs g)(hr:Room l X.A)(hn:k+1≤l)(hg:Gl X c)(hx:ZbV (CXR X.prog X.w) X E)(ha:DA X E n (e::es) t ma)
  (hdb:(c==("__debug__" : Str))=false:=by decide) (he:starEach (e::es) X.env=(false,eval e X.env)::starEach es X.env:=by rfl) (hpl:(backTo pos (starEach es X.env)).any (·.1)=false:=by rfl) :
  DE X E (.Call (.Name c p) (e::es) [] pos) (ZoH X.K X.mg c n cs g E t) (make c g ma):=by
 obtain ⟨C,f,fd,ps,hm,mk,F,hb,hc⟩:=M.ex
 refine ⟨?_,ZrC hm hc ha.s ha.n⟩
 intro pins s σ H Q I ⟨C',hC,h⟩
 rw [hm] at hC
 cases hC
 exact Zrj mk F (hr.mono hn) hg hm hb .nil hx ha.p hdb he hpl pins s σ H Q I h
end
end L2.Ds
namespace Dl
open PySem
def insO(i:Nat)(k e:ME):MS:=fun ρ=>(getO ρ[i]?).bind fun xs=>(k ρ).bind fun u=>match u with
 | .int j=>(e ρ).bind fun d=>if (0≤j∧j≤xs.length)∧xs.length<LIM then .ok (.nx (ρ.set i (.ow (xs.take j.toNat++d::xs.drop j.toNat)))) else .bad
 | _=>.bad
end Dl
namespace L2
open PySem PySem.Spec PyProof.Rows
def Ziw:V→List V→Hp→VK→Prop:=fun x vs H Q=>∃(l:Addr) (xs:List V) (j:Int) (y:V),x=.ref l∧vs=[.int j,y]∧H l=some (.lst xs)∧(0≤j∧j≤xs.length)∧xs.length<sizeLine∧Q .non (upd H l (.lst (xs.take j.toNat++y::xs.drop j.toNat)))
theorem Vals.takeN:∀{xs:List V} {us:List Value} (n:Nat),Vals xs us→Vals (xs.take n) (us.take n)
 | _,_,0,_=>.nil
 | _,_,_+1,.nil=>.nil
 | _,_,n+1,.cons h r=>.cons h (Vals.takeN n r)
theorem Vals.dropN:∀{xs:List V} {us:List Value} (n:Nat),Vals xs us→Vals (xs.drop n) (us.drop n)
 | _,_,0,r=>r
 | _,_,_+1,.nil=>.nil
 | _,_,n+1,.cons _ r=>Vals.dropN n r
theorem ZlP{X:Cx}:MtR X "list.insert" Ziw:=by
 intro pins s σ H x vs v us Q I rx rv h
 obtain ⟨l,xs,j,y,rfl,rfl,hH,hj,hz,q⟩:=h
 cases rx
 cases rv with
 | @cons _ u0 _ us0 r1 rv =>
  have rv:Vals [y] us0:=rv
  obtain ⟨u,rfl,ru⟩:=rv.one
  obtain ⟨t,rfl⟩:=r1
  obtain ⟨z,its,n,r,hl,e⟩:=I.lstM hH
  have hs:sizeLine<2^63:=by decide
  refine call_meets F.slot_list_insert ⟨_,e,rfl⟩ F.entry_list_insert (F.args_list_insert_3 _ _ _) (PySem.AutoSeq1.list_insert_list_int_val_1 l its.toArray n j t u (by rw [fitsIndex_both (by omega) (by omega)];exact VaF) (by rw [Va9];omega)) ⟨e,?_⟩
  refine ⟨.non,_,I.lset (its':=its.take j.toNat++u::its.drop j.toNat) hH e ?_ ((r.takeN j.toNat).append (.cons ru (r.dropN j.toNat))) ?_,rfl,q⟩
  ·have hk:(if j<0 then (j+(its.toArray.size:Int)).toNat else min j.toNat its.toArray.size)=j.toNat:=by
    rw [if_neg (by omega),Va9]
    omega
   show (its.toArray.extract 0 (if j<0 then (j+(its.toArray.size:Int)).toNat else min j.toNat its.toArray.size)).push u++its.toArray.extract (if j<0 then (j+(its.toArray.size:Int)).toNat else min j.toNat its.toArray.size)=_
   rw [hk]
   apply Array.toList_inj.mp
   simp
   try rw [Vbw (by simp)]
  ·rw [Va7,VaO,Va0,Vbd]
   omega
end L2
namespace L2.Ds
open PySem PySem.Spec PyProof.Rows Dl
section
variable{K:W.Frag}{mg:Str→Option Value}{E:XK}{tk te:TE}{mk me:ME}
theorem ZtM{i:Nat}(hk:SE K mg E tk mk)(ha:SE K mg E te me):SS K mg E (ZfC (tBM K "list" Ziw (tVar i) (Zb5 tk (Zb5 te tNil)))) (insO i mk me):=by
 intro F0 H0 F H σ ρ rr
 unfold insO getO
 split
 ·next ds e =>
  obtain ⟨a,xs,e2,e4,e5,e3,hr⟩:=rr.ow i ds e
  have hl:xs.length=ds.length:=hr.length
  have hty:tyV K "list" (.ref a) H:=.inl ⟨rfl,xs,SqL.of e3⟩
  have h:=(hk F0 H0 F H σ ρ rr).stm (K:=K) (k:=fun u=>match u with
   | .int j=>(me ρ).bind fun d=>if (0≤j∧j≤ds.length)∧ds.length<LIM then .ok (.nx (ρ.set i (.ow (ds.take j.toNat++d::ds.drop j.toNat)))) else .bad
   | _=>.bad) (w':=fun x H1 D=>te σ H1 fun y H2=>Ziw (.ref a) [x,y] H2 fun _ H3=>D.nx σ H3) rr.g fun u _ F1 H1 x g1 rx=>?_
  ·show AnsS K mg E F0 H0 F ((mk ρ).bind fun u=>match u with
    | .int j=>(me ρ).bind fun d=>if (0≤j∧j≤ds.length)∧ds.length<LIM then .ok (.nx (ρ.set i (.ow (ds.take j.toNat++d::ds.drop j.toNat)))) else .bad
    | _=>.bad) _
   have fin:∀D:Ends,(tk σ H fun x H1=>te σ H1 fun y H2=>Ziw (.ref a) [x,y] H2 fun _ H3=>D.nx σ H3)→ZfC (tBM K "list" Ziw (tVar i) (Zb5 tk (Zb5 te tNil))) D σ H:=fun D z=>⟨.ref a,e2,hty,z⟩
   generalize ((mk ρ).bind fun u=>match u with
    | .int j=>(me ρ).bind fun d=>if (0≤j∧j≤ds.length)∧ds.length<LIM then Res.ok (Fl.nx (ρ.set i (.ow (ds.take j.toNat++d::ds.drop j.toNat)))) else .bad
    | _=>.bad)=res at h
   cases res with
   | ok f =>
    cases f with
    | nx ρ=>exact fun D q=>fin D (h D q)
    | bk ρ=>exact fun D q=>fin D (h D q)
    | ct ρ=>exact fun D q=>fin D (h D q)
    | rt d=>exact fun D q=>fin D (h D q)
   | ex c=>exact fun D q=>fin D (h D q)
   | bad=>trivial
  ·cases u with
   | int j =>
    cases rx
    have r1:=rr.gr g1
    obtain ⟨q1,q2⟩:=g1.o a _ e5 e3
    refine (ha F0 H0 F1 H1 σ ρ r1).stm (w':=fun y H2 D=>Ziw (.ref a) [.int j,y] H2 fun _ H3=>D.nx σ H3) r1.g fun d _ F2 H2 y g2 ry=>?_
    have r2:=r1.gr g2
    obtain ⟨p1,p2⟩:=g2.o a _ q1 q2
    have hr2:=(hr.same g1.f).same g2.f
    by_cases hc:(0≤j∧j≤ds.length)∧ds.length<LIM
    ·rw [if_pos hc]
     exact fun D q=>⟨a,xs,j,y,rfl,rfl,p2,by rw [hl];exact hc.1,by rw [hl];exact Vaf hc.2 (by decide),q F2 _ σ (Same.refl _) (r2.put e e2 p2 e4 p1 (Rps.app (.cons ry (hr2.drop j.toNat)) (hr2.take j.toNat)))⟩
    ·rw [if_neg hc];trivial
   | _=>trivial
 ·trivial
end
section
variable{X:Cx}{E:XK}{k' e:Expr}{tk te:TE}{mk me:ME}{x:Str}{np apos cpos spos:Pos}
theorem ZrY(i:Nat)(hk:DE X E k' tk mk)(he:DE X E e te me)(hN:X.N[i]?=some x:=by rfl)(hv:Vis X.env.scope x:=by first | exact Or.inl rfl | exact Or.inr (Or.inl rfl) | exact Or.inr (Or.inr rfl))(hd:(x==("__debug__" : Str))=false:=by decide)
  (hcd:(x==("__classdict__" : Str))=false:=by decide) (hbase:attributeBase (.Name x np) "insert" X.env (eval (.Name x np) X.env)=eval (.Name x np) X.env:=by rfl)
  (hfew:((backTo cpos (starEach [k',e] X.env)).all (fun x=>!x.1)&&(backToKw cpos (keywordEach [] X.env)).all (fun x=>x.1.isSome)
   && decide ([k',e].length+([]:List Keyword).length+(if ([]:List Keyword).isEmpty then 0 else 1)<30))=true:=by rfl)
  (hline:(apos.endLine==cpos.line)=true:=by rfl) (hs:starEach [k',e] X.env=(false,eval k' X.env)::starEach [e] X.env:=by rfl) (hs2:starEach [e] X.env=(false,eval e X.env)::starEach [] X.env:=by rfl) (hplain:(backTo cpos (starEach [e] X.env)).any (·.1)=false:=by rfl)
  (hsw:swapsWith (.Call (.Attribute (.Name x np) "insert" apos) [k',e] [] cpos) none spos.line X.env=pure false:=by rfl) :
  DS X E (.Expr (.Call (.Attribute (.Name x np) "insert" apos) [k',e] [] cpos) spos) (ZfC (tBM X.K "list" Ziw (tVar i) (Zb5 tk (Zb5 te tNil)))) (insO i mk me) :=
 ⟨Zfh (Znz VbU PySem.F.slot_list_insert PySem.F.type_list_insert ZlP (ZhZ hN hv hd hcd) (Zb2 hk.p (Zb2 he.p ZeQ hs2) hs) hbase hfew hline hs hplain) hsw,ZtM hk.s he.s⟩
end
end L2.Ds
namespace Dl
open PySem
end Dl
namespace L2
open PySem PySem.Spec PyProof.Rows
end L2
namespace L2.Ds
open PySem PySem.Spec PyProof.Rows PySem.Calls Dl
end L2.Ds
namespace Dl
open PySem
end Dl
namespace L2
open PySem PySem.Spec PyProof.Rows PySem.Calls
end L2
namespace L2.Ds
open PySem PySem.Spec PyProof.Rows PySem.Calls Dl
end L2.Ds
namespace L2
open PySem PySem.Spec PyProof.Rows
end L2
namespace L2.Ds
open PySem PySem.Spec PyProof.Rows PySem.Calls Dl
end L2.Ds
namespace Dl
open PySem
end Dl
namespace HT
open PySem PyProof.Rows
end HT
namespace L2
open PySem PySem.Spec PyProof.Rows
end L2
namespace L2.Ds
open PySem PySem.Spec PyProof.Rows Dl
end L2.Ds
namespace Dl
open PySem
end Dl
namespace L2.Ds
open PySem PySem.Spec PyProof.Rows Dl
end L2.Ds
namespace Dl
open PySem
end Dl
namespace L2.Ds
open PySem PySem.Spec PyProof.Rows Dl
end L2.Ds
namespace L2
open PySem PySem.Spec PyProof.Rows PySem.W
def objX(a:Addr)(o:Obj):HO:=.ext fun h=>h.get? a=some o
theorem ZpO{P:Program}{w:World}{H:Hp}{h:Heap}{a:Addr}{o:Obj}(e:h.get? a=some o):ZbS P w H h a (objX a o):=⟨e,⟨o,e⟩,fun _ _ x k=>k o x⟩
theorem Zoe{P:Program}{w:World}{H:Hp}{h:Heap}{a:Addr}{o:Obj}(x:HOk P w H h)(e:H a=some (objX a o)):h.get? a=some o:=(show _∧_ from x a _ e).1
end L2
namespace L2.Ds
open PySem PySem.Spec PyProof.Rows PySem.W Dl
end L2.Ds
namespace L2
open PySem PySem.Spec PyProof.Rows PySem.W
end L2
namespace L2.Ds
open PySem PySem.Spec PyProof.Rows PySem.W Dl
end L2.Ds
namespace L2.Ds
open PySem PySem.Spec PyProof.Rows Dl
end L2.Ds
namespace L2.Ds
open PySem PySem.Spec PyProof.Rows PySem.W Dl
end L2.Ds
namespace Dl
open PySem
def firsts(kf:Nat→List Int):Nat→List (List Int)
 | 0=>[]
 | i+1=>if kf i∈firsts kf i then firsts kf i else firsts kf i++[kf i]
def intsOf:List D→Option (List Int)
 | []=>some []
 | .int n::r=>(intsOf r).map (n::·)
 | _::_=>none
def keysOf:List D→Option (List (List Int))
 | []=>some []
 | .tup ds::r=>(intsOf ds).bind fun k=>(keysOf r).map (k::·)
 | _::_=>none
def ZgW:D→Res D
 | .lst ds=>match keysOf ds with
  | some ks=>if ds.length≤16 then .ok (.int ((firsts (fun i=>ks.getD i []) ds.length).length:Nat)) else .bad
  | none=>.bad
 | _=>.bad
end Dl
namespace L2.Sx
open PySem PySem.SetTable
def adv(m:Nat)(p:Probe):Probe :=
 if p.more>0 then { p with j:=p.j+1,more:=p.more - 1 } else
 { p with j:=(leap m p.i p.perturb).1,more:=runEnd m (leap m p.i p.perturb).1 - (leap m p.i p.perturb).1,i:=(leap m p.i p.perturb).1,perturb:=(leap m p.i p.perturb).2 }
theorem ZgB(t:SetTable)(p:Probe):t.advance p=adv t.mask p:=rfl
def run(m i pt:Nat):Probe:={ j:=i,more:=runEnd m i - i,i,perturb:=pt,dummy:=none }
theorem Zof(t:SetTable)(h:Int):t.probeStart h=run t.mask (bits h%(t.mask+1)) (bits h):=rfl
inductive Rch(m:Nat)(occ:Nat→Prop):Probe→Nat→Prop
 | here (p:Probe):Rch m occ p p.j
 | next {p:Probe} {j:Nat}:occ p.j→Rch m occ (adv m p) j→Rch m occ p j
theorem Rch.mono{m:Nat}{occ occ':Nat→Prop}(h:∀j,occ j→occ' j){p:Probe}{j:Nat}(r:Rch m occ p j):Rch m occ' p j:=by
 induction r with
 | here p=>exact .here p
 | next o _ ih=>exact .next (h _ o) ih
def Zdw(m:Nat)(occ:Nat→Prop):Nat→Probe→Prop
 | 0,p=>¬occ p.j
 | n+1,p=>¬occ p.j∨Zdw m occ n (adv m p)
def advs(m:Nat):Nat→Probe→Probe
 | 0,p=>p
 | n+1,p=>advs m n (adv m p)
theorem Zdw.of{m:Nat}{occ:Nat→Prop}:∀{n:Nat} {p:Probe},¬occ (advs m n p).j→Zdw m occ n p
 | 0,_,h=>h
 | _+1,_,h=>.inr (Zdw.of h)
theorem Zdw.mono{m:Nat}{occ:Nat→Prop}:∀{n n':Nat} {p:Probe},n≤n'→Zdw m occ n p→Zdw m occ n' p
 | 0,0,_,_,h=>h
 | 0,_+1,_,_,h=>.inl h
 | n+1,0,_,hl,_=>by omega
 | n+1,n'+1,_,hl,h=>h.elim .inl fun h=>.inr (Zdw.mono (by omega) h)
theorem Zfa(m:Nat):∀(a b:Nat) (p:Probe),advs m (a+b) p=advs m b (advs m a p)
 | 0,b,p=>by rw [Nat.zero_add];rfl
 | a+1,b,p=>by rw [Nat.add_right_comm];exact Zfa m a b (adv m p)
theorem Zei(m i pt:Nat):∀k,k≤runEnd m i - i→advs m k (run m i pt)={ j:=i+k,more:=runEnd m i - i - k,i,perturb:=pt,dummy:=none }
 | 0,_=>rfl
 | k+1,h=>by
  rw [Zfa m k 1,Zei m i pt k (by omega)]
  show adv m _=_
  unfold adv
  rw [if_pos (show runEnd m i - i - k>0 by omega)]
  simp only [Probe.mk.injEq,and_true]
  omega
theorem ZjL(m i pt:Nat):advs m (runEnd m i - i+1) (run m i pt)=run m (leap m i pt).1 (leap m i pt).2:=by
 rw [Zfa m (runEnd m i - i) 1,Zei m i pt _ (VaI _)]
 show adv m _=_
 unfold adv
 rw [if_neg (by simp)]
 rfl
theorem ZpS(m i:Nat):runEnd m i - i+1≤10:=by
 unfold runEnd
 split<;>omega
def Zcj(m:Nat):Nat→Nat×Nat→Nat×Nat
 | 0,p=>p
 | n+1,p=>Zcj m n (leap m p.1 p.2)
theorem Zh6(m:Nat):∀(a b:Nat) (p:Nat×Nat),Zcj m (a+b) p=Zcj m b (Zcj m a p)
 | 0,b,p=>by rw [Nat.zero_add];rfl
 | a+1,b,p=>by rw [Nat.add_right_comm];exact Zh6 m a b _
theorem ZhJ(m:Nat):∀(n i pt:Nat),∃k,k≤10*n∧advs m k (run m i pt)=run m (Zcj m n (i,pt)).1 (Zcj m n (i,pt)).2
 | 0,i,pt=>⟨0,VaI _,rfl⟩
 | n+1,i,pt=>by
  obtain ⟨k,hk,e⟩:=ZhJ m n (leap m i pt).1 (leap m i pt).2
  refine ⟨(runEnd m i - i+1)+k,?_,?_⟩
  ·have:=ZpS m i
   omega
  ·rw [Zfa,ZjL,e]
   rfl
theorem ZhY(m:Nat):∀(n i pt:Nat),(Zcj m n (i,pt)).2=pt/32^n
 | 0,i,pt=>by rw [Nat.pow_zero,Nat.div_one];rfl
 | n+1,i,pt=>by
  show (Zcj m n (leap m i pt)).2=_
  have e:=ZhY m n (leap m i pt).1 (leap m i pt).2
  have z:Zcj m n (leap m i pt)=Zcj m n ((leap m i pt).1,(leap m i pt).2):=rfl
  rw [z,e]
  show pt/32/32^n=pt/32^(n+1)
  rw [Nat.div_div_eq_div_mul,Nat.pow_succ,Nat.mul_comm]
theorem Zjc(m:Nat):∀(n i pt:Nat),i≤m→(Zcj m n (i,pt)).1≤m
 | 0,i,pt,h=>h
 | n+1,i,pt,h=>by
  show (Zcj m n ((leap m i pt).1,(leap m i pt).2)).1≤m
  exact Zjc m n _ _ (by unfold leap;have:=Nat.mod_lt (i*5+1+pt/32) (show 0<m+1 by omega);simp only [];omega)
theorem ZlL(h:Int):bits h<2^64:=by
 unfold bits
 have h1:=Vb3 h (show ((2:Int)^64)≠0 by decide)
 have h2:=Vb4 h (show (0:Int)<2^64 by decide)
 have e:((2:Int)^64)=((2^64:Nat):Int):=by norm_cast
 omega
theorem cyc7:∀i≤7,∀e≤7,∃k≤7,(Zcj 7 k (i,0)).1=e:=by decide +kernel
theorem ZuK:∀i≤31,∀e≤31,∃k≤31,(Zcj 31 k (i,0)).1=e:=by decide +kernel
def Mk(m:Nat):Prop:=m=7∨m=31
theorem cyc{m:Nat}(hm:Mk m):∀i≤m,∀e≤m,∃k≤m,(Zcj m k (i,0)).1=e:=by
 rcases hm with rfl | rfl
 ·exact cyc7
 ·exact ZuK
theorem cover{m:Nat}(hm:Mk m){i pt e:Nat}(hi:i≤m)(hp:pt<2^64)(he:e≤m):∃n,n≤13+m∧(Zcj m n (i,pt)).1=e:=by
 have h13:(Zcj m 13 (i,pt)).2=0:=by
  rw [ZhY]
  exact Nat.div_eq_of_lt (Vaf hp (by decide))
 obtain ⟨k,hk,e1⟩:=cyc hm _ (Zjc m 13 i pt hi) e he
 refine ⟨13+k,by omega,?_⟩
 rw [Zh6]
 have z:Zcj m 13 (i,pt)=((Zcj m 13 (i,pt)).1,0):=by rw [←h13]
 rw [z]
 exact e1
theorem ends{m:Nat}(hm:Mk m){i pt e:Nat}{occ:Nat→Prop}(hi:i≤m)(hp:pt<2^64)(he:e≤m)(ho:¬occ e):Zdw m occ (10*(13+m)) (run m i pt):=by
 obtain ⟨n,hn,e1⟩:=cover hm hi hp he
 obtain ⟨k,hk,e2⟩:=ZhJ m n i pt
 refine Zdw.mono (n:=k) (by omega) (Zdw.of ?_)
 rw [e2]
 show ¬occ (Zcj m n (i,pt)).1
 rw [e1]
 exact ho
theorem Zhb(xs:Array Nat)(j:Nat)(h:xs.toList.Pairwise (· < ·)):∀(fuel lo hi:Nat),lo≤hi→hi≤xs.size→hi - lo≤fuel→(∀i (q:i<xs.size),i<lo→xs[i]<j)→(∀i (q:i<xs.size),hi≤i→¬xs[i]<j) →
  below.go xs j fuel lo hi≤xs.size∧∀i (q:i<xs.size),xs[i]<j↔i<below.go xs j fuel lo hi
 | 0,lo,hi,h1,h2,h3,h4,h5=>by
  have e:lo=hi:=by omega
  subst e
  exact ⟨h2,fun i hi=>⟨fun z=>Nat.lt_of_not_le fun q=>h5 i hi q z,fun z=>h4 i hi z⟩⟩
 | fuel+1,lo,hi,h1,h2,h3,h4,h5=>by
  unfold below.go
  by_cases hl:lo<hi
  ·rw [if_pos hl]
   simp only []
   have hm:(lo+hi)/2<xs.size:=by omega
   have hp:∀a b (ha:a<xs.size) (hb:b<xs.size),a<b→xs[a]<xs[b]:=fun a b ha hb hab=>by
    have:=Vb5.mp h a b (by simpa using ha) (by simpa using hb) hab
    simpa using this
   have eg:xs.getD ((lo+hi)/2) j=xs[(lo+hi)/2]:=by simp [Array.getD,hm]
   rw [eg]
   by_cases hc:xs[(lo+hi)/2]<j
   ·rw [if_pos hc]
    refine Zhb xs j h fuel ((lo+hi)/2+1) hi (by omega) h2 (by omega) (fun i hi' z=>?_) h5
    by_cases hz:i<(lo+hi)/2
    ·exact Vbr (hp i _ hi' hm hz) hc
    ·have:i=(lo+hi)/2:=by omega
     subst this;exact hc
   ·rw [if_neg hc]
    refine Zhb xs j h fuel lo ((lo+hi)/2) (by omega) (by omega) (by omega) h4 fun i hi' z=>?_
    by_cases hz:(lo+hi)/2<i
    ·have:=hp _ i hm hi' hz
     omega
    ·have:i=(lo+hi)/2:=by omega
     subst this;exact hc
  ·rw [if_neg hl]
   have e:lo=hi:=by omega
   subst e
   exact ⟨h2,fun i hi=>⟨fun z=>Nat.lt_of_not_le fun q=>h5 i hi q z,fun z=>h4 i hi z⟩⟩
theorem ZgA{xs:Array Nat}(j:Nat)(h:xs.toList.Pairwise (· < ·)):below xs j≤xs.size∧∀i (hi:i<xs.size),xs[i]<j↔i<below xs j :=
 Zhb xs j h xs.size 0 xs.size (VaT _) (VaI _) (by omega) (fun _ _ z=>by omega) fun i hi z=>by omega
abbrev En:Type:=Nat×Int×Value
def Occ(l:List En)(j:Nat):Prop:=∃e∈l,e.1=j
abbrev st0(m:Nat)(h:Int):Probe:=run m (bits h%(m+1)) (bits h)
structure Tb(t:SetTable)(es:Array (Int×Value))(l:List En):Prop where
 ms:Mk t.mask
 pl:t.place.toList=l.map (·.1)
 el:es.toList=l.map (·.2)
 du:t.dummies=#[]
 up:l.Pairwise fun a b=>a.1<b.1
 le:∀e∈l,e.1≤t.mask
 rc:∀e∈l,Rch t.mask (Occ l) (st0 t.mask e.2.1) e.1
section
variable{t:SetTable}{es:Array (Int×Value)}{l:List En}
theorem Tb.plP(T:Tb t es l):t.place.toList.Pairwise (· < ·):=by rw [T.pl,List.pairwise_map];exact T.up
theorem Tb.size(T:Tb t es l):t.place.size=l.length:=by rw [←Vax,T.pl,VaQ]
theorem Tb.esize(T:Tb t es l):es.size=l.length:=by rw [←Vax,T.el,VaQ]
theorem Tb.at(T:Tb t es l){i:Nat}(hi:i<t.place.size):t.place[i]=(l[i]'(by rw [←T.size];exact hi)).1:=by
 have e:t.place.toList[i]'(by simpa using hi)=(l.map (·.1))[i]'(by rw [VaQ,←T.size];exact hi):=by
  congr 1
  exact T.pl
 simpa using e
theorem Tb.live(T:Tb t es l){i:Nat}{e:En}(h:l[i]?=some e):t.slot e.1=.live i:=by
 obtain ⟨hi,rfl⟩:=Vau.mp h
 have hi':i<t.place.size:=by rw [T.size];exact hi
 obtain ⟨b1,b2⟩:=ZgA l[i].1 T.plP
 have hp:=Vb5.mp T.up
 have eb:below t.place l[i].1=i:=by
  rcases Nat.lt_trichotomy (below t.place l[i].1) i with z | z | z
  ·have hb:below t.place l[i].1<t.place.size:=by omega
   have:=hp _ i (by rw [←T.size];exact hb) hi z
   have q:=(b2 _ hb).mp (by rw [T.at hb];exact this)
   omega
  ·exact z
  ·have q:=(b2 i hi').mpr z
   rw [T.at hi'] at q
   omega
 unfold slot
 simp only []
 rw [eb,if_pos]
 rw [Vb6 hi',T.at hi']
 simp
theorem Tb.noDummy(T:Tb t es l)(j:Nat):has t.dummies j=false:=by
 rw [T.du]
 unfold has
 simp
theorem Tb.empty(T:Tb t es l){j:Nat}(h:¬Occ l j):t.slot j=.empty:=by
 unfold slot
 simp only []
 rw [if_neg,T.noDummy,if_neg VaF]
 intro z
 have z:=eq_of_beq z
 obtain ⟨hi,e⟩:=Vb1.mp z
 rw [T.at hi] at e
 exact h ⟨_,VbS _,e⟩
theorem Tb.occ(T:Tb t es l){j:Nat}(h:Occ l j):∃i e,l[i]?=some e∧e.1=j∧t.slot j=.live i:=by
 obtain ⟨e,he,rfl⟩:=h
 obtain ⟨i,hi,rfl⟩:=VbT.mp he
 exact ⟨i,_,VbM hi,rfl,T.live (VbM hi)⟩
theorem Zd1{α:Type}(xs:Array α)(p:Nat)(x:α)(hp:p≤xs.size):(insertAt xs p x).toList=xs.toList.take p++x::xs.toList.drop p:=by
 unfold insertAt
 simp [Array.toList_extract,List.extract_eq_drop_take]
 exact Vbw (by simp)
theorem Tb.put(T:Tb t es l){j:Nat}{h:Int}{x:Value}(hj:j≤t.mask)(ho:¬Occ l j)(hr:Rch t.mask (Occ l) (st0 t.mask h) j) :
  ∃l',List.Perm l' ((j,h,x)::l)∧Tb (t.put j).1 (insertAt es (t.put j).2 (h,x)) l':=by
 obtain ⟨b1,b2⟩:=ZgA j T.plP
 have ep:(t.put j).2=below t.place j:=rfl
 have et:(t.put j).1={ t with place:=insertAt t.place (below t.place j) j,dummies:=t.dummies }:=by
  unfold SetTable.put
  simp only []
  rw [T.noDummy,if_neg VaF]
 have hp:List.Perm (l.take (below t.place j)++(j,h,x)::l.drop (below t.place j)) ((j,h,x)::l):=by
  refine List.perm_middle.trans ?_
  rw [List.take_append_drop]
 have hocc:∀k,Occ l k→Occ (l.take (below t.place j)++(j,h,x)::l.drop (below t.place j)) k:=fun k ⟨e,he,q⟩=>⟨e,hp.mem_iff.mpr (Vap _ he),q⟩
 refine ⟨l.take (below t.place j)++(j,h,x)::l.drop (below t.place j),hp,?_⟩
 rw [ep,et]
 refine ⟨T.ms,?_,?_,T.du,?_,fun e he=>?_,fun e he=>?_⟩
 ·show (insertAt t.place (below t.place j) j).toList=_
  rw [Zd1 _ _ _ b1,T.pl]
  simp [Vb7,List.map_drop]
 ·rw [Zd1 _ _ _ (by rw [T.esize,←T.size];exact b1),T.el]
  simp [Vb7,List.map_drop]
 ·have hlow:∀e∈l.take (below t.place j),e.1<j:=fun e he=>by
   obtain ⟨i,hi,rfl⟩:=VbT.mp he
   have hi':i<below t.place j∧i<l.length:=by rw [Va0] at hi;omega
   have hq:i<t.place.size:=by rw [T.size];exact hi'.2
   have:=(b2 i hq).mpr hi'.1
   rw [T.at hq] at this
   simpa using this
  have hhigh:∀e∈l.drop (below t.place j),j<e.1:=fun e he=>by
   obtain ⟨i,hi,rfl⟩:=VbT.mp he
   rw [Vbd] at hi
   have hq:below t.place j+i<t.place.size:=by rw [T.size];omega
   have h1:¬t.place[below t.place j+i]<j:=fun z=>by have:=(b2 _ hq).mp z;omega
   rw [T.at hq] at h1
   have h2:(l[below t.place j+i]'(by rw [←T.size];exact hq)).1≠j:=fun z=>ho ⟨_,VbS _,z⟩
   rw [List.getElem_drop]
   omega
  rw [List.pairwise_append]
  refine ⟨T.up.sublist (List.take_sublist _ _),?_,fun a ha b hb=>?_⟩
  ·rw [Vb8]
   exact ⟨fun b hb=>hhigh b hb,T.up.sublist (List.drop_sublist _ _)⟩
  ·rcases Var.mp hb with rfl | hb
   ·exact hlow a ha
   ·exact Vbr (hlow a ha) (hhigh b hb)
 ·rcases Var.mp (hp.mem_iff.mp he) with rfl | he
  ·exact hj
  ·exact T.le e he
 ·rcases Var.mp (hp.mem_iff.mp he) with rfl | he
  ·exact hr.mono hocc
  ·exact (T.rc e he).mono hocc
end
section
variable{t:SetTable}{es:Array (Int×Value)}{l:List En}{h:Int}{ha:Nat→Int}
def HAt(l:List En)(ha:Nat→Int):Prop:=∀i e,l[i]?=some e→ha i=e.2.1
theorem Zfx(T:Tb t es l)(hh:HAt l ha):∀(n fuel:Nat) (p:Probe),p.dummy=none→Zdw t.mask (Occ l) n p→n<fuel →
  (∃j,probe.go t ha h fuel p=some (.empty j none)∧¬Occ l j∧Rch t.mask (Occ l) p j∧∀e∈l,e.2.1=h→¬Rch t.mask (Occ l) p e.1) ∨
  (∃i e p' n',probe.go t ha h fuel p=some (.candidate e.1 i (adv t.mask p'))∧l[i]?=some e∧e.2.1=h∧p'.j=e.1∧p'.dummy=none∧n'<n∧Zdw t.mask (Occ l) n' (adv t.mask p')∧(∀j,Rch t.mask (Occ l) (adv t.mask p') j→Rch t.mask (Occ l) p j)∧∀e'∈l,e'.2.1=h→e'≠e→Rch t.mask (Occ l) p e'.1→Rch t.mask (Occ l) (adv t.mask p') e'.1)
 | n,0,p,_,_,hf=>by omega
 | n,fuel+1,p,hd,hE,hf=>by
  by_cases ho:Occ l p.j
  ·obtain ⟨i,e,hi,he,hs⟩:=T.occ ho
   cases n with
   | zero=>exact absurd ho hE
   | succ n =>
    have hE':Zdw t.mask (Occ l) n (adv t.mask p):=hE.resolve_left fun z=>z ho
    have dadv:(adv t.mask p).dummy=none:=by unfold adv;split<;>exact hd
    unfold probe.go
    rw [hs]
    simp only []
    have inj:∀e'∈l,e'.1=e.1→e'=e:=fun e' he' q=>by
     obtain ⟨a,ha',rfl⟩:=VbT.mp he'
     obtain ⟨hb,rfl⟩:=Vau.mp hi
     have hp:=Vb5.mp T.up
     rcases Nat.lt_trichotomy a i with z | z | z
     ·have:=hp a i ha' hb z;omega
     ·subst z;rfl
     ·have:=hp i a hb ha' z;omega
    have on:∀{j:Nat},Rch t.mask (Occ l) p j→j≠p.j→Rch t.mask (Occ l) (adv t.mask p) j:=fun {j} r ne=>by
     cases r with
     | here=>exact absurd rfl ne
     | next _ r=>exact r
    by_cases hq:ha i=h
    ·rw [if_pos (by rw [hq];exact beq_self_eq_true h)]
     right
     refine ⟨i,e,p,n,by rw [ZgB,he],hi,by rw [←hh i e hi];exact hq,he.symm,hd,by omega,hE',fun j r=>.next ho r,fun e' he' _ ne r=>on r fun z=>ne (inj e' he' (by rw [z,he]))⟩
    ·rw [if_neg (by intro z;exact hq (eq_of_beq z)),ZgB]
     have neh:e.2.1≠h:=by rw [←hh i e hi];exact hq
     rcases Zfx T hh n fuel (adv t.mask p) dadv hE' (by omega) with ⟨j,e1,e2,e3,e4⟩ | ⟨i',e',p',n',e1,e2,e3,e4,e5,e6,e7,e8,e9⟩
     ·left
      refine ⟨j,e1,e2,.next ho e3,fun e' he' q r=>e4 e' he' q (on r fun z=>?_)⟩
      have:=inj e' he' (by rw [z,he])
      subst this
      exact neh q
     ·right
      refine ⟨i',e',p',n',e1,e2,e3,e4,e5,by omega,e7,fun j r=>.next ho (e8 j r),fun e'' he'' q ne r=>e9 e'' he'' q ne (on r fun z=>?_)⟩
      have:=inj e'' he'' (by rw [z,he])
      subst this
      exact neh q
  ·left
   unfold probe.go
   rw [T.empty ho]
   simp only []
   refine ⟨p.j,by rw [hd],ho,.here p,fun e he _ r=>?_⟩
   generalize hz:e.1=z at r
   cases r with
   | here=>exact ho ⟨e,he,hz⟩
   | next o _=>exact ho o
end
theorem ZoG{α:Type}:∀{xs ys:List α},xs.Nodup→(∀x∈xs,x∈ys)→xs.length≤ys.length
 | [],_,_,_=>VaT _
 | x::r,ys,hn,hs=>by
  obtain ⟨a,b,rfl⟩:=List.append_of_mem (hs x Vao)
  rw [VaY] at hn
  have:=ZoG (ys:=a++b) hn.2 fun y hy=>by
   rcases Vas.mp (hs y (Vap _ hy)) with z | z
   ·exact Vat _ z
   ·rcases Var.mp z with rfl | z
    ·exact absurd hy hn.1
    ·exact VaL _ z
  simp at this ⊢
  omega
theorem ZhG{m:Nat}{js:List Nat}(h:js.length≤m):∃e,e≤m∧e∉js:=by
 refine Vb9 fun z=>?_
 have:=ZoG (xs:=List.range (m+1)) (ys:=js) List.nodup_range fun x hx=>Vb9 fun q=>z ⟨x,by have:=Vaj.mp hx;omega,q⟩
 rw [VbK] at this
 omega
theorem ZgL{m:Nat}{occ:Nat→Prop}:∀{k:Nat} {p:Probe} {j:Nat},(∀k'<k,occ (advs m k' p).j)→Rch m occ (advs m k p) j→Rch m occ p j
 | 0,_,_,_,r=>r
 | k+1,p,j,h,r=>.next (h 0 (by omega)) (ZgL (k:=k) (fun k' hk=>h (k'+1) (by omega)) r)
theorem Zpg{m i pt k:Nat}{occ:Nat→Prop}(hk:k≤runEnd m i - i)(h:∀k'<k,occ (i+k')):Rch m occ (run m i pt) (i+k):=by
 refine ZgL (k:=k) (fun k' hk'=>?_) ?_
 ·rw [Zei m i pt k' (by omega)]
  exact h k' hk'
 ·rw [Zei m i pt k hk]
  exact .here _
theorem Zm5{m i pt j:Nat}{occ:Nat→Prop}(h:∀k'≤runEnd m i - i,occ (i+k'))(r:Rch m occ (run m (leap m i pt).1 (leap m i pt).2) j):Rch m occ (run m i pt) j:=by
 refine ZgL (k:=runEnd m i - i+1) (fun k' hk'=>?_) ?_
 ·rw [Zei m i pt k' (by omega)]
  exact h k' (by omega)
 ·rw [ZjL]
  exact r
structure Ow(m:Nat)(owner:Array (Option Nat))(js:List Nat):Prop where
 sz:owner.size=m+1
 nd:js.Nodup
 le:∀j∈js,j≤m
 is:∀j k,j≤m→(owner[j]?=some (some k)↔js[k]?=some j)
theorem Ow.none{m:Nat}{owner:Array (Option Nat)}{js:List Nat}(O:Ow m owner js){j:Nat}(hj:j≤m):(owner.getD j (some 0)).isNone=true↔j∉js:=by
 have hb:j<owner.size:=by rw [O.sz];omega
 have eg:owner.getD j (some 0)=owner[j]:=by simp [Array.getD,hb]
 rw [eg]
 constructor
 ·intro z hm
  obtain ⟨k,hk,e⟩:=VbT.mp hm
  have:=(O.is j k hj).mpr (by rw [VbM hk,e])
  rw [Vb6 hb] at this
  rw [Vav this] at z
  exact Bool.noConfusion z
 ·intro z
  cases q:owner[j] with
  | none=>rfl
  | some k =>
   have:=(O.is j k hj).mp (by rw [Vb6 hb,q])
   exact absurd (Va6 this) z
theorem ZfK{m i:Nat}(h:i≤m):i≤runEnd m i∧runEnd m i≤m:=by
 unfold runEnd
 split<;>omega
theorem Zh9{m:Nat}{owner:Array (Option Nat)}{js:List Nat}(O:Ow m owner js){e:Nat}(he:e≤m)(hf:e∉js):∀(fuel L i pt:Nat),i≤m→L<fuel→(Zcj m L (i,pt)).1=e →
  ∃j,j≤m∧layClean.free m owner fuel i pt=some j∧j∉js∧Rch m (·∈js) (run m i pt) j
 | 0,L,i,pt,_,hl,_=>by omega
 | fuel+1,L,i,pt,hi,hl,hL=>by
  obtain ⟨r1,r2⟩:=ZfK hi
  unfold layClean.free
  cases q:(List.range (runEnd m i+1 - i)).find? fun k=>(owner.getD (i+k) (some 0)).isNone with
  | some k =>
   obtain ⟨hp,as,bs,hs,ha⟩:=List.find?_eq_some_iff_append.mp q
   have hk:k<runEnd m i+1 - i:=Vaj.mp (by rw [hs];simp)
   have hbef:∀k'<k,(owner.getD (i+k') (some 0)).isNone=false:=fun k' hk'=>by
    have hlen:as.length=k:=by
     have:=Vay (fun l=>l[as.length]?) hs
     simp at this
     rw [VbL (by have:=Vay List.length hs;simp at this;omega)] at this
     exact Vav this
    have hmem:k'∈as:=by
     have e1:(List.range (runEnd m i+1 - i))[k']?=(as++k::bs)[k']?:=by rw [hs]
     rw [VbL (by omega),Va4 (by omega)] at e1
     exact Va6 e1.symm
    have:=ha k' hmem
    simpa using this
   simp only []
   refine ⟨i+k,by omega,rfl,(O.none (by omega)).mp hp,Zpg (by omega) fun k' hk'=>?_⟩
   exact Vb9 fun z=>by
    have h1:=hbef k' hk'
    rw [(O.none (by omega)).mpr z] at h1
    exact Bool.noConfusion h1
  | none =>
   simp only []
   have hall:∀k'≤runEnd m i - i,i+k'∈js:=fun k' hk'=>Vb9 fun z=>by
    have h1:=List.find?_eq_none.mp q k' (Vaj.mpr (by omega))
    exact h1 ((O.none (by omega)).mpr z)
   cases L with
   | zero =>
    have:i=e:=hL
    subst this
    exact absurd (hall 0 (by omega)) hf
   | succ L =>
    have hi':(leap m i pt).1≤m:=by
     unfold leap
     have:=Vb2 (i*5+1+pt/32) (show 0<m+1 by omega)
     simp only []
     omega
    obtain ⟨j,h1,h2,h3,h4⟩:=Zh9 O he hf fuel L (leap m i pt).1 (leap m i pt).2 hi' (by omega) hL
    exact ⟨j,h1,h2,h3,Zm5 hall h4⟩
theorem Ow.put{m:Nat}{owner:Array (Option Nat)}{js:List Nat}(O:Ow m owner js){j:Nat}(hj:j≤m)(hf:j∉js):Ow m (owner.setIfInBounds j (some js.length)) (js++[j]):=by
 refine ⟨by rw [Array.size_setIfInBounds];exact O.sz,?_,fun i hi=>?_,fun i k hi=>?_⟩
 ·rw [List.nodup_append]
  refine ⟨O.nd,by simp,fun a ha b hb=>?_⟩
  rw [Vca] at hb
  subst hb
  rintro rfl
  exact hf ha
 ·rcases Vas.mp hi with z | z
  ·exact O.le i z
  ·rw [Vca] at z;subst z;exact hj
 ·rw [Array.getElem?_setIfInBounds]
  have hb:j<owner.size:=by rw [O.sz];omega
  by_cases e:j=i
  ·subst e
   rw [if_pos rfl,if_pos hb]
   constructor
   ·intro z
    cases z
    simp
   ·intro z
    by_cases hk:k<js.length
    ·rw [Va4 hk] at z
     exact absurd (Va6 z) hf
    ·have:k=js.length:=by
      have:=(Vau.mp z).1
      simp at this
      omega
     rw [this]
  ·rw [if_neg e,O.is i k hi]
   constructor
   ·intro z
    rw [Va4 (Vau.mp z).1]
    exact z
   ·intro z
    by_cases hk:k<js.length
    ·rw [Va4 hk] at z;exact z
    ·have:k=js.length:=by
      have:=(Vau.mp z).1
      simp at this
      omega
     subst this
     simp at z
     exact absurd z e
def RcW(m:Nat)(hs:List Int)(js:List Nat):Prop:=∀(k:Nat) (h:Int) (j:Nat),hs[k]?=some h→js[k]?=some j→Rch m (·∈js) (st0 m h) j
theorem Zji{m:Nat}(hm:Mk m):∀(rest done:List Int) (owner:Array (Option Nat)) (js:List Nat),Ow m owner js→js.length=done.length→RcW m done js→done.length+rest.length≤m →
  ∃owner' js',rest.foldl (fun acc h=>do
   let (owner,k) ←acc
   let j ←layClean.free m owner (turns m) (bits h%(m+1)) (bits h)
   pure (owner.setIfInBounds j (some k),k+1)) (some (owner,js.length))=some (owner',js'.length)∧Ow m owner' js'∧js'.length=(done++rest).length∧RcW m (done++rest) js'
 | [],done,owner,js,O,hl,hr,_=>⟨owner,js,rfl,O,by rw [VaV];exact hl,by rw [VaV];exact hr⟩
 | h::rest,done,owner,js,O,hl,hr,hle=>by
  simp only [VaO] at hle
  obtain ⟨e,he,hf⟩:=ZhG (m:=m) (js:=js) (by omega)
  have hi:bits h%(m+1)≤m:=by
   have:=Vb2 (bits h) (show 0<m+1 by omega)
   omega
  obtain ⟨L,hL,eL⟩:=cover hm hi (ZlL h) he
  obtain ⟨j,h1,h2,h3,h4⟩:=Zh9 O he hf (turns m) L _ (bits h) hi (by unfold turns;omega) eL
  have O':=O.put h1 h3
  have hr':RcW m (done++[h]) (js++[j]):=by
   intro k h' j' e1 e2
   by_cases hk:k<done.length
   ·rw [Va4 hk] at e1
    rw [Va4 (by omega)] at e2
    exact (hr k h' j' e1 e2).mono fun x hx=>Vat _ hx
   ·have:k=done.length:=by
     have:=(Vau.mp e1).1
     simp at this
     omega
    subst this
    simp at e1
    rw [←hl] at e2
    simp at e2
    subst e1 e2
    exact h4.mono fun x hx=>Vat _ hx
  obtain ⟨owner',js',e1,e2,e3,e4⟩:=Zji hm rest (done++[h]) _ (js++[j]) O' (by simp [hl]) hr' (by simp;omega)
  refine ⟨owner',js',?_,e2,by rw [e3];simp,by simpa using e4⟩
  rw [List.foldl_cons]
  have z:(do
   let (owner,k) ←some (owner,js.length)
   let j ←layClean.free m owner (turns m) (bits h%(m+1)) (bits h)
   pure (owner.setIfInBounds j (some k),k+1):Option (Array (Option Nat)×Nat))=some (owner.setIfInBounds j (some js.length),(js++[j]).length):=by
   show (layClean.free m owner (turns m) (bits h%(m+1)) (bits h)).bind _=_
   rw [h2]
   simp
  rw [z]
  exact e1
theorem Zlm{m:Nat}(hm:Mk m)(hashes:Array Int)(hl:hashes.size≤m):∃owner js,layClean m hashes=some owner∧Ow m owner js∧js.length=hashes.size∧RcW m hashes.toList js:=by
 have O0:Ow m (Array.replicate (m+1) none) []:=⟨by simp,List.nodup_nil,fun _ h=>(VbH h).elim,fun j k hj=>by
  rw [Array.getElem?_replicate]
  simp [hj]⟩
 obtain ⟨owner,js,e1,e2,e3,e4⟩:=Zji hm hashes.toList [] _ [] O0 rfl (fun k h j e _=>by simp at e) (by simpa using hl)
 refine ⟨owner,js,?_,e2,by simpa using e3,by simpa using e4⟩
 unfold layClean
 rw [←Array.foldl_toList]
 have z:=Vay (Option.map (·.1)) e1
 exact z
section
variable{t:SetTable}{es:Array (Int×Value)}{l:List En}
theorem Zmm{m:Nat}{owner:Array (Option Nat)}{js:List Nat}(O:Ow m owner js)(live:List (Nat×Nat))(hlive:live=(List.range (m+1)).filterMap fun j=>(owner.getD j none).map (j,·)) :
  live.Pairwise (fun a b=>a.1<b.1)∧∀j k,(j,k)∈live↔js[k]?=some j:=by
 have mem:∀j k,(j,k)∈live↔js[k]?=some j:=fun j k=>by
  rw [hlive,VaK]
  constructor
  ·rintro ⟨i,hi,e⟩
   have hi:=Vaj.mp hi
   have hb:i<owner.size:=by rw [O.sz];exact hi
   have eg:owner.getD i none=owner[i]:=by simp [Array.getD,hb]
   rw [eg] at e
   cases q:owner[i] with
   | none=>rw [q] at e;cases e
   | some k' =>
    rw [q] at e
    simp only [Option.map_some,Option.some.injEq,Prod.mk.injEq] at e
    obtain ⟨rfl,rfl⟩:=e
    exact (O.is i k' (by omega)).mp (by rw [Vb6 hb,q])
  ·intro e
   have hj:=O.le j (Va6 e)
   have hb:j<owner.size:=by rw [O.sz];omega
   refine ⟨j,Vaj.mpr (by omega),?_⟩
   have eg:owner.getD j none=owner[j]:=by simp [Array.getD,hb]
   have q:=(O.is j k hj).mpr e
   rw [Vb6 hb] at q
   rw [eg,Vav q]
   rfl
 refine ⟨?_,mem⟩
 rw [hlive,List.pairwise_filterMap]
 refine List.pairwise_lt_range.imp fun {a b} hab=>?_
 intro x hx y hy
 cases qa:owner.getD a none with
 | none=>rw [qa] at hx;cases hx
 | some ka =>
  cases qb:owner.getD b none with
  | none=>rw [qb] at hy;cases hy
  | some kb =>
   rw [qa] at hx
   rw [qb] at hy
   cases hx
   cases hy
   exact hab
theorem Tb.relay(T:Tb t es l)(hl:l.length≤16){wanted:Nat}(hw:sizeAbove wanted=32) :
  ∃t' order l',t.relaid (es.map (·.1)) wanted=some (t',order)∧t'.mask=31∧t'.led=t.led∧t'.plain=t.plain∧Tb t' (order.filterMap (es[·]?)) l'∧List.Perm (l'.map (·.2)) (l.map (·.2)):=by
 have hm:Mk 31:=.inr rfl
 obtain ⟨owner,js,e1,O,lj,rc⟩:=Zlm hm (es.map (·.1)) (by rw [Array.size_map,T.esize];omega)
 obtain ⟨live,hlive⟩ : ∃live,live=(List.range (31+1)).filterMap fun j=>(owner.getD j none).map (j,·):=⟨_,rfl⟩
 obtain ⟨up,mem⟩:=Zmm O live hlive
 have ljl:js.length=l.length:=by rw [lj,Array.size_map,T.esize]
 have hat:∀j k,(j,k)∈live→k<l.length:=fun j k h=>by
  have:=(Vau.mp ((mem j k).mp h)).1
  omega
 have hes:∀k,k<l.length→es[k]?=some ((l.getD k (0,0,.none)).2):=fun k hk=>by
  rw [←Array.getElem?_toList,T.el,Va5,VbM hk]
  simp [List.getD,hk]
 obtain ⟨l',hl'⟩ : ∃l':List En,l'=live.map fun p=>(p.1,(l.getD p.2 (0,0,.none)).2):=⟨_,rfl⟩
 have hnd:(live.map (·.2)).Nodup:=by
  unfold List.Nodup
  rw [List.pairwise_map]
  refine List.Pairwise.imp_of_mem (R:=fun a b=>a.1<b.1) (fun {a b} ha hb hab=>?_) up
  intro z
  have h1:=(mem a.1 a.2).mp ha
  have h2:=(mem b.1 b.2).mp hb
  rw [z,h2] at h1
  have:=Vav h1
  omega
 have hperm:List.Perm (live.map (·.2)) (List.range l.length):=by
  rw [List.perm_ext_iff_of_nodup hnd List.nodup_range]
  intro k
  rw [Vaj]
  constructor
  ·intro h
   obtain ⟨⟨j,k'⟩,hp,rfl⟩:=Vbs.mp h
   exact hat j k' hp
  ·intro h
   refine Vbs.mpr ⟨(js[k]'(by omega),k),(mem _ _).mpr (VbM (by omega)),rfl⟩
 refine ⟨{ mask:=31,place:=(live.map (·.1)).toArray,dummies:=#[],finger:=t.finger,led:=t.led,moves:=t.movedTo 31,plain:=t.plain },(live.map (·.2)).toArray,l',?_,rfl,rfl,rfl,?_,?_⟩
 ·unfold relaid
  rw [hw]
  show laid 31 _ _ _ _ _=_
  unfold laid
  rw [e1]
  show some _=some _
  rw [hlive]
 ·have oc:∀j,j∈js→Occ l' j:=fun j hj=>by
   obtain ⟨k,hk,rfl⟩:=VbT.mp hj
   exact ⟨_,by rw [hl'];exact Vbs.mpr ⟨(js[k],k),(mem _ _).mpr (VbM hk),rfl⟩,rfl⟩
  refine ⟨hm,?_,?_,rfl,?_,fun e he=>?_,fun e he=>?_⟩
  ·show live.map (·.1)=_
   rw [hl',VbO]
   rfl
  ·rw [Array.toList_filterMap]
   show (live.map (·.2)).filterMap (es[·]?)=_
   rw [hl',VbO,List.filterMap_map]
   have key:∀q:List (Nat×Nat),(∀x∈q,x.2<l.length)→q.filterMap ((es[·]?) ∘ (·.2))=q.map ((·.2) ∘ fun p:Nat×Nat=>((p.1,(l.getD p.2 (0,0,Value.none)).2):En)):=by
    intro q
    induction q with
    | nil=>intro _;rfl
    | cons x r ih =>
     intro h
     rw [Van,VaP,←ih fun y hy=>h y (Vap _ hy)]
     simp only [Function.comp]
     rw [hes x.2 (h x Vao)]
   exact key live fun x hx=>hat x.1 x.2 hx
  ·rw [hl',List.pairwise_map]
   exact up
  ·rw [hl'] at he
   obtain ⟨⟨j,k⟩,hp,rfl⟩:=Vbs.mp he
   exact O.le j (Va6 ((mem j k).mp hp))
  ·rw [hl'] at he
   obtain ⟨⟨j,k⟩,hp,rfl⟩:=Vbs.mp he
   have hk:=hat j k hp
   refine (rc k _ j ?_ ((mem j k).mp hp)).mono oc
   rw [Array.toList_map,T.el,VbO,Va5,VbM hk]
   simp [List.getD,hk]
 ·rw [hl',VbO]
  have e:l.map (·.2)=(List.range l.length).map fun k=>(l.getD k (0,0,Value.none)).2:=by
   apply List.ext_getElem?
   intro i
   by_cases h:i<l.length
   ·simp [h]
   ·simp [h]
  rw [e]
  have:=hperm.map fun k=>(l.getD k (0,0,Value.none)).2
  rw [VbO] at this
  exact this
end
section
variable{prog:Program}{w:World}{A:Around}{E:Value→Shared→Prop}{s:Shared}
theorem items_int{ks:List Int}{vs:List Value}(h:ItemsAre (intKind prog w) ks vs):∀v∈vs,∃i t,v=Value.int i t:=by
 induction h with
 | nil=>exact fun _ h=>(VbH h).elim
 | @cons k v ks vs h1 _ ih =>
  intro u hu
  rcases Var.mp hu with rfl | hu
  ·cases u with
   | int i t=>exact ⟨i,t,rfl⟩
   | _=>exact absurd h1 (by intro z;exact Bool.noConfusion z)
  ·exact ih u hu
theorem ZhF{a:Addr}{ks:List Int}{Q:Bool→Shared→Prop}(hk:IsTupleKey (intKind prog w) s.heap ks a)(h:Q false s):wpAny (model prog w) A (ofAClassStatement 8 (.ref a)) Q E s:=by
 obtain ⟨o,items,n,ho,hc,hd,hi⟩:=hk
 have hT:s.TypeIs (.ref a) "tuple" := ⟨o,ho,hc⟩
 have hint:=items_int hi
 unfold ofAClassStatement
 refine Vaz (Vbi hT ?_)
 dsimp only
 rw [if_pos (by decide)]
 refine Vaz (VaA ?_)
 simp only [Bool.not_true,Vbu,Vba]
 refine Vaz (Vby ho hd ?_)
 refine Vaz ?_
 rw [←VbW]
 refine wpAny_forIn_list _ (fun rest r s'=>r.1=none∧s'=s∧∀v∈rest,∃i t,v=Value.int i t) _ ?_ ?_ _ _ ⟨rfl,rfl,hint⟩
 ·rintro v rest r s' ⟨hr,rfl,hall⟩
  obtain ⟨i,t,rfl⟩:=hall v Vao
  refine Vaz (VaA ?_)
  simp only [Vbu,Vba]
  exact VaA ⟨rfl,rfl,fun u hu'=>hall u (Vap _ hu')⟩
 ·rintro ⟨r1,r2⟩ s' ⟨hr,rfl,_⟩
  simp only at hr
  subst hr
  exact VaA h
theorem Zpx{x:Addr}{ks:List Int}{stored:List Value}{Q:Bool→Shared→Prop}(hx:IsTupleKey (intKind prog w) s.heap ks x)(hs:∀y∈stored,∃b ks',y=Value.ref b∧IsTupleKey (intKind prog w) s.heap ks' b)(h:Q false s) :
  wpAny (model prog w) A (searchCouldBeSeen (.ref x) stored) Q E s:=by
 unfold searchCouldBeSeen
 refine Vaz ?_
 refine wpAny_forIn_list _ (fun rest r s'=>r.1=none∧s'=s∧∀v∈rest,∃b ks',v=Value.ref b∧IsTupleKey (intKind prog w) s.heap ks' b) _ ?_ ?_ _ _ ⟨rfl,rfl,hs⟩
 ·rintro v rest r s' ⟨hr,rfl,hall⟩
  obtain ⟨b,ks',rfl,hb⟩:=hall v Vao
  dsimp only
  split
  ·exact VaA ⟨rfl,rfl,fun u hu'=>hall u (Vap _ hu')⟩
  ·refine Vaz (wpAny_eqIsQuiet_tuple hx ?_)
   simp only [Bool.not_true,Vbu,Vba]
   refine Vaz (wpAny_eqIsQuiet_tuple hb ?_)
   simp only [Bool.not_true,Vbu,Vba]
   refine Vaz (ZhF hx ?_)
   simp only [Vbu,Vba]
   refine Vaz (ZhF hb ?_)
   simp only [Vbu,Vba]
   exact VaA ⟨rfl,rfl,fun u hu'=>hall u (Vap _ hu')⟩
 ·rintro ⟨r1,r2⟩ s' ⟨hr,rfl,_⟩
  simp only at hr
  subst hr
  exact VaA h
theorem Zkc{a:Addr}{ks:List Int}{Q:Bool→Shared→Prop}(hk:IsTupleKey (intKind prog w) s.heap ks a)(h:Q true s):wpAny (model prog w) A (hashByValue 8 (.ref a)) Q E s:=by
 have hT:=hk.typeIs
 obtain ⟨o,items,n,ho,hc,hd,hi⟩:=hk
 have hint:=items_int hi
 unfold hashByValue
 refine Vaz (wpAny_specialOf hT F.slot_tuple_hash.lookup ?_)
 dsimp only
 refine Vaz (Vby ho hd ?_)
 refine Vaz ?_
 show wpAny _ _ (forIn items _ _) _ _ s
 rw [←VbW]
 refine wpAny_forIn_list _ (fun rest r s'=>r.1=none∧s'=s∧∀v∈rest,∃i t,v=Value.int i t) _ ?_ ?_ _ _ ⟨rfl,rfl,hint⟩
 ·rintro v rest r s' ⟨hr,rfl,hall⟩
  obtain ⟨i,t,rfl⟩:=hall v Vao
  refine Vaz (VaA ?_)
  simp only [Bool.not_true,Vbu,Vba]
  exact VaA ⟨rfl,rfl,fun u hu'=>hall u (Vap _ hu')⟩
 ·rintro ⟨r1,r2⟩ s' ⟨hr,rfl,_⟩
  simp only at hr
  subst hr
  exact VaA h
end
section
variable{prog:Program}{w:World}{A:Around}{E:Value→Shared→Prop}{s:Shared}
def El(prog:Program)(w:World)(h:Heap)(p:Int×Value)(ks:List Int):Prop:=∃x:Addr,p.2=.ref x∧IsTupleKey (intKind prog w) h ks x∧p.1=tupleKeyHash (intKind prog w) ks
theorem El.inj{h:Heap}{p:Int×Value}{a b:List Int}(ha:El prog w h p a)(hb:El prog w h p b):a=b:=by
 obtain ⟨x,e,hx,_⟩:=ha
 obtain ⟨y,e',hy,_⟩:=hb
 rw [e] at e'
 cases e'
 exact hx.inj hy
theorem Tb.fits{t:SetTable}{es:Array (Int×Value)}{l:List En}(T:Tb t es l)(hl:l.length≤t.mask):t.fits es.size=true:=by
 unfold SetTable.fits SetTable.fill
 rw [T.du,T.size,T.esize]
 simp
 exact hl
theorem Tb.odd{t:SetTable}{es:Array (Int×Value)}{l:List En}(T:Tb t es l):t.gaveWay=false:=by
 unfold SetTable.gaveWay
 rcases T.ms with e | e<;>rw [e]<;>rfl
theorem Zs9{t:SetTable}{es:Array (Int×Value)}{l:List En}(T:Tb t es l):HAt l (fun i=>(es[i]?.map (·.1)).getD 0):=fun i e h=>by
 show ((es[i]?.map (·.1)).getD 0)=_
 rw [←Array.getElem?_toList,T.el,Va5,h]
 rfl
theorem ZlM{a x:Addr}{es:Array (Int×Value)}{ep:Nat}{t:SetTable}{o:Obj}{l:List En}{ks:List Int}(hu:A.units<cLine)(ho:s.heap.get? a=some o)(hd:o.data=.set es ep t)(T:Tb t es l)(hl:l.length≤t.mask)
  (hel:∀e∈l,∃ks',El prog w s.heap e.2 ks') (hx:IsTupleKey (intKind prog w) s.heap ks x) {R:SetFound→Shared→Prop} :
  ∀(n fuel:Nat) (stand:Option Probe),n<fuel→n≤10*(13+t.mask)→(stand.getD (t.probeStart (tupleKeyHash (intKind prog w) ks))).dummy=none→Zdw t.mask (Occ l) n (stand.getD (t.probeStart (tupleKeyHash (intKind prog w) ks))) →
   ((∃e∈l,El prog w s.heap e.2 ks∧Rch t.mask (Occ l) (stand.getD (t.probeStart (tupleKeyHash (intKind prog w) ks))) e.1)∧R (.there none) s)∨((∀e∈l,¬El prog w s.heap e.2 ks)∧∀j,¬Occ l j→Rch t.mask (Occ l) (stand.getD (t.probeStart (tupleKeyHash (intKind prog w) ks))) j→R (.free j false) s) →
   wpAny (model prog w) A (setSearchFrom a (.ref x) (tupleKeyHash (intKind prog w) ks) true fuel stand) R E s:=by
 intro n
 induction n using Nat.strongRecOn with
 | ind n ih =>
  intro fuel stand hf hn hdm hE hR
  obtain ⟨fuel,rfl⟩ : ∃k,fuel=k+1:=⟨fuel - 1,by omega⟩
  unfold setSearchFrom
  refine Vaz (Vcb ho hd (T.fits hl) ?_)
  dsimp only
  rw [T.odd]
  simp only [Vbu,Vba]
  generalize hp:stand.getD (t.probeStart (tupleKeyHash (intKind prog w) ks))=p at *
  rcases Zfx (h:=tupleKeyHash (intKind prog w) ks) T (Zs9 T) n (10*turns t.mask) p hdm hE (by unfold turns;omega) with ⟨j,e1,e2,e3,e4⟩ | ⟨i,e,p',n',e1,e2,e3,e4,e5,e6,e7,e8,e9⟩
  ·generalize hm:t.probe _ (tupleKeyHash (intKind prog w) ks) p=met
   have hm':met=some (.empty j none):=hm.symm.trans e1
   subst hm'
   dsimp only
   refine VaA ?_
   rcases hR with ⟨⟨e,he,hel',hr⟩,_⟩ | ⟨_,hR⟩
   ·obtain ⟨_,_,_,hh⟩:=hel'
    exact absurd hr (e4 e he hh)
   ·exact hR j e2 e3
  ·generalize hm:t.probe _ (tupleKeyHash (intKind prog w) ks) p=met
   have hm':met=some (.candidate e.1 i (adv t.mask p')):=hm.symm.trans e1
   subst hm'
   dsimp only
   have hmem:e∈l:=Va6 e2
   obtain ⟨ks',y,ey,hy,hyh⟩:=hel e hmem
   have hes:es[i]?=some e.2:=by rw [←Array.getElem?_toList,T.el,Va5,e2];rfl
   have hes':es[i]?=some (e.2.1,Value.ref y):=by rw [hes,←ey]
   have hnext:∀stand':Option Probe,stand'.getD (t.probeStart (tupleKeyHash (intKind prog w) ks))=adv t.mask p'→¬ks'=ks→wpAny (model prog w) A (setSearchFrom a (.ref x) (tupleKeyHash (intKind prog w) ks) true fuel stand') R E s:=fun stand' hst hne=>by
    refine ih n' e6 fuel stand' (by omega) (by omega) ?_ ?_ ?_
    ·rw [hst];unfold adv;split<;>exact e5
    ·rw [hst];exact e7
    ·rw [hst]
     rcases hR with ⟨⟨e',he',hel',hr⟩,hq⟩ | ⟨hno,hR⟩
     ·left
      refine ⟨⟨e',he',hel',e9 e' he' hel'.choose_spec.2.2 (fun z=>?_) hr⟩,hq⟩
      subst z
      exact hne (El.inj ⟨y,ey,hy,hyh⟩ hel')
     ·exact .inr ⟨hno,fun j hj hr=>hR j hj (e8 j hr)⟩
   have hthere:ks'=ks→R (.there none) s:=fun hk=>by
    subst hk
    rcases hR with ⟨_,hq⟩ | ⟨hno,_⟩
    ·exact hq
    ·exact absurd ⟨y,ey,hy,hyh⟩ (hno e hmem)
   rw [hes']
   dsimp only
   have hst:∀y∈List.map (fun x=>x.2) (Array.filter (fun x=>x.1==tupleKeyHash (intKind prog w) ks) es).toList,∃b ks',y=Value.ref b∧IsTupleKey (intKind prog w) s.heap ks' b:=fun y hy=>by
    obtain ⟨q,hq,rfl⟩:=Vbs.mp hy
    rw [Array.toList_filter] at hq
    have hq:=(Vai.mp hq).1
    rw [T.el] at hq
    obtain ⟨e',he',rfl⟩:=Vbs.mp hq
    obtain ⟨k2,y2,h1,h2,_⟩:=hel e' he'
    exact ⟨y2,k2,h1,h2⟩
   have hsm:t.sameMemory t.moves t.mask=some true:=by unfold SetTable.sameMemory;simp
   cases hled:t.led
   all_goals simp only [Bool.not_false,Bool.not_true,Vbu,Vba,Vbb]
   ·refine Vaz (Zpx hx hst ?_)
    simp only [Vbu,Vba]
    refine Vaz (Vbe (wpAny_eqBool_tuple hu hy hx ?_))
    refine Vaz (Vcb ho hd (T.fits hl) ?_)
    dsimp only
    by_cases hk:ks'=ks
    ·rw [Vbm hk]
     simp only [Bool.and_true,Vbb]
     exact VaA (hthere hk)
    ·rw [Vac hk]
     simp only [Bool.and_false,Vbu,Vba]
     rw [hsm]
     dsimp only
     simp only [Vbb]
     rw [T.live e2]
     dsimp only
     rw [hes']
     dsimp only
     refine wpAny_bind (wpAny_of_eq (show isSame (.ref y) (.ref y)=pure true by unfold isSame;simp) ?_)
     refine Vaz (VaA ?_)
     exact hnext (some _) rfl hk
   ·refine Vaz (Vbe (wpAny_eqBool_tuple hu hy hx ?_))
    refine Vaz (Vcb ho hd (T.fits hl) ?_)
    dsimp only
    by_cases hk:ks'=ks
    ·rw [Vbm hk]
     simp only [Bool.and_true,Vbb]
     exact VaA (hthere hk)
    ·rw [Vac hk]
     simp only [Bool.and_false,Vbu,Vba]
     rw [hsm]
     dsimp only
     simp only [Vbb]
     rw [T.live e2]
     dsimp only
     rw [hes']
     dsimp only
     refine wpAny_bind (wpAny_of_eq (show isSame (.ref y) (.ref y)=pure true by unfold isSame;simp) ?_)
     refine Vaz (VaA ?_)
     exact hnext (some _) rfl hk
end
section
variable{prog:Program}{w:World}{A:Around}{E:Value→Shared→Prop}{s:Shared}
def SetT(prog:Program)(w:World)(h:Heap)(a:Addr)(kss:List (List Int)):Prop:=∃o es ep t l,h.get? a=some o∧o.ExactSet∧o.data=.set es ep t∧Tb t es l∧(t.mask=7→l.length≤4)∧l.length≤16 ∧
 (∀e∈l,∃ks∈kss,El prog w h e.2 ks)∧(∀ks∈kss,∃e∈l,El prog w h e.2 ks)∧l.length=kss.length
theorem El.keeps{h h':Heap}{a:Addr}{p:Int×Value}{ks:List Int}{o:Obj}{es:Array (Int×Value)}{ep:Nat}{t:SetTable}(x:El prog w h p ks)(ho:h.get? a=some o)(hd:o.data=.set es ep t)(hs:Heap.SameBut a h h'):El prog w h' p ks:=by
 obtain ⟨x,e,⟨o',items,n,ho',hc,hd',hi⟩,hh⟩:=x
 have hne:x≠a:=by
  rintro rfl
  obtain rfl:o'=o:=Vav (ho'.symm.trans ho)
  rw [hd] at hd';exact nomatch hd'
 exact ⟨x,e,⟨o',items,n,(hs.2 x hne).trans ho',hc,hd',hi⟩,hh⟩
theorem ZsI{m:Nat}{occ:Nat→Prop}{p:Probe}{j:Nat}(r:Rch m occ p j):p.j+p.more≤m→j≤m:=by
 induction r with
 | here p=>exact fun h=>by omega
 | @next p j _ _ ih =>
  intro h
  refine ih ?_
  unfold adv
  split
  ·simp only []
   omega
  ·have hi:(leap m p.i p.perturb).1≤m:=by
    unfold leap
    have:=Vb2 (p.i*5+1+p.perturb/32) (show 0<m+1 by omega)
    simp only []
    omega
   have:=ZfK hi
   simp only []
   omega
theorem ZnB(t:SetTable)(j:Nat):(t.put j).1.mask=t.mask∧(t.put j).1.plain=t.plain:=⟨rfl,rfl⟩
theorem Zt0{a x:Addr}{ks:List Int}{kss:List (List Int)}{Q:Bool→Shared→Prop}(hu:A.units<cLine)(hS:SetT prog w s.heap a kss)(hx:IsTupleKey (intKind prog w) s.heap ks x)(hn:kss.length+1≤16)
  (h:∀b h',Heap.SameBut a s.heap h'→SetT prog w h' a (if ks∈kss then kss else kss++[ks])→Q b { s with heap:=h' }) :
  wpAny (model prog w) A (setAddHashed a (.ref x) (tupleKeyHash (intKind prog w) ks)) Q E s:=by
 obtain ⟨o,es,ep,t,l,ho,hex,hd,T,h7,h16,hl1,hl2,hlen⟩:=hS
 have hmk:l.length≤t.mask:=by rcases T.ms with e | e<;>rw [e]<;>omega
 have hm0:7≤t.mask:=by rcases T.ms with e | e<;>omega
 unfold setAddHashed setAddHashedIn
 refine Vbe (Vaz (Vcb ho hd (T.fits hmk) ?_))
 dsimp only
 rw [show byScan (.ref x) es=false from rfl]
 simp only [Vbu,Vba]
 obtain ⟨e,he,hf⟩:=ZhG (m:=t.mask) (js:=l.map (·.1)) (by rw [VaQ];exact hmk)
 have hE:Zdw t.mask (Occ l) (10*(13+t.mask)) (t.probeStart (tupleKeyHash (intKind prog w) ks)):=by
  rw [Zof]
  exact ends T.ms (by have:=Vb2 (bits (tupleKeyHash (intKind prog w) ks)) (show 0<t.mask+1 by omega);omega) (ZlL _) he fun ⟨e',he',q⟩=>hf (Vbs.mpr ⟨e',he',q⟩)
 have hb:10*(13+t.mask)<100000:=by rcases T.ms with e | e<;>rw [e]<;>decide
 refine Vaz (show wpAny _ _ (setSearchFrom a (.ref x) (tupleKeyHash (intKind prog w) ks) true 100000 none) _ _ _ from ZlM hu ho hd T hmk (fun e he=>let ⟨k,_,q⟩:=hl1 e he;⟨k,q⟩) hx (10*(13+t.mask)) 100000 none hb (VaI _) rfl hE ?_)
 by_cases hk:ks∈kss
 ·left
  obtain ⟨e,he,hel⟩:=hl2 ks hk
  refine ⟨⟨e,he,hel,?_⟩,?_⟩
  ·have:=T.rc e he
   rw [hel.choose_spec.2.2] at this
   exact this
  ·refine VaA ?_
   have:=h false s.heap (Heap.SameBut.refl a s.heap) (by rw [if_pos hk];exact ⟨o,es,ep,t,l,ho,hex,hd,T,h7,h16,hl1,hl2,hlen⟩)
   exact this
 ·right
  refine ⟨fun e he hel=>?_,fun j hj hr=>?_⟩
  ·obtain ⟨ks',hk',q⟩:=hl1 e he
   have:=El.inj hel q
   subst this
   exact hk hk'
  ·dsimp only
   refine Vaz (Vcb ho hd (T.fits hmk) ?_)
   dsimp only
   have hjm:j≤t.mask:=by
    have hi:bits (tupleKeyHash (intKind prog w) ks)%(t.mask+1)≤t.mask:=by
     have:=Vb2 (bits (tupleKeyHash (intKind prog w) ks)) (show 0<t.mask+1 by omega)
     omega
    refine ZsI hr ?_
    show bits (tupleKeyHash (intKind prog w) ks)%(t.mask+1)+(runEnd t.mask (bits (tupleKeyHash (intKind prog w) ks)%(t.mask+1)) - bits (tupleKeyHash (intKind prog w) ks)%(t.mask+1))≤t.mask
    have:=ZfK hi
    omega
   obtain ⟨l',hp,T'⟩:=T.put (x:=.ref x) hjm hj hr
   obtain ⟨em,epl⟩:=ZnB t j
   generalize ht':(t.put j).1=t' at T' em epl ⊢
   generalize hes':insertAt es (t.put j).2 (tupleKeyHash (intKind prog w) ks,Value.ref x)=es' at T' ⊢
   have ll':l'.length=l.length+1:=by rw [hp.length_eq];rfl
   have hmk':l'.length≤t'.mask:=by rw [em,ll'];rcases T.ms with e | e<;>rw [e]<;>omega
   have cont:wpAny (model prog w) A (do
     storeSet a es' t'
     if (!false&&t'.tooFull)=true then do
      setRelay a (grown (es.size+1))
      pure true
     else pure true) Q E s:=by
    have hg:(s.heap.update a (Obj.putSet es' t')).get? a=some { o with data:=.set es' (ep+1) t' }:=by
     have:=VbB (Obj.putSet es' t') ho (by rw [putSet_of es' t' hd];rfl)
     rw [putSet_of es' t' hd] at this;exact this
    have hsb:=VbA s.heap a (Obj.putSet es' t')
    have hx1:El prog w (s.heap.update a (Obj.putSet es' t')) (tupleKeyHash (intKind prog w) ks,Value.ref x) ks:=El.keeps ⟨x,rfl,hx,rfl⟩ ho hd hsb
    have g1:∀e∈l',∃k∈kss++[ks],El prog w (s.heap.update a (Obj.putSet es' t')) e.2 k:=fun e he=>by
     rcases Var.mp (hp.mem_iff.mp he) with rfl | he
     ·exact ⟨ks,by simp,hx1⟩
     ·obtain ⟨k,h1,h2⟩:=hl1 e he
      exact ⟨k,Vat _ h1,h2.keeps ho hd hsb⟩
    have g2:∀k∈kss++[ks],∃e∈l',El prog w (s.heap.update a (Obj.putSet es' t')) e.2 k:=fun k hk'=>by
     rcases Vas.mp hk' with hk' | hk'
     ·obtain ⟨e,h1,h2⟩:=hl2 k hk'
      exact ⟨e,hp.mem_iff.mpr (Vap _ h1),h2.keeps ho hd hsb⟩
     ·rw [Vca] at hk'
      subst hk'
      exact ⟨_,hp.mem_iff.mpr Vao,hx1⟩
    have hz:es'.size≤sizeLine:=by rw [T'.esize,ll',sizeLine_eq];omega
    refine Vaz (wpAny_storeSet_of ho hd ?_ hz)
    have hfill:t'.fill=l'.length:=by unfold SetTable.fill;rw [T'.du,T'.size];rfl
    by_cases hfull:t'.tooFull=true
    ·rw [hfull]
     simp only [Bool.not_false,Bool.and_true,Vbb]
     unfold SetTable.tooFull at hfull
     rw [hfill,em,ll'] at hfull
     have hfull:=of_decide_eq_true hfull
     have e7:t.mask=7:=by
      rcases T.ms with e | e
      ·exact e
      ·rw [e] at hfull;omega
     have h4:=h7 e7
     rw [e7] at hfull
     have e4:l.length=4:=by omega
     have ew:es.size+1=5:=by rw [T.esize,e4]
     rw [ew]
     obtain ⟨t2,order,l2,r1,r2,r3,r4,T2,hp2⟩:=T'.relay (by omega) (wanted:=grown 5) (by decide)
     have hmap:∀e∈l2,∃e'∈l',e'.2=e.2:=fun e he=>by
      have:=hp2.mem_iff.mp (Vbs.mpr ⟨e,he,rfl⟩)
      obtain ⟨e',h1,h2⟩:=Vbs.mp this
      exact ⟨e',h1,h2⟩
     have hmap':∀e∈l',∃e'∈l2,e'.2=e.2:=fun e he=>by
      have:=hp2.mem_iff.mpr (Vbs.mpr ⟨e,he,rfl⟩)
      obtain ⟨e',h1,h2⟩:=Vbs.mp this
      exact ⟨e',h1,h2⟩
     have ll2:l2.length=l'.length:=by have:=hp2.length_eq;simpa using this
     refine Vaz ?_
     unfold setRelay
     refine Vaz (Vcb hg rfl (T'.fits hmk') ?_)
     dsimp only
     rw [if_neg (by decide),r1]
     refine Vaz ?_
     have hsz:(order.filterMap (es'[·]?)).size=es'.size:=by rw [T2.esize,ll2,T'.esize]
     show wpAny (model prog w) A (if ((order.filterMap (es'[·]?)).size != es'.size)=true then _ else _) _ _ _
     rw [if_neg (by rw [hsz];simp)]
     refine VaA ?_
     dsimp only
     have hg2:((s.heap.update a (Obj.putSet es' t')).update a (Obj.putSet (order.filterMap (es'[·]?)) t2)).get? a=some { o with data:=.set (order.filterMap (es'[·]?)) (ep+1+1) t2 }:=by
      have:=VbB (Obj.putSet (order.filterMap (es'[·]?)) t2) hg (by rw [putSet_of _ t2 rfl];rfl)
      rw [putSet_of _ t2 rfl] at this;exact this
     have hsb2:=VbA (s.heap.update a (Obj.putSet es' t')) a (Obj.putSet (order.filterMap (es'[·]?)) t2)
     refine wpAny_storeSet_of hg rfl ?_ (by rw [hsz];exact hz)
     refine VaA (h true _ (hsb.trans hsb2) ?_)
     rw [if_neg hk]
     refine ⟨_,_,_,t2,l2,hg2,hex,rfl,T2,fun z=>by rw [r2] at z;omega,by omega,fun e he=>?_,fun k hk'=>?_,by rw [ll2,ll',hlen];simp⟩
     ·obtain ⟨e',h1,h2⟩:=hmap e he
      obtain ⟨k,h3,h4⟩:=g1 e' h1
      rw [h2] at h4
      exact ⟨k,h3,h4.keeps hg rfl hsb2⟩
     ·obtain ⟨e,h1,h2⟩:=g2 k hk'
      obtain ⟨e',h3,h4⟩:=hmap' e h1
      rw [←h4] at h2
      exact ⟨e',h3,h2.keeps hg rfl hsb2⟩
    ·rw [Bool.eq_false_iff.mpr hfull]
     simp only [Bool.not_false,Bool.and_false,Vbu,Vba]
     refine VaA (h true _ hsb ?_)
     rw [if_neg hk]
     refine ⟨_,es',ep+1,t',l',hg,hex,rfl,T',fun z=>?_,by omega,g1,g2,by rw [ll',hlen];simp⟩
     unfold SetTable.tooFull at hfull
     rw [hfill,z] at hfull
     have:=of_decide_eq_false (Bool.eq_false_iff.mpr hfull)
     omega
   split
   ·refine Vaz (Zkc hx ?_)
    simp only [Vbb]
    exact cont
   ·refine Vaz (VaA ?_)
    simp only [Vbb]
    exact cont
end
end L2.Sx
namespace L2.Sx
open PySem PySem.SetTable PyProof.Rows
open Dl (firsts)
theorem Zde(kf:Nat→List Int):∀i,(firsts kf i).length≤i
 | 0=>VaI _
 | i+1=>by
  have:=Zde kf i
  unfold firsts
  split
  ·omega
  ·simp;omega
section
variable{prog:Program}{w:World}{A:Around}{R:Result→Shared→Prop}{I:Addr}{fp wr:List Addr}{G:Array GenState→Array GenState→Prop}{n:Nat}{P:Nat→Value→Prop}{St:Nat→Shared→Prop}
theorem SetT.keep{h h':Heap}{a:Addr}{kss:List (List Int)}(hS:SetT prog w h a kss)(ha:∀o,h.get? a=some o→h'.get? a=some o)(hk:∀b o,h.get? b=some o→o.cls=.type "tuple"→h'.get? b=some o):SetT prog w h' a kss:=by
 obtain ⟨o,es,ep,t,l,ho,hex,hd,T,h7,h16,hl1,hl2,hlen⟩:=hS
 have up:∀{e ks},El prog w h e ks→El prog w h' e ks:=fun {e ks} hel=>by
  obtain ⟨x,e1,⟨o',items,n,ho',hc,r⟩,hh⟩:=hel
  exact ⟨x,e1,⟨o',items,n,hk x o' ho' hc,hc,r⟩,hh⟩
 exact ⟨o,es,ep,t,l,ha o ho,hex,hd,T,h7,h16,fun e he=>let ⟨k,h1,h2⟩:=hl1 e he;⟨k,h1,up h2⟩,fun k hk'=>let ⟨e,h1,h2⟩:=hl2 k hk';⟨e,h1,up h2⟩,hlen⟩
theorem SetT.cls{h:Heap}{a:Addr}{kss:List (List Int)}(hS:SetT prog w h a kss):∀o,h.get? a=some o→o.cls≠.type "tuple" := fun o' ho' hc=>by
 obtain ⟨o,es,ep,t,l,ho,hex,_⟩:=hS
 rw [ho] at ho'
 cases ho'
 rw [hex.1] at hc
 exact absurd hc (by decide)
theorem Zrv(W:WalksS prog w A.in1 I fp wr G n P St)(S:Addr)(hSf:S∉fp)(hwr:∀i s,St i s→∀b∈wr,∀o,s.heap.get? b=some o→o.cls≠.type "tuple")(kf:Nat→List Int)(hu:A.in1.units<cLine)(h0:Heap)
  (hval:∀i v,P i v→∃x,v=.ref x∧IsTupleKey (intKind prog w) h0 (kf i) x) (hb:n≤16) :
  ∀(k i:Nat) (s:Shared),n - i=k→i≤n→St i s→SetT prog w s.heap S (firsts kf i)→(∀b o,h0.get? b=some o→o.cls=.type "tuple"→s.heap.get? b=some o) →
   (∀s',Moved (S::wr) G s s'→SetT prog w s'.heap S (firsts kf n)→R (.ok (.ret .none)) s')→codeAny (model prog w) A (.builtin "set.update.loop" ⟨[.ref S,.ref I],[]⟩) R s:=by
 have hSw:S∉wr:=fun h=>hSf (W.sub _ h)
 have hsub:∀b∈wr,b∈S::wr:=fun b hb=>Vap _ hb
 have mv:∀{i s s'},St i s→Moved wr G s s'→∀b o,s.heap.get? b=some o→o.cls=.type "tuple"→s'.heap.get? b=some o:=fun {i s s'} st m b o e hc=>m.heap b o (fun z=>hwr i s st b z o e hc) e
 intro k
 induction k with
 | zero =>
  intro i s hk hi hst hS _ hR
  obtain rfl:i=n:=by omega
  refine VbX F.entry_set_update_loop ?_
  rw [VbY F.plain_set_update_loop _]
  show wpAny _ A.in1 (pyNext (.ref I) >>= _) _ _ s
  refine Vaz (W.done s _ _ hst fun s' hm=>?_)
  show wpAny _ A.in1 (ret Value.none) _ _ s'
  exact VaA (hR s' (hm.mono hsub) (hS.keep (fun o e=>hm.heap S o hSw e) (mv hst hm)))
 | succ k ih =>
  intro i s hk hi hst hS h0s hR
  have hlt:i<n:=by omega
  refine VbX F.entry_set_update_loop ?_
  rw [VbY F.plain_set_update_loop _]
  show wpAny _ A.in1 (pyNext (.ref I) >>= _) _ _ s
  refine Vaz (W.item i s _ _ hlt hst fun v s' hP hst' hm=>?_)
  obtain ⟨x,rfl,hx0⟩:=hval i v hP
  have hS':=hS.keep (fun o e=>hm.heap S o hSw e) (mv hst hm)
  have h0s':∀b o,h0.get? b=some o→o.cls=.type "tuple"→s'.heap.get? b=some o:=fun b o e hc=>mv hst hm b o (h0s b o e hc) hc
  have hx:IsTupleKey (intKind prog w) s'.heap (kf i) x:=by
   obtain ⟨o,items,m,ho,hc,r⟩:=hx0
   exact ⟨o,items,m,h0s' x o ho hc,hc,r⟩
  show wpAny _ A.in1 (holding [Value.ref x] (setAdd S (.ref x)) >>= _) _ _ s'
  refine Vaz (Vbe ?_)
  unfold setAdd
  refine Vbe ?_
  refine Vaz (wpAny_pyHash_tuple hu hx ?_)
  refine Zt0 (s:={ s' with toks:=s'.toks+((kf i).length+1) }) hu hS' hx (by have:=Zde kf i;omega) fun b h' hsb hS2=>?_
  have tk:∀b o,s'.heap.get? b=some o→o.cls=.type "tuple"→h'.get? b=some o:=fun b o e hc=>by
   rw [hsb.2 b (fun z:b=S=>by subst z;exact hS'.cls o e hc)];exact e
  refine VaA ⟨plainId_quiet F.plain_set_update_loop _,ih (i+1) _ (by omega) hlt (W.frame _ s' _ _ hst' (Nat.le_add_right _ _) fun b hb' o e=>?_) hS2 (fun b o e hc=>tk b o (h0s' b o e hc) hc) fun s'' hm'' hS''=>?_⟩
  ·rw [hsb.2 b (fun z:b=S=>hSf (by rw [←z];exact hb'))];exact e
  ·refine hR s'' (Moved.trans W.gtrans ((hm.mono hsub).then_heap (Nat.le_add_right _ _) fun b o hb' e=>?_) hm'') hS''
   rw [hsb.2 b (fun z:b=S=>hb' (by rw [z];exact Vao))];exact e
end
open Dl (firsts)
section
variable{prog:Program}{w:World}{A:Around}{E:Value→Shared→Prop}{s:Shared}
abbrev Zgh(led:Bool):Obj:={ cls:=.type "set", dict:=none,data:=.set #[] 0 (.fresh 0 0 led) }
theorem Znf{h:Heap}{a:Addr}{led:Bool}(ho:h.get? a=some (Zgh led)):SetT prog w h a [] :=
 ⟨_,#[],0,.fresh 0 0 led,[],ho,⟨rfl,rfl,rfl⟩,rfl,⟨.inl rfl,rfl,rfl,rfl,.nil,fun _ h=>(VbH h).elim,fun _ h=>(VbH h).elim⟩,fun _=>by decide,by decide,fun _ h=>(VbH h).elim,fun _ h=>(VbH h).elim,rfl⟩
set_option maxHeartbeats 8000000 in
theorem call_set{l:Addr}{items:Array Value}{kf:Nat→List Int}{Q:Value→Shared→Prop}(hh:A.handled=none)(hu:A.units+20<cLine)(hl:s.heap.IsList l items)(hi:∀i v,items[i]?=some v→∃x,v=.ref x∧IsTupleKey (intKind prog w) s.heap (kf i) x)(hb:items.size≤16)
  (h:∀(h':Heap) (tk:Nat),SetT prog w h' s.heap.objs.size (firsts kf items.size)→(∀b o,b<s.heap.objs.size→s.heap.get? b=some o→h'.get? b=some o)→Q (.ref s.heap.objs.size) { s with heap:=h',toks:=tk }) :
  wpAny (model prog w) A (call (.type "set") [.ref l]) Q E s:=by
 obtain ⟨c,tl,hmro⟩:=F.called_set.mro
 have hmade:=F.called_set.made
 have hsub:=F.called_set.sub
 refine wpAny_call (codeAny_of_tree ?_)
 show wpAny _ _ (callAny (.type "set") _) _ _ _
 refine VaA ⟨Code.quiet_builtin _ (by decide +kernel),VbX F.entry_type_call ?_⟩
 rw [Around.under_plain (weight_type_call_type "set" [.ref l] []) rfl]
 have h1:=F.called_set.notType
 have h2:=F.called_set.canCreate
 have hct:=F.typeCall_set_1 (.ref l)
 repeat (any_goals (first | assumption | wp_step))
 refine VaW (code_set_new_1 (.ref l) (E:=E) (Q₁:=fun obj s₁=>∃led:Bool,obj=.ref s.heap.objs.size∧s₁={ s with heap:=s.heap.push (Zgh led) }) fun led=>⟨led,rfl,rfl⟩) fun r s₁ hr=>?_
 cases r with
 | error e=>exact hr
 | ok fl =>
  cases fl with
  | next=>exact hr.elim
  | brk=>exact hr.elim
  | cont=>exact hr.elim
  | ret obj =>
   obtain ⟨led,rfl,rfl⟩:=hr
   have hS:(s.heap.push (Zgh led)).get? s.heap.objs.size=some (Zgh led):=VaH _ rfl
   have hT:Shared.TypeIs { s with heap:=s.heap.push (Zgh led) } (.ref s.heap.objs.size) "set" := ⟨_,hS,rfl⟩
   have hli:=F.called_set.init.lookup
   have hbi:=F.called_set.init.bind (.ref s.heap.objs.size)
   repeat (any_goals (first | assumption | wp_step))
   refine VaW (codeAny_call_builtin (R:=wants (fun r s₂=>r=.none∧∃h' tk,s₂={ s with heap:=h',toks:=tk }∧SetT prog w h' s.heap.objs.size (firsts kf items.size) ∧
     (∀b o,b<s.heap.objs.size→s.heap.get? b=some o→h'.get? b=some o)) E) F.called_set.init.plain F.entry_set_init (check_set_init_1 hT ?_)) fun r₂ s₂ hr₂=>?_
   ·obtain ⟨ol,hol,hcl,nl,hdl⟩:=hl
    obtain ⟨ocls,odict,odata,oslots⟩:=ol
    simp only at hcl hdl
    subst hcl;subst hdl
    have hol':(s.heap.push (Zgh led)).get? l=some { cls:=.type "list", dict:=odict,data:=.seq items nl,slots:=oslots }:=VaC _ hol
    have hsls:=F.sub_list_set
    have hslf:=F.sub_list_frozenset
    have hne:(Value.type "list"==Value.type "dict")=false:=by decide
    have hl1:(s.heap.push (Zgh led)).IsList l items:=⟨_,hol',rfl,nl,rfl⟩
    unfold Builtin.«set.__init__» noKeywords Builtin.Frozenset.updateFrom
    generalize hPI:pyIter=PI
    wp_walk
    subst hPI
    refine Vbv hl1 ?_
    refine Vaz (wpAny_runValue ?_)
    have hlS:l<s.heap.objs.size:=Vae hol
    have hh3:A.in1.in1.in1.handled=none:=by simp [hh]
    have hneI:l≠(s.heap.push (Zgh led)).objs.size:=by
     rw [VaR];exact Vah (Nat.lt_succ_of_lt hlS)
    have hSf:s.heap.objs.size∉[(s.heap.push (Zgh led)).objs.size,l]:=by
     rw [VaR];simp only [Var,Vca,VbH,VbI,not_or]
     exact ⟨Vah (VaS _),VaG hlS⟩
    refine Zrv ((Walks.list hh3 _ l hneI items).toS) s.heap.objs.size hSf ?hw kf (by show A.units+1+1+1<cLine;omega) s.heap hi hb (items.size - 0) 0 _ (by omega) (VaT _)
     ⟨⟨_,VaH _ rfl,rfl,rfl⟩,(hl1.push _)⟩ ?hS0 ?hT0 ?hR
    case hw =>
     rintro i s' ⟨⟨o',ho',hc',_⟩,_⟩ b hb' o'' e' hc
     rw [Vca] at hb'
     subst hb'
     rw [ho'] at e'
     cases e'
     rw [hc'] at hc
     exact absurd hc (by decide)
    case hS0=>exact Znf (VaC _ hS)
    case hT0=>exact fun b o e _=>VaC _ (VaC _ e)
    case hR =>
     intro s' hm hS'
     obtain ⟨h',g',d',tk',os'⟩:=s'
     have eg:g'=s.gens:=hm.gens
     have ed:d'=s.drawn:=hm.drawn
     have eo:os'=s.os:=hm.os
     subst eg;subst ed;subst eo
     show wpAny _ _ _ _ _ _
     refine VaA ?_
     show wpAny _ _ (ret Value.none) _ _ _
     refine VaA ⟨rfl,h',tk',rfl,hS',fun b o hb' e=>?_⟩
     have hb1:b≠s.heap.objs.size:=Vah hb'
     have hb2:b≠(s.heap.push (Zgh led)).objs.size:=by
      rw [VaR];exact Vah (Nat.lt_succ_of_lt hb')
     exact hm.heap b o (by simp only [Var,Vca,VbH,VbI,not_or];exact ⟨hb1,hb2⟩) (VaC _ (VaC _ e))
   ·cases r₂ with
    | error e=>exact hr₂
    | ok fl₂ =>
     cases fl₂ with
     | next=>exact hr₂.elim
     | brk=>exact hr₂.elim
     | cont=>exact hr₂.elim
     | ret r =>
      obtain ⟨rfl,h',tk,rfl,hS',hk'⟩:=hr₂
      repeat (any_goals (first | assumption | wp_step))
      exact h _ _ hS' hk'
end
end L2.Sx
namespace L2
open PySem PySem.Spec PyProof.Rows
theorem ZsF:bootBuiltins "set"=some (.type "set"):=by decide +kernel
def SetN(o:Obj)(n:Nat):Prop:=o.ExactSet∧n≤16∧∃es ep t,o.data=.set es ep t∧t.fits es.size=true∧es.size=n
def ZrR(K:W.Frag)(H:Hp)(xs:List V)(kss:List (List Int)):Prop:=∀i x,xs[i]?=some x→∃a,x=.ref a∧SqT K H a ((kss.getD i []).map V.int)
def rSet(K:W.Frag):List V→Hp→VK→Prop:=fun vs H Q=>∃l xs kss,vs=[.ref l]∧SqL K H l xs∧ZrR K H xs kss∧xs.length≤16∧∀a o,H a=none→SetN o (Dl.firsts (fun i=>kss.getD i []) xs.length).length→Q (.ref a) (upd H a (objX a o))
def Zqd:List V→Hp→VK→Prop:=fun vs H Q=>∃a o n,vs=[.ref a]∧H a=some (objX a o)∧SetN o n∧Q (.int (n:Nat)) H
section
variable{X:Cx}{k:Nat}
theorem Ze3{prog:Program}{w:World}:∀{ns:List Int} {its:List Value},Vals (ns.map V.int) its→ItemsAre (intKind prog w) ns its
 | [],_,.nil=>.nil
 | n::r,_,.cons h t=>by
  obtain ⟨tk,rfl⟩:=h
  exact .cons (intKind_is _ _ _ _) (Ze3 t)
theorem Zlz:∀{xs:List V} {us:List Value},Vals xs us→∀{i:Nat} {u:Value},us[i]?=some u→∃x,xs[i]?=some x∧RelV x u
 | _,_,.cons h _,0,_,e=>⟨_,rfl,by cases e;exact h⟩
 | _,_,.cons _ t,i+1,_,e=>Zlz t (by simpa using e)
 | _,_,.nil,i,_,e=>by simp at e
theorem Zje:∀{xs:List V} {us:List Value},Vals xs us→us.length=xs.length
 | _,_,.nil=>rfl
 | _,_,.cons _ t=>by simp [Zje t]
theorem Zln(hr:Room k X.A):Zex X (.type "set") (rSet X.K):=by
 intro pins s σ H vs us Q I rv ⟨l,xs,kss,e,hl,hk,h16,hq⟩
 subst e
 cases rv with
 | cons r1 rr =>
  cases rr
  cases r1
  obtain ⟨its,r,⟨o,n,e1,e2,_,e3⟩,_⟩:=I.list hl
  have hlen:=Zje r
  refine L2.Sx.call_set (items:=its.toArray) (kf:=fun i=>kss.getD i []) hr.hd (by have:=hr.un;omega) ⟨o,e1,e2,n,e3⟩ (fun i v hv=>?_) (by simpa [hlen] using h16) fun h' tk hS hkeep=>?_
  ·obtain ⟨x,hx,rx⟩:=Zlz r (i:=i) (by simpa using hv)
   obtain ⟨a,rfl,hT⟩:=hk i x hx
   cases rx
   obtain ⟨is,ri,⟨o',p1,p2,m,p3⟩,_⟩:=I.tuple hT
   exact ⟨a,rfl,o',is.toArray,m,p1,p2,p3,by simpa using Ze3 ri⟩
  ·have kk:∀b u,s.heap.get? b=some u→h'.get? b=some u:=fun b u e=>hkeep b u (Vae e) e
   obtain ⟨o',es,ep,t,l',ho,hex,hd,T,h7,hl16,_,_,hln⟩:=hS
   have hmk:l'.length≤t.mask:=by rcases T.ms with e | e<;>rw [e]<;>omega
   have I':=I.laid (t':=tk) (o:=objX s.heap.objs.size o') kk (VaI _) (ZpO ho)
   refine ⟨.ref s.heap.objs.size,_,I',rfl,hq _ o' (I.hok.fresh (VaI _)) ⟨hex,?_,es,ep,t,hd,T.fits hmk,?_⟩⟩
   ·rw [←hlen];have e:=hln;rw [Va9] at e;omega
   ·rw [T.esize,hln,←hlen];simp
theorem ZlG:Zex X (.builtin "len") Zqd:=by
 intro pins s σ H vs us Q I rv ⟨a,o,n,e,hH,⟨hex,h16,es,ep,t,hd,hf,hn⟩,q⟩
 subst e
 cases rv with
 | cons r1 rr =>
  cases rr
  cases r1
  have ho:=Zoe I.hok hH
  refine call_len_set ho hex hd hf (by omega) ?_
  rw [hn]
  exact ⟨.int (n:Nat),H,I.tok _,⟨_,rfl⟩,q⟩
end
end L2
namespace L2.Ds
open PySem PySem.Spec PyProof.Rows Dl
section
variable{K:W.Frag}{mg:Str→Option Value}
theorem Zfe{F:Hp}:∀{xs:List V} {ds:List D} {ns:List Int},Rps K mg F xs ds→intsOf ds=some ns→xs=ns.map V.int
 | _,[],_,.nil,e=>by cases e;rfl
 | _,d::ds,ns,.cons h r,e=>by
  cases d with
  | int n =>
   cases q:intsOf ds with
   | none=>unfold intsOf at e;rw [q] at e;cases e
   | some ms =>
    unfold intsOf at e
    rw [q] at e
    cases e
    cases h
    rw [Zfe r q]
    rfl
  | _=>cases e
theorem Zjv{F H:Hp}(s:Same F H):∀{xs:List V} {ds:List D} {ks:List (List Int)},Rps K mg F xs ds→keysOf ds=some ks→ZrR K H xs ks
 | _,[],_,.nil,_=>fun i x h=>by simp at h
 | _,d::ds,ks,.cons h r,e=>by
  cases d with
  | tup es =>
   cases q:intsOf es with
   | none=>unfold keysOf at e;rw [q] at e;cases e
   | some k =>
    cases q2:keysOf ds with
    | none=>unfold keysOf at e;rw [q,q2] at e;cases e
    | some kr =>
     unfold keysOf at e
     rw [q,q2] at e
     cases e
     intro i x hx
     cases i with
     | zero =>
      cases hx
      cases h with
      | tup ht rt =>
       rw [Zfe rt q] at ht
       exact ⟨_,rfl,ZaF s ht⟩
     | succ i=>exact Zjv s r q2 i x (by simpa using hx)
  | _=>cases e
end
section
variable{X:Cx}{E:XK}{e:Expr}{te:TE}{me:ME}{k:Nat}{p p1 q p2:Pos}
theorem ZnJ(hr:Room k X.A)(hgl:Gl X "len")(hml:X.mg "len"=none)(hgs:Gl X "set")(hms:X.mg "set"=none)(he:DE X E e te me)(h1:starEach [e] X.env=[(false,eval e X.env)]:=by rfl)
  (h2:starEach [Expr.Call (.Name "set" q) [e] [] p2] X.env=[(false,eval (.Call (.Name "set" q) [e] [] p2) X.env)]:=by rfl) :
  DE X E (.Call (.Name "len" p) [.Call (.Name "set" q) [e] [] p2] [] p1) (tCB Zqd (Zb5 (tCB (rSet X.K) (Zb5 te tNil)) tNil)) (o1 ZgW me):=by
 refine ⟨Zjn ZlG hgl hml ZgH (Zb2 (Zh7 (Zln hr) hgs hms ZsF (Zb2 he.p ZeQ h1) (by decide) (by decide) h1 rfl) ZeQ h2) (by decide) (by decide) h2 rfl,?_⟩
 intro F0 H0 F H σ ρ rr
 refine (he.s F0 H0 F H σ ρ rr).bind fun F1 H1 x dx g1 rx=>?_
 show Ans X.mg E (Rp X.K X.mg) F1 H1 (ZgW dx) fun Q=>rSet X.K [x] H1 fun v H2=>Zqd [v] H2 Q
 cases dx with
 | lst ds =>
  cases rx with
  | lst hl rl =>
   rename_i l xs
   show Ans X.mg E (Rp X.K X.mg) F1 H1 (match keysOf ds with | some ks=>if ds.length≤16 then .ok (.int ((firsts (fun i=>ks.getD i []) ds.length).length:Nat)) else .bad | none=>.bad) _
   cases hk:keysOf ds with
   | none=>trivial
   | some ks =>
    by_cases h16:ds.length≤16
    ·show Ans X.mg E (Rp X.K X.mg) F1 H1 (if ds.length≤16 then .ok (.int ((firsts (fun i=>ks.getD i []) ds.length).length:Nat)) else .bad) _
     rw [if_pos h16]
     intro Q q
     refine ⟨_,_,ks,rfl,g1.s.seq hl,Zjv g1.s rl hk,by rw [rl.length];exact h16,fun a o hn hS=>⟨a,o,_,rfl,Zah,hS,?_⟩⟩
     rw [rl.length]
     exact q _ _ _ (.new g1.s hn _) (.int _)
    ·show Ans X.mg E (Rp X.K X.mg) F1 H1 (if ds.length≤16 then .ok (.int ((firsts (fun i=>ks.getD i []) ds.length).length:Nat)) else .bad) _
     rw [if_neg h16]
     trivial
 | _=>trivial
end
end L2.Ds
namespace Dl
open PySem
end Dl
namespace L2
open PySem PySem.Spec PyProof.Rows
structure FunD(K:W.Frag)(x qual:Str)(st:Stmt)(dV:Value)(f:Addr)(fd:FuncData):Prop where
 ex:∃(oc:Value) (od:Option Addr) (kV doc pm:Value) (an:Option Addr) (cdv ct:Value) (osl:Array (Option Value)),
  fd=W.fnOf x qual (Zch st) (Za8 st) (Zac st) dV kV doc pm an cdv ct∧K.lookup f=some ⟨oc,od,.func fd,osl⟩∧W.codeIn K cdv qual=true
end L2
namespace L2.Ds
open PySem PySem.Spec PyProof.Rows Dl
section
variable{P:Program}{w:World}{K:W.Frag}{mg:Str→Option Value}{base:Heap}{N ps:List Str}{x:Str}{f:Addr}{dV:Value}
theorem okDF{st:Stmt}{fd:FuncData}{k:Nat}{mb:MS}(F:FunD K x x st dV f fd)(S:Zae N ps (Zac st))
  (h:∀(cdv:Value) (A:Around) (outer:List Env) (s:Shared) (H:Hp) (E:XK),Room k (A.deeper (envOfC x (Zac st) s.heap.objs.size f cdv))→∃t,DSs (cxOf (CXR P w) P w K mg base N x (Zac st) f cdv A outer s H E) E (Za8 st) t mb) :
  FnOk P w K mg base (CXR P w) (k+1) f fd ps (spD K mg ps.length (fn N.length mb)):=by
 obtain ⟨oc,od,kV,doc,pm,an,cdv,ct,osl,rfl,lk,hcd⟩:=F.ex
 refine Zm4 lk hcd S (fun vs H Q E q=>q.1) fun A outer s H vs Q E hr hsp=>?_
 obtain ⟨t,hd⟩:=h cdv A outer s H E hr
 refine ⟨t,hd.p,?_⟩
 obtain ⟨_,F0,ds,s0,rs,hb,hok,hex⟩:=hsp
 have z:=hd.s F0 H F0 H (start N vs) (ev0 N.length ds) (ZfI s0 rs)
 unfold fn at hb hok hex
 cases e:mb (ev0 N.length ds) with
 | ok fl =>
  rw [e] at z hb hok hex
  cases fl with
  | nx ρ=>exact z _ fun F' H' σ' _ r'=>hok .non rfl F' H' .non r'.g .non
  | rt d=>exact z _ fun F' H' v g rv=>hok d rfl F' H' v g rv
  | bk ρ=>exact absurd rfl hb
  | ct ρ=>exact absurd rfl hb
 | ex c =>
  rw [e] at z hex
  exact z _ fun F' H' C g hc=>hex c rfl F' H' C g hc
 | bad=>rw [e] at hb;exact absurd rfl hb
end
end L2.Ds
namespace Dl
open PySem
end Dl
namespace L2.Ds
open PySem PySem.Spec PyProof.Rows Dl
end L2.Ds
namespace Dl
open PySem
def Sm(k:Nat)(x:Int):Prop:=x.natAbs<2^k
theorem Sm.mono{k n:Nat}{x:Int}(h:Sm k x)(hn:k≤n):Sm n x:=Vaf h (Nat.pow_le_pow_right (by decide) hn)
theorem Sm.mul{m n:Nat}{x y:Int}(h:Sm m x)(g:Sm n y):Sm (m+n) (x*y):=by
 unfold Sm at *
 rw [Vcc,Nat.pow_add]
 rcases Nat.eq_zero_or_pos x.natAbs with z | z
 ·rw [z,Nat.zero_mul];exact Nat.mul_pos (Nat.two_pow_pos _) (Nat.two_pow_pos _)
 ·exact Vbn (Nat.mul_le_mul_left _ (Vam g)) (Nat.mul_lt_mul_of_pos_right h (Nat.two_pow_pos _))
theorem Sm.add{m n:Nat}{x y:Int}(h:Sm m x)(g:Sm n y):Sm (max m n+1) (x+y):=by
 have h':=h.mono (Nat.le_max_left m n)
 have g':=g.mono (Nat.le_max_right m n)
 unfold Sm at *
 rw [Nat.pow_succ]
 have:=Int.natAbs_add_le x y
 omega
theorem Sm.neg{m:Nat}{x:Int}(h:Sm m x):Sm m (-x):=by
 unfold Sm at *
 rw [Int.natAbs_neg]
 exact h
theorem Sm.sub{m n:Nat}{x y:Int}(h:Sm m x)(g:Sm n y):Sm (max m n+1) (x - y):=by
 rw [Int.sub_eq_add_neg];exact h.add g.neg
theorem Sm.le{m:Nat}{x y:Int}(h:Sm m x)(e:y.natAbs≤x.natAbs):Sm m y:=Vbn e h
theorem Sm.of64{x:Int}(h1:-18446744073709551616<x)(h2:x<18446744073709551616):Sm 64 x:=by
 unfold Sm
 have:(2:Nat)^64=18446744073709551616:=by decide
 omega
theorem Zmu{n k:Nat}(h:n<2^k)(hk:0<k):n.log2<k:=by
 rcases Nat.eq_zero_or_pos n with z | z
 ·rw [z];simpa using hk
 ·exact (Nat.log2_lt (VaG z)).mpr h
theorem Sm.log{m:Nat}{x:Int}(h:Sm m x)(hm:m<9000):x.natAbs.log2<9000:=Zmu (h.mono (Vam hm)) (by decide)
theorem Zpc{a b:Int}(h:Sm 64 a):ZaT a b=true:=by
 unfold ZaT
 rw [Vbm (show a.natAbs<2^64 from h)];rfl
theorem ZpG{a b:Int}(h:Sm 64 b):ZaT a b=true:=by
 unfold ZaT
 rw [Vbm (show b.natAbs<2^64 from h)]
 simp
theorem Zax{a b:Int}{m n:Nat}(h:Sm m a)(g:Sm n b)(hk:m+n<99999990):ZaT a b=true:=by
 have h1:=Zmu (h.mono (Nat.le_succ m)) (Nat.succ_pos _)
 have h2:=Zmu (g.mono (Nat.le_succ n)) (Nat.succ_pos _)
 unfold ZaT
 rw [Vbm (show a.natAbs.log2+b.natAbs.log2<100000000 by omega)]
 simp
theorem Zra{a b:Int}(h:ZaT a b=true):iMul a b=.ok (.int (a*b)):=by unfold iMul;rw [if_pos h]
theorem Znl{a b:Int}(h:0<b):iMod a b=.ok (.int (a%b)):=by unfold iMod;rw [if_pos h]
theorem ZnL{a b:Int}(h:0<b)(hl:b.natAbs.log2<9000):iDiv a b=.ok (.int (a/b)):=by unfold iDiv;rw [if_pos hl,if_pos h]
theorem Zon{a b:Int}(h:b<0)(hl:b.natAbs.log2<9000):iDiv a b=.ok (.int (a.fdiv b)):=by unfold iDiv;rw [if_pos hl,if_neg (by omega),if_neg (by omega)]
theorem Zqa{a b:Int}(h0:0≤b)(h1:b≤1000000)(h2:a.natAbs<2^64):iShl a b=.ok (.int (a*2^b.toNat)):=by unfold iShl;rw [if_pos ⟨h0,h1,h2⟩]
theorem ZpR{a b:Int}(h0:0≤b):iShr a b=.ok (.int (a/2^b.toNat)):=by unfold iShr;rw [if_pos h0]
theorem Zqu(a b:Int):dEq (.int a) (.int b)=.ok (.bl (decide (a=b))):=by
 show Res.ok (D.bl (a==b))=_
 rw [Bool.beq_eq_decide_eq]
theorem ZqQ(a b:Int):dNe (.int a) (.int b)=.ok (.bl (!decide (a=b))):=by
 show Res.ok (D.bl (!(a==b)))=_
 rw [Bool.beq_eq_decide_eq]
theorem Zoh{a b:List D}(h:a.length+b.length≤1000000):yan (.lst a) (.lst b)=.ok (.lst (a++b)):=by
 show (if a.length+b.length≤LIM then Res.ok (D.lst (a++b)) else .bad)=_
 rw [if_pos (show a.length+b.length≤LIM from h)]
theorem ZnI{a b:List D}(h:a.length+b.length≤1000000):yan (.tup a) (.tup b)=.ok (.tup (a++b)):=by
 show (if a.length+b.length≤LIM then Res.ok (D.tup (a++b)) else .bad)=_
 rw [if_pos (show a.length+b.length≤LIM from h)]
theorem ZiM(xs:List D)(i:Int):dIx (.lst xs) (.int i)=ofO (at_ xs i):=rfl
theorem Zol(xs:List D):bLen [.lst xs]=.ok (.int xs.length):=rfl
theorem Zno(xs:List D):bLen [.tup xs]=.ok (.int xs.length):=rfl
theorem Znt(i:Int):bAbs [.int i]=.ok (.int i.natAbs):=by
 show Res.ok (D.int (if i<0 then -i else i))=_
 have:(if i<0 then -i else i)=(i.natAbs:Int):=by split<;>omega
 rw [this]
theorem Zrt{j:Int}(h0:-1000000000≤j)(h1:j≤1000000000):rng1 [.int j]=.ok (ZbQ 0 j.toNat):=by
 show (if -1000000000≤j∧j≤1000000000 then Res.ok (ZbQ 0 j.toNat) else .bad)=_
 rw [if_pos ⟨h0,h1⟩]
theorem ZfY{g:MG}{b:MS}(I:List D→Ev→Prop):∀(xs pre:List D),(∀p x r,xs=p++x::r→∀ρ,I (pre++p) ρ→∃ρ1 ρ2,g x ρ=.ok ρ1∧b ρ1=.ok (.nx ρ2)∧I (pre++p++[x]) ρ2)→∀ρ,I pre ρ→∃ρ',ZbE g b xs ρ=.ok (.nx ρ')∧I (pre++xs) ρ'
 | [],pre,_,ρ,i=>⟨ρ,rfl,by rw [VaV];exact i⟩
 | x::r,pre,h,ρ,i=>by
  obtain ⟨ρ1,ρ2,h1,h2,i2⟩:=h [] x r rfl ρ (by rw [VaV];exact i)
  rw [VaV] at i2
  obtain ⟨ρ',h3,i3⟩:=ZfY I r (pre++[x]) (fun p y s e ρ i=>by
   have z:=h (x::p) y s (by rw [e];rfl) ρ (by simpa using i)
   simpa using z) ρ2 i2
  refine ⟨ρ',?_,by simpa using i3⟩
  show (g x ρ).bind (fun ρ1=>(b ρ1).bind (turn (ZbE g b r)))=_
  rw [h1]
  show (b ρ1).bind (turn (ZbE g b r))=_
  rw [h2]
  exact h3
theorem Zmc(t:MB)(b:MS)(n:Nat)(ρ:Ev):whGo t b (n+1) ρ=(t ρ).bind fun x=>if x=true then (b ρ).bind (turn (whGo t b n)) else .ok (.nx ρ):=rfl
theorem ZdH(g:MG)(t:MB)(e:ME)(ρ:Ev)(x:D)(r:List D):Zan g t e ρ (x::r)=(g x ρ).bind fun ρ1=>(t ρ1).bind fun b=>if b=true then (e ρ1).bind fun y=>(Zan g t e ρ r).bind fun ys=>.ok (y::ys) else Zan g t e ρ r:=rfl
theorem ZjY{g:MG}{e:ME}{ρ:Ev}(P:D→D→Prop):∀xs:List D,(∀x∈xs,∃ρ1 y,g x ρ=.ok ρ1∧e ρ1=.ok y∧P x y)→∃ys,Zan g yes e ρ xs=.ok ys∧ys.length=xs.length∧∀(i:Nat) x y,xs[i]?=some x→ys[i]?=some y→P x y
 | [],_=>⟨[],rfl,rfl,fun i x y h=>by simp at h⟩
 | x::r,h=>by
  obtain ⟨ρ1,y,h1,h2,hp⟩:=h x Vao
  obtain ⟨ys,e1,l1,q⟩:=ZjY P r fun z hz=>h z (Vap _ hz)
  refine ⟨y::ys,?_,Vay (·+1) l1,fun i a b ha hb=>?_⟩
  ·rw [ZdH,h1,ZcM]
   unfold yes at e1 ⊢
   rw [ZcM,if_pos rfl,h2,ZcM,e1]
   rfl
  ·cases i with
   | zero=>simp at ha hb;subst ha hb;exact hp
   | succ i=>exact q i a b (by simpa using ha) (by simpa using hb)
def Tl{α:Type}(r:Res α)(Φ:α→Prop):Prop:=∃a,r=.ok a∧Φ a
section
variable{α β:Type}{Φ:α→Prop}{ρ:Ev}{a b d:ME}{s t:MB}{i j:Nat}
theorem Zao{r:Res α}{x:α}(e:r=.ok x)(h:Φ x):Tl r Φ:=⟨x,e,h⟩
theorem Zau{x:α}(h:Φ x):Tl (.ok x) Φ:=⟨x,rfl,h⟩
theorem Zak{r:Res β}{f:β→Res α}(h:Tl r fun x=>Tl (f x) Φ):Tl (r.bind f) Φ:=by
 obtain ⟨x,rfl,y,e,q⟩:=h
 exact ⟨y,e,q⟩
theorem Tl.mono{r:Res α}{Ψ:α→Prop}(h:Tl r Ψ)(k:∀x,Ψ x→Φ x):Tl r Φ:=by
 obtain ⟨x,e,q⟩:=h
 exact ⟨x,e,k x q⟩
theorem Tl.eq{r:Res α}{x:α}(h:Tl r (·=x)):r=.ok x:=by
 obtain ⟨y,e,rfl⟩:=h
 exact e
theorem Zmo{c:Bool}{A B:Res α}(hc:c=true)(h:Tl A Φ):Tl (if c=true then A else B) Φ:=by rw [if_pos hc];exact h
theorem Zl6{c:Bool}{A B:Res α}(hc:c=false)(h:Tl B Φ):Tl (if c=true then A else B) Φ:=by rw [if_neg (by rw [hc];exact VaF)];exact h
theorem w_dT{P:Prop} [Decidable P] {A B:Res α} (hc:P) (h:Tl A Φ):Tl (if decide P=true then A else B) Φ:=Zmo (Vbm hc) h
theorem w_dF{P:Prop} [Decidable P] {A B:Res α} (hc:¬P) (h:Tl B Φ):Tl (if decide P=true then A else B) Φ:=Zl6 (Vac hc) h
theorem w_nT{P:Prop} [Decidable P] {A B:Res α} (hc:¬P) (h:Tl A Φ):Tl (if (!decide P)=true then A else B) Φ:=Zmo (by rw [Vac hc];rfl) h
theorem w_nF{P:Prop} [Decidable P] {A B:Res α} (hc:P) (h:Tl B Φ):Tl (if (!decide P)=true then A else B) Φ:=Zl6 (by rw [Vbm hc];rfl) h
theorem ZcW{P:Prop} [Decidable P] {A B:Res α} (h1:P→Tl A Φ) (h2:¬P→Tl B Φ):Tl (if decide P=true then A else B) Φ:=by
 by_cases h:P
 ·exact w_dT h (h1 h)
 ·exact w_dF h (h2 h)
theorem Zht{P:Prop} [Decidable P] {A B:Res α} (h1:¬P→Tl A Φ) (h2:P→Tl B Φ):Tl (if (!decide P)=true then A else B) Φ:=by
 by_cases h:P
 ·exact w_nF h (h2 h)
 ·exact w_nT h (h1 h)
end
section
variable{Φ:D→Prop}{ρ:Ev}{a b d:ME}{s t:MB}{i j n:Nat}{m:MA}
theorem w_v'(h:Tl (getC ρ[i]?) Φ):Tl (v i ρ) Φ:=h
theorem w_gC{o:Option Cl}{x:D}(e:o=some (.im x))(h:Φ x):Tl (getC o) Φ:=Zao (by rw [e];rfl) h
theorem w_c{x:D}(h:Φ x):Tl (c x ρ) Φ:=Zau h
theorem w_o1{f:D→Res D}(h:Tl (a ρ) fun x=>Tl (f x) Φ):Tl (o1 f a ρ) Φ:=Zak h
theorem w_o2{f:D→D→Res D}(h:Tl (a ρ) fun x=>Tl (b ρ) fun y=>Tl (f x y) Φ):Tl (o2 f a b ρ) Φ:=Zak (h.mono fun _ q=>Zak q)
theorem w_on{f:List D→Res D}(h:Tl (m ρ) fun xs=>Tl (f xs) Φ):Tl (on f m ρ) Φ:=Zak h
theorem ZuB(h:Tl (m ρ) fun xs=>Φ (.tup xs)):Tl (mtp m ρ) Φ:=Zak (h.mono fun _ q=>Zau q)
theorem ZuF(h:Tl (m ρ) fun xs=>Φ (.lst xs)):Tl (mls m ρ) Φ:=Zak (h.mono fun _ q=>Zau q)
theorem ZtT(h:Tl (trb a ρ) fun x=>Tl (if x=true then b ρ else .ok (.bl false)) Φ):Tl (eAnd a b ρ) Φ:=Zak h
theorem Ztd(h:Tl (trb a ρ) fun x=>Φ (.bl (!x))):Tl (eNot a ρ) Φ:=Zak (h.mono fun _ q=>Zau q)
theorem Zu4(h:Tl (t ρ) fun x=>Tl (if x=true then a ρ else b ρ) Φ):Tl (ife t a b ρ) Φ:=Zak h
theorem ZqC{lo hi:Ev→Res (Option Int)}(h:Tl (a ρ) fun x=>Tl (lo ρ) fun l=>Tl (hi ρ) fun u=>Tl (dCut x l u) Φ):Tl (cut a lo hi ρ) Φ:=Zak (h.mono fun _ q=>Zak (q.mono fun _ q=>Zak q))
theorem Zsv{it:MI}{own:Nat}{cap:List Nat}{g:MG}{e:ME}(h:Tl (it ρ) fun xs=>xs.length≤1000000∧Tl (Zan g t e (noA own (yav ρ cap)) xs) fun ys=>Φ (.lst ys)):Tl (comp it own cap g t e ρ) Φ:=by
 refine Zak (h.mono fun xs q=>?_)
 rw [if_pos (show xs.length≤LIM from q.1)]
 obtain ⟨ys,e1,q2⟩:=q.2
 rw [e1]
 exact Zau q2
theorem w_fn{k:MS}{ds:List D}(h:Tl (k (ev0 n ds)) fun f=>Tl (endOf f) Φ):Tl (fn n k ds) Φ:=Zak h
theorem ZtK{x y:Int}(h:Φ (.int (x+y))):Tl (yan (.int x) (.int y)) Φ:=Zau h
theorem ZeP{x y:List D}(hl:x.length+y.length≤1000000)(h:Φ (.lst (x++y))):Tl (yan (.lst x) (.lst y)) Φ:=Zao (Zoh hl) h
theorem ZsK{x y:List D}(hl:x.length+y.length≤1000000)(h:Φ (.tup (x++y))):Tl (yan (.tup x) (.tup y)) Φ:=Zao (ZnI hl) h
theorem w_sub{x y:Int}(h:Φ (.int (x - y))):Tl (dSub (.int x) (.int y)) Φ:=Zau h
theorem w_mul{x y:Int}(hm:ZaT x y=true)(h:Φ (.int (x*y))):Tl (yaC (.int x) (.int y)) Φ:=Zao (Zra hm) h
theorem w_mod{x y:Int}(hy:0<y)(h:Φ (.int (x%y))):Tl (yam (.int x) (.int y)) Φ:=Zao (Znl hy) h
theorem w_div{x y:Int}(hy:0<y)(hl:y.natAbs.log2<9000)(h:Φ (.int (x/y))):Tl (ya0 (.int x) (.int y)) Φ:=Zao (ZnL hy hl) h
theorem w_divN{x y:Int}(hy:y<0)(hl:y.natAbs.log2<9000)(h:Φ (.int (x.fdiv y))):Tl (ya0 (.int x) (.int y)) Φ:=Zao (Zon hy hl) h
theorem w_shl{x y:Int}(h0:0≤y)(h1:y≤1000000)(h2:x.natAbs<2^64)(h:Φ (.int (x*2^y.toNat))):Tl (dShl (.int x) (.int y)) Φ:=Zao (Zqa h0 h1 h2) h
theorem w_shr{x y:Int}(h0:0≤y)(h:Φ (.int (x/2^y.toNat))):Tl (dShr (.int x) (.int y)) Φ:=Zao (ZpR h0) h
theorem Zus{x:Int}(h:Φ (.int (-x))):Tl (dNeg (.int x)) Φ:=Zau h
theorem w_lt{x y:Int}(h:Φ (.bl (decide (x<y)))):Tl (dLt (.int x) (.int y)) Φ:=Zau h
theorem w_le{x y:Int}(h:Φ (.bl (decide (x≤y)))):Tl (dLe (.int x) (.int y)) Φ:=Zau h
theorem w_gt{x y:Int}(h:Φ (.bl (decide (y<x)))):Tl (dGt (.int x) (.int y)) Φ:=Zau h
theorem w_ge{x y:Int}(h:Φ (.bl (decide (y≤x)))):Tl (dGe (.int x) (.int y)) Φ:=Zau h
theorem Zum{x y:Int}(h:Φ (.bl (decide (x=y)))):Tl (dEq (.int x) (.int y)) Φ:=Zao (Zqu x y) h
theorem Zvn{x y:Int}(h:Φ (.bl (!decide (x=y)))):Tl (dNe (.int x) (.int y)) Φ:=Zao (ZqQ x y) h
theorem ZuT{x:D}(h:Φ (.bl (Zj0 x))):Tl (dIsN x) Φ:=Zau h
theorem Zr5{x:D}(h:Φ (.bl (!Zj0 x))):Tl (Zmk x) Φ:=Zau h
theorem Zub{xs:List D}(h:Φ (.int xs.length)):Tl (bLen [.lst xs]) Φ:=Zau h
theorem Zs2{xs:List D}(h:Φ (.int xs.length)):Tl (bLen [.tup xs]) Φ:=Zau h
theorem ZpP{ns:List Int}(h:Φ (.int ns.length)):Tl (bLen [.tup (ns.map .int)]) Φ:=Zao (by rw [Zno,VaQ]) h
theorem Zqc{ns:List Int}(h:Φ (.int ns.length)):Tl (bLen [.lst (ns.map .int)]) Φ:=Zao (by rw [Zol,VaQ]) h
theorem Zvb{x:Int}(h:Φ (.int x.natAbs)):Tl (bAbs [.int x]) Φ:=Zao (Znt x) h
theorem Zsw{xs:List D}(h:Φ (.tup xs)):Tl (bTup [.lst xs]) Φ:=Zau h
theorem Zsh{xs:List D}(h:Φ (.lst xs)):Tl (bLst [.tup xs]) Φ:=Zau h
theorem ZsE{xs:List D}{lo hi:Option Int}(h:Φ (.lst (cutL xs lo hi))):Tl (dCut (.lst xs) lo hi) Φ:=Zau h
theorem ZrK{xs:List D}{lo hi:Option Int}(h:Φ (.tup (cutL xs lo hi))):Tl (dCut (.tup xs) lo hi) Φ:=Zau h
end
section
variable{Φ:Bool→Prop}{ρ:Ev}{a:ME}{s t:MB}
theorem ZuJ(h:Tl (a ρ) fun x=>Tl (tru x) Φ):Tl (trb a ρ) Φ:=Zak h
theorem ZuE{b:Bool}(h:Φ b):Tl (tru (.bl b)) Φ:=Zau h
theorem Zt2(h:Tl (s ρ) fun x=>Tl (if x=true then t ρ else .ok false) Φ):Tl (bAnd s t ρ) Φ:=Zak h
theorem Zu5(h:Tl (s ρ) fun x=>Tl (if x=true then .ok true else t ρ) Φ):Tl (bOr s t ρ) Φ:=Zak h
theorem ZrH(h:Tl (s ρ) fun x=>Φ (!x)):Tl (bNot s ρ) Φ:=Zak (h.mono fun _ q=>Zau q)
theorem Zu3(h:Φ true):Tl (yes ρ) Φ:=Zau h
end
section
variable{Φ:List D→Prop}{ρ:Ev}{a:ME}{m:MA}
theorem ZrZ(h:Φ []):Tl (yaa ρ) Φ:=Zau h
theorem Zqh(h:Tl (a ρ) fun x=>Tl (m ρ) fun xs=>Φ (x::xs)):Tl (Zaa a m ρ) Φ:=Zak (h.mono fun _ q=>Zak (q.mono fun _ q=>Zau q))
theorem w_iv(h:Tl (a ρ) fun x=>Tl (items x) Φ):Tl (iv a ρ) Φ:=Zak h
theorem ZuP{xs:List D}(h:Φ xs):Tl (items (.lst xs)) Φ:=Zau h
theorem ZuS{xs:List D}(h:Φ xs):Tl (items (.tup xs)) Φ:=Zau h
theorem w_r1(h:Tl (m ρ) fun xs=>Tl (rng1 xs) Φ):Tl (r1 m ρ) Φ:=Zak h
theorem ZsR{j:Int}(h0:-1000000000≤j∧j≤1000000000)(h:Φ (ZbQ 0 j.toNat)):Tl (rng1 [.int j]) Φ:=Zao (Zrt h0.1 h0.2) h
theorem Zuz(h:Tl (m ρ) fun xs=>Tl (zip2 xs) Φ):Tl (iZip m ρ) Φ:=Zak h
theorem ZtJ{xs ys:List D}(h:Φ (pairs xs ys)):Tl (zip2 [.lst xs,.lst ys]) Φ:=Zau h
theorem ZnY{g:MG}{t:MB}{e:ME}(h:Φ []):Tl (Zan g t e ρ []) Φ:=Zau h
theorem Ze0{g:MG}{t:MB}{e:ME}{x:D}{r:List D}(h:Tl (g x ρ) fun ρ1=>Tl (t ρ1) fun b=>Tl (if b=true then (e ρ1).bind fun y=>(Zan g t e ρ r).bind fun ys=>.ok (y::ys) else Zan g t e ρ r) Φ):Tl (Zan g t e ρ (x::r)) Φ :=
 Zak (h.mono fun _ q=>Zak q)
end
section
variable{Φ:Option Int→Prop}{ρ:Ev}{a:ME}
theorem ZuH(h:Φ none):Tl (pno ρ) Φ:=Zau h
theorem Zvo(h:Tl (a ρ) fun x=>Tl (optI x) Φ):Tl (pso a ρ) Φ:=Zak h
theorem ZsB{i:Int}(h:Φ (some i)):Tl (optI (.int i)) Φ:=Zau h
end
section
variable{Φ:Ev→Prop}{ρ:Ev}{i n:Nat}{x:D}
theorem w_gN(h:Φ (ρ.set i (.im x))):Tl (gN i x ρ) Φ:=Zau h
theorem Zul(h:Φ ρ):Tl (gs0 [] ρ) Φ:=Zau h
theorem ZuQ{g:MG}{r:MGs}{ds:List D}(h:Tl (g x ρ) fun ρ'=>Tl (r ds ρ') Φ):Tl (gs1 g r (x::ds) ρ) Φ:=Zak h
theorem Zvi{g:MGs}{xs:List D}(hl:xs.length=n)(h:Tl (g xs ρ) Φ):Tl (gU n g (.tup xs) ρ) Φ:=by
 show Tl (if xs.length=n then g xs ρ else .bad) Φ
 rw [if_pos hl];exact h
end
section
variable{Φ:Fl→Prop}{ρ:Ev}{a b:ME}{k l:MS}{t:MB}{i j:Nat}
theorem w_sq(h:Tl (k ρ) fun f=>Tl (goOn l f) Φ):Tl (sq k l ρ) Φ:=Zak h
theorem w_gx(h:Tl (l ρ) Φ):Tl (goOn l (.nx ρ)) Φ:=h
theorem w_gr{x:D}(h:Φ (.rt x)):Tl (goOn l (.rt x)) Φ:=Zau h
theorem w_gc(h:Φ (.ct ρ)):Tl (goOn l (.ct ρ)) Φ:=Zau h
theorem w_st(h:Tl (a ρ) fun x=>Φ (.nx (ρ.set i (.im x)))):Tl (st i a ρ) Φ:=Zak (h.mono fun _ q=>Zau q)
theorem Zvm(h:Tl (a ρ) fun x=>Φ (.rt x)):Tl (ret a ρ) Φ:=Zak (h.mono fun _ q=>Zau q)
theorem Zu1(h:Φ (.nx ρ)):Tl (nop ρ) Φ:=Zau h
theorem ZuO(h:Φ (.ct ρ)):Tl (cnt ρ) Φ:=Zau h
theorem Zuq(h:Tl (a ρ) fun _=>Φ (.nx ρ)):Tl (drp a ρ) Φ:=Zak (h.mono fun _ q=>Zau q)
theorem Zva{g:MG}(h:Tl (a ρ) fun x=>Tl (g x ρ) fun ρ'=>Φ (.nx ρ')):Tl (asg g a ρ) Φ:=Zak (h.mono fun _ q=>Zak (q.mono fun _ q=>Zau q))
theorem ZuN(h:Tl (a ρ) fun x=>Tl (b ρ) fun y=>Φ (.nx ((ρ.set i (.im x)).set j (.im y)))):Tl (par i j a b ρ) Φ:=Zak (h.mono fun _ q=>Zak (q.mono fun _ q=>Zau q))
theorem Zur(h:Tl (t ρ) fun x=>Tl (if x=true then k ρ else l ρ) Φ):Tl (ifs t k l ρ) Φ:=Zak h
theorem Zvh{it:MI}{g:MG}(h:Tl (it ρ) fun xs=>Tl (ZbE g k xs ρ) Φ):Tl (for_ it g k ρ) Φ:=Zak h
theorem Zun{fu:Ev→Nat}(h:Tl (whGo t k (fu ρ) ρ) Φ):Tl (whl fu t k ρ) Φ:=h
theorem Zvl(h:Tl (a ρ) fun x=>Tl (lstO x) fun xs=>Φ (.nx (ρ.set i (.ow xs)))):Tl (stO i a ρ) Φ:=Zak (h.mono fun _ q=>Zak (q.mono fun _ q=>Zau q))
theorem Zr0{Ψ:List D→Prop}{xs:List D}(h:Ψ xs):Tl (lstO (.lst xs)) Ψ:=Zau h
theorem Zr3(h:Tl (getO ρ[i]?) fun xs=>Tl (k (ρ.set i (.im (.lst xs)))) Φ):Tl (frz i k ρ) Φ:=Zak h
theorem ZrG(h:Tl (getO ρ[i]?) fun xs=>Tl (a ρ) fun d=>xs.length<1000000∧Φ (.nx (ρ.set i (.ow (xs++[d]))))):Tl (app i a ρ) Φ:=by
 refine Zak (h.mono fun xs q=>Zak (q.mono fun d q=>?_))
 rw [if_pos (show xs.length<LIM from q.1)]
 exact Zau q.2
theorem w_gO{Ψ:List D→Prop}{o:Option Cl}{xs:List D}(e:o=some (.ow xs))(h:Ψ xs):Tl (getO o) Ψ:=Zao (by rw [e];rfl) h
theorem w_eR{Ψ:D→Prop}{x:D}(h:Ψ x):Tl (endOf (.rt x)) Ψ:=Zau h
theorem w_eN{Ψ:D→Prop}(h:Ψ .non):Tl (endOf (.nx ρ)) Ψ:=Zau h
theorem w_tx(h:Tl (k ρ) Φ):Tl (turn k (.nx ρ)) Φ:=h
theorem w_tr{x:D}(h:Φ (.rt x)):Tl (turn k (.rt x)) Φ:=Zau h
theorem w_f0{g:MG}(h:Φ (.nx ρ)):Tl (ZbE g k [] ρ) Φ:=Zau h
theorem w_f1{g:MG}{x:D}{r:List D}(h:Tl (g x ρ) fun ρ1=>Tl (k ρ1) fun f=>Tl (turn (ZbE g k r) f) Φ):Tl (ZbE g k (x::r) ρ) Φ:=Zak (h.mono fun _ q=>Zak q)
theorem Zmz{g:MG}{xs:List D}(I:List D→Ev→Prop)(h0:I [] ρ)(h:∀p x r,xs=p++x::r→∀ρ,I p ρ→Tl (g x ρ) fun ρ1=>Tl (k ρ1) fun f=>∃ρ2,f=.nx ρ2∧I (p++[x]) ρ2)(hd:∀ρ,I xs ρ→Φ (.nx ρ)):Tl (ZbE g k xs ρ) Φ:=by
 obtain ⟨ρ',e,i⟩:=ZfY (g:=g) (b:=k) I xs [] (fun p x r hx ρ i=>by
  obtain ⟨ρ1,e1,f,e2,ρ2,rfl,i2⟩:=h p x r hx ρ i
  exact ⟨ρ1,ρ2,e1,e2,i2⟩) ρ h0
 exact ⟨_,e,hd ρ' i⟩
theorem w_wh{n:Nat}(I:Ev→Prop)(μ:Ev→Nat)(h0:I ρ)(hm:μ ρ<n)(h:∀ρ,I ρ→Tl (t ρ) fun b=>(b=true→Tl (k ρ) fun f=>∃ρ2,f=.nx ρ2∧I ρ2∧μ ρ2<μ ρ)∧(b=false→Φ (.nx ρ))):Tl (whGo t k n ρ) Φ:=by
 induction n generalizing ρ with
 | zero=>exact absurd hm (Nat.not_lt_zero _)
 | succ n ih =>
  rw [Zmc]
  obtain ⟨b,e,q⟩:=h ρ h0
  rw [e]
  cases b with
  | true =>
   obtain ⟨f,e2,ρ2,rfl,i2,l2⟩:=q.1 rfl
   show Tl ((k ρ).bind (turn (whGo t k n))) Φ
   rw [e2]
   exact ih i2 (by omega)
  | false=>exact Zau (q.2 rfl)
theorem ZgU:∀{ns ms:List Int},ns.map D.int=ms.map D.int→ns=ms
 | [],[],_=>rfl
 | [],_::_,h=>by cases h
 | _::_,[],h=>by cases h
 | n::r,m::s,h=>by
  have h':D.int n=D.int m∧r.map D.int=s.map D.int:=by simpa using h
  rw [ZgU h'.2]
  cases h'.1
  rfl
end
theorem Zcu{α:Type}{Φ:List D→Prop}{g:MG}{e:ME}{ρ:Ev}{enc:α→D}(f:α→D):∀{l:List α},(∀a∈l,Tl (g (enc a) ρ) fun ρ1=>Tl (e ρ1) fun y=>y=f a)→Φ (l.map f)→Tl (Zan g yes e ρ (l.map enc)) Φ:=by
 intro l h q
 have key:∀l:List α,(∀a∈l,Tl (g (enc a) ρ) fun ρ1=>Tl (e ρ1) fun y=>y=f a)→Zan g yes e ρ (l.map enc)=.ok (l.map f):=by
  intro l
  induction l with
  | nil=>exact fun _=>rfl
  | cons a r ih =>
   intro h
   obtain ⟨ρ1,e1,y,e2,rfl⟩:=h a Vao
   have z:=ih fun b hb=>h b (Vap _ hb)
   rw [VaP,ZdH,e1,ZcM]
   unfold yes at z ⊢
   rw [ZcM,if_pos rfl,e2,ZcM,z]
   rfl
 exact Zao (key l h) q
theorem w_all{Φ:List D→Prop}{g:MG}{e:ME}{ρ:Ev}{xs:List D}(P:D→D→Prop)(h:∀x∈xs,Tl (g x ρ) fun ρ1=>Tl (e ρ1) fun y=>P x y)(q:∀ys:List D,ys.length=xs.length→(∀(i:Nat) x y,xs[i]?=some x→ys[i]?=some y→P x y)→Φ ys):Tl (Zan g yes e ρ xs) Φ:=by
 obtain ⟨ys,e1,l,hp⟩:=ZjY (g:=g) (e:=e) (ρ:=ρ) P xs fun x hx=>by
  obtain ⟨ρ1,e1,y,e2,hp⟩:=h x hx
  exact ⟨ρ1,y,e1,e2,hp⟩
 exact ⟨ys,e1,q ys l hp⟩
section
variable{Φ:D→Prop}
theorem Zuk{x y:D}(h:Tl (dIx x y) Φ):Tl (dIx x y) Φ:=h
theorem Zut{xs:List D}(h:Tl (bIsi xs) Φ):Tl (bIsi xs) Φ:=h
theorem Zo4{α:Type}{xs:List α}{i:Nat}:at_ xs (i:Int)=xs[i]?:=by
 unfold at_
 rw [if_pos (VaM i),Vbz]
theorem Zsf{xs:List D}{i:Int}(h:0≤i∧i<xs.length)(q:∀x∈xs,Φ x):Tl (dIx (.lst xs) (.int i)) Φ:=by
 obtain ⟨n,rfl⟩:=Int.eq_ofNat_of_zero_le h.1
 have hn:n<xs.length:=by omega
 rw [ZiM,Zo4,VbM hn]
 exact Zau (q _ (VbS hn))
theorem ZuL{ns:List Int}{i:Int}(h:-(ns.length:Int)≤i∧i<ns.length)(q:∀n∈ns,Φ (.int n)):Tl (dIx (.lst (ns.map .int)) (.int i)) Φ:=by
 rw [ZiM]
 unfold at_
 rw [VaQ]
 by_cases h0:0≤i
 ·have hn:i.toNat<ns.length:=by omega
  rw [if_pos h0,Va5,VbM hn]
  exact Zau (q _ (VbS hn))
 ·have hn:(i+ns.length).toNat<ns.length:=by omega
  rw [if_neg h0,if_pos h.1,Va5,VbM hn]
  exact Zau (q _ (VbS hn))
end
mutual
theorem ZgK:∀(x:D) (k:Nat),plain k x=true→eqD x x=true
 | .non,_,_=>rfl
 | .bl b,_,_=>by show (b==b)=true;simp
 | .int b,_,_=>by show (b==b)=true;simp
 | .str b,_,_=>by show (b==b)=true;simp
 | .tup xs,0,h=>by simp [plain] at h
 | .lst xs,0,h=>by simp [plain] at h
 | .tup xs,k+1,h=>Zf0 xs k (by simpa [plain] using h)
 | .lst xs,k+1,h=>Zf0 xs k (by simpa [plain] using h)
 | .ty _,k,h=>by cases k<;>simp [plain] at h
 | .cls _,k,h=>by cases k<;>simp [plain] at h
 | .exc _,k,h=>by cases k<;>simp [plain] at h
theorem Zf0:∀(xs:List D) (k:Nat),Zay k xs=true→eqDs xs xs=true
 | [],_,_=>rfl
 | x::xs,k,h=>by
  have h':plain k x=true∧Zay k xs=true:=by simpa [Zay] using h
  show (eqD x x&&eqDs xs xs)=true
  rw [ZgK x k h'.1,Zf0 xs k h'.2];rfl
end
theorem Zu8{Φ:D→Prop}{x:D}(h:plain 50 x=true)(q:Φ (.bl false)):Tl (dNe x x) Φ:=by
 unfold dNe
 rw [h,Bool.and_self,if_pos rfl,ZgK x 50 h]
 exact Zau q
theorem Zgn:∀(ns ms:List Int),pairs (ns.map .int) (ms.map .int)=(ns.zip ms).map fun p=>.tup [.int p.1,.int p.2]
 | [],_=>by simp [pairs]
 | _::_,[]=>by simp [pairs]
 | n::r,m::s=>by simp [pairs,Zgn r s]
def Zfm(i:Nat)(ρ:Ev):Nat:=((ρ[i]?).map absC).getD 0
theorem Zdp:∀(ρ:Ev) (i:Nat),Zfm i ρ<fuel ρ
 | [],i=>by simp [Zfm,fuel]
 | c::r,0=>by simp [Zfm,fuel];omega
 | c::r,i+1=>by
  have:=Zdp r i
  simp [Zfm,fuel] at this ⊢
  omega
theorem mem_range{n:Nat}{x:D}(h:x∈ZbQ 0 n):∃k:Nat,k<n∧x=.int (k:Int):=by
 unfold ZbQ at h
 obtain ⟨k,hk,rfl⟩:=Vbs.mp h
 exact ⟨k,Vaj.mp hk,by rw [Int.zero_add]⟩
theorem ZlJ{Φ:D→Prop}{ys:List D}(h:∀y∈ys,y=.bl true)(q:Φ (.bl true)):Tl (bAll [.lst ys]) Φ:=by
 have key:∀ys:List D,(∀y∈ys,y=.bl true)→∃bs,bools ys=.ok bs∧bs.all id=true:=by
  intro ys
  induction ys with
  | nil=>exact fun _=>⟨[],rfl,rfl⟩
  | cons y r ih =>
   intro h
   obtain ⟨bs,e1,e2⟩:=ih fun z hz=>h z (Vap _ hz)
   obtain rfl:=h y Vao
   exact ⟨true::bs,by show (bools r).bind _=_;rw [e1];rfl,by simpa using e2⟩
 obtain ⟨bs,e1,e2⟩:=key ys h
 refine Zao (x:=.bl true) ?_ q
 show (bools ys).bind (fun bs=>Res.ok (D.bl (bs.all id)))=_
 rw [e1]
 show Res.ok (D.bl (bs.all id))=_
 rw [e2]
section
variable{Φ:D→Prop}{ρ:Ev}{i:Nat}
theorem w_pk{m:ME}(h:Tl (getO ρ[i]?) fun xs=>Tl (m (ρ.set i (.im (.lst xs)))) fun d=>Tl (ZhH d) Φ):Tl (pk i m ρ) Φ:=Zak (h.mono fun _ q=>Zak q)
theorem Zvg{Ψ:Bool→Prop}{m:MB}(h:Tl (getO ρ[i]?) fun xs=>Tl (m (ρ.set i (.im (.lst xs)))) Ψ):Tl (pkB i m ρ) Ψ:=Zak h
theorem Zu9{n:Int}(h:Φ (.int n)):Tl (ZhH (.int n)) Φ:=Zau h
theorem ints_map:∀ns:List Int,ZeJ (ns.map .int)=.ok ns
 | []=>rfl
 | n::r=>by show (ZeJ (r.map .int)).bind _=_;rw [ints_map r];rfl
theorem Zsq{n:Int}{r:List Int}(h:Φ (.int (r.foldl max n))):Tl (Znw [.lst ((n::r).map .int)]) Φ:=by
 refine Zao (x:=.int (r.foldl max n)) ?_ h
 show (ZeJ ((n::r).map .int)).bind maxI=_
 rw [ints_map];rfl
end
end Dl
namespace Dl
section
variable{Φ:D→Prop}
theorem w_p6(h:Φ (.int 1000000)):Tl (dPow (.int 10) (.int 6)) Φ:=Zao rfl h
theorem w_p8(h:Φ (.int 100000000)):Tl (dPow (.int 10) (.int 8)) Φ:=Zao rfl h
end
end Dl
namespace Dl
end Dl
namespace Dl
section
variable{Ψ:List D→Prop}{Φ:D→Prop}{ρ:Ev}{m:MA}{xs ys zs:List D}{a b:ME}
theorem Zuc(h:Φ (.lst (trips xs ys zs))):Tl (lz3 [.tup xs,.tup ys,.tup zs]) Φ:=Zau h
theorem Zuj{f:List D→D→Res D}(h:Tl (a ρ) fun x=>Tl (lstO x) fun us=>Tl (b ρ) fun y=>Tl (f us y) Φ):Tl (mLst f a b ρ) Φ:=Zak (h.mono fun _ q=>Zak (q.mono fun _ q=>Zak q))
end
end Dl
namespace Mt
def gcdL(g:Nat):List Int→Nat
 | []=>g
 | x::r=>gcdL (Nat.gcd g x.natAbs) r
theorem Zjx(a b:Nat):Nat.gcd b (a%b)=Nat.gcd a b:=by
 rw [Nat.gcd_comm a b,Nat.gcd_rec b a,Nat.gcd_comm]
theorem Zjz(t b:Int):gcdL 0 [t,b]=Int.gcd t b:=by
 show Nat.gcd (Nat.gcd 0 t.natAbs) b.natAbs=_
 rw [Nat.gcd_zero_left];rfl
theorem Zlj(a b:Int):Int.gcd b (a%b)=Int.gcd a b:=by
 have e:=Int.gcd_add_mul_left_left b (a%b) (a/b)
 rw [Int.emod_add_mul_ediv] at e
 rw [Int.gcd_comm b,e]
def frT(t b:Int):Int:=if b<0 then t.fdiv (-(Int.gcd t b:Int)) else t.fdiv (Int.gcd t b:Int)
def frB(t b:Int):Int:=if b<0 then b.fdiv (-(Int.gcd t b:Int)) else b.fdiv (Int.gcd t b:Int)
theorem Zd6{t b:Int}(h:b≠0):0<Int.gcd t b:=Int.gcd_pos_of_ne_zero_right t h
theorem Ze8{a d q:Int}(h:a=d*q)(hd:d≠0):a.fdiv d=q:=by
 subst h;exact Int.mul_fdiv_cancel_left q hd
structure Fr(t b p q:Int):Prop where
 pos:1≤q
 low:Int.gcd p q=1
 same:p*b=t*q
 np:p.natAbs≤t.natAbs
 nq:q.natAbs≤b.natAbs
theorem ZnP{t b:Int}(h:b≠0):Fr t b (frT t b) (frB t b):=by
 have g0:=Zd6 (t:=t) h
 obtain ⟨p,hp⟩:=Int.gcd_dvd_left t b
 obtain ⟨q,hq⟩:=Int.gcd_dvd_right t b
 have gi:(0:Int)<(Int.gcd t b:Int):=Int.natCast_pos.mpr g0
 have hgcd:Int.gcd p q=1:=by
  have e:Int.gcd ((Int.gcd t b:Int)*p) ((Int.gcd t b:Int)*q)=Int.gcd t b*Int.gcd p q:=by
   rw [Int.gcd_mul_left,Vcd]
  rw [←hp,←hq] at e
  have e2:Int.gcd t b*Int.gcd p q=Int.gcd t b*1:=by rw [Nat.mul_one];exact e.symm
  exact Nat.eq_of_mul_eq_mul_left g0 e2
 unfold frT frB
 generalize Int.gcd t b=g at *
 have npq:∀{x y:Int},x=(g:Int)*y→y.natAbs≤x.natAbs:=fun {x y} e=>by
  rw [e,Vcc,Vcd]
  exact Nat.le_mul_of_pos_left _ g0
 have same:p*b=t*q:=by
  rw [hq,hp,Int.mul_left_comm,Int.mul_assoc]
 have hgn:-(g:Int)≠0:=by omega
 by_cases hb:b<0
 ·rw [if_pos hb,if_pos hb,Ze8 (q:=-p) (by rw [Int.neg_mul_neg];exact hp) hgn,Ze8 (q:=-q) (by rw [Int.neg_mul_neg];exact hq) hgn]
  have qn:q<0:=by
   rcases Int.lt_or_le q 0 with z | z
   ·exact z
   ·have z2:0≤(g:Int)*q:=Vce (Int.le_of_lt gi) z
    omega
  exact ⟨by omega,by rw [Int.gcd_neg,Int.neg_gcd];exact hgcd,by rw [Int.neg_mul,Int.mul_neg,same],by rw [Int.natAbs_neg];exact npq hp,by rw [Int.natAbs_neg];exact npq hq⟩
 ·rw [if_neg hb,if_neg hb,Ze8 (q:=p) hp (Int.ne_of_gt gi),Ze8 (q:=q) hq (Int.ne_of_gt gi)]
  have qn:1≤q:=by
   rcases Int.lt_or_le 0 q with z | z
   ·exact z
   ·have z2:(g:Int)*q≤0:=Int.mul_nonpos_of_nonneg_of_nonpos (Int.le_of_lt gi) z
    omega
  exact ⟨qn,hgcd,same,npq hp,npq hq⟩
theorem Zoo{p q r s:Int}(h1:1≤q)(h2:Int.gcd p q=1)(h3:1≤s)(h4:Int.gcd r s=1)(e:p*s=r*q):p=r∧q=s:=by
 have d1:q∣s:=by
  have z:q∣p*s:=⟨r,by rw [e,Int.mul_comm]⟩
  have z2:q.natAbs∣p.natAbs*s.natAbs:=by rw [←Vcc];exact Vcf.mpr z
  exact Vcf.mp (Nat.Coprime.dvd_of_dvd_mul_left (k:=q.natAbs) (m:=p.natAbs) (by show Nat.gcd _ _=1;rw [Nat.gcd_comm];exact h2) z2)
 have d2:s∣q:=by
  have z:s∣r*q:=⟨p,by rw [←e,Int.mul_comm]⟩
  have z2:s.natAbs∣r.natAbs*q.natAbs:=by rw [←Vcc];exact Vcf.mpr z
  exact Vcf.mp (Nat.Coprime.dvd_of_dvd_mul_left (k:=s.natAbs) (m:=r.natAbs) (by show Nat.gcd _ _=1;rw [Nat.gcd_comm];exact h4) z2)
 have e2:q=s:=Int.le_antisymm (Int.le_of_dvd (by omega) d1) (Int.le_of_dvd (by omega) d2)
 subst e2
 exact ⟨Int.eq_of_mul_eq_mul_right (by omega) e,rfl⟩
theorem Zhj{a d:Int}(h:0<d):(a.fdiv d).natAbs≤a.natAbs:=by
 rw [VaN a (Int.le_of_lt h)]
 have e:=Int.emod_add_mul_ediv a d
 have r0:=Vb3 a (Int.ne_of_gt h)
 have r1:=Vb4 a h
 rcases Int.lt_or_le a 0 with z | z
 ·have q0:a/d<0:=Int.ediv_neg_of_neg_of_pos z h
  have:a≤a/d:=by
   have e2:a=a%d+d*(a/d):=e.symm
   have:d*(a/d)≤1*(a/d):=Int.mul_le_mul_of_nonpos_right (by omega) (by omega)
   rcases Int.lt_or_le a (a/d+1) with z | z
   ·omega
   ·exfalso
    have hh:(d - 1)*(a/d)≤(d - 1)*(-1):=Vcg (by omega) (by omega)
    rw [Int.sub_mul] at hh
    omega
  omega
 ·have q0:0≤a/d:=Int.ediv_nonneg z (Int.le_of_lt h)
  have:a/d≤a:=Int.ediv_le_self d z
  omega
end Mt
local macro_rules | `(tactic| walk_at "sm")=>`(tactic| first | assumption | exact Dl.Sm.of64 (by omega) (by omega) | exact Dl.Sm.mul (by walk_at "sm") (by walk_at "sm") | exact Dl.Sm.add (by walk_at "sm") (by walk_at "sm") | exact Dl.Sm.sub (by walk_at "sm") (by walk_at "sm") | exact Dl.Sm.neg (by walk_at "sm") | exact Dl.Sm.min (by walk_at "sm") (by walk_at "sm") | exact Dl.Sm.max (by walk_at "sm") (by walk_at "sm"))
local macro_rules | `(tactic| walk_at "mo")=>`(tactic| first | assumption | exact Dl.Zpc (Dl.Sm.of64 (by omega) (by omega)) | exact Dl.ZpG (Dl.Sm.of64 (by omega) (by omega)) | exact Dl.Zax (by walk_at "sm") (by walk_at "sm") (by decide))
local macro_rules | `(tactic| walk_at "lg")=>`(tactic| first | assumption | decide | exact Dl.Sm.log (by walk_at "sm") (by decide))
local macro_rules | `(tactic| walk_at "w1")=>`(tactic| first
 | ((with_reducible refine Dl.w_v' ?_);refine Dl.w_gC rfl ?_) | with_reducible refine Dl.w_o2 ?_ | with_reducible refine Dl.w_c ?_ | with_reducible refine Dl.w_on ?_ | with_reducible refine Dl.Zqh ?_ | with_reducible refine Dl.ZrZ ?_ | with_reducible refine Dl.w_sq ?_ | with_reducible refine Dl.w_gx ?_ | with_reducible refine Dl.w_st ?_ | with_reducible refine Dl.Zur ?_ | with_reducible refine Dl.ZuJ ?_ | with_reducible refine Dl.ZuE ?_
 | with_reducible refine Dl.ZtK ?_ | with_reducible refine Dl.w_sub ?_ | ((with_reducible refine Dl.w_mul ?_ ?_);walk_at "mo") | ((with_reducible refine Dl.w_mod ?_ ?_);(first | decide | omega)) | ((with_reducible refine Dl.w_div ?_ ?_ ?_);(first | decide | omega);walk_at "lg")
 | with_reducible refine Dl.w_lt ?_ | with_reducible refine Dl.w_le ?_ | with_reducible refine Dl.w_gt ?_ | with_reducible refine Dl.w_ge ?_ | with_reducible refine Dl.Zum ?_ | with_reducible refine Dl.Zvn ?_ | with_reducible refine Dl.Zt2 ?_ | with_reducible refine Dl.Zu5 ?_ | with_reducible refine Dl.ZrH ?_
 | with_reducible refine Dl.Zvm ?_ | with_reducible refine Dl.w_gr ?_ | with_reducible refine Dl.w_eR ?_ | with_reducible refine Dl.Zu1 ?_ | with_reducible refine Dl.ZuB ?_ | with_reducible refine Dl.ZuF ?_ | with_reducible refine Dl.w_fn ?_ | with_reducible refine Dl.w_o1 ?_ | with_reducible refine Dl.ZtT ?_ | with_reducible refine Dl.w_eOr ?_ | with_reducible refine Dl.Ztd ?_ | with_reducible refine Dl.Zu4 ?_ | with_reducible refine Dl.w_chain ?_
 | with_reducible refine Dl.ZpP ?_ | with_reducible refine Dl.Zqc ?_ | with_reducible refine Dl.Zub ?_ | with_reducible refine Dl.Zs2 ?_ | with_reducible refine Dl.Zvb ?_ | with_reducible refine Dl.w_max ?_ | with_reducible refine Dl.w_min ?_ | with_reducible refine Dl.Zsw ?_ | with_reducible refine Dl.w_tupT ?_ | with_reducible refine Dl.w_lstL ?_ | with_reducible refine Dl.Zsh ?_ | with_reducible refine Dl.Zus ?_
 | with_reducible refine Dl.ZqC ?_ | with_reducible refine Dl.ZuH ?_ | with_reducible refine Dl.Zvo ?_ | with_reducible refine Dl.ZsB ?_ | with_reducible refine Dl.ZsE ?_ | with_reducible refine Dl.ZrK ?_ | with_reducible refine Dl.w_iv ?_ | with_reducible refine Dl.ZuP ?_ | with_reducible refine Dl.ZuS ?_ | with_reducible refine Dl.w_r1 ?_ | ((with_reducible refine Dl.ZsR ?_ ?_);omega) | with_reducible refine Dl.w_gN ?_ | with_reducible refine Dl.Zul ?_ | with_reducible refine Dl.ZuQ ?_
 | ((with_reducible refine Dl.Zvi ?_ ?_);exact rfl) | ((with_reducible refine Dl.w_gUL ?_ ?_);exact rfl) | with_reducible refine Dl.Zuq ?_ | with_reducible refine Dl.Zva ?_ | with_reducible refine Dl.ZuN ?_ | with_reducible refine Dl.Zvh ?_ | with_reducible refine Dl.Zun ?_ | with_reducible refine Dl.Zuz ?_ | with_reducible refine Dl.ZtJ ?_ | with_reducible refine Dl.w_zipTL ?_ | with_reducible refine Dl.w_zipLT ?_ | with_reducible refine Dl.w_zipTT ?_ | with_reducible refine Dl.w_iz3 ?_ | with_reducible refine Dl.w_zip3T ?_ | with_reducible refine Dl.Zuc ?_ | with_reducible refine Dl.Zuj ?_ | with_reducible refine Dl.w_enum ?_ | with_reducible refine Dl.w_enum1 ?_ | with_reducible refine Dl.Zsv ?_
 | with_reducible refine Dl.w_retN ?_ | with_reducible refine Dl.w_eN ?_ | with_reducible refine Dl.w_brk ?_ | with_reducible refine Dl.ZuO ?_ | with_reducible refine Dl.w_gb ?_ | with_reducible refine Dl.w_gc ?_ | with_reducible refine Dl.ZuT ?_ | with_reducible refine Dl.Zr5 ?_ | with_reducible refine Dl.w_p6 ?_ | with_reducible refine Dl.w_p8 ?_ | with_reducible refine Dl.w_p20 ?_ | ((with_reducible refine Dl.w_pow ?_ ?_ ?_ ?_);decide;decide;decide) | ((with_reducible refine Dl.w_shl ?_ ?_ ?_ ?_);decide;decide;decide) | ((with_reducible refine Dl.w_shr ?_ ?_);omega) | with_reducible refine Dl.Zu3 ?_
 | with_reducible refine Dl.w_tx ?_ | with_reducible refine Dl.w_tc ?_ | with_reducible refine Dl.w_tb ?_ | with_reducible refine Dl.w_tr ?_ | with_reducible refine Dl.w_max3 ?_ | with_reducible refine Dl.w_sum ?_ | with_reducible refine Dl.w_rev ?_ | ((with_reducible refine Dl.Zvg ?_);refine Dl.w_gO rfl ?_) | ((with_reducible refine Dl.w_pk ?_);refine Dl.w_gO rfl ?_) | with_reducible refine Dl.Zu9 ?_ | with_reducible refine Dl.w_scB ?_ | with_reducible refine Dl.w_endT ?_ | with_reducible refine Dl.Zvl ?_ | with_reducible refine Dl.Zr0 ?_ | ((with_reducible refine Dl.Zr3 ?_);refine Dl.w_gO rfl ?_) | ((with_reducible refine Dl.ZrG ?_);refine Dl.w_gO rfl ?_) | ((with_reducible refine Dl.Zuk ?_);refine Dl.Zao rfl ?_) | ((with_reducible refine Dl.Zut ?_);refine Dl.Zao rfl ?_) | ((with_reducible refine Dl.w_lenr ?_);refine Dl.Zao rfl ?_) | with_reducible refine Dl.Zau ?_ | with_reducible refine Dl.Zak ?_)
local macro_rules | `(tactic| walk_at "wi")=>`(tactic| first | ((with_reducible refine Dl.Zmo ?_ ?_);exact rfl) | ((with_reducible refine Dl.Zl6 ?_ ?_);exact rfl) | ((with_reducible refine Dl.w_dT ?_ ?_);first | assumption | omega) | ((with_reducible refine Dl.w_dF ?_ ?_);first | assumption | omega) | ((with_reducible refine Dl.w_nT ?_ ?_);first | assumption | omega) | ((with_reducible refine Dl.w_nF ?_ ?_);first | assumption | omega))
local macro_rules | `(tactic| walk_at "wr")=>`(tactic| (refine Dl.Zao rfl ?_))
local macro_rules | `(tactic| walk_at "w")=>`(tactic| (repeat (first | walk_at "w1" | walk_at "wi"));try dsimp only [List.set_cons_zero,List.set_cons_succ,Dl.ev0,Dl.evF,Dl.noA,Dl.yav,Dl.imOf,List.getElem?_cons_zero,List.getElem?_cons_succ,Nat.reduceAdd,Nat.reduceSub])
namespace My
open PySem Dl
def objs:List Str:=["Plain", "Shaded", "Glass"]
def ZaD:List D→Res D:=fn 2
  (sq (ifs (trb (o2 dLt (v 1) (on bLen (Zaa (v 0) yaa))))
  (ret (o2 dIx (v 0) (v 1)))
  nop)
  (ret (c (.int 0))))
def Zal:List D→Res D:=fn 3
  (sq (ifs (bAnd (trb (o2 dGe (v 0) (o2 dShl (c (.int 1)) (c (.int 90))))) (bAnd (trb (o2 dEq (o2 yam (v 0) (c (.int 2))) (c (.int 1)))) (trb (o2 dGt (o2 dShr (v 0) (o2 yan (c (.int 1)) (o2 yaC (c (.int 31)) (v 1)))) (c (.int 0))))))
  (ret (o2 yam (o2 dShr (v 0) (o2 yan (c (.int 1)) (o2 yaC (c (.int 31)) (v 1)))) (c (.int 2147483648))))
  nop)
  (sq (st 2 (o2 yam (o2 yaC (o2 yan (o2 yan (v 0) (o2 yaC (c (.int 7919)) (v 1))) (c (.int 1))) (c (.int 48271))) (c (.int 2147483647))))
  (sq (st 2 (o2 yam (o2 yaC (v 2) (o2 yan (o2 ya0 (v 2) (c (.int 1009))) (c (.int 69621)))) (c (.int 2147483647))))
  (ret (o2 yam (o2 yaC (v 2) (o2 yan (o2 yan (o2 ya0 (v 2) (c (.int 2003))) (c (.int 39373))) (v 1))) (c (.int 2147483629)))))))
def Zaz:List D→Res D:=fn 14
  (sq (st 3 (on Zal (Zaa (v 0) (Zaa (o2 yan (o2 yaC (c (.int 20)) (v 1)) (c (.int 1))) yaa))))
  (sq (st 4 (on Zal (Zaa (v 0) (Zaa (o2 yan (o2 yaC (c (.int 20)) (v 1)) (c (.int 2))) yaa))))
  (sq (st 5 (on Zal (Zaa (v 0) (Zaa (o2 yan (o2 yaC (c (.int 20)) (v 1)) (c (.int 3))) yaa))))
  (sq (st 6 (on bTup (Zaa (comp (r1 (Zaa (v 2) yaa)) 1 [1,0] (gN 0) yes (o2 dSub (o2 yam (on Zal (Zaa (v 2) (Zaa (o2 yan (o2 yan (o2 yaC (c (.int 20)) (v 1)) (c (.int 5))) (v 0)) yaa))) (c (.int 2000001))) (o2 dPow (c (.int 10)) (c (.int 6))))) yaa)))
  (sq (ifs (trb (o2 dGt (o2 yam (v 3) (c (.int 16))) (c (.int 13))))
  (sq (st 7 (o2 yan (c (.int 1)) (o2 yam (on Zal (Zaa (v 0) (Zaa (o2 yan (o2 yaC (c (.int 20)) (v 1)) (c (.int 4))) yaa))) (o2 dPow (c (.int 10)) (c (.int 6))))))
  (ret (mtp (Zaa (o2 dSub (o2 yam (v 4) (c (.int 2000001))) (o2 dPow (c (.int 10)) (c (.int 6)))) (Zaa (o2 dSub (o2 yam (v 5) (c (.int 2000001))) (o2 dPow (c (.int 10)) (c (.int 6)))) (Zaa (o2 yan (c (.int 1)) (o2 yam (o2 ya0 (v 3) (c (.int 16))) (o2 dPow (c (.int 10)) (c (.int 6))))) (Zaa (v 7) (Zaa (v 6) yaa))))))))
  nop)
  (sq (ifs (trb (o2 dGt (o2 yam (v 3) (c (.int 16))) (c (.int 1))))
  (st 6 (on bTup (Zaa (comp (iv (v 6)) 1 [] (gN 0) yes (o2 dSub (o2 yam (v 0) (c (.int 301))) (c (.int 100)))) yaa)))
  nop)
  (sq (st 8 (o2 yan (c (.int 1)) (o2 yam (o2 ya0 (v 3) (c (.int 16))) (c (.int 6)))))
  (sq (st 9 (mtp (Zaa (o2 yaC (o2 dSub (o2 yam (v 4) (c (.int 16))) (c (.int 2))) (v 8)) (Zaa (o2 yaC (o2 dSub (o2 yam (o2 ya0 (v 4) (c (.int 16))) (c (.int 16))) (c (.int 2))) (v 8)) (Zaa (o2 yaC (c (.int 2)) (v 8)) yaa)))))
  (sq (st 10 (mtp (Zaa (o2 dSub (o2 yam (v 4) (c (.int 81))) (c (.int 20))) (Zaa (o2 dSub (o2 yam (o2 ya0 (v 4) (c (.int 81))) (c (.int 81))) (c (.int 20))) (Zaa (o2 yan (c (.int 1)) (o2 yam (o2 ya0 (v 3) (c (.int 16))) (c (.int 9)))) yaa)))))
  (sq (asg (gU 3 (gs1 (gN 11) (gs1 (gN 12) (gs1 (gN 13) gs0)))) (o2 dIx (mls (Zaa (v 9) (Zaa (v 9) (Zaa (v 9) (Zaa (v 10) yaa))))) (o2 yam (o2 ya0 (v 3) (c (.int 128))) (c (.int 4)))))
  (ret (mtp (Zaa (v 11) (Zaa (v 12) (Zaa (v 13) (Zaa (c (.int 1)) (Zaa (v 6) yaa)))))))))))))))))
def Zam:List D→Res D:=fn 5
  (sq (st 1 (c (.int 0)))
  (sq (for_ (iv (v 0)) (gN 2)
  (sq (st 3 (on bAbs (Zaa (v 2) yaa)))
  (whl fuel (trb (o2 dNe (v 3) (c (.int 0))))
  (sq (st 4 (o2 yam (v 1) (v 3)))
  (sq (st 1 (v 3))
  (st 3 (v 4)))))))
  (ret (v 1))))
def Zbc:List D→Res D:=fn 1
  (ret (o2 yan (on bLst (Zaa (cut (v 0) pno (pso (c (.int 4)))) yaa)) (on bLst (Zaa (o2 dIx (v 0) (c (.int 4))) yaa))))
def ZcN:List D→Res D:=fn 7
  (sq (st 4 (comp (iZip (Zaa (on Zbc (Zaa (v 0) yaa)) (Zaa (on Zbc (Zaa (v 1) yaa)) yaa))) 2 [3,2] (gU 2 (gs1 (gN 0) (gs1 (gN 1) gs0))) yes (o2 yan (o2 yaC (v 3) (v 0)) (o2 yaC (v 2) (v 1)))))
  (sq (st 5 (on Zam (Zaa (v 4) yaa)))
  (sq (st 6 (comp (iv (v 4)) 1 [5] (gN 0) yes (o2 ya0 (v 0) (v 1))))
  (ret (mtp (Zaa (o2 dIx (v 6) (c (.int 0))) (Zaa (o2 dIx (v 6) (c (.int 1))) (Zaa (o2 dIx (v 6) (c (.int 2))) (Zaa (o2 dIx (v 6) (c (.int 3))) (Zaa (on bTup (Zaa (cut (v 6) (pso (c (.int 4))) pno) yaa)) yaa))))))))))
def ZbF:List D→Res D:=fn 10
  (sq (st 2 (o2 yam (v 1) (on bLen (Zaa (v 0) yaa))))
  (sq (asg (gU 3 (gs1 (gN 3) (gs1 (gN 4) (gs1 (gN 5) gs0)))) (o2 dIx (v 0) (v 2)))
  (sq (st 6 (o2 yam (o2 ya0 (v 1) (c (.int 40))) (c (.int 4))))
  (sq (st 7 (o2 yam (o2 ya0 (v 1) (c (.int 160))) (c (.int 4))))
  (sq (st 8 (o2 yam (o2 ya0 (v 1) (c (.int 640))) (c (.int 4))))
  (sq (ifs (trb (o2 dEq (o2 yan (v 6) (v 7)) (c (.int 0))))
  (st 6 (c (.int 1)))
  nop)
  (sq (st 9 (on ZcN (Zaa (v 3) (Zaa (v 4) (Zaa (v 6) (Zaa (v 7) yaa))))))
  (sq (ifs (trb (o2 dGt (v 8) (c (.int 0))))
  (st 9 (on ZcN (Zaa (v 9) (Zaa (v 5) (Zaa (o2 yan (c (.int 1)) (o2 yam (o2 ya0 (v 1) (c (.int 2560))) (c (.int 3)))) (Zaa (v 8) yaa))))))
  nop)
  (ret (o2 yan (o2 yan (cut (v 0) pno (pso (v 2))) (mls (Zaa (mtp (Zaa (v 4) (Zaa (v 5) (Zaa (v 9) yaa)))) (Zaa (mtp (Zaa (v 3) (Zaa (v 4) (Zaa (v 9) yaa)))) (Zaa (mtp (Zaa (v 9) (Zaa (v 5) (Zaa (v 3) yaa)))) yaa))))) (cut (v 0) (pso (o2 yan (v 2) (c (.int 1)))) pno)))))))))))
def Zbe:List D→Res D:=fn 2
  (ret (o2 yan (cut (v 0) (pso (v 1)) pno) (cut (v 0) pno (pso (v 1)))))
def Zhz:List D→Res D:=fn 2
  (ret (o2 yan (o2 yan (o2 yan (o2 yaC (o2 dIx (v 0) (c (.int 0))) (o2 dIx (v 1) (c (.int 0)))) (o2 yaC (o2 dIx (v 0) (c (.int 1))) (o2 dIx (v 1) (c (.int 1))))) (o2 yaC (o2 dIx (v 0) (c (.int 2))) (o2 dIx (v 1) (c (.int 2))))) (o2 yaC (o2 dIx (v 0) (c (.int 3))) (o2 dIx (v 1) (c (.int 3))))))
def Zkg:List D→Res D:=fn 4
  (ret (on ZcN (Zaa (v 0) (Zaa (v 1) (Zaa (on bAbs (Zaa (v 3) yaa)) (Zaa (on bAbs (Zaa (v 2) yaa)) yaa))))))
def Zd7:List D→Res D:=fn 7
  (sq (st 2 (o2 dIx (v 0) (c (.int 0))))
  (sq (st 3 (o2 dIx (v 0) (c (.int 1))))
  (sq (st 4 (o2 dIx (v 0) (c (.int 2))))
  (sq (st 5 (on Zkg (Zaa (v 2) (Zaa (v 3) (Zaa (o2 dIx (v 1) (c (.int 0))) (Zaa (o2 dIx (v 1) (c (.int 1))) yaa))))))
  (sq (st 6 (on Zkg (Zaa (v 4) (Zaa (v 2) (Zaa (o2 dIx (v 1) (c (.int 2))) (Zaa (o2 dIx (v 1) (c (.int 0))) yaa))))))
  (ret (mls (Zaa (mtp (Zaa (v 2) (Zaa (v 5) (Zaa (v 6) yaa)))) (Zaa (mtp (Zaa (v 5) (Zaa (v 3) (Zaa (v 4) yaa)))) (Zaa (mtp (Zaa (v 5) (Zaa (v 4) (Zaa (v 6) yaa)))) yaa))))))))))
def ZkE:List D→Res D:=fn 7
  (sq (st 2 (comp (iv (v 0)) 1 [1] (gN 0) yes (on Zhz (Zaa (v 1) (Zaa (v 0) yaa)))))
  (sq (st 3 (comp (iv (v 2)) 1 [] (gN 0) yes (o2 dGe (v 0) (c (.int 0)))))
  (sq (ifs (trb (on bAll (Zaa (v 3) yaa)))
  (ret (mtp (Zaa (mls (Zaa (v 0) yaa)) (Zaa (mls yaa) yaa))))
  nop)
  (sq (ifs (bNot (trb (on bAny (Zaa (v 3) yaa))))
  (ret (mtp (Zaa (mls yaa) (Zaa (mls (Zaa (v 0) yaa)) yaa))))
  nop)
  (sq (st 4 (o2 dEq (mLst cntD (v 3) (c (.bl true))) (c (.int 1))))
  (sq (st 5 (mLst idxD (v 3) (v 4)))
  (sq (st 6 (on Zd7 (Zaa (on Zbe (Zaa (v 0) (Zaa (v 5) yaa))) (Zaa (on Zbe (Zaa (v 2) (Zaa (v 5) yaa))) yaa))))
  (sq (ifs (trb (v 4))
  (ret (mtp (Zaa (cut (v 6) pno (pso (c (.int 1)))) (Zaa (cut (v 6) (pso (c (.int 1))) pno) yaa))))
  nop)
  (ret (mtp (Zaa (cut (v 6) (pso (c (.int 1))) pno) (Zaa (cut (v 6) pno (pso (c (.int 1)))) yaa))))))))))))
def Za1:List D→Res D:=fn 8
  (sq (ifs (trb (o2 dEq (o2 yam (on Zal (Zaa (v 1) (Zaa (c (.int 60)) yaa))) (c (.int 4))) (c (.int 1))))
  (sq (st 2 (on Zal (Zaa (v 1) (Zaa (c (.int 61)) yaa))))
  (sq (st 3 (mtp (Zaa (o2 dSub (o2 yam (v 2) (c (.int 9))) (c (.int 4))) (Zaa (o2 dSub (o2 yam (o2 ya0 (v 2) (c (.int 9))) (c (.int 9))) (c (.int 4))) (Zaa (o2 dSub (o2 yam (o2 ya0 (v 2) (c (.int 81))) (c (.int 9))) (c (.int 4))) (Zaa (o2 dSub (o2 yam (o2 ya0 (v 2) (c (.int 729))) (c (.int 61))) (c (.int 30))) yaa))))))
  (sq (ifs (trb (o2 dEq (o2 yam (o2 ya0 (v 2) (c (.int 50000))) (c (.int 2))) (c (.int 1))))
  (st 3 (on bTup (Zaa (comp (r1 (Zaa (c (.int 4)) yaa)) 1 [1] (gN 0) yes (o2 dSub (o2 yam (on Zal (Zaa (v 1) (Zaa (o2 yan (c (.int 72)) (v 0)) yaa))) (c (.int 2000001))) (o2 dPow (c (.int 10)) (c (.int 6))))) yaa)))
  nop)
  (sq (asg (gU 2 (gs1 (gN 4) (gs1 (gN 5) gs0))) (on ZkE (Zaa (v 0) (Zaa (v 3) yaa))))
  (ret (o2 yan (v 5) (v 4)))))))
  nop)
  (sq (st 6 (mls (Zaa (v 0) yaa)))
  (sq (for_ (r1 (Zaa (o2 yam (on Zal (Zaa (v 1) (Zaa (c (.int 62)) yaa))) (c (.int 7))) yaa)) (gN 7)
  (st 6 (on ZbF (Zaa (v 6) (Zaa (on Zal (Zaa (v 1) (Zaa (o2 yan (c (.int 63)) (v 7)) yaa))) yaa)))))
  (ret (v 6)))))
def ZbG:List D→Res D:=fn 1
  (sq (ifs (trb (o2 dEq (o2 yam (v 0) (c (.int 3))) (c (.int 0))))
  (ret (mtp (Zaa (o2 dSub (o2 yam (o2 ya0 (v 0) (c (.int 3))) (c (.int 90))) (c (.int 8))) (Zaa (o2 dSub (o2 yam (o2 ya0 (v 0) (c (.int 270))) (c (.int 90))) (c (.int 8))) (Zaa (o2 yan (c (.int 1)) (o2 yam (o2 ya0 (v 0) (c (.int 24300))) (c (.int 9)))) yaa)))))
  nop)
  (ret (mtp (Zaa (o2 yan (o2 yaC (c (.int 2)) (o2 yam (o2 ya0 (v 0) (c (.int 3))) (c (.int 8)))) (c (.int 1))) (Zaa (o2 yan (o2 yaC (c (.int 2)) (o2 yam (o2 ya0 (v 0) (c (.int 24))) (c (.int 8)))) (c (.int 1))) (Zaa (c (.int 2)) yaa))))))
def Zaq:List D→Res D:=fn 2
  (for_ (iv (v 0)) (gN 1)
  (ifs (trb (o2 dLe (o2 dIx (v 1) (c (.int 2))) (c (.int 0))))
  (rse "BadTriangle" (Zaa (c (.str "only corners with w above 0 are thrown onto the floor")) yaa))
  nop))
def ZaB:List D→Res D:=fn 1
  (ret (eAnd (on bIsi (Zaa (v 0) (Zaa (c (.ty "int")) yaa))) (eNot (on bIsi (Zaa (v 0) (Zaa (c (.ty "bool")) yaa))))))
def ZbL:List D→Res D:=fn 1
  (sq (ifs (bOr (bNot (trb (on bIsi (Zaa (v 0) (Zaa (c (.ty "tuple")) yaa))))) (trb (o2 dGt (on bLen (Zaa (v 0) yaa)) (c (.int 3)))))
  (ret (c (.bl false)))
  nop)
  (ret (on bAll (Zaa (comp (iv (v 0)) 1 [] (gN 0) yes (on ZaB (Zaa (v 0) yaa))) yaa))))
def Zb1:List D→Res D:=fn 1
  (sq (ifs (bOr (bNot (trb (on bIsi (Zaa (v 0) (Zaa (c (.ty "tuple")) yaa))))) (trb (o2 dNe (on bLen (Zaa (v 0) yaa)) (c (.int 5)))))
  (ret (c (.bl false)))
  nop)
  (sq (ifs (bNot (trb (on bAll (Zaa (comp (iv (cut (v 0) pno (pso (c (.int 4))))) 1 [] (gN 0) yes (on ZaB (Zaa (v 0) yaa))) yaa))))
  (ret (c (.bl false)))
  nop)
  (ret (eAnd (o2 dGe (o2 dIx (v 0) (c (.int 3))) (c (.int 1))) (on ZbL (Zaa (o2 dIx (v 0) (c (.int 4))) yaa))))))
def ZaS:List D→Res D:=fn 2
  (sq (ifs (bOr (bNot (trb (on bIsi (Zaa (v 0) (Zaa (c (.ty "tuple")) yaa))))) (trb (o2 dNe (on bLen (Zaa (v 0) yaa)) (c (.int 3)))))
  (rse "BadTriangle" (Zaa (c (.str "a triangle is a tuple of three corners")) yaa))
  nop)
  (for_ (iv (v 0)) (gN 1)
  (sq (ifs (bNot (trb (on Zb1 (Zaa (v 1) yaa))))
  (rse "BadTriangle" (Zaa (c (.str "a corner is a tuple (x, y, w, h, values) of whole numbers, h from 1 on")) yaa))
  nop)
  (ifs (trb (o2 dNe (on bLen (Zaa (o2 dIx (v 1) (c (.int 4))) yaa)) (on bLen (Zaa (o2 dIx (o2 dIx (v 0) (c (.int 0))) (c (.int 4))) yaa))))
  (rse "BadTriangle" (Zaa (c (.str "the corners of a triangle have as many values each")) yaa))
  nop))))
def Zcl:List D→Fs→Res Fs:=fnI 2
  (iDrp (on ZaS (Zaa (v 1) yaa))
  (iDrp (on Zaq (Zaa (v 1) yaa))
  (iSet "triangle" (v 1)
  iEnd)))
def ZaO:List D→Res D:=fn 1
  (sq (ifs (bOr (bNot (trb (on bIsi (Zaa (v 0) (Zaa (c (.ty "tuple")) yaa))))) (trb (o2 dNe (on bLen (Zaa (v 0) yaa)) (c (.int 2)))))
  (ret (c (.bl false)))
  nop)
  (sq (ifs (bOr (bNot (trb (on ZaB (Zaa (o2 dIx (v 0) (c (.int 0))) yaa)))) (bNot (trb (on ZaB (Zaa (o2 dIx (v 0) (c (.int 1))) yaa)))))
  (ret (c (.bl false)))
  nop)
  (ret (eAnd (o2 dGe (o2 dIx (v 0) (c (.int 1))) (c (.int 1))) (o2 dEq (on Zam (Zaa (v 0) yaa)) (c (.int 1)))))))
def ZaK:List D→Res D:=fn 1
  (ifs (bNot (trb (on ZaO (Zaa (v 0) yaa))))
  (rse "BadThing" (Zaa (c (.str "a colour is a fraction in lowest terms")) yaa))
  nop)
def ZbK:List D→Res D:=fn 1
  (ifs (bOr (bNot (trb (on ZaO (Zaa (v 0) yaa)))) (bOr (trb (o2 dLt (o2 dIx (v 0) (c (.int 0))) (c (.int 0)))) (trb (o2 dGt (o2 dIx (v 0) (c (.int 0))) (o2 dIx (v 0) (c (.int 1)))))))
  (rse "BadThing" (Zaa (c (.str "a part is a fraction in lowest terms, from 0 to 1")) yaa))
  nop)
def ZdU:List D→Fs→Res Fs:=fnI 4
  (iSup Zcl (Zaa (v 1) yaa)
  (iDrp (on ZaK (Zaa (v 2) yaa))
  (iDrp (on ZbK (Zaa (v 3) yaa))
  (iSet "colour" (v 2)
  (iSet "part" (v 3)
  iEnd)))))
def ZdW:List D→Fs→Res Fs:=fnI 3
  (iSup Zcl (Zaa (v 1) yaa)
  (iDrp (on ZaK (Zaa (v 2) yaa))
  (iSet "colour" (v 2)
  iEnd)))
def Za6:List D→Res D:=fn 2
  (ifs (trb (o2 dLt (on bLen (Zaa (o2 dIx (o2 dIx (v 0) (c (.int 0))) (c (.int 4))) yaa)) (v 1)))
  badS
  nop)
def ZcF:List D→Fs→Res Fs:=fnI 2
  (iSup Zcl (Zaa (v 1) yaa)
  (iDrp (on Za6 (Zaa (v 1) (Zaa (c (.int 1)) yaa)))
  iEnd))
def Za2:List D→Res D:=fn 4
  (sq (st 2 (v 0))
  (sq (st 3 (v 1))
  (sq (whl fuel (trb (o2 dNe (v 3) (c (.int 0))))
  (par 2 3 (v 3) (o2 yam (v 2) (v 3))))
  (ret (mtp (Zaa (o2 ya0 (v 0) (on bAbs (Zaa (v 2) yaa))) (Zaa (o2 ya0 (v 1) (on bAbs (Zaa (v 2) yaa))) yaa)))))))
def ZaG:List D→Res D:=fn 6
  (sq (st 2 (on Zal (Zaa (v 1) (Zaa (c (.int 80)) yaa))))
  (sq (st 3 (on Za2 (Zaa (o2 dSub (o2 yam (on Zal (Zaa (v 1) (Zaa (c (.int 81)) yaa))) (c (.int 2001))) (c (.int 1000))) (Zaa (o2 yan (c (.int 1)) (o2 yam (o2 ya0 (v 2) (c (.int 5))) (c (.int 12)))) yaa))))
  (sq (st 4 (o2 yan (c (.int 1)) (o2 yam (o2 ya0 (v 2) (c (.int 60))) (c (.int 16)))))
  (sq (st 5 (on Za2 (Zaa (o2 yam (o2 ya0 (v 2) (c (.int 960))) (o2 yan (v 4) (c (.int 1)))) (Zaa (v 4) yaa))))
  (sq (ifs (trb (o2 dLt (o2 yam (v 2) (c (.int 5))) (c (.int 2))))
  (ret (make "Shaded" ZcF (Zaa (v 0) yaa)))
  nop)
  (sq (ifs (trb (o2 dEq (o2 yam (v 2) (c (.int 5))) (c (.int 2))))
  (ret (make "Plain" ZdW (Zaa (v 0) (Zaa (v 3) yaa))))
  nop)
  (ret (make "Glass" ZdU (Zaa (v 0) (Zaa (v 3) (Zaa (v 5) yaa)))))))))))
def Zcg:List D→Res D:=fn 2
  (ret (o1 (dFld objs "colour") (v 0)))
def Zbl:List D→Res D:=fn 2
  (ret (o1 (dFld objs "colour") (v 0)))
def Za9:List D→Res D:=fn 2
  (ret (o2 dIx (v 1) (c (.int 0))))
def ZaY:List (Str×(List D→Res D)):=[("Plain", Zbl),("Shaded", Za9),("Glass", Zcg)]
def Za5:List D→Res D:=fn 3
  (sq (st 2 (on Zam (Zaa (mls (Zaa (v 0) (Zaa (v 1) yaa))) yaa)))
  (sq (ifs (trb (o2 dLt (v 1) (c (.int 0))))
  (st 2 (o1 dNeg (v 2)))
  nop)
  (ret (mtp (Zaa (o2 ya0 (v 0) (v 2)) (Zaa (o2 ya0 (v 1) (v 2)) yaa))))))
def ZeC:List D→Res D:=fn 2
  (ret (on Za5 (Zaa (o2 dSub (o2 yaC (o2 dIx (v 0) (c (.int 0))) (o2 dIx (v 1) (c (.int 1)))) (o2 yaC (o2 dIx (v 1) (c (.int 0))) (o2 dIx (v 0) (c (.int 1))))) (Zaa (o2 yaC (o2 dIx (v 0) (c (.int 1))) (o2 dIx (v 1) (c (.int 1)))) yaa))))
def Zej:List D→Res D:=fn 2
  (ret (on Za5 (Zaa (o2 yan (o2 yaC (o2 dIx (v 0) (c (.int 0))) (o2 dIx (v 1) (c (.int 1)))) (o2 yaC (o2 dIx (v 1) (c (.int 0))) (o2 dIx (v 0) (c (.int 1))))) (Zaa (o2 yaC (o2 dIx (v 0) (c (.int 1))) (o2 dIx (v 1) (c (.int 1)))) yaa))))
def Zcy:List D→Res D:=fn 2
  (ret (on Za5 (Zaa (o2 yaC (o2 dIx (v 0) (c (.int 0))) (o2 dIx (v 1) (c (.int 0)))) (Zaa (o2 yaC (o2 dIx (v 0) (c (.int 1))) (o2 dIx (v 1) (c (.int 1)))) yaa))))
def Zbx:List D→Res D:=fn 3
  (sq (st 2 (on ZeC (Zaa (mtp (Zaa (c (.int 1)) (Zaa (c (.int 1)) yaa))) (Zaa (o1 (dFld objs "part") (v 0)) yaa))))
  (ret (on Zej (Zaa (on Zcy (Zaa (o1 (dFld objs "part") (v 0)) (Zaa (o1 (dFld objs "colour") (v 0)) yaa))) (Zaa (on Zcy (Zaa (v 2) (Zaa (v 1) yaa))) yaa)))))
def ZbA:List D→Res D:=fn 1
  (ret (c (.bl true)))
def ZaM:List D→Res D:=fn 1
  (ret (c (.bl false)))
def ZaW:List (Str×(List D→Res D)):=[("Plain", ZaM),("Shaded", ZaM),("Glass", ZbA)]
def ZcJ:List D→Res D:=fn 2
  (ret (o2 dLt (o2 yaC (o2 dIx (v 0) (c (.int 0))) (o2 dIx (v 1) (c (.int 1)))) (o2 yaC (o2 dIx (v 1) (c (.int 0))) (o2 dIx (v 0) (c (.int 1))))))
def ZaZ:List D→Res D:=fn 5
  (sq (stO 2 (mls yaa))
  (sq (for_ (iv (v 1)) (gN 3)
  (ifs (bAnd (trb (meth ZaW "is_glass" (o2 dIx (v 3) (c (.int 0))) yaa)) (bOr (trb (o1 dIsN (v 0))) (trb (on ZcJ (Zaa (o2 dIx (v 3) (c (.int 1))) (Zaa (o2 dIx (v 0) (c (.int 1))) yaa))))))
  (sq (st 4 (pk 2 (on bLen (Zaa (comp (iv (v 2)) 1 [3] (gN 0) (trb (on ZcJ (Zaa (o2 dIx (v 1) (c (.int 1))) (Zaa (o2 dIx (v 0) (c (.int 1))) yaa)))) (v 0)) yaa))))
  (insO 2 (v 4) (v 3)))
  nop))
  (frz 2 (ret (v 2)))))
def ZbH:List D→Res D:=fn 3
  (sq (st 1 (c .non))
  (sq (for_ (iv (v 0)) (gN 2)
  (sq (ifs (trb (meth ZaW "is_glass" (o2 dIx (v 2) (c (.int 0))) yaa))
  cnt
  nop)
  (ifs (bOr (trb (o1 dIsN (v 1))) (trb (on ZcJ (Zaa (o2 dIx (v 2) (c (.int 1))) (Zaa (o2 dIx (v 1) (c (.int 1))) yaa)))))
  (st 1 (v 2))
  nop)))
  (ret (v 1))))
def ZaX:List D→Res D:=fn 5
  (sq (st 2 (on ZbH (Zaa (v 0) yaa)))
  (sq (st 3 (v 1))
  (sq (ifs (trb (o1 Zmk (v 2)))
  (st 3 (meth ZaY "colour_at" (o2 dIx (v 2) (c (.int 0))) (Zaa (o2 dIx (v 2) (c (.int 2))) yaa)))
  nop)
  (sq (for_ (iv (on ZaZ (Zaa (v 2) (Zaa (v 0) yaa)))) (gN 4)
  (st 3 (on Zbx (Zaa (o2 dIx (v 4) (c (.int 0))) (Zaa (v 3) yaa)))))
  (ret (v 3))))))
def Zai:List D→Res D:=fn 2
  (ret (o2 yan (o2 yan (o2 yaC (o2 dIx (v 0) (c (.int 0))) (o2 dIx (v 1) (c (.int 0)))) (o2 yaC (o2 dIx (v 0) (c (.int 1))) (o2 dIx (v 1) (c (.int 1))))) (o2 yaC (o2 dIx (v 0) (c (.int 2))) (o2 dIx (v 1) (c (.int 2))))))
def ZbW:List D→Res D:=fn 2
  (ret (on Zai (Zaa (comp (iv (v 0)) 1 [] (gN 0) yes (o2 dIx (v 0) (c (.int 3)))) (Zaa (v 1) yaa))))
def ZaI:List D→Res D:=fn 5
  (sq (st 2 (on ZbW (Zaa (v 0) (Zaa (v 1) yaa))))
  (sq (st 3 (on Za5 (Zaa (on Zai (Zaa (comp (iv (v 0)) 1 [] (gN 0) yes (o2 dIx (v 0) (c (.int 2)))) (Zaa (v 1) yaa))) (Zaa (v 2) yaa))))
  (sq (st 4 (on lz3 (Zaa (o2 dIx (o2 dIx (v 0) (c (.int 0))) (c (.int 4))) (Zaa (o2 dIx (o2 dIx (v 0) (c (.int 1))) (c (.int 4))) (Zaa (o2 dIx (o2 dIx (v 0) (c (.int 2))) (c (.int 4))) yaa)))))
  (ret (mtp (Zaa (v 3) (Zaa (on bTup (Zaa (comp (iv (v 4)) 1 [2,1] (gN 0) yes (on Za5 (Zaa (on Zai (Zaa (v 0) (Zaa (v 2) yaa))) (Zaa (v 1) yaa)))) yaa)) yaa)))))))
def ZaL:List D→Res D:=fn 2
  (ret (mtp (Zaa (o2 dSub (o2 yaC (o2 dIx (v 0) (c (.int 1))) (o2 dIx (v 1) (c (.int 2)))) (o2 yaC (o2 dIx (v 0) (c (.int 2))) (o2 dIx (v 1) (c (.int 1))))) (Zaa (o2 dSub (o2 yaC (o2 dIx (v 0) (c (.int 2))) (o2 dIx (v 1) (c (.int 0)))) (o2 yaC (o2 dIx (v 0) (c (.int 0))) (o2 dIx (v 1) (c (.int 2))))) (Zaa (o2 dSub (o2 yaC (o2 dIx (v 0) (c (.int 0))) (o2 dIx (v 1) (c (.int 1)))) (o2 yaC (o2 dIx (v 0) (c (.int 1))) (o2 dIx (v 1) (c (.int 0))))) yaa)))))
def Zf4:List D→Res D:=fn 5
  (sq (st 3 (on ZaL (Zaa (v 0) (Zaa (v 1) yaa))))
  (sq (for_ (iv (mtp (Zaa (on Zai (Zaa (v 3) (Zaa (v 2) yaa))) (Zaa (o2 dIx (v 3) (c (.int 0))) (Zaa (o2 dIx (v 3) (c (.int 1))) yaa))))) (gN 4)
  (ifs (trb (o2 dNe (v 4) (c (.int 0))))
  (ret (ife (trb (o2 dGt (v 4) (c (.int 0)))) (c (.int 1)) (o1 dNeg (c (.int 1)))))
  nop))
  (ret (c (.int 0)))))
def Zk0:List D→Res D:=fn 3
  (sq (drp (on Zaq (Zaa (v 0) yaa)))
  (sq (st 2 (on Zf4 (Zaa (o2 dIx (v 0) (c (.int 0))) (Zaa (o2 dIx (v 0) (c (.int 1))) (Zaa (v 1) yaa)))))
  (sq (ifs (bOr (trb (o2 dNe (on Zf4 (Zaa (o2 dIx (v 0) (c (.int 1))) (Zaa (o2 dIx (v 0) (c (.int 2))) (Zaa (v 1) yaa)))) (v 2))) (trb (o2 dNe (on Zf4 (Zaa (o2 dIx (v 0) (c (.int 2))) (Zaa (o2 dIx (v 0) (c (.int 0))) (Zaa (v 1) yaa)))) (v 2))))
  (ret (c (.int 0)))
  nop)
  (ret (v 2)))))
def Zbu:List D→Res D:=fn 3
  (ret (on Zai (Zaa (on ZaL (Zaa (v 0) (Zaa (v 1) yaa))) (Zaa (v 2) yaa))))
def Zc8:List D→Res D:=fn 2
  (ret (mtp (Zaa (on Zbu (Zaa (o2 dIx (v 0) (c (.int 1))) (Zaa (o2 dIx (v 0) (c (.int 2))) (Zaa (v 1) yaa)))) (Zaa (on Zbu (Zaa (o2 dIx (v 0) (c (.int 2))) (Zaa (o2 dIx (v 0) (c (.int 0))) (Zaa (v 1) yaa)))) (Zaa (on Zbu (Zaa (o2 dIx (v 0) (c (.int 0))) (Zaa (o2 dIx (v 0) (c (.int 1))) (Zaa (v 1) yaa)))) yaa)))))
def Zaw:List D→Res D:=fn 2
  (sq (ifs (trb (o2 dEq (on Zk0 (Zaa (v 0) (Zaa (v 1) yaa))) (c (.int 0))))
  (ret (c .non))
  nop)
  (ret (on ZaI (Zaa (v 0) (Zaa (on Zc8 (Zaa (v 0) (Zaa (v 1) yaa))) yaa)))))
def ZaV:List D→Res D:=fn 5
  (sq (stO 2 (mls yaa))
  (sq (for_ (iv (v 0)) (gN 3)
  (sq (st 4 (on Zaw (Zaa (o1 (dFld objs "triangle") (v 3)) (Zaa (v 1) yaa))))
  (ifs (trb (o1 Zmk (v 4)))
  (app 2 (mtp (Zaa (v 3) (Zaa (o2 dIx (v 4) (c (.int 0))) (Zaa (o2 dIx (v 4) (c (.int 1))) yaa)))))
  nop)))
  (frz 2 (ret (v 2)))))
def Za0:List D→Res D:=fn 3
  (ret (on ZaX (Zaa (on ZaV (Zaa (v 0) (Zaa (v 1) yaa))) (Zaa (v 2) yaa))))
def ZaH:List D→Res D:=fn 3
  (ret (eAnd (on ZaB (Zaa (v 0) yaa)) (eAnd (o2 dGe (v 0) (v 1)) (o2 dLe (v 0) (v 2)))))
def Zbj:List D→Res D:=fn 2
  (ifs (bOr (bNot (trb (on ZaH (Zaa (v 0) (Zaa (c (.int 1)) (Zaa (c (.int 64)) yaa)))))) (bNot (trb (on ZaH (Zaa (v 1) (Zaa (c (.int 1)) (Zaa (c (.int 64)) yaa)))))))
  (rse "BadFloor" (Zaa (c (.str "a floor has 1 to 64 cells in a row, and 1 to 64 rows")) yaa))
  nop)
def Za7:List D→Res D:=fn 1
  (ret (ife (trb (o1 dIsN (v 0))) (mtp (Zaa (c (.int 0)) (Zaa (c (.int 1)) yaa))) (v 0)))
def Zc7:List D→Res D:=fn 3
  (sq (st 1 (mtp (Zaa (c (.int 0)) (Zaa (c (.int 1)) yaa))))
  (sq (for_ (iv (v 0)) (gN 2)
  (st 1 (on Zej (Zaa (v 1) (Zaa (v 2) yaa)))))
  (ret (on Za5 (Zaa (o2 dIx (v 1) (c (.int 0))) (Zaa (o2 yaC (o2 dIx (v 1) (c (.int 1))) (on bLen (Zaa (v 0) yaa))) yaa))))))
def Zbp:List D→Res D:=fn 2
  (ret (on Zc7 (Zaa (comp (iv (v 0)) 1 [1] (gN 0) yes (on ZaX (Zaa (v 0) (Zaa (v 1) yaa)))) yaa)))
def Zep:List D→Res D:=fn 3
  (ret (mtp (Zaa (o2 yan (o2 yaC (c (.int 8)) (v 0)) (o2 dIx (v 2) (c (.int 0)))) (Zaa (o2 yan (o2 yaC (c (.int 8)) (v 1)) (o2 dIx (v 2) (c (.int 1)))) (Zaa (c (.int 8)) yaa)))))
def ZbU:List D→Res D:=fn 4
  (ret (ZiI (iv (v 3)) 1 [0,2,1] (gN 0) yes (on ZaV (Zaa (v 1) (Zaa (on Zep (Zaa (v 3) (Zaa (v 2) (Zaa (v 0) yaa)))) yaa)))))
def ZbR:List D→Res D:=fn 5
  (ret (ZiI (r1 (Zaa (v 1) yaa)) 1 [0,3,2,4] (gN 0) yes (on Zbp (Zaa (on ZbU (Zaa (v 1) (Zaa (v 0) (Zaa (v 3) (Zaa (v 2) yaa))))) (Zaa (v 4) yaa)))))
def Zda:List D→Res D:=fn 1
  (sq (ifs (bOr (bNot (trb (on bIsi (Zaa (v 0) (Zaa (c (.ty "tuple")) yaa))))) (trb (o2 dNe (on bLen (Zaa (v 0) yaa)) (c (.int 2)))))
  (ret (c (.bl false)))
  nop)
  (ret (eAnd (on ZaH (Zaa (o2 dIx (v 0) (c (.int 0))) (Zaa (c (.int 1)) (Zaa (c (.int 7)) yaa)))) (on ZaH (Zaa (o2 dIx (v 0) (c (.int 1))) (Zaa (c (.int 1)) (Zaa (c (.int 7)) yaa)))))))
def Zbg:List D→Res D:=fn 1
  (sq (ifs (bOr (bNot (trb (on bIsi (Zaa (v 0) (Zaa (c (.ty "list")) yaa))))) (bOr (trb (o2 dLt (on bLen (Zaa (v 0) yaa)) (c (.int 1)))) (trb (o2 dGt (on bLen (Zaa (v 0) yaa)) (c (.int 16))))))
  (rse "BadFloor" (Zaa (c (.str "spots are a list of 1 to 16 tuples")) yaa))
  nop)
  (sq (ifs (bNot (trb (on bAll (Zaa (comp (iv (v 0)) 1 [] (gN 0) yes (on Zda (Zaa (v 0) yaa))) yaa))))
  (rse "BadFloor" (Zaa (c (.str "a spot is a tuple of two whole numbers from 1 to 7")) yaa))
  nop)
  (ifs (trb (o2 dNe (o1 ZgW (v 0)) (on bLen (Zaa (v 0) yaa))))
  (rse "BadFloor" (Zaa (c (.str "the spots of a list are all unlike")) yaa))
  nop)))
def Zar:List D→Res D:=fn 1
  (sq (ifs (trb (o1 dIsN (v 0)))
  (ret (mls (Zaa (mtp (Zaa (c (.int 4)) (Zaa (c (.int 4)) yaa))) yaa)))
  nop)
  (sq (drp (on Zbg (Zaa (v 0) yaa)))
  (ret (v 0))))
def ZdQ:List D→Res D:=fn 7
  (sq (drp (on Zbj (Zaa (v 1) (Zaa (v 2) yaa))))
  (sq (st 5 (on Zar (Zaa (v 3) yaa)))
  (sq (st 6 (on Za7 (Zaa (v 4) yaa)))
  (ret (ZiI (r1 (Zaa (v 2) yaa)) 1 [1,0,5,6] (gN 0) yes (on ZbR (Zaa (v 2) (Zaa (v 1) (Zaa (v 0) (Zaa (v 3) (Zaa (v 4) yaa)))))))))))
def Zp6:List D→Res D:=fn 15
  (sq (stO 1 (mls yaa))
  (sq (stO 2 (mls yaa))
  (sq (st 3 (mls yaa))
  (sq (for_ (iv (o2 yan (mls (Zaa (on ZaD (Zaa (v 0) (Zaa (c (.int 0)) yaa))) yaa)) (cut (v 0) (pso (c (.int 4))) (pso (c (.int 6)))))) (gN 4)
  (sq (st 5 (mtp (Zaa (on Zaz (Zaa (v 4) (Zaa (c (.int 0)) (Zaa (c (.int 1)) yaa)))) (Zaa (on Zaz (Zaa (v 4) (Zaa (c (.int 1)) (Zaa (c (.int 1)) yaa)))) (Zaa (on Zaz (Zaa (v 4) (Zaa (c (.int 2)) (Zaa (c (.int 1)) yaa)))) yaa)))))
  (sq (app 1 (on ZaG (Zaa (v 5) (Zaa (v 4) yaa))))
  (for_ (iv (on Za1 (Zaa (v 5) (Zaa (v 4) yaa)))) (gN 6)
  (sq (app 2 (on ZaG (Zaa (v 6) (Zaa (v 4) yaa))))
  (st 3 (o2 yan (v 3) (comp (iv (v 6)) 1 [] (gN 0) yes (cut (v 0) pno (pso (c (.int 3))))))))))))
  (sq (st 7 (on ZaD (Zaa (v 0) (Zaa (c (.int 1)) yaa))))
  (sq (st 8 (o2 yan (c (.int 1)) (o2 yam (v 7) (c (.int 4)))))
  (sq (st 9 (o2 yan (c (.int 1)) (o2 yam (o2 ya0 (v 7) (c (.int 4))) (c (.int 4)))))
  (sq (st 10 (mls (Zaa (c .non) (Zaa (mls (Zaa (mtp (Zaa (c (.int 4)) (Zaa (c (.int 4)) yaa))) yaa)) (Zaa (mls (Zaa (mtp (Zaa (c (.int 2)) (Zaa (c (.int 2)) yaa))) (Zaa (mtp (Zaa (c (.int 6)) (Zaa (c (.int 6)) yaa))) yaa))) (Zaa (mls (Zaa (mtp (Zaa (c (.int 1)) (Zaa (c (.int 3)) yaa))) (Zaa (mtp (Zaa (c (.int 4)) (Zaa (c (.int 4)) yaa))) (Zaa (mtp (Zaa (c (.int 7)) (Zaa (c (.int 2)) yaa))) yaa)))) (Zaa (mls (Zaa (mtp (Zaa (c (.int 2)) (Zaa (c (.int 2)) yaa))) (Zaa (mtp (Zaa (c (.int 6)) (Zaa (c (.int 2)) yaa))) (Zaa (mtp (Zaa (c (.int 2)) (Zaa (c (.int 6)) yaa))) (Zaa (mtp (Zaa (c (.int 6)) (Zaa (c (.int 6)) yaa))) yaa))))) yaa)))))))
  (sq (st 11 (o2 dIx (v 10) (o2 yam (o2 ya0 (v 7) (c (.int 16))) (c (.int 5)))))
  (sq (st 12 (mtp (Zaa (o2 dSub (o2 yam (on ZaD (Zaa (v 0) (Zaa (c (.int 2)) yaa))) (c (.int 19))) (c (.int 9))) (Zaa (c (.int 1)) yaa))))
  (sq (ifs (pkB 2 (pkB 1 (trb (o2 dNe (on ZdQ (Zaa (v 2) (Zaa (v 8) (Zaa (v 9) (Zaa (v 11) (Zaa (v 12) yaa)))))) (on ZdQ (Zaa (v 1) (Zaa (v 8) (Zaa (v 9) (Zaa (v 11) (Zaa (v 12) yaa))))))))))
  (ret (c (.bl false)))
  nop)
  (sq (st 3 (comp (iv (v 3)) 1 [] (gN 0) (trb (o2 dLe (on Znw (Zaa (comp (iv (v 0)) 1 [] (gN 0) yes (on bAbs (Zaa (v 0) yaa))) yaa)) (o2 dPow (c (.int 10)) (c (.int 8))))) (v 0)))
  (sq (st 13 (o2 yan (cut (v 3) pno (pso (c (.int 12)))) (comp (r1 (Zaa (c (.int 8)) yaa)) 1 [0] (gN 0) yes (on ZbG (Zaa (on Zal (Zaa (on ZaD (Zaa (v 1) (Zaa (c (.int 3)) yaa))) (Zaa (v 0) yaa))) yaa)))))
  (sq (for_ (iv (v 13)) (gN 14)
  (ifs (pkB 2 (pkB 1 (trb (o2 dNe (on Za0 (Zaa (v 2) (Zaa (v 14) (Zaa (v 12) yaa)))) (on Za0 (Zaa (v 1) (Zaa (v 14) (Zaa (v 12) yaa))))))))
  (ret (c (.bl false)))
  nop))
  (ret (c (.bl true)))))))))))))))))
theorem ZbM{Φ:D→Prop}{cc k:Int}(hk:0≤k∧k≤1000)(h:∀r:Int,0≤r∧r<2147483648→Φ (.int r)):Tl (Zal [.int cc,.int k]) Φ:=by
 unfold Zal
 walk_at "w"
 refine ZcW (fun _=>?_) (fun _=>?_)
 ·walk_at "w"
  refine ZcW (fun _=>?_) (fun _=>?_)
  ·walk_at "w"
   refine ZcW (fun _=>?_) (fun _=>?_)
   ·walk_at "w"
    exact h _ (by omega)
   ·walk_at "w"
    exact h _ (by omega)
  ·walk_at "w"
   exact h _ (by omega)
 ·walk_at "w"
  exact h _ (by omega)
def cor(x y w h:Int)(vs:List Int):D:=.tup [.int x,.int y,.int w,.int h,.tup (vs.map .int)]
def Bd(x:Int):Prop:=-1000000≤x∧x≤1000000
theorem Zqs{ys:List D}{n:Nat}(hl:ys.length=n)(h:∀y∈ys,∃v:Int,y=.int v∧Bd v):∃vs:List Int,ys=vs.map .int∧vs.length=n∧∀v∈vs,Bd v:=by
 induction ys generalizing n with
 | nil=>exact ⟨[],rfl,hl,fun _ h=>(VbH h).elim⟩
 | cons y r ih =>
  obtain ⟨v,rfl,hv⟩:=h y Vao
  obtain ⟨vs,rfl,l,hb⟩:=ih (n:=r.length) rfl fun z hz=>h z (Vap _ hz)
  refine ⟨v::vs,rfl,by simpa using hl,fun u hu=>?_⟩
  rcases Var.mp hu with rfl | hu
  ·exact hv
  ·exact hb u hu
theorem ZoW{Φ:List D→Prop}{g:MG}{e:ME}{ρ:Ev}{n:Nat}(h:∀k:Nat,k<n→Tl (g (.int k) ρ) fun ρ1=>Tl (e ρ1) fun y=>∃v:Int,y=.int v∧Bd v)(q:∀vs:List Int,vs.length=n→(∀v∈vs,Bd v)→Φ (vs.map .int)):Tl (Zan g yes e ρ (ZbQ 0 n)) Φ:=by
 have hl:(ZbQ 0 n).length=n:=by unfold ZbQ;simp
 refine w_all (fun _ y=>∃v:Int,y=.int v∧Bd v) (fun x hx=>?_) fun ys l hp=>?_
 ·obtain ⟨k,hk,rfl⟩:=mem_range hx
  exact h k hk
 ·obtain ⟨vs,rfl,l2,hb⟩:=Zqs (n:=n) (l.trans hl) fun y hy=>by
   obtain ⟨i,hi,rfl⟩:=VbT.mp hy
   exact hp i _ _ (VbM (by omega)) (VbM hi)
  exact q vs l2 hb
theorem Zeo{Φ:D→Prop}{ns:List Int}{k:Int}(hk:0≤k)(h:∀n:Int,Φ (.int n)):Tl (ZaD [.lst (ns.map .int),.int k]) Φ:=by
 unfold ZaD
 walk_at "w"
 refine ZcW (fun hl=>?_) (fun _=>?_)
 ·walk_at "w"
  refine ZuL (by omega) fun n _=>?_
  walk_at "w"
  exact h n
 ·walk_at "w"
  exact h 0
end My
namespace Mt
theorem ZeU:∀(ns:List Int) (g:Nat),gcdL g ns∣g
 | [],g=>Nat.dvd_refl g
 | n::r,g=>Nat.dvd_trans (ZeU r _) (Nat.gcd_dvd_left g n.natAbs)
theorem Zd9:∀(ns:List Int) (g:Nat) (n:Int),n∈ns→(gcdL g ns:Int)∣n
 | m::r,g,n,h=>by
  rcases Var.mp h with rfl | h
  ·exact Int.ofNat_dvd_left.mpr (Nat.dvd_trans (ZeU r _) (Nat.gcd_dvd_right g n.natAbs))
  ·exact Zd9 r _ n h
theorem ZgI:∀(ns:List Int) (g c:Nat),gcdL (c*g) (ns.map fun n=>(c:Int)*n)=c*gcdL g ns
 | [],_,_=>rfl
 | n::r,g,c=>by
  show gcdL (Nat.gcd (c*g) ((c:Int)*n).natAbs) (r.map fun n=>(c:Int)*n)=c*gcdL (Nat.gcd g n.natAbs) r
  rw [Vcc,Vcd,Nat.gcd_mul_left]
  exact ZgI r _ c
theorem ZnR{ns:List Int}{n:Int}(h:n∈ns)(hn:n≠0):0<gcdL 0 ns:=by
 rcases Nat.eq_zero_or_pos (gcdL 0 ns) with z | z
 ·have:=Zd9 ns 0 n h
  rw [z] at this
  exact absurd (Int.zero_dvd.mp this) hn
 ·exact z
def low(s:List Int):List Int:=s.map fun n=>n/(gcdL 0 s:Int)
theorem Zmg(s:List Int):(low s).length=s.length:=by unfold low;simp
theorem Zrk(s:List Int):(low s).map (fun n=>(gcdL 0 s:Int)*n)=s:=by
 unfold low
 rw [VbO]
 conv=>rhs;rw [←List.map_id s]
 refine Vaa fun n hn=>?_
 exact Int.mul_ediv_cancel' (Zd9 s 0 n hn)
theorem ZqD{s:List Int}(h:0<gcdL 0 s):gcdL 0 (low s)=1:=by
 have e:=ZgI (low s) 0 (gcdL 0 s)
 rw [Zrk,Nat.mul_zero] at e
 exact Nat.eq_of_mul_eq_mul_left h (by rw [←e,Nat.mul_one])
theorem ZkX{s:List Int}{i:Nat}{f:Int}(h:(low s)[i]?=some f):∃n,s[i]?=some n∧(gcdL 0 s:Int)*f=n:=by
 unfold low at h
 rw [Va5] at h
 cases e:s[i]? with
 | none=>rw [e] at h;cases h
 | some n =>
  rw [e] at h
  have h':n/(gcdL 0 s:Int)=f:=Vav h
  refine ⟨n,rfl,?_⟩
  rw [←h']
  exact Int.mul_ediv_cancel' (Zd9 s 0 n (Va6 e))
def sums(p q:Int)(a b:List Int):List Int:=List.zipWith (fun x y=>p*x+q*y) a b
theorem Ze4{p q:Int}:∀{a b:List Int} {i:Nat} {n:Int},(sums p q a b)[i]?=some n→∃x y,a[i]?=some x∧b[i]?=some y∧n=p*x+q*y
 | [],_,_,_,h=>by simp [sums] at h
 | _::_,[],_,_,h=>by simp [sums] at h
 | x::a,y::b,0,n,h=>by simp [sums] at h;exact ⟨x,y,rfl,rfl,h.symm⟩
 | x::a,y::b,i+1,n,h=>by
  obtain ⟨u,w,h1,h2,h3⟩:=Ze4 (a:=a) (b:=b) (i:=i) (n:=n) (p:=p) (q:=q) (by simpa [sums] using h)
  exact ⟨u,w,by simpa using h1,by simpa using h2,h3⟩
theorem Zi9(p q:Int)(a b:List Int)(h:a.length=b.length):(sums p q a b).length=a.length:=by unfold sums;simp [h]
theorem Zn6{x y:Int}(h:y<0):(x.fmod y).natAbs<y.natAbs:=by
 rw [Int.fmod_eq_emod]
 have a:=Vb3 x (show y≠0 by omega)
 have b:=Int.emod_lt x (show y≠0 by omega)
 by_cases hd:y∣x
 ·have e:x%y=0:=Int.emod_eq_zero_of_dvd hd
  rw [if_pos (.inr hd),e];omega
 ·rw [if_neg (by omega)];omega
theorem Zm7(x y:Int):Int.gcd y (x.fmod y)=Int.gcd x y:=by
 have e:x.fmod y=x+y*(-(x.fdiv y)):=by rw [Int.fmod_def,Int.mul_neg,Int.sub_eq_add_neg]
 rw [e,Int.gcd_comm,Int.gcd_add_mul_left_left]
end Mt
namespace My
open PySem Dl
theorem w_modN{Φ:D→Prop}{x y:Int}(hy:y<0)(h:Φ (.int (x.fmod y))):Tl (yam (.int x) (.int y)) Φ:=by
 refine Zao ?_ h
 show iMod x y=_
 unfold iMod
 rw [if_neg (by omega),if_neg (by omega)]
theorem Zb8{Φ:D→Prop}{ns:List Int}(h:Φ (.int (Mt.gcdL 0 ns))):Tl (Zam [.lst (ns.map .int)]) Φ:=by
 unfold Zam
 walk_at "w"
 refine Zmz (fun p ρ=>∃(p':List Int) (v2 v3 v4:Cl),p=p'.map .int∧ρ=[.im (.lst (ns.map .int)),.im (.int (Mt.gcdL 0 p')),v2,v3,v4]) ⟨[],_,_,_,rfl,rfl⟩ ?_ ?_
 ·rintro p x r hx ρ ⟨p',v2,v3,v4,rfl,rfl⟩
  obtain ⟨n,rfl⟩ : ∃n:Int,x=.int n:=by
   have:x∈ns.map .int:=by rw [hx];simp
   obtain ⟨n,_,rfl⟩:=Vbs.mp this
   exact ⟨n,rfl⟩
  walk_at "w"
  refine w_wh (fun ρ=>∃(f m:Nat) (v4:Cl),ρ=[.im (.lst (ns.map .int)),.im (.int f),.im (.int n),.im (.int m),v4]∧Nat.gcd f m=Nat.gcd (Mt.gcdL 0 p') n.natAbs) (Zfm 3) ⟨_,_,_,rfl,rfl⟩ (Zdp _ _) ?_
  rintro ρ ⟨f,m,v4,rfl,e⟩
  walk_at "w"
  refine ⟨fun hb=>?_,fun hb=>?_⟩
  ·have hm:m≠0:=by simpa using hb
   walk_at "w"
   refine ⟨_,rfl,⟨m,f%m,_,rfl,?_⟩,?_⟩
   ·rw [←e,Mt.Zjx]
   ·have:=Vb2 f (Nat.pos_of_ne_zero hm)
    simp [Zfm,absC]
    omega
  ·have hm:m=0:=by simpa using hb
   subst hm
   rw [Nat.gcd_zero_right] at e
   have e2:Mt.gcdL 0 (p'++[n])=Nat.gcd (Mt.gcdL 0 p') n.natAbs:=by
    have key:∀(l:List Int) (g:Nat),Mt.gcdL g (l++[n])=Nat.gcd (Mt.gcdL g l) n.natAbs:=by
     intro l
     induction l with
     | nil=>exact fun g=>rfl
     | cons y l ih=>exact fun g=>ih _
    exact key p' 0
   exact ⟨_,rfl,p'++[n],.im (.int n),.im (.int ((0:Nat):Int)),v4,by simp,by rw [e2,←e]⟩
 ·rintro ρ ⟨p',v2,v3,v4,hp,rfl⟩
  walk_at "w"
  have:ns=p':=ZgU hp
  rw [←this]
  exact h
theorem ZdP{Φ:D→Prop}{ns:List Int}(h:Φ (.int (Mt.gcdL 0 ns))):Tl (Zam [.tup (ns.map .int)]) Φ:=by
 unfold Zam
 walk_at "w"
 refine Zmz (fun p ρ=>∃(p':List Int) (v2 v3 v4:Cl),p=p'.map .int∧ρ=[.im (.tup (ns.map .int)),.im (.int (Mt.gcdL 0 p')),v2,v3,v4]) ⟨[],_,_,_,rfl,rfl⟩ ?_ ?_
 ·rintro p x r hx ρ ⟨p',v2,v3,v4,rfl,rfl⟩
  obtain ⟨n,rfl⟩ : ∃n:Int,x=.int n:=by
   have:x∈ns.map .int:=by rw [hx];simp
   obtain ⟨n,_,rfl⟩:=Vbs.mp this
   exact ⟨n,rfl⟩
  walk_at "w"
  refine w_wh (fun ρ=>∃(f m:Nat) (v4:Cl),ρ=[.im (.tup (ns.map .int)),.im (.int f),.im (.int n),.im (.int m),v4]∧Nat.gcd f m=Nat.gcd (Mt.gcdL 0 p') n.natAbs) (Zfm 3) ⟨_,_,_,rfl,rfl⟩ (Zdp _ _) ?_
  rintro ρ ⟨f,m,v4,rfl,e⟩
  walk_at "w"
  refine ⟨fun hb=>?_,fun hb=>?_⟩
  ·have hm:m≠0:=by simpa using hb
   walk_at "w"
   refine ⟨_,rfl,⟨m,f%m,_,rfl,?_⟩,?_⟩
   ·rw [←e,Mt.Zjx]
   ·have:=Vb2 f (Nat.pos_of_ne_zero hm)
    simp [Zfm,absC]
    omega
  ·have hm:m=0:=by simpa using hb
   subst hm
   rw [Nat.gcd_zero_right] at e
   have e2:Mt.gcdL 0 (p'++[n])=Nat.gcd (Mt.gcdL 0 p') n.natAbs:=by
    have key:∀(l:List Int) (g:Nat),Mt.gcdL g (l++[n])=Nat.gcd (Mt.gcdL g l) n.natAbs:=by
     intro l
     induction l with
     | nil=>exact fun g=>rfl
     | cons y l ih=>exact fun g=>ih _
    exact key p' 0
   exact ⟨_,rfl,p'++[n],.im (.int n),.im (.int ((0:Nat):Int)),v4,by simp,by rw [e2,←e]⟩
 ·rintro ρ ⟨p',v2,v3,v4,hp,rfl⟩
  walk_at "w"
  have:ns=p':=ZgU hp
  rw [←this]
  exact h
def fra(t b:Int):D:=.tup [.int (Mt.frT t b),.int (Mt.frB t b)]
theorem ZoI{t b:Int}(h:b≠0):Int.gcd t b≤b.natAbs:=Nat.le_of_dvd (by omega) (Vcf.mpr (Int.gcd_dvd_right t b) |> fun y=>by simpa using y)
theorem Zjl{Φ:D→Prop}{x y:Int}{k:Nat}(hy:0<y)(s:Sm k y)(hk:k≤8900)(h:Φ (.int (x.fdiv y))):Tl (ya0 (.int x) (.int y)) Φ:=by
 refine w_div hy (s.log (by omega)) ?_
 rw [←VaN _ (by omega)]
 exact h
theorem Zo5{Φ:D→Prop}{x y:Int}{k:Nat}(hy:y<0)(s:Sm k y)(hk:k≤8900)(h:Φ (.int (x.fdiv y))):Tl (ya0 (.int x) (.int y)) Φ:=w_divN hy (s.log (by omega)) h
theorem Zhf{Φ:D→Prop}{t b:Int}{k:Nat}(hb:b≠0)(sb:Sm k b)(hk:k≤8900)(h:Φ (fra t b)):Tl (Za5 [.int t,.int b]) Φ:=by
 have g0:=Mt.Zd6 (t:=t) hb
 have sg:Sm k (Int.gcd t b:Int):=sb.le (by rw [Vcd];exact ZoI hb)
 unfold Za5
 walk_at "w"
 refine Zb8 (ns:=[t,b]) ?_
 rw [Mt.Zjz]
 walk_at "w"
 unfold fra Mt.frT Mt.frB at h
 refine ZcW (fun h0=>?_) (fun h0=>?_)
 ·walk_at "w"
  rw [if_pos h0,if_pos h0] at h
  refine Zo5 (by omega) sg.neg hk ?_
  walk_at "w"
  refine Zo5 (by omega) sg.neg hk ?_
  walk_at "w"
  exact h
 ·walk_at "w"
  rw [if_neg h0,if_neg h0] at h
  refine Zjl (by omega) sg hk ?_
  walk_at "w"
  refine Zjl (by omega) sg hk ?_
  walk_at "w"
  exact h
abbrev dot(x y z e f g:Int):Int:=x*e+y*f+z*g
theorem ZjH{x y z e f g:Int}{k n:Nat}(hx:Sm k x)(hy:Sm k y)(hz:Sm k z)(he:Sm n e)(hf:Sm n f)(hg:Sm n g):Sm (k+n+2) (dot x y z e f g):=(((hx.mul he).add (hy.mul hf)).add (hz.mul hg)).mono (by omega)
theorem ZoJ{Φ:D→Prop}{x y z e f g:Int}{k n:Nat}(hx:Sm k x)(hy:Sm k y)(hz:Sm k z)(he:Sm n e)(hf:Sm n f)(hg:Sm n g)(hk:k+n≤8000)(q:Φ (.int (dot x y z e f g))):Tl (Zai [.lst [.int x,.int y,.int z],.tup [.int e,.int f,.int g]]) Φ:=by
 have m1:ZaT x e=true:=Zax hx he (by omega)
 have m2:ZaT y f=true:=Zax hy hf (by omega)
 have m3:ZaT z g=true:=Zax hz hg (by omega)
 unfold Zai
 walk_at "w"
 exact q
theorem ZsD{Φ:D→Prop}{x y z e f g:Int}{k n:Nat}(hx:Sm k x)(hy:Sm k y)(hz:Sm k z)(he:Sm n e)(hf:Sm n f)(hg:Sm n g)(hk:k+n≤8000)(q:Φ (.int (dot x y z e f g))):Tl (Zai [.tup [.int x,.int y,.int z],.tup [.int e,.int f,.int g]]) Φ:=by
 have m1:ZaT x e=true:=Zax hx he (by omega)
 have m2:ZaT y f=true:=Zax hy hf (by omega)
 have m3:ZaT z g=true:=Zax hz hg (by omega)
 unfold Zai
 walk_at "w"
 exact q
structure Cv(k:Nat)(x y w h:Int)(vs:List Int):Prop where
 fx:Sm k x
 fy:Sm k y
 fw:Sm k w
 fh:Sm k h
 fv:∀v∈vs,Sm k v
 f1:1≤h
theorem ZmE{Φ:D→Prop}{ax ay aw ah bx bY bw bh cx cy cw ch e f g:Int}{av bv cv:List Int}{k n:Nat}(a:Cv k ax ay aw ah av)(b:Cv k bx bY bw bh bv)(c:Cv k cx cy cw ch cv)(he:Sm n e)(hf:Sm n f)(hg:Sm n g)(hk:k+n≤8000)(q:Φ (.int (dot ah bh ch e f g))):Tl (ZbW [.tup [cor ax ay aw ah av,cor bx bY bw bh bv,cor cx cy cw ch cv],.tup [.int e,.int f,.int g]]) Φ:=by
 unfold ZbW cor
 walk_at "w"
 refine ⟨by show (3:Nat)≤_;omega,?_⟩
 refine Ze0 ?_
 walk_at "w"
 refine Ze0 ?_
 walk_at "w"
 refine Ze0 ?_
 walk_at "w"
 refine ZnY ?_
 walk_at "w"
 refine ZoJ a.fh b.fh c.fh he hf hg hk ?_
 walk_at "w"
 exact q
theorem Zgq:∀(xs ys zs:List Int),trips (xs.map .int) (ys.map .int) (zs.map .int)=(xs.zip (ys.zip zs)).map fun t=>.tup [.int t.1,.int t.2.1,.int t.2.2]
 | [],_,_=>by simp [trips]
 | _::_,[],_=>by simp [trips]
 | _::_,_::_,[]=>by simp [trips]
 | x::xs,y::ys,z::zs=>by simp [trips,Zgq xs ys zs]
def vls(av bv cv:List Int)(e f g B:Int):List D:=(av.zip (bv.zip cv)).map fun t=>fra (dot t.1 t.2.1 t.2.2 e f g) B
theorem Znm{av bv cv:List Int}{t:Int×Int×Int}(h:t∈av.zip (bv.zip cv)):t.1∈av∧t.2.1∈bv∧t.2.2∈cv:=by
 obtain ⟨x,y,z⟩:=t
 have h1:=VaZ h
 have h2:=VaZ h1.2
 exact ⟨h1.1,h2.1,h2.2⟩
theorem ZpZ{Φ:D→Prop}{ax ay aw ah bx bY bw bh cx cy cw ch e f g:Int}{av bv cv:List Int}{k n:Nat}(a:Cv k ax ay aw ah av)(b:Cv k bx bY bw bh bv)(c:Cv k cx cy cw ch cv)(he:Sm n e)(hf:Sm n f)(hg:Sm n g)(hk:k+n≤7000)(hl:av.length≤1000)(h0:dot ah bh ch e f g≠0)
  (q:Φ (.tup [fra (dot aw bw cw e f g) (dot ah bh ch e f g),.tup (vls av bv cv e f g (dot ah bh ch e f g))])):Tl (ZaI [.tup [cor ax ay aw ah av,cor bx bY bw bh bv,cor cx cy cw ch cv],.tup [.int e,.int f,.int g]]) Φ:=by
 have sB:=ZjH a.fh b.fh c.fh he hf hg
 unfold ZaI
 walk_at "w"
 refine ZmE a b c he hf hg (by omega) ?_
 generalize dot ah bh ch e f g=B at *
 unfold cor
 walk_at "w"
 refine ⟨by show (3:Nat)≤_;omega,?_⟩
 refine Ze0 ?_
 walk_at "w"
 refine Ze0 ?_
 walk_at "w"
 refine Ze0 ?_
 walk_at "w"
 refine ZnY ?_
 walk_at "w"
 refine ZoJ a.fw b.fw c.fw he hf hg (by omega) ?_
 walk_at "w"
 refine Zhf h0 sB (by omega) ?_
 walk_at "w"
 rw [Zgq]
 refine ⟨by rw [VaQ,List.length_zip];omega,?_⟩
 refine Zcu (fun t=>fra (dot t.1 t.2.1 t.2.2 e f g) B) (fun t ht=>?_) ?_
 ·obtain ⟨t1,t2,t3⟩:=Znm ht
  walk_at "w"
  refine ZsD (a.fv _ t1) (b.fv _ t2) (c.fv _ t3) he hf hg (by omega) ?_
  walk_at "w"
  exact Zhf h0 sB (by omega) rfl
 walk_at "w"
 exact q
abbrev ow(ax ay aw bx bY bw cx cy cw:Int):Int:=(ay*bw - aw*bY)*cx+(aw*bx - ax*bw)*cy+(ax*bY - ay*bx)*cw
theorem sm6{x:Int}(h:-100000000≤x∧x≤100000000):Sm 64 x:=Sm.of64 (by omega) (by omega)
structure Cr(x y w:Int):Prop where
 x:Sm 64 x
 y:Sm 64 y
 w:Sm 64 w
theorem Cr.n{ax ay aw bx bY bw:Int}(a:Cr ax ay aw)(b:Cr bx bY bw):Sm 129 (ay*bw - aw*bY)∧Sm 129 (aw*bx - ax*bw)∧Sm 129 (ax*bY - ay*bx) :=
 ⟨(a.y.mul b.w).sub (a.w.mul b.y),(a.w.mul b.x).sub (a.x.mul b.w),(a.x.mul b.y).sub (a.y.mul b.x)⟩
theorem Cr.ow{ax ay aw bx bY bw cx cy cw:Int}(a:Cr ax ay aw)(b:Cr bx bY bw)(c:Cr cx cy cw):Sm 200 (ow ax ay aw bx bY bw cx cy cw):=by
 obtain ⟨n1,n2,n3⟩:=a.n b
 exact (((n1.mul c.x).add (n2.mul c.y)).add (n3.mul c.w)).mono (by decide)
theorem Zdy{Φ:D→Prop}{ax ay aw ah bx bY bw bh:Int}{av bv:List Int}(a:Cr ax ay aw)(b:Cr bx bY bw)(h:Φ (.tup [.int (ay*bw - aw*bY),.int (aw*bx - ax*bw),.int (ax*bY - ay*bx)])):Tl (ZaL [cor ax ay aw ah av,cor bx bY bw bh bv]) Φ:=by
 obtain ⟨a1,a2,a3⟩:=a
 obtain ⟨b1,b2,b3⟩:=b
 unfold ZaL cor
 walk_at "w"
 exact h
theorem ZjU{Φ:D→Prop}{l m n px py ps:Int}(hl:Sm 129 l)(hm:Sm 129 m)(hn:Sm 129 n)(p:Cr px py ps)(h:Φ (.int (l*px+m*py+n*ps))):Tl (Zai [.tup [.int l,.int m,.int n],.tup [.int px,.int py,.int ps]]) Φ:=by
 obtain ⟨p1,p2,p3⟩:=p
 unfold Zai
 walk_at "w"
 exact h
def sg(x:Int):Int:=if 0<x then 1 else if x<0 then -1 else 0
def sd3(s m n:Int):Int:=if s=0 then (if m=0 then sg n else sg m) else sg s
theorem Zfy{x:Int}(h:0<x):sg x=1:=if_pos h
theorem ZfE{x:Int}(h:x<0):sg x=-1:=by unfold sg;rw [if_neg (by omega),if_pos h]
theorem Zhq:sg 0=0:=rfl
theorem ZlB(x:Int):sg (-x)=- sg x:=by unfold sg;split<;>split<;>(try split)<;>(try split)<;>omega
theorem Zq8(s m n:Int):sd3 (-s) (-m) (-n)=- sd3 s m n:=by
 unfold sd3
 rw [ZlB,ZlB,ZlB]
 split<;>split<;>(try split)<;>(try split)<;>omega
theorem Zl4{x:Int}:sg x=1∧0<x∨sg x=0∧x=0∨sg x=-1∧x<0:=by
 unfold sg;split<;>(try split)<;>omega
theorem ZmC(x:Int):sg x=1∨sg x=0∨sg x=-1:=by
 rcases Zl4 (x:=x) with h | h | h
 ·exact .inl h.1
 ·exact .inr (.inl h.1)
 ·exact .inr (.inr h.1)
theorem ZoX(s m n:Int):sd3 s m n=1∨sd3 s m n=0∨sd3 s m n=-1:=by
 unfold sd3
 by_cases h:s=0
 ·rw [if_pos h]
  by_cases h':m=0
  ·rw [if_pos h'];exact ZmC n
  ·rw [if_neg h'];exact ZmC m
 ·rw [if_neg h];exact ZmC s
theorem ZiP{s m n e:Int}{P Q R:Prop}(h1:sg s=e↔P)(h2:sg m=e↔Q)(h3:sg n=e↔R):sd3 s m n=e↔(¬s=0∧P)∨(s=0∧((¬m=0∧Q)∨(m=0∧R))):=by
 unfold sd3
 by_cases h:s=0
 ·rw [if_pos h]
  by_cases h':m=0
  ·rw [if_pos h',h3];simp [h,h']
  ·rw [if_neg h',h2];simp [h,h']
 ·rw [if_neg h,h1];simp [h]
theorem ZkM{x:Int}:sg x=1↔0<x:=by rcases Zl4 (x:=x) with h | h | h<;>omega
theorem ZlV{x:Int}:sg x=-1↔x<0:=by rcases Zl4 (x:=x) with h | h | h<;>omega
theorem ZmF{x:Int}:sg x=0↔x=0:=by rcases Zl4 (x:=x) with h | h | h<;>omega
abbrev sdE(ax ay aw bx bY bw px py ps:Int):Int:=sd3 (ow ax ay aw bx bY bw px py ps) (ay*bw - aw*bY) (aw*bx - ax*bw)
theorem Zg1(ax ay aw bx bY bw px py ps:Int):sdE bx bY bw ax ay aw px py ps=- sdE ax ay aw bx bY bw px py ps:=by
 unfold sdE
 rw [←Zq8]
 congr 1
 ·unfold ow;grind
 ·grind
 ·grind
theorem w_side{Φ:D→Prop}{ax ay aw ah bx bY bw bh px py ps:Int}{av bv:List Int}(a:Cr ax ay aw)(b:Cr bx bY bw)(p:Cr px py ps)(h:Φ (.int (sdE ax ay aw bx bY bw px py ps))):Tl (Zf4 [cor ax ay aw ah av,cor bx bY bw bh bv,.tup [.int px,.int py,.int ps]]) Φ:=by
 unfold Zf4
 walk_at "w"
 refine Zdy a b ?_
 walk_at "w"
 obtain ⟨n1,n2,n3⟩:=a.n b
 refine ZjU n1 n2 n3 p ?_
 walk_at "w"
 unfold sdE sd3 at h
 change Φ (.int (if ow ax ay aw bx bY bw px py ps=0 then _ else _)) at h
 show Tl (ZbE _ _ [.int (ow ax ay aw bx bY bw px py ps),.int _,.int _] _) _
 generalize ow ax ay aw bx bY bw px py ps=s at *
 generalize ay*bw - aw*bY=m at *
 generalize aw*bx - ax*bw=n at *
 refine w_f1 ?_
 walk_at "w"
 refine Zht (fun h0=>?_) (fun h0=>?_)
 ·rw [if_neg h0] at h
  walk_at "w"
  refine ZcW (fun h1=>?_) (fun h1=>?_)
  ·walk_at "w"
   rw [Zfy h1] at h
   exact h
  ·walk_at "w"
   rw [ZfE (by omega)] at h
   exact h
 rw [if_pos h0] at h
 walk_at "w"
 refine w_f1 ?_
 walk_at "w"
 refine Zht (fun h0=>?_) (fun h0=>?_)
 ·rw [if_neg h0] at h
  walk_at "w"
  refine ZcW (fun h1=>?_) (fun h1=>?_)
  ·walk_at "w"
   rw [Zfy h1] at h
   exact h
  ·walk_at "w"
   rw [ZfE (by omega)] at h
   exact h
 rw [if_pos h0] at h
 walk_at "w"
 refine w_f1 ?_
 walk_at "w"
 refine Zht (fun h0=>?_) (fun h0=>?_)
 ·walk_at "w"
  refine ZcW (fun h1=>?_) (fun h1=>?_)
  ·walk_at "w"
   rw [Zfy h1] at h
   exact h
  ·walk_at "w"
   rw [ZfE (by omega)] at h
   exact h
 walk_at "w"
 refine w_f0 ?_
 walk_at "w"
 rw [h0,Zhq] at h
 exact h
theorem Zq0{Φ:D→Prop}{ax ay aw ah bx bY bw bh cx cy cw ch:Int}{av bv cv:List Int}(ha:1≤aw)(hb:1≤bw)(hc:1≤cw)(h:Φ .non):Tl (Zaq [.tup [cor ax ay aw ah av,cor bx bY bw bh bv,cor cx cy cw ch cv]]) Φ:=by
 unfold Zaq cor
 walk_at "w"
 refine w_f1 ?_
 walk_at "w"
 refine w_f1 ?_
 walk_at "w"
 refine w_f1 ?_
 walk_at "w"
 refine w_f0 ?_
 walk_at "w"
 exact h
def hd3(ab bc ca:Int):Int:=if ab=bc∧bc=ca then ab else 0
theorem Zpu(x y z:Int):hd3 y z x=hd3 x y z:=by unfold hd3;split<;>split<;>omega
theorem Zsb{Φ:D→Prop}{ax ay aw ah bx bY bw bh cx cy cw ch px py ps:Int}{av bv cv:List Int}(ha:1≤aw)(hb:1≤bw)(hc:1≤cw)(a:Cr ax ay aw)(b:Cr bx bY bw)(c:Cr cx cy cw)(p:Cr px py ps)(h:Φ (.int (hd3 (sdE ax ay aw bx bY bw px py ps) (sdE bx bY bw cx cy cw px py ps) (sdE cx cy cw ax ay aw px py ps)))):Tl (Zk0 [.tup [cor ax ay aw ah av,cor bx bY bw bh bv,cor cx cy cw ch cv],.tup [.int px,.int py,.int ps]]) Φ:=by
 unfold Zk0
 walk_at "w"
 refine Zq0 ha hb hc ?_
 walk_at "w"
 refine w_side a b p ?_
 walk_at "w"
 refine w_side b c p ?_
 walk_at "w"
 unfold hd3 at h
 refine Zht (fun h0=>?_) (fun h0=>?_)
 ·walk_at "w"
  rw [if_neg (by omega)] at h
  exact h
 walk_at "w"
 refine w_side c a p ?_
 walk_at "w"
 refine Zht (fun h1=>?_) (fun h1=>?_)
 ·walk_at "w"
  rw [if_neg (by omega)] at h
  exact h
 walk_at "w"
 rw [if_pos (by omega)] at h
 exact h
theorem ZeA{Φ:D→Prop}{ax ay aw ah bx bY bw bh px py ps:Int}{av bv:List Int}(a:Cr ax ay aw)(b:Cr bx bY bw)(p:Cr px py ps)(h:Φ (.int (ow ax ay aw bx bY bw px py ps))):Tl (Zbu [cor ax ay aw ah av,cor bx bY bw bh bv,.tup [.int px,.int py,.int ps]]) Φ:=by
 unfold Zbu
 walk_at "w"
 refine Zdy a b ?_
 walk_at "w"
 obtain ⟨n1,n2,n3⟩:=a.n b
 refine ZjU n1 n2 n3 p ?_
 walk_at "w"
 exact h
theorem Zk8{Φ:D→Prop}{ax ay aw ah bx bY bw bh cx cy cw ch px py ps:Int}{av bv cv:List Int}(a:Cr ax ay aw)(b:Cr bx bY bw)(c:Cr cx cy cw)(p:Cr px py ps)
  (h:Φ (.tup [.int (ow bx bY bw cx cy cw px py ps),.int (ow cx cy cw ax ay aw px py ps),.int (ow ax ay aw bx bY bw px py ps)])):Tl (Zc8 [.tup [cor ax ay aw ah av,cor bx bY bw bh bv,cor cx cy cw ch cv],.tup [.int px,.int py,.int ps]]) Φ:=by
 unfold Zc8
 walk_at "w"
 refine ZeA b c p ?_
 walk_at "w"
 refine ZeA c a p ?_
 walk_at "w"
 refine ZeA a b p ?_
 walk_at "w"
 exact h
theorem Zmf{s m n:Int}:sd3 s m n=1↔0<s∨(s=0∧(0<m∨(m=0∧0<n))):=by
 rw [ZiP ZkM ZkM ZkM]
 omega
theorem Znr{s m n:Int}:sd3 s m n=-1↔s<0∨(s=0∧(m<0∨(m=0∧n<0))):=by
 rw [ZiP ZlV ZlV ZlV]
 omega
theorem mul0{a b:Int}(ha:0<a)(hb:0≤b):0≤a*b:=Vce (Int.le_of_lt ha) hb
theorem ZiQ{a b c x y z:Int}(ha:0<a)(hb:0<b)(hc:0<c)(hx:0≤x)(hy:0≤y)(hz:0≤z)(h:a*x+b*y+c*z≤0):x=0∧y=0∧z=0:=by
 have h1:=mul0 ha hx
 have h2:=mul0 hb hy
 have h3:=mul0 hc hz
 refine ⟨?_,?_,?_⟩
 ·rcases Vch.mp (show a*x=0 by omega) with h | h<;>omega
 ·rcases Vch.mp (show b*y=0 by omega) with h | h<;>omega
 ·rcases Vch.mp (show c*z=0 by omega) with h | h<;>omega
theorem ZiV{ax ay aw bx bY bw cx cy cw px py ps:Int}(ha:0<aw)(hb:0<bw)(hc:0<cw)(hp:0<ps)(h1:sdE ax ay aw bx bY bw px py ps=1)(h2:sdE bx bY bw cx cy cw px py ps=1)(h3:sdE cx cy cw ax ay aw px py ps=1):0<ow ax ay aw bx bY bw cx cy cw:=by
 unfold sdE at h1 h2 h3
 rw [Zmf] at h1 h2 h3
 have i0:aw*ow bx bY bw cx cy cw px py ps+bw*ow cx cy cw ax ay aw px py ps+cw*ow ax ay aw bx bY bw px py ps=ow ax ay aw bx bY bw cx cy cw*ps:=by unfold ow;grind
 have i1:aw*(bY*cw - bw*cy)+bw*(cy*aw - cw*ay)+cw*(ay*bw - aw*bY)=0:=by grind
 have i2:aw*(bw*cx - bx*cw)+bw*(cw*ax - cx*aw)+cw*(aw*bx - ax*bw)=0:=by grind
 generalize ow bx bY bw cx cy cw px py ps=e at *
 generalize ow cx cy cw ax ay aw px py ps=f at *
 generalize ow ax ay aw bx bY bw px py ps=g at *
 generalize ow ax ay aw bx bY bw cx cy cw=o at *
 by_cases ho:0<o
 ·exact ho
 exfalso
 have ho':o*ps≤0:=by
  have:=Vce (show 0≤-o by omega) (show 0≤ps by omega)
  rw [Int.neg_mul] at this
  omega
 obtain ⟨z1,z2,z3⟩:=ZiQ ha hb hc (x:=e) (y:=f) (z:=g) (by omega) (by omega) (by omega) (by omega)
 obtain ⟨y1,y2,y3⟩:=ZiQ ha hb hc (x:=bY*cw - bw*cy) (y:=cy*aw - cw*ay) (z:=ay*bw - aw*bY) (by omega) (by omega) (by omega) (by omega)
 obtain ⟨x1,x2,x3⟩:=ZiQ ha hb hc (x:=bw*cx - bx*cw) (y:=cw*ax - cx*aw) (z:=aw*bx - ax*bw) (by omega) (by omega) (by omega) (by omega)
 omega
theorem Zk1{ax ay aw bx bY bw cx cy cw px py ps:Int}(ha:0<aw)(hb:0<bw)(hc:0<cw)(hp:0<ps)(h1:sdE ax ay aw bx bY bw px py ps=-1)(h2:sdE bx bY bw cx cy cw px py ps=-1)(h3:sdE cx cy cw ax ay aw px py ps=-1):ow ax ay aw bx bY bw cx cy cw<0:=by
 have z:=ZiV hc hb ha hp (by rw [Zg1 bx bY bw cx cy cw,h2];rfl) (by rw [Zg1 ax ay aw bx bY bw,h1];rfl) (by rw [Zg1 cx cy cw ax ay aw,h3];rfl)
 have e:ow cx cy cw bx bY bw ax ay aw=- ow ax ay aw bx bY bw cx cy cw:=by unfold ow;grind
 omega
abbrev hdE(ax ay aw bx bY bw cx cy cw px py ps:Int):Int:=hd3 (sdE ax ay aw bx bY bw px py ps) (sdE bx bY bw cx cy cw px py ps) (sdE cx cy cw ax ay aw px py ps)
theorem Zh1{x y z:Int}(hx:x=1∨x=0∨x=-1)(h:hd3 x y z≠0):∃e,(e=1∨e=-1)∧x=e∧y=e∧z=e:=by
 unfold hd3 at h
 split at h
 ·exact ⟨x,by omega,rfl,by omega,by omega⟩
 ·exact absurd rfl h
theorem ZiA{s m n N:Int}(h:(m.natAbs:Int)+n.natAbs<N):sd3 s m n=sg (s*(N*N)+m*N+n):=by
 have hN:0<N:=by omega
 have k1:((m.natAbs:Int)+n.natAbs)*N≤(N - 1)*N:=Vci (by omega) (by omega)
 have k2:(N - 1)*N=N*N - N:=by rw [Int.sub_mul,Int.one_mul]
 have k3:((m.natAbs:Int)+n.natAbs)*N=(m.natAbs:Int)*N+(n.natAbs:Int)*N:=Int.add_mul _ _ _
 have k4:(n.natAbs:Int)≤(n.natAbs:Int)*N:=by
  have:=Vcg (show 1≤N by omega) (show 0≤(n.natAbs:Int) by omega)
  omega
 have k5:m*N≤(m.natAbs:Int)*N:=Vci (by omega) (by omega)
 have k6:-((m.natAbs:Int)*N)≤m*N:=by
  have:=Vci (show -(m.natAbs:Int)≤m by omega) (show 0≤N by omega)
  rw [Int.neg_mul] at this
  exact this
 unfold sd3
 by_cases hs:s=0
 ·rw [if_pos hs]
  subst hs
  rw [Vcj,Int.zero_add]
  by_cases hm:m=0
  ·rw [if_pos hm]
   subst hm
   rw [Vcj,Int.zero_add]
  ·rw [if_neg hm]
   rcases Int.lt_or_gt_of_ne hm with z | z
   ·have:=Vci (show m≤-1 by omega) (show 0≤N by omega)
    rw [ZfE z,ZfE (by omega)]
   ·have:=Vci (show 1≤m by omega) (show 0≤N by omega)
    rw [Zfy z,Zfy (by omega)]
 ·rw [if_neg hs]
  have nn:0≤N*N:=Vce (by omega) (by omega)
  rcases Int.lt_or_gt_of_ne hs with z | z
  ·have:=Vci (show s≤-1 by omega) nn
   rw [ZfE z,ZfE (by omega)]
  ·have:=Vci (show 1≤s by omega) nn
   rw [Zfy z,Zfy (by omega)]
theorem ZiS(ax ay aw bx bY bw px py ps N:Int):ow ax ay aw bx bY bw (px*(N*N)+N) (py*(N*N)+1) (ps*(N*N))=ow ax ay aw bx bY bw px py ps*(N*N)+(ay*bw - aw*bY)*N+(aw*bx - ax*bw):=by
 unfold ow
 grind
abbrev upE(ay aw py ps:Int):Bool:=decide (py*aw<ay*ps)
def crB(a b:Bool)(s:Int):Int:=if (!a&&b&&decide (s=1))=true then 1 else if (a&&!b&&decide (s=-1))=true then -1 else 0
abbrev crE(ax ay aw bx bY bw px py ps:Int):Int:=crB (upE ay aw py ps) (upE bY bw py ps) (sdE ax ay aw bx bY bw px py ps)
theorem ZpT(a b:Bool)(s:Int):crB b a (-s)=- crB a b s:=by
 unfold crB
 cases a<;>cases b<;>simp<;>split<;>(try split)<;>omega
theorem ZiR(ax ay aw bx bY bw px py ps:Int):crE bx bY bw ax ay aw px py ps=- crE ax ay aw bx bY bw px py ps:=by
 unfold crE
 rw [Zg1 ax ay aw bx bY bw,ZpT]
theorem msgn{x d u:Int}(e:u=x*d)(hd:0<d):(0<x→0<u)∧(x<0→u<0)∧(x=0→u=0):=by
 subst e
 exact ⟨fun h=>Vck h hd,fun h=>Int.mul_neg_of_neg_of_pos h hd,fun h=>by rw [h,Vcj]⟩
theorem Zsn{x d u:Int}(e:u=x*d)(hd:d<0):(0<x→u<0)∧(x<0→0<u)∧(x=0→u=0):=by
 subst e
 exact ⟨fun h=>Int.mul_neg_of_pos_of_neg h hd,fun h=>Int.mul_pos_of_neg_of_neg h hd,fun h=>by rw [h,Vcj]⟩
def Ud(a:Bool)(d:Int):Prop:=if a=true then 0<d else d<0
def vl3(x:Fin 3):Int:=(x.val:Int) - 1
def tw(a:Bool)(x:Fin 3):Int:=if a=true then vl3 x else - vl3 x
theorem Zm2:∀(a b c:Bool) (x y z:Fin 3),¬(0≤tw a x∧0≤tw b y∧0≤tw c z∧(0<tw a x∨0<tw b y∨0<tw c z))→¬(tw a x≤0∧tw b y≤0∧tw c z≤0∧(tw a x<0∨tw b y<0∨tw c z<0))→(vl3 x=0→b=c)→(vl3 y=0→c=a)→(vl3 z=0→a=b)→hd3 (vl3 z) (vl3 x) (vl3 y)=crB a b (vl3 z)+crB b c (vl3 x)+crB c a (vl3 y):=by
 unfold hd3 crB tw vl3
 decide
theorem Zl3{a:Bool}{E d:Int}(h:Ud a d):∃x:Fin 3,sg E=vl3 x∧(vl3 x=0↔E=0)∧(0<tw a x↔0<E*d)∧(tw a x<0↔E*d<0):=by
 unfold Ud at h
 rcases Zl4 (x:=E) with ⟨s,t⟩ | ⟨s,t⟩ | ⟨s,t⟩
 ·refine ⟨2,s,⟨fun z=>absurd z (by decide),fun z=>by omega⟩,?_⟩
  cases a with
  | true =>
   have:=(msgn rfl (show 0<d from h):(0<E→0<E*d)∧_).1 t
   exact ⟨⟨fun _=>this,fun _=>by decide⟩,⟨fun z=>absurd z (by decide),fun z=>by omega⟩⟩
  | false =>
   have:=(Zsn rfl (show d<0 from h):(0<E→E*d<0)∧_).1 t
   exact ⟨⟨fun z=>absurd z (by decide),fun z=>by omega⟩,⟨fun _=>this,fun _=>by decide⟩⟩
 ·refine ⟨1,s,⟨fun _=>t,fun _=>rfl⟩,?_⟩
  rw [t,Vcj]
  cases a with
  | true=>exact ⟨⟨fun z=>absurd z (by decide),fun z=>by omega⟩,⟨fun z=>absurd z (by decide),fun z=>by omega⟩⟩
  | false=>exact ⟨⟨fun z=>absurd z (by decide),fun z=>by omega⟩,⟨fun z=>absurd z (by decide),fun z=>by omega⟩⟩
 ·refine ⟨0,s,⟨fun z=>absurd z (by decide),fun z=>by omega⟩,?_⟩
  cases a with
  | true =>
   have:=(msgn rfl (show 0<d from h):_∧(E<0→E*d<0)∧_).2.1 t
   exact ⟨⟨fun z=>absurd z (by decide),fun z=>by omega⟩,⟨fun _=>this,fun _=>by decide⟩⟩
  | false =>
   have:=(Zsn rfl (show d<0 from h):_∧(E<0→0<E*d)∧_).2.1 t
   exact ⟨⟨fun _=>this,fun _=>by decide⟩,⟨fun z=>absurd z (by decide),fun z=>by omega⟩⟩
theorem Zkb{a b c:Bool}{E F G dA dB dC:Int}(ha:Ud a dA)(hb:Ud b dB)(hc:Ud c dC)(id0:E*dA+F*dB+G*dC=0)(zE:E=0→b=c)(zF:F=0→c=a)(zG:G=0→a=b):hd3 (sg G) (sg E) (sg F)=crB a b (sg G)+crB b c (sg E)+crB c a (sg F):=by
 obtain ⟨x,ex,x0,x1,x2⟩:=Zl3 (E:=E) ha
 obtain ⟨y,ey,y0,y1,y2⟩:=Zl3 (E:=F) hb
 obtain ⟨z,ez,z0,z1,z2⟩:=Zl3 (E:=G) hc
 rw [ex,ey,ez]
 generalize E*dA=u at *
 generalize F*dB=v at *
 generalize G*dC=w at *
 refine Zm2 a b c x y z (fun h=>?_) (fun h=>?_) (fun h=>zE (x0.mp h)) (fun h=>zF (y0.mp h)) (fun h=>zG (z0.mp h))
 ·clear ex ey ez x0 y0 z0 ha hb hc zE zF zG
  omega
 ·clear ex ey ez x0 y0 z0 ha hb hc zE zF zG
  omega
theorem ZpN{y w py ps N:Int}(hw:0<w)(hN:w<N):Ud (upE y w py ps) (y*(ps*(N*N)) - (py*(N*N)+1)*w):=by
 have nn:N≤N*N:=by
  have:=Vcg (show 1≤N by omega) (show 0≤N by omega)
  omega
 have e:y*(ps*(N*N)) - (py*(N*N)+1)*w=(y*ps - py*w)*(N*N) - w:=by grind
 rw [e]
 unfold Ud upE
 by_cases h:py*w<y*ps
 ·rw [if_pos (Vbm h)]
  have:=Vci (show 1≤y*ps - py*w by omega) (show 0≤N*N by omega)
  omega
 ·rw [if_neg (by rw [Vac h];exact VaF)]
  have:=Vci (show y*ps - py*w≤0 by omega) (show 0≤N*N by omega)
  omega
theorem Zix{ay aw bY bw py ps:Int}(ha:0<aw)(hb:0<bw)(h:ay*bw - aw*bY=0):upE ay aw py ps=upE bY bw py ps:=by
 have e:(ay*ps - py*aw)*bw=(bY*ps - py*bw)*aw:=by grind
 unfold upE
 rw [decide_eq_decide]
 constructor
 ·intro z
  have:=Vck (show 0<ay*ps - py*aw by omega) hb
  rw [e] at this
  have:=Int.pos_of_mul_pos_left this ha
  omega
 ·intro z
  have:=Vck (show 0<bY*ps - py*bw by omega) ha
  rw [←e] at this
  have:=Int.pos_of_mul_pos_left this hb
  omega
theorem Zhd{s m n:Int}:sd3 s m n=0↔s=0∧m=0∧n=0:=by
 rw [ZiP ZmF ZmF ZmF]
 omega
theorem bigN(m1 n1 m2 n2 m3 n3:Int){aw bw cw:Int}(ha:0<aw)(hb:0<bw)(hc:0<cw):∃N:Int,(m1.natAbs:Int)+n1.natAbs<N∧(m2.natAbs:Int)+n2.natAbs<N∧(m3.natAbs:Int)+n3.natAbs<N∧aw<N∧bw<N∧cw<N:=by
 have g1:=VaM m1.natAbs
 have g2:=VaM n1.natAbs
 have g3:=VaM m2.natAbs
 have g4:=VaM n2.natAbs
 have g5:=VaM m3.natAbs
 have g6:=VaM n3.natAbs
 generalize (m1.natAbs:Int)=a1 at *
 generalize (n1.natAbs:Int)=a2 at *
 generalize (m2.natAbs:Int)=a3 at *
 generalize (n2.natAbs:Int)=a4 at *
 generalize (m3.natAbs:Int)=a5 at *
 generalize (n3.natAbs:Int)=a6 at *
 exact ⟨1+a1+a2+a3+a4+a5+a6+aw+bw+cw,by omega,by omega,by omega,by omega,by omega,by omega⟩
theorem Ztb{ax ay aw bx bY bw cx cy cw px py ps:Int}(ha:0<aw)(hb:0<bw)(hc:0<cw):hdE ax ay aw bx bY bw cx cy cw px py ps=crE ax ay aw bx bY bw px py ps+crE bx bY bw cx cy cw px py ps+crE cx cy cw ax ay aw px py ps:=by
 obtain ⟨N,g1,g2,g3,w1,w2,w3⟩:=bigN (ay*bw - aw*bY) (aw*bx - ax*bw) (bY*cw - bw*cy) (bw*cx - bx*cw) (cy*aw - cw*ay) (cw*ax - cx*aw) ha hb hc
 have s1:sdE ax ay aw bx bY bw px py ps=sg (ow ax ay aw bx bY bw (px*(N*N)+N) (py*(N*N)+1) (ps*(N*N))):=by
  rw [ZiS]
  exact ZiA g1
 have s2:sdE bx bY bw cx cy cw px py ps=sg (ow bx bY bw cx cy cw (px*(N*N)+N) (py*(N*N)+1) (ps*(N*N))):=by
  rw [ZiS]
  exact ZiA g2
 have s3:sdE cx cy cw ax ay aw px py ps=sg (ow cx cy cw ax ay aw (px*(N*N)+N) (py*(N*N)+1) (ps*(N*N))):=by
  rw [ZiS]
  exact ZiA g3
 have z1:ow ax ay aw bx bY bw (px*(N*N)+N) (py*(N*N)+1) (ps*(N*N))=0→upE ay aw py ps=upE bY bw py ps:=fun h=>by
  rw [h,Zhq] at s1
  exact Zix ha hb (Zhd.mp s1).2.1
 have z2:ow bx bY bw cx cy cw (px*(N*N)+N) (py*(N*N)+1) (ps*(N*N))=0→upE bY bw py ps=upE cy cw py ps:=fun h=>by
  rw [h,Zhq] at s2
  exact Zix hb hc (Zhd.mp s2).2.1
 have z3:ow cx cy cw ax ay aw (px*(N*N)+N) (py*(N*N)+1) (ps*(N*N))=0→upE cy cw py ps=upE ay aw py ps:=fun h=>by
  rw [h,Zhq] at s3
  exact Zix hc ha (Zhd.mp s3).2.1
 unfold hdE crE
 rw [s1,s2,s3]
 refine Zkb (ZpN (py:=py) (ps:=ps) (N:=N) ha w1) (ZpN (N:=N) hb w2) (ZpN (N:=N) hc w3) ?_ z2 z3 z1
 generalize px*(N*N)+N=qx
 generalize py*(N*N)+1=qy
 generalize ps*(N*N)=qs
 unfold ow
 grind
theorem Zs3{Φ:Fl→Prop}{g:MG}{k:MS}{ρ:Ev}{enc:Nat→D}{n:Nat}(I:Nat→Ev→Prop)(h0:I 0 ρ)(h:∀j,j<n→∀ρ,I j ρ→Tl (g (enc j) ρ) fun ρ1=>Tl (k ρ1) fun f=>∃ρ2,f=.nx ρ2∧I (j+1) ρ2)(hd:∀ρ,I n ρ→Φ (.nx ρ)):Tl (ZbE g k ((List.range n).map enc) ρ) Φ:=by
 refine Zmz (fun p ρ=>I p.length ρ) h0 (fun p x r e ρ i=>?_) fun ρ i=>?_
 ·have l:p.length<n:=by
   have:=Vay List.length e
   simp at this
   omega
  have ex:x=enc p.length:=by
   have z:=Vay (fun l=>l[p.length]?) e
   simp [l] at z
   exact z.symm
  subst ex
  obtain ⟨ρ1,e1,f,e2,ρ2,rfl,i2⟩:=h _ l ρ i
  refine ⟨ρ1,e1,_,e2,ρ2,rfl,?_⟩
  simpa using i2
 ·simp at i
  exact hd ρ i
theorem ZfN(n:Nat):ZbQ 0 n=(List.range n).map fun (k:Nat)=>D.int (k:Int):=by
 unfold ZbQ
 simp
def Wt(e f g:Int):Prop:=(0≤e∧0≤f∧0≤g∧0<e+f+g)∨(e≤0∧f≤0∧g≤0∧e+f+g<0)
theorem Zo9{ax ay aw bx bY bw cx cy cw px py ps:Int}(ha:0<aw)(hb:0<bw)(hc:0<cw)(hp:0<ps)(h:hdE ax ay aw bx bY bw cx cy cw px py ps≠0):Wt (ow bx bY bw cx cy cw px py ps) (ow cx cy cw ax ay aw px py ps) (ow ax ay aw bx bY bw px py ps):=by
 obtain ⟨s,hs,p1,p2,p3⟩:=Zh1 (ZoX _ _ _) h
 have i0:aw*ow bx bY bw cx cy cw px py ps+bw*ow cx cy cw ax ay aw px py ps+cw*ow ax ay aw bx bY bw px py ps=ow ax ay aw bx bY bw cx cy cw*ps:=by unfold ow;grind
 rcases hs with rfl | rfl
 ·have o:=ZiV ha hb hc hp p1 p2 p3
  have op:=Vck o hp
  rw [Zmf] at p1 p2 p3
  left
  refine ⟨by omega,by omega,by omega,?_⟩
  by_cases z:0<ow bx bY bw cx cy cw px py ps+ow cx cy cw ax ay aw px py ps+ow ax ay aw bx bY bw px py ps
  ·exact z
  ·exfalso
   have e1:ow bx bY bw cx cy cw px py ps=0:=by omega
   have e2:ow cx cy cw ax ay aw px py ps=0:=by omega
   have e3:ow ax ay aw bx bY bw px py ps=0:=by omega
   rw [e1,e2,e3] at i0
   omega
 ·have o:=Zk1 ha hb hc hp p1 p2 p3
  have op:=Vck (show 0 < - ow ax ay aw bx bY bw cx cy cw by omega) hp
  rw [Int.neg_mul] at op
  rw [Znr] at p1 p2 p3
  right
  refine ⟨by omega,by omega,by omega,?_⟩
  by_cases z:ow bx bY bw cx cy cw px py ps+ow cx cy cw ax ay aw px py ps+ow ax ay aw bx bY bw px py ps<0
  ·exact z
  ·exfalso
   have e1:ow bx bY bw cx cy cw px py ps=0:=by omega
   have e2:ow cx cy cw ax ay aw px py ps=0:=by omega
   have e3:ow ax ay aw bx bY bw px py ps=0:=by omega
   rw [e1,e2,e3] at i0
   omega
theorem Zk9{a x:Int}(ha:1≤a)(hx:0≤x):x≤a*x:=by
 have:=Vci ha hx
 omega
theorem ZiC{a x:Int}(ha:1≤a)(hx:x≤0):a*x≤x:=by
 have:=Vci ha (show 0≤-x by omega)
 rw [Int.mul_neg,Int.mul_neg,Int.one_mul] at this
 omega
theorem Zoi{x y z e f g:Int}(hx:1≤x)(hy:1≤y)(hz:1≤z)(w:Wt e f g):(0<e+f+g∧0<dot x y z e f g)∨(e+f+g<0∧dot x y z e f g<0):=by
 unfold dot
 rcases w with ⟨h1,h2,h3,h4⟩ | ⟨h1,h2,h3,h4⟩
 ·have:=Zk9 hx h1
  have:=Zk9 hy h2
  have:=Zk9 hz h3
  left;omega
 ·have:=ZiC hx h1
  have:=ZiC hy h2
  have:=ZiC hz h3
  right;omega
theorem Zoy{x y z e f g:Int}(hx:1≤x)(hy:1≤y)(hz:1≤z)(w:Wt e f g):dot x y z e f g≠0:=by
 rcases Zoi hx hy hz w with h | h<;>omega
theorem at3{av bv cv:List Int}{m j:Nat}(la:av.length=m)(lb:bv.length=m)(lc:cv.length=m)(hj:j<m):∃x y z,av[j]?=some x∧bv[j]?=some y∧cv[j]?=some z∧(av.zip (bv.zip cv))[j]?=some (x,y,z):=by
 have h1:j<av.length:=by omega
 have h2:j<bv.length:=by omega
 have h3:j<cv.length:=by omega
 refine ⟨av[j],bv[j],cv[j],VbM h1,VbM h2,VbM h3,?_⟩
 rw [List.getElem?_zip_eq_some]
 refine ⟨VbM h1,?_⟩
 rw [List.getElem?_zip_eq_some]
 exact ⟨VbM h2,VbM h3⟩
theorem Zmv{av bv cv:List Int}{m j:Nat}{e f g B:Int}(la:av.length=m)(lb:bv.length=m)(lc:cv.length=m)(hj:j<m):∃x y z,av[j]?=some x∧bv[j]?=some y∧cv[j]?=some z∧(vls av bv cv e f g B)[j]?=some (fra (dot x y z e f g) B):=by
 obtain ⟨x,y,z,h1,h2,h3,h4⟩:=at3 la lb lc hj
 refine ⟨x,y,z,h1,h2,h3,?_⟩
 unfold vls
 rw [Va5,h4]
 rfl
theorem ZkW{av bv cv:List Int}{m:Nat}{e f g B:Int}(la:av.length=m)(lb:bv.length=m)(lc:cv.length=m):(vls av bv cv e f g B).length=m:=by
 unfold vls
 rw [VaQ,List.length_zip,List.length_zip]
 omega
theorem Zro{Φ:D→Prop}{ax ay aw ah bx bY bw bh cx cy cw ch px py ps:Int}{av bv cv:List Int}(ha:1≤aw)(hb:1≤bw)(hc:1≤cw)(a:Cr ax ay aw)(b:Cr bx bY bw)(c:Cr cx cy cw)(p:Cr px py ps)(h0:hdE ax ay aw bx bY bw cx cy cw px py ps=0)(q:Φ .non):Tl (Zaw [.tup [cor ax ay aw ah av,cor bx bY bw bh bv,cor cx cy cw ch cv],.tup [.int px,.int py,.int ps]]) Φ:=by
 unfold Zaw
 walk_at "w"
 refine Zsb ha hb hc a b c p ?_
 unfold hdE at h0
 rw [h0]
 walk_at "w"
 exact q
theorem Zrg{Φ:D→Prop}{ax ay aw ah bx bY bw bh cx cy cw ch px py ps:Int}{av bv cv:List Int}(ha:1≤aw)(hb:1≤bw)(hc:1≤cw)(hp:1≤ps)(a:Cr ax ay aw)(b:Cr bx bY bw)(c:Cr cx cy cw)(p:Cr px py ps)(va:Cv 64 ax ay aw ah av)(vb:Cv 64 bx bY bw bh bv)(vc:Cv 64 cx cy cw ch cv)(hl:av.length≤1000)(h0:hdE ax ay aw bx bY bw cx cy cw px py ps≠0){e f g B:Int}(e1:e=ow bx bY bw cx cy cw px py ps)(e2:f=ow cx cy cw ax ay aw px py ps)(e3:g=ow ax ay aw bx bY bw px py ps)(e4:B=dot ah bh ch e f g)
  (q:Φ (.tup [fra (dot aw bw cw e f g) B,.tup (vls av bv cv e f g B)])):Tl (Zaw [.tup [cor ax ay aw ah av,cor bx bY bw bh bv,cor cx cy cw ch cv],.tup [.int px,.int py,.int ps]]) Φ:=by
 have W:=Zo9 (by omega) (by omega) (by omega) (by omega) h0
 subst e4 e1 e2 e3
 unfold Zaw
 walk_at "w"
 refine Zsb ha hb hc a b c p ?_
 walk_at "w"
 refine Zk8 a b c p ?_
 walk_at "w"
 refine ZpZ va vb vc (b.ow c p) (c.ow a p) (a.ow b p) (by decide) hl (Zoy va.f1 vb.f1 vc.f1 W) ?_
 walk_at "w"
 exact q
def frD(q:Rat):D:=.tup [.int q.num,.int (q.den:Int)]
theorem Zdb{t b:Int}(hb:b≠0):fra t b=frD (Rat.divInt t b):=by
 have F:=Mt.ZnP (t:=t) hb
 have d0:((Rat.divInt t b).den:Int)≠0:=by have:=(Rat.divInt t b).den_nz;omega
 have e:=(Rat.divInt_eq_divInt_iff d0 hb).mp (Vcl (Rat.divInt t b))
 have r:=(Rat.divInt t b).reduced
 have p:=(Rat.divInt t b).den_pos
 generalize Rat.divInt t b=q at *
 have low:Int.gcd q.num (q.den:Int)=1:=by
  show Nat.gcd q.num.natAbs (q.den:Int).natAbs=1
  rw [Vcd]
  exact r
 have s:=F.same
 obtain ⟨h1,h2⟩:=Mt.Zoo F.pos F.low (show 1≤(q.den:Int) by omega) low (by
  generalize Mt.frT t b=T at *
  generalize Mt.frB t b=B at *
  refine Vcm hb ?_
  calc b*(T*q.den)=(T*b)*q.den:=by grind
   _=(t*q.den)*B:=by rw [s];grind
   _=b*(q.num*B):=by rw [←e];grind)
 unfold fra frD
 rw [h1,h2]
structure Bq(k:Nat)(q:Rat):Prop where
 n:Sm k q.num
 d:Sm k (q.den:Int)
theorem Bq.mono{k m:Nat}{q:Rat}(h:Bq k q)(hk:k≤m):Bq m q:=⟨h.n.mono hk,h.d.mono hk⟩
theorem ZjN{t b:Int}{k:Nat}(hb:0<b)(st:Sm k t)(sb:Sm k b):Bq k (Rat.divInt t b):=by
 have e:=Zdb (t:=t) (b:=b) (by omega)
 unfold fra frD Mt.frT Mt.frB at e
 rw [if_neg (by omega),if_neg (by omega)] at e
 have g0:0<(Int.gcd t b:Int):=by have:=Mt.Zd6 (t:=t) (b:=b) (by omega);omega
 injection e with e
 injection e with e1 e2
 injection e1 with e1
 injection e2 with e2 _
 injection e2 with e2
 refine ⟨st.le ?_,sb.le ?_⟩
 ·rw [←e1];exact Mt.Zhj g0
 ·rw [←e2];exact Mt.Zhj g0
theorem Zhi{Φ:D→Prop}{t b:Int}{k:Nat}(hb:0<b)(st:Sm k t)(sb:Sm k b)(hk:k≤8000)(h:Bq k (Rat.divInt t b)→Φ (frD (Rat.divInt t b))):Tl (Za5 [.int t,.int b]) Φ:=by
 refine Zhf (by omega) sb (by omega) ?_
 rw [Zdb (by omega)]
 exact h (ZjN hb st sb)
theorem den1(q:Rat):0<(q.den:Int):=by have:=q.den_pos;omega
theorem Zhe(p q:Rat):Rat.divInt (p.num*q.den+q.num*p.den) (p.den*q.den)=p+q:=by
 have hp:=den1 p
 have hq:=den1 q
 rw [←Rat.divInt_add_divInt p.num q.num (by omega) (by omega),Vcl,Vcl]
theorem Zrm(p q:Rat):Rat.divInt (p.num*q.num) (p.den*q.den)=p*q:=by
 rw [←Rat.divInt_mul_divInt,Vcl,Vcl]
theorem Zp8{Φ:D→Prop}{p q:Rat}{a b:Nat}(hp:Bq a p)(hq:Bq b q)(hab:a+b≤4000)(h:Bq (a+b+1) (p+q)→Φ (frD (p+q))):Tl (Zej [frD p,frD q]) Φ:=by
 have m1:ZaT p.num q.den=true:=Zax hp.n hq.d (by omega)
 have m2:ZaT q.num p.den=true:=Zax hq.n hp.d (by omega)
 have m3:ZaT p.den q.den=true:=Zax hp.d hq.d (by omega)
 have s1:Sm (a+b+1) (p.num*q.den+q.num*p.den):=((hp.n.mul hq.d).add (show Sm (a+b) _ from Nat.add_comm b a▸hq.n.mul hp.d)).mono (by omega)
 have s2:Sm (a+b+1) ((p.den:Int)*q.den):=(hp.d.mul hq.d).mono (by omega)
 have d0:0<(p.den:Int)*q.den:=Vck (den1 p) (den1 q)
 unfold Zej frD
 walk_at "w"
 refine Zhi d0 s1 s2 (by omega) ?_
 rw [Zhe]
 intro hB
 walk_at "w"
 exact h hB
theorem ZlU{Φ:D→Prop}{p q:Rat}{a b:Nat}(hp:Bq a p)(hq:Bq b q)(hab:a+b≤4000)(h:Bq (a+b) (p*q)→Φ (frD (p*q))):Tl (Zcy [frD p,frD q]) Φ:=by
 have m1:ZaT p.num q.num=true:=Zax hp.n hq.n (by omega)
 have m3:ZaT p.den q.den=true:=Zax hp.d hq.d (by omega)
 have d0:0<(p.den:Int)*q.den:=Vck (den1 p) (den1 q)
 unfold Zcy frD
 walk_at "w"
 refine Zhi d0 (hp.n.mul hq.n) (hp.d.mul hq.d) (by omega) ?_
 rw [Zrm]
 intro hB
 walk_at "w"
 exact h hB
theorem Zjq{α:Type}{Φ:Fl→Prop}{g:MG}{k:MS}{ρ:Ev}{enc:α→D}{l:List α}(I:List α→Ev→Prop)(h0:I [] ρ)(h:∀p a r,p++a::r=l→∀ρ,I p ρ→Tl (g (enc a) ρ) fun ρ1=>Tl (k ρ1) fun f=>∃ρ2,f=.nx ρ2∧I (p++[a]) ρ2)(hd:∀ρ,I l ρ→Φ (.nx ρ)):Tl (ZbE g k (l.map enc) ρ) Φ:=by
 have key:∀(r p:List α),p++r=l→∀ρ,I p ρ→Tl (ZbE g k (r.map enc) ρ) Φ:=by
  intro r
  induction r with
  | nil =>
   intro p e ρ i
   rw [VaV] at e
   exact w_f0 (hd ρ (e▸i))
  | cons a r ih =>
   intro p e ρ i
   rw [VaP]
   refine w_f1 ((h p a r e ρ i).mono fun ρ1 t=>t.mono fun f ⟨ρ2,e2,i2⟩=>?_)
   subst e2
   exact ih (p++[a]) (by rw [VbP];exact e) ρ2 i2
 exact key l [] rfl ρ h0
theorem Zt9{α:Type}{Φ:Fl→Prop}{g:MG}{k:MS}{ρ:Ev}{enc:α→D}{l:List α}(I:List α→Ev→Prop)(h0:I [] ρ)(h:∀p a r,p++a::r=l→∀ρ,I p ρ→Tl (g (enc a) ρ) fun ρ1=>Tl (k ρ1) fun f=>∃ρ2,(f=.nx ρ2∨f=.ct ρ2)∧I (p++[a]) ρ2)(hd:∀ρ,I l ρ→Φ (.nx ρ)):Tl (ZbE g k (l.map enc) ρ) Φ:=by
 have key:∀(r p:List α),p++r=l→∀ρ,I p ρ→Tl (ZbE g k (r.map enc) ρ) Φ:=by
  intro r
  induction r with
  | nil =>
   intro p e ρ i
   rw [VaV] at e
   exact w_f0 (hd ρ (e▸i))
  | cons a r ih =>
   intro p e ρ i
   rw [VaP]
   refine w_f1 ((h p a r e ρ i).mono fun ρ1 t=>t.mono fun f ⟨ρ2,e2,i2⟩=>?_)
   rcases e2 with rfl | rfl
   ·exact ih (p++[a]) (by rw [VbP];exact e) ρ2 i2
   ·exact ih (p++[a]) (by rw [VbP];exact e) ρ2 i2
 exact key l [] rfl ρ h0
theorem Zdu{Φ:D→Prop}{n:Int}(h:Φ (.bl true)):Tl (ZaB [.int n]) Φ:=by
 unfold ZaB
 walk_at "w"
 exact h
theorem Zef{Φ:D→Prop}{q:Rat}(h:Φ (.bl true)):Tl (ZaO [frD q]) Φ:=by
 have d:=den1 q
 unfold ZaO frD
 walk_at "w"
 refine Zdu ?_
 walk_at "w"
 refine Zdu ?_
 walk_at "w"
 refine ZdP (ns:=[q.num,(q.den:Int)]) ?_
 rw [Mt.Zjz,show Int.gcd q.num (q.den:Int)=1 by show Nat.gcd q.num.natAbs (q.den:Int).natAbs=1;rw [Vcd];exact q.reduced]
 walk_at "w"
 exact h
theorem Zi7(k:Nat)(q:Rat):plain (k+1) (frD q)=true:=by
 show Zay k [.int q.num,.int (q.den:Int)]=true
 cases k<;>rfl
theorem ZpI(xs:List D)(k:Nat):cutL xs none (some (k:Int))=xs.take k:=by
 unfold cutL cutAt
 simp only []
 rw [if_neg (by omega),List.drop_zero,Nat.sub_zero,Vbz]
 by_cases h:k≤xs.length
 ·rw [Nat.min_eq_left h]
 ·rw [Nat.min_eq_right (by omega),Vbw (VaI _),Vbw (by omega)]
structure Sg where
 d:D
 gl:Bool
 q:Rat
 v:D
 own:Rat
 part:Rat
 col:Rat
 k:Int
def insR(acc:List Sg)(s:Sg):List Sg:=acc.takeWhile (fun r=>!decide (s.q<r.q))++s::acc.dropWhile (fun r=>!decide (s.q<r.q))
def insL(acc:List Sg)(s:Sg):List Sg:=acc.take (acc.filter fun l=>decide (s.q<l.q)).length++s::acc.drop (acc.filter fun l=>decide (s.q<l.q)).length
def Asc(l:List Sg):Prop:=l.Pairwise fun a b=>a.q≤b.q
theorem Zhn(s:Sg):insR [] s=[s]:=rfl
theorem ZcZ{a:Sg}{r:List Sg}{s:Sg}(h:s.q<a.q):insR (a::r) s=s::a::r:=by
 unfold insR
 rw [List.takeWhile_cons,List.dropWhile_cons,Vbm h]
 rfl
theorem Zc1{a:Sg}{r:List Sg}{s:Sg}(h:¬s.q<a.q):insR (a::r) s=a::insR r s:=by
 unfold insR
 rw [List.takeWhile_cons,List.dropWhile_cons,Vac h]
 rfl
theorem ZgS{x s:Sg}:∀{l:List Sg},x∈insR l s↔x=s∨x∈l
 | []=>by simp [Zhn]
 | a::r=>by
  by_cases h:s.q<a.q
  ·rw [ZcZ h,Var]
  ·rw [Zc1 h,Var,ZgS (l:=r),Var]
   constructor
   ·rintro (z | z | z)<;>simp [z]
   ·rintro (z | z | z)<;>simp [z]
theorem ZjJ{s:Sg}:∀{l:List Sg},Asc l→Asc (insR l s)
 | [],_=>by rw [Zhn];exact List.pairwise_singleton _ _
 | a::r,h=>by
  have h':=Vb8.mp h
  by_cases c:s.q<a.q
  ·rw [ZcZ c]
   refine Vb8.mpr ⟨fun x hx=>?_,h⟩
   rcases Var.mp hx with rfl | hx
   ·exact Rat.le_of_lt c
   ·exact Rat.le_trans (Rat.le_of_lt c) (h'.1 x hx)
  ·rw [Zc1 c]
   refine Vb8.mpr ⟨fun x hx=>?_,ZjJ h'.2⟩
   rcases ZgS.mp hx with rfl | hx
   ·exact Rat.not_lt.mp c
   ·exact h'.1 x hx
theorem Zfo(P:Sg→Bool){s:Sg}:∀{l:List Sg},Asc l→(insR l s).filter P=if P s then insR (l.filter P) s else l.filter P
 | [],_=>by rw [Zhn,Vcn];rfl
 | a::r,h=>by
  have h':=Vb8.mp h
  by_cases c:s.q<a.q
  ·rw [ZcZ c,Vcn]
   by_cases hs:P s=true
   ·rw [if_pos hs,if_pos hs]
    have key:∀m:List Sg,(∀x∈m,s.q<x.q)→insR m s=s::m:=by
     intro m hm
     cases m with
     | nil=>rfl
     | cons b t=>exact ZcZ (hm b Vao)
    rw [key]
    intro x hx
    have hx:=(Vai.mp hx).1
    rcases Var.mp hx with rfl | hx
    ·exact c
    ·exact Std.lt_of_lt_of_le c (h'.1 x hx)
   ·rw [if_neg hs,if_neg hs]
  ·rw [Zc1 c,Vcn,Zfo P h'.2,Vcn]
   by_cases ha:P a=true
   ·rw [if_pos ha,if_pos ha]
    by_cases hs:P s=true
    ·rw [if_pos hs,if_pos hs,Zc1 c]
    ·rw [if_neg hs,if_neg hs]
   ·rw [if_neg ha,if_neg ha]
def Zbh(l:List Sg):List Sg:=l.foldl insR []
theorem Zbb(l:List Sg)(s:Sg):Zbh (l++[s])=insR (Zbh l) s:=by unfold Zbh;rw [List.foldl_append];rfl
theorem snoc_ind{α:Type}{M:List α→Prop}(h0:M [])(h1:∀l a,M l→M (l++[a])):∀l,M l:=by
 intro l
 have key:∀r:List α,M r.reverse:=by
  intro r
  induction r with
  | nil=>exact h0
  | cons a r ih=>rw [List.reverse_cons];exact h1 _ _ ih
 have:=key l.reverse
 rwa [List.reverse_reverse] at this
theorem Zid(l:List Sg):Asc (Zbh l):=by
 refine snoc_ind (M:=fun l=>Asc (Zbh l)) List.Pairwise.nil (fun l a ih=>?_) l
 rw [Zbb]
 exact ZjJ ih
theorem Zdj(P:Sg→Bool)(l:List Sg):(Zbh l).filter P=Zbh (l.filter P):=by
 refine snoc_ind (M:=fun l=>(Zbh l).filter P=Zbh (l.filter P)) rfl (fun l a ih=>?_) l
 rw [Zbb,Zfo P (Zid l),ih,Vcp]
 by_cases ha:P a=true
 ·rw [if_pos ha,Vcn,if_pos ha,Vcq,Zbb]
 ·rw [if_neg ha,Vcn,if_neg ha,Vcq,VaV]
def Zkl(l:List Sg):List Sg:=l.foldl insL []
theorem Zgi(l:List Sg)(s:Sg):Zkl (l++[s])=insL (Zkl l) s:=by unfold Zkl;rw [List.foldl_append];rfl
theorem ZjO{s:Sg}:∀{l:List Sg},Asc l→∃a b,l=a++b∧(∀x∈a,¬s.q<x.q)∧(∀x∈b,s.q<x.q)∧insR l s=a++s::b
 | [],_=>⟨[],[],rfl,fun _ h=>(VbH h).elim,fun _ h=>(VbH h).elim,rfl⟩
 | c::r,h=>by
  have h':=Vb8.mp h
  by_cases k:s.q<c.q
  ·refine ⟨[],c::r,rfl,fun _ h=>(VbH h).elim,fun x hx=>?_,ZcZ k⟩
   rcases Var.mp hx with rfl | hx
   ·exact k
   ·exact Std.lt_of_lt_of_le k (h'.1 x hx)
  ·obtain ⟨a,b,e1,e2,e3,e4⟩:=ZjO (s:=s) h'.2
   refine ⟨c::a,b,by rw [e1];rfl,fun x hx=>?_,e3,by rw [Zc1 k,e4];rfl⟩
   rcases Var.mp hx with rfl | hx
   ·exact k
   ·exact e2 x hx
theorem Znj{l:List Sg}{s:Sg}(h:Asc l):(insR l s).reverse=insL l.reverse s:=by
 obtain ⟨a,b,rfl,e2,e3,e4⟩:=ZjO (s:=s) h
 rw [e4]
 unfold insL
 have f:((a++b).reverse.filter fun l=>decide (s.q<l.q))=b.reverse:=by
  rw [List.reverse_append,Vcp]
  have f1:(b.reverse.filter fun l=>decide (s.q<l.q))=b.reverse:=List.filter_eq_self.mpr fun x hx=>Vbm (e3 x (List.mem_reverse.mp hx))
  have f2:(a.reverse.filter fun l=>decide (s.q<l.q))=[]:=List.filter_eq_nil_iff.mpr fun x hx=>by
   rw [decide_eq_true_eq]
   exact e2 x (List.mem_reverse.mp hx)
  rw [f1,f2,VaV]
 rw [f,List.reverse_append (as:=a) (bs:=b),List.take_left,List.drop_left]
 simp
theorem ZmK(l:List Sg):(Zbh l).reverse=Zkl l:=by
 refine snoc_ind (M:=fun l=>(Zbh l).reverse=Zkl l) rfl (fun l a ih=>?_) l
 rw [Zbb,Znj (Zid l),ih,Zgi]
def Zfn(n:Option Sg)(s:Sg):Option Sg:=if s.gl=true then n else match n with
  | none=>some s
  | some m=>if s.q<m.q then some s else some m
def near(l:List Sg):Option Sg:=l.foldl Zfn none
theorem ZhI(l:List Sg)(s:Sg):near (l++[s])=Zfn (near l) s:=by unfold near;rw [List.foldl_append];rfl
theorem ZmQ{l:List Sg}{s:Sg}:(insR l s).head?=some (match l.head? with
  | none=>s
  | some m=>if s.q<m.q then s else m):=by
 cases l with
 | nil=>rfl
 | cons a r =>
  by_cases h:s.q<a.q
  ·rw [ZcZ h];show some s=some (if s.q<a.q then s else a);rw [if_pos h]
  ·rw [Zc1 h];show some a=some (if s.q<a.q then s else a);rw [if_neg h]
theorem ZlZ(l:List Sg):near l=((Zbh l).filter fun s=>!s.gl).head?:=by
 rw [Zdj]
 refine snoc_ind (M:=fun l=>near l=(Zbh (l.filter fun s=>!s.gl)).head?) rfl (fun l s ih=>?_) l
 rw [ZhI,Vcp]
 unfold Zfn
 cases hs:s.gl with
 | true =>
  rw [if_pos rfl,Vcn,if_neg (by rw [hs];decide),Vcq,VaV]
  exact ih
 | false =>
  rw [if_neg VaF,Vcn,if_pos (by rw [hs];rfl),Vcq,Zbb,ZmQ,←ih]
  cases near l with
  | none=>rfl
  | some m =>
   show (if s.q<m.q then some s else some m)=some (if s.q<m.q then s else m)
   by_cases c:s.q<m.q
   ·rw [if_pos c,if_pos c]
   ·rw [if_neg c,if_neg c]
structure GS(s:Sg):Prop where
 ob:∃(c:Str) (ns:List Str) (vs:List D),s.d=.ins c ns vs∧ns.contains "is_glass"=false∧ns.contains "colour_at"=false∧(∃f,ZaW.lookup c=some f∧f [s.d]=.ok (.bl s.gl))∧(s.gl=false→∃f,ZaY.lookup c=some f∧f [s.d,s.v]=.ok (frD s.own))
 pt:s.gl=true→dFld objs "part" s.d=.ok (frD s.part)∧dFld objs "colour" s.d=.ok (frD s.col)
 bq:Bq 300 s.q
 bo:Bq 300 s.own
 bp:Bq 32 s.part
 bc:Bq 32 s.col
def seeD:Option Sg→D
 | none=>.non
 | some s=>.tup [frD s.q,s.v]
structure Seen(p d:D)(o:Option Sg):Prop where
 tri:∃T,dFld objs "triangle" d=.ok T∧Zaw [T,p]=.ok (seeD o)
 ok:∀s,o=some s→s.d=d∧GS s
abbrev encS(s:Sg):D:=.tup [s.d,frD s.q,s.v]
abbrev DO:=D×Option Sg
def sgts(L:List DO):List Sg:=L.filterMap (·.2)
theorem ZmL(L:List DO)(y:DO):sgts (L++[y])=sgts L++y.2.toList:=by
 unfold sgts
 rw [List.filterMap_append,Van,List.filterMap_nil]
 cases y.2<;>rfl
theorem Zm6(L:List DO):(sgts L).length≤L.length:=List.length_filterMap_le _ _
theorem Zpm{p:D}{L:List DO}(h:∀y∈L,Seen p y.1 y.2):∀s∈sgts L,GS s:=fun s hs=>by
 obtain ⟨y,hy,e⟩:=VaK.mp hs
 exact ((h y hy).ok s e).2
theorem ZoF{Φ:D→Prop}{tab:List (Str×(List D→Res D))}{m:Str}{o:ME}{a:MA}{ρ:Ev}(h:Tl (o ρ) fun d=>∃(c:Str) (ns:List Str) (vs:List D) (f:List D→Res D),d=.ins c ns vs∧ns.contains m=false∧tab.lookup c=some f∧Tl (a ρ) fun ds=>Tl (f (.ins c ns vs::ds)) Φ):Tl (meth tab m o a ρ) Φ:=by
 obtain ⟨d,e1,c,ns,vs,f,rfl,hn,ht,ds,e2,q⟩:=h
 unfold meth
 rw [e1]
 show Tl (if ns.contains m=true then .bad else match tab.lookup c with
  | some f=>(a ρ).bind fun ds=>f (.ins c ns vs::ds)
  | none=>.bad) Φ
 rw [hn,if_neg VaF,ht]
 show Tl ((a ρ).bind fun ds=>f (.ins c ns vs::ds)) Φ
 rw [e2]
 exact q
theorem Zsy{Φ:D→Prop}{s:Sg}{o:ME}{ρ:Ev}(g:GS s)(ho:o ρ=.ok s.d)(q:Φ (.bl s.gl)):Tl (meth ZaW "is_glass" o yaa ρ) Φ:=by
 obtain ⟨c,ns,vs,e,n1,n2,⟨f,l1,f1⟩,_⟩:=g.ob
 refine ZoF ⟨_,ho,c,ns,vs,f,e,n1,l1,?_⟩
 refine Zao (x:=[]) rfl ?_
 rw [←e]
 exact Zao f1 q
theorem ZuW{Φ:D→Prop}{s:Sg}{o:ME}{a:MA}{ρ:Ev}(g:GS s)(h:s.gl=false)(ho:o ρ=.ok s.d)(ha:a ρ=.ok [s.v])(q:Φ (frD s.own)):Tl (meth ZaY "colour_at" o a ρ) Φ:=by
 obtain ⟨c,ns,vs,e,n1,n2,_,z⟩:=g.ob
 obtain ⟨f,l1,f1⟩:=z h
 refine ZoF ⟨_,ho,c,ns,vs,f,e,n2,l1,?_⟩
 refine Zao ha ?_
 rw [←e]
 exact Zao f1 q
theorem ZkB{Φ:D→Prop}{p:D}{L:List DO}(hL:∀y∈L,Seen p y.1 y.2)(hl:L.length≤1000)(q:Φ (.lst ((sgts L).map encS))):Tl (ZaV [.lst (L.map (·.1)),p]) Φ:=by
 unfold ZaV
 walk_at "w"
 refine Zjq (enc:=fun y:DO=>y.1) (fun pre ρ=>∃v3 v4:Cl,ρ=[.im (.lst (L.map (·.1))),.im p,.ow ((sgts pre).map encS),v3,v4]) ⟨_,_,rfl⟩ ?_ ?_
 ·rintro pre y r e ρ ⟨v3,v4,rfl⟩
  have hy:y∈L:=by rw [←e];simp
  have hlen:pre.length<L.length:=by rw [←e];simp
  obtain ⟨⟨T,t1,t2⟩,ok⟩:=hL y hy
  walk_at "w"
  refine Zao t1 ?_
  walk_at "w"
  refine Zao t2 ?_
  rw [ZmL]
  cases ho:y.2 with
  | none =>
   show Tl _ _
   walk_at "w"
   rw [show (none:Option Sg).toList=[] from rfl,VaV]
   exact ⟨_,rfl,_,_,rfl⟩
  | some s =>
   obtain ⟨e1,g⟩:=ok s ho
   unfold seeD
   walk_at "w"
   have:=Zm6 pre
   refine ⟨by rw [VaQ];omega,?_⟩
   rw [Vb0,←e1]
   exact ⟨_,rfl,_,_,rfl⟩
 ·rintro ρ ⟨v3,v4,rfl⟩
  walk_at "w"
  exact q
theorem Ze5{Φ:D→Prop}{a b:Rat}(ha:Bq 300 a)(hb:Bq 300 b)(h:Φ (.bl (decide (a<b)))):Tl (ZcJ [frD a,frD b]) Φ:=by
 have m1:ZaT a.num b.den=true:=Zax ha.n hb.d (by decide)
 have m2:ZaT b.num a.den=true:=Zax hb.n ha.d (by decide)
 unfold ZcJ frD
 walk_at "w"
 have e:decide (a.num*(b.den:Int)<b.num*(a.den:Int))=decide (a<b):=decide_eq_decide.mpr (Rat.lt_iff a b).symm
 rw [e]
 exact h
def optS:Option Sg→D
 | none=>.non
 | some s=>encS s
theorem Zlr{Φ:D→Prop}{l:List Sg}(hl:∀s∈l,GS s)(q:Φ (optS (near l))):Tl (ZbH [.lst (l.map encS)]) Φ:=by
 unfold ZbH
 walk_at "w"
 refine Zt9 (enc:=encS) (fun pre ρ=>∃v2:Cl,(∀s,near pre=some s→s∈pre)∧ρ=[.im (.lst (l.map encS)),.im (optS (near pre)),v2]) ⟨.no,(fun s h=>by cases h),rfl⟩ ?_ ?_
 ·rintro pre s r e ρ ⟨v2,hm,rfl⟩
  have hs:s∈l:=by rw [←e];simp
  have gs:=hl s hs
  have bs:=gs.bq
  have hm':∀t,Zfn (near pre) s=some t→t∈pre++[s]:=by
   intro t ht
   unfold Zfn at ht
   by_cases hg:s.gl=true
   ·rw [if_pos hg] at ht
    exact Vat _ (hm t ht)
   ·rw [if_neg hg] at ht
    cases hn:near pre with
    | none=>rw [hn] at ht;cases ht;simp
    | some m =>
     rw [hn] at ht
     have ht:(if s.q<m.q then some s else some m)=some t:=ht
     by_cases c:s.q<m.q
     ·rw [if_pos c] at ht;cases ht;simp
     ·rw [if_neg c] at ht;cases ht;exact Vat _ (hm _ hn)
  rw [ZhI]
  walk_at "w"
  refine Zsy gs rfl ?_
  walk_at "w"
  cases hg:s.gl with
  | true =>
   walk_at "w"
   have e2:Zfn (near pre) s=near pre:=by unfold Zfn;rw [if_pos hg]
   rw [e2] at hm' ⊢
   exact ⟨_,.inr rfl,_,hm',rfl⟩
  | false =>
   walk_at "w"
   cases hn:near pre with
   | none =>
    have e2:Zfn none s=some s:=by unfold Zfn;rw [if_neg (by rw [hg];exact Bool.false_ne_true)]
    rw [hn,e2] at hm'
    rw [e2]
    show Tl _ _
    unfold optS
    walk_at "w"
    exact ⟨_,.inl rfl,_,hm',rfl⟩
   | some m =>
    have gm:=hl m (by rw [←e];exact Vat _ (hm _ hn))
    rw [hn] at hm'
    have e2:Zfn (some m) s=if s.q<m.q then some s else some m:=by unfold Zfn;rw [if_neg (by rw [hg];exact Bool.false_ne_true)]
    unfold optS
    walk_at "w"
    refine Ze5 bs gm.bq ?_
    walk_at "w"
    refine ZcW (fun c=>?_) (fun c=>?_)
    ·rw [e2,if_pos c] at hm' ⊢
     walk_at "w"
     exact ⟨_,.inl rfl,_,hm',rfl⟩
    ·rw [e2,if_neg c] at hm' ⊢
     walk_at "w"
     exact ⟨_,.inl rfl,_,hm',rfl⟩
 ·rintro ρ ⟨v2,hm,rfl⟩
  walk_at "w"
  exact q
theorem Ztx{Φ:Fl→Prop}{i:Nat}{k e:ME}{ρ:Ev}{xs:List D}(hx:ρ[i]?=some (.ow xs))(h:Tl (k ρ) fun u=>∃j:Nat,u=.int (j:Int)∧j≤xs.length∧xs.length<1000000∧Tl (e ρ) fun d=>Φ (.nx (ρ.set i (.ow (xs.take j++d::xs.drop j))))):Tl (insO i k e ρ) Φ:=by
 obtain ⟨u,e1,j,rfl,h1,h2,d,e2,q⟩:=h
 unfold insO
 rw [hx]
 show Tl ((k ρ).bind _) Φ
 rw [e1]
 show Tl ((e ρ).bind fun d=>if (0≤(j:Int)∧(j:Int)≤xs.length)∧xs.length<LIM then .ok (.nx (ρ.set i (.ow (xs.take (j:Int).toNat++d::xs.drop (j:Int).toNat)))) else .bad) Φ
 rw [e2]
 show Tl (if (0≤(j:Int)∧(j:Int)≤xs.length)∧xs.length<LIM then .ok (.nx (ρ.set i (.ow (xs.take (j:Int).toNat++d::xs.drop (j:Int).toNat)))) else .bad) Φ
 rw [if_pos ⟨by omega,h2⟩,Vbz]
 exact Zau q
theorem ZiT{α:Type}{Φ:List D→Prop}{g:MG}{t:MB}{e:ME}{ρ:Ev}{enc:α→D}(P:α→Bool):∀{l:List α},(∀a∈l,Tl (g (enc a) ρ) fun ρ1=>Tl (t ρ1) fun b=>b=P a∧Tl (e ρ1) fun y=>y=enc a)→Φ ((l.filter P).map enc)→Tl (Zan g t e ρ (l.map enc)) Φ:=by
 intro l h q
 have key:∀l:List α,(∀a∈l,Tl (g (enc a) ρ) fun ρ1=>Tl (t ρ1) fun b=>b=P a∧Tl (e ρ1) fun y=>y=enc a)→Zan g t e ρ (l.map enc)=.ok ((l.filter P).map enc):=by
  intro l
  induction l with
  | nil=>exact fun _=>rfl
  | cons a r ih =>
   intro h
   obtain ⟨ρ1,e1,b,e2,hb,y,e3,rfl⟩:=h a Vao
   have z:=ih fun c hc=>h c (Vap _ hc)
   rw [VaP,ZdH,e1,ZcM,e2,ZcM,Vcn]
   by_cases c:P a=true
   ·rw [hb,if_pos c,if_pos c,e3,ZcM,z];rfl
   ·rw [hb,if_neg c,if_neg c,z]
 exact Zao (key l h) q
def Zb6(n:Option Sg)(s:Sg):Bool:=s.gl&&(match n with
 | none=>true
 | some m=>decide (s.q<m.q))
def lay(n:Option Sg)(l:List Sg):List Sg:=Zkl (l.filter (Zb6 n))
theorem Zea(n:Option Sg)(l:List Sg)(s:Sg):lay n (l++[s])=if Zb6 n s=true then insL (lay n l) s else lay n l:=by
 unfold lay
 rw [Vcp,Vcn,Vcq]
 by_cases h:Zb6 n s=true
 ·rw [if_pos h,if_pos h,Zgi]
 ·rw [if_neg h,if_neg h,VaV]
theorem Zm9{x s:Sg}{l:List Sg}(h:x∈insL l s):x=s∨x∈l:=by
 unfold insL at h
 rcases Vas.mp h with h | h
 ·exact .inr (List.mem_of_mem_take h)
 ·rcases Var.mp h with h | h
  ·exact .inl h
  ·exact .inr (List.mem_of_mem_drop h)
theorem Zmr{n:Option Sg}{x:Sg}{l:List Sg}:x∈lay n l→x∈l∧Zb6 n x=true:=by
 refine snoc_ind (M:=fun l=>x∈lay n l→x∈l∧Zb6 n x=true) (fun h=>by cases h) (fun l s ih h=>?_) l
 rw [Zea] at h
 by_cases c:Zb6 n s=true
 ·rw [if_pos c] at h
  rcases Zm9 h with rfl | h
  ·exact ⟨by simp,c⟩
  ·exact ⟨Vat _ (ih h).1,(ih h).2⟩
 ·rw [if_neg c] at h
  exact ⟨Vat _ (ih h).1,(ih h).2⟩
theorem Zm3(l:List Sg)(s:Sg):(insL l s).length=l.length+1:=by
 unfold insL
 have:=List.length_filter_le (fun t:Sg=>decide (s.q<t.q)) l
 simp
 omega
theorem ZkN(n:Option Sg)(l:List Sg):(lay n l).length≤l.length:=by
 refine snoc_ind (M:=fun l=>(lay n l).length≤l.length) (VaI _) (fun l s ih=>?_) l
 rw [Zea,Va7,Vbl]
 by_cases c:Zb6 n s=true
 ·rw [if_pos c,Zm3];omega
 ·rw [if_neg c];omega
theorem ZnW{Φ:D→Prop}{n:Option Sg}{l:List Sg}(hn:∀m,n=some m→GS m)(hl:∀s∈l,GS s)(hs:l.length≤1000)(q:Φ (.lst ((lay n l).map encS))):Tl (ZaZ [optS n,.lst (l.map encS)]) Φ:=by
 unfold ZaZ
 walk_at "w"
 refine Zjq (enc:=encS) (fun pre ρ=>∃v3 v4:Cl,ρ=[.im (optS n),.im (.lst (l.map encS)),.ow ((lay n pre).map encS),v3,v4]) ⟨_,_,rfl⟩ ?_ ?_
 ·rintro pre s r e ρ ⟨v3,v4,rfl⟩
  have hm:s∈l:=by rw [←e];simp
  have hlen:pre.length<l.length:=by rw [←e];simp
  have gs:=hl s hm
  have gp:∀x∈lay n pre,GS x:=fun x hx=>hl x (by rw [←e];exact Vat _ (Zmr hx).1)
  have ll:=ZkN n pre
  have tail:Zb6 n s=true→∀v4:Cl,Tl ((sq (st 4 (pk 2 (on bLen (Zaa (comp (iv (v 2)) 1 [3] (gN 0) (trb (on ZcJ (Zaa (o2 dIx (v 1) (c (.int 1))) (Zaa (o2 dIx (v 0) (c (.int 1))) yaa)))) (v 0)) yaa)))) (insO 2 (v 4) (v 3))) [.im (optS n),.im (.lst (l.map encS)),.ow ((lay n pre).map encS),.im (encS s),v4]) fun f=>∃ρ2,f=.nx ρ2∧∃v3 v4:Cl,ρ2=[.im (optS n),.im (.lst (l.map encS)),.ow ((lay n (pre++[s])).map encS),v3,v4]:=by
   intro ho v4
   rw [Zea,if_pos ho]
   walk_at "w"
   refine ⟨by rw [VaQ];omega,?_⟩
   refine ZiT (fun t:Sg=>decide (s.q<t.q)) (fun t ht=>?_) ?_
   ·walk_at "w"
    refine Ze5 gs.bq (gp t ht).bq ?_
    walk_at "w"
    exact ⟨rfl,by walk_at "w"⟩
   walk_at "w"
   refine Ztx rfl ?_
   walk_at "w"
   have:=List.length_filter_le (fun t:Sg=>decide (s.q<t.q)) (lay n pre)
   refine ⟨((lay n pre).filter fun t=>decide (s.q<t.q)).length,by rw [VaQ],by rw [VaQ];exact this,by rw [VaQ];omega,?_⟩
   walk_at "w"
   rw [←Vb7,←List.map_drop,←VaP,←Vb0]
   exact ⟨_,rfl,_,_,rfl⟩
  have skip:Zb6 n s=false→∃ρ2,Fl.nx [.im (optS n),.im (.lst (l.map encS)),.ow ((lay n pre).map encS),.im (encS s),v4]=.nx ρ2∧∃v3 v4:Cl,ρ2=[.im (optS n),.im (.lst (l.map encS)),.ow ((lay n (pre++[s])).map encS),v3,v4]:=fun ho=>by
   rw [Zea,ho,if_neg VaF]
   exact ⟨_,rfl,_,_,rfl⟩
  walk_at "w"
  refine Zsy gs rfl ?_
  walk_at "w"
  cases hg:s.gl with
  | false =>
   walk_at "w"
   exact skip (by unfold Zb6;rw [hg];rfl)
  | true =>
   cases n with
   | none =>
    unfold optS
    walk_at "w"
    have ho:Zb6 none s=true:=by unfold Zb6;rw [hg];rfl
    rw [Zea,if_pos ho]
    refine ⟨by rw [VaQ];omega,?_⟩
    refine ZiT (fun t:Sg=>decide (s.q<t.q)) (fun t ht=>?_) ?_
    ·walk_at "w"
     refine Ze5 gs.bq (gp t ht).bq ?_
     walk_at "w"
     exact ⟨rfl,by walk_at "w"⟩
    walk_at "w"
    refine Ztx rfl ?_
    walk_at "w"
    have:=List.length_filter_le (fun t:Sg=>decide (s.q<t.q)) (lay none pre)
    refine ⟨((lay none pre).filter fun t=>decide (s.q<t.q)).length,by rw [VaQ],by rw [VaQ];exact this,by rw [VaQ];omega,?_⟩
    walk_at "w"
    rw [←Vb7,←List.map_drop,←VaP,←Vb0]
    exact ⟨_,rfl,_,_,rfl⟩
   | some m =>
    unfold optS
    walk_at "w"
    refine Ze5 gs.bq (hn m rfl).bq ?_
    walk_at "w"
    refine ZcW (fun c=>?_) (fun c=>?_)
    ·exact tail (by unfold Zb6;rw [hg];simp [c]) _
    ·walk_at "w"
     exact skip (by unfold Zb6;rw [hg];simp [c])
 ·rintro ρ ⟨v3,v4,rfl⟩
  walk_at "w"
  exact q
theorem Zpq(p q:Rat):Rat.divInt (p.num*q.den - q.num*p.den) (p.den*q.den)=p - q:=by
 have hp:=den1 p
 have hq:=den1 q
 rw [Rat.sub_eq_add_neg,←Zhe p (-q),Rat.neg_num,Rat.neg_den]
 congr 1
 grind
theorem ZnD{Φ:D→Prop}{p q:Rat}{a b:Nat}(hp:Bq a p)(hq:Bq b q)(hab:a+b≤4000)(h:Bq (a+b+1) (p - q)→Φ (frD (p - q))):Tl (ZeC [frD p,frD q]) Φ:=by
 have m1:ZaT p.num q.den=true:=Zax hp.n hq.d (by omega)
 have m2:ZaT q.num p.den=true:=Zax hq.n hp.d (by omega)
 have m3:ZaT p.den q.den=true:=Zax hp.d hq.d (by omega)
 have s0:Sm (a+b) (q.num*p.den):=Nat.add_comm b a▸hq.n.mul hp.d
 have s1:Sm (a+b+1) (p.num*q.den - q.num*p.den):=by
  have z:=((hp.n.mul hq.d).add s0.neg).mono (show max (a+b) (a+b)+1≤a+b+1 by omega)
  rw [←Int.sub_eq_add_neg] at z
  exact z
 have s2:Sm (a+b+1) ((p.den:Int)*q.den):=(hp.d.mul hq.d).mono (by omega)
 have d0:0<(p.den:Int)*q.den:=Vck (den1 p) (den1 q)
 unfold ZeC frD
 walk_at "w"
 refine Zhi d0 s1 s2 (by omega) ?_
 rw [Zpq]
 intro hB
 walk_at "w"
 exact h hB
def mixQ(s:Sg)(c:Rat):Rat:=s.part*s.col+(1 - s.part)*c
theorem Zs1:Bq 1 (1:Rat):=⟨by show (1:Int).natAbs<2^1;decide,by show (1:Int).natAbs<2^1;decide⟩
theorem Zr6{Φ:D→Prop}{s:Sg}{c:Rat}{B:Nat}(g:GS s)(hg:s.gl=true)(hc:Bq B c)(hB:B≤3000)(q:Bq (B+170) (mixQ s c)→Φ (frD (mixQ s c))):Tl (Zbx [s.d,frD c]) Φ:=by
 obtain ⟨p1,p2⟩:=g.pt hg
 unfold Zbx
 walk_at "w"
 refine Zao p1 ?_
 walk_at "w"
 show Tl (ZeC [frD 1,frD s.part]) _
 refine ZnD Zs1 g.bp (by decide) fun b1=>?_
 walk_at "w"
 refine Zao p1 ?_
 walk_at "w"
 refine Zao p2 ?_
 walk_at "w"
 refine ZlU g.bp g.bc (by decide) fun b2=>?_
 walk_at "w"
 refine ZlU b1 hc (by omega) fun b3=>?_
 walk_at "w"
 refine Zp8 b2 b3 (by omega) fun b4=>?_
 walk_at "w"
 exact q (b4.mono (by omega))
def ZgN(g:Rat):Option Sg→Rat
 | none=>g
 | some m=>m.own
def layQ(l:List Sg)(c:Rat):Rat:=l.foldl (fun c s=>mixQ s c) c
def colQ(g:Rat)(l:List Sg):Rat:=layQ (lay (near l) l) (ZgN g (near l))
theorem Zg5{l:List Sg}{m:Sg}(h:near l=some m):m∈l∧m.gl=false:=by
 rw [ZlZ] at h
 have z:=List.mem_of_mem_head? (by rw [h];rfl:m∈((Zbh l).filter fun s=>!s.gl).head?)
 rw [Zdj] at z
 have key:∀k:List Sg,m∈Zbh k→m∈k:=by
  intro k
  refine snoc_ind (M:=fun k=>m∈Zbh k→m∈k) (fun h=>h) (fun k s ih h=>?_) k
  rw [Zbb] at h
  rcases ZgS.mp h with rfl | h
  ·simp
  ·exact Vat _ (ih h)
 have y:=Vai.mp (key _ z)
 exact ⟨y.1,by simpa using y.2⟩
theorem ZpD{n:Option Sg}{s:Sg}(h:Zb6 n s=true):s.gl=true:=by
 unfold Zb6 at h
 rw [Vbj] at h
 exact h.1
theorem Zin{Φ:D→Prop}{it:MI}{own:Nat}{cap:List Nat}{g:MG}{t:MB}{e:ME}{ρ:Ev}(h:Tl (it ρ) fun xs=>xs.length≤1000000∧Tl (Zan g t e (noA own (yav ρ cap)) xs) fun ys=>Φ (.lst ys)):Tl (ZiI it own cap g t e ρ) Φ:=by
 obtain ⟨xs,e1,hl,ys,e2,q⟩:=h
 refine Zao ?_ q
 unfold ZiI
 rw [e1]
 show (if xs.length≤LIM then (Zan g t e (noA own (yav ρ cap)) xs).bind (fun ys=>Res.ok (D.lst ys)) else .bad)=_
 rw [if_pos (show xs.length≤LIM from hl),e2]
 rfl
theorem Zdn(kf:Nat→List Int):∀(n:Nat) (k:List Int),k∈firsts kf n↔∃i,i<n∧kf i=k
 | 0,k=>by simp [firsts]
 | n+1,k=>by
  have ih:=Zdn kf n k
  unfold firsts
  split
  ·next h =>
   rw [ih]
   constructor
   ·rintro ⟨i,hi,e⟩
    exact ⟨i,by omega,e⟩
   ·rintro ⟨i,hi,e⟩
    by_cases z:i=n
    ·subst z
     obtain ⟨j,hj,e'⟩:=(Zdn kf i (kf i)).mp h
     exact ⟨j,hj,e'.trans e⟩
    ·exact ⟨i,by omega,e⟩
  ·rw [Vas,ih,Vca]
   constructor
   ·rintro (⟨i,hi,e⟩ | e)
    ·exact ⟨i,by omega,e⟩
    ·exact ⟨n,by omega,e.symm⟩
   ·rintro ⟨i,hi,e⟩
    by_cases z:i=n
    ·subst z;exact .inr e.symm
    ·exact .inl ⟨i,by omega,e⟩
theorem Zde(kf:Nat→List Int):∀n,(firsts kf n).length≤n
 | 0=>VaI _
 | n+1=>by
  have:=Zde kf n
  unfold firsts
  split
  ·omega
  ·simp;omega
theorem Zf6(kf:Nat→List Int):∀n,(firsts kf n).length=n↔∀i j,i<j→j<n→kf i≠kf j
 | 0=>by simp [firsts]
 | n+1=>by
  have ih:=Zf6 kf n
  have le:=Zde kf n
  unfold firsts
  split
  ·next h =>
   obtain ⟨i,hi,e⟩:=(Zdn kf n (kf n)).mp h
   constructor
   ·intro z;omega
   ·intro z;exact absurd e (z i n hi (by omega))
  ·next h =>
   have h':∀i,i<n→kf i≠kf n:=fun i hi e=>h ((Zdn kf n (kf n)).mpr ⟨i,hi,e⟩)
   rw [Va7,Vbl]
   constructor
   ·intro z i j hij hj
    have z':=ih.mp (by omega)
    by_cases q:j=n
    ·subst q;exact h' i hij
    ·exact z' i j hij (by omega)
   ·intro z
    have:=ih.mpr fun i j hij hj=>z i j hij (by omega)
    omega
theorem ZjQ{α:Type}{enc:α→D}{key:α→List Int}(h:∀a,∃ds,enc a=.tup ds∧intsOf ds=some (key a)):∀l:List α,keysOf (l.map enc)=some (l.map key)
 | []=>rfl
 | a::r=>by
  obtain ⟨ds,e1,e2⟩:=h a
  rw [VaP,e1]
  unfold keysOf
  rw [e2,ZjQ h r]
  rfl
theorem Zqi{α:Type} [DecidableEq α] {enc:α→D} {key:α→List Int} (h:∀a,∃ds,enc a=.tup ds∧intsOf ds=some (key a)) (inj:∀a b,key a=key b→a=b) {l:List α} (hl:l.length≤16) :
  ∃n:Nat,ZgW (.lst (l.map enc))=.ok (.int (n:Int))∧(n=l.length↔l.Nodup):=by
 refine ⟨(firsts (fun i=>(l.map key).getD i []) (l.map enc).length).length,?_,?_⟩
 ·show (match keysOf (l.map enc) with | some ks=>if (l.map enc).length≤16 then Res.ok (D.int ((firsts (fun i=>ks.getD i []) (l.map enc).length).length:Nat)) else Res.bad | none=>Res.bad)=_
  rw [ZjQ h]
  show (if _ then _ else _)=_
  rw [if_pos (by rw [VaQ];exact hl)]
 ·rw [VaQ,Zf6]
  unfold List.Nodup
  rw [Vb5]
  have at_:∀i (hi:i<l.length),(l.map key).getD i []=key l[i]:=fun i hi=>by simp [List.getD,hi]
  constructor
  ·intro z i j hi hj hij e
   exact z i j hij hj (by rw [at_ i hi,at_ j hj,e])
  ·intro z i j hij hj e
   rw [at_ i (by omega),at_ j hj] at e
   exact z i j (by omega) hj hij (inj _ _ e)
abbrev encP(d:Int×Int):D:=.tup [.int d.1,.int d.2]
theorem Zod{Φ:D→Prop}{x:Int}(q:Φ (.bl true)):Tl (ZaB [.int x]) Φ:=by
 unfold ZaB
 walk_at "w"
 exact q
theorem Zee{Φ:D→Prop}{x a b:Int}(h:a≤x∧x≤b)(q:Φ (.bl true)):Tl (ZaH [.int x,.int a,.int b]) Φ:=by
 unfold ZaH
 walk_at "w"
 refine Zod ?_
 walk_at "w"
 rw [Vbm h.2]
 exact q
theorem Zj6{Φ:D→Prop}{w h:Nat}(hw:1≤w∧w≤64)(hh:1≤h∧h≤64)(q:Φ .non):Tl (Zbj [.int (w:Int),.int (h:Int)]) Φ:=by
 unfold Zbj
 walk_at "w"
 refine Zee (by omega) ?_
 walk_at "w"
 refine Zee (by omega) ?_
 walk_at "w"
 exact q
theorem Zij{α:Type}(f:α→Bool):∀l:List α,bools (l.map fun a=>D.bl (f a))=.ok (l.map f)
 | []=>rfl
 | a::r=>by
  rw [VaP]
  show (bools (r.map fun a=>D.bl (f a))).bind _=_
  rw [Zij f r]
  rfl
theorem ZmW{Φ:D→Prop}{d:Int×Int}(hd:(1≤d.1∧d.1≤7)∧1≤d.2∧d.2≤7)(q:Φ (.bl true)):Tl (Zda [encP d]) Φ:=by
 unfold Zda
 walk_at "w"
 refine Zee hd.1 ?_
 walk_at "w"
 refine Zee hd.2 ?_
 walk_at "w"
 exact q
theorem Zt4{α:Type}{Φ:D→Prop}{f:α→Bool}{l:List α}(h:∀a∈l,f a=true)(q:Φ (.bl true)):Tl (bAll [.lst (l.map fun a=>D.bl (f a))]) Φ:=by
 refine Zao ?_ q
 show (bools (l.map fun a=>D.bl (f a))).bind _=_
 rw [Zij f l]
 show Res.ok (D.bl ((l.map f).all id))=_
 rw [List.all_map,List.all_eq_true.mpr fun a ha=>(show (id ∘ f) a=true from h a ha)]
theorem Zj5{Φ:D→Prop}{dots:List (Int×Int)}(h1:1≤dots.length∧dots.length≤16)(hd:∀d∈dots,(1≤d.1∧d.1≤7)∧1≤d.2∧d.2≤7)(hnd:dots.Nodup)(q:Φ .non):Tl (Zbg [.lst (dots.map encP)]) Φ:=by
 unfold Zbg
 walk_at "w"
 rw [VaQ]
 refine ZcW (fun z=>by omega) (fun _=>?_)
 walk_at "w"
 rw [VaQ]
 rw [Vac (by omega)]
 walk_at "w"
 refine ⟨by rw [VaQ];omega,?_⟩
 refine Zcu (enc:=encP) (fun d:Int×Int=>D.bl ((fun _=>true) d)) (fun d hd'=>?_) ?_
 ·walk_at "w"
  exact ZmW (hd d hd') rfl
 walk_at "w"
 refine Zt4 (f:=fun _:Int×Int=>true) (fun _ _=>rfl) ?_
 walk_at "w"
 obtain ⟨n,e,hn⟩:=Zqi (enc:=encP) (key:=fun d:Int×Int=>[d.1,d.2]) (fun a=>⟨_,rfl,rfl⟩) (fun a b h=>by
  injection h with h1 h2
  injection h2 with h2 _
  exact Prod.ext h1 h2) h1.2
 refine Zao e ?_
 walk_at "w"
 rw [hn.mpr hnd,VaQ]
 walk_at "w"
 exact q
theorem Zkq:Zar [.non]=.ok (.lst ([(4,4)].map encP)):=by
 refine Tl.eq ?_
 unfold Zar
 walk_at "w"
 rfl
theorem Zkz{dots:List (Int×Int)}(h1:1≤dots.length∧dots.length≤16)(hd:∀d∈dots,(1≤d.1∧d.1≤7)∧1≤d.2∧d.2≤7)(hnd:dots.Nodup):Zar [.lst (dots.map encP)]=.ok (.lst (dots.map encP)):=by
 refine Tl.eq ?_
 unfold Zar
 walk_at "w"
 refine Zj5 h1 hd hnd ?_
 walk_at "w"
theorem Zpi{x:D}(h:plain 50 x=true):dNe x x=.ok (.bl false):=by
 unfold dNe
 rw [h,ZgK x 50 h]
 rfl
def corL(ns:List Int):D:=.tup ((ns.take 4).map .int++[.tup ((ns.drop 4).map .int)])
theorem ZtL(x y w h:Int)(vs:List Int):cor x y w h vs=corL (x::y::w::h::vs):=rfl
theorem ZeW{Φ:D→Prop}{x y w h:Int}{vs:List Int}(hv:vs.length≤1000)(q:Φ (.lst ((x::y::w::h::vs).map .int))):Tl (Zbc [corL (x::y::w::h::vs)]) Φ:=by
 unfold Zbc
 walk_at "w"
 show Tl (dCut (.tup [.int x,.int y,.int w,.int h,.tup (vs.map .int)]) _ _) _
 walk_at "w"
 show Tl (yan (.lst [.int x,.int y,.int w,.int h]) (.lst (vs.map .int))) _
 refine ZeP (by simp;omega) ?_
 walk_at "w"
 exact q
structure Cn(k:Nat)(a:List Int):Prop where
 ex:∃x y w h vs,a=x::y::w::h::vs∧1≤h∧vs.length≤3
 sm:∀n∈a,Sm k n
theorem Zuf{Φ:D→Prop}{a b:List Int}{p q:Int}{k:Nat}(ha:Cn k a)(hb:Cn k b)(hk:k≤1000)(hl:a.length=b.length)(hp:Sm 200 p)(hq:Sm 200 q)(hg:0<Mt.gcdL 0 (Mt.sums p q a b))(h:Φ (corL (Mt.low (Mt.sums p q a b)))) :
  Tl (ZcN [corL a,corL b,.int p,.int q]) Φ:=by
 obtain ⟨x,y,w,hh,vs,rfl,h1,hv⟩:=ha.ex
 obtain ⟨x',y',w',hh',vs',rfl,h1',hv'⟩:=hb.ex
 have hlen:(Mt.sums p q (x::y::w::hh::vs) (x'::y'::w'::hh'::vs')).length=vs.length+4:=by
  rw [Mt.Zi9 _ _ _ _ hl];simp
 have hsum:∀n∈Mt.sums p q (x::y::w::hh::vs) (x'::y'::w'::hh'::vs'),Sm 1300 n:=by
  intro n hn
  obtain ⟨i,hi,rfl⟩:=VbT.mp hn
  obtain ⟨u,v,e1,e2,e3⟩:=Mt.Ze4 (VbM hi)
  have su:=ha.sm u (Va6 e1)
  have sv:=hb.sm v (Va6 e2)
  rw [e3]
  exact ((hp.mul su).add (hq.mul sv)).mono (by omega)
 unfold ZcN
 walk_at "w"
 refine ZeW (by omega) ?_
 walk_at "w"
 refine ZeW (by omega) ?_
 walk_at "w"
 rw [Zgn]
 refine ⟨by simp;omega,?_⟩
 refine Zcu (fun d=>D.int (p*d.1+q*d.2)) (fun ⟨u,v⟩ hm=>?_) ?_
 ·have su:=ha.sm u (VaZ hm).1
  have sv:=hb.sm v (VaZ hm).2
  have m1:ZaT p u=true:=Zax hp su (by omega)
  have m2:ZaT q v=true:=Zax hq sv (by omega)
  walk_at "w"
 have e1:((x::y::w::hh::vs).zip (x'::y'::w'::hh'::vs')).map (fun d=>D.int (p*d.1+q*d.2))=(Mt.sums p q (x::y::w::hh::vs) (x'::y'::w'::hh'::vs')).map .int:=by
  unfold Mt.sums
  rw [List.zip,List.map_zipWith,List.map_zipWith]
 rw [e1]
 generalize hS:Mt.sums p q (x::y::w::hh::vs) (x'::y'::w'::hh'::vs')=S at *
 walk_at "w"
 refine Zb8 ?_
 walk_at "w"
 refine ⟨by simp;omega,?_⟩
 have hgs:Sm 1300 (Mt.gcdL 0 S:Int):=by
  have ⟨n,hn,n0⟩ : ∃n∈S,n≠0:=by
   by_cases hz:∀n∈S,n=0
   ·exfalso
    have:∀l:List Int,(∀n∈l,n=0)→Mt.gcdL 0 l=0:=by
     intro l
     induction l with
     | nil=>exact fun _=>rfl
     | cons n r ih =>
      intro h
      have e:=h n Vao
      subst e
      exact ih fun m hm=>h m (Vap _ hm)
    rw [this S hz] at hg
    exact absurd hg (by decide)
   ·exact Vb9 fun hc=>hz fun n hn=>Vb9 fun h0=>hc ⟨n,hn,h0⟩
  refine (hsum n hn).le ?_
  have:=Mt.Zd9 S 0 n hn
  rw [Vcd]
  exact Nat.le_of_dvd (by omega) (Int.ofNat_dvd_left.mp this)
 refine Zcu (fun u=>D.int (u/(Mt.gcdL 0 S:Int))) (fun u hm=>?_) ?_
 ·walk_at "w"
 have e2:S.map (fun u=>D.int (u/(Mt.gcdL 0 S:Int)))=(Mt.low S).map .int:=by
  unfold Mt.low
  rw [VbO]
  rfl
 rw [e2]
 have hl2:=Mt.Zmg S
 generalize Mt.low S=L at *
 match L,hl2 with
 | a0::a1::a2::a3::r,hl2 =>
  walk_at "w"
  have e3:cutL ((a0::a1::a2::a3::r).map D.int) (some 4) none=r.map .int:=by
   unfold cutL cutAt
   simp
   exact Vbw (by simp)
  rw [e3]
  exact h
 | [],hl2=>rw [hlen] at hl2;simp at hl2
 | [_],hl2=>rw [hlen] at hl2;simp at hl2
 | [_,_],hl2=>rw [hlen] at hl2;simp at hl2
 | [_,_,_],hl2=>rw [hlen] at hl2;simp at hl2
structure Mx(p q:Int)(a b f:List Int):Prop where
 la:a.length=f.length
 lb:b.length=f.length
 g:∃g:Int,0<g∧∀(i:Nat) (n x y:Int),f[i]?=some n→a[i]?=some x→b[i]?=some y→g*n=p*x+q*y
structure Zsr(p q:Int)(k:Nat)(a b:List Int):Prop where
 pos:0<Mt.gcdL 0 (Mt.sums p q a b)
 mx:Mx p q a b (Mt.low (Mt.sums p q a b))
 cn:Cn (k+201) (Mt.low (Mt.sums p q a b))
 one:Mt.gcdL 0 (Mt.low (Mt.sums p q a b))=1
 len:(Mt.low (Mt.sums p q a b)).length=a.length
theorem ZoO{a b:List Int}{p q:Int}{k:Nat}(ha:Cn k a)(hb:Cn k b)(hl:a.length=b.length)(hp:0≤p)(hq:0≤q)(hpq:0<p+q)(sp:Sm 200 p)(sq:Sm 200 q):Zsr p q k a b:=by
 obtain ⟨x,y,w,h,vs,ea,h1,hv⟩:=ha.ex
 obtain ⟨x',y',w',h',vs',eb,h1',hv'⟩:=hb.ex
 have hlen:=Mt.Zi9 p q a b hl
 have h3:(Mt.sums p q a b)[3]?=some (p*h+q*h'):=by rw [ea,eb];rfl
 have pos3:0<p*h+q*h':=by
  rcases Int.lt_or_eq_of_le hp with z | z
  ·have:=Vck z (show 0<h by omega)
   have:=Vce hq (show 0≤h' by omega)
   omega
  ·have:0<q:=by omega
   have:=Vck this (show 0<h' by omega)
   have:=Vce hp (show 0≤h by omega)
   omega
 have pos:0<Mt.gcdL 0 (Mt.sums p q a b):=Mt.ZnR (Va6 h3) (by omega)
 have len:(Mt.low (Mt.sums p q a b)).length=a.length:=(Mt.Zmg _).trans hlen
 have mx:Mx p q a b (Mt.low (Mt.sums p q a b)):=by
  refine ⟨len.symm,hl.symm.trans len.symm,_,Int.ofNat_lt.mpr pos,fun i n u v hn hu hv=>?_⟩
  obtain ⟨s,hs,e⟩:=Mt.ZkX hn
  obtain ⟨u',v',hu',hv',e'⟩:=Mt.Ze4 hs
  rw [hu] at hu';cases hu'
  rw [hv] at hv';cases hv'
  rw [←e',←e]
 refine ⟨pos,mx,⟨?_,?_⟩,Mt.ZqD pos,len⟩
 ·have e4:(Mt.low (Mt.sums p q a b)).length=vs.length+4:=by rw [len,ea];simp
  obtain ⟨g,hg,hm⟩:=mx.g
  generalize Mt.low (Mt.sums p q a b)=L at *
  match L,e4 with
  | a0::a1::a2::a3::r,e4 =>
   have e:=hm 3 a3 h h' rfl (by rw [ea];rfl) (by rw [eb];rfl)
   refine ⟨a0,a1,a2,a3,r,rfl,?_,?_⟩
   ·have:0<g*a3:=by rw [e];exact pos3
    have:=Int.pos_of_mul_pos_right this (by omega)
    omega
   ·simp at e4;omega
  | [],e4=>simp at e4
  | [_],e4=>simp at e4
  | [_,_],e4=>simp at e4
  | [_,_,_],e4=>simp at e4
 ·intro n hn
  obtain ⟨i,hi,rfl⟩:=VbT.mp hn
  obtain ⟨s,hs,e⟩:=Mt.ZkX (VbM hi)
  obtain ⟨u,v,hu,hv,e'⟩:=Mt.Ze4 hs
  have su:=ha.sm u (Va6 hu)
  have sv:=hb.sm v (Va6 hv)
  have ss:Sm (k+201) s:=by rw [e'];exact ((sp.mul su).add (sq.mul sv)).mono (by omega)
  refine ss.le ?_
  rw [←e,Vcc,Vcd]
  exact Nat.le_mul_of_pos_left _ pos
def fm(A B C G:Int):List Int→Int
 | x::y::w::h::_=>A*x+B*y+C*w+G*h
 | _=>0
abbrev wl(A B C G:Int):D:=.tup [.int A,.int B,.int C,.int G]
structure Wk(k:Nat)(A B C G:Int):Prop where
 a:Sm k A
 b:Sm k B
 c:Sm k C
 g:Sm k G
theorem Zkn{A B C G:Int}{a:List Int}{j k:Nat}(hw:Wk j A B C G)(ha:Cn k a):Sm (j+k+3) (fm A B C G a):=by
 obtain ⟨x,y,w,h,vs,rfl,h1,hv⟩:=ha.ex
 have sx:=ha.sm x (by simp)
 have sy:=ha.sm y (by simp)
 have sw:=ha.sm w (by simp)
 have sh:=ha.sm h (by simp)
 exact ((((hw.a.mul sx).add (hw.b.mul sy)).add (hw.c.mul sw)).add (hw.g.mul sh)).mono (by omega)
theorem Zlw{Φ:D→Prop}{A B C G:Int}{a:List Int}{j k:Nat}(hw:Wk j A B C G)(hj:j≤1000)(ha:Cn k a)(hk:k≤1000)(q:Φ (.int (fm A B C G a))):Tl (Zhz [wl A B C G,corL a]) Φ:=by
 obtain ⟨x,y,w,h,vs,rfl,h1,hv⟩:=ha.ex
 have m1:ZaT A x=true:=Zax hw.a (ha.sm x (by simp)) (by omega)
 have m2:ZaT B y=true:=Zax hw.b (ha.sm y (by simp)) (by omega)
 have m3:ZaT C w=true:=Zax hw.c (ha.sm w (by simp)) (by omega)
 have m4:ZaT G h=true:=Zax hw.g (ha.sm h (by simp)) (by omega)
 rw [←ZtL]
 unfold Zhz cor wl
 walk_at "w"
 exact q
def met(a b:List Int)(fa fb:Int):List Int:=Mt.low (Mt.sums (fb.natAbs:Int) (fa.natAbs:Int) a b)
def tri(a b c:List Int):D:=.tup [corL a,corL b,corL c]
def three(w:Bool)(a b c:List Int)(fa fb fc:Int):D :=
 if w=true then .tup [.lst [tri a (met a b fa fb) (met c a fc fa)],.lst [tri (met a b fa fb) b c,tri (met a b fa fb) c (met c a fc fa)]]
 else .tup [.lst [tri (met a b fa fb) b c,tri (met a b fa fb) c (met c a fc fa)],.lst [tri a (met a b fa fb) (met c a fc fa)]]
def cutB(a b c:List Int)(fa fb fc:Int):Bool→Bool→Bool→D
 | true,true,true=>.tup [.lst [tri a b c],.lst []]
 | false,false,false=>.tup [.lst [],.lst [tri a b c]]
 | true,false,false=>three true a b c fa fb fc
 | false,true,false=>three true b c a fb fc fa
 | false,false,true=>three true c a b fc fa fb
 | false,true,true=>three false a b c fa fb fc
 | true,false,true=>three false b c a fb fc fa
 | true,true,false=>three false c a b fc fa fb
theorem Zj9{k:Nat}{x:Int}(h:Sm k x):Sm k (x.natAbs:Int):=h.le (by rw [Vcd];exact VaI _)
theorem Zo0{a b:List Int}{fa fb:Int}{k:Nat}(ha:Cn k a)(hb:Cn k b)(hl:a.length=b.length)(hf:0<fa.natAbs+fb.natAbs)(sa:Sm 200 fa)(sb:Sm 200 fb):Zsr (fb.natAbs:Int) (fa.natAbs:Int) k a b :=
 ZoO ha hb hl (by omega) (by omega) (by omega) (Zj9 sb) (Zj9 sa)
theorem ZtB{Φ:D→Prop}{a b:List Int}{fa fb:Int}{k:Nat}(ha:Cn k a)(hb:Cn k b)(hk:k≤900)(hl:a.length=b.length)(hf:0<fa.natAbs+fb.natAbs)(sa:Sm 200 fa)(sb:Sm 200 fb)(q:Φ (corL (met a b fa fb))):Tl (Zkg [corL a,corL b,.int fa,.int fb]) Φ:=by
 unfold Zkg
 walk_at "w"
 refine Zuf ha hb (by omega) hl (Zj9 sb) (Zj9 sa) (Zo0 ha hb hl hf sa sb).pos ?_
 walk_at "w"
 exact q
theorem Zdr{Φ:D→Prop}{a b c:List Int}{fa fb fc:Int}{k:Nat}(ha:Cn k a)(hb:Cn k b)(hc:Cn k c)(hk:k≤900)(hab:a.length=b.length)(hca:c.length=a.length)(f1:0<fa.natAbs+fb.natAbs)(f2:0<fc.natAbs+fa.natAbs)(sa:Sm 200 fa)(sb:Sm 200 fb)(sc:Sm 200 fc)
  (q:Φ (.lst [tri a (met a b fa fb) (met c a fc fa),tri (met a b fa fb) b c,tri (met a b fa fb) c (met c a fc fa)])):Tl (Zd7 [.tup [corL a,corL b,corL c],.lst [.int fa,.int fb,.int fc]]) Φ:=by
 unfold Zd7
 walk_at "w"
 refine ZtB ha hb hk hab f1 sa sb ?_
 walk_at "w"
 refine ZtB hc ha hk hca f2 sc sa ?_
 walk_at "w"
 exact q
theorem Zdt{Φ:D→Prop}{xs ds:List D}{i:Int}(e:cutL xs (some i) none++cutL xs none (some i)=ds)(hl:ds.length≤1000000)(q:Φ (.tup ds)):Tl (Zbe [.tup xs,.int i]) Φ:=by
 unfold Zbe
 walk_at "w"
 refine ZsK (by rw [←Va7,e];exact hl) ?_
 walk_at "w"
 rw [e]
 exact q
theorem Zdo{Φ:D→Prop}{xs ds:List D}{i:Int}(e:cutL xs (some i) none++cutL xs none (some i)=ds)(hl:ds.length≤1000000)(q:Φ (.lst ds)):Tl (Zbe [.lst xs,.int i]) Φ:=by
 unfold Zbe
 walk_at "w"
 refine ZeP (by rw [←Va7,e];exact hl) ?_
 walk_at "w"
 rw [e]
 exact q
theorem dT{p:Prop} [Decidable p] (h:p):decide p=true:=Vbm h
theorem dF{p:Prop} [Decidable p] (h:¬p):decide p=false:=Vac h
theorem ZqC{Φ:D→Prop}{A B C G:Int}{a b c:List Int}{j k:Nat}(hw:Wk j A B C G)(ha:Cn k a)(hb:Cn k b)(hc:Cn k c)(hj:j+k+3≤200)(hab:a.length=b.length)(hca:c.length=a.length)
  (q:Φ (cutB a b c (fm A B C G a) (fm A B C G b) (fm A B C G c) (decide (0≤fm A B C G a)) (decide (0≤fm A B C G b)) (decide (0≤fm A B C G c)))):Tl (ZkE [tri a b c,wl A B C G]) Φ:=by
 have sa:=(Zkn hw ha).mono hj
 have sb:=(Zkn hw hb).mono hj
 have sc:=(Zkn hw hc).mono hj
 unfold ZkE tri
 walk_at "w"
 refine ⟨by show (3:Nat)≤_;omega,?_⟩
 refine Ze0 ?_
 walk_at "w"
 refine Zlw hw (by omega) ha (by omega) ?_
 walk_at "w"
 refine Ze0 ?_
 walk_at "w"
 refine Zlw hw (by omega) hb (by omega) ?_
 walk_at "w"
 refine Ze0 ?_
 walk_at "w"
 refine Zlw hw (by omega) hc (by omega) ?_
 walk_at "w"
 refine ZnY ?_
 walk_at "w"
 generalize fm A B C G a=fa at *
 generalize fm A B C G b=fb at *
 generalize fm A B C G c=fc at *
 refine ⟨by show (3:Nat)≤_;omega,?_⟩
 refine Ze0 ?_
 walk_at "w"
 refine Ze0 ?_
 walk_at "w"
 refine Ze0 ?_
 walk_at "w"
 refine ZnY ?_
 walk_at "w"
 by_cases h1:0≤fa<;>by_cases h2:0≤fb<;>by_cases h3:0≤fc
 ·rw [dT h1,dT h2,dT h3] at q ⊢
  refine Zao (x:=.bl true) rfl ?_
  walk_at "w"
  exact q
 ·rw [dT h1,dT h2,dF h3] at q ⊢
  refine Zao (x:=.bl false) rfl ?_
  walk_at "w"
  refine Zao (x:=.bl true) rfl ?_
  walk_at "w"
  refine Zao (x:=.int 2) rfl ?_
  walk_at "w"
  refine Zao (x:=.int 2) rfl ?_
  walk_at "w"
  refine Zdt (ds:=[corL c,corL a,corL b]) rfl (Vab rfl) ?_
  walk_at "w"
  refine Zdo (ds:=[.int fc,.int fa,.int fb]) rfl (Vab rfl) ?_
  walk_at "w"
  refine Zdr (k:=k) hc ha hb (by omega) hca (by omega) (by omega) (by omega) sc sa sb ?_
  walk_at "w"
  exact q
 ·rw [dT h1,dF h2,dT h3] at q ⊢
  refine Zao (x:=.bl false) rfl ?_
  walk_at "w"
  refine Zao (x:=.bl true) rfl ?_
  walk_at "w"
  refine Zao (x:=.int 2) rfl ?_
  walk_at "w"
  refine Zao (x:=.int 1) rfl ?_
  walk_at "w"
  refine Zdt (ds:=[corL b,corL c,corL a]) rfl (Vab rfl) ?_
  walk_at "w"
  refine Zdo (ds:=[.int fb,.int fc,.int fa]) rfl (Vab rfl) ?_
  walk_at "w"
  refine Zdr (k:=k) hb hc ha (by omega) (by omega) hab (by omega) (by omega) sb sc sa ?_
  walk_at "w"
  exact q
 ·rw [dT h1,dF h2,dF h3] at q ⊢
  refine Zao (x:=.bl false) rfl ?_
  walk_at "w"
  refine Zao (x:=.bl true) rfl ?_
  walk_at "w"
  refine Zao (x:=.int 1) rfl ?_
  walk_at "w"
  refine Zao (x:=.int 0) rfl ?_
  walk_at "w"
  refine Zdt (ds:=[corL a,corL b,corL c]) rfl (Vab rfl) ?_
  walk_at "w"
  refine Zdo (ds:=[.int fa,.int fb,.int fc]) rfl (Vab rfl) ?_
  walk_at "w"
  refine Zdr (k:=k) ha hb hc (by omega) hab hca (by omega) (by omega) sa sb sc ?_
  walk_at "w"
  exact q
 ·rw [dF h1,dT h2,dT h3] at q ⊢
  refine Zao (x:=.bl false) rfl ?_
  walk_at "w"
  refine Zao (x:=.bl true) rfl ?_
  walk_at "w"
  refine Zao (x:=.int 2) rfl ?_
  walk_at "w"
  refine Zao (x:=.int 0) rfl ?_
  walk_at "w"
  refine Zdt (ds:=[corL a,corL b,corL c]) rfl (Vab rfl) ?_
  walk_at "w"
  refine Zdo (ds:=[.int fa,.int fb,.int fc]) rfl (Vab rfl) ?_
  walk_at "w"
  refine Zdr (k:=k) ha hb hc (by omega) hab hca (by omega) (by omega) sa sb sc ?_
  walk_at "w"
  exact q
 ·rw [dF h1,dT h2,dF h3] at q ⊢
  refine Zao (x:=.bl false) rfl ?_
  walk_at "w"
  refine Zao (x:=.bl true) rfl ?_
  walk_at "w"
  refine Zao (x:=.int 1) rfl ?_
  walk_at "w"
  refine Zao (x:=.int 1) rfl ?_
  walk_at "w"
  refine Zdt (ds:=[corL b,corL c,corL a]) rfl (Vab rfl) ?_
  walk_at "w"
  refine Zdo (ds:=[.int fb,.int fc,.int fa]) rfl (Vab rfl) ?_
  walk_at "w"
  refine Zdr (k:=k) hb hc ha (by omega) (by omega) hab (by omega) (by omega) sb sc sa ?_
  walk_at "w"
  exact q
 ·rw [dF h1,dF h2,dT h3] at q ⊢
  refine Zao (x:=.bl false) rfl ?_
  walk_at "w"
  refine Zao (x:=.bl true) rfl ?_
  walk_at "w"
  refine Zao (x:=.int 1) rfl ?_
  walk_at "w"
  refine Zao (x:=.int 2) rfl ?_
  walk_at "w"
  refine Zdt (ds:=[corL c,corL a,corL b]) rfl (Vab rfl) ?_
  walk_at "w"
  refine Zdo (ds:=[.int fc,.int fa,.int fb]) rfl (Vab rfl) ?_
  walk_at "w"
  refine Zdr (k:=k) hc ha hb (by omega) hca (by omega) (by omega) (by omega) sc sa sb ?_
  walk_at "w"
  exact q
 ·rw [dF h1,dF h2,dF h3] at q ⊢
  refine Zao (x:=.bl false) rfl ?_
  walk_at "w"
  refine Zao (x:=.bl false) rfl ?_
  walk_at "w"
  exact q
structure C6 where
 x:Int
 y:Int
 w:Int
 h:Int
 v:Nat→Int
def vsL(n:Nat)(c:C6):List Int:=(List.range n).map c.v
def c6(n:Nat)(c:C6):D:=cor c.x c.y c.w c.h (vsL n c)
def lst6(n:Nat)(c:C6):List Int:=c.x::c.y::c.w::c.h::vsL n c
theorem c6_L(n:Nat)(c:C6):c6 n c=corL (lst6 n c):=ZtL _ _ _ _ _
theorem Zcs(n:Nat)(c:C6):(vsL n c).length=n:=by unfold vsL;rw [List.length_map,List.length_range]
theorem Zbi(n:Nat)(c:C6):(lst6 n c).length=n+4:=by unfold lst6;simp only [List.length_cons,Zcs]
structure Ok6(k n:Nat)(c:C6):Prop where
 x:Sm k c.x
 y:Sm k c.y
 w:Sm k c.w
 h:Sm k c.h
 v:∀j,j<n→Sm k (c.v j)
 w1:1≤c.w
 h1:1≤c.h
theorem Ok6.mono{k m n:Nat}{c:C6}(h:Ok6 k n c)(hn:k≤m):Ok6 m n c:=⟨h.x.mono hn,h.y.mono hn,h.w.mono hn,h.h.mono hn,fun j hj=>(h.v j hj).mono hn,h.w1,h.h1⟩
theorem Ok6.cr{k n:Nat}{c:C6}(h:Ok6 k n c)(hk:k≤64):Cr c.x c.y c.w:=⟨h.x.mono hk,h.y.mono hk,h.w.mono hk⟩
theorem Ok6.vs{k n:Nat}{c:C6}(h:Ok6 k n c):∀v∈vsL n c,Sm k v:=fun v hv=>by
 obtain ⟨j,hj,rfl⟩:=Vbs.mp hv
 exact h.v j (Vaj.mp hj)
theorem Ok6.cv{k n:Nat}{c:C6}(h:Ok6 k n c)(hk:k≤64):Cv 64 c.x c.y c.w c.h (vsL n c):=⟨h.x.mono hk,h.y.mono hk,h.w.mono hk,h.h.mono hk,fun v hv=>(h.vs v hv).mono hk,h.h1⟩
theorem Ok6.cn{k n:Nat}{c:C6}(h:Ok6 k n c)(hn:n≤3):Cn k (lst6 n c):=⟨⟨_,_,_,_,_,rfl,h.h1,by rw [Zcs];exact hn⟩,fun z hz=>by
 unfold lst6 at hz
 simp only [Var] at hz
 rcases hz with rfl | rfl | rfl | rfl | hz
 ·exact h.x
 ·exact h.y
 ·exact h.w
 ·exact h.h
 ·exact h.vs z hz⟩
structure Mix6(n:Nat)(p q:Int)(a b m:C6)(g:Int):Prop where
 pos:0<g
 x:g*m.x=p*a.x+q*b.x
 y:g*m.y=p*a.y+q*b.y
 w:g*m.w=p*a.w+q*b.w
 h:g*m.h=p*a.h+q*b.h
 v:∀j,j<n→g*m.v j=p*a.v j+q*b.v j
theorem Zeh{g m s:Int}{k:Nat}(hg:0<g)(e:g*m=s)(hs:Sm k s):Sm k m:=by
 refine hs.le ?_
 rw [←e,Vcc]
 exact Nat.le_mul_of_pos_left _ (by omega)
theorem ZoZ{g m s:Int}(hg:0<g)(e:g*m=s)(hs:0<s):1≤m:=by
 rw [←e] at hs
 have:=Int.pos_of_mul_pos_right hs hg
 omega
theorem Zjo{p q a b:Int}(hp:0≤p)(hq:0≤q)(hpq:0<p+q)(ha:1≤a)(hb:1≤b):0<p*a+q*b:=by
 have h1:=Vce hp (show 0≤a by omega)
 have h2:=Vce hq (show 0≤b by omega)
 by_cases z:0<p
 ·have:=Vck z (show 0<a by omega)
  omega
 ·have:=Vck (show 0<q by omega) (show 0<b by omega)
  omega
theorem Mix6.ok{n:Nat}{p q:Int}{a b m:C6}{g:Int}{k s:Nat}(M:Mix6 n p q a b m g)(ha:Ok6 k n a)(hb:Ok6 k n b)(hp:0≤p)(hq:0≤q)(hpq:0<p+q)(sp:Sm s p)(sq:Sm s q):Ok6 (k+s+1) n m:=by
 have cb:∀{u v:Int},Sm k u→Sm k v→Sm (k+s+1) (p*u+q*v):=fun {u v} hu hv=>((sp.mul hu).add (sq.mul hv)).mono (by omega)
 exact ⟨Zeh M.pos M.x (cb ha.x hb.x),Zeh M.pos M.y (cb ha.y hb.y),Zeh M.pos M.w (cb ha.w hb.w),Zeh M.pos M.h (cb ha.h hb.h),fun j hj=>Zeh M.pos (M.v j hj) (cb (ha.v j hj) (hb.v j hj)),ZoZ M.pos M.w (Zjo hp hq hpq ha.w1 hb.w1),ZoZ M.pos M.h (Zjo hp hq hpq ha.h1 hb.h1)⟩
theorem Zts(vs:List Int):(List.range vs.length).map (fun j=>vs.getD j 0)=vs:=by
 apply List.ext_getElem
 ·rw [VaQ,VbK]
 ·intro i h1 h2
  rw [List.getElem_map,List.getElem_range,VbR,VbM h2]
  rfl
theorem Ziu{n j:Nat}(c:C6)(hj:j<n):(vsL n c)[j]?=some (c.v j):=by
 unfold vsL
 rw [Va5,VbL hj]
 rfl
theorem mx6{n:Nat}{p q:Int}{a b:C6}{f:List Int}(M:Mx p q (lst6 n a) (lst6 n b) f):∃(m:C6) (g:Int),f=lst6 n m∧Mix6 n p q a b m g:=by
 have hl:n+4=f.length:=by rw [←M.la,Zbi]
 obtain ⟨g,hg,hm⟩:=M.g
 match f,hl with
 | x::y::w::h::vs,hl =>
  have hn:vs.length=n:=by simp only [VaO] at hl;omega
  refine ⟨⟨x,y,w,h,fun j=>vs.getD j 0⟩,g,?_,hg,hm 0 x _ _ rfl rfl rfl,hm 1 y _ _ rfl rfl rfl,hm 2 w _ _ rfl rfl rfl,hm 3 h _ _ rfl rfl rfl,fun j hj=>?_⟩
  ·unfold lst6 vsL
   rw [←hn]
   show x::y::w::h::vs=x::y::w::h::(List.range vs.length).map (fun j=>vs.getD j 0)
   rw [Zts]
  ·refine hm (j+4) _ _ _ ?_ (Ziu a hj) (Ziu b hj)
   show vs[j]?=some (vs.getD j 0)
   rw [VbR,VbM (by omega)]
   rfl
 | [],hl=>exact absurd hl (by simp)
 | [_],hl=>exact absurd hl (by simp)
 | [_,_],hl=>exact absurd hl (by simp)
 | [_,_,_],hl=>exact absurd hl (by simp)
abbrev ow6(a b c:C6):Int:=ow a.x a.y a.w b.x b.y b.w c.x c.y c.w
abbrev hd6(a b c:C6)(px py ps:Int):Int:=hdE a.x a.y a.w b.x b.y b.w c.x c.y c.w px py ps
abbrev cr6(a b:C6)(px py ps:Int):Int:=crE a.x a.y a.w b.x b.y b.w px py ps
abbrev T6:=C6×C6×C6
abbrev hdT(t:T6)(px py ps:Int):Int:=hd6 t.1 t.2.1 t.2.2 px py ps
abbrev owT(t:T6):Int:=ow6 t.1 t.2.1 t.2.2
def pc6(n:Nat)(t:T6):D:=.tup [c6 n t.1,c6 n t.2.1,c6 n t.2.2]
theorem Zg4{k n:Nat}{a b c:C6}(ha:Ok6 k n a)(hb:Ok6 k n b)(hc:Ok6 k n c)(px py ps:Int):hd6 a b c px py ps=cr6 a b px py ps+cr6 b c px py ps+cr6 c a px py ps:=Ztb (by have:=ha.w1;omega) (by have:=hb.w1;omega) (by have:=hc.w1;omega)
theorem ZfR{k n:Nat}{a b c m:C6}(ha:Ok6 k n a)(hb:Ok6 k n b)(hc:Ok6 k n c)(hm:Ok6 k n m)(px py ps:Int):hd6 a b m px py ps+hd6 b c m px py ps+hd6 c a m px py ps=hd6 a b c px py ps:=by
 rw [Zg4 ha hb hm,Zg4 hb hc hm,Zg4 hc ha hm,Zg4 ha hb hc]
 have e1:cr6 m a px py ps=- cr6 a m px py ps:=ZiR _ _ _ _ _ _ _ _ _
 have e2:cr6 m b px py ps=- cr6 b m px py ps:=ZiR _ _ _ _ _ _ _ _ _
 have e3:cr6 m c px py ps=- cr6 c m px py ps:=ZiR _ _ _ _ _ _ _ _ _
 omega
theorem Zho(a b c:C6)(px py ps:Int):hd6 b c a px py ps=hd6 a b c px py ps:=Zpu _ _ _
def Sgn(T:T6)(t:T6):Prop:=(0≤owT T→0≤owT t)∧(owT T≤0→owT t≤0)
def W1(T:T6)(X:C6):Int:=ow6 T.2.1 T.2.2 X
def W2(T:T6)(X:C6):Int:=ow6 T.2.2 T.1 X
def W3(T:T6)(X:C6):Int:=ow6 T.1 T.2.1 X
structure Flat(n:Nat)(T:T6)(X:C6):Prop where
 h:owT T*X.h=W1 T X*T.1.h+W2 T X*T.2.1.h+W3 T X*T.2.2.h
 v:∀j,j<n→owT T*X.v j=W1 T X*T.1.v j+W2 T X*T.2.1.v j+W3 T X*T.2.2.v j
theorem cancel{g u v:Int}(hg:0<g)(e:g*u=g*v):u=v:=Vcm (by omega) e
theorem ZeT{n:Nat}{p q:Int}{a b m A B:C6}{g:Int}(M:Mix6 n p q a b m g):g*ow6 A B m=p*ow6 A B a+q*ow6 A B b:=by
 have h1:=M.x
 have h2:=M.y
 have h3:=M.w
 unfold ow6 ow
 grind
theorem Zjk{g p q o ah bh mh m1 m2 m3 x1 x2 x3 y1 y2 y3 A B C:Int}(hg:0<g)(hm:g*mh=p*ah+q*bh)(a1:o*ah=x1*A+x2*B+x3*C)(b1:o*bh=y1*A+y2*B+y3*C)(o1:g*m1=p*x1+q*y1)(o2:g*m2=p*x2+q*y2)(o3:g*m3=p*x3+q*y3):o*mh=m1*A+m2*B+m3*C:=by
 refine cancel hg ?_
 calc g*(o*mh)=o*(g*mh):=by grind
  _=p*(o*ah)+q*(o*bh):=by rw [hm];grind
  _=(p*x1+q*y1)*A+(p*x2+q*y2)*B+(p*x3+q*y3)*C:=by rw [a1,b1];grind
  _=g*(m1*A+m2*B+m3*C):=by rw [←o1,←o2,←o3];grind
theorem Flat.mix{n:Nat}{T:T6}{p q:Int}{a b m:C6}{g:Int}(fa:Flat n T a)(fb:Flat n T b)(M:Mix6 n p q a b m g):Flat n T m:=by
 have o1:=ZeT (A:=T.2.1) (B:=T.2.2) M
 have o2:=ZeT (A:=T.2.2) (B:=T.1) M
 have o3:=ZeT (A:=T.1) (B:=T.2.1) M
 exact ⟨Zjk M.pos M.h fa.h fb.h o1 o2 o3,fun j hj=>Zjk M.pos (M.v j hj) (fa.v j hj) (fb.v j hj) o1 o2 o3⟩
theorem ZeD(a b c:C6)(A B C:Int):ow6 a b c*A=ow6 b c a*A+ow6 c a a*B+ow6 a b a*C∧ow6 a b c*B=ow6 b c b*A+ow6 c a b*B+ow6 a b b*C∧ow6 a b c*C=ow6 b c c*A+ow6 c a c*B+ow6 a b c*C:=by
 refine ⟨?_,?_,?_⟩<;>simp only [ow6,ow]<;>grind
theorem ZlN(n:Nat)(T:T6):Flat n T T.1∧Flat n T T.2.1∧Flat n T T.2.2:=by
 obtain ⟨a,b,c⟩:=T
 exact ⟨⟨(ZeD a b c a.h b.h c.h).1,fun j _=>(ZeD a b c (a.v j) (b.v j) (c.v j)).1⟩,⟨(ZeD a b c a.h b.h c.h).2.1,fun j _=>(ZeD a b c (a.v j) (b.v j) (c.v j)).2.1⟩,⟨(ZeD a b c a.h b.h c.h).2.2,fun j _=>(ZeD a b c (a.v j) (b.v j) (c.v j)).2.2⟩⟩
def Half(x y:Int):Prop:=∃g r:Int,0<g∧0≤r∧g*x=r*y
theorem Half.zero(y:Int):Half 0 y:=⟨1,0,by decide,by decide,by rw [Vcj,Vcr]⟩
theorem Half.one(y:Int):Half y y:=⟨1,1,by decide,by decide,rfl⟩
theorem Half.mix{x y z o g p q:Int}(hx:Half x o)(hy:Half y o)(hg:0<g)(hp:0≤p)(hq:0≤q)(e:g*z=p*x+q*y):Half z o:=by
 obtain ⟨g1,r1,h1,k1,e1⟩:=hx
 obtain ⟨g2,r2,h2,k2,e2⟩:=hy
 refine ⟨g*(g1*g2),p*g2*r1+q*g1*r2,Vck hg (Vck h1 h2),?_,?_⟩
 ·have a:=Vce (Vce hp (show 0≤g2 by omega)) k1
  have b:=Vce (Vce hq (show 0≤g1 by omega)) k2
  omega
 ·calc g*(g1*g2)*z=g1*g2*(g*z):=by grind
   _=p*g2*(g1*x)+q*g1*(g2*y):=by rw [e];grind
   _=(p*g2*r1+q*g1*r2)*o:=by rw [e1,e2];grind
theorem Half.nn{x y:Int}(h:Half x y)(hy:0≤y):0≤x:=by
 obtain ⟨g,r,hg,hr,e⟩:=h
 have:=Vce hr hy
 rw [←e] at this
 exact Int.nonneg_of_mul_nonneg_right this hg
theorem Half.np{x y:Int}(h:Half x y)(hy:y≤0):x≤0:=by
 obtain ⟨g,r,hg,hr,e⟩:=h
 have:=Half.nn ⟨g,r,hg,hr,show g*(-x)=r*(-y) by rw [Int.mul_neg,Int.mul_neg,e]⟩ (by omega)
 omega
structure Wn(a b c X:C6):Prop where
 ab:Half (ow6 a b X) (ow6 a b c)
 bc:Half (ow6 b c X) (ow6 a b c)
 ca:Half (ow6 c a X) (ow6 a b c)
theorem Wn.mix{n:Nat}{a b c X Y m:C6}{p q g:Int}(hX:Wn a b c X)(hY:Wn a b c Y)(M:Mix6 n p q X Y m g)(hp:0≤p)(hq:0≤q):Wn a b c m :=
 ⟨hX.ab.mix hY.ab M.pos hp hq (ZeT M),hX.bc.mix hY.bc M.pos hp hq (ZeT M),hX.ca.mix hY.ca M.pos hp hq (ZeT M)⟩
theorem Zhu(a b:C6):ow6 a b a=0:=by unfold ow6 ow;grind
theorem ZhV(a b:C6):ow6 a b b=0:=by unfold ow6 ow;grind
theorem Zgx(a b c:C6):ow6 b c a=ow6 a b c:=by unfold ow6 ow;grind
theorem Zio(a b c:C6):Wn a b c a∧Wn a b c b∧Wn a b c c:=by
 refine ⟨⟨?_,?_,?_⟩,⟨?_,?_,?_⟩,⟨?_,?_,?_⟩⟩
 ·rw [Zhu];exact Half.zero _
 ·rw [Zgx];exact Half.one _
 ·rw [ZhV];exact Half.zero _
 ·rw [ZhV];exact Half.zero _
 ·rw [Zhu];exact Half.zero _
 ·rw [←Zgx c a b];exact Half.one _
 ·exact Half.one _
 ·rw [ZhV];exact Half.zero _
 ·rw [Zhu];exact Half.zero _
theorem Sgn.half{T t t':T6}(h:Sgn T t)(k:Half (owT t') (owT t)):Sgn T t':=⟨fun z=>k.nn (h.1 z),fun z=>k.np (h.2 z)⟩
structure Pc(k n:Nat)(T t:T6):Prop where
 o1:Ok6 k n t.1
 o2:Ok6 k n t.2.1
 o3:Ok6 k n t.2.2
 f1:Flat n T t.1
 f2:Flat n T t.2.1
 f3:Flat n T t.2.2
 sg:Sgn T t
theorem Pc.mono{k m n:Nat}{T t:T6}(h:Pc k n T t)(hn:k≤m):Pc m n T t:=⟨h.o1.mono hn,h.o2.mono hn,h.o3.mono hn,h.f1,h.f2,h.f3,h.sg⟩
def hsum(ts:List T6)(px py ps:Int):Int:=(ts.map fun t=>hdT t px py ps).sum
theorem ZpF(x y:List Int):(x++y).sum=x.sum+y.sum:=by
 induction x with
 | nil=>simp
 | cons n r ih=>simp only [List.cons_append,List.sum_cons,ih];omega
theorem Zd5(x y:List T6)(px py ps:Int):hsum (x++y) px py ps=hsum x px py ps+hsum y px py ps:=by
 unfold hsum
 rw [Vb0,ZpF]
theorem Zcx(t:T6)(y:List T6)(px py ps:Int):hsum (t::y) px py ps=hdT t px py ps+hsum y px py ps:=rfl
structure Net(k n:Nat)(T:T6)(ts:List T6):Prop where
 pc:∀t∈ts,Pc k n T t
 had:∀px py ps:Int,1≤ps→hsum ts px py ps=hdT T px py ps
theorem Net.mono{k m n:Nat}{T:T6}{ts:List T6}(N:Net k n T ts)(h:k≤m):Net m n T ts:=⟨fun t ht=>(N.pc t ht).mono h,N.had⟩
theorem Znx{k n:Nat}{a b c:C6}(ha:Ok6 k n a)(hb:Ok6 k n b)(hc:Ok6 k n c):Net k n (a,b,c) [(a,b,c)]:=by
 have F:=ZlN n (a,b,c)
 refine ⟨fun t ht=>?_,fun px py ps _=>?_⟩
 ·simp only [Var,VbH,VbI] at ht
  subst ht
  exact ⟨ha,hb,hc,F.1,F.2.1,F.2.2,⟨id,id⟩⟩
 ·rw [Zcx]
  show _+0=_
  omega
theorem Zii{k n:Nat}{t:T6}(o1:Ok6 k n t.1)(o2:Ok6 k n t.2.1)(o3:Ok6 k n t.2.2){px py ps:Int}(hp:1≤ps)(h:hdT t px py ps≠0):(hdT t px py ps=1∧0<owT t)∨(hdT t px py ps=-1∧owT t<0):=by
 have a1:=o1.w1
 have b1:=o2.w1
 have c1:=o3.w1
 obtain ⟨s,hs,p1,p2,p3⟩:=Zh1 (ZoX _ _ _) h
 have e:hdT t px py ps=s:=by
  show hd3 _ _ _=s
  unfold sdE at p2 p3 ⊢
  rw [p1,p2,p3]
  rcases hs with rfl | rfl<;>rfl
 rcases hs with rfl | rfl
 ·exact .inl ⟨e,ZiV (by omega) (by omega) (by omega) (by omega) p1 p2 p3⟩
 ·exact .inr ⟨e,Zk1 (by omega) (by omega) (by omega) (by omega) p1 p2 p3⟩
theorem Zju{k n:Nat}{a b c:C6}(o1:Ok6 k n a)(o2:Ok6 k n b)(o3:Ok6 k n c){px py ps:Int}(hp:1≤ps)(h:ow6 a b c=0):hd6 a b c px py ps=0:=by
 by_cases z:hd6 a b c px py ps=0
 ·exact z
 ·rcases Zii (t:=(a,b,c)) o1 o2 o3 hp z with y | y
  ·have:0<ow6 a b c:=y.2
   omega
  ·have:ow6 a b c<0:=y.2
   omega
theorem Net.split{k m n:Nat}{T:T6}{l r us:List T6}{t:T6}(N:Net k n T (l++t::r))(hn:k≤m)(hp:∀u∈us,Pc m n T u)(hh:∀px py ps:Int,1≤ps→hsum us px py ps=hdT t px py ps):Net m n T (l++us++r):=by
 refine ⟨fun t ht=>?_,fun px py ps h1=>?_⟩
 ·rcases Vas.mp ht with ht | ht
  ·rcases Vas.mp ht with ht | ht
   ·exact (N.pc t (by simp [ht])).mono hn
   ·exact hp t ht
  ·exact (N.pc t (by simp [ht])).mono hn
 ·have h:=N.had px py ps h1
  have s:=hh px py ps h1
  rw [Zd5,Zcx] at h
  rw [Zd5,Zd5,s]
  generalize hdT t px py ps=y at *
  generalize hdT T px py ps=z at *
  omega
theorem ZkZ{k n:Nat}{T:T6}{a b c p q:C6}{s t s' t' g g':Int}(P:Pc k n T (a,b,c))(op:Ok6 k n p)(oq:Ok6 k n q)(M:Mix6 n s t a b p g)(M':Mix6 n s' t' c a q g')(hs:0≤s)(ht:0≤t)(hs':0≤s')(ht':0≤t') :
  Pc k n T (a,p,q)∧Pc k n T (p,b,c)∧Pc k n T (p,c,q)∧∀px py ps:Int,1≤ps→hd6 a p q px py ps+(hd6 p b c px py ps+hd6 p c q px py ps)=hd6 a b c px py ps:=by
 have S:=Zio a b c
 have w1:Wn a b c p:=S.1.mix S.2.1 M hs ht
 have S2:=Zio c a p
 have w2:Wn c a p q:=S2.1.mix S2.2.1 M' hs' ht'
 have fp:Flat n T p:=P.f1.mix P.f2 M
 have fq:Flat n T q:=P.f3.mix P.f1 M'
 have s1:Sgn T (c,a,p):=P.sg.half w1.ca
 have z1:ow6 a b p=0:=by
  have e:=ZeT (A:=a) (B:=b) M
  rw [Zhu,ZhV] at e
  rw [Vcr,Vcr,Int.add_zero] at e
  rcases Vch.mp e with h | h
  ·have:=M.pos
   omega
  ·exact h
 have z2:ow6 c a q=0:=by
  have e:=ZeT (A:=c) (B:=a) M'
  rw [Zhu,ZhV] at e
  rw [Vcr,Vcr,Int.add_zero] at e
  rcases Vch.mp e with h | h
  ·have:=M'.pos
   omega
  ·exact h
 refine ⟨⟨P.o1,op,oq,P.f1,fp,fq,s1.half w2.bc⟩,⟨op,P.o2,P.o3,fp,P.f2,P.f3,P.sg.half ?_⟩,⟨op,P.o3,oq,fp,P.f3,fq,s1.half w2.ca⟩,fun px py ps h1=>?_⟩
 ·show Half (ow6 p b c) (ow6 a b c)
  rw [←Zgx p b c]
  exact w1.bc
 ·have e1:hd6 a b p px py ps+hd6 b c p px py ps+hd6 c a p px py ps=hd6 a b c px py ps:=ZfR P.o1 P.o2 P.o3 op px py ps
  have e2:hd6 c a q px py ps+hd6 a p q px py ps+hd6 p c q px py ps=hd6 c a p px py ps:=ZfR P.o3 P.o1 op oq px py ps
  have e3:hd6 a b p px py ps=0:=Zju P.o1 P.o2 op h1 z1
  have e4:hd6 c a q px py ps=0:=Zju P.o3 P.o1 oq h1 z2
  have e5:hd6 b c p px py ps=hd6 p b c px py ps:=Zho p b c px py ps
  rw [e3,e5] at e1
  rw [e4] at e2
  generalize hd6 a p q px py ps=x1 at *
  generalize hd6 p b c px py ps=x2 at *
  generalize hd6 p c q px py ps=x3 at *
  generalize hd6 a b c px py ps=x4 at *
  generalize hd6 c a p px py ps=x5 at *
  omega
inductive Rot:T6→T6→Prop
 | r0 (a b c:C6):Rot (a,b,c) (a,b,c)
 | r1 (a b c:C6):Rot (a,b,c) (b,c,a)
 | r2 (a b c:C6):Rot (a,b,c) (c,a,b)
theorem Rot.pc{k n:Nat}{T t u:T6}(h:Rot t u)(p:Pc k n T t):Pc k n T u:=by
 cases h with
 | r0 a b c=>exact p
 | r1 a b c =>
  refine ⟨p.o2,p.o3,p.o1,p.f2,p.f3,p.f1,p.sg.half ?_⟩
  show Half (ow6 b c a) (ow6 a b c)
  rw [Zgx]
  exact Half.one _
 | r2 a b c =>
  refine ⟨p.o3,p.o1,p.o2,p.f3,p.f1,p.f2,p.sg.half ?_⟩
  show Half (ow6 c a b) (ow6 a b c)
  rw [←Zgx c a b]
  exact Half.one _
theorem Rot.had{t u:T6}(h:Rot t u)(px py ps:Int):hdT u px py ps=hdT t px py ps:=by
 cases h with
 | r0 a b c=>rfl
 | r1 a b c=>exact Zho _ _ _ _ _ _
 | r2 a b c=>exact (Zho _ _ _ _ _ _).symm
theorem Zos{t b t' b':Int}(hb:b≠0)(hb':b'≠0)(e:t'*b=t*b'):fra t' b'=fra t b:=by
 have F:=Mt.ZnP (t:=t) hb
 have G:=Mt.ZnP (t:=t') hb'
 have e1:=F.same
 have e2:=G.same
 unfold fra
 obtain ⟨h1,h2⟩:=Mt.Zoo G.pos G.low F.pos F.low (by
  generalize Mt.frT t' b'=p at *
  generalize Mt.frB t' b'=q at *
  generalize Mt.frT t b=p' at *
  generalize Mt.frB t b=q' at *
  have:(b*b')*(p*q')=(b*b')*(p'*q):=by
   calc (b*b')*(p*q')=(p*b')*(b*q'):=by grind
    _=(t'*q)*(b*q'):=by rw [e2]
    _=(t'*b)*q*q':=by grind
    _=(t*b')*q*q':=by rw [e]
    _=(t*q')*b'*q:=by grind
    _=(p'*b)*b'*q:=by rw [e1]
    _=(b*b')*(p'*q):=by grind
  exact Vcm (Int.mul_ne_zero hb hb') this)
 rw [h1,h2]
theorem ZkU{o o' t b t' b':Int}(h0:o≠0)(h1:o*t'=o'*t)(h2:o*b'=o'*b):t'*b=t*b':=by
 refine Vcm h0 ?_
 calc o*(t'*b)=(o*t')*b:=by grind
  _=t*(o'*b):=by rw [h1];grind
  _=o*(t*b'):=by rw [←h2];grind
abbrev wt1(t:T6)(px py ps:Int):Int:=ow t.2.1.x t.2.1.y t.2.1.w t.2.2.x t.2.2.y t.2.2.w px py ps
abbrev wt2(t:T6)(px py ps:Int):Int:=ow t.2.2.x t.2.2.y t.2.2.w t.1.x t.1.y t.1.w px py ps
abbrev wt3(t:T6)(px py ps:Int):Int:=ow t.1.x t.1.y t.1.w t.2.1.x t.2.1.y t.2.1.w px py ps
theorem bary(t:T6)(px py ps:Int):wt1 t px py ps*t.1.x+wt2 t px py ps*t.2.1.x+wt3 t px py ps*t.2.2.x=owT t*px∧wt1 t px py ps*t.1.y+wt2 t px py ps*t.2.1.y+wt3 t px py ps*t.2.2.y=owT t*py∧wt1 t px py ps*t.1.w+wt2 t px py ps*t.2.1.w+wt3 t px py ps*t.2.2.w=owT t*ps:=by
 obtain ⟨a,b,c⟩:=t
 refine ⟨?_,?_,?_⟩<;>simp only [wt1,wt2,wt3,owT,ow6,ow]<;>grind
theorem ZeM(t:T6)(A B:C6)(px py ps:Int):wt1 t px py ps*ow6 A B t.1+wt2 t px py ps*ow6 A B t.2.1+wt3 t px py ps*ow6 A B t.2.2=owT t*ow A.x A.y A.w B.x B.y B.w px py ps:=by
 obtain ⟨h1,h2,h3⟩:=bary t px py ps
 generalize wt1 t px py ps=e at *
 generalize wt2 t px py ps=f at *
 generalize wt3 t px py ps=g at *
 generalize owT t=o at *
 unfold ow6 ow
 generalize A.y*B.w - A.w*B.y=l
 generalize A.w*B.x - A.x*B.w=m
 generalize A.x*B.y - A.y*B.x=n
 calc _=l*(e*t.1.x+f*t.2.1.x+g*t.2.2.x)+m*(e*t.1.y+f*t.2.1.y+g*t.2.2.y)+n*(e*t.1.w+f*t.2.1.w+g*t.2.2.w):=by grind
  _=_:=by rw [h1,h2,h3];grind
theorem Zi6{o o' e f g a b c A B C a1 a2 a3 b1 b2 b3 c1 c2 c3 E F G:Int}(ha:o*a=a1*A+a2*B+a3*C)(hb:o*b=b1*A+b2*B+b3*C)(hc:o*c=c1*A+c2*B+c3*C)
  (h1:e*a1+f*b1+g*c1=o'*E) (h2:e*a2+f*b2+g*c2=o'*F) (h3:e*a3+f*b3+g*c3=o'*G):o*dot a b c e f g=o'*dot A B C E F G:=by
 unfold dot
 calc o*(a*e+b*f+c*g)=e*(o*a)+f*(o*b)+g*(o*c):=by grind
  _=(e*a1+f*b1+g*c1)*A+(e*a2+f*b2+g*c2)*B+(e*a3+f*b3+g*c3)*C:=by rw [ha,hb,hc];grind
  _=o'*(A*E+B*F+C*G):=by rw [h1,h2,h3];grind
theorem Zs8{k n:Nat}{T t:T6}(P:Pc k n T t)(px py ps:Int):owT T*dot t.1.h t.2.1.h t.2.2.h (wt1 t px py ps) (wt2 t px py ps) (wt3 t px py ps)=owT t*dot T.1.h T.2.1.h T.2.2.h (wt1 T px py ps) (wt2 T px py ps) (wt3 T px py ps) :=
 Zi6 P.f1.h P.f2.h P.f3.h (ZeM t T.2.1 T.2.2 px py ps) (ZeM t T.2.2 T.1 px py ps) (ZeM t T.1 T.2.1 px py ps)
theorem ZtW{k n:Nat}{T t:T6}(P:Pc k n T t){j:Nat}(hj:j<n)(px py ps:Int):owT T*dot (t.1.v j) (t.2.1.v j) (t.2.2.v j) (wt1 t px py ps) (wt2 t px py ps) (wt3 t px py ps)=owT t*dot (T.1.v j) (T.2.1.v j) (T.2.2.v j) (wt1 T px py ps) (wt2 T px py ps) (wt3 T px py ps) :=
 Zi6 (P.f1.v j hj) (P.f2.v j hj) (P.f3.v j hj) (ZeM t T.2.1 T.2.2 px py ps) (ZeM t T.2.2 T.1 px py ps) (ZeM t T.1 T.2.1 px py ps)
theorem ZrO(T t:T6)(px py ps:Int):owT T*dot t.1.w t.2.1.w t.2.2.w (wt1 t px py ps) (wt2 t px py ps) (wt3 t px py ps)=owT t*dot T.1.w T.2.1.w T.2.2.w (wt1 T px py ps) (wt2 T px py ps) (wt3 T px py ps):=by
 have h1:=(bary t px py ps).2.2
 have h2:=(bary T px py ps).2.2
 have e:∀a b c e f g:Int,dot a b c e f g=e*a+f*b+g*c:=fun a b c e f g=>by unfold dot;grind
 rw [e,e,h1,h2]
 grind
def seeT(n:Nat)(t:T6)(px py ps:Int):D:=.tup [fra (dot t.1.w t.2.1.w t.2.2.w (wt1 t px py ps) (wt2 t px py ps) (wt3 t px py ps)) (dot t.1.h t.2.1.h t.2.2.h (wt1 t px py ps) (wt2 t px py ps) (wt3 t px py ps)),.tup (vls (vsL n t.1) (vsL n t.2.1) (vsL n t.2.2) (wt1 t px py ps) (wt2 t px py ps) (wt3 t px py ps) (dot t.1.h t.2.1.h t.2.2.h (wt1 t px py ps) (wt2 t px py ps) (wt3 t px py ps)))]
theorem Zpn{av bv cv av' bv' cv':List Int}{m:Nat}{e f g B e' f' g' B':Int}(la:av.length=m)(lb:bv.length=m)(lc:cv.length=m)(la':av'.length=m)(lb':bv'.length=m)(lc':cv'.length=m)
  (h:∀(j:Nat) (x y z x' y' z':Int),j<m→av[j]?=some x→bv[j]?=some y→cv[j]?=some z→av'[j]?=some x'→bv'[j]?=some y'→cv'[j]?=some z'→fra (dot x y z e f g) B=fra (dot x' y' z' e' f' g') B'):vls av bv cv e f g B=vls av' bv' cv' e' f' g' B':=by
 apply List.ext_getElem?
 intro j
 by_cases hj:j<m
 ·obtain ⟨x,y,z,h1,h2,h3,h4⟩:=Zmv (e:=e) (f:=f) (g:=g) (B:=B) la lb lc hj
  obtain ⟨x',y',z',k1,k2,k3,k4⟩:=Zmv (e:=e') (f:=f') (g:=g') (B:=B') la' lb' lc' hj
  rw [h4,k4,h j x y z x' y' z' hj h1 h2 h3 k1 k2 k3]
 ·rw [List.getElem?_eq_none (by rw [ZkW la lb lc];omega),List.getElem?_eq_none (by rw [ZkW la' lb' lc'];omega)]
theorem b_ne{k n:Nat}{t:T6}(o1:Ok6 k n t.1)(o2:Ok6 k n t.2.1)(o3:Ok6 k n t.2.2){px py ps:Int}(hp:1≤ps)(h:hdT t px py ps≠0):dot t.1.h t.2.1.h t.2.2.h (wt1 t px py ps) (wt2 t px py ps) (wt3 t px py ps)≠0:=by
 have a1:=o1.w1
 have b1:=o2.w1
 have c1:=o3.w1
 exact Zoy o1.h1 o2.h1 o3.h1 (Zo9 (by omega) (by omega) (by omega) (by omega) h)
theorem ZtV{k m n:Nat}{T t:T6}(O1:Ok6 m n T.1)(O2:Ok6 m n T.2.1)(O3:Ok6 m n T.2.2)(P:Pc k n T t){px py ps:Int}(hp:1≤ps)(h:hdT t px py ps≠0)(H:hdT T px py ps≠0):seeT n t px py ps=seeT n T px py ps:=by
 have o0:owT T≠0:=by rcases Zii O1 O2 O3 hp H with z | z<;>omega
 have bt:=b_ne P.o1 P.o2 P.o3 hp h
 have bT:=b_ne O1 O2 O3 hp H
 have eh:=Zs8 P px py ps
 unfold seeT
 rw [Zos bT bt (ZkU o0 (ZrO T t px py ps) eh)]
 rw [Zpn (Zcs n _) (Zcs n _) (Zcs n _) (Zcs n _) (Zcs n _) (Zcs n _) fun j x y z x' y' z' hj h1 h2 h3 k1 k2 k3=>?_]
 rw [Ziu _ hj] at h1 h2 h3 k1 k2 k3
 cases h1
 cases h2
 cases h3
 cases k1
 cases k2
 cases k3
 exact Zos bT bt (ZkU o0 (ZtW P hj px py ps) eh)
def havs(ts:List T6)(px py ps:Int):List T6:=ts.filter fun t=>!decide (hdT t px py ps=0)
theorem ZjF(px py ps:Int):∀ts:List T6,hsum (havs ts px py ps) px py ps=hsum ts px py ps
 | []=>rfl
 | t::r=>by
  have ih:=ZjF px py ps r
  unfold havs at *
  rw [Vcn,Zcx]
  by_cases z:hdT t px py ps=0
  ·rw [if_neg (by rw [Vbm z];decide),ih,z]
   omega
  ·rw [if_pos (by rw [Vac z];rfl),Zcx,ih]
theorem ZgM{s px py ps:Int}:∀{ts:List T6},(∀t∈ts,hdT t px py ps=s)→hsum ts px py ps=s*ts.length
 | [],_=>by
  show (0:Int)=s*((0:Nat):Int)
  rw [Int.natCast_zero,Vcr]
 | t::r,h=>by
  rw [Zcx,ZgM (fun u hu=>h u (Vap _ hu)),h t Vao,VaO,Int.natCast_add,Int.mul_add]
  show s+_=_+s*1
  omega
theorem Net.count{k n:Nat}{T:T6}{ts:List T6}(N:Net k n T ts){px py ps:Int}(hp:1≤ps):((havs ts px py ps).length:Int)=(hdT T px py ps).natAbs:=by
 have hs:=(ZjF px py ps ts).trans (N.had px py ps hp)
 have hm:∀t∈havs ts px py ps,Pc k n T t∧hdT t px py ps≠0:=fun t ht=>by
  unfold havs at ht
  obtain ⟨h1,h2⟩:=Vai.mp ht
  refine ⟨N.pc t h1,fun z=>?_⟩
  rw [Vbm z] at h2
  exact absurd h2 (by decide)
 generalize havs ts px py ps=us at *
 by_cases z:0<owT T
 ·have:=ZgM (s:=1) (px:=px) (py:=py) (ps:=ps) (ts:=us) fun t ht=>by
   obtain ⟨P,h⟩:=hm t ht
   rcases Zii P.o1 P.o2 P.o3 hp h with q | q
   ·exact q.1
   ·have:=P.sg.1 (by omega)
    omega
  omega
 ·have:=ZgM (s:=-1) (px:=px) (py:=py) (ps:=ps) (ts:=us) fun t ht=>by
   obtain ⟨P,h⟩:=hm t ht
   rcases Zii P.o1 P.o2 P.o3 hp h with q | q
   ·have:=P.sg.2 (by omega)
    omega
   ·exact q.1
  omega
theorem Zr9{Φ:D→Prop}{k n:Nat}{t:T6}{px py ps:Int}(o1:Ok6 k n t.1)(o2:Ok6 k n t.2.1)(o3:Ok6 k n t.2.2)(hk:k≤64)(hn:n≤3)(hp:1≤ps)(p:Cr px py ps)(h:hdT t px py ps≠0)(q:Φ (seeT n t px py ps)):Tl (Zaw [pc6 n t,.tup [.int px,.int py,.int ps]]) Φ :=
 Zrg o1.w1 o2.w1 o3.w1 hp (o1.cr hk) (o2.cr hk) (o3.cr hk) p (o1.cv hk) (o2.cv hk) (o3.cv hk) (by rw [Zcs];omega) h rfl rfl rfl rfl q
def fm6(A B C G:Int)(c:C6):Int:=A*c.x+B*c.y+C*c.w+G*c.h
theorem fm_6(A B C G:Int)(n:Nat)(c:C6):fm A B C G (lst6 n c)=fm6 A B C G c:=rfl
theorem ZpL{A B C G:Int}{n:Nat}{p q:Int}{a b m:C6}{g:Int}(M:Mix6 n p q a b m g):g*fm6 A B C G m=p*fm6 A B C G a+q*fm6 A B C G b:=by
 have h1:=M.x
 have h2:=M.y
 have h3:=M.w
 have h4:=M.h
 unfold fm6
 grind
def Opp(fa fb:Int):Prop:=(0≤fa∧fb<0)∨(fa<0∧0≤fb)
theorem met6{A B C G:Int}{k n s:Nat}{a b:C6}(oa:Ok6 k n a)(ob:Ok6 k n b)(hn:n≤3)(h:Opp (fm6 A B C G a) (fm6 A B C G b))(sa:Sm s (fm6 A B C G a))(sb:Sm s (fm6 A B C G b))(hs:s≤200) :
  ∃(m:C6) (g:Int),met (lst6 n a) (lst6 n b) (fm6 A B C G a) (fm6 A B C G b)=lst6 n m∧Mix6 n ((fm6 A B C G b).natAbs:Int) ((fm6 A B C G a).natAbs:Int) a b m g∧Ok6 (k+s+1) n m∧fm6 A B C G m=0:=by
 have hf:0<(fm6 A B C G a).natAbs+(fm6 A B C G b).natAbs:=by unfold Opp at h;omega
 have M:=Zo0 (oa.cn hn) (ob.cn hn) (by rw [Zbi,Zbi]) hf (sa.mono hs) (sb.mono hs)
 obtain ⟨m,g,e,M6⟩:=mx6 M.mx
 refine ⟨m,g,e,M6,M6.ok oa ob (by omega) (by omega) (by omega) (Zj9 sb) (Zj9 sa),?_⟩
 have e:=ZpL (A:=A) (B:=B) (C:=C) (G:=G) M6
 have z:((fm6 A B C G b).natAbs:Int)*fm6 A B C G a+((fm6 A B C G a).natAbs:Int)*fm6 A B C G b=0:=by
  generalize fm6 A B C G a=x at *
  generalize fm6 A B C G b=y at *
  rcases h with ⟨h1,h2⟩ | ⟨h1,h2⟩
  ·rw [show (y.natAbs:Int)=-y by omega,show (x.natAbs:Int)=x by omega]
   grind
  ·rw [show (y.natAbs:Int)=y by omega,show (x.natAbs:Int)=-x by omega]
   grind
 rw [z] at e
 rcases Vch.mp e with y | y
 ·have:=M6.pos
  omega
 ·exact y
def All3(Q:C6→Prop)(t:T6):Prop:=Q t.1∧Q t.2.1∧Q t.2.2
structure CutR(k n:Nat)(A B C G:Int)(t:T6)(P R:List T6):Prop where
 len:1≤P.length+R.length∧P.length+R.length≤3
 net:∀(T:T6) (l r:List T6),Net k n T (l++t::r)→Net k n T (l++(P++R)++r)
 inn:∀u∈P,All3 (fun c=>0≤fm6 A B C G c) u
 out:∀u∈R,All3 (fun c=>fm6 A B C G c≤0) u
 ok:∀u∈P++R,All3 (Ok6 k n) u
theorem CutR.rot{k n:Nat}{A B C G:Int}{t t':T6}{P R:List T6}(h:CutR k n A B C G t' P R)(r:Rot t t'):CutR k n A B C G t P R :=
 ⟨h.len,fun T l r' N=>h.net T l r' (by
  have P:=N.pc t (by simp)
  have z:=N.split (us:=[t']) (VaI k) (fun u hu=>by
   simp only [Var,VbH,VbI] at hu
   subst hu
   exact r.pc P) (fun px py ps h1=>by
    rw [Zcx,r.had]
    show _+0=_
    omega)
  rw [VbP] at z
  exact z),h.inn,h.out,h.ok⟩
theorem Zgo{A B C G:Int}{k n s:Nat}{a b c:C6}(oa:Ok6 k n a)(ob:Ok6 k n b)(oc:Ok6 k n c)(hn:n≤3)(sa:Sm s (fm6 A B C G a))(sb:Sm s (fm6 A B C G b))(sc:Sm s (fm6 A B C G c))(hs:s≤200)(w:Bool)
  (h:(w=true∧0≤fm6 A B C G a∧fm6 A B C G b<0∧fm6 A B C G c<0)∨(w=false∧fm6 A B C G a<0∧0≤fm6 A B C G b∧0≤fm6 A B C G c)) :
  ∃P R:List T6,three w (lst6 n a) (lst6 n b) (lst6 n c) (fm6 A B C G a) (fm6 A B C G b) (fm6 A B C G c)=.tup [.lst (P.map (pc6 n)),.lst (R.map (pc6 n))]∧CutR (k+s+1) n A B C G (a,b,c) P R:=by
 obtain ⟨p,g,e1,M1,op,fp⟩:=met6 oa ob hn (by unfold Opp;omega) sa sb hs
 obtain ⟨q,g',e2,M2,oq,fq⟩:=met6 oc oa hn (by unfold Opp;omega) sc sa hs
 have oa':=oa.mono (show k≤k+s+1 by omega)
 have ob':=ob.mono (show k≤k+s+1 by omega)
 have oc':=oc.mono (show k≤k+s+1 by omega)
 have et:∀x y z:C6,tri (lst6 n x) (lst6 n y) (lst6 n z)=pc6 n (x,y,z):=fun x y z=>by
  unfold tri pc6
  rw [c6_L,c6_L,c6_L]
 unfold three
 rw [e1,e2,et,et,et]
 rcases h with ⟨rfl,h1,h2,h3⟩ | ⟨rfl,h1,h2,h3⟩
 ·refine ⟨[(a,p,q)],[(p,b,c),(p,c,q)],rfl,⟨by simp,by simp⟩,fun T l r N=>?_,fun u hu=>?_,fun u hu=>?_,fun u hu=>?_⟩
  ·have Pt:=N.pc (a,b,c) (by simp)
   obtain ⟨p1,p2,p3,ph⟩:=ZkZ Pt op oq M1 M2 (by omega) (by omega) (by omega) (by omega)
   refine N.split (VaI _) (fun u hu=>?_) fun px py ps h1=>?_
   ·simp only [Vas,Var,VbH,VbI] at hu
    rcases hu with rfl | rfl | rfl
    ·exact p1
    ·exact p2
    ·exact p3
   ·have z:=ph px py ps h1
    show hd6 a p q px py ps+(hd6 p b c px py ps+(hd6 p c q px py ps+0))=hd6 a b c px py ps
    rw [Int.add_zero]
    exact z
  ·simp only [Var,VbH,VbI] at hu
   subst hu
   exact ⟨h1,by show 0≤fm6 A B C G p;omega,by show 0≤fm6 A B C G q;omega⟩
  ·simp only [Var,VbH,VbI] at hu
   rcases hu with rfl | rfl
   ·exact ⟨by show fm6 A B C G p≤0;omega,by show fm6 A B C G b≤0;omega,by show fm6 A B C G c≤0;omega⟩
   ·exact ⟨by show fm6 A B C G p≤0;omega,by show fm6 A B C G c≤0;omega,by show fm6 A B C G q≤0;omega⟩
  ·simp only [Vas,Var,VbH,VbI] at hu
   rcases hu with rfl | rfl | rfl
   ·exact ⟨oa',op,oq⟩
   ·exact ⟨op,ob',oc'⟩
   ·exact ⟨op,oc',oq⟩
 ·refine ⟨[(p,b,c),(p,c,q)],[(a,p,q)],rfl,⟨by simp,by simp⟩,fun T l r N=>?_,fun u hu=>?_,fun u hu=>?_,fun u hu=>?_⟩
  ·have Pt:=N.pc (a,b,c) (by simp)
   obtain ⟨p1,p2,p3,ph⟩:=ZkZ Pt op oq M1 M2 (by omega) (by omega) (by omega) (by omega)
   refine N.split (VaI _) (fun u hu=>?_) fun px py ps h1=>?_
   ·simp only [Vas,Var,VbH,VbI] at hu
    rcases hu with (rfl | rfl) | rfl
    ·exact p2
    ·exact p3
    ·exact p1
   ·have z:=ph px py ps h1
    show hd6 p b c px py ps+(hd6 p c q px py ps+(hd6 a p q px py ps+0))=hd6 a b c px py ps
    generalize hd6 p b c px py ps=x1 at *
    generalize hd6 p c q px py ps=x2 at *
    generalize hd6 a p q px py ps=x3 at *
    generalize hd6 a b c px py ps=x4 at *
    omega
  ·simp only [Var,VbH,VbI] at hu
   rcases hu with rfl | rfl
   ·exact ⟨by show 0≤fm6 A B C G p;omega,by show 0≤fm6 A B C G b;omega,by show 0≤fm6 A B C G c;omega⟩
   ·exact ⟨by show 0≤fm6 A B C G p;omega,by show 0≤fm6 A B C G c;omega,by show 0≤fm6 A B C G q;omega⟩
  ·simp only [Var,VbH,VbI] at hu
   subst hu
   exact ⟨by show fm6 A B C G a≤0;omega,by show fm6 A B C G p≤0;omega,by show fm6 A B C G q≤0;omega⟩
  ·simp only [Vas,Var,VbH,VbI] at hu
   rcases hu with (rfl | rfl) | rfl
   ·exact ⟨op,ob',oc'⟩
   ·exact ⟨op,oc',oq⟩
   ·exact ⟨oa',op,oq⟩
theorem Zj4{k n:Nat}{A B C G:Int}{t:T6}(o:All3 (Ok6 k n) t):(All3 (fun c=>0≤fm6 A B C G c) t→CutR k n A B C G t [t] [])∧(All3 (fun c=>fm6 A B C G c≤0) t→CutR k n A B C G t [] [t]):=by
 refine ⟨fun h=>⟨⟨by simp,by simp⟩,fun T l r N=>by simpa using N,fun u hu=>?_,fun u hu=>by simp at hu,fun u hu=>?_⟩,fun h=>⟨⟨by simp,by simp⟩,fun T l r N=>by simpa using N,fun u hu=>by simp at hu,fun u hu=>?_,fun u hu=>?_⟩⟩
 all_goals
  simp only [VaV,List.nil_append,Var,VbH,VbI] at hu
  subst hu
  assumption
theorem ZsM{Φ:D→Prop}{A B C G:Int}{j k n:Nat}{t:T6}(hw:Wk j A B C G)(o:All3 (Ok6 k n) t)(hn:n≤3)(hj:j+k+3≤200)(q:∀P R:List T6,CutR (2*k+j+4) n A B C G t P R→Φ (.tup [.lst (P.map (pc6 n)),.lst (R.map (pc6 n))])):Tl (ZkE [pc6 n t,wl A B C G]) Φ:=by
 obtain ⟨a,b,c⟩:=t
 obtain ⟨oa,ob,oc⟩:=o
 dsimp only at oa ob oc
 have et:∀x y z:C6,pc6 n (x,y,z)=tri (lst6 n x) (lst6 n y) (lst6 n z):=fun x y z=>by
  unfold tri pc6
  rw [c6_L,c6_L,c6_L]
 rw [et]
 have ca:=oa.cn hn
 have cb:=ob.cn hn
 have cc:=oc.cn hn
 have sa:Sm (j+k+3) (fm6 A B C G a):=Zkn hw ca
 have sb:Sm (j+k+3) (fm6 A B C G b):=Zkn hw cb
 have sc:Sm (j+k+3) (fm6 A B C G c):=Zkn hw cc
 have ek:k+(j+k+3)+1=2*k+j+4:=by omega
 refine ZqC hw ca cb cc hj (by rw [Zbi,Zbi]) (by rw [Zbi,Zbi]) ?_
 rw [fm_6,fm_6,fm_6]
 have W:=Zj4 (A:=A) (B:=B) (C:=C) (G:=G) (t:=(a,b,c)) (k:=2*k+j+4) (n:=n) ⟨oa.mono (by omega),ob.mono (by omega),oc.mono (by omega)⟩
 by_cases h1:0≤fm6 A B C G a<;>by_cases h2:0≤fm6 A B C G b<;>by_cases h3:0≤fm6 A B C G c
 ·rw [dT h1,dT h2,dT h3]
  have z:=q _ _ (W.1 ⟨h1,h2,h3⟩)
  rw [VaP,et] at z
  exact z
 ·rw [dT h1,dT h2,dF h3]
  obtain ⟨P,R,e,h⟩:=Zgo oc oa ob hn sc sa sb hj false (.inr ⟨rfl,by omega,h1,h2⟩)
  rw [show cutB (lst6 n a) (lst6 n b) (lst6 n c) (fm6 A B C G a) (fm6 A B C G b) (fm6 A B C G c) true true false=_ from e]
  exact q P R ((ek▸h).rot (.r2 a b c))
 ·rw [dT h1,dF h2,dT h3]
  obtain ⟨P,R,e,h⟩:=Zgo ob oc oa hn sb sc sa hj false (.inr ⟨rfl,by omega,h3,h1⟩)
  rw [show cutB (lst6 n a) (lst6 n b) (lst6 n c) (fm6 A B C G a) (fm6 A B C G b) (fm6 A B C G c) true false true=_ from e]
  exact q P R ((ek▸h).rot (.r1 a b c))
 ·rw [dT h1,dF h2,dF h3]
  obtain ⟨P,R,e,h⟩:=Zgo oa ob oc hn sa sb sc hj true (.inl ⟨rfl,h1,by omega,by omega⟩)
  rw [show cutB (lst6 n a) (lst6 n b) (lst6 n c) (fm6 A B C G a) (fm6 A B C G b) (fm6 A B C G c) true false false=_ from e]
  exact q P R (ek▸h)
 ·rw [dF h1,dT h2,dT h3]
  obtain ⟨P,R,e,h⟩:=Zgo oa ob oc hn sa sb sc hj false (.inr ⟨rfl,by omega,h2,h3⟩)
  rw [show cutB (lst6 n a) (lst6 n b) (lst6 n c) (fm6 A B C G a) (fm6 A B C G b) (fm6 A B C G c) false true true=_ from e]
  exact q P R (ek▸h)
 ·rw [dF h1,dT h2,dF h3]
  obtain ⟨P,R,e,h⟩:=Zgo ob oc oa hn sb sc sa hj true (.inl ⟨rfl,h2,by omega,by omega⟩)
  rw [show cutB (lst6 n a) (lst6 n b) (lst6 n c) (fm6 A B C G a) (fm6 A B C G b) (fm6 A B C G c) false true false=_ from e]
  exact q P R ((ek▸h).rot (.r1 a b c))
 ·rw [dF h1,dF h2,dT h3]
  obtain ⟨P,R,e,h⟩:=Zgo oc oa ob hn sc sa sb hj true (.inl ⟨rfl,h3,by omega,by omega⟩)
  rw [show cutB (lst6 n a) (lst6 n b) (lst6 n c) (fm6 A B C G a) (fm6 A B C G b) (fm6 A B C G c) false false true=_ from e]
  exact q P R ((ek▸h).rot (.r2 a b c))
 ·rw [dF h1,dF h2,dF h3]
  have z:=q _ _ (W.2 ⟨by show fm6 A B C G a≤0;omega,by show fm6 A B C G b≤0;omega,by show fm6 A B C G c≤0;omega⟩)
  rw [VaP,et] at z
  exact z
theorem ZhW{Φ:D→Prop}{vs:List Int}(hl:vs.length≤3)(h:Φ (.bl true)):Tl (ZbL [.tup (vs.map .int)]) Φ:=by
 unfold ZbL
 walk_at "w"
 rw [VaQ]
 walk_at "w"
 refine ⟨by omega,?_⟩
 refine Zcu (fun _:Int=>D.bl true) (fun k hk=>?_) ?_
 ·walk_at "w"
  exact Zdu rfl
 walk_at "w"
 refine ZlJ (fun y hy=>?_) ?_
 ·obtain ⟨_,_,rfl⟩:=Vbs.mp hy
  rfl
 walk_at "w"
 exact h
theorem Zhp{Φ:D→Prop}{x y w h:Int}{vs:List Int}(hh:1≤h)(hl:vs.length≤3)(q:Φ (.bl true)):Tl (Zb1 [cor x y w h vs]) Φ:=by
 unfold Zb1 cor
 walk_at "w"
 rw [show cutL [D.int x,D.int y,D.int w,D.int h,D.tup (List.map D.int vs)] none (some 4)=[x,y,w,h].map D.int from rfl]
 refine ⟨by show (4:Nat)≤_;omega,?_⟩
 refine Zcu (fun _:Int=>D.bl true) (fun k hk=>?_) ?_
 ·walk_at "w"
  exact Zdu rfl
 walk_at "w"
 refine ZlJ (fun y hy=>?_) ?_
 ·obtain ⟨_,_,rfl⟩:=Vbs.mp hy
  rfl
 walk_at "w"
 refine ZhW hl ?_
 walk_at "w"
 exact q
theorem ZmI(q:Rat):ZaK [frD q]=.ok .non:=by
 refine Tl.eq ?_
 unfold ZaK
 walk_at "w"
 refine Zef ?_
 walk_at "w"
theorem ZnS{q:Rat}(h0:0≤q.num)(h1:q.num≤q.den):ZbK [frD q]=.ok .non:=by
 refine Tl.eq ?_
 unfold ZbK
 walk_at "w"
 refine Zef ?_
 unfold frD
 walk_at "w"
theorem Zhh{f:Str}{d:D}{k:MSi}{ρ:Ev}{fl:Fs}{e:ME}(he:e ρ=.ok d)(hn:(fl.map (·.1)).contains f=false)(hl:fl.length<100):iSet f e k ρ fl=k ρ (fl++[(f,d)]):=by
 unfold iSet
 rw [he]
 show (if (fl.map (·.1)).contains f=true∨100≤fl.length then Res.bad else k ρ (fl++[(f,d)]))=_
 rw [if_neg]
 rintro (z | z)
 ·rw [hn] at z;cases z
 ·omega
theorem Zgz{d:D}{k:MSi}{ρ:Ev}{fl:Fs}{e:ME}(he:e ρ=.ok d):iDrp e k ρ fl=k ρ fl:=by
 unfold iDrp
 rw [he]
 rfl
theorem Zlx{g:List D→Fs→Res Fs}{a:MA}{ds:List D}{k:MSi}{ρ:Ev}{fl fl':Fs}(ha:a ρ=.ok ds)(hg:g ds fl=.ok fl'):iSup g a k ρ fl=k ρ fl':=by
 unfold iSup
 rw [ha]
 show (g ds fl).bind _=_
 rw [hg]
 rfl
theorem no_c:([("triangle" : Str)]:List Str).contains "colour"=false:=by decide +kernel
theorem ZuG:([("triangle" : Str), "colour"]:List Str).contains "part"=false:=by decide +kernel
abbrev fsT(T:D):Fs:=[(("triangle" : Str),T)]
theorem ZmM{Φ:D→Prop}{c:Str}{g:List D→Fs→Res Fs}{a:MA}{ρ:Ev}(h:Tl (a ρ) fun ds=>∃fl,g ds []=.ok fl∧Φ (.ins c (fl.map (·.1)) (fl.map (·.2)))):Tl (make c g a ρ) Φ:=by
 obtain ⟨ds,e1,fl,e2,q⟩:=h
 refine Zao ?_ q
 unfold make
 rw [e1]
 show (g ds []).bind _=_
 rw [e2]
 rfl
theorem ZoT{t b:Int}{k:Nat}(hb:b≠0)(st:Sm k t)(sb:Sm k b):Bq k (Rat.divInt t b):=by
 have F:=Mt.ZnP (t:=t) hb
 have e:=Zdb (t:=t) (b:=b) hb
 unfold fra frD at e
 injection e with e
 injection e with e1 e2
 injection e1 with e1
 injection e2 with e2 _
 injection e2 with e2
 exact ⟨e1▸st.le F.np,e2▸sb.le F.nq⟩
inductive Kd where
 | sh:Kd
 | pl (q:Rat):Kd
 | gl (q r:Rat):Kd
def thD:Kd→T6→D
 | .sh,t=>.ins "Shaded" ["triangle"] [pc6 1 t]
 | .pl q,t=>.ins "Plain" ["triangle", "colour"] [pc6 1 t,frD q]
 | .gl q r,t=>.ins "Glass" ["triangle", "colour", "part"] [pc6 1 t,frD q,frD r]
def KdOk:Kd→Prop
 | .sh=>True
 | .pl q=>Bq 32 q
 | .gl q r=>Bq 32 q∧Bq 32 r∧0≤r.num∧r.num≤r.den
abbrev O3(t:T6):Prop:=All3 (Ok6 64 1) t
theorem vs1(c:C6):vsL 1 c=[c.v 0]:=rfl
theorem Zqw{t:T6}(h:O3 t):ZaS [pc6 1 t]=.ok .non:=by
 obtain ⟨a,b,c⟩:=t
 obtain ⟨ha,hb,hc⟩:=h
 refine Tl.eq ?_
 unfold ZaS pc6 c6
 walk_at "w"
 refine w_f1 ?_
 walk_at "w"
 refine Zhp ha.h1 (by rw [Zcs];decide) ?_
 unfold cor
 rw [vs1,vs1,vs1]
 walk_at "w"
 refine w_f1 ?_
 walk_at "w"
 refine Zhp (vs:=[b.v 0]) hb.h1 (by simp) ?_
 walk_at "w"
 refine w_f1 ?_
 walk_at "w"
 refine Zhp (vs:=[c.v 0]) hc.h1 (by simp) ?_
 walk_at "w"
 refine w_f0 ?_
 walk_at "w"
theorem Zq1{t:T6}(h:O3 t):Zaq [pc6 1 t]=.ok .non:=by
 obtain ⟨a,b,c⟩:=t
 have h1:=h.1.w1
 have h2:=h.2.1.w1
 have h3:=h.2.2.w1
 dsimp only at h1 h2 h3
 refine Tl.eq ?_
 unfold Zaq pc6 c6 cor
 walk_at "w"
 refine w_f1 ?_
 walk_at "w"
 refine w_f1 ?_
 walk_at "w"
 refine w_f1 ?_
 walk_at "w"
 refine w_f0 ?_
 walk_at "w"
theorem ZnQ(t:T6):Za6 [pc6 1 t,.int 1]=.ok .non:=by
 obtain ⟨a,b,c⟩:=t
 refine Tl.eq ?_
 unfold Za6 pc6 c6 cor
 rw [vs1,vs1,vs1]
 walk_at "w"
theorem ZiE{t:T6}(h:O3 t):Zcl [pc6 1 t] []=.ok (fsT (pc6 1 t)):=by
 unfold Zcl fnI
 rw [Zgz (d:=.non) (Zqw h),Zgz (d:=.non) (Zq1 h),Zhh (d:=pc6 1 t) rfl rfl (by decide)]
 rfl
theorem Zrw{t:T6}{q:Rat}(h:O3 t):ZdW [pc6 1 t,frD q] []=.ok [(("triangle" : Str),pc6 1 t),(("colour" : Str),frD q)]:=by
 unfold ZdW fnI
 rw [Zlx (ds:=[pc6 1 t]) rfl (ZiE h),Zgz (d:=.non) (ZmI q),Zhh (d:=frD q) rfl no_c (by show (1:Nat)<100;decide)]
 rfl
theorem Zna{t:T6}(h:O3 t):ZcF [pc6 1 t] []=.ok (fsT (pc6 1 t)):=by
 unfold ZcF fnI
 rw [Zlx (ds:=[pc6 1 t]) rfl (ZiE h),Zgz (d:=.non) (ZnQ t)]
 rfl
theorem ZpX{t:T6}{q r:Rat}(h:O3 t)(h0:0≤r.num)(h1:r.num≤r.den):ZdU [pc6 1 t,frD q,frD r] []=.ok [(("triangle" : Str),pc6 1 t),(("colour" : Str),frD q),(("part" : Str),frD r)]:=by
 unfold ZdU fnI
 rw [Zlx (ds:=[pc6 1 t]) rfl (ZiE h),Zgz (d:=.non) (ZmI q),Zgz (d:=.non) (ZnS h0 h1),Zhh (d:=frD q) rfl no_c (by show (1:Nat)<100;decide),Zhh (d:=frD r) rfl ZuG (by show (2:Nat)<100;decide)]
 rfl
theorem Zjs{Φ:D→Prop}{t b:Int}(hb:0<b)(sb:Sm 32 b)(q:Φ (frD (Rat.divInt t b))):Tl (Za2 [.int t,.int b]) Φ:=by
 have g0:=Mt.Zd6 (t:=t) (b:=b) (by omega)
 have sg:Sm 32 (Int.gcd t b:Int):=sb.le (by rw [Vcd];exact ZoI (by omega))
 rw [←Zdb (by omega)] at q
 unfold fra Mt.frT Mt.frB at q
 rw [if_neg (by omega),if_neg (by omega)] at q
 unfold Za2
 walk_at "w"
 refine w_wh (fun ρ=>∃x y:Int,ρ=[.im (.int t),.im (.int b),.im (.int x),.im (.int y)]∧Int.gcd x y=Int.gcd t b) (Zfm 3) ⟨t,b,rfl,rfl⟩ (Zdp _ _) ?_
 rintro ρ ⟨x,y,rfl,e⟩
 walk_at "w"
 refine ⟨fun hb=>?_,fun hb=>?_⟩
 ·have hy:y≠0:=by simpa using hb
  rcases Int.lt_or_gt_of_ne hy with hn | hp
  ·walk_at "w"
   refine w_modN hn ?_
   refine ⟨_,rfl,⟨y,x.fmod y,rfl,by rw [Mt.Zm7];exact e⟩,?_⟩
   have:=Mt.Zn6 (x:=x) hn
   simp [Zfm,absC]
   exact this
  ·walk_at "w"
   refine ⟨_,rfl,⟨y,x%y,rfl,by rw [Mt.Zlj];exact e⟩,?_⟩
   have r0:=Vb3 x hy
   have r1:=Vb4 x hp
   simp [Zfm,absC]
   omega
 ·have hy:y=0:=by simpa using hb
  subst hy
  have e':x.natAbs=Int.gcd t b:=by rw [←e,Int.gcd_zero_right]
  walk_at "w"
  rw [e']
  refine Zjl (by omega) sg (by decide) ?_
  walk_at "w"
  rw [e']
  refine Zjl (by omega) sg (by decide) ?_
  walk_at "w"
  exact q
theorem ZpW{t b:Int}(h0:0≤t)(h1:t≤b)(hb:0<b):0≤(Rat.divInt t b).num∧(Rat.divInt t b).num≤(Rat.divInt t b).den:=by
 have d0:=den1 (Rat.divInt t b)
 have e:=(Rat.divInt_eq_divInt_iff (by omega) (by omega)).mp (Vcl (Rat.divInt t b))
 generalize (Rat.divInt t b).num=p at *
 generalize ((Rat.divInt t b).den:Int)=m at *
 have g0:0≤t*m:=Vce h0 (by omega)
 have g1:t*m≤b*m:=Vci h1 (by omega)
 constructor
 ·by_cases c:0≤p
  ·exact c
  ·exfalso
   have:=Int.mul_lt_mul_of_pos_right (show p<0 by omega) hb
   omega
 ·by_cases c:p≤m
  ·exact c
  ·exfalso
   have:=Int.mul_lt_mul_of_pos_right (show m<p by omega) hb
   have c2:m*b=b*m:=Int.mul_comm _ _
   omega
theorem ZjE(cell:Int){k:Int}(hk:0≤k∧k≤1000):∃r:Int,(0≤r∧r<2147483648)∧Zal [.int cell,.int k]=.ok (.int r):=by
 obtain ⟨d,e,r,rfl,hr⟩:=ZbM (Φ:=fun d=>∃r:Int,d=.int r∧0≤r∧r<2147483648) (cc:=cell) hk fun r hr=>⟨r,rfl,hr⟩
 exact ⟨r,hr,e⟩
theorem ZlK(cell:Int):∃κ,KdOk κ∧∀t,O3 t→ZaG [pc6 1 t,.int cell]=.ok (thD κ t):=by
 obtain ⟨n,hn,e1⟩:=ZjE cell (k:=80) (by decide)
 obtain ⟨m,hm,e2⟩:=ZjE cell (k:=81) (by decide)
 have s32:∀{x:Int},-100000≤x∧x≤100000→Sm 32 x:=fun {x} h=>by show x.natAbs<2^32;omega
 have hq:Bq 32 (Rat.divInt (m%2001 - 1000) (1+n/5%12)):=ZjN (by omega) (s32 (by omega)) (s32 (by omega))
 have hb0:1≤1+n/60%16∧1+n/60%16≤16:=by omega
 obtain ⟨bt,hbt⟩ : ∃bt,bt=1+n/60%16:=⟨_,rfl⟩
 have r0:=Vb3 (n/960) (show bt+1≠0 by omega)
 have r1:=Vb4 (n/960) (show 0<bt+1 by omega)
 have hr:Bq 32 (Rat.divInt (n/960%(bt+1)) bt):=ZjN (by omega) (s32 (by omega)) (s32 (by omega))
 have hp:=ZpW r0 (show n/960%(bt+1)≤bt by omega) (by omega)
 have key:∀{Φ:D→Prop} (t:T6),(∀v2 v3 v4 v5:Cl,Tl ((sq (ifs (trb (o2 dLt (o2 yam (v 2) (c (.int 5))) (c (.int 2))))
  (ret (make "Shaded" ZcF (Zaa (v 0) yaa)))
  nop)
  (sq (ifs (trb (o2 dEq (o2 yam (v 2) (c (.int 5))) (c (.int 2))))
  (ret (make "Plain" ZdW (Zaa (v 0) (Zaa (v 3) yaa))))
  nop)
  (ret (make "Glass" ZdU (Zaa (v 0) (Zaa (v 3) (Zaa (v 5) yaa))))))) [.im (pc6 1 t),.im (.int cell),.im (.int n),.im (frD (Rat.divInt (m%2001 - 1000) (1+n/5%12))),.im (.int bt),.im (frD (Rat.divInt (n/960%(bt+1)) bt))]) fun f=>Tl (endOf f) Φ)→Tl (ZaG [pc6 1 t,.int cell]) Φ:=by
  intro Φ t h
  unfold ZaG
  walk_at "w"
  refine Zao e1 ?_
  walk_at "w"
  refine Zao e2 ?_
  walk_at "w"
  refine Zjs (by omega) (s32 (by omega)) ?_
  walk_at "w"
  rw [←hbt]
  refine Zjs (by omega) (s32 (by omega)) ?_
  exact h .no .no .no .no
 by_cases c1:n%5<2
 ·refine ⟨.sh,trivial,fun t ht=>Tl.eq (key t fun _ _ _ _=>?_)⟩
  walk_at "w"
  refine ZmM ?_
  walk_at "w"
  exact ⟨_,Zna ht,by walk_at "w"; rfl⟩
 by_cases c2:n%5=2
 ·refine ⟨.pl _,hq,fun t ht=>Tl.eq (key t fun _ _ _ _=>?_)⟩
  walk_at "w"
  refine ZmM ?_
  walk_at "w"
  exact ⟨_,Zrw ht,by walk_at "w"; rfl⟩
 ·refine ⟨.gl _ _,⟨hq,hr,hp⟩,fun t ht=>Tl.eq (key t fun _ _ _ _=>?_)⟩
  walk_at "w"
  refine ZmM ?_
  walk_at "w"
  exact ⟨_,ZpX ht hp.1 hp.2,by walk_at "w"; rfl⟩
theorem Zog(n:Option Sg)(l:List Sg):lay n l=((Zbh l).filter (Zb6 n)).reverse:=by
 unfold lay
 rw [←ZmK,Zdj]
theorem Zib(g:Rat)(l:List Sg):colQ g l=layQ ((Zbh l).filter (Zb6 ((Zbh l).filter fun s=>!s.gl).head?)).reverse (ZgN g ((Zbh l).filter fun s=>!s.gl).head?):=by
 unfold colQ
 rw [Zog,ZlZ]
structure Kp(f:Sg→Sg):Prop where
 gl:∀s,(f s).gl=s.gl
 q:∀s,(f s).q=s.q
 own:∀s,(f s).own=s.own
 part:∀s,(f s).part=s.part
 col:∀s,(f s).col=s.col
theorem Zjb{f:Sg→Sg}(h:Kp f)(s:Sg):∀l:List Sg,insR (l.map f) (f s)=(insR l s).map f
 | []=>rfl
 | a::r=>by
  rw [VaP]
  by_cases c:s.q<a.q
  ·rw [ZcZ c,ZcZ (by rw [h.q,h.q];exact c)]
   rfl
  ·rw [Zc1 c,Zc1 (by rw [h.q,h.q];exact c),Zjb h s r]
   rfl
theorem Zk4{f:Sg→Sg}(h:Kp f)(l:List Sg):Zbh (l.map f)=(Zbh l).map f:=by
 refine snoc_ind (M:=fun l=>Zbh (l.map f)=(Zbh l).map f) rfl (fun l a ih=>?_) l
 rw [Vb0,VaP,List.map_nil,Zbb,Zbb,ih,Zjb h]
theorem Zjp{f:Sg→Sg}(h:Kp f):∀(l:List Sg) (c:Rat),layQ (l.map f) c=layQ l c
 | [],_=>rfl
 | s::l,c=>by
  have e:mixQ (f s) c=mixQ s c:=by unfold mixQ;rw [h.part,h.col]
  show layQ (l.map f) (mixQ (f s) c)=layQ l (mixQ s c)
  rw [e,Zjp h l]
theorem ZjP{f:Sg→Sg}(h:Kp f)(g:Rat)(l:List Sg):colQ g (l.map f)=colQ g l:=by
 rw [Zib,Zib,Zk4 h]
 have e1:((Zbh l).map f).filter (fun s=>!s.gl)=((Zbh l).filter fun s=>!s.gl).map f:=by
  rw [List.filter_map]
  congr 1
  refine List.filter_congr fun s _=>?_
  show (!(f s).gl)=_
  rw [h.gl]
 rw [e1,List.head?_map]
 generalize ((Zbh l).filter fun s=>!s.gl).head?=n
 have e2:((Zbh l).map f).filter (Zb6 (n.map f))=((Zbh l).filter (Zb6 n)).map f:=by
  rw [List.filter_map]
  congr 1
  refine List.filter_congr fun s _=>?_
  show Zb6 (n.map f) (f s)=_
  unfold Zb6
  rw [h.gl]
  cases n with
  | none=>rfl
  | some m =>
   show (s.gl&&decide ((f s).q<(f m).q))=_
   rw [h.q,h.q]
 rw [e2,←List.map_reverse,Zjp h]
 congr 1
 cases n with
 | none=>rfl
 | some m=>exact h.own m
def val:Res D→D
 | .ok d=>d
 | _=>.non
def unF:D→Rat
 | .tup [.int n,.int d]=>Rat.divInt n d
 | _=>0
theorem ZdB(q:Rat):unF (frD q)=q:=Vcl q
def ownOf(c:Str)(d v:D):Rat:=match ZaY.lookup c with
 | some f=>unF (val (f [d,v]))
 | none=>0
def mkS(c:Str)(ns:List Str)(vs:List D)(q:Rat)(v:D):Sg :=
 { d:=.ins c ns vs,gl:=c == "Glass", q:=q,v:=v,own:=if (c == "Glass")=true then 0 else ownOf c (.ins c ns vs) v,part:=unF (val (dFld objs "part" (.ins c ns vs))),col:=unF (val (dFld objs "colour" (.ins c ns vs))),k:=0 }
def so(p d:D):Option Sg:=match d with
 | .ins c ns (T::r)=>match Zaw [T,p] with
  | .ok (.tup [q,v])=>some (mkS c ns (T::r) (unF q) v)
  | _=>none
 | _=>none
theorem Zi0{c:Str}{ns:List Str}{T p:D}{r:List D}(e:Zaw [T,p]=.ok .non):so p (.ins c ns (T::r))=none:=by
 show (match Zaw [T,p] with
  | .ok (.tup [q,v])=>some (mkS c ns (T::r) (unF q) v)
  | _=>none)=none
 rw [e]
theorem ZiW{c:Str}{ns:List Str}{T p v:D}{r:List D}{q:Rat}(e:Zaw [T,p]=.ok (.tup [frD q,v])):so p (.ins c ns (T::r))=some (mkS c ns (T::r) q v):=by
 show (match Zaw [T,p] with
  | .ok (.tup [q,v])=>some (mkS c ns (T::r) (unF q) v)
  | _=>none)=_
 rw [e]
 show some (mkS c ns (T::r) (unF (frD q)) v)=_
 rw [ZdB]
theorem b0:Bq 32 (0:Rat):=⟨by show (0:Int).natAbs<2^32;decide,by show (1:Int).natAbs<2^32;decide⟩
theorem ZlH{p d:D}{T:D}(e1:dFld objs "triangle" d=.ok T)(e2:Zaw [T,p]=.ok .non)(e3:so p d=none):Seen p d (so p d):=by
 rw [e3]
 exact ⟨⟨T,e1,e2⟩,fun s h=>by cases h⟩
theorem Zly{p d v:D}{T:D}{q:Rat}{s:Sg}(e1:dFld objs "triangle" d=.ok T)(e2:Zaw [T,p]=.ok (.tup [frD q,v]))(e3:so p d=some s)(hq:s.q=q)(hv:s.v=v)(hd:s.d=d)(g:GS s):Seen p d (so p d):=by
 rw [e3]
 refine ⟨⟨T,e1,?_⟩,fun t h=>?_⟩
 ·rw [e2]
  show _=Res.ok (D.tup [frD s.q,s.v])
  rw [hq,hv]
 ·cases h
  exact ⟨hd,g⟩
abbrev P3(px py ps:Int):D:=.tup [.int px,.int py,.int ps]
def qT(t:T6)(px py ps:Int):Rat:=Rat.divInt (dot t.1.w t.2.1.w t.2.2.w (wt1 t px py ps) (wt2 t px py ps) (wt3 t px py ps)) (dot t.1.h t.2.1.h t.2.2.h (wt1 t px py ps) (wt2 t px py ps) (wt3 t px py ps))
def vT(t:T6)(px py ps:Int):Rat:=Rat.divInt (dot (t.1.v 0) (t.2.1.v 0) (t.2.2.v 0) (wt1 t px py ps) (wt2 t px py ps) (wt3 t px py ps)) (dot t.1.h t.2.1.h t.2.2.h (wt1 t px py ps) (wt2 t px py ps) (wt3 t px py ps))
theorem ZlC{t:T6}{px py ps:Int}(o:O3 t)(hp:1≤ps)(h:hdT t px py ps≠0):seeT 1 t px py ps=.tup [frD (qT t px py ps),.tup [frD (vT t px py ps)]]:=by
 have n0:=b_ne o.1 o.2.1 o.2.2 hp h
 show D.tup [fra _ _,.tup [fra _ _]]=_
 rw [Zdb n0,Zdb n0]
 rfl
theorem Zi8{t:T6}{px py ps:Int}(o:O3 t)(p:Cr px py ps)(h:hdT t px py ps=0):Zaw [pc6 1 t,P3 px py ps]=.ok .non :=
 Tl.eq (Zro (Φ:=fun x=>x=_) o.1.w1 o.2.1.w1 o.2.2.w1 (o.1.cr (by decide)) (o.2.1.cr (by decide)) (o.2.2.cr (by decide)) p h rfl)
theorem ZmN{t:T6}{px py ps:Int}(o:O3 t)(hp:1≤ps)(p:Cr px py ps)(h:hdT t px py ps≠0):Zaw [pc6 1 t,P3 px py ps]=.ok (.tup [frD (qT t px py ps),.tup [frD (vT t px py ps)]]):=by
 have e:=Tl.eq (Zr9 (Φ:=fun x=>x=_) o.1 o.2.1 o.2.2 (by decide) (by decide) hp p h rfl)
 rw [ZlC o hp h] at e
 exact e
theorem bq_T{t:T6}{px py ps:Int}(o:O3 t)(hp:1≤ps)(p:Cr px py ps)(h:hdT t px py ps≠0):Bq 300 (qT t px py ps)∧Bq 300 (vT t px py ps):=by
 have n0:=b_ne o.1 o.2.1 o.2.2 hp h
 have a:=o.1.cr (by decide)
 have b:=o.2.1.cr (by decide)
 have c:=o.2.2.cr (by decide)
 have s1:=b.ow c p
 have s2:=c.ow a p
 have s3:=a.ow b p
 have sB:=ZjH o.1.h o.2.1.h o.2.2.h s1 s2 s3
 exact ⟨(ZoT n0 (ZjH o.1.w o.2.1.w o.2.2.w s1 s2 s3) sB).mono (by decide),(ZoT n0 (ZjH (o.1.v 0 (by decide)) (o.2.1.v 0 (by decide)) (o.2.2.v 0 (by decide)) s1 s2 s3) sB).mono (by decide)⟩
def sgT(κ:Kd)(t:T6)(q v:Rat):Sg:=match κ with
 | .sh=>mkS "Shaded" ["triangle"] [pc6 1 t] q (.tup [frD v])
 | .pl z=>mkS "Plain" ["triangle", "colour"] [pc6 1 t,frD z] q (.tup [frD v])
 | .gl z r=>mkS "Glass" ["triangle", "colour", "part"] [pc6 1 t,frD z,frD r] q (.tup [frD v])
theorem ZoE{κ:Kd}{t:T6}{px py ps:Int}(o:O3 t)(p:Cr px py ps)(h:hdT t px py ps=0):so (P3 px py ps) (thD κ t)=none:=by
 cases κ<;>exact Zi0 (Zi8 o p h)
theorem Zto{κ:Kd}{t:T6}{px py ps:Int}(o:O3 t)(hp:1≤ps)(p:Cr px py ps)(h:hdT t px py ps≠0):so (P3 px py ps) (thD κ t)=some (sgT κ t (qT t px py ps) (vT t px py ps)):=by
 cases κ<;>exact ZiW (ZmN o hp p h)
def Thg(d:D):Prop:=∃κ t,d=thD κ t∧KdOk κ∧O3 t
theorem gs_T{κ:Kd}{t:T6}{q v:Rat}(hk:KdOk κ)(bq:Bq 300 q)(bv:Bq 300 v):GS (sgT κ t q v):=by
 cases κ with
 | sh =>
  have eo:(sgT .sh t q v).own=v:=ZdB v
  refine ⟨⟨_,_,_,rfl,by decide +kernel,by decide +kernel,⟨ZaM,by rfl,rfl⟩,fun _=>⟨Za9,by rfl,?_⟩⟩,(fun h=>by cases h),bq,?_,b0,b0⟩
  ·rw [eo];rfl
  ·rw [eo];exact bv
 | pl z =>
  have eo:(sgT (.pl z) t q v).own=z:=ZdB z
  have ec:(sgT (.pl z) t q v).col=z:=ZdB z
  refine ⟨⟨_,_,_,rfl,by decide +kernel,by decide +kernel,⟨ZaM,by rfl,rfl⟩,fun _=>⟨Zbl,by rfl,?_⟩⟩,(fun h=>by cases h),bq,?_,b0,?_⟩
  ·rw [eo];rfl
  ·rw [eo];exact Bq.mono hk (by decide)
  ·rw [ec];exact hk
 | gl z r =>
  have ec:(sgT (.gl z r) t q v).col=z:=ZdB z
  have ep:(sgT (.gl z r) t q v).part=r:=ZdB r
  refine ⟨⟨_,_,_,rfl,by decide +kernel,by decide +kernel,⟨ZbA,by rfl,rfl⟩,fun h=>by cases h⟩,fun _=>⟨?_,?_⟩,bq,b0.mono (by decide),?_,?_⟩
  ·rw [ep];rfl
  ·rw [ec];rfl
  ·rw [ep];exact hk.2.1
  ·rw [ec];exact hk.1
theorem fT_T(κ:Kd)(t:T6):dFld objs "triangle" (thD κ t)=.ok (pc6 1 t):=by cases κ<;>rfl
theorem Zu2{d:D}{px py ps:Int}(h:Thg d)(cp:Cr px py ps)(hp:1≤ps):Seen (.tup [.int px,.int py,.int ps]) d (so (.tup [.int px,.int py,.int ps]) d):=by
 obtain ⟨κ,t,rfl,hk,o⟩:=h
 by_cases c:hdT t px py ps=0
 ·exact ZlH (fT_T κ t) (Zi8 o cp c) (ZoE o cp c)
 ·have b:=bq_T o hp cp c
  refine Zly (fT_T κ t) (ZmN o hp cp c) (Zto o hp cp c) ?_ ?_ ?_ (gs_T hk b.1 b.2)<;>cases κ<;>rfl
abbrev pt8(x y:Int):D:=.tup [.int x,.int y,.int 8]
def sgs(ts:List D)(p:D):List Sg:=ts.filterMap (so p)
def lk(ts:List D)(p:D):List DO:=ts.map fun d=>(d,so p d)
theorem ZsZ(ts:List D)(p:D):(lk ts p).map (·.1)=ts:=by
 unfold lk
 rw [VbO]
 exact List.map_id _
theorem Ztj(ts:List D)(p:D):sgts (lk ts p)=sgs ts p:=by
 unfold sgts lk sgs
 rw [List.filterMap_map]
 rfl
theorem ZrW{ts:List D}{px py ps:Int}(h:∀t∈ts,Thg t)(cp:Cr px py ps)(hp:1≤ps):∀y∈lk ts (.tup [.int px,.int py,.int ps]),Seen (.tup [.int px,.int py,.int ps]) y.1 y.2:=by
 intro y hy
 obtain ⟨d,hd,rfl⟩:=Vbs.mp hy
 exact Zu2 (h d hd) cp hp
theorem ZoS{ts:List D}{px py ps:Int}(h:∀t∈ts,Thg t)(cp:Cr px py ps)(hp:1≤ps):∀s∈sgs ts (.tup [.int px,.int py,.int ps]),GS s:=by
 rw [←Ztj]
 exact Zpm (ZrW h cp hp)
theorem ZkV(ts:List D)(p:D):(sgs ts p).length≤ts.length:=List.length_filterMap_le _ _
theorem Zhr{ts:List D}{px py ps:Int}(h:∀t∈ts,Thg t)(hl:ts.length≤1000)(cp:Cr px py ps)(hp:1≤ps):ZaV [.lst ts,.tup [.int px,.int py,.int ps]]=.ok (.lst ((sgs ts (.tup [.int px,.int py,.int ps])).map encS)):=by
 have e:=Tl.eq (ZkB (Φ:=fun x=>x=_) (ZrW h cp hp) (by unfold lk;rw [List.length_map];exact hl) rfl)
 rwa [ZsZ,Ztj] at e
def nrm(s:Sg):Sg:=⟨.non,s.gl,s.q,.non,s.own,s.part,s.col,0⟩
theorem Zo3:Kp nrm:=⟨fun _=>rfl,fun _=>rfl,fun _=>rfl,fun _=>rfl,fun _=>rfl⟩
theorem Zlq{g:Rat}{l m:List Sg}(h:l.map nrm=m.map nrm):colQ g l=colQ g m:=by
 rw [←ZjP Zo3 g l,h,ZjP Zo3]
theorem ZuI(κ:Kd)(t T:T6)(q v:Rat):nrm (sgT κ t q v)=nrm (sgT κ T q v):=by cases κ<;>rfl
theorem Zns{ts:List T6}{px py ps:Int}{t:T6}(h:t∈havs ts px py ps):t∈ts∧hdT t px py ps≠0:=by
 unfold havs at h
 obtain ⟨h1,h2⟩:=Vai.mp h
 refine ⟨h1,fun z=>?_⟩
 rw [Vbm z] at h2
 exact absurd h2 (by decide)
theorem Zhl{κ:Kd}{px py ps:Int}(hp:1≤ps)(p:Cr px py ps):∀{ts:List T6},(∀t∈ts,O3 t)→sgs (ts.map (thD κ)) (P3 px py ps)=(havs ts px py ps).map fun t=>sgT κ t (qT t px py ps) (vT t px py ps)
 | [],_=>rfl
 | t::r,h=>by
  have ih:=Zhl (κ:=κ) hp p (ts:=r) fun u hu=>h u (Vap _ hu)
  have ot:=h t Vao
  unfold sgs havs at *
  rw [VaP,Van,Vcn]
  by_cases z:hdT t px py ps=0
  ·rw [ZoE ot p z,if_neg (by rw [Vbm z];decide)]
   exact ih
  ·rw [Zto ot hp p z,if_pos (by rw [Vac z];rfl),VaP]
   show _::_=_::_
   rw [ih]
theorem Znp{κ:Kd}{T:T6}{ts:List T6}{px py ps:Int}(N:Net 64 1 T ts)(O:O3 T)(hp:1≤ps)(p:Cr px py ps):(sgs (ts.map (thD κ)) (P3 px py ps)).map nrm=(sgs [thD κ T] (P3 px py ps)).map nrm:=by
 have hN:=N.count (px:=px) (py:=py) (ps:=ps) hp
 have e1:=Zhl (κ:=κ) hp p fun t ht=>⟨(N.pc t ht).o1,(N.pc t ht).o2,(N.pc t ht).o3⟩
 have e2:=Zhl (κ:=κ) hp p (ts:=[T]) fun t ht=>by rw [Vca.mp ht];exact O
 rw [VaP,List.map_nil] at e2
 rw [e1,e2]
 by_cases z:hdT T px py ps=0
 ·rw [z] at hN
  have h0:havs ts px py ps=[]:=List.eq_nil_of_length_eq_zero (by omega)
  rw [h0]
  unfold havs
  rw [Vcn,if_neg (by rw [Vbm z];decide)]
  rfl
 ·have h1:(havs ts px py ps).length=1:=by rcases Zii O.1 O.2.1 O.2.2 hp z with q | q<;>omega
  obtain ⟨t,ht⟩:=List.length_eq_one_iff.mp h1
  have hm:t∈havs ts px py ps:=by rw [ht];exact List.mem_singleton_self t
  obtain ⟨m1,m2⟩:=Zns hm
  have P:=N.pc t m1
  have se:=ZtV O.1 O.2.1 O.2.2 P hp m2 z
  rw [ZlC ⟨P.o1,P.o2,P.o3⟩ hp m2,ZlC O hp z] at se
  injection se with se
  injection se with s1 s2
  injection s2 with s2 _
  injection s2 with s2
  injection s2 with s2 _
  have q1:qT t px py ps=qT T px py ps:=by rw [←ZdB (qT t px py ps),s1,ZdB]
  have q2:vT t px py ps=vT T px py ps:=by rw [←ZdB (vT t px py ps),s2,ZdB]
  rw [ht]
  unfold havs
  rw [Vcn,if_pos (by rw [Vac z];rfl)]
  show [nrm (sgT κ t (qT t px py ps) (vT t px py ps))]=[nrm (sgT κ T (qT T px py ps) (vT T px py ps))]
  rw [q1,q2,ZuI κ t T]
structure En where
 k:Kd
 t:T6
 ts:List T6
structure EnOk(e:En):Prop where
 k:KdOk e.k
 o:O3 e.t
 n:Net 64 1 e.t e.ts
 l:e.ts.length≤13
abbrev whl_(es:List En):List D:=es.map fun e=>thD e.k e.t
def pcs_:List En→List D
 | []=>[]
 | e::r=>e.ts.map (thD e.k)++pcs_ r
theorem Zlh:∀a b:List En,pcs_ (a++b)=pcs_ a++pcs_ b
 | [],_=>rfl
 | e::r,b=>by
  show _++pcs_ (r++b)=_++_++_
  rw [Zlh r b,VbP]
theorem ZmO(a b:List D)(p:D):sgs (a++b) p=sgs a p++sgs b p:=List.filterMap_append
theorem Ze9{px py ps:Int}(hp:1≤ps)(p:Cr px py ps):∀{es:List En},(∀e∈es,EnOk e)→(sgs (pcs_ es) (P3 px py ps)).map nrm=(sgs (whl_ es) (P3 px py ps)).map nrm
 | [],_=>rfl
 | e::r,h=>by
  have ih:=Ze9 hp p (es:=r) fun u hu=>h u (Vap _ hu)
  have he:=h e Vao
  show (sgs (_++pcs_ r) _).map nrm=(sgs ([thD e.k e.t]++whl_ r) _).map nrm
  rw [ZmO,ZmO,Vb0,Vb0,ih,Znp he.n he.o hp p]
theorem Zri{es:List En}(h:∀e∈es,EnOk e):∀d∈whl_ es,Thg d:=fun d hd=>by
 obtain ⟨e,he,rfl⟩:=Vbs.mp hd
 exact ⟨e.k,e.t,rfl,(h e he).k,(h e he).o⟩
theorem ZkO:∀{es:List En},(∀e∈es,EnOk e)→∀d∈pcs_ es,Thg d
 | [],_,d,hd=>by cases hd
 | e::r,h,d,hd=>by
  rcases Vas.mp (show d∈e.ts.map (thD e.k)++pcs_ r from hd) with hd | hd
  ·obtain ⟨t,ht,rfl⟩:=Vbs.mp hd
   have he:=h e Vao
   have P:=he.n.pc t ht
   exact ⟨e.k,t,rfl,he.k,P.o1,P.o2,P.o3⟩
  ·exact ZkO (fun u hu=>h u (Vap _ hu)) d hd
theorem Ziq:∀{es:List En},(∀e∈es,EnOk e)→(pcs_ es).length≤13*es.length
 | [],_=>VaI _
 | e::r,h=>by
  have ih:=Ziq (es:=r) fun u hu=>h u (Vap _ hu)
  have he:=(h e Vao).l
  show (_++pcs_ r).length≤13*(r.length+1)
  rw [Va7,VaQ]
  omega
theorem Zre{px py ps:Int}(hp:1≤ps)(p:Cr px py ps){es:List En}(h:∀e∈es,EnOk e):(sgs (pcs_ es) (P3 px py ps)).length≤es.length:=by
 have e:=Vay List.length (Ze9 hp p h)
 rw [VaQ,VaQ] at e
 rw [e]
 exact Vak (ZkV _ _) (by rw [VaQ];exact VaI _)
theorem Zpz{t b:Int}{k:Nat}(hb:0<b)(sb:Sm k b):Sm k ((Rat.divInt t b).den:Int):=by
 have e:=Zdb (t:=t) (b:=b) (by omega)
 unfold fra frD Mt.frT Mt.frB at e
 rw [if_neg (by omega),if_neg (by omega)] at e
 have g0:0<(Int.gcd t b:Int):=by have:=Mt.Zd6 (t:=t) (b:=b) (by omega);omega
 injection e with e
 injection e with e1 e2
 injection e2 with e2 _
 injection e2 with e2
 refine sb.le ?_
 rw [←e2];exact Mt.Zhj g0
theorem Zjd{Φ:D→Prop}{t b:Int}{k:Nat}(hb:0<b)(sb:Sm k b)(hk:k≤8900)(h:Φ (frD (Rat.divInt t b))):Tl (Za5 [.int t,.int b]) Φ:=by
 refine Zhf (by omega) sb (by omega) ?_
 rw [Zdb (by omega)]
 exact h
theorem Zqb{Φ:D→Prop}{p q:Rat}{a b da db:Nat}(hp:Bq a p)(hq:Bq b q)(dp:Sm da (p.den:Int))(dq:Sm db (q.den:Int))(hab:a+b≤10000000)(hd:da+db≤8900)(h:Bq (a+b+1) (p+q)→Sm (da+db) ((p+q).den:Int)→Φ (frD (p+q))):Tl (Zej [frD p,frD q]) Φ:=by
 have m1:ZaT p.num q.den=true:=Zax hp.n hq.d (by omega)
 have m2:ZaT q.num p.den=true:=Zax hq.n hp.d (by omega)
 have m3:ZaT p.den q.den=true:=Zax hp.d hq.d (by omega)
 have s1:Sm (a+b+1) (p.num*q.den+q.num*p.den):=((hp.n.mul hq.d).add (show Sm (a+b) _ from Nat.add_comm b a▸hq.n.mul hp.d)).mono (by omega)
 have s2:Sm (a+b+1) ((p.den:Int)*q.den):=(hp.d.mul hq.d).mono (by omega)
 have d0:0<(p.den:Int)*q.den:=Vck (den1 p) (den1 q)
 have z1:=ZjN d0 s1 s2
 have z2:=Zpz (t:=p.num*q.den+q.num*p.den) d0 (dp.mul dq)
 rw [Zhe] at z1 z2
 unfold Zej frD
 walk_at "w"
 refine Zjd d0 (dp.mul dq) hd ?_
 rw [Zhe]
 walk_at "w"
 exact h z1 z2
def sumQ(l:List Rat):Rat:=l.foldl (·+·) 0
theorem ZkI(l:List Rat)(q:Rat):sumQ (l++[q])=sumQ l+q:=by unfold sumQ;rw [List.foldl_append];rfl
def Zm1(l:List Rat):Rat:=Rat.divInt (sumQ l).num ((sumQ l).den*(l.length:Int))
theorem Zpl{Φ:D→Prop}{qs:List Rat}{K k:Nat}(hK:∀q∈qs,Bq K q)(hd:∀q∈qs,Sm k (q.den:Int))(h1:1≤qs.length)(hn:qs.length≤16)(hK':K≤100000)(hk:qs.length*k+10≤8900)(h:Φ (frD (Zm1 qs))):Tl (Zc7 [.lst (qs.map frD)]) Φ:=by
 unfold Zc7
 walk_at "w"
 show Tl (ZbE _ _ (qs.map frD) [.im (.lst (qs.map frD)),.im (frD 0),.no]) _
 refine Zjq (enc:=frD) (fun pre ρ=>∃v2:Cl,Bq (pre.length*(K+1)+1) (sumQ pre)∧Sm (pre.length*k+1) ((sumQ pre).den:Int)∧ρ=[.im (.lst (qs.map frD)),.im (frD (sumQ pre)),v2]) ⟨.no,?_,?_,rfl⟩ ?_ ?_
 ·exact ⟨by show (0:Int).natAbs<_;exact Nat.two_pow_pos _,by show (1:Int).natAbs<2^(0*_+1);rw [Nat.zero_mul];decide⟩
 ·show (1:Int).natAbs<2^(0*_+1);rw [Nat.zero_mul];decide
 ·rintro pre q r e ρ ⟨v2,B,S,rfl⟩
  have hq:q∈qs:=by rw [←e];simp
  have hlen:pre.length<qs.length:=by rw [←e];simp
  have l2:(pre.length+1)*k≤qs.length*k:=Vcs k hlen
  have l3:(pre.length+1)*(K+1)≤16*(K+1):=Vcs (K+1) (by omega)
  rw [Nat.succ_mul] at l2 l3
  walk_at "w"
  refine Zqb B (hK q hq) S (hd q hq) (by omega) (by omega) fun B2 S2=>?_
  rw [ZkI]
  refine ⟨_,rfl,_,B2.mono ?_,S2.mono ?_,rfl⟩
  ·rw [Va7,Vbl,Nat.succ_mul];omega
  ·rw [Va7,Vbl,Nat.succ_mul];omega
 ·rintro ρ ⟨v2,B,S,rfl⟩
  have l3:qs.length*(K+1)≤16*(K+1):=Vcs (K+1) hn
  have s5:Sm 5 (qs.length:Int):=by show (qs.length:Int).natAbs<2^5;omega
  have m1:ZaT (sumQ qs).den (qs.length:Int)=true:=Zax B.d s5 (by omega)
  have d0:0<((sumQ qs).den:Int)*(qs.length:Int):=Vck (den1 _) (by omega)
  unfold Zm1 at h
  generalize sumQ qs=t at *
  unfold frD
  walk_at "w"
  rw [VaQ]
  walk_at "w"
  refine Zjd d0 (S.mul s5) (by omega) ?_
  walk_at "w"
  exact h
theorem Zhs{Φ:D→Prop}{g:Rat}{l:List Sg}{n:Nat}(hg:Bq 300 g)(hl:∀s∈l,GS s)(hs:l.length≤n)(hn:n≤12)(q:Bq (300+170*n) (colQ g l)→Φ (frD (colQ g l))):Tl (ZaX [.lst (l.map encS),frD g]) Φ:=by
 have hb:Bq 300 (ZgN g (near l)):=by
  cases e:near l with
  | none=>exact hg
  | some m=>exact (hl m (Zg5 e).1).bo
 have ll:=ZkN (near l) l
 unfold ZaX
 walk_at "w"
 refine Zlr hl ?_
 have rest:∀v4:Cl,Tl ((sq (for_ (iv (on ZaZ (Zaa (v 2) (Zaa (v 0) yaa)))) (gN 4)
  (st 3 (on Zbx (Zaa (o2 dIx (v 4) (c (.int 0))) (Zaa (v 3) yaa)))))
  (ret (v 3))) [.im (.lst (l.map encS)),.im (frD g),.im (optS (near l)),.im (frD (ZgN g (near l))),v4]) fun f=>Tl (endOf f) Φ:=by
  intro v4
  walk_at "w"
  refine ZnW (fun m e=>hl m (Zg5 e).1) hl (by omega) ?_
  walk_at "w"
  refine Zjq (enc:=encS) (fun pre ρ=>∃v4:Cl,Bq (300+170*pre.length) (layQ pre (ZgN g (near l)))∧ρ=[.im (.lst (l.map encS)),.im (frD g),.im (optS (near l)),.im (frD (layQ pre (ZgN g (near l)))),v4]) ⟨_,hb,rfl⟩ ?_ ?_
  ·rintro pre s r e ρ ⟨v4,B,rfl⟩
   have hm:s∈lay (near l) l:=by rw [←e];simp
   have hlen:pre.length<(lay (near l) l).length:=by rw [←e];simp
   have hms:=Zmr hm
   walk_at "w"
   refine Zr6 (hl s hms.1) (ZpD hms.2) B (by omega) fun B2=>?_
   have e2:layQ (pre++[s]) (ZgN g (near l))=mixQ s (layQ pre (ZgN g (near l))):=by unfold layQ;rw [List.foldl_append];rfl
   rw [e2]
   refine ⟨_,rfl,_,B2.mono ?_,rfl⟩
   rw [Va7,Vbl]
   omega
  ·rintro ρ ⟨v4,B,rfl⟩
   walk_at "w"
   exact q (B.mono (by omega))
 walk_at "w"
 refine Tl.mono (Ψ:=fun f=>f=Fl.nx [.im (.lst (l.map encS)),.im (frD g),.im (optS (near l)),.im (frD (ZgN g (near l))),.no]) ?_ ?_
 ·cases hn:near l with
  | none =>
   show Tl (if (false:Bool)=true then _ else _) _
   walk_at "w"
   rfl
  | some m =>
   have hm:=Zg5 hn
   show Tl (if (true:Bool)=true then _ else _) _
   walk_at "w"
   refine ZuW (s:=m) (hl m hm.1) hm.2 rfl rfl ?_
   rfl
 ·rintro f rfl
  exact rest .no
theorem sm6'{x:Int}(h:-1000000≤x∧x≤1000000):Sm 64 x:=Sm.of64 (by omega) (by omega)
theorem cr8{px py:Int}(hx:0≤px∧px≤1000)(hy:0≤py∧py≤1000):Cr px py 8:=⟨sm6' (by omega),sm6' (by omega),sm6' (by decide)⟩
abbrev ptA(c r:Nat)(d:Int×Int):D:=pt8 (8*(c:Int)+d.1) (8*(r:Int)+d.2)
def ZdC(dots:List (Int×Int)):Prop:=∀d∈dots,(1≤d.1∧d.1≤7)∧1≤d.2∧d.2≤7
def cellQ(ts:List D)(g:Rat)(dots:List (Int×Int))(c r:Nat):Rat:=Zm1 (dots.map fun d=>colQ g (sgs ts (ptA c r d)))
def rowP(f:Nat→Nat→Rat)(w r:Nat):D:=.lst ((List.range w).map fun c=>frD (f c r))
def picP(f:Nat→Nat→Rat)(w h:Nat):D:=.lst ((List.range h).map fun r=>rowP f w r)
section
variable{ts:List D}{dots:List (Int×Int)}
theorem ZkC{Φ:D→Prop}{c r:Nat}(hts:∀t∈ts,Thg t)(hl:ts.length≤1000)(hc:c≤100)(hr:r≤100)(hd:ZdC dots)(hn:dots.length≤16)
  (q:Φ (.lst (dots.map fun d=>D.lst ((sgs ts (ptA c r d)).map encS)))):Tl (ZbU [.lst ts,.int (c:Int),.int (r:Int),.lst (dots.map encP)]) Φ:=by
 unfold ZbU
 walk_at "w"
 refine Zin ?_
 walk_at "w"
 refine ⟨by rw [VaQ];omega,?_⟩
 refine Zcu (fun d:Int×Int=>D.lst ((sgs ts (ptA c r d)).map encS)) (fun d hd'=>?_) ?_
 ·have hb:=hd d hd'
  walk_at "w"
  unfold Zep
  walk_at "w"
  exact Zao (Zhr hts hl (cr8 (by omega) (by omega)) (by decide)) rfl
 ·walk_at "w"
  exact q
theorem Zms{Φ:D→Prop}{g:Rat}{n:Nat}{ls:List (List Sg)}(hg:Bq 300 g)(hl:∀l∈ls,(∀s∈l,GS s)∧l.length≤n)(hn:n≤12)(h1:1≤ls.length)(h16:ls.length≤16)(hk:ls.length*(300+170*n)+10≤8900)(q:Φ (frD (Zm1 (ls.map fun l=>colQ g l)))):Tl (Zbp [.lst (ls.map fun l=>D.lst (l.map encS)),frD g]) Φ:=by
 have hb:∀l∈ls,Bq (300+170*n) (colQ g l)∧ZaX [.lst (l.map encS),frD g]=.ok (frD (colQ g l)):=fun l hl'=>by
  obtain ⟨x,e,h⟩:=Zhs (Φ:=fun x=>Bq (300+170*n) (colQ g l)∧x=frD (colQ g l)) hg (hl l hl').1 (hl l hl').2 hn (fun B=>⟨B,rfl⟩)
  exact ⟨h.1,h.2▸e⟩
 unfold Zbp
 walk_at "w"
 refine ⟨by rw [VaQ];omega,?_⟩
 refine Zcu (fun l:List Sg=>frD (colQ g l)) (fun l hl'=>?_) ?_
 ·walk_at "w"
  exact Zao (hb l hl').2 rfl
 walk_at "w"
 rw [show List.map (fun l:List Sg=>frD (colQ g l)) ls=(ls.map fun l=>colQ g l).map frD by rw [VbO];rfl]
 refine Zpl (K:=300+170*n) (k:=300+170*n) (fun x hx=>?_) (fun x hx=>?_) (by rw [VaQ];exact h1) (by rw [VaQ];exact h16) (by omega) (by rw [VaQ];exact hk) ?_
 ·obtain ⟨l,hl',rfl⟩:=Vbs.mp hx
  exact (hb l hl').1
 ·obtain ⟨l,hl',rfl⟩:=Vbs.mp hx
  exact (hb l hl').1.d
 ·walk_at "w"
  exact q
theorem Zld{Φ:D→Prop}{w h n:Nat}{sp gr:D}{g:Rat}(hts:∀t∈ts,Thg t)(hl:ts.length≤1000)(hf:∀px py:Int,Cr px py 8→(sgs ts (pt8 px py)).length≤n)(hn:n≤12)(hw:1≤w∧w≤64)(hh:1≤h∧h≤64)(hs:Zar [sp]=.ok (.lst (dots.map encP)))(hgr:Za7 [gr]=.ok (frD g))(hg:Bq 300 g)(hd:ZdC dots)(h1:1≤dots.length)(h16:dots.length≤16)(hk:dots.length*(300+170*n)+10≤8900)
  (q:Φ (picP (cellQ ts g dots) w h)):Tl (ZdQ [.lst ts,.int (w:Int),.int (h:Int),sp,gr]) Φ:=by
 unfold ZdQ
 walk_at "w"
 refine Zj6 hw hh ?_
 walk_at "w"
 refine Zao hs ?_
 walk_at "w"
 refine Zao hgr ?_
 walk_at "w"
 refine Zin ?_
 walk_at "w"
 rw [ZfN,Vbz]
 refine ⟨by rw [VaQ,VbK];omega,?_⟩
 refine Zcu (fun r:Nat=>rowP (cellQ ts g dots) w r) (fun r hr=>?_) ?_
 ·have hr:=Vaj.mp hr
  walk_at "w"
  unfold ZbR
  walk_at "w"
  refine Zin ?_
  walk_at "w"
  rw [ZfN,Vbz]
  refine ⟨by rw [VaQ,VbK];omega,?_⟩
  refine Zcu (fun c:Nat=>frD (cellQ ts g dots c r)) (fun c hc=>?_) ?_
  ·have hc:=Vaj.mp hc
   walk_at "w"
   refine ZkC hts hl (by omega) (by omega) hd h16 ?_
   walk_at "w"
   rw [show (List.map (fun d=>D.lst ((sgs ts (ptA c r d)).map encS)) dots)=(dots.map fun d=>sgs ts (ptA c r d)).map fun l=>D.lst (l.map encS) by rw [VbO];rfl]
   refine Zms (n:=n) hg (fun l hl'=>?_) hn (by rw [VaQ];exact h1) (by rw [VaQ];exact h16) (by rw [VaQ];exact hk) ?_
   ·obtain ⟨d,hd',rfl⟩:=Vbs.mp hl'
    have hb:=hd d hd'
    exact ⟨ZoS hts (cr8 (by omega) (by omega)) (by decide),hf _ _ (cr8 (by omega) (by omega))⟩
   ·unfold cellQ
    rw [VbO]
    rfl
  ·walk_at "w"
   rfl
 ·walk_at "w"
  exact q
end
theorem Zov(f:Nat→Nat→Rat)(r:Nat):∀l:List Nat,Zay 48 (l.map fun c=>frD (f c r))=true
 | []=>rfl
 | a::t=>by
  show (plain 48 (frD (f a r))&&Zay 48 (t.map fun c=>frD (f c r)))=true
  rw [Zov f r t,Zi7 47]
  rfl
theorem ZrL(f:Nat→Nat→Rat)(w h:Nat):plain 50 (picP f w h)=true:=by
 have key:∀l:List Nat,Zay 49 (l.map fun r=>rowP f w r)=true:=by
  intro l
  induction l with
  | nil=>rfl
  | cons a t ih =>
   show (plain 49 (rowP f w a)&&Zay 49 (t.map fun r=>rowP f w r))=true
   rw [ih,show plain 49 (rowP f w a)=true from Zov f a (List.range w)]
   rfl
 exact key (List.range h)
theorem Zk5{f g:Nat→Nat→Rat}{w h:Nat}(e:∀c,c<w→∀r,r<h→f c r=g c r):picP f w h=picP g w h:=by
 unfold picP rowP
 congr 1
 refine Vaa fun r hr=>?_
 congr 1
 refine Vaa fun c hc=>?_
 rw [e c (Vaj.mp hc) r (Vaj.mp hr)]
theorem Zfj{Φ:D→Prop}{cc k many:Int}(hk:0≤k∧k≤20)(hm:0≤many∧many≤3)(h:∀(x y w h:Int) (vs:List Int),Bd x→Bd y→1≤w∧w≤1000000→1≤h∧h≤1000000→vs.length=many.toNat→(∀v∈vs,Bd v)→Φ (cor x y w h vs)):Tl (Zaz [.int cc,.int k,.int many]) Φ:=by
 unfold Zaz
 walk_at "w"
 refine ZbM (by omega) fun r1 hr1=>?_
 walk_at "w"
 refine ZbM (by omega) fun r2 hr2=>?_
 walk_at "w"
 refine ZbM (by omega) fun r3 hr3=>?_
 walk_at "w"
 refine ⟨by unfold ZbQ;simp;omega,?_⟩
 refine ZoW (fun j hj=>?_) fun vs l2 hb2=>?_
 ·walk_at "w"
  refine ZbM (by omega) fun r hr=>?_
  walk_at "w"
  exact ⟨_,rfl,by omega,by omega⟩
 walk_at "w"
 refine ZcW (fun _=>?_) (fun _=>?_)
 ·walk_at "w"
  refine ZbM (by omega) fun r4 hr4=>?_
  walk_at "w"
  exact h _ _ _ _ vs ⟨by omega,by omega⟩ ⟨by omega,by omega⟩ (by omega) (by omega) l2 hb2
 walk_at "w"
 refine Tl.mono (Ψ:=fun f=>∃ws:List Int,ws.length=many.toNat∧(∀v∈ws,Bd v)∧f=Fl.nx [.im (.int cc),.im (.int k),.im (.int many),.im (.int r1),.im (.int r2),.im (.int r3),.im (.tup (ws.map .int)),.no,.no,.no,.no,.no,.no,.no]) ?_ ?_
 ·refine ZcW (fun _=>?_) (fun _=>?_)
  ·walk_at "w"
   refine ⟨by simp;omega,?_⟩
   refine Zcu (fun u=>D.int (u%301 - 100)) (fun u _=>?_) ?_
   ·walk_at "w"
   walk_at "w"
   refine ⟨vs.map fun u=>u%301 - 100,by rw [VaQ];exact l2,fun v hv=>?_,?_⟩
   ·obtain ⟨u,_,rfl⟩:=Vbs.mp hv
    exact ⟨by omega,by omega⟩
   ·rw [VbO];rfl
  ·walk_at "w"
   exact ⟨vs,l2,hb2,rfl⟩
 rintro f ⟨ws,lw,bw,rfl⟩
 walk_at "w"
 refine Zsf (by simp;omega) fun d hd=>?_
 have hd':∃x y w:Int,d=.tup [.int x,.int y,.int w]∧Bd x∧Bd y∧1≤w∧w≤1000000:=by
  have t1:1≤1+r1/16%6∧1+r1/16%6≤6:=by omega
  generalize 1+r1/16%6=tm at *
  have near:∀e:Int,-2≤e→e≤13→Bd (e*tm):=fun e h1 h2=>by
   have a1:-2*tm≤e*tm:=Vci h1 (by omega)
   have a2:e*tm≤13*tm:=Vci h2 (by omega)
   exact ⟨by omega,by omega⟩
  simp only [Var,VbH,VbI] at hd
  rcases hd with rfl | rfl | rfl | rfl
  ·exact ⟨_,_,_,rfl,near _ (by omega) (by omega),near _ (by omega) (by omega),by omega,by omega⟩
  ·exact ⟨_,_,_,rfl,near _ (by omega) (by omega),near _ (by omega) (by omega),by omega,by omega⟩
  ·exact ⟨_,_,_,rfl,near _ (by omega) (by omega),near _ (by omega) (by omega),by omega,by omega⟩
  ·exact ⟨_,_,_,rfl,⟨by omega,by omega⟩,⟨by omega,by omega⟩,by omega,by omega⟩
 obtain ⟨x,y,w,rfl,bx,bY,hw⟩:=hd'
 walk_at "w"
 exact h x y w 1 ws bx bY hw (by decide) lw bw
theorem ZsU{Φ:D→Prop}{α:Type}{enc:α→D}{xs:List α}{i:Int}(h:0≤i∧i<xs.length)(q:∀l x r,xs=l++x::r→(l.length:Int)=i→Φ (enc x)):Tl (dIx (.lst (xs.map enc)) (.int i)) Φ:=by
 obtain ⟨n,rfl⟩:=Int.eq_ofNat_of_zero_le h.1
 have hn:n<xs.length:=by omega
 rw [ZiM,Zo4,Va5,VbM hn]
 refine Zau (q (xs.take n) xs[n] (xs.drop (n+1)) ?_ ?_)
 ·rw [List.getElem_cons_drop,List.take_append_drop]
 ·rw [Va0]
  omega
theorem ZsG(l r:List D):cutL (l++r) none (some (l.length:Int))=l:=by
 unfold cutL cutAt
 have h:¬((l.length:Int)<0):=by omega
 dsimp only
 rw [if_neg h]
 simp
theorem ZnA(l r:List D):cutL (l++r) (some (l.length:Int)) none=r:=by
 unfold cutL cutAt
 have h:¬((l.length:Int)<0):=by omega
 dsimp only
 rw [if_neg h]
 simp
def B6(x:Int):Prop:=-1000000≤x∧x≤1000000
theorem sm20{x:Int}(h:B6 x):Sm 20 x:=by
 show x.natAbs<2^20
 have:=h.1
 have:=h.2
 have:(2:Nat)^20=1048576:=rfl
 omega
def isC6(n:Nat)(d:D):Prop:=∃c:C6,d=c6 n c∧Ok6 20 n c
theorem Zry{n:Nat}{x y w h:Int}{vs:List Int}(bx:Bd x)(bY:Bd y)(hw:1≤w∧w≤1000000)(hh:1≤h∧h≤1000000)(lv:vs.length=n)(bv:∀v∈vs,Bd v):isC6 n (cor x y w h vs):=by
 refine ⟨⟨x,y,w,h,fun j=>vs.getD j 0⟩,?_,sm20 ⟨bx.1,bx.2⟩,sm20 ⟨bY.1,bY.2⟩,sm20 (x:=w) ⟨by omega,by omega⟩,sm20 (x:=h) ⟨by omega,by omega⟩,fun j hj=>?_,hw.1,hh.1⟩
 ·unfold c6 vsL
  dsimp only
  rw [←lv,Zts]
 ·have e:vs.getD j 0=vs[j]'(by omega):=by
   rw [VbR,VbM (by omega)]
   rfl
  show Sm 20 (vs.getD j 0)
  rw [e]
  have:=bv _ (VbS (show j<vs.length by omega))
  exact sm20 ⟨this.1,this.2⟩
theorem Zll{α:Type}{Φ:Fl→Prop}{k:MS}{enc:α→D}{g:MG}{l:List α}(I:List α→Ev→Prop){ρ:Ev}(h0:I [] ρ)(h:∀p a r,l=p++a::r→∀ρ,I p ρ→Tl (g (enc a) ρ) fun ρ1=>Tl (k ρ1) fun f=>∃ρ2,f=.nx ρ2∧I (p++[a]) ρ2)(hd:∀ρ,I l ρ→Φ (.nx ρ)):Tl (ZbE g k (l.map enc) ρ) Φ:=by
 have key:∀(r p:List α) (ρ:Ev),l=p++r→I p ρ→Tl (ZbE g k (r.map enc) ρ) Φ:=by
  intro r
  induction r with
  | nil =>
   intro p ρ e hI
   rw [VaV] at e
   subst e
   exact w_f0 (hd _ hI)
  | cons a r ih =>
   intro p ρ e hI
   refine w_f1 ((h p a r e ρ hI).mono fun ρ1 q=>q.mono fun f z=>?_)
   obtain ⟨ρ2,rfl,hI2⟩:=z
   exact w_tx (ih (p++[a]) ρ2 (by rw [e];simp) hI2)
 exact key l [] ρ rfl h0
theorem Zop{Φ:D→Prop}{k:Nat}{p q:Int}{a b:C6}(ha:Ok6 k 1 a)(hb:Ok6 k 1 b)(hk:k≤400)(hp:0≤p∧p≤3)(hq:0≤q∧q≤3)(hpq:0<p+q)(h:∀m,Ok6 (k+3) 1 m→(∀T,Flat 1 T a→Flat 1 T b→Flat 1 T m)→(∀x y z,Wn x y z a→Wn x y z b→Wn x y z m)→Φ (c6 1 m)):Tl (ZcN [c6 1 a,c6 1 b,.int p,.int q]) Φ:=by
 have sp:Sm 2 p:=by show p.natAbs<2^2;omega
 have sq:Sm 2 q:=by show q.natAbs<2^2;omega
 have M:=ZoO (ha.cn (by decide)) (hb.cn (by decide)) (by rw [Zbi,Zbi]) hp.1 hq.1 hpq (sp.mono (by decide)) (sq.mono (by decide))
 rw [c6_L,c6_L]
 refine Zuf (ha.cn (by decide)) (hb.cn (by decide)) (by omega) (by rw [Zbi,Zbi]) (sp.mono (by decide)) (sq.mono (by decide)) M.pos ?_
 obtain ⟨m,g,e,M6⟩:=mx6 M.mx
 rw [e,←c6_L]
 exact h m (M6.ok ha hb hp.1 hq.1 hpq sp sq) (fun T f1 f2=>f1.mix f2 M6) fun x y z w1 w2=>w1.mix w2 M6 hp.1 hq.1
theorem ZqO{Φ:D→Prop}{k:Nat}{T:T6}{ts:List T6}{n:Int}(N:Net k 1 T ts)(hk:k≤300)(h1:1≤ts.length)(hl:ts.length≤1000)(hn:0≤n)(q:∀us:List T6,us.length=ts.length+2→Net (k+6) 1 T us→Φ (.lst (us.map (pc6 1)))):Tl (ZbF [.lst (ts.map (pc6 1)),.int n]) Φ:=by
 unfold ZbF
 walk_at "w"
 rw [VaQ]
 have m0:0≤n%(ts.length:Int)∧n%(ts.length:Int)<ts.length:=⟨Vb3 _ (by omega),Vb4 _ (by omega)⟩
 walk_at "w"
 generalize n%(ts.length:Int)=i at *
 refine ZsU m0 fun l t r e hi=>?_
 obtain ⟨a,b,c⟩:=t
 have P:=N.pc (a,b,c) (by rw [e];simp)
 have S:=Zio a b c
 rw [show pc6 1 (a,b,c)=.tup [c6 1 a,c6 1 b,c6 1 c] from rfl]
 walk_at "w"
 have hp0:0≤n/40%4∧n/40%4≤3:=by omega
 have hq0:0≤n/160%4∧n/160%4≤3:=by omega
 have hs0:0≤n/640%4∧n/640%4≤3:=by omega
 have hr0:1≤1+n/2560%3∧1+n/2560%3≤3:=by omega
 generalize n/40%4=p0 at *
 generalize n/160%4=q0 at *
 generalize n/640%4=s0 at *
 refine Tl.mono (Ψ:=fun fl=>∃p:Int,(0≤p∧p≤3)∧0<p+q0∧fl=Fl.nx [.im (.lst (ts.map (pc6 1))),.im (.int n),.im (.int i),.im (c6 1 a),.im (c6 1 b),.im (c6 1 c),.im (.int p),.im (.int q0),.im (.int s0),.no]) ?_ ?_
 ·refine ZcW (fun z=>?_) (fun z=>?_)
  ·walk_at "w"
   exact ⟨1,by decide,by omega,rfl⟩
  ·walk_at "w"
   exact ⟨p0,hp0,by omega,rfl⟩
 rintro fl ⟨p,hp,hpq,rfl⟩
 walk_at "w"
 refine Zop P.o1 P.o2 (by omega) hp hq0 hpq fun m1 om1 fm wm=>?_
 have fm1:=fm T P.f1 P.f2
 have wm1:=wm a b c S.1 S.2.1
 clear fm wm
 walk_at "w"
 refine Tl.mono (Ψ:=fun fl=>∃m:C6,Ok6 (k+6) 1 m∧Flat 1 T m∧Wn a b c m∧fl=Fl.nx [.im (.lst (ts.map (pc6 1))),.im (.int n),.im (.int i),.im (c6 1 a),.im (c6 1 b),.im (c6 1 c),.im (.int p),.im (.int q0),.im (.int s0),.im (c6 1 m)]) ?_ ?_
 ·refine ZcW (fun z=>?_) (fun z=>?_)
  ·walk_at "w"
   generalize 1+n/2560%3=r0 at *
   refine Zop om1 (P.o3.mono (by omega)) (by omega) (by omega) hs0 (by omega) fun m om fm wm=>?_
   exact ⟨m,om,fm T fm1 P.f3,wm a b c wm1 S.2.2,rfl⟩
  ·walk_at "w"
   exact ⟨m1,om1.mono (by omega),fm1,wm1,rfl⟩
 rintro fl ⟨m,om,fm,wm,rfl⟩
 walk_at "w"
 have lm:(l.map (pc6 1)).length=l.length:=VaQ _
 have e0:ts.map (pc6 1)=l.map (pc6 1)++(pc6 1 (a,b,c)::r.map (pc6 1)):=by rw [e,Vb0,VaP]
 have e1:cutL (ts.map (pc6 1)) none (some i)=l.map (pc6 1):=by
  rw [e0,←hi,←lm]
  exact ZsG _ _
 have e2:cutL (ts.map (pc6 1)) (some (i+1)) none=r.map (pc6 1):=by
  rw [e0,show l.map (pc6 1)++(pc6 1 (a,b,c)::r.map (pc6 1))=(l.map (pc6 1)++[pc6 1 (a,b,c)])++r.map (pc6 1) by simp,show i+1=((l.map (pc6 1)++[pc6 1 (a,b,c)]).length:Int) by simp;omega]
  exact ZnA _ _
 have el:ts.length=l.length+(r.length+1):=by rw [e,Va7,VaO]
 rw [e1]
 refine ZeP (by rw [lm];show l.length+3≤_;omega) ?_
 walk_at "w"
 rw [e2]
 refine ZeP (by rw [Va7,lm,VaQ];show l.length+3+_≤_;omega) ?_
 walk_at "w"
 have N':Net k 1 T (l++(a,b,c)::r):=e▸N
 have z:=q (l++[(b,c,m),(a,b,m),(m,c,a)]++r) (by rw [el];simp;omega) (N'.split (show k≤k+6 by omega) (fun u hu=>?_) fun px py ps hs=>?_)
 ·rw [Vb0,Vb0] at z
  exact z
 ·have o1:=P.o1.mono (show k≤k+6 by omega)
  have o2:=P.o2.mono (show k≤k+6 by omega)
  have o3:=P.o3.mono (show k≤k+6 by omega)
  simp only [Var,VbH,VbI] at hu
  rcases hu with rfl | rfl | rfl
  ·exact ⟨o2,o3,om,P.f2,P.f3,fm,P.sg.half wm.bc⟩
  ·exact ⟨o1,o2,om,P.f1,P.f2,fm,P.sg.half wm.ab⟩
  ·refine ⟨om,o3,o1,fm,P.f3,P.f1,P.sg.half ?_⟩
   show Half (ow6 m c a) (ow6 a b c)
   rw [←Zgx m c a]
   exact wm.ca
 ·have s:=ZfR (P.o1.mono (show k≤k+6 by omega)) (P.o2.mono (by omega)) (P.o3.mono (by omega)) om px py ps
  have s2:hd6 c a m px py ps=hd6 m c a px py ps:=Zho m c a px py ps
  show hd6 b c m px py ps+(hd6 a b m px py ps+(hd6 m c a px py ps+0))=hd6 a b c px py ps
  dsimp only at s
  rw [s2] at s
  generalize hd6 b c m px py ps=x1 at *
  generalize hd6 a b m px py ps=x2 at *
  generalize hd6 m c a px py ps=x3 at *
  generalize hd6 a b c px py ps=x4 at *
  omega
theorem ZmU{k n:Nat}{T:T6}{a b:List T6}(N:Net k n T (a++b)):Net k n T (b++a):=by
 refine ⟨fun t ht=>N.pc t ?_,fun px py ps h=>?_⟩
 ·rcases Vas.mp ht with z | z<;>simp [z]
 ·rw [←N.had px py ps h,Zd5,Zd5,Int.add_comm]
theorem Zob{Φ:D→Prop}{T:T6}{cell:Int}(O:All3 (Ok6 20 1) T)(q:∀us:List T6,us.length≤13→Net 64 1 T us→Φ (.lst (us.map (pc6 1)))):Tl (Za1 [pc6 1 T,.int cell]) Φ:=by
 have N0:Net 20 1 T [T]:=Znx O.1 O.2.1 O.2.2
 unfold Za1
 walk_at "w"
 refine ZbM (by decide) fun r0 hr0=>?_
 walk_at "w"
 refine ZcW (fun z=>?_) (fun z=>?_)
 ·walk_at "w"
  refine ZbM (by decide) fun r1 hr1=>?_
  walk_at "w"
  refine Tl.mono (Ψ:=fun fl=>∃A B C G:Int,Wk 20 A B C G∧fl=Fl.nx [.im (pc6 1 T),.im (.int cell),.im (.int r1),.im (wl A B C G),.no,.no,.no,.no]) ?_ ?_
  ·have s20:∀{x:Int},Bd x→Sm 20 x:=fun {x} h=>sm20 ⟨h.1,h.2⟩
   refine ZcW (fun z=>?_) (fun z=>?_)
   ·walk_at "w"
    refine ⟨by unfold ZbQ;simp,?_⟩
    refine ZoW (n:=4) (fun j hj=>?_) fun vs l2 hb2=>?_
    ·walk_at "w"
     refine ZbM (by omega) fun r hr=>?_
     walk_at "w"
     exact ⟨_,rfl,by omega,by omega⟩
    match vs,l2,hb2 with
    | [A,B,C,G],_,hb =>
     walk_at "w"
     exact ⟨A,B,C,G,⟨s20 (hb A (by simp)),s20 (hb B (by simp)),s20 (hb C (by simp)),s20 (hb G (by simp))⟩,rfl⟩
   ·walk_at "w"
    exact ⟨_,_,_,_,⟨s20 ⟨by omega,by omega⟩,s20 ⟨by omega,by omega⟩,s20 ⟨by omega,by omega⟩,s20 ⟨by omega,by omega⟩⟩,rfl⟩
  rintro fl ⟨A,B,C,G,hW,rfl⟩
  walk_at "w"
  refine ZsM hW O (by decide) (by decide) fun P R H=>?_
  have hlen:=H.len
  walk_at "w"
  refine ZeP (by rw [VaQ,VaQ];omega) ?_
  walk_at "w"
  rw [←Vb0]
  refine q (R++P) (by rw [Va7];omega) (ZmU ?_)
  have N1:=H.net T [] [] (N0.mono (by decide))
  rw [VaV] at N1
  exact N1
 ·walk_at "w"
  refine ZbM (by decide) fun r1 hr1=>?_
  walk_at "w"
  obtain ⟨n,hn,hn6⟩ : ∃n:Nat,r1%7=(n:Int)∧n≤6:=⟨(r1%7).toNat,by omega,by omega⟩
  rw [hn,ZfN,Vbz]
  refine Zs3 (fun j ρ=>∃(us:List T6) (v7:Cl),us.length=1+2*j∧Net (20+6*j) 1 T us∧ρ=[.im (pc6 1 T),.im (.int cell),.no,.no,.no,.no,.im (.lst (us.map (pc6 1))),v7]) ⟨[T],_,rfl,N0,rfl⟩ ?_ ?_
  ·rintro j hj ρ ⟨us,v7,hl,N,rfl⟩
   walk_at "w"
   refine ZbM (by omega) fun r2 hr2=>?_
   walk_at "w"
   refine ZqO N (by omega) (by omega) (by omega) hr2.1 fun ws lw Nw=>?_
   exact ⟨_,rfl,ws,_,by omega,Nw.mono (by omega),rfl⟩
  ·rintro ρ ⟨us,v7,hl,N,rfl⟩
   walk_at "w"
   exact q us (by omega) (N.mono (by omega))
abbrev enc3(p:Int×Int×Int):D:=P3 p.1 p.2.1 p.2.2
def P3ok(p:Int×Int×Int):Prop:=Cr p.1 p.2.1 p.2.2∧1≤p.2.2
theorem Zuw(ns:List Int):∃ms:List Int,cutL (ns.map .int) (some 4) (some 6)=ms.map .int∧ms.length≤2:=by
 refine ⟨(ns.drop (cutAt ns.length 0 (some 4))).take (cutAt ns.length ns.length (some 6) - cutAt ns.length 0 (some 4)),?_,?_⟩
 ·unfold cutL
  rw [VaQ,Vb7,List.map_drop]
 ·rw [Va0,Vbd]
  unfold cutAt
  simp
  omega
theorem Znc{Φ:Fl→Prop}{ns ms:List Int}(hm:ms.length≤3)(q:∀(es:List En) (pl:List (Int×Int×Int)) (v4 v5 v6:Cl),es.length≤3→(∀e∈es,EnOk e)→pl.length≤1000→(∀p∈pl,P3ok p)→Φ (.nx [.im (.lst (ns.map .int)),.ow (whl_ es),.ow (pcs_ es),.im (.lst (pl.map enc3)),v4,v5,v6,.no,.no,.no,.no,.no,.no,.no,.no])) :
  Tl (ZbE (gN 4) (sq (st 5 (mtp (Zaa (on Zaz (Zaa (v 4) (Zaa (c (.int 0)) (Zaa (c (.int 1)) yaa)))) (Zaa (on Zaz (Zaa (v 4) (Zaa (c (.int 1)) (Zaa (c (.int 1)) yaa)))) (Zaa (on Zaz (Zaa (v 4) (Zaa (c (.int 2)) (Zaa (c (.int 1)) yaa)))) yaa)))))
  (sq (app 1 (on ZaG (Zaa (v 5) (Zaa (v 4) yaa))))
  (for_ (iv (on Za1 (Zaa (v 5) (Zaa (v 4) yaa)))) (gN 6)
  (sq (app 2 (on ZaG (Zaa (v 6) (Zaa (v 4) yaa))))
  (st 3 (o2 yan (v 3) (comp (iv (v 6)) 1 [] (gN 0) yes (cut (v 0) pno (pso (c (.int 3))))))))))) (ms.map .int) [.im (.lst (ns.map .int)),.ow [],.ow [],.im (.lst []),.no,.no,.no,.no,.no,.no,.no,.no,.no,.no,.no]) Φ:=by
 refine Zll (enc:=D.int) (fun p ρ=>∃(es:List En) (pl:List (Int×Int×Int)) (v4 v5 v6:Cl),es.length=p.length∧(∀e∈es,EnOk e)∧pl.length≤39*p.length∧(∀p∈pl,P3ok p)∧ρ=[.im (.lst (ns.map .int)),.ow (whl_ es),.ow (pcs_ es),.im (.lst (pl.map enc3)),v4,v5,v6,.no,.no,.no,.no,.no,.no,.no,.no]) ⟨[],[],_,_,_,rfl,(fun _ h=>by cases h),VaT _,(fun _ h=>by cases h),rfl⟩ ?_ ?_
 ·rintro p cell r e ρ ⟨es,pl,v4,v5,v6,le,he,lpl,hpl,rfl⟩
  have lp:p.length<3:=by
   have:=Vay List.length e
   rw [Va7,VaO] at this
   omega
  walk_at "w"
  refine Zfj (by decide) (by decide) fun x y w h vs bx bY hw hh lv bv=>?_
  obtain ⟨a,ea,oa⟩:=Zry (n:=1) bx bY hw hh lv bv
  rw [ea]
  clear ea bx bY hw hh lv bv x y w h vs
  walk_at "w"
  refine Zfj (by decide) (by decide) fun x y w h vs bx bY hw hh lv bv=>?_
  obtain ⟨b,eb,ob⟩:=Zry (n:=1) bx bY hw hh lv bv
  rw [eb]
  clear eb bx bY hw hh lv bv x y w h vs
  walk_at "w"
  refine Zfj (by decide) (by decide) fun x y w h vs bx bY hw hh lv bv=>?_
  obtain ⟨c,ec,oc⟩:=Zry (n:=1) bx bY hw hh lv bv
  rw [ec]
  clear ec bx bY hw hh lv bv x y w h vs
  walk_at "w"
  rw [show D.tup [c6 1 a,c6 1 b,c6 1 c]=pc6 1 (a,b,c) from rfl]
  have O:All3 (Ok6 20 1) (a,b,c):=⟨oa,ob,oc⟩
  clear oa ob oc
  generalize (a,b,c)=T at *
  have O6:O3 T:=⟨O.1.mono (by decide),O.2.1.mono (by decide),O.2.2.mono (by decide)⟩
  obtain ⟨κ,hκ,hth⟩:=ZlK cell
  refine Zao (hth T O6) ?_
  have pe:=Ziq he
  refine ⟨by rw [VaQ];omega,?_⟩
  walk_at "w"
  refine Zob O fun us lu N=>?_
  walk_at "w"
  refine Zll (enc:=pc6 1) (fun p2 ρ=>∃(pl:List (Int×Int×Int)) (v6:Cl),pl.length≤39*p.length+3*p2.length∧(∀p∈pl,P3ok p)∧ρ=[.im (.lst (ns.map .int)),.ow (whl_ es++[thD κ T]),.ow (pcs_ es++p2.map (thD κ)),.im (.lst (pl.map enc3)),.im (.int cell),.im (pc6 1 T),v6,.no,.no,.no,.no,.no,.no,.no,.no]) ⟨pl,_,lpl,hpl,by rw [List.map_nil,VaV]⟩ ?_ ?_
  ·rintro p2 t r2 e2 ρ ⟨pl,v6,lpl,hpl,rfl⟩
   have P:=N.pc t (by rw [e2];simp)
   have lp2:p2.length<13:=by
    have:=Vay List.length e2
    rw [Va7,VaO] at this
    omega
   walk_at "w"
   refine Zao (hth t ⟨P.o1,P.o2,P.o3⟩) ?_
   refine ⟨by rw [Va7,VaQ];omega,?_⟩
   walk_at "w"
   unfold pc6
   walk_at "w"
   refine ⟨by show (3:Nat)≤_;omega,?_⟩
   refine Zcu (enc:=c6 1) (l:=[t.1,t.2.1,t.2.2]) (fun c:C6=>P3 c.x c.y c.w) (fun c _=>?_) ?_
   ·unfold c6 cor
    walk_at "w"
    rfl
   walk_at "w"
   refine ZeP (by rw [VaQ];show _+3≤_;omega) ?_
   refine ⟨_,rfl,pl++[(t.1.x,t.1.y,t.1.w),(t.2.1.x,t.2.1.y,t.2.1.w),(t.2.2.x,t.2.2.y,t.2.2.w)],.im (pc6 1 t),?_,fun z hz=>?_,?_⟩
   ·rw [Va7,Va7]
    show _+3≤_+3*(_+1)
    omega
   ·rcases Vas.mp hz with hz | hz
    ·exact hpl z hz
    ·simp only [Var,VbH,VbI] at hz
     rcases hz with rfl | rfl | rfl
     ·exact ⟨P.o1.cr (by decide),P.o1.w1⟩
     ·exact ⟨P.o2.cr (by decide),P.o2.w1⟩
     ·exact ⟨P.o3.cr (by decide),P.o3.w1⟩
   ·rw [Vb0,Vb0,←VbP]
    rfl
  ·rintro ρ ⟨pl,v6,lpl,hpl,rfl⟩
   refine ⟨_,rfl,es++[⟨κ,T,us⟩],pl,.im (.int cell),.im (pc6 1 T),v6,?_,fun z hz=>?_,?_,hpl,?_⟩
   ·rw [Va7,Va7,le]
    rfl
   ·rcases Vas.mp hz with hz | hz
    ·exact he z hz
    ·rw [Vca.mp hz]
     exact ⟨hκ,O6,N,lu⟩
   ·rw [Va7]
    show _≤39*(_+1)
    omega
   ·rw [Zlh,show pcs_ [⟨κ,T,us⟩]=us.map (thD κ)++[] from rfl,VaV,show whl_ (es++[⟨κ,T,us⟩])=whl_ es++[thD κ T] from Vb0]
 ·rintro ρ ⟨es,pl,v4,v5,v6,le,he,lpl,hpl,rfl⟩
  exact q es pl _ _ _ (by omega) he (by omega) hpl
theorem ZqM{Φ:D→Prop}{n:Int}(hn:0≤n)(h:∀x y s:Int,-1000≤x∧x≤1000→-1000≤y∧y≤1000→1≤s∧s≤1000→Φ (.tup [.int x,.int y,.int s])):Tl (ZbG [.int n]) Φ:=by
 unfold ZbG
 walk_at "w"
 refine ZcW (fun _=>?_) (fun _=>?_)
 ·walk_at "w"
  exact h _ _ _ (by omega) (by omega) (by omega)
 ·walk_at "w"
  exact h _ _ _ (by omega) (by omega) (by omega)
theorem ZjM{α:Type}{enc:α→D}{Q:α→Prop}:∀{ys:List D},(∀y∈ys,∃a,y=enc a∧Q a)→∃l:List α,ys=l.map enc∧∀a∈l,Q a
 | [],_=>⟨[],rfl,fun _ h=>by cases h⟩
 | y::r,h=>by
  obtain ⟨l,rfl,hl⟩:=ZjM (ys:=r) fun z hz=>h z (Vap _ hz)
  obtain ⟨a,rfl,ha⟩:=h y Vao
  refine ⟨a::l,rfl,fun b hb=>?_⟩
  rcases Var.mp hb with rfl | hb
  ·exact ha
  ·exact hl b hb
theorem Zl8{es:List En}{g:Rat}{dots:List (Int×Int)}(he:∀e∈es,EnOk e)(hd:ZdC dots){c r:Nat}(hc:c≤64)(hr:r≤64):cellQ (pcs_ es) g dots c r=cellQ (whl_ es) g dots c r:=by
 unfold cellQ
 congr 1
 refine Vaa fun d hd'=>?_
 have hb:=hd d hd'
 exact Zlq (Ze9 (by decide) (cr8 (by omega) (by omega)) he)
theorem Zhy{Φ:D→Prop}{g:Rat}{ts:List D}{p:Int×Int×Int}(hg:Bq 300 g)(ht:∀d∈ts,Thg d)(hl:ts.length≤1000)(hp:P3ok p)(hf:(sgs ts (enc3 p)).length≤3)(q:Φ (frD (colQ g (sgs ts (enc3 p))))):Tl (Za0 [.lst ts,enc3 p,frD g]) Φ:=by
 unfold Za0
 walk_at "w"
 refine Zao (Zhr ht hl hp.1 hp.2) ?_
 walk_at "w"
 refine Zhs hg (ZoS ht hp.1 hp.2) hf (by decide) fun _=>?_
 walk_at "w"
 exact q
theorem ZtS{r:Int}(hr:0≤r∧r<5){Φ:D→Prop}(q:∀(sp:D) (dots:List (Int×Int)),Zar [sp]=.ok (.lst (dots.map encP))→ZdC dots→1≤dots.length→dots.length≤4→Φ sp) :
  Tl (dIx (.lst [.non,.lst [.tup [.int 4,.int 4]],.lst [.tup [.int 2,.int 2],.tup [.int 6,.int 6]],.lst [.tup [.int 1,.int 3],.tup [.int 4,.int 4],.tup [.int 7,.int 2]],.lst [.tup [.int 2,.int 2],.tup [.int 6,.int 2],.tup [.int 2,.int 6],.tup [.int 6,.int 6]]]) (.int r)) Φ:=by
 have key:∀dots:List (Int×Int),1≤dots.length→dots.length≤4→ZdC dots→dots.Nodup→Φ (.lst (dots.map encP)):=fun dots h1 h2 hd nd=>q _ dots (Zkz ⟨h1,by omega⟩ hd nd) hd h1 h2
 refine Zsf ⟨hr.1,by show r<((5:Nat):Int);omega⟩ fun d hd=>?_
 simp only [Var,VbH,VbI] at hd
 rcases hd with rfl | rfl | rfl | rfl | rfl
 ·exact q _ [(4,4)] Zkq (by unfold ZdC;decide) (by decide) (by decide)
 ·exact key [(4,4)] (by decide) (by decide) (by unfold ZdC;decide) (by decide)
 ·exact key [(2,2),(6,6)] (by decide) (by decide) (by unfold ZdC;decide) (by decide)
 ·exact key [(1,3),(4,4),(7,2)] (by decide) (by decide) (by unfold ZdC;decide) (by decide)
 ·exact key [(2,2),(6,2),(2,6),(6,6)] (by decide) (by decide) (by unfold ZdC;decide) (by decide)
theorem ZmS(ns:List Int)(h63:ns.length≤63):Zp6 [.lst (ns.map .int)]=.ok (.bl true):=by
 refine Tl.eq ?_
 unfold Zp6
 walk_at "w"
 refine Zeo (by decide) fun c0=>?_
 walk_at "w"
 obtain ⟨ms,e,hl⟩:=Zuw ns
 rw [e]
 clear e
 refine ZeP (by simp;omega) ?_
 rw [show [D.int c0]++ms.map D.int=(c0::ms).map D.int from rfl]
 walk_at "w"
 refine Znc (by rw [VaO];omega) fun es pl v4 v5 v6 le he lpl hpl=>?_
 have tw:=Zri he
 have tp:=ZkO he
 have lp:=Ziq he
 have lw:(whl_ es).length≤3:=by rw [VaQ];exact le
 walk_at "w"
 refine Zeo (by decide) fun c1=>?_
 walk_at "w"
 refine ZtS (by omega) fun sp dots hsp hd k1 k4=>?_
 walk_at "w"
 refine Zeo (by decide) fun c2=>?_
 walk_at "w"
 obtain ⟨w,hw,hw1,hw2⟩ : ∃w:Nat,1+c1%4=(w:Int)∧1≤w∧w≤4:=⟨(1+c1%4).toNat,by omega,by omega,by omega⟩
 obtain ⟨h,hh,hh1,hh2⟩ : ∃h:Nat,1+c1/4%4=(h:Int)∧1≤h∧h≤4:=⟨(1+c1/4%4).toNat,by omega,by omega,by omega⟩
 obtain ⟨g,hg⟩ : ∃g:Int,g=c2%19 - 9:=⟨_,rfl⟩
 have hgb:Bq 300 (g:Rat):=⟨by show g.natAbs<2^300;have:(2:Nat)^5≤2^300:=Nat.pow_le_pow_right (by decide) (by decide);omega,by show (1:Int).natAbs<2^300;exact Nat.one_lt_two_pow (by decide)⟩
 rw [hw,hh,←hg]
 rw [show D.tup [.int g,.int 1]=frD (g:Rat) from rfl]
 have hk:dots.length*(300+170*3)+10≤8900:=by
  have:dots.length*(300+170*3)≤4*(300+170*3):=Vcs _ k4
  omega
 have few:∀px py ps:Int,Cr px py ps→1≤ps→(sgs (pcs_ es) (P3 px py ps)).length≤3∧(sgs (whl_ es) (P3 px py ps)).length≤3:=fun px py ps cp hp=>⟨Vak (Zre hp cp he) le,Vak (ZkV _ _) lw⟩
 refine Zld (n:=3) (g:=(g:Rat)) tp (by omega) (fun px py cp=>(few px py 8 cp (by decide)).1) (by decide) (by omega) (by omega) hsp rfl hgb hd k1 (by omega) hk ?_
 walk_at "w"
 refine Zld (n:=3) (g:=(g:Rat)) tw (by omega) (fun px py cp=>(few px py 8 cp (by decide)).2) (by decide) (by omega) (by omega) hsp rfl hgb hd k1 (by omega) hk ?_
 rw [Zk5 (f:=cellQ (pcs_ es) g dots) (g:=cellQ (whl_ es) g dots) fun c hc r hr=>Zl8 he hd (by omega) (by omega)]
 refine Zao (Zpi (ZrL _ _ _)) ?_
 walk_at "w"
 refine ⟨by rw [VaQ];omega,?_⟩
 refine ZiT (enc:=enc3) (fun p=>decide (max (max (p.1.natAbs:Int) p.2.1.natAbs) p.2.2.natAbs≤10^8)) (fun p hp=>?_) ?_
 ·walk_at "w"
  refine ⟨by show (3:Nat)≤_;omega,?_⟩
  refine Zcu (enc:=D.int) (l:=[p.1,p.2.1,p.2.2]) (fun x:Int=>D.int (x.natAbs:Int)) (fun x _=>?_) ?_
  ·walk_at "w"
  walk_at "w"
  refine Zsq (n:=(p.1.natAbs:Int)) (r:=[(p.2.1.natAbs:Int),(p.2.2.natAbs:Int)]) ?_
  walk_at "w"
  exact ⟨rfl,by walk_at "w"⟩
 have hpl':∀p∈pl.filter (fun p=>decide (max (max (p.1.natAbs:Int) p.2.1.natAbs) p.2.2.natAbs≤10^8)),P3ok p:=fun p hp=>hpl p (Vai.mp hp).1
 generalize pl.filter (fun p=>decide (max (max (p.1.natAbs:Int) p.2.1.natAbs) p.2.2.natAbs≤10^8))=pf at *
 walk_at "w"
 rw [show (some (12:Int))=some ((12:Nat):Int) from rfl,ZpI,←Vb7]
 refine ⟨by unfold ZbQ;simp,?_⟩
 refine w_all (fun _ y=>∃p,y=enc3 p∧P3ok p) (fun x hx=>?_) fun ys ly hy=>?_
 ·obtain ⟨k,hk,rfl⟩:=mem_range hx
  walk_at "w"
  refine Zeo (by decide) fun c3=>?_
  walk_at "w"
  refine ZbM (by omega) fun r hr=>?_
  walk_at "w"
  refine ZqM hr.1 fun x y s hx hy hs=>?_
  have cr:Cr x y s:=⟨sm6 (by omega),sm6 (by omega),sm6 (by omega)⟩
  exact ⟨(x,y,s),rfl,cr,hs.1⟩
 obtain ⟨qs,rfl,hqs⟩:=ZjM (enc:=enc3) (Q:=P3ok) (ys:=ys) fun y hm=>by
  obtain ⟨i,hi,rfl⟩:=VbT.mp hm
  exact hy i _ _ (VbM (by omega)) (VbM hi)
 have lq:qs.length=8:=by
  rw [VaQ] at ly
  rw [ly]
  rfl
 walk_at "w"
 refine ZeP (by rw [VaQ,VaQ,Va0];omega) ?_
 rw [←Vb0]
 have hall:∀p∈pf.take 12++qs,P3ok p:=fun p hp=>by
  rcases Vas.mp hp with h | h
  ·exact hpl' p (List.mem_of_mem_take h)
  ·exact hqs p h
 generalize pf.take 12++qs=pts at *
 walk_at "w"
 refine Zll (enc:=enc3) (fun _ ρ=>∃v14:Cl,ρ=[.im (.lst (ns.map .int)),.ow (whl_ es),.ow (pcs_ es),.im (.lst (pf.map enc3)),v4,v5,v6,.im (.int c1),.im (.int (w:Int)),.im (.int (h:Int)),.im (.lst [.non,.lst [.tup [.int 4,.int 4]],.lst [.tup [.int 2,.int 2],.tup [.int 6,.int 6]],.lst [.tup [.int 1,.int 3],.tup [.int 4,.int 4],.tup [.int 7,.int 2]],.lst [.tup [.int 2,.int 2],.tup [.int 6,.int 2],.tup [.int 2,.int 6],.tup [.int 6,.int 6]]]),.im sp,.im (frD (g:Rat)),.im (.lst (pts.map enc3)),v14]) ⟨_,rfl⟩ ?_ ?_
 ·rintro p pt r e ρ ⟨v14,rfl⟩
  have hpt:=hall pt (by rw [e];simp)
  have f:=few pt.1 pt.2.1 pt.2.2 hpt.1 hpt.2
  walk_at "w"
  refine Zhy hgb tp (by omega) hpt f.1 ?_
  walk_at "w"
  refine Zhy hgb tw (by omega) hpt f.2 ?_
  rw [Zlq (Ze9 hpt.2 hpt.1 he)]
  refine Zu8 (Zi7 49 _) ?_
  walk_at "w"
  exact ⟨_,rfl,_,rfl⟩
 ·rintro ρ ⟨v14,rfl⟩
  walk_at "w"
end My
namespace My
open PySem L2 Ds Dl
def top(i:Nat):Stmt:=PySem.Challenge.pw_sampleyard_k91_whole_pictures_of_nets.main.body.getD i (.Pass ⟨0,0,0,0⟩)
abbrev Zcp:Stmt:=top 72
abbrev Zdf:Stmt:=top 73
abbrev ZcB:Stmt:=top 74
abbrev Zbn:Stmt:=top 9
abbrev Zc5:Stmt:=top 56
abbrev ZiZ:Stmt:=top 55
abbrev Zdi:Stmt:=top 76
abbrev Zez:Stmt:=top 68
abbrev Zk6:Stmt:=top 66
abbrev Zrl:Stmt:=top 70
abbrev Zhg:Stmt:=top 69
abbrev Zqq:Stmt:=top 67
abbrev ZcO:Stmt:=top 77
abbrev Zc0:Stmt:=top 75
abbrev Zbm:Stmt:=top 23
abbrev ZeN:Stmt:=top 7
abbrev Zdg:Stmt:=top 54
abbrev ZdL:Stmt:=top 53
abbrev ZbN:Stmt:=top 52
abbrev Zbt:Stmt:=(inClass (top 58) 0)
abbrev ZcK:Stmt:=top 18
abbrev Zcr:Stmt:=top 63
abbrev Zc2:Stmt:=top 64
abbrev Zby:Stmt:=(inClass (top 61) 0)
abbrev ZbC:Stmt:=(inClass (top 59) 0)
abbrev Zcn:Stmt:=top 62
abbrev Zbq:Stmt:=(inClass (top 60) 0)
abbrev ZcI:Stmt:=top 78
abbrev Zc4:Stmt:=top 79
abbrev Zbk:Stmt:=(inClass (top 61) 3)
abbrev Zbf:Stmt:=(inClass (top 59) 2)
abbrev Zba:Stmt:=(inClass (top 60) 2)
abbrev ZiO:Stmt:=top 12
abbrev ZiJ:Stmt:=top 14
abbrev Zmx:Stmt:=top 13
abbrev ZfZ:Stmt:=top 15
abbrev ZdS:Stmt:=top 45
abbrev Zbw:Stmt:=(inClass (top 61) 2)
abbrev ZbB:Stmt:=(inClass (top 58) 1)
abbrev ZiK:Stmt:=top 17
abbrev ZcQ:Stmt:=top 44
abbrev Zdh:Stmt:=top 43
abbrev ZdT:Stmt:=top 42
abbrev Zbv:Stmt:=top 10
abbrev ZdX:Stmt:=top 29
abbrev Zbr:Stmt:=top 28
abbrev Zck:Stmt:=top 21
abbrev Zmj:Stmt:=top 20
abbrev Zrz:Stmt:=top 24
abbrev ZeI:Stmt:=top 22
abbrev ZfT:Stmt:=top 25
abbrev Zfk:Stmt:=top 27
abbrev ZdR:Stmt:=top 41
abbrev ZcA:Stmt:=top 40
abbrev Zdc:Stmt:=top 8
abbrev ZcE:Stmt:=top 35
abbrev ZbO:Stmt:=top 39
abbrev ZfM:Stmt:=top 16
abbrev ZcC:Stmt:=top 49
abbrev Zf5:Stmt:=top 31
abbrev ZdM:Stmt:=top 48
abbrev ZcD:Stmt:=top 47
abbrev ZfG:Stmt:=top 37
abbrev ZcR:Stmt:=top 36
abbrev Zbz:Stmt:=top 38
abbrev ZcL:Stmt:=top 46
abbrev ZgJ:Stmt:=top 80
local macro_rules | `(tactic| walk_at "sc")=>`(tactic| exact ⟨rfl,rfl,rfl,by decide +kernel,rfl,by decide +kernel,by decide +kernel⟩)
theorem Zc9:Zae ["_law_script", "_law_k"] ["_law_script", "_law_k"] (Zac Zcp):=by walk_at "sc"
theorem Zeq:Zae ["_law_cell", "_law_k", "_law_number"] ["_law_cell", "_law_k"] (Zac Zdf):=by walk_at "sc"
theorem ZbD:Zae ["_law_cell", "_law_k", "_law_many", "_law_number", "_law_other", "_law_third", "_law_values", "_law_h", "_law_times", "_law_near", "_law_free", "_law_x", "_law_y", "_law_w"] ["_law_cell", "_law_k", "_law_many"] (Zac ZcB):=by walk_at "sc"
theorem Zb4:Zae ["numbers", "found", "number", "rest", "left"] ["numbers"] (Zac Zbn):=by walk_at "sc"
theorem Zet:Zae ["corner"] ["corner"] (Zac Zc5):=by walk_at "sc"
theorem Zfb:Zae ["one", "other", "first", "second", "sums", "divisor", "lowest"] ["one", "other", "first", "second"] (Zac ZiZ):=by walk_at "sc"
theorem Zev:Zae ["_law_pieces_here", "_law_number", "_law_at", "_law_a", "_law_b", "_law_c", "_law_first", "_law_second", "_law_third", "_law_m"] ["_law_pieces_here", "_law_number"] (Zac Zdi):=by walk_at "sc"
theorem ZfB:Zae ["three", "place"] ["three", "place"] (Zac Zez):=by walk_at "sc"
theorem ZmB:Zae ["wall", "corner"] ["wall", "corner"] (Zac Zk6):=by walk_at "sc"
theorem Zow:Zae ["one", "other", "form_of_one", "form_of_other"] ["one", "other", "form_of_one", "form_of_other"] (Zac Zrl):=by walk_at "sc"
theorem Zh5:Zae ["corners", "forms", "a", "b", "c", "ab", "ca"] ["corners", "forms"] (Zac Zhg):=by walk_at "sc"
theorem Zgj:Zae ["triangle", "wall", "forms", "are_within", "alone_is_within", "place", "pieces"] ["triangle", "wall"] (Zac Zqq):=by walk_at "sc"
theorem Zco:Zae ["_law_triangle", "_law_cell", "_law_number", "_law_shut", "_law_inside", "_law_outside", "_law_pieces_here", "_law_k"] ["_law_triangle", "_law_cell"] (Zac ZcO):=by walk_at "sc"
theorem Zel:Zae ["_law_number"] ["_law_number"] (Zac Zc0):=by walk_at "sc"
theorem Zb3:Zae ["corners", "corner"] ["corners"] (Zac Zbm):=by walk_at "sc"
theorem ZfH:Zae ["thing"] ["thing"] (Zac ZeN):=by walk_at "sc"
theorem Zed:Zae ["thing"] ["thing"] (Zac Zdg):=by walk_at "sc"
theorem ZeZ:Zae ["thing"] ["thing"] (Zac ZdL):=by walk_at "sc"
theorem Zct:Zae ["triangle", "corner"] ["triangle"] (Zac ZbN):=by walk_at "sc"
theorem Zcd:Zae ["self", "triangle"] ["self", "triangle"] (Zac Zbt):=by walk_at "sc"
theorem ZdG:Zae ["thing"] ["thing"] (Zac ZcK):=by walk_at "sc"
theorem Zdd:Zae ["colour"] ["colour"] (Zac Zcr):=by walk_at "sc"
theorem Zes:Zae ["part"] ["part"] (Zac Zc2):=by walk_at "sc"
theorem Zb9:Zae ["self", "triangle", "colour", "part"] ["self", "triangle", "colour", "part"] (Zac Zby):=by walk_at "sc"
theorem Zcc:Zae ["self", "triangle", "colour"] ["self", "triangle", "colour"] (Zac ZbC):=by walk_at "sc"
theorem Zc6:Zae ["triangle", "least"] ["triangle", "least"] (Zac Zcn):=by walk_at "sc"
theorem ZbX:Zae ["self", "triangle"] ["self", "triangle"] (Zac Zbq):=by walk_at "sc"
theorem Zcm:Zae ["_law_top", "_law_bottom", "_law_one", "_law_other"] ["_law_top", "_law_bottom"] (Zac ZcI):=by walk_at "sc"
theorem Zew:Zae ["_law_triangle", "_law_cell", "_law_number", "_law_colour", "_law_bottom", "_law_part"] ["_law_triangle", "_law_cell"] (Zac Zc4):=by walk_at "sc"
theorem ZbZ:Zae ["self", "values"] ["self", "values"] (Zac Zbk):=by walk_at "sc"
theorem Zb0:Zae ["self", "values"] ["self", "values"] (Zac Zbf):=by walk_at "sc"
theorem ZbP:Zae ["self", "values"] ["self", "values"] (Zac Zba):=by walk_at "sc"
theorem Zjm:Zae ["top", "bottom", "divisor"] ["top", "bottom"] (Zac ZiO):=by walk_at "sc"
theorem Zjf:Zae ["one", "other"] ["one", "other"] (Zac ZiJ):=by walk_at "sc"
theorem ZlT:Zae ["one", "other"] ["one", "other"] (Zac Zmx):=by walk_at "sc"
theorem Zgk:Zae ["one", "other"] ["one", "other"] (Zac ZfZ):=by walk_at "sc"
theorem ZeX:Zae ["glass", "colour", "left"] ["glass", "colour"] (Zac ZdS):=by walk_at "sc"
theorem Zb7:Zae ["self"] ["self"] (Zac Zbw):=by walk_at "sc"
theorem Zcb:Zae ["self"] ["self"] (Zac ZbB):=by walk_at "sc"
theorem Zjw:Zae ["one", "other"] ["one", "other"] (Zac ZiK):=by walk_at "sc"
theorem Zci:Zae ["nearest", "sights", "layers", "sight", "place"] ["nearest", "sights"] (Zac ZcQ):=by walk_at "sc"
theorem Zer:Zae ["sights", "nearest", "sight"] ["sights"] (Zac Zdh):=by walk_at "sc"
theorem Zdl:Zae ["sights", "ground", "nearest", "colour", "sight"] ["sights", "ground"] (Zac ZdT):=by walk_at "sc"
theorem Zca:Zae ["three", "other"] ["three", "other"] (Zac Zbv):=by walk_at "sc"
theorem ZeR:Zae ["triangle", "amounts"] ["triangle", "amounts"] (Zac ZdX):=by walk_at "sc"
theorem ZaP:Zae ["triangle", "amounts", "bottom", "depth", "threes"] ["triangle", "amounts"] (Zac Zbr):=by walk_at "sc"
theorem Zc3:Zae ["one", "other"] ["one", "other"] (Zac Zck):=by walk_at "sc"
theorem Zk2:Zae ["one", "other", "point", "n", "number"] ["one", "other", "point"] (Zac Zmj):=by walk_at "sc"
theorem Zo2:Zae ["triangle", "point", "turn"] ["triangle", "point"] (Zac Zrz):=by walk_at "sc"
theorem Zfi:Zae ["one", "other", "point"] ["one", "other", "point"] (Zac ZeI):=by walk_at "sc"
theorem Zgy:Zae ["triangle", "point"] ["triangle", "point"] (Zac ZfT):=by walk_at "sc"
theorem ZgF:Zae ["triangle", "point"] ["triangle", "point"] (Zac Zfk):=by walk_at "sc"
theorem ZeO:Zae ["things", "p", "sights", "thing", "seen"] ["things", "p"] (Zac ZdR):=by walk_at "sc"
theorem ZdF:Zae ["things", "p", "ground"] ["things", "p", "ground"] (Zac ZcA):=by walk_at "sc"
theorem Zek:Zae ["thing", "least", "most"] ["thing", "least", "most"] (Zac Zdc):=by walk_at "sc"
theorem Zdx:Zae ["width", "height"] ["width", "height"] (Zac ZcE):=by walk_at "sc"
theorem Zcv:Zae ["ground"] ["ground"] (Zac ZbO):=by walk_at "sc"
theorem Zgl:Zae ["some", "total", "fraction"] ["some"] (Zac ZfM):=by walk_at "sc"
theorem ZdA:Zae ["sights_by_spot", "ground"] ["sights_by_spot", "ground"] (Zac ZcC):=by walk_at "sc"
theorem Zgp:Zae ["column", "row", "spot"] ["column", "row", "spot"] (Zac Zf5):=by walk_at "sc"
theorem ZeV:Zae ["things", "column", "row", "spots"] ["things", "column", "row", "spots"] (Zac ZdM):=by walk_at "sc"
theorem ZdD:Zae ["things", "width", "row", "spots", "ground"] ["things", "width", "row", "spots", "ground"] (Zac ZcD):=by walk_at "sc"
theorem ZgC:Zae ["thing"] ["thing"] (Zac ZfG):=by walk_at "sc"
theorem Zdz:Zae ["spots"] ["spots"] (Zac ZcR):=by walk_at "sc"
theorem Zce:Zae ["spots"] ["spots"] (Zac Zbz):=by walk_at "sc"
theorem Zfc:Zae ["things", "width", "height", "spots", "ground", "places", "beneath"] ["things", "width", "height", "spots", "ground"] (Zac ZcL):=by walk_at "sc"
theorem Zbs:Zae ["_law_script", "_law_wholes", "_law_pieces_here", "_law_places", "_law_cell", "_law_triangle", "_law_piece", "_law_first", "_law_width", "_law_height", "_law_some", "_law_spots", "_law_ground", "_law_points", "_law_point_here"] ["_law_script"] (Zac ZgJ):=by walk_at "sc"
structure Txt(K:W.Frag)(mg:Str→Option Value):Prop where
 ycQ:mg "abs"=none
 ycH:mg "all"=none
 ycZ:mg "any"=none
 ycR:mg "bool"=none
 yc0:mg "int"=none
 yb8:mg "isinstance"=none
 ycp:mg "len"=none
 ycu:mg "list"=none
 yc1:mg "max"=none
 ych:mg "range"=none
 yc2:mg "set"=none
 ybj:mg "tuple"=none
 ycS:mg "zip"=none
 yaD:∃tk,mg "MOST_CELLS"=some (.int 64 tk)
 ya1:∃tk,mg "MOST_SPOTS"=some (.int 16 tk)
 yaO:∃tk,mg "MOST_VALUES"=some (.int 3 tk)
 ybG:∃C,mg "BadFloor"=some (.ref C)∧W.excIn K C Zha "ValueError.__new__"=true
 ybH:∃C,mg "BadThing"=some (.ref C)∧W.excIn K C Zha "ValueError.__new__"=true
 ya8:∃C,mg "BadTriangle"=some (.ref C)∧W.excIn K C Zha "ValueError.__new__"=true
 f_colour:ZfW K mg objs "colour"
 f_part:ZfW K mg objs "part"
 f_triangle:ZfW K mg objs "triangle"
section
variable{P:Program}{w:World}{K:W.Frag}{mg:Str→Option Value}{base:Heap}
set_option hygiene false in
local macro_rules | `(tactic| walk_at "e")=>`(tactic| repeat' first
 | exact Zat
 | exact Ztk
 | exact ycG
 | exact ZmZ
 | exact Zaj
 | exact ZiH
 | exact d_v _
 | refine' Zab ?_ ?_
 | refine' ycK ?_ ?_
 | refine' ZaN (by first | assumption | exact CalO.cal (by assumption) | exact CalN.cal (by assumption)) hr (by decide) rfl Zas ?_
 | refine' Zff (by first | assumption | exact CalO.cal (by assumption) | exact CalN.cal (by assumption)) hr (by decide) rfl ?_
 | refine' Zl7 (by first | assumption | exact CalO.cal (by assumption) | exact CalN.cal (by assumption)) hr (by decide) rfl ?_
 | refine' Zku ?_ ?_
 | refine' ZrP ?_ ?_
 | refine' ZuU ?_ ?_
 | refine' Zkf ?_ ?_
 | refine' Zng ?_ ?_
 | refine' ZrD ?_ ?_
 | refine' ZuC ?_ ?_
 | refine' Zux ?_ ?_
 | refine' Zpj ?_ ?_
 | refine' ZtF ?_ ?_
 | refine' Zve ?_ ?_
 | refine' ZsL ?_ ?_
 | refine' yc8 ?_ ?_
 | refine' yc9 ?_ ?_
 | refine' d_gt ?_ ?_
 | refine' yc6 ?_ ?_
 | refine' ZmA ?_ ?_
 | refine' ZoK ?_ ?_
 | refine' Zup ?_ ?_
 | refine' d_or ?_ ?_
 | refine' Zkd hr ?_ ?_
 | refine' Zvp hr ?_ ?_
 | refine' dt_in hr ?_ ?_
 | refine' dt_nin hr ?_ ?_
 | refine' yc7 hr ?_ ?_
 | refine' d_ne hr ?_ ?_
 | refine' d_in hr ?_ ?_
 | refine' d_nin hr ?_ ?_
 | exact ycX rfl T.ycR Zrs
 | exact ycX rfl T.yc0 Zsu
 | exact ycX rfl T.ycu Zik
 | exact ycX rfl T.ybj Zdq
 | refine' yco (Zd3 rfl) Zem rfl T.ycH Zja ?_
 | refine' yco (Zml rfl) ZkR rfl T.ycZ ZtO ?_
 | refine' yco ZjR ZhS rfl T.ycQ Zoq ?_
 | refine' yco Zli ZkH rfl T.yb8 ZgV ?_
 | refine' yco ZbJ ZcY rfl T.ycp ZgH ?_
 | refine' ycP ZhU ZjZ rfl T.ycu Zik ?_
 | refine' ycP Zbo ZbY rfl T.ybj Zdq ?_
 | refine' ZpC T.f_colour ?_
 | refine' ZpC T.f_part ?_
 | refine' ZpC T.f_triangle ?_
 | refine' Zd0 ?_ ?_
 | refine' Zg2 ?_ ?_
 | refine' Zm0 ?_ ?_ ?_
 | refine' Zuo ?_ ?_ ?_
 | refine' ZuY ?_
 | refine' Zhv ?_
 | refine' Zvj ?_
 | refine' Zo8 ?_
 | refine' Zmn ?_
 | refine' d_isN ?_
 | refine' d_notN ?_
 | refine' ZfS ?_
 | refine' Zvc ?_
 | refine' ZjS ?_
 | refine' Zrb ?_
 | refine' ZfO ?_
 | refine' DW.dt ?_
 | exact ZaQ
 | exact ZlA
 | exact ds_retN
 | exact ZoC
 | exact ds_brk
 | exact ds_pass
 | refine' Zap ?_
 | refine' Zad ?_ ?_
 | refine' Zbd ?_
 | refine' ZcP ?_ ?_ ?_
 | refine' Za3 hN rfl (by first | exact Or.inl rfl | exact Or.inr rfl) ?_
 | refine' ZiD hN rfl (by first | exact Or.inl rfl | exact Or.inr rfl) ?_ ?_
 | refine' ZkJ _ ?_
 | refine' ZkP ?_
 | refine' Zr2 ?_ ?_
 | refine' Zfv Vct rfl ?_ ?_ ?_
 | exact ZdI hN rfl (by first | exact Or.inl rfl | exact Or.inr rfl) (by decide)
 | refine' ZoR rfl ?_
 | refine' ZgZ ?_ ?_
 | refine' Zqr rfl T.ych ?_
 | refine' Za4 ?_
 | refine' ZsQ ?_
 | refine' Zgu rfl yaL yaM ?_ ?_
 | refine' Zgu rfl ybI ybJ ?_ ?_
 | refine' Zgu rfl ya9 yba ?_ ?_
 | decide
 | fail)
local macro_rules | `(tactic| walk_at "co")=>`(tactic| exact ZcU.of rfl rfl (by kernel_rfl) rfl (by repeat' (first | exact trivial | refine ⟨rfl,?_⟩)) (by repeat' (first | exact trivial | refine ⟨rfl,?_⟩)))
local macro_rules | `(tactic| walk_at "cg")=>`(tactic| exact fun _ _ _ _ _=>ZdI (by show List.Nodup ((_:List Str) ++ (_:List Str));decide +kernel) rfl (by first | exact Or.inl rfl | exact Or.inr rfl) (by decide))
local macro_rules | `(tactic| walk_at "ct")=>`(tactic| exact fun _ _ _ _ _=>Zqz)
local macro_rules | `(tactic| walk_at "ce")=>`(tactic| (intro _ _ _ _ _;walk_at "e"))
theorem Zfq(T:Txt K mg)(D:Def K mg "_law_cell_at" Zcp ["_law_script", "_law_k"])  : Cal P w K mg base 1  "_law_cell_at" ["_law_script", "_law_k"] ZaD:=by
 exact D.cal Zc9 (fun f cdv A outer s H E hr=>have hN:=Zc9.nd;⟨_,(by walk_at "e")⟩)
theorem ZgR(T:Txt K mg)(D:Def K mg "_law_mixed" Zdf ["_law_cell", "_law_k"])  : Cal P w K mg base 1  "_law_mixed" ["_law_cell", "_law_k"] Zal:=by
 exact D.cal Zeq (fun f cdv A outer s H E hr=>have hN:=Zeq.nd;⟨_,(by walk_at "e")⟩)
theorem Zga(T:Txt K mg)(D:Def K mg "_law_corner" ZcB ["_law_cell", "_law_k", "_law_many"])(yaE:Cal P w K mg base 1  "_law_mixed" ["_law_cell", "_law_k"] Zal):Cal P w K mg base 2  "_law_corner" ["_law_cell", "_law_k", "_law_many"] Zaz:=by
 exact D.cal ZbD (fun f cdv A outer s H E hr=>have hN:=ZbD.nd;⟨_,(Zad (by walk_at "e")
  (Zad (by walk_at "e")
  (Zad (by walk_at "e")
  (Zad (Za3 (i:=6) ZbD.nd rfl (Or.inl rfl) (ycP Zbo ZbY rfl T.ybj Zdq (Zab (Zcf (own:=["_law_j"]) (cap:=[("_law_k", 1),("_law_cell", 0)]) (by walk_at "e") (by walk_at "co") rfl (by walk_at "cg") (by walk_at "ct") (by walk_at "ce")) Zaj)))
  (Zad (by walk_at "e")
  (Zad (ZcP (by walk_at "e")
  (Zap (Za3 (i:=6) ZbD.nd rfl (Or.inl rfl) (ycP Zbo ZbY rfl T.ybj Zdq (Zab (Zcf (own:=["_law_value"]) (cap:=[]) (Za4 (d_v 6)) (by walk_at "co") rfl (by walk_at "cg") (by walk_at "ct") (by walk_at "ce")) Zaj))))
  ZaQ)
  (by walk_at "e")))))))⟩)
theorem ZdN(T:Txt K mg)(D:Def K mg "greatest_divisor" Zbn ["numbers"])  : Cal P w K mg base 1  "greatest_divisor" ["numbers"] Zam:=by
 exact D.cal Zb4 (fun f cdv A outer s H E hr=>have hN:=Zb4.nd;⟨_,(Zad (by walk_at "e")
  (Zad (Zfv Vct rfl (Za4 (d_v 0)) (by walk_at "e")
  (Zad (by walk_at "e")
  (Zap (ZoU Vct (Zkd hr (d_v 3) Zat)
  (by walk_at "e")))))
  (by walk_at "e")))⟩)
theorem Zhc(T:Txt K mg)(D:Def K mg "numbers_of" Zc5 ["corner"])  : Cal P w K mg base 1  "numbers_of" ["corner"] Zbc:=by
 exact D.cal Zet (fun f cdv A outer s H E hr=>have hN:=Zet.nd;⟨_,(by walk_at "e")⟩)
theorem Zn2(T:Txt K mg)(D:Def K mg "mixed" ZiZ ["one", "other", "first", "second"])(yaF:Cal P w K mg base 1  "greatest_divisor" ["numbers"] Zam)(c_numbers_of:Cal P w K mg base 1  "numbers_of" ["corner"] Zbc):Cal P w K mg base 2  "mixed" ["one", "other", "first", "second"] ZcN:=by
 exact D.cal Zfb (fun f cdv A outer s H E hr=>have hN:=Zfb.nd;⟨_,(Zad (ZfF (i:=4) Zfb.nd rfl (Or.inl rfl) (own:=["a", "b"]) (cap:=[("second", 3),("first", 2)]) (Zui rfl T.ycS (by walk_at "e")) (by walk_at "co") rfl (fun _ _ _ _ _=>(ZoR rfl (ZgZ (ZdI (i:=0) (show List.Nodup (["a", "b", "second", "first"]:List Str) by decide +kernel) rfl (Or.inl rfl) (by decide)) (ZgZ (ZdI (i:=1) (show List.Nodup (["a", "b", "second", "first"]:List Str) by decide +kernel) rfl (Or.inl rfl) (by decide)) ZlA)))) (by walk_at "ct") (by walk_at "ce"))
  (Zad (by walk_at "e")
  (Zad (ZfF (i:=6) Zfb.nd rfl (Or.inl rfl) (own:=["number"]) (cap:=[("divisor", 5)]) (Za4 (d_v 4)) (by walk_at "co") rfl (by walk_at "cg") (by walk_at "ct") (fun _ _ _ _ _=>(Zng (d_v 0) (d_v 1))))
  (by walk_at "e"))))⟩)
theorem Zg6(T:Txt K mg)(D:Def K mg "_law_split" Zdi ["_law_pieces_here", "_law_number"])(ycL:Cal P w K mg base 2  "mixed" ["one", "other", "first", "second"] ZcN):Cal P w K mg base 3  "_law_split" ["_law_pieces_here", "_law_number"] ZbF:=by
 exact D.cal Zev (fun f cdv A outer s H E hr=>have hN:=Zev.nd;⟨_,(by walk_at "e")⟩)
theorem Zip(T:Txt K mg)(D:Def K mg "begun_at" Zez ["three", "place"])  : Cal P w K mg base 1  "begun_at" ["three", "place"] Zbe:=by
 exact D.cal ZfB (fun f cdv A outer s H E hr=>have hN:=ZfB.nd;⟨_,(by walk_at "e")⟩)
theorem ZqK(T:Txt K mg)(D:Def K mg "form" Zk6 ["wall", "corner"])  : Cal P w K mg base 1  "form" ["wall", "corner"] Zhz:=by
 exact D.cal ZmB (fun f cdv A outer s H E hr=>have hN:=ZmB.nd;⟨_,(by walk_at "e")⟩)
theorem Ztc(T:Txt K mg)(D:Def K mg "met" Zrl ["one", "other", "form_of_one", "form_of_other"])(ycL:Cal P w K mg base 2  "mixed" ["one", "other", "first", "second"] ZcN):Cal P w K mg base 3  "met" ["one", "other", "form_of_one", "form_of_other"] Zkg:=by
 exact D.cal Zow (fun f cdv A outer s H E hr=>have hN:=Zow.nd;⟨_,(by walk_at "e")⟩)
theorem ZlW(T:Txt K mg)(D:Def K mg "parted" Zhg ["corners", "forms"])(c_met:Cal P w K mg base 3  "met" ["one", "other", "form_of_one", "form_of_other"] Zkg):Cal P w K mg base 4  "parted" ["corners", "forms"] Zd7:=by
 exact D.cal Zh5 (fun f cdv A outer s H E hr=>have hN:=Zh5.nd;⟨_,(by walk_at "e")⟩)
theorem ZtH(T:Txt K mg)(D:Def K mg "cut" Zqq ["triangle", "wall"])(c_begun_at:Cal P w K mg base 1  "begun_at" ["three", "place"] Zbe)(c_form:Cal P w K mg base 1  "form" ["wall", "corner"] Zhz)(c_parted:Cal P w K mg base 4  "parted" ["corners", "forms"] Zd7):Cal P w K mg base 5  "cut" ["triangle", "wall"] ZkE:=by
 exact D.cal Zgj (fun f cdv A outer s H E hr=>have hN:=Zgj.nd;⟨_,(Zad (ZfF (i:=2) Zgj.nd rfl (Or.inl rfl) (own:=["corner"]) (cap:=[("wall", 1)]) (Za4 (d_v 0)) (by walk_at "co") rfl (by walk_at "cg") (by walk_at "ct") (by walk_at "ce"))
  (Zad (ZfF (i:=3) Zgj.nd rfl (Or.inl rfl) (own:=["number"]) (cap:=[]) (Za4 (d_v 2)) (by walk_at "co") rfl (by walk_at "cg") (by walk_at "ct") (fun _ _ _ _ _=>(yc6 (d_v 0) Zat)))
  (Zad (by walk_at "e")
  (Zad (by walk_at "e")
  (Zad (Za3 (i:=4) Zgj.nd rfl (Or.inl rfl) (yc7 hr (Zvf hr (d_v 3) ycG) Zat))
  (Zad (Za3 (i:=5) Zgj.nd rfl (Or.inl rfl) (Zpt hr (d_v 3) (d_v 4)))
  (by walk_at "e")))))))⟩)
theorem Zf7(T:Txt K mg)(D:Def K mg "_law_pieces" ZcO ["_law_triangle", "_law_cell"])(yaE:Cal P w K mg base 1  "_law_mixed" ["_law_cell", "_law_k"] Zal)(c__law_split:Cal P w K mg base 3  "_law_split" ["_law_pieces_here", "_law_number"] ZbF)(c_cut:Cal P w K mg base 5  "cut" ["triangle", "wall"] ZkE):Cal P w K mg base 6  "_law_pieces" ["_law_triangle", "_law_cell"] Za1:=by
 exact D.cal Zco (fun f cdv A outer s H E hr=>have hN:=Zco.nd;⟨_,(Zad (ZcP (by walk_at "e")
  (Zad (by walk_at "e")
  (Zad (by walk_at "e")
  (Zad (ZcP (by walk_at "e")
  (Zap (Za3 (i:=3) Zco.nd rfl (Or.inl rfl) (ycP Zbo ZbY rfl T.ybj Zdq (Zab (Zcf (own:=["_law_j"]) (cap:=[("_law_cell", 1)]) (by walk_at "e") (by walk_at "co") rfl (by walk_at "cg") (by walk_at "ct") (by walk_at "ce")) Zaj))))
  ZaQ)
  (by walk_at "e"))))
  ZaQ)
  (by walk_at "e"))⟩)
theorem Zhk(T:Txt K mg)(D:Def K mg "_law_point" Zc0 ["_law_number"])  : Cal P w K mg base 1  "_law_point" ["_law_number"] ZbG:=by
 exact D.cal Zel (fun f cdv A outer s H E hr=>have hN:=Zel.nd;⟨_,(by walk_at "e")⟩)
theorem ZdK(T:Txt K mg)(D:Def K mg "check_before_eye" Zbm ["corners"])  : Cal P w K mg base 1  "check_before_eye" ["corners"] Zaq:=by
 obtain ⟨ybK,ya9,yba⟩:=T.ya8
 exact D.cal Zb3 (fun f cdv A outer s H E hr=>have hN:=Zb3.nd;⟨_,(by walk_at "e")⟩)
theorem ZiU(T:Txt K mg)(D:Def K mg "is_whole" ZeN ["thing"])  : Cal P w K mg base 1  "is_whole" ["thing"] ZaB:=by
 exact D.cal ZfH (fun f cdv A outer s H E hr=>have hN:=ZfH.nd;⟨_,(by walk_at "e")⟩)
theorem ZgQ(T:Txt K mg)(D:Def K mg "are_values" Zdg ["thing"])(ybk:Cal P w K mg base 1  "is_whole" ["thing"] ZaB):Cal P w K mg base 2  "are_values" ["thing"] ZbL:=by
 obtain ⟨tk_MOST_VALUES,yaO⟩:=T.yaO
 exact D.cal Zed (fun f cdv A outer s H E hr=>have hN:=Zed.nd;⟨_,(Zad (ZcP (DW.dt (ZmA (by walk_at "e") (ZjS (Zpj (by walk_at "e") (ycY rfl yaO)))))
  (Zap (Zbd ycG))
  ZaQ)
  (Zap (Zbd (yco (Zd3 rfl) Zem rfl T.ycH Zja (Zab (Zcf (own:=["number"]) (cap:=[]) (Za4 (d_v 0)) (by walk_at "co") rfl (by walk_at "cg") (by walk_at "ct") (by walk_at "ce")) Zaj)))))⟩)
theorem ZhE(T:Txt K mg)(D:Def K mg "is_corner" ZdL ["thing"])(ybk:Cal P w K mg base 1  "is_whole" ["thing"] ZaB)(c_are_values:Cal P w K mg base 2  "are_values" ["thing"] ZbL):Cal P w K mg base 3  "is_corner" ["thing"] Zb1:=by
 exact D.cal ZeZ (fun f cdv A outer s H E hr=>have hN:=ZeZ.nd;⟨_,(Zad (by walk_at "e")
  (Zad (ZcP (Zhv (ZfO (yco (Zd3 rfl) Zem rfl T.ycH Zja (Zab (Zcf (own:=["number"]) (cap:=[]) (by walk_at "e") (by walk_at "co") rfl (by walk_at "cg") (by walk_at "ct") (by walk_at "ce")) Zaj))))
  (Zap (Zbd ycG))
  ZaQ)
  (by walk_at "e")))⟩)
theorem ZeB(T:Txt K mg)(D:Def K mg "check_triangle" ZbN ["triangle"])(c_is_corner:Cal P w K mg base 3  "is_corner" ["thing"] Zb1):Cal P w K mg base 4  "check_triangle" ["triangle"] ZaS:=by
 obtain ⟨ybK,ya9,yba⟩:=T.ya8
 exact D.cal Zct (fun f cdv A outer s H E hr=>have hN:=Zct.nd;⟨_,(by walk_at "e")⟩)
theorem Zm8{f:Addr}{fd:FuncData}(T:Txt K mg)(F:Fun K "__init__" "Thing.__init__" Zbt f fd)(ybb:Cal P w K mg base 1  "check_before_eye" ["corners"] Zaq)(c_check_triangle:Cal P w K mg base 4  "check_triangle" ["triangle"] ZaS):FnOk P w K mg base (CXR P w) 5 f fd ["self", "triangle"] (spI K mg 1 objs Zcl):=by
 exact okI F Zcd (by decide) rfl (fun cdv A outer s H E hr=>have hN:=Zcd.nd;⟨_,(Zgt (by walk_at "e")
  (Zgt (by walk_at "e")
  (Zjj T.f_triangle (d_v 1)
  Zi3)))⟩)
theorem Zgg(T:Txt K mg)(D:Def K mg "is_fraction" ZcK ["thing"])(yaF:Cal P w K mg base 1  "greatest_divisor" ["numbers"] Zam)(ybk:Cal P w K mg base 1  "is_whole" ["thing"] ZaB):Cal P w K mg base 2  "is_fraction" ["thing"] ZaO:=by
 exact D.cal ZdG (fun f cdv A outer s H E hr=>have hN:=ZdG.nd;⟨_,(by walk_at "e")⟩)
theorem ZfX(T:Txt K mg)(D:Def K mg "check_colour" Zcr ["colour"])(ybL:Cal P w K mg base 2  "is_fraction" ["thing"] ZaO):Cal P w K mg base 3  "check_colour" ["colour"] ZaK:=by
 obtain ⟨ycq,ybI,ybJ⟩:=T.ybH
 exact D.cal Zdd (fun f cdv A outer s H E hr=>have hN:=Zdd.nd;⟨_,(by walk_at "e")⟩)
theorem Zg9(T:Txt K mg)(D:Def K mg "check_part" Zc2 ["part"])(ybL:Cal P w K mg base 2  "is_fraction" ["thing"] ZaO):Cal P w K mg base 3  "check_part" ["part"] ZbK:=by
 obtain ⟨ycq,ybI,ybJ⟩:=T.ybH
 exact D.cal Zes (fun f cdv A outer s H E hr=>have hN:=Zes.nd;⟨_,(by walk_at "e")⟩)
theorem Znq{f:Addr}{fd:FuncData}(T:Txt K mg)(F:Fun K "__init__" "Glass.__init__" Zby f fd)(ybc:CalS P w K mg base 5 "Thing" "__init__" 1 objs Zcl)(ybC:Cal P w K mg base 3  "check_colour" ["colour"] ZaK)(c_check_part:Cal P w K mg base 3  "check_part" ["part"] ZbK):FnOk P w K mg base (CXR P w) 7 f fd ["self", "triangle", "colour", "part"] (spI K mg 3 objs ZdU):=by
 exact okI F Zb9 (by decide) rfl (fun cdv A outer s H E hr=>have hN:=Zb9.nd;⟨_,(Zmp ybc hr (by decide) rfl Zas (fun _ h=>h) (Zab (d_v 1) Zaj)
  (Zgt (by walk_at "e")
  (Zgt (by walk_at "e")
  (Zjj T.f_colour (d_v 2)
  (Zjj T.f_part (d_v 3)
  Zi3)))))⟩)
theorem Zoc{f:Addr}{fd:FuncData}(T:Txt K mg)(F:Fun K "__init__" "Plain.__init__" ZbC f fd)(ybc:CalS P w K mg base 5 "Thing" "__init__" 1 objs Zcl)(ybC:Cal P w K mg base 3  "check_colour" ["colour"] ZaK):FnOk P w K mg base (CXR P w) 7 f fd ["self", "triangle", "colour"] (spI K mg 2 objs ZdW):=by
 exact okI F Zcc (by decide) rfl (fun cdv A outer s H E hr=>have hN:=Zcc.nd;⟨_,(Zmp ybc hr (by decide) rfl Zas (fun _ h=>h) (Zab (d_v 1) Zaj)
  (Zgt (by walk_at "e")
  (Zjj T.f_colour (d_v 2)
  Zi3)))⟩)
theorem Zfp(T:Txt K mg)(D:Def K mg "check_values" Zcn ["triangle", "least"])  : Cal P w K mg base 1  "check_values" ["triangle", "least"] Za6:=by
 exact D.cal Zc6 (fun f cdv A outer s H E hr=>have hN:=Zc6.nd;⟨_,(Zap (ZcP (by walk_at "e")
  Zrp
  ZaQ))⟩)
theorem Zlf{f:Addr}{fd:FuncData}(T:Txt K mg)(F:Fun K "__init__" "Shaded.__init__" Zbq f fd)(ybc:CalS P w K mg base 5 "Thing" "__init__" 1 objs Zcl)(c_check_values:Cal P w K mg base 1  "check_values" ["triangle", "least"] Za6):FnOk P w K mg base (CXR P w) 7 f fd ["self", "triangle"] (spI K mg 1 objs ZcF):=by
 exact okI F ZbX (by decide) rfl (fun cdv A outer s H E hr=>have hN:=ZbX.nd;⟨_,(Zmp ybc hr (by decide) rfl Zas (fun _ h=>h) (Zab (d_v 1) Zaj)
  (Zgt (by walk_at "e")
  Zi3))⟩)
theorem Zf9(T:Txt K mg)(D:Def K mg "_law_lowest" ZcI ["_law_top", "_law_bottom"])  : Cal P w K mg base 1  "_law_lowest" ["_law_top", "_law_bottom"] Za2:=by
 exact D.cal Zcm (fun f cdv A outer s H E hr=>have hN:=Zcm.nd;⟨_,(Zad (by walk_at "e")
  (Zad (by walk_at "e")
  (Zad (ZoU Vct (Zkd hr (d_v 3) Zat)
  (Zap (ZrT (i:=2) (j:=3) rfl Zcm.nd rfl rfl (by decide) rfl rfl (d_v 3) (Zkf (d_v 2) (d_v 3)))))
  (by walk_at "e"))))⟩)
theorem ZgX(T:Txt K mg)(D:Def K mg "_law_thing" Zc4 ["_law_triangle", "_law_cell"])(yaE:Cal P w K mg base 1  "_law_mixed" ["_law_cell", "_law_k"] Zal)(ci_Glass:CalI P w K mg base 7 "Glass" 3 objs ZdU)(ci_Plain:CalI P w K mg base 7 "Plain" 2 objs ZdW)(ci_Shaded:CalI P w K mg base 7 "Shaded" 1 objs ZcF)(c__law_lowest:Cal P w K mg base 1  "_law_lowest" ["_law_top", "_law_bottom"] Za2):Cal P w K mg base 9  "_law_thing" ["_law_triangle", "_law_cell"] ZaG:=by
 exact D.cal Zew (fun f cdv A outer s H E hr=>have hN:=Zew.nd;⟨_,(Zad (by walk_at "e")
  (Zad (by walk_at "e")
  (Zad (by walk_at "e")
  (Zad (by walk_at "e")
  (Zad (ZcP (by walk_at "e")
  (Zap (Zbd (ZlX ci_Shaded hr (by decide) rfl Zas (Zab (d_v 0) Zaj))))
  ZaQ)
  (Zad (ZcP (by walk_at "e")
  (Zap (Zbd (ZlX ci_Plain hr (by decide) rfl Zas (by walk_at "e"))))
  ZaQ)
  (Zap (Zbd (ZlX ci_Glass hr (by decide) rfl Zas (by walk_at "e"))))))))))⟩)
theorem ZdV{f:Addr}{fd:FuncData}(T:Txt K mg)(F:Fun K "colour_at" "Glass.colour_at" Zbk f fd)  : FnOk P w K mg base (CXR P w) 1 f fd ["self", "values"] (spD K mg 2 Zcg):=by
 exact okM F ZbZ (fun cdv A outer s H E hr=>have hN:=ZbZ.nd;⟨_,(by walk_at "e")⟩)
theorem ZdZ{f:Addr}{fd:FuncData}(T:Txt K mg)(F:Fun K "colour_at" "Plain.colour_at" Zbf f fd)  : FnOk P w K mg base (CXR P w) 1 f fd ["self", "values"] (spD K mg 2 Zbl):=by
 exact okM F Zb0 (fun cdv A outer s H E hr=>have hN:=Zb0.nd;⟨_,(by walk_at "e")⟩)
theorem Zdv{f:Addr}{fd:FuncData}(T:Txt K mg)(F:Fun K "colour_at" "Shaded.colour_at" Zba f fd)  : FnOk P w K mg base (CXR P w) 1 f fd ["self", "values"] (spD K mg 2 Za9):=by
 exact okM F ZbP (fun cdv A outer s H E hr=>have hN:=ZbP.nd;⟨_,(by walk_at "e")⟩)
theorem Zne(T:Txt K mg)(D:Def K mg "ratio" ZiO ["top", "bottom"])(yaF:Cal P w K mg base 1  "greatest_divisor" ["numbers"] Zam):Cal P w K mg base 2  "ratio" ["top", "bottom"] Za5:=by
 exact D.cal Zjm (fun f cdv A outer s H E hr=>have hN:=Zjm.nd;⟨_,(by walk_at "e")⟩)
theorem ZnT(T:Txt K mg)(D:Def K mg "minus" ZiJ ["one", "other"])(ybw:Cal P w K mg base 2  "ratio" ["top", "bottom"] Za5):Cal P w K mg base 3  "minus" ["one", "other"] ZeC:=by
 exact D.cal Zjf (fun f cdv A outer s H E hr=>have hN:=Zjf.nd;⟨_,(by walk_at "e")⟩)
theorem Zpp(T:Txt K mg)(D:Def K mg "plus" Zmx ["one", "other"])(ybw:Cal P w K mg base 2  "ratio" ["top", "bottom"] Za5):Cal P w K mg base 3  "plus" ["one", "other"] Zej:=by
 exact D.cal ZlT (fun f cdv A outer s H E hr=>have hN:=ZlT.nd;⟨_,(by walk_at "e")⟩)
theorem Zj1(T:Txt K mg)(D:Def K mg "product" ZfZ ["one", "other"])(ybw:Cal P w K mg base 2  "ratio" ["top", "bottom"] Za5):Cal P w K mg base 3  "product" ["one", "other"] Zcy:=by
 exact D.cal Zgk (fun f cdv A outer s H E hr=>have hN:=Zgk.nd;⟨_,(by walk_at "e")⟩)
theorem Zh4(T:Txt K mg)(D:Def K mg "laid_over" ZdS ["glass", "colour"])(c_minus:Cal P w K mg base 3  "minus" ["one", "other"] ZeC)(ycT:Cal P w K mg base 3  "plus" ["one", "other"] Zej)(c_product:Cal P w K mg base 3  "product" ["one", "other"] Zcy):Cal P w K mg base 4  "laid_over" ["glass", "colour"] Zbx:=by
 exact D.cal ZeX (fun f cdv A outer s H E hr=>have hN:=ZeX.nd;⟨_,(by walk_at "e")⟩)
theorem Zec{f:Addr}{fd:FuncData}(T:Txt K mg)(F:Fun K "is_glass" "Glass.is_glass" Zbw f fd)  : FnOk P w K mg base (CXR P w) 1 f fd ["self"] (spD K mg 1 ZbA):=by
 exact okM F Zb7 (fun cdv A outer s H E hr=>have hN:=Zb7.nd;⟨_,(Zap (Zbd ycG))⟩)
theorem Zd4{f:Addr}{fd:FuncData}(T:Txt K mg)(F:Fun K "is_glass" "Thing.is_glass" ZbB f fd)  : FnOk P w K mg base (CXR P w) 1 f fd ["self"] (spD K mg 1 ZaM):=by
 exact okM F Zcb (fun cdv A outer s H E hr=>have hN:=Zcb.nd;⟨_,(Zap (Zbd ycG))⟩)
theorem Zni(T:Txt K mg)(D:Def K mg "under" ZiK ["one", "other"])  : Cal P w K mg base 1  "under" ["one", "other"] ZcJ:=by
 exact D.cal Zjw (fun f cdv A outer s H E hr=>have hN:=Zjw.nd;⟨_,(by walk_at "e")⟩)
theorem Zgd(T:Txt K mg)(D:Def K mg "layers_over" ZcQ ["nearest", "sights"])(cm_is_glass:Zcw P w K mg base 1 0 "is_glass" ZaW)(ycM:Cal P w K mg base 1  "under" ["one", "other"] ZcJ):Cal P w K mg base 2  "layers_over" ["nearest", "sights"] ZaZ:=by
 exact D.cal Zci (fun f cdv A outer s H E hr=>have hN:=Zci.nd;⟨_,(Zad (by walk_at "e")
  (Zad (Zfv Vct rfl (Za4 (d_v 1)) (by walk_at "e")
  (Zap (ZcP (DW.dt (ZoK (ZfO (ZkK cm_is_glass hr (by decide) Zas (ycK (d_v 3) Zat))) (by walk_at "e")))
  (Zad (Za3 (i:=4) Zci.nd rfl (Or.inl rfl) (yda 2 (yco ZbJ ZcY rfl T.ycp ZgH (Zab (Zcf (own:=["layer"]) (cap:=[("sight", 3)]) (Za4 (d_v 2)) (by walk_at "co") rfl (by walk_at "cg") (fun _ _ _ _ _=>ZkT (by walk_at "e")) (fun _ _ _ _ _=>(d_v 0))) Zaj))))
  (Zap (ZrY 2 (d_v 4) (d_v 3))))
  ZaQ)))
  (by walk_at "e")))⟩)
theorem Zhm(T:Txt K mg)(D:Def K mg "nearest_of" Zdh ["sights"])(cm_is_glass:Zcw P w K mg base 1 0 "is_glass" ZaW)(ycM:Cal P w K mg base 1  "under" ["one", "other"] ZcJ):Cal P w K mg base 2  "nearest_of" ["sights"] ZbH:=by
 exact D.cal Zer (fun f cdv A outer s H E hr=>have hN:=Zer.nd;⟨_,(Zad (by walk_at "e")
  (Zad (Zfv Vct rfl (Za4 (d_v 0)) (by walk_at "e")
  (Zad (ZcP (ZfO (ZkK cm_is_glass hr (by decide) Zas (ycK (d_v 2) Zat)))
  (Zap ZoC)
  ZaQ)
  (by walk_at "e")))
  (by walk_at "e")))⟩)
theorem ZhQ(T:Txt K mg)(D:Def K mg "colour_of" ZdT ["sights", "ground"])(cm_colour_at:Zcw P w K mg base 1 1 "colour_at" ZaY)(c_laid_over:Cal P w K mg base 4  "laid_over" ["glass", "colour"] Zbx)(c_layers_over:Cal P w K mg base 2  "layers_over" ["nearest", "sights"] ZaZ)(c_nearest_of:Cal P w K mg base 2  "nearest_of" ["sights"] ZbH):Cal P w K mg base 5  "colour_of" ["sights", "ground"] ZaX:=by
 exact D.cal Zdl (fun f cdv A outer s H E hr=>have hN:=Zdl.nd;⟨_,(Zad (by walk_at "e")
  (Zad (by walk_at "e")
  (Zad (ZcP (Zmn (d_v 2))
  (Zap (Za3 (i:=3) Zdl.nd rfl (Or.inl rfl) (ZrF cm_colour_at hr (by decide) Zas (ycK (d_v 2) Zat) (by walk_at "e"))))
  ZaQ)
  (by walk_at "e"))))⟩)
theorem Zd8(T:Txt K mg)(D:Def K mg "summed_products" Zbv ["three", "other"])  : Cal P w K mg base 1  "summed_products" ["three", "other"] Zai:=by
 exact D.cal Zca (fun f cdv A outer s H E hr=>have hN:=Zca.nd;⟨_,(by walk_at "e")⟩)
theorem Zih(T:Txt K mg)(D:Def K mg "weighed_h" ZdX ["triangle", "amounts"])(yac:Cal P w K mg base 1  "summed_products" ["three", "other"] Zai):Cal P w K mg base 2  "weighed_h" ["triangle", "amounts"] ZbW:=by
 exact D.cal ZeR (fun f cdv A outer s H E hr=>have hN:=ZeR.nd;⟨_,(Zap (Zbd (ZaN yac hr (by decide) rfl Zas (Zab (Zcf (own:=["corner"]) (cap:=[]) (Za4 (d_v 0)) (by walk_at "co") rfl (by walk_at "cg") (by walk_at "ct") (fun _ _ _ _ _=>(ycK (d_v 0) Zat))) (Zab (d_v 1) Zaj)))))⟩)
theorem ZdJ(T:Txt K mg)(D:Def K mg "depth_and_values" Zbr ["triangle", "amounts"])(ybw:Cal P w K mg base 2  "ratio" ["top", "bottom"] Za5)(yac:Cal P w K mg base 1  "summed_products" ["three", "other"] Zai)(c_weighed_h:Cal P w K mg base 2  "weighed_h" ["triangle", "amounts"] ZbW):Cal P w K mg base 3  "depth_and_values" ["triangle", "amounts"] ZaI:=by
 exact D.cal ZaP (fun f cdv A outer s H E hr=>have hN:=ZaP.nd;⟨_,(Zad (by walk_at "e")
  (Zad (Za3 (i:=3) ZaP.nd rfl (Or.inl rfl) (ZaN ybw hr (by decide) rfl Zas (Zab (ZaN yac hr (by decide) rfl Zas (Zab (Zcf (own:=["corner"]) (cap:=[]) (Za4 (d_v 0)) (by walk_at "co") rfl (by walk_at "cg") (by walk_at "ct") (fun _ _ _ _ _=>(ycK (d_v 0) Zat))) (Zab (d_v 1) Zaj))) (Zab (d_v 2) Zaj))))
  (Zad (Za3 (i:=4) ZaP.nd rfl (Or.inl rfl) (ydb rfl rfl T.ycS rfl T.ycu (by walk_at "e")))
  (Zap (Zbd (Zd0 (Zab (d_v 3) (Zab (ycP Zbo ZbY rfl T.ybj Zdq (Zab (Zcf (own:=["three"]) (cap:=[("bottom", 2),("amounts", 1)]) (Za4 (d_v 4)) (by walk_at "co") rfl (by walk_at "cg") (by walk_at "ct") (by walk_at "ce")) Zaj)) Zaj))))))))⟩)
theorem Zfw(T:Txt K mg)(D:Def K mg "edge_numbers" Zck ["one", "other"])  : Cal P w K mg base 1  "edge_numbers" ["one", "other"] ZaL:=by
 exact D.cal Zc3 (fun f cdv A outer s H E hr=>have hN:=Zc3.nd;⟨_,(by walk_at "e")⟩)
theorem ZqS(T:Txt K mg)(D:Def K mg "side" Zmj ["one", "other", "point"])(yac:Cal P w K mg base 1  "summed_products" ["three", "other"] Zai)(ybD:Cal P w K mg base 1  "edge_numbers" ["one", "other"] ZaL):Cal P w K mg base 2  "side" ["one", "other", "point"] Zf4:=by
 exact D.cal Zk2 (fun f cdv A outer s H E hr=>have hN:=Zk2.nd;⟨_,(by walk_at "e")⟩)
theorem Ztz(T:Txt K mg)(D:Def K mg "had" Zrz ["triangle", "point"])(ybb:Cal P w K mg base 1  "check_before_eye" ["corners"] Zaq)(c_side:Cal P w K mg base 2  "side" ["one", "other", "point"] Zf4):Cal P w K mg base 3  "had" ["triangle", "point"] Zk0:=by
 exact D.cal Zo2 (fun f cdv A outer s H E hr=>have hN:=Zo2.nd;⟨_,(by walk_at "e")⟩)
theorem Ziz(T:Txt K mg)(D:Def K mg "edge_sum" ZeI ["one", "other", "point"])(yac:Cal P w K mg base 1  "summed_products" ["three", "other"] Zai)(ybD:Cal P w K mg base 1  "edge_numbers" ["one", "other"] ZaL):Cal P w K mg base 2  "edge_sum" ["one", "other", "point"] Zbu:=by
 exact D.cal Zfi (fun f cdv A outer s H E hr=>have hN:=Zfi.nd;⟨_,(by walk_at "e")⟩)
theorem Zj2(T:Txt K mg)(D:Def K mg "weights" ZfT ["triangle", "point"])(c_edge_sum:Cal P w K mg base 2  "edge_sum" ["one", "other", "point"] Zbu):Cal P w K mg base 3  "weights" ["triangle", "point"] Zc8:=by
 exact D.cal Zgy (fun f cdv A outer s H E hr=>have hN:=Zgy.nd;⟨_,(by walk_at "e")⟩)
theorem Zkj(T:Txt K mg)(D:Def K mg "seen_at" Zfk ["triangle", "point"])(c_depth_and_values:Cal P w K mg base 3  "depth_and_values" ["triangle", "amounts"] ZaI)(c_had:Cal P w K mg base 3  "had" ["triangle", "point"] Zk0)(c_weights:Cal P w K mg base 3  "weights" ["triangle", "point"] Zc8):Cal P w K mg base 4  "seen_at" ["triangle", "point"] Zaw:=by
 exact D.cal ZgF (fun f cdv A outer s H E hr=>have hN:=ZgF.nd;⟨_,(by walk_at "e")⟩)
theorem Zhw(T:Txt K mg)(D:Def K mg "sights_at" ZdR ["things", "p"])(c_seen_at:Cal P w K mg base 4  "seen_at" ["triangle", "point"] Zaw):Cal P w K mg base 5  "sights_at" ["things", "p"] ZaV:=by
 exact D.cal ZeO (fun f cdv A outer s H E hr=>have hN:=ZeO.nd;⟨_,(by walk_at "e")⟩)
theorem Zgf(T:Txt K mg)(D:Def K mg "colour_seen" ZcA ["things", "p", "ground"])(yci:Cal P w K mg base 5  "colour_of" ["sights", "ground"] ZaX)(ycj:Cal P w K mg base 5  "sights_at" ["things", "p"] ZaV):Cal P w K mg base 6  "colour_seen" ["things", "p", "ground"] Za0:=by
 exact D.cal ZdF (fun f cdv A outer s H E hr=>have hN:=ZdF.nd;⟨_,(by walk_at "e")⟩)
theorem ZgT(T:Txt K mg)(D:Def K mg "is_between" Zdc ["thing", "least", "most"])(ybk:Cal P w K mg base 1  "is_whole" ["thing"] ZaB):Cal P w K mg base 2  "is_between" ["thing", "least", "most"] ZaH:=by
 exact D.cal Zek (fun f cdv A outer s H E hr=>have hN:=Zek.nd;⟨_,(by walk_at "e")⟩)
theorem Zge(T:Txt K mg)(D:Def K mg "check_floor" ZcE ["width", "height"])(ya2:Cal P w K mg base 2  "is_between" ["thing", "least", "most"] ZaH):Cal P w K mg base 3  "check_floor" ["width", "height"] Zbj:=by
 obtain ⟨ycr,yaL,yaM⟩:=T.ybG
 obtain ⟨tk_MOST_CELLS,yaD⟩:=T.yaD
 exact D.cal Zdx (fun f cdv A outer s H E hr=>have hN:=Zdx.nd;⟨_,(Zap (ZcP (DW.dt (ZmA (Zhv (ZfO (ZaN ya2 hr (by decide) rfl Zas (Zab (d_v 0) (Zab Zat (Zab (ycY rfl yaD) Zaj)))))) (ZjS (Zhv (ZfO (ZaN ya2 hr (by decide) rfl Zas (Zab (d_v 1) (Zab Zat (Zab (ycY rfl yaD) Zaj)))))))))
  (by walk_at "e")
  ZaQ))⟩)
theorem ZeG(T:Txt K mg)(D:Def K mg "ground_or_none" ZbO ["ground"])  : Cal P w K mg base 1  "ground_or_none" ["ground"] Za7:=by
 exact D.cal Zcv (fun f cdv A outer s H E hr=>have hN:=Zcv.nd;⟨_,(by walk_at "e")⟩)
theorem Zkp(T:Txt K mg)(D:Def K mg "mean_of" ZfM ["some"])(ybw:Cal P w K mg base 2  "ratio" ["top", "bottom"] Za5)(ycT:Cal P w K mg base 3  "plus" ["one", "other"] Zej):Cal P w K mg base 4  "mean_of" ["some"] Zc7:=by
 exact D.cal Zgl (fun f cdv A outer s H E hr=>have hN:=Zgl.nd;⟨_,(by walk_at "e")⟩)
theorem Zgb(T:Txt K mg)(D:Def K mg "cell_colour" ZcC ["sights_by_spot", "ground"])(yci:Cal P w K mg base 5  "colour_of" ["sights", "ground"] ZaX)(ycv:Cal P w K mg base 4  "mean_of" ["some"] Zc7):Cal P w K mg base 6  "cell_colour" ["sights_by_spot", "ground"] Zbp:=by
 exact D.cal ZdA (fun f cdv A outer s H E hr=>have hN:=ZdA.nd;⟨_,(Zap (Zbd (ZaN ycv hr (by decide) rfl Zas (Zab (Zcf (own:=["sights"]) (cap:=[("ground", 1)]) (Za4 (d_v 0)) (by walk_at "co") rfl (by walk_at "cg") (by walk_at "ct") (by walk_at "ce")) Zaj))))⟩)
theorem Zkr(T:Txt K mg)(D:Def K mg "spot_at" Zf5 ["column", "row", "spot"])  : Cal P w K mg base 1  "spot_at" ["column", "row", "spot"] Zep:=by
 exact D.cal Zgp (fun f cdv A outer s H E hr=>have hN:=Zgp.nd;⟨_,(by walk_at "e")⟩)
theorem ZhM(T:Txt K mg)(D:Def K mg "sights_in" ZdM ["things", "column", "row", "spots"])(ycj:Cal P w K mg base 5  "sights_at" ["things", "p"] ZaV)(c_spot_at:Cal P w K mg base 1  "spot_at" ["column", "row", "spot"] Zep):Cal P w K mg base 6  "sights_in" ["things", "column", "row", "spots"] ZbU:=by
 exact D.cal ZeV (fun f cdv A outer s H E hr=>have hN:=ZeV.nd;⟨_,(Zap (Zbd (ZiF ⟨rfl,rfl,rfl,rfl⟩ (own:=["spot"]) (cap:=[("things", 0),("row", 2),("column", 1)]) (Za4 (d_v 3)) (by walk_at "co") rfl (by walk_at "cg") (by walk_at "ct") (by walk_at "ce"))))⟩)
theorem Zf8(T:Txt K mg)(D:Def K mg "painted_row" ZcD ["things", "width", "row", "spots", "ground"])(c_cell_colour:Cal P w K mg base 6  "cell_colour" ["sights_by_spot", "ground"] Zbp)(c_sights_in:Cal P w K mg base 6  "sights_in" ["things", "column", "row", "spots"] ZbU):Cal P w K mg base 7  "painted_row" ["things", "width", "row", "spots", "ground"] ZbR:=by
 exact D.cal ZdD (fun f cdv A outer s H E hr=>have hN:=ZdD.nd;⟨_,(Zap (Zbd (ZiF ⟨rfl,rfl,rfl,rfl⟩ (own:=["column"]) (cap:=[("things", 0),("spots", 3),("row", 2),("ground", 4)]) (by walk_at "e") (by walk_at "co") rfl (by walk_at "cg") (by walk_at "ct") (by walk_at "ce"))))⟩)
theorem Zkx(T:Txt K mg)(D:Def K mg "is_spot" ZfG ["thing"])(ya2:Cal P w K mg base 2  "is_between" ["thing", "least", "most"] ZaH):Cal P w K mg base 3  "is_spot" ["thing"] Zda:=by
 exact D.cal ZgC (fun f cdv A outer s H E hr=>have hN:=ZgC.nd;⟨_,(by walk_at "e")⟩)
theorem Zgc(T:Txt K mg)(D:Def K mg "check_spots" ZcR ["spots"])(ycw:Cal P w K mg base 3  "is_spot" ["thing"] Zda):Cal P w K mg base 4  "check_spots" ["spots"] Zbg:=by
 obtain ⟨ycr,yaL,yaM⟩:=T.ybG
 obtain ⟨tk_MOST_SPOTS,ya1⟩:=T.ya1
 exact D.cal Zdz (fun f cdv A outer s H E hr=>have hN:=Zdz.nd;⟨_,(Zad (ZcP (DW.dt (ZmA (by walk_at "e") (ZmA (ZtF (yco ZbJ ZcY rfl T.ycp ZgH (Zab (d_v 0) Zaj)) Zat) (ZjS (Zpj (yco ZbJ ZcY rfl T.ycp ZgH (Zab (d_v 0) Zaj)) (ycY rfl ya1))))))
  (Zap (Zgu rfl yaL yaM (Zab ZmZ Zaj)))
  ZaQ)
  (Zad (ZcP (Zhv (ZfO (yco (Zd3 rfl) Zem rfl T.ycH Zja (Zab (Zcf (own:=["spot"]) (cap:=[]) (Za4 (d_v 0)) (by walk_at "co") rfl (by walk_at "cg") (by walk_at "ct") (fun _ _ _ _ _=>(Zff ycw hr (by decide) rfl (Zab (d_v 0) Zaj)))) Zaj))))
  (Zap (Zgu rfl yaL yaM (Zab ZmZ Zaj)))
  ZaQ)
  (Zap (ZcP (Zkd hr (ZnJ hr rfl T.ycp rfl T.yc2 (d_v 0)) (yco ZbJ ZcY rfl T.ycp ZgH (Zab (d_v 0) Zaj)))
  (Zap (Zgu rfl yaL yaM (Zab ZmZ Zaj)))
  ZaQ))))⟩)
theorem Zen(T:Txt K mg)(D:Def K mg "spots_or_middle" Zbz ["spots"])(ybM:Cal P w K mg base 4  "check_spots" ["spots"] Zbg):Cal P w K mg base 5  "spots_or_middle" ["spots"] Zar:=by
 exact D.cal Zce (fun f cdv A outer s H E hr=>have hN:=Zce.nd;⟨_,(Zad (ZcP (Zo8 (d_v 0))
  (Zap (Zbd (Zg2 (Zab (Zd0 (Zab Zat (Zab Zat Zaj))) Zaj))))
  ZaQ)
  (Zad (ZkP (ZaN ybM hr (by decide) rfl Zas (Zab (d_v 0) Zaj)))
  (Zap (Zbd (d_v 0)))))⟩)
theorem Znn{f:Addr}{fd:FuncData}{dV:Value}(T:Txt K mg)(F:FunD K "paint" "paint" ZcL dV f fd)(ybN:Cal P w K mg base 3  "check_floor" ["width", "height"] Zbj)(ybt:Cal P w K mg base 1  "ground_or_none" ["ground"] Za7)(ybO:Cal P w K mg base 7  "painted_row" ["things", "width", "row", "spots", "ground"] ZbR)(ybl:Cal P w K mg base 5  "spots_or_middle" ["spots"] Zar):FnOk P w K mg base (CXR P w) 8 f fd ["things", "width", "height", "spots", "ground"] (spD K mg 5 ZdQ):=by
 exact okDF F Zfc (fun cdv A outer s H E hr=>have hN:=Zfc.nd;⟨_,(Zad (ZkP (ZaN ybN hr (by decide) rfl Zas (Zab (d_v 1) (Zab (d_v 2) Zaj))))
  (Zad (Za3 (i:=5) Zfc.nd rfl (Or.inr rfl) (ZaN ybl hr (by decide) rfl Zas (Zab (d_v 3) Zaj)))
  (Zad (Za3 (i:=6) Zfc.nd rfl (Or.inr rfl) (ZaN ybt hr (by decide) rfl Zas (Zab (d_v 4) Zaj)))
  (Zap (Zbd (ZiF ⟨rfl,rfl,rfl,rfl⟩ (own:=["row"]) (cap:=[("width", 1),("things", 0),("places", 5),("beneath", 6)]) (Zqr rfl T.ych (Zab (d_v 2) Zaj)) (by walk_at "co") rfl (by walk_at "cg") (by walk_at "ct") (fun _ _ _ _ _=>(Zl7 ybO hr (by decide) rfl (Zab (d_v 2) (Zab (d_v 1) (Zab (d_v 0) (Zab (d_v 3) (Zab (d_v 4) Zaj)))))))))))))⟩)
theorem Ztv{f:Addr}{fd:FuncData}(T:Txt K mg)(F:Fun K "law" "law" ZgJ f fd)(yas:Cal P w K mg base 1  "_law_cell_at" ["_law_script", "_law_k"] ZaD)(yaE:Cal P w K mg base 1  "_law_mixed" ["_law_cell", "_law_k"] Zal)(yaP:Cal P w K mg base 2  "_law_corner" ["_law_cell", "_law_k", "_law_many"] Zaz)(ybP:Cal P w K mg base 6  "_law_pieces" ["_law_triangle", "_law_cell"] Za1)(yb9:Cal P w K mg base 1  "_law_point" ["_law_number"] ZbG)(ybr:Cal P w K mg base 9  "_law_thing" ["_law_triangle", "_law_cell"] ZaG)(ybd:Cal P w K mg base 6  "colour_seen" ["things", "p", "ground"] Za0)(ycx:Cal P w K mg base 8  "paint" ["things", "width", "height", "spots", "ground"] ZdQ):FnOk P w K mg base (CXR P w) 10 f fd ["_law_script"] (spD K mg 1 Zp6):=by
 exact okD F Zbs (fun cdv A outer s H E hr=>have hN:=Zbs.nd;⟨_,(Zad (ZiD (i:=1) Zbs.nd rfl (Or.inl rfl) Zaj)
  (Zad (ZiD (i:=2) Zbs.nd rfl (Or.inl rfl) Zaj)
  (Zad (Za3 (i:=3) Zbs.nd rfl (Or.inl rfl) (Zg2 Zaj))
  (Zad (Zfv Vct rfl (Za4 (Zku (Zg2 (Zab (ZaN yas hr (by decide) rfl Zas (Zab (d_v 0) (Zab Zat Zaj))) Zaj)) (Zm0 (d_v 0) (ZfS Zat) (ZfS Zat)))) (ZdI (i:=4) Zbs.nd rfl (Or.inl rfl) (by decide))
  (Zad (Za3 (i:=5) Zbs.nd rfl (Or.inl rfl) (Zd0 (Zab (ZaN yaP hr (by decide) rfl Zas (Zab (d_v 4) (Zab Zat (Zab Zat Zaj)))) (Zab (ZaN yaP hr (by decide) rfl Zas (Zab (d_v 4) (Zab Zat (Zab Zat Zaj)))) (Zab (ZaN yaP hr (by decide) rfl Zas (Zab (d_v 4) (Zab Zat (Zab Zat Zaj)))) Zaj)))))
  (Zad (ZkJ 1 (ZaN ybr hr (by decide) rfl Zas (Zab (d_v 5) (Zab (d_v 4) Zaj))))
  (Zap (Zfv Vct rfl (Za4 (ZaN ybP hr (by decide) rfl Zas (Zab (d_v 5) (Zab (d_v 4) Zaj)))) (ZdI (i:=6) Zbs.nd rfl (Or.inl rfl) (by decide))
  (Zad (ZkJ 2 (ZaN ybr hr (by decide) rfl Zas (Zab (d_v 6) (Zab (d_v 4) Zaj))))
  (Zap (Za3 (i:=3) Zbs.nd rfl (Or.inl rfl) (Zku (d_v 3) (Zcf (own:=["_law_corner_here"]) (cap:=[]) (Za4 (d_v 6)) (by walk_at "co") rfl (by walk_at "cg") (by walk_at "ct") (fun _ _ _ _ _=>(Zm0 (d_v 0) ZiH (ZfS Zat)))))))))))))
  (Zad (Za3 (i:=7) Zbs.nd rfl (Or.inl rfl) (ZaN yas hr (by decide) rfl Zas (Zab (d_v 0) (Zab Zat Zaj))))
  (Zad (Za3 (i:=8) Zbs.nd rfl (Or.inl rfl) (Zku Zat (Zkf (d_v 7) Zat)))
  (Zad (Za3 (i:=9) Zbs.nd rfl (Or.inl rfl) (Zku Zat (Zkf (Zng (d_v 7) Zat) Zat)))
  (Zad (Za3 (i:=10) Zbs.nd rfl (Or.inl rfl) (Zg2 (Zab Ztk (Zab (Zg2 (Zab (Zd0 (Zab Zat (Zab Zat Zaj))) Zaj)) (Zab (Zg2 (Zab (Zd0 (Zab Zat (Zab Zat Zaj))) (Zab (Zd0 (Zab Zat (Zab Zat Zaj))) Zaj))) (Zab (Zg2 (Zab (Zd0 (Zab Zat (Zab Zat Zaj))) (Zab (Zd0 (Zab Zat (Zab Zat Zaj))) (Zab (Zd0 (Zab Zat (Zab Zat Zaj))) Zaj)))) (Zab (Zg2 (Zab (Zd0 (Zab Zat (Zab Zat Zaj))) (Zab (Zd0 (Zab Zat (Zab Zat Zaj))) (Zab (Zd0 (Zab Zat (Zab Zat Zaj))) (Zab (Zd0 (Zab Zat (Zab Zat Zaj))) Zaj))))) Zaj)))))))
  (Zad (Za3 (i:=11) Zbs.nd rfl (Or.inl rfl) (ycK (d_v 10) (Zkf (Zng (d_v 7) Zat) Zat)))
  (Zad (Za3 (i:=12) Zbs.nd rfl (Or.inl rfl) (Zd0 (Zab (ZrP (Zkf (ZaN yas hr (by decide) rfl Zas (Zab (d_v 0) (Zab Zat Zaj))) Zat) Zat) (Zab Zat Zaj))))
  (Zad (ZcP (ZnM 2 (ZnM 1 (Zkd hr (ZaN ycx hr (by decide) rfl Zas (Zab (d_v 2) (Zab (d_v 8) (Zab (d_v 9) (Zab (d_v 11) (Zab (d_v 12) Zaj)))))) (ZaN ycx hr (by decide) rfl Zas (Zab (d_v 1) (Zab (d_v 8) (Zab (d_v 9) (Zab (d_v 11) (Zab (d_v 12) Zaj)))))))))
  (Zap (Zbd ycG))
  ZaQ)
  (Zad (ZfF (i:=3) Zbs.nd rfl (Or.inl rfl) (own:=["_law_place"]) (cap:=[]) (Za4 (d_v 3)) (by walk_at "co") rfl (by walk_at "cg") (fun _ _ _ _ _=>ZkT (ZsL (yco (ZlS rfl) Zks rfl T.yc1 ZtQ (Zab (Zcf (own:=["_law_one"]) (cap:=[]) (Za4 (d_v 0)) (by walk_at "co") rfl (by walk_at "cg") (by walk_at "ct") (fun _ _ _ _ _=>(yco ZjR ZhS rfl T.ycQ Zoq (Zab (d_v 0) Zaj)))) Zaj)) (ZrD Zat Zat))) (fun _ _ _ _ _=>(d_v 0)))
  (Zad (Za3 (i:=13) Zbs.nd rfl (Or.inl rfl) (Zku (Zm0 (d_v 3) ZiH (ZfS Zat)) (Zcf (own:=["_law_k"]) (cap:=[("_law_script", 0)]) (Zqr rfl T.ych (Zab Zat Zaj)) (by walk_at "co") rfl (by walk_at "cg") (by walk_at "ct") (fun _ _ _ _ _=>(Zff yb9 hr (by decide) rfl (Zab (Zff yaE hr (by decide) rfl (Zab (Zff yas hr (by decide) rfl (Zab (d_v 1) (Zab Zat Zaj))) (Zab (d_v 0) Zaj))) Zaj))))))
  (Zad (Zfv Vct rfl (Za4 (d_v 13)) (ZdI (i:=14) Zbs.nd rfl (Or.inl rfl) (by decide))
  (Zap (ZcP (ZnM 2 (ZnM 1 (Zkd hr (ZaN ybd hr (by decide) rfl Zas (Zab (d_v 2) (Zab (d_v 14) (Zab (d_v 12) Zaj)))) (ZaN ybd hr (by decide) rfl Zas (Zab (d_v 1) (Zab (d_v 14) (Zab (d_v 12) Zaj)))))))
  (Zap (Zbd ycG))
  ZaQ)))
  (Zap (Zbd ycG))))))))))))))))⟩)
end
theorem ln1{P:List Value→Prop}(q:∀a,P [a]):∀us,us.length=1→P us:=by intro us h;rcases us with _|⟨a,_|_⟩<;>first | exact q _ | cases h
theorem ln2{P:List Value→Prop}(q:∀a b,P [a,b]):∀us,us.length=2→P us:=by intro us h;rcases us with _|⟨a,_|⟨b,_|_⟩⟩<;>first | exact q _ _ | cases h
theorem ln3{P:List Value→Prop}(q:∀a b c,P [a,b,c]):∀us,us.length=3→P us:=by intro us h;rcases us with _|⟨a,_|⟨b,_|⟨c,_|_⟩⟩⟩<;>first | exact q _ _ _ | cases h
theorem ln4{P:List Value→Prop}(q:∀a b c d,P [a,b,c,d]):∀us,us.length=4→P us:=by intro us h;rcases us with _|⟨a,_|⟨b,_|⟨c,_|⟨d,_|_⟩⟩⟩⟩<;>first | exact q _ _ _ _ | cases h
theorem ln5{P:List Value→Prop}(q:∀a b c d e,P [a,b,c,d,e]):∀us,us.length=5→P us:=by intro us h;rcases us with _|⟨a,_|⟨b,_|⟨c,_|⟨d,_|⟨e,_|_⟩⟩⟩⟩⟩<;>first | exact q _ _ _ _ _ | cases h
theorem dmk{K:W.Frag}{mg:Str→Option Value}{x:Str}{st:Stmt}{ps:List Str}{f:Addr}{fd:FuncData}(F:Fun K x x st f fd)(b:Binds K fd ps [])(m:mg x=some (.ref f)):Def K mg x st ps:=⟨f,fd,F,b,m⟩
local macro_rules | `(tactic| walk_at "b1")=>`(tactic| exact fun _ _ _ _ _ _=>My.ln1 fun _=>rfl)
local macro_rules | `(tactic| walk_at "b2")=>`(tactic| exact fun _ _ _ _ _ _=>My.ln2 fun _ _=>rfl)
local macro_rules | `(tactic| walk_at "b3")=>`(tactic| exact fun _ _ _ _ _ _=>My.ln3 fun _ _ _=>rfl)
local macro_rules | `(tactic| walk_at "b4")=>`(tactic| exact fun _ _ _ _ _ _=>My.ln4 fun _ _ _ _=>rfl)
local macro_rules | `(tactic| walk_at "b5")=>`(tactic| exact fun _ _ _ _ _ _=>My.ln5 fun _ _ _ _ _=>rfl)
abbrev NI(K:W.Frag)(x:Str)(f:Addr):Prop:=W.nsIn K mainGlobals x=some (some (.ref f))
abbrev Df(K:W.Frag)(x q:Str)(st:Stmt)(f:Addr):Prop:=∃fd,Fun K x q st f fd
theorem ZtC{l:W.OpenLaw}{w:World}{K:W.Frag}{h:Heap}{mg:Str→Option Value}{fa f20 f24 f25 f27 f30 f31 f32 f38 f39 f66 f67:Addr}(X:K.In h)(G:h.Ns mainGlobals mg)(hfa:mg "law"=some (.ref fa))
  {od66 an66 od67 an67:Option Addr} {sl66 sl67:Array (Option Value)} {oc66 kV66 dc66 pm66 cd66 ct66 oc67 kV67 dc67 pm67 cd67 ct67:Value} {tk0 tk1 tk2:Tok} {X0 X1 X2 yad yae yab ya3:Addr}  {dT66:Addr} {dc_66:Value} {dd_66:Option Addr} {dn_66:Nat} {ds_66:Array (Option Value)}
  (yaG:NI K "Glass" yad)
  (yaH:NI K "Plain" yae)
  (yat:NI K "Shaded" yab)
  (ybQ:NI K "Thing" ya3)
  (D1:Def K mg "_law_cell_at" Zcp ["_law_script", "_law_k"])
  (D2:Def K mg "_law_mixed" Zdf ["_law_cell", "_law_k"])
  (D3:Def K mg "_law_corner" ZcB ["_law_cell", "_law_k", "_law_many"])
  (D4:Def K mg "greatest_divisor" Zbn ["numbers"])
  (D5:Def K mg "numbers_of" Zc5 ["corner"])
  (D6:Def K mg "mixed" ZiZ ["one", "other", "first", "second"])
  (D7:Def K mg "_law_split" Zdi ["_law_pieces_here", "_law_number"])
  (D8:Def K mg "begun_at" Zez ["three", "place"])
  (D9:Def K mg "form" Zk6 ["wall", "corner"])
  (D10:Def K mg "met" Zrl ["one", "other", "form_of_one", "form_of_other"])
  (D11:Def K mg "parted" Zhg ["corners", "forms"])
  (D12:Def K mg "cut" Zqq ["triangle", "wall"])
  (D13:Def K mg "_law_pieces" ZcO ["_law_triangle", "_law_cell"])
  (D14:Def K mg "_law_point" Zc0 ["_law_number"])
  (D15:Def K mg "check_before_eye" Zbm ["corners"])
  (D16:Def K mg "is_whole" ZeN ["thing"])
  (D17:Def K mg "are_values" Zdg ["thing"])
  (D18:Def K mg "is_corner" ZdL ["thing"])
  (D19:Def K mg "check_triangle" ZbN ["triangle"])
  (a20:W.findIn K (.ref ya3) "__init__"=some (some (.ref f20))) (d20:Df K "__init__" "Thing.__init__" Zbt f20) (q20:W.isFn K (.ref f20)=true)
  (D21:Def K mg "is_fraction" ZcK ["thing"])
  (D22:Def K mg "check_colour" Zcr ["colour"])
  (D23:Def K mg "check_part" Zc2 ["part"])
  (a24:W.findIn K (.ref yad) "__init__"=some (some (.ref f24))) (d24:Df K "__init__" "Glass.__init__" Zby f24) (q24:W.isFn K (.ref f24)=true)
  (a25:W.findIn K (.ref yae) "__init__"=some (some (.ref f25))) (d25:Df K "__init__" "Plain.__init__" ZbC f25) (q25:W.isFn K (.ref f25)=true)
  (D26:Def K mg "check_values" Zcn ["triangle", "least"])
  (a27:W.findIn K (.ref yab) "__init__"=some (some (.ref f27))) (d27:Df K "__init__" "Shaded.__init__" Zbq f27) (q27:W.isFn K (.ref f27)=true)
  (D28:Def K mg "_law_lowest" ZcI ["_law_top", "_law_bottom"])
  (D29:Def K mg "_law_thing" Zc4 ["_law_triangle", "_law_cell"])
  (a30:W.findIn K (.ref yad) "colour_at"=some (some (.ref f30))) (d30:Df K "colour_at" "Glass.colour_at" Zbk f30) (q30:W.isFn K (.ref f30)=true)
  (a31:W.findIn K (.ref yae) "colour_at"=some (some (.ref f31))) (d31:Df K "colour_at" "Plain.colour_at" Zbf f31) (q31:W.isFn K (.ref f31)=true)
  (a32:W.findIn K (.ref yab) "colour_at"=some (some (.ref f32))) (d32:Df K "colour_at" "Shaded.colour_at" Zba f32) (q32:W.isFn K (.ref f32)=true)
  (D33:Def K mg "ratio" ZiO ["top", "bottom"])
  (D34:Def K mg "minus" ZiJ ["one", "other"])
  (D35:Def K mg "plus" Zmx ["one", "other"])
  (D36:Def K mg "product" ZfZ ["one", "other"])
  (D37:Def K mg "laid_over" ZdS ["glass", "colour"])
  (a38:W.findIn K (.ref yad) "is_glass"=some (some (.ref f38))) (d38:Df K "is_glass" "Glass.is_glass" Zbw f38) (q38:W.isFn K (.ref f38)=true)
  (a39:W.findIn K (.ref ya3) "is_glass"=some (some (.ref f39))) (d39:Df K "is_glass" "Thing.is_glass" ZbB f39) (q39:W.isFn K (.ref f39)=true)
  (D40:Def K mg "under" ZiK ["one", "other"])
  (D41:Def K mg "layers_over" ZcQ ["nearest", "sights"])
  (D42:Def K mg "nearest_of" Zdh ["sights"])
  (D43:Def K mg "colour_of" ZdT ["sights", "ground"])
  (D44:Def K mg "summed_products" Zbv ["three", "other"])
  (D45:Def K mg "weighed_h" ZdX ["triangle", "amounts"])
  (D46:Def K mg "depth_and_values" Zbr ["triangle", "amounts"])
  (D47:Def K mg "edge_numbers" Zck ["one", "other"])
  (D48:Def K mg "side" Zmj ["one", "other", "point"])
  (D49:Def K mg "had" Zrz ["triangle", "point"])
  (D50:Def K mg "edge_sum" ZeI ["one", "other", "point"])
  (D51:Def K mg "weights" ZfT ["triangle", "point"])
  (D52:Def K mg "seen_at" Zfk ["triangle", "point"])
  (D53:Def K mg "sights_at" ZdR ["things", "p"])
  (D54:Def K mg "colour_seen" ZcA ["things", "p", "ground"])
  (D55:Def K mg "is_between" Zdc ["thing", "least", "most"])
  (D56:Def K mg "check_floor" ZcE ["width", "height"])
  (D57:Def K mg "ground_or_none" ZbO ["ground"])
  (D58:Def K mg "mean_of" ZfM ["some"])
  (D59:Def K mg "cell_colour" ZcC ["sights_by_spot", "ground"])
  (D60:Def K mg "spot_at" Zf5 ["column", "row", "spot"])
  (D61:Def K mg "sights_in" ZdM ["things", "column", "row", "spots"])
  (D62:Def K mg "painted_row" ZcD ["things", "width", "row", "spots", "ground"])
  (D63:Def K mg "is_spot" ZfG ["thing"])
  (D64:Def K mg "check_spots" ZcR ["spots"])
  (D65:Def K mg "spots_or_middle" Zbz ["spots"])
  (a66:W.nsIn K mainGlobals "paint"=some (some (.ref f66))) (l66:K.lookup f66=some ⟨oc66,od66,.func (W.fnOf "paint" "paint" (Zch ZcL) (Za8 ZcL) (Zac ZcL) (.ref dT66) kV66 dc66 pm66 an66 cd66 ct66),sl66⟩) (c66:W.codeIn K cd66 "paint"=true) (k66:W.keepIn K (.ref f66)=true)
  (a67:W.nsIn K mainGlobals "law"=some (some (.ref f67))) (l67:K.lookup f67=some ⟨oc67,od67,.func (W.fnOf "law" "law" (Zch ZgJ) (Za8 ZgJ) (Zac ZgJ) .none kV67 dc67 pm67 an67 cd67 ct67),sl67⟩) (c67:W.codeIn K cd67 "law"=true) (k67:W.keepIn K (.ref f67)=true)
  (dl66:K.lookup dT66=some ⟨dc_66,dd_66,.seq #[.none,.none] dn_66,ds_66⟩)
  (yaQ:W.plainGet K yad Str.empty=true) (yaR:W.hasDictIn K yad=true) (yaS:W.plainOver K yad=true) (yaT:W.findIn K (.ref yad) "__setattr__"=some (some (.builtin "object.__setattr__")))
  (yaw:W.findIn K (.ref yad) "colour"=some none)
  (yaU:W.findIn K (.ref yad) "part"=some none)
  (yao:W.findIn K (.ref yad) "triangle"=some none)
  (yah:W.findIn K (.ref yad) "colour_at"=some (some (.ref f30)))
  (yap:W.findIn K (.ref yad) "is_glass"=some (some (.ref f38)))
  (ybR:W.makesIn K yad=true) (ybS:W.keepIn K (.ref yad)=true)
  (yaV:W.plainGet K yae Str.empty=true) (yaW:W.hasDictIn K yae=true) (yaX:W.plainOver K yae=true) (yaY:W.findIn K (.ref yae) "__setattr__"=some (some (.builtin "object.__setattr__")))
  (yax:W.findIn K (.ref yae) "colour"=some none)
  (yaZ:W.findIn K (.ref yae) "part"=some none)
  (yaq:W.findIn K (.ref yae) "triangle"=some none)
  (yai:W.findIn K (.ref yae) "colour_at"=some (some (.ref f31)))
  (yar:W.findIn K (.ref yae) "is_glass"=some (some (.ref f39)))
  (ybT:W.makesIn K yae=true) (ybU:W.keepIn K (.ref yae)=true)
  (yay:W.plainGet K yab Str.empty=true) (yaz:W.hasDictIn K yab=true) (yaA:W.plainOver K yab=true) (yaB:W.findIn K (.ref yab) "__setattr__"=some (some (.builtin "object.__setattr__")))
  (yau:W.findIn K (.ref yab) "colour"=some none)
  (yaK:W.findIn K (.ref yab) "part"=some none)
  (yaj:W.findIn K (.ref yab) "triangle"=some none)
  (yag:W.findIn K (.ref yab) "colour_at"=some (some (.ref f32)))
  (yak:W.findIn K (.ref yab) "is_glass"=some (some (.ref f39)))
  (ybx:W.makesIn K yab=true) (yby:W.keepIn K (.ref yab)=true)
  (ybV:W.specialIn K (.ref ya3) "__getattribute__"=some (some (.builtin "type.__getattribute__"))) (ybW:W.readsIn K ya3 (.type "type")=true) (ybX:W.findCls K (.ref ya3) (.type "type") "__init__"=some (.val (.ref f20))) (ybY:W.handedIn (.ref f20)=true)
  (z0:W.nsIn K mainGlobals "abs"=some none)
  (z1:W.nsIn K mainGlobals "all"=some none)
  (z2:W.nsIn K mainGlobals "any"=some none)
  (z3:W.nsIn K mainGlobals "bool"=some none)
  (z4:W.nsIn K mainGlobals "int"=some none)
  (z5:W.nsIn K mainGlobals "isinstance"=some none)
  (z6:W.nsIn K mainGlobals "len"=some none)
  (z7:W.nsIn K mainGlobals "list"=some none)
  (z8:W.nsIn K mainGlobals "max"=some none)
  (z9:W.nsIn K mainGlobals "range"=some none)
  (z10:W.nsIn K mainGlobals "set"=some none)
  (z11:W.nsIn K mainGlobals "tuple"=some none)
  (z12:W.nsIn K mainGlobals "zip"=some none)
  (gc0:W.nsIn K mainGlobals "MOST_CELLS"=some (some (.int 64 tk0)))
  (gc1:W.nsIn K mainGlobals "MOST_SPOTS"=some (some (.int 16 tk1)))
  (gc2:W.nsIn K mainGlobals "MOST_VALUES"=some (some (.int 3 tk2)))
  (xa0:W.nsIn K mainGlobals "BadFloor"=some (some (.ref X0))) (xb0:W.excIn K X0 Zha "ValueError.__new__"=true)
  (xa1:W.nsIn K mainGlobals "BadThing"=some (some (.ref X1))) (xb1:W.excIn K X1 Zha "ValueError.__new__"=true)
  (xa2:W.nsIn K mainGlobals "BadTriangle"=some (some (.ref X2))) (xb2:W.excIn K X2 Zha "ValueError.__new__"=true)
  : ∃fd:FuncData,(∀(s:Shared) (v:Value),BindsTo s fd ⟨[v],[]⟩ [("_law_script", v)])∧∀base:Heap,K.In base→base.Ns mainGlobals mg→FnOk l.prog w K mg base (CXR l.prog w) 10 fa fd ["_law_script"] (Zoj K):=by
 have e:=hfa.symm.trans (Vcu X G a67)
 cases e
 have T:Txt K mg:=⟨Vcv X G z0,Vcv X G z1,Vcv X G z2,Vcv X G z3,Vcv X G z4,Vcv X G z5,Vcv X G z6,Vcv X G z7,Vcv X G z8,Vcv X G z9,Vcv X G z10,Vcv X G z11,Vcv X G z12,⟨_,Vcu X G gc0⟩,⟨_,Vcu X G gc1⟩,⟨_,Vcu X G gc2⟩,⟨_,Vcu X G xa0,xb0⟩,⟨_,Vcu X G xa1,xb1⟩,⟨_,Vcu X G xa2,xb2⟩,(.cons (fun C hC=>by cases (Vcu X G yaH).symm.trans hC;exact ⟨⟨yaV,yaW,yaX,yaY⟩,yax⟩) (.cons (fun C hC=>by cases (Vcu X G yat).symm.trans hC;exact ⟨⟨yay,yaz,yaA,yaB⟩,yau⟩) (.cons (fun C hC=>by cases (Vcu X G yaG).symm.trans hC;exact ⟨⟨yaQ,yaR,yaS,yaT⟩,yaw⟩) .nil))),(.cons (fun C hC=>by cases (Vcu X G yaH).symm.trans hC;exact ⟨⟨yaV,yaW,yaX,yaY⟩,yaZ⟩) (.cons (fun C hC=>by cases (Vcu X G yat).symm.trans hC;exact ⟨⟨yay,yaz,yaA,yaB⟩,yaK⟩) (.cons (fun C hC=>by cases (Vcu X G yaG).symm.trans hC;exact ⟨⟨yaQ,yaR,yaS,yaT⟩,yaU⟩) .nil))),(.cons (fun C hC=>by cases (Vcu X G yaH).symm.trans hC;exact ⟨⟨yaV,yaW,yaX,yaY⟩,yaq⟩) (.cons (fun C hC=>by cases (Vcu X G yat).symm.trans hC;exact ⟨⟨yay,yaz,yaA,yaB⟩,yaj⟩) (.cons (fun C hC=>by cases (Vcu X G yaG).symm.trans hC;exact ⟨⟨yaQ,yaR,yaS,yaT⟩,yao⟩) .nil)))⟩
 obtain ⟨_,F20⟩:=d20
 have B20:=F20.binds (ps:=["self", "triangle"]) (by walk_at "b2")
 obtain ⟨_,F24⟩:=d24
 have B24:=F24.binds (ps:=["self", "triangle", "colour", "part"]) (by walk_at "b4")
 obtain ⟨_,F25⟩:=d25
 have B25:=F25.binds (ps:=["self", "triangle", "colour"]) (by walk_at "b3")
 obtain ⟨_,F27⟩:=d27
 have B27:=F27.binds (ps:=["self", "triangle"]) (by walk_at "b2")
 obtain ⟨_,F30⟩:=d30
 have B30:=F30.binds (ps:=["self", "values"]) (by walk_at "b2")
 obtain ⟨_,F31⟩:=d31
 have B31:=F31.binds (ps:=["self", "values"]) (by walk_at "b2")
 obtain ⟨_,F32⟩:=d32
 have B32:=F32.binds (ps:=["self", "values"]) (by walk_at "b2")
 obtain ⟨_,F38⟩:=d38
 have B38:=F38.binds (ps:=["self"]) (by walk_at "b1")
 obtain ⟨_,F39⟩:=d39
 have B39:=F39.binds (ps:=["self"]) (by walk_at "b1")
 have F66:FunD K "paint" "paint" ZcL (.ref dT66) f66 _:=⟨_,_,_,_,_,_,_,_,_,rfl,l66,c66⟩
 have F67:=ZcV (st:=ZgJ) l67 c67 k67
 have D67:=dmk F67 (F67.binds (ps:=["_law_script"]) (by walk_at "b1")) (Vcu X G a67)
 refine ⟨W.fnOf "law" "law" (Zch ZgJ) (Za8 ZgJ) (Zac ZgJ) .none kV67 dc67 pm67 an67 cd67 ct67,fun s v=>.of_eq rfl,fun base _ _=>?_⟩
 have ybE:=Zfq (P:=l.prog) (w:=w) (base:=base) T D1
 have yaI:=ZgR (P:=l.prog) (w:=w) (base:=base) T D2
 have ybZ:=Zga (P:=l.prog) (w:=w) (base:=base) T D3 yaI
 have yal:=ZdN (P:=l.prog) (w:=w) (base:=base) T D4
 have yca:=Zhc (P:=l.prog) (w:=w) (base:=base) T D5
 have ycy:=Zn2 (P:=l.prog) (w:=w) (base:=base) T D6 yal yca
 have ycb:=Zg6 (P:=l.prog) (w:=w) (base:=base) T D7 ycy
 have ycs:=Zip (P:=l.prog) (w:=w) (base:=base) T D8
 have ycU:=ZqK (P:=l.prog) (w:=w) (base:=base) T D9
 have yc3:=Ztc (P:=l.prog) (w:=w) (base:=base) T D10 ycy
 have ycI:=ZlW (P:=l.prog) (w:=w) (base:=base) T D11 yc3
 have yc4:=ZtH (P:=l.prog) (w:=w) (base:=base) T D12 ycs ycU ycI
 have yb0:=Zf7 (P:=l.prog) (w:=w) (base:=base) T D13 yaI ycb yc4
 have ycc:=Zhk (P:=l.prog) (w:=w) (base:=base) T D14
 have yaJ:=ZdK (P:=l.prog) (w:=w) (base:=base) T D15
 have ya4:=ZiU (P:=l.prog) (w:=w) (base:=base) T D16
 have ycd:=ZgQ (P:=l.prog) (w:=w) (base:=base) T D17 ya4
 have yck:=ZhE (P:=l.prog) (w:=w) (base:=base) T D18 ya4 ycd
 have ybu:=ZeB (P:=l.prog) (w:=w) (base:=base) T D19 yck
 have ybm:=Zm8 (P:=l.prog) (w:=w) (base:=base) T F20 yaJ ybu
 have CS_Thing:CalS l.prog w K mg base 5 "Thing" "__init__" 1 objs Zcl:=⟨_,_,_,_,Vcu X G ybQ,⟨ybV,⟨_,ybW,ybX⟩,ybY,F20.kp⟩,ybm,B20⟩
 have ybe:=Zgg (P:=l.prog) (w:=w) (base:=base) T D21 yal ya4
 have ya5:=ZfX (P:=l.prog) (w:=w) (base:=base) T D22 ybe
 have yce:=Zg9 (P:=l.prog) (w:=w) (base:=base) T D23 ybe
 have ybn:=Znq (P:=l.prog) (w:=w) (base:=base) T F24 CS_Thing ya5 yce
 have CI_Glass:CalI l.prog w K mg base 7 "Glass" 3 objs ZdU:=⟨_,_,_,_,Vcu X G yaG,⟨ybR,a24,q24,ybS⟩,ybn,B24,rfl⟩
 have ybo:=Zoc (P:=l.prog) (w:=w) (base:=base) T F25 CS_Thing ya5
 have CI_Plain:CalI l.prog w K mg base 7 "Plain" 2 objs ZdW:=⟨_,_,_,_,Vcu X G yaH,⟨ybT,a25,q25,ybU⟩,ybo,B25,rfl⟩
 have ybF:=Zfp (P:=l.prog) (w:=w) (base:=base) T D26
 have ybf:=Zlf (P:=l.prog) (w:=w) (base:=base) T F27 CS_Thing ybF
 have CI_Shaded:CalI l.prog w K mg base 7 "Shaded" 1 objs ZcF:=⟨_,_,_,_,Vcu X G yat,⟨ybx,a27,q27,yby⟩,ybf,B27,rfl⟩
 have yb1:=Zf9 (P:=l.prog) (w:=w) (base:=base) T D28
 have ycf:=ZgX (P:=l.prog) (w:=w) (base:=base) T D29 yaI CI_Glass CI_Plain CI_Shaded yb1
 have ybg:=ZdV (P:=l.prog) (w:=w) (base:=base) T F30
 have ybh:=ZdZ (P:=l.prog) (w:=w) (base:=base) T F31
 have ya7:=Zdv (P:=l.prog) (w:=w) (base:=base) T F32
 have CM_colour_at:Zcw l.prog w K mg base 1 1 "colour_at" ZaY:=(.cons (fun C hC=>by cases (Vcu X G yaH).symm.trans hC;exact ⟨⟨yaV,yaW,yaX,yaY⟩,_,_,_,⟨yai,q31,F31.kp⟩,ybh.mono (by decide),B31,rfl⟩) (.cons (fun C hC=>by cases (Vcu X G yat).symm.trans hC;exact ⟨⟨yay,yaz,yaA,yaB⟩,_,_,_,⟨yag,q32,F32.kp⟩,ya7.mono (by decide),B32,rfl⟩) (.cons (fun C hC=>by cases (Vcu X G yaG).symm.trans hC;exact ⟨⟨yaQ,yaR,yaS,yaT⟩,_,_,_,⟨yah,q30,F30.kp⟩,ybg.mono (by decide),B30,rfl⟩) .nil)))
 have ybz:=Zne (P:=l.prog) (w:=w) (base:=base) T D33 yal
 have ycN:=ZnT (P:=l.prog) (w:=w) (base:=base) T D34 ybz
 have ycJ:=Zpp (P:=l.prog) (w:=w) (base:=base) T D35 ybz
 have ycz:=Zj1 (P:=l.prog) (w:=w) (base:=base) T D36 ybz
 have ycl:=Zh4 (P:=l.prog) (w:=w) (base:=base) T D37 ycN ycJ ycz
 have ybp:=Zec (P:=l.prog) (w:=w) (base:=base) T F38
 have yaN:=Zd4 (P:=l.prog) (w:=w) (base:=base) T F39
 have CM_is_glass:Zcw l.prog w K mg base 1 0 "is_glass" ZaW:=(.cons (fun C hC=>by cases (Vcu X G yaH).symm.trans hC;exact ⟨⟨yaV,yaW,yaX,yaY⟩,_,_,_,⟨yar,q39,F39.kp⟩,yaN.mono (by decide),B39,rfl⟩) (.cons (fun C hC=>by cases (Vcu X G yat).symm.trans hC;exact ⟨⟨yay,yaz,yaA,yaB⟩,_,_,_,⟨yak,q39,F39.kp⟩,yaN.mono (by decide),B39,rfl⟩) (.cons (fun C hC=>by cases (Vcu X G yaG).symm.trans hC;exact ⟨⟨yaQ,yaR,yaS,yaT⟩,_,_,_,⟨yap,q38,F38.kp⟩,ybp.mono (by decide),B38,rfl⟩) .nil)))
 have ycA:=Zni (P:=l.prog) (w:=w) (base:=base) T D40
 have yb2:=Zgd (P:=l.prog) (w:=w) (base:=base) T D41 CM_is_glass ycA
 have ycg:=Zhm (P:=l.prog) (w:=w) (base:=base) T D42 CM_is_glass ycA
 have ybA:=ZhQ (P:=l.prog) (w:=w) (base:=base) T D43 CM_colour_at ycl yb2 ycg
 have yaf:=Zd8 (P:=l.prog) (w:=w) (base:=base) T D44
 have ycm:=Zih (P:=l.prog) (w:=w) (base:=base) T D45 yaf
 have ybi:=ZdJ (P:=l.prog) (w:=w) (base:=base) T D46 ybz yaf ycm
 have ya6:=Zfw (P:=l.prog) (w:=w) (base:=base) T D47
 have ycV:=ZqS (P:=l.prog) (w:=w) (base:=base) T D48 yaf ya6
 have yc5:=Ztz (P:=l.prog) (w:=w) (base:=base) T D49 yaJ ycV
 have yct:=Ziz (P:=l.prog) (w:=w) (base:=base) T D50 yaf ya6
 have ycB:=Zj2 (P:=l.prog) (w:=w) (base:=base) T D51 yct
 have ycC:=Zkj (P:=l.prog) (w:=w) (base:=base) T D52 ybi yc5 ycB
 have ybB:=Zhw (P:=l.prog) (w:=w) (base:=base) T D53 ycC
 have yb3:=Zgf (P:=l.prog) (w:=w) (base:=base) T D54 ybA ybB
 have ybs:=ZgT (P:=l.prog) (w:=w) (base:=base) T D55 ya4
 have yb4:=Zge (P:=l.prog) (w:=w) (base:=base) T D56 ybs
 have ybv:=ZeG (P:=l.prog) (w:=w) (base:=base) T D57
 have ycD:=Zkp (P:=l.prog) (w:=w) (base:=base) T D58 ybz ycJ
 have yb5:=Zgb (P:=l.prog) (w:=w) (base:=base) T D59 ybA ycD
 have ycE:=Zkr (P:=l.prog) (w:=w) (base:=base) T D60
 have ycn:=ZhM (P:=l.prog) (w:=w) (base:=base) T D61 ybB ycE
 have yb6:=Zf8 (P:=l.prog) (w:=w) (base:=base) T D62 yb5 ycn
 have ycF:=Zkx (P:=l.prog) (w:=w) (base:=base) T D63 ybs
 have yb7:=Zgc (P:=l.prog) (w:=w) (base:=base) T D64 ycF
 have ybq:=Zen (P:=l.prog) (w:=w) (base:=base) T D65 yb7
 have K_paint:=Znn (P:=l.prog) (w:=w) (base:=base) T F66 yb4 ybv yb6 ybq
 have B_paint:Binds K (W.fnOf "paint" "paint" (Zch ZcL) (Za8 ZcL) (Zac ZcL) (.ref dT66) kV66 dc66 pm66 an66 cd66 ct66) ["things", "width", "height", "spots", "ground"] []:=fun s us X hl=>My.ln5 (P:=fun us=>BindsTo s _ {pos:=us} (List.zip (["things", "width", "height", "spots", "ground"]:List Str) (us++[]))) (fun _ _ _ _ _=>BindsTo.of_defaults rfl (X _ _ dl66) rfl rfl rfl) us (by simpa using hl)
 have ycO:Cal l.prog w K mg base 8 "paint" ["things", "width", "height", "spots", "ground"] ZdQ:=⟨_,_,K_paint,B_paint,k66,Vcu X G a66⟩
 exact (Ztv (P:=l.prog) (w:=w) (base:=base) T F67 ybE yaI ybZ yb0 ycc ycf yb3 ycO).imp (Zsj ZmS)
theorem walk{l:W.OpenLaw}{q:Program}{loose:List Str}{XP:(Str→Option Value)→Heap→Prop}{YP:World→Heap→Prop}{d:DefRec}{K:Params→W.Frag}(hn:l.most=some 63)(hdf:d.params.defaults=[])
  (hY:∀(w:World) (h:Heap),YP w h→(K w.params).In h)
  (F:∀(w:World) (mg:Str→Option Value) (fa:Addr) (h:Heap),(K w.params).In h→h.Ns mainGlobals mg→mg d.name=some (.ref fa) →
   ∃fd:FuncData,(∀(s:Shared) (u:Value),BindsTo s fd ⟨[u],[]⟩ [("_law_script", u)])∧∀base:Heap,(K w.params).In base→base.Ns mainGlobals mg→FnOk l.prog w (K w.params) mg base (CXR l.prog w) 10 fa fd ["_law_script"] (Zoj (K w.params))) :
  W.WalkO q loose XP YP l.row.toRowW d [] (fun f vs=>PySem.call f vs) :=
 L2.ZqL (n:=63) (k:=10) (x := "_law_script") (CX:=fun w=>CXR l.prog w) (sp:=fun w=>Zoj (K w.params)) hn (by decide) hdf ⟨rfl,by decide,by decide⟩ hY F (fun _ _ a ns hl _ hS=>⟨a,ns,rfl,hS,hl,fun _=>rfl⟩) fun _ _ _ _ _ z=>ZsH z
end My
set_option hygiene false in
local macro_rules | `(tactic| walk_at "df")=>`(tactic| (refine' ⟨_,L2.ZcV ?l ?c ?k⟩;(case l=>k_is);(case c=>k_is);(case k=>k_is)))
set_option hygiene false in
local macro_rules | `(tactic| walk_at "dd1")=>`(tactic| (refine' ⟨_,_,L2.ZcV ?l ?c ?k,L2.Fun.binds (L2.ZcV ?l ?c ?k) (fun _ _ _ _ _ _=>My.ln1 fun _=>rfl),Vcu KX G ?a⟩;(case a=>k_is);(case l=>k_is);(case c=>k_is);(case k=>k_is)))
set_option hygiene false in
local macro_rules | `(tactic| walk_at "dd2")=>`(tactic| (refine' ⟨_,_,L2.ZcV ?l ?c ?k,L2.Fun.binds (L2.ZcV ?l ?c ?k) (fun _ _ _ _ _ _=>My.ln2 fun _ _=>rfl),Vcu KX G ?a⟩;(case a=>k_is);(case l=>k_is);(case c=>k_is);(case k=>k_is)))
set_option hygiene false in
local macro_rules | `(tactic| walk_at "dd3")=>`(tactic| (refine' ⟨_,_,L2.ZcV ?l ?c ?k,L2.Fun.binds (L2.ZcV ?l ?c ?k) (fun _ _ _ _ _ _=>My.ln3 fun _ _ _=>rfl),Vcu KX G ?a⟩;(case a=>k_is);(case l=>k_is);(case c=>k_is);(case k=>k_is)))
set_option hygiene false in
local macro_rules | `(tactic| walk_at "dd4")=>`(tactic| (refine' ⟨_,_,L2.ZcV ?l ?c ?k,L2.Fun.binds (L2.ZcV ?l ?c ?k) (fun _ _ _ _ _ _=>My.ln4 fun _ _ _ _=>rfl),Vcu KX G ?a⟩;(case a=>k_is);(case l=>k_is);(case c=>k_is);(case k=>k_is)))
set_option hygiene false in
local macro_rules | `(tactic| walk_at "dd5")=>`(tactic| (refine' ⟨_,_,L2.ZcV ?l ?c ?k,L2.Fun.binds (L2.ZcV ?l ?c ?k) (fun _ _ _ _ _ _=>My.ln5 fun _ _ _ _ _=>rfl),W.mg_of KX G ?a⟩;(case a=>k_is);(case l=>k_is);(case c=>k_is);(case k=>k_is)))
local macro_rules | `(tactic| walk_at "ni")=>`(tactic| (delta My.NI;k_is))
open PySem PySem.W PyProof.Rows
set_option maxRecDepth 100000 in
set_option maxHeartbeats 0 in
theorem PySem.Challenge.cw_sampleyard_k91_whole_pictures_of_nets_holds : PySem.Challenge.rw_sampleyard_k91_whole_pictures_of_nets.Holds := by
 w_on;refine holds_law Hd.said fun said=>?_
 refine holds_open (r:=PySem.Challenge.rw_sampleyard_k91_whole_pictures_of_nets.row) (q:=Hd.view) (loose:=["paint"]) (Xt:=(fun s=>xlAt Hd.view [] s&&recOk (RowW.records PySem.Challenge.rw_sampleyard_k91_whole_pictures_of_nets.row.toRowW) s)) (XP:=XL Hd.view []) (Yf:=Hook.obs (kHook Hd.heap Hd.addrs Hd.Zds)) (Ya:=Hook.val (kHook Hd.heap Hd.addrs Hd.Zds)) (YP:=Hook.says (kHook Hd.heap Hd.addrs Hd.Zds)) (N:=Hd.most) Hd.left (Hook.of (kHook Hd.heap Hd.addrs Hd.Zds)) (Hook.keeps (kHook Hd.heap Hd.addrs Hd.Zds)) (fun s e=>xl_of s (Bool.and_eq_true_iff.mp e).1) XL.keeps (by rfl) (by rfl) (by rfl) (fun s e=>recFacts_of (Bool.and_eq_true_iff.mp e).2) (by rfl) (by assumption) (by decide +kernel) ⟨rfl,rfl,rfl,rfl,rfl,by decide +kernel⟩ ?hw ?hc
 case hw=>w_witness2
 k_fill
 refine My.walk (l:=PySem.Challenge.rw_sampleyard_k91_whole_pictures_of_nets) rfl rfl (fun w h Y=>W.kIn_of Y) ?F
 case F =>
  intro w mg fa h KX G hmg
  refine' My.ZtC KX G hmg ?yaG ?yaH ?yat ?ybQ ?D1 ?D2 ?D3 ?D4 ?D5 ?D6 ?D7 ?D8 ?D9 ?D10 ?D11 ?D12 ?D13 ?D14 ?D15 ?D16 ?D17 ?D18 ?D19 ?a20 ?d20 ?q20 ?D21 ?D22 ?D23 ?a24 ?d24 ?q24 ?a25 ?d25 ?q25 ?D26 ?a27 ?d27 ?q27 ?D28 ?D29 ?a30 ?d30 ?q30 ?a31 ?d31 ?q31 ?a32 ?d32 ?q32 ?D33 ?D34 ?D35 ?D36 ?D37 ?a38 ?d38 ?q38 ?a39 ?d39 ?q39 ?D40 ?D41 ?D42 ?D43 ?D44 ?D45 ?D46 ?D47 ?D48 ?D49 ?D50 ?D51 ?D52 ?D53 ?D54 ?D55 ?D56 ?D57 ?D58 ?D59 ?D60 ?D61 ?D62 ?D63 ?D64 ?D65 ?a66 ?l66 ?c66 ?k66 ?a67 ?l67 ?c67 ?k67 ?dl66 ?yaQ ?yaR ?yaS ?yaT ?yaw ?yaU ?yao ?yah ?yap ?ybR ?ybS ?yaV ?yaW ?yaX ?yaY ?yax ?yaZ ?yaq ?yai ?yar ?ybT ?ybU ?yay ?yaz ?yaA ?yaB ?yau ?yaK ?yaj ?yag ?yak ?ybx ?yby ?ybV ?ybW ?ybX ?ybY ?z0 ?z1 ?z2 ?z3 ?z4 ?z5 ?z6 ?z7 ?z8 ?z9 ?z10 ?z11 ?z12 ?gc0 ?gc1 ?gc2 ?xa0 ?xb0 ?xa1 ?xb1 ?xa2 ?xb2
  (case yaG=>walk_at "ni")
  (case yaH=>walk_at "ni")
  (case yat=>walk_at "ni")
  (case ybQ=>walk_at "ni")
  (case D1=>walk_at "dd2")
  (case D2=>walk_at "dd2")
  (case D3=>walk_at "dd3")
  (case D4=>walk_at "dd1")
  (case D5=>walk_at "dd1")
  (case D6=>walk_at "dd4")
  (case D7=>walk_at "dd2")
  (case D8=>walk_at "dd2")
  (case D9=>walk_at "dd2")
  (case D10=>walk_at "dd4")
  (case D11=>walk_at "dd2")
  (case D12=>walk_at "dd2")
  (case D13=>walk_at "dd2")
  (case D14=>walk_at "dd1")
  (case D15=>walk_at "dd1")
  (case D16=>walk_at "dd1")
  (case D17=>walk_at "dd1")
  (case D18=>walk_at "dd1")
  (case D19=>walk_at "dd1")
  case a20=>k_is
  (case d20=>walk_at "df")
  case q20=>k_is
  (case D21=>walk_at "dd1")
  (case D22=>walk_at "dd1")
  (case D23=>walk_at "dd1")
  case a24=>k_is
  (case d24=>walk_at "df")
  case q24 | a25=>k_is
  (case d25=>walk_at "df")
  case q25=>k_is
  (case D26=>walk_at "dd2")
  case a27=>k_is
  (case d27=>walk_at "df")
  case q27=>k_is
  (case D28=>walk_at "dd2")
  (case D29=>walk_at "dd2")
  case a30=>k_is
  (case d30=>walk_at "df")
  case q30 | a31=>k_is
  (case d31=>walk_at "df")
  case q31 | a32=>k_is
  (case d32=>walk_at "df")
  case q32=>k_is
  (case D33=>walk_at "dd2")
  (case D34=>walk_at "dd2")
  (case D35=>walk_at "dd2")
  (case D36=>walk_at "dd2")
  (case D37=>walk_at "dd2")
  case a38=>k_is
  (case d38=>walk_at "df")
  case q38 | a39=>k_is
  (case d39=>walk_at "df")
  case q39=>k_is
  (case D40=>walk_at "dd2")
  (case D41=>walk_at "dd2")
  (case D42=>walk_at "dd1")
  (case D43=>walk_at "dd2")
  (case D44=>walk_at "dd2")
  (case D45=>walk_at "dd2")
  (case D46=>walk_at "dd2")
  (case D47=>walk_at "dd2")
  (case D48=>walk_at "dd3")
  (case D49=>walk_at "dd2")
  (case D50=>walk_at "dd3")
  (case D51=>walk_at "dd2")
  (case D52=>walk_at "dd2")
  (case D53=>walk_at "dd2")
  (case D54=>walk_at "dd3")
  (case D55=>walk_at "dd3")
  (case D56=>walk_at "dd2")
  (case D57=>walk_at "dd1")
  (case D58=>walk_at "dd1")
  (case D59=>walk_at "dd2")
  (case D60=>walk_at "dd3")
  (case D61=>walk_at "dd4")
  (case D62=>walk_at "dd5")
  (case D63=>walk_at "dd1")
  (case D64=>walk_at "dd1")
  (case D65=>walk_at "dd1")
  case a66 | l66 | c66 | k66 | a67 | l67 | c67 | k67 | dl66 | yaQ | yaR | yaS | yaT | yaw | yaU | yao | yah | yap | ybR | ybS | yaV | yaW | yaX | yaY | yax=>k_is
  case yaZ | yaq | yai | yar | ybT | ybU | yay | yaz | yaA | yaB | yau | yaK | yaj | yag | yak | ybx | yby | ybV | ybW | ybX=>k_is
  case ybY=>rfl
  case z0 | z1 | z2 | z3 | z4 | z5 | z6 | z7 | z8 | z9 | z10 | z11 | z12 | gc0 | gc1 | gc2 | xa0=>k_is
  case xb0=>k_exc
  case xa1=>k_is
  case xb1=>k_exc
  case xa2=>k_is
  case xb2=>k_exc
