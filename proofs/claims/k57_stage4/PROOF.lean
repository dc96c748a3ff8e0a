import PyProof.Rows.All
import Wide.All
import OpenK.AllK
import Wide.FinOn
import Lean
import KE.KLam
import KE.KNestM
import PyProof.EqAt
import PyProof.EqKinds
import PyProof.TupleCall
import PyProof.P3Eq
import PyProof.NeData
import PySem.Challenge.RW_sampleyard_k57_whole_order_and_places
set_option Elab.async false
set_option linter.all false
set_option maxRecDepth 100000
noncomputable section
theorem Hd.said:PySem.W.OpenLaw.wellSaid PySem.Challenge.rw_sampleyard_k57_whole_order_and_places=true:=by kernel_rfl
abbrev Vaa:=@List.map_congr_left
abbrev Vab:=@decide_eq_false
abbrev Vac:=@beq_eq_false_iff_ne
abbrev Vad:=@PySem.Heap.lt_size
abbrev Vae:=@Nat.lt_of_lt_of_le
abbrev Vaf:=@Nat.lt_irrefl
abbrev Vag:=@Nat.ne_of_lt
abbrev Vah:=@List.mem_filter
abbrev Vai:=@List.mem_range
abbrev Vaj:=@Nat.le_trans
abbrev Vak:=@Nat.le_of_lt
abbrev Vam:=@List.filterMap_cons
abbrev Van:=@List.mem_cons_self
abbrev Vao:=@List.mem_cons_of_mem
abbrev Vap:=@PySem.Heap.get?_none_of_le
abbrev Vaq:=@List.mem_cons
abbrev Var:=@List.mem_append
abbrev Vas:=@List.mem_append_left
abbrev Vat:=@List.getElem?_eq_some_iff
abbrev Vau:=@Option.some.inj
abbrev Vav:=@PySem.wpAny_mono
abbrev Vaw:=@Array.length_toList
abbrev Vax:=@congrArg
abbrev Vay:=@PySem.wpAny_passesOwn
abbrev Vaz:=@Bool.false_ne_true
abbrev VaA:=@Nat.ne_of_gt
abbrev VaB:=@PySem.wpAny_pure
abbrev VaC:=@PySem.wpAny_bind
abbrev VaD:=@PySem.Heap.get?_push_of_some
abbrev VaE:=@PySem.Heap.get?_push_size
abbrev VaF:=@Nat.le_refl
abbrev VaG:=@PyProof.Rows.callWith_type1
abbrev VaH:=@List.mem_filterMap
abbrev VaI:=@List.mem_append_right
abbrev VaJ:=@Int.fdiv_eq_ediv_of_nonneg
abbrev VaK:=@beq_iff_eq
abbrev VaL:=@List.length_cons
abbrev VaM:=@List.map_cons
abbrev VaN:=@List.length_map
abbrev VaO:=@PySem.Heap.size_push
abbrev VaP:=@Nat.lt_succ_self
abbrev VaQ:=@Nat.zero_le
abbrev VaR:=@PySem.W.kia_one
abbrev VaS:=@List.append_nil
abbrev VaT:=@PySem.codeAny_mono
abbrev VaU:=@PySem.wpAny_Call_Name_kw
abbrev VaV:=@List.nodup_cons
abbrev VaW:=@List.of_mem_zip
abbrev VaX:=@List.length_take
abbrev VaY:=@PySem.mem_of_lookup
abbrev VaZ:=@List.getElem?_append_right
abbrev Va0:=@List.getElem?_replicate
abbrev Va1:=@List.getElem?_append_left
abbrev Va2:=@List.getElem?_map
abbrev Va3:=@List.mem_of_getElem?
abbrev Va4:=@List.length_append
abbrev Va5:=@List.length_replicate
abbrev Va6:=@List.size_toArray
abbrev Va7:=@if_false
abbrev Va8:=@if_true
abbrev Va9:=@PySem.wpAny_field
abbrev Vba:=@List.filterMap_map
abbrev Vbb:=@List.length_drop
abbrev Vbc:=@PySem.wpAny_holding
abbrev Vbd:=@PySem.wpAny_callSpecial?_slot
abbrev Vbe:=@PyProof.Rows.slot_tuple_getitem
abbrev Vbf:=@PySem.wpAny_call_entry
abbrev Vbg:=@PySem.wpAny_typeOf
abbrev Vbh:=@Bool.and_eq_true
abbrev Vbi:=@PySem.wpAny_newObj_type
abbrev Vbj:=@List.reverse_cons
abbrev Vbk:=@PySem.Heap.get?_update_other
abbrev Vbl:=@List.length_singleton
abbrev Vbm:=@decide_eq_true
abbrev Vbn:=@Nat.lt_of_le_of_lt
abbrev Vbo:=@List.forIn_cons
abbrev Vbp:=@List.forIn_nil
abbrev Vbq:=@List.lookup_cons
abbrev Vbr:=@Nat.lt_trans
abbrev Vbs:=@List.mem_map
abbrev Vbt:=@List.drop_eq_getElem_cons
abbrev Vbu:=@Bool.false_eq_true
abbrev Vbv:=@PySem.wpAny_pyIter_list
abbrev Vbw:=@List.drop_zero
abbrev Vbx:=@List.take_of_length_le
abbrev Vby:=@PySem.F.slot_tuple_iterator_next
abbrev Vbz:=@PySem.wpAny_seqItems
abbrev VbA:=@Int.toNat_natCast
abbrev VbB:=@PySem.Heap.SameBut.update
abbrev VbC:=@PySem.Heap.get?_update_self
abbrev VbD:=@PySem.Obj.data_mapFields
abbrev VbE:=@List.length_set
abbrev VbF:=@List.length_range
abbrev VbG:=@List.getElem?_range
abbrev VbH:=@List.getElem?_eq_getElem
abbrev VbI:=@List.drop_eq_nil_of_le
abbrev VbJ:=@List.map_map
abbrev VbK:=@List.append_assoc
abbrev VbL:=@List.any_cons
abbrev VbM:=@PySem.wpAny_updateSeq
abbrev VbN:=@PySem.wpAny_setField_rec
abbrev VbO:=@PySem.wpAny_onRaise
abbrev VbP:=@Array.forIn_toList
abbrev VbQ:=@List.not_mem_nil
abbrev VbR:=@or_false
abbrev VbS:=@PySem.codeAny_builtin
abbrev VbT:=@PySem.Around.under_plainId
abbrev VbU:=@PySem.F.plain_extend_loop
abbrev VbV:=@List.map_append
abbrev VbW:=@List.take_append_drop
abbrev VbX:=@Array.getElem?_eq_some_iff
abbrev VbY:=@Nat.mod_lt
abbrev VbZ:=@Int.emod_nonneg
abbrev Vb0:=@Int.emod_lt_of_pos
abbrev Vb1:=@List.pairwise_iff_getElem
abbrev Vb2:=@Array.getElem?_eq_getElem
abbrev Vb3:=@List.getElem_mem
abbrev Vb4:=@List.mem_iff_getElem
abbrev Vb5:=@List.map_take
abbrev Vb6:=@List.pairwise_cons
abbrev Vb7:=@Classical.byContradiction
abbrev Vb8:=@List.mem_singleton
abbrev Vb9:=@PySem.wpAny_setState_of
abbrev Vca:=@Int.natAbs_natCast
abbrev Vcb:=@Int.natAbs_dvd_natAbs
abbrev Vcc:=@Int.mul_le_mul_of_nonneg_left
abbrev Vcd:=@Int.mul_pos
abbrev Vce:=@Int.mul_le_mul_of_nonneg_right
abbrev Vcf:=@Nat.min_eq_left
abbrev Vcg:=@List.mem_of_mem_take
abbrev Vch:=@Rat.num_divInt_den
abbrev Vci:=@List.filter_cons
abbrev Vcj:=@List.foldl_append
abbrev Vck:=@List.filter_append
abbrev Vcl:=@List.filter_nil
abbrev Vcm:=@decide_eq_true_eq
abbrev Vcn:=@List.length_filter_le
abbrev Vco:=@Bool.eq_iff_iff
abbrev Vcp:=@Nat.mul_le_mul_right
abbrev Vcq:=@PySem.PassesOwn.leaving
abbrev Vcr:=@PySem.W.mg_of
abbrev Vcs:=@PySem.W.mg_none_of
namespace L2
open PySem
def inClass(s:Stmt)(j:Nat):Stmt:=match s with
 | .ClassDef _ _ _ body _ _ _ _ _ _ _=>body.getD j (.Pass ⟨0,0,0,0⟩)
 | _=>.Pass ⟨0,0,0,0⟩
def Zb2(s:Stmt):Arguments:=match s with
 | .FunctionDef _ a _ _ _ _ _ _ _ _=>a
 | _=>{ posonlyargs:=[],args:=[],vararg:=none,kwonlyargs:=[],kw_defaults:=[],kwarg:=none,defaults:=[] }
def Za5(s:Stmt):List Stmt:=match s with
 | .FunctionDef _ _ b _ _ _ _ _ _ _=>b
 | _=>[]
def Zab(s:Stmt):Scope:=match s with
 | .FunctionDef _ _ _ _ _ _ sc _ _ _=>sc
 | _=>{ kind:=.function,names:=[],isGenerator:=false,isCoroutine:=false }
end L2
namespace Hd
open PySem PySem.W L2
abbrev top(i:Nat):Stmt:=PySem.Challenge.pw_sampleyard_k57_whole_order_and_places.main.body.getD i (.Pass ⟨0,0,0,0⟩)
def view:Program:={ PySem.Challenge.pw_sampleyard_k57_whole_order_and_places with main:={ PySem.Challenge.pw_sampleyard_k57_whole_order_and_places.main with body:=[top 0,top 2,top 3,top 4,top 5,top 6,top 8,top 9,top 10,top 11,top 13,top 14,top 15,top 16,top 17,top 18,top 19,top 20,top 22,top 23,top 24,top 25,top 26,top 27,top 29,top 30,top 31,top 33,top 35,top 36,top 37,top 38,top 39,top 40,top 41,top 42,top 43,top 44,top 45,top 46,top 48,top 49,top 50,top 52,top 54,top 55,top 56,top 57,top 59,top 60,top 61,top 62,top 64,top 65,top 66,top 67,top 68,top 69,top 70,top 71,top 73,top 74,top 75,top 76,top 77,top 78,top 79,top 80,top 81,top 82,top 83,top 84,top 85,top 86] } }
abbrev S(x:String):Str:=Str.ofString x
abbrev st(x:String)(t:Nat):Value:=.str (Str.ofString x) t
abbrev en(P:Params)(x:String)(t:Nat)(v:Value):DictEntry:=⟨PyData.keyHash P (Str.ofString x),.str (Str.ofString x) t,v⟩
abbrev fd(s:Stmt)(n q:String)(an:Option Addr)(d k c e m t:Value):Data:=.func { name:=Str.ofString n,qualname:=Str.ofString q,params:=Zb2 s,body:=.stmts (Za5 s),scope:=Zab s,globals:=mainGlobals,closure:=[],defaults:=d,kwdefaults:=k,doc:=e,pyModule:=m,annotations:=an,code:=c,closureTuple:=t,builtins:=builtinsNs }
abbrev T(xs:Array Value):Obj:=⟨.type "tuple", none,.seq xs 0,#[]⟩
abbrev F(s:Stmt)(n q:String)(an:Option Addr)(d k c e m t:Value):Obj:=⟨.type "function", none,fd s n q an d k c e m t,#[]⟩
abbrev G(i:Nat)(n:String)(c:Nat)(m:String)(t:Nat):Obj:=F (top i) n n none .none .none (.ref c) .none (st m t) .none
abbrev D(es:List DictEntry)(n:Nat):Obj:=⟨.type "dict", none,.dict (List.toArray es) n,#[]⟩
abbrev C(n:String)(a:Nat)(q:String)(b c:Nat)(d e f g h:Int)(i:Value)(j:Bool)(k:Int)(l m o p r:Value)(s t:Int)(u:Nat):Obj:=⟨.type "code", none,.fields #[st n a,st q b,st "/claim/cut.py" c,.int d 0,.int e 0,.int f 0,.int g 0,.int h 0,i,.bool j,.int k 0,l,m,o,p,r,.int s 0,.int t 0,st "/claim/cut.py" u],#[]⟩
abbrev B(n:String)(a b c:Nat)(d e:Int)(i l o p r:Nat)(s:Int)(u:Nat):Obj:=C n a n b c d e 0 0 3 (.ref i) true 181 (.ref l) .none (.ref o) (.ref p) (.ref r) s d u
abbrev E(n:String)(a b c:Nat)(d e:Int)(i l r:Nat)(s:Int)(u:Nat):Obj:=C n a n b c d e 0 0 3 (.ref i) true 181 (.ref l) .none .none .none (.ref r) s d u
abbrev L(n:String)(b m:List Value)(a:Addr)(s:List Value)(sl:Array (Option Value)):Obj:=⟨.type "type", none,.cls { name:=Str.ofString n,bases:=b,mro:=m,ns:=a,qualname:=Str.ofString n,hasDict:=true,slotNames:=[],subclasses:=s,abstract:=false,collection:=none,hasDel:=false },sl⟩
def heap:Params→Frag:=fun P =>
  (nat_lit 2,⟨.none,none,(.dict (List.toArray []) 0),#[]⟩)::
(nat_lit 3,(D [(en P "__name__" 165 (st "law_sampleyard_k57_whole_order_and_places" 909)),(en P "__doc__" 166 .none),(en P "__package__" 167 .none),(en P "__loader__" 168 (.builtin "__main__.__loader__#opaque")),(en P "__spec__" 169 .none),(en P "__annotations__" 170 (.ref 6)),(en P "__builtins__" 171 (.ref 4)),(en P "__file__" 173 (st "/claim/cut.py" 172)),(en P "__cached__" 174 .none),(en P "_wall" 193 (.ref 21)),(en P "YardError" 213 (.ref 31)),(en P "BadTriangle" 229 (.ref 44)),(en P "BadThing" 245 (.ref 56)),(en P "BadFloor" 261 (.ref 68)),(en P "BadPattern" 277 (.ref 80)),(en P "is_whole" 286 (.ref 89)),(en P "is_between" 295 (.ref 96)),(en P "greatest_divisor" 306 (.ref 103)),(en P "summed_products" 314 (.ref 110)),(en P "ratio" 325 (.ref 117)),(en P "plus" 333 (.ref 124)),(en P "minus" 341 (.ref 131)),(en P "product" 349 (.ref 138)),(en P "mean_of" 358 (.ref 145)),(en P "under" 366 (.ref 152)),(en P "down" 373 (.ref 159)),(en P "is_fraction" 380 (.ref 166)),(en P "side" 393 (.ref 173)),(en P "edge_numbers" 401 (.ref 180)),(en P "edge_sum" 410 (.ref 187)),(en P "check_before_eye" 418 (.ref 194)),(en P "had" 427 (.ref 201)),(en P "weights" 435 (.ref 208)),(en P "seen_at" 445 (.ref 215)),(en P "depth_and_values" 451 (.ref 220)),(en P "weighed_h" 457 (.ref 225)),(en P "spot_at" 468 (.ref 232)),(en P "MOST_CELLS" 472 (.int (64) 471)),(en P "MOST_SPOTS" 474 (.int (16) 473)),(en P "check_floor" 482 (.ref 239)),(en P "check_spots" 488 (.ref 244)),(en P "is_spot" 495 (.ref 251)),(en P "spots_or_middle" 502 (.ref 258)),(en P "ground_or_none" 509 (.ref 265)),(en P "sights_at" 520 (.ref 272)),(en P "colour_of" 531 (.ref 279)),(en P "nearest_of" 540 (.ref 286)),(en P "layers_over" 546 (.ref 291)),(en P "laid_over" 555 (.ref 298)),(en P "paint" 561 (.ref 304)),(en P "painted_row" 567 (.ref 309)),(en P "sights_in" 573 (.ref 314)),(en P "cell_colour" 579 (.ref 319)),(en P "doubtful" 585 (.ref 325)),(en P "has_alike_depths" 591 (.ref 330)),(en P "MOST_VALUES" 595 (.int (3) 594)),(en P "check_triangle" 603 (.ref 337)),(en P "is_corner" 609 (.ref 342)),(en P "are_values" 615 (.ref 347)),(en P "COUNTS" 623 (.ref 348)),(en P "check_pattern" 629 (.ref 353)),(en P "copied" 635 (.ref 358)),(en P "entry_at" 645 (.ref 365)),(en P "Thing" 683 (.ref 389)),(en P "Plain" 732 (.ref 431)),(en P "Shaded" 779 (.ref 471)),(en P "Patterned" 828 (.ref 511)),(en P "Glass" 886 (.ref 558)),(en P "check_values" 894 (.ref 567)),(en P "check_colour" 901 (.ref 574)),(en P "check_part" 908 (.ref 581)),(en P "_law_cell_at" 918 (.ref 588)),(en P "_law_mixed" 927 (.ref 595)),(en P "_law_draws" 933 (.ref 600)),(en P "_law_corner" 939 (.ref 605)),(en P "_law_triangles" 945 (.ref 610)),(en P "_law_pattern" 960 (.ref 617)),(en P "_law_thing" 966 (.ref 622)),(en P "_law_things" 980 (.ref 629)),(en P "_law_spots" 991 (.ref 636)),(en P "_law_moved" 997 (.ref 641)),(en P "_law_bounded" 1003 (.ref 646)),(en P "_law_like" 1011 (.ref 653)),(en P "_law_orders" 1021 (.ref 660)),(en P "law" 1027 (.ref 665))] 85))::
(nat_lit 20,(B "_wall" 187 188 189 1 1 15 16 17 18 19 191 192))::
(nat_lit 21,(G 0 "_wall" 20 "__main__" 164))::
(nat_lit 22,(T #[(.type "ValueError")]))::
(nat_lit 30,(D [(en P "__module__" 203 (st "sampleyard.errors" 194)),(en P "__firstlineno__" 207 (.int (5) 206)),(en P "__static_attributes__" 208 (.ref 29)),(en P "__weakref__" 210 (.ref 32)),(en P "__doc__" 211 .none)] 3))::
(nat_lit 31,(L "YardError" [(.type "ValueError")] [(.ref 31),(.type "ValueError"),(.type "Exception"),(.type "BaseException"),(.type "object")] 30 [(.ref 44),(.ref 56),(.ref 68),(.ref 80)] #[(some (.ref 22)),none,(some (st "YardError" 196)),(some (st "YardError" 204)),(some (.builtin "ValueError.__new__")),(some (.bool true))]))::
(nat_lit 32,⟨(.type "getset_descriptor"),none,(.fields #[(st "__weakref__" 209),(.ref 31),(.builtin "ExceptionGroup.__weakref__"),.none]),#[]⟩)::
(nat_lit 35,(T #[(.ref 31)]))::
(nat_lit 43,(D [(en P "__module__" 221 (st "sampleyard.errors" 194)),(en P "__firstlineno__" 225 (.int (7) 224)),(en P "__static_attributes__" 226 (.ref 42)),(en P "__doc__" 227 .none)] 2))::
(nat_lit 44,(L "BadTriangle" [(.ref 31)] [(.ref 44),(.ref 31),(.type "ValueError"),(.type "Exception"),(.type "BaseException"),(.type "object")] 43 [] #[(some (.ref 35)),none,(some (st "BadTriangle" 214)),(some (st "BadTriangle" 222)),(some (.builtin "ValueError.__new__")),(some (.bool true))]))::
(nat_lit 47,(T #[(.ref 31)]))::
(nat_lit 55,(D [(en P "__module__" 237 (st "sampleyard.errors" 194)),(en P "__firstlineno__" 241 (.int (9) 240)),(en P "__static_attributes__" 242 (.ref 54)),(en P "__doc__" 243 .none)] 2))::
(nat_lit 56,(L "BadThing" [(.ref 31)] [(.ref 56),(.ref 31),(.type "ValueError"),(.type "Exception"),(.type "BaseException"),(.type "object")] 55 [] #[(some (.ref 47)),none,(some (st "BadThing" 230)),(some (st "BadThing" 238)),(some (.builtin "ValueError.__new__")),(some (.bool true))]))::
(nat_lit 59,(T #[(.ref 31)]))::
(nat_lit 67,(D [(en P "__module__" 253 (st "sampleyard.errors" 194)),(en P "__firstlineno__" 257 (.int (11) 256)),(en P "__static_attributes__" 258 (.ref 66)),(en P "__doc__" 259 .none)] 2))::
(nat_lit 68,(L "BadFloor" [(.ref 31)] [(.ref 68),(.ref 31),(.type "ValueError"),(.type "Exception"),(.type "BaseException"),(.type "object")] 67 [] #[(some (.ref 59)),none,(some (st "BadFloor" 246)),(some (st "BadFloor" 254)),(some (.builtin "ValueError.__new__")),(some (.bool true))]))::
(nat_lit 71,(T #[(.ref 31)]))::
(nat_lit 79,(D [(en P "__module__" 269 (st "sampleyard.errors" 194)),(en P "__firstlineno__" 273 (.int (13) 272)),(en P "__static_attributes__" 274 (.ref 78)),(en P "__doc__" 275 .none)] 2))::
(nat_lit 80,(L "BadPattern" [(.ref 31)] [(.ref 80),(.ref 31),(.type "ValueError"),(.type "Exception"),(.type "BaseException"),(.type "object")] 79 [] #[(some (.ref 71)),none,(some (st "BadPattern" 262)),(some (st "BadPattern" 270)),(some (.builtin "ValueError.__new__")),(some (.bool true))]))::
(nat_lit 88,(B "is_whole" 280 281 282 16 1 83 84 85 86 87 284 285))::
(nat_lit 89,(G 8 "is_whole" 88 "sampleyard.whole" 278))::
(nat_lit 95,(B "is_between" 287 288 289 18 3 90 91 92 93 94 293 294))::
(nat_lit 96,(G 9 "is_between" 95 "sampleyard.whole" 278))::
(nat_lit 102,(B "greatest_divisor" 296 297 298 20 1 97 98 99 100 101 304 305))::
(nat_lit 103,(G 10 "greatest_divisor" 102 "sampleyard.whole" 278))::
(nat_lit 109,(B "summed_products" 307 308 309 29 2 104 105 106 107 108 312 313))::
(nat_lit 110,(G 11 "summed_products" 109 "sampleyard.whole" 278))::
(nat_lit 116,(B "ratio" 317 318 319 32 2 111 112 113 114 115 323 324))::
(nat_lit 117,(G 13 "ratio" 116 "sampleyard.fractions" 315))::
(nat_lit 123,(B "plus" 326 327 328 37 2 118 119 120 121 122 331 332))::
(nat_lit 124,(G 14 "plus" 123 "sampleyard.fractions" 315))::
(nat_lit 130,(B "minus" 334 335 336 39 2 125 126 127 128 129 339 340))::
(nat_lit 131,(G 15 "minus" 130 "sampleyard.fractions" 315))::
(nat_lit 137,(B "product" 342 343 344 41 2 132 133 134 135 136 347 348))::
(nat_lit 138,(G 16 "product" 137 "sampleyard.fractions" 315))::
(nat_lit 144,(B "mean_of" 350 351 352 43 1 139 140 141 142 143 356 357))::
(nat_lit 145,(G 17 "mean_of" 144 "sampleyard.fractions" 315))::
(nat_lit 151,(B "under" 359 360 361 48 2 146 147 148 149 150 364 365))::
(nat_lit 152,(G 18 "under" 151 "sampleyard.fractions" 315))::
(nat_lit 158,(B "down" 367 368 369 50 1 153 154 155 156 157 371 372))::
(nat_lit 159,(G 19 "down" 158 "sampleyard.fractions" 315))::
(nat_lit 165,(B "is_fraction" 374 375 376 52 1 160 161 162 163 164 378 379))::
(nat_lit 166,(G 20 "is_fraction" 165 "sampleyard.fractions" 315))::
(nat_lit 172,(B "side" 383 384 385 59 3 167 168 169 170 171 391 392))::
(nat_lit 173,(G 22 "side" 172 "sampleyard.edges" 381))::
(nat_lit 179,(B "edge_numbers" 394 395 396 65 2 174 175 176 177 178 399 400))::
(nat_lit 180,(G 23 "edge_numbers" 179 "sampleyard.edges" 381))::
(nat_lit 186,(B "edge_sum" 402 403 404 67 3 181 182 183 184 185 408 409))::
(nat_lit 187,(G 24 "edge_sum" 186 "sampleyard.edges" 381))::
(nat_lit 193,(B "check_before_eye" 411 412 413 69 1 188 189 190 191 192 416 417))::
(nat_lit 194,(G 25 "check_before_eye" 193 "sampleyard.edges" 381))::
(nat_lit 200,(B "had" 419 420 421 73 2 195 196 197 198 199 425 426))::
(nat_lit 201,(G 26 "had" 200 "sampleyard.edges" 381))::
(nat_lit 207,(B "weights" 428 429 430 79 2 202 203 204 205 206 433 434))::
(nat_lit 208,(G 27 "weights" 207 "sampleyard.edges" 381))::
(nat_lit 214,(B "seen_at" 438 439 440 82 2 209 210 211 212 213 443 444))::
(nat_lit 215,(G 29 "seen_at" 214 "sampleyard.seen" 436))::
(nat_lit 219,(E "depth_and_values" 446 447 448 86 2 216 217 218 449 450))::
(nat_lit 220,(G 30 "depth_and_values" 219 "sampleyard.seen" 436))::
(nat_lit 224,(E "weighed_h" 452 453 454 91 2 221 222 223 455 456))::
(nat_lit 225,(G 31 "weighed_h" 224 "sampleyard.seen" 436))::
(nat_lit 231,(B "spot_at" 460 461 462 94 3 226 227 228 229 230 466 467))::
(nat_lit 232,(G 33 "spot_at" 231 "sampleyard.spots" 458))::
(nat_lit 238,(B "check_floor" 475 476 477 99 2 233 234 235 236 237 480 481))::
(nat_lit 239,(G 37 "check_floor" 238 "sampleyard.paint" 469))::
(nat_lit 243,(E "check_spots" 483 484 485 102 1 240 241 242 486 487))::
(nat_lit 244,(G 38 "check_spots" 243 "sampleyard.paint" 469))::
(nat_lit 250,(B "is_spot" 489 490 491 109 1 245 246 247 248 249 493 494))::
(nat_lit 251,(G 39 "is_spot" 250 "sampleyard.paint" 469))::
(nat_lit 257,(B "spots_or_middle" 496 497 498 113 1 252 253 254 255 256 500 501))::
(nat_lit 258,(G 40 "spots_or_middle" 257 "sampleyard.paint" 469))::
(nat_lit 264,(B "ground_or_none" 503 504 505 118 1 259 260 261 262 263 507 508))::
(nat_lit 265,(G 41 "ground_or_none" 264 "sampleyard.paint" 469))::
(nat_lit 271,(B "sights_at" 510 511 512 120 2 266 267 268 269 270 518 519))::
(nat_lit 272,(G 42 "sights_at" 271 "sampleyard.paint" 469))::
(nat_lit 278,(B "colour_of" 521 522 523 127 2 273 274 275 276 277 529 530))::
(nat_lit 279,(G 43 "colour_of" 278 "sampleyard.paint" 469))::
(nat_lit 285,(B "nearest_of" 532 533 534 135 1 280 281 282 283 284 538 539))::
(nat_lit 286,(G 44 "nearest_of" 285 "sampleyard.paint" 469))::
(nat_lit 290,(E "layers_over" 541 542 543 143 2 287 288 289 544 545))::
(nat_lit 291,(G 45 "layers_over" 290 "sampleyard.paint" 469))::
(nat_lit 297,(B "laid_over" 547 548 549 150 2 292 293 294 295 296 553 554))::
(nat_lit 298,(G 46 "laid_over" 297 "sampleyard.paint" 469))::
(nat_lit 299,(T #[.none,.none]))::
(nat_lit 303,(E "paint" 556 557 558 153 5 300 301 302 559 560))::
(nat_lit 304,(F (top 47) "paint" "paint" none (.ref 299) .none (.ref 303) .none (st "sampleyard.paint" 469) .none))::
(nat_lit 308,(E "painted_row" 562 563 564 158 5 305 306 307 565 566))::
(nat_lit 309,(G 48 "painted_row" 308 "sampleyard.paint" 469))::
(nat_lit 313,(E "sights_in" 568 569 570 160 4 310 311 312 571 572))::
(nat_lit 314,(G 49 "sights_in" 313 "sampleyard.paint" 469))::
(nat_lit 318,(E "cell_colour" 574 575 576 162 2 315 316 317 577 578))::
(nat_lit 319,(G 50 "cell_colour" 318 "sampleyard.paint" 469))::
(nat_lit 320,(T #[.none]))::
(nat_lit 324,(E "doubtful" 580 581 582 164 4 321 322 323 583 584))::
(nat_lit 325,(F (top 51) "doubtful" "doubtful" none (.ref 320) .none (.ref 324) .none (st "sampleyard.paint" 469) .none))::
(nat_lit 329,(E "has_alike_depths" 586 587 588 173 1 326 327 328 589 590))::
(nat_lit 330,(G 52 "has_alike_depths" 329 "sampleyard.paint" 469))::
(nat_lit 336,(B "check_triangle" 596 597 598 178 1 331 332 333 334 335 601 602))::
(nat_lit 337,(G 55 "check_triangle" 336 "sampleyard.corners" 592))::
(nat_lit 341,(E "is_corner" 604 605 606 186 1 338 339 340 607 608))::
(nat_lit 342,(G 56 "is_corner" 341 "sampleyard.corners" 592))::
(nat_lit 346,(E "are_values" 610 611 612 192 1 343 344 345 613 614))::
(nat_lit 347,(G 57 "are_values" 346 "sampleyard.corners" 592))::
(nat_lit 348,(T #[(.int (1) 618),(.int (2) 619),(.int (4) 620),(.int (8) 621),(.int (16) 622)]))::
(nat_lit 352,(E "check_pattern" 624 625 626 198 1 349 350 351 627 628))::
(nat_lit 353,(G 60 "check_pattern" 352 "sampleyard.patterns" 616))::
(nat_lit 357,(E "copied" 630 631 632 208 1 354 355 356 633 634))::
(nat_lit 358,(G 61 "copied" 357 "sampleyard.patterns" 616))::
(nat_lit 364,(B "entry_at" 636 637 638 210 3 359 360 361 362 363 643 644))::
(nat_lit 365,(G 62 "entry_at" 364 "sampleyard.patterns" 616))::
(nat_lit 378,(C "__init__" 660 "Thing.__init__" 661 662 216 2 0 0 3 (.ref 373) true 181 (.ref 374) .none (.ref 375) (.ref 376) (.ref 377) 665 216 666))::
(nat_lit 379,(F (inClass (top 64) 0) "__init__" "Thing.__init__" none .none .none (.ref 378) .none (st "sampleyard.things" 646) .none))::
(nat_lit 385,(C "is_glass" 668 "Thing.is_glass" 669 670 221 1 0 0 3 (.ref 380) true 181 (.ref 381) .none (.ref 382) (.ref 383) (.ref 384) 672 221 673))::
(nat_lit 386,(F (inClass (top 64) 1) "is_glass" "Thing.is_glass" none .none .none (.ref 385) .none (st "sampleyard.things" 646) .none))::
(nat_lit 388,(D [(en P "__module__" 655 (st "sampleyard.things" 646)),(en P "__firstlineno__" 659 (.int (214) 658)),(en P "__init__" 667 (.ref 379)),(en P "is_glass" 674 (.ref 386)),(en P "__static_attributes__" 676 (.ref 387)),(en P "__dict__" 678 (.ref 390)),(en P "__weakref__" 680 (.ref 391)),(en P "__doc__" 681 .none)] 4))::
(nat_lit 389,(L "Thing" [(.type "object")] [(.ref 389),(.type "object")] 388 [(.ref 431),(.ref 471),(.ref 511),(.ref 558)] #[none,none,(some (st "Thing" 648)),(some (st "Thing" 656)),(some (.builtin "object.__new__")),(some (.bool true))]))::
(nat_lit 390,⟨(.type "getset_descriptor"),none,(.fields #[(st "__dict__" 677),(.ref 389),(.builtin "function.__dict__"),(.builtin "function.__dict__#set")]),#[]⟩)::
(nat_lit 391,⟨(.type "getset_descriptor"),none,(.fields #[(st "__weakref__" 679),(.ref 389),(.builtin "ExceptionGroup.__weakref__"),.none]),#[]⟩)::
(nat_lit 394,(T #[(.ref 389)]))::
(nat_lit 406,(C "__init__" 696 "Plain.__init__" 697 698 225 3 0 0 3 (.ref 401) true 181 (.ref 402) .none (.ref 403) (.ref 404) (.ref 405) 702 225 703))::
(nat_lit 407,(F (inClass (top 65) 0) "__init__" "Plain.__init__" none .none .none (.ref 406) .none (st "sampleyard.things" 646) .none))::
(nat_lit 413,(C "word" 705 "Plain.word" 706 707 230 1 0 0 3 (.ref 408) true 181 (.ref 409) .none (.ref 410) (.ref 411) (.ref 412) 709 230 710))::
(nat_lit 414,(F (inClass (top 65) 1) "word" "Plain.word" none .none .none (.ref 413) .none (st "sampleyard.things" 646) .none))::
(nat_lit 420,(C "colour_at" 712 "Plain.colour_at" 713 714 233 2 0 0 3 (.ref 415) true 181 (.ref 416) .none (.ref 417) (.ref 418) (.ref 419) 717 233 718))::
(nat_lit 421,(F (inClass (top 65) 2) "colour_at" "Plain.colour_at" none .none .none (.ref 420) .none (st "sampleyard.things" 646) .none))::
(nat_lit 427,(C "like" 720 "Plain.like" 721 722 236 2 0 0 3 (.ref 422) true 181 (.ref 423) .none (.ref 424) (.ref 425) (.ref 426) 725 236 726))::
(nat_lit 428,(F (inClass (top 65) 3) "like" "Plain.like" none .none .none (.ref 427) .none (st "sampleyard.things" 646) .none))::
(nat_lit 430,(D [(en P "__module__" 691 (st "sampleyard.things" 646)),(en P "__firstlineno__" 695 (.int (223) 694)),(en P "__init__" 704 (.ref 407)),(en P "word" 711 (.ref 414)),(en P "colour_at" 719 (.ref 421)),(en P "like" 727 (.ref 428)),(en P "__static_attributes__" 729 (.ref 429)),(en P "__doc__" 730 .none)] 2))::
(nat_lit 431,(L "Plain" [(.ref 389)] [(.ref 431),(.ref 389),(.type "object")] 430 [] #[(some (.ref 394)),none,(some (st "Plain" 684)),(some (st "Plain" 692)),(some (.builtin "object.__new__")),(some (.bool true))]))::
(nat_lit 434,(T #[(.ref 389)]))::
(nat_lit 446,(C "__init__" 745 "Shaded.__init__" 746 747 240 2 0 0 3 (.ref 441) true 181 (.ref 442) .none (.ref 443) (.ref 444) (.ref 445) 750 240 751))::
(nat_lit 447,(F (inClass (top 66) 0) "__init__" "Shaded.__init__" none .none .none (.ref 446) .none (st "sampleyard.things" 646) .none))::
(nat_lit 453,(C "word" 753 "Shaded.word" 754 755 244 1 0 0 3 (.ref 448) true 181 (.ref 449) .none (.ref 450) (.ref 451) (.ref 452) 757 244 758))::
(nat_lit 454,(F (inClass (top 66) 1) "word" "Shaded.word" none .none .none (.ref 453) .none (st "sampleyard.things" 646) .none))::
(nat_lit 460,(C "colour_at" 760 "Shaded.colour_at" 761 762 247 2 0 0 3 (.ref 455) true 181 (.ref 456) .none (.ref 457) (.ref 458) (.ref 459) 765 247 766))::
(nat_lit 461,(F (inClass (top 66) 2) "colour_at" "Shaded.colour_at" none .none .none (.ref 460) .none (st "sampleyard.things" 646) .none))::
(nat_lit 467,(C "like" 768 "Shaded.like" 769 770 250 2 0 0 3 (.ref 462) true 181 (.ref 463) .none (.ref 464) (.ref 465) (.ref 466) 773 250 774))::
(nat_lit 468,(F (inClass (top 66) 3) "like" "Shaded.like" none .none .none (.ref 467) .none (st "sampleyard.things" 646) .none))::
(nat_lit 470,(D [(en P "__module__" 740 (st "sampleyard.things" 646)),(en P "__firstlineno__" 744 (.int (238) 743)),(en P "__init__" 752 (.ref 447)),(en P "word" 759 (.ref 454)),(en P "colour_at" 767 (.ref 461)),(en P "like" 775 (.ref 468)),(en P "__static_attributes__" 776 (.ref 469)),(en P "__doc__" 777 .none)] 2))::
(nat_lit 471,(L "Shaded" [(.ref 389)] [(.ref 471),(.ref 389),(.type "object")] 470 [] #[(some (.ref 434)),none,(some (st "Shaded" 733)),(some (st "Shaded" 741)),(some (.builtin "object.__new__")),(some (.bool true))]))::
(nat_lit 474,(T #[(.ref 389)]))::
(nat_lit 486,(C "__init__" 792 "Patterned.__init__" 793 794 254 3 0 0 3 (.ref 481) true 181 (.ref 482) .none (.ref 483) (.ref 484) (.ref 485) 798 254 799))::
(nat_lit 487,(F (inClass (top 67) 0) "__init__" "Patterned.__init__" none .none .none (.ref 486) .none (st "sampleyard.things" 646) .none))::
(nat_lit 493,(C "word" 801 "Patterned.word" 802 803 260 1 0 0 3 (.ref 488) true 181 (.ref 489) .none (.ref 490) (.ref 491) (.ref 492) 805 260 806))::
(nat_lit 494,(F (inClass (top 67) 1) "word" "Patterned.word" none .none .none (.ref 493) .none (st "sampleyard.things" 646) .none))::
(nat_lit 500,(C "colour_at" 808 "Patterned.colour_at" 809 810 263 2 0 0 3 (.ref 495) true 181 (.ref 496) .none (.ref 497) (.ref 498) (.ref 499) 813 263 814))::
(nat_lit 501,(F (inClass (top 67) 2) "colour_at" "Patterned.colour_at" none .none .none (.ref 500) .none (st "sampleyard.things" 646) .none))::
(nat_lit 507,(C "like" 816 "Patterned.like" 817 818 266 2 0 0 3 (.ref 502) true 181 (.ref 503) .none (.ref 504) (.ref 505) (.ref 506) 821 266 822))::
(nat_lit 508,(F (inClass (top 67) 3) "like" "Patterned.like" none .none .none (.ref 507) .none (st "sampleyard.things" 646) .none))::
(nat_lit 510,(D [(en P "__module__" 787 (st "sampleyard.things" 646)),(en P "__firstlineno__" 791 (.int (252) 790)),(en P "__init__" 800 (.ref 487)),(en P "word" 807 (.ref 494)),(en P "colour_at" 815 (.ref 501)),(en P "like" 823 (.ref 508)),(en P "__static_attributes__" 825 (.ref 509)),(en P "__doc__" 826 .none)] 2))::
(nat_lit 511,(L "Patterned" [(.ref 389)] [(.ref 511),(.ref 389),(.type "object")] 510 [] #[(some (.ref 474)),none,(some (st "Patterned" 780)),(some (st "Patterned" 788)),(some (.builtin "object.__new__")),(some (.bool true))]))::
(nat_lit 514,(T #[(.ref 389)]))::
(nat_lit 526,(C "__init__" 841 "Glass.__init__" 842 843 270 4 0 0 3 (.ref 521) true 181 (.ref 522) .none (.ref 523) (.ref 524) (.ref 525) 848 270 849))::
(nat_lit 527,(F (inClass (top 68) 0) "__init__" "Glass.__init__" none .none .none (.ref 526) .none (st "sampleyard.things" 646) .none))::
(nat_lit 533,(C "word" 851 "Glass.word" 852 853 277 1 0 0 3 (.ref 528) true 181 (.ref 529) .none (.ref 530) (.ref 531) (.ref 532) 855 277 856))::
(nat_lit 534,(F (inClass (top 68) 1) "word" "Glass.word" none .none .none (.ref 533) .none (st "sampleyard.things" 646) .none))::
(nat_lit 540,(C "is_glass" 858 "Glass.is_glass" 859 860 280 1 0 0 3 (.ref 535) true 181 (.ref 536) .none (.ref 537) (.ref 538) (.ref 539) 862 280 863))::
(nat_lit 541,(F (inClass (top 68) 2) "is_glass" "Glass.is_glass" none .none .none (.ref 540) .none (st "sampleyard.things" 646) .none))::
(nat_lit 547,(C "colour_at" 865 "Glass.colour_at" 866 867 283 2 0 0 3 (.ref 542) true 181 (.ref 543) .none (.ref 544) (.ref 545) (.ref 546) 870 283 871))::
(nat_lit 548,(F (inClass (top 68) 3) "colour_at" "Glass.colour_at" none .none .none (.ref 547) .none (st "sampleyard.things" 646) .none))::
(nat_lit 554,(C "like" 873 "Glass.like" 874 875 286 2 0 0 3 (.ref 549) true 181 (.ref 550) .none (.ref 551) (.ref 552) (.ref 553) 878 286 879))::
(nat_lit 555,(F (inClass (top 68) 4) "like" "Glass.like" none .none .none (.ref 554) .none (st "sampleyard.things" 646) .none))::
(nat_lit 557,(D [(en P "__module__" 836 (st "sampleyard.things" 646)),(en P "__firstlineno__" 840 (.int (268) 839)),(en P "__init__" 850 (.ref 527)),(en P "word" 857 (.ref 534)),(en P "is_glass" 864 (.ref 541)),(en P "colour_at" 872 (.ref 548)),(en P "like" 880 (.ref 555)),(en P "__static_attributes__" 883 (.ref 556)),(en P "__doc__" 884 .none)] 2))::
(nat_lit 558,(L "Glass" [(.ref 389)] [(.ref 558),(.ref 389),(.type "object")] 557 [] #[(some (.ref 514)),none,(some (st "Glass" 829)),(some (st "Glass" 837)),(some (.builtin "object.__new__")),(some (.bool true))]))::
(nat_lit 566,(B "check_values" 887 888 889 288 2 561 562 563 564 565 892 893))::
(nat_lit 567,(G 69 "check_values" 566 "sampleyard.things" 646))::
(nat_lit 573,(B "check_colour" 895 896 897 291 1 568 569 570 571 572 899 900))::
(nat_lit 574,(G 70 "check_colour" 573 "sampleyard.things" 646))::
(nat_lit 580,(B "check_part" 902 903 904 294 1 575 576 577 578 579 906 907))::
(nat_lit 581,(G 71 "check_part" 580 "sampleyard.things" 646))::
(nat_lit 587,(B "_law_cell_at" 911 912 913 298 2 582 583 584 585 586 916 917))::
(nat_lit 588,(G 73 "_law_cell_at" 587 "law_sampleyard_k57_whole_order_and_places" 909))::
(nat_lit 594,(B "_law_mixed" 919 920 921 302 2 589 590 591 592 593 925 926))::
(nat_lit 595,(G 74 "_law_mixed" 594 "law_sampleyard_k57_whole_order_and_places" 909))::
(nat_lit 599,(E "_law_draws" 928 929 930 308 2 596 597 598 931 932))::
(nat_lit 600,(G 75 "_law_draws" 599 "law_sampleyard_k57_whole_order_and_places" 909))::
(nat_lit 604,(E "_law_corner" 934 935 936 310 2 601 602 603 937 938))::
(nat_lit 605,(G 76 "_law_corner" 604 "law_sampleyard_k57_whole_order_and_places" 909))::
(nat_lit 609,(E "_law_triangles" 940 941 942 329 4 606 607 608 943 944))::
(nat_lit 610,(G 77 "_law_triangles" 609 "law_sampleyard_k57_whole_order_and_places" 909))::
(nat_lit 616,(B "_law_pattern" 946 947 948 342 2 611 612 613 614 615 958 959))::
(nat_lit 617,(G 78 "_law_pattern" 616 "law_sampleyard_k57_whole_order_and_places" 909))::
(nat_lit 621,(E "_law_thing" 961 962 963 353 2 618 619 620 964 965))::
(nat_lit 622,(G 79 "_law_thing" 621 "law_sampleyard_k57_whole_order_and_places" 909))::
(nat_lit 628,(B "_law_things" 967 968 969 367 3 623 624 625 626 627 978 979))::
(nat_lit 629,(G 80 "_law_things" 628 "law_sampleyard_k57_whole_order_and_places" 909))::
(nat_lit 635,(B "_law_spots" 981 982 983 374 1 630 631 632 633 634 989 990))::
(nat_lit 636,(G 81 "_law_spots" 635 "law_sampleyard_k57_whole_order_and_places" 909))::
(nat_lit 640,(E "_law_moved" 992 993 994 384 3 637 638 639 995 996))::
(nat_lit 641,(G 82 "_law_moved" 640 "law_sampleyard_k57_whole_order_and_places" 909))::
(nat_lit 645,(E "_law_bounded" 998 999 1000 387 1 642 643 644 1001 1002))::
(nat_lit 646,(G 83 "_law_bounded" 645 "law_sampleyard_k57_whole_order_and_places" 909))::
(nat_lit 652,(B "_law_like" 1004 1005 1006 389 2 647 648 649 650 651 1009 1010))::
(nat_lit 653,(G 84 "_law_like" 652 "law_sampleyard_k57_whole_order_and_places" 909))::
(nat_lit 659,(B "_law_orders" 1012 1013 1014 397 2 654 655 656 657 658 1019 1020))::
(nat_lit 660,(G 85 "_law_orders" 659 "law_sampleyard_k57_whole_order_and_places" 909))::
(nat_lit 664,(E "law" 1022 1023 1024 404 1 661 662 663 1025 1026))::
(nat_lit 665,(G 86 "law" 664 "law_sampleyard_k57_whole_order_and_places" 909))::
[]
abbrev addrs:List Addr:=[2,3,20,21,22,30,31,32,35,43,44,47,55,56,59,67,68,71,79,80,88,89,95,96,102,103,109,110,116,117,123,124,130,131,137,138,144,145,151,152,158,159,165,166,172,173,179,180,186,187,193,194,200,201,207,208,214,215,219,220,224,225,231,232,238,239,243,244,250,251,257,258,264,265,271,272,278,279,285,286,290,291,297,298,299,303,304,308,309,313,314,318,319,320,324,325,329,330,336,337,341,342,346,347,348,352,353,357,358,364,365,378,379,385,386,388,389,390,391,394,406,407,413,414,420,421,427,428,430,431,434,446,447,453,454,460,461,467,468,470,471,474,486,487,493,494,500,501,507,508,510,511,514,526,527,533,534,540,541,547,548,554,555,557,558,566,567,573,574,580,581,587,588,594,595,599,600,604,605,609,610,616,617,621,622,628,629,635,636,640,641,645,646,652,653,659,660,664,665]
abbrev most:Nat:=9400
theorem ZdN(P:Params):addrs=(heap P).map (·.1):=rfl
abbrev hook:Hook:=kHook heap addrs ZdN
end Hd
namespace Hd
open PySem PySem.W PyProof.Rows
def Zgk(tb:String→Option Builtin)(p:Program)(w:World)(n₀:Nat)(ann:Option Value):Nat→SharedT→Thread→Option SharedT
 | 0,_,_=>none
 | n+1,s,t=>match through t with
  | true=>some s
  | false=>match stepOk n₀ ann t with
   | false=>none
   | true=>match stepT (denote tb) p w s t with
    | some (s',t')=>Zgk tb p w n₀ ann n s' t'
    | none=>none
theorem ZgX{tb:String→Option Builtin}{p:Program}{w:World}{n₀:Nat}{ann:Option Value}:∀{n:Nat} {s s':SharedT} {t:Thread},Zgk tb p w n₀ ann n s t=some s'→topRun tb p w n₀ ann n s.abs t=some s'.abs
 | 0,_,_,_,h=>by cases h
 | n+1,s,s',t,h=>by
  unfold Zgk at h
  unfold topRun
  cases he:through t with
  | true=>rw [he] at h;cases h;rfl
  | false =>
   rw [he] at h
   cases hk:stepOk n₀ ann t with
   | false=>rw [hk] at h;cases h
   | true =>
    rw [hk] at h
    cases hs:stepT (denote tb) p w s t with
    | none=>rw [hs] at h;cases h
    | some r=>obtain ⟨s₂,t₂⟩:=r;rw [hs] at h;rw [stepT_spec hs];exact ZgX h
def ZhF(p:Program)(w:World)(n₀:Nat)(ann:Option Value):Nat→SharedT→Thread→Option SharedT
 | 0,_,_=>none
 | n+1,s,t=>match through t with
  | true=>some s
  | false=>match Fast.tw6613529449190102663 n₀ ann t with
   | false=>none
   | true=>match Fast.tw10156331382660048174 (Fast.tw11892475500146522536 Fast.tw14364793385576792824) p w s t with
    | some (s',t')=>ZhF p w n₀ ann n s' t'
    | none=>none
theorem Zg0(p:Program)(w:World)(n₀:Nat)(ann:Option Value):∀(n:Nat) (s:SharedT) (t:Thread),Zgk treeTable p w n₀ ann n s t=ZhF p w n₀ ann n s t
 | 0,_,_=>rfl
 | n+1,s,t=>by
  unfold Zgk ZhF
  rw [Fast.te6613529449190102663,Fast.te10156331382660048174,Fast.te11892475500146522536,Fast.te14364793385576792824]
  cases through t with
  | true=>rfl
  | false =>
   cases Fast.tw6613529449190102663 n₀ ann t with
   | false=>rfl
   | true =>
    cases Fast.tw10156331382660048174 (Fast.tw11892475500146522536 Fast.tw14364793385576792824) p w s t with
    | none=>rfl
    | some r =>
     obtain ⟨s',t'⟩:=r
     have:=Zg0 p w n₀ ann n s' t'
     rw [Fast.te14364793385576792824] at this
     exact this
def Zka(i:Nat)(t:BT):List Obj→BT
 | []=>t
 | o::r=>Zka (i+1) (t.ins i o) r
def Zr9(w:World)(os:OsState):SharedT:=⟨Zka 0 .nil (boot_heap w.params).objs.toList,(boot_heap w.params).objs.size,(boot_heap w.params).life,Array.mk [],boot_drawn,boot_toks,os⟩
theorem Zmp(w:World)(os:OsState):(Zr9 w os).abs=⟨boot_heap w.params,Array.mk [],boot_drawn,boot_toks,os⟩:=by kernel_rfl
def obsT(as:List Addr)(s:SharedT):List (Option Obj):=as.map fun a=>match Nat.blt a s.n with
 | true=>alive ((s.tree.get a).getD default)
 | false=>none
theorem ZqD(as:List Addr)(s:SharedT):as.map s.abs.heap.get?=obsT as s:=by
 unfold obsT
 refine Vaa fun a _=>?_
 show (absHeap s.tree s.n s.life).get? a=_
 unfold Heap.get?
 rw [absHeap_at]
 by_cases h:a<s.n
 ·rw [if_pos h,show Nat.blt a s.n=true from Nat.ble_eq.mpr h]
  generalize (s.tree.get a).getD default=o
  obtain ⟨c,d,dt,sl⟩:=o
  cases dt<;>rfl
 ·rw [if_neg h,show Nat.blt a s.n=false from Bool.eq_false_iff.mpr fun z=>h (Nat.le_of_ble_eq_true z)]
theorem ZlZ{p q:Program}{loose:List Str}{Xt:Shared→Bool}{α:Type}{Yf:Shared→α}{Yt:SharedT→α}{Ya:World→α}{N m₀:Nat}{ann:Option Value}{g0:Bool}(hY:∀s,Yf s.abs=Yt s)
  (e:opening p=plainProg p.main.scope.names) (hN:Nat.ble 600 N=true) (f:∀s,fenceModules? p s=some s)
  (hz:∀w:World,((boot_heap w.params).isNs mainGlobals,(boot_heap w.params).objs.size,(boot_heap w.params).nsMap mainGlobals "__annotations__")=(true,m₀,ann))
  (h:∀(w:World) (os:OsState),(ZhF p w m₀ ann N (Zr9 w os) (topStub p)).map (fun s=>((staticsOk (importedModules p.main.body) (boot_heap w.params) s.abs.heap&&namesBound p s.abs.heap&&gensDone s.abs&&laidKept (boot_heap w.params) s.abs.heap),Fast.tw4187177175401517315 q loose (importedModules p.main.body) Xt g0 s.abs,Yt s))=some (true,openGood q loose,Ya w)) :
  LeftO p q loose Xt Yf Ya N g0:=fun w=>by
 obtain ⟨s,hs,hv⟩:=Option.map_eq_some_iff.mp (boot_open e hN f w)
 unfold openEnds
 rw [hs]
 obtain ⟨hp,g,d,k,os⟩:=s
 obtain ⟨rfl,rfl,rfl,rfl⟩ : hp=boot_heap w.params∧g=Array.mk []∧d=boot_drawn∧k=boot_toks:=by simpa using hv
 obtain ⟨s₁,h1,h2⟩:=Option.map_eq_some_iff.mp (h w os)
 rw [←Zg0] at h1
 rw [←Fast.te4187177175401517315] at h2
 have r:=ZgX h1
 rw [Zmp] at r
 obtain ⟨z1,z2,z3⟩ : _∧_∧_:=by simpa only [Prod.mk.injEq] using hz w
 obtain ⟨l1,l2,l3⟩ : _∧_∧_:=by simpa only [Prod.mk.injEq] using h2
 show (topFrom treeTable p w N ⟨boot_heap w.params,Array.mk [],boot_drawn,boot_toks,os⟩).map _=_
 unfold topFrom
 dsimp only
 rw [z1]
 show (((topRun treeTable p w (boot_heap w.params).objs.size ((boot_heap w.params).nsMap mainGlobals "__annotations__") N ⟨boot_heap w.params,Array.mk [],boot_drawn,boot_toks,os⟩ (topStub p)).bind fun s₁=>match staticsOk (importedModules p.main.body) (boot_heap w.params) s₁.heap&&namesBound p s₁.heap&&gensDone s₁&&laidKept (boot_heap w.params) s₁.heap with
   | true=>some s₁
   | false=>none).map _)=_
 rw [z2,z3,r]
 show ((match staticsOk (importedModules p.main.body) (boot_heap w.params) s₁.abs.heap&&namesBound p s₁.abs.heap&&gensDone s₁.abs&&laidKept (boot_heap w.params) s₁.abs.heap with
   | true=>some s₁.abs
   | false=>none).map _)=_
 rw [l1]
 show some (openSeen q loose (importedModules p.main.body) Xt g0 s₁.abs,Yf s₁.abs)=_
 rw [l2,hY,l3]
set_option maxRecDepth 100000 in
set_option maxHeartbeats 0 in
theorem left:LeftO PySem.Challenge.pw_sampleyard_k57_whole_order_and_places view ["paint", "doubtful"] (fun s=>xlAt view [] s&&recOk (RowW.records PySem.Challenge.rw_sampleyard_k57_whole_order_and_places.row.toRowW) s) (Hook.obs hook) (Hook.val hook) most :=
 ZlZ (ZqD addrs) (by kernel_rfl) (by decide) (fun s=>by kernel_rfl) (m₀:=11) (ann:=some (.ref 6)) (fun w=>by kernel_rfl) (fun w os=>by kernel_rfl)
end Hd
namespace L2
open PySem PySem.Spec PyProof.Rows
abbrev Key:=Sum Int Str
def Zrm:Key→Value→Bool
 | .inl k,v=>Value.isInt k v
 | .inr x,v=>Value.isStrOf x v
def keyH(w:World):Key→Int
 | .inl k=>hashInt k
 | .inr x=>hashStr w x
theorem ZaX:∀{k:Key} {v:Value},Zrm k v=true→(∃i t,k=Sum.inl i∧v=Value.int i t)∨(∃x t,k=Sum.inr x∧v=Value.str x t)
 | .inl i,v,h=>by
  obtain ⟨t,e⟩:=Value.isInt_shape (k:=i) (v:=v) h
  exact .inl ⟨i,t,rfl,e⟩
 | .inr x,v,h=>by
  obtain ⟨t,e⟩:=Value.isStrOf_shape (x:=x) (v:=v) h
  exact .inr ⟨x,t,rfl,e⟩
theorem ZtD(a b:Int):decide ((Sum.inl a:Key)=Sum.inl b)=(a==b):=by
 by_cases e:a=b
 ·subst e;simp
 ·have h:¬(Sum.inl a:Key)=Sum.inl b:=fun q=>e (Sum.inl.inj q)
  rw [Vab h]
  exact (Vac.mpr e).symm
theorem Ztp(a b:Str):decide ((Sum.inr a:Key)=Sum.inr b)=decide (a=b):=by
 by_cases e:a=b
 ·subst e;simp
 ·have h:¬(Sum.inr a:Key)=Sum.inr b:=fun q=>e (Sum.inr.inj q)
  rw [Vab h,Vab e]
theorem Zr4(a:Int)(b:Str):decide ((Sum.inl a:Key)=Sum.inr b)=false:=Vab (fun q=>nomatch q)
theorem ZrS(a:Str)(b:Int):decide ((Sum.inr a:Key)=Sum.inl b)=false:=Vab (fun q=>nomatch q)
def Zlk(prog:Program)(w:World):PySem.KeyKind prog w Key where
 is:=Zrm
 hash:=keyH w
 inj:=fun v a b ha hb=>by
  rcases ZaX ha with ⟨i,t,rfl,rfl⟩ | ⟨x,t,rfl,rfl⟩
  ·rcases ZaX hb with ⟨j,u,rfl,e⟩ | ⟨y,u,rfl,e⟩
   ·injection e with e1 _;rw [e1]
   ·exact nomatch e
  ·rcases ZaX hb with ⟨j,u,rfl,e⟩ | ⟨y,u,rfl,e⟩
   ·exact nomatch e
   ·injection e with e1 _;rw [e1]
 byValue:=fun k v h=>by
  rcases ZaX h with ⟨i,t,rfl,rfl⟩ | ⟨x,t,rfl,rfl⟩<;>rfl
 pyHash:=fun hv h=>by
  rcases ZaX hv with ⟨i,t,rfl,rfl⟩ | ⟨x,t,rfl,rfl⟩
  ·exact wpAny_pyHash_int h
  ·exact wpAny_pyHash_str h
 eqBool:=fun hu hv h=>by
  rcases ZaX hu with ⟨i,t,rfl,rfl⟩ | ⟨x,t,rfl,rfl⟩
  ·rcases ZaX hv with ⟨j,u,rfl,rfl⟩ | ⟨y,u,rfl,rfl⟩
   ·rw [ZtD] at h;exact wpAny_eqBool_int h
   ·rw [Zr4] at h;exact SeqAt.EqAt.int_str i t y u _ _ _ _ h
  ·rcases ZaX hv with ⟨j,u,rfl,rfl⟩ | ⟨y,u,rfl,rfl⟩
   ·rw [ZrS] at h;exact SeqAt.EqAt.str_int x t j u _ _ _ _ h
   ·rw [Ztp] at h;exact wpAny_eqBool_str h
 «strs»:=fun k x t v h=>by
  rcases ZaX h with ⟨i,u,rfl,e⟩ | ⟨y,u,rfl,e⟩
  ·exact nomatch e
  ·injection e with e1 _
   subst e1
   cases v<;>rfl
inductive V where
 | non | bl (b:Bool) | int (i:Int) | str (x:Str) | byt (b:Array UInt8) | flt (b:UInt64) | ref (a:Addr) | ty (n:String)
 deriving DecidableEq
def RelV:V→Value→Prop
 | .non,u=>u=Value.none
 | .bl b,u=>u=Value.bool b
 | .int i,u=>∃t,u=Value.int i t
 | .str x,u=>∃t,u=Value.str x t
 | .byt b,u=>∃t,u=Value.bytes b t
 | .flt b,u=>∃t,u=Value.float b t
 | .ref a,u=>u=Value.ref a
 | .ty n,u=>u=Value.type n
abbrev Vals:List V→List Value→Prop:=Paired RelV
theorem Vals.length{xs:List V}{us:List Value}(r:Vals xs us):xs.length=us.length:=Paired.length r
theorem Vals.get:∀{xs:List V} {us:List Value} {i:Nat} {x:V},Vals xs us→xs[i]?=some x→∃u,us[i]?=some u∧RelV x u
 | _,_,_,_,.nil,e=>by simp at e
 | _,_,0,_,.cons r _,e=>by simp at e;subst e;exact ⟨_,rfl,r⟩
 | _,_,i+1,x,.cons _ t,e=>by
  obtain ⟨u,h1,h2⟩:=Vals.get (i:=i) (x:=x) t (by simpa using e)
  exact ⟨u,by simpa using h1,h2⟩
theorem Vals.append:∀{xs ys:List V} {us ws:List Value},Vals xs us→Vals ys ws→Vals (xs++ys) (us++ws)
 | _,_,_,_,.nil,s=>s
 | _,_,_,_,.cons r t,s=>.cons r (Vals.append t s)
theorem Vals.take:∀{xs:List V} {us:List Value} (n:Nat),Vals xs us→Vals (xs.take n) (us.take n)
 | _,_,0,_=>.nil
 | _,_,_+1,.nil=>.nil
 | _,_,n+1,.cons r t=>.cons r (Vals.take n t)
theorem Vals.drop:∀{xs:List V} {us:List Value} (n:Nat),Vals xs us→Vals (xs.drop n) (us.drop n)
 | _,_,0,r=>r
 | _,_,_+1,.nil=>.nil
 | _,_,n+1,.cons _ t=>Vals.drop n t
def RelO:Option V→Option Value→Prop
 | some v,some u=>RelV v u
 | none,none=>True
 | _,_=>False
def KV{κ:Type}:List (κ×V)→List (κ×Value)→Prop:=Paired fun (p:κ×V) (q:κ×Value)=>p.1=q.1∧RelV p.2 q.2
def kV:Key→V
 | .inl i=>.int i
 | .inr x=>.str x
inductive HO where
 | lst (xs:List V)
 | tup (xs:List V)
 | dK (kvs:List (Key×V)) | dT (kvs:List (List Key×V))
 | set (S:Int→Bool) (n:Nat)
 | ins (C dx:Addr) (fs:List (Str×V))
 | own (x:Addr)
 | xd (fs:List (Str×V))
 | met (f x:Addr)
 | rng (lo hi:Int)
 | frz (o:Obj) (u:HO)
 | tbl (ps:Array Value)
 | ext (φ:Heap→Prop)
abbrev Hp:=Addr→Option HO
def upd(H:Hp)(a:Addr)(o:HO):Hp:=fun b=>if b=a then some o else H b
theorem Zag{H:Hp}{a:Addr}{o:HO}:upd H a o a=some o:=by unfold upd;rw [if_pos rfl]
theorem Zaf{H:Hp}{a b:Addr}{o:HO}(h:b≠a):upd H a o b=H b:=by unfold upd;rw [if_neg h]
theorem Zae{H:Hp}{a b:Addr}{o:HO}(h:H a=some o)(h':H b=none):a≠b:=by
 intro e;subst e;rw [h] at h';cases h'
section
variable(P:Program)(w:World)
def Zca(H:Hp)(h:Heap)(a:Addr):HO→Prop
 | .lst xs=>xs.length≤sizeLine∧∃(its:List Value) (n:Nat),Vals xs its∧h.get? a=some { cls:=.type "list", data:=.seq its.toArray n }
 | .tup xs=>xs.length≤sizeLine∧∃its:List Value,Vals xs its∧IsTup h a its.toArray
 | .dK kvs=>kvs.length≤sizeLine∧(a==sysModules)=false∧∃vs,KV kvs vs∧h.DictOf (Zlk P w) a vs
 | .dT kvs=>kvs.length≤sizeLine∧(a==sysModules)=false∧∃xs:List (List Key×Addr×Value),
   Paired (fun (p:List Key×V) (q:List Key×Addr×Value)=>p.1=q.1∧H q.2.1=some (.tup (p.1.map kV))∧RelV p.2 q.2.2) kvs xs ∧
   ∃o es ep,h.get? a=some o∧o.ExactDict∧o.data=.dict es ep∧es.toList=xs.map (entryOfKey (tupleKind (Zlk P w)))∧(xs.map (·.1)).Nodup
 | .set S n=>h.SetOf (intKind P w) a S n
 | .ins C dx fs=>H dx=some (.own a)∧fs.length≤1000∧dx≠a∧h.get? a=some (W.instObj C dx) ∧
   ∃mA,h.Ns1 dx mA∧(∀f,RelO (fs.lookup f) (mA f))∧PySem.Within mA (fs.map (·.1))
 | .own _=>∃o,h.get? a=some o
 | .xd fs=>∃mA,h.Ns1 a mA∧∀f,RelO (fs.lookup f) (mA f)
 | .rng lo hi=>∃t u v,h.get? a=some { cls:=.type "range", data:=.fields #[.int lo t,.int hi u,.int 1 v] }
 | .frz o u=>h.get? a=some o∧Zca H h a u
 | .tbl ps=>h.get? a=some { cls:=.none,data:=.fields ps }
 | .met f x=>h.get? a=some (W.methodObj (.ref f) (.ref x))
 | .ext φ=>φ h∧(∃o,h.get? a=some o)∧∀h1 h2:Heap,φ h1→(∀o,h1.get? a=some o→h2.get? a=some o)→φ h2
def HOk(H:Hp)(h:Heap):Prop:=∀a o,H a=some o→Zca P w H h a o
end
section
variable{P:Program}{w:World}{H H':Hp}{h h':Heap}{a:Addr}{o:HO}
theorem Zca.lt(x:Zca P w H h a o):a<h.objs.size:=by
 cases o with
 | lst xs=>obtain ⟨_,_,_,_,e⟩:=x;exact Vad e
 | tup xs=>obtain ⟨_,_,_,p⟩:=x;exact p.lt
 | dK kvs=>obtain ⟨_,_,_,_,o,_,_,e,_⟩:=x;exact Vad e
 | dT kvs=>obtain ⟨_,_,_,_,o,_,_,e,_⟩:=x;exact Vad e
 | set S n=>obtain ⟨o,_,_,_,e,_⟩:=x;exact Vad e
 | ins C dx fs=>obtain ⟨_,_,_,e,_⟩:=x;exact Vad e
 | own y=>obtain ⟨_,e⟩:=x;exact Vad e
 | xd fs=>obtain ⟨_,⟨_,_,_,e,_⟩,_⟩:=x;exact Vad e
 | rng lo hi=>obtain ⟨_,_,_,e⟩:=x;exact Vad e
 | frz ob u=>obtain ⟨e,_⟩:=x;exact Vad e
 | tbl ps=>exact Vad (show h.get? a=some _ from x)
 | met f y=>exact Vad (show h.get? a=some _ from x)
 | ext φ=>obtain ⟨_,⟨_,e⟩,_⟩:=x;exact Vad e
theorem Paired.mapP{α β:Type}{F G:α→β→Prop}:∀{l₁:List α} {l₂:List β},Paired F l₁ l₂→(∀a b,F a b→G a b)→Paired G l₁ l₂
 | _,_,.nil,_=>.nil
 | _,_,.cons r t,f=>.cons (f _ _ r) (Paired.mapP t f)
theorem Zca.stay(x:Zca P w H h a o)(k:∀b u,(b=a∨H b=some (.own a))→h.get? b=some u→h'.get? b=some u)
  (ho:∀b,H b=some (.own a)→H' b=some (.own a)) (ht:∀b xs,H b=some (.tup xs)→H' b=some (.tup xs)):Zca P w H' h' a o:=by
 induction o with
 | lst xs=>obtain ⟨z,its,n,r,e⟩:=x;exact ⟨z,its,n,r,k _ _ (.inl rfl) e⟩
 | tup xs=>obtain ⟨z,its,r,ob,e,c⟩:=x;exact ⟨z,its,r,ob,k _ _ (.inl rfl) e,c⟩
 | dK kvs=>obtain ⟨z,y,vs,r,ob,es,ep,e,c⟩:=x;exact ⟨z,y,vs,r,ob,es,ep,k _ _ (.inl rfl) e,c⟩
 | dT kvs =>
  obtain ⟨z,y,xs,r,ob,es,ep,e,c⟩:=x
  exact ⟨z,y,xs,Paired.mapP r fun p q z=>⟨z.1,ht _ _ z.2.1,z.2.2⟩,ob,es,ep,k _ _ (.inl rfl) e,c⟩
 | set S n=>obtain ⟨ob,es,ep,t,e,c⟩:=x;exact ⟨ob,es,ep,t,k _ _ (.inl rfl) e,c⟩
 | ins C dx fs =>
  obtain ⟨d,z,ne,e,mA,⟨od,es,ep,e2,c⟩,r⟩:=x
  exact ⟨ho _ d,z,ne,k _ _ (.inl rfl) e,mA,⟨od,es,ep,k _ _ (.inr d) e2,c⟩,r⟩
 | own y=>obtain ⟨ob,e⟩:=x;exact ⟨ob,k _ _ (.inl rfl) e⟩
 | xd fs=>obtain ⟨mA,⟨od,es,ep,e,c⟩,r⟩:=x;exact ⟨mA,⟨od,es,ep,k _ _ (.inl rfl) e,c⟩,r⟩
 | rng lo hi=>obtain ⟨t,u,v,e⟩:=x;exact ⟨t,u,v,k _ _ (.inl rfl) e⟩
 | frz ob u ih=>obtain ⟨e,q⟩:=x;exact ⟨k _ _ (.inl rfl) e,ih q⟩
 | tbl ps =>
  have e:h.get? a=some { cls:=.none,data:=.fields ps }:=x
  show h'.get? a=some { cls:=.none,data:=.fields ps }
  exact k a _ (.inl rfl) e
 | met f y =>
  have e:h.get? a=some (W.methodObj (.ref f) (.ref y)):=x
  show h'.get? a=some (W.methodObj (.ref f) (.ref y))
  exact k a _ (.inl rfl) e
 | ext φ=>obtain ⟨p,⟨o,e⟩,st⟩:=x;exact ⟨st _ _ p fun o q=>k _ _ (.inl rfl) q,⟨o,k _ _ (.inl rfl) e⟩,st⟩
theorem HOk.lt(x:HOk P w H h)(e:H a=some o):a<h.objs.size:=(x a o e).lt
theorem HOk.fresh(x:HOk P w H h)(e:h.objs.size≤a):H a=none:=by
 cases q:H a with
 | none=>rfl
 | some u=>exact absurd (Vae (x.lt q) e) (Vaf _)
theorem HOk.kept(x:HOk P w H h)(k:∀b u,h.get? b=some u→h'.get? b=some u):HOk P w H h':=fun a o e =>
 (x a o e).stay (fun b u _ q=>k b u q) (fun _ q=>q) fun _ _ q=>q
theorem HOk.laid(x:HOk P w H h)(k:∀b u,h.get? b=some u→h'.get? b=some u)(hp:h.objs.size≤a)(new:Zca P w (upd H a o) h' a o):HOk P w (upd H a o) h':=fun b u e=>by
 have hn:=x.fresh hp
 by_cases hb:b=a
 ·subst hb;rw [Zag] at e;cases e;exact new
 ·rw [Zaf hb] at e
  exact (x b u e).stay (fun c v _ q=>k c v q) (fun c q=>by rw [Zaf (Zae q hn)];exact q) fun c xs q=>by rw [Zaf (Zae q hn)];exact q
end
def Rd(H:Hp)(a:Addr)(u:HO):Prop:=H a=some u∨∃o,H a=some (.frz o u)
theorem Rd.ok{P:Program}{w:World}{H:Hp}{h:Heap}{a:Addr}{u:HO}(r:Rd H a u)(x:HOk P w H h):Zca P w H h a u:=by
 rcases r with r | ⟨o,r⟩
 ·exact x a u r
 ·obtain ⟨_,q⟩:=x a _ r
  exact q
def Mut:Option HO→Prop
 | some (.lst _)=>True
 | some (.dK _)=>True
 | some (.dT _)=>True
 | some (.set _ _)=>True
 | some (.ins _ _ _)=>True
 | some (.ext _)=>True
 | _=>False
section
variable{P:Program}{w:World}{H:Hp}{h h':Heap}{x e:Addr}{o':HO}
theorem HOk.write(ok:HOk P w H h)(mu:Mut (H x))(he:e=x∨H e=some (.own x))(k:∀b u,b≠e→h.get? b=some u→h'.get? b=some u)(heo:∃u,h'.get? e=some u)
  (new:Zca P w (upd H x o') h' x o'):HOk P w (upd H x o') h':=fun b u q=>by
 have nown:∀c y,H c=some (.own y)→c≠x:=fun c y r z=>by subst z;rw [r] at mu;exact mu
 have ntup:∀c xs,H c=some (.tup xs)→c≠x:=fun c xs r z=>by subst z;rw [r] at mu;exact mu
 by_cases hb:b=x
 ·subst hb;rw [Zag] at q;cases q;exact new
 ·rw [Zaf hb] at q
  by_cases hbe:b=e
  ·have q':H b=some (.own x):=by
    rcases he with z | z
    ·exact absurd (hbe.trans z) hb
    ·rw [hbe];exact z
   rw [q] at q';cases q'
   obtain ⟨v,hv⟩:=heo
   exact ⟨v,by rw [hbe];exact hv⟩
  ·refine (ok b u q).stay (fun c v hc r=>k c v ?_ r) (fun c r=>by rw [Zaf (nown c b r)];exact r) fun c xs r=>by rw [Zaf (ntup c xs r)];exact r
   rcases hc with rfl | hc
   ·exact hbe
   ·rintro rfl
    rcases he with z | z
    ·exact nown c b hc z
    ·rw [hc] at z;cases z;exact hb rfl
end
structure Un(fs ex:List Addr)(H H':Hp)(h h':Heap):Prop where
 keep:∀b o,h.get? b=some o→H b=none→b∉fs→b∉ex→h'.get? b=some o
 slot:∀b o,h.get? b=some o→H b=none→b∈fs→b∉ex→∃sl,h'.get? b=some { o with slots:=sl }
 free:∀b o,h.get? b=some o→H b=none→b∉ex→H' b=none
 there:∀b o,h.get? b=some o→b∉ex→∃o',h'.get? b=some o'
 tups:∀b xs,H b=some (.tup xs)→H' b=some (.tup xs)
 frzs:∀b o u,H b=some (.frz o u)→H' b=some (.frz o u)
 tbls:∀b ps,H b=some (.tbl ps)→∃more,H' b=some (.tbl (ps++more))
section
variable{fs fs' ex ex':List Addr}{H H1 H2:Hp}{h h1 h2 h':Heap}{a x e:Addr}{o:HO}
theorem Un.any(u:Un fs ex H H1 h h1){b:Addr}{ob:Obj}(q:h.get? b=some ob)(n:H b=none)(hx:b∉ex):∃sl,h1.get? b=some { ob with slots:=sl }:=by
 by_cases hb:b∈fs
 ·exact u.slot b ob q n hb hx
 ·exact ⟨ob.slots,u.keep b ob q n hb hx⟩
theorem Un.trans(a:Un fs ex H H1 h h1)(b:Un fs ex H1 H2 h1 h2):Un fs ex H H2 h h2 where
 keep:=fun c ob q n hc hx=>b.keep c ob (a.keep c ob q n hc hx) (a.free c ob q n hx) hc hx
 slot:=fun c ob q n hc hx=>by
  obtain ⟨sl,e1⟩:=a.slot c ob q n hc hx
  obtain ⟨sl',e2⟩:=b.slot c _ e1 (a.free c ob q n hx) hc hx
  exact ⟨sl',e2⟩
 free:=fun c ob q n hx=>by
  obtain ⟨o',e1⟩:=a.there c ob q hx
  exact b.free c o' e1 (a.free c ob q n hx) hx
 there:=fun c ob q hx=>by
  obtain ⟨o',e1⟩:=a.there c ob q hx
  exact b.there c o' e1 hx
 tups:=fun c xs q=>b.tups c xs (a.tups c xs q)
 frzs:=fun c ob xs q=>b.frzs c ob xs (a.frzs c ob xs q)
 tbls:=fun c ps q=>by
  obtain ⟨m1,e1⟩:=a.tbls c ps q
  obtain ⟨m2,e2⟩:=b.tbls c _ e1
  exact ⟨m1++m2,by rw [e2,Array.append_assoc]⟩
theorem Un.kept(k:∀b u,h.get? b=some u→h'.get? b=some u):Un fs ex H H h h' :=
 ⟨fun b ob q _ _ _=>k b ob q,fun b ob q _ _ _=>⟨ob.slots,k b ob q⟩,fun _ _ _ n _=>n,fun b ob q _=>⟨ob,k b ob q⟩,fun _ _ q=>q,fun _ _ _ q=>q,fun _ ps q=>⟨#[],by rw [q];simp⟩⟩
theorem Un.refl:Un fs ex H H h h:=Un.kept fun _ _ q=>q
theorem Un.laid(k:∀b u,h.get? b=some u→h'.get? b=some u)(hp:h.objs.size≤a)(hn:H a=none):Un fs ex H (upd H a o) h h' where
 keep:=fun b u q _ _ _=>k b u q
 slot:=fun b u q _ _ _=>⟨u.slots,k b u q⟩
 free:=fun b u q n _=>by rw [Zaf (Vag (Vae (Vad q) hp))];exact n
 there:=fun b u q _=>⟨u,k b u q⟩
 tups:=fun b xs q=>by rw [Zaf (Zae q hn)];exact q
 frzs:=fun b u xs q=>by rw [Zaf (Zae q hn)];exact q
 tbls:=fun b ps q=>⟨#[],by rw [Zaf (Zae q hn),q];simp⟩
theorem Un.write(mu:Mut (H x))(he:e=x∨H e=some (.own x))(k:∀b u,b≠e→h.get? b=some u→h'.get? b=some u)(heo:∃u,h'.get? e=some u):Un fs ex H (upd H x o) h h':=by
 have hx:∀b,H b=none→b≠x:=fun b n z=>by subst z;rw [n] at mu;exact mu
 have hb:∀b,H b=none→b≠e:=fun b n z=>by
  subst z
  rcases he with r | r
  ·exact hx b n r
  ·rw [n] at r;cases r
 have hm:∀b u,H b=some u→¬Mut (some u)→b≠x:=fun b u q nm z=>by subst z;rw [q] at mu;exact nm mu
 refine ⟨fun b u q n _ _=>k b u (hb b n) q,fun b u q n _ _=>⟨u.slots,k b u (hb b n) q⟩,fun b u q n _=>by rw [Zaf (hx b n)];exact n,fun b u q _=>?_,
  fun b xs q=>by rw [Zaf (hm b _ q fun z=>z)];exact q,fun b u xs q=>by rw [Zaf (hm b _ q fun z=>z)];exact q,fun b ps q=>⟨#[],by rw [Zaf (hm b _ q fun z=>z),q];simp⟩⟩
 by_cases hbe:b=e
 ·subst hbe;exact heo
 ·exact ⟨u,k b u hbe q⟩
theorem Un.mono(u:Un fs ex H H1 h h1)(hs:∀b∈fs,b∈fs')(hx:∀b∈ex,b∈ex'):Un fs' ex' H H1 h h1 :=
 ⟨fun b ob q n hb he=>u.keep b ob q n (fun z=>hb (hs b z)) fun z=>he (hx b z),fun _ _ q n _ he=>u.any q n fun z=>he (hx _ z),fun b ob q n he=>u.free b ob q n fun z=>he (hx b z),fun b ob q he=>u.there b ob q fun z=>he (hx b z),u.tups,u.frzs,u.tbls⟩
end
def trk(h:Heap)(H:Hp):List Addr:=(List.range h.objs.size).filter fun a=>(H a).isSome
def hidT(h:Heap)(H:Hp):Heap:=W.hideAll h (trk h H)
theorem Zlv(h:Heap)(H:Hp):(hidT h H).objs.size=h.objs.size:=W.hideAll_size _ _
theorem ZnQ{h:Heap}{H:Hp}{b:Addr}{o:Obj}(e:h.get? b=some o)(n:H b=none):(hidT h H).get? b=some o :=
 W.hideAll_get _ e fun hm=>by
  have q:(H b).isSome=true:=(Vah.mp hm).2
  rw [n] at q;simp at q
theorem ZpG{h:Heap}{H:Hp}{b:Addr}{o:Obj}(e:(hidT h H).get? b=some o):h.get? b=some o∧H b=none:=by
 have e':h.get? b=some o:=W.of_hideAll (trk h H) e
 refine ⟨e',?_⟩
 cases q:H b with
 | none=>rfl
 | some x =>
  have hm:b∈trk h H:=Vah.mpr ⟨Vai.mpr (Vad e'),by simp [q]⟩
  have z:(hidT h H).get? b=none:=W.hideAll_none (trk h H) hm
  rw [z] at e;cases e
structure Mod(K:W.Frag)(mg:Str→Option Value)(base:Heap):Prop where
 kin:K.In base
 glob:base.Ns mainGlobals mg
 blt:∃mb,base.Ns builtinsNs mb∧∀x:Str,x ≠ "__name__"→mb x=bootBuiltins x
 nolimit:base.NoLimit
structure Cx where
 prog:Program
 w:World
 K:W.Frag
 mg:Str→Option Value
 base:Heap
 A:Around
 N:List Str
 s₀:Shared
 H₀:Hp
 env:Env
 outer:List Env
 stack:List Env
 ex:List Addr
 fn:Str→Bool
 calm:Bool
 pn:List (Addr×Obj)
 xe:Value→Shared→Prop
def frs(l:List Env):List Addr:=l.filterMap (·.frame)
abbrev Cx.fs(X:Cx):List Addr:=frs X.outer
def Vis(sc:Scope)(x:Str):Prop:=sc.names.lookup x=some .local∨sc.names.lookup x=some .cell∨sc.names.lookup x=some .free
def Loc(sc:Scope)(x:Str):Prop:=sc.names.lookup x=some .local∨sc.names.lookup x=some .cell
def Look(env:Env)(h:Heap)(m:Str→Option Value)(x:Str)(u:Value):Prop :=
 (env.kindOf x=some .local∧m x=some u)∨((env.kindOf x=some .cell∨env.kindOf x=some .free)∧∃c,env.cells.lookup x=some c∧h.IsCell c (some u))
structure Cx.Ok(X:Cx):Prop where
 mod:Mod X.K X.mg X.base
 kind:X.env.scope.kind=.function
 glob:X.env.globals=mainGlobals
 blt:X.env.builtins=builtinsNs
 above:X.s₀.heap.objs.size≤X.env.locals
 inj:∀x y c,X.env.cells.lookup x=some c→X.env.cells.lookup y=some c→x=y
 has:∀x,(X.env.kindOf x=some .cell∨X.env.kindOf x=some .free)→∃c,X.env.cells.lookup x=some c
 cab:∀x c,X.fn x=true→X.env.cells.lookup x=some c→X.s₀.heap.objs.size≤c
 hd:X.calm=true→X.A.handled=none
 frames:X.A.frames=some X.stack
 stk:X.stack=X.outer∨(X.stack=X.env::X.outer∧X.env.frame=some X.env.locals)
 exf:∀b∈X.ex,b≠X.env.locals∧∀x c,X.env.cells.lookup x=some c→c≠b
 bs:∀b o,X.base.get? b=some o→X.s₀.heap.get? b=some o∧X.H₀ b=none
 bsz:X.base.objs.size≤X.s₀.heap.objs.size
 noex:∀b o,X.base.get? b=some o→b∉X.ex
 exfs:∀b∈X.ex,b∉X.fs
 funs:X.s₀.heap.FunFrames X.base X.outer
 frf:∀b∈X.fs,X.H₀ b=none
structure Inv(X:Cx)(pins:List (Addr×Obj))(σ:List (Option V))(H:Hp)(s:Shared):Prop where
 ok:X.Ok
 os:s.os=X.s₀.os
 bare:AllBare s.gens
 base:Un X.fs X.ex X.H₀ H X.s₀.heap s.heap
 loc:∃m,s.heap.Ns X.env.locals m∧∀(i:Nat) (x:Str) (v:V),X.N[i]?=some x→σ[i]?=some (some v)→Vis X.env.scope x→∃u,RelV v u∧Look X.env s.heap m x u
 cell:∀x c,X.env.cells.lookup x=some c→∃v,s.heap.IsCell c v
 free:H X.env.locals=none
 freeC:∀x c,X.env.cells.lookup x=some c→H c=none
 pin:∀p∈X.pn++pins,s.heap.get? p.1=some p.2∧H p.1=none∧p.1≠X.env.locals∧p.1∉X.fs∧∀v,p.2.data≠.cell v
 hok:HOk X.prog X.w H s.heap
 len:σ.length=X.N.length
section
variable{X:Cx}{pins:List (Addr×Obj)}{σ:List (Option V)}{H H':Hp}{s:Shared}{h':Heap}
theorem Cx.Ok.nofr(ok:X.Ok){b:Addr}{o:Obj}(e:X.base.get? b=some o):b∉X.fs:=fun hb=>by
 have:=(ok.funs.mem hb).1
 rw [e] at this;cases this
theorem Inv.bs(I:Inv X pins σ H s):∀b o,X.base.get? b=some o→s.heap.get? b=some o∧H b=none:=fun b o e =>
 ⟨I.base.keep b o (I.ok.bs b o e).1 (I.ok.bs b o e).2 (I.ok.nofr e) (I.ok.noex b o e),I.base.free b o (I.ok.bs b o e).1 (I.ok.bs b o e).2 (I.ok.noex b o e)⟩
theorem Inv.bk(I:Inv X pins σ H s):∀b o,X.base.get? b=some o→s.heap.get? b=some o:=fun b o e=>(I.bs b o e).1
theorem Inv.mod(I:Inv X pins σ H s):Mod X.K X.mg X.base:=I.ok.mod
theorem Inv.kIn(I:Inv X pins σ H s):X.K.In s.heap:=I.ok.mod.kin.keeps I.bk
theorem Inv.lt(I:Inv X pins σ H s):X.env.locals<s.heap.objs.size:=let ⟨_,hn,_⟩:=I.loc;hn.lt
theorem Inv.sz(I:Inv X pins σ H s):X.s₀.heap.objs.size≤s.heap.objs.size:=Vaj I.ok.above (Vak I.lt)
theorem Inv.nofs(I:Inv X pins σ H s){a:Addr}(h:s.heap.objs.size≤a):a∉X.fs:=fun hb=>by
 obtain ⟨_,o,ho,_⟩:=I.ok.funs.mem hb
 exact absurd (Vae (Vad ho) (Vaj I.sz h)) (Vaf _)
theorem Inv.cne(I:Inv X pins σ H s):∀x c,X.env.cells.lookup x=some c→c≠X.env.locals:=fun x c e z=>by
 obtain ⟨v,o,ho,hd⟩:=I.cell x c e
 obtain ⟨m,⟨o',es,ep,ho',hd',_⟩,_⟩:=I.loc
 rw [z,ho'] at ho;cases ho;rw [hd'] at hd;cases hd
theorem Inv.funs(I:Inv X pins σ H s):s.heap.FunFrames X.base X.outer:=by
 have all:∀(l:List Env),(∀b∈frs l,b∈X.fs)→X.s₀.heap.FunFrames X.base l→s.heap.FunFrames X.base l:=by
  intro l
  induction l with
  | nil=>intro _ _;trivial
  | cons env r ih =>
   intro hs hl
   obtain ⟨hk,⟨L,o,hf,hn,ho,hd⟩,hr⟩:=hl
   have hL:L∈X.fs:=hs L (by unfold frs;rw [List.filterMap_cons,hf];exact List.mem_cons_self)
   obtain ⟨sl,e⟩:=I.base.slot L o ho (I.ok.frf L hL) hL fun z=>I.ok.exfs L z hL
   exact ⟨hk,⟨L,_,hf,hn,e,hd⟩,ih (fun b hb=>hs b (by unfold frs;rw [List.filterMap_cons,hf];exact List.mem_cons_of_mem _ hb)) hr⟩
 exact all X.outer (fun _ hb=>hb) I.ok.funs
theorem Inv.stack(I:Inv X pins σ H s):s.heap.FunFrames X.base X.stack:=by
 rcases I.ok.stk with e | ⟨e,hf⟩
 ·rw [e];exact I.funs
 ·rw [e]
  obtain ⟨m,hn,_⟩:=I.loc
  refine .cons (by rw [I.ok.kind];decide) hf hn ?_ I.funs
  exact Vap (Vaj I.ok.bsz I.ok.above)
theorem Inv.stkSub(I:Inv X pins σ H s):∀b∈frs X.stack,b∈X.env.locals::X.fs:=fun b hb=>by
 rcases I.ok.stk with e | ⟨e,hf⟩
 ·rw [e] at hb;exact Vao _ hb
 ·rw [e] at hb
  unfold frs at hb
  rw [Vam,hf] at hb
  exact hb
theorem Inv.stkFree(I:Inv X pins σ H s):∀b∈frs X.stack,H b=none:=fun b hb=>by
 rcases Vaq.mp (I.stkSub b hb) with e | hb
 ·rw [e];exact I.free
 ·obtain ⟨_,o,ho,_⟩:=I.ok.funs.mem hb
  exact I.base.free b o ho (I.ok.frf b hb) fun z=>I.ok.exfs b z hb
theorem Inv.step{g':Array GenState}{t':Nat}{d':Drawn}{ch:List Addr}(I:Inv X pins σ H s)
  (hch:∀b∈ch,(b∈X.ex∨X.s₀.heap.objs.size≤b)∧b≠X.env.locals∧(∀x c,X.env.cells.lookup x=some c→c≠b)∧∀p∈X.pn++pins,p.1≠b)
  (keep:∀b o,b≠X.env.locals→b∉X.fs→b∉ch→s.heap.get? b=some o→H b=none→h'.get? b=some o)
  (slot:∀b o,b≠X.env.locals→b∈X.fs→b∉ch→s.heap.get? b=some o→H b=none→∃sl,h'.get? b=some { o with slots:=sl }) (free:∀b o,b∉ch→s.heap.get? b=some o→H b=none→H' b=none)
  (there:∀b o,b∉ch→s.heap.get? b=some o→∃o',h'.get? b=some o')
  (tups:∀b xs,H b=some (.tup xs)→H' b=some (.tup xs)) (frzs:∀b o u,H b=some (.frz o u)→H' b=some (.frz o u)) (tbls:∀b ps,H b=some (.tbl ps)→∃more,H' b=some (.tbl (ps++more)))
  (ns:∀m,s.heap.Ns X.env.locals m→h'.Ns X.env.locals m) (hok:HOk X.prog X.w H' h') (hg:AllBare g') :
  Inv X pins σ H' { s with heap:=h',gens:=g',drawn:=d',toks:=t' }:=by
 have neL:∀b o,X.s₀.heap.get? b=some o→b≠X.env.locals:=fun b o e=>Vag (Vae (Vad e) I.ok.above)
 have neC:∀b o,X.s₀.heap.get? b=some o→b∉X.ex→b∉ch:=fun b o e hx hb=>by
  rcases (hch b hb).1 with z | z
  ·exact hx z
  ·exact absurd (Vae (Vad e) z) (Vaf _)
 have cellK:∀x c,X.env.cells.lookup x=some c→∀v,s.heap.IsCell c v→h'.IsCell c v:=fun x c e v ⟨o,ho,hd⟩=>by
  have nch:c∉ch:=fun z=>(hch c z).2.2.1 x c e rfl
  by_cases hc:c∈X.fs
  ·obtain ⟨sl,q⟩:=slot c o (I.cne x c e) hc nch ho (I.freeC x c e)
   exact ⟨_,q,hd⟩
  ·exact ⟨o,keep c o (I.cne x c e) hc nch ho (I.freeC x c e),hd⟩
 refine ⟨I.ok,I.os,hg,⟨fun b o e n hb hx=>?_,fun b o e n hb hx=>?_,fun b o e n hx=>?_,fun b o e hx=>?_,fun b xs e=>tups b xs (I.base.tups b xs e),fun b o xs e=>frzs b o xs (I.base.frzs b o xs e),fun b ps e=>?_⟩,?_,fun x c e=>?_,?_,fun x c e=>?_,fun p hp=>?_,hok,I.len⟩
 ·exact keep b o (neL b o e) hb (neC b o e hx) (I.base.keep b o e n hb hx) (I.base.free b o e n hx)
 ·obtain ⟨sl,e1⟩:=I.base.slot b o e n hb hx
  obtain ⟨sl',e2⟩:=slot b _ (neL b o e) hb (neC b o e hx) e1 (I.base.free b o e n hx)
  exact ⟨sl',e2⟩
 ·obtain ⟨o',e1⟩:=I.base.there b o e hx
  exact free b o' (neC b o e hx) e1 (I.base.free b o e n hx)
 ·obtain ⟨o',e1⟩:=I.base.there b o e hx
  exact there b o' (neC b o e hx) e1
 ·obtain ⟨m1,e1⟩:=I.base.tbls b ps e
  obtain ⟨m2,e2⟩:=tbls b _ e1
  exact ⟨m1++m2,by rw [e2,Array.append_assoc]⟩
 ·obtain ⟨m,hn,hl⟩:=I.loc
  refine ⟨m,ns m hn,fun i x v e1 e2 e3=>?_⟩
  obtain ⟨u,r,l⟩:=hl i x v e1 e2 e3
  refine ⟨u,r,?_⟩
  rcases l with l | ⟨k,c,e,z⟩
  ·exact .inl l
  ·exact .inr ⟨k,c,e,cellK x c e _ z⟩
 ·obtain ⟨v,z⟩:=I.cell x c e
  exact ⟨v,cellK x c e v z⟩
 ·obtain ⟨m,⟨o,_,_,ho,_⟩,_⟩:=I.loc
  exact free _ o (fun z=>(hch _ z).2.1 rfl) ho I.free
 ·obtain ⟨v,o,ho,hd⟩:=I.cell x c e
  exact free c o (fun z=>(hch c z).2.2.1 x c e rfl) ho (I.freeC x c e)
 ·obtain ⟨e,n,ne,nf,d⟩:=I.pin p hp
  have nch:p.1∉ch:=fun z=>(hch p.1 z).2.2.2 p hp rfl
  exact ⟨keep p.1 p.2 ne nf nch e n,free p.1 p.2 nch e n,ne,nf,d⟩
theorem Inv.un{t':Nat}(I:Inv X pins σ H s)(u:Un X.fs [] H H' s.heap h')(hok:HOk X.prog X.w H' h'):Inv X pins σ H' { s with heap:=h',toks:=t' }:=by
 obtain ⟨m,⟨o,es,ep,ho,r⟩,_⟩:=id I.loc
 obtain ⟨sl,hL⟩:=u.any ho I.free (by simp)
 exact I.step (g':=s.gens) (d':=s.drawn) (ch:=[]) (fun _ z=>nomatch z) (fun b o _ hb _ e n=>u.keep b o e n hb (by simp)) (fun b o _ hb _ e n=>u.slot b o e n hb (by simp)) (fun b o _ e n=>u.free b o e n (by simp)) (fun b o _ e=>u.there b o e (by simp)) u.tups u.frzs u.tbls (fun m' hm=>by
  obtain ⟨o',es',ep',ho',r'⟩:=hm
  rw [ho] at ho';cases ho'
  exact ⟨_,es',ep',hL,r'⟩) hok I.bare
theorem Inv.call{g':Array GenState}{t':Nat}{d':Drawn}{ch:List Addr}(I:Inv X pins σ H s)(u:Un (frs X.stack) ch H H' s.heap h')(hok:HOk X.prog X.w H' h')(hg:AllBare g')
  (hch:∀b∈ch,(b∈X.ex∨X.s₀.heap.objs.size≤b)∧b≠X.env.locals∧(∀x c,X.env.cells.lookup x=some c→c≠b)∧∀p∈X.pn++pins,p.1≠b) :
  Inv X pins σ H' { s with heap:=h',gens:=g',drawn:=d',toks:=t' }:=by
 obtain ⟨m,⟨o,es,ep,ho,r⟩,_⟩:=id I.loc
 obtain ⟨sl,hL⟩:=u.any ho I.free fun z=>(hch _ z).2.1 rfl
 exact I.step (ch:=ch) hch (fun b o hL hb hc e n=>u.keep b o e n (fun z=>(Vaq.mp (I.stkSub b z)).elim hL hb) hc) (fun b o _ _ hc e n=>u.any e n hc) (fun b o hc e n=>u.free b o e n hc) (fun b o hc e=>u.there b o e hc) u.tups u.frzs u.tbls (fun m' hm=>by
  obtain ⟨o',es',ep',ho',r'⟩:=hm
  rw [ho] at ho';cases ho'
  exact ⟨_,es',ep',hL,r'⟩) hok hg
theorem Inv.turned{t':Nat}{it:Addr}(I:Inv X pins σ H s)(k:∀b o,b≠it→s.heap.get? b=some o→h'.get? b=some o)(hn:H it=none)(hL:it≠X.env.locals)
  (h1:it∈X.ex∨X.s₀.heap.objs.size≤it) (h2:∀x c,X.env.cells.lookup x=some c→c≠it) (h3:∀p∈X.pn++pins,p.1≠it):Inv X pins σ H { s with heap:=h',toks:=t' }:=by
 have nit:∀b u,H b=some u→b≠it:=fun b u e z=>by rw [z,hn] at e;cases e
 refine I.step (g':=s.gens) (d':=s.drawn) (ch:=[it]) (fun b hb=>?_) (fun b o _ _ hc e _=>k b o (fun z=>hc (by simp [z])) e) (fun b o _ _ hc e _=>⟨o.slots,k b o (fun z=>hc (by simp [z])) e⟩) (fun _ _ _ _ n=>n)
  (fun b o hc e=>⟨o,k b o (fun z=>hc (by simp [z])) e⟩) (fun _ _ e=>e) (fun _ _ _ e=>e) (fun b ps e=>⟨#[],by rw [e];simp⟩) (fun m hm=>?_) (fun b u e=>?_) I.bare
 ·have e:b=it:=by simpa using hb
  subst e
  exact ⟨h1,hL,h2,h3⟩
 ·obtain ⟨o,es,ep,ho,r⟩:=hm
  exact ⟨o,es,ep,k _ o (Ne.symm hL) ho,r⟩
 ·refine (I.hok b u e).stay (fun c v hc q=>k c v ?_ q) (fun _ q=>q) fun _ _ q=>q
  rcases hc with z | z
  ·rw [z];exact nit b u e
  ·exact nit c _ z
theorem Inv.tok(I:Inv X pins σ H s)(t:Nat):Inv X pins σ H { s with toks:=t }:=I.un (h':=s.heap) (t':=t) Un.refl I.hok
theorem Inv.kept{t':Nat}(I:Inv X pins σ H s)(k:∀b u,s.heap.get? b=some u→h'.get? b=some u):Inv X pins σ H { s with heap:=h',toks:=t' }:=I.un (Un.kept k) (I.hok.kept k)
theorem Inv.laid{a:Addr}{o:HO}{t':Nat}(I:Inv X pins σ H s)(k:∀b u,s.heap.get? b=some u→h'.get? b=some u)(hp:s.heap.objs.size≤a)(new:Zca X.prog X.w (upd H a o) h' a o) :
  Inv X pins σ (upd H a o) { s with heap:=h',toks:=t' }:=I.un (Un.laid k hp (I.hok.fresh hp)) (I.hok.laid k hp new)
theorem Inv.write{x e:Addr}{o:HO}{t':Nat}(I:Inv X pins σ H s)(mu:Mut (H x))(he:e=x∨H e=some (.own x))(k:∀b u,b≠e→s.heap.get? b=some u→h'.get? b=some u)(heo:∃u,h'.get? e=some u)
  (new:Zca X.prog X.w (upd H x o) h' x o):Inv X pins σ (upd H x o) { s with heap:=h',toks:=t' }:=I.un (Un.write mu he k heo) (I.hok.write mu he k heo new)
theorem Inv.weak{σ':List (Option V)}(I:Inv X pins σ H s)(hl:σ'.length=σ.length)(w:∀(i:Nat) v,σ'[i]?=some (some v)→σ[i]?=some (some v)):Inv X pins σ' H s :=
 ⟨I.ok,I.os,I.bare,I.base,let ⟨m,hn,hl'⟩:=I.loc;⟨m,hn,fun i x v e1 e2 e3=>hl' i x v e1 (w i v e2) e3⟩,I.cell,I.free,I.freeC,I.pin,I.hok,hl.trans I.len⟩
theorem Inv.pins_of{pins':List (Addr×Obj)}(I:Inv X pins σ H s)(h:∀p∈pins',s.heap.get? p.1=some p.2∧H p.1=none∧p.1≠X.env.locals∧p.1∉X.fs∧∀v,p.2.data≠.cell v):Inv X pins' σ H s :=
 ⟨I.ok,I.os,I.bare,I.base,I.loc,I.cell,I.free,I.freeC,fun p hp=>(Var.mp hp).elim (fun z=>I.pin p (Vas _ z)) (h p),I.hok,I.len⟩
theorem Zjw{N:List Str}(hN:N.Nodup){i j:Nat}{x:Str}(a:N[i]?=some x)(b:N[j]?=some x):i=j:=by
 obtain ⟨h1,e1⟩:=Vat.mp a
 obtain ⟨h2,e2⟩:=Vat.mp b
 exact (List.getElem_inj hN).mp (e1.trans e2.symm)
theorem Zk2{M:Model}{A:Around}{E:Value→Shared→Prop}{i:Nat}{x:Str}{v:V}{u:Value}{Q:Unit→Shared→Prop}(I:Inv X pins σ H s)(hN:X.N.Nodup)(hi:X.N[i]?=some x)(hx:Loc X.env.scope x)(r:RelV v u)
  (h:∀s',Inv X pins (σ.set i (some v)) H s'→(∃a,Heap.SameBut a s.heap s'.heap∧(a=X.env.locals∨X.env.cells.lookup x=some a))→Q () s') (hf:X.fn x=true∨X.env.scope.names.lookup x=some .local:=by first | exact .inl rfl | exact .inr rfl | assumption):wpAny M A (storeName X.env x u) Q E s:=by
 obtain ⟨m,hn,hl⟩:=id I.loc
 have hcls:(X.env.scope.kind==.class||(X.env.scope.kind==.module&&X.env.locals != X.env.globals))=false:=by rw [I.ok.kind];rfl
 have hiσ:i<σ.length:=by rw [I.len];exact (Vat.mp hi).1
 have cne:=I.cne
 have tracked:∀{a:Addr} {h':Heap},(∃o,s.heap.get? a=some o∧H a=none)→Heap.SameBut a s.heap h'→HOk X.prog X.w H h':=fun {a h'} ha hs b ob e=>by
  obtain ⟨_,_,hfree⟩:=ha
  refine (I.hok b ob e).stay (fun c w' hc q=>(hs.2 c ?_).trans q) (fun _ q=>q) fun _ _ q=>q
  rintro rfl
  rcases hc with rfl | hc
  ·rw [hfree] at e;cases e
  ·rw [hfree] at hc;cases hc
 rcases hx with hk | hk
 ·refine wpAny_storeName_local hk hn (fun h' hn' hs=>?_) hcls
  obtain ⟨oL,_,_,hoL,_⟩:=id hn
  refine h _ ⟨I.ok,I.os,I.bare,⟨fun b o e n hb hx=>?_,fun b o e n hb hx=>?_,I.base.free,fun b o e hx=>?_,I.base.tups,I.base.frzs,I.base.tbls⟩,⟨_,hn',fun j y v' e1 e2 e3=>?_⟩,fun y c e=>?_,I.free,I.freeC,fun p hp=>?_,tracked ⟨oL,hoL,I.free⟩ hs,by simpa using I.len⟩ ⟨_,hs,.inl rfl⟩
  ·exact (hs.2 b (Vag (Vae (Vad e) I.ok.above))).trans (I.base.keep b o e n hb hx)
  ·obtain ⟨sl,e1⟩:=I.base.slot b o e n hb hx
   exact ⟨sl,(hs.2 b (Vag (Vae (Vad e) I.ok.above))).trans e1⟩
  ·obtain ⟨o',e1⟩:=I.base.there b o e hx
   exact ⟨o',(hs.2 b (Vag (Vae (Vad e) I.ok.above))).trans e1⟩
  ·by_cases hj:j=i
   ·subst hj
    rw [hi] at e1;cases e1
    rw [List.getElem?_set_self hiσ] at e2
    cases e2
    exact ⟨u,r,.inl ⟨hk,by simp⟩⟩
   ·rw [List.getElem?_set_ne (Ne.symm hj)] at e2
    obtain ⟨u',r',q⟩:=hl j y v' e1 e2 e3
    refine ⟨u',r',?_⟩
    rcases q with ⟨k,e⟩ | ⟨k,c,e,z⟩
    ·refine .inl ⟨k,?_⟩
     have:y≠x:=fun e=>hj (Zjw hN e1 (e▸hi))
     simp [this,e]
    ·exact .inr ⟨k,c,e,z.sameBut hs (cne y c e)⟩
  ·obtain ⟨w',z⟩:=I.cell y c e
   exact ⟨w',z.sameBut hs (cne y c e)⟩
  ·obtain ⟨e,n,ne,nf,d⟩:=I.pin p hp
   exact ⟨(hs.2 p.1 ne).trans e,n,ne,nf,d⟩
 ·have hfn:X.fn x=true:=by
   rcases hf with z | z
   ·exact z
   ·rw [z] at hk;cases hk
  obtain ⟨c,hc⟩:=I.ok.has x (.inl hk)
  obtain ⟨w',z⟩:=I.cell x c hc
  refine wpAny_storeName_cell I.ok.kind hk hc z (fun h' hc' hs=>?_)
  obtain ⟨oc,hoc,hocd⟩:=id z
  refine h { s with heap:=h' } ⟨I.ok,I.os,I.bare,⟨fun b o e n hb hx=>?_,fun b o e n hb hx=>?_,I.base.free,fun b o e hx=>?_,I.base.tups,I.base.frzs,I.base.tbls⟩,⟨m,hn.sameBut hs (Ne.symm (cne x c hc)),fun j y v' e1 e2 e3=>?_⟩,fun y c' e=>?_,I.free,I.freeC,fun p hp=>?_,tracked ⟨oc,hoc,I.freeC x c hc⟩ hs,by simpa using I.len⟩ ⟨c,hs,.inr hc⟩
  ·exact (hs.2 b (Vag (Vae (Vad e) (I.ok.cab x c hfn hc)))).trans (I.base.keep b o e n hb hx)
  ·obtain ⟨sl,e1⟩:=I.base.slot b o e n hb hx
   exact ⟨sl,(hs.2 b (Vag (Vae (Vad e) (I.ok.cab x c hfn hc)))).trans e1⟩
  ·obtain ⟨o',e1⟩:=I.base.there b o e hx
   exact ⟨o',(hs.2 b (Vag (Vae (Vad e) (I.ok.cab x c hfn hc)))).trans e1⟩
  ·by_cases hj:j=i
   ·subst hj
    rw [hi] at e1;cases e1
    rw [List.getElem?_set_self hiσ] at e2
    cases e2
    exact ⟨u,r,.inr ⟨.inl hk,c,hc,hc'⟩⟩
   ·rw [List.getElem?_set_ne (Ne.symm hj)] at e2
    obtain ⟨u',r',q⟩:=hl j y v' e1 e2 e3
    refine ⟨u',r',?_⟩
    rcases q with q | ⟨k,c',e,z'⟩
    ·exact .inl q
    ·refine .inr ⟨k,c',e,z'.sameBut hs ?_⟩
     rintro rfl
     exact hj (Zjw hN e1 (I.ok.inj _ _ _ e hc▸hi))
  ·by_cases hcc:c'=c
   ·subst hcc;exact ⟨_,hc'⟩
   ·obtain ⟨w2,z2⟩:=I.cell y c' e
    exact ⟨w2,z2.sameBut hs hcc⟩
  ·obtain ⟨e,n,ne,nf,d⟩:=I.pin p hp
   refine ⟨(hs.2 p.1 ?_).trans e,n,ne,nf,d⟩
   intro q
   rw [q,hoc] at e
   have q':oc=p.2:=Vau e
   exact d w' (by rw [←q'];exact hocd)
theorem Zht{M:Model}{A:Around}{E:Value→Shared→Prop}{i:Nat}{x:Str}{v:V}{u:Value}{Q:Unit→Shared→Prop}(I:Inv X pins σ H s)(hN:X.N.Nodup)(hi:X.N[i]?=some x)(hx:Loc X.env.scope x)(r:RelV v u)
  (h:∀s',Inv X pins (σ.set i (some v)) H s'→Q () s') (hf:X.fn x=true∨X.env.scope.names.lookup x=some .local:=by first | exact .inl rfl | exact .inr rfl | assumption):wpAny M A (storeName X.env x u) Q E s :=
 Zk2 I hN hi hx r (fun s' I' _=>h s' I') hf
theorem Inv.call'{s':Shared}{ch:List Addr}(I:Inv X pins σ H s)(ho:s'.os=s.os)(u:Un (frs X.stack) ch H H' s.heap s'.heap)(hok:HOk X.prog X.w H' s'.heap)(hg:AllBare s'.gens)
  (hch:∀b∈ch,(b∈X.ex∨X.s₀.heap.objs.size≤b)∧b≠X.env.locals∧(∀x c,X.env.cells.lookup x=some c→c≠b)∧∀p∈X.pn++pins,p.1≠b):Inv X pins σ H' s':=by
 obtain ⟨h',g',d',t',o'⟩:=s'
 have e:o'=s.os:=ho
 subst e
 exact I.call (g':=g') (t':=t') (d':=d') u hok hg hch
end
abbrev XK:=Value→Option Addr→Hp→Prop
abbrev St:=List (Option V)
abbrev VK:=V→Hp→Prop
abbrev TE:=St→Hp→VK→Prop
abbrev TT:=St→Hp→(Bool→Hp→Prop)→Prop
abbrev TA:=St→Hp→(List V→Hp→Prop)→Prop
structure Ends where
 nx:St→Hp→Prop
 rt:VK
 bk:St→Hp→Prop:=fun _ _=>False
 ct:St→Hp→Prop:=fun _ _=>False
abbrev TS:=Ends→St→Hp→Prop
def EP(X:Cx)(pins:List (Addr×Obj))(σ:St)(Q:VK)(u:Value)(s':Shared):Prop:=∃v H',Inv X pins σ H' s'∧RelV v u∧Q v H'
def TP(X:Cx)(pins:List (Addr×Obj))(σ:St)(Q:Bool→Hp→Prop)(b:Bool)(s':Shared):Prop:=∃H',Inv X pins σ H' s'∧Q b H'
def AP(X:Cx)(pins:List (Addr×Obj))(σ:St)(Q:List V→Hp→Prop)(us:List Value)(s':Shared):Prop:=∃vs H',Inv X pins σ H' s'∧Vals vs us∧Q vs H'
def SP(X:Cx)(pins:List (Addr×Obj))(D:Ends)(f:Flow)(s':Shared):Prop :=
 match f with
 | .next=>∃σ' H',Inv X pins σ' H' s'∧D.nx σ' H'
 | .brk=>∃σ' H',Inv X pins σ' H' s'∧D.bk σ' H'
 | .cont=>∃σ' H',Inv X pins σ' H' s'∧D.ct σ' H'
 | .ret u=>∃v σ' H',Inv X pins σ' H' s'∧RelV v u∧D.rt v H'
def PE(X:Cx)(e:Expr)(t:TE):Prop :=
 ∀(pins:List (Addr×Obj)) (s:Shared) (σ:St) (H:Hp) (Q:VK),Inv X pins σ H s→t σ H Q→wpAny (model X.prog X.w) X.A (eval e X.env) (EP X pins σ Q) X.xe s
def PT(X:Cx)(e:Expr)(t:TT):Prop :=
 ∀(pins:List (Addr×Obj)) (s:Shared) (σ:St) (H:Hp) (Q:Bool→Hp→Prop),Inv X pins σ H s→t σ H Q→wpAny (model X.prog X.w) X.A (isTrue e X.env (eval e X.env)) (TP X pins σ Q) X.xe s
def PW(X:Cx)(e:Expr)(t:TT):Prop :=
 ∀(whole:Sem Value) (pins:List (Addr×Obj)) (s:Shared) (σ:St) (H:Hp) (Q:Bool→Hp→Prop),Inv X pins σ H s→t σ H Q→wpAny (model X.prog X.w) X.A (isTrue e X.env whole) (TP X pins σ Q) X.xe s
theorem PW.pt{X:Cx}{e:Expr}{t:TT}(h:PW X e t):PT X e t:=h _
def PA(X:Cx)(es:List Expr)(t:TA):Prop :=
 ∀(pos:Pos) (pins:List (Addr×Obj)) (s:Shared) (σ:St) (H:Hp) (Q:List V→Hp→Prop),Inv X pins σ H s→t σ H Q→wpAny (model X.prog X.w) X.A (spliced (backTo pos (starEach es X.env))) (AP X pins σ Q) X.xe s
def PS(X:Cx)(st:Stmt)(t:TS):Prop :=
 ∀(pins:List (Addr×Obj)) (s:Shared) (σ:St) (H:Hp) (D:Ends),Inv X pins σ H s→t D σ H→wpAny (model X.prog X.w) X.A (exec st X.env) (SP X pins D) X.xe s
def PSs(X:Cx)(st:List Stmt)(t:TS):Prop :=
 ∀(pins:List (Addr×Obj)) (s:Shared) (σ:St) (H:Hp) (D:Ends),Inv X pins σ H s→t D σ H→wpAny (model X.prog X.w) X.A (execs st X.env) (SP X pins D) X.xe s
theorem thn{α:Type}{t:Sem α}{Q Q':α→Shared→Prop}{M:Model}{A:Around}{E:Value→Shared→Prop}{s:Shared}(h:wpAny M A t Q E s)(hQ:∀a s,Q a s→Q' a s):wpAny M A t Q' E s:=Vav h hQ fun _ _ x=>x
section
variable{X:Cx}
def tVar(i:Nat):TE:=fun σ H Q=>∃v,σ[i]?=some (some v)∧Q v H
def tC(v:V):TE:=fun _ H Q=>Q v H
theorem Ziv{i:Nat}{x:Str}{pos:Pos}(hN:X.N[i]?=some x)(hv:Vis X.env.scope x)(hd:(x==("__debug__" : Str))=false:=by decide)(hcd:(x==("__classdict__" : Str))=false:=by decide):PE X (.Name x pos) (tVar i):=by
 intro pins s σ H Q I h
 obtain ⟨v,e,h⟩:=h
 obtain ⟨m,hn,hl⟩:=I.loc
 obtain ⟨u,r,l⟩:=hl i x v hN e hv
 have fin:EP X pins σ Q u s:=⟨v,H,I,r,h⟩
 rcases l with ⟨hk,hm⟩ | ⟨hk,c,hc,hcell⟩
 ·exact wpAny_Name (wpAny_loadName_local I.ok.kind hk hn hm fin) hd
 ·rcases hk with hk | hk
  ·exact wpAny_Name (wpAny_loadName_cell I.ok.kind hk hc hcell fin) hd
  ·exact wpAny_Name (wpAny_loadName_free I.ok.kind hk hc hcell fin hcd) hd
theorem ZsW{i j pos}:PE X (.Constant (.int i) j pos) (tC (.int i)):=fun _ _ _ H _ I h=>wpAny_Constant_int ⟨.int i,H,I.tok _,⟨_,rfl⟩,h⟩
theorem Zup{b j pos}:PE X (.Constant (.bool b) j pos) (tC (.bl b)):=fun _ _ _ H _ I h=>Constant_bool ⟨.bl b,H,I,rfl,h⟩
theorem Zmx{j pos}:PE X (.Constant .none j pos) (tC .non):=fun _ _ _ H _ I h=>Constant_none ⟨.non,H,I,rfl,h⟩
theorem ZrF{x j pos}:PE X (.Constant (.str x) j pos) (tC (.str x)):=fun _ _ _ H _ I h=>Calls.Constant_str ⟨.str x,H,I.tok _,⟨_,rfl⟩,h⟩
def Gl(X:Cx)(x:Str):Prop:=X.env.kindOf x=some .globalImplicit
theorem ZhA{E:Value→Shared→Prop}{pins:List (Addr×Obj)}{s:Shared}{σ:St}{H:Hp}{x:Str}{u:Value}{pos:Pos}{Q:Value→Shared→Prop}(I:Inv X pins σ H s)(hg:Gl X x)(hm:X.mg x=some u)(h:Q u s)
  (hd:(x==("__debug__" : Str))=false:=by decide):wpAny (model X.prog X.w) X.A (eval (.Name x pos) X.env) Q E s :=
 Calls.Name_function_global I.ok.kind hg (Calls.loadGlobal_global (by rw [I.ok.glob];exact I.mod.glob.keeps I.bk) hm h) hd
theorem Zgh{E:Value→Shared→Prop}{pins:List (Addr×Obj)}{s:Shared}{σ:St}{H:Hp}{x:Str}{u:Value}{pos:Pos}{Q:Value→Shared→Prop}(I:Inv X pins σ H s)(hg:Gl X x)(hm:X.mg x=none)(hv:bootBuiltins x=some u)(h:Q u s)
  (hn:x ≠ "__name__" := by decide) (hd:(x==("__debug__" : Str))=false:=by decide):wpAny (model X.prog X.w) X.A (eval (.Name x pos) X.env) Q E s:=by
 obtain ⟨mb,h1,h2⟩:=I.mod.blt
 exact Calls.Name_function_global I.ok.kind hg (Calls.loadGlobal_builtin (by rw [I.ok.glob];exact I.mod.glob.keeps I.bk) hm (by rw [I.ok.blt];exact h1.keeps I.bk) ((h2 x hn).trans hv) h) hd
theorem Zjh{x:Str}{v:V}{u:Value}{pos:Pos}(hg:Gl X x)(hm:X.mg x=some u)(r:RelV v u)(hd:(x==("__debug__" : Str))=false:=by decide):PE X (.Name x pos) (tC v) :=
 fun _ _ _ H _ I h=>ZhA I hg hm ⟨v,H,I,r,h⟩ hd
theorem Zqq{x:Str}{v:V}{u:Value}{pos:Pos}(hg:Gl X x)(hm:X.mg x=none)(hv:bootBuiltins x=some u)(r:RelV v u)(hn:x ≠ "__name__" := by decide)(hd:(x==("__debug__" : Str))=false:=by decide):PE X (.Name x pos) (tC v) :=
 fun _ _ _ H _ I h=>Zgh I hg hm hv ⟨v,H,I,r,h⟩ hn hd
variable{a b:Expr}{ta tb:TE}{pos:Pos}
def tB(t:TE):TT:=fun σ H Q=>t σ H fun x H1=>∃c,x=.bl c∧Q c H1
theorem Zte{e:Expr}{t:TE}(h:PE X e t)(he:∀whole,isTrue e X.env whole=(do let v ←whole;standAt e.pos;holding [v] (truthy v)):=by intro _;rfl):PT X e (tB t):=by
 intro pins s σ H Q I hw
 refine isTrue_plain (thn (h pins s σ H _ I hw) fun v s1 ⟨x,H1,I1,r1,q1⟩=>?_) (he _)
 obtain ⟨d,rfl,q⟩:=q1
 cases r1
 exact wpAny_truthy_bool ⟨H1,I1,q⟩
variable{tA tB':TT}{rest:List Expr}
def tAnd(t u:TT):TT:=fun σ H Q=>t σ H fun c H1=>if c=true then u σ H1 Q else Q false H1
def tOr(t u:TT):TT:=fun σ H Q=>t σ H fun c H1=>if c=true then Q true H1 else u σ H1 Q
def tNot(t:TT):TT:=fun σ H Q=>t σ H fun c H1=>Q (!c) H1
theorem Zp9(ha:PT X a tA):PW X (.BoolOp .And [a] pos) tA:=by
 intro wh pins s σ H Q I h
 refine isTrue_and (thn (ha pins s σ H Q I h) fun c s1 e=>?_)
 cases c with
 | true=>exact isTrue_and_nil e
 | false=>exact e
theorem Zr2(ha:PT X a tA):PW X (.BoolOp .Or [a] pos) tA:=by
 intro wh pins s σ H Q I h
 refine isTrue_or (thn (ha pins s σ H Q I h) fun c s1 e=>?_)
 cases c with
 | false=>exact isTrue_or_nil e
 | true=>exact e
theorem Zso(ha:PT X a tA)(hb:PW X (.BoolOp .And (b::rest) pos) tB'):PW X (.BoolOp .And (a::b::rest) pos) (tAnd tA tB'):=by
 intro wh pins s σ H Q I h
 refine isTrue_and (thn (ha pins s σ H _ I h) fun c s1 ⟨H1,I1,q1⟩=>?_)
 cases c with
 | true=>exact hb wh pins s1 σ H1 Q I1 q1
 | false=>exact ⟨H1,I1,q1⟩
theorem Zux(ha:PT X a tA)(hb:PW X (.BoolOp .Or (b::rest) pos) tB'):PW X (.BoolOp .Or (a::b::rest) pos) (tOr tA tB'):=by
 intro wh pins s σ H Q I h
 refine isTrue_or (thn (ha pins s σ H _ I h) fun c s1 ⟨H1,I1,q1⟩=>?_)
 cases c with
 | true=>exact ⟨H1,I1,q1⟩
 | false=>exact hb wh pins s1 σ H1 Q I1 q1
theorem Zsy(ha:PT X a tA):PT X (.UnaryOp .Not a pos) (tNot tA):=by
 intro pins s σ H Q I h
 exact isTrue_not (ha pins s σ H (fun c H1=>Q (!c) H1) I h)
def Zp6(ta tb:TE):TE:=fun σ H Q=>ta σ H fun x H1=>∃c,x=.bl c∧if c=true then tb σ H1 Q else Q (.bl false) H1
def Zqk(ta:TE):TE:=fun σ H Q=>ta σ H fun x H1=>∃c,x=.bl c∧Q (.bl (!c)) H1
theorem ZsR{op}{t:TE}(h:PE X a t):PE X (.BoolOp op [a] pos) t:=fun pins s σ H Q I hw=>BoolOp_one (h pins s σ H Q I hw)
theorem ZtH(ha:PE X a ta)(hb:PE X (.BoolOp .And (b::rest) pos) tb):PE X (.BoolOp .And (a::b::rest) pos) (Zp6 ta tb):=by
 intro pins s σ H Q I h
 refine BoolOp_and (thn (ha pins s σ H _ I h) fun v s1 ⟨x,H1,I1,r1,q1⟩=>?_)
 obtain ⟨c,rfl,q1⟩:=q1
 cases r1
 refine wpAny_truthy_bool ?_
 cases c with
 | true=>exact hb pins s1 σ H1 Q I1 q1
 | false=>exact ⟨.bl false,H1,I1,rfl,q1⟩
theorem ZsF(ha:PE X a ta):PE X (.UnaryOp .Not a pos) (Zqk ta):=by
 intro pins s σ H Q I h
 refine UnaryOp_ (thn (ha pins s σ H _ I h) fun v s1 ⟨x,H1,I1,r1,q1⟩=>?_)
 obtain ⟨c,rfl,q1⟩:=q1
 cases r1
 exact not_of (wpAny_truthy_bool ⟨.bl (!c),H1,I1,rfl,q1⟩)
def tIf(t:TT)(ta tb:TE):TE:=fun σ H Q=>t σ H fun c H1=>if c=true then ta σ H1 Q else tb σ H1 Q
theorem Znb{c:Expr}(hc:PT X c tA)(ha:PE X a ta)(hb:PE X b tb):PE X (.IfExp c a b pos) (tIf tA ta tb):=by
 intro pins s σ H Q I h
 refine wpAny_IfExp (thn (hc pins s σ H _ I h) fun d s1 ⟨H1,I1,q1⟩=>?_)
 cases d with
 | true=>exact ha pins s1 σ H1 Q I1 q1
 | false=>exact hb pins s1 σ H1 Q I1 q1
end
def SqL(K:W.Frag)(H:Hp)(a:Addr)(xs:List V):Prop :=
 Rd H a (.lst xs) ∨
  ∃(o:Obj) (its:Array Value) (n:Nat),K.lookup a=some o∧o.cls=.type "list"∧o.dict=none∧o.data=.seq its n∧its.size≤sizeLine∧Vals xs its.toList
def SqT(K:W.Frag)(H:Hp)(a:Addr)(xs:List V):Prop :=
 Rd H a (.tup xs) ∨
  ∃(o:Obj) (its:Array Value) (n:Nat),K.lookup a=some o∧o.cls=.type "tuple"∧o.data=.seq its n∧its.size≤sizeLine∧Vals xs its.toList
def absV:Value→Option V
 | .none=>some .non
 | .bool b=>some (.bl b)
 | .int i _=>some (.int i)
 | .str x _=>some (.str x)
 | .bytes b _=>some (.byt b)
 | .float b _=>some (.flt b)
 | .ref a=>some (.ref a)
 | .type n=>some (.ty n)
 | _=>none
theorem RelV.abs{x:V}{u:Value}(r:RelV x u):absV u=some x:=by
 cases x with
 | non=>cases r;rfl
 | bl _=>cases r;rfl
 | int _=>obtain ⟨t,rfl⟩:=r;rfl
 | str _=>obtain ⟨t,rfl⟩:=r;rfl
 | byt _=>obtain ⟨t,rfl⟩:=r;rfl
 | flt _=>obtain ⟨t,rfl⟩:=r;rfl
 | ref _=>cases r;rfl
 | ty _=>cases r;rfl
theorem RelV.inj{x y:V}{u:Value}(r:RelV x u)(q:RelV y u):x=y:=Vau (r.abs.symm.trans q.abs)
theorem Vals.inj:∀{xs ys:List V} {us:List Value},Vals xs us→Vals ys us→xs=ys
 | _,_,_,.nil,.nil=>rfl
 | _,_,_,.cons r t,.cons r' t'=>by rw [r.inj r',Vals.inj t t']
section
variable{X:Cx}{pins:List (Addr×Obj)}{σ:St}{H:Hp}{s:Shared}{a:Addr}{xs ys:List V}
theorem SqL.of{K:W.Frag}(h:H a=some (.lst xs)):SqL K H a xs:=.inl (.inl h)
theorem SqT.of{K:W.Frag}(h:H a=some (.tup xs)):SqT K H a xs:=.inl (.inl h)
theorem Inv.list(I:Inv X pins σ H s)(h:SqL X.K H a xs):∃its:List Value,Vals xs its∧PlainL s.heap a its.toArray∧xs.length≤sizeLine:=by
 rcases h with h | ⟨o,its,n,hk,hc,hd,hs,hz,r⟩
 ·obtain ⟨z,its,n,r,e⟩:=h.ok I.hok
  exact ⟨its,r,⟨_,n,e,rfl,rfl,rfl⟩,z⟩
 ·refine ⟨its.toList,r,⟨o,n,I.kIn a o hk,hc,hd,by simpa using hs⟩,?_⟩
  have e:=r.length
  simp only [Vaw] at e
  omega
theorem Inv.tuple(I:Inv X pins σ H s)(h:SqT X.K H a xs):∃its:List Value,Vals xs its∧IsTup s.heap a its.toArray∧xs.length≤sizeLine:=by
 rcases h with h | ⟨o,its,n,hk,hc,hs,hz,r⟩
 ·obtain ⟨z,its,r,p⟩:=h.ok I.hok
  exact ⟨its,r,p,z⟩
 ·refine ⟨its.toList,r,⟨o,I.kIn a o hk,hc,n,by simpa using hs⟩,?_⟩
  have e:=r.length
  simp only [Vaw] at e
  omega
theorem Inv.list_inj(I:Inv X pins σ H s)(h:SqL X.K H a xs)(h':SqL X.K H a ys):xs=ys:=by
 obtain ⟨its,r,⟨o,n,e,_,_,d⟩,_⟩:=I.list h
 obtain ⟨its',r',⟨o',n',e',_,_,d'⟩,_⟩:=I.list h'
 rw [e] at e';cases e'
 rw [d] at d'
 injection d' with d1 _
 have:its=its':=by simpa using Vax Array.toList d1
 subst this
 exact r.inj r'
theorem Inv.tuple_inj(I:Inv X pins σ H s)(h:SqT X.K H a xs)(h':SqT X.K H a ys):xs=ys:=by
 obtain ⟨its,r,⟨o,e,_,n,d⟩,_⟩:=I.tuple h
 obtain ⟨its',r',⟨o',e',_,n',d'⟩,_⟩:=I.tuple h'
 rw [e] at e';cases e'
 rw [d] at d'
 injection d' with d1 _
 have:its=its':=by simpa using Vax Array.toList d1
 subst this
 exact r.inj r'
end
section
variable{X:Cx}{st:Stmt}{rest:List Stmt}{t u:TS}{e:Expr}{te:TE}{pos:Pos}
def ZnA:TS:=fun D σ H=>D.nx σ H
def tSeq(t u:TS):TS:=fun D σ H=>t { D with nx:=u D } σ H
theorem Zk1:PSs X [] ZnA:=fun _ _ σ H _ I h=>wpAny_execs_nil ⟨σ,H,I,h⟩
theorem ZfI(h1:PS X st t)(h2:PSs X rest u):PSs X (st::rest) (tSeq t u):=by
 intro pins s σ H D I h
 refine wpAny_execs_cons (thn (h1 pins s σ H { D with nx:=u D } I h) fun f s1 q=>?_)
 cases f with
 | next =>
  obtain ⟨σ',H',I',q⟩:=q
  exact h2 pins s1 σ' H' D I' q
 | ret v=>exact q
 | brk=>exact q
 | cont=>exact q
theorem ZqR(h1:PS X st t):PSs X [st] t:=by
 intro pins s σ H D I h
 refine wpAny_execs_cons (thn (h1 pins s σ H D I h) fun f s1 q=>?_)
 cases f with
 | next=>exact wpAny_execs_nil q
 | ret v=>exact q
 | brk=>exact q
 | cont=>exact q
def Zq2:TS:=fun D σ H=>D.ct σ H
theorem Zi6:PS X (.Continue pos) Zq2:=fun _ _ σ H _ I h=>wpAny_Continue ⟨σ,H,I,h⟩
theorem Inv.quiet{pins:List (Addr×Obj)}{σ:St}{H:Hp}{s:Shared}(I:Inv X pins σ H s):interactive X.env=false:=by simp [interactive,I.ok.kind]
def Zgf(te:TE):TS:=fun D σ H=>te σ H fun _ H1=>D.nx σ H1
theorem Zf2(he:PE X e te)(hs:swapsWith e none pos.line X.env=pure false:=by rfl):PS X (.Expr e pos) (Zgf te):=by
 intro pins s σ H D I h
 exact wpAny_Expr_any (thn (he pins s σ H _ I h) fun v s1 ⟨x,H1,I1,r1,q1⟩=>⟨σ,H1,I1,q1⟩) I.quiet hs
def tRet(te:TE):TS:=fun D σ H=>te σ H D.rt
theorem Zs9(he:PE X e te):PS X (.Return (some e) pos) (tRet te):=by
 intro pins s σ H D I h
 exact wpAny_Return_some (thn (he pins s σ H _ I h) fun v s1 ⟨x,H1,I1,r1,q1⟩=>⟨x,σ,H1,I1,r1,q1⟩)
def tIfS(c:TT)(t u:TS):TS:=fun D σ H=>c σ H fun b H1=>if b=true then t D σ H1 else u D σ H1
theorem Zu2{c:Expr}{a b:List Stmt}{tc:TT}(hc:PT X c tc)(ha:PSs X a t)(hb:PSs X b u):PS X (.If c a b pos) (tIfS tc t u):=by
 intro pins s σ H D I h
 refine wpAny_If (thn (hc pins s σ H _ I h) fun d s1 ⟨H1,I1,q1⟩=>?_)
 cases d with
 | true=>exact ha pins s1 σ H1 D I1 q1
 | false=>exact hb pins s1 σ H1 D I1 q1
end
abbrev TG:=V→St→Hp→(St→Hp→Prop)→Prop
abbrev TGs:=List V→St→Hp→(St→Hp→Prop)→Prop
def PG(X:Cx)(target:Expr)(t:TG):Prop :=
 ∀(pins:List (Addr×Obj)) (s:Shared) (σ:St) (H:Hp) (v:V) (u:Value) (Q:St→Hp→Prop),Inv X pins σ H s→RelV v u→t v σ H Q →
  wpAny (model X.prog X.w) X.A (assign target X.env u) (fun _ s'=>∃σ' H',Inv X pins σ' H' s'∧Q σ' H') X.xe s
def PGs(X:Cx)(ts:List Expr)(t:TGs):Prop :=
 ∀(pins:List (Addr×Obj)) (s:Shared) (σ:St) (H:Hp) (vs:List V) (us:List Value) (Q:St→Hp→Prop),Inv X pins σ H s→Vals vs us→t vs σ H Q →
  wpAny (model X.prog X.w) X.A (assignInOrder ((assignEach ts X.env).map (·.2)) us) (fun _ s'=>∃σ' H',Inv X pins σ' H' s'∧Q σ' H') X.xe s
section
variable{X:Cx}{pos:Pos}
def Zgs(i:Nat):TG:=fun v σ H Q=>Q (σ.set i (some v)) H
theorem Zo4{i:Nat}{x:Str}(hN:X.N.Nodup)(hi:X.N[i]?=some x)(hx:Loc X.env.scope x)(hf:X.fn x=true∨X.env.scope.names.lookup x=some .local:=by first | exact .inl rfl | exact .inr rfl | assumption):PG X (.Name x pos) (Zgs i):=by
 intro pins s σ H v u Q I r h
 exact wpAny_assign_Name (Zht I hN hi hx r (fun s' I'=>⟨_,H,I',h⟩) hf)
def gNil:TGs:=fun vs σ H Q=>vs=[]∧Q σ H
def Zpk(t:TG)(u:TGs):TGs:=fun vs σ H Q=>∃v r,vs=v::r∧t v σ H fun σ' H'=>u r σ' H' Q
theorem ZpT:PGs X [] gNil:=by
 intro pins s σ H vs us Q I r h
 obtain ⟨e,h⟩:=h
 subst e
 cases r
 exact assignInOrder_nil ⟨σ,H,I,h⟩
theorem Znv{e:Expr}{es:List Expr}{t:TG}{u:TGs}(h1:PG X e t)(h2:PGs X es u)
  (hs:(assignEach (e::es) X.env).map (·.2)=assign e X.env::(assignEach es X.env).map (·.2):=by rfl):PGs X (e::es) (Zpk t u):=by
 intro pins s σ H vs us Q I r h
 obtain ⟨v,vr,e1,h⟩:=h
 subst e1
 cases r with
 | cons r rr =>
  rw [hs]
  refine assignInOrder_cons (thn (h1 pins s σ H _ _ _ I r h) fun _ s1 ⟨σ1,H1,I1,q1⟩=>?_)
  exact h2 pins s1 σ1 H1 _ _ Q I1 rr q1
def gTup(K:W.Frag)(n:Nat)(t:TGs):TG:=fun v σ H Q=>∃a xs,v=.ref a∧SqT K H a xs∧xs.length=n∧t xs σ H Q
theorem Zsm{es:List Expr}{k:Nat}{t:TGs}{n:Nat}(hc:X.calm=true)(h:PGs X es t)
  (hn:(assignEach es X.env).length=n:=by rfl) (hst:(assignEach es X.env).findIdx? (·.1)=none:=by rfl):PG X (.Tuple es k pos) (gTup X.K n t):=by
 intro pins s σ H v u Q I r hw
 obtain ⟨a,xs,e1,hq,hl,hw⟩:=hw
 subst e1
 cases r
 obtain ⟨its,rv,ht,hz⟩:=I.tuple hq
 refine assign_Tuple_tuple (I.ok.hd hc) ht (by simp [hn,←hl,rv.length]) hst fun h' hx=>?_
 have I1:Inv X pins σ H { s with heap:=h' }:=I.kept (t':=s.toks) fun b o e=>hx b o (Vag (Vad e)) e
 exact h pins _ σ H xs _ Q I1 (by simpa using rv) hw
def tAsg(te:TE)(g:TG):TS:=fun D σ H=>te σ H fun x H1=>g x σ H1 D.nx
theorem Zty{tg e:Expr}{te:TE}{g:TG}(he:PE X e te)(hg:PG X tg g)(hs:swapsWithSole [tg] e pos.line X.env=pure false:=by rfl)(hw:swappedStores [tg] e X.env=pure none:=by rfl)
  (h1:(assignEach [tg] X.env).map (·.2)=[assign tg X.env]:=by rfl):PS X (.Assign [tg] e pos) (tAsg te g):=by
 intro pins s σ H D I h
 refine wpAny_Assign_stores (thn (he pins s σ H _ I h) fun v s1 ⟨x,H1,I1,r1,q1⟩=>?_) hs hw
 rw [h1]
 exact thn (hg pins s1 σ H1 x v _ I1 r1 q1) fun _ s2 q=>q
theorem ZoY{i:Nat}{x:Str}{e:Expr}{te:TE}{pos':Pos}(hN:X.N.Nodup)(hi:X.N[i]?=some x)(hx:Loc X.env.scope x)(he:PE X e te)(hs:swapsWith e (some (.Name x pos')) pos.line X.env=pure false:=by rfl)(hf:X.fn x=true∨X.env.scope.names.lookup x=some .local:=by first | exact .inl rfl | exact .inr rfl | assumption) :
  PS X (.Assign [.Name x pos'] e pos) (tAsg te (Zgs i)):=by
 intro pins s σ H D I h
 refine wpAny_Assign_Name (thn (he pins s σ H _ I h) fun v s1 ⟨y,H1,I1,r1,q1⟩=>?_) hs
 exact Zht I1 hN hi hx r1 (fun s2 I2=>⟨_,H1,I2,q1⟩) hf
end
section
variable{X:Cx}{pos:Pos}
def Zkh(c:TT)(tb:TS):TS:=fun D σ H=>∃W:Nat→St→Hp→Prop,(∃m,W m σ H)∧∀m σ H,W m σ H →
 c σ H fun b H1=>if b=true then ∃N:St→Hp→Prop,(∀σ' H',N σ' H'→∃m',m'<m∧W m' σ' H')∧tb { D with nx:=N,ct:=N,bk:=D.nx } σ H1 else D.nx σ H1
theorem ZnO{c:Expr}{body:List Stmt}{tc:TT}{tb:TS}(hp:PassesOwn (model X.prog X.w) X.A X.env X.xe)(hc:PT X c tc)(hb:PSs X body tb):PS X (.While c body [] pos) (Zkh tc tb):=by
 intro pins s σ H D I h
 obtain ⟨W,⟨m0,w0⟩,turn⟩:=h
 refine wpAny_While (codeAny_whileLoop (fun n s'=>∃σ' H',Inv X pins σ' H' s'∧W n σ' H') ?_ m0 ⟨σ,H,I,w0⟩)
 rintro n s1 ⟨σ1,H1,I1,w1⟩
 refine Vay hp (thn (hc pins s1 σ1 H1 _ I1 (turn n σ1 H1 w1)) fun b s2 ⟨H2,I2,q2⟩=>?_)
 cases b with
 | true =>
  obtain ⟨N,hN,q2⟩:=q2
  rw [if_pos rfl]
  refine Vay hp (thn (hb pins s2 σ1 H2 _ I2 q2) fun f s3 q3=>?_)
  cases f with
  | next =>
   obtain ⟨σ3,H3,I3,n3⟩:=q3
   obtain ⟨m',hm,w3⟩:=hN σ3 H3 n3
   exact ⟨m',hm,σ3,H3,I3,w3⟩
  | cont =>
   obtain ⟨σ3,H3,I3,n3⟩:=q3
   obtain ⟨m',hm,w3⟩:=hN σ3 H3 n3
   exact ⟨m',hm,σ3,H3,I3,w3⟩
  | brk=>exact q3
  | ret v=>exact q3
 | false =>
  rw [if_neg Vaz]
  exact wpAny_execs_nil ⟨σ1,H2,I2,q2⟩
end
structure It where
 go:Nat→Hp→Prop
 yld:Nat→Hp→V→Hp→Prop
 stop:Nat→Hp→Prop
def FpOk(X:Cx)(pins:List (Addr×Obj))(H:Hp)(b:Addr):Prop :=
 H b=none∧b≠X.env.locals∧b∉X.fs∧(b∈X.ex∨X.s₀.heap.objs.size≤b)∧(∀x c,X.env.cells.lookup x=some c→c≠b)∧∀p∈X.pn++pins,p.1≠b
theorem Inv.fpOk{X:Cx}{pins:List (Addr×Obj)}{σ:St}{H H':Hp}{s:Shared}{b:Addr}(I:Inv X pins σ H s)(hb:s.heap.objs.size≤b)(hn:H' b=none):FpOk X pins H' b:=by
 refine ⟨hn,VaA (Vae I.lt hb),I.nofs hb,.inr (Vaj I.sz hb),fun x c e z=>?_,fun p hp z=>?_⟩
 ·obtain ⟨v,q⟩:=I.cell x c e
  exact absurd (Vae q.lt (by rw [z];exact hb)) (Vaf _)
 ·exact absurd (Vae (Vad (I.pin p hp).1) (by rw [z];exact hb)) (Vaf _)
structure Turn(P:Program)(w:World)(K:W.Frag)(tg:Expr)(J:It)(fp:List Addr)(it:Addr)(tn:Nat→Heap→Prop):Prop where
 mem:it∈fp
 obj:∀i h,tn i h→∀b∈fp,∃o,h.get? b=some o∧∀v,o.data≠.cell v
 keep:∀i h h',tn i h→(∀b∈fp,∀o,h.get? b=some o→h'.get? b=some o)→tn i h'
 item:∀(X:Cx),X.prog=P→X.w=w→X.K=K→X.calm=true→∀(i:Nat) (pins:List (Addr×Obj)) (s:Shared) (σ:St) (H:Hp) (E:Value→Shared→Prop),Inv X pins σ H s→(∀b∈fp,FpOk X pins H b)→tn i s.heap→J.go i H →
  wpAny (model P w) X.A (pyNext (.ref it)) (fun r s1=>∃u,r=some u ∧
   wpAny (model P w) X.A (letOwnedTupleGo tg (.ref it) u) (fun _ s2=>∃x H',Inv X pins σ H' s2∧RelV x u∧J.yld i H x H'∧tn (i+1) s2.heap∧∀b∈fp,H' b=none) E s1) E s
 done:∀(X:Cx),X.prog=P→X.w=w→X.K=K→X.calm=true→∀(i:Nat) (pins:List (Addr×Obj)) (s:Shared) (σ:St) (H:Hp) (E:Value→Shared→Prop),Inv X pins σ H s→(∀b∈fp,FpOk X pins H b)→tn i s.heap→J.stop i H →
  wpAny (model P w) X.A (pyNext (.ref it)) (fun r s1=>r=none∧Inv X pins σ H s1) E s
 self:∀(A:Around) (i:Nat) (s:Shared) (Q:Value→Shared→Prop) (E:Value→Shared→Prop),tn i s.heap→Q (.ref it) s→wpAny (model P w) A (pyIter (.ref it)) Q E s
abbrev TI:=St→Hp→(It→Hp→Prop)→Prop
def PIE(X:Cx)(pins:List (Addr×Obj))(σ:St)(tg:Expr)(R:It→Hp→Prop)(itv:Value)(s2:Shared):Prop :=
 ∃(it:Addr) (fp:List Addr) (tn:Nat→Heap→Prop) (J:It) (H':Hp),itv=.ref it∧Inv X pins σ H' s2∧Turn X.prog X.w X.K tg J fp it tn∧tn 0 s2.heap∧(∀b∈fp,FpOk X pins H' b)∧R J H'
def PI(X:Cx)(tg iter:Expr)(wi:TI):Prop :=
 ∀(pins:List (Addr×Obj)) (s:Shared) (σ:St) (H:Hp) (R:It→Hp→Prop),Inv X pins σ H s→wi σ H R →
  wpAny (model X.prog X.w) X.A (eval iter X.env) (fun v s1=>wpAny (model X.prog X.w) X.A (pyIter v) (PIE X pins σ tg R) X.xe s1) X.xe s
theorem Zq9{M:Model}{A:Around}{E:Value→Shared→Prop}{s:Shared}{tg:Expr}{it:Addr}{u:Value}{o:Obj}{n:String}{vs:Array Value}{Q:Unit→Shared→Prop}(ho:s.heap.get? it=some o)(hc:o.cls=.type n)(hd:o.data=.fields vs)
  (hn:["enumerate", "zip", "dict_itemiterator", "dict_reverseitemiterator", "odict_iterator", "itertools.zip_longest", "itertools.pairwise"].contains n=false) (hQ:Q () s):wpAny M A (letOwnedTupleGo tg (.ref it) u) Q E s:=by
 unfold letOwnedTupleGo
 cases tg<;>first
  | exact VaB hQ
  | (cases u<;>first
    | exact VaB hQ
    | (refine VaC (wpAny_load ho ?_)
       rw [hc,hd]
       show wpAny M A (if (["enumerate", "zip", "dict_itemiterator", "dict_reverseitemiterator", "odict_iterator", "itertools.zip_longest", "itertools.pairwise"].contains n&&vs[0]?==some (rawInt _))=true then _ else _) Q E s
       rw [if_neg (by intro h;rw [hn,Bool.false_and] at h;cases h)]
       exact VaB hQ))
def Itl(K:W.Frag)(a:Addr):It :=
 ⟨fun i H=>∃xs x,SqL K H a xs∧xs[i]?=some x,fun i H x H'=>H'=H∧∀xs,SqL K H a xs→xs[i]?=some x,fun i H=>∃xs,SqL K H a xs∧xs.length≤i⟩
def Itt(K:W.Frag)(a:Addr):It :=
 ⟨fun i H=>∃xs x,SqT K H a xs∧xs[i]?=some x,fun i H x H'=>H'=H∧∀xs,SqT K H a xs→xs[i]?=some x,fun i H=>∃xs,SqT K H a xs∧xs.length≤i⟩
def Itr(lo:Int)(n:Nat):It:=⟨fun i _=>i<n,fun i H x H'=>H'=H∧x=.int (lo+i),fun i _=>n≤i⟩
theorem Zmm{P:Program}{w:World}{K:W.Frag}{tg:Expr}(a it:Addr):Turn P w K tg (Itl K a) [it] it (fun i h=>h.IsListIter it a i) where
 mem:=by simp
 obj:=fun i h st b hb=>by
  have e:b=it:=by simpa using hb
  subst e
  obtain ⟨o,e,c,d⟩:=st
  exact ⟨o,e,fun v z=>by rw [d] at z;cases z⟩
 keep:=fun i h h' st k=>st.at fun o e=>k it (by simp) o e
 item:=by
  intro X hP hw hK hc i pins s σ H E I hf st hg
  subst hP hw hK
  obtain ⟨xs,x,hq,hx⟩:=hg
  obtain ⟨its,rv,p,hz⟩:=I.list hq
  obtain ⟨u,hu,ru⟩:=rv.get hx
  obtain ⟨f0,f1,f2,f3,f4,f5⟩:=hf it (by simp)
  refine wpAny_pyNext_list_item st p.isList (x:=u) (by simpa using hu) fun h' st' sb=>?_
  have I1:Inv X pins σ H { s with heap:=h' }:=I.turned (t':=s.toks) (fun b o hb e=>(sb.2 b hb).trans e) f0 f1 f3 f4 f5
  obtain ⟨o,e,c,d⟩:=id st'
  exact ⟨u,rfl,Zq9 (s:={ s with heap:=h' }) e c d (by decide) ⟨x,H,I1,ru,⟨rfl,fun ys hy=>by rw [I.list_inj hy hq];exact hx⟩,st',fun b hb=>(hf b hb).1⟩⟩
 done:=by
  intro X hP hw hK hc i pins s σ H E I hf st hg
  subst hP hw hK
  obtain ⟨xs,hq,hx⟩:=hg
  obtain ⟨its,rv,p,hz⟩:=I.list hq
  obtain ⟨f0,f1,f2,f3,f4,f5⟩:=hf it (by simp)
  have hl:=rv.length
  exact wpAny_pyNext_list_end (I.ok.hd hc) st p.isList (by simp;omega) fun h' eb=>⟨rfl,I.turned (t':=s.toks) (fun b o hb e=>eb b o hb e) f0 f1 f3 f4 f5⟩
 self:=fun _ _ _ _ _ st h=>wpAny_pyIter_listiter st h
theorem Zkr{P:Program}{w:World}{K:W.Frag}{tg:Expr}(a it:Addr):Turn P w K tg (Itt K a) [it] it (fun i h=>h.IsTupleIter it a i) where
 mem:=by simp
 obj:=fun i h st b hb=>by
  have e:b=it:=by simpa using hb
  subst e
  obtain ⟨o,e,c,d⟩:=st
  exact ⟨o,e,fun v z=>by rw [d] at z;cases z⟩
 keep:=fun i h h' st k=>st.at fun o e=>k it (by simp) o e
 item:=by
  intro X hP hw hK hc i pins s σ H E I hf st hg
  subst hP hw hK
  obtain ⟨xs,x,hq,hx⟩:=hg
  obtain ⟨its,rv,p,hz⟩:=I.tuple hq
  obtain ⟨u,hu,ru⟩:=rv.get hx
  obtain ⟨f0,f1,f2,f3,f4,f5⟩:=hf it (by simp)
  refine wpAny_pyNext_tuple_item st (show s.heap.IsTuple a its.toArray from p) (x:=u) (by simpa using hu) fun h' st' sb=>?_
  have I1:Inv X pins σ H { s with heap:=h' }:=I.turned (t':=s.toks) (fun b o hb e=>(sb.2 b hb).trans e) f0 f1 f3 f4 f5
  obtain ⟨o,e,c,d⟩:=id st'
  exact ⟨u,rfl,Zq9 (s:={ s with heap:=h' }) e c d (by decide) ⟨x,H,I1,ru,⟨rfl,fun ys hy=>by rw [I.tuple_inj hy hq];exact hx⟩,st',fun b hb=>(hf b hb).1⟩⟩
 done:=by
  intro X hP hw hK hc i pins s σ H E I hf st hg
  subst hP hw hK
  obtain ⟨xs,hq,hx⟩:=hg
  obtain ⟨its,rv,p,hz⟩:=I.tuple hq
  obtain ⟨f0,f1,f2,f3,f4,f5⟩:=hf it (by simp)
  have hl:=rv.length
  exact wpAny_pyNext_tuple_end (I.ok.hd hc) st (show s.heap.IsTuple a its.toArray from p) (by simp;omega) fun h' eb=>⟨rfl,I.turned (t':=s.toks) (fun b o hb e=>eb b o hb e) f0 f1 f3 f4 f5⟩
 self:=fun _ _ _ _ _ st h=>wpAny_pyIter_tupleiter st h
theorem ZkT{P:Program}{w:World}{K:W.Frag}{tg:Expr}(it:Addr)(lo:Int)(n:Nat):Turn P w K tg (Itr lo n) [it] it (fun i h=>IsRangeIter h it (lo+(i:Nat)*1) ((n:Int) - (i:Nat)) 1) where
 mem:=by simp
 obj:=fun i h st b hb=>by
  have e:b=it:=by simpa using hb
  subst e
  exact ⟨_,st,fun v z=>by
   have z':Data.fields _=Data.cell v:=z
   cases z'⟩
 keep:=fun i h h' st k=>k it (by simp) _ st
 item:=by
  intro X hP hw hK hc i pins s σ H E I hf st hg
  subst hP hw hK
  obtain ⟨f0,f1,f2,f3,f4,f5⟩:=hf it (by simp)
  have W:=Walks.range (prog:=X.prog) (w:=X.w) (I.ok.hd hc) it lo 1 n
  refine W.item i s _ _ hg st fun v h' tk hv st' kk=>?_
  obtain ⟨t,rfl⟩:=hv
  have I1:Inv X pins σ H { s with heap:=h',toks:=tk }:=I.turned (fun b o hb e=>kk b o (by simpa using hb) e) f0 f1 f3 f4 f5
  refine ⟨_,rfl,Zq9 (s:={ s with heap:=h',toks:=tk }) (n := "range_iterator") st' rfl rfl (by decide) ⟨.int (lo+i),H,I1,⟨t,?_⟩,⟨rfl,rfl⟩,st',fun b hb=>(hf b hb).1⟩⟩
  rw [Int.mul_one]
 done:=by
  intro X hP hw hK hc i pins s σ H E I hf st hg
  subst hP hw hK
  obtain ⟨f0,f1,f2,f3,f4,f5⟩:=hf it (by simp)
  exact wpAny_pyNext_range_end (I.ok.hd hc) st (by have:n≤i:=hg;omega) fun h' eb=>⟨rfl,I.turned (t':=s.toks) (fun b o hb e=>eb b o hb e) f0 f1 f3 f4 f5⟩
 self:=fun _ _ _ _ _ st h=>wpAny_pyIter_rangeiter st h
section
variable{X:Cx}{tg:Expr}
theorem Zn4{pins:List (Addr×Obj)}{σ:St}{H:Hp}{s:Shared}{R:It→Hp→Prop}{E:Value→Shared→Prop}{lo hi:Int}{t u v:Tok}{tk:Nat}(I:Inv X pins σ H s)(h1:-(2^62)≤lo)(h2:lo<2^62)(h3:-(2^62)≤hi)(h4:hi<2^62)
  (q:R (Itr lo (hi - lo).toNat) H):wpAny (model X.prog X.w) X.A (pyIter (.ref s.heap.objs.size)) (PIE X pins σ tg R) E { s with heap:=s.heap.push { cls:=.type "range", data:=.fields #[.int lo t,.int hi u,.int 1 v] },toks:=tk }:=by
 refine wpAny_pyIter_range (IsRange.new ..) (small_one h1 h2 h3 h4) ?_
 have I1:Inv X pins σ H { s with heap:=s.heap.push { cls:=.type "range", data:=.fields #[.int lo t,.int hi u,.int 1 v] },toks:=tk }:=I.kept fun b o e=>VaD _ e
 refine ⟨(s.heap.push { cls:=.type "range", data:=.fields #[.int lo t,.int hi u,.int 1 v] }).objs.size,[(s.heap.push { cls:=.type "range", data:=.fields #[.int lo t,.int hi u,.int 1 v] }).objs.size],_,_,H,rfl,
  I1.kept (t':=tk) fun b o e=>VaD _ e,ZkT _ lo (hi - lo).toNat,?_,fun b hb=>?_,q⟩
 ·have e1:lo+((0:Nat):Int)*1=lo:=by simp
  have e2:(((hi - lo).toNat:Nat):Int) - ((0:Nat):Int)=Builtin.Range.rangeSize lo hi 1:=by rw [rangeSize_one];split<;>omega
  show IsRangeIter _ _ (lo+((0:Nat):Int)*1) ((((hi - lo).toNat:Nat):Int) - ((0:Nat):Int)) 1
  rw [e1,e2]
  exact VaE _ rfl
 ·have e:b=(s.heap.push { cls:=.type "range", data:=.fields #[.int lo t,.int hi u,.int 1 v] }).objs.size:=by simpa using hb
  subst e
  exact I1.fpOk (VaF _) (I1.hok.fresh (VaF _))
def ZpQ(ta:TA):TI:=fun σ H R=>ta σ H fun vs H1=>∃j:Int,vs=[.int j]∧-(2^62)≤j∧j<2^62∧R (Itr 0 j.toNat) H1
theorem ZmS{a:Expr}{ta:TA}{p pos:Pos}(hg:Gl X "range")(hm:X.mg "range"=none)(ha:PA X [a] ta)(hs:starEach [a] X.env=[(false,eval a X.env)]:=by rfl):PI X tg (.Call (.Name "range" p) [a] [] pos) (ZpQ ta):=by
 intro pins s σ H R I h
 refine Call_ (Zgh I hg hm boot_range (VaG (thn (ha pos pins s σ H _ I h) fun us s1 ⟨vs,H1,I1,r1,q1⟩=>?_) hs rfl))
 obtain ⟨j,e,q1,q2,q⟩:=q1
 subst e
 cases r1 with
 | cons r rr =>
  cases rr
  obtain ⟨t,rfl⟩:=r
  exact call_range_1 (Zn4 I1 (by omega) (by omega) q1 q2 (by simpa using q))
def tFor(wi:TI)(g:TG)(tb:TS):TS:=fun D σ H=>wi σ H fun J H1=>∃W:Nat→Nat→St→Hp→Prop,(∃m,W 0 m σ H1)∧∀i m σ H,W i m σ H →
 (J.stop i H∧D.nx σ H)∨(J.go i H∧∃N:St→Hp→Prop,(∀σ' H',N σ' H'→∃m',m'<m∧W (i+1) m' σ' H')∧∀x H',J.yld i H x H'→g x σ H' fun σ2 H2=>tb { D with nx:=N,ct:=N,bk:=D.nx } σ2 H2)
def Zj6(fp:List Addr)(h:Heap):List (Addr×Obj):=fp.filterMap fun b=>(h.get? b).map fun o=>(b,o)
theorem Zcc{fp:List Addr}{h:Heap}{b:Addr}{o:Obj}(hb:b∈fp)(e:h.get? b=some o):(b,o)∈Zj6 fp h:=VaH.mpr ⟨b,hb,by rw [e];rfl⟩
theorem Zl0{fp:List Addr}{h:Heap}{p:Addr×Obj}(hp:p∈Zj6 fp h):p.1∈fp∧h.get? p.1=some p.2:=by
 obtain ⟨b,hb,e⟩:=VaH.mp hp
 cases q:h.get? b with
 | none=>rw [q] at e;cases e
 | some o =>
  rw [q] at e
  have e':(b,o)=p:=Vau e
  subst e'
  exact ⟨hb,q⟩
theorem Inv.pinned{pins:List (Addr×Obj)}{σ:St}{H:Hp}{s:Shared}{fp:List Addr}(I:Inv X pins σ H s)(hf:∀b∈fp,FpOk X pins H b)(ho:∀b∈fp,∃o,s.heap.get? b=some o∧∀v,o.data≠.cell v):Inv X (pins++Zj6 fp s.heap) σ H s :=
 I.pins_of fun p hp=>(Var.mp hp).elim (fun z=>I.pin p (VaI _ z)) fun z=>by
  obtain ⟨hb,e⟩:=Zl0 z
  obtain ⟨f0,f1,f2,_⟩:=hf p.1 hb
  obtain ⟨o,e',d⟩:=ho p.1 hb
  rw [e] at e';cases e'
  exact ⟨e,f0,f1,f2,d⟩
theorem Inv.unpinned{pins pl:List (Addr×Obj)}{σ:St}{H:Hp}{s:Shared}(I:Inv X (pins++pl) σ H s):Inv X pins σ H s:=I.pins_of fun p hp=>I.pin p (VaI _ (Vas _ hp))
theorem Zto{iter:Expr}{body:List Stmt}{wi:TI}{g:TG}{tb:TS}{pos:Pos}(hp:PassesOwn (model X.prog X.w) X.A X.env X.xe)(hc:X.calm=true)(hi:PI X tg iter wi)(hg:PG X tg g)(hb:PSs X body tb)
  (hs:∀x,foldedSetIterable iter X.env x=pure x:=by intro _;rfl):PS X (.For tg iter body [] pos) (tFor wi g tb):=by
 intro pins s σ H D I h
 refine wpAny_For (thn (hi pins s σ H _ I h) fun v s1 h1=>thn h1 fun itv s2 h2=>?_) hs
 obtain ⟨it,fp,tn,J,H2,e,I2,T,st2,f2,W,⟨m0,w0⟩,turn⟩:=h2
 subst e
 have stat:∀{H':Hp},(∀b∈fp,H' b=none)→∀b∈fp,FpOk X pins H' b:=fun hn b hb=>⟨hn b hb,(f2 b hb).2⟩
 refine codeAny_forLoop_any (fun n s'=>∃i σ' H',Inv X pins σ' H' s'∧tn i s'.heap∧(∀b∈fp,H' b=none)∧W i n σ' H') ?_ m0 ⟨0,σ,H2,I2,st2,fun b hb=>(f2 b hb).1,w0⟩
 rintro n s3 ⟨i,σ3,H3,I3,st3,fr3,w3⟩
 rcases turn i n σ3 H3 w3 with ⟨stop,qn⟩ | ⟨go,N,hN,step⟩
 ·refine Vay hp (thn (T.done X rfl rfl rfl hc i pins s3 σ3 H3 X.xe I3 (stat fr3) st3 stop) fun r s4 ⟨hr,I4⟩=>?_)
  subst hr
  exact wpAny_execs_nil ⟨σ3,H3,I4,qn⟩
 ·refine Vay hp (thn (T.item X rfl rfl rfl hc i pins s3 σ3 H3 X.xe I3 (stat fr3) st3 go) fun r s4 ⟨u,hr,h4⟩=>?_)
  subst hr
  refine Vay hp (thn h4 fun _ s5 ⟨x,H5,I5,r5,y5,st5,fr5⟩=>?_)
  have I5':=I5.pinned (stat fr5) (T.obj _ _ st5)
  refine Vay hp (thn (hg _ s5 σ3 H5 x u _ I5' r5 (step x H5 y5)) fun _ s6 ⟨σ6,H6,I6,q6⟩=>?_)
  refine Vay hp (thn (hb _ s6 σ6 H6 _ I6 q6) fun f s7 q7=>?_)
  have again:∀{σ7:St} {H7:Hp},Inv X (pins++Zj6 fp s5.heap) σ7 H7 s7→N σ7 H7→∃m,m<n∧∃i σ' H',Inv X pins σ' H' s7∧tn i s7.heap∧(∀b∈fp,H' b=none)∧W i m σ' H':=fun {σ7 H7} I7 n7=>by
   obtain ⟨m',hm,w7⟩:=hN σ7 H7 n7
   refine ⟨m',hm,i+1,σ7,H7,I7.unpinned,T.keep _ _ _ st5 fun b hb o e=>(I7.pin (b,o) (VaI _ (VaI _ (Zcc hb e)))).1,fun b hb=>?_,w7⟩
   obtain ⟨o,e,d⟩:=T.obj _ _ st5 b hb
   exact (I7.pin (b,o) (VaI _ (VaI _ (Zcc hb e)))).2.1
  cases f with
  | next=>obtain ⟨σ7,H7,I7,n7⟩:=q7;exact again I7 n7
  | cont=>obtain ⟨σ7,H7,I7,n7⟩:=q7;exact again I7 n7
  | brk=>obtain ⟨σ7,H7,I7,q7⟩:=q7;exact ⟨σ7,H7,I7.unpinned,q7⟩
  | ret v=>obtain ⟨x7,σ7,H7,I7,r7,q7⟩:=q7;exact ⟨x7,σ7,H7,I7.unpinned,r7,q7⟩
end
abbrev R2:=V→V→Hp→VK→Prop
def OpR(X:Cx)(f:Value→Value→Sem Value)(r:R2):Prop :=
 ∀(pins:List (Addr×Obj)) (s:Shared) (σ:St) (H:Hp) (x y:V) (v u:Value) (Q:VK),Inv X pins σ H s→RelV x v→RelV y u→r x y H Q →
  wpAny (model X.prog X.w) X.A (f v u) (EP X pins σ Q) X.xe s
def UnR(X:Cx)(f:Value→Sem Value)(r:V→Hp→VK→Prop):Prop :=
 ∀(pins:List (Addr×Obj)) (s:Shared) (σ:St) (H:Hp) (x:V) (v:Value) (Q:VK),Inv X pins σ H s→RelV x v→r x H Q →
  wpAny (model X.prog X.w) X.A (f v) (EP X pins σ Q) X.xe s
def Zej(X:Cx)(f:Value)(r:List V→Hp→VK→Prop):Prop :=
 ∀(pins:List (Addr×Obj)) (s:Shared) (σ:St) (H:Hp) (xs:List V) (us:List Value) (Q:VK),Inv X pins σ H s→Vals xs us→r xs H Q →
  wpAny (model X.prog X.w) X.A (call f us) (EP X pins σ Q) X.xe s
def tOp(r:R2)(ta tb:TE):TE:=fun σ H Q=>ta σ H fun x H1=>tb σ H1 fun y H2=>r x y H2 Q
def tUn(r:V→Hp→VK→Prop)(ta:TE):TE:=fun σ H Q=>ta σ H fun x H1=>r x H1 Q
def rI(C:Int→Int→Prop)(g:Int→Int→V):R2:=fun x y H Q=>∃i j,x=.int i∧y=.int j∧C i j∧Q (g i j) H
def rI0(g:Int→Int→V):R2:=fun x y H Q=>∃i j,x=.int i∧y=.int j∧Q (g i j) H
def rU(g:Int→V):V→Hp→VK→Prop:=fun x H Q=>∃i,x=.int i∧Q (g i) H
section
variable{X:Cx}{a b c:Expr}{ta tb tc:TE}{pos:Pos}
theorem binT(ha:PE X a ta)(hb:PE X b tb){pins:List (Addr×Obj)}{s:Shared}{σ:St}{H:Hp}{R:V→V→Hp→Prop}(I:Inv X pins σ H s)
  (h:ta σ H fun x H1=>tb σ H1 fun y H2=>R x y H2) {Q:Value→Shared→Prop} {f:Value→Value→Sem Value}
  (hf:∀v u s2 x y H2,Inv X pins σ H2 s2→RelV x v→RelV y u→R x y H2→wpAny (model X.prog X.w) X.A (f v u) Q X.xe s2) :
  wpAny (model X.prog X.w) X.A (eval a X.env) (fun v s₁=>wpAny (model X.prog X.w) X.A (eval b X.env) (fun u s₂=>wpAny (model X.prog X.w) X.A (f v u) Q X.xe s₂) X.xe s₁) X.xe s:=by
 refine thn (ha pins s σ H _ I h) fun v s1 ⟨x,H1,I1,r1,q1⟩=>?_
 refine thn (hb pins s1 σ H1 _ I1 q1) fun u s2 ⟨y,H2,I2,r2,q2⟩=>?_
 exact hf v u s2 x y H2 I2 r1 r2 q2
theorem ZtY{op:Operator}{r:R2}(ho:OpR X (binaryOp op) r)(ha:PE X a ta)(hb:PE X b tb):PE X (.BinOp a op b pos) (tOp r ta tb):=by
 intro pins s σ H Q I h
 exact wpAny_BinOp (binT ha hb I h fun v u s2 x y H2 I2 rx ry q=>ho pins s2 σ H2 x y v u Q I2 rx ry q)
theorem ZtP{op:UnaryOp}{r:V→Hp→VK→Prop}(ho:UnR X (unaryOp op) r)(ha:PE X a ta):PE X (.UnaryOp op a pos) (tUn r ta):=by
 intro pins s σ H Q I h
 exact UnaryOp_ (thn (ha pins s σ H _ I h) fun v s1 ⟨x,H1,I1,r1,q1⟩=>ho pins s1 σ H1 x v Q I1 r1 q1)
theorem opI{f:Value→Value→Sem Value}{C:Int→Int→Prop}{g:Int→Int→Int}
  (rule:∀(i j:Int) (t u:Tok) (s:Shared) (Q:Value→Shared→Prop) (E:Value→Shared→Prop),C i j→Q (.int (g i j) s.toks) { s with toks:=s.toks+1 }→wpAny (model X.prog X.w) X.A (f (.int i t) (.int j u)) Q E s) :
  OpR X f (rI C fun i j=>.int (g i j)):=by
 intro pins s σ H x y v u Q I rx ry h
 obtain ⟨i,j,rfl,rfl,hc,q⟩:=h
 obtain ⟨t,rfl⟩:=rx
 obtain ⟨t',rfl⟩:=ry
 exact rule i j t t' s _ _ hc ⟨.int (g i j),H,I.tok _,⟨_,rfl⟩,q⟩
theorem opI0{f:Value→Value→Sem Value}{g:Int→Int→Int}
  (rule:∀(i j:Int) (t u:Tok) (s:Shared) (Q:Value→Shared→Prop) (E:Value→Shared→Prop),Q (.int (g i j) s.toks) { s with toks:=s.toks+1 }→wpAny (model X.prog X.w) X.A (f (.int i t) (.int j u)) Q E s) :
  OpR X f (rI0 fun i j=>.int (g i j)):=by
 intro pins s σ H x y v u Q I rx ry h
 obtain ⟨i,j,rfl,rfl,q⟩:=h
 obtain ⟨t,rfl⟩:=rx
 obtain ⟨t',rfl⟩:=ry
 exact rule i j t t' s _ _ ⟨.int (g i j),H,I.tok _,⟨_,rfl⟩,q⟩
theorem opB0{f:Value→Value→Sem Value}{g:Int→Int→Bool}
  (rule:∀(i j:Int) (t u:Tok) (s:Shared) (Q:Value→Shared→Prop) (E:Value→Shared→Prop),Q (.bool (g i j)) s→wpAny (model X.prog X.w) X.A (f (.int i t) (.int j u)) Q E s) :
  OpR X f (rI0 fun i j=>.bl (g i j)):=by
 intro pins s σ H x y v u Q I rx ry h
 obtain ⟨i,j,rfl,rfl,q⟩:=h
 obtain ⟨t,rfl⟩:=rx
 obtain ⟨t',rfl⟩:=ry
 exact rule i j t t' s _ _ ⟨.bl (g i j),H,I,rfl,q⟩
def CPow(i j:Int):Prop:=0≤j∧j≤1000000∧i.natAbs<2^64
theorem ZkG(k:Nat):(0:Int)≤2^k:=by
 rw [two_pow_cast]
 exact Int.natCast_nonneg _
theorem Zs2:OpR X (binaryOp .Add) (rI0 fun i j=>.int (i+j)):=opI0 fun _ _ _ _ _ _ _ q=>add_int q
theorem Zta:OpR X (binaryOp .Sub) (rI0 fun i j=>.int (i - j)):=opI0 fun _ _ _ _ _ _ _ q=>sub_int q
theorem Zpb:OpR X (binaryOp .Mod) (rI (fun _ j=>j≠0) fun i j=>.int (i.fmod j)):=opI fun _ _ _ _ _ _ _ hc q=>mod_int' hc q
theorem Zrv:OpR X (binaryOp .Pow) (rI CPow fun i j=>.int (i^j.toNat)):=opI fun _ _ _ _ _ _ _ hc q=>pow_int_small hc.1 hc.2.1 hc.2.2 q
theorem Zse:OpR X (binaryOp .LShift) (rI CPow fun i j=>.int (i*2^j.toNat)):=opI fun _ _ _ _ _ _ _ hc q=>lshift_int_small hc.1 hc.2.1 hc.2.2 q
theorem Zsh:OpR X (binaryOp .RShift) (rI (fun _ j=>0≤j) fun i j=>.int (i/2^j.toNat)):=opI fun i j _ _ _ _ _ hc q =>
 rshift_int hc (by rw [VaJ i (ZkG _)];exact q)
theorem unI{f:Value→Sem Value}{g:Int→Int}
  (rule:∀(i:Int) (t:Tok) (s:Shared) (Q:Value→Shared→Prop) (E:Value→Shared→Prop),Q (.int (g i) s.toks) { s with toks:=s.toks+1 }→wpAny (model X.prog X.w) X.A (f (.int i t)) Q E s) :
  UnR X f (rU fun i=>.int (g i)):=by
 intro pins s σ H x v Q I rx h
 obtain ⟨i,rfl,q⟩:=h
 obtain ⟨t,rfl⟩:=rx
 exact rule i t s _ _ ⟨.int (g i),H,I.tok _,⟨_,rfl⟩,q⟩
theorem Zrr:UnR X (unaryOp .USub) (rU fun i=>.int (-i)):=unI fun _ _ _ _ _ q=>neg_int q
end
section
variable{X:Cx}{a b c:Expr}{ta tb tc:TE}{pos:Pos}
theorem Zjt{pins:List (Addr×Obj)}{σ:St}{H:Hp}{s:Shared}{Q:VK}{k k':Bool}(I:Inv X pins σ H s)(q:Q (.bl k) H)(e:k=k'):EP X pins σ Q (.bool k') s:=by
 subst e
 exact ⟨.bl k,H,I,rfl,q⟩
theorem ZrU:OpR X (compareOp .Lt) (rI0 fun i j=>.bl (decide (i<j))):=opB0 fun _ _ _ _ _ _ _ q=>lt_int q
theorem Ztj:OpR X (compareOp .LtE) (rI0 fun i j=>.bl (decide (i≤j))):=opB0 fun _ _ _ _ _ _ _ q=>le_int q
theorem ZuC:OpR X (compareOp .Gt) (rI0 fun i j=>.bl (decide (j<i))):=opB0 fun _ _ _ _ _ _ _ q=>gt_int q
theorem ZsI:OpR X (compareOp .GtE) (rI0 fun i j=>.bl (decide (j≤i))):=opB0 fun _ _ _ _ _ _ _ q=>ge_int q
theorem ZsP:OpR X (compareOp .Is) (fun x y H Q=>y=.non∧Q (.bl (decide (x=.non))) H):=by
 intro pins s σ H x y v u Q I rx ry h
 obtain ⟨rfl,q⟩:=h
 cases ry
 refine is_none_gen (Zjt I q ?_)
 cases x<;>first
  | (cases rx;rfl)
  | (obtain ⟨t,rfl⟩:=rx;rfl)
theorem ZqK:OpR X (compareOp .IsNot) (fun x y H Q=>y=.non∧Q (.bl (!decide (x=.non))) H):=by
 intro pins s σ H x y v u Q I rx ry h
 obtain ⟨rfl,q⟩:=h
 cases ry
 refine isnot_none_gen (Zjt I q ?_)
 cases x<;>first
  | (cases rx;rfl)
  | (obtain ⟨t,rfl⟩:=rx;rfl)
theorem ZcL(b:Expr){op:CmpOp}(h:op≠.In:=by decide)(h2:op≠.NotIn:=by decide):behindInMarks op b=false:=by
 have e1:(op==CmpOp.In)=false:=by cases op<;>first | rfl | exact absurd rfl h
 have e2:(op==CmpOp.NotIn)=false:=by cases op<;>first | rfl | exact absurd rfl h2
 cases b<;>simp [behindInMarks,e1,e2]
theorem Zp2{op:CmpOp}{r:R2}(ho:OpR X (compareOp op) r)(ha:PE X a ta)(hb:PE X b tb)(hm:behindInMarks op b=false):PE X (.Compare a [op] [b] pos) (tOp r ta tb):=by
 intro pins s σ H Q I h
 exact wpAny_Compare1 (binT ha hb I h fun v u s2 x y H2 I2 rx ry q=>ho pins s2 σ H2 x y v u Q I2 rx ry q) hm
def ZfE(t:TE):TT:=fun σ H Q=>t σ H fun x H'=>∃k,x=.bl k∧Q k H'
theorem Zi7{op:CmpOp}{r:R2}(ho:OpR X (compareOp op) r)(ha:PE X a ta)(hb:PE X b tb)(hm:behindInMarks op b=false):PT X (.Compare a [op] [b] pos) (ZfE (tOp r ta tb)):=by
 intro pins s σ H Q I h
 refine wpAny_isTrue_Compare1 (thn (ha pins s σ H _ I h) fun v s1 ⟨x,H1,I1,r1,q1⟩=>thn (hb pins s1 σ H1 _ I1 q1) fun u s2 ⟨y,H2,I2,r2,q2⟩ =>
  thn (ho pins s2 σ H2 x y v u _ I2 r1 r2 q2) fun c s3 ⟨z,H3,I3,r3,k,e,q3⟩=>?_) hm
 subst e
 cases r3
 exact wpAny_truthy_bool ⟨H3,I3,q3⟩
theorem Zla:(sizeLine:Nat)<2^63:=by rw [sizeLine_eq];decide
theorem ZkI:OpR X (binaryOp .Add) (fun x y H Q=>∃i j,x=.str i∧y=.str j∧i.length+j.length≤sizeLine∧Q (.str (i++j)) H):=by
 intro pins s σ H x y v u Q I rx ry h
 obtain ⟨i,j,rfl,rfl,hz,q⟩:=h
 obtain ⟨t,rfl⟩:=rx
 obtain ⟨t',rfl⟩:=ry
 exact add_str (fun t' tk=>⟨.str (i++j),H,I.tok _,⟨_,rfl⟩,q⟩) hz
theorem vals1{x:V}{us:List Value}(r:Vals [x] us):∃u,us=[u]∧RelV x u:=by
 cases r with
 | cons r1 r2=>cases r2;exact ⟨_,rfl,r1⟩
theorem vals2{x y:V}{us:List Value}(r:Vals [x,y] us):∃u w',us=[u,w']∧RelV x u∧RelV y w':=by
 cases r with
 | cons r1 r2 =>
  cases r2 with
  | cons r3 r4=>cases r4;exact ⟨_,_,rfl,r1,r3⟩
theorem Zns:Zej X (.builtin "abs") (fun xs H Q=>∃i,xs=[.int i]∧Q (.int (if i<0 then -i else i)) H):=by
 intro pins s σ H xs us Q I r h
 obtain ⟨i,rfl,q⟩:=h
 obtain ⟨u,rfl,t,rfl⟩:=vals1 r
 exact call_abs_int fun u tk=>⟨.int (if i<0 then -i else i),H,I.tok _,⟨_,rfl⟩,q⟩
theorem ZlT(hc:X.calm=true):Zej X (.builtin "max") (fun xs H Q=>∃i j,xs=[.int i,.int j]∧Q (.int (if j>i then j else i)) H):=by
 intro pins s σ H xs us Q I r h
 obtain ⟨i,j,rfl,q⟩:=h
 obtain ⟨u,w',rfl,⟨t,rfl⟩,⟨t',rfl⟩⟩:=vals2 r
 refine max_two_ints (I.ok.hd hc) fun h' tk k=>⟨_,H,I.kept k,?_,q⟩
 by_cases hj:j>i
 ·rw [if_pos hj,if_pos hj];exact ⟨_,rfl⟩
 ·rw [if_neg hj,if_neg hj];exact ⟨_,rfl⟩
theorem ZmL:Zej X (.type "int") (fun xs H Q=>(∃i,xs=[.int i]∧Q (.int i) H)∨∃k,xs=[.bl k]∧Q (.int (if k then 1 else 0)) H):=by
 intro pins s σ H xs us Q I r h
 rcases h with ⟨i,rfl,q⟩ | ⟨k,rfl,q⟩
 ·obtain ⟨u,rfl,t,rfl⟩:=vals1 r
  exact call_int_int ⟨.int i,H,I,⟨_,rfl⟩,q⟩
 ·obtain ⟨u,rfl,r1⟩:=vals1 r
  cases r1
  exact call_int_bool ⟨.int (if k then 1 else 0),H,I.tok _,⟨_,rfl⟩,q⟩
end
structure ObjM(h:Heap)(x dx C:Addr)(mA:Str→Option Value):Prop where
 obj:h.get? x=some (W.instObj C dx)
 ns:h.Ns1 dx mA
 ne:dx≠x
theorem Zmr{h:Heap}{dx:Addr}{mA:Str→Option Value}(n:h.Ns1 dx mA):∃od,h.get? dx=some od∧∀name,W.lookIn name od=some (mA name):=by
 obtain ⟨o,es,ep,ho,hd,hk,_,hm⟩:=n
 refine ⟨o,ho,fun name=>?_⟩
 have e:=hm name
 unfold nsFind findBy at e
 rw [←Array.find?_toList] at e
 unfold W.lookIn
 rw [hd]
 dsimp only
 split
 ·rename_i y q
  rw [q] at e
  exact Vax some e
 ·rename_i q
  rw [q] at e
  have a:es.toList.any (·.refKey)=false:=by
   rw [List.any_eq_false]
   intro y hy
   obtain ⟨z,t,hkey⟩:=hk y (Array.mem_toList_iff.mp hy)
   simp [DictEntry.refKey,hkey]
  have a':¬es.toList.any (·.refKey)=true:=by rw [a];exact Vaz
  rw [if_neg a']
  exact Vax some e
theorem ObjM.look{h:Heap}{x dx C:Addr}{mA:Str→Option Value}(I:ObjM h x dx C mA):∃od,W.InstAt h x (W.instObj C dx) C (some od)∧∀name,W.lookIn name od=some (mA name) :=
 let ⟨od,ho,hl⟩:=Zmr I.ns
 ⟨od,⟨I.obj,rfl,rfl,ho⟩,hl⟩
section
variable{prog:Program}{w:World}{A:Around}{E:Value→Shared→Prop}{s:Shared}{K:W.Frag}{x dx C f:Addr}{mA:Str→Option Value}{name:Str}{v:Value}
theorem Zpq{expr:Bool}{Q:Value→Shared→Prop}(X:K.In s.heap)(I:ObjM s.heap x dx C mA)(hg:W.plainGet K C name=true)(hh:W.hasDictIn K C=true)
  (ha:W.findIn K (.ref C) name=some none) (hv:mA name=some v) (hv':W.handedIn v=true) (h:Q v { s with toks:=s.toks+1 }) :
  wpAny (model prog w) A (getAttr (.ref x) name expr) Q E s:=by
 obtain ⟨od,J,hl⟩:=I.look
 exact W.get_value X J (W.plainGet_of hg).1 (W.findObj_own hh ha rfl (by rw [hl,hv])) hv' h
theorem ZnZ{pl:Sem Bool}{Q:Value×List Value→Shared→Prop}(X:K.In s.heap)(I:ObjM s.heap x dx C mA)(hg:W.plainGet K C name=true)
  (hf:W.findIn K (.ref C) name=some (some (.ref f))) (ht:W.isFn K (.ref f)=true) (hv:mA name=none) (h:Q (.ref f,[.ref x]) s) :
  wpAny (model prog w) A (getMethod (.ref x) name pl) Q E s:=by
 obtain ⟨od,J,hl⟩:=I.look
 exact W.method_fn X J (W.plainGet_of hg).1 (W.plainGet_of hg).2 hf (VaK.mp ht) (by show (W.lookIn name od).map (·.isSome)=some false;rw [hl,hv];rfl) h
theorem Zq3{ns:List Str}{Q:Unit→Shared→Prop}(X:K.In s.heap)(I:ObjM s.heap x dx C mA)
  (hs:W.findIn K (.ref C) "__setattr__"=some (some (.builtin "object.__setattr__"))) (hp:W.plainOver K C=true) (ht:W.takerIn K C name=some none) (hh:W.hasDictIn K C=true)
  (hw:PySem.Within mA ns) (hsz:ns.length≤sizeLine)
  (h:∀h',ObjM h' x dx C (fun y=>if y=name then some v else mA y)→Heap.SameBut dx s.heap h'→Q () { s with heap:=h',toks:=s.toks+2 }) :
  wpAny (model prog w) A (setAttr (.ref x) name v) Q E s:=by
 obtain ⟨od,J,hl⟩:=I.look
 refine W.set_plain X J hs (W.osa_open (s:={ s with toks:=s.toks+1 }) (r:=none) X J hp ht fun b=>?_)
 obtain ⟨cd,hc,hd'⟩:=W.any_some hh
 have hx:s.heap.get? x=some ⟨.ref C,some dx,.plain,#[]⟩:=I.obj
 refine VaC (VaB (VaC (VaC (wpAny_loadPart hx (VaC (W.Looks.here (s:={ s with toks:=s.toks+1 }) (W.looks_clsIn X hc) ?_))))))
 rw [hd']
 refine VaB (a:=some dx) (VaC (VaB (VaC ?_)))
 refine wpAny_nsSet1 (s:={ s with toks:=s.toks+1 }) I.ns fun h' hn2 hs2=>?_
 obtain ⟨oD,esD,epD,hoD,hdD,hcD⟩:=hn2.count (PySem.Within.cons name v hw)
 refine VaC (wpAny_lookBehind hoD (by rw [hdD];exact pastItsLine_dict (Vaj hcD (by rw [VaL];omega))) ?_)
 exact VaB (h _ ⟨(hs2.2 _ (Ne.symm I.ne)).trans I.obj,hn2,I.ne⟩ hs2)
theorem Znk{R:Result→Shared→Prop}{vs:List Value}{kw:List (Str×Value)}(X:K.In s.heap)(hm:W.makesIn K C=true)
  (hi:W.findIn K (.ref C) "__init__"=some (some (.ref f))) (hf:W.typeIn K (.ref f)=some (.type "function"))
  (h:codeAny (model prog w) (A.under (.builtin "type.__call__" ⟨.ref C::vs,kw⟩)) (.call (.ref f) ⟨.ref (s.heap.objs.size+1)::vs,kw⟩) (W.InitBack (s.heap.objs.size+1) R)
   { s with heap:=(s.heap.push W.emptyDict).push (W.instObj C s.heap.objs.size) }) :
  codeAny (model prog w) A (.call (.ref C) ⟨vs,kw⟩) R s:=by
 obtain ⟨hh,g,d,t,os⟩:=s
 exact W.make_core (W.makes_of X hm) (W.looks_findIn X hi) (fun self=>W.bind_fn X self hf) (.inl rfl) h
end
def putF(f:Str)(v:V):List (Str×V)→List (Str×V)
 | []=>[(f,v)]
 | (g,x)::r=>if g=f then (g,v)::r else (g,x)::putF f v r
theorem Zf4(f g:Str)(v:V):∀fs:List (Str×V),(putF f v fs).lookup g=if g=f then some v else fs.lookup g
 | []=>by
  show List.lookup g [(f,v)]=_
  by_cases h:g=f
  ·have hb:(g==f)=true:=VaK.mpr h
   simp only [List.lookup,hb,if_pos h]
  ·have hb:(g==f)=false:=Vac.mpr h
   simp only [List.lookup,hb,if_neg h]
 | (k,x)::r=>by
  have ih:=Zf4 f g v r
  rw [show putF f v ((k,x)::r)=(if k=f then (k,v)::r else (k,x)::putF f v r) from rfl]
  by_cases hk:k=f
  ·rw [if_pos hk]
   by_cases h:g=k
   ·have hb:(g==k)=true:=VaK.mpr h
    simp only [List.lookup,hb,if_pos (h.trans hk)]
   ·have hb:(g==k)=false:=Vac.mpr h
    simp only [List.lookup,hb,if_neg (fun e:g=f=>h (e.trans hk.symm))]
  ·rw [if_neg hk]
   by_cases h:g=k
   ·have hb:(g==k)=true:=VaK.mpr h
    simp only [List.lookup,hb,if_neg (fun e:g=f=>hk (h.symm.trans e))]
   ·have hb:(g==k)=false:=Vac.mpr h
    simp only [List.lookup,hb]
    exact ih
theorem Zgt(f:Str)(v:V):∀fs:List (Str×V),f∈(putF f v fs).map (·.1)∧∀g,g∈fs.map (·.1)→g∈(putF f v fs).map (·.1)
 | []=>⟨by simp [putF],fun g h=>by simp at h⟩
 | (k,x)::r=>by
  obtain ⟨i1,i2⟩:=Zgt f v r
  rw [show putF f v ((k,x)::r)=(if k=f then (k,v)::r else (k,x)::putF f v r) from rfl]
  by_cases hk:k=f
  ·rw [if_pos hk]
   subst hk
   exact ⟨by simp,fun g h=>by simpa using h⟩
  ·rw [if_neg hk]
   refine ⟨?_,fun g h=>?_⟩
   ·rw [VaM]
    exact Vao _ i1
   ·rw [VaM] at h ⊢
    rcases Vaq.mp h with e | e
    ·exact Vaq.mpr (.inl e)
    ·exact Vao _ (i2 g e)
theorem ZfP(f:Str)(v:V):∀fs:List (Str×V),(putF f v fs).length≤fs.length+1
 | []=>by simp [putF]
 | (k,x)::r=>by
  have ih:=ZfP f v r
  rw [show putF f v ((k,x)::r)=(if k=f then (k,v)::r else (k,x)::putF f v r) from rfl]
  by_cases hk:k=f
  ·rw [if_pos hk,VaL,VaL];omega
  ·rw [if_neg hk,VaL,VaL];omega
theorem RelO.some_of{v:V}{o:Option Value}(r:RelO (some v) o):∃u,o=some u∧RelV v u:=by
 cases o with
 | none=>exact (show False from r).elim
 | some u=>exact ⟨u,rfl,r⟩
theorem RelO.none_of{o:Option Value}(r:RelO none o):o=none:=by
 cases o with
 | none=>rfl
 | some u=>exact (show False from r).elim
theorem Zlz{v:V}{u:Value}(r:RelV v u):W.handedIn u=true:=by
 cases v with
 | non=>cases (show u=Value.none from r);rfl
 | bl b=>cases (show u=Value.bool b from r);rfl
 | int i=>obtain ⟨t,e⟩:=(show ∃t,u=Value.int i t from r);cases e;rfl
 | str x=>obtain ⟨t,e⟩:=(show ∃t,u=Value.str x t from r);cases e;rfl
 | byt b=>obtain ⟨t,e⟩:=(show ∃t,u=Value.bytes b t from r);cases e;rfl
 | flt b=>obtain ⟨t,e⟩:=(show ∃t,u=Value.float b t from r);cases e;rfl
 | ref a=>cases (show u=Value.ref a from r);rfl
 | ty n=>cases (show u=Value.type n from r);rfl
section
variable{P:Program}{w:World}{H H':Hp}{h h':Heap}{a C dx:Addr}{fs fs':List (Str×V)}
theorem ZhR(hok:HOk P w H h)(e:H a=some (.ins C dx fs)):∃mA,ObjM h a dx C mA∧(∀f,RelO (fs.lookup f) (mA f))∧PySem.Within mA (fs.map (·.1))∧fs.length≤1000∧H dx=some (.own a):=by
 obtain ⟨d,z,ne,ob,mA,n,r,q⟩:=(show Zca P w H h a (.ins C dx fs) from hok a _ e)
 exact ⟨mA,⟨ob,n,ne⟩,r,q,z,d⟩
end
structure Cls(K:W.Frag)(C:Addr):Prop where
 pg:W.plainGet K C Str.empty=true
 hd:W.hasDictIn K C=true
 po:W.plainOver K C=true
 sa:W.findIn K (.ref C) "__setattr__"=some (some (.builtin "object.__setattr__"))
theorem Cls.get{K:W.Frag}{C:Addr}(c:Cls K C)(f:Str):W.plainGet K C f=true:=c.pg
def ZdW(K:W.Frag)(C:Addr)(f:Str):Prop:=W.findIn K (.ref C) f=some none
theorem ZdW.taker{K:W.Frag}{C:Addr}{f:Str}(n:ZdW K C f):W.takerIn K C f=some none:=by
 unfold W.takerIn
 rw [show W.findIn K (.ref C) f=some none from n]
 rfl
structure Meth(K:W.Frag)(C:Addr)(m:Str)(f:Addr):Prop where
 at_:W.findIn K (.ref C) m=some (some (.ref f))
 fn:W.isFn K (.ref f)=true
 kp:W.keepIn K (.ref f)=true
section
variable{X:Cx}{pins:List (Addr×Obj)}{σ:St}{H:Hp}{s:Shared}{a C dx:Addr}{fs:List (Str×V)}{f:Str}{v:V}{A:Around}{E:Value→Shared→Prop}
theorem Zky{b:Bool}{Q:Value→Shared→Prop}(I:Inv X pins σ H s)(e:H a=some (.ins C dx fs))(c:Cls X.K C)(n:ZdW X.K C f)(l:fs.lookup f=some v)
  (h:∀u s',Inv X pins σ H s'→RelV v u→Q u s'):wpAny (model X.prog X.w) A (getAttr (.ref a) f b) Q E s:=by
 obtain ⟨mA,O,r,_,_,_⟩:=ZhR I.hok e
 obtain ⟨u,hu,ru⟩:=RelO.some_of (v:=v) (o:=mA f) (by rw [←l];exact r f)
 exact Zpq I.kIn O (c.get f) c.hd n hu (Zlz ru) (h u _ (I.tok _) ru)
theorem ZgZ{m:Str}{g:Addr}{pl:Sem Bool}{Q:Value×List Value→Shared→Prop}(I:Inv X pins σ H s)(e:H a=some (.ins C dx fs))(c:Cls X.K C)(k:Meth X.K C m g)(l:fs.lookup m=none)
  (h:Q (.ref g,[.ref a]) s):wpAny (model X.prog X.w) A (getMethod (.ref a) m pl) Q E s:=by
 obtain ⟨mA,O,r,_,_,_⟩:=ZhR I.hok e
 have hn:mA m=none:=RelO.none_of (by rw [←l];exact r m)
 exact ZnZ I.kIn O (c.get m) k.at_ k.fn hn h
theorem ZkB{y:V}{u:Value}{Q:Unit→Shared→Prop}(I:Inv X pins σ H s)(e:H a=some (.ins C dx fs))(c:Cls X.K C)(n:ZdW X.K C f)(hl:fs.length<1000)(ry:RelV y u)
  (h:∀s',Inv X pins σ (upd H a (.ins C dx (putF f y fs))) s'→Q () s'):wpAny (model X.prog X.w) A (setAttr (.ref a) f u) Q E s:=by
 obtain ⟨mA,O,r,wi,_,ho⟩:=ZhR I.hok e
 have hz:(fs.map (·.1)).length≤sizeLine:=by rw [VaN,sizeLine_eq];omega
 refine Zq3 I.kIn O c.sa c.po n.taker c.hd wi hz fun h' O' sb=>h _ ?_
 have hd:∃o,h'.get? dx=some o:=let ⟨o,_,_,e',_⟩:=O'.ns;⟨o,e'⟩
 refine I.write (x:=a) (e:=dx) (by rw [e];exact True.intro) (.inr ho) (fun b q hb z=>(sb.2 b hb).trans z) hd ?_
 refine ⟨by rw [Zaf O.ne];exact ho,?_,O.ne,O'.obj,_,O'.ns,fun g=>?_,fun g hg=>?_⟩
 ·have:=ZfP f y fs;omega
 ·show RelO ((putF f y fs).lookup g) (if g=f then some u else mA g)
  rw [Zf4]
  by_cases q:g=f
  ·rw [if_pos q,if_pos q];exact ry
  ·rw [if_neg q,if_neg q];exact r g
 ·by_cases q:g=f
  ·rw [q];exact (Zgt f y fs).1
  ·refine (Zgt f y fs).2 g (wi g fun z=>hg ?_)
   show (if g=f then some u else mA g)=none
   rw [if_neg q];exact z
theorem Inv.made(I:Inv X pins σ H s):Inv X pins σ (upd (upd H s.heap.objs.size (.own (s.heap.objs.size+1))) (s.heap.objs.size+1) (.ins C s.heap.objs.size []))
  { s with heap:=(s.heap.push W.emptyDict).push (W.instObj C s.heap.objs.size) }:=by
 have e1:(s.heap.push W.emptyDict).get? s.heap.objs.size=some W.emptyDict:=VaE s.heap rfl
 have e2:((s.heap.push W.emptyDict).push (W.instObj C s.heap.objs.size)).get? (s.heap.objs.size+1)=some (W.instObj C s.heap.objs.size):=by
  have:=VaE (s.heap.push W.emptyDict) (o:=W.instObj C s.heap.objs.size) rfl
  rwa [VaO] at this
 have e3:(s.heap.push W.emptyDict).Ns s.heap.objs.size (fun _=>none):=⟨W.emptyDict,#[],_,e1,rfl,(fun e he=>absurd he (by simp)),fun _=>rfl⟩
 have I1:=I.laid (a:=s.heap.objs.size) (o:=.own (s.heap.objs.size+1)) (h':=s.heap.push W.emptyDict) (t':=s.toks) (fun b u q=>VaD _ q) (VaF _) ⟨_,e1⟩
 refine I1.laid (a:=s.heap.objs.size+1) (o:=.ins C s.heap.objs.size []) (t':=s.toks) (fun b u q=>VaD _ q) (Nat.le_of_eq (VaO _ _)) ?_
 have ne:s.heap.objs.size≠s.heap.objs.size+1:=Vag (VaP _)
 refine ⟨by rw [Zaf ne,Zag],VaQ _,ne,e2,fun _=>none,(Heap.Ns1.of_empty e3).at fun o q=>VaD _ q,fun _=>True.intro,fun y hy=>absurd rfl hy⟩
theorem Zq4{prog:Program}{w:World}{env:Env}{e:Expr}{f:Str}{pos:Pos}{s:Shared}{Q:Value→Shared→Prop}(hb:attributeBase e f env (eval e env)=eval e env)
  (h:wpAny (model prog w) A (eval e env) (fun o s₁=>wpAny (model prog w) A (getAttr o f true) Q E s₁) E s):wpAny (model prog w) A (eval (.Attribute e f pos) env) Q E s :=
 Attribute_any_ h (by rw [arm_eval_Attribute,hb])
end
def tFld(K:W.Frag)(ta:TE)(f:Str):TE:=fun σ H Q=>ta σ H fun x H1=>∃a C dx fs v,x=.ref a∧H1 a=some (.ins C dx fs)∧Cls K C∧ZdW K C f∧fs.lookup f=some v∧Q v H1
def sFld(K:W.Frag)(ta tv:TE)(f:Str):TS:=fun D σ H=>tv σ H fun y H1=>ta σ H1 fun x H2=>∃a C dx fs,x=.ref a∧H2 a=some (.ins C dx fs)∧Cls K C∧ZdW K C f∧fs.length<1000 ∧
 D.nx σ (upd H2 a (.ins C dx (putF f y fs)))
section
variable{X:Cx}{o e value:Expr}{f:Str}{pos pos' tpos:Pos}{ta tv:TE}
theorem ZsM(he:PE X e ta)(hb:attributeBase e f X.env (eval e X.env)=eval e X.env):PE X (.Attribute e f pos) (tFld X.K ta f):=by
 intro pins s σ H Q I h
 refine Zq4 hb (thn (he pins s σ H _ I h) fun u s1 ⟨x,H1,I1,rx,a,C,dx,fs,v,ex,ea,c,n,l,q⟩=>?_)
 subst ex
 obtain rfl:u=Value.ref a:=rx
 exact Zky I1 ea c n l fun u' s2 I2 ru=>⟨v,H1,I2,ru,q⟩
theorem Zs1(ha:PE X o ta)(hv:PE X value tv)(hs:swapsWith value (some (.Attribute o f pos')) pos.line X.env=pure false):PS X (.Assign [.Attribute o f pos'] value pos) (sFld X.K ta tv f):=by
 intro pins s σ H D I h
 refine plainObj_wpAny_Assign_Attribute (thn (hv pins s σ H _ I h) fun u s1 ⟨y,H1,I1,ry,q⟩=>thn (ha pins s1 σ H1 _ I1 q) fun ov s2 ⟨x,H2,I2,rx,a,C,dx,fs,ex,ea,c,n,l,q2⟩=>?_) hs
 subst ex
 obtain rfl:ov=Value.ref a:=rx
 exact ZkB I2 ea c n l ry fun s3 I3=>⟨σ,_,I3,q2⟩
end
section
variable{X:Cx}{pins:List (Addr×Obj)}{σ:St}{H:Hp}{s:Shared}{A:Around}{E:Value→Shared→Prop}{Q:Value→Shared→Prop}{c:Value}{b:Bool}
inductive TyOf(K:W.Frag)(H:Hp):V→Value→Prop where
 | non:TyOf K H .non (.type "NoneType")
 | bl (x:Bool):TyOf K H (.bl x) (.type "bool")
 | int (i:Int):TyOf K H (.int i) (.type "int")
 | str (x:Str):TyOf K H (.str x) (.type "str")
 | flt (x:UInt64):TyOf K H (.flt x) (.type "float")
 | lst {a:Addr} {xs:List V} (e:H a=some (.lst xs)):TyOf K H (.ref a) (.type "list")
 | frz {a:Addr} {o:Obj} {xs:List V} (e:H a=some (.frz o (.lst xs))):TyOf K H (.ref a) (.type "list")
 | tup {a:Addr} {xs:List V} (e:H a=some (.tup xs)):TyOf K H (.ref a) (.type "tuple")
 | dK {a:Addr} {kvs:List (Key×V)} (e:H a=some (.dK kvs)):TyOf K H (.ref a) (.type "dict")
 | dT {a:Addr} {kvs:List (List Key×V)} (e:H a=some (.dT kvs)):TyOf K H (.ref a) (.type "dict")
 | ins {a C dx:Addr} {fs:List (Str×V)} (e:H a=some (.ins C dx fs)) (cl:Cls K C) (ha:W.findIn K (.ref C) "__class__"=some (some (.builtin "object.__class__")))
   (hn:W.specialIn K (.builtin "object.__class__") "__get__"=some (some (.builtin "getset_descriptor.__get__"))) (htk:W.takesIn K (.builtin "object.__class__")=some true)
   (hm:W.mroIn K C (.type "object")=some true):TyOf K H (.ref a) (.ref C)
theorem Zet{x:V}{u t:Value}(I:Inv X pins σ H s)(rx:RelV x u)(ty:TyOf X.K H x t)(e:W.kitOne X.K t c=some b)(h:∀tk,Q (.bool b) { s with toks:=tk }) :
  wpAny (model X.prog X.w) A (call (.builtin "isinstance") [u,c]) Q E s:=by
 cases ty with
 | non=>cases (show u=Value.none from rx);exact VaR W.kitx_none I.kIn True.intro e (fun z=>nomatch z) h
 | bl y=>cases (show u=Value.bool y from rx);exact VaR W.kitx_bool I.kIn True.intro e (fun z=>nomatch z) h
 | int i=>obtain ⟨t,q⟩:=(show ∃t,u=Value.int i t from rx);cases q;exact VaR W.kitx_int I.kIn True.intro e (fun z=>nomatch z) h
 | str y=>obtain ⟨t,q⟩:=(show ∃t,u=Value.str y t from rx);cases q;exact VaR W.kitx_str I.kIn True.intro e (fun z=>nomatch z) h
 | flt y=>obtain ⟨t,q⟩:=(show ∃t,u=Value.float y t from rx);cases q;exact VaR W.kitx_float I.kIn True.intro e (fun z=>nomatch z) h
 | @lst a xs ea =>
  cases (show u=Value.ref a from rx)
  obtain ⟨_,_,n,_,h1⟩:=(show Zca X.prog X.w H s.heap a (.lst xs) from I.hok a _ ea)
  exact VaR W.kitx_list I.kIn ⟨_,h1,rfl⟩ e (fun z=>nomatch z) h
 | @frz a ob xs ea =>
  cases (show u=Value.ref a from rx)
  obtain ⟨_,_,_,n,_,h1⟩:=(show Zca X.prog X.w H s.heap a (.frz ob (.lst xs)) from I.hok a _ ea)
  exact VaR W.kitx_list I.kIn ⟨_,h1,rfl⟩ e (fun z=>nomatch z) h
 | @tup a xs ea =>
  cases (show u=Value.ref a from rx)
  obtain ⟨_,_,_,p⟩:=(show Zca X.prog X.w H s.heap a (.tup xs) from I.hok a _ ea)
  obtain ⟨o,h1,h2,_⟩:=p
  exact VaR W.kitx_tuple I.kIn ⟨o,h1,h2⟩ e (fun z=>nomatch z) h
 | @dK a kvs ea =>
  cases (show u=Value.ref a from rx)
  obtain ⟨_,_,vs,_,p⟩:=(show Zca X.prog X.w H s.heap a (.dK kvs) from I.hok a _ ea)
  obtain ⟨o,es,ep,h1,h2,_⟩:=p
  exact VaR W.kitx_dict I.kIn ⟨o,h1,h2.1⟩ e (fun z=>nomatch z) h
 | @dT a kvs ea =>
  cases (show u=Value.ref a from rx)
  obtain ⟨_,_,xs,_,o,es,ep,h1,h2,_⟩:=(show Zca X.prog X.w H s.heap a (.dT kvs) from I.hok a _ ea)
  exact VaR W.kitx_dict I.kIn ⟨o,h1,h2.1⟩ e (fun z=>nomatch z) h
 | @ins a C dx fs ea cl ha hn htk hm =>
  cases (show u=Value.ref a from rx)
  obtain ⟨mA,O,_⟩:=ZhR I.hok ea
  obtain ⟨od,J,_⟩:=O.look
  exact VaR (W.kitx_own (cl.get _) cl.hd ha hn htk hm) I.kIn J e (fun z=>nomatch z) h
end
structure Room(k:Nat)(A:Around):Prop where
 hd:A.handled=none
 dp:A.depth+3*k+5<recursionLimit
 un:A.units+16*k+200<cLine
theorem Room.mono{j k:Nat}{A:Around}(r:Room k A)(h:j≤k):Room j A:=⟨r.hd,by have:=r.dp;omega,by have:=r.un;omega⟩
theorem Room.deeper{k:Nat}{A:Around}(r:Room (k+1) A)(env:Env):Room k (A.deeper env) :=
 ⟨r.hd,by have:=r.dp;show A.depth+1+3*k+5<_;omega,by have:=r.un;show A.units+3+16*k+200<_;omega⟩
theorem ZkH{A:Around}{C:Addr}{us:List Value}{kw:List (Str×Value)}:(A.under (.builtin "type.__call__" ⟨.ref C::us,kw⟩)).depth=A.depth+1:=by
 first | rfl | simp [Around.under,Code.weight,Code.isCreation,Code.isGuard,Code.isCaller,Code.frames,Code.isFrame,guardIds]
theorem Zks{A:Around}{C:Addr}{us:List Value}{kw:List (Str×Value)}:(A.under (.builtin "type.__call__" ⟨.ref C::us,kw⟩)).units=A.units+1:=by
 first | rfl | simp [Around.under,Code.cUnits,Code.frames,Code.isFrame]
theorem Room.make{k:Nat}{A:Around}(r:Room (k+1) A)(C:Addr)(us:List Value)(kw:List (Str×Value)):Room k (A.under (.builtin "type.__call__" ⟨.ref C::us,kw⟩)) :=
 ⟨r.hd,by have:=r.dp;rw [ZkH];omega,by have:=r.un;rw [Zks];omega⟩
theorem Room.depth{k:Nat}{A:Around}(r:Room k A):A.depth<recursionLimit:=by have:=r.dp;omega
theorem Room.units{k:Nat}{A:Around}(r:Room k A):A.units+64<cLine:=by have:=r.un;omega
def tNil:TA:=fun _ H Q=>Q [] H
def Zek(ta:TE)(tr:TA):TA:=fun σ H Q=>ta σ H fun x H1=>tr σ H1 fun xs H2=>Q (x::xs) H2
section
variable{X:Cx}{e:Expr}{es:List Expr}{te:TE}{t:TA}{pos:Pos}
theorem Ziw:PA X [] tNil:=fun _ _ _ _ H Q I h=>Calls.spliced_nil ⟨[],H,I,.nil,h⟩
theorem Zen(ha:PE X e te)(hr:PA X es t)(hs:starEach (e::es) X.env=(false,eval e X.env)::starEach es X.env:=by rfl):PA X (e::es) (Zek te t):=by
 intro pos pins s σ H Q I h
 rw [hs]
 show wpAny _ _ (spliced ((false,eval e X.env)::backTo pos (starEach es X.env))) _ _ s
 refine Calls.spliced_cons (thn (ha pins s σ H _ I h) fun u s1 ⟨x,H1,I1,r1,q1⟩=>?_)
 exact thn (hr pos pins s1 σ H1 _ I1 q1) fun us s2 ⟨xs,H2,I2,r2,q2⟩=>⟨x::xs,H2,I2,.cons r1 r2,q2⟩
def tTup(t:TA):TE:=fun σ H Q=>t σ H fun xs H1=>xs.length≤sizeLine∧∀p,H1 p=none→Q (.ref p) (upd H1 p (.tup xs))
def tLst(t:TA):TE:=fun σ H Q=>t σ H fun xs H1=>xs.length≤sizeLine∧∀p,H1 p=none→Q (.ref p) (upd H1 p (.lst xs))
theorem ZsE{x1}(h:PA X es t):PE X (.Tuple es x1 pos) (tTup t):=by
 intro pins s σ H Q I hq
 refine wpAny_Tuple_spliced (thn (h pos pins s σ H _ I hq) fun us s1 ⟨xs,H1,I1,r,z,q⟩=>⟨by rw [←r.length];exact z,?_⟩)
 have hf:H1 s1.heap.objs.size=none:=I1.hok.fresh (VaF _)
 refine ⟨.ref s1.heap.objs.size,upd H1 s1.heap.objs.size (.tup xs),I1.laid (t':=s1.toks) (fun b u e=>VaD _ e) (VaF _) ?_,rfl,q _ hf⟩
 exact ⟨z,us,r,⟨_,VaE _ rfl,rfl,_,rfl⟩⟩
theorem Zov(h:PA X es t):PE X (.List es pos) (tLst t):=by
 intro pins s σ H Q I hq
 refine wpAny_List_spliced (thn (h pos pins s σ H _ I hq) fun us s1 ⟨xs,H1,I1,r,z,q⟩=>⟨by rw [←r.length];exact z,?_⟩)
 have hf:H1 s1.heap.objs.size=none:=I1.hok.fresh (VaF _)
 refine ⟨.ref s1.heap.objs.size,upd H1 s1.heap.objs.size (.lst xs),I1.laid (t':=s1.toks) (fun b u e=>VaD _ e) (VaF _) ?_,rfl,q _ hf⟩
 exact ⟨z,us,0,r,VaE _ rfl⟩
end
abbrev Sp:=List V→Hp→VK→XK→Prop
abbrev CXT:=List Env→Hp→Shared→XK→Value→Shared→Prop
structure Env0(P:Program)(w:World)(K:W.Frag)(mg:Str→Option Value)(base:Heap)(A:Around)(outer:List Env)(s:Shared)(H:Hp):Prop where
 frames:A.frames=some outer
 mod:Mod K mg base
 bs:∀b o,base.get? b=some o→s.heap.get? b=some o∧H b=none
 bsz:base.objs.size≤s.heap.objs.size
 funs:s.heap.FunFrames base outer
 frf:∀b∈frs outer,H b=none
 hok:HOk P w H s.heap
 bare:AllBare s.gens
def CE(outer:List Env)(P:Program)(w:World)(H:Hp)(s:Shared)(Q:VK)(u:Value)(s':Shared):Prop :=
 ∃v H',s'.os=s.os∧AllBare s'.gens∧Un (frs outer) [] H H' s.heap s'.heap∧HOk P w H' s'.heap∧RelV v u∧Q v H'
def CR(CX:CXT)(outer:List Env)(P:Program)(w:World)(H:Hp)(s:Shared)(Q:VK)(E:XK)(r:Result)(s':Shared):Prop :=
 match r with
 | .ok (.ret u)=>CE outer P w H s Q u s'
 | .ok _=>False
 | .error e=>CX outer H s E e s'
structure FnOk(P:Program)(w:World)(K:W.Frag)(mg:Str→Option Value)(base:Heap)(CX:CXT)(k:Nat)(f:Addr)(fd:FuncData)(ps:List Str)(sp:Sp):Prop where
 len:∀vs H Q E,sp vs H Q E→vs.length=ps.length
 run:∀(A:Around) (outer:List Env) (s:Shared) (H:Hp) (args:Args) (us:List Value) (vs:List V) (Q:VK) (E:XK),Room k A→Env0 P w K mg base A outer s H→BindsTo s fd args (ps.zip us)→Vals vs us→sp vs H Q E →
  codeAny (model P w) A (.call (.ref f) args) (CR CX outer P w H s Q E) s
theorem FnOk.mono{P:Program}{w:World}{K:W.Frag}{mg:Str→Option Value}{base:Heap}{CX:CXT}{j k:Nat}{f:Addr}{fd:FuncData}{ps:List Str}{sp:Sp}(F:FnOk P w K mg base CX j f fd ps sp)(h:j≤k) :
  FnOk P w K mg base CX k f fd ps sp:=⟨F.len,fun A outer s H args us vs Q E hr=>F.run A outer s H args us vs Q E (hr.mono h)⟩
theorem FnOk.imp{P:Program}{w:World}{K:W.Frag}{mg:Str→Option Value}{base:Heap}{CX:CXT}{k:Nat}{f:Addr}{fd:FuncData}{ps:List Str}{sp sp':Sp}(F:FnOk P w K mg base CX k f fd ps sp)
  (h:∀vs H Q E,sp' vs H Q E→sp vs H Q E):FnOk P w K mg base CX k f fd ps sp' :=
 ⟨fun vs H Q E q=>F.len vs H Q E (h _ _ _ _ q),fun A outer s H args us vs Q E hr he hb hv hs=>F.run A outer s H args us vs Q E hr he hb hv (h _ _ _ _ hs)⟩
theorem Env0.make{P:Program}{w:World}{K:W.Frag}{mg:Str→Option Value}{base:Heap}{A:Around}{outer:List Env}{s:Shared}{H:Hp}(e:Env0 P w K mg base A outer s H)(C:Addr)(us:List Value)(kw:List (Str×Value)) :
  Env0 P w K mg base (A.under (.builtin "type.__call__" ⟨.ref C::us,kw⟩)) outer s H:=⟨by first | exact e.frames | (simpa [Around.under,Code.envs,Code.isFrame,pushEnvs] using e.frames),e.mod,e.bs,e.bsz,e.funs,e.frf,e.hok,e.bare⟩
section
variable{X:Cx}{pins:List (Addr×Obj)}{σ:St}{H:Hp}{s s':Shared}
theorem Inv.env0(I:Inv X pins σ H s):Env0 X.prog X.w X.K X.mg X.base X.A X.stack s H :=
 ⟨I.ok.frames,I.ok.mod,I.bs,Vaj I.ok.bsz I.sz,I.stack,I.stkFree,I.hok,I.bare⟩
theorem Inv.after{Q:VK}{u:Value}(I:Inv X pins σ H s)(h:CE X.stack X.prog X.w H s Q u s'):EP X pins σ Q u s':=by
 obtain ⟨v,H',os,bare,un,hok,r,q⟩:=h
 obtain ⟨hh,g,d,t,os'⟩:=s'
 obtain rfl:os'=s.os:=os
 exact ⟨v,H',I.call (h':=hh) (g':=g) (d':=d) (t':=t) (ch:=[]) un hok bare (fun b z=>absurd z (by simp)),r,q⟩
end
def Zjm(sp:Sp)(dvs:List V)(E:XK)(t:TA):TE:=fun σ H Q=>t σ H fun vs H1=>sp (vs++dvs) H1 Q E
def ZqN(C:Addr)(sp:Sp)(dvs:List V)(E:XK)(t:TA):TE:=fun σ H Q=>t σ H fun vs H1=>∀x dx,H1 x=none→H1 dx=none→dx≠x →
 sp (.ref x::(vs++dvs)) (upd (upd H1 dx (.own x)) x (.ins C dx [])) (fun v H2=>v=.non∧Q (.ref x) H2) E
def Binds(K:W.Frag)(fd:FuncData)(ps:List Str)(ds:List Value):Prop :=
 ∀(s:Shared) (us:List Value),K.In s.heap→(us++ds).length=ps.length→BindsTo s fd ⟨us,[]⟩ (ps.zip (us++ds))
theorem Binds.all{K:W.Frag}{fd:FuncData}{ps:List Str}(h:∀us:List Value,us.length=ps.length→bindArgs fd ⟨us,[]⟩=pure (ps.zip us)):Binds K fd ps []:=fun s us _ hl=>by
 rw [VaS] at hl ⊢
 exact .of_eq (h us hl)
def Zcl(CX:CXT)(X:Cx)(E:XK):Prop:=∀(pins:List (Addr×Obj)) (σ:St) (H:Hp) (s:Shared) (e:Value) (s':Shared),Inv X pins σ H s→CX X.stack H s E e s'→X.xe e s'
section
variable{X:Cx}{CX:CXT}{k:Nat}{f C:Addr}{fd:FuncData}{ps:List Str}{sp:Sp}{dvs:List V}{ds:List Value}{E:XK}{x m:Str}{p pos apos:Pos}{e o:Expr}{es:List Expr}{ta:TE}{t:TA}
theorem Zj5{pins:List (Addr×Obj)}{σ:St}{H:Hp}{s:Shared}{Q:VK}{us:List Value}{vs:List V}(F:FnOk X.prog X.w X.K X.mg X.base CX k f fd ps sp)(hr:Room k X.A)(hb:Binds X.K fd ps ds)(hd:Vals dvs ds)(hx:Zcl CX X E)
  (I:Inv X pins σ H s) (r:Vals vs us) (h:sp (vs++dvs) H Q E):wpAny (model X.prog X.w) X.A (call (.ref f) us) (EP X pins σ Q) X.xe s:=by
 have r2:Vals (vs++dvs) (us++ds):=r.append hd
 have hl:(us++ds).length=ps.length:=by rw [←r2.length];exact F.len _ _ _ _ h
 refine wpAny_call (VaT (F.run X.A X.stack s H ⟨us,[]⟩ (us++ds) (vs++dvs) Q E hr I.env0 (hb s us I.kIn hl) r2 h) fun r s' hq=>?_)
 cases r with
 | error e=>exact hx pins σ H s e s' I hq
 | ok fl =>
  cases fl with
  | ret u=>exact I.after hq
  | next=>exact False.elim hq
  | brk=>exact False.elim hq
  | cont=>exact False.elim hq
theorem Zqa(F:FnOk X.prog X.w X.K X.mg X.base CX k f fd ps sp)(hr:Room k X.A)(hg:Gl X x)(hm:X.mg x=some (.ref f))(hk:W.keepIn X.K (.ref f)=true)(hb:Binds X.K fd ps ds)(hd:Vals dvs ds)(hx:Zcl CX X E)
  (ha:PA X (e::es) t) (hdb:(x==("__debug__" : Str))=false:=by decide) (he:starEach (e::es) X.env=(false,eval e X.env)::starEach es X.env:=by rfl) (hpl:(backTo pos (starEach es X.env)).any (·.1)=false:=by rfl) :
  PE X (.Call (.Name x p) (e::es) [] pos) (Zjm sp dvs E t):=by
 intro pins s σ H Q I h
 refine VaU (ZhA I hg hm ?_ hdb)
 refine W.callWith_K (h₀:=X.base) I.ok.mod.kin hk (thn (ha pos pins s σ H _ I h) fun us s1 ⟨vs,H1,I1,r,q⟩=>⟨I1.kIn,?_⟩) he hpl
 exact Zj5 F hr hb hd hx I1 r q
structure Mk(K:W.Frag)(C f:Addr):Prop where
 makes:W.makesIn K C=true
 init:W.findIn K (.ref C) "__init__"=some (some (.ref f))
 fn:W.isFn K (.ref f)=true
 kp:W.keepIn K (.ref C)=true
theorem Znn{pins:List (Addr×Obj)}{σ:St}{H:Hp}{s:Shared}{Q:VK}{us:List Value}{vs:List V}(M:Mk X.K C f)(F:FnOk X.prog X.w X.K X.mg X.base CX k f fd ps sp)(hr:Room (k+1) X.A)(hb:Binds X.K fd ps ds)(hd:Vals dvs ds)
  (hx:Zcl CX X E) (I:Inv X pins σ H s) (r:Vals vs us)
  (h:∀x dx,H x=none→H dx=none→dx≠x→sp (.ref x::(vs++dvs)) (upd (upd H dx (.own x)) x (.ins C dx [])) (fun v H2=>v=.non∧Q (.ref x) H2) E) :
  wpAny (model X.prog X.w) X.A (call (.ref C) us) (EP X pins σ Q) X.xe s:=by
 have hq:=h (s.heap.objs.size+1) s.heap.objs.size (I.hok.fresh (Nat.le_succ _)) (I.hok.fresh (VaF _)) (Vag (VaP _))
 have I2:=Inv.made (C:=C) I
 have r2:Vals (V.ref (s.heap.objs.size+1)::(vs++dvs)) (Value.ref (s.heap.objs.size+1)::(us++ds)):=.cons rfl (r.append hd)
 have hl:(Value.ref (s.heap.objs.size+1)::us++ds).length=ps.length:=by
  have e:=r2.length
  rw [F.len _ _ _ _ hq] at e
  exact e.symm
 refine wpAny_call (Znk (f:=f) I.kIn M.makes M.init (VaK.mp M.fn) (VaT (F.run _ X.stack _ _ ⟨Value.ref (s.heap.objs.size+1)::us,[]⟩ (Value.ref (s.heap.objs.size+1)::(us++ds)) _ _ E (hr.make C us [])
  (I2.env0.make C us []) (hb _ (Value.ref (s.heap.objs.size+1)::us) I2.kIn hl) r2 hq) fun r s' hq'=>?_))
 cases r with
 | error e=>exact hx pins σ _ _ e s' I2 hq'
 | ok fl =>
  cases fl with
  | ret u =>
   obtain ⟨v,H',I3,rv,ev,q3⟩:=I2.after hq'
   subst ev
   exact ⟨rv,⟨V.ref (s.heap.objs.size+1),H',I3,rfl,q3⟩⟩
  | next=>exact False.elim hq'
  | brk=>exact False.elim hq'
  | cont=>exact False.elim hq'
theorem Zpj(M:Mk X.K C f)(F:FnOk X.prog X.w X.K X.mg X.base CX k f fd ps sp)(hr:Room (k+1) X.A)(hg:Gl X x)(hm:X.mg x=some (.ref C))(hb:Binds X.K fd ps ds)(hd:Vals dvs ds)(hx:Zcl CX X E)
  (ha:PA X (e::es) t) (hdb:(x==("__debug__" : Str))=false:=by decide) (he:starEach (e::es) X.env=(false,eval e X.env)::starEach es X.env:=by rfl) (hpl:(backTo pos (starEach es X.env)).any (·.1)=false:=by rfl) :
  PE X (.Call (.Name x p) (e::es) [] pos) (ZqN C sp dvs E t):=by
 intro pins s σ H Q I h
 refine VaU (ZhA I hg hm ?_ hdb)
 refine W.callWith_K (h₀:=X.base) I.ok.mod.kin M.kp (thn (ha pos pins s σ H _ I h) fun us s1 ⟨vs,H1,I1,r,q⟩=>⟨I1.kIn,?_⟩) he hpl
 exact Znn M F hr hb hd hx I1 r q
end
structure Zad(N P:List Str)(sc:Scope):Prop where
 kind:sc.kind=.function
 co:sc.isCoroutine=false
 gen:sc.isGenerator=false
 nd:N.Nodup
 pre:N.take P.length=P
 par:∀x∈P,sc.names.lookup x=some .local∨sc.names.lookup x=some .cell
 nofree:∀y∈sc.names,y.2≠.free
theorem Zh7{kindOf:Str→Option NameKind}{x:Str}:∀{binds:List (Str×Value)} {m:Str→Option Value},(∀v,(x,v)∉binds)→bindL kindOf binds m x=m x
 | [],_,_=>rfl
 | (n,v)::r,m,h=>by
  unfold bindL
  rw [Zh7 fun w hw=>h w (Vao _ hw)]
  split
  ·have:x≠n:=by rintro rfl;exact h v Van
   simp [this]
  ·rfl
theorem ZhW{kindOf:Str→Option NameKind}{x:Str}:∀{binds:List (Str×Value)} {m:Str→Option Value},(∀v,(x,v)∉binds)→bindC kindOf binds m x=m x
 | [],_,_=>rfl
 | (n,v)::r,m,h=>by
  unfold bindC
  rw [ZhW fun w hw=>h w (Vao _ hw)]
  split
  ·rfl
  ·have:x≠n:=by rintro rfl;exact h v Van
   simp [this]
theorem ZiF{kindOf:Str→Option NameKind}{x:Str}{v:Value}:∀{P:List Str} {vs:List Value} {i:Nat} {m:Str→Option Value},P.Nodup→P[i]?=some x→vs[i]?=some v→kindOf x=some .local →
  bindL kindOf (P.zip vs) m x=some v
 | [],_,_,_,_,h,_,_=>by simp at h
 | _::_,[],_,_,_,_,h,_=>by simp at h
 | p::P,w::vs,0,m,nd,h1,h2,hk=>by
  simp at h1 h2;subst h1;subst h2
  show bindL kindOf ((p,w)::P.zip vs) m p=_
  unfold bindL
  rw [Zh7 fun v hv=>(VaV.mp nd).1 (VaW hv).1,if_pos hk]
  simp
 | p::P,w::vs,i+1,m,nd,h1,h2,hk=>by
  show bindL kindOf ((p,w)::P.zip vs) m x=_
  unfold bindL
  exact ZiF (i:=i) (VaV.mp nd).2 (by simpa using h1) (by simpa using h2) hk
theorem Zie{kindOf:Str→Option NameKind}{x:Str}{v:Value}:∀{P:List Str} {vs:List Value} {i:Nat} {m:Str→Option Value},P.Nodup→P[i]?=some x→vs[i]?=some v→kindOf x≠some .local →
  bindC kindOf (P.zip vs) m x=some v
 | [],_,_,_,_,h,_,_=>by simp at h
 | _::_,[],_,_,_,_,h,_=>by simp at h
 | p::P,w::vs,0,m,nd,h1,h2,hk=>by
  simp at h1 h2;subst h1;subst h2
  show bindC kindOf ((p,w)::P.zip vs) m p=_
  unfold bindC
  rw [ZhW fun v hv=>(VaV.mp nd).1 (VaW hv).1,if_neg hk]
  simp
 | p::P,w::vs,i+1,m,nd,h1,h2,hk=>by
  show bindC kindOf ((p,w)::P.zip vs) m x=_
  unfold bindC
  exact Zie (i:=i) (VaV.mp nd).2 (by simpa using h1) (by simpa using h2) hk
def start(N:List Str)(vs:List V):St:=vs.map some++List.replicate (N.length - vs.length) none
def cxOf(CX:CXT)(P:Program)(w:World)(K:W.Frag)(mg:Str→Option Value)(base:Heap)(N:List Str)(qual:Str)(scope:Scope)(f:Addr)(cd:Value)(A:Around)(outer:List Env)(s:Shared)(H:Hp)(E:XK):Cx where
 prog:=P
 w:=w
 K:=K
 mg:=mg
 base:=base
 A:=A.deeper (envOfC qual scope s.heap.objs.size f cd)
 N:=N
 s₀:=s
 H₀:=H
 env:=envOfC qual scope s.heap.objs.size f cd
 outer:=outer
 stack:=envOfC qual scope s.heap.objs.size f cd::outer
 ex:=[]
 calm:=true
 fn:=fun _=>true
 pn:=[]
 xe:=fun e s'=>wpAny (model P w) (A.deeper (envOfC qual scope s.heap.objs.size f cd)) (leaving (envOfC qual scope s.heap.objs.size f cd) e) (fun _ s''=>CX outer H s E e s'') (fun e' s''=>CX outer H s E e' s'') s'
theorem Zjx{sc:Scope}{n:Nat}{x:Str}(h:sc.names.lookup x=some .cell):∃c,(cellsFrom n sc.names []).lookup x=some c:=by
 have q:=W.cellsFrom_some sc.names n [] (.inl h)
 exact Option.isSome_iff_exists.mp q
theorem Zmo{CX:CXT}{P:Program}{w:World}{K:W.Frag}{mg:Str→Option Value}{base:Heap}{N ps:List Str}{qual:Str}{scope:Scope}{f:Addr}{cd:Value}{A:Around}{outer:List Env}{s s1:Shared}{H:Hp}{E:XK}{us:List Value}{vs:List V}
  (S:Zad N ps scope) (hd:A.handled=none) (e0:Env0 P w K mg base A outer s H) (hl:vs.length=ps.length) (r:Vals vs us)
  (x:InCallC s s.heap.objs.size (bindL (envOfC qual scope s.heap.objs.size f cd).kindOf (ps.zip us) fun _=>none) (cellsFrom (s.heap.objs.size+1) scope.names []) (bindC (envOfC qual scope s.heap.objs.size f cd).kindOf (ps.zip us) fun _=>none) s1) :
  Inv (cxOf CX P w K mg base N qual scope f cd A outer s H E) [] (start N vs) H s1:=by
 have hpl:ps.length≤N.length:=by have:=Vax List.length S.pre;rw [VaX] at this;omega
 obtain ⟨h1,tk,rfl,hk⟩:=x.done
 have noA:∀b:Addr,b∉(cxOf CX P w K mg base N qual scope f cd A outer s H E).ex:=fun b z=>absurd (show b∈([]:List Addr) from z) (by simp)
 refine ⟨⟨e0.mod,S.kind,rfl,rfl,VaF _,fun y z c h1 h2=>?_,fun y hy=>?_,fun y c _ h=>?_,fun _=>hd,Around.frames_deeper e0.frames,.inr ⟨rfl,rfl⟩,fun b z=>absurd z (noA b),e0.bs,e0.bsz,fun b _ _=>noA b,fun b z=>absurd z (noA b),e0.funs,e0.frf⟩,
  rfl,e0.bare,Un.kept hk,⟨_,x.toInCall.ns,fun i y v h1 h2 h3=>?_⟩,fun y c h=>⟨_,x.cell y c h⟩,e0.hok.fresh (VaF _),fun y c h=>?_,fun p hp=>absurd (show p∈([]:List (Addr×Obj)) from hp) (by simp),e0.hok.kept hk,?_⟩
 ·exact name_of_addr x.apart (VaY h1) (VaY h2)
 ·have hy:scope.names.lookup y=some .cell∨scope.names.lookup y=some .free:=hy
  rcases hy with hy | hy
  ·exact Zjx hy
  ·exact absurd rfl (S.nofree _ (VaY hy))
 ·exact Vak (x.above y c (VaY h))
 ·have hi:i<vs.length:=by
   unfold start at h2
   by_cases hi:i<vs.length
   ·exact hi
   ·rw [VaZ (by simpa using hi)] at h2
    rw [Va0] at h2
    split at h2<;>cases h2
  have ha:vs[i]?=some v:=by
   unfold start at h2
   rw [Va1 (by simpa using hi),Va2] at h2
   cases e:vs[i]? with
   | none=>rw [e] at h2;cases h2
   | some a=>rw [e] at h2;cases h2;rfl
  obtain ⟨u,hu,rv⟩:=r.get ha
  have hp:ps[i]?=some y:=by
   rw [←S.pre,List.getElem?_take_of_lt (by omega)];exact h1
  have ndP:ps.Nodup:=by rw [←S.pre];exact S.nd.sublist (List.take_sublist _ _)
  refine ⟨u,rv,?_⟩
  rcases S.par y (Va3 hp) with k | k
  ·exact .inl ⟨k,ZiF ndP hp hu k⟩
  ·obtain ⟨c,e⟩:=Zjx (n:=s.heap.objs.size+1) k
   refine .inr ⟨.inl k,c,e,?_⟩
   have q:=x.cell y c e
   rw [Zie ndP hp hu (by show scope.names.lookup y≠_;rw [k];decide)] at q
   exact q
 ·exact e0.hok.fresh (Vak (x.above y c (VaY h)))
 ·unfold start
  show _=N.length
  rw [Va4,VaN,Va5]
  omega
theorem Znu{CX:CXT}{P:Program}{w:World}{K:W.Frag}{mg:Str→Option Value}{base:Heap}{k:Nat}{f:Addr}{name qual:Str}{params:Arguments}{body:List Stmt}{scope:Scope}{dV kV doc pm cdv ct oc:Value}{an od:Option Addr}
  {osl:Array (Option Value)} {N ps:List Str} {sp:Sp} (lk:K.lookup f=some ⟨oc,od,.func (W.fnOf name qual params body scope dV kV doc pm an cdv ct),osl⟩) (hcd:W.codeIn K cdv qual=true) (S:Zad N ps scope)
  (len:∀vs H Q E,sp vs H Q E→vs.length=ps.length)
  (hbody:∀(A:Around) (outer:List Env) (s:Shared) (H:Hp) (vs:List V) (Q:VK) (E:XK),Room k (A.deeper (envOfC qual scope s.heap.objs.size f cdv))→sp vs H Q E →
   ∃t,PSs (cxOf CX P w K mg base N qual scope f cdv A outer s H E) body t∧t { nx:=fun _ H'=>Q .non H',rt:=Q } (start N vs) H) :
  FnOk P w K mg base CX (k+1) f (W.fnOf name qual params body scope dV kV doc pm an cdv ct) ps sp:=by
 refine ⟨len,fun A outer s H args us vs Q E hr e0 hb r hsp=>?_⟩
 have hl:=len _ _ _ _ hsp
 have KX:K.In s.heap:=e0.mod.kin.keeps fun b o e=>(e0.bs b o e).1
 have lim:s.heap.NoLimit:=e0.mod.nolimit.keeps fun b o e=>(e0.bs b o e).1
 have hkind:∀y∈ps.zip us,scope.names.lookup y.1=some .local∨(scope.names.lookup y.1=some .cell∧((cellsFrom (s.heap.objs.size+1) scope.names []).lookup y.1).isSome=true):=fun ⟨n,v⟩ hy=>by
  rcases S.par n (VaW hy).1 with q | q
  ·exact .inl q
  ·exact .inr ⟨q,W.cellsFrom_some _ _ _ (.inl q)⟩
 refine codeAny_call_function hr.depth (KX _ _ lk) rfl S.co S.gen rfl (W.codeRec_of KX hcd) (hb _ _ _ _ ?_)
 refine wpAny_newFunctionEnv_cells S.kind hkind fun env he s1 x=>?_
 subst he
 refine ⟨lim.keeps x.toInCall.keep,codeAny_func ?_⟩
 obtain ⟨t,ht,hq⟩:=hbody A outer s H vs Q E (hr.deeper _) hsp
 have I:Inv (cxOf CX P w K mg base N qual scope f cdv A outer s H E) [] (start N vs) H s1:=Zmo S hr.hd e0 hl r x
 refine Vav (ht [] s1 (start N vs) H _ I hq) (fun fl s' hs=>?_) fun e s' hs=>hs
 have fin:∀{σ':St} {H':Hp} {v:V} {u:Value},Inv (cxOf CX P w K mg base N qual scope f cdv A outer s H E) [] σ' H' s'→RelV v u→Q v H'→CE outer P w H s Q u s' :=
  fun {σ' H' v u} J rv q=>⟨v,H',J.os,J.bare,J.base,J.hok,rv,q⟩
 cases fl with
 | ret u =>
  obtain ⟨v,σ',H',J,rv,q⟩:=hs
  exact fin J rv q
 | next =>
  obtain ⟨σ',H',J,q⟩:=hs
  exact fin (v:=V.non) (u:=Value.none) J rfl q
 | brk =>
  obtain ⟨_,_,_,q⟩:=hs
  exact False.elim q
 | cont =>
  obtain ⟨_,_,_,q⟩:=hs
  exact False.elim q
section
variable{X:Cx}{x:Str}{p pos:Pos}{e:Expr}{es:List Expr}{t:TA}{id T:String}{r:List V→Hp→VK→Prop}
def tCB(r:List V→Hp→VK→Prop)(t:TA):TE:=fun σ H Q=>t σ H fun vs H1=>r vs H1 Q
theorem Zj2(hc:Zej X (.builtin id) r)(hg:Gl X x)(hm:X.mg x=none)(hv:bootBuiltins x=some (.builtin id))(ha:PA X (e::es) t)(hn:x ≠ "__name__" := by decide)(hdb:(x==("__debug__" : Str))=false:=by decide)
  (he:starEach (e::es) X.env=(false,eval e X.env)::starEach es X.env:=by rfl) (hpl:(backTo pos (starEach es X.env)).any (·.1)=false:=by rfl):PE X (.Call (.Name x p) (e::es) [] pos) (tCB r t):=by
 intro pins s σ H Q I h
 refine VaU (Zgh I hg hm hv ?_ hn hdb)
 exact PyProof.Rows.callWith_builtin1 (thn (ha pos pins s σ H _ I h) fun us s1 ⟨vs,H1,I1,r1,q1⟩=>hc pins s1 σ H1 vs us Q I1 r1 q1) he hpl
theorem ZhS(hc:Zej X (.type T) r)(hg:Gl X x)(hm:X.mg x=none)(hv:bootBuiltins x=some (.type T))(ha:PA X (e::es) t)(hn:x ≠ "__name__" := by decide)(hdb:(x==("__debug__" : Str))=false:=by decide)
  (he:starEach (e::es) X.env=(false,eval e X.env)::starEach es X.env:=by rfl) (hpl:(backTo pos (starEach es X.env)).any (·.1)=false:=by rfl):PE X (.Call (.Name x p) (e::es) [] pos) (tCB r t):=by
 intro pins s σ H Q I h
 refine VaU (Zgh I hg hm hv ?_ hn hdb)
 exact VaG (thn (ha pos pins s σ H _ I h) fun us s1 ⟨vs,H1,I1,r1,q1⟩=>hc pins s1 σ H1 vs us Q I1 r1 q1) he hpl
end
end L2
namespace HT
open PySem PyProof.Rows
section
open PySem.SeqAt
open PySem.AutoSeq1 (wpAny_loadPart')
open PySem.MeetsSeq PySem.MeetsSeq2 PySem.MeetsSeq3
end
section
variable{prog:Program}{w:World}{A:Around}{E:Value→Shared→Prop}{s:Shared}
theorem Zq8{t b:Addr}{vs ws:List Value}{Q:Value→Shared→Prop}(ht:IsTup s.heap t vs.toArray)(hb:IsTup s.heap b ws.toArray)(hv:vs≠[])
  (h1:ws=[]→Q (.ref t) s) (h2:ws≠[]→Q (.ref s.heap.objs.size) { s with heap:=s.heap.push { cls:=.type "tuple", data:=.seq (vs++ws).toArray } })
  (hsz:vs.length+ws.length≤sizeLine):wpAny (model prog w) A (binaryOp .Add (.ref t) (.ref b)) Q E s:=by
 obtain ⟨⟨cls,dd,data,sl⟩,ho,hc,n,hd⟩:=id ht
 obtain ⟨⟨cls2,dd2,data2,sl2⟩,ho2,hc2,n2,hd2⟩:=id hb
 simp only at hc hd hc2 hd2
 subst hc hd hc2 hd2
 have e:vs.toArray++ws.toArray=(vs++ws).toArray:=by simp
 by_cases hw:ws=[]
 ·exact concat_meets ⟨_,ho,rfl⟩ ⟨_,ho2,rfl⟩ noFill_tuple_add seq_tuple_add PySem.F.slot_tuple_add PySem.F.entry_tuple_add (PySem.F.args_tuple_add_2 _ _)
   (tuple_addW1 t b vs.toArray ws.toArray n n2 dd dd2 sl sl2 (by simpa using hv) (by simp [hw])) ⟨ho,ho2,h1 hw⟩
 ·refine concat_meets ⟨_,ho,rfl⟩ ⟨_,ho2,rfl⟩ noFill_tuple_add seq_tuple_add PySem.F.slot_tuple_add PySem.F.entry_tuple_add (PySem.F.args_tuple_add_2 _ _)
   (tuple_addW2 t b vs.toArray ws.toArray n n2 dd dd2 sl sl2 (by simpa using hv) (by simpa using hw) (by rw [Va6,Va6];exact hsz)) ⟨ho,ho2,?_⟩
  rw [e]
  exact h2 hw
def sIx(n d:Nat):Option Int→Nat
 | none=>d
 | some v=>if v<0 then (v+(n:Int)).toNat else min v.toNat n
theorem ZrM(n d:Nat)(hd:d≤n)(o:Option Int):sIx n d o≤n:=by
 cases o with
 | none=>exact hd
 | some v =>
  show (if v<0 then (v+(n:Int)).toNat else min v.toNat n)≤n
  by_cases hv:v<0
  ·rw [if_pos hv];omega
  ·rw [if_neg hv];exact Nat.min_le_right _ _
theorem Zlo(v:Int)(n d:Nat):(if v<0 then max (v+(n:Int)) 0 else min v (n:Int))=((sIx n d (some v):Nat):Int):=by
 show (if v<0 then max (v+(n:Int)) 0 else min v (n:Int))=(((if v<0 then (v+(n:Int)).toNat else min v.toNat n):Nat):Int)
 by_cases hv:v<0
 ·simp only [if_pos hv];omega
 ·simp only [if_neg hv];omega
theorem ZkC(lo hi:Option Int)(n:Nat):Builtin.Slice.sliceAdjust lo hi 1 (n:Int)=(((sIx n 0 lo:Nat):Int),((sIx n n hi:Nat):Int)):=by
 have h1:¬((1:Int)<0):=by omega
 unfold Builtin.Slice.sliceAdjust
 simp only [h1,Va7]
 refine Prod.ext ?_ ?_
 ·cases lo with
  | none=>rfl
  | some v=>exact Zlo v n 0
 ·cases hi with
  | none=>rfl
  | some v=>exact Zlo v n n
theorem ZkP(i j:Nat):Builtin.Slice.slicePlaces (i:Int) (j:Int) 1=j - i:=by
 unfold Builtin.Slice.slicePlaces
 have h1:(1:Int)>0:=by omega
 simp only [h1,Va8,Int.ediv_one]
 split<;>omega
theorem Zhd{v:Value}{o:Option Int}{Q:Option Int→Shared→Prop}(p:IsPart v o)(h:Q o s):wpAny (model prog w) A (Builtin.Slice.slicePartIndex v) Q E s:=by
 cases p with
 | none=>exact slicePart_none h
 | int i t=>exact slicePart_int h
theorem Zdj{sl:Addr}{vl vu:Value}{lo hi:Option Int}{n:Nat}{Q:Int×Int×Nat→Shared→Prop}(hs:s.heap.IsSliceOf sl vl vu .none)(pl:IsPart vl lo)(pu:IsPart vu hi)
  (h:Q (((sIx n 0 lo:Nat):Int),1,sIx n n hi - sIx n 0 lo) s):wpAny (model prog w) A (Builtin.Slice.sliceApplied (.ref sl) (pure (n:Int))) Q E s:=by
 obtain ⟨os,hos,hcs,hds⟩:=id hs
 unfold Builtin.Slice.sliceApplied Builtin.Slice.sliceFields
 refine VaC (VaC (Va9 hos hds (x:=vl) rfl (VaC (Va9 hos hds (x:=vu) rfl (VaC (Va9 hos hds (x:=.none) rfl (VaB ?_)))))))
 refine VaC (slicePart_none ?_)
 show wpAny _ _ (if ((1:Int)==0)=true then _ else _) _ _ s
 rw [if_neg (by decide)]
 refine VaC (Zhd pl (VaC (Zhd pu (VaC (VaB ?_)))))
 show wpAny _ _ (match Builtin.Slice.sliceAdjust lo hi 1 (n:Int) with | (lo,hi)=>pure (lo,(1:Int),Builtin.Slice.slicePlaces lo hi 1)) _ _ s
 rw [ZkC lo hi n]
 show wpAny _ _ (pure (((sIx n 0 lo:Nat):Int),(1:Int),Builtin.Slice.slicePlaces ((sIx n 0 lo:Nat):Int) ((sIx n n hi:Nat):Int) 1)) _ _ s
 rw [ZkP]
 exact VaB h
theorem Zng(xs:Array Value)(i k:Nat):((List.range k).filterMap fun (m:Nat)=>xs[((i:Int)+(m:Int)*1).toNat]?).toArray=((xs.toList.drop i).take k).toArray:=by
 have e:(fun (m:Nat)=>xs[((i:Int)+(m:Int)*1).toNat]?)=fun m=>xs[i+m]?:=by
  funext m
  have:((i:Int)+(m:Int)*1).toNat=i+m:=by omega
  rw [this]
 rw [e]
 have:=pick_run xs i k
 rw [Vba] at this
 have e2:((fun x=>xs[x]?) ∘ fun x=>i+x)=fun m=>xs[i+m]?:=rfl
 rw [e2] at this
 rw [this]
theorem Zff{t sl:Addr}{items:Array Value}{vl vu:Value}{lo hi:Option Int}{Q:Value→Shared→Prop}(ht:IsTup s.heap t items)(hs:s.heap.IsSliceOf sl vl vu .none)(pl:IsPart vl lo)(pu:IsPart vu hi)
  (hw:¬(sIx items.size 0 lo=0∧sIx items.size items.size hi=items.size))
  (h:Q (.ref s.heap.objs.size) { s with heap:=s.heap.push { cls:=.type "tuple", data:=.seq ((items.toList.drop (sIx items.size 0 lo)).take (sIx items.size items.size hi - sIx items.size 0 lo)).toArray } })
  (hsz:items.size≤sizeLine):wpAny (model prog w) A (getItem (.ref t) (.ref sl)) Q E s:=by
 have htake:sizeOk (.seq ((items.toList.drop (sIx items.size 0 lo)).take (sIx items.size items.size hi - sIx items.size 0 lo)).toArray):=by
  show ((items.toList.drop (sIx items.size 0 lo)).take (sIx items.size items.size hi - sIx items.size 0 lo)).toArray.size≤sizeLine
  rw [Va6,VaX,Vbb,Vaw]
  omega
 have hj:sIx items.size items.size hi≤items.size:=ZrM _ _ (VaF _) hi
 obtain ⟨os,hos,hcs,hds⟩:=id hs
 have hTs:s.TypeIs (.ref sl) "slice" := ⟨os,hos,hcs⟩
 unfold getItem
 try with_reducible refine Vbc ?_
 first | refine VaC (VaB ?_) | skip
 refine VaC (wpAny_sequenceKey ht.typeIs (by decide) ?_)
 refine VaC (Vbd (name:=Str.ofString "__getitem__") ht.typeIs Vbe
  (Vbf Vbe ht.typeIs entry_tuple_getitem ?_ (args_tuple_getitem _ _)))
 show wpAny _ _ (Builtin.Tuple.tupleItemsOf (.ref t) >>= _) _ _ s
 refine VaC (tupleItemsOf_ ht ?_)
 refine VaC (Vbg hTs ?_)
 rw [if_pos (by decide)]
 refine VaC (Zdj hs pl pu ?_)
 have hno:¬((((sIx items.size 0 lo:Nat):Int)==0&&(1:Int)==1&&(sIx items.size items.size hi - sIx items.size 0 lo)==items.size)=true):=by
  intro q
  rw [Vbh,Vbh] at q
  have q1:((sIx items.size 0 lo:Nat):Int)=0:=eq_of_beq q.1.1
  have q2:sIx items.size items.size hi - sIx items.size 0 lo=items.size:=eq_of_beq q.2
  exact hw ⟨by omega,by omega⟩
 show wpAny _ _ (if (((sIx items.size 0 lo:Nat):Int)==0&&(1:Int)==1&&(sIx items.size items.size hi - sIx items.size 0 lo)==items.size)=true then _ else _) _ _ s
 rw [if_neg hno,Zng]
 first
  | exact VaC (m:=Builtin.Tuple.tupleExact _) (Vbi (VaB ⟨_,rfl,VaB h⟩) htake)
  | exact VaC (m:=Builtin.Tuple.tupleExact _) (Vbi (VaC (VaB (VaB ⟨_,rfl,VaB h⟩))) htake)
  | exact VaC (VaC (m:=Builtin.Tuple.tupleExact _) (Vbi (VaB (VaB ⟨_,rfl,VaB h⟩)) htake))
  | exact VaC (VaC (m:=Builtin.Tuple.tupleExact _) (Vbi (VaB ⟨_,rfl,VaB h⟩) htake))
end
end HT
namespace L2
open PySem PySem.Spec PyProof.Rows
abbrev TO:=St→Hp→(Option Int→Hp→Prop)→Prop
def PO(X:Cx)(e:Option Expr)(t:TO):Prop :=
 ∀(pins:List (Addr×Obj)) (s:Shared) (σ:St) (H:Hp) (Q:Option Int→Hp→Prop),Inv X pins σ H s→t σ H Q →
  wpAny (model X.prog X.w) X.A (evalPart e X.env) (fun u s'=>∃o H',Inv X pins σ H' s'∧IsPart u o∧Q o H') X.xe s
def ZiR:TO:=fun _ H Q=>Q none H
def Zpr(t:TE):TO:=fun σ H Q=>t σ H fun x H1=>∃i,x=.int i∧Q (some i) H1
section
variable{X:Cx}{e:Expr}{te:TE}{lo hi:Option Expr}{tl th:TO}{pos p2:Pos}
theorem Zrb:PO X none ZiR:=by
 intro pins s σ H Q I h
 rw [evalPart_none]
 exact VaB ⟨none,H,I,.none,h⟩
theorem Zps(h:PE X e te):PO X (some e) (Zpr te):=by
 intro pins s σ H Q I hw
 rw [evalPart_some]
 refine thn (h pins s σ H _ I hw) fun u s1 ⟨x,H1,I1,r1,q1⟩=>?_
 obtain ⟨i,rfl,q⟩:=q1
 obtain ⟨t,rfl⟩:=r1
 exact ⟨some i,H1,I1,.int i t,q⟩
def SlR(X:Cx)(r:V→Option Int→Option Int→Hp→VK→Prop):Prop :=
 ∀(pins:List (Addr×Obj)) (s:Shared) (σ:St) (H:Hp) (x:V) (v vl vu:Value) (lo hi:Option Int) (sl:Addr) (Q:VK),Inv X pins σ H s→RelV x v→s.heap.IsSliceOf sl vl vu .none→IsPart vl lo→IsPart vu hi→r x lo hi H Q →
  ∃T id,typeLookup (.type T) "__getitem__"=pure (some (.builtin id))∧s.TypeIs v T∧wpAny (model X.prog X.w) X.A (getItem v (.ref sl)) (EP X pins σ Q) X.xe s
theorem SlR.or{r r':V→Option Int→Option Int→Hp→VK→Prop}(h:SlR X r)(h':SlR X r'):SlR X (fun x lo hi H Q=>r x lo hi H Q∨r' x lo hi H Q):=by
 intro pins s σ H x v vl vu lo hi sl Q I rx hs pl pu q
 rcases q with q | q
 ·exact h pins s σ H x v vl vu lo hi sl Q I rx hs pl pu q
 ·exact h' pins s σ H x v vl vu lo hi sl Q I rx hs pl pu q
def tSl(r:V→Option Int→Option Int→Hp→VK→Prop)(te:TE)(tl th:TO):TE:=fun σ H Q=>te σ H fun x H1=>tl σ H1 fun l H2=>th σ H2 fun u H3=>r x l u H3 Q
theorem ZnM{r:V→Option Int→Option Int→Hp→VK→Prop}(hr:SlR X r)(he:PE X e te)(hl:PO X lo tl)(hu:PO X hi th):PE X (.Subscript e (.Slice lo hi none p2) pos) (tSl r te tl th):=by
 intro pins s σ H Q I h
 refine Subscript_ (thn (he pins s σ H _ I h) fun v s1 ⟨x,H1,I1,r1,q1⟩=>?_)
 refine wpAny_Slice (thn (hl pins s1 σ H1 _ I1 q1) fun vl s2 ⟨l,H2,I2,pl,q2⟩=>thn (hu pins s2 σ H2 _ I2 q2) fun vu s3 ⟨u,H3,I3,pu,q3⟩=>?_)
 rw [evalPart_none]
 refine VaB ?_
 have I4:Inv X pins σ H3 { s3 with heap:=s3.heap.push { cls:=.type "slice", data:=.fields #[vl,vu,.none] } }:=I3.kept (t':=s3.toks) fun b ob q=>VaD _ q
 obtain ⟨T,id,hT,ht,hg⟩:=hr pins { s3 with heap:=s3.heap.push { cls:=.type "slice", data:=.fields #[vl,vu,.none] } } σ H3 x v vl vu l u s3.heap.objs.size Q I4 r1 (Heap.IsSliceOf.new ..) pl pu q3
 show wpAny (model X.prog X.w) X.A (subscriptTail e (.Slice lo hi none p2) v (.ref s3.heap.objs.size)) (EP X pins σ Q) X.xe { s3 with heap:=s3.heap.push { cls:=.type "slice", data:=.fields #[vl,vu,.none] } }
 exact tail_any (ops:=[.ref s3.heap.objs.size,v]) ht hT hg (by with_unfolding_all rfl)
def cutV(xs:List V)(lo hi:Option Int):List V:=(xs.drop (HT.sIx xs.length 0 lo)).take (HT.sIx xs.length xs.length hi - HT.sIx xs.length 0 lo)
theorem ZgA(xs:List V)(lo hi:Option Int):(cutV xs lo hi).length≤xs.length:=by
 unfold cutV
 rw [VaX,Vbb]
 omega
def rSlT(K:W.Frag):V→Option Int→Option Int→Hp→VK→Prop:=fun x lo hi H Q=>∃a xs,x=.ref a∧SqT K H a xs ∧
 ¬(HT.sIx xs.length 0 lo=0∧HT.sIx xs.length xs.length hi=xs.length)∧∀p,H p=none→Q (.ref p) (upd H p (.tup (cutV xs lo hi)))
theorem ZrP:SlR X (rSlT X.K):=by
 intro pins s σ H x v vl vu lo hi sl Q I rx hs pl pu h
 obtain ⟨a,xs,rfl,hx,hw,q⟩:=h
 cases rx
 obtain ⟨its,r,ht,hz⟩:=I.tuple hx
 have hlen:its.toArray.size=xs.length:=by rw [Va6];exact r.length.symm
 refine ⟨"tuple", _,PyProof.Rows.slot_tuple_getitem.lookup,ht.typeIs,?_⟩
 refine HT.Zff ht hs pl pu (by rw [hlen];exact hw) ?_ (by rw [hlen];exact hz)
 rw [hlen]
 refine ⟨.ref s.heap.objs.size,_,I.laid (t':=s.toks) (o:=.tup (cutV xs lo hi)) (fun b ob q=>VaD _ q) (VaF _) ?_,rfl,q _ (I.hok.fresh (VaF _))⟩
 exact ⟨Vaj (ZgA xs lo hi) hz,_,(r.drop (HT.sIx xs.length 0 lo)).take (HT.sIx xs.length xs.length hi - HT.sIx xs.length 0 lo),IsTup.new _ _⟩
def ZuE(K:W.Frag):R2:=fun x y H Q=>∃a b xs ys,x=.ref a∧y=.ref b∧SqT K H a xs∧SqT K H b ys∧xs≠[]∧xs.length+ys.length≤sizeLine ∧
 (ys=[]→Q (.ref a) H)∧(ys≠[]→∀p,H p=none→Q (.ref p) (upd H p (.tup (xs++ys))))
theorem Vals.nil_iff{xs:List V}{us:List Value}(r:Vals xs us):us=[]↔xs=[]:=by
 cases r with
 | nil=>simp
 | cons _ _=>simp
theorem Zrk:OpR X (binaryOp .Add) (ZuE X.K):=by
 intro pins s σ H x y v u Q I rx ry h
 obtain ⟨a,b,xs,ys,rfl,rfl,ha,hb,hx,hz,q1,q2⟩:=h
 cases rx
 cases ry
 obtain ⟨its,r1,p1,_⟩:=I.tuple ha
 obtain ⟨its2,r2,p2,_⟩:=I.tuple hb
 refine HT.Zq8 p1 p2 (fun z=>hx (r1.nil_iff.mp z)) (fun z=>⟨.ref a,H,I,rfl,q1 (r2.nil_iff.mp z)⟩) (fun z=>?_) (by rw [←r1.length,←r2.length];exact hz)
 refine ⟨.ref s.heap.objs.size,_,I.laid (t':=s.toks) (o:=.tup (xs++ys)) (fun b ob q=>VaD _ q) (VaF _) ?_,rfl,q2 (fun w=>z (r2.nil_iff.mpr w)) _ (I.hok.fresh (VaF _))⟩
 exact ⟨by rw [Va4];exact hz,_,r1.append r2,IsTup.new _ _⟩
end
def ixN(n:Nat)(i:Int):Option Nat:=if 0≤i then (if i<n then some i.toNat else none) else if -(n:Int)≤i then some (i+n).toNat else none
def atI{α:Type}(xs:List α)(i:Int):Option α:=(ixN xs.length i).bind fun j=>xs[j]?
theorem Zo9{n:Nat}{i:Int}{j:Nat}(h:ixN n i=some j):seqIndex? i n=some j∧j<n∧-(n:Int)≤i∧i<n:=by
 unfold ixN at h
 by_cases h0:0≤i
 ·rw [if_pos h0] at h
  by_cases h1:i<n
  ·rw [if_pos h1] at h
   have e:i.toNat=j:=Vau h
   exact ⟨by rw [seqIndex_of h0 h1,e],by omega,by omega,h1⟩
  ·rw [if_neg h1] at h;cases h
 ·rw [if_neg h0] at h
  by_cases h1:-(n:Int)≤i
  ·rw [if_pos h1] at h
   have e:(i+n).toNat=j:=Vau h
   exact ⟨by rw [seqIndex_neg (by omega) h1,e],by omega,h1,by omega⟩
  ·rw [if_neg h1] at h;cases h
theorem Zl2{α:Type}{xs:List α}{i:Int}{v:α}(h:atI xs i=some v):∃j,seqIndex? i xs.length=some j∧xs[j]?=some v∧j<xs.length∧-(xs.length:Int)≤i∧i<xs.length:=by
 unfold atI at h
 cases e:ixN xs.length i with
 | none=>rw [e] at h;cases h
 | some j =>
  rw [e] at h
  obtain ⟨h1,h2,h3,h4⟩:=Zo9 e
  exact ⟨j,h1,h,h2,h3,h4⟩
def ZlP(b:Expr):Prop:=∀o i,subscripted b false o i=operate [o,i] (getItem o i)
def IxR(X:Cx)(r:R2):Prop :=
 ∀(value slice:Expr) (pins:List (Addr×Obj)) (s:Shared) (σ:St) (H:Hp) (x y:V) (v u:Value) (Q:VK),Inv X pins σ H s→RelV x v→RelV y u→r x y H Q →
  subscripted slice false v u=operate [v,u] (getItem v u)→wpAny (model X.prog X.w) X.A (subscriptTail value slice v u) (EP X pins σ Q) X.xe s
def MtR(X:Cx)(id:String)(r:V→List V→Hp→VK→Prop):Prop :=
 ∀(pins:List (Addr×Obj)) (s:Shared) (σ:St) (H:Hp) (x:V) (xs:List V) (v:Value) (us:List Value) (Q:VK),Inv X pins σ H s→RelV x v→Vals xs us→r x xs H Q →
  wpAny (model X.prog X.w) X.A (call (.builtin id) (v::us)) (EP X pins σ Q) X.xe s
section
variable{X:Cx}{a b:Expr}{ta tb:TE}{pos:Pos}
theorem IxR.or{r r':R2}(h:IxR X r)(h':IxR X r'):IxR X (fun x y H Q=>r x y H Q∨r' x y H Q):=by
 intro value slice pins s σ H x y v u Q I rx ry q hs
 rcases q with q | q
 ·exact h value slice pins s σ H x y v u Q I rx ry q hs
 ·exact h' value slice pins s σ H x y v u Q I rx ry q hs
theorem ZtV{r:R2}(hr:IxR X r)(ha:PE X a ta)(hb:PE X b tb)(hs:ZlP b):PE X (.Subscript a b pos) (tOp r ta tb):=by
 intro pins s σ H Q I h
 exact Subscript_ (binT ha hb I h fun v u s2 x y H2 I2 rx ry q=>hr a b pins s2 σ H2 x y v u Q I2 rx ry q (hs _ _))
def rIxL(K:W.Frag):R2:=fun x y H Q=>∃p xs i v,x=.ref p∧y=.int i∧SqL K H p xs∧atI xs i=some v∧Q v H
def rIxT(K:W.Frag):R2:=fun x y H Q=>∃p xs i v,x=.ref p∧y=.int i∧SqT K H p xs∧atI xs i=some v∧Q v H
theorem Zp5:IxR X (rIxL X.K):=by
 intro value slice pins s σ H x y v u Q I rx ry h hs
 obtain ⟨p,xs,i,z,rfl,rfl,hq,he,q⟩:=h
 cases rx
 obtain ⟨t,rfl⟩:=ry
 obtain ⟨its,r,pl,hz⟩:=I.list hq
 obtain ⟨j,h1,h2,h3,h4,h5⟩:=Zl2 he
 obtain ⟨w,ew,rw'⟩:=r.get h2
 have hl:=r.length
 have hn:=Zla
 have fin:EP X pins σ Q w s:=⟨z,H,I,rw',q⟩
 by_cases h0:0≤i
 ·have hj:i.toNat=j:=by
   rw [seqIndex_of h0 h5] at h1
   exact Vau h1
  exact item_listR pl.isList h0 (by omega) (by rw [hj];simpa using ew) fin hs
 ·have hj:(i+(its.toArray.size:Int)).toNat=j:=by
   rw [seqIndex_neg (by omega) h4] at h1
   rw [Va6,←hl]
   exact Vau h1
  exact subscriptTail_builtinR (x:=w) pl.isList.typeIs slot_list_getitem.lookup
   (wpAny_getItem_list_neg (Q:=fun r s'=>r=w∧EP X pins σ Q r s') pl.isList (by omega) (by rw [Va6]<;>omega) (by omega) (by rw [hj];simpa using ew) ⟨rfl,fin⟩) hs
theorem Zr7:IxR X (rIxT X.K):=by
 intro value slice pins s σ H x y v u Q I rx ry h hs
 obtain ⟨p,xs,i,z,rfl,rfl,hq,he,q⟩:=h
 cases rx
 obtain ⟨t,rfl⟩:=ry
 obtain ⟨its,r,pl,hz⟩:=I.tuple hq
 obtain ⟨j,h1,h2,h3,h4,h5⟩:=Zl2 he
 obtain ⟨w,ew,rw'⟩:=r.get h2
 have hl:=r.length
 have hn:=Zla
 have fin:EP X pins σ Q w s:=⟨z,H,I,rw',q⟩
 exact subscriptTail_builtinR (x:=w) pl.typeIs slot_tuple_getitem.lookup
  (getItem_tuple (j:=j) (Q:=fun r s'=>r=w∧EP X pins σ Q r s') pl (by omega) (by omega) (by rw [Va6,←hl];exact h1) (by simpa using ew) ⟨rfl,fin⟩) hs
theorem ZiC(lo hi:Option Int)(n:Nat):(sliceBounds lo hi none n).1=((HT.sIx n 0 lo:Nat):Int)∧(sliceBounds lo hi none n).2.1=((HT.sIx n n hi:Nat):Int)∧(sliceBounds lo hi none n).2.2=1:=by
 refine ⟨?_,?_,rfl⟩
 ·cases lo with
  | none=>simp [sliceBounds,HT.sIx]
  | some i =>
   simp only [sliceBounds,HT.sIx,Option.getD_none,show (1:Int)>0 by decide,Va8]
   by_cases h:i<0
   ·simp only [h,Va8]<;>omega
   ·simp only [h,Va7]<;>omega
 ·cases hi with
  | none=>simp [sliceBounds,HT.sIx]
  | some i =>
   simp only [sliceBounds,HT.sIx,Option.getD_none,show (1:Int)>0 by decide,Va8]
   by_cases h:i<0
   ·simp only [h,Va8]<;>omega
   ·simp only [h,Va7]<;>omega
theorem ZhN(its:List Value)(lo hi:Option Int):slicePick its.toArray lo hi none=((its.drop (HT.sIx its.length 0 lo)).take (HT.sIx its.length its.length hi - HT.sIx its.length 0 lo)).toArray:=by
 obtain ⟨h1,h2,h3⟩:=ZiC lo hi its.toArray.size
 unfold slicePick
 rw [h1,h2,h3]
 simp only [sliceRange_one,pick_run,Va6]<;>rfl
def rSlL(K:W.Frag):V→Option Int→Option Int→Hp→VK→Prop:=fun x lo hi H Q=>∃a xs,x=.ref a∧SqL K H a xs∧∀p,H p=none→Q (.ref p) (upd H p (.lst (cutV xs lo hi)))
theorem Zp4:SlR X (rSlL X.K):=by
 intro pins s σ H x v vl vu lo hi sl Q I rx hs pl pu h
 obtain ⟨a,xs,rfl,hx,q⟩:=h
 cases rx
 obtain ⟨its,r,ht,hz⟩:=I.list hx
 have hlen:=r.length
 refine ⟨"list", _,slot_list_getitem.lookup,ht.isList.typeIs,?_⟩
 refine wpAny_getItem_list_slice ht.isList hs pl pu .none (by simp) ?_ (by rw [Va6]<;>omega)
 rw [ZhN,←hlen]
 refine ⟨.ref s.heap.objs.size,_,I.laid (t':=s.toks) (o:=.lst (cutV xs lo hi)) (fun b ob q=>VaD _ q) (VaF _) ?_,rfl,q _ (I.hok.fresh (VaF _))⟩
 exact ⟨Vaj (ZgA xs lo hi) hz,_,0,(r.drop (HT.sIx xs.length 0 lo)).take (HT.sIx xs.length xs.length hi - HT.sIx xs.length 0 lo),VaE _ rfl⟩
theorem Zfk:Zej X (.builtin "len") (fun xs H Q=>∃p ys,xs=[.ref p]∧(SqL X.K H p ys∨SqT X.K H p ys)∧Q (.int ys.length) H):=by
 intro pins s σ H xs us Q I r h
 obtain ⟨p,ys,rfl,hq,q⟩:=h
 obtain ⟨u,rfl,rx⟩:=vals1 r
 cases rx
 have hn:=Zla
 rcases hq with hq | hq
 ·obtain ⟨its,r',pl,hz⟩:=I.list hq
  have hlen:=r'.length
  exact Calls.call_len_list pl.isList (by simp only [Va6]<;>omega) ⟨.int ys.length,H,I.tok _,⟨s.toks+1,by rw [Va6,hlen]⟩,q⟩
 ·obtain ⟨its,r',pl,hz⟩:=I.tuple hq
  have hlen:=r'.length
  exact len_tuple pl (by simp only [Va6]<;>omega) ⟨.int ys.length,H,I.tok _,⟨s.toks+1,by rw [Va6,hlen]⟩,q⟩
theorem Ziy:Zej X (.type "list") (fun xs H Q=>∃p ys,xs=[.ref p]∧(SqL X.K H p ys∨SqT X.K H p ys)∧∀l,H l=none→Q (.ref l) (upd H l (.lst ys))):=by
 intro pins s σ H xs us Q I r h
 obtain ⟨p,ys,rfl,hq,q⟩:=h
 obtain ⟨u,rfl,rx⟩:=vals1 r
 cases rx
 have fin:∀(its:List Value),Vals ys its→ys.length≤sizeLine→∀(h':Heap) (c':Nat),(∀b o',s.heap.get? b=some o'→h'.get? b=some o') →
   h'.get? s.heap.objs.size=some { cls:=.type "list", dict:=none,data:=.seq its.toArray c',slots:=#[] }→EP X pins σ Q (.ref s.heap.objs.size) { s with heap:=h' }:=fun its r' hz h' c' kp e =>
  ⟨.ref s.heap.objs.size,_,I.laid (t':=s.toks) kp (VaF _) (show Zca X.prog X.w _ h' _ (.lst ys) from ⟨hz,its,c',r',e⟩),rfl,q _ (I.hok.fresh (VaF _))⟩
 rcases hq with hq | hq
 ·obtain ⟨its,r',pl,hz⟩:=I.list hq
  have hlen:=r'.length
  obtain ⟨o,ho,hc,n,hd⟩:=pl.isList
  exact call_list_seq p (.inl rfl) ho hc hd (fun h' c' kp e=>fin its r' hz h' c' kp e) (by simp only [Va6]<;>omega)
 ·obtain ⟨its,r',pl,hz⟩:=I.tuple hq
  have hlen:=r'.length
  obtain ⟨o,ho,hc,n,hd⟩:=pl
  exact call_list_seq p (.inr rfl) ho hc hd (fun h' c' kp e=>fin its r' hz h' c' kp e) (by simp only [Va6]<;>omega)
theorem Zcb:Zej X (.type "tuple") (fun xs H Q=>∃p ys,xs=[.ref p]∧((SqL X.K H p ys∧∀l,H l=none→Q (.ref l) (upd H l (.tup ys)))∨(SqT X.K H p ys∧Q (.ref p) H))):=by
 intro pins s σ H xs us Q I r h
 obtain ⟨p,ys,rfl,h⟩:=h
 obtain ⟨u,rfl,rx⟩:=vals1 r
 cases rx
 rcases h with ⟨hq,q⟩ | ⟨hq,q⟩
 ·obtain ⟨its,r',pl,hz⟩:=I.list hq
  have hlen:=r'.length
  refine call_tuple_list pl.isList (fun h' kp=>?_) (by simp only [Va6]<;>omega)
  have I1:Inv X pins σ H { s with heap:=h' }:=I.kept (t':=s.toks) kp
  have I2:Inv X pins σ (upd H h'.objs.size (.tup ys)) { s with heap:=h'.push { cls:=.type "tuple", data:=.seq its.toArray } } :=
   I1.laid (t':=s.toks) (fun b o e=>VaD _ e) (VaF _) (show Zca X.prog X.w _ _ _ (.tup ys) from ⟨hz,its,r',IsTup.new _ _⟩)
  exact ⟨.ref h'.objs.size,_,I2,rfl,q _ (I1.hok.fresh (VaF _))⟩
 ·obtain ⟨its,r',pl,hz⟩:=I.tuple hq
  exact call_tuple_same pl ⟨.ref p,H,I,rfl,q⟩
def tyV(K:W.Frag)(T:String)(x:V)(H:Hp):Prop:=match x with
 | .str _=>T = "str"
 | .int _=>T = "int"
 | .ref p=>(T = "list"∧∃xs,SqL K H p xs)∨(T = "tuple"∧∃o,K.lookup p=some o∧o.cls=.type "tuple"∧o.dict=none) ∨
   (T = "dict"∧((∃kvs,H p=some (.dK kvs))∨∃kvs,H p=some (.dT kvs)))∨(T = "set"∧∃S n,H p=some (.set S n))
 | _=>False
theorem ZtJ{pins:List (Addr×Obj)}{σ:St}{H:Hp}{s:Shared}{T:String}{x:V}{v:Value}(I:Inv X pins σ H s)(r:RelV x v)(ty:tyV X.K T x H) :
  s.TypeIs v T∧∀a,v=.ref a→∃ob,s.heap.get? a=some ob∧ob.dict=none:=by
 cases x with
 | str z =>
  obtain ⟨t,rfl⟩:=r
  cases (show T = "str" from ty)
  exact ⟨typeIs_str s z t,fun _ e=>nomatch e⟩
 | int i =>
  obtain ⟨t,rfl⟩:=r
  cases (show T = "int" from ty)
  exact ⟨typeIs_int s i t,fun _ e=>nomatch e⟩
 | ref p =>
  cases r
  rcases ty with ⟨rfl,xs,hq⟩ | ⟨rfl,o,hk,hc,hd⟩ | ⟨rfl,hk⟩ | ⟨rfl,S,n,hk⟩
  ·obtain ⟨its,_,pl,_⟩:=I.list hq
   refine ⟨pl.isList.typeIs,fun a e=>?_⟩
   cases e
   obtain ⟨o,n,e,c,hd,_⟩:=pl
   exact ⟨o,e,hd⟩
  ·refine ⟨⟨o,I.kIn p o hk,hc⟩,fun a e=>?_⟩
   cases e
   exact ⟨o,I.kIn _ o hk,hd⟩
  ·have z:∃o,s.heap.get? p=some o∧o.ExactDict:=by
    rcases hk with ⟨kvs,hk⟩ | ⟨kvs,hk⟩
    ·obtain ⟨_,_,_,_,o,_,_,e,ex,_⟩:=I.hok p _ hk
     exact ⟨o,e,ex⟩
    ·obtain ⟨_,_,_,_,o,_,_,e,ex,_⟩:=I.hok p _ hk
     exact ⟨o,e,ex⟩
   obtain ⟨o,e,ex⟩:=z
   refine ⟨⟨o,e,ex.1⟩,fun a e2=>?_⟩
   cases e2
   exact ⟨o,e,ex.2.1⟩
  ·obtain ⟨o,_,_,_,e,ex,_⟩:=I.hok p _ hk
   refine ⟨⟨o,e,ex.1⟩,fun a e2=>?_⟩
   cases e2
   exact ⟨o,e,ex.2.1⟩
 | _=>exact False.elim ty
def tBM(K:W.Frag)(T:String)(r:V→List V→Hp→VK→Prop)(to:TE)(t:TA):TE:=fun σ H Q=>to σ H fun x H1=>tyV K T x H1∧t σ H1 fun xs H2=>r x xs H2 Q
variable{o e:Expr}{es:List Expr}{to:TE}{t:TA}{name:Str}{apos cpos:Pos}{T id:String}{r:V→List V→Hp→VK→Prop}
theorem Ztx(pa:PlainAttrs T)(slot:Slot T name id)(hty:typeOf (.builtin id)=pure (.type "method_descriptor"))(hm:MtR X id r)(ho:PE X o to)(ha:PA X (e::es) t)
  (hbase:attributeBase o name X.env (eval o X.env)=eval o X.env:=by rfl)
  (hfew:((backTo cpos (starEach (e::es) X.env)).all (fun x=>!x.1)&&(backToKw cpos (keywordEach [] X.env)).all (fun x=>x.1.isSome)
   && decide ((e::es).length+([]:List Keyword).length+(if ([]:List Keyword).isEmpty then 0 else 1)<30))=true:=by rfl)
  (hline:(apos.endLine==cpos.line)=true:=by rfl) (hs:starEach (e::es) X.env=(false,eval e X.env)::starEach es X.env:=by rfl) (hplain:(backTo cpos (starEach es X.env)).any (·.1)=false:=by rfl) :
  PE X (.Call (.Attribute o name apos) (e::es) [] cpos) (tBM X.K T r to t):=by
 intro pins s σ H Q I h
 refine wpAny_Call_method_late hbase hfew hline rfl (thn (ho pins s σ H _ I h) fun v s1 ⟨x,H1,I1,r1,ty,q1⟩=>?_)
 obtain ⟨h1,h2⟩:=ZtJ I1 r1 ty
 refine ⟨T,id,pa,slot,hty,h1,h2,?_⟩
 have hA:=ha cpos pins s1 σ H1 _ I1 q1
 rw [hs] at hA ⊢
 refine Calls.callWith_builtin (by show (false||(backTo cpos (starEach es X.env)).any (·.1))=false;rw [hplain]<;>rfl) (Calls.evalArgs_plain ?_)
 exact thn hA fun us s2 ⟨vs,H2,I2,r2,q2⟩=>hm pins s2 σ H2 x vs v us Q I2 r1 r2 q2
end
def MtM(X:Cx)(id:String)(r:V→List V→Hp→VK→Prop):Prop :=
 ∀(pins:List (Addr×Obj)) (s:Shared) (σ:St) (H:Hp) (x:V) (xs:List V) (v:Value) (us:List Value) (Q:VK),Inv X pins σ H s→RelV x v→Vals xs us→r x xs H Q →
  wpAny (model X.prog X.w) X.A (call (.builtin id) (v::us)) (EP X pins σ Q) X.xe s
theorem Vals.one:∀{x:V} {us:List Value},Vals [x] us→∃u,us=[u]∧RelV x u
 | _,_,.cons r .nil=>⟨_,rfl,r⟩
theorem Vals.reverse{xs:List V}{us:List Value}(h:Vals xs us):Vals xs.reverse us.reverse:=by
 induction h with
 | nil=>exact .nil
 | cons r t ih=>rw [Vbj,Vbj];exact Vals.append ih (.cons r .nil)
section
variable{X:Cx}{pins:List (Addr×Obj)}{σ:St}{H:Hp}{s:Shared}{l b:Addr}{xs ys zs:List V}
theorem Inv.lset{its its':List Value}{n:Nat}{f:Array Value→Array Value}{t':Nat}(I:Inv X pins σ H s)(hH:H l=some (.lst xs))
  (e:s.heap.get? l=some { cls:=.type "list", data:=.seq its.toArray n }) (hf:f its.toArray=its'.toArray) (hv:Vals ys its') (hz:ys.length≤sizeLine) :
  Inv X pins σ (upd H l (.lst ys)) { s with heap:=s.heap.update l (Obj.mapSeq f),toks:=t' }:=by
 have q:=PySem.IsL.update e f
 rw [hf] at q
 refine I.write (x:=l) (e:=l) (by rw [hH];exact trivial) (.inl rfl) (fun b' u hb hu=>(Vbk s.heap (Obj.mapSeq f) (Ne.symm hb)).trans hu) ⟨_,q⟩ ?_
 exact ⟨hz,its',_,hv,q⟩
theorem Inv.lnew{its:List Value}{t':Nat}(I:Inv X pins σ H s)(hv:Vals ys its)(hz:ys.length≤sizeLine) :
  Inv X pins σ (upd H s.heap.objs.size (.lst ys)) { s with heap:=s.heap.push { cls:=.type "list", data:=.seq its.toArray },toks:=t' } :=
 I.laid (fun _ _ q=>VaD _ q) (VaF _) ⟨hz,its,0,hv,VaE _ rfl⟩
theorem Inv.fresh(I:Inv X pins σ H s):H s.heap.objs.size=none:=I.hok.fresh (VaF _)
theorem Inv.lstM(I:Inv X pins σ H s)(hH:H l=some (.lst xs)):xs.length≤sizeLine∧∃(its:List Value) (n:Nat),Vals xs its∧xs.length=its.length∧s.heap.get? l=some { cls:=.type "list", data:=.seq its.toArray n }:=by
 obtain ⟨z,its,n,r,e⟩:=I.hok l _ hH
 exact ⟨z,its,n,r,r.length,e⟩
end
section
variable{X:Cx}
def Zfh:V→List V→Hp→VK→Prop:=fun x vs H Q=>∃l xs y,x=.ref l∧vs=[y]∧H l=some (.lst xs)∧xs.length<sizeLine∧Q .non (upd H l (.lst (xs++[y])))
theorem ZlI:MtM X "list.append" Zfh:=by
 intro pins s σ H x vs v us Q I rx rv h
 obtain ⟨l,xs,y,rfl,rfl,hH,hz,q⟩:=h
 cases rx
 obtain ⟨u,rfl,ru⟩:=rv.one
 obtain ⟨z,its,n,r,hl,e⟩:=I.lstM hH
 refine call_meets F.slot_list_append ⟨_,e,rfl⟩ F.entry_list_append (F.args_list_append_2 _ _) (PySem.list_append l its.toArray n u (by rw [Va6];omega)) ⟨e,?_⟩
 refine ⟨.non,_,I.lset (its':=its++[u]) hH e (by simp) (r.append (.cons ru .nil)) ?_,rfl,q⟩
 rw [Va4,Vbl]
 omega
end
section
variable{prog:Program}{w:World}{A:Around}{E:Value→Shared→Prop}{s:Shared}
set_option maxRecDepth 100000 in
end
end L2
namespace Att
open PySem PySem.W PySem.Calls PyProof.Rows
theorem Zgu{P:Params}{h:Heap}:∀(ns:List Int) (vs:List Value),WellAll P h vs (ns.map WData.int)→IntsAre vs ns:=by
 intro ns
 induction ns with
 | nil =>
  intro vs w
  rw [List.map_nil] at w
  cases w
  exact .nil
 | cons n ns ih =>
  intro vs w
  rw [VaM] at w
  cases w with
  | cons a b =>
   cases a
   exact .cons _ _ (ih _ b)
theorem ZlH{l:OpenLaw}{n:Nat}(hn:l.most=some n){P:Params}{h:Heap}{args:List WData}{vals:List Value}
  (hpre:l.row.toRowW.claim.pre args=true) (hwl:WellAll P h vals args) :
  ∃a vs ns,vals=[Value.ref a]∧args=[WData.list (ns.map WData.int)]∧h.get? a=some { cls:=.type "list", data:=.seq vs.toArray }∧IntsAre vs ns∧ns.length≤n:=by
 have hsh:WShape.hasAll [] args [.list .int]=true:=(pre_splitW hpre).1
 have hc:l.pre.holds [] { args:=args }=true:=(pre_splitW hpre).2
 obtain ⟨d,r,rfl,h1,h2⟩:=hasAllW_cons hsh
 obtain rfl:=hasAllW_nil h2
 obtain ⟨xs,rfl,h3⟩:=hasW_list h1
 obtain ⟨ns,rfl⟩:=items_int h3
 have hlen:ns.length≤n:=by
  unfold OpenLaw.pre at hc
  have h4:(WTm.not (.lt (.lit (.int (n:Int))) (.len (.arg 0)))).holds [] { args:=[.list (ns.map .int)] }=true:=by
   have h4:=(holds_andW hc).1
   rw [hn] at h4
   exact h4
  have h5:=condW_of h4 (w_not (w_lt w_lit (w_len_list (w_arg rfl))))
  rw [VaN] at h5
  refine Nat.le_of_not_lt fun q=>?_
  have q':(n:Int)<((ns.length:Nat):Int):=by omega
  first
   | (rw [Vbm q'] at h5;exact absurd h5 (by decide))
   | (simp at h5;omega)
 cases hwl with
 | cons w1 w2 =>
  cases w2
  cases w1 with
  | list ho hall=>exact ⟨_,_,ns,rfl,rfl,ho,Zgu ns _ hall,hlen⟩
theorem ZlG(l:OpenLaw)(args:List WData):l.row.toRowW.claim.post args (.bool true) args=true :=
 postW_of (r:=l.row.toRowW) (X:=(true==true))
  (show WShape.has [] (.bool true) .bool=true by first | rfl | decide | simp [WShape.has,WShape.arms,WShape.armsAll])
  (show (WTm.eq .res (.lit (.bool true))).value [] { args:=args,res:=some (.bool true),after:=args }=some (.bool (true==true)) from w_eq_bool (w_res rfl) w_lit) rfl
theorem ZiQ{l:OpenLaw}{n:Nat}{q:Program}{loose:List Str}{XP:(Str→Option Value)→Heap→Prop}{YP:World→Heap→Prop}{d:DefRec}
  (hn:l.most=some n) (hdf:d.params.defaults=[])
  (call:∀(w:World) (s₀ s₁:Shared) (mg mb:Str→Option Value) (fa:Addr) (o:Obj) (pm cd doc:Value) (a:Addr) (vs:List Value) (ns:List Int),
   Ground q loose [] XP w s₀ mg mb s₁.heap→YP w s₁.heap →
   s₁.heap.get? fa=some o→o.data=.func (docDef d.name d.params d.body d.scope pm cd doc)→s₁.heap.CodeRec cd d.name→mg d.name=some (.ref fa) →
   s₁.heap.get? a=some { cls:=.type "list", data:=.seq vs.toArray }→IntsAre vs ns→ns.length≤n→s₁.gens=#[] →
   codeAny (model l.prog w) callerA (.call (.ref fa) ⟨[.ref a],[]⟩) (fun r s'=>r=.ok (.ret (.bool true))∧OldK s₁.heap s'.heap∧s'.os=s₁.os∧AllBare s'.gens) s₁) :
  WalkO q loose XP YP l.row.toRowW d [] (fun f vs=>PySem.call f vs):=by
 intro w s₀ s₁ mg mb G Y fa o pm cd doc dV kV ho hd hcd hD hmg hg args vals as hpre hlay hrd hwl hlo
 obtain rfl:dV=.none:=Dflts.none hD hdf
 obtain rfl:kV=.none:=Dflts.noKw hD
 obtain ⟨a,vs,ns,rfl,rfl,hobj,hints,hlen⟩:=ZlH hn hpre hwl
 refine enter_call (VaT (call w s₀ s₁ mg mb fa o pm cd doc a vs ns G Y ho (fd_plain hd) hcd hmg hobj hints hlen hg) fun r s' hq=>?_)
 obtain ⟨rfl,h2,h3,h4⟩:=hq
 exact ⟨.inl ⟨.bool true,.bool true,[],rfl,fun _=>rfl,.bool true,ZlG l _,fun _=>⟨List.Pairwise.nil,fun _ hm=>(nomatch hm)⟩⟩,h2,h3,h4⟩
end Att
namespace L2
open PySem PySem.Spec PyProof.Rows
theorem Zh2:∀{vs:List Value} {ns:List Int},IntsAre vs ns→Vals (ns.map V.int) vs
 | _,_,.nil=>.nil
 | _,_,.cons n t h=>.cons ⟨t,rfl⟩ (Zh2 h)
def Only(H:Hp):Prop:=∀b,H b=none∨∃o xs,H b=some (.frz o (.lst xs))
theorem ZnL{P:Program}{w:World}{K:W.Frag}{mg mb:Str→Option Value}{CX:CXT}{k:Nat}{fa a:Addr}{fd:FuncData}{x:Str}{sp:Sp}{s₁:Shared}{vs:List Value}{ns:List Int}
  (KX:K.In s₁.heap) (hns:s₁.heap.Ns mainGlobals mg) (hb:s₁.heap.Ns builtinsNs mb) (hbb:∀x:Str,x ≠ "__name__"→mb x=bootBuiltins x) (hlim:s₁.heap.NoLimit) (hg:s₁.gens=#[])
  (ha:s₁.heap.get? a=some { cls:=.type "list", data:=.seq vs.toArray }) (hi:IntsAre vs ns) (hl:ns.length≤sizeLine) (hr:Room k callerA)
  (F:∀base:Heap,K.In base→base.Ns mainGlobals mg→FnOk P w K mg base CX k fa fd [x] sp) (hbind:∀(s:Shared) (u:Value),BindsTo s fd ⟨[u],[]⟩ [(x,u)])
  (hsp:∀H:Hp,Only H→SqL K H a (ns.map V.int)→sp [.ref a] H (fun v _=>v=.bl true) fun _ _ _=>False)
  (hCX:∀H e s',CX [] H s₁ (fun _ _ _=>False) e s'→False) :
  codeAny (model P w) callerA (.call (.ref fa) ⟨[.ref a],[]⟩) (fun r s'=>r=.ok (.ret (.bool true))∧OldK s₁.heap s'.heap∧s'.os=s₁.os∧AllBare s'.gens) s₁:=by
 have rv:=Zh2 hi
 have lenV:=hi.length
 have core:∀H:Hp,Only H→SqL K H a (ns.map V.int)→HOk P w H s₁.heap→(∀b,H b≠none→b=a)→(H a≠none→K.lookup a=none) →
   codeAny (model P w) callerA (.call (.ref fa) ⟨[.ref a],[]⟩) (fun r s'=>r=.ok (.ret (.bool true))∧OldK s₁.heap s'.heap∧s'.os=s₁.os∧AllBare s'.gens) s₁:=by
  intro H hO hS hok hA hK
  have base_of:∀{b:Addr} {o:Obj},s₁.heap.get? b=some o→H b=none→(hidT s₁.heap H).get? b=some o:=fun e n=>ZnQ e n
  have noA:∀{b:Addr} {o:Obj} {es:Array DictEntry} {ep:Nat},s₁.heap.get? b=some o→o.data=.dict es ep→H b=none:=fun {b o es ep} e d=>by
   cases q:H b with
   | none=>rfl
   | some u =>
    have e':b=a:=hA b (by rw [q];simp)
    subst e'
    rw [ha] at e;cases e
    have d':Data.seq vs.toArray _=Data.dict es ep:=d
    cases d'
  have nsK:∀{b:Addr} {m:Str→Option Value},s₁.heap.Ns b m→(hidT s₁.heap H).Ns b m:=fun {b m} ⟨o,es,ep,e,d,r⟩=>⟨o,es,ep,base_of e (noA e d),d,r⟩
  have hKb:K.In (hidT s₁.heap H):=fun b o e=>base_of (KX b o e) (by
   cases q:H b with
   | none=>rfl
   | some u =>
    have e':b=a:=hA b (by rw [q];simp)
    subst e'
    rw [hK (by rw [q];simp)] at e;cases e)
  have hM:Mod K mg (hidT s₁.heap H):=⟨hKb,nsK hns,⟨mb,nsK hb,hbb⟩,let ⟨mc,h1,h2⟩:=hlim;⟨mc,nsK h1,h2⟩⟩
  have e0:Env0 P w K mg (hidT s₁.heap H) callerA [] s₁ H:=⟨rfl,hM,fun b o e=>ZpG e,Nat.le_of_eq (Zlv _ _),trivial,fun b hb=>absurd (show b∈([]:List Addr) from hb) (by simp),hok,.of_eq hg⟩
  refine VaT ((F _ hKb (nsK hns)).run callerA [] s₁ H ⟨[.ref a],[]⟩ [.ref a] [.ref a] _ _ hr e0 (hbind s₁ (.ref a)) (.cons rfl .nil) (hsp H hO hS)) fun r s' h=>?_
  cases r with
  | error e=>exact (hCX H e s' h).elim
  | ok fl =>
   cases fl with
   | next=>exact False.elim h
   | brk=>exact False.elim h
   | cont=>exact False.elim h
   | ret u =>
    obtain ⟨v,H',os,bare,un,hok',r',q⟩:=h
    have q':v=.bl true:=q
    subst q'
    obtain rfl:u=Value.bool true:=r'
    refine ⟨rfl,OldK.of_keep fun b o e=>?_,os,bare⟩
    cases q:H b with
    | none=>exact un.keep b o e q (by intro z;exact absurd (show b∈([]:List Addr) from z) (by simp)) (by simp)
    | some u =>
     rcases hO b with z | ⟨ob,xs,z⟩
     ·rw [q] at z;cases z
     ·have z2:=un.frzs b ob _ z
      obtain ⟨e1,_⟩:=hok b _ z
      obtain ⟨e2,_⟩:=hok' b _ z2
      rw [e] at e1;cases e1
      exact e2
 cases hk:K.lookup a with
 | some o =>
  have e:=KX a o hk
  rw [ha] at e
  cases e
  refine core (fun _=>none) (fun _=>.inl rfl) (.inr ⟨_,vs.toArray,_,hk,rfl,rfl,rfl,by rw [Va6,lenV];exact hl,by simpa using rv⟩) (fun b u z=>by have z':(none:Option HO)=some u:=z;cases z') (fun b z=>absurd rfl z) fun z=>absurd rfl z
 | none =>
  refine core (fun b=>if b=a then some (.frz { cls:=.type "list", data:=.seq vs.toArray } (.lst (ns.map V.int))) else none) (fun b=>?_) (.inl (.inr ⟨{ cls:=.type "list", data:=.seq vs.toArray },if_pos rfl⟩)) (fun b u z=>?_) (fun b z=>?_) fun _=>hk
  ·by_cases hb:b=a
   ·exact .inr ⟨_,_,if_pos hb⟩
   ·exact .inl (if_neg hb)
  ·by_cases hb:b=a
   ·have z':=(if_pos hb).symm.trans z
    cases z'
    subst hb
    exact ⟨ha,by rw [VaN];exact hl,vs,_,rv,ha⟩
   ·have z':=(if_neg hb).symm.trans z
    cases z'
  ·by_cases hb:b=a
   ·exact hb
   ·exact absurd (if_neg hb) z
theorem ZqG{l:W.OpenLaw}{n k:Nat}{q:Program}{loose:List Str}{XP:(Str→Option Value)→Heap→Prop}{YP:World→Heap→Prop}{d:DefRec}{K:Params→W.Frag}{CX:World→CXT}{sp:World→Sp}{x:Str}
  (hn:l.most=some n) (hn2:n≤sizeLine) (hdf:d.params.defaults=[]) (hr:Room k callerA)
  (hY:∀(w:World) (h:Heap),YP w h→(K w.params).In h)
  (F:∀(w:World) (mg:Str→Option Value) (fa:Addr) (h:Heap),(K w.params).In h→h.Ns mainGlobals mg→mg d.name=some (.ref fa) →
   ∃fd:FuncData,(∀(s:Shared) (u:Value),BindsTo s fd ⟨[u],[]⟩ [(x,u)]) ∧
    ∀base:Heap,(K w.params).In base→base.Ns mainGlobals mg→FnOk l.prog w (K w.params) mg base (CX w) k fa fd [x] (sp w))
  (hsp:∀(w:World) (H:Hp) (a:Addr) (ns:List Int),ns.length≤n→Only H→SqL (K w.params) H a (ns.map V.int)→sp w [.ref a] H (fun v _=>v=.bl true) fun _ _ _=>False)
  (hCX:∀(w:World) (H:Hp) (s:Shared) (e:Value) (s':Shared),CX w [] H s (fun _ _ _=>False) e s'→False) :
  W.WalkO q loose XP YP l.row.toRowW d [] (fun f vs=>PySem.call f vs):=by
 refine Att.ZiQ hn hdf fun w s₀ s₁ mg mb fa o pm cd doc a vs ns G Y ho hd hcd hmg hobj hints hlen hg=>?_
 have KX:=hY w _ Y
 obtain ⟨fd,hb,hF⟩:=F w mg fa _ KX G.T.g hmg
 exact ZnL KX G.T.g G.T.b G.T.builtins G.T.nolimit hg hobj hints (Vaj hlen hn2) hr hF hb (fun H hO hS=>hsp w H a ns hlen hO hS) fun H e s'=>hCX w H s₁ e s'
abbrev E0:XK:=fun _ _ _=>False
structure Fun(K:W.Frag)(x qual:Str)(st:Stmt)(f:Addr)(fd:FuncData):Prop where
 ex:∃(oc:Value) (od:Option Addr) (kV doc pm:Value) (an:Option Addr) (cdv ct:Value) (osl:Array (Option Value)),
  fd=W.fnOf x qual (Zb2 st) (Za5 st) (Zab st) .none kV doc pm an cdv ct∧K.lookup f=some ⟨oc,od,.func fd,osl⟩∧W.codeIn K cdv qual=true
 kp:W.keepIn K (.ref f)=true
section
variable{P:Program}{w:World}{K:W.Frag}{mg:Str→Option Value}{base:Heap}
theorem Fun.binds{x qual:Str}{st:Stmt}{f:Addr}{fd:FuncData}{ps:List Str}(F:Fun K x qual st f fd)
  (h:∀(kV doc pm:Value) (an:Option Addr) (cdv ct:Value) (us:List Value),us.length=ps.length→bindArgs (W.fnOf x qual (Zb2 st) (Za5 st) (Zab st) .none kV doc pm an cdv ct) ⟨us,[]⟩=pure (ps.zip us)):Binds K fd ps []:=by
 obtain ⟨oc,od,kV,doc,pm,an,cdv,ct,osl,rfl,lk,hcd⟩:=F.ex
 exact .all (h kV doc pm an cdv ct)
theorem Zdi{x qual:Str}{st:Stmt}{f:Addr}{oc:Value}{od an:Option Addr}{osl:Array (Option Value)}{kV doc pm cdv ct:Value}(l:K.lookup f=some ⟨oc,od,.func (W.fnOf x qual (Zb2 st) (Za5 st) (Zab st) .none kV doc pm an cdv ct),osl⟩)
  (c:W.codeIn K cdv qual=true) (k:W.keepIn K (.ref f)=true):Fun K x qual st f (W.fnOf x qual (Zb2 st) (Za5 st) (Zab st) .none kV doc pm an cdv ct):=⟨⟨oc,od,kV,doc,pm,an,cdv,ct,osl,rfl,l,c⟩,k⟩
end
theorem Zlg{n:Nat}(h:n≤1000):n<sizeLine:=Vbn h (by decide)
def Same(H H':Hp):Prop:=∀b o,H b=some o→H' b=some o
theorem Same.refl(H:Hp):Same H H:=fun _ _ h=>h
theorem Same.trans{H H1 H2:Hp}(a:Same H H1)(b:Same H1 H2):Same H H2:=fun c o h=>b c o (a c o h)
theorem Same.free{H H':Hp}(e:Same H H'){l:Addr}(h:H' l=Option.none):H l=Option.none:=by
 cases q:H l with
 | none=>rfl
 | some o =>
  rw [e l o q] at h
  cases h
theorem Same.seq{K:W.Frag}{H H':Hp}{a:Addr}{xs:List V}(e:Same H H')(h:SqL K H a xs):SqL K H' a xs:=by
 rcases h with (h | ⟨o,h⟩) | h
 ·exact .inl (.inl (e _ _ h))
 ·exact .inl (.inr ⟨o,e _ _ h⟩)
 ·exact .inr h
end L2
set_option maxHeartbeats 4000000
namespace L2
open PySem PySem.Spec PyProof.Rows
section
variable{X:Cx}
theorem ZqX:OpR X (binaryOp .Mult) (rI IntMulOk fun i j=>.int (i*j)):=opI fun _ _ _ _ _ _ _ hc q=>mul_int q hc
def Zp7(_ j:Int):Prop:=j≠0∧j.natAbs.log2<9000
theorem Zoc:OpR X (binaryOp .FloorDiv) (rI Zp7 fun i j=>.int (i.fdiv j)):=opI fun _ _ _ _ _ _ _ hc q=>floordiv_int hc.1 q (.inl (PyProof.noPylong_of_log2 hc.2))
theorem Zts{n:String}{x:Str}{pos:Pos}(hg:Gl X x)(hm:X.mg x=none)(hv:bootBuiltins x=some (.type n))(hn:x ≠ "__name__" := by decide)(hd:(x==("__debug__" : Str))=false:=by decide):PE X (.Name x pos) (tC (.ty n)) :=
 Zqq hg hm hv rfl hn hd
end
theorem Ztl:bootBuiltins "abs"=some (.builtin "abs"):=by decide +kernel
theorem Zj7:bootBuiltins "all"=some (.builtin "all"):=by decide +kernel
theorem Zhk:bootBuiltins "isinstance"=some (.builtin "isinstance"):=by decide +kernel
theorem ZmU:bootBuiltins "len"=some (.builtin "len"):=by decide +kernel
theorem Ztt:bootBuiltins "max"=some (.builtin "max"):=by decide +kernel
theorem Zow:bootBuiltins "int"=some (.type "int"):=by decide +kernel
theorem ZqB:bootBuiltins "bool"=some (.type "bool"):=by decide +kernel
theorem ZeC:bootBuiltins "tuple"=some (.type "tuple"):=by decide +kernel
theorem ZiY:bootBuiltins "list"=some (.type "list"):=by decide +kernel
theorem ZtA:bootBuiltins "zip"=some (.type "zip"):=by decide +kernel
theorem Zh0:bootBuiltins "enumerate"=some (.type "enumerate"):=by decide +kernel
theorem Znp(K:W.Frag)(t:Value):W.kitOne K t t=some true:=by
 unfold W.kitOne
 rw [if_pos (beq_self_eq_true t)]
theorem Ztr(K:W.Frag){T U:String}{b:Bool}(hne:(Value.type T==Value.type U)=false)(hm:W.kitMeta U=true)(h:(fastBuiltinMro T).map (·.contains (Value.type U))=some b):W.kitOne K (.type T) (.type U)=some b:=by
 unfold W.kitOne
 rw [if_neg (by rw [hne];exact Vaz)]
 show (if W.kitMeta U=true then _ else none)=_
 rw [if_pos hm]
 exact h
mutual
inductive DV(K:W.Frag)(H:Hp):V→PyData→Prop
 | non:DV K H .non .none
 | bl (b:Bool):DV K H (.bl b) (.bool b)
 | int (i:Int):DV K H (.int i) (.int i)
 | str (x:Str):DV K H (.str x) (.str x)
 | tup {a:Addr} {xs:List V} {ds:List PyData} (h:SqT K H a xs) (r:DVs K H xs ds):DV K H (.ref a) (.tuple ds)
 | lst {a:Addr} {xs:List V} {ds:List PyData} (h:SqL K H a xs) (r:DVs K H xs ds):DV K H (.ref a) (.list ds)
inductive DVs(K:W.Frag)(H:Hp):List V→List PyData→Prop
 | nil:DVs K H [] []
 | cons {x:V} {xs:List V} {d:PyData} {ds:List PyData} (h:DV K H x d) (r:DVs K H xs ds):DVs K H (x::xs) (d::ds)
end
section
variable{X:Cx}{pins:List (Addr×Obj)}{σ:St}{H:Hp}{s:Shared}
mutual
theorem DV.reads(I:Inv X pins σ H s):∀{x:V} {d:PyData} {u:Value},DV X.K H x d→RelV x u→∃as,Reads s.heap u d as
 | _,_,_,.non,r=>by cases r;exact ⟨_,.none⟩
 | _,_,_,.bl b,r=>by cases r;exact ⟨_,.bool b⟩
 | _,_,_,.int i,r=>by obtain ⟨t,rfl⟩:=r;exact ⟨_,.int i t⟩
 | _,_,_,.str i,r=>by obtain ⟨t,rfl⟩:=r;exact ⟨_,.str i t⟩
 | _,_,_,.tup h q,r=>by
  cases r
  obtain ⟨its,rv,⟨o,h1,h2,n,h3⟩,_⟩:=I.tuple h
  obtain ⟨as,ra⟩:=DVs.reads I q rv
  exact ⟨_,.tuple h1 h2 h3 (by simpa using ra)⟩
 | _,_,_,.lst h q,r=>by
  cases r
  obtain ⟨its,rv,pl,_⟩:=I.list h
  obtain ⟨o,h1,h2,n,h3⟩:=pl.isList
  obtain ⟨as,ra⟩:=DVs.reads I q rv
  exact ⟨_,.list h1 h2 h3 (by simpa using ra)⟩
theorem DVs.reads(I:Inv X pins σ H s):∀{xs:List V} {ds:List PyData} {us:List Value},DVs X.K H xs ds→Vals xs us→∃as,ReadsAll s.heap us ds as
 | _,_,_,.nil,r=>by cases r;exact ⟨_,.nil⟩
 | _,_,_,.cons h q,r=>by
  cases r with
  | cons r1 r2 =>
   obtain ⟨as,ra⟩:=DV.reads I h r1
   obtain ⟨bs,rb⟩:=DVs.reads I q r2
   exact ⟨_,.cons ra rb⟩
end
end
section
variable{X:Cx}
def rEqD(K:W.Frag)(f:Bool→Bool):R2:=fun x y H Q=>∃dx dy,DV K H x dx∧DV K H y dy∧dx.canLay0=true∧dy.canLay0=true∧dx.depth≤60∧Q (.bl (f (PyData.eqv dx dy))) H
theorem ZoI(hu:X.A.units+64<cLine):OpR X (compareOp .Eq) (rEqD X.K id):=by
 intro pins s σ H x y v u Q I rx ry h
 obtain ⟨dx,dy,h1,h2,h3,h4,h5,q⟩:=h
 obtain ⟨as,ra⟩:=h1.reads I rx
 obtain ⟨bs,rb⟩:=h2.reads I ry
 exact PySem.SeqAt.compareEq_reads ra rb h3 h4 (by omega) (Zjt I q rfl)
theorem ZoT(hu:X.A.units+64<cLine):OpR X (compareOp .NotEq) (rEqD X.K not):=by
 intro pins s σ H x y v u Q I rx ry h
 obtain ⟨dx,dy,h1,h2,h3,h4,h5,q⟩:=h
 obtain ⟨as,ra⟩:=h1.reads I rx
 obtain ⟨bs,rb⟩:=h2.reads I ry
 exact PySem.SeqAt.compareNe_reads ra rb h3 h4 (by omega) (Zjt I q rfl)
end
structure Def(K:W.Frag)(mg:Str→Option Value)(x:Str)(st:Stmt)(ps:List Str):Prop where
 ex:∃(f:Addr) (fd:FuncData),Fun K x x st f fd∧Binds K fd ps []∧mg x=some (.ref f)
theorem ZaA{H:Hp}{p:Addr}(h:H p=none)(o:HO):Same H (upd H p o):=fun b u q=>by rw [Zaf (Zae q h)];exact q
end L2
namespace L2
open PySem
end L2
namespace L2
end L2
namespace L2
open PySem PySem.Spec PyProof.Rows
def Zou(ts:List Expr)(env:Env):Sem Bool:=match ts with
 | []=>pure true
 | c::_=>isTrue c env (eval c env)
theorem Zh3(elt target iter:Expr)(scope:Scope)(pos:Pos)(it acc:Value)(env:Env) :
  compTurn (.ListComp elt [⟨target,iter,[],0⟩] scope pos) 0 it acc env=(standAt iter.pos >>= fun _=>pyNext it >>= fun r=>match r with
   | none=>pure (.done .next)
   | some v=>letOwnedTupleGo target it v >>= fun _=>assign target env v >>= fun _ =>
    (eval elt env >>= fun x=>call (.builtin "list.append") [acc,x] >>= fun _=>pure ()) >>= fun _ =>
     again (.compLoop (.ListComp elt [⟨target,iter,[],0⟩] scope pos) 0 it acc env)):=by rfl
theorem Zjn(elt target iter c:Expr)(scope:Scope)(pos:Pos)(it acc:Value)(env:Env) :
  compTurn (.ListComp elt [⟨target,iter,[c],0⟩] scope pos) 0 it acc env=(standAt iter.pos >>= fun _=>pyNext it >>= fun r=>match r with
   | none=>pure (.done .next)
   | some v=>letOwnedTupleGo target it v >>= fun _=>assign target env v >>= fun _ =>
    (forIn [c] true fun (c:Expr) (s:Bool)=>if s=true then (isTrue c env (eval c env) >>= fun ok=>pure (ForInStep.yield ok)) else pure (ForInStep.yield s)) >>= fun s=>if s=true then
     (eval elt env >>= fun x=>call (.builtin "list.append") [acc,x] >>= fun _=>pure ()) >>= fun _ =>
      again (.compLoop (.ListComp elt [⟨target,iter,[c],0⟩] scope pos) 0 it acc env)
     else again (.compLoop (.ListComp elt [⟨target,iter,[c],0⟩] scope pos) 0 it acc env)):=by rfl
theorem ZhT{prog:Program}{w:World}{A:Around}{R:Result→Shared→Prop}{s:Shared}{elt target iter:Expr}{ts:List Expr}{scope:Scope}{pos:Pos}{it acc:Value}{env:Env}(hts:ts.length≤1)(I:Nat→Shared→Prop)
  (turn:∀n s,I n s→wpAny (model prog w) A (pyNext it) (fun r s₁=>match r with
   | none=>R (.ok .next) s₁
   | some v=>wpAny (model prog w) A (letOwnedTupleGo target it v) (fun _ s₁'=>wpAny (model prog w) A (assign target env v) (fun _ s₂=>wpAny (model prog w) A (Zou ts env) (fun b s₂'=>if b=true then wpAny (model prog w) A (eval elt env) (fun x s₃ =>
     wpAny (model prog w) A (call (.builtin "list.append") [acc,x]) (fun _ s₄=>∃m,m<n∧I m s₄) (notedBy (model prog w) A env fun e s'=>R (.error e) s') s₃)
     (notedBy (model prog w) A env fun e s'=>R (.error e) s') s₂' else ∃m,m<n∧I m s₂') (notedBy (model prog w) A env fun e s'=>R (.error e) s') s₂) (notedBy (model prog w) A env fun e s'=>R (.error e) s') s₁') (notedBy (model prog w) A env fun e s'=>R (.error e) s') s₁) (notedBy (model prog w) A env fun e s'=>R (.error e) s') s)
  (n:Nat) (h:I n s) :
  codeAny (model prog w) A (.compLoop (.ListComp elt [⟨target,iter,ts,0⟩] scope pos) 0 it acc env) R s:=by
 refine codeAny_loop rfl I (fun n s hI=>?_) n h
 show wpAny _ _ ((compTurn (.ListComp elt [⟨target,iter,ts,0⟩] scope pos) 0 it acc env).onRaise (fun x=>do noteFrame x env;theTreesLotGoes x)) _ _ s
 refine wpAny_noted ?_
 match ts,hts with
 | [],_ =>
  rw [Zh3]
  refine VaC (wpAny_standAt (VaC (Vav (turn n s hI) (fun r s₁ h₁=>?_) fun _ _ h'=>h')))
  cases r with
  | none=>exact VaB h₁
  | some v =>
   refine VaC (Vav h₁ (fun _ s₁' h₁'=>?_) fun _ _ h'=>h')
   refine VaC (Vav h₁' (fun _ s₂ h₂=>?_) fun _ _ h'=>h')
   show wpAny _ _ ((pure true:Sem Bool) >>= fun b=>if b=true then ((eval elt env >>= fun x=>call (.builtin "list.append") [acc,x] >>= fun _=>pure ()) >>= fun _=>again (.compLoop (.ListComp elt [⟨target,iter,[],0⟩] scope pos) 0 it acc env)) else again (.compLoop (.ListComp elt [⟨target,iter,[],0⟩] scope pos) 0 it acc env)) _ _ s₂
   refine VaC (Vav h₂ (fun b s₂' h₂'=>?_) fun _ _ h'=>h')
   cases b with
   | true =>
    rw [if_pos rfl] at h₂' ⊢
    exact VaC (VaC (Vav h₂' (fun x s₃ h₃=>VaC (Vav h₃ (fun _ s₄ h₄=>VaB (VaB ⟨rfl,h₄⟩)) fun _ _ h'=>h')) fun _ _ h'=>h'))
   | false =>
    rw [if_neg Vaz] at h₂' ⊢
    exact VaB ⟨rfl,h₂'⟩
 | [c],_ =>
  rw [Zjn]
  refine VaC (wpAny_standAt (VaC (Vav (turn n s hI) (fun r s₁ h₁=>?_) fun _ _ h'=>h')))
  cases r with
  | none=>exact VaB h₁
  | some v =>
   refine VaC (Vav h₁ (fun _ s₁' h₁'=>?_) fun _ _ h'=>h')
   refine VaC (Vav h₁' (fun _ s₂ h₂=>?_) fun _ _ h'=>h')
   rw [Vbo]
   refine VaC (VaC ?_)
   rw [if_pos rfl]
   refine VaC (Vav h₂ (fun b s₂' h₂'=>VaB ?_) fun _ _ h'=>h')
   show wpAny _ _ (forIn [] b _) _ _ _
   rw [Vbp]
   refine VaB ?_
   cases b with
   | true =>
    rw [if_pos rfl] at h₂' ⊢
    exact VaC (VaC (Vav h₂' (fun x s₃ h₃=>VaC (Vav h₃ (fun _ s₄ h₄=>VaB (VaB ⟨rfl,h₄⟩)) fun _ _ h'=>h')) fun _ _ h'=>h'))
   | false =>
    rw [if_neg Vaz] at h₂' ⊢
    exact VaB ⟨rfl,h₂'⟩
theorem Zgp:∀(names:List (Str×NameKind)) (h:Heap) (acc:List (Str×Addr)) (n:Str) (c:Addr),(n,c)∈PySem.cellsFrom h.objs.size names acc→(n,c)∈acc∨((PySem.pushCells h names).IsCell c none∧h.objs.size≤c)
 | [],_,_,_,_,hm=>.inl hm
 | (name,kind)::r,h,acc,n,c,hm=>by
  unfold PySem.cellsFrom at hm
  unfold PySem.pushCells
  split at hm
  ·rename_i hk
   rw [if_pos hk]
   have hm':(n,c)∈PySem.cellsFrom (h.push { cls:=.type "cell", data:=.cell none }).objs.size r ((name,h.objs.size)::acc):=by rw [VaO];exact hm
   rcases Zgp r (h.push { cls:=.type "cell", data:=.cell none }) ((name,h.objs.size)::acc) n c hm' with z | ⟨z1,z2⟩
   ·rcases Vaq.mp z with e | z
    ·cases e
     exact .inr ⟨⟨_,PySem.pushCells_keeps r _ _ _ (VaE _ rfl),rfl⟩,VaF _⟩
    ·exact .inl z
   ·rw [VaO] at z2
    exact .inr ⟨z1,by omega⟩
  ·rename_i hk
   rw [if_neg hk]
   exact Zgp r h acc n c hm
theorem Zgn:∀(names:List (Str×NameKind)) (k:Nat) (acc:List (Str×Addr)),(∀n c,(n,c)∈acc→c<k)→(∀n n' c,(n,c)∈acc→(n',c)∈acc→n=n')→∀n n' c,(n,c)∈PySem.cellsFrom k names acc→(n',c)∈PySem.cellsFrom k names acc→n=n'
 | [],_,_,_,hi,n,n',c,h1,h2=>hi n n' c h1 h2
 | (name,kind)::r,k,acc,hl,hi,n,n',c,h1,h2=>by
  unfold PySem.cellsFrom at h1 h2
  split at h1
  ·rename_i hk
   rw [if_pos hk] at h2
   refine Zgn r (k+1) ((name,k)::acc) (fun m d hm=>?_) (fun m m' d hm hm'=>?_) n n' c h1 h2
   ·rcases Vaq.mp hm with e | hm
    ·cases e;exact VaP _
    ·exact Nat.lt_succ_of_lt (hl m d hm)
   ·rcases Vaq.mp hm with e | hm<;>rcases Vaq.mp hm' with e' | hm'
    ·cases e;cases e';rfl
    ·cases e;exact absurd (hl _ _ hm') (Vaf _)
    ·cases e';exact absurd (hl _ _ hm) (Vaf _)
    ·exact hi m m' d hm hm'
  ·rename_i hk
   rw [if_neg hk] at h2
   exact Zgn r k acc hl hi n n' c h1 h2
theorem ZgC{x:Str}:∀(names:List (Str×NameKind)) (k:Nat) (acc:List (Str×Addr)),(∀y∈names,y.2=.cell→y.1≠x)→(PySem.cellsFrom k names acc).lookup x=acc.lookup x
 | [],_,_,_=>rfl
 | (name,kind)::r,k,acc,h=>by
  unfold PySem.cellsFrom
  split
  ·rename_i hk
   rw [ZgC r (k+1) _ fun y hy=>h y (Vao _ hy)]
   have ne:name≠x:=h (name,kind) Van (by simpa using hk)
   rw [Vbq,beq_false_of_ne (Ne.symm ne)]
  ·exact ZgC r k acc fun y hy=>h y (Vao _ hy)
theorem Ze1{x:Str}:∀(names:List (Str×NameKind)) (k:Nat) (acc:List (Str×Addr)),((acc.lookup x).isSome=true∨(x,NameKind.cell)∈names)→((PySem.cellsFrom k names acc).lookup x).isSome=true
 | [],_,_,h=>by
  rcases h with h | h
  ·exact h
  ·cases h
 | (name,kind)::r,k,acc,h=>by
  unfold PySem.cellsFrom
  split
  ·rename_i hk
   refine Ze1 r (k+1) _ ?_
   by_cases e:x=name
   ·subst e;exact .inl (by simp)
   ·rcases h with h | h
    ·exact .inl (by rw [Vbq,beq_false_of_ne e];exact h)
    ·rcases Vaq.mp h with z | h
     ·cases z;exact absurd rfl e
     ·exact .inr h
  ·rename_i hk
   refine Ze1 r k acc ?_
   rcases h with h | h
   ·exact .inl h
   ·rcases Vaq.mp h with z | h
    ·cases z;exact absurd rfl hk
    ·exact .inr h
theorem ZkS{M:Model}{A:Around}{E:Value→Shared→Prop}{s:Shared}{scope:Scope}{globals:Addr}{closure:List (Str×Addr)}{qual:Str}{func:Option Addr}{code:Value}{outer:Env}{builtins:Addr}{Q:Env→Shared→Prop}
  (hQ:∀h',h'.Ns s.heap.objs.size (fun _=>none)→(∀b o,s.heap.get? b=some o→h'.get? b=some o)→(∀n c,(n,c)∈PySem.cellsFrom (s.heap.objs.size+1) scope.names closure→(n,c)∈closure∨(h'.IsCell c none∧s.heap.objs.size+1≤c)) →
   Q (newEnv scope s.heap.objs.size globals (PySem.cellsFrom (s.heap.objs.size+1) scope.names closure) qual func code (some outer) builtins) { s with heap:=h' }) :
  wpAny M A (newFunctionEnv scope globals closure [] qual func code (some outer) builtins) Q E s:=by
 simp only [newFunctionEnv,Option.isSome_some,Va8]
 refine VaC (wpAny_alloc ?_)
 refine VaC (wpAny_layCells _ (fun name kind cells=>by cases hkc:kind==NameKind.cell<;>simp [hkc]) _ _ _ _ ?_)
 rw [show ({ s with heap:=s.heap.push { cls:=.type "dict", data:=.dict #[] } }:Shared).heap.objs.size=s.heap.objs.size+1 from VaO ..]
 rw [Vbp]
 refine VaC (VaB (VaB ?_))
 refine hQ _ ((Heap.Ns.new s.heap (.type "dict")).keeps (PySem.pushCells_keeps _ _)) (fun b o e=>PySem.pushCells_keeps _ _ b o (VaD _ e)) fun n c hm=>?_
 have z:=Zgp scope.names (s.heap.push { cls:=.type "dict", data:=.dict #[] }) closure n c (by rw [VaO];exact hm)
 rwa [VaO] at z
def PTs(X:Cx)(ts:List Expr)(tt:TT):Prop :=
 ∀(pins:List (Addr×Obj)) (s:Shared) (σ:St) (H:Hp) (Q:Bool→Hp→Prop),Inv X pins σ H s→tt σ H Q→wpAny (model X.prog X.w) X.A (Zou ts X.env) (TP X pins σ Q) X.xe s
def tYes:TT:=fun _ H Q=>Q true H
theorem Zqs{X:Cx}:PTs X [] tYes:=fun _ _ _ H _ I h=>VaB ⟨H,I,h⟩
theorem Zq1{X:Cx}{c:Expr}{tt:TT}(h:PT X c tt):PTs X [c] tt:=h
def Zay(X:Cx)(N:List Str)(scope:Scope)(cl:List (Str×Addr))(C:Addr)(s₂:Shared)(H₂:Hp)(fp:List Addr)(pn:List (Addr×Obj)):Cx :=
 { X with N:=N,s₀:=s₂,H₀:=H₂,env:=compEnvC scope (PySem.cellsFrom (C+1) scope.names cl) C X.env,outer:=X.stack,ex:=fp,fn:=fun x=>scope.names.lookup x==some .cell,pn:=pn,xe:=fun _ _=>False }
def ZkK(X:Cx)(sc:Scope)(cl:List (Str×Addr)):List (Str×Nat)→Prop
 | []=>True
 | p::r=>(X.N[p.2]?=some p.1∧X.env.scope.names.lookup p.1=some .cell∧(sc.names.lookup p.1=some .cell)∧∃c,cl.lookup p.1=some c∧X.env.cells.lookup p.1=some c)∧ZkK X sc cl r
theorem ZkK.get{X:Cx}{sc:Scope}{cl:List (Str×Addr)}:∀{cap:List (Str×Nat)} {j:Nat} {p:Str×Nat},ZkK X sc cl cap→cap[j]?=some p →
  X.N[p.2]?=some p.1∧X.env.scope.names.lookup p.1=some .cell∧(sc.names.lookup p.1=some .cell)∧∃c,cl.lookup p.1=some c∧X.env.cells.lookup p.1=some c
 | [],_,_,_,e=>by simp at e
 | _::_,0,_,h,e=>by simp at e;subst e;exact h.1
 | _::_,j+1,_,h,e=>ZkK.get (j:=j) h.2 (by simpa using e)
def capt(σ:St)(cap:List (Str×Nat)):St:=cap.map fun p=>(σ[p.2]?).join
def st0(own:List Str)(σ:St)(cap:List (Str×Nat)):St:=List.replicate own.length none++capt σ cap
def Zdz(J:It)(g:TG)(tt:TT)(te:TE)(own:List Str)(cap:List (Str×Nat))(σ:St)(Q:VK)(H1:Hp):Prop:=∃W:Nat→Nat→List V→Hp→Prop,(∃m,W 0 m [] H1)∧∀i m acc H,W i m acc H→acc.length≤sizeLine ∧
 ((J.stop i H∧∀p,H p=none→Q (.ref p) (upd H p (.lst acc))) ∨
  (J.go i H∧∀x H',J.yld i H x H'→g x (st0 own σ cap) H' fun σ2 H2=>σ2.drop own.length=capt σ cap∧tt σ2 H2 fun b H3=>if b=true then te σ2 H3 fun v H4=>acc.length<sizeLine∧∃m',m'<m∧W (i+1) m' (acc++[v]) H4 else ∃m',m'<m∧W (i+1) m' acc H3))
abbrev Fam(α:Type):=Addr→Shared→Hp→List Addr→List (Addr×Obj)→α
def Zfp(wi:TI)(g:Fam TG)(tt:Fam TT)(te:Fam TE)(own:List Str)(cap:List (Str×Nat)):TE:=fun σ H Q=>wi σ H fun J H1=>∀C s H2 fp pn,Zdz J (g C s H2 fp pn) (tt C s H2 fp pn) (te C s H2 fp pn) own cap σ Q H1
structure Zdk(X:Cx)(own:List Str)(cap:List (Str×Nat))(scope:Scope)(cl:List (Str×Addr)):Prop where
 clos:closureFor scope X.env=pure cl
 kind:scope.kind=.function
 nown:∀x c,(x,c)∈cl→∀y∈scope.names,y.2=.cell→y.1≠x
 locals:∀y∈scope.names,y.2=.local→scope.names.lookup y.1=some .local
 sub:∀x c,(x,c)∈cl→X.env.cells.lookup x=some c
 has:∀k x,((relabel scope X.env).names.lookup x=some .cell∨(relabel scope X.env).names.lookup x=some .free)→∃c,(PySem.cellsFrom k scope.names cl).lookup x=some c
 cap:ZkK X (relabel scope X.env) cl cap
section
variable{X:Cx}{own:List Str}{cap:List (Str×Nat)}{scope:Scope}{cl:List (Str×Addr)}{pins:List (Addr×Obj)}{σ:St}{H:Hp}{s:Shared}{fp:List Addr}{tg:Expr}{J:It}{it:Addr}{tn:Nat→Heap→Prop}
theorem Zmj{i:Nat}{v:V}(e:(st0 own σ cap)[i]?=some (some v)):∃j p,i=own.length+j∧cap[j]?=some p∧σ[p.2]?=some (some v):=by
 unfold st0 at e
 by_cases hi:i<own.length
 ·rw [Va1 (by simpa using hi),Va0,if_pos hi] at e
  cases e
 ·rw [VaZ (by simpa using hi),Va5] at e
  unfold capt at e
  rw [Va2] at e
  cases q:cap[i - own.length]? with
  | none=>rw [q] at e;cases e
  | some p =>
   rw [q] at e
   have e':(σ[p.2]?).join=some v:=Vau e
   refine ⟨i - own.length,p,by omega,q,?_⟩
   cases z:σ[p.2]? with
   | none=>rw [z] at e';cases e'
   | some o=>rw [z] at e';have e2:o=some v:=e';rw [e2]
theorem Inv.comp(I:Inv X pins σ H s)(O:Zdk X own cap scope cl)(T:Turn X.prog X.w X.K tg J fp it tn)(st:tn 0 s.heap)(f:∀b∈fp,FpOk X pins H b){C:Addr}{h':Heap}{t':Nat}{m:Str→Option Value}(hC:s.heap.objs.size≤C)
  (k:∀b o,s.heap.get? b=some o→h'.get? b=some o) (hn:h'.Ns C m) (hx:∀n c,(n,c)∈PySem.cellsFrom (C+1) scope.names cl→(n,c)∈cl∨(h'.IsCell c none∧C+1≤c)) :
  Inv (Zay X (own++cap.map (·.1)) scope cl C s H fp (X.pn++pins)) [] (st0 own σ cap) H { s with heap:=h',toks:=t' }:=by
 have neC:∀{b:Addr} {o:Obj},s.heap.get? b=some o→b≠C:=fun e=>Vag (Vae (Vad e) hC)
 have cellC:∀x c,(x,c)∈cl→∃v,s.heap.IsCell c v:=fun x c e=>I.cell x c (O.sub x c e)
 have ltC:∀x c,(x,c)∈cl→c<C+1:=fun x c e=>by
  obtain ⟨v,o,ho,_⟩:=cellC x c e
  exact Nat.lt_succ_of_le (Vak (Vae (Vad ho) hC))
 have nefp:∀b∈fp,b≠C:=fun b hb=>by
  obtain ⟨o,e,_⟩:=T.obj _ _ st b hb
  exact neC e
 refine ⟨⟨I.ok.mod,O.kind,I.ok.glob,I.ok.blt,hC,fun x y c e1 e2=>Zgn scope.names (C+1) cl ltC (fun n n' c h1 h2=>I.ok.inj n n' c (O.sub n c h1) (O.sub n' c h2)) x y c (VaY e1) (VaY e2),O.has (C+1),fun x c e1 e2=>?_,I.ok.hd,I.ok.frames,.inl rfl,fun b hb=>⟨nefp b hb,fun x c e=>?_⟩,I.bs,Vaj I.ok.bsz I.sz,fun b o e hb=>?_,fun b hb z=>?_,I.stack,I.stkFree⟩,
  rfl,I.bare,Un.kept k,⟨m,hn,fun i x v e1 e2 e3=>?_⟩,fun x c e=>?_,?_,fun x c e=>?_,fun p hp=>?_,I.hok.kept k,?_⟩
 ·have e1':scope.names.lookup x=some .cell:=by simpa [Zay] using e1
  rcases hx x c (VaY e2) with z | ⟨_,z⟩
  ·exact absurd rfl (O.nown x c z (x,.cell) (VaY e1') rfl)
  ·exact Vaj hC (Nat.le_of_succ_le z)
 ·rcases hx x c (VaY e) with z | ⟨_,z⟩
  ·exact (f b hb).2.2.2.2.1 x c (O.sub x c z)
  ·obtain ⟨o,eo,_⟩:=T.obj _ _ st b hb
   exact VaA (Vae (Vae (Vad eo) hC) (Nat.le_of_succ_le z))
 ·rcases (f b hb).2.2.2.1 with z | z
  ·exact I.ok.noex b o e z
  ·exact absurd (Vae (Vad (I.ok.bs b o e).1) z) (Vaf _)
 ·rcases Vaq.mp (I.stkSub b z) with q | q
  ·exact (f b hb).2.1 q
  ·exact (f b hb).2.2.1 q
 ·obtain ⟨j,p,rfl,hp,hs⟩:=Zmj e2
  obtain ⟨c1,c2,c3,c,c4,c5⟩:=O.cap.get hp
  have e1':(own++cap.map (·.1))[own.length+j]?=some x:=e1
  rw [VaZ (Nat.le_add_right _ _),Nat.add_sub_cancel_left,Va2,hp] at e1'
  have ex:p.1=x:=Vau e1'
  subst ex
  obtain ⟨m2,_,hl⟩:=I.loc
  obtain ⟨u,r,l⟩:=hl p.2 p.1 v c1 hs (.inr (.inl c2))
  refine ⟨u,r,.inr ⟨.inl c3,c,(ZgC scope.names (C+1) cl fun y hy hk=>O.nown p.1 c (VaY c4) y hy hk).trans c4,?_⟩⟩
  rcases l with ⟨z,_⟩ | ⟨_,c',z,⟨o,ho,hd⟩⟩
  ·have z':X.env.scope.names.lookup p.1=some .local:=z
   rw [c2] at z';cases z'
  ·rw [c5] at z;cases z
   exact ⟨o,k _ _ ho,hd⟩
 ·rcases hx x c (VaY e) with z | ⟨z,_⟩
  ·obtain ⟨v,o,ho,hd⟩:=cellC x c z
   exact ⟨v,o,k _ _ ho,hd⟩
  ·exact ⟨none,z⟩
 ·exact I.hok.fresh hC
 ·rcases hx x c (VaY e) with z | ⟨_,z⟩
  ·exact I.freeC x c (O.sub x c z)
  ·exact I.hok.fresh (Vaj hC (Nat.le_of_succ_le z))
 ·have hp':p∈X.pn++pins:=by simpa [Zay] using hp
  obtain ⟨e,n,ne,nf,d⟩:=I.pin p hp'
  exact ⟨k _ _ e,n,neC e,fun z=>(Vaq.mp (I.stkSub p.1 z)).elim ne nf,d⟩
 ·show (st0 own σ cap).length=(own++cap.map (·.1)).length
  unfold st0 capt
  simp
theorem Cx.Ok.rexe{X:Cx}{xe:Value→Shared→Prop}(o:X.Ok):({ X with xe:=xe }:Cx).Ok:=by
 cases o
 constructor<;>assumption
theorem Inv.rexe{X:Cx}{pins:List (Addr×Obj)}{σ:St}{H:Hp}{s:Shared}{xe:Value→Shared→Prop}(I:Inv X pins σ H s):Inv { X with xe:=xe } pins σ H s:=by
 obtain ⟨ok,i1,i2,i3,i4,i5,i6,i7,i8,i9,i10⟩:=I
 exact ⟨ok.rexe,i1,i2,i3,i4,i5,i6,i7,i8,i9,i10⟩
def Zav(xf:Addr→Shared→Hp→List Addr→Value→Shared→Prop)(X:Cx)(N:List Str)(scope:Scope)(cl:List (Str×Addr))(C:Addr)(s₂:Shared)(H₂:Hp)(fp:List Addr)(pn:List (Addr×Obj)):Cx:={ Zay X N scope cl C s₂ H₂ fp pn with xe:=xf C s₂ H₂ fp }
theorem Zim{xf:Addr→Shared→Hp→List Addr→Value→Shared→Prop}{elt iter:Expr}{ts:List Expr}{pos:Pos}{gF:Fam TG}{ttF:Fam TT}{teF:Fam TE}{E:Value→Shared→Prop}(O:Zdk X own cap scope cl)(hc:X.calm=true)
  (hgF:∀C s H fp pn,PG (Zav xf X (own++cap.map (·.1)) scope cl C s H fp pn) tg (gF C s H fp pn)) (htF:∀C s H fp pn,PTs (Zav xf X (own++cap.map (·.1)) scope cl C s H fp pn) ts (ttF C s H fp pn)) (heF:∀C s H fp pn,PE (Zav xf X (own++cap.map (·.1)) scope cl C s H fp pn) elt (teF C s H fp pn)) (hts:ts.length≤1)
  (I2:Inv X pins σ H s) (T:Turn X.prog X.w X.K tg J fp it tn) (st2:tn 0 s.heap) (f2:∀b∈fp,FpOk X pins H b) {Q:VK}
  (hw:∀C s H2 fp pn,Zdz J (gF C s H2 fp pn) (ttF C s H2 fp pn) (teF C s H2 fp pn) own cap σ Q H)
  {R:Value→Addr→Result→Shared→Prop}
  (fin:∀(D C:Addr) (H':Hp) (s':Shared) (m:Str→Option Value),s.heap.objs.size≤C→s'.heap.Ns C m→H' C=none →
   (∀h',Heap.SameBut C s'.heap h'→Inv X pins σ H' { s' with heap:=h' })→Q (.ref D) H'→R (.ref D) C (.ok .next) s')
  (hexc:∀(D C:Addr) (cells:List (Str×Addr)) (e:Value) (s':Shared),s.heap.objs.size≤C→xf C s H fp e s'→notedBy (model X.prog X.w) X.A (compEnvC scope cells C X.env) (fun e s'=>R (.ref D) C (.error e) s') e s') :
  wpAny (model X.prog X.w) X.A (newList []) (fun acc s₃=>wpAny (model X.prog X.w) X.A (newFunctionEnv scope X.env.globals cl [] X.env.qual none .none (some X.env)) (fun cenv s₄ =>
   codeAny (model X.prog X.w) X.A (.compStart (.ListComp elt [⟨tg,iter,ts,0⟩] scope pos) 0 (.ref it) acc { cenv with scope:=relabel scope X.env }) (R acc cenv.locals) s₄) E s₃) E s:=by
 refine Vbi (ZkS (fun h₁ hns₁ hk₁ hx₁=>?_))
 dsimp only at hns₁ hk₁ hx₁ ⊢
 generalize hHh:s.heap.push { cls:=.type "list", dict:=none,data:=.seq ([]:List Value).toArray }=Hh at hns₁ hk₁ hx₁ ⊢
 have hCs:Hh.objs.size=s.heap.objs.size+1:=by rw [←hHh,VaO]
 generalize hCC:Hh.objs.size=C at hns₁ hx₁ hCs ⊢
 generalize hDD:s.heap.objs.size=D at hCs ⊢
 have ltDC:D<C:=by omega
 have hDC:D≠C:=Vag ltDC
 have hsD:s.heap.objs.size≤D:=Nat.le_of_eq hDD
 have hsC:s.heap.objs.size≤C:=by omega
 have ltS:∀{b:Addr} {o:Obj},s.heap.get? b=some o→b<D:=fun e=>by rw [←hDD];exact Vad e
 have old:∀b o,s.heap.get? b=some o→h₁.get? b=some o:=fun b o e=>by
  refine hk₁ b o ?_
  rw [←hHh]
  exact VaD _ e
 have hD0:h₁.PlainList D #[]:=by
  have z:Hh.get? D=some { cls:=.type "list", dict:=none,data:=.seq ([]:List Value).toArray }:=by
   rw [←hHh,←hDD]
   exact VaE _ rfl
  exact ⟨_,hk₁ D _ z⟩
 obtain ⟨W,⟨m0,w0⟩,turn⟩:=hw C s H fp (X.pn++pins)
 have hg:=hgF C s H fp (X.pn++pins)
 have ht:=htF C s H fp (X.pn++pins)
 have he:=heF C s H fp (X.pn++pins)
 have I':Inv (Zav xf X (own++cap.map (·.1)) scope cl C s H fp (X.pn++pins)) [] (st0 own σ cap) H { s with heap:=h₁,toks:=s.toks }:=(I2.comp (t':=s.toks) O T st2 f2 hsC old hns₁ hx₁).rexe
 have cne:∀x c,(PySem.cellsFrom (C+1) scope.names cl).lookup x=some c→(∃v,s.heap.IsCell c v∧X.env.cells.lookup x=some c)∨C<c:=fun x c e=>by
  rcases hx₁ x c (VaY e) with z | ⟨_,z⟩
  ·obtain ⟨v,hv⟩:=I2.cell x c (O.sub x c z)
   exact .inl ⟨v,hv,O.sub x c z⟩
  ·exact .inr z
 have st':tn 0 h₁:=T.keep _ _ _ st2 fun b hb o e=>old b o e
 have nofr:∀{a:Addr},s.heap.objs.size≤a→a∉frs X.stack:=fun {a} ha z=>by
  rcases Vaq.mp (I2.stkSub a z) with q | q
  ·exact absurd (Vae I2.lt ha) (by rw [q];exact Vaf _)
  ·exact I2.nofs ha q
 have ltfp:∀b∈fp,b<D:=fun b hb=>by
  obtain ⟨o,e,_⟩:=T.obj _ _ st2 b hb
  exact ltS e
 have fpk:∀{H3:Hp} {objD:Obj},(∀b∈fp,H3 b=none)→∀b∈fp,FpOk (Zav xf X (own++cap.map (·.1)) scope cl C s H fp (X.pn++pins)) [(D,objD)] H3 b:=fun {H3 objD} hn b hb=>by
  obtain ⟨_,f1,f3,f4,f5,f6⟩:=f2 b hb
  have lb:=ltfp b hb
  refine ⟨hn b hb,(Vag (Vbr lb ltDC)),fun z=>?_,.inl hb,fun x c e=>?_,fun p hp=>?_⟩
  ·rcases Vaq.mp (I2.stkSub b z) with q | q
   ·exact f1 q
   ·exact f3 q
  ·rcases cne x c e with ⟨_,_,z⟩ | z
   ·exact f5 x c z
   ·exact VaA (Vbr lb (Vbr ltDC z))
  ·rcases Var.mp hp with z | z
   ·exact f6 p z
   ·have z':p=(D,objD):=by simpa using z
    subst z'
    exact VaA lb
 have loop:∀s₃:Shared,s₃={ s with heap:=h₁ } →
   codeAny (model X.prog X.w) X.A (.compLoop (.ListComp elt [⟨tg,iter,ts,0⟩] scope pos) 0 (.ref it) (.ref D) (compEnvC scope (PySem.cellsFrom (C+1) scope.names cl) C X.env)) (R (.ref D) C) s₃:=by
  rintro s₃ rfl
  refine ZhT hts (fun n s'=>∃(i:Nat) (acc:List V) (its:List Value) (H':Hp),Inv (Zav xf X (own++cap.map (·.1)) scope cl C s H fp (X.pn++pins)) [] (st0 own σ cap) H' s'∧tn i s'.heap∧(∀b∈fp,H' b=none)∧H' D=none ∧
   s'.heap.PlainList D its.toArray∧Vals acc its∧W i n acc H') ?_ m0 ⟨0,[],[],H,I',st',fun b hb=>(f2 b hb).1,I2.hok.fresh hsD,hD0,.nil,w0⟩
  rintro n s3 ⟨i,acc,its,H3,I3,st3,fr3,nD,⟨nn,hD⟩,rv,w3⟩
  obtain ⟨hlen,hturn⟩:=turn i n acc H3 w3
  have lenV:=rv.length
  have pinD:∀{s5:Shared} {H5:Hp},s5.heap.get? D=some { cls:=.type "list", data:=.seq its.toArray nn }→H5 D=none→∀p∈[(D,({ cls:=.type "list", data:=.seq its.toArray nn }:Obj))],s5.heap.get? p.1=some p.2∧H5 p.1=none∧p.1≠C∧p.1∉frs X.stack∧∀v,p.2.data≠.cell v:=by
   intro s5 H5 e1 e2 p hp
   have z':p=(D,({ cls:=.type "list", data:=.seq its.toArray nn }:Obj)):=by simpa using hp
   subst z'
   exact ⟨e1,e2,hDC,nofr hsD,fun v z=>by cases z⟩
  have I3p:Inv (Zav xf X (own++cap.map (·.1)) scope cl C s H fp (X.pn++pins)) [(D,{ cls:=.type "list", data:=.seq its.toArray nn })] (st0 own σ cap) H3 s3:=I3.pins_of (pinD hD nD)
  rcases hturn with ⟨stop,qn⟩ | ⟨go,step⟩
  ·refine Vav (T.done (Zav xf X (own++cap.map (·.1)) scope cl C s H fp (X.pn++pins)) rfl rfl rfl hc i _ s3 _ H3 (fun _ _=>False) I3p (fpk fr3) st3 stop) (fun r s4 h4=>?_) (fun _ _ z=>z.elim)
   obtain ⟨hr,I4⟩:=h4
   subst hr
   obtain ⟨m4,hm4,_⟩:=I4.loc
   have hD4:=(I4.pin (D,{ cls:=.type "list", data:=.seq its.toArray nn }) (VaI _ (by simp))).1
   have nC:H3 C=none:=I4.free
   refine fin D C (upd H3 D (.lst acc)) s4 m4 hsC hm4 (by rw [Zaf (Ne.symm hDC)];exact nC) (fun h' sb=>?_) (qn D nD)
   have kc:∀b o,b≠C→s4.heap.get? b=some o→h'.get? b=some o:=fun b o hb e=>sb.extBut b o hb e
   have neD:∀{b:Addr} {o:Obj},s.heap.get? b=some o→b≠D:=fun e=>Vag (ltS e)
   have neC:∀{b:Addr} {o:Obj},s.heap.get? b=some o→b≠C:=fun e=>Vag (Vbr (ltS e) ltDC)
   refine I2.call' (s':={ s4 with heap:=h' }) (ch:=fp) I4.os ⟨?_,?_,?_,?_,?_,?_,?_⟩ (fun a o e=>?_) I4.bare (fun b hb=>?_)
   ·exact fun b o e n hb hx=>kc b o (neC e) (I4.base.keep b o e n hb hx)
   ·intro b o e n hb hx
    obtain ⟨sl,q⟩:=I4.base.slot b o e n hb hx
    exact ⟨sl,kc b _ (neC e) q⟩
   ·intro b o e n hx
    rw [Zaf (neD e)]
    exact I4.base.free b o e n hx
   ·intro b o e hx
    obtain ⟨o',q⟩:=I4.base.there b o e hx
    exact ⟨o',kc b _ (neC e) q⟩
   ·intro b xs e
    have q:=I4.base.tups b xs e
    rw [Zaf (Zae q nD)]
    exact q
   ·intro b o u e
    have q:=I4.base.frzs b o u e
    rw [Zaf (Zae q nD)]
    exact q
   ·intro b ps e
    obtain ⟨more,q⟩:=I4.base.tbls b ps e
    exact ⟨more,by rw [Zaf (Zae q nD)];exact q⟩
   ·by_cases ha:a=D
    ·subst ha
     rw [Zag] at e
     cases e
     exact ⟨hlen,its,nn,rv,kc _ _ hDC hD4⟩
    ·rw [Zaf ha] at e
     refine (I4.hok a o e).stay (fun b u hb q=>kc b u ?_ q) (fun b q=>?_) (fun b xs q=>?_)
     ·rcases hb with rfl | hb
      ·exact Zae e nC
      ·exact Zae hb nC
     ·rw [Zaf (Zae q nD)];exact q
     ·rw [Zaf (Zae q nD)];exact q
   ·obtain ⟨_,f1,_,f4,f5,f6⟩:=f2 b hb
    exact ⟨f4,f1,f5,f6⟩
  ·refine Vav (T.item (Zav xf X (own++cap.map (·.1)) scope cl C s H fp (X.pn++pins)) rfl rfl rfl hc i _ s3 _ H3 (fun _ _=>False) I3p (fpk fr3) st3 go) (fun r s4 h4=>?_) (fun _ _ z=>z.elim)
   obtain ⟨u,hr,h4⟩:=h4
   subst hr
   refine Vav h4 (fun _ s5 h5=>?_) (fun _ _ z=>z.elim)
   obtain ⟨x,H5,I5,r5,y5,st5,fr5⟩:=h5
   have I5':=I5.pinned (fpk fr5) (T.obj _ _ st5)
   refine Vav (hg _ s5 _ H5 x u _ I5' r5 (step x H5 y5)) (fun _ s6 h6=>?_) (fun e s' z=>hexc D C _ e s' hsC z)
   obtain ⟨σ6,H6,I6,e6,q6⟩:=h6
   refine Vav (ht _ s6 σ6 H6 _ I6 q6) (fun bb s6' h6'=>?_) (fun e s' z=>hexc D C _ e s' hsC z)
   obtain ⟨H6',I6',q6'⟩:=h6'
   have stay:∀{H7:Hp} {s7:Shared},Inv (Zav xf X (own++cap.map (·.1)) scope cl C s H fp (X.pn++pins)) [] σ6 H7 s7→Inv (Zav xf X (own++cap.map (·.1)) scope cl C s H fp (X.pn++pins)) [] (st0 own σ cap) H7 s7:=fun {H7 s7} I8=>by
    refine I8.weak (I'.len.trans I8.len.symm) (fun j v e=>?_)
    obtain ⟨l,p,rfl,hp,hs⟩:=Zmj e
    have q:(σ6.drop own.length)[l]?=some (some v):=by
     rw [e6]
     unfold capt
     rw [Va2,hp]
     show some ((σ[p.2]?).join)=_
     rw [hs]
     rfl
    rwa [List.getElem?_drop] at q
   cases bb with
   | false =>
    rw [if_neg Vaz] at q6' ⊢
    obtain ⟨m',hm,w7⟩:=q6'
    obtain ⟨hD7,nD7,_⟩:=I6'.pin (D,{ cls:=.type "list", data:=.seq its.toArray nn }) (VaI _ (by simp))
    have st7:tn (i+1) s6'.heap:=T.keep _ _ _ st5 fun b hb o e=>(I6'.pin (b,o) (VaI _ (VaI _ (Zcc hb e)))).1
    have fr7:∀b∈fp,H6' b=none:=fun b hb=>by
     obtain ⟨o,e,_⟩:=T.obj _ _ st5 b hb
     exact (I6'.pin (b,o) (VaI _ (VaI _ (Zcc hb e)))).2.1
    exact ⟨m',hm,i+1,acc,its,H6',stay (I6'.pins_of fun p hp=>nomatch hp),st7,fr7,nD7,⟨nn,hD7⟩,rv,w7⟩
   | true =>
   rw [if_pos rfl] at q6' ⊢
   refine Vav (he _ s6' σ6 H6' _ I6' q6') (fun y s7 h7=>?_) (fun e s' z=>hexc D C _ e s' hsC z)
   obtain ⟨v,H7,I7,r7,hl7,m',hm,w7⟩:=h7
   obtain ⟨hD7,nD7,_⟩:=I7.pin (D,{ cls:=.type "list", data:=.seq its.toArray nn }) (VaI _ (by simp))
   have st7:tn (i+1) s7.heap:=T.keep _ _ _ st5 fun b hb o e=>(I7.pin (b,o) (VaI _ (VaI _ (Zcc hb e)))).1
   have fr7:∀b∈fp,H7 b=none:=fun b hb=>by
    obtain ⟨o,e,_⟩:=T.obj _ _ st5 b hb
    exact (I7.pin (b,o) (VaI _ (VaI _ (Zcc hb e)))).2.1
   refine wpAny_list_append_plain (l:=D) (items:=its.toArray) ⟨nn,hD7⟩ (fun h8 hp8 hs8=>?_) (by rw [Va6];omega)
   have I7w:Inv (Zav xf X (own++cap.map (·.1)) scope cl C s H fp (X.pn++pins)) [] σ6 H7 s7:=I7.pins_of fun p hp=>nomatch hp
   have I8:Inv (Zav xf X (own++cap.map (·.1)) scope cl C s H fp (X.pn++pins)) [] σ6 H7 { s7 with heap:=h8 }:=by
    refine I7w.turned (t':=s7.toks) (it:=D) (fun b o hb e=>hs8.extBut b o hb e) nD7 hDC (.inr hsD) (fun x c e=>?_) (fun p hp=>?_)
    ·rcases cne x c e with ⟨v,⟨o,ho,_⟩,_⟩ | z
     ·exact Vag (ltS ho)
     ·exact VaA (Vbr ltDC z)
    ·have hp':p∈X.pn++pins:=by simpa [Zav,Zay] using hp
     exact Vag (ltS (I2.pin p hp').1)
   have I9:=stay I8
   refine ⟨m',hm,i+1,acc++[v],its++[y],H7,I9,T.keep _ _ _ st7 (fun b hb o e=>hs8.extBut b o (Vag (ltfp b hb)) e),fr7,nD7,?_,rv.append (.cons r7 .nil),w7⟩
   simpa using hp8
 exact codeAny_compStart_list (loop _ rfl) (T.self X.A 0 _ _ _ st' (loop _ rfl))
theorem ZjB{elt iter:Expr}{ts:List Expr}{pos:Pos}{gF:Fam TG}{ttF:Fam TT}{teF:Fam TE}{E:Value→Shared→Prop}(O:Zdk X own cap scope cl)(hc:X.calm=true)
  (hgF:∀C s H fp pn,PG (Zay X (own++cap.map (·.1)) scope cl C s H fp pn) tg (gF C s H fp pn)) (htF:∀C s H fp pn,PTs (Zay X (own++cap.map (·.1)) scope cl C s H fp pn) ts (ttF C s H fp pn)) (heF:∀C s H fp pn,PE (Zay X (own++cap.map (·.1)) scope cl C s H fp pn) elt (teF C s H fp pn)) (hts:ts.length≤1)
  (I2:Inv X pins σ H s) (T:Turn X.prog X.w X.K tg J fp it tn) (st2:tn 0 s.heap) (f2:∀b∈fp,FpOk X pins H b) {Q:VK}
  (hw:∀C s H2 fp pn,Zdz J (gF C s H2 fp pn) (ttF C s H2 fp pn) (teF C s H2 fp pn) own cap σ Q H)
  {R:Value→Addr→Result→Shared→Prop}
  (fin:∀(D C:Addr) (H':Hp) (s':Shared) (m:Str→Option Value),s.heap.objs.size≤C→s'.heap.Ns C m→H' C=none →
   (∀h',Heap.SameBut C s'.heap h'→Inv X pins σ H' { s' with heap:=h' })→Q (.ref D) H'→R (.ref D) C (.ok .next) s') :
  wpAny (model X.prog X.w) X.A (newList []) (fun acc s₃=>wpAny (model X.prog X.w) X.A (newFunctionEnv scope X.env.globals cl [] X.env.qual none .none (some X.env)) (fun cenv s₄ =>
   codeAny (model X.prog X.w) X.A (.compStart (.ListComp elt [⟨tg,iter,ts,0⟩] scope pos) 0 (.ref it) acc { cenv with scope:=relabel scope X.env }) (R acc cenv.locals) s₄) E s₃) E s :=
 Zim (xf:=fun _ _ _ _ _ _=>False) O hc hgF htF heF hts I2 T st2 f2 hw fin fun _ _ _ _ _ _ z=>z.elim
theorem Zo7{elt iter:Expr}{pos:Pos}{wi:TI}{ts:List Expr}{g:Fam TG}{tt:Fam TT}{te:Fam TE}(hi:PI X tg iter wi)(O:Zdk X own cap scope cl)(hc:X.calm=true)
  (hg:∀C s H fp pn,PG (Zay X (own++cap.map (·.1)) scope cl C s H fp pn) tg (g C s H fp pn)) (ht:∀C s H fp pn,PTs (Zay X (own++cap.map (·.1)) scope cl C s H fp pn) ts (tt C s H fp pn)) (he:∀C s H fp pn,PE (Zay X (own++cap.map (·.1)) scope cl C s H fp pn) elt (te C s H fp pn)) (hts:ts.length≤1)
  (hs:∀x,foldedSetIterable iter X.env x=pure x:=by intro _;rfl):PE X (.ListComp elt [⟨tg,iter,ts,0⟩] scope pos) (Zfp wi g tt te own cap):=by
 intro pins s σ H Q I h
 rw [eval_ListComp]
 refine wpAny_comprehension_free (use:=none) rfl hs O.clos O.kind O.locals (thn (hi pins s σ H _ I h) fun xv s₁ h₁=>thn h₁ fun itv s₂ h₂=>?_)
 obtain ⟨it,fp,tn,J,H2,rfl,I2,T,st2,f2,hw⟩:=h₂
 refine ZjB (R:=fun acc C=>compPost (model X.prog X.w) X.A X.xe none (EP X pins σ Q) acc C) O hc hg ht he hts I2 T st2 f2 hw ?_
 intro D C H' s' m hC hn hH IV q
 exact ⟨m,hn,fun h' sb=>⟨.ref D,H',IV h' sb,rfl,q⟩⟩
theorem Zkv{elt iter:Expr}{pos pos' spos:Pos}{wi:TI}{ts:List Expr}{g:Fam TG}{tt:Fam TT}{te:Fam TE}{i:Nat}{x:Str}(hN:X.N.Nodup)(hix:X.N[i]?=some x)(hx:Loc X.env.scope x)(hi:PI X tg iter wi)(O:Zdk X own cap scope cl)(hc:X.calm=true)
  (hg:∀C s H fp pn,PG (Zay X (own++cap.map (·.1)) scope cl C s H fp pn) tg (g C s H fp pn)) (ht:∀C s H fp pn,PTs (Zay X (own++cap.map (·.1)) scope cl C s H fp pn) ts (tt C s H fp pn)) (he:∀C s H fp pn,PE (Zay X (own++cap.map (·.1)) scope cl C s H fp pn) elt (te C s H fp pn)) (hts:ts.length≤1)
  (hsw:swapsWith (.ListComp elt [⟨tg,iter,ts,0⟩] scope pos) (some (.Name x pos')) spos.line X.env=pure true:=by rfl)
  (hs:∀x,foldedSetIterable iter X.env x=pure x:=by intro _;rfl)
  (hf:X.fn x=true∨X.env.scope.names.lookup x=some .local:=by first | exact .inl rfl | exact .inr rfl | assumption):PS X (.Assign [.Name x pos'] (.ListComp elt [⟨tg,iter,ts,0⟩] scope pos) spos) (tAsg (Zfp wi g tt te own cap) (Zgs i)):=by
 intro pins s σ H D I h
 rw [exec_Assign_Name_used _ _ _ _ hsw]
 refine VaC (wpAny_standAt (VaC ?_))
 show wpAny _ X.A (do let _ ←comprehension (.ListComp elt [⟨tg,iter,ts,0⟩] scope pos) scope X.env _ (newList []) false (eval iter X.env) (some (assign (.Name x pos') X.env))) _ _ s
 refine VaC (Vav (wpAny_comprehension_free (use:=some (assign (.Name x pos') X.env)) (Q:=fun _ s'=>SP X pins D .next s') rfl hs O.clos O.kind O.locals
  (thn (hi pins s σ H _ I h) fun xv s₁ h₁=>thn h₁ fun itv s₂ h₂=>?_)) (fun _ s' hq=>VaB (VaB hq)) fun _ _ e=>e)
 obtain ⟨it,fp,tn,J,H2,rfl,I2,T,st2,f2,hw⟩:=h₂
 refine ZjB (Q:=fun x H1=>Zgs i x σ H1 D.nx) (R:=fun acc C=>compPost (model X.prog X.w) X.A X.xe (some (assign (.Name x pos') X.env)) (fun _ s'=>SP X pins D .next s') acc C) O hc hg ht he hts I2 T st2 f2 hw ?_
 intro A C H' s' m hC hn hH IV q
 show wpAny _ X.A (assign (.Name x pos') X.env (.ref A)) _ _ _
 have I3:Inv X pins σ H' s':=IV s'.heap (Heap.SameBut.refl ..)
 obtain ⟨oc,es,ep,ho,hd,hk⟩:=id hn
 have neL:C≠X.env.locals:=VaA (Vae I2.lt hC)
 have neF:C∉X.fs:=I2.nofs hC
 have I4:Inv X (pins++[(C,oc)]) σ H' s':=I3.pins_of fun p hp=>by
  rcases Var.mp hp with z | z
  ·exact I3.pin p (VaI _ z)
  ·have z':p=(C,oc):=by simpa using z
   subst z'
   exact ⟨ho,hH,neL,neF,fun v e=>by rw [hd] at e;cases e⟩
 refine wpAny_assign_Name (Zht I4 hN hix hx (v:=.ref A) rfl (fun s5 I5=>?_) hf)
 have ho5:=(I5.pin (C,oc) (VaI _ (VaI _ (by simp)))).1
 refine ⟨m,⟨oc,es,ep,ho5,hd,hk⟩,fun h' sb=>⟨_,H',?_,q⟩⟩
 refine (I5.unpinned (pl:=[(C,oc)])).turned (t':=s5.toks) (it:=C) (fun b o hb e=>sb.extBut b o hb e) hH neL (.inr (Vaj I2.sz hC)) (fun y c e=>?_) (fun p hp=>?_)
 ·obtain ⟨v,o,hc',_⟩:=I2.cell y c e
  exact Vag (Vae (Vad hc') hC)
 ·exact Vag (Vae (Vad (I2.pin p hp).1) hC)
end
def ZfK(scope out:Scope):List (Str×NameKind):=scope.names.map fun (n,k)=>if (k==.free&&out.kind==.function&&out.names.lookup n==some .cell) then (n,.cell) else (n,k)
def Zlj(scope out:Scope)(cn:List Str):Bool :=
 scope.names.all (fun y=>y.2 != .cell||!cn.contains y.1)&&scope.names.all (fun y=>y.2 != .local||scope.names.lookup y.1==some .local)&&(ZfK scope out).all (fun y=>!(y.2==.cell||y.2==.free)||cn.contains y.1||scope.names.contains (y.1,.cell))&&cn.all (fun n=>out.names.lookup n==some .cell&&(ZfK scope out).lookup n==some .cell)
def Zmf(X:Cx):List (Str×Addr)→Prop
 | []=>True
 | p::r=>X.env.cells.lookup p.1=some p.2∧Zmf X r
theorem Zmf.mem{X:Cx}:∀{cl:List (Str×Addr)} {p:Str×Addr},Zmf X cl→p∈cl→X.env.cells.lookup p.1=some p.2
 | _::_,_,h,.head _=>h.1
 | _::_,_,h,.tail _ m=>Zmf.mem h.2 m
def CapN(X:Cx):List (Str×Nat)→Prop
 | []=>True
 | p::r=>X.N[p.2]?=some p.1∧CapN X r
theorem ZfW{α:Type}{x:Str}:∀{l:List (Str×α)},x∈l.map (·.1)→∃c,l.lookup x=some c
 | [],h=>by simp at h
 | (y,c)::r,h=>by
  by_cases e:x=y
  ·subst e;exact ⟨c,by simp⟩
  ·have h':x∈r.map (·.1):=by
    rcases Vbs.mp h with ⟨p,hp,rfl⟩
    rcases Vaq.mp hp with rfl | hp
    ·exact absurd rfl e
    ·exact Vbs.mpr ⟨p,hp,rfl⟩
   obtain ⟨d,hd⟩:=ZfW (l:=r) h'
   exact ⟨d,by rw [Vbq,beq_false_of_ne e];exact hd⟩
theorem Zdk.of{X:Cx}{own:List Str}{cap:List (Str×Nat)}{scope:Scope}{cl:List (Str×Addr)}(clos:closureFor scope X.env=pure cl)(kind:scope.kind=.function)(chk:Zlj scope X.env.scope (cap.map (·.1))=true)
  (names:cl.map (·.1)=cap.map (·.1)) (sub:Zmf X cl) (capn:CapN X cap):Zdk X own cap scope cl:=by
 unfold Zlj at chk
 simp only [Vbh,List.all_eq_true] at chk
 obtain ⟨⟨⟨h1,h2⟩,h3⟩,h4⟩:=chk
 have sub':∀x c,cl.lookup x=some c→X.env.cells.lookup x=some c:=fun x c e=>sub.mem (VaY e)
 have capk:∀(l:List (Str×Nat)),(∀p∈l,p.1∈cap.map (·.1))→CapN X l→ZkK X (relabel scope X.env) cl l:=by
  intro l
  induction l with
  | nil=>exact fun _ _=>trivial
  | cons p r ih =>
   intro hm hn
   have hp:=hm p Van
   have hq:=h4 p.1 hp
   have e1:X.env.scope.names.lookup p.1=some .cell:=by simpa using hq.1
   have e2:(ZfK scope X.env.scope).lookup p.1=some .cell:=by simpa using hq.2
   obtain ⟨c,hc⟩:=ZfW (l:=cl) (x:=p.1) (by rw [names];exact hp)
   exact ⟨⟨hn.1,e1,e2,c,hc,sub' _ _ hc⟩,ih (fun q hq=>hm q (Vao _ hq)) hn.2⟩
 refine ⟨clos,kind,fun x c hm y hy hk=>?_,fun y hy e=>?_,fun x c hm=>sub.mem hm,fun k x hx=>?_,capk cap (fun p hp=>Vbs.mpr ⟨p,hp,rfl⟩) capn⟩
 ·have:=h1 y hy
  rw [hk] at this
  rintro rfl
  have hc:y.1∈cap.map (·.1):=by rw [←names];exact Vbs.mpr ⟨_,hm,rfl⟩
  simp at this
  simp at hc
  obtain ⟨a,ha⟩:=hc
  exact this a ha
 ·have:=h2 y hy
  rw [e] at this
  simpa using this
 ·have fin:∀k',(ZfK scope X.env.scope).lookup x=some k'→(k'=.cell∨k'=.free)→∃c,(PySem.cellsFrom k scope.names cl).lookup x=some c:=by
   intro k' e hk
   have:=h3 _ (VaY e)
   refine Option.isSome_iff_exists.mp (Ze1 scope.names k cl ?_)
   have this':x∈cap.map (·.1)∨(x,NameKind.cell)∈scope.names:=by
    rcases hk with rfl | rfl
    ·simpa using this
    ·simpa using this
   rcases this' with z | z
   ·obtain ⟨c,hc⟩:=ZfW (l:=cl) (x:=x) (by rw [names];exact z)
    exact .inl (by rw [hc];rfl)
   ·exact .inr z
  rcases hx with e | e
  ·exact fin _ e (.inl rfl)
  ·exact fin _ e (.inr rfl)
section
variable{X:Cx}{e st:Expr}{te ts:TE}{p2 pos:Pos}
def tRev(K:W.Frag)(te ts:TE):TE:=fun σ H Q=>te σ H fun x H1=>ts σ H1 fun y H2=>y=.int (-1)∧∃a xs,x=.ref a∧SqL K H2 a xs∧∀p,H2 p=none→Q (.ref p) (upd H2 p (.lst xs.reverse))
theorem Ztc(he:PE X e te)(hst:PE X st ts):PE X (.Subscript e (.Slice none none (some st) p2) pos) (tRev X.K te ts):=by
 intro pins s σ H Q I h
 refine Subscript_ (thn (he pins s σ H _ I h) fun v s1 ⟨x,H1,I1,r1,q1⟩=>?_)
 refine wpAny_Slice ?_
 rw [evalPart_none,evalPart_some]
 refine VaB (VaB ?_)
 refine thn (hst pins s1 σ H1 _ I1 q1) fun vk s3 ⟨y,H3,I3,r3,q3⟩=>?_
 obtain ⟨rfl,a,xs,rfl,hx,q⟩:=q3
 cases r1
 obtain ⟨tk,rfl⟩:=r3
 have I4:Inv X pins σ H3 { s3 with heap:=s3.heap.push { cls:=.type "slice", data:=.fields #[.none,.none,.int (-1) tk] } }:=I3.kept (t':=s3.toks) fun b ob q=>VaD _ q
 show wpAny (model X.prog X.w) X.A (subscriptTail e (.Slice none none (some st) p2) (.ref a) (.ref s3.heap.objs.size)) (EP X pins σ Q) X.xe { s3 with heap:=s3.heap.push { cls:=.type "slice", data:=.fields #[.none,.none,.int (-1) tk] } }
 obtain ⟨its,r,ht,hz⟩:=I4.list hx
 have hlen:=r.length
 refine tail_any (ops:=[.ref a,.ref s3.heap.objs.size]) ht.isList.typeIs slot_list_getitem.lookup ?_ (by with_unfolding_all rfl)
 refine wpAny_getItem_list_slice ht.isList (Heap.IsSliceOf.new ..) .none .none (.int (-1) tk) (by decide) ?_ (by rw [Va6]<;>omega)
 rw [W.krv_pick]
 refine ⟨.ref _,_,I4.laid (t':=s3.toks) (o:=.lst xs.reverse) (fun b ob q=>VaD _ q) (VaF _) ?_,rfl,q _ (I4.hok.fresh (VaF _))⟩
 refine ⟨by rw [List.length_reverse];exact hz,its.reverse,0,r.reverse,?_⟩
 exact VaE _ rfl
end
theorem Zca.there{P:Program}{w:World}{H:Hp}{h:Heap}{a:Addr}{o:HO}(x:Zca P w H h a o):∃ob,h.get? a=some ob:=by
 cases o with
 | lst xs=>obtain ⟨_,_,_,_,e⟩:=x;exact ⟨_,e⟩
 | tup xs=>obtain ⟨_,_,_,o,e,_⟩:=x;exact ⟨_,e⟩
 | dK kvs=>obtain ⟨_,_,_,_,o,_,_,e,_⟩:=x;exact ⟨_,e⟩
 | dT kvs=>obtain ⟨_,_,_,_,o,_,_,e,_⟩:=x;exact ⟨_,e⟩
 | set S n=>obtain ⟨o,_,_,_,e,_⟩:=x;exact ⟨_,e⟩
 | ins C dx fs=>obtain ⟨_,_,_,e,_⟩:=x;exact ⟨_,e⟩
 | own y=>obtain ⟨_,e⟩:=x;exact ⟨_,e⟩
 | xd fs=>obtain ⟨_,⟨_,_,_,e,_⟩,_⟩:=x;exact ⟨_,e⟩
 | rng lo hi=>obtain ⟨_,_,_,e⟩:=x;exact ⟨_,e⟩
 | frz ob u=>obtain ⟨e,_⟩:=x;exact ⟨_,e⟩
 | tbl ps=>exact ⟨_,(show h.get? a=some _ from x)⟩
 | met f y=>exact ⟨_,(show h.get? a=some _ from x)⟩
 | ext φ=>obtain ⟨_,⟨_,e⟩,_⟩:=x;exact ⟨_,e⟩
theorem HOk.free{P:Program}{w:World}{H:Hp}{h:Heap}(x:HOk P w H h){a:Addr}(e:h.get? a=none):H a=none:=by
 cases q:H a with
 | none=>rfl
 | some o =>
  obtain ⟨ob,z⟩:=(x a o q).there
  rw [e] at z;cases z
structure Fly(P:Program)(w:World)(l:List Env)(H H':Hp)(s s':Shared)(x:Addr)(cls:Value):Prop where
 os:s'.os=s.os
 bare:AllBare s'.gens
 un:Un (frs l) [] H H' s.heap s'.heap
 hok:HOk P w H' s'.heap
 frf:∀b∈frs l,H' b=none
 free:H' x=none
 ex:∃(B:Heap) (a0:Value),Heap.FlyingW B l x cls a0 s'.heap∧∀b o,s'.heap.get? b=some o→(H' b≠none∨∃o',s.heap.get? b=some o')→b∉frs l→B.get? b=some o
theorem ZoU{P:Program}{w:World}{l l':List Env}{H H':Hp}{s s':Shared}{x:Addr}{cls a0:Value}{B h':Heap}(os:s'.os=s.os)(bare:AllBare s'.gens)(un:Un (frs l) [] H H' s.heap s'.heap)(hok:HOk P w H' s'.heap)
  (frf:∀b∈frs l,H' b=none) (nf:∀b∈frs l,∃o,s'.heap.get? b=some o∧∀vs,o.data≠.fields vs)
  (cov:∀b o,s'.heap.get? b=some o→(H' b≠none∨∃o',s.heap.get? b=some o')→b∉frs l→B.get? b=some o)
  (sub:∀b∈frs l',b∈frs l) (new:∀b∈frs l,b∉frs l'→s.heap.get? b=none) (fl:Heap.FlyingW B l' x cls a0 h') (sm:s'.heap.UpToSlots h') (free:H' x=none) :
  Fly P w l' H H' s { s' with heap:=h' } x cls:=by
 have stay:∀b o,s'.heap.get? b=some o→(H' b≠none∨∃o',s.heap.get? b=some o')→b∉frs l→h'.get? b=some o:=fun b o e q hb=>fl.1 b o (cov b o e q hb)
 have out:∀{b:Addr} {o:Obj},s.heap.get? b=some o→b∉frs l'→b∉frs l:=fun {b o} e hb z=>by
  rw [new b z hb] at e;cases e
 refine ⟨os,bare,⟨fun b o e n hb hx=>?_,fun b o e n hb hx=>?_,un.free,fun b o e hx=>?_,un.tups,un.frzs,un.tbls⟩,fun a o e=>?_,fun b hb=>frf b (sub b hb),free,B,a0,fl,fun b o e q hb=>?_⟩
 ·exact stay b o (un.keep b o e n (out e hb) hx) (.inr ⟨o,e⟩) (out e hb)
 ·obtain ⟨sl,q⟩:=un.slot b o e n (sub b hb) hx
  obtain ⟨o1,q1,d1⟩:=nf b (sub b hb)
  rw [q] at q1;cases q1
  obtain ⟨sl',q2⟩:=sm b _ q d1
  exact ⟨sl',q2⟩
 ·obtain ⟨o',q⟩:=un.there b o e hx
  by_cases hb:b∈frs l
  ·obtain ⟨o1,q1,d1⟩:=nf b hb
   obtain ⟨sl',q2⟩:=sm b _ q1 d1
   exact ⟨_,q2⟩
  ·exact ⟨o',stay b o' q (.inr ⟨o,e⟩) hb⟩
 ·refine (hok a o e).stay (fun b u hb q=>?_) (fun _ q=>q) fun _ _ q=>q
  have tr:H' b≠none:=by
   rcases hb with rfl | hb
   ·rw [e];simp
   ·rw [hb];simp
  exact stay b u q (.inl tr) fun z=>tr (frf b z)
 ·have hb':b∉frs l:=by
   intro z
   rcases q with q | ⟨o',q⟩
   ·exact q (frf b z)
   ·exact out q hb z
  have ⟨o1,q1⟩ : ∃o1,s'.heap.get? b=some o1:=by
   rcases q with q | ⟨o',q⟩
   ·cases z:H' b with
    | none=>exact absurd z q
    | some u=>exact (hok b u z).there
   ·exact un.there b o' q (by simp)
  have c:=cov b o1 q1 q hb'
  have z:=fl.1 b o1 c
  have e':h'.get? b=some o:=e
  rw [e'] at z;cases z
  exact c
section
variable{X:Cx}{pins:List (Addr×Obj)}{σ:St}{H H':Hp}{s s':Shared}{x:Addr}{cls:Value}
theorem Inv.unStack(I:Inv X pins σ H s)(hex:X.ex=[])(hfs:∀b∈X.fs,b∈frs X.stack):Un (frs X.stack) [] X.H₀ H X.s₀.heap s.heap:=I.base.mono hfs (by rw [hex];exact fun _ z=>z)
theorem Inv.sub(I:Inv X pins σ H s):∀b∈X.fs,b∈frs X.stack:=fun b hb=>by
 rcases I.ok.stk with e | ⟨e,hf⟩
 ·rw [e];exact hb
 ·rw [e]
  unfold frs
  rw [Vam,hf]
  exact Vao _ hb
theorem Inv.flyOut(I:Inv X pins σ H s)(hex:X.ex=[])(F:Fly X.prog X.w X.stack H H' s s' x cls){B h':Heap}{a0:Value}(fl0:Heap.FlyingW B X.stack x cls a0 s'.heap)
  (cov:∀b o,s'.heap.get? b=some o→(H' b≠none∨∃o',s.heap.get? b=some o')→b∉frs X.stack→B.get? b=some o) (fl:Heap.FlyingW B X.outer x cls a0 h') (sm:s'.heap.UpToSlots h') :
  Fly X.prog X.w X.outer X.H₀ H' X.s₀ { s' with heap:=h' } x cls:=by
 refine ZoU (F.os.trans I.os) F.bare ((I.unStack hex I.sub).trans F.un) F.hok F.frf (fun b hb=>(fl0.2.2.1.mem hb).2) (fun b o e q hb=>cov b o e (q.imp id fun ⟨o',z⟩=>I.base.there b o' z (by rw [hex];simp)) hb) I.sub (fun b h1 h2=>?_) fl sm F.free
 rcases Vaq.mp (I.stkSub b h1) with e | e
 ·rw [e];exact Vap I.ok.above
 ·exact absurd e h2
end
def CXR(P:Program)(w:World):CXT:=fun outer H s E e s'=>∃(x:Addr) (cls:Value) (H':Hp),e=.ref x∧Fly P w outer H H' s s' x cls∧E cls none H'
section
variable{P:Program}{w:World}{K:W.Frag}{mg:Str→Option Value}{base:Heap}{N:List Str}{qual:Str}{scope:Scope}{f:Addr}{cd:Value}{A:Around}{outer:List Env}{s₀:Shared}{H₀:Hp}{E:XK}
theorem ZaB:Zcl (CXR P w) (cxOf (CXR P w) P w K mg base N qual scope f cd A outer s₀ H₀ E) E:=by
 intro pins σ H s e s' I h
 obtain ⟨x,cls,H',rfl,F,q⟩:=h
 obtain ⟨B,a0,fl,cov⟩:=F.ex
 show wpAny (model P w) (A.deeper (envOfC qual scope s₀.heap.objs.size f cd)) (leaving (envOfC qual scope s₀.heap.objs.size f cd) (.ref x)) _ _ s'
 exact wpAny_leaves_onW I.ok.frames rfl fl fun h' fl' sm=>⟨x,cls,H',rfl,I.flyOut rfl F fl cov fl' sm,q⟩
end
abbrev ZfR:List Value:=[.type "ValueError", .type "Exception", .type "BaseException", .type "object"]
theorem Zrl{K:W.Frag}{h₀:Heap}{mg:Str→Option Value}{x:Str}{C:Addr}{bmB:List Value}{newId:String}(X:K.In h₀)(m:mg x=some (.ref C))(q:W.excIn K C bmB newId=true):OwnCls x C bmB newId mg h₀:=by
 refine ⟨m,?_⟩
 unfold W.excIn at q
 split at q
 ·rename_i dd cd sl ho
  split at q
  ·rename_i C' bm k0 k1 k2 k3 n k5 hm hs
   simp only [Vbh,VaK,Bool.not_eq_true'] at q
   obtain ⟨⟨⟨⟨⟨rfl,rfl⟩,hdel⟩,ht⟩,hok⟩,hni⟩:=q
   obtain ⟨nm,bs,mro,ns,qn,hd,sn,sub,ab,col,del⟩:=cd
   dsimp only at hm hdel hok hni
   subst hm hdel
   have hsl:sl=#[k0,k1,k2,k3,some (.builtin n),k5]:=by
    obtain ⟨l⟩:=sl
    simp only at hs
    rw [hs]
   subst hsl
   exact ⟨bm,ns,nm,qn,bs,hd,sn,sub,ab,col,dd,k0,k1,k2,k3,k5,_,X _ _ ho,.of_isNs (W.isNs_of_in X hok),W.nsMap_none_of_in X hok hni,W.tail_of_in X ht⟩
  ·cases q
 ·cases q
section
variable{X:Cx}{pins:List (Addr×Obj)}{σ:St}{H:Hp}{s:Shared}
theorem Inv.flyMade(I:Inv X pins σ H s)(hex:X.ex=[])(hst:X.stack=X.env::X.outer)(hfr:X.env.frame=some X.env.locals){x:Addr}{cls:Value}{args:List Value}{s1:Shared}{h1:Heap}(e1:s1={ s with heap:=h1,toks:=s1.toks })(hx:Heap.MadeExcOf s.heap h1 x cls args)
  {Q:Unit→Shared→Prop} {E:Value→Shared→Prop} (k:∀s2,Fly X.prog X.w X.outer X.H₀ H X.s₀ s2 x cls→Q () s2):wpAny (model X.prog X.w) X.A (leaving X.env (.ref x)) Q E s1:=by
 have hin:∀env∈X.stack,∀b,env.frame=some b→b∈frs X.stack:=fun env he b hb=>VaH.mpr ⟨env,he,hb⟩
 have hh1:s1.heap=h1:=by rw [e1]
 refine wpAny_leaves_madeW (base:=W.hideAll s.heap (frs X.stack)) (h:=s.heap) (outer:=X.outer) (by rw [←hst];exact I.ok.frames) hfr (fun b o q=>W.of_hideAll _ q) (by rw [←hst];exact W.funFrames_hide I.stack hin) (by rw [hh1];exact hx) fun h2 t fl _ _ sm=>?_
 refine k _ ?_
 have F:Fly X.prog X.w X.outer X.H₀ H X.s₀ { s with heap:=h2 } x cls:=by
  refine ZoU (B:=W.hideAll s.heap (frs X.stack)) I.os I.bare (I.unStack hex I.sub) I.hok I.stkFree (fun b hb=>(I.stack.mem hb).2) (fun b o e _ hb=>W.hideAll_get _ e hb) I.sub (fun b h1 h2=>?_) fl ((Heap.UpToSlots.of_keeps hx.keeps).trans (by rw [←hh1];exact sm)) (I.hok.free hx.new)
  rcases Vaq.mp (I.stkSub b h1) with e | e
  ·rw [e];exact Vap I.ok.above
  ·exact absurd e h2
 refine ⟨?_,?_,F.un,F.hok,F.frf,F.free,F.ex⟩
 ·rw [e1];exact I.os
 ·rw [e1];exact I.bare
end
section
variable{P:Program}{w:World}{K:W.Frag}{mg:Str→Option Value}{base:Heap}{N:List Str}{qual:Str}{scope:Scope}{f:Addr}{cd:Value}{A:Around}{outer:List Env}{s₀:Shared}{H₀:Hp}{E:XK}
def ZoA(E:XK)(C:Addr)(te:TA):TS:=fun _ σ H=>te σ H fun vs H1=>vs.length≤1000∧E (.ref C) none H1
theorem Zoa{x:Str}{C:Addr}{np cpos pos:Pos}{e:Expr}{es:List Expr}{t:TA}(hg:Gl (cxOf (CXR P w) P w K mg base N qual scope f cd A outer s₀ H₀ E) x)(hm:mg x=some (.ref C))(hq:W.excIn K C ZfR "ValueError.__new__"=true)
  (ha:PA (cxOf (CXR P w) P w K mg base N qual scope f cd A outer s₀ H₀ E) (e::es) t) (hd:(x==("__debug__" : Str))=false:=by decide)
  (he:starEach (e::es) (cxOf (CXR P w) P w K mg base N qual scope f cd A outer s₀ H₀ E).env=(false,eval e (cxOf (CXR P w) P w K mg base N qual scope f cd A outer s₀ H₀ E).env)::starEach es (cxOf (CXR P w) P w K mg base N qual scope f cd A outer s₀ H₀ E).env:=by rfl)
  (hpl:(backTo cpos (starEach es (cxOf (CXR P w) P w K mg base N qual scope f cd A outer s₀ H₀ E).env)).any (·.1)=false:=by rfl) :
  PS (cxOf (CXR P w) P w K mg base N qual scope f cd A outer s₀ H₀ E) (.Raise (some (.Call (.Name x np) (e::es) [] cpos)) none pos) (ZoA E C t):=by
 intro pins s σ H D I h
 obtain ⟨tl,Nn,nm,q,bs,hdct,sn,sub,ab,col,dd,k0,k1,k2,k3,k5,mN,hC,hN,hni,T⟩:=(Zrl I.mod.kin hm hq).obj
 refine wpAny_Raise_call_subU (C:=C) (nm:=nm) (q:=q) (N:=Nn) (bs:=bs) (bm:=tl) (hdct:=hdct) (sn:=sn) (sub:=sub) (ab:=ab) (col:=col) (dd:=dd) (k0:=k0) (k1:=k1) (k2:=k2) (k3:=k3) (k5:=k5)
  PySem.F.excBase_ValueError (bmB:=ZfR) (by decide +kernel) PySem.F.excBase_ValueError (mN:=mN) (T.hasType PySem.F.excBase_ValueError.hasBase) (I.ok.hd rfl) (by rw [he];show (false||(backTo cpos (starEach es _)).any (·.1))=false;rw [hpl];rfl) hni (ZhA I hg hm ⟨rfl,?_⟩ hd)
 have hw:=ha cpos pins s σ H _ I h
 rw [he] at hw ⊢
 refine Calls.evalArgs_plain (Vav hw (fun us s2 z=>?_) fun _ _ y=>y)
 obtain ⟨vs,H2,I2,rv,hl,q2⟩:=z
 refine ⟨rfl,by rw [←rv.length];exact Vak (Zlg hl),I2.bk _ _ hC,hN.keeps I2.bk,T.keeps I2.bk,fun h' ex hx=>?_⟩
 exact I2.flyMade rfl rfl rfl rfl hx fun s3 F=>⟨ex,.ref C,H2,rfl,F,q2⟩
end
def ExcAt(a:Addr)(C:Value)(h:Heap):Prop:=∃ob,h.get? a=some ob∧ob.cls=C
def exO(a:Addr)(C:Value):HO:=.ext (ExcAt a C)
end L2
namespace L2
open PySem PySem.Spec PyProof.Rows PySem.Calls
section
open PySem.Builtin PySem.Builtin.ObjectAttr PySem.Builtin.Getset_descriptor PySem.W
variable{prog:Program}{w:World}{A:Around}{E:Value→Shared→Prop}{s:Shared}{K:W.Frag}{x D:Addr}{name:Str}{M:Model}{h:Heap}
end
end L2
namespace L2
open PySem PySem.Spec PyProof.Rows
theorem ZlA(l:Addr)(items:Array Value)(n:Nat)(sl:Array (Option Value))(b:Addr)(items2:Array Value)(n2:Nat)(sl2:Array (Option Value))(hc0:items.size+items2.size≤sizeLine) :
  Meets (Builtin.«list.__add__» ⟨[.ref l,.ref b],[]⟩) (fun _ R s=>s.heap.get? l=some { cls:=.type "list", dict:=none,data:=.seq items n,slots:=sl }∧s.heap.get? b=some { cls:=.type "list", dict:=none,data:=.seq items2 n2,slots:=sl2 }∧R (.ok (.ret (Value.ref s.heap.objs.size))) { s with heap:=s.heap.push { cls:=Value.type "list", data:=Data.seq (items++items2) },toks:=s.toks }) :=
 .of_wp fun prog w A R s h=>by obtain ⟨hp,g,d,tk,os⟩:=s;obtain ⟨hl,hb,h⟩:=h;have f1:=AutoSeq1.idx_int;have f2:=AutoSeq1.sub_tuple_tuple;have f3:=AutoSeq1.sub_list_list;have f4:=AutoSeq1.sub_tuple_list;have f5:=AutoSeq1.sub_list_tuple;wp_walk using AutoSeq1.wpAny_loadPart' hl,AutoSeq1.wpAny_loadPart' hb;exact ⟨_,rfl,h⟩
section
variable{X:Cx}
theorem ZnG{pins:List (Addr×Obj)}{s:Shared}{σ:St}{H:Hp}{l b:Addr}{xs zs:List V}{Q:VK}(I:Inv X pins σ H s)(hH:SqL X.K H l xs)(hB:SqL X.K H b zs)(hz:xs.length+zs.length≤sizeLine)(q:∀p,H p=none→Q (.ref p) (upd H p (.lst (xs++zs)))) :
  wpAny (model X.prog X.w) X.A (binaryOp .Add (.ref l) (.ref b)) (EP X pins σ Q) X.xe s:=by
 obtain ⟨its,r,⟨⟨c1,d1,t1,sl1⟩,n,e,h1,h2,h3⟩,z⟩:=I.list hH
 obtain ⟨its2,r2,⟨⟨c2,d2,t2,sl2⟩,n2,e2,g1,g2,g3⟩,z2⟩:=I.list hB
 simp only at h1 h2 h3 g1 g2 g3
 subst h1 h2 h3 g1 g2 g3
 refine concat_meets ⟨_,e,rfl⟩ ⟨_,e2,rfl⟩ noFill_list_add seq_list_add F.slot_list_add F.entry_list_add (F.args_list_add_2 _ _) (ZlA l its.toArray n sl1 b its2.toArray n2 sl2 (by rw [Va6,Va6,←r.length,←r2.length];exact hz)) ⟨e,e2,?_⟩
 have ea:its.toArray++its2.toArray=(its++its2).toArray:=by simp
 rw [ea]
 exact ⟨.ref _,_,I.lnew (t':=s.toks) (r.append r2) (by rw [Va4];exact hz),rfl,q _ I.fresh⟩
theorem Zoe{pins:List (Addr×Obj)}{s:Shared}{σ:St}{H:Hp}{a b:Addr}{xs ys:List V}{Q:VK}(I:Inv X pins σ H s)(ha:SqT X.K H a xs)(hb:SqT X.K H b ys)(hz:xs.length+ys.length≤sizeLine)(q0:xs=[]→Q (.ref b) H)
  (q1:xs≠[]→ys=[]→Q (.ref a) H) (q2:xs≠[]→ys≠[]→∀p,H p=none→Q (.ref p) (upd H p (.tup (xs++ys)))) :
  wpAny (model X.prog X.w) X.A (binaryOp .Add (.ref a) (.ref b)) (EP X pins σ Q) X.xe s:=by
 by_cases hx:xs=[]
 ·obtain ⟨its,r1,p1,_⟩:=I.tuple ha
  obtain ⟨its2,r2,p2,_⟩:=I.tuple hb
  have hi:its=[]:=r1.nil_iff.mpr hx
  subst hi
  obtain ⟨⟨cls,dd,data,sl⟩,ho,hc,n,hd⟩:=id p1
  obtain ⟨⟨cls2,dd2,data2,sl2⟩,ho2,hc2,n2,hd2⟩:=id p2
  simp only at hc hd hc2 hd2
  subst hc hd hc2 hd2
  exact concat_meets ⟨_,ho,rfl⟩ ⟨_,ho2,rfl⟩ noFill_tuple_add seq_tuple_add PySem.F.slot_tuple_add PySem.F.entry_tuple_add (PySem.F.args_tuple_add_2 _ _)
   (tuple_addW0 a b ([]:List Value).toArray its2.toArray n n2 dd dd2 sl sl2 rfl) ⟨ho,ho2,⟨.ref b,H,I,rfl,q0 hx⟩⟩
 ·exact Zrk pins s σ H (.ref a) (.ref b) _ _ Q I rfl rfl ⟨a,b,xs,ys,rfl,rfl,ha,hb,hx,hz,q1 hx,q2 hx⟩
end
end L2
namespace HT
open PySem PyProof.Rows
section
variable{prog:Program}{w:World}{A:Around}{E:Value→Shared→Prop}{s:Shared}
theorem Zed{t sl:Addr}{items:Array Value}{vl vu:Value}{lo hi:Option Int}{Q:Value→Shared→Prop}(ht:IsTup s.heap t items)(hs:s.heap.IsSliceOf sl vl vu .none)(pl:IsPart vl lo)(pu:IsPart vu hi)
  (hw:sIx items.size 0 lo=0∧sIx items.size items.size hi=items.size) (h:Q (.ref t) s):wpAny (model prog w) A (getItem (.ref t) (.ref sl)) Q E s:=by
 obtain ⟨os,hos,hcs,hds⟩:=id hs
 have hTs:s.TypeIs (.ref sl) "slice" := ⟨os,hos,hcs⟩
 unfold getItem
 try with_reducible refine Vbc ?_
 first | refine VaC (VaB ?_) | skip
 refine VaC (wpAny_sequenceKey ht.typeIs (by decide) ?_)
 refine VaC (Vbd (name:=Str.ofString "__getitem__") ht.typeIs Vbe
  (Vbf Vbe ht.typeIs entry_tuple_getitem ?_ (args_tuple_getitem _ _)))
 show wpAny _ _ (Builtin.Tuple.tupleItemsOf (.ref t) >>= _) _ _ s
 refine VaC (tupleItemsOf_ ht ?_)
 refine VaC (Vbg hTs ?_)
 rw [if_pos (by decide)]
 refine VaC (Zdj hs pl pu ?_)
 have hyes:(((sIx items.size 0 lo:Nat):Int)==0&&(1:Int)==1&&(sIx items.size items.size hi - sIx items.size 0 lo)==items.size)=true:=by
  rw [hw.1,hw.2];simp
 show wpAny _ _ (if (((sIx items.size 0 lo:Nat):Int)==0&&(1:Int)==1&&(sIx items.size items.size hi - sIx items.size 0 lo)==items.size)=true then _ else _) _ _ s
 rw [if_pos hyes]
 first
  | exact VaC (VaC (Vbg ht.typeIs (VaB (by rw [if_pos (by decide)];exact VaC (wpAny_rule (VaB ⟨_,rfl,VaB h⟩))))))
  | (refine VaC (m:=Builtin.Tuple.tupleIsExact _) (VaC (Vbg ht.typeIs (VaB ?_)))
     rw [if_pos (by decide)]
     trace_state
     exact VaC (wpAny_rule (VaB ⟨_,rfl,VaB h⟩)))
end
end HT
namespace L2
open PySem PySem.Spec PyProof.Rows
section
variable{X:Cx}{pins:List (Addr×Obj)}{σ:St}{H:Hp}{s:Shared}
theorem Inv.turnNew{fp:List Addr}{T:Addr}{o:HO}{h':Heap}{t':Nat}(I:Inv X pins σ H s)(k:∀b u,b∉fp→s.heap.get? b=some u→h'.get? b=some u)(hf:∀b∈fp,FpOk X pins H b)(hT:s.heap.objs.size≤T)(new:Zca X.prog X.w (upd H T o) h' T o) :
  Inv X pins σ (upd H T o) { s with heap:=h',toks:=t' }:=by
 have hn:H T=none:=I.hok.fresh hT
 have ntr:∀b u,H b=some u→b∉fp:=fun b u e z=>by rw [(hf b z).1] at e;cases e
 refine I.call (g':=s.gens) (d':=s.drawn) (ch:=fp) ⟨fun b u q _ _ hx=>k b u hx q,fun b u q _ _ hx=>⟨u.slots,k b u hx q⟩,fun b u q n _=>?_,fun b u q hx=>⟨u,k b u hx q⟩,fun b xs q=>?_,fun b u xs q=>?_,fun b ps q=>?_⟩ (fun b u e=>?_) I.bare (fun b hb=>?_)
 ·rw [Zaf (Vag (Vae (Vad q) hT))];exact n
 ·rw [Zaf (Zae q hn)];exact q
 ·rw [Zaf (Zae q hn)];exact q
 ·exact ⟨#[],by rw [Zaf (Zae q hn),q];simp⟩
 ·by_cases hb:b=T
  ·subst hb;rw [Zag] at e;cases e;exact new
  ·rw [Zaf hb] at e
   refine (I.hok b u e).stay (fun c v hc q=>k c v ?_ q) (fun c q=>by rw [Zaf (Zae q hn)];exact q) fun c xs q=>by rw [Zaf (Zae q hn)];exact q
   rcases hc with rfl | hc
   ·exact ntr c u e
   ·exact ntr c _ hc
 ·obtain ⟨_,f1,_,f3,f4,f5⟩:=hf b hb
  exact ⟨f3,f1,f4,f5⟩
theorem Inv.turnedL{fp:List Addr}{h':Heap}{t':Nat}(I:Inv X pins σ H s)(k:∀b u,b∉fp→s.heap.get? b=some u→h'.get? b=some u)(hf:∀b∈fp,FpOk X pins H b):Inv X pins σ H { s with heap:=h',toks:=t' }:=by
 have ntr:∀b u,H b=some u→b∉fp:=fun b u e z=>by rw [(hf b z).1] at e;cases e
 refine I.call (g':=s.gens) (d':=s.drawn) (ch:=fp) ⟨fun b u q _ _ hx=>k b u hx q,fun b u q _ _ hx=>⟨u.slots,k b u hx q⟩,fun b u q n _=>n,fun b u q hx=>⟨u,k b u hx q⟩,fun b xs q=>q,fun b u xs q=>q,fun b ps q=>⟨#[],by rw [q];simp⟩⟩ (fun b u e=>?_) I.bare (fun b hb=>?_)
 ·refine (I.hok b u e).stay (fun c v hc q=>k c v ?_ q) (fun c q=>q) fun c xs q=>q
  rcases hc with rfl | hc
  ·exact ntr c u e
  ·exact ntr c _ hc
 ·obtain ⟨_,f1,_,f3,f4,f5⟩:=hf b hb
  exact ⟨f3,f1,f4,f5⟩
end
def Ite(K:W.Frag)(a:Addr):It :=
 ⟨fun i H=>∃xs x,SqL K H a xs∧xs[i]?=some x,fun i H x H'=>∃T p,H T=none∧x=.ref T∧H'=upd H T (.tup [.int i,p])∧∀xs,SqL K H a xs→xs[i]?=some p,fun i H=>∃xs,SqL K H a xs∧xs.length≤i⟩
theorem ZmB{P:Program}{w:World}{K:W.Frag}{elts:List Expr}{x1:Nat}{pos:Pos}{a e it:Addr}(hei:e≠it):Turn P w K (.Tuple elts x1 pos) (Ite K a) [e,it] e (fun i h=>(∃old,IsEnum h e it (i:Nat) old)∧h.IsListIter it a i) where
 mem:=by simp
 obj:=fun i h st b hb=>by
  obtain ⟨⟨old,he⟩,o,ho,c,d⟩:=st
  rcases Vaq.mp hb with rfl | hb
  ·exact ⟨_,he,fun v z=>by cases z⟩
  ·have z:b=it:=by simpa using hb
   subst z
   exact ⟨o,ho,fun v z=>by rw [d] at z;cases z⟩
 keep:=fun i h h' st k=>⟨⟨st.1.choose,k e (by simp) _ st.1.choose_spec⟩,st.2.at fun o q=>k it (by simp) o q⟩
 item:=by
  intro X hP hw hK hc i pins s σ H E I hf st hg
  subst hP hw hK
  obtain ⟨⟨old,he⟩,hit⟩:=st
  obtain ⟨xs,x,hq,hx⟩:=hg
  obtain ⟨its,rv,p,hz⟩:=I.list hq
  obtain ⟨u,hu,ru⟩:=rv.get hx
  refine wpAny_pyNext_enum_item he hit p.isList (x:=u) (by simpa using hu) hei fun h1 heo hit1 ht1 hz1 hk1=>⟨_,rfl,?_⟩
  refine wpAny_letOwnedTupleGo_enum heo fun h2 he2 hs2=>?_
  have hsz:∀{c:Addr} {ob:Obj},s.heap.get? c=some ob→c≠s.heap.objs.size:=fun q=>Vag (Vad q)
  have eT:e≠s.heap.objs.size:=hsz he
  have iT:it≠s.heap.objs.size:=by obtain ⟨_,q,_⟩:=id hit;exact hsz q
  have hs2':Heap.SameBut e h1 h2:=hs2
  have hT:H s.heap.objs.size=none:=I.hok.fresh (VaF _)
  have I2:Inv X pins σ (upd H s.heap.objs.size (.tup [.int i,x])) { s with heap:=h2,toks:=s.toks+1 }:=by
   refine I.turnNew (fp:=[e,it]) (fun b ob hb q=>?_) hf (VaF _) ?_
   ·have h1':b≠e:=fun z=>hb (by simp [z])
    have h2':b≠it:=fun z=>hb (by simp [z])
    exact hs2'.extBut b ob h1' (hk1 b ob h1' h2' q)
   ·have lt2:(2:Nat)≤sizeLine:=by decide
    exact ⟨lt2,[.int i s.toks,u],.cons ⟨_,rfl⟩ (.cons ru .nil),⟨_,hs2'.extBut _ _ (Ne.symm eT) ht1,rfl,_,rfl⟩⟩
  refine ⟨.ref s.heap.objs.size,_,I2,rfl,⟨_,x,hT,rfl,rfl,fun ys hy=>by rw [I.list_inj hy hq];exact hx⟩,⟨⟨_,he2⟩,hit1.extBut hs2'.extBut (Ne.symm hei)⟩,fun b hb=>?_⟩
  have nb:b≠s.heap.objs.size:=by
   rcases Vaq.mp hb with rfl | hb
   ·exact eT
   ·have z:b=it:=by simpa using hb
    subst z;exact iT
  rw [Zaf nb];exact (hf b hb).1
 done:=by
  intro X hP hw hK hc i pins s σ H E I hf st hg
  subst hP hw hK
  obtain ⟨⟨old,he⟩,hit⟩:=st
  obtain ⟨xs,hq,hx⟩:=hg
  obtain ⟨its,rv,p,hz⟩:=I.list hq
  have hl:=rv.length
  refine wpAny_pyNext_enum_end (I.ok.hd hc) he hit p.isList (by simp;omega) fun h' eb=>⟨rfl,?_⟩
  exact I.turnedL (fp:=[e,it]) (t':=s.toks) (fun b ob hb q=>eb b ob (fun z=>hb (by simp [z])) q) hf
 self:=fun _ _ _ _ _ st h=>wpAny_pyIter_enum st.1.choose_spec h
def Ztk(K:W.Frag)(ta:TA):TI:=fun σ H R=>ta σ H fun vs H1=>∃a,vs=[.ref a]∧(∃xs,SqL K H1 a xs)∧R (Ite K a) H1
theorem ZqQ{X:Cx}{elts:List Expr}{x1:Nat}{tpos:Pos}{a:Expr}{ta:TA}{p pos:Pos}(hg:Gl X "enumerate")(hm:X.mg "enumerate"=none)(ha:PA X [a] ta)(hs:starEach [a] X.env=[(false,eval a X.env)]:=by rfl):PI X (.Tuple elts x1 tpos) (.Call (.Name "enumerate" p) [a] [] pos) (Ztk X.K ta):=by
 intro pins s σ H R I h
 refine Call_ (Zgh I hg hm Zh0 (VaG (thn (ha pos pins s σ H _ I h) fun us s1 ⟨vs,H1,I1,r1,q1⟩=>?_) hs rfl))
 obtain ⟨l,e,⟨xs,hq⟩,q⟩:=q1
 subst e
 cases r1 with
 | cons r rr =>
  cases rr
  cases r
  obtain ⟨its,rv,pl,hz⟩:=I1.list hq
  refine call_enumerate_list pl.isList fun h' he hit hsz hk=>?_
  have hI:Inv X pins σ H1 { s1 with heap:=h' }:=I1.kept (t':=s1.toks) hk
  refine wpAny_pyIter_enum he ?_
  refine ⟨s1.heap.objs.size+1,[s1.heap.objs.size+1,s1.heap.objs.size],_,Ite X.K l,H1,rfl,hI,ZmB (Nat.succ_ne_self _),⟨⟨_,he⟩,hit⟩,fun b hb=>?_,q⟩
  have hb':s1.heap.objs.size≤b:=by
   rcases Vaq.mp hb with rfl | hb
   ·exact Nat.le_succ _
   ·have z:b=s1.heap.objs.size:=by simpa using hb
    exact Nat.le_of_eq z.symm
  exact I1.fpOk hb' (I1.hok.fresh hb')
section
variable{prog:Program}{w:World}{A:Around}{E:Value→Shared→Prop}{s:Shared}
theorem Zh1{it t:Addr}{items:Array Value}(hne:t≠it):∀(n i:Nat) (s:Shared) (Q:List Value→Shared→Prop),s.heap.IsListIter it t i→s.heap.IsList t items→i+n≤items.size →
  (∀h',h'.IsListIter it t (i+n)→Heap.SameBut it s.heap h'→Q ((items.toList.drop i).take n) { s with heap:=h' })→wpAny (model prog w) A (draw (.ref it) n) Q E s
 | 0,i,s,Q,hit,_,_,hQ=>by
  show wpAny _ _ (pure []) Q E s
  exact VaB (by simpa using hQ s.heap hit (Heap.SameBut.refl ..))
 | n+1,i,s,Q,hit,ht,hle,hQ=>by
  have hlt:i<items.size:=by omega
  show wpAny _ _ (pyNext (.ref it) >>= _) Q E s
  refine VaC (wpAny_pyNext_list_item hit ht (x:=items[i]) (by simp [hlt]) fun h₁ hit₁ hs₁=>?_)
  refine VaC (Vbc (Zh1 hne n (i+1) _ _ hit₁ (ht.extBut hs₁.extBut hne) (by omega) fun h₂ hit₂ hs₂=>VaB ?_))
  have hd:items.toList.drop i=items[i]::items.toList.drop (i+1):=by simp [Vbt,hlt]
  have:=hQ h₂ (by rw [show i+(n+1)=i+1+n by omega];exact hit₂) (hs₁.trans hs₂)
  rw [hd,List.take_succ_cons] at this
  exact this
theorem ZfD{t:Addr}{items:Array Value}{Q:List Value→Shared→Prop}(hh:A.handled=none)(ht:s.heap.IsList t items)
  (hQ:∀h',Heap.ExtBut s.heap.objs.size s.heap h'→Q items.toList { s with heap:=h' }):wpAny (model prog w) A (unpackItems (.ref t) items.size none) Q E s:=by
 have hlt:t≠s.heap.objs.size:=by obtain ⟨o,ho,_⟩:=ht;exact Vag (Vad ho)
 unfold unpackItems
 refine VaC ?_
 ·unfold notIterableAtAll
  refine VaC (wpAny_specialOf ht.typeIs F.slot_list_iter.lookup ?_)
  refine VaB ?_
  simp only [Vbu,Va7]
  refine VaC (Vbc (Vbv ht ?_))
  refine VaC (Vbc (Zh1 hlt items.size 0 _ _ ⟨_,VaE _ rfl,rfl,rfl⟩ (ht.push _) (by omega) fun h₁ hit₁ hs₁=>?_))
  have hall:List.take items.size (List.drop 0 items.toList)=items.toList:=by
   rw [Vbw];exact Vbx (by simp)
  rw [hall]
  rw [if_neg (by simp)]
  have ht₁:h₁.IsList t items:=(ht.push _).extBut hs₁.extBut hlt
  refine VaC (Vbc (wpAny_pyNext_list_end hh hit₁ ht₁ (by simp) fun h₂ he₂=>?_))
  simp only [Option.isSome_none,Vbu,Va7]
  refine VaB (hQ h₂ fun b o hb e=>he₂ b o hb (hs₁.extBut b o hb (VaD _ e)))
theorem Zfj{env:Env}{elts:List Expr}{x1}{pos:Pos}{t:Addr}{items:Array Value}{Q:Unit→Shared→Prop}(hh:A.handled=none)(ht:s.heap.IsList t items)
  (hn:(assignEach elts env).length=items.size) (hstar:(assignEach elts env).findIdx? (·.1)=none)
  (h:∀h',Heap.ExtBut s.heap.objs.size s.heap h'→wpAny (model prog w) A (assignInOrder ((assignEach elts env).map (·.2)) items.toList) Q E { s with heap:=h' }) :
  wpAny (model prog w) A (assign (.Tuple elts x1 pos) env (.ref t)) Q E s:=by
 rw [assign_Tuple]
 refine VaC (wpAny_standAt ?_)
 unfold unpack
 rw [hn,hstar]
 exact VaC (Vbc (ZfD hh ht h))
end
def ItK:Bool→Heap→Addr→Addr→Nat→Prop
 | false,h,a,l,i=>h.IsListIter a l i
 | true,h,a,l,i=>h.IsTupleIter a l i
def SqK:Bool→Heap→Addr→Array Value→Prop
 | false,h,a,xs=>h.IsList a xs
 | true,h,a,xs=>h.IsTuple a xs
def ZiK(p:Bool)(l:Addr):Obj:={ cls:=.type (if p then "tuple_iterator" else "list_iterator"),data:=.fields #[.ref l,.int 0 0] }
theorem ItK.extBut{p:Bool}{h h':Heap}{a b l:Addr}{i:Nat}(x:ItK p h a l i)(hs:Heap.ExtBut b h h')(hab:a≠b):ItK p h' a l i:=by
 cases p
 ·exact Heap.IsListIter.extBut x hs hab
 ·exact Heap.IsTupleIter.extBut x hs hab
theorem ItK.at{p:Bool}{h h':Heap}{a l:Addr}{i:Nat}(x:ItK p h a l i)(k:∀o,h.get? a=some o→h'.get? a=some o):ItK p h' a l i:=by
 cases p
 ·obtain ⟨o,e,r⟩:=(show h.IsListIter a l i from x);exact ⟨o,k o e,r⟩
 ·obtain ⟨o,e,r⟩:=(show h.IsTupleIter a l i from x);exact ⟨o,k o e,r⟩
theorem ItK.flds{p:Bool}{h:Heap}{a l:Addr}{i:Nat}(x:ItK p h a l i):∃o vs,h.get? a=some o∧o.data=.fields vs:=by
 cases p
 ·obtain ⟨o,e,_,d⟩:=(show h.IsListIter a l i from x);exact ⟨o,_,e,d⟩
 ·obtain ⟨o,e,_,d⟩:=(show h.IsTupleIter a l i from x);exact ⟨o,_,e,d⟩
theorem ItK.new{p:Bool}{h:Heap}{a l:Addr}(e:h.get? a=some (ZiK p l)):ItK p h a l 0:=by
 cases p
 ·exact ⟨_,e,rfl,rfl⟩
 ·exact ⟨_,e,rfl,rfl⟩
theorem SqK.extBut{p:Bool}{h h':Heap}{a b:Addr}{xs:Array Value}(x:SqK p h a xs)(hs:Heap.ExtBut b h h')(hab:a≠b):SqK p h' a xs:=by
 cases p
 ·exact Heap.IsList.extBut x hs hab
 ·exact Heap.IsTuple.extBut x hs hab
theorem SqK.push{p:Bool}{h:Heap}{a:Addr}{xs:Array Value}(x:SqK p h a xs)(o:Obj):SqK p (h.push o) a xs:=by
 cases p
 ·exact Heap.IsList.push x o
 ·exact Heap.IsTuple.push x o
section
variable{prog:Program}{w:World}{A:Around}{E:Value→Shared→Prop}{s:Shared}
theorem ZqE{p:Bool}{l:Addr}{xs:Array Value}{Q:Value→Shared→Prop}(x:SqK p s.heap l xs)(h:Q (.ref s.heap.objs.size) { s with heap:=s.heap.push (ZiK p l) }):wpAny (model prog w) A (pyIter (.ref l)) Q E s:=by
 cases p
 ·exact Vbv x h
 ·exact wpAny_pyIter_tuple x h
theorem Zku{ia la:Addr}{i:Nat}{zs}{x:Value}{Q:Value→Shared→Prop}(ki:s.heap.IsTupleIter ia la i)
  (kl:s.heap.IsTuple la zs) (kx:zs[i]?=some x)
  (kQ:∀h',h'.IsTupleIter ia la (i+1)→Heap.SameBut ia s.heap h'→Q x { s with heap:=h' }) :
  wpAny (model prog w) A (Builtin.SmallTypes.nextOf (.ref ia)) Q E s:=by
 obtain ⟨ob,ko,kc,kd⟩:=id ki
 obtain ⟨oq,kol,_,nq,kdl⟩:=kl
 unfold Builtin.SmallTypes.nextOf
 refine VaC (Vbd (name:=Str.ofString "__next__") ki.typeIs Vby
  (Vbf Vby ki.typeIs F.entry_tuple_iterator_next ?_ (F.args_tuple_iterator_next_1 _)))
 show wpAny _ _ (field (.ref ia) 0 >>= _) _ _ s
 refine VaC (Va9 ko kd (x:=.ref la) rfl ?_)
 show wpAny _ _ (if (Value.ref la==Value.none)=true then _ else _) _ _ s
 rw [if_neg (show ¬((Value.ref la==Value.none)=true) from Vaz)]
 show wpAny _ _ (field (.ref ia) 1 >>= _) _ _ s
 refine VaC (Va9 ko kd (x:=.int i 0) rfl ?_)
 show wpAny _ _ (seqItems? (.ref la) >>= _) _ _ s
 refine VaC (Vbz kol kdl ?_)
 simp only [VbA,kx]
 refine VaC (wpAny_setField ko kd (by simp) (VaB ⟨x,rfl,VaB (kQ _ ?_ (VbB ..))⟩))
 exact ⟨_,VbC _ ko (Obj.isFreed_of_fields (VbD kd _)),(Obj.cls_mapFields ..).trans kc,by
  rw [VbD kd];simp [rawInt]⟩
theorem Zlb{ia la:Addr}{i:Nat}{zs}{Q:Value→Shared→Prop}(kh:A.handled=none)
  (ki:s.heap.IsTupleIter ia la i) (kl:s.heap.IsTuple la zs) (kx:zs[i]?=none)
  (kE:∀h' e,Heap.ExtBut ia s.heap h'→(∃ob,h'.get? e=some ob∧ob.cls=.type "StopIteration")→E (.ref e) { s with heap:=h' }) :
  wpAny (model prog w) A (Builtin.SmallTypes.nextOf (.ref ia)) Q E s:=by
 obtain ⟨ob,ko,kc,kd⟩:=id ki
 obtain ⟨oq,kol,_,nq,kdl⟩:=kl
 unfold Builtin.SmallTypes.nextOf
 refine VaC (Vbd (name:=Str.ofString "__next__") ki.typeIs Vby
  (Vbf Vby ki.typeIs F.entry_tuple_iterator_next ?_ (F.args_tuple_iterator_next_1 _)))
 show wpAny _ _ (field (.ref ia) 0 >>= _) _ _ s
 refine VaC (Va9 ko kd (x:=.ref la) rfl ?_)
 show wpAny _ _ (if (Value.ref la==Value.none)=true then _ else _) _ _ s
 rw [if_neg (show ¬((Value.ref la==Value.none)=true) from Vaz)]
 show wpAny _ _ (field (.ref ia) 1 >>= _) _ _ s
 refine VaC (Va9 ko kd (x:=.int i 0) rfl ?_)
 show wpAny _ _ (seqItems? (.ref la) >>= _) _ _ s
 refine VaC (Vbz kol kdl ?_)
 simp only [VbA,kx]
 refine VaC (wpAny_rule (VaC (wpAny_setField ko kd (by simp) ?_)))
 show wpAny _ _ (newExc (.type "StopIteration") [] >>= _) _ _ _
 refine VaC ?_
 simp only [newExc,newTuple]
 refine VaC (Vbi ?_ (by size_fits))
 refine VaC (m:=firstArgMember _ _) (wpAny_of_eq (a:=Value.none) (by first | rfl | (simp only [firstArgMember];rfl)) ?_)
 refine Vbi ?_ (by size_fits)
 simp only [raiseNew]
 refine VaC (wpAny_handled ?_)
 first | rw [show A.in1.handled=none from kh] | rw [kh]
 refine VaC (VaB (wpAny_throw ?_))
 exact kE _ _ (((VbB ..).extBut.push _).push _) ⟨_,VaE _ rfl,rfl⟩
theorem Za1{p:Bool}{ia la:Addr}{i:Nat}{zs:Array Value}{x:Value}{Q:Value→Shared→Prop}(ki:ItK p s.heap ia la i)(kl:SqK p s.heap la zs)(kx:zs[i]?=some x)
  (kQ:∀h',ItK p h' ia la (i+1)→Heap.SameBut ia s.heap h'→Q x { s with heap:=h' }):wpAny (model prog w) A (Builtin.SmallTypes.nextOf (.ref ia)) Q E s:=by
 cases p
 ·exact wpAny_nextOf_list_item ki kl kx kQ
 ·exact Zku ki kl kx kQ
theorem ZcQ{p:Bool}{ia la:Addr}{i:Nat}{zs:Array Value}{Q:Value→Shared→Prop}(kh:A.handled=none)(ki:ItK p s.heap ia la i)(kl:SqK p s.heap la zs)(kx:zs[i]?=none)
  (kE:∀h' e,Heap.ExtBut ia s.heap h'→(∃o,h'.get? e=some o∧o.cls=.type "StopIteration")→E (.ref e) { s with heap:=h' }):wpAny (model prog w) A (Builtin.SmallTypes.nextOf (.ref ia)) Q E s:=by
 cases p
 ·exact wpAny_nextOf_list_end kh ki kl kx kE
 ·exact Zlb kh ki kl kx kE
end
def SqB(K:W.Frag):Bool→Hp→Addr→List V→Prop
 | false,H,a,xs=>SqL K H a xs
 | true,H,a,xs=>SqT K H a xs
theorem SqK.here{p:Bool}{h:Heap}{a:Addr}{xs:Array Value}(x:SqK p h a xs):∃o,h.get? a=some o:=by
 cases p
 ·obtain ⟨o,e,_⟩:=(show h.IsList a xs from x);exact ⟨o,e⟩
 ·obtain ⟨o,e,_⟩:=(show h.IsTuple a xs from x);exact ⟨o,e⟩
theorem Inv.seqB{X:Cx}{pins:List (Addr×Obj)}{σ:St}{H:Hp}{s:Shared}{p:Bool}{a:Addr}{xs:List V}(I:Inv X pins σ H s)(h:SqB X.K p H a xs):∃its:List Value,Vals xs its∧SqK p s.heap a its.toArray∧xs.length≤sizeLine:=by
 cases p
 ·obtain ⟨its,rv,pl,hz⟩:=I.list h
  exact ⟨its,rv,pl.isList,hz⟩
 ·obtain ⟨its,rv,pl,hz⟩:=I.tuple h
  exact ⟨its,rv,pl,hz⟩
end L2
namespace Dl
open PySem
inductive D where
 | non | bl (b:Bool) | int (i:Int) | str (x:Str) | ty (n:String) | cls (c:Str)
 | tup (xs:List D) | lst (xs:List D) | exc (c:Str) | ins (c:Str) (ns:List Str) (vs:List D)
inductive Res(α:Type) where
 | ok (a:α) | ex (c:Str) | bad
def Res.bind{α β:Type}:Res α→(α→Res β)→Res β
 | .ok a,f=>f a
 | .ex c,_=>.ex c
 | .bad,_=>.bad
theorem Zb1{α β:Type}(a:α)(f:α→Res β):(Res.ok a).bind f=f a:=rfl
inductive Cl where
 | no | im (d:D) | ow (ds:List D)
abbrev Ev:=List Cl
abbrev ME:=Ev→Res D
abbrev MB:=Ev→Res Bool
abbrev MA:=Ev→Res (List D)
def getC:Option Cl→Res D
 | some (.im d)=>.ok d
 | _=>.bad
def v(i:Nat):ME:=fun ρ=>getC ρ[i]?
def c(d:D):ME:=fun _=>.ok d
def o1(f:D→Res D)(a:ME):ME:=fun ρ=>(a ρ).bind f
def o2(f:D→D→Res D)(a b:ME):ME:=fun ρ=>(a ρ).bind fun x=>(b ρ).bind fun y=>f x y
def anil:MA:=fun _=>.ok []
def Zaa(a:ME)(r:MA):MA:=fun ρ=>(a ρ).bind fun x=>(r ρ).bind fun xs=>.ok (x::xs)
def on(f:List D→Res D)(a:MA):ME:=fun ρ=>(a ρ).bind f
def mtp(a:MA):ME:=fun ρ=>(a ρ).bind fun xs=>.ok (.tup xs)
def mls(a:MA):ME:=fun ρ=>(a ρ).bind fun xs=>.ok (.lst xs)
def tru:D→Res Bool
 | .bl b=>.ok b
 | _=>.bad
def trb(a:ME):MB:=fun ρ=>(a ρ).bind tru
def bAnd(a b:MB):MB:=fun ρ=>(a ρ).bind fun x=>if x=true then b ρ else .ok false
def bOr(a b:MB):MB:=fun ρ=>(a ρ).bind fun x=>if x=true then .ok true else b ρ
def bNot(a:MB):MB:=fun ρ=>(a ρ).bind fun x=>.ok (!x)
def eAnd(a b:ME):ME:=fun ρ=>(trb a ρ).bind fun x=>if x=true then b ρ else .ok (.bl false)
def eNot(a:ME):ME:=fun ρ=>(trb a ρ).bind fun x=>.ok (.bl (!x))
def ife(t:MB)(a b:ME):ME:=fun ρ=>(t ρ).bind fun x=>if x=true then a ρ else b ρ
def Zbk(a b:Int):Bool:=decide (a.natAbs<2^64)||decide (b.natAbs<2^64)||decide (a.natAbs.log2+b.natAbs.log2<100000000)
def LIM:Nat:=1000000
def dAdd:D→D→Res D
 | .int a,.int b=>.ok (.int (a+b))
 | .lst a,.lst b=>if a.length+b.length≤LIM then .ok (.lst (a++b)) else .bad
 | .tup a,.tup b=>if a.length+b.length≤LIM then .ok (.tup (a++b)) else .bad
 | .str a,.str b=>if a.length+b.length≤LIM then .ok (.str (a++b)) else .bad
 | _,_=>.bad
def ii(f:Int→Int→Res D):D→D→Res D
 | .int a,.int b=>f a b
 | _,_=>.bad
def iSub(a b:Int):Res D:=.ok (.int (a - b))
def iMul(a b:Int):Res D:=if Zbk a b=true then .ok (.int (a*b)) else .bad
def iMod(a b:Int):Res D:=if 0<b then .ok (.int (a%b)) else if b=0 then .bad else .ok (.int (a.fmod b))
def iDiv(a b:Int):Res D:=if b.natAbs.log2<9000 then (if 0<b then .ok (.int (a/b)) else if b=0 then .bad else .ok (.int (a.fdiv b))) else .bad
def iPow(a b:Int):Res D:=if 0≤b∧b≤1000000∧a.natAbs<2^64 then .ok (.int (a^b.toNat)) else .bad
def iShl(a b:Int):Res D:=if 0≤b∧b≤1000000∧a.natAbs<2^64 then .ok (.int (a*2^b.toNat)) else .bad
def iShr(a b:Int):Res D:=if 0≤b then .ok (.int (a/2^b.toNat)) else .bad
def iLt(a b:Int):Res D:=.ok (.bl (decide (a<b)))
def iLe(a b:Int):Res D:=.ok (.bl (decide (a≤b)))
def iGt(a b:Int):Res D:=.ok (.bl (decide (b<a)))
def iGe(a b:Int):Res D:=.ok (.bl (decide (b≤a)))
abbrev dSub:=ii iSub
abbrev dMul:=ii iMul
abbrev dMod:=ii iMod
abbrev dDiv:=ii iDiv
abbrev dPow:=ii iPow
abbrev dShl:=ii iShl
abbrev dShr:=ii iShr
abbrev dLt:=ii iLt
abbrev dLe:=ii iLe
abbrev dGt:=ii iGt
abbrev dGe:=ii iGe
def dNeg:D→Res D
 | .int a=>.ok (.int (-a))
 | _=>.bad
mutual
def eqD:D→D→Bool
 | .non,.non=>true
 | .bl a,.bl b=>a==b
 | .bl a,.int j=>(if a then 1 else 0)==j
 | .int i,.bl b=>i==(if b then 1 else 0)
 | .int i,.int j=>i==j
 | .str x,.str y=>x==y
 | .lst xs,.lst ys=>eqDs xs ys
 | .tup xs,.tup ys=>eqDs xs ys
 | _,_=>false
def eqDs:List D→List D→Bool
 | [],[]=>true
 | x::xs,y::ys=>eqD x y&&eqDs xs ys
 | _,_=>false
end
mutual
def plain:Nat→D→Bool
 | _,.non=>true
 | _,.bl _=>true
 | _,.int _=>true
 | _,.str x=>x.cps.all (·<0x110000)
 | k+1,.tup xs=>Zap k xs
 | k+1,.lst xs=>Zap k xs
 | _,_=>false
def Zap:Nat→List D→Bool
 | _,[]=>true
 | k,x::xs=>plain k x&&Zap k xs
end
def dEq(x y:D):Res D:=if plain 50 x&&plain 50 y then .ok (.bl (eqD x y)) else .bad
def dNe(x y:D):Res D:=if plain 50 x&&plain 50 y then .ok (.bl (!eqD x y)) else .bad
def inD(x:D)(ys:List D):Bool:=ys.any fun y=>eqD y x
def seqD:D→Res (List D)
 | .lst ys=>.ok ys
 | .tup ys=>.ok ys
 | _=>.bad
def dNin(x y:D):Res D:=(seqD y).bind fun ys=>if plain 50 x&&Zap 50 ys then .ok (.bl (!inD x ys)) else .bad
def ZkO:D→Bool
 | .non=>true
 | _=>false
def dIsN(x:D):Res D:=.ok (.bl (ZkO x))
def Zk3(x:D):Res D:=.ok (.bl (!ZkO x))
def at_{α:Type}(xs:List α)(i:Int):Option α:=if 0≤i then xs[i.toNat]? else if -(xs.length:Int)≤i then xs[(i+xs.length).toNat]? else none
def ofO{α:Type}:Option α→Res α
 | some a=>.ok a
 | none=>.bad
def dIx:D→D→Res D
 | .lst xs,.int i=>ofO (at_ xs i)
 | .tup xs,.int i=>ofO (at_ xs i)
 | _,_=>.bad
def cutAt(n d:Nat):Option Int→Nat
 | none=>d
 | some i=>if i<0 then (i+n).toNat else min i.toNat n
def cutL(xs:List D)(lo hi:Option Int):List D:=(xs.drop (cutAt xs.length 0 lo)).take (cutAt xs.length xs.length hi - cutAt xs.length 0 lo)
def dCut(x:D)(lo hi:Option Int):Res D:=match x with
 | .lst xs=>.ok (.lst (cutL xs lo hi))
 | .tup xs=>.ok (.tup (cutL xs lo hi))
 | _=>.bad
def pno:Ev→Res (Option Int):=fun _=>.ok none
def optI:D→Res (Option Int)
 | .int i=>.ok (some i)
 | _=>.bad
def pso(a:ME):Ev→Res (Option Int):=fun ρ=>(a ρ).bind optI
def cut(a:ME)(lo hi:Ev→Res (Option Int)):ME:=fun ρ=>(a ρ).bind fun x=>(lo ρ).bind fun l=>(hi ρ).bind fun h=>dCut x l h
def dRev:D→Res D
 | .lst xs=>.ok (.lst xs.reverse)
 | _=>.bad
def bLen:List D→Res D
 | [.lst xs]=>.ok (.int xs.length)
 | [.tup xs]=>.ok (.int xs.length)
 | _=>.bad
def bAbs:List D→Res D
 | [.int i]=>.ok (.int (if i<0 then -i else i))
 | _=>.bad
def bMax:List D→Res D
 | [.int i,.int j]=>.ok (.int (if j>i then j else i))
 | _=>.bad
def bInt:List D→Res D
 | [.int i]=>.ok (.int i)
 | [.bl k]=>.ok (.int (if k then 1 else 0))
 | _=>.bad
def bTup:List D→Res D
 | [.lst xs]=>.ok (.tup xs)
 | [.tup xs]=>.ok (.tup xs)
 | _=>.bad
def bLst:List D→Res D
 | [.lst xs]=>.ok (.lst xs)
 | [.tup xs]=>.ok (.lst xs)
 | _=>.bad
def ZjD:D→Option String
 | .non=>some "NoneType"
 | .bl _=>some "bool"
 | .int _=>some "int"
 | .str _=>some "str"
 | .tup _=>some "tuple"
 | .lst _=>some "list"
 | _=>none
def isTy(t n:String):Bool:=t==n||(t == "bool"&&n == "int")
def Zkk:List String:=["int", "bool", "str", "tuple", "list", "dict"]
def bIsi:List D→Res D
 | [x,.ty n]=>if Zkk.contains n=true then (ofO (ZjD x)).bind fun t=>.ok (.bl (isTy t n)) else .bad
 | _=>.bad
def bools:List D→Res (List Bool)
 | []=>.ok []
 | d::r=>match d with
  | .bl b=>(bools r).bind fun bs=>.ok (b::bs)
  | _=>.bad
def bAll:List D→Res D
 | [d]=>match d with
  | .lst xs=>(bools xs).bind fun bs=>.ok (.bl (bs.all id))
  | _=>.bad
 | _=>.bad
abbrev MI:=Ev→Res (List D)
def items:D→Res (List D)
 | .lst xs=>.ok xs
 | .tup xs=>.ok xs
 | _=>.bad
def iv(a:ME):MI:=fun ρ=>(a ρ).bind items
def numbered:Nat→List D→List D
 | _,[]=>[]
 | k,x::xs=>.tup [.int k,x]::numbered (k+1) xs
def Znh:List D→Res (List D)
 | [x]=>match x with
  | .lst xs=>.ok (numbered 0 xs)
  | _=>.bad
 | _=>.bad
def Ze5(a:MA):MI:=fun ρ=>(a ρ).bind Znh
def ZbE(lo:Int)(n:Nat):List D:=(List.range n).map fun (k:Nat)=>D.int (lo+(k:Int))
def rng1:List D→Res (List D)
 | [.int j]=>if -1000000000≤j∧j≤1000000000 then .ok (ZbE 0 j.toNat) else .bad
 | _=>.bad
def r1(a:MA):MI:=fun ρ=>(a ρ).bind rng1
abbrev MG:=D→Ev→Res Ev
abbrev MGs:=List D→Ev→Res Ev
def gN(i:Nat):MG:=fun d ρ=>.ok (ρ.set i (.im d))
def gs0:MGs:=fun ds ρ=>match ds with
 | []=>.ok ρ
 | _=>.bad
def gs1(g:MG)(r:MGs):MGs:=fun ds ρ=>match ds with
 | d::ds=>(g d ρ).bind fun ρ'=>r ds ρ'
 | []=>.bad
def gU(n:Nat)(g:MGs):MG:=fun d ρ=>(items d).bind fun xs=>if xs.length=n then g xs ρ else .bad
def imOf:Option Cl→Cl
 | some (.im d)=>.im d
 | _=>.no
def capD(ρ:Ev):List Nat→Ev
 | []=>[]
 | j::r=>imOf ρ[j]?::capD ρ r
def noA:Nat→Ev→Ev
 | 0,e=>e
 | k+1,e=>.no::noA k e
def Zak(g:MG)(t:MB)(e:ME)(ρ0:Ev):List D→Res (List D)
 | []=>.ok []
 | x::r=>(g x ρ0).bind fun ρ1=>(t ρ1).bind fun b=>if b=true then (e ρ1).bind fun y=>(Zak g t e ρ0 r).bind fun ys=>.ok (y::ys) else Zak g t e ρ0 r
def yes:MB:=fun _=>.ok true
def noEx{α:Type}:Res α→Res α
 | .ex _=>.bad
 | r=>r
def comp(it:MI)(own:Nat)(cap:List Nat)(g:MG)(t:MB)(e:ME):ME:=fun ρ=>(it ρ).bind fun xs =>
 if xs.length≤LIM then (noEx (Zak g t e (noA own (capD ρ cap)) xs)).bind fun ys=>.ok (.lst ys) else .bad
inductive Fl where
 | nx (ρ:Ev) | rt (d:D) | bk (ρ:Ev) | ct (ρ:Ev)
abbrev MS:=Ev→Res Fl
def nop:MS:=fun ρ=>.ok (.nx ρ)
def goOn(b:MS):Fl→Res Fl
 | .nx ρ=>b ρ
 | f=>.ok f
def sq(a b:MS):MS:=fun ρ=>(a ρ).bind (goOn b)
def st(i:Nat)(e:ME):MS:=fun ρ=>(e ρ).bind fun d=>.ok (.nx (ρ.set i (.im d)))
def lstO:D→Res (List D)
 | .lst xs=>.ok xs
 | _=>.bad
def stO(i:Nat)(e:ME):MS:=fun ρ=>(e ρ).bind fun d=>(lstO d).bind fun xs=>.ok (.nx (ρ.set i (.ow xs)))
def getO:Option Cl→Res (List D)
 | some (.ow xs)=>.ok xs
 | _=>.bad
def frz(i:Nat)(m:MS):MS:=fun ρ=>(getO ρ[i]?).bind fun xs=>m (ρ.set i (.im (.lst xs)))
def app(i:Nat)(e:ME):MS:=fun ρ=>(getO ρ[i]?).bind fun xs=>(e ρ).bind fun d=>if xs.length<LIM then .ok (.nx (ρ.set i (.ow (xs++[d])))) else .bad
def asg(g:MG)(e:ME):MS:=fun ρ=>(e ρ).bind fun d=>(g d ρ).bind fun ρ'=>.ok (.nx ρ')
def drp(e:ME):MS:=fun ρ=>(e ρ).bind fun _=>.ok (.nx ρ)
def ret(e:ME):MS:=fun ρ=>(e ρ).bind fun d=>.ok (.rt d)
def ifs(t:MB)(a b:MS):MS:=fun ρ=>(t ρ).bind fun x=>if x=true then a ρ else b ρ
def cnt:MS:=fun ρ=>.ok (.ct ρ)
def rse(c:Str)(a:MA):MS:=fun ρ=>(a ρ).bind fun _=>.ex c
def Zh6:D→Res D
 | .non=>.ok .non
 | .bl b=>.ok (.bl b)
 | .int i=>.ok (.int i)
 | .str x=>.ok (.str x)
 | _=>.bad
def pk(i:Nat)(m:ME):ME:=fun ρ=>(getO ρ[i]?).bind fun xs=>(m (ρ.set i (.im (.lst xs)))).bind Zh6
def pkB(i:Nat)(m:MB):MB:=fun ρ=>(getO ρ[i]?).bind fun xs=>m (ρ.set i (.im (.lst xs)))
def turn(k:MS):Fl→Res Fl
 | .nx ρ=>k ρ
 | .ct ρ=>k ρ
 | .bk ρ=>.ok (.nx ρ)
 | .rt d=>.ok (.rt d)
def Zb6(g:MG)(b:MS):List D→MS
 | [],ρ=>.ok (.nx ρ)
 | x::r,ρ=>(g x ρ).bind fun ρ1=>(b ρ1).bind (turn (Zb6 g b r))
def for_(it:MI)(g:MG)(b:MS):MS:=fun ρ=>(it ρ).bind fun xs=>Zb6 g b xs ρ
def whGo(t:MB)(b:MS):Nat→MS
 | 0,_=>.bad
 | n+1,ρ=>(t ρ).bind fun x=>if x=true then (b ρ).bind (turn (whGo t b n)) else .ok (.nx ρ)
def absC:Cl→Nat
 | .im (.int i)=>i.natAbs
 | _=>0
def fuel(ρ:Ev):Nat:=(ρ.map absC).sum+1
def whl(n:Ev→Nat)(t:MB)(b:MS):MS:=fun ρ=>whGo t b (n ρ) ρ
def evF:List D→Nat→Ev
 | [],k=>noA k []
 | d::r,k=>.im d::evF r (k - 1)
def ev0(n:Nat)(ds:List D):Ev:=evF ds n
theorem Zju:∀(k:Nat) (e:Ev),noA k e=List.replicate k .no++e
 | 0,_=>rfl
 | k+1,e=>by rw [noA,Zju k e,List.replicate_succ,List.cons_append]
theorem Zhu(ρ:Ev):∀cap:List Nat,capD ρ cap=cap.map fun j=>imOf ρ[j]?
 | []=>rfl
 | j::r=>by rw [capD,Zhu ρ r,VaM]
theorem Ziu:∀(ds:List D) (n:Nat),ev0 n ds=ds.map .im++List.replicate (n - ds.length) .no
 | [],n=>by show noA n []=_;rw [Zju];simp
 | d::r,n=>by
  have ih:=Ziu r (n - 1)
  show .im d::ev0 (n - 1) r=_
  rw [ih,VaM,List.cons_append,VaL,Nat.sub_sub,Nat.add_comm 1]
def endOf:Fl→Res D
 | .rt d=>.ok d
 | .nx _=>.ok .non
 | _=>.bad
def fn(n:Nat)(b:MS)(ds:List D):Res D:=(b (ev0 n ds)).bind endOf
end Dl
namespace L2.Ds
open PySem PySem.Spec PyProof.Rows Dl
mutual
inductive Rp(K:W.Frag)(mg:Str→Option Value)(H:Hp):V→D→Prop
 | non:Rp K mg H .non .non
 | bl (b:Bool):Rp K mg H (.bl b) (.bl b)
 | int (i:Int):Rp K mg H (.int i) (.int i)
 | str (x:Str):Rp K mg H (.str x) (.str x)
 | ty (n:String):Rp K mg H (.ty n) (.ty n)
 | cls {c:Str} {C:Addr} (h:mg c=some (.ref C)):Rp K mg H (.ref C) (.cls c)
 | tup {a:Addr} {xs:List V} {ds:List D} (h:SqT K H a xs) (r:Rps K mg H xs ds):Rp K mg H (.ref a) (.tup ds)
 | lst {a:Addr} {xs:List V} {ds:List D} (h:SqL K H a xs) (r:Rps K mg H xs ds):Rp K mg H (.ref a) (.lst ds)
 | exc {c:Str} {C a:Addr} (m:mg c=some (.ref C)) (h:H a=some (exO a (.ref C))):Rp K mg H (.ref a) (.exc c)
 | ins {c:Str} {C a dx:Addr} {fs:List (Str×V)} {xs:List V} {vs:List D} (m:mg c=some (.ref C)) (h:H a=some (.ins C dx fs)) (o:H dx=some (.own a)) (e:fs.map (·.2)=xs) (r:Rps K mg H xs vs):Rp K mg H (.ref a) (.ins c (fs.map (·.1)) vs)
inductive Rps(K:W.Frag)(mg:Str→Option Value)(H:Hp):List V→List D→Prop
 | nil:Rps K mg H [] []
 | cons {x:V} {xs:List V} {d:D} {ds:List D} (h:Rp K mg H x d) (r:Rps K mg H xs ds):Rps K mg H (x::xs) (d::ds)
end
section
variable{K:W.Frag}{mg:Str→Option Value}{H H':Hp}
theorem ZaE{a:Addr}{xs:List V}(e:Same H H')(h:SqT K H a xs):SqT K H' a xs:=by
 rcases h with (h | ⟨o,h⟩) | h
 ·exact .inl (.inl (e _ _ h))
 ·exact .inl (.inr ⟨o,e _ _ h⟩)
 ·exact .inr h
mutual
theorem Rp.same(e:Same H H'):∀{x:V} {d:D},Rp K mg H x d→Rp K mg H' x d
 | _,_,.non=>.non
 | _,_,.bl b=>.bl b
 | _,_,.int i=>.int i
 | _,_,.str x=>.str x
 | _,_,.ty n=>.ty n
 | _,_,.cls h=>.cls h
 | _,_,.tup h r=>.tup (ZaE e h) (Rps.same e r)
 | _,_,.lst h r=>.lst (e.seq h) (Rps.same e r)
 | _,_,.exc m h=>.exc m (e _ _ h)
 | _,_,.ins m h o q r=>.ins m (e _ _ h) (e _ _ o) q (Rps.same e r)
theorem Rps.same(e:Same H H'):∀{xs:List V} {ds:List D},Rps K mg H xs ds→Rps K mg H' xs ds
 | _,_,.nil=>.nil
 | _,_,.cons h r=>.cons (Rp.same e h) (Rps.same e r)
end
theorem Rps.length:∀{xs:List V} {ds:List D},Rps K mg H xs ds→xs.length=ds.length
 | _,_,.nil=>rfl
 | _,_,.cons _ r=>Vax (·+1) (Rps.length r)
theorem Rps.get:∀{xs:List V} {ds:List D} {i:Nat} {d:D},Rps K mg H xs ds→ds[i]?=some d→∃x,xs[i]?=some x∧Rp K mg H x d
 | _,_,_,_,.nil,e=>by simp at e
 | _,_,0,_,.cons h _,e=>by simp at e;subst e;exact ⟨_,rfl,h⟩
 | _,_,i+1,_,.cons _ r,e=>by
  obtain ⟨x,h1,h2⟩:=Rps.get (i:=i) r (by simpa using e)
  exact ⟨x,by simpa using h1,h2⟩
theorem Rps.app{ys:List V}{es:List D}(q:Rps K mg H ys es):∀{xs:List V} {ds:List D},Rps K mg H xs ds→Rps K mg H (xs++ys) (ds++es)
 | _,_,.nil=>q
 | _,_,.cons h r=>.cons h (Rps.app q r)
theorem Rps.rev:∀{xs:List V} {ds:List D},Rps K mg H xs ds→Rps K mg H xs.reverse ds.reverse
 | _,_,.nil=>.nil
 | _,_,.cons h r=>by
  rw [Vbj,Vbj]
  exact Rps.app (.cons h .nil) (Rps.rev r)
theorem Rps.drop:∀{xs:List V} {ds:List D} (n:Nat),Rps K mg H xs ds→Rps K mg H (xs.drop n) (ds.drop n)
 | _,_,0,r=>r
 | _,_,_+1,.nil=>.nil
 | _,_,n+1,.cons _ r=>Rps.drop n r
theorem Rps.take:∀{xs:List V} {ds:List D} (n:Nat),Rps K mg H xs ds→Rps K mg H (xs.take n) (ds.take n)
 | _,_,0,_=>.nil
 | _,_,_+1,.nil=>.nil
 | _,_,n+1,.cons h r=>.cons h (Rps.take n r)
theorem Rps.one{xs:List V}{d:D}(h:Rps K mg H xs [d]):∃x,xs=[x]∧Rp K mg H x d:=by
 cases h with | cons h r=>cases r;exact ⟨_,rfl,h⟩
theorem Rps.two{xs:List V}{d e:D}(h:Rps K mg H xs [d,e]):∃x y,xs=[x,y]∧Rp K mg H x d∧Rp K mg H y e:=by
 cases h with | cons h r=>obtain ⟨_,rfl,g⟩:=Rps.one r;exact ⟨_,_,rfl,h,g⟩
end
structure Gr(F H F' H':Hp):Prop where
 f:Same F F'
 s:Same F' H'
 o:∀a o,F a=none→H a=some o→F' a=none∧H' a=some o
theorem Gr.refl{F H:Hp}(s:Same F H):Gr F H F H:=⟨Same.refl _,s,fun _ _ h1 h2=>⟨h1,h2⟩⟩
theorem Gr.trans{F H F1 H1 F2 H2:Hp}(g:Gr F H F1 H1)(h:Gr F1 H1 F2 H2):Gr F H F2 H2:=⟨g.f.trans h.f,h.s,fun a o h1 h2=>let ⟨q1,q2⟩:=g.o a o h1 h2;h.o a o q1 q2⟩
theorem ZnB{F H:Hp}{p:Addr}{o:HO}(s:Same F H):Same (upd F p o) (upd H p o):=fun b u e=>by
 by_cases hb:b=p
 ·subst hb;rw [Zag] at e ⊢;exact e
 ·rw [Zaf hb] at e ⊢;exact s b u e
theorem Gr.new{F H:Hp}{p:Addr}(s:Same F H)(h:H p=none)(o:HO):Gr F H (upd F p o) (upd H p o) :=
 ⟨ZaA (s.free h) o,ZnB s,fun a u h1 h2=>by
  have ne:a≠p:=Zae h2 h
  rw [Zaf ne,Zaf ne];exact ⟨h1,h2⟩⟩
structure Rep(K:W.Frag)(mg:Str→Option Value)(F0 H0 F H:Hp)(σ:St)(ρ:Ev):Prop where
 g:Gr F0 H0 F H
 len:σ.length=ρ.length
 im:∀(i:Nat) (d:D),ρ[i]?=some (.im d)→∃x,σ[i]?=some (some x)∧Rp K mg F x d
 ow:∀(i:Nat) (ds:List D),ρ[i]?=some (.ow ds)→∃a xs,σ[i]?=some (some (.ref a))∧H0 a=none∧F a=none∧H a=some (.lst xs)∧Rps K mg F xs ds
 ne:∀(i j:Nat) (ds es:List D) (a:Addr),ρ[i]?=some (.ow ds)→ρ[j]?=some (.ow es)→σ[i]?=some (some (.ref a))→σ[j]?=some (some (.ref a))→i=j
section
variable{K:W.Frag}{mg:Str→Option Value}{F0 H0 F H F' H':Hp}{σ:St}{ρ:Ev}
theorem Rep.gr(r:Rep K mg F0 H0 F H σ ρ)(g:Gr F H F' H'):Rep K mg F0 H0 F' H' σ ρ:=by
 refine ⟨r.g.trans g,r.len,fun i d e=>?_,fun i ds e=>?_,r.ne⟩
 ·obtain ⟨x,h1,h2⟩:=r.im i d e
  exact ⟨x,h1,h2.same g.f⟩
 ·obtain ⟨a,xs,h1,h2,h3,h4,h5⟩:=r.ow i ds e
  obtain ⟨q1,q2⟩:=g.o a _ h3 h4
  exact ⟨a,xs,h1,h2,q1,q2,h5.same g.f⟩
theorem ZaD{α:Type}{l:List α}{i j:Nat}{x y:α}(h:(l.set i x)[j]?=some y):(i=j∧y=x∧i<l.length)∨(i≠j∧l[j]?=some y):=by
 rw [List.getElem?_set] at h
 by_cases e:i=j
 ·rw [if_pos e] at h
  split at h
  ·exact .inl ⟨e,(Vau h).symm,by assumption⟩
  ·cases h
 ·rw [if_neg e] at h;exact .inr ⟨e,h⟩
theorem ZjY{α:Type}{l:List α}{i:Nat}{x:α}(h:i<l.length):(l.set i x)[i]?=some x:=by
 rw [List.getElem?_set,if_pos rfl,if_pos h]
theorem ZcB{α:Type}{l:List α}{i j:Nat}{x:α}(h:i≠j):(l.set i x)[j]?=l[j]?:=by
 rw [List.getElem?_set,if_neg h]
theorem Rep.set{x:V}{d:D}(r:Rep K mg F0 H0 F H σ ρ)(i:Nat)(h:Rp K mg F x d):Rep K mg F0 H0 F H (σ.set i (some x)) (ρ.set i (.im d)):=by
 refine ⟨r.g,by rw [VbE,VbE];exact r.len,fun j e q=>?_,fun j ds q=>?_,fun j k ds es a q1 q2 q3 q4=>?_⟩
 ·rcases ZaD q with ⟨rfl,z,l⟩ | ⟨hij,q⟩
  ·cases z
   exact ⟨x,ZjY (by rw [r.len];exact l),h⟩
  ·rw [ZcB hij];exact r.im j e q
 ·rcases ZaD q with ⟨_,z,_⟩ | ⟨hij,q⟩
  ·cases z
  ·rw [ZcB hij];exact r.ow j ds q
 ·rcases ZaD q1 with ⟨_,z,_⟩ | ⟨h1,q1⟩
  ·cases z
  ·rcases ZaD q2 with ⟨_,z,_⟩ | ⟨h2,q2⟩
   ·cases z
   ·rw [ZcB h1] at q3
    rw [ZcB h2] at q4
    exact r.ne j k ds es a q1 q2 q3 q4
theorem Rep.own{a:Addr}{xs:List V}{ds:List D}(r:Rep K mg F0 H0 F H σ ρ)(i:Nat)(hn:H a=none)(h:Rps K mg F xs ds):Rep K mg F0 H0 F (upd H a (.lst xs)) (σ.set i (some (.ref a))) (ρ.set i (.ow ds)):=by
 have fa:F a=none:=r.g.s.free hn
 have h0a:H0 a=none:=by
  cases q:H0 a with
  | none=>rfl
  | some o =>
   cases q2:F0 a with
   | none=>rw [(r.g.o a o q2 q).2] at hn;cases hn
   | some u=>rw [r.g.f a u q2] at fa;cases fa
 have nea:∀{j:Nat} {es:List D} {b:Addr},ρ[j]?=some (.ow es)→σ[j]?=some (some (.ref b))→b≠a:=fun {j es b} q1 q2=>by
  obtain ⟨b',xs',h1,_,_,h4,_⟩:=r.ow j es q1
  rw [q2] at h1;cases h1
  exact Zae h4 hn
 refine ⟨⟨r.g.f,fun b o e=>?_,fun b o e1 e2=>?_⟩,by rw [VbE,VbE];exact r.len,fun j e q=>?_,fun j es q=>?_,fun j k es ts b q1 q2 q3 q4=>?_⟩
 ·rw [Zaf (Zae e fa)];exact r.g.s b o e
 ·rw [Zaf (Zae e2 h0a)];exact r.g.o b o e1 e2
 ·rcases ZaD q with ⟨_,z,_⟩ | ⟨hij,q⟩
  ·cases z
  ·rw [ZcB hij];exact r.im j e q
 ·rcases ZaD q with ⟨rfl,z,l⟩ | ⟨hij,q⟩
  ·cases z
   exact ⟨a,xs,ZjY (by rw [r.len];exact l),h0a,fa,Zag,h⟩
  ·rw [ZcB hij]
   obtain ⟨b,ys,h1,h2,h3,h4,h5⟩:=r.ow j es q
   exact ⟨b,ys,h1,h2,h3,by rw [Zaf (Zae h4 hn)];exact h4,h5⟩
 ·rcases ZaD q1 with ⟨rfl,_,l1⟩ | ⟨h1,q1⟩
  ·rcases ZaD q2 with ⟨rfl,_,_⟩ | ⟨h2,q2⟩
   ·rfl
   ·rw [ZjY (by rw [r.len];exact l1)] at q3
    rw [ZcB h2] at q4
    cases q3
    exact absurd rfl (nea q2 q4)
  ·rcases ZaD q2 with ⟨rfl,_,l2⟩ | ⟨h2,q2⟩
   ·rw [ZjY (by rw [r.len];exact l2)] at q4
    rw [ZcB h1] at q3
    cases q4
    exact absurd rfl (nea q1 q3)
   ·rw [ZcB h1] at q3
    rw [ZcB h2] at q4
    exact r.ne j k es ts b q1 q2 q3 q4
theorem Rep.app{i:Nat}{x:V}{d:D}{ds:List D}{a:Addr}{xs:List V}(r:Rep K mg F0 H0 F H σ ρ)(e:ρ[i]?=some (.ow ds))(e2:σ[i]?=some (some (.ref a)))(e3:H a=some (.lst xs))(e4:H0 a=none)(e5:F a=none)(hr:Rps K mg F xs ds)(h:Rp K mg F x d) :
  Rep K mg F0 H0 F (upd H a (.lst (xs++[x]))) σ (ρ.set i (.ow (ds++[d]))):=by
 have li:i<ρ.length:=(Vat.mp e).1
 refine ⟨⟨r.g.f,fun b o q=>?_,fun b o q1 q2=>?_⟩,by rw [VbE];exact r.len,fun j u q=>?_,fun j es q=>?_,fun j k es ts b q1 q2 q3 q4=>?_⟩
 ·rw [Zaf (Zae q e5)];exact r.g.s b o q
 ·rw [Zaf (Zae q2 e4)];exact r.g.o b o q1 q2
 ·rcases ZaD q with ⟨_,z,_⟩ | ⟨_,q⟩
  ·cases z
  ·exact r.im j u q
 ·rcases ZaD q with ⟨rfl,z,l⟩ | ⟨hij,q⟩
  ·cases z
   exact ⟨a,_,e2,e4,e5,Zag,Rps.app (.cons h .nil) hr⟩
  ·obtain ⟨b,ys,h1,h2,h3,h4,h5⟩:=r.ow j es q
   have nb:b≠a:=by
    rintro rfl
    exact hij (r.ne i j ds es b e q e2 h1)
   exact ⟨b,ys,h1,h2,h3,by rw [Zaf nb];exact h4,h5⟩
 ·have o1:∃es',ρ[j]?=some (.ow es'):=by
   rcases ZaD q1 with ⟨rfl,_,_⟩ | ⟨_,q⟩
   ·exact ⟨_,e⟩
   ·exact ⟨_,q⟩
  have o2:∃es',ρ[k]?=some (.ow es'):=by
   rcases ZaD q2 with ⟨rfl,_,_⟩ | ⟨_,q⟩
   ·exact ⟨_,e⟩
   ·exact ⟨_,q⟩
  obtain ⟨_,o1⟩:=o1
  obtain ⟨_,o2⟩:=o2
  exact r.ne j k _ _ b o1 o2 q3 q4
theorem Rep.frz{i:Nat}{ds:List D}(r:Rep K mg F0 H0 F H σ ρ)(e:ρ[i]?=some (.ow ds)):∃F',Same F F'∧Rep K mg F0 H0 F' H σ (ρ.set i (.im (.lst ds))):=by
 obtain ⟨a,xs,e2,e4,e5,e3,hr⟩:=r.ow i ds e
 have sF:Same F (upd F a (.lst xs)):=ZaA e5 _
 refine ⟨upd F a (.lst xs),sF,⟨r.g.f.trans sF,fun b o q=>?_,fun b o q1 q2=>?_⟩,by rw [VbE];exact r.len,fun j u q=>?_,fun j es q=>?_,fun j k es ts b q1 q2 q3 q4=>?_⟩
 ·by_cases hb:b=a
  ·subst hb;rw [Zag] at q;cases q;exact e3
  ·rw [Zaf hb] at q;exact r.g.s b o q
 ·rw [Zaf (Zae q2 e4)];exact r.g.o b o q1 q2
 ·rcases ZaD q with ⟨rfl,z,_⟩ | ⟨_,q⟩
  ·cases z
   exact ⟨.ref a,e2,.lst (SqL.of Zag) (hr.same sF)⟩
  ·obtain ⟨x,h1,h2⟩:=r.im j u q
   exact ⟨x,h1,h2.same sF⟩
 ·rcases ZaD q with ⟨_,z,_⟩ | ⟨hij,q⟩
  ·cases z
  ·obtain ⟨b,ys,h1,h2,h3,h4,h5⟩:=r.ow j es q
   have nb:b≠a:=by
    rintro rfl
    exact hij (r.ne i j ds es b e q e2 h1)
   exact ⟨b,ys,h1,h2,by rw [Zaf nb];exact h3,h4,h5.same sF⟩
 ·rcases ZaD q1 with ⟨_,z,_⟩ | ⟨_,q1⟩
  ·cases z
  ·rcases ZaD q2 with ⟨_,z,_⟩ | ⟨_,q2⟩
   ·cases z
   ·exact r.ne j k es ts b q1 q2 q3 q4
end
def Ans{α β:Type}(mg:Str→Option Value)(E:XK)(R:Hp→β→α→Prop)(F H:Hp)(r:Res α)(w:(β→Hp→Prop)→Prop):Prop :=
 match r with
 | .ok a=>∀Q:β→Hp→Prop,(∀F' H' b,Gr F H F' H'→R F' b a→Q b H')→w Q
 | .ex c=>∀Q:β→Hp→Prop,(∀F' H' C,Gr F H F' H'→mg c=some (.ref C)→E (.ref C) none H')→w Q
 | .bad=>True
section
variable{α β γ δ:Type}{mg:Str→Option Value}{E:XK}{R:Hp→β→α→Prop}{R':Hp→δ→γ→Prop}{F H:Hp}
theorem Ans.ret{a:α}{b:β}{w:(β→Hp→Prop)→Prop}(s:Same F H)(r:R F b a)(h:∀Q:β→Hp→Prop,Q b H→w Q):Ans mg E R F H (.ok a) w:=fun Q q=>h Q (q F H b (.refl s) r)
theorem Ans.bindE{r:Res α}{w:(β→Hp→Prop)→Prop}{k:α→Res γ}{w':β→Hp→(δ→Hp→Prop)→Prop}(h1:Ans mg E R F H r w)(h2:∀a,r=.ok a→∀F1 H1 b,Gr F H F1 H1→R F1 b a→Ans mg E R' F1 H1 (k a) (w' b H1)) :
  Ans mg E R' F H (r.bind k) (fun Q=>w fun b H1=>w' b H1 Q):=by
 cases r with
 | ok a =>
  show Ans mg E R' F H (k a) _
  have h2':=h2 a rfl
  generalize k a=r2 at h2'
  cases r2 with
  | ok d=>exact fun Q q=>h1 _ fun F1 H1 b g rb=>h2' F1 H1 b g rb Q fun F2 H2 e g2 re=>q F2 H2 e (g.trans g2) re
  | ex c=>exact fun Q q=>h1 _ fun F1 H1 b g rb=>h2' F1 H1 b g rb Q fun F2 H2 C g2 hc=>q F2 H2 C (g.trans g2) hc
  | bad=>trivial
 | ex c=>exact fun Q q=>h1 _ q
 | bad=>trivial
theorem Ans.bind{r:Res α}{w:(β→Hp→Prop)→Prop}{k:α→Res γ}{w':β→Hp→(δ→Hp→Prop)→Prop}(h1:Ans mg E R F H r w)(h2:∀F1 H1 b a,Gr F H F1 H1→R F1 b a→Ans mg E R' F1 H1 (k a) (w' b H1)) :
  Ans mg E R' F H (r.bind k) (fun Q=>w fun b H1=>w' b H1 Q):=h1.bindE fun a _ F1 H1 b g q=>h2 F1 H1 b a g q
end
def AnsS(K:W.Frag)(mg:Str→Option Value)(E:XK)(F0 H0 F:Hp)(r:Res Fl)(w:Ends→Prop):Prop :=
 match r with
 | .ok (.nx ρ)=>∀D:Ends,(∀F' H' σ',Same F F'→Rep K mg F0 H0 F' H' σ' ρ→D.nx σ' H')→w D
 | .ok (.bk ρ)=>∀D:Ends,(∀F' H' σ',Same F F'→Rep K mg F0 H0 F' H' σ' ρ→D.bk σ' H')→w D
 | .ok (.ct ρ)=>∀D:Ends,(∀F' H' σ',Same F F'→Rep K mg F0 H0 F' H' σ' ρ→D.ct σ' H')→w D
 | .ok (.rt d)=>∀D:Ends,(∀F' H' x,Gr F0 H0 F' H'→Rp K mg F' x d→D.rt x H')→w D
 | .ex c=>∀D:Ends,(∀F' H' C,Gr F0 H0 F' H'→mg c=some (.ref C)→E (.ref C) none H')→w D
 | .bad=>True
abbrev RB:Hp→Bool→Bool→Prop:=fun _ b b'=>b=b'
abbrev RO:Hp→Option Int→Option Int→Prop:=fun _ b b'=>b=b'
def SE(K:W.Frag)(mg:Str→Option Value)(E:XK)(t:TE)(m:ME):Prop:=∀F0 H0 F H σ ρ,Rep K mg F0 H0 F H σ ρ→Ans mg E (Rp K mg) F H (m ρ) (t σ H)
def STt(K:W.Frag)(mg:Str→Option Value)(E:XK)(t:TT)(m:MB):Prop:=∀F0 H0 F H σ ρ,Rep K mg F0 H0 F H σ ρ→Ans mg E RB F H (m ρ) (t σ H)
def SA(K:W.Frag)(mg:Str→Option Value)(E:XK)(t:TA)(m:MA):Prop:=∀F0 H0 F H σ ρ,Rep K mg F0 H0 F H σ ρ→Ans mg E (Rps K mg) F H (m ρ) (t σ H)
def SO(K:W.Frag)(mg:Str→Option Value)(E:XK)(t:TO)(m:Ev→Res (Option Int)):Prop:=∀F0 H0 F H σ ρ,Rep K mg F0 H0 F H σ ρ→Ans mg E RO F H (m ρ) (t σ H)
def SS(K:W.Frag)(mg:Str→Option Value)(E:XK)(t:TS)(m:MS):Prop:=∀F0 H0 F H σ ρ,Rep K mg F0 H0 F H σ ρ→AnsS K mg E F0 H0 F (m ρ) (fun D=>t D σ H)
def AnsG(K:W.Frag)(mg:Str→Option Value)(F0 H0 F:Hp)(n:Nat)(σ:St)(r:Res Ev)(w:(St→Hp→Prop)→Prop):Prop :=
 match r with
 | .ok ρ'=>∀Q:St→Hp→Prop,(∀F' H' σ',Same F F'→Rep K mg F0 H0 F' H' σ' ρ'→σ'.drop n=σ.drop n→Q σ' H')→w Q
 | _=>True
def SG(K:W.Frag)(mg:Str→Option Value)(n:Nat)(t:TG)(g:MG):Prop:=∀F0 H0 F H σ ρ x d,Rep K mg F0 H0 F H σ ρ→Rp K mg F x d→AnsG K mg F0 H0 F n σ (g d ρ) (t x σ H)
def SGs(K:W.Frag)(mg:Str→Option Value)(n:Nat)(t:TGs)(g:MGs):Prop:=∀F0 H0 F H σ ρ xs ds,Rep K mg F0 H0 F H σ ρ→Rps K mg F xs ds→AnsG K mg F0 H0 F n σ (g ds ρ) (t xs σ H)
def ItOk(K:W.Frag)(mg:Str→Option Value)(F:Hp)(J:It)(ds:List D):Prop:=∀F' H',Same F F'→Same F' H'→∀i:Nat,
 (∀d,ds[i]?=some d→J.go i H'∧∀x H'',J.yld i H' x H''→∃F'',Gr F' H' F'' H''∧Rp K mg F'' x d)∧(ds.length≤i→J.stop i H')
def SI(K:W.Frag)(mg:Str→Option Value)(E:XK)(t:TI)(m:MI):Prop:=∀F0 H0 F H σ ρ,Rep K mg F0 H0 F H σ ρ→Ans mg E (ItOk K mg) F H (m ρ) (t σ H)
def OpD(K:W.Frag)(mg:Str→Option Value)(r:R2)(f:D→D→Res D):Prop:=∀(E:XK) F H x y dx dy,Same F H→Rp K mg F x dx→Rp K mg F y dy→Ans mg E (Rp K mg) F H (f dx dy) (r x y H)
def UnD(K:W.Frag)(mg:Str→Option Value)(r:V→Hp→VK→Prop)(f:D→Res D):Prop:=∀(E:XK) F H x dx,Same F H→Rp K mg F x dx→Ans mg E (Rp K mg) F H (f dx) (r x H)
def CallD(K:W.Frag)(mg:Str→Option Value)(r:List V→Hp→VK→Prop)(f:List D→Res D):Prop:=∀(E:XK) F H xs ds,Same F H→Rps K mg F xs ds→Ans mg E (Rp K mg) F H (f ds) (r xs H)
section
variable{K:W.Frag}{mg:Str→Option Value}{E:XK}{ta tb tc:TE}{ma mb mc:ME}{sa sb:TT}{na nb:MB}
theorem Rep.ss{F0 H0 F H:Hp}{σ:St}{ρ:Ev}(r:Rep K mg F0 H0 F H σ ρ):Same F H:=r.g.s
theorem se_v(i:Nat):SE K mg E (tVar i) (v i):=by
 intro F0 H0 F H σ ρ r
 unfold v getC
 split
 ·next d h =>
  obtain ⟨x,h1,h2⟩:=r.im i d h
  exact .ret r.ss h2 fun Q q=>⟨x,h1,q⟩
 ·trivial
theorem se_c{x:V}{d:D}(h:∀F,Rp K mg F x d):SE K mg E (tC x) (c d):=fun _ _ F _ _ _ r=>.ret r.ss (h F) fun _ q=>q
theorem Znd{r:R2}{f:D→D→Res D}(hf:OpD K mg r f)(ha:SE K mg E ta ma)(hb:SE K mg E tb mb):SE K mg E (tOp r ta tb) (o2 f ma mb):=by
 intro F0 H0 F H σ ρ rr
 refine (ha F0 H0 F H σ ρ rr).bind fun F1 H1 x dx g1 rx=>?_
 refine (hb F0 H0 F1 H1 σ ρ (rr.gr g1)).bind fun F2 H2 y dy g2 ry=>?_
 exact hf E F2 H2 x y dx dy g2.s (rx.same g2.f) ry
theorem ZrZ{r:V→Hp→VK→Prop}{f:D→Res D}(hf:UnD K mg r f)(ha:SE K mg E ta ma):SE K mg E (tUn r ta) (o1 f ma):=by
 intro F0 H0 F H σ ρ rr
 exact (ha F0 H0 F H σ ρ rr).bind fun F1 H1 x dx g1 rx=>hf E F1 H1 x dx g1.s rx
theorem ZoO:SA K mg E tNil anil:=fun _ _ _ _ _ _ r=>.ret r.ss .nil fun _ q=>q
theorem Zqi{t:TA}{m:MA}(ha:SE K mg E ta ma)(hr:SA K mg E t m):SA K mg E (Zek ta t) (Zaa ma m):=by
 intro F0 H0 F H σ ρ rr
 refine (ha F0 H0 F H σ ρ rr).bind fun F1 H1 x dx g1 rx=>?_
 refine (hr F0 H0 F1 H1 σ ρ (rr.gr g1)).bind fun F2 H2 xs ds g2 rs=>?_
 exact .ret g2.s (.cons (rx.same g2.f) rs) fun _ q=>q
theorem Zrw{r:List V→Hp→VK→Prop}{f:List D→Res D}{t:TA}{m:MA}(hf:CallD K mg r f)(ha:SA K mg E t m):SE K mg E (tCB r t) (on f m):=by
 intro F0 H0 F H σ ρ rr
 exact (ha F0 H0 F H σ ρ rr).bind fun F1 H1 x dx g1 rx=>hf E F1 H1 x dx g1.s rx
theorem ZfT{α:Type}{R:Hp→V→α→Prop}{F H:Hp}{a:α}{o:HO}{w:VK→Prop}(s:Same F H)(hr:∀p,H p=none→R (upd F p o) (.ref p) a)(h:∀Q:VK,(∀p,H p=none→Q (.ref p) (upd H p o))→w Q):Ans mg E R F H (.ok a) w :=
 fun Q q=>h Q fun p hp=>q (upd F p o) (upd H p o) (.ref p) (.new s hp o) (hr p hp)
def SAn(n:Nat)(m:MA):Prop:=∀ρ ds,m ρ=.ok ds→ds.length=n
theorem Zle:SAn 0 anil:=fun ρ ds h=>by cases h;rfl
theorem Zok{n:Nat}{m:MA}(h:SAn n m):SAn (n+1) (Zaa ma m):=fun ρ ds e=>by
 unfold Zaa at e
 cases ea:ma ρ with
 | ok x =>
  rw [ea] at e
  cases em:m ρ with
  | ok xs =>
   have e':(m ρ).bind (fun xs=>Res.ok (x::xs))=.ok ds:=e
   rw [em] at e'
   have e2:Res.ok (x::xs)=.ok ds:=e'
   cases e2
   exact Vax (·+1) (h ρ xs em)
  | ex c =>
   have e':(m ρ).bind (fun xs=>Res.ok (x::xs))=.ok ds:=e
   rw [em] at e';cases e'
  | bad =>
   have e':(m ρ).bind (fun xs=>Res.ok (x::xs))=.ok ds:=e
   rw [em] at e';cases e'
 | ex c=>rw [ea] at e;cases e
 | bad=>rw [ea] at e;cases e
theorem ZrN{t:TA}{m:MA}{n:Nat}(ha:SA K mg E t m)(hl:SAn n m)(hn:n≤sizeLine):SE K mg E (tTup t) (mtp m):=by
 intro F0 H0 F H σ ρ rr
 have h:=ha F0 H0 F H σ ρ rr
 unfold mtp
 cases e:m ρ with
 | ok ds =>
  rw [e] at h
  exact fun Q q=>h _ fun F' H' xs g rs=>⟨by rw [rs.length,hl ρ ds e];exact hn,fun p hp=>q _ _ _ (g.trans (.new g.s hp _)) (.tup (SqT.of Zag) (rs.same (ZaA (g.s.free hp) _)))⟩
 | ex c =>
  rw [e] at h
  exact fun Q q=>h _ q
 | bad=>trivial
theorem Zs6{t:TA}{m:MA}{n:Nat}(ha:SA K mg E t m)(hl:SAn n m)(hn:n≤sizeLine):SE K mg E (tLst t) (mls m):=by
 intro F0 H0 F H σ ρ rr
 have h:=ha F0 H0 F H σ ρ rr
 unfold mls
 cases e:m ρ with
 | ok ds =>
  rw [e] at h
  exact fun Q q=>h _ fun F' H' xs g rs=>⟨by rw [rs.length,hl ρ ds e];exact hn,fun p hp=>q _ _ _ (g.trans (.new g.s hp _)) (.lst (SqL.of Zag) (rs.same (ZaA (g.s.free hp) _)))⟩
 | ex c =>
  rw [e] at h
  exact fun Q q=>h _ q
 | bad=>trivial
theorem st_b(ha:SE K mg E ta ma):STt K mg E (L2.tB ta) (trb ma):=by
 intro F0 H0 F H σ ρ rr
 refine (ha F0 H0 F H σ ρ rr).bind fun F1 H1 x dx g1 rx=>?_
 cases dx with
 | bl b=>cases rx;exact .ret g1.s rfl fun Q q=>⟨b,rfl,q⟩
 | _=>trivial
theorem Zi1(ha:SE K mg E ta ma):STt K mg E (ZfE ta) (trb ma):=st_b ha
theorem ZsZ(ha:STt K mg E sa na)(hb:STt K mg E sb nb):STt K mg E (tAnd sa sb) (bAnd na nb):=by
 intro F0 H0 F H σ ρ rr
 refine (ha F0 H0 F H σ ρ rr).bind fun F1 H1 x dx g1 rx=>?_
 cases (show x=dx from rx)
 cases x with
 | true =>
  have z:=hb F0 H0 F1 H1 σ ρ (rr.gr g1)
  simp only [Va8];exact z
 | false =>
  simp only [Vbu,Va7]
  exact Ans.ret (R:=RB) g1.s rfl fun Q q=>q
theorem ZuH(ha:STt K mg E sa na)(hb:STt K mg E sb nb):STt K mg E (tOr sa sb) (bOr na nb):=by
 intro F0 H0 F H σ ρ rr
 refine (ha F0 H0 F H σ ρ rr).bind fun F1 H1 x dx g1 rx=>?_
 cases (show x=dx from rx)
 cases x with
 | true =>
  simp only [Va8]
  exact Ans.ret (R:=RB) g1.s rfl fun Q q=>q
 | false =>
  have z:=hb F0 H0 F1 H1 σ ρ (rr.gr g1)
  simp only [Vbu,Va7];exact z
theorem ZsC(ha:STt K mg E sa na):STt K mg E (tNot sa) (bNot na):=by
 intro F0 H0 F H σ ρ rr
 refine (ha F0 H0 F H σ ρ rr).bind fun F1 H1 x dx g1 rx=>?_
 cases (show x=dx from rx)
 exact Ans.ret (R:=RB) g1.s rfl fun Q q=>q
theorem Ztf(ha:SE K mg E ta ma)(hb:SE K mg E tb mb):SE K mg E (Zp6 ta tb) (eAnd ma mb):=by
 intro F0 H0 F H σ ρ rr
 have z:=(st_b ha F0 H0 F H σ ρ rr).bind (R':=Rp K mg) (k:=fun x=>if x=true then mb ρ else .ok (D.bl false)) (w':=fun c H1 Q=>if c=true then tb σ H1 Q else Q (V.bl false) H1) fun F1 H1 x dx g1 rx=>by
  cases (show x=dx from rx)
  cases x with
  | true =>
   have z:=hb F0 H0 F1 H1 σ ρ (rr.gr g1)
   simp only [Va8];exact z
  | false =>
   simp only [Vbu,Va7]
   exact Ans.ret (R:=Rp K mg) g1.s (.bl false) fun Q q=>q
 exact z
theorem ZtK(ha:SE K mg E ta ma):SE K mg E (Zqk ta) (eNot ma):=by
 intro F0 H0 F H σ ρ rr
 exact (st_b ha F0 H0 F H σ ρ rr).bind (R':=Rp K mg) (k:=fun x=>.ok (D.bl (!x))) (w':=fun c H1 Q=>Q (V.bl (!c)) H1) fun F1 H1 x dx g1 rx=>by
  cases (show x=dx from rx)
  exact Ans.ret (R:=Rp K mg) g1.s (.bl _) fun Q q=>q
theorem ZtG(hc:STt K mg E sa na)(ha:SE K mg E ta ma)(hb:SE K mg E tb mb):SE K mg E (tIf sa ta tb) (ife na ma mb):=by
 intro F0 H0 F H σ ρ rr
 refine (hc F0 H0 F H σ ρ rr).bind fun F1 H1 x dx g1 rx=>?_
 cases (show x=dx from rx)
 cases x with
 | true =>
  have z:=ha F0 H0 F1 H1 σ ρ (rr.gr g1)
  simp only [Va8];exact z
 | false =>
  have z:=hb F0 H0 F1 H1 σ ρ (rr.gr g1)
  simp only [Vbu,Va7];exact z
end
section
variable{K:W.Frag}{mg:Str→Option Value}{E:XK}
theorem ZoS{r:R2}{f:Int→Int→Res D}(h:∀(E:XK) F H a b,Same F H→Ans mg E (Rp K mg) F H (f a b) (r (.int a) (.int b) H)):OpD K mg r (ii f):=by
 intro E F H x y dx dy s rx ry
 unfold ii
 split
 ·cases rx;cases ry;exact h E F H _ _ s
 ·trivial
theorem Zkt{C:Int→Int→Prop}{g:Int→Int→V}{f:Int→Int→Res D}(h:∀a b,(∃d,f a b=.ok d∧C a b∧∀F,Rp K mg F (g a b) d)∨f a b=.bad):OpD K mg (rI C g) (ii f):=by
 refine ZoS fun E F H a b s=>?_
 rcases h a b with ⟨d,e,hc,hr⟩ | e
 ·rw [e];exact .ret s (hr F) fun Q q=>⟨a,b,rfl,rfl,hc,q⟩
 ·rw [e];trivial
theorem Zif{g:Int→Int→V}{f:Int→Int→Res D}(h:∀a b,(∃d,f a b=.ok d∧∀F,Rp K mg F (g a b) d)∨f a b=.bad):OpD K mg (rI0 g) (ii f):=by
 refine ZoS fun E F H a b s=>?_
 rcases h a b with ⟨d,e,hr⟩ | e
 ·rw [e];exact .ret s (hr F) fun Q q=>⟨a,b,rfl,rfl,q⟩
 ·rw [e];trivial
theorem ZqI:OpD K mg (rI0 fun i j=>.int (i - j)) dSub:=Zif fun _ _=>.inl ⟨_,rfl,fun _=>.int _⟩
theorem ZoF:OpD K mg (rI0 fun i j=>.bl (decide (i<j))) dLt:=Zif fun _ _=>.inl ⟨_,rfl,fun _=>.bl _⟩
theorem Zo0:OpD K mg (rI0 fun i j=>.bl (decide (i≤j))) dLe:=Zif fun _ _=>.inl ⟨_,rfl,fun _=>.bl _⟩
theorem Ztz:OpD K mg (rI0 fun i j=>.bl (decide (j<i))) dGt:=Zif fun _ _=>.inl ⟨_,rfl,fun _=>.bl _⟩
theorem ZoZ:OpD K mg (rI0 fun i j=>.bl (decide (j≤i))) dGe:=Zif fun _ _=>.inl ⟨_,rfl,fun _=>.bl _⟩
theorem Zpa:OpD K mg (rI (fun _ j=>j≠0) fun i j=>.int (i.fmod j)) dMod:=Zkt fun a b=>by
 unfold iMod
 by_cases h1:0<b
 ·rw [if_pos h1]
  exact .inl ⟨_,rfl,by omega,fun _=>by rw [Int.fmod_eq_emod_of_nonneg a (by omega)];exact .int _⟩
 ·rw [if_neg h1]
  by_cases h2:b=0
  ·rw [if_pos h2];exact .inr rfl
  ·rw [if_neg h2];exact .inl ⟨_,rfl,h2,fun _=>.int _⟩
theorem Zp0:OpD K mg (rI Zp7 fun i j=>.int (i.fdiv j)) dDiv:=Zkt fun a b=>by
 unfold iDiv
 by_cases h0:b.natAbs.log2<9000
 ·rw [if_pos h0]
  by_cases h1:0<b
  ·rw [if_pos h1]
   exact .inl ⟨_,rfl,⟨by omega,h0⟩,fun _=>by rw [VaJ a (by omega)];exact .int _⟩
  ·rw [if_neg h1]
   by_cases h2:b=0
   ·rw [if_pos h2];exact .inr rfl
   ·rw [if_neg h2];exact .inl ⟨_,rfl,⟨h2,h0⟩,fun _=>.int _⟩
 ·rw [if_neg h0];exact .inr rfl
theorem Zqt:OpD K mg (rI CPow fun i j=>.int (i^j.toNat)) dPow:=Zkt fun a b=>by
 unfold iPow
 by_cases h:0≤b∧b≤1000000∧a.natAbs<2^64
 ·rw [if_pos h];exact .inl ⟨_,rfl,h,fun _=>.int _⟩
 ·rw [if_neg h];exact .inr rfl
theorem ZpL:OpD K mg (rI CPow fun i j=>.int (i*2^j.toNat)) dShl:=Zkt fun a b=>by
 unfold iShl
 by_cases h:0≤b∧b≤1000000∧a.natAbs<2^64
 ·rw [if_pos h];exact .inl ⟨_,rfl,h,fun _=>.int _⟩
 ·rw [if_neg h];exact .inr rfl
theorem ZpE:OpD K mg (rI (fun _ j=>0≤j) fun i j=>.int (i/2^j.toNat)) dShr:=Zkt fun a b=>by
 unfold iShr
 by_cases h:0≤b
 ·rw [if_pos h];exact .inl ⟨_,rfl,h,fun _=>.int _⟩
 ·rw [if_neg h];exact .inr rfl
theorem Zpu{r:V→Hp→VK→Prop}(h:∀i H Q,Q (.int (-i)) H→r (.int i) H Q):UnD K mg r dNeg:=by
 intro E F H x dx s rx
 unfold dNeg
 split
 ·cases rx;exact .ret s (.int _) fun Q q=>h _ _ _ q
 ·trivial
def Zs5(K:W.Frag):R2:=fun x y H Q=>∃l b xs zs,x=.ref l∧y=.ref b∧SqL K H l xs∧SqL K H b zs∧xs.length+zs.length≤sizeLine∧∀p,H p=none→Q (.ref p) (upd H p (.lst (xs++zs)))
def Zrq(K:W.Frag):R2:=fun x y H Q=>∃a b xs ys,x=.ref a∧y=.ref b∧SqT K H a xs∧SqT K H b ys∧xs.length+ys.length≤sizeLine ∧
 (xs=[]→Q (.ref b) H)∧(xs≠[]→ys=[]→Q (.ref a) H)∧(xs≠[]→ys≠[]→∀p,H p=none→Q (.ref p) (upd H p (.tup (xs++ys))))
def Zue:R2:=fun x y H Q=>∃i j:Str,x=.str i∧y=.str j∧i.length+j.length≤sizeLine∧Q (.str (i++j)) H
def ZqT(K:W.Frag):R2:=fun x y H Q=>rI0 (fun i j=>.int (i+j)) x y H Q∨Zs5 K x y H Q∨Zrq K x y H Q∨Zue x y H Q
theorem Zft{n:Nat}(h:n≤LIM):n≤sizeLine:=Vaj h (by decide)
theorem Zrf:OpD K mg (ZqT K) dAdd:=by
 intro E F H x y dx dy s rx ry
 unfold dAdd
 split
 ·cases rx;cases ry
  exact .ret s (.int _) fun Q q=>.inl ⟨_,_,rfl,rfl,q⟩
 ·next as bs =>
  by_cases h:as.length+bs.length≤LIM
  ·rw [if_pos h]
   cases rx with
   | lst ha ra =>
    cases ry with
    | lst hb rb =>
     refine ZfT s (o:=.lst _) (fun p hp=>.lst (SqL.of Zag) ((Rps.app rb ra).same (ZaA (s.free hp) _))) fun Q q=>.inr (.inl ⟨_,_,_,_,rfl,rfl,s.seq ha,s.seq hb,?_,q⟩)
     rw [ra.length,rb.length];exact Zft h
  ·rw [if_neg h];trivial
 ·next as bs =>
  by_cases h:as.length+bs.length≤LIM
  ·rw [if_pos h]
   cases rx with
   | tup ha ra =>
    cases ry with
    | tup hb rb =>
     rename_i a xs b ys
     have hl:xs.length+ys.length≤sizeLine:=by rw [ra.length,rb.length];exact Zft h
     intro Q q
     refine .inr (.inr (.inl ⟨a,b,xs,ys,rfl,rfl,ZaE s ha,ZaE s hb,hl,fun e=>?_,fun _ e=>?_,fun _ _ p hp=>?_⟩))
     ·subst e
      cases ra
      exact q F H _ (.refl s) (.tup hb rb)
     ·subst e
      cases rb
      rw [VaS] at q
      exact q F H _ (.refl s) (.tup ha ra)
     ·exact q _ _ _ (.new s hp _) (.tup (SqT.of Zag) ((Rps.app rb ra).same (ZaA (s.free hp) _)))
  ·rw [if_neg h];trivial
 ·next a b =>
  by_cases h:a.length+b.length≤LIM
  ·rw [if_pos h]
   cases rx;cases ry
   exact .ret s (.str _) fun Q q=>.inr (.inr (.inr ⟨_,_,rfl,rfl,Zft h,q⟩))
  ·rw [if_neg h];trivial
 ·trivial
theorem ZrH{ta:TE}{ma:ME}(ha:SE K mg E ta ma):SE K mg E (tOp (fun x y H Q=>y=.non∧Q (.bl (decide (x=.non))) H) ta (tC .non)) (o1 dIsN ma):=by
 intro F0 H0 F H σ ρ rr
 refine (ha F0 H0 F H σ ρ rr).bind fun F1 H1 x dx g1 rx=>?_
 have e:decide (x=V.non)=ZkO dx:=by cases rx<;>rfl
 exact .ret g1.s (.bl _) fun Q q=>⟨rfl,by rw [e];exact q⟩
theorem Zpl{ta:TE}{ma:ME}(ha:SE K mg E ta ma):SE K mg E (tOp (fun x y H Q=>y=.non∧Q (.bl (!decide (x=.non))) H) ta (tC .non)) (o1 Zk3 ma):=by
 intro F0 H0 F H σ ρ rr
 refine (ha F0 H0 F H σ ρ rr).bind fun F1 H1 x dx g1 rx=>?_
 have e:decide (x=V.non)=ZkO dx:=by cases rx<;>rfl
 exact .ret g1.s (.bl _) fun Q q=>⟨rfl,by rw [e];exact q⟩
theorem Zor{F:Hp}{xs:List V}{ds:List D}{i:Int}{d:D}(r:Rps K mg F xs ds)(h:at_ ds i=some d):∃x,atI xs i=some x∧Rp K mg F x d:=by
 have hl:=r.length
 unfold at_ at h
 unfold atI ixN
 by_cases h0:0≤i
 ·rw [if_pos h0] at h
  obtain ⟨x,e,rx⟩:=r.get h
  have lt:i.toNat<xs.length:=(Vat.mp e).1
  exact ⟨x,by rw [if_pos h0,if_pos (by omega)];exact e,rx⟩
 ·rw [if_neg h0] at h
  by_cases h1:-(ds.length:Int)≤i
  ·rw [if_pos h1] at h
   obtain ⟨x,e,rx⟩:=r.get h
   exact ⟨x,by rw [if_neg h0,if_pos (by omega),hl];exact e,rx⟩
  ·rw [if_neg h1] at h;cases h
def rIxD(K:W.Frag):R2:=fun x y H Q=>rIxL K x y H Q∨rIxT K x y H Q
theorem Zrp:OpD K mg (rIxD K) dIx:=by
 intro E F H x y dx dy s rx ry
 unfold dIx
 split
 ·next ds i =>
  cases e:at_ ds i with
  | none=>trivial
  | some d =>
   cases rx with
   | lst ha ra =>
    cases ry
    obtain ⟨z,e1,rz⟩:=Zor ra e
    exact Ans.ret s rz fun Q q=>.inl ⟨_,_,_,_,rfl,rfl,s.seq ha,e1,q⟩
 ·next ds i =>
  cases e:at_ ds i with
  | none=>trivial
  | some d =>
   cases rx with
   | tup ha ra =>
    cases ry
    obtain ⟨z,e1,rz⟩:=Zor ra e
    exact Ans.ret s rz fun Q q=>.inr ⟨_,_,_,_,rfl,rfl,ZaE s ha,e1,q⟩
 ·trivial
theorem Zjq(n d:Nat)(o:Option Int):cutAt n d o=HT.sIx n d o:=by cases o<;>rfl
theorem ZlY{F:Hp}{xs:List V}{ds:List D}(r:Rps K mg F xs ds)(lo hi:Option Int):Rps K mg F (cutV xs lo hi) (cutL ds lo hi):=by
 unfold cutV cutL
 simp only [Zjq,r.length]
 exact (r.drop _).take _
def rSlU(K:W.Frag):V→Option Int→Option Int→Hp→VK→Prop:=fun x lo hi H Q=>∃a xs,x=.ref a∧SqT K H a xs ∧
 ((HT.sIx xs.length 0 lo=0∧HT.sIx xs.length xs.length hi=xs.length)→Q (.ref a) H)∧(¬(HT.sIx xs.length 0 lo=0∧HT.sIx xs.length xs.length hi=xs.length)→∀p,H p=none→Q (.ref p) (upd H p (.tup (cutV xs lo hi))))
def rSlD(K:W.Frag):V→Option Int→Option Int→Hp→VK→Prop:=fun x lo hi H Q=>rSlL K x lo hi H Q∨rSlU K x lo hi H Q
theorem ZtM{ta:TE}{ma:ME}{tl th:TO}{ml mh:Ev→Res (Option Int)}(ha:SE K mg E ta ma)(hl:SO K mg E tl ml)(hh:SO K mg E th mh):SE K mg E (tSl (rSlD K) ta tl th) (cut ma ml mh):=by
 intro F0 H0 F H σ ρ rr
 refine (ha F0 H0 F H σ ρ rr).bind fun F1 H1 x dx g1 rx=>?_
 refine (hl F0 H0 F1 H1 σ ρ (rr.gr g1)).bind fun F2 H2 l l' g2 e2=>?_
 cases (show l=l' from e2)
 refine (hh F0 H0 F2 H2 σ ρ ((rr.gr g1).gr g2)).bind fun F3 H3 h h' g3 e3=>?_
 cases (show h=h' from e3)
 have rx':=rx.same (g2.f.trans g3.f)
 unfold dCut
 split
 ·cases rx' with
  | lst hx r =>
   refine ZfT g3.s (o:=.lst _) (fun p hp=>.lst (SqL.of Zag) ((ZlY r l h).same (ZaA (g3.s.free hp) _))) fun Q q=>.inl ⟨_,_,rfl,g3.s.seq hx,q⟩
 ·cases rx' with
  | tup hx r =>
   rename_i ds a xs
   intro Q q
   refine .inr ⟨a,xs,rfl,ZaE g3.s hx,fun e=>?_,fun _ p hp=>q _ _ _ (.new g3.s hp _) (.tup (SqT.of Zag) ((ZlY r l h).same (ZaA (g3.s.free hp) _)))⟩
   have ec:cutL ds l h=ds:=by
    unfold cutL
    simp only [Zjq,←r.length,e.1,e.2]
    rw [Vbw,Nat.sub_zero,r.length,List.take_length]
   rw [ec] at q
   exact q F3 H3 _ (.refl g3.s) (.tup hx r)
 ·trivial
theorem ZdL:SO K mg E ZiR pno:=fun _ _ _ _ _ _ r=>Ans.ret (R:=RO) r.ss rfl fun _ q=>q
theorem Zdq{ta:TE}{ma:ME}(ha:SE K mg E ta ma):SO K mg E (Zpr ta) (pso ma):=by
 intro F0 H0 F H σ ρ rr
 refine (ha F0 H0 F H σ ρ rr).bind fun F1 H1 x dx g1 rx=>?_
 cases dx with
 | int i=>cases rx;exact Ans.ret (R:=RO) g1.s rfl fun Q q=>⟨i,rfl,q⟩
 | _=>trivial
theorem Ziq:CallD K mg (fun xs H Q=>∃p ys,xs=[.ref p]∧(SqL K H p ys∨SqT K H p ys)∧Q (.int ys.length) H) bLen:=by
 intro E F H xs ds s r
 unfold bLen
 split
 ·obtain ⟨x,rfl,rx⟩:=r.one
  cases rx with
  | lst h q=>rw [←q.length];exact .ret s (.int _) fun Q q=>⟨_,_,rfl,.inl (s.seq h),q⟩
 ·obtain ⟨x,rfl,rx⟩:=r.one
  cases rx with
  | tup h q=>rw [←q.length];exact .ret s (.int _) fun Q q=>⟨_,_,rfl,.inr (ZaE s h),q⟩
 ·trivial
theorem ZlU:CallD K mg (fun xs H Q=>∃i,xs=[.int i]∧Q (.int (if i<0 then -i else i)) H) bAbs:=by
 intro E F H xs ds s r
 unfold bAbs
 split
 ·obtain ⟨x,rfl,rx⟩:=r.one
  cases rx
  exact .ret s (.int _) fun Q q=>⟨_,rfl,q⟩
 ·trivial
theorem ZmA:CallD K mg (fun xs H Q=>∃i j,xs=[.int i,.int j]∧Q (.int (if j>i then j else i)) H) bMax:=by
 intro E F H xs ds s r
 unfold bMax
 split
 ·obtain ⟨x,y,rfl,rx,ry⟩:=r.two
  cases rx;cases ry
  exact .ret s (.int _) fun Q q=>⟨_,_,rfl,q⟩
 ·trivial
theorem Zmc:CallD K mg (fun xs H Q=>(∃i,xs=[.int i]∧Q (.int i) H)∨∃k,xs=[.bl k]∧Q (.int (if k then 1 else 0)) H) bInt:=by
 intro E F H xs ds s r
 unfold bInt
 split
 ·obtain ⟨x,rfl,rx⟩:=r.one
  cases rx
  exact .ret s (.int _) fun Q q=>.inl ⟨_,rfl,q⟩
 ·obtain ⟨x,rfl,rx⟩:=r.one
  cases rx
  exact .ret s (.int _) fun Q q=>.inr ⟨_,rfl,q⟩
 ·trivial
theorem ZcV:CallD K mg (fun xs H Q=>∃p ys,xs=[.ref p]∧((SqL K H p ys∧∀l,H l=none→Q (.ref l) (upd H l (.tup ys)))∨(SqT K H p ys∧Q (.ref p) H))) bTup:=by
 intro E F H xs ds s r
 unfold bTup
 split
 ·obtain ⟨x,rfl,rx⟩:=r.one
  cases rx with
  | lst h q=>exact ZfT s (o:=.tup _) (fun p hp=>.tup (SqT.of Zag) (q.same (ZaA (s.free hp) _))) fun Q z=>⟨_,_,rfl,.inl ⟨s.seq h,z⟩⟩
 ·obtain ⟨x,rfl,rx⟩:=r.one
  cases rx with
  | tup h q=>exact .ret s (.tup h q) fun Q z=>⟨_,_,rfl,.inr ⟨ZaE s h,z⟩⟩
 ·trivial
theorem Zkx:CallD K mg (fun xs H Q=>∃p ys,xs=[.ref p]∧(SqL K H p ys∨SqT K H p ys)∧∀l,H l=none→Q (.ref l) (upd H l (.lst ys))) bLst:=by
 intro E F H xs ds s r
 unfold bLst
 split
 ·obtain ⟨x,rfl,rx⟩:=r.one
  cases rx with
  | lst h q=>exact ZfT s (o:=.lst _) (fun p hp=>.lst (SqL.of Zag) (q.same (ZaA (s.free hp) _))) fun Q z=>⟨_,_,rfl,.inl (s.seq h),z⟩
 ·obtain ⟨x,rfl,rx⟩:=r.one
  cases rx with
  | tup h q=>exact ZfT s (o:=.lst _) (fun p hp=>.lst (SqL.of Zag) (q.same (ZaA (s.free hp) _))) fun Q z=>⟨_,_,rfl,.inr (ZaE s h),z⟩
 ·trivial
def spD(K:W.Frag)(mg:Str→Option Value)(n:Nat)(m:List D→Res D):Sp:=fun vs H Q E=>vs.length=n∧∃F ds,Same F H∧Rps K mg F vs ds∧m ds≠.bad ∧
 (∀d,m ds=.ok d→∀F' H' x,Gr F H F' H'→Rp K mg F' x d→Q x H')∧(∀c,m ds=.ex c→∀F' H' C,Gr F H F' H'→mg c=some (.ref C)→E (.ref C) none H')
theorem ZjI{n:Nat}{m:List D→Res D}{F H:Hp}{vs:List V}{ds:List D}(s:Same F H)(r:Rps K mg F vs ds)(hl:ds.length=n):Ans mg E (Rp K mg) F H (m ds) (fun Q=>spD K mg n m vs H Q E):=by
 have hv:vs.length=n:=r.length.trans hl
 cases e:m ds with
 | ok d =>
  intro Q q
  refine ⟨hv,F,ds,s,r,fun z=>?_,fun d' e'=>?_,fun c e'=>?_⟩
  ·rw [e] at z;cases z
  ·rw [e] at e';cases e';exact q
  ·rw [e] at e';cases e'
 | ex c =>
  intro Q q
  refine ⟨hv,F,ds,s,r,fun z=>?_,fun d' e'=>?_,fun c e'=>?_⟩
  ·rw [e] at z;cases z
  ·rw [e] at e';cases e'
  ·rw [e] at e';cases e';exact q
 | bad=>trivial
theorem Zq5{n:Nat}{m:List D→Res D}{t:TA}{ma:MA}(ha:SA K mg E t ma)(hl:SAn n ma):SE K mg E (Zjm (spD K mg n m) [] E t) (on m ma):=by
 intro F0 H0 F H σ ρ rr
 refine (ha F0 H0 F H σ ρ rr).bindE (w':=fun vs H1 Q=>spD K mg n m (vs++[]) H1 Q E) fun ds e F1 H1 vs g1 rs=>?_
 have z:=ZjI (E:=E) (m:=m) g1.s rs (hl ρ ds e)
 simp only [VaS]
 exact z
end
section
variable{K:W.Frag}{mg:Str→Option Value}{E:XK}{ta:TE}{ma:ME}{F0 H0 F H:Hp}
theorem AnsS.mono{F1:Hp}{r:Res Fl}{w:Ends→Prop}(s:Same F F1)(h:AnsS K mg E F0 H0 F1 r w):AnsS K mg E F0 H0 F r w:=by
 cases r with
 | ok f =>
  cases f with
  | nx ρ=>exact fun D q=>h D fun F' H' σ' s' r'=>q F' H' σ' (s.trans s') r'
  | bk ρ=>exact fun D q=>h D fun F' H' σ' s' r'=>q F' H' σ' (s.trans s') r'
  | ct ρ=>exact fun D q=>h D fun F' H' σ' s' r'=>q F' H' σ' (s.trans s') r'
  | rt d=>exact h
 | ex c=>exact h
 | bad=>trivial
theorem Ans.stm{α β:Type}{R:Hp→β→α→Prop}{r:Res α}{w:(β→Hp→Prop)→Prop}{k:α→Res Fl}{w':β→Hp→Ends→Prop}(h1:Ans mg E R F H r w)(g0:Gr F0 H0 F H)(h2:∀a,r=.ok a→∀F1 H1 b,Gr F H F1 H1→R F1 b a→AnsS K mg E F0 H0 F1 (k a) (w' b H1)) :
  AnsS K mg E F0 H0 F (r.bind k) (fun D=>w fun b H1=>w' b H1 D):=by
 cases r with
 | ok a =>
  show AnsS K mg E F0 H0 F (k a) _
  have h2':=fun F1 H1 b (g:Gr F H F1 H1) q=>(h2 a rfl F1 H1 b g q).mono g.f
  generalize k a=r2 at h2'
  cases r2 with
  | ok f =>
   cases f with
   | nx ρ=>exact fun D q=>h1 _ fun F1 H1 b g rb=>h2' F1 H1 b g rb D q
   | bk ρ=>exact fun D q=>h1 _ fun F1 H1 b g rb=>h2' F1 H1 b g rb D q
   | ct ρ=>exact fun D q=>h1 _ fun F1 H1 b g rb=>h2' F1 H1 b g rb D q
   | rt d=>exact fun D q=>h1 _ fun F1 H1 b g rb=>h2' F1 H1 b g rb D q
  | ex c=>exact fun D q=>h1 _ fun F1 H1 b g rb=>h2' F1 H1 b g rb D q
  | bad=>trivial
 | ex c=>exact fun D q=>h1 _ fun F1 H1 C g hc=>q F1 H1 C (g0.trans g) hc
 | bad=>trivial
theorem Ztg:SS K mg E ZnA nop:=fun _ _ _ _ _ _ r D q=>q _ _ _ (Same.refl _) r
theorem ZtL{t u:TS}{m n:MS}(h1:SS K mg E t m)(h2:SS K mg E u n):SS K mg E (tSeq t u) (sq m n):=by
 intro F0 H0 F H σ ρ rr
 have h:=h1 F0 H0 F H σ ρ rr
 unfold sq
 cases e:m ρ with
 | ok f =>
  rw [e] at h
  cases f with
  | nx ρ' =>
   show AnsS K mg E F0 H0 F (n ρ') _
   have h2':=fun F1 H1 σ1 (s:Same F F1) r1=>(h2 F0 H0 F1 H1 σ1 ρ' r1).mono s
   generalize n ρ'=r2 at h2'
   cases r2 with
   | ok f =>
    cases f with
    | nx ρ=>exact fun D q=>h _ fun F1 H1 σ1 s r1=>h2' F1 H1 σ1 s r1 D q
    | bk ρ=>exact fun D q=>h _ fun F1 H1 σ1 s r1=>h2' F1 H1 σ1 s r1 D q
    | ct ρ=>exact fun D q=>h _ fun F1 H1 σ1 s r1=>h2' F1 H1 σ1 s r1 D q
    | rt d=>exact fun D q=>h _ fun F1 H1 σ1 s r1=>h2' F1 H1 σ1 s r1 D q
   | ex c=>exact fun D q=>h _ fun F1 H1 σ1 s r1=>h2' F1 H1 σ1 s r1 D q
   | bad=>trivial
  | bk ρ'=>exact fun D q=>h _ q
  | ct ρ'=>exact fun D q=>h _ q
  | rt d=>exact fun D q=>h _ q
 | ex c=>rw [e] at h;exact fun D q=>h _ q
 | bad=>trivial
theorem ZpK(ha:SE K mg E ta ma):SS K mg E (Zgf ta) (drp ma):=by
 intro F0 H0 F H σ ρ rr
 exact (ha F0 H0 F H σ ρ rr).stm (w':=fun _ H1 D=>D.nx σ H1) rr.g fun d _ F1 H1 x g1 rx=>fun D q=>q F1 H1 σ (Same.refl _) (rr.gr g1)
theorem ZsU(ha:SE K mg E ta ma):SS K mg E (tRet ta) (ret ma):=by
 intro F0 H0 F H σ ρ rr
 exact (ha F0 H0 F H σ ρ rr).stm (w':=fun x H1 D=>D.rt x H1) rr.g fun d _ F1 H1 x g1 rx=>fun D q=>q F1 H1 x (rr.g.trans g1) rx
theorem ZsS:SS K mg E Zq2 cnt:=fun _ _ _ _ _ _ r D q=>q _ _ _ (Same.refl _) r
theorem ZuV{sc:TT}{nc:MB}{t u:TS}{m n:MS}(hc:STt K mg E sc nc)(h1:SS K mg E t m)(h2:SS K mg E u n):SS K mg E (tIfS sc t u) (ifs nc m n):=by
 intro F0 H0 F H σ ρ rr
 refine (hc F0 H0 F H σ ρ rr).stm (w':=fun b H1 D=>if b=true then t D σ H1 else u D σ H1) rr.g fun b _ F1 H1 x g1 rx=>?_
 cases (show x=b from rx)
 cases b with
 | true =>
  have z:=h1 F0 H0 F1 H1 σ ρ (rr.gr g1)
  simp only [Va8];exact z
 | false =>
  have z:=h2 F0 H0 F1 H1 σ ρ (rr.gr g1)
  simp only [Vbu,Va7];exact z
theorem Zjb{α:Type}{l:List α}{i n:Nat}{x:α}(h:i<n):(l.set i x).drop n=l.drop n:=by
 rw [List.drop_set,if_pos h]
theorem Zph{i n:Nat}(h:i<n):SG K mg n (Zgs i) (gN i):=fun _ _ _ _ _ _ _ _ r rx _ q=>q _ _ _ (Same.refl _) (r.set i rx) (Zjb h)
theorem ZpF{n:Nat}:SGs K mg n gNil gs0:=by
 intro F0 H0 F H σ ρ xs ds r rs
 unfold gs0
 split
 ·cases rs
  exact fun Q q=>⟨rfl,q _ _ _ (Same.refl _) r rfl⟩
 ·trivial
theorem Zoi{n:Nat}{t:TG}{u:TGs}{g:MG}{gs:MGs}(h1:SG K mg n t g)(h2:SGs K mg n u gs):SGs K mg n (Zpk t u) (gs1 g gs):=by
 intro F0 H0 F H σ ρ xs ds r rs
 unfold gs1
 cases rs with
 | nil=>trivial
 | cons rx rs =>
  rename_i x xs d ds
  have h:=h1 F0 H0 F H σ ρ x d r rx
  show AnsG K mg F0 H0 F n σ ((g d ρ).bind fun ρ'=>gs ds ρ') _
  cases e:g d ρ with
  | ok ρ' =>
   rw [e] at h
   show AnsG K mg F0 H0 F n σ (gs ds ρ') _
   cases e2:gs ds ρ' with
   | ok ρ'' =>
    refine fun Q q=>⟨x,xs,rfl,h _ fun F1 H1 σ1 s1 r1 d1=>?_⟩
    have h':=h2 F0 H0 F1 H1 σ1 ρ' xs ds r1 (rs.same s1)
    rw [e2] at h'
    exact h' _ fun F2 H2 σ2 s2 r2 d2=>q F2 H2 σ2 (s1.trans s2) r2 (d2.trans d1)
   | ex c=>trivial
   | bad=>trivial
  | ex c=>trivial
  | bad=>trivial
def gLst(K:W.Frag)(n:Nat)(t:TGs):TG:=fun v σ H Q=>∃a xs,v=.ref a∧SqL K H a xs∧xs.length=n∧t xs σ H Q
def gSeq(K:W.Frag)(n:Nat)(t:TGs):TG:=fun v σ H Q=>gTup K n t v σ H Q∨gLst K n t v σ H Q
theorem Zsj{n k:Nat}{t:TGs}{g:MGs}(h:SGs K mg n t g):SG K mg n (gSeq K k t) (gU k g):=by
 intro F0 H0 F H σ ρ x d r rx
 unfold gU items
 split
 ·next ds =>
  show AnsG K mg F0 H0 F n σ (if ds.length=k then g ds ρ else .bad) _
  by_cases hl:ds.length=k
  ·rw [if_pos hl]
   cases rx with
   | lst ha ra =>
    have h':=h F0 H0 F H σ ρ _ _ r ra
    cases e:g ds ρ with
    | ok ρ' =>
     rw [e] at h'
     exact fun Q q=>.inr ⟨_,_,rfl,r.ss.seq ha,ra.length.trans hl,h' Q q⟩
    | ex c=>trivial
    | bad=>trivial
  ·rw [if_neg hl];trivial
 ·next ds =>
  show AnsG K mg F0 H0 F n σ (if ds.length=k then g ds ρ else .bad) _
  by_cases hl:ds.length=k
  ·rw [if_pos hl]
   cases rx with
   | tup ha ra =>
    have h':=h F0 H0 F H σ ρ _ _ r ra
    cases e:g ds ρ with
    | ok ρ' =>
     rw [e] at h'
     exact fun Q q=>.inl ⟨_,_,rfl,ZaE r.ss ha,ra.length.trans hl,h' Q q⟩
    | ex c=>trivial
    | bad=>trivial
  ·rw [if_neg hl];trivial
 ·trivial
theorem ZrR{n:Nat}{t:TG}{g:MG}(ha:SE K mg E ta ma)(hg:SG K mg n t g)(hx:∀d ρ c,g d ρ≠.ex c):SS K mg E (tAsg ta t) (asg g ma):=by
 intro F0 H0 F H σ ρ rr
 refine (ha F0 H0 F H σ ρ rr).stm (w':=fun x H1 D=>t x σ H1 D.nx) rr.g fun d _ F1 H1 x g1 rx=>?_
 have h:=hg F0 H0 F1 H1 σ ρ x d (rr.gr g1) rx
 cases e:g d ρ with
 | ok ρ' =>
  rw [e] at h
  exact fun D q=>h _ fun F' H' σ' s r' _=>q F' H' σ' s r'
 | ex c=>exact absurd e (hx d ρ c)
 | bad=>trivial
theorem ZoV{i:Nat}(ha:SE K mg E ta ma):SS K mg E (tAsg ta (Zgs i)) (st i ma):=by
 intro F0 H0 F H σ ρ rr
 exact (ha F0 H0 F H σ ρ rr).stm (w':=fun x H1 D=>D.nx (σ.set i (some x)) H1) rr.g fun d _ F1 H1 x g1 rx=>fun D q=>q F1 H1 _ (Same.refl _) ((rr.gr g1).set i rx)
theorem Zss{i:Nat}{t:TS}{m:MS}(h:SS K mg E t m):SS K mg E t (frz i m):=by
 intro F0 H0 F H σ ρ rr
 unfold frz getO
 split
 ·next xs e =>
  show AnsS K mg E F0 H0 F (m (ρ.set i (.im (.lst xs)))) _
  obtain ⟨F',s,r'⟩:=rr.frz e
  exact (h F0 H0 F' H σ _ r').mono s
 ·trivial
theorem ZrO{i:Nat}(ha:SE K mg E ta ma)(hty:∀H a xs,H a=some (.lst xs)→tyV K "list" (.ref a) H):SS K mg E (Zgf (tBM K "list" Zfh (tVar i) (Zek ta tNil))) (app i ma):=by
 intro F0 H0 F H σ ρ rr
 unfold app getO
 split
 ·next ds e =>
  show AnsS K mg E F0 H0 F ((ma ρ).bind fun d=>if ds.length<LIM then .ok (.nx (ρ.set i (.ow (ds++[d])))) else .bad) _
  obtain ⟨a,xs,e2,e4,e5,e3,hr⟩:=rr.ow i ds e
  have hl:xs.length=ds.length:=hr.length
  have h:=(ha F0 H0 F H σ ρ rr).stm (K:=K) (k:=fun d=>if ds.length<LIM then .ok (.nx (ρ.set i (.ow (ds++[d])))) else .bad) (w':=fun x H2 D=>Zfh (.ref a) [x] H2 fun _ H3=>D.nx σ H3) rr.g fun d _ F1 H1 x g1 rx=>?_
  ·generalize ((ma ρ).bind fun d=>if ds.length<LIM then Res.ok (Fl.nx (ρ.set i (.ow (ds++[d])))) else .bad)=res at h
   have fin:∀D:Ends,(ta σ H fun x H2=>Zfh (.ref a) [x] H2 fun _ H3=>D.nx σ H3)→Zgf (tBM K "list" Zfh (tVar i) (Zek ta tNil)) D σ H:=fun D z=>⟨.ref a,e2,hty H a xs e3,z⟩
   cases res with
   | ok f =>
    cases f with
    | nx ρ=>exact fun D q=>fin D (h D q)
    | bk ρ=>exact fun D q=>fin D (h D q)
    | ct ρ=>exact fun D q=>fin D (h D q)
    | rt d=>exact fun D q=>fin D (h D q)
   | ex c=>exact fun D q=>fin D (h D q)
   | bad=>trivial
  ·by_cases hlim:ds.length<LIM
   ·simp only [hlim,Va8]
    have r1:=rr.gr g1
    obtain ⟨q1,q2⟩:=g1.o a _ e5 e3
    exact fun D q=>⟨a,xs,x,rfl,rfl,q2,by rw [hl];exact Vae hlim (by decide),q F1 _ σ (Same.refl _) (r1.app e e2 q2 e4 q1 (hr.same g1.f) rx)⟩
   ·simp only [hlim,Va7];trivial
 ·trivial
def iSeq(K:W.Frag)(tl:TE):TI:=fun σ H R=>tl σ H fun x H1=>∃a,x=.ref a∧(((∃xs,SqL K H1 a xs)∧R (Itl K a) H1)∨((∃xs,SqT K H1 a xs)∧R (Itt K a) H1))
theorem ZrY{a:Addr}{xs:List V}{ds:List D}(h:SqL K F a xs)(r:Rps K mg F xs ds):ItOk K mg F (Itl K a) ds:=by
 intro F' H' s1 s2 i
 have hq:SqL K H' a xs:=(s1.trans s2).seq h
 refine ⟨fun d e=>?_,fun hl=>⟨xs,hq,by rw [r.length];exact hl⟩⟩
 obtain ⟨x,e1,rx⟩:=r.get e
 refine ⟨⟨xs,x,hq,e1⟩,fun y H'' q=>?_⟩
 obtain ⟨rfl,q⟩:=q
 have e2:=q xs hq
 rw [e1] at e2;cases e2
 exact ⟨F',.refl s2,rx.same s1⟩
theorem Zr3{a:Addr}{xs:List V}{ds:List D}(h:SqT K F a xs)(r:Rps K mg F xs ds):ItOk K mg F (Itt K a) ds:=by
 intro F' H' s1 s2 i
 have hq:SqT K H' a xs:=ZaE (s1.trans s2) h
 refine ⟨fun d e=>?_,fun hl=>⟨xs,hq,by rw [r.length];exact hl⟩⟩
 obtain ⟨x,e1,rx⟩:=r.get e
 refine ⟨⟨xs,x,hq,e1⟩,fun y H'' q=>?_⟩
 obtain ⟨rfl,q⟩:=q
 have e2:=q xs hq
 rw [e1] at e2;cases e2
 exact ⟨F',.refl s2,rx.same s1⟩
theorem ZrV(lo:Int)(n:Nat):ItOk K mg F (Itr lo n) (ZbE lo n):=by
 intro F' H' s1 s2 i
 unfold ZbE
 refine ⟨fun d e=>?_,fun hl=>?_⟩
 ·rw [Va2] at e
  have hi:i<n:=by
   rcases Nat.lt_or_ge i n with z | z
   ·exact z
   ·rw [List.getElem?_eq_none (by rw [VbF];exact z)] at e;cases e
  rw [VbG hi] at e
  cases e
  refine ⟨hi,fun y H'' q=>?_⟩
  obtain ⟨rfl,rfl⟩:=q
  exact ⟨F',.refl s2,.int _⟩
 ·rw [VaN,VbF] at hl
  exact hl
theorem Zsd(ha:SE K mg E ta ma):SI K mg E (iSeq K ta) (iv ma):=by
 intro F0 H0 F H σ ρ rr
 refine (ha F0 H0 F H σ ρ rr).bind fun F1 H1 x dx g1 rx=>?_
 cases dx with
 | lst ds =>
  cases rx with
  | lst h r=>exact Ans.ret (R:=ItOk K mg) g1.s (ZrY h r) fun Q q=>⟨_,rfl,.inl ⟨⟨_,g1.s.seq h⟩,q⟩⟩
 | tup ds =>
  cases rx with
  | tup h r=>exact Ans.ret (R:=ItOk K mg) g1.s (Zr3 h r) fun Q q=>⟨_,rfl,.inr ⟨⟨_,ZaE g1.s h⟩,q⟩⟩
 | _=>trivial
theorem ZuB{t:TA}{m:MA}(ha:SA K mg E t m):SI K mg E (ZpQ t) (r1 m):=by
 intro F0 H0 F H σ ρ rr
 refine (ha F0 H0 F H σ ρ rr).bind fun F1 H1 xs ds g1 rs=>?_
 unfold rng1
 split
 ·next j =>
  by_cases h:-1000000000≤j∧j≤1000000000
  ·rw [if_pos h]
   obtain ⟨x,rfl,rx⟩:=rs.one
   cases rx
   exact Ans.ret (R:=ItOk K mg) g1.s (ZrV 0 _) fun Q q=>⟨j,rfl,by omega,by omega,q⟩
  ·rw [if_neg h];trivial
 ·trivial
theorem Zsw{wi:TI}{mi:MI}{n:Nat}{t:TG}{g:MG}{u:TS}{m:MS}(hi:SI K mg E wi mi)(hg:SG K mg n t g)(hx:∀d ρ c,g d ρ≠.ex c)(hb:SS K mg E u m):SS K mg E (tFor wi t u) (for_ mi g m):=by
 intro F0 H0 F H σ ρ rr
 refine (hi F0 H0 F H σ ρ rr).stm (w':=fun J H1 D=>∃W:Nat→Nat→St→Hp→Prop,(∃m,W 0 m σ H1)∧∀i m σ H,W i m σ H →
  (J.stop i H∧D.nx σ H)∨(J.go i H∧∃N:St→Hp→Prop,(∀σ' H',N σ' H'→∃m',m'<m∧W (i+1) m' σ' H')∧∀x H',J.yld i H x H'→t x σ H' fun σ2 H2=>u { D with nx:=N,ct:=N,bk:=D.nx } σ2 H2)) rr.g fun ds _ F1 H1 J g1 jo=>?_
 have r1:=rr.gr g1
 have key:∀(D:Ends) (res:Res Fl),res≠.bad→(∀ρ',res=.ok (.nx ρ')→∀F' H' σ',Same F1 F'→Rep K mg F0 H0 F' H' σ' ρ'→D.nx σ' H')→(∀ρ',res=.ok (.bk ρ')→∀F' H' σ',Same F1 F'→Rep K mg F0 H0 F' H' σ' ρ'→D.bk σ' H') →
   (∀ρ',res=.ok (.ct ρ')→∀F' H' σ',Same F1 F'→Rep K mg F0 H0 F' H' σ' ρ'→D.ct σ' H')→(∀d,res=.ok (.rt d)→∀F' H' x,Gr F0 H0 F' H'→Rp K mg F' x d→D.rt x H') →
   (∀c,res=.ex c→∀F' H' C,Gr F0 H0 F' H'→mg c=some (.ref C)→E (.ref C) none H')→Zb6 g m ds ρ=res →
   ∃W:Nat→Nat→St→Hp→Prop,(∃m,W 0 m σ H1)∧∀i m σ H,W i m σ H →
    (J.stop i H∧D.nx σ H)∨(J.go i H∧∃N:St→Hp→Prop,(∀σ' H',N σ' H'→∃m',m'<m∧W (i+1) m' σ' H')∧∀x H',J.yld i H x H'→t x σ H' fun σ2 H2=>u { D with nx:=N,ct:=N,bk:=D.nx } σ2 H2):=by
  intro D res hbad qn qb qc qr qe e0
  refine ⟨fun i k σ' H'=>k=ds.length - i∧i≤ds.length∧∃ρ' F',Same F1 F'∧Rep K mg F0 H0 F' H' σ' ρ'∧Zb6 g m (ds.drop i) ρ'=res,⟨ds.length,by simp,VaQ _,ρ,F1,Same.refl _,r1,e0⟩,?_⟩
  rintro i k σ' H' ⟨rfl,hi',ρ',F',s1,r',e⟩
  by_cases hlt:i<ds.length
  ·refine .inr ?_
   have hd:ds[i]?=some ds[i]:=VbH hlt
   obtain ⟨go,yl⟩:=(jo F' H' s1 r'.ss i).1 _ hd
   rw [Vbt hlt] at e
   refine ⟨go,fun σ2 H2=>∃ρ2 F2,Same F1 F2∧Rep K mg F0 H0 F2 H2 σ2 ρ2∧Zb6 g m (ds.drop (i+1)) ρ2=res,fun σ2 H2 ⟨ρ2,F2,s2,r2,e2⟩=>⟨ds.length - (i+1),by omega,rfl,hlt,ρ2,F2,s2,r2,e2⟩,fun x H2 y=>?_⟩
   obtain ⟨F2,g2,rx⟩:=yl x H2 y
   have r2:=r'.gr g2
   have hG:=hg F0 H0 F2 H2 σ' ρ' x _ r2 rx
   have e':(g ds[i] ρ').bind (fun ρ1=>(m ρ1).bind (turn (Zb6 g m (ds.drop (i+1)))))=res:=e
   cases eg:g ds[i] ρ' with
   | ok ρ1 =>
    rw [eg] at e' hG
    refine hG _ fun F3 H3 σ3 s3 r3 _=>?_
    have hB:=hb F0 H0 F3 H3 σ3 ρ1 r3
    have sF:Same F1 F3:=s1.trans (g2.f.trans s3)
    have e2:(m ρ1).bind (turn (Zb6 g m (ds.drop (i+1))))=res:=e'
    cases em:m ρ1 with
    | ok f =>
     rw [em] at e2 hB
     cases f with
     | nx ρ2=>exact hB _ fun F4 H4 σ4 s4 r4=>⟨ρ2,F4,sF.trans s4,r4,e2⟩
     | ct ρ2=>exact hB _ fun F4 H4 σ4 s4 r4=>⟨ρ2,F4,sF.trans s4,r4,e2⟩
     | bk ρ2=>exact hB _ fun F4 H4 σ4 s4 r4=>qn ρ2 e2.symm F4 H4 σ4 (sF.trans s4) r4
     | rt d=>exact hB _ fun F4 H4 y g4 ry=>qr d e2.symm F4 H4 y g4 ry
    | ex c =>
     rw [em] at e2 hB
     exact hB _ fun F4 H4 C g4 hc=>qe c e2.symm F4 H4 C g4 hc
    | bad=>rw [em] at e2;exact absurd e2.symm hbad
   | ex c=>exact absurd eg (hx _ _ c)
   | bad=>rw [eg] at e';exact absurd e'.symm hbad
  ·have hi2:i=ds.length:=by omega
   subst hi2
   rw [VbI (VaF _)] at e
   exact .inl ⟨(jo F' H' s1 r'.ss _).2 (VaF _),qn ρ' e.symm F' H' σ' s1 r'⟩
 cases e:Zb6 g m ds ρ with
 | ok f =>
  cases f with
  | nx ρ2=>exact fun D q=>key D _ (fun z=>by cases z) (fun _ z=>by cases z;exact q) (fun _ z=>by cases z) (fun _ z=>by cases z) (fun _ z=>by cases z) (fun _ z=>by cases z) e
  | bk ρ2=>exact fun D q=>key D _ (fun z=>by cases z) (fun _ z=>by cases z) (fun _ z=>by cases z;exact q) (fun _ z=>by cases z) (fun _ z=>by cases z) (fun _ z=>by cases z) e
  | ct ρ2=>exact fun D q=>key D _ (fun z=>by cases z) (fun _ z=>by cases z) (fun _ z=>by cases z) (fun _ z=>by cases z;exact q) (fun _ z=>by cases z) (fun _ z=>by cases z) e
  | rt d=>exact fun D q=>key D _ (fun z=>by cases z) (fun _ z=>by cases z) (fun _ z=>by cases z) (fun _ z=>by cases z) (fun _ z=>by cases z;exact q) (fun _ z=>by cases z) e
 | ex c=>exact fun D q=>key D _ (fun z=>by cases z) (fun _ z=>by cases z) (fun _ z=>by cases z) (fun _ z=>by cases z) (fun _ z=>by cases z) (fun _ z=>by cases z;exact q) e
 | bad=>trivial
theorem ZnY{n:Ev→Nat}{sc:TT}{nc:MB}{u:TS}{m:MS}(hc:STt K mg E sc nc)(hb:SS K mg E u m):SS K mg E (Zkh sc u) (whl n nc m):=by
 intro F0 H0 F H σ ρ rr
 have key:∀(D:Ends) (res:Res Fl),res≠.bad→(∀ρ',res=.ok (.nx ρ')→∀F' H' σ',Same F F'→Rep K mg F0 H0 F' H' σ' ρ'→D.nx σ' H')→(∀ρ',res=.ok (.bk ρ')→∀F' H' σ',Same F F'→Rep K mg F0 H0 F' H' σ' ρ'→D.bk σ' H') →
   (∀ρ',res=.ok (.ct ρ')→∀F' H' σ',Same F F'→Rep K mg F0 H0 F' H' σ' ρ'→D.ct σ' H')→(∀d,res=.ok (.rt d)→∀F' H' x,Gr F0 H0 F' H'→Rp K mg F' x d→D.rt x H') →
   (∀c,res=.ex c→∀F' H' C,Gr F0 H0 F' H'→mg c=some (.ref C)→E (.ref C) none H')→whGo nc m (n ρ) ρ=res→Zkh sc u D σ H:=by
  intro D res hbad qn qb qc qr qe e0
  refine ⟨fun k σ' H'=>∃ρ' F',Same F F'∧Rep K mg F0 H0 F' H' σ' ρ'∧whGo nc m k ρ'=res,⟨n ρ,ρ,F,Same.refl _,rr,e0⟩,?_⟩
  rintro k σ' H' ⟨ρ',F',s1,r',e⟩
  cases k with
  | zero=>exact absurd e.symm hbad
  | succ k =>
   have e':(nc ρ').bind (fun x=>if x=true then (m ρ').bind (turn (whGo nc m k)) else .ok (.nx ρ'))=res:=e
   have hC:=hc F0 H0 F' H' σ' ρ' r'
   cases ec:nc ρ' with
   | ok b =>
    rw [ec] at e' hC
    refine hC _ fun F2 H2 b' g2 eb=>?_
    cases (show b'=b from eb)
    have r2:=r'.gr g2
    cases b with
    | true =>
     rw [if_pos rfl]
     have hB:=hb F0 H0 F2 H2 σ' ρ' r2
     have e2:(m ρ').bind (turn (whGo nc m k))=res:=e'
     refine ⟨fun σ3 H3=>∃ρ3 F3,Same F F3∧Rep K mg F0 H0 F3 H3 σ3 ρ3∧whGo nc m k ρ3=res,fun σ3 H3 h=>⟨k,VaP _,h⟩,?_⟩
     have sF:Same F F2:=s1.trans g2.f
     cases em:m ρ' with
     | ok f =>
      rw [em] at e2 hB
      cases f with
      | nx ρ2=>exact hB _ fun F4 H4 σ4 s4 r4=>⟨ρ2,F4,sF.trans s4,r4,e2⟩
      | ct ρ2=>exact hB _ fun F4 H4 σ4 s4 r4=>⟨ρ2,F4,sF.trans s4,r4,e2⟩
      | bk ρ2=>exact hB _ fun F4 H4 σ4 s4 r4=>qn ρ2 e2.symm F4 H4 σ4 (sF.trans s4) r4
      | rt d=>exact hB _ fun F4 H4 y g4 ry=>qr d e2.symm F4 H4 y g4 ry
     | ex c =>
      rw [em] at e2 hB
      exact hB _ fun F4 H4 C g4 hc=>qe c e2.symm F4 H4 C g4 hc
     | bad=>rw [em] at e2;exact absurd e2.symm hbad
    | false =>
     rw [if_neg Vaz]
     have e2:Res.ok (Fl.nx ρ')=res:=e'
     exact qn ρ' e2.symm F2 H2 σ' (s1.trans g2.f) r2
   | ex c =>
    rw [ec] at e' hC
    exact hC _ fun F4 H4 C g4 hc=>qe c e'.symm F4 H4 C (r'.g.trans g4) hc
   | bad=>rw [ec] at e';exact absurd e'.symm hbad
 unfold whl
 cases e:whGo nc m (n ρ) ρ with
 | ok f =>
  cases f with
  | nx ρ2=>exact fun D q=>key D _ (fun z=>by cases z) (fun _ z=>by cases z;exact q) (fun _ z=>by cases z) (fun _ z=>by cases z) (fun _ z=>by cases z) (fun _ z=>by cases z) e
  | bk ρ2=>exact fun D q=>key D _ (fun z=>by cases z) (fun _ z=>by cases z) (fun _ z=>by cases z;exact q) (fun _ z=>by cases z) (fun _ z=>by cases z) (fun _ z=>by cases z) e
  | ct ρ2=>exact fun D q=>key D _ (fun z=>by cases z) (fun _ z=>by cases z) (fun _ z=>by cases z) (fun _ z=>by cases z;exact q) (fun _ z=>by cases z) (fun _ z=>by cases z) e
  | rt d=>exact fun D q=>key D _ (fun z=>by cases z) (fun _ z=>by cases z) (fun _ z=>by cases z) (fun _ z=>by cases z) (fun _ z=>by cases z;exact q) (fun _ z=>by cases z) e
 | ex c=>exact fun D q=>key D _ (fun z=>by cases z) (fun _ z=>by cases z) (fun _ z=>by cases z) (fun _ z=>by cases z) (fun _ z=>by cases z) (fun _ z=>by cases z;exact q) e
 | bad=>trivial
end
section
variable{K:W.Frag}{mg:Str→Option Value}{E:XK}{F0 H0 F H:Hp}{σ:St}{ρ:Ev}
theorem Rep.inner{own:List Str}{cap:List (Str×Nat)}{Fb Hb:Hp}(r:Rep K mg F0 H0 F H σ ρ)(gb:Gr Fb Hb F H):Rep K mg Fb Hb F H (st0 own σ cap) (noA own.length (capD ρ (cap.map (·.2)))):=by
 have key:∀(i:Nat) (cl:Cl),(noA own.length (capD ρ (cap.map (·.2))))[i]?=some cl→cl=.no∨∃j p d,i=own.length+j∧cap[j]?=some p∧ρ[p.2]?=some (.im d)∧cl=.im d:=by
  intro i cl e
  rw [Zju,Zhu] at e
  by_cases hi:i<own.length
  ·rw [Va1 (by simpa using hi),Va0,if_pos hi] at e
   cases e
   exact .inl rfl
  ·rw [VaZ (by simpa using hi),Va5] at e
   rw [VbJ,Va2] at e
   cases q:cap[i - own.length]? with
   | none=>rw [q] at e;cases e
   | some p =>
    rw [q] at e
    have e':imOf ρ[p.2]?=cl:=Vau e
    unfold imOf at e'
    split at e'
    ·next d h=>exact .inr ⟨i - own.length,p,d,by omega,q,h,e'.symm⟩
    ·exact .inl e'.symm
 refine ⟨gb,?_,fun i d e=>?_,fun i ds e=>?_,fun i j ds es a e=>?_⟩
 ·rw [Zju,Zhu]
  unfold st0 capt
  simp
 ·rcases key i _ e with z | ⟨j,p,d',rfl,hp,hρ,z⟩
  ·cases z
  ·cases z
   obtain ⟨x,hx,rx⟩:=r.im p.2 d hρ
   refine ⟨x,?_,rx⟩
   unfold st0 capt
   rw [VaZ (by simp),Va5,Nat.add_sub_cancel_left,Va2,hp]
   show some ((σ[p.2]?).join)=_
   rw [hx];rfl
 ·rcases key i _ e with z | ⟨j,p,d',rfl,hp,hρ,z⟩<;>cases z
 ·rcases key i _ e with z | ⟨j,p,d',rfl,hp,hρ,z⟩<;>cases z
theorem ZiV{own:List Str}{cap:List (Str×Nat)}:(st0 own σ cap).drop own.length=capt σ cap:=by
 unfold st0
 rw [List.drop_append_of_le_length (by simp),List.drop_of_length_le (by simp)]
 rfl
theorem Zqj{t:TG}{g:MG}{tt:TT}{nt:MB}{te:TE}{me:ME}{own:List Str}{cap:List (Str×Nat)}{J:It}{ds ys:List D}(r:Rep K mg F0 H0 F H σ ρ)(jo:ItOk K mg F J ds)(hg:SG K mg own.length t g)(ht:STt K mg E0 tt nt)(he:SE K mg E0 te me)
  (hl:ds.length≤LIM) (e0:Dl.Zak g nt me (noA own.length (capD ρ (cap.map (·.2)))) ds=.ok ys) (Q:VK) (q:∀F' H' xs,Gr F H F' H'→Rps K mg F' xs ys→xs.length≤sizeLine→∀p,H' p=none→Q (.ref p) (upd H' p (.lst xs))) :
  Zdz J t tt te own cap σ Q H:=by
 refine ⟨fun i k acc H'=>k=ds.length - i∧i≤ds.length∧acc.length≤i∧∃F' zs rs,Gr F H F' H'∧Rps K mg F' acc zs∧Dl.Zak g nt me (noA own.length (capD ρ (cap.map (·.2)))) (ds.drop i)=.ok rs∧zs++rs=ys,
  ⟨ds.length,by simp,VaQ _,VaF _,F,[],ys,.refl r.ss,.nil,e0,rfl⟩,?_⟩
 rintro i k acc H' ⟨rfl,hi,ha,F',zs,rs,g1,r1,e1,e2⟩
 have la:acc.length≤LIM:=Vaj ha (Vaj hi hl)
 refine ⟨Zft la,?_⟩
 by_cases hlt:i<ds.length
 ·refine .inr ?_
  have hd:ds[i]?=some ds[i]:=VbH hlt
  obtain ⟨go,yl⟩:=(jo F' H' g1.f g1.s i).1 _ hd
  rw [Vbt hlt] at e1
  refine ⟨go,fun x H2 y=>?_⟩
  obtain ⟨F2,g2,rx⟩:=yl x H2 y
  have rr:=(r.gr (g1.trans g2)).inner (own:=own) (cap:=cap) (g1.trans g2)
  have hG:=hg F H F2 H2 _ _ x _ rr rx
  have e':(g ds[i] (noA own.length (capD ρ (cap.map (·.2))))).bind (fun ρ1=>(nt ρ1).bind fun b=>if b=true then (me ρ1).bind fun y=>(Dl.Zak g nt me (noA own.length (capD ρ (cap.map (·.2)))) (ds.drop (i+1))).bind fun ys=>.ok (y::ys) else Dl.Zak g nt me (noA own.length (capD ρ (cap.map (·.2)))) (ds.drop (i+1)))=.ok rs:=e1
  cases eg:g ds[i] (noA own.length (capD ρ (cap.map (·.2)))) with
  | ok ρ1 =>
   rw [eg] at e' hG
   refine hG _ fun F3 H3 σ3 s3 r3 d3=>⟨d3.trans ZiV,?_⟩
   have hT:=ht F H F3 H3 σ3 ρ1 r3
   have sF:Same F' F3:=g2.f.trans s3
   have e3:(nt ρ1).bind (fun b=>if b=true then (me ρ1).bind fun y=>(Dl.Zak g nt me (noA own.length (capD ρ (cap.map (·.2)))) (ds.drop (i+1))).bind fun ys=>.ok (y::ys) else Dl.Zak g nt me (noA own.length (capD ρ (cap.map (·.2)))) (ds.drop (i+1)))=.ok rs:=e'
   cases et:nt ρ1 with
   | ok b =>
    rw [et] at e3 hT
    refine hT _ fun F4 H4 b' g4 eb=>?_
    cases (show b'=b from eb)
    cases b with
    | true =>
     rw [if_pos rfl]
     have e4:(me ρ1).bind (fun y=>(Dl.Zak g nt me (noA own.length (capD ρ (cap.map (·.2)))) (ds.drop (i+1))).bind fun ys=>.ok (y::ys))=.ok rs:=e3
     have hE:=he F H F4 H4 σ3 ρ1 (r3.gr g4)
     cases em:me ρ1 with
     | ok y' =>
      rw [em] at e4 hE
      refine hE _ fun F5 H5 u g5 ru=>⟨Vbn la (by decide),ds.length - (i+1),by omega,rfl,hlt,by rw [Va4];show acc.length+1≤i+1;omega,?_⟩
      have e5:(Dl.Zak g nt me (noA own.length (capD ρ (cap.map (·.2)))) (ds.drop (i+1))).bind (fun ys=>.ok (y'::ys))=.ok rs:=e4
      cases ec:Dl.Zak g nt me (noA own.length (capD ρ (cap.map (·.2)))) (ds.drop (i+1)) with
      | ok rs' =>
       rw [ec] at e5
       have e6:Res.ok (y'::rs')=.ok rs:=e5
       cases e6
       exact ⟨F5,zs++[y'],rs',r3.g.trans (g4.trans g5),Rps.app (.cons ru .nil) (r1.same (sF.trans (g4.f.trans g5.f))),rfl,by rw [VbK];exact e2⟩
      | ex c=>rw [ec] at e5;cases e5
      | bad=>rw [ec] at e5;cases e5
     | ex c=>rw [em] at e4;cases e4
     | bad=>rw [em] at e4;cases e4
    | false =>
     rw [if_neg Vaz]
     have e4:Dl.Zak g nt me (noA own.length (capD ρ (cap.map (·.2)))) (ds.drop (i+1))=.ok rs:=e3
     exact ⟨ds.length - (i+1),by omega,rfl,hlt,by omega,F4,zs,rs,r3.g.trans g4,r1.same (sF.trans g4.f),e4,e2⟩
   | ex c=>rw [et] at e3;cases e3
   | bad=>rw [et] at e3;cases e3
  | ex c=>rw [eg] at e';cases e'
  | bad=>rw [eg] at e';cases e'
 ·have hi2:i=ds.length:=by omega
  subst hi2
  rw [VbI (VaF _)] at e1
  cases e1
  rw [VaS] at e2
  subst e2
  exact .inl ⟨(jo F' H' g1.f g1.s _).2 (VaF _),q F' H' acc g1 r1 (Zft la)⟩
theorem ZlQ{wi:TI}{mi:MI}{t:Fam TG}{g:MG}{tt:Fam TT}{nt:MB}{te:Fam TE}{me:ME}{own:List Str}{cap:List (Str×Nat)}(hi:SI K mg E wi mi)(hg:∀C s H fp pn,SG K mg own.length (t C s H fp pn) g)(ht:∀C s H fp pn,STt K mg E0 (tt C s H fp pn) nt)(he:∀C s H fp pn,SE K mg E0 (te C s H fp pn) me) :
  SE K mg E (Zfp wi t tt te own cap) (comp mi own.length (cap.map (·.2)) g nt me):=by
 intro F0 H0 F H σ ρ rr
 refine (hi F0 H0 F H σ ρ rr).bind (w':=fun J H1 Q=>∀C s H2 fp pn,Zdz J (t C s H2 fp pn) (tt C s H2 fp pn) (te C s H2 fp pn) own cap σ Q H1) fun F1 H1 J ds g1 jo=>?_
 by_cases hl:ds.length≤LIM
 ·rw [if_pos hl]
  cases e:Dl.Zak g nt me (noA own.length (capD ρ (cap.map (·.2)))) ds with
  | ok ys=>exact fun Q q C s H2 fp pn=>Zqj (rr.gr g1) jo (hg C s H2 fp pn) (ht C s H2 fp pn) (he C s H2 fp pn) hl e Q fun F' H' xs g2 rs _ p hp=>q _ _ _ (g2.trans (.new g2.s hp _)) (.lst (SqL.of Zag) (rs.same (ZaA (g2.s.free hp) _)))
  | ex c=>trivial
  | bad=>trivial
 ·rw [if_neg hl];trivial
end
structure DE(X:Cx)(E:XK)(e:Expr)(t:TE)(m:ME):Prop where
 p:PE X e t
 s:SE X.K X.mg E t m
structure DT(X:Cx)(E:XK)(e:Expr)(t:TT)(m:MB):Prop where
 p:PT X e t
 s:STt X.K X.mg E t m
structure DW(X:Cx)(E:XK)(e:Expr)(t:TT)(m:MB):Prop where
 p:PW X e t
 s:STt X.K X.mg E t m
structure DA(X:Cx)(E:XK)(n:Nat)(es:List Expr)(t:TA)(m:MA):Prop where
 p:PA X es t
 s:SA X.K X.mg E t m
 n:SAn n m
structure DO(X:Cx)(E:XK)(e:Option Expr)(t:TO)(m:Ev→Res (Option Int)):Prop where
 p:PO X e t
 s:SO X.K X.mg E t m
structure DS(X:Cx)(E:XK)(st:Stmt)(t:TS)(m:MS):Prop where
 p:PS X st t
 s:SS X.K X.mg E t m
structure DSs(X:Cx)(E:XK)(st:List Stmt)(t:TS)(m:MS):Prop where
 p:PSs X st t
 s:SS X.K X.mg E t m
structure DG(X:Cx)(n:Nat)(e:Expr)(t:TG)(g:MG):Prop where
 p:PG X e t
 s:SG X.K X.mg n t g
 x:∀d ρ c,g d ρ≠.ex c
structure DGs(X:Cx)(n:Nat)(es:List Expr)(t:TGs)(g:MGs):Prop where
 p:PGs X es t
 s:SGs X.K X.mg n t g
 x:∀d ρ c,g d ρ≠.ex c
structure DI(X:Cx)(E:XK)(tg e:Expr)(t:TI)(m:MI):Prop where
 p:PI X tg e t
 s:SI X.K X.mg E t m
section
variable{X:Cx}{E:XK}{a b e c':Expr}{es:List Expr}{ta tb tc te:TE}{ma mb mc me:ME}{sa sb:TT}{na nb:MB}{t:TA}{m:MA}{pos:Pos}{n:Nat}
theorem d_v(i:Nat){x:Str}(hN:X.N[i]?=some x:=by rfl)(hv:Vis X.env.scope x:=by first | exact Or.inl rfl | exact Or.inr (Or.inl rfl) | exact Or.inr (Or.inr rfl))(hd:(x==("__debug__" : Str))=false:=by decide)
  (hcd:(x==("__classdict__" : Str))=false:=by decide):DE X E (.Name x pos) (tVar i) (v i):=⟨Ziv hN hv hd hcd,se_v i⟩
theorem ZeQ{i j}:DE X E (.Constant (.int i) j pos) (tC (.int i)) (c (.int i)):=⟨ZsW,se_c fun _=>.int _⟩
theorem d_bl{i j}:DE X E (.Constant (.bool i) j pos) (tC (.bl i)) (c (.bl i)):=⟨Zup,se_c fun _=>.bl _⟩
theorem ZuU{j}:DE X E (.Constant .none j pos) (tC .non) (c .non):=⟨Zmx,se_c fun _=>.non⟩
theorem Zij{i j}:DE X E (.Constant (.str i) j pos) (tC (.str i)) (c (.str i)):=⟨ZrF,se_c fun _=>.str _⟩
theorem d_ty{k:String}{x:Str}(hg:Gl X x)(hm:X.mg x=none)(hv:bootBuiltins x=some (.type k))(hn:x ≠ "__name__" := by decide)(hd:(x==("__debug__" : Str))=false:=by decide):DE X E (.Name x pos) (tC (.ty k)) (c (.ty k)) :=
 ⟨Zts hg hm hv hn hd,se_c fun _=>.ty _⟩
theorem d_gi{x:Str}{i:Int}{tk:Tok}(hg:Gl X x)(hm:X.mg x=some (.int i tk))(hd:(x==("__debug__" : Str))=false:=by decide):DE X E (.Name x pos) (tC (.int i)) (c (.int i)):=⟨Zjh hg hm ⟨_,rfl⟩ hd,se_c fun _=>.int _⟩
theorem Zid{op:Operator}{r:R2}{f:D→D→Res D}(ho:OpR X (binaryOp op) r)(hf:OpD X.K X.mg r f)(ha:DE X E a ta ma)(hb:DE X E b tb mb):DE X E (.BinOp a op b pos) (tOp r ta tb) (o2 f ma mb):=⟨ZtY ho ha.p hb.p,Znd hf ha.s hb.s⟩
theorem ZmY{op:CmpOp}{r:R2}{f:D→D→Res D}(ho:OpR X (compareOp op) r)(hf:OpD X.K X.mg r f)(ha:DE X E a ta ma)(hb:DE X E b tb mb)(hm:behindInMarks op b=false):DE X E (.Compare a [op] [b] pos) (tOp r ta tb) (o2 f ma mb):=⟨Zp2 ho ha.p hb.p hm,Znd hf ha.s hb.s⟩
theorem Zf3{op:CmpOp}{r:R2}{f:D→D→Res D}(ho:OpR X (compareOp op) r)(hf:OpD X.K X.mg r f)(ha:DE X E a ta ma)(hb:DE X E b tb mb)(hm:behindInMarks op b=false):DT X E (.Compare a [op] [b] pos) (ZfE (tOp r ta tb)) (trb (o2 f ma mb)):=⟨Zi7 ho ha.p hb.p hm,Zi1 (Znd hf ha.s hb.s)⟩
theorem OpR.or{f:Value→Value→Sem Value}{r r':R2}(h:OpR X f r)(h':OpR X f r'):OpR X f (fun x y H Q=>r x y H Q∨r' x y H Q):=by
 intro pins s σ H x y v u Q I rx ry q
 rcases q with q | q
 ·exact h pins s σ H x y v u Q I rx ry q
 ·exact h' pins s σ H x y v u Q I rx ry q
theorem Zqc:OpR X (binaryOp .Add) (Zs5 X.K):=by
 intro pins s σ H x y v u Q I rx ry h
 obtain ⟨l,b,xs,zs,rfl,rfl,hH,hB,hz,q⟩:=h
 cases rx
 cases ry
 exact ZnG I hH hB hz q
theorem Zqb:OpR X (binaryOp .Add) (Zrq X.K):=by
 intro pins s σ H x y v u Q I rx ry h
 obtain ⟨a,b,xs,ys,rfl,rfl,ha,hb,hz,q0,q1,q2⟩:=h
 cases rx
 cases ry
 exact Zoe I ha hb hz q0 q1 q2
theorem Zqf:OpR X (binaryOp .Add) (ZqT X.K):=OpR.or Zs2 (OpR.or Zqc (OpR.or Zqb ZkI))
theorem Zuf(ha:DE X E a ta ma)(hb:DE X E b tb mb):DE X E (.BinOp a .Add b pos) (tOp (ZqT X.K) ta tb) (o2 dAdd ma mb):=Zid Zqf Zrf ha hb
theorem ZuT(ha:DE X E a ta ma)(hb:DE X E b tb mb):DE X E (.BinOp a .Sub b pos) (tOp (rI0 fun i j=>V.int (i - j)) ta tb) (o2 dSub ma mb):=Zid Zta ZqI ha hb
theorem ZrE{a b:Int}(h:Zbk a b=true):IntMulOk a b:=by
 have h':(a.natAbs<2^64∨b.natAbs<2^64)∨a.natAbs.log2+b.natAbs.log2<100000000:=by simpa [Zbk] using h
 rcases h' with (h' | h') | h'
 ·exact .of_left (intBits_le_iff.mpr h')
 ·exact .of_right (intBits_le_iff.mpr h')
 ·have la:a.natAbs<2^(a.natAbs.log2+1):=Nat.lt_log2_self
  have lb:b.natAbs<2^(b.natAbs.log2+1):=Nat.lt_log2_self
  exact IntMulOk.of_le (intBits_le_iff.mpr la) (intBits_le_iff.mpr lb) (by omega)
theorem Zpo{K:W.Frag}{mg:Str→Option Value}:OpD K mg (rI IntMulOk fun i j=>.int (i*j)) dMul:=Zkt fun a b=>by
 unfold iMul
 by_cases h:Zbk a b=true
 ·rw [if_pos h];exact .inl ⟨_,rfl,ZrE h,fun _=>.int _⟩
 ·rw [if_neg h];exact .inr rfl
theorem Zuk(ha:DE X E a ta ma)(hb:DE X E b tb mb):DE X E (.BinOp a .Mult b pos) (tOp (rI IntMulOk fun i j=>V.int (i*j)) ta tb) (o2 dMul ma mb):=Zid ZqX Zpo ha hb
theorem ZuK(ha:DE X E a ta ma)(hb:DE X E b tb mb):DE X E (.BinOp a .Mod b pos) (tOp (rI (fun _ j=>j≠0) fun i j=>V.int (i.fmod j)) ta tb) (o2 dMod ma mb):=Zid Zpb Zpa ha hb
theorem Zu5(ha:DE X E a ta ma)(hb:DE X E b tb mb):DE X E (.BinOp a .FloorDiv b pos) (tOp (rI Zp7 fun i j=>V.int (i.fdiv j)) ta tb) (o2 dDiv ma mb):=Zid Zoc Zp0 ha hb
theorem Zt4(ha:DE X E a ta ma)(hb:DE X E b tb mb):DE X E (.BinOp a .Pow b pos) (tOp (rI CPow fun i j=>V.int (i^j.toNat)) ta tb) (o2 dPow ma mb):=Zid Zrv Zqt ha hb
theorem ZtS(ha:DE X E a ta ma)(hb:DE X E b tb mb):DE X E (.BinOp a .LShift b pos) (tOp (rI CPow fun i j=>V.int (i*2^j.toNat)) ta tb) (o2 dShl ma mb):=Zid Zse ZpL ha hb
theorem Zuc(ha:DE X E a ta ma)(hb:DE X E b tb mb):DE X E (.BinOp a .RShift b pos) (tOp (rI (fun _ j=>0≤j) fun i j=>V.int (i/2^j.toNat)) ta tb) (o2 dShr ma mb):=Zid Zsh ZpE ha hb
theorem ZsK(ha:DE X E a ta ma):DE X E (.UnaryOp .USub a pos) (tUn (rU fun i=>V.int (-i)) ta) (o1 dNeg ma):=⟨ZtP Zrr ha.p,ZrZ (Zpu fun _ _ _ q=>⟨_,rfl,q⟩) ha.s⟩
theorem d_lt(ha:DE X E a ta ma)(hb:DE X E b tb mb):DE X E (.Compare a [.Lt] [b] pos) (tOp (rI0 fun i j=>V.bl (decide (i<j))) ta tb) (o2 dLt ma mb):=ZmY ZrU ZoF ha hb (ZcL _)
theorem d_le(ha:DE X E a ta ma)(hb:DE X E b tb mb):DE X E (.Compare a [.LtE] [b] pos) (tOp (rI0 fun i j=>V.bl (decide (i≤j))) ta tb) (o2 dLe ma mb):=ZmY Ztj Zo0 ha hb (ZcL _)
theorem d_ge(ha:DE X E a ta ma)(hb:DE X E b tb mb):DE X E (.Compare a [.GtE] [b] pos) (tOp (rI0 fun i j=>V.bl (decide (j≤i))) ta tb) (o2 dGe ma mb):=ZmY ZsI ZoZ ha hb (ZcL _)
theorem ZuJ(ha:DE X E a ta ma)(hb:DE X E b tb mb):DT X E (.Compare a [.Lt] [b] pos) (ZfE (tOp (rI0 fun i j=>V.bl (decide (i<j))) ta tb)) (trb (o2 dLt ma mb)):=Zf3 ZrU ZoF ha hb (ZcL _)
theorem Zuj(ha:DE X E a ta ma)(hb:DE X E b tb mb):DT X E (.Compare a [.LtE] [b] pos) (ZfE (tOp (rI0 fun i j=>V.bl (decide (i≤j))) ta tb)) (trb (o2 dLe ma mb)):=Zf3 Ztj Zo0 ha hb (ZcL _)
theorem Zra(ha:DE X E a ta ma)(hb:DE X E b tb mb):DT X E (.Compare a [.Gt] [b] pos) (ZfE (tOp (rI0 fun i j=>V.bl (decide (j<i))) ta tb)) (trb (o2 dGt ma mb)):=Zf3 ZuC Ztz ha hb (ZcL _)
theorem Zt3(ha:DE X E a ta ma)(hb:DE X E b tb mb):DT X E (.Compare a [.GtE] [b] pos) (ZfE (tOp (rI0 fun i j=>V.bl (decide (j≤i))) ta tb)) (trb (o2 dGe ma mb)):=Zf3 ZsI ZoZ ha hb (ZcL _)
mutual
def pyD:D→PyData
 | .non=>.none
 | .bl b=>.bool b
 | .int i=>.int i
 | .str x=>.str x
 | .tup xs=>.tuple (pyDs xs)
 | .lst xs=>.list (pyDs xs)
 | _=>.none
def pyDs:List D→List PyData
 | []=>[]
 | x::r=>pyD x::pyDs r
end
mutual
theorem Zjv:∀x y:D,∀k l,Dl.plain k x=true→Dl.plain l y=true→eqD x y=PyData.eqv (pyD x) (pyD y)
 | .non,y,_,_,_,hy=>by cases y<;>first | rfl | (simp [Dl.plain] at hy)
 | .bl _,y,_,_,_,hy=>by cases y<;>first | rfl | (simp [Dl.plain] at hy)
 | .int _,y,_,_,_,hy=>by cases y<;>first | rfl | (simp [Dl.plain] at hy)
 | .str _,y,_,_,_,hy=>by cases y<;>first | rfl | (simp [Dl.plain] at hy)
 | .tup xs,y,k,l,hx,hy=>by
  cases y<;>first | rfl | (simp [Dl.plain] at hy;done) | skip
  rename_i ys
  cases k with
  | zero=>simp [Dl.plain] at hx
  | succ k =>
   cases l with
   | zero=>simp [Dl.plain] at hy
   | succ l=>exact ZiN xs ys k l (by simpa [Dl.plain] using hx) (by simpa [Dl.plain] using hy)
 | .lst xs,y,k,l,hx,hy=>by
  cases y<;>first | rfl | (simp [Dl.plain] at hy;done) | skip
  rename_i ys
  cases k with
  | zero=>simp [Dl.plain] at hx
  | succ k =>
   cases l with
   | zero=>simp [Dl.plain] at hy
   | succ l=>exact ZiN xs ys k l (by simpa [Dl.plain] using hx) (by simpa [Dl.plain] using hy)
 | .ty _,_,k,_,hx,_=>by cases k<;>simp [Dl.plain] at hx
 | .cls _,_,k,_,hx,_=>by cases k<;>simp [Dl.plain] at hx
 | .exc _,_,k,_,hx,_=>by cases k<;>simp [Dl.plain] at hx
 | .ins _ _ _,_,k,_,hx,_=>by cases k<;>simp [Dl.plain] at hx
theorem ZiN:∀xs ys:List D,∀k l,Dl.Zap k xs=true→Dl.Zap l ys=true→eqDs xs ys=PyData.eqvAll (pyDs xs) (pyDs ys)
 | [],[],_,_,_,_=>rfl
 | [],_::_,_,_,_,_=>rfl
 | _::_,[],_,_,_,_=>rfl
 | x::xs,y::ys,k,l,hx,hy=>by
  have h1:Dl.plain k x=true∧Dl.Zap k xs=true:=by simpa [Dl.Zap] using hx
  have h2:Dl.plain l y=true∧Dl.Zap l ys=true:=by simpa [Dl.Zap] using hy
  show (eqD x y&&eqDs xs ys)=(PyData.eqv (pyD x) (pyD y)&&PyData.eqvAll (pyDs xs) (pyDs ys))
  rw [Zjv x y k l h1.1 h2.1,ZiN xs ys k l h1.2 h2.2]
end
mutual
theorem ZdR:∀(x:D) (k:Nat),Dl.plain k x=true→(pyD x).canLay0=true∧(pyD x).depth≤k
 | .non,_,_=>⟨rfl,VaQ _⟩
 | .bl _,_,_=>⟨rfl,VaQ _⟩
 | .int _,_,_=>⟨rfl,VaQ _⟩
 | .str x,_,h=>⟨by simpa [Dl.plain,pyD,PyData.canLay0,PyData.strOk] using h,VaQ _⟩
 | .tup xs,0,h=>by simp [Dl.plain] at h
 | .lst xs,0,h=>by simp [Dl.plain] at h
 | .tup xs,k+1,h=>by
  obtain ⟨h1,h2⟩:=ZeK xs k (by simpa [Dl.plain] using h)
  exact ⟨h1,Nat.succ_le_succ h2⟩
 | .lst xs,k+1,h=>by
  obtain ⟨h1,h2⟩:=ZeK xs k (by simpa [Dl.plain] using h)
  exact ⟨h1,Nat.succ_le_succ h2⟩
 | .ty _,k,h=>by cases k<;>simp [Dl.plain] at h
 | .cls _,k,h=>by cases k<;>simp [Dl.plain] at h
 | .exc _,k,h=>by cases k<;>simp [Dl.plain] at h
 | .ins _ _ _,k,h=>by cases k<;>simp [Dl.plain] at h
theorem ZeK:∀(xs:List D) (k:Nat),Dl.Zap k xs=true→PyData.canLayAll0 (pyDs xs)=true∧PyData.depthAll (pyDs xs)≤k
 | [],_,_=>⟨rfl,VaQ _⟩
 | x::xs,k,h=>by
  have h':Dl.plain k x=true∧Dl.Zap k xs=true:=by simpa [Dl.Zap] using h
  obtain ⟨a1,a2⟩:=ZdR x k h'.1
  obtain ⟨b1,b2⟩:=ZeK xs k h'.2
  refine ⟨?_,Nat.max_le.mpr ⟨a2,b2⟩⟩
  show (PyData.canLay0 (pyD x)&&PyData.canLayAll0 (pyDs xs))=true
  rw [a1,b1];rfl
end
mutual
theorem ZkF{K:W.Frag}{mg:Str→Option Value}{F:Hp}:∀{x:V} {d:D} {k:Nat},Rp K mg F x d→Dl.plain k d=true→DV K F x (pyD d)
 | _,_,_,.non,_=>.non
 | _,_,_,.bl b,_=>.bl b
 | _,_,_,.int b,_=>.int b
 | _,_,_,.str b,_=>.str b
 | _,_,0,.tup h r,p=>by simp [Dl.plain] at p
 | _,_,0,.lst h r,p=>by simp [Dl.plain] at p
 | _,_,k+1,.tup h r,p=>.tup h (ZhD r (by simpa [Dl.plain] using p))
 | _,_,k+1,.lst h r,p=>.lst h (ZhD r (by simpa [Dl.plain] using p))
 | _,_,k,.ty _,p=>by cases k<;>simp [Dl.plain] at p
 | _,_,k,.cls _,p=>by cases k<;>simp [Dl.plain] at p
 | _,_,k,.exc _ _,p=>by cases k<;>simp [Dl.plain] at p
 | _,_,k,.ins _ _ _ _ _,p=>by cases k<;>simp [Dl.plain] at p
theorem ZhD{K:W.Frag}{mg:Str→Option Value}{F:Hp}:∀{xs:List V} {ds:List D} {k:Nat},Rps K mg F xs ds→Dl.Zap k ds=true→DVs K F xs (pyDs ds)
 | _,_,_,.nil,_=>.nil
 | _,_,k,.cons h r,p=>by
  have p':=(show Dl.plain k _=true∧Dl.Zap k _=true by simpa [Dl.Zap] using p)
  exact .cons (ZkF h p'.1) (ZhD r p'.2)
end
mutual
theorem Ze3{K:W.Frag}{F H:Hp}(s:Same F H):∀{x:V} {d:PyData},DV K F x d→DV K H x d
 | _,_,.non=>.non
 | _,_,.bl b=>.bl b
 | _,_,.int b=>.int b
 | _,_,.str b=>.str b
 | _,_,.tup h r=>.tup (ZaE s h) (ZfL s r)
 | _,_,.lst h r=>.lst (s.seq h) (ZfL s r)
theorem ZfL{K:W.Frag}{F H:Hp}(s:Same F H):∀{xs:List V} {ds:List PyData},DVs K F xs ds→DVs K H xs ds
 | _,_,.nil=>.nil
 | _,_,.cons h r=>.cons (Ze3 s h) (ZfL s r)
end
theorem Zoz{K:W.Frag}{mg:Str→Option Value}:OpD K mg (rEqD K id) dEq:=by
 intro E F H x y dx dy s rx ry
 unfold dEq
 by_cases h:(Dl.plain 50 dx&&Dl.plain 50 dy)=true
 ·rw [if_pos h]
  have h':Dl.plain 50 dx=true∧Dl.plain 50 dy=true:=by simpa using h
  obtain ⟨a1,a2⟩:=ZdR dx 50 h'.1
  obtain ⟨b1,b2⟩:=ZdR dy 50 h'.2
  exact .ret s (.bl _) fun Q q=>⟨_,_,Ze3 s (ZkF rx h'.1),Ze3 s (ZkF ry h'.2),a1,b1,Vaj a2 (by decide),by rw [←Zjv dx dy 50 50 h'.1 h'.2];exact q⟩
 ·rw [if_neg h];trivial
theorem ZoX{K:W.Frag}{mg:Str→Option Value}:OpD K mg (rEqD K not) dNe:=by
 intro E F H x y dx dy s rx ry
 unfold dNe
 by_cases h:(Dl.plain 50 dx&&Dl.plain 50 dy)=true
 ·rw [if_pos h]
  have h':Dl.plain 50 dx=true∧Dl.plain 50 dy=true:=by simpa using h
  obtain ⟨a1,a2⟩:=ZdR dx 50 h'.1
  obtain ⟨b1,b2⟩:=ZdR dy 50 h'.2
  exact .ret s (.bl _) fun Q q=>⟨_,_,Ze3 s (ZkF rx h'.1),Ze3 s (ZkF ry h'.2),a1,b1,Vaj a2 (by decide),by rw [←Zjv dx dy 50 50 h'.1 h'.2];exact q⟩
 ·rw [if_neg h];trivial
theorem d_eq{k:Nat}(hr:Room k X.A)(ha:DE X E a ta ma)(hb:DE X E b tb mb):DE X E (.Compare a [.Eq] [b] pos) (tOp (rEqD X.K id) ta tb) (o2 dEq ma mb):=ZmY (ZoI hr.units) Zoz ha hb (ZcL _)
theorem d_ne{k:Nat}(hr:Room k X.A)(ha:DE X E a ta ma)(hb:DE X E b tb mb):DE X E (.Compare a [.NotEq] [b] pos) (tOp (rEqD X.K not) ta tb) (o2 dNe ma mb):=ZmY (ZoT hr.units) ZoX ha hb (ZcL _)
theorem ZiS{k:Nat}(hr:Room k X.A)(ha:DE X E a ta ma)(hb:DE X E b tb mb):DT X E (.Compare a [.Eq] [b] pos) (ZfE (tOp (rEqD X.K id) ta tb)) (trb (o2 dEq ma mb)):=Zf3 (ZoI hr.units) Zoz ha hb (ZcL _)
theorem ZnF{k:Nat}(hr:Room k X.A)(ha:DE X E a ta ma)(hb:DE X E b tb mb):DT X E (.Compare a [.NotEq] [b] pos) (ZfE (tOp (rEqD X.K not) ta tb)) (trb (o2 dNe ma mb)):=Zf3 (ZoT hr.units) ZoX ha hb (ZcL _)
theorem Zro{j pos'}(ha:DE X E a ta ma):DT X E (.Compare a [.Is] [.Constant .none j pos'] pos) (ZfE (tOp (fun x y H Q=>y=V.non∧Q (V.bl (decide (x=V.non))) H) ta (tC .non))) (trb (o1 dIsN ma)):=⟨Zi7 ZsP ha.p Zmx (ZcL _),Zi1 (ZrH ha.s)⟩
theorem Zl3{j pos'}(ha:DE X E a ta ma):DT X E (.Compare a [.IsNot] [.Constant .none j pos'] pos) (ZfE (tOp (fun x y H Q=>y=V.non∧Q (V.bl (!decide (x=V.non))) H) ta (tC .non))) (trb (o1 Zk3 ma)):=⟨Zi7 ZqK ha.p Zmx (ZcL _),Zi1 (Zpl ha.s)⟩
theorem d_ix(ha:DE X E a ta ma)(hb:DE X E b tb mb)(hs:ZlP b:=by exact fun _ _=>rfl):DE X E (.Subscript a b pos) (tOp (rIxD X.K) ta tb) (o2 dIx ma mb):=⟨ZtV (IxR.or Zp5 Zr7) ha.p hb.p hs,Znd Zrp ha.s hb.s⟩
theorem ZeL(ha:DE X E a ta ma)(he:∀whole,isTrue a X.env whole=(do let v ←whole;standAt a.pos;holding [v] (truthy v)):=by intro _;rfl):DT X E a (L2.tB ta) (trb ma):=⟨Zte ha.p he,st_b ha.s⟩
theorem Zrc(ha:DT X E a sa na):DW X E (.BoolOp .And [a] pos) sa na:=⟨Zp9 ha.p,ha.s⟩
theorem ZgW(ha:DT X E a sa na):DW X E (.BoolOp .Or [a] pos) sa na:=⟨Zr2 ha.p,ha.s⟩
theorem ZoN{rest:List Expr}(ha:DT X E a sa na)(hb:DW X E (.BoolOp .And (b::rest) pos) sb nb):DW X E (.BoolOp .And (a::b::rest) pos) (tAnd sa sb) (bAnd na nb):=⟨Zso ha.p hb.p,ZsZ ha.s hb.s⟩
theorem Zjd{rest:List Expr}(ha:DT X E a sa na)(hb:DW X E (.BoolOp .Or (b::rest) pos) sb nb):DW X E (.BoolOp .Or (a::b::rest) pos) (tOr sa sb) (bOr na nb):=⟨Zux ha.p hb.p,ZuH ha.s hb.s⟩
theorem DW.dt(h:DW X E a sa na):DT X E a sa na:=⟨h.p.pt,h.s⟩
theorem Zg3(ha:DT X E a sa na):DT X E (.UnaryOp .Not a pos) (tNot sa) (bNot na):=⟨Zsy ha.p,ZsC ha.s⟩
theorem ZuL{op}(ha:DE X E a ta ma):DE X E (.BoolOp op [a] pos) ta ma:=⟨ZsR ha.p,ha.s⟩
theorem ZuX{rest:List Expr}(ha:DE X E a ta ma)(hb:DE X E (.BoolOp .And (b::rest) pos) tb mb):DE X E (.BoolOp .And (a::b::rest) pos) (Zp6 ta tb) (eAnd ma mb):=⟨ZtH ha.p hb.p,Ztf ha.s hb.s⟩
theorem ZtR(ha:DE X E a ta ma):DE X E (.UnaryOp .Not a pos) (Zqk ta) (eNot ma):=⟨ZsF ha.p,ZtK ha.s⟩
theorem ZuO(hc:DT X E c' sa na)(ha:DE X E a ta ma)(hb:DE X E b tb mb):DE X E (.IfExp c' a b pos) (tIf sa ta tb) (ife na ma mb):=⟨Znb hc.p ha.p hb.p,ZtG hc.s ha.s hb.s⟩
theorem ZaU:DA X E 0 [] tNil anil:=⟨Ziw,ZoO,Zle⟩
theorem Zas(ha:DE X E e te me)(hr:DA X E n es t m)(hs:starEach (e::es) X.env=(false,eval e X.env)::starEach es X.env:=by rfl):DA X E (n+1) (e::es) (Zek te t) (Zaa me m):=⟨Zen ha.p hr.p hs,Zqi ha.s hr.s,Zok hr.n⟩
theorem Zsv{x1}(h:DA X E n es t m)(hn:n≤sizeLine:=by decide):DE X E (.Tuple es x1 pos) (tTup t) (mtp m):=⟨ZsE h.p,ZrN h.s h.n hn⟩
theorem Ztu(h:DA X E n es t m)(hn:n≤sizeLine:=by decide):DE X E (.List es pos) (tLst t) (mls m):=⟨Zov h.p,Zs6 h.s h.n hn⟩
theorem d_cb{id:String}{r:List V→Hp→VK→Prop}{f:List D→Res D}{x:Str}{p:Pos}(hc:Zej X (.builtin id) r)(hf:CallD X.K X.mg r f)(hg:Gl X x)(hm:X.mg x=none)(hv:bootBuiltins x=some (.builtin id))(ha:DA X E n (e::es) t m)(hn:x ≠ "__name__" := by decide)(hdb:(x==("__debug__" : Str))=false:=by decide)
  (he:starEach (e::es) X.env=(false,eval e X.env)::starEach es X.env:=by rfl) (hpl:(backTo pos (starEach es X.env)).any (·.1)=false:=by rfl):DE X E (.Call (.Name x p) (e::es) [] pos) (tCB r t) (on f m):=⟨Zj2 hc hg hm hv ha.p hn hdb he hpl,Zrw hf ha.s⟩
theorem d_ct{T:String}{r:List V→Hp→VK→Prop}{f:List D→Res D}{x:Str}{p:Pos}(hc:Zej X (.type T) r)(hf:CallD X.K X.mg r f)(hg:Gl X x)(hm:X.mg x=none)(hv:bootBuiltins x=some (.type T))(ha:DA X E n (e::es) t m)(hn:x ≠ "__name__" := by decide)(hdb:(x==("__debug__" : Str))=false:=by decide)
  (he:starEach (e::es) X.env=(false,eval e X.env)::starEach es X.env:=by rfl) (hpl:(backTo pos (starEach es X.env)).any (·.1)=false:=by rfl):DE X E (.Call (.Name x p) (e::es) [] pos) (tCB r t) (on f m):=⟨ZhS hc hg hm hv ha.p hn hdb he hpl,Zrw hf ha.s⟩
structure Cal(P:Program)(w:World)(K:W.Frag)(mg:Str→Option Value)(base:Heap)(n:Nat)(x:Str)(ps:List Str)(m:List D→Res D):Prop where
 ex:∃(f:Addr) (fd:FuncData),FnOk P w K mg base (CXR P w) n f fd ps (spD K mg ps.length m)∧Binds K fd ps []∧W.keepIn K (.ref f)=true∧mg x=some (.ref f)
theorem ZeA{k l:Nat}{x:Str}{ps:List Str}{f:List D→Res D}{p:Pos}(C:Cal X.prog X.w X.K X.mg X.base k x ps f)(hr:Room l X.A)(hn:k≤l)(hg:Gl X x)(hx:Zcl (CXR X.prog X.w) X E)(ha:DA X E n (e::es) t m)(hps:ps.length=n:=by rfl)
  (hdb:(x==("__debug__" : Str))=false:=by decide) (he:starEach (e::es) X.env=(false,eval e X.env)::starEach es X.env:=by rfl) (hpl:(backTo pos (starEach es X.env)).any (·.1)=false:=by rfl) :
  DE X E (.Call (.Name x p) (e::es) [] pos) (Zjm (spD X.K X.mg ps.length f) [] E t) (on f m):=by
 obtain ⟨g,fd,F,b,kp,hm⟩:=C.ex
 exact ⟨Zqa F (hr.mono hn) hg hm kp b .nil hx ha.p hdb he hpl,by rw [hps];exact Zq5 ha.s ha.n⟩
theorem ZsT{N:List Str}{scope:Scope}{cl:List (Str×Addr)}{C:Addr}{s:Shared}{H:Hp}{fp:List Addr}{pn:List (Addr×Obj)}:Zcl (CXR X.prog X.w) (Zay X N scope cl C s H fp pn) E0:=by
 intro pins σ H s e s' I h
 obtain ⟨_,_,_,_,_,q⟩:=h
 exact q.elim
end
section
variable{X:Cx}{E:XK}{a b e c' tg:Expr}{es:List Expr}{ta tb tc te:TE}{ma mb mc me:ME}{sa sb:TT}{na nb:MB}{t:TA}{m:MA}{pos:Pos}{n:Nat}
theorem Zqh:SlR X (rSlU X.K):=by
 intro pins s σ H x v vl vu lo hi sl Q I rx hs pl pu h
 obtain ⟨a,xs,rfl,hx,q1,q2⟩:=h
 by_cases hw:HT.sIx xs.length 0 lo=0∧HT.sIx xs.length xs.length hi=xs.length
 ·cases rx
  obtain ⟨its,r,ht,hz⟩:=I.tuple hx
  have hlen:its.toArray.size=xs.length:=by rw [Va6];exact r.length.symm
  exact ⟨"tuple", _,PyProof.Rows.slot_tuple_getitem.lookup,ht.typeIs,HT.Zed ht hs pl pu (by rw [hlen];exact hw) ⟨.ref a,H,I,rfl,q1 hw⟩⟩
 ·exact ZrP pins s σ H (.ref a) v vl vu lo hi sl Q I rx hs pl pu ⟨a,xs,rfl,hx,hw,q2 hw⟩
theorem ZpJ:DO X E none ZiR pno:=⟨Zrb,ZdL⟩
theorem Zq6(h:DE X E a ta ma):DO X E (some a) (Zpr ta) (pso ma):=⟨Zps h.p,Zdq h.s⟩
theorem Zum{lo hi:Option Expr}{tl th:TO}{ml mh:Ev→Res (Option Int)}{p2:Pos}(ha:DE X E a ta ma)(hl:DO X E lo tl ml)(hh:DO X E hi th mh):DE X E (.Subscript a (.Slice lo hi none p2) pos) (tSl (rSlD X.K) ta tl th) (cut ma ml mh) :=
 ⟨ZnM (SlR.or Zp4 Zqh) ha.p hl.p hh.p,ZtM ha.s hl.s hh.s⟩
theorem ZqU{K:W.Frag}{d:D}{tn n:String}(ht:ZjD d=some tn)(hn:Zkk.contains n=true):W.kitOne K (.type tn) (.type n)=some (isTy tn n):=by
 have hn':n = "int"∨n = "bool"∨n = "str"∨n = "tuple"∨n = "list"∨n = "dict" := by
  simpa [Zkk] using hn
 have ht':tn = "NoneType"∨tn = "bool"∨tn = "int"∨tn = "str"∨tn = "tuple"∨tn = "list" := by
  cases d<;>simp [ZjD] at ht<;>subst ht<;>simp
 rcases ht' with rfl | rfl | rfl | rfl | rfl | rfl<;>rcases hn' with rfl | rfl | rfl | rfl | rfl | rfl <;>
  first
  | exact Znp K _
  | exact Ztr K (by decide +kernel) (by decide +kernel) (by decide +kernel)
def rIsi(K:W.Frag):List V→Hp→VK→Prop:=fun xs H Q=>∃x n tn b,xs=[x,.ty n]∧W.kitOne K (.type tn) (.type n)=some b∧Q (.bl b) H ∧
 ((x=.non∧tn = "NoneType")∨(∃y,x=.bl y∧tn = "bool")∨(∃y,x=.int y∧tn = "int")∨(∃y,x=.str y∧tn = "str")∨(∃a xs,x=.ref a∧SqT K H a xs∧tn = "tuple")∨(∃a xs,x=.ref a∧SqL K H a xs∧tn = "list"))
theorem ZlO:Zej X (.builtin "isinstance") (rIsi X.K):=by
 intro pins s σ H xs us Q I r h
 obtain ⟨x,n,tn,bb,rfl,e,q,h⟩:=h
 obtain ⟨u,w',rfl,r1,r2⟩:=vals2 r
 cases r2
 have fin:∀tk,EP X pins σ Q (.bool bb) { s with toks:=tk }:=fun tk=>⟨.bl bb,H,I.tok _,rfl,q⟩
 rcases h with ⟨rfl,rfl⟩ | ⟨y,rfl,rfl⟩ | ⟨y,rfl,rfl⟩ | ⟨y,rfl,rfl⟩ | ⟨a,xs,rfl,hq,rfl⟩ | ⟨a,xs,rfl,hq,rfl⟩
 ·exact Zet I r1 .non e fin
 ·exact Zet I r1 (.bl y) e fin
 ·exact Zet I r1 (.int y) e fin
 ·exact Zet I r1 (.str y) e fin
 ·cases r1
  obtain ⟨its,_,⟨o,h1,h2,_⟩,_⟩:=I.tuple hq
  exact VaR W.kitx_tuple I.kIn ⟨o,h1,h2⟩ e (fun z=>nomatch z) fin
 ·cases r1
  obtain ⟨its,_,⟨o,_,h1,h2,_⟩,_⟩:=I.list hq
  exact VaR W.kitx_list I.kIn ⟨o,h1,h2⟩ e (fun z=>nomatch z) fin
theorem Zk5{K:W.Frag}{mg:Str→Option Value}:CallD K mg (rIsi K) bIsi:=by
 intro E F H xs ds s r
 unfold bIsi
 split
 ·next d nm =>
  obtain ⟨x,y,rfl,rx,ry⟩:=r.two
  cases ry
  by_cases hn:Zkk.contains nm=true
  ·rw [if_pos hn]
   cases e:ZjD d with
   | none=>trivial
   | some tn =>
    have k:=ZqU (K:=K) e hn
    show Ans mg E (Rp K mg) F H (.ok (.bl (isTy tn nm))) _
    refine .ret s (.bl _) fun Q q=>⟨x,nm,tn,_,rfl,k,q,?_⟩
    cases rx with
    | non=>cases e;exact .inl ⟨rfl,rfl⟩
    | bl y=>cases e;exact .inr (.inl ⟨y,rfl,rfl⟩)
    | int y=>cases e;exact .inr (.inr (.inl ⟨y,rfl,rfl⟩))
    | str y=>cases e;exact .inr (.inr (.inr (.inl ⟨y,rfl,rfl⟩)))
    | ty y=>cases e
    | cls y=>cases e
    | exc y h=>cases e
    | ins m h o q r=>cases e
    | tup h r=>cases e;exact .inr (.inr (.inr (.inr (.inl ⟨_,_,rfl,ZaE s h,rfl⟩))))
    | lst h r=>cases e;exact .inr (.inr (.inr (.inr (.inr ⟨_,_,rfl,s.seq h,rfl⟩))))
  ·rw [if_neg hn];trivial
 ·trivial
theorem Zd6{i:Nat}{x:Str}(hN:X.N.Nodup)(hi:X.N[i]?=some x)(hx:Loc X.env.scope x)(hl:i<n)(hf:X.fn x=true∨X.env.scope.names.lookup x=some .local:=by first | exact .inl rfl | exact .inr rfl | assumption):DG X n (.Name x pos) (Zgs i) (gN i) :=
 ⟨Zo4 hN hi hx hf,Zph hl,fun _ _ _ h=>by cases h⟩
theorem Zlt:DGs X n [] gNil gs0:=⟨ZpT,ZpF,fun d ρ c h=>by
 unfold gs0 at h
 split at h<;>cases h⟩
theorem ZdM{t:TG}{u:TGs}{g:MG}{gs:MGs}(h1:DG X n e t g)(h2:DGs X n es u gs)(hs:(assignEach (e::es) X.env).map (·.2)=assign e X.env::(assignEach es X.env).map (·.2):=by rfl):DGs X n (e::es) (Zpk t u) (gs1 g gs) :=
 ⟨Znv h1.p h2.p hs,Zoi h1.s h2.s,fun d ρ c h=>by
  unfold gs1 at h
  split at h
  ·next d' ds =>
   cases eg:g d' ρ with
   | ok ρ' =>
    rw [eg] at h
    exact h2.x ds ρ' c h
   | ex c'=>exact h1.x d' ρ c' eg
   | bad=>rw [eg] at h;cases h
  ·cases h⟩
theorem ZoM{k:Nat}{u:TGs}{g:MGs}{j:Nat}(hc:X.calm=true)(h:DGs X n es u g)(hn:(assignEach es X.env).length=j:=by rfl)(hst:(assignEach es X.env).findIdx? (·.1)=none:=by rfl):DG X n (.Tuple es k pos) (gSeq X.K j u) (gU j g):=by
 refine ⟨?_,Zsj h.s,fun d ρ c hh=>?_⟩
 ·intro pins s σ H v w Q I r hw
  rcases hw with hw | hw
  ·exact Zsm hc h.p hn hst pins s σ H v w Q I r hw
  ·obtain ⟨a,xs,e1,hq,hl,hw⟩:=hw
   subst e1
   cases r
   obtain ⟨its,rv,ht,hz⟩:=I.list hq
   refine Zfj (I.ok.hd hc) ht.isList (by simp [hn,←hl,rv.length]) hst fun h' hx=>?_
   have I1:Inv X pins σ H { s with heap:=h' }:=I.kept (t':=s.toks) fun b o e=>hx b o (Vag (Vad e)) e
   exact h.p pins _ σ H xs _ Q I1 (by simpa using rv) hw
 ·unfold gU at hh
  cases ei:items d with
  | ok xs =>
   rw [ei] at hh
   have hh':(if xs.length=j then g xs ρ else .bad)=.ex c:=hh
   split at hh'
   ·exact h.x xs ρ c hh'
   ·cases hh'
  | ex c'=>unfold items at ei;split at ei<;>cases ei
  | bad=>rw [ei] at hh;cases hh
theorem Zbf(h:DE X E a ta ma):DI X E tg a (iSeq X.K ta) (iv ma):=by
 refine ⟨?_,Zsd h.s⟩
 intro pins s σ H R I hw
 refine thn (h.p pins s σ H _ I hw) fun v s1 ⟨x,H1,I1,r1,q1⟩=>?_
 obtain ⟨p,rfl,q1⟩:=q1
 cases r1
 rcases q1 with ⟨⟨xs,hq⟩,q⟩ | ⟨⟨xs,hq⟩,q⟩
 ·obtain ⟨its,rv,pl,hz⟩:=I1.list hq
  refine Vbv pl.isList ?_
  refine ⟨s1.heap.objs.size,[s1.heap.objs.size],_,_,H1,rfl,I1.kept (t':=s1.toks) fun b o e=>VaD _ e,Zmm p _,⟨_,VaE _ rfl,rfl,rfl⟩,fun b hb=>?_,q⟩
  have e:b=s1.heap.objs.size:=by simpa using hb
  subst e
  exact I1.fpOk (VaF _) (I1.hok.fresh (VaF _))
 ·obtain ⟨its,rv,pl,hz⟩:=I1.tuple hq
  refine wpAny_pyIter_tuple (show s1.heap.IsTuple p its.toArray from pl) ?_
  refine ⟨s1.heap.objs.size,[s1.heap.objs.size],_,_,H1,rfl,I1.kept (t':=s1.toks) fun b o e=>VaD _ e,Zkr p _,⟨_,VaE _ rfl,rfl,rfl⟩,fun b hb=>?_,q⟩
  have e:b=s1.heap.objs.size:=by simpa using hb
  subst e
  exact I1.fpOk (VaF _) (I1.hok.fresh (VaF _))
theorem Zu3{p:Pos}(hg:Gl X "range")(hm:X.mg "range"=none)(ha:DA X E n [a] t m)(hs:starEach [a] X.env=[(false,eval a X.env)]:=by rfl):DI X E tg (.Call (.Name "range" p) [a] [] pos) (ZpQ t) (r1 m):=⟨ZmS hg hm ha.p hs,ZuB ha.s⟩
theorem Zfz:∀(ds:List D) (k i:Nat) (d:D),(Dl.numbered k ds)[i]?=some d→∃x,ds[i]?=some x∧d=.tup [.int (k+i:Nat),x]
 | [],_,_,_,h=>by simp [Dl.numbered] at h
 | x::r,k,0,d,h=>by simp [Dl.numbered] at h;exact ⟨x,rfl,h.symm⟩
 | x::r,k,i+1,d,h=>by
  obtain ⟨y,h1,h2⟩:=Zfz r (k+1) i d (by simpa [Dl.numbered] using h)
  exact ⟨y,by simpa using h1,by rw [h2,Nat.add_right_comm,Nat.add_assoc]⟩
theorem Zfy:∀(ds:List D) (k:Nat),(Dl.numbered k ds).length=ds.length
 | [],_=>rfl
 | _::r,k=>Vax (·+1) (Zfy r (k+1))
theorem Zrn{K:W.Frag}{mg:Str→Option Value}{F:Hp}{a:Addr}{xs:List V}{ds:List D}(h:SqL K F a xs)(r:Rps K mg F xs ds):ItOk K mg F (Ite K a) (Dl.numbered 0 ds):=by
 intro F' H' s1 s2 i
 have hq:SqL K H' a xs:=(s1.trans s2).seq h
 refine ⟨fun d e=>?_,fun hl=>⟨xs,hq,by rw [r.length];rw [Zfy] at hl;exact hl⟩⟩
 obtain ⟨x',e',rfl⟩:=Zfz ds 0 i d e
 obtain ⟨x,e1,rx⟩:=r.get e'
 refine ⟨⟨xs,x,hq,e1⟩,fun y H'' q=>?_⟩
 obtain ⟨T,p,hT,rfl,rfl,hp⟩:=q
 have e2:=hp xs hq
 rw [e1] at e2;cases e2
 refine ⟨_,.new s2 hT _,.tup (SqT.of Zag) (.cons ?_ (.cons ((rx.same s1).same (ZaA (s2.free hT) _)) .nil))⟩
 rw [Nat.zero_add];exact .int _
theorem Zhx{K:W.Frag}{H H':Hp}{p:Bool}{a:Addr}{xs:List V}(e:Same H H')(h:SqB K p H a xs):SqB K p H' a xs:=by
 cases p
 ·exact e.seq h
 ·exact ZaE e h
theorem Zmd{K:W.Frag}{mg:Str→Option Value}{F:Hp}{x:V}{d:D}{ds:List D}(r:Rp K mg F x d)(e:seqD d=.ok ds):∃p a xs,x=.ref a∧SqB K p F a xs∧Rps K mg F xs ds:=by
 cases r with
 | tup h q=>cases e;exact ⟨true,_,_,rfl,h,q⟩
 | lst h q=>cases e;exact ⟨false,_,_,rfl,h,q⟩
 | _=>cases e
theorem ZmG{d:D}{c:Str}:seqD d≠.ex c:=by cases d<;>intro h<;>cases h
theorem Zit{elts:List Expr}{x1:Nat}{tpos p:Pos}(hg:Gl X "enumerate")(hm:X.mg "enumerate"=none)(ha:DA X E n [a] t m)(hs:starEach [a] X.env=[(false,eval a X.env)]:=by rfl):DI X E (.Tuple elts x1 tpos) (.Call (.Name "enumerate" p) [a] [] pos) (Ztk X.K t) (Ze5 m):=by
 refine ⟨ZqQ hg hm ha.p hs,?_⟩
 intro F0 H0 F H σ ρ rr
 refine (ha.s F0 H0 F H σ ρ rr).bind (w':=fun vs H1 R=>∃a,vs=[V.ref a]∧(∃xs,SqL X.K H1 a xs)∧R (Ite X.K a) H1) fun F1 H1 xs ds g1 rs=>?_
 unfold Znh
 split
 ·next d =>
  obtain ⟨x,rfl,rx⟩:=rs.one
  cases d with
  | lst ds =>
   cases rx with
   | lst h r=>exact Ans.ret (R:=ItOk X.K X.mg) g1.s (Zrn h r) fun Q q=>⟨_,rfl,⟨_,g1.s.seq h⟩,q⟩
  | tup ds=>trivial
  | _=>trivial
 ·trivial
end
structure DTs(X:Cx)(E:XK)(ts:List Expr)(t:TT)(m:MB):Prop where
 p:PTs X ts t
 s:STt X.K X.mg E t m
section
variable{X:Cx}{E:XK}{a b e c' tg iter elt:Expr}{es ts:List Expr}{ta tb tc te:TE}{ma mb mc me:ME}{sa sb:TT}{na nb:MB}{t:TA}{m:MA}{pos spos pos':Pos}{n i j:Nat}{x y:Str}
theorem ZrI{K:W.Frag}{mg:Str→Option Value}{E:XK}:STt K mg E tYes yes:=fun _ _ _ _ _ _ r=>Ans.ret (R:=RB) r.ss rfl fun _ q=>q
theorem Zre:DTs X E [] tYes yes:=⟨Zqs,ZrI⟩
theorem Zjc(h:DT X E a sa na):DTs X E [a] sa na:=⟨Zq1 h.p,h.s⟩
theorem ZbB{own:List Str}{cap:List (Str×Nat)}{scope:Scope}{cl:List (Str×Addr)}{wi:TI}{mi:MI}{g:Fam TG}{gm:MG}{tt:Fam TT}{tf:Fam TE}(hi:DI X E tg iter wi mi)(O:Zdk X own cap scope cl)(hc:X.calm=true)
  (hg:∀C s H fp pn,DG (Zay X (own++cap.map (·.1)) scope cl C s H fp pn) own.length tg (g C s H fp pn) gm) (ht:∀C s H fp pn,DTs (Zay X (own++cap.map (·.1)) scope cl C s H fp pn) E0 ts (tt C s H fp pn) na)
  (he:∀C s H fp pn,DE (Zay X (own++cap.map (·.1)) scope cl C s H fp pn) E0 elt (tf C s H fp pn) me) (hts:ts.length≤1:=by decide) (hs:∀x,foldedSetIterable iter X.env x=pure x:=by intro _;rfl) :
  DE X E (.ListComp elt [⟨tg,iter,ts,0⟩] scope pos) (Zfp wi g tt tf own cap) (comp mi own.length (cap.map (·.2)) gm na me) :=
 ⟨Zo7 hi.p O hc (fun C s H fp pn=>(hg C s H fp pn).p) (fun C s H fp pn=>(ht C s H fp pn).p) (fun C s H fp pn=>(he C s H fp pn).p) hts hs,
  ZlQ hi.s (fun C s H fp pn=>(hg C s H fp pn).s) (fun C s H fp pn=>(ht C s H fp pn).s) (fun C s H fp pn=>(he C s H fp pn).s)⟩
theorem Ze9{own:List Str}{cap:List (Str×Nat)}{scope:Scope}{cl:List (Str×Addr)}{wi:TI}{mi:MI}{g:Fam TG}{gm:MG}{tt:Fam TT}{tf:Fam TE}(hN:X.N.Nodup)(hix:X.N[i]?=some x)(hx:Loc X.env.scope x)(hi:DI X E tg iter wi mi)(O:Zdk X own cap scope cl)(hc:X.calm=true)
  (hg:∀C s H fp pn,DG (Zay X (own++cap.map (·.1)) scope cl C s H fp pn) own.length tg (g C s H fp pn) gm) (ht:∀C s H fp pn,DTs (Zay X (own++cap.map (·.1)) scope cl C s H fp pn) E0 ts (tt C s H fp pn) na)
  (he:∀C s H fp pn,DE (Zay X (own++cap.map (·.1)) scope cl C s H fp pn) E0 elt (tf C s H fp pn) me) (hts:ts.length≤1:=by decide)
  (hsw:swapsWith (.ListComp elt [⟨tg,iter,ts,0⟩] scope pos) (some (.Name x pos')) spos.line X.env=pure true:=by rfl)
  (hs:∀x,foldedSetIterable iter X.env x=pure x:=by intro _;rfl)
  (hf:X.fn x=true∨X.env.scope.names.lookup x=some .local:=by first | exact .inl rfl | exact .inr rfl | assumption) :
  DS X E (.Assign [.Name x pos'] (.ListComp elt [⟨tg,iter,ts,0⟩] scope pos) spos) (tAsg (Zfp wi g tt tf own cap) (Zgs i)) (st i (comp mi own.length (cap.map (·.2)) gm na me)) :=
 ⟨Zkv hN hix hx hi.p O hc (fun C s H fp pn=>(hg C s H fp pn).p) (fun C s H fp pn=>(ht C s H fp pn).p) (fun C s H fp pn=>(he C s H fp pn).p) hts hsw hs hf,
  ZoV (ZlQ hi.s (fun C s H fp pn=>(hg C s H fp pn).s) (fun C s H fp pn=>(ht C s H fp pn).s) (fun C s H fp pn=>(he C s H fp pn).s))⟩
theorem Zfx(hN:X.N.Nodup)(hi:X.N[i]?=some x)(hx:Loc X.env.scope x)(he:DE X E e te me)(hs:swapsWith e (some (.Name x pos')) spos.line X.env=pure false:=by rfl)(hf:X.fn x=true∨X.env.scope.names.lookup x=some .local:=by first | exact .inl rfl | exact .inr rfl | assumption) :
  DS X E (.Assign [.Name x pos'] e spos) (tAsg te (Zgs i)) (st i me):=⟨ZoY hN hi hx he.p hs hf,ZoV he.s⟩
theorem Zst{g:TG}{gm:MG}(he:DE X E e te me)(hg:DG X 1000 tg g gm)(hs:swapsWithSole [tg] e spos.line X.env=pure false:=by rfl)(hw:swappedStores [tg] e X.env=pure none:=by rfl)
  (h1:(assignEach [tg] X.env).map (·.2)=[assign tg X.env]:=by rfl):DS X E (.Assign [tg] e spos) (tAsg te g) (asg gm me):=⟨Zty he.p hg.p hs hw h1,ZrR he.s hg.s hg.x⟩
theorem Zs7(he:DE X E e te me)(hs:swapsWith e none spos.line X.env=pure false:=by rfl):DS X E (.Expr e spos) (Zgf te) (drp me):=⟨Zf2 he.p hs,ZpK he.s⟩
theorem ZaH(he:DE X E e te me):DS X E (.Return (some e) spos) (tRet te) (ret me):=⟨Zs9 he.p,ZsU he.s⟩
theorem Zop:DS X E (.Continue spos) Zq2 cnt:=⟨Zi6,ZsS⟩
theorem ZsO{st:Stmt}{u:TS}{k:MS}(h:DS X E st u k):DS X E st u (frz i k):=⟨h.p,Zss h.s⟩
theorem ZaC:DSs X E [] ZnA nop:=⟨Zk1,Ztg⟩
theorem Zaj{st:Stmt}{u:TS}{k:MS}(h:DS X E st u k):DSs X E [st] u k:=⟨ZqR h.p,h.s⟩
theorem Zac{st:Stmt}{rest:List Stmt}{u u':TS}{k k':MS}(h:DS X E st u k)(h':DSs X E rest u' k'):DSs X E (st::rest) (tSeq u u') (sq k k'):=⟨ZfI h.p h'.p,ZtL h.s h'.s⟩
theorem ZbZ{as bs:List Stmt}{u u':TS}{k k':MS}(hc:DT X E c' sa na)(ha:DSs X E as u k)(hb:DSs X E bs u' k'):DS X E (.If c' as bs spos) (tIfS sa u u') (ifs na k k'):=⟨Zu2 hc.p ha.p hb.p,ZuV hc.s ha.s hb.s⟩
theorem Zd2{body:List Stmt}{wi:TI}{mi:MI}{g:TG}{gm:MG}{u:TS}{k:MS}(hp:PassesOwn (model X.prog X.w) X.A X.env X.xe)(hc:X.calm=true)(hi:DI X E tg iter wi mi)(hg:DG X 1000 tg g gm)(hb:DSs X E body u k)
  (hs:∀x,foldedSetIterable iter X.env x=pure x:=by intro _;rfl):DS X E (.For tg iter body [] spos) (tFor wi g u) (for_ mi gm k):=⟨Zto hp hc hi.p hg.p hb.p hs,Zsw hi.s hg.s hg.x hb.s⟩
theorem ZsY{body:List Stmt}{u:TS}{k:MS}{fu:Ev→Nat}(hp:PassesOwn (model X.prog X.w) X.A X.env X.xe)(hc:DT X E c' sa na)(hb:DSs X E body u k):DS X E (.While c' body [] spos) (Zkh sa u) (whl fu na k):=⟨ZnO hp hc.p hb.p,ZnY hc.s hb.s⟩
end
section
variable{P:Program}{w:World}{K:W.Frag}{mg:Str→Option Value}{base:Heap}{N ps:List Str}{qual x:Str}{scope:Scope}{f:Addr}{cd:Value}{A:Around}{outer:List Env}{s₀:Shared}{H₀:Hp}{E:XK}{t:TA}{m:MA}{n:Nat}
theorem ZjN{C:Addr}{np cpos pos:Pos}{e:Expr}{es:List Expr}(hg:Gl (cxOf (CXR P w) P w K mg base N qual scope f cd A outer s₀ H₀ E) x)(hm:mg x=some (.ref C))(hq:W.excIn K C ZfR "ValueError.__new__"=true)
  (ha:DA (cxOf (CXR P w) P w K mg base N qual scope f cd A outer s₀ H₀ E) E n (e::es) t m) (hn:n≤1000:=by decide) (hd:(x==("__debug__" : Str))=false:=by decide)
  (he:starEach (e::es) (cxOf (CXR P w) P w K mg base N qual scope f cd A outer s₀ H₀ E).env=(false,eval e (cxOf (CXR P w) P w K mg base N qual scope f cd A outer s₀ H₀ E).env)::starEach es (cxOf (CXR P w) P w K mg base N qual scope f cd A outer s₀ H₀ E).env:=by rfl)
  (hpl:(backTo cpos (starEach es (cxOf (CXR P w) P w K mg base N qual scope f cd A outer s₀ H₀ E).env)).any (·.1)=false:=by rfl) :
  DS (cxOf (CXR P w) P w K mg base N qual scope f cd A outer s₀ H₀ E) E (.Raise (some (.Call (.Name x np) (e::es) [] cpos)) none pos) (ZoA E C t) (rse x m):=by
 refine ⟨Zoa hg hm hq ha.p hd he hpl,?_⟩
 intro F0 H0 F H σ ρ rr
 refine (ha.s F0 H0 F H σ ρ rr).stm (w':=fun vs H1 _=>vs.length≤1000∧E (.ref C) none H1) rr.g fun ds ed F1 H1 vs g1 rs=>?_
 exact fun D q=>⟨by rw [rs.length,ha.n ρ ds ed];exact hn,q F1 H1 C (rr.g.trans g1) hm⟩
theorem Zf6{F H:Hp}{vs:List V}{ds:List D}(s:Same F H)(r:Rps K mg F vs ds):Rep K mg F H F H (start N vs) (ev0 N.length ds):=by
 have hl:=r.length
 have key:∀(i:Nat) (c:Cl),(ev0 N.length ds)[i]?=some c→c=.no∨∃d,ds[i]?=some d∧c=.im d:=by
  intro i c e
  rw [Ziu] at e
  by_cases hi:i<ds.length
  ·rw [Va1 (by simpa using hi),Va2,VbH hi] at e
   exact .inr ⟨ds[i],VbH hi,(Vau e).symm⟩
  ·rw [VaZ (by simpa using hi),Va0] at e
   split at e
   ·exact .inl (Vau e).symm
   ·cases e
 refine ⟨.refl s,?_,fun i d e=>?_,fun i ds' e=>?_,fun i j ds' es' a e=>?_⟩
 ·rw [Ziu]
  unfold start
  simp [hl]
 ·rcases key i _ e with z | ⟨d',e1,z⟩
  ·cases z
  ·cases z
   obtain ⟨v,e2,rv⟩:=r.get e1
   refine ⟨v,?_,rv⟩
   have hi:i<vs.length:=(Vat.mp e2).1
   unfold start
   rw [Va1 (by simpa using hi),Va2,e2]
   rfl
 ·rcases key i _ e with z | ⟨d',e1,z⟩<;>cases z
 ·rcases key i _ e with z | ⟨d',e1,z⟩<;>cases z
theorem okD{st:Stmt}{fd:FuncData}{k:Nat}{mb:MS}(F:Fun K x x st f fd)(S:Zad N ps (Zab st))
  (h:∀(cdv:Value) (A:Around) (outer:List Env) (s:Shared) (H:Hp) (E:XK),Room k (A.deeper (envOfC x (Zab st) s.heap.objs.size f cdv))→∃t,DSs (cxOf (CXR P w) P w K mg base N x (Zab st) f cdv A outer s H E) E (Za5 st) t mb) :
  FnOk P w K mg base (CXR P w) (k+1) f fd ps (spD K mg ps.length (fn N.length mb)):=by
 obtain ⟨oc,od,kV,doc,pm,an,cdv,ct,osl,rfl,lk,hcd⟩:=F.ex
 refine Znu lk hcd S (fun vs H Q E q=>q.1) fun A outer s H vs Q E hr hsp=>?_
 obtain ⟨t,hd⟩:=h cdv A outer s H E hr
 refine ⟨t,hd.p,?_⟩
 obtain ⟨_,F0,ds,s0,rs,hb,hok,hex⟩:=hsp
 have z:=hd.s F0 H F0 H (start N vs) (ev0 N.length ds) (Zf6 s0 rs)
 unfold fn at hb hok hex
 cases e:mb (ev0 N.length ds) with
 | ok fl =>
  rw [e] at z hb hok hex
  cases fl with
  | nx ρ=>exact z _ fun F' H' σ' _ r'=>hok .non rfl F' H' .non r'.g .non
  | rt d=>exact z _ fun F' H' v g rv=>hok d rfl F' H' v g rv
  | bk ρ=>exact absurd rfl hb
  | ct ρ=>exact absurd rfl hb
 | ex c =>
  rw [e] at z hex
  exact z _ fun F' H' C g hc=>hex c rfl F' H' C g hc
 | bad=>rw [e] at hb;exact absurd rfl hb
theorem _root_.L2.Def.cal{st:Stmt}{k:Nat}{mb:MS}(D:Def K mg x st ps)(S:Zad N ps (Zab st))
  (h:∀(f:Addr) (cdv:Value) (A:Around) (outer:List Env) (s:Shared) (H:Hp) (E:XK),Room k (A.deeper (envOfC x (Zab st) s.heap.objs.size f cdv))→∃t,DSs (cxOf (CXR P w) P w K mg base N x (Zab st) f cdv A outer s H E) E (Za5 st) t mb) :
  Cal P w K mg base (k+1) x ps (fn N.length mb):=by
 obtain ⟨f,fd,F,b,hm⟩:=D.ex
 exact ⟨f,fd,okD F S (h f),b,F.kp,hm⟩
end
theorem Zr6{P:Program}{w:World}{l:List Env}{H:Hp}{s s':Shared}{e:Value}(h:CXR P w l H s (fun _ _ _=>False) e s'):False:=by
 obtain ⟨_,_,_,_,_,q⟩:=h
 exact q
def ZnJ(K:W.Frag):Sp:=fun vs H Q _=>∃(a:Addr) (ns:List Int),vs=[.ref a]∧SqL K H a (ns.map V.int)∧ns.length≤63∧∀H',Q (.bl true) H'
theorem ZjP{K:W.Frag}{mg:Str→Option Value}{H:Hp}:∀ns:List Int,Rps K mg H (ns.map V.int) (ns.map D.int)
 | []=>.nil
 | n::r=>.cons (.int n) (ZjP r)
theorem ZsQ{K:W.Frag}{mg:Str→Option Value}{m:List D→Res D}(h:∀ns:List Int,ns.length≤63→m [.lst (ns.map .int)]=.ok (.bl true)):∀vs H Q E,ZnJ K vs H Q E→spD K mg 1 m vs H Q E:=by
 rintro vs H Q E ⟨a,ns,rfl,hS,hl,q⟩
 have e:=h ns hl
 refine ⟨rfl,H,_,Same.refl _,.cons (.lst hS (ZjP ns)) .nil,fun z=>?_,fun d e'=>?_,fun c e'=>?_⟩
 ·rw [e] at z;cases z
 ·rw [e] at e';cases e'
  intro F' H' x _ rx
  cases rx
  exact q H'
 ·rw [e] at e';cases e'
theorem ZpH{X:Cx}{N:List Str}{scope:Scope}{cl:List (Str×Addr)}{C':Addr}{s:Shared}{H:Hp}{fp:List Addr}{pn:List (Addr×Obj)}{e:Expr}{es:List Expr}{t:TA}{m:MA}{n k l:Nat}{x:Str}{ps:List Str}{f:List D→Res D}{p pos:Pos}
  (C:Cal X.prog X.w X.K X.mg X.base k x ps f) (hr:Room l X.A) (hn:k≤l) (hg:Gl (Zay X N scope cl C' s H fp pn) x) (ha:DA (Zay X N scope cl C' s H fp pn) E0 n (e::es) t m) (hps:ps.length=n:=by rfl)
  (hdb:(x==("__debug__" : Str))=false:=by decide) (he:starEach (e::es) (Zay X N scope cl C' s H fp pn).env=(false,eval e (Zay X N scope cl C' s H fp pn).env)::starEach es (Zay X N scope cl C' s H fp pn).env:=by rfl)
  (hpl:(backTo pos (starEach es (Zay X N scope cl C' s H fp pn).env)).any (·.1)=false:=by rfl) :
  DE (Zay X N scope cl C' s H fp pn) E0 (.Call (.Name x p) (e::es) [] pos) (Zjm (spD X.K X.mg ps.length f) [] E0 t) (on f m) :=
 ZeA (X:=Zay X N scope cl C' s H fp pn) C hr hn hg ZsT ha hps hdb he hpl
section
variable{X:Cx}{E:XK}
theorem all_range:∀bs:List Bool,((List.range bs.length).all fun i=>bs.getD i true)=bs.all id
 | []=>rfl
 | b::r=>by
  rw [VaL,List.range_succ_eq_map,List.all_cons,List.all_map,List.all_cons,←all_range r]
  rfl
theorem Zfa:∀(bs:List Bool) (its:List Value),Vals (bs.map V.bl) its→its=bs.map Value.bool
 | [],_,.nil=>rfl
 | b::r,_,.cons h t=>by
  cases h
  rw [VaM,Zfa r _ t]
def rAll(K:W.Frag):List V→Hp→VK→Prop:=fun xs H Q=>∃(a:Addr) (bs:List Bool),xs=[.ref a]∧SqL K H a (bs.map V.bl)∧Q (.bl (bs.all id)) H
theorem ZeT(hc:X.calm=true):Zej X (.builtin "all") (rAll X.K):=by
 intro pins s σ H xs us Q I r h
 obtain ⟨a,bs,rfl,hq,q⟩:=h
 obtain ⟨u,rfl,r1⟩:=vals1 r
 cases r1
 obtain ⟨its,rv,pl,hz⟩:=I.list hq
 obtain rfl:=Zfa bs its rv
 have la:a<s.heap.objs.size:=by
  obtain ⟨o,_,ho,_⟩:=pl
  exact Vad ho
 refine call_all_walk (Vbv pl.isList ?_)
 refine ⟨s.heap.objs.size,_,_,_,_,_,fun i=>bs.getD i true,rfl,Walks.list (A:=X.A.in1) (I.ok.hd hc) s.heap.objs.size a (Vag la) (bs.map Value.bool).toArray,⟨⟨_,VaE _ rfl,rfl,rfl⟩,?_⟩,?_,fun h' tk k=>?_⟩
 ·exact pl.isList.at fun o e=>VaD _ e
 ·intro i v s2 Q2 E2 hP hQ
  have e:v=.bool (bs.getD i true):=by
   rw [List.getElem?_toArray,Va2] at hP
   cases q:bs[i]? with
   | none=>rw [q] at hP;cases hP
   | some b =>
    rw [q] at hP
    cases hP
    rw [List.getD_eq_getElem?_getD,q];rfl
  subst e
  exact VaB hQ
 ·have e:(List.range (bs.map Value.bool).toArray.size).all (fun i=>bs.getD i true)=bs.all id:=by
   rw [Va6,VaN];exact all_range bs
  rw [e]
  exact ⟨.bl (bs.all id),H,I.kept fun b o z=>k b o (by simp;exact Vag (Vad z)) (VaD _ z),rfl,q⟩
theorem Zhs{K:W.Frag}{mg:Str→Option Value}{F:Hp}:∀{xs:List V} {ds:List D} {bs:List Bool},Rps K mg F xs ds→bools ds=.ok bs→xs=bs.map V.bl
 | _,_,_,.nil,e=>by cases e;rfl
 | _,_,bs,.cons (d:=d) (ds:=ds) h r,e=>by
  unfold bools at e
  cases d with
  | bl b =>
   cases q:bools ds with
   | ok bs' =>
    simp only [q,Res.bind] at e
    cases e
    cases h
    rw [VaM,Zhs r q]
   | ex c=>simp only [q,Res.bind] at e;cases e
   | bad=>simp only [q,Res.bind] at e;cases e
  | _=>cases e
theorem ZhL{c:Str}:∀ds:List D,bools ds≠.ex c
 | [],h=>by cases h
 | d::r,h=>by
  unfold bools at h
  cases d with
  | bl b =>
   cases q:bools r with
   | ok bs'=>simp only [q,Res.bind] at h;cases h
   | ex c'=>exact ZhL r q
   | bad=>simp only [q,Res.bind] at h;cases h
  | _=>cases h
theorem ZeE{K:W.Frag}{mg:Str→Option Value}:CallD K mg (rAll K) bAll:=by
 intro E F H xs ds s r
 unfold bAll
 split
 ·next d =>
  obtain ⟨x,rfl,rx⟩:=r.one
  cases d with
  | lst es =>
   cases rx with
   | lst h rs =>
    show Ans mg E (Rp K mg) F H ((bools es).bind fun bs=>.ok (.bl (bs.all id))) _
    cases q:bools es with
    | ok bs =>
     have e:=Zhs rs q
     subst e
     exact Ans.ret s (.bl _) fun Q z=>⟨_,bs,rfl,s.seq h,z⟩
    | ex c=>exact absurd q (ZhL es)
    | bad=>trivial
  | _=>trivial
 ·trivial
theorem Rps.three{K:W.Frag}{mg:Str→Option Value}{H:Hp}{xs:List V}{d e f:D}(h:Rps K mg H xs [d,e,f]):∃x y z,xs=[x,y,z]∧Rp K mg H x d∧Rp K mg H y e∧Rp K mg H z f:=by
 cases h with | cons h r=>obtain ⟨_,_,rfl,g⟩:=Rps.two r;exact ⟨_,_,_,rfl,h,g⟩
end
section
variable{X:Cx}{E:XK}
theorem Zt7{a st:Expr}{ta ts:TE}{ma:ME}{p2 pos:Pos}(ha:DE X E a ta ma)(hs:DE X E st ts (o1 dNeg (c (.int 1)))):DE X E (.Subscript a (.Slice none none (some st) p2) pos) (tRev X.K ta ts) (o1 dRev ma):=by
 refine ⟨Ztc ha.p hs.p,?_⟩
 intro F0 H0 F H σ ρ rr
 refine (ha.s F0 H0 F H σ ρ rr).bind (R':=Rp X.K X.mg) (w':=fun x H1 Q=>ts σ H1 fun y H2=>y=.int (-1)∧∃a xs,x=.ref a∧SqL X.K H2 a xs∧∀p,H2 p=none→(Q:VK) (V.ref p) (upd H2 p (.lst xs.reverse))) fun F1 H1 x dx g1 rx=>?_
 cases dx with
 | lst es =>
  cases rx with
  | lst h rs =>
   have z:=hs.s F0 H0 F1 H1 σ ρ (rr.gr g1)
   exact fun Q q=>z _ fun F2 H2 y g2 ry=>by
    cases ry
    exact ⟨rfl,_,_,rfl,g2.s.seq (g2.f.seq h),fun p hp=>q _ _ _ (g2.trans (.new g2.s hp _)) (.lst (SqL.of Zag) (((rs.same g2.f).rev).same (ZaA (g2.s.free hp) _)))⟩
 | _=>trivial
end
section
variable{K:W.Frag}{mg:Str→Option Value}{E:XK}{i:Nat}
theorem Zo6{t:TA}{m:MA}{n:Nat}(ha:SA K mg E t m)(hl:SAn n m)(hn:n≤sizeLine):SS K mg E (tAsg (tLst t) (Zgs i)) (stO i (mls m)):=by
 intro F0 H0 F H σ ρ rr
 have h:=ha F0 H0 F H σ ρ rr
 unfold stO mls
 cases e:m ρ with
 | ok ds =>
  rw [e] at h
  exact fun D q=>h _ fun F' H' xs g rs=>⟨by rw [rs.length,hl ρ ds e];exact hn,fun p hp=>q F' _ _ g.f ((rr.gr g).own i hp rs)⟩
 | ex c =>
  rw [e] at h
  exact fun D q=>h _ fun F' H' C g hC=>q F' H' C (rr.g.trans g) hC
 | bad=>trivial
end
section
variable{X:Cx}{E:XK}{a b e c' tg iter elt:Expr}{es ts:List Expr}{ta tb tc te:TE}{ma mb mc me:ME}{sa sb:TT}{na nb:MB}{t:TA}{m:MA}{pos spos pos':Pos}{n i j:Nat}{x y:Str}
theorem ZlK(hN:X.N.Nodup)(hi:X.N[i]?=some x)(hx:Loc X.env.scope x)(ha:DA X E n es t m)(hn:n≤sizeLine:=by decide)(hs:swapsWith (.List es pos) (some (.Name x pos')) spos.line X.env=pure false:=by rfl)(hf:X.fn x=true∨X.env.scope.names.lookup x=some .local:=by first | exact .inl rfl | exact .inr rfl | assumption) :
  DS X E (.Assign [.Name x pos'] (.List es pos) spos) (tAsg (tLst t) (Zgs i)) (stO i (mls m)):=⟨ZoY hN hi hx (Zov ha.p) hs hf,Zo6 ha.s ha.n hn⟩
theorem Ztv(i:Nat){np apos cpos:Pos}(he:DE X E e te me)(hN:X.N[i]?=some x:=by rfl)(hv:Vis X.env.scope x:=by first | exact Or.inl rfl | exact Or.inr (Or.inl rfl) | exact Or.inr (Or.inr rfl))(hd:(x==("__debug__" : Str))=false:=by decide)
  (hcd:(x==("__classdict__" : Str))=false:=by decide) (hbase:attributeBase (.Name x np) "append" X.env (eval (.Name x np) X.env)=eval (.Name x np) X.env:=by rfl)
  (hfew:((backTo cpos (starEach [e] X.env)).all (fun x=>!x.1)&&(backToKw cpos (keywordEach [] X.env)).all (fun x=>x.1.isSome)
   && decide ([e].length+([]:List Keyword).length+(if ([]:List Keyword).isEmpty then 0 else 1)<30))=true:=by rfl)
  (hline:(apos.endLine==cpos.line)=true:=by rfl) (hs:starEach [e] X.env=(false,eval e X.env)::starEach [] X.env:=by rfl) (hplain:(backTo cpos (starEach [] X.env)).any (·.1)=false:=by rfl)
  (hsw:swapsWith (.Call (.Attribute (.Name x np) "append" apos) [e] [] cpos) none spos.line X.env=pure false:=by rfl) :
  DS X E (.Expr (.Call (.Attribute (.Name x np) "append" apos) [e] [] cpos) spos) (Zgf (tBM X.K "list" Zfh (tVar i) (Zek te tNil))) (app i me) :=
 ⟨Zf2 (Ztx PySem.F.plainAttrs_list PySem.F.slot_list_append PySem.F.type_list_append ZlI (Ziv hN hv hd hcd) (Zen he.p Ziw hs) hbase hfew hline hs hplain) hsw,
  ZrO he.s fun H a xs h=>.inl ⟨rfl,xs,SqL.of h⟩⟩
end
end L2.Ds
namespace L2
open PySem PySem.Spec PyProof.Rows PySem.Calls
end L2
namespace L2.Ds
open PySem PySem.Spec PyProof.Rows Dl
section
variable{K:W.Frag}{mg:Str→Option Value}
def del(F:Hp)(a:Addr):Hp:=fun b=>if b=a then none else F b
theorem ZgV{F:Hp}{a:Addr}:del F a a=none:=if_pos rfl
theorem ZeO{F:Hp}{a b:Addr}(h:b≠a):del F a b=F b:=if_neg h
theorem Rep.look{F0 H0 F H:Hp}{σ:St}{ρ:Ev}{i:Nat}{ds:List D}(r:Rep K mg F0 H0 F H σ ρ)(e:ρ[i]?=some (.ow ds)) :
  ∃F',Rep K mg F0 H0 F' H σ (ρ.set i (.im (.lst ds)))∧∀F1 H1,Gr F' H F1 H1→∃F2,Gr F H F2 H1:=by
 obtain ⟨a,xs,e2,e4,e5,e3,hr⟩:=r.ow i ds e
 have sF:Same F (upd F a (.lst xs)):=ZaA e5 _
 refine ⟨upd F a (.lst xs),⟨⟨r.g.f.trans sF,fun b o q=>?_,fun b o q1 q2=>?_⟩,by rw [VbE];exact r.len,fun j u q=>?_,fun j es q=>?_,fun j k es ts b q1 q2 q3 q4=>?_⟩,fun F1 H1 g=>⟨del F1 a,⟨fun b o q=>?_,fun b o q=>?_,fun b o q1 q2=>?_⟩⟩⟩
 ·by_cases hb:b=a
  ·subst hb;rw [Zag] at q;cases q;exact e3
  ·rw [Zaf hb] at q;exact r.g.s b o q
 ·rw [Zaf (Zae q2 e4)];exact r.g.o b o q1 q2
 ·rcases ZaD q with ⟨rfl,z,_⟩ | ⟨_,q⟩
  ·cases z
   exact ⟨.ref a,e2,.lst (SqL.of Zag) (hr.same sF)⟩
  ·obtain ⟨x,h1,h2⟩:=r.im j u q
   exact ⟨x,h1,h2.same sF⟩
 ·rcases ZaD q with ⟨_,z,_⟩ | ⟨hij,q⟩
  ·cases z
  ·obtain ⟨b,ys,h1,h2,h3,h4,h5⟩:=r.ow j es q
   have nb:b≠a:=by
    rintro rfl
    exact hij (r.ne i j ds es b e q e2 h1)
   exact ⟨b,ys,h1,h2,by rw [Zaf nb];exact h3,h4,h5.same sF⟩
 ·rcases ZaD q1 with ⟨_,z,_⟩ | ⟨_,q1⟩
  ·cases z
  ·rcases ZaD q2 with ⟨_,z,_⟩ | ⟨_,q2⟩
   ·cases z
   ·exact r.ne j k es ts b q1 q2 q3 q4
 ·rw [ZeO (Zae q e5)];exact g.f b o (sF b o q)
 ·by_cases hb:b=a
  ·subst hb;rw [ZgV] at q;cases q
  ·rw [ZeO hb] at q;exact g.s b o q
 ·by_cases hb:b=a
  ·subst hb
   rw [e3] at q2;cases q2
   exact ⟨ZgV,g.s _ _ (g.f _ _ Zag)⟩
  ·rw [ZeO hb]
   exact g.o b o (by rw [Zaf hb];exact q1) q2
theorem Zqv{F F':Hp}{x:V}{d d':D}(r:Rp K mg F x d)(e:Zh6 d=.ok d'):Rp K mg F' x d':=by
 cases r with
 | non=>cases e;exact .non
 | bl b=>cases e;exact .bl b
 | int b=>cases e;exact .int b
 | str b=>cases e;exact .str b
 | _=>cases e
theorem Zqp{d:D}{c:Str}:Zh6 d≠.ex c:=by cases d<;>intro h<;>cases h
theorem Zub{E:XK}{t:TE}{m:ME}(i:Nat)(h:SE K mg E t m):SE K mg E t (pk i m):=by
 intro F0 H0 F H σ ρ rr
 unfold pk getO
 split
 ·next ds e =>
  obtain ⟨F',r',back⟩:=rr.look e
  have z:=h F0 H0 F' H σ _ r'
  show Ans mg E (Rp K mg) F H ((m (ρ.set i (.im (.lst ds)))).bind Zh6) _
  cases em:m (ρ.set i (.im (.lst ds))) with
  | ok d =>
   rw [em] at z
   show Ans mg E (Rp K mg) F H (Zh6 d) _
   cases es:Zh6 d with
   | ok d' =>
    exact fun Q q=>z Q fun F1 H1 b g1 rb=>by
     obtain ⟨F2,g2⟩:=back F1 H1 g1
     exact q F2 H1 b g2 (Zqv rb es)
   | ex c=>exact absurd es Zqp
   | bad=>trivial
  | ex c =>
   rw [em] at z
   exact fun Q q=>z Q fun F1 H1 C g1 hC=>by
    obtain ⟨F2,g2⟩:=back F1 H1 g1
    exact q F2 H1 C g2 hC
  | bad=>trivial
 ·trivial
theorem Zu1{E:XK}{t:TT}{m:MB}(i:Nat)(h:STt K mg E t m):STt K mg E t (pkB i m):=by
 intro F0 H0 F H σ ρ rr
 unfold pkB getO
 split
 ·next ds e =>
  obtain ⟨F',r',back⟩:=rr.look e
  have z:=h F0 H0 F' H σ _ r'
  show Ans mg E RB F H (m (ρ.set i (.im (.lst ds)))) _
  cases em:m (ρ.set i (.im (.lst ds))) with
  | ok d =>
   rw [em] at z
   exact fun Q q=>z Q fun F1 H1 b g1 rb=>by
    obtain ⟨F2,g2⟩:=back F1 H1 g1
    exact q F2 H1 b g2 rb
  | ex c =>
   rw [em] at z
   exact fun Q q=>z Q fun F1 H1 C g1 hC=>by
    obtain ⟨F2,g2⟩:=back F1 H1 g1
    exact q F2 H1 C g2 hC
  | bad=>trivial
 ·trivial
end
section
variable{X:Cx}{E:XK}{k l i j:Nat}{x y:Str}{Cy:Addr}{ps:List Str}{f:List D→Res D}{t:TA}{m:MA}{u:Addr→TS}{b:MS}{e:Expr}{es:List Expr}{p yp cpos epos hpos pos:Pos}{b₀:Stmt}{suite:List Stmt}{hits:List Str}{te:TE}{me:ME}{tt:TT}{mt:MB}
theorem d_pk(i:Nat)(h:DE X E e te me):DE X E e te (pk i me):=⟨h.p,Zub i h.s⟩
theorem ZuZ(i:Nat)(h:DT X E e tt mt):DT X E e tt (pkB i mt):=⟨h.p,Zu1 i h.s⟩
end
section
variable{X:Cx}{pins:List (Addr×Obj)}{σ:St}{H:Hp}{s:Shared}
mutual
theorem ZoB(I:Inv X pins σ H s):∀{x:V} {d d':PyData},DV X.K H x d→DV X.K H x d'→d=d'
 | _,_,_,.non,.non=>rfl
 | _,_,_,.bl _,.bl _=>rfl
 | _,_,_,.int _,.int _=>rfl
 | _,_,_,.str _,.str _=>rfl
 | _,_,_,.tup h q,.tup h' q'=>by
  have e:=I.tuple_inj h h'
  subst e
  rw [ZiT I q q']
 | _,_,_,.lst h q,.lst h' q'=>by
  have e:=I.list_inj h h'
  subst e
  rw [ZiT I q q']
 | _,_,_,.tup h q,.lst h' q'=>by
  obtain ⟨_,_,⟨o,e1,e2,_⟩,_⟩:=I.tuple h
  obtain ⟨_,_,⟨o',_,e1',e2',_⟩,_⟩:=I.list h'
  rw [e1] at e1';cases e1'
  rw [e2] at e2';simp at e2'
 | _,_,_,.lst h q,.tup h' q'=>by
  obtain ⟨_,_,⟨o,e1,e2,_⟩,_⟩:=I.tuple h'
  obtain ⟨_,_,⟨o',_,e1',e2',_⟩,_⟩:=I.list h
  rw [e1] at e1';cases e1'
  rw [e2] at e2';simp at e2'
theorem ZiT(I:Inv X pins σ H s):∀{xs:List V} {ds ds':List PyData},DVs X.K H xs ds→DVs X.K H xs ds'→ds=ds'
 | _,_,_,.nil,.nil=>rfl
 | _,_,_,.cons h r,.cons h' r'=>by rw [ZoB I h h',ZiT I r r']
end
def hitE(X:Cx)(H:Hp)(dx:PyData)(u:Value):Bool:=@decide (∃y d,RelV y u∧DV X.K H y d∧PyData.eqv d dx=true) (Classical.propDecidable _)
theorem ZlJ(I:Inv X pins σ H s){dx d:PyData}{u:Value}{y:V}(r:RelV y u)(h:DV X.K H y d):hitE X H dx u=PyData.eqv d dx:=by
 unfold hitE
 cases e:PyData.eqv d dx with
 | true=>exact @Vbm _ (Classical.propDecidable _) ⟨y,d,r,h,e⟩
 | false =>
  refine @Vab _ (Classical.propDecidable _) ?_
  rintro ⟨y',d',r',h',e'⟩
  have ey:=r.inj r'
  subst ey
  rw [ZoB I h h',e'] at e
  cases e
theorem ZiU(I:Inv X pins σ H s){dx:PyData}:∀{ys:List V} {its:List Value} {ds:List PyData},Vals ys its→DVs X.K H ys ds→its.any (hitE X H dx)=ds.any fun d=>PyData.eqv d dx
 | _,_,_,.nil,.nil=>rfl
 | _,_,_,.cons r1 r2,.cons h1 h2=>by rw [VbL,VbL,ZiU I r2 h2,ZlJ I r1 h1]
theorem Zoq(I:Inv X pins σ H s):∀{ys:List V} {its:List Value} {ds:List PyData} {u:Value},Vals ys its→DVs X.K H ys ds→PyData.canLayAll0 ds=true→u∈its→∃y d,RelV y u∧DV X.K H y d∧d.canLay0=true
 | _,_,_,_,.nil,.nil,_,hu=>by cases hu
 | _,_,_,u,.cons r1 r2,.cons h1 h2,hc,hu=>by
  have hc':=(show PyData.canLay0 _=true∧PyData.canLayAll0 _=true by simpa [PyData.canLayAll0] using hc)
  rcases Vaq.mp hu with rfl | hu
  ·exact ⟨_,_,r1,h1,hc'.1⟩
  ·exact Zoq I r2 h2 hc'.2 hu
def rInD(K:W.Frag)(f:Bool→Bool):R2:=fun x y H Q=>∃a ys dx dys,y=.ref a∧(SqL K H a ys∨SqT K H a ys)∧DV K H x dx∧DVs K H ys dys∧dx.canLay0=true∧PyData.canLayAll0 dys=true∧dx.depth≤50∧Q (.bl (f (dys.any fun d=>PyData.eqv d dx))) H
end
section
variable{X:Cx}{E:XK}
theorem Zpe(hu:X.A.units+64<cLine):OpR X (compareOp .NotIn) (rInD X.K not):=by
 intro pins s σ H x y v u Q I rx ry h
 obtain ⟨a,ys,dx,dys,rfl,hq,h1,h2,h3,h4,h5,q⟩:=h
 cases ry
 obtain ⟨bs,rb⟩:=h1.reads I rx
 have eq:∀{its:List Value},Vals ys its→∀u,u∈its.toArray→PySem.SeqAt.EqAt X.A.in1 s u v (hitE X H dx u):=fun {its} rv u hm=>by
  obtain ⟨y',d',r',h',c'⟩:=Zoq I rv h2 h4 (by simpa using hm)
  obtain ⟨as,ra⟩:=h'.reads I r'
  rw [ZlJ I r' h']
  exact PySem.SeqAt.eqAt_reads d' dx X.A.in1 s u v as bs ra rb c' h3 (by show X.A.units+1+_<_;omega)
 rcases hq with hq | hq
 ·obtain ⟨its,rv,pl,hz⟩:=I.list hq
  refine PySem.SeqAt.notIn_listAt (hitE X H dx) pl.isList (eq rv) ?_
  have e:its.toArray.any (hitE X H dx)=dys.any fun d=>PyData.eqv d dx:=by rw [List.any_toArray];exact ZiU I rv h2
  rw [e]
  exact ⟨.bl _,H,I,rfl,q⟩
 ·obtain ⟨its,rv,pl,hz⟩:=I.tuple hq
  refine PySem.SeqAt.notIn_tupleAt (hitE X H dx) (show s.heap.IsTuple a its.toArray from pl) (eq rv) ?_
  have e:its.toArray.any (hitE X H dx)=dys.any fun d=>PyData.eqv d dx:=by rw [List.any_toArray];exact ZiU I rv h2
  rw [e]
  exact ⟨.bl _,H,I,rfl,q⟩
theorem Zoy(x:D)(k:Nat)(hx:Dl.plain k x=true):∀(ys:List D) (l:Nat),Dl.Zap l ys=true→((pyDs ys).any fun d=>PyData.eqv d (pyD x))=inD x ys
 | [],_,_=>rfl
 | y::r,l,h=>by
  have h':Dl.plain l y=true∧Dl.Zap l r=true:=by simpa [Dl.Zap] using h
  show (PyData.eqv (pyD y) (pyD x)||(pyDs r).any _)=(eqD y x||inD x r)
  rw [Zoy x k hx r l h'.2,←Zjv y x l k h'.1 hx]
theorem ZpX{K:W.Frag}{mg:Str→Option Value}{f:Bool→Bool}{E:XK}{F H:Hp}{x y:V}{dx dy:D}(s:Same F H)(rx:Rp K mg F x dx)(ry:Rp K mg F y dy) :
  Ans mg E (Rp K mg) F H ((seqD dy).bind fun ys=>if Dl.plain 50 dx&&Dl.Zap 50 ys then .ok (.bl (f (inD dx ys))) else .bad) (rInD K f x y H):=by
 have fin:∀(a:Addr) (ws:List V) (ys:List D),y=.ref a→(SqL K H a ws∨SqT K H a ws)→Rps K mg F ws ys→Ans mg E (Rp K mg) F H (if Dl.plain 50 dx&&Dl.Zap 50 ys then .ok (.bl (f (inD dx ys))) else .bad) (rInD K f x y H):=by
  rintro a ws ys rfl hq rs
  by_cases hp:(Dl.plain 50 dx&&Dl.Zap 50 ys)=true
  ·rw [if_pos hp]
   rw [Vbh] at hp
   obtain ⟨c1,c2⟩:=ZdR dx 50 hp.1
   obtain ⟨c3,_⟩:=ZeK ys 50 hp.2
   refine Ans.ret s (.bl _) fun Q q=>⟨a,ws,pyD dx,pyDs ys,rfl,hq,Ze3 s (ZkF rx hp.1),ZfL s (ZhD rs hp.2),c1,c3,c2,?_⟩
   rw [Zoy dx 50 hp.1 ys 50 hp.2]
   exact q
  ·rw [if_neg hp];trivial
 cases dy with
 | lst ys =>
  cases ry with
  | lst h r=>exact fin _ _ ys rfl (.inl (s.seq h)) r
 | tup ys =>
  cases ry with
  | tup h r=>exact fin _ _ ys rfl (.inr (ZaE s h)) r
 | _=>trivial
theorem Zqx{K:W.Frag}{mg:Str→Option Value}:OpD K mg (rInD K not) dNin:=fun _ _ _ _ _ _ _ s rx ry=>ZpX (f:=not) s rx ry
variable{a b:Expr}{ta tb:TE}{ma mb:ME}{pos:Pos}
theorem ZlC{k:Nat}(hr:Room k X.A)(ha:DE X E a ta ma)(hb:DE X E b tb mb)(hm:behindInMarks .NotIn b=false:=by rfl):DT X E (.Compare a [.NotIn] [b] pos) (ZfE (tOp (rInD X.K not) ta tb)) (trb (o2 dNin ma mb)):=Zf3 (Zpe hr.units) Zqx ha hb hm
end
end L2.Ds
namespace Dl
open PySem
def bAny:List D→Res D
 | [d]=>match d with
  | .lst xs=>(bools xs).bind fun bs=>.ok (.bl (bs.any id))
  | _=>.bad
 | _=>.bad
def trips:List D→List D→List D→List D
 | x::xs,y::ys,z::zs=>.tup [x,y,z]::trips xs ys zs
 | _,_,_=>[]
def zip3:List D→Res (List D)
 | [x,y,z]=>(seqD x).bind fun xs=>(seqD y).bind fun ys=>(seqD z).bind fun zs=>.ok (trips xs ys zs)
 | _=>.bad
def lz3(ds:List D):Res D:=(zip3 ds).bind fun xs=>.ok (.lst xs)
end Dl
namespace L2.Ds
open PySem PySem.Spec PyProof.Rows Dl
section
variable{K:W.Frag}{mg:Str→Option Value}{E:XK}{ta tb te:TE}{ma mb me:ME}{F0 H0 F H:Hp}
theorem Rep.put{σ:St}{ρ:Ev}{i:Nat}{ds es:List D}{a:Addr}{xs ys:List V}(r:Rep K mg F0 H0 F H σ ρ)(e:ρ[i]?=some (.ow ds))(e2:σ[i]?=some (some (.ref a)))(e3:H a=some (.lst xs))(e4:H0 a=none)(e5:F a=none)(hr:Rps K mg F ys es) :
  Rep K mg F0 H0 F (upd H a (.lst ys)) σ (ρ.set i (.ow es)):=by
 refine ⟨⟨r.g.f,fun b o q=>?_,fun b o q1 q2=>?_⟩,by rw [VbE];exact r.len,fun j u q=>?_,fun j es q=>?_,fun j k es ts b q1 q2 q3 q4=>?_⟩
 ·rw [Zaf (Zae q e5)];exact r.g.s b o q
 ·rw [Zaf (Zae q2 e4)];exact r.g.o b o q1 q2
 ·rcases ZaD q with ⟨_,z,_⟩ | ⟨_,q⟩
  ·cases z
  ·exact r.im j u q
 ·rcases ZaD q with ⟨rfl,z,l⟩ | ⟨hij,q⟩
  ·cases z
   exact ⟨a,_,e2,e4,e5,Zag,hr⟩
  ·obtain ⟨b,ys,h1,h2,h3,h4,h5⟩:=r.ow j es q
   have nb:b≠a:=by
    rintro rfl
    exact hij (r.ne i j ds es b e q e2 h1)
   exact ⟨b,ys,h1,h2,h3,by rw [Zaf nb];exact h4,h5⟩
 ·have o1:∃es',ρ[j]?=some (.ow es'):=by
   rcases ZaD q1 with ⟨rfl,_,_⟩ | ⟨_,q⟩
   ·exact ⟨_,e⟩
   ·exact ⟨_,q⟩
  have o2:∃es',ρ[k]?=some (.ow es'):=by
   rcases ZaD q2 with ⟨rfl,_,_⟩ | ⟨_,q⟩
   ·exact ⟨_,e⟩
   ·exact ⟨_,q⟩
  obtain ⟨_,o1⟩:=o1
  obtain ⟨_,o2⟩:=o2
  exact r.ne j k _ _ b o1 o2 q3 q4
end
section
variable{X:Cx}{E:XK}
theorem any_range:∀bs:List Bool,((List.range bs.length).any fun i=>bs.getD i false)=bs.any id
 | []=>rfl
 | b::r=>by
  rw [VaL,List.range_succ_eq_map,VbL,List.any_map,VbL,←any_range r]
  rfl
def rAny(K:W.Frag):List V→Hp→VK→Prop:=fun xs H Q=>∃(a:Addr) (bs:List Bool),xs=[.ref a]∧SqL K H a (bs.map V.bl)∧Q (.bl (bs.any id)) H
theorem ZlN(hc:X.calm=true):Zej X (.builtin "any") (rAny X.K):=by
 intro pins s σ H xs us Q I r h
 obtain ⟨a,bs,rfl,hq,q⟩:=h
 obtain ⟨u,rfl,r1⟩:=vals1 r
 cases r1
 obtain ⟨its,rv,pl,hz⟩:=I.list hq
 obtain rfl:=Zfa bs its rv
 have la:a<s.heap.objs.size:=by
  obtain ⟨o,_,ho,_⟩:=pl
  exact Vad ho
 refine call_any_walk (Vbv pl.isList ?_)
 refine ⟨s.heap.objs.size,_,_,_,_,_,fun i=>bs.getD i false,rfl,Walks.list (A:=X.A.in1) (I.ok.hd hc) s.heap.objs.size a (Vag la) (bs.map Value.bool).toArray,⟨⟨_,VaE _ rfl,rfl,rfl⟩,?_⟩,?_,fun h' tk k=>?_⟩
 ·exact pl.isList.at fun o e=>VaD _ e
 ·intro i v s2 Q2 E2 hP hQ
  have e:v=.bool (bs.getD i false):=by
   rw [List.getElem?_toArray,Va2] at hP
   cases q:bs[i]? with
   | none=>rw [q] at hP;cases hP
   | some b =>
    rw [q] at hP
    cases hP
    rw [List.getD_eq_getElem?_getD,q];rfl
  subst e
  exact VaB hQ
 ·have e:(List.range (bs.map Value.bool).toArray.size).any (fun i=>bs.getD i false)=bs.any id:=by
   rw [Va6,VaN];exact any_range bs
  rw [e]
  exact ⟨.bl (bs.any id),H,I.kept fun b o z=>k b o (by simp;exact Vag (Vad z)) (VaD _ z),rfl,q⟩
theorem Zlr{K:W.Frag}{mg:Str→Option Value}:CallD K mg (rAny K) bAny:=by
 intro E F H xs ds s r
 unfold bAny
 split
 ·next d =>
  obtain ⟨x,rfl,rx⟩:=r.one
  cases d with
  | lst es =>
   cases rx with
   | lst h rs =>
    show Ans mg E (Rp K mg) F H ((bools es).bind fun bs=>.ok (.bl (bs.any id))) _
    cases q:bools es with
    | ok bs =>
     have e:=Zhs rs q
     subst e
     exact Ans.ret s (.bl _) fun Q z=>⟨_,bs,rfl,s.seq h,z⟩
    | ex c=>exact absurd q (ZhL es)
    | bad=>trivial
  | _=>trivial
 ·trivial
theorem ZsG:bootBuiltins "any"=some (.builtin "any"):=by decide +kernel
end
end L2.Ds
namespace L2
open PySem PySem.Spec PyProof.Rows
abbrev Z3(h:Heap)(z TI TO:Addr)(f0 f1:Value):Prop:=h.get? z=some { cls:=.type "zip", dict:=none,data:=.fields #[f0,f1,.bool false,.ref TI,.ref TO],slots:=#[] }
abbrev Tr(h:Heap)(T:Addr)(a b c:Value):Prop:=h.get? T=some { cls:=.type "tuple", data:=.seq #[a,b,c] }
def Mk3(f0:Value):Prop:=f0=.none∨∃T:Nat,f0=rawInt T
structure Ap3(z TI TO i1 i2 i3 l1 l2 l3:Addr):Prop where
 o1:@LT.lt Nat _ i1 i2
 o2:@LT.lt Nat _ i2 i3
 o3:@LT.lt Nat _ i3 TI
 o4:@LT.lt Nat _ TI TO
 o5:@LT.lt Nat _ TO z
 a1:@LT.lt Nat _ l1 i1
 a2:@LT.lt Nat _ l2 i1
 a3:@LT.lt Nat _ l3 i1
theorem nelt{a b:Nat}(h:a<b∨b<a):a≠b:=by omega
local macro_rules | `(tactic| walk_at "nl")=>`(tactic| first | exact Nat.ne_of_gt (by assumption) | exact Nat.ne_of_lt (by assumption))
section
variable{prog:Program}{w:World}{A:Around}{E:Value→Shared→Prop}{s:Shared}
theorem Zio{T:Addr}{a b c x:Value}{k:Nat}{Q:Unit→Shared→Prop}(kT:Tr s.heap T a b c)
  (h:∀h',h'.get? T=some { cls:=.type "tuple", data:=.seq ((#[a,b,c]:Array Value).setIfInBounds k x) }→Heap.SameBut T s.heap h'→Q () { s with heap:=h' }) :
  wpAny (model prog w) A (updateSeq T (·.setIfInBounds k x)) Q E s:=by
 refine VbM kT rfl (h _ ?_ (VbB ..))
 rw [VbC _ kT rfl]
 simp [Obj.mapSeq]
theorem ZnN{a:Addr}{Q:Option Obj→Shared→Prop}(h:Q (s.heap.get? a) s):wpAny (model prog w) A (loadIfAlive a) Q E s:=fun Γ p _=>by
 show PySem.Sem.wp _ Γ (Sem.loadIfAlive a fun x=>.pure x) _ _ p s
 rw [PySem.Sem.wp_loadIfAlive]
 exact h
theorem Zko{z TI TO:Addr}{f0 f1:Value}{Q:Bool→Shared→Prop}(kz:Z3 s.heap z TI TO f0 f1)(kf:Mk3 f0)(h1:Q true s)(h2:∀h' f,Z3 h' z TI TO f0 f→Heap.SameBut z s.heap h'→Q false { s with heap:=h' }) :
  wpAny (model prog w) A (Builtin.SmallTypes.ownedTupleIsFree (.ref z)) Q E s:=by
 unfold Builtin.SmallTypes.ownedTupleIsFree
 refine VaC (Va9 kz rfl (x:=f0) rfl ?_)
 rcases kf with rfl | ⟨T,rfl⟩
 ·exact VaB h1
 ·refine VaC (ZnN ?_)
  split
  ·exact VaB h1
  ·refine VaC (Va9 kz rfl (x:=f1) rfl ?_)
   split
   ·refine VaC (VbN kz (by simp) fun g kg ks=>VaB (h2 g _ kg ks))
   ·exact VaB (h2 s.heap f1 kz (Heap.SameBut.refl ..))
theorem Zp3{p q r:Bool}{z TI TO i1 i2 i3 l1 l2 l3:Addr}{k:Nat}{us vs ws:Array Value}{x y u a b c f0 f1:Value}{Q:Value→Shared→Prop}(D:Ap3 z TI TO i1 i2 i3 l1 l2 l3)
  (kz:Z3 s.heap z TI TO f0 f1) (kf:Mk3 f0) (kTI:Tr s.heap TI (.ref i1) (.ref i2) (.ref i3)) (kTO:Tr s.heap TO a b c)
  (m1:ItK p s.heap i1 l1 k) (m2:ItK q s.heap i2 l2 k) (m3:ItK r s.heap i3 l3 k) (n1:SqK p s.heap l1 us) (n2:SqK q s.heap l2 vs) (n3:SqK r s.heap l3 ws) (kx:us[k]?=some x) (ky:vs[k]?=some y) (ku:ws[k]?=some u)
  (kQ:∀h' f0' f1',Z3 h' z TI TO f0' f1'→Mk3 f0'→(∃a b c,Tr h' TO a b c)→ItK p h' i1 l1 (k+1)→ItK q h' i2 l2 (k+1)→ItK r h' i3 l3 (k+1)→Tr h' s.heap.objs.size x y u →
   (∀c o,c≠z→c≠TO→c≠i1→c≠i2→c≠i3→s.heap.get? c=some o→h'.get? c=some o)→Q (.ref s.heap.objs.size) { s with heap:=h' }) :
  wpAny (model prog w) A (Builtin.«zip.__next__» ⟨[.ref z],[]⟩) (fun fin s'=>∃v,fin=.done (.ret v)∧Q v s') E s:=by
 obtain ⟨o1,o2,o3,o4,o5,a1,a2,a3⟩:=D
 have x1:=Nat.lt_trans o1 o2;have x2:=Nat.lt_trans o3 o4;have x3:=Nat.lt_trans o2 x2;have x4:=Nat.lt_trans o1 x3;have y1:=Nat.lt_trans x2 o5;have y2:=Nat.lt_trans x3 o5;have y3:=Nat.lt_trans x4 o5
 have b1:=Nat.lt_trans a1 o1;have c1:=Nat.lt_trans a1 x1;have d1:=Nat.lt_trans a1 x4;have e1:=Nat.lt_trans a1 y3
 have b2:=Nat.lt_trans a2 o1;have c2:=Nat.lt_trans a2 x1;have d2:=Nat.lt_trans a2 x4;have e2:=Nat.lt_trans a2 y3
 have b3:=Nat.lt_trans a3 o1;have c3:=Nat.lt_trans a3 x1;have d3:=Nat.lt_trans a3 x4;have e3:=Nat.lt_trans a3 y3
 show wpAny _ _ (field (.ref z) 2 >>= _) _ _ _
 refine VaC (Va9 kz rfl (x:=.bool false) rfl ?_)
 show wpAny _ _ (field (.ref z) 3 >>= _) _ _ _
 refine VaC (Va9 kz rfl (x:=.ref TI) rfl ?_)
 refine VaC (Vbz kTI rfl ?_)
 show wpAny _ _ (Builtin.SmallTypes.ownedTupleIsFree (.ref z) >>= _) _ _ _
 refine VaC (Zko kz kf ?_ fun g₁ f kz₁ ks₁=>?_)
 ·simp only [Va8]
  refine VaC (wpAny_rule ?_)
  refine VaC (Va9 kz rfl (x:=.ref TO) rfl ?_)
  refine VaC (VbN kz (by simp) fun g₁ kz₁ ks₁=>?_)
  replace kz₁:Z3 g₁ z TI TO .ellipsis f1:=kz₁
  refine VaC ?_
  simp only [List.zipIdx_cons,List.zipIdx_nil,Vbo,Vbp]
  refine VaC (VaC (VbO ?_))
  show wpAny _ _ (Builtin.SmallTypes.nextOf (.ref i1) >>= _) _ _ _
  refine VaC (Za1 (m1.extBut ks₁.extBut (by walk_at "nl")) (n1.extBut ks₁.extBut (by walk_at "nl")) kx fun g₂ m1₂ ks₂=>VaB ?_)
  have kT₂:Tr g₂ TO a b c:=ks₂.extBut _ _ (by walk_at "nl") (ks₁.extBut _ _ (by walk_at "nl") kTO)
  refine VaC (Vbz kT₂ rfl ?_)
  refine VaC (Zio kT₂ fun g₃ kT₃ ks₃=>?_)
  replace kT₃:Tr g₃ TO x b c:=kT₃
  refine VaC (wpAny_letGo (VaB ?_))
  refine VaC (VaC (VbO ?_))
  show wpAny _ _ (Builtin.SmallTypes.nextOf (.ref i2) >>= _) _ _ _
  refine VaC (Za1 (((m2.extBut ks₁.extBut (by walk_at "nl")).extBut ks₂.extBut (by walk_at "nl")).extBut ks₃.extBut (by walk_at "nl")) (((n2.extBut ks₁.extBut (by walk_at "nl")).extBut ks₂.extBut (by walk_at "nl")).extBut ks₃.extBut (by walk_at "nl")) ky fun g₄ m2₄ ks₄=>VaB ?_)
  have kT₄:Tr g₄ TO x b c:=ks₄.extBut _ _ (by walk_at "nl") kT₃
  refine VaC (Vbz kT₄ rfl ?_)
  refine VaC (Zio kT₄ fun g₅ kT₅ ks₅=>?_)
  replace kT₅:Tr g₅ TO x y c:=kT₅
  refine VaC (wpAny_letGo (VaB ?_))
  refine VaC (VaC (VbO ?_))
  show wpAny _ _ (Builtin.SmallTypes.nextOf (.ref i3) >>= _) _ _ _
  refine VaC (Za1 (((((m3.extBut ks₁.extBut (by walk_at "nl")).extBut ks₂.extBut (by walk_at "nl")).extBut ks₃.extBut (by walk_at "nl")).extBut ks₄.extBut (by walk_at "nl")).extBut ks₅.extBut (by walk_at "nl")) (((((n3.extBut ks₁.extBut (by walk_at "nl")).extBut ks₂.extBut (by walk_at "nl")).extBut ks₃.extBut (by walk_at "nl")).extBut ks₄.extBut (by walk_at "nl")).extBut ks₅.extBut (by walk_at "nl")) ku fun g₆ m3₆ ks₆=>VaB ?_)
  have kT₆:Tr g₆ TO x y c:=ks₆.extBut _ _ (by walk_at "nl") kT₅
  refine VaC (Vbz kT₆ rfl ?_)
  refine VaC (Zio kT₆ fun g₇ kT₇ ks₇=>?_)
  replace kT₇:Tr g₇ TO x y u:=kT₇
  refine VaC (wpAny_letGo (VaB (VaB ?_)))
  refine VaC (Vbz kT₇ rfl ?_)
  refine VaC (wpAny_newTuple ?_)
  have sz:g₇.objs.size=s.heap.objs.size:=by rw [ks₇.1,ks₆.1,ks₅.1,ks₄.1,ks₃.1,ks₂.1,ks₁.1]
  have kz₇:Z3 g₇ z TI TO .ellipsis f1:=ks₇.extBut _ _ (by walk_at "nl") (ks₆.extBut _ _ (by walk_at "nl") (ks₅.extBut _ _ (by walk_at "nl") (ks₄.extBut _ _ (by walk_at "nl") (ks₃.extBut _ _ (by walk_at "nl") (ks₂.extBut _ _ (by walk_at "nl") kz₁)))))
  have keep:∀c o,c≠z→c≠TO→c≠i1→c≠i2→c≠i3→s.heap.get? c=some o→g₇.get? c=some o:=fun c o c1 c2 c3 c4 c5 e =>
   ks₇.extBut _ _ c2 (ks₆.extBut _ _ c5 (ks₅.extBut _ _ c2 (ks₄.extBut _ _ c4 (ks₃.extBut _ _ c2 (ks₂.extBut _ _ c3 (ks₁.extBut _ _ c1 e))))))
  have q1:ItK p g₇ i1 l1 (k+1):=((((m1₂.extBut ks₃.extBut (by walk_at "nl")).extBut ks₄.extBut (by walk_at "nl")).extBut ks₅.extBut (by walk_at "nl")).extBut ks₆.extBut (by walk_at "nl")).extBut ks₇.extBut (by walk_at "nl")
  have q2:ItK q g₇ i2 l2 (k+1):=((m2₄.extBut ks₅.extBut (by walk_at "nl")).extBut ks₆.extBut (by walk_at "nl")).extBut ks₇.extBut (by walk_at "nl")
  have q3:ItK r g₇ i3 l3 (k+1):=m3₆.extBut ks₇.extBut (by walk_at "nl")
  have zlt:z<g₇.objs.size:=Vad kz₇
  show wpAny _ _ (Builtin.SmallTypes.ownedTupleHandOut (.ref z) (.ref g₇.objs.size) >>= _) _ _ _
  refine VaC ?_
  unfold Builtin.SmallTypes.ownedTupleHandOut
  have kz₈:Z3 (g₇.push { cls:=.type "tuple", data:=.seq #[x,y,u] }) z TI TO .ellipsis f1:=VaD _ kz₇
  refine VaC (VbN kz₈ (by simp) fun g₉ kz₉ ks₉=>?_)
  replace kz₉:Z3 g₉ z TI TO (rawInt g₇.objs.size) f1:=kz₉
  refine VbN kz₉ (by simp) fun gA kzA ksA=>?_
  replace kzA:Z3 gA z TI TO (rawInt g₇.objs.size) (.bool false):=kzA
  have up:∀c o,c≠z→g₇.get? c=some o→gA.get? c=some o:=fun c o c1 e=>ksA.extBut _ _ c1 (ks₉.extBut _ _ c1 (VaD _ e))
  have kTA:Tr gA g₇.objs.size x y u:=ksA.extBut _ _ (VaA zlt) (ks₉.extBut _ _ (VaA zlt) (VaE _ rfl))
  rw [sz] at kTA
  refine VaB ⟨_,rfl,?_⟩
  show Q (.ref g₇.objs.size) _
  rw [sz]
  exact kQ gA _ _ kzA (.inr ⟨_,rfl⟩) ⟨_,_,_,up _ _ (by walk_at "nl") kT₇⟩ (q1.at fun o e=>up _ o (by walk_at "nl") e) (q2.at fun o e=>up _ o (by walk_at "nl") e) (q3.at fun o e=>up _ o (by walk_at "nl") e) kTA fun c o c1 c2 c3 c4 c5 e=>up c o c1 (keep c o c1 c2 c3 c4 c5 e)
 ·simp only [Vbu,Va7]
  rw [←VbP]
  simp only [Vbo,Vbp]
  refine VaC (VaC (VaC (Vbc ?_)))
  show wpAny _ _ (Builtin.SmallTypes.nextOf (.ref i1) >>= _) _ _ _
  refine VaC (Za1 (m1.extBut ks₁.extBut (by walk_at "nl")) (n1.extBut ks₁.extBut (by walk_at "nl")) kx fun g₂ m1₂ ks₂=>VaB (VaB ?_))
  refine VaC (VaC (Vbc ?_))
  show wpAny _ _ (Builtin.SmallTypes.nextOf (.ref i2) >>= _) _ _ _
  refine VaC (Za1 ((m2.extBut ks₁.extBut (by walk_at "nl")).extBut ks₂.extBut (by walk_at "nl")) ((n2.extBut ks₁.extBut (by walk_at "nl")).extBut ks₂.extBut (by walk_at "nl")) ky fun g₃ m2₃ ks₃=>VaB (VaB ?_))
  refine VaC (VaC (Vbc ?_))
  show wpAny _ _ (Builtin.SmallTypes.nextOf (.ref i3) >>= _) _ _ _
  refine VaC (Za1 (((m3.extBut ks₁.extBut (by walk_at "nl")).extBut ks₂.extBut (by walk_at "nl")).extBut ks₃.extBut (by walk_at "nl")) (((n3.extBut ks₁.extBut (by walk_at "nl")).extBut ks₂.extBut (by walk_at "nl")).extBut ks₃.extBut (by walk_at "nl")) ku fun g₄ m3₄ ks₄=>VaB (VaB (VaB ?_)))
  refine VaC (wpAny_newTuple (hsz:=show (3:Nat)≤sizeLine by decide) (VaB ⟨_,rfl,?_⟩))
  have sz:g₄.objs.size=s.heap.objs.size:=by rw [ks₄.1,ks₃.1,ks₂.1,ks₁.1]
  have keep:∀c o,c≠z→c≠TO→c≠i1→c≠i2→c≠i3→s.heap.get? c=some o→g₄.get? c=some o:=fun c o c1 _ c3 c4 c5 e=>ks₄.extBut _ _ c5 (ks₃.extBut _ _ c4 (ks₂.extBut _ _ c3 (ks₁.extBut _ _ c1 e)))
  have kz₄:Z3 g₄ z TI TO f0 f:=ks₄.extBut _ _ (by walk_at "nl") (ks₃.extBut _ _ (by walk_at "nl") (ks₂.extBut _ _ (by walk_at "nl") kz₁))
  have kT₄:Tr g₄ TO a b c:=ks₄.extBut _ _ (by walk_at "nl") (ks₃.extBut _ _ (by walk_at "nl") (ks₂.extBut _ _ (by walk_at "nl") (ks₁.extBut _ _ (by walk_at "nl") kTO)))
  have q1:ItK p g₄ i1 l1 (k+1):=(m1₂.extBut ks₃.extBut (by walk_at "nl")).extBut ks₄.extBut (by walk_at "nl")
  have q2:ItK q g₄ i2 l2 (k+1):=m2₃.extBut ks₄.extBut (by walk_at "nl")
  have up:∀c o,g₄.get? c=some o→(g₄.push { cls:=.type "tuple", data:=.seq #[x,y,u] }).get? c=some o:=fun c o e=>VaD _ e
  have kTA:Tr (g₄.push { cls:=.type "tuple", data:=.seq #[x,y,u] }) g₄.objs.size x y u:=VaE _ rfl
  rw [sz] at kTA
  show Q (.ref g₄.objs.size) _
  rw [sz]
  exact kQ _ _ _ (up _ _ kz₄) kf ⟨_,_,_,up _ _ kT₄⟩ (q1.at fun o e=>up _ o e) (q2.at fun o e=>up _ o e) (m3₄.at fun o e=>up _ o e) kTA fun c o c1 c2 c3 c4 c5 e=>up c o (keep c o c1 c2 c3 c4 c5 e)
theorem Zq0{p q r:Bool}{z TI TO i1 i2 i3 l1 l2 l3:Addr}{k:Nat}{us vs ws:Array Value}{a b c f0 f1:Value}{Q:Fin→Shared→Prop}(kh:A.handled=none)(D:Ap3 z TI TO i1 i2 i3 l1 l2 l3)
  (kz:Z3 s.heap z TI TO f0 f1) (kf:Mk3 f0) (kTI:Tr s.heap TI (.ref i1) (.ref i2) (.ref i3)) (kTO:Tr s.heap TO a b c)
  (m1:ItK p s.heap i1 l1 k) (m2:ItK q s.heap i2 l2 k) (m3:ItK r s.heap i3 l3 k) (n1:SqK p s.heap l1 us) (n2:SqK q s.heap l2 vs) (n3:SqK r s.heap l3 ws) (kend:us[k]?=none∨vs[k]?=none∨ws[k]?=none)
  (kE:∀h' e,(∀c o,c≠z→c≠TO→c≠i1→c≠i2→c≠i3→s.heap.get? c=some o→h'.get? c=some o)→(∃o,h'.get? e=some o∧o.cls=.type "StopIteration")→E (.ref e) { s with heap:=h' }) :
  wpAny (model prog w) A (Builtin.«zip.__next__» ⟨[.ref z],[]⟩) Q E s:=by
 obtain ⟨o1,o2,o3,o4,o5,a1,a2,a3⟩:=D
 have x1:=Nat.lt_trans o1 o2;have x2:=Nat.lt_trans o3 o4;have x3:=Nat.lt_trans o2 x2;have x4:=Nat.lt_trans o1 x3;have y1:=Nat.lt_trans x2 o5;have y2:=Nat.lt_trans x3 o5;have y3:=Nat.lt_trans x4 o5
 have b1:=Nat.lt_trans a1 o1;have c1:=Nat.lt_trans a1 x1;have d1:=Nat.lt_trans a1 x4;have e1:=Nat.lt_trans a1 y3
 have b2:=Nat.lt_trans a2 o1;have c2:=Nat.lt_trans a2 x1;have d2:=Nat.lt_trans a2 x4;have e2:=Nat.lt_trans a2 y3
 have b3:=Nat.lt_trans a3 o1;have c3:=Nat.lt_trans a3 x1;have d3:=Nat.lt_trans a3 x4;have e3:=Nat.lt_trans a3 y3
 show wpAny _ _ (field (.ref z) 2 >>= _) _ _ _
 refine VaC (Va9 kz rfl (x:=.bool false) rfl ?_)
 show wpAny _ _ (field (.ref z) 3 >>= _) _ _ _
 refine VaC (Va9 kz rfl (x:=.ref TI) rfl ?_)
 refine VaC (Vbz kTI rfl ?_)
 show wpAny _ _ (Builtin.SmallTypes.ownedTupleIsFree (.ref z) >>= _) _ _ _
 refine VaC (Zko kz kf ?_ fun g₁ f kz₁ ks₁=>?_)
 ·simp only [Va8]
  refine VaC (wpAny_rule ?_)
  refine VaC (Va9 kz rfl (x:=.ref TO) rfl ?_)
  refine VaC (VbN kz (by simp) fun g₁ kz₁ ks₁=>?_)
  replace kz₁:Z3 g₁ z TI TO .ellipsis f1:=kz₁
  refine VaC ?_
  simp only [List.zipIdx_cons,List.zipIdx_nil,Vbo,Vbp]
  refine VaC (VaC (VbO ?_))
  show wpAny _ _ (Builtin.SmallTypes.nextOf (.ref i1) >>= _) _ _ _
  cases kx:us[k]? with
  | none =>
   refine VaC (ZcQ kh (m1.extBut ks₁.extBut (by walk_at "nl")) (n1.extBut ks₁.extBut (by walk_at "nl")) kx fun g₂ e ks₂ ke=>?_)
   obtain ⟨ox,koe,kce⟩:=ke
   have kz₂:Z3 g₂ z TI TO .ellipsis f1:=ks₂ _ _ (by walk_at "nl") kz₁
   have kez:e≠z:=fun x=>by subst x;rw [kz₂] at koe;cases koe;simp at kce
   exact VbN kz₂ (by simp) fun g₃ _ ks₃=>kE g₃ e (fun c o c1 _ c3 _ _ x=>ks₃.extBut _ _ c1 (ks₂ _ _ c3 (ks₁.extBut _ _ c1 x))) ⟨ox,ks₃.extBut _ _ kez koe,kce⟩
  | some x =>
   refine VaC (Za1 (m1.extBut ks₁.extBut (by walk_at "nl")) (n1.extBut ks₁.extBut (by walk_at "nl")) kx fun g₂ m1₂ ks₂=>VaB ?_)
   have kT₂:Tr g₂ TO a b c:=ks₂.extBut _ _ (by walk_at "nl") (ks₁.extBut _ _ (by walk_at "nl") kTO)
   refine VaC (Vbz kT₂ rfl ?_)
   refine VaC (Zio kT₂ fun g₃ kT₃ ks₃=>?_)
   replace kT₃:Tr g₃ TO x b c:=kT₃
   refine VaC (wpAny_letGo (VaB ?_))
   refine VaC (VaC (VbO ?_))
   show wpAny _ _ (Builtin.SmallTypes.nextOf (.ref i2) >>= _) _ _ _
   have m2':=((m2.extBut ks₁.extBut (by walk_at "nl")).extBut ks₂.extBut (by walk_at "nl")).extBut ks₃.extBut (by walk_at "nl")
   have n2':=((n2.extBut ks₁.extBut (by walk_at "nl")).extBut ks₂.extBut (by walk_at "nl")).extBut ks₃.extBut (by walk_at "nl")
   have kz₃:Z3 g₃ z TI TO .ellipsis f1:=ks₃.extBut _ _ (by walk_at "nl") (ks₂.extBut _ _ (by walk_at "nl") kz₁)
   have keep₃:∀c o,c≠z→c≠TO→c≠i1→c≠i2→c≠i3→s.heap.get? c=some o→g₃.get? c=some o:=fun c o c1 c2 c3 _ _ x=>ks₃.extBut _ _ c2 (ks₂.extBut _ _ c3 (ks₁.extBut _ _ c1 x))
   cases ky:vs[k]? with
   | none =>
    refine VaC (ZcQ kh m2' n2' ky fun g₄ e ks₄ ke=>?_)
    obtain ⟨ox,koe,kce⟩:=ke
    have kz₄:Z3 g₄ z TI TO .ellipsis f1:=ks₄ _ _ (by walk_at "nl") kz₃
    have kez:e≠z:=fun x=>by subst x;rw [kz₄] at koe;cases koe;simp at kce
    exact VbN kz₄ (by simp) fun g₅ _ ks₅=>kE g₅ e (fun c o c1 c2 c3 c4 c5 x=>ks₅.extBut _ _ c1 (ks₄ _ _ c4 (keep₃ c o c1 c2 c3 c4 c5 x))) ⟨ox,ks₅.extBut _ _ kez koe,kce⟩
   | some y =>
    have ku:ws[k]?=none:=by
     rcases kend with h | h | h
     ·rw [kx] at h;cases h
     ·rw [ky] at h;cases h
     ·exact h
    refine VaC (Za1 m2' n2' ky fun g₄ m2₄ ks₄=>VaB ?_)
    have kT₄:Tr g₄ TO x b c:=ks₄.extBut _ _ (by walk_at "nl") kT₃
    refine VaC (Vbz kT₄ rfl ?_)
    refine VaC (Zio kT₄ fun g₅ kT₅ ks₅=>?_)
    refine VaC (wpAny_letGo (VaB ?_))
    refine VaC (VaC (VbO ?_))
    show wpAny _ _ (Builtin.SmallTypes.nextOf (.ref i3) >>= _) _ _ _
    refine VaC (ZcQ kh (((((m3.extBut ks₁.extBut (by walk_at "nl")).extBut ks₂.extBut (by walk_at "nl")).extBut ks₃.extBut (by walk_at "nl")).extBut ks₄.extBut (by walk_at "nl")).extBut ks₅.extBut (by walk_at "nl")) (((((n3.extBut ks₁.extBut (by walk_at "nl")).extBut ks₂.extBut (by walk_at "nl")).extBut ks₃.extBut (by walk_at "nl")).extBut ks₄.extBut (by walk_at "nl")).extBut ks₅.extBut (by walk_at "nl")) ku fun g₆ e ks₆ ke=>?_)
    obtain ⟨ox,koe,kce⟩:=ke
    have kz₆:Z3 g₆ z TI TO .ellipsis f1:=ks₆ _ _ (by walk_at "nl") (ks₅.extBut _ _ (by walk_at "nl") (ks₄.extBut _ _ (by walk_at "nl") kz₃))
    have kez:e≠z:=fun x=>by subst x;rw [kz₆] at koe;cases koe;simp at kce
    exact VbN kz₆ (by simp) fun g₇ _ ks₇=>kE g₇ e (fun c o c1 c2 c3 c4 c5 x=>ks₇.extBut _ _ c1 (ks₆ _ _ c5 (ks₅.extBut _ _ c2 (ks₄.extBut _ _ c4 (keep₃ c o c1 c2 c3 c4 c5 x))))) ⟨ox,ks₇.extBut _ _ kez koe,kce⟩
 ·simp only [Vbu,Va7]
  rw [←VbP]
  simp only [Vbo,Vbp]
  refine VaC (VaC (VaC (Vbc ?_)))
  show wpAny _ _ (Builtin.SmallTypes.nextOf (.ref i1) >>= _) _ _ _
  cases kx:us[k]? with
  | none =>
   refine VaC (ZcQ kh (m1.extBut ks₁.extBut (by walk_at "nl")) (n1.extBut ks₁.extBut (by walk_at "nl")) kx fun g₂ e ks₂ ke=>?_)
   exact kE g₂ e (fun c o c1 _ c3 _ _ x=>ks₂ _ _ c3 (ks₁.extBut _ _ c1 x)) ke
  | some x =>
   refine VaC (Za1 (m1.extBut ks₁.extBut (by walk_at "nl")) (n1.extBut ks₁.extBut (by walk_at "nl")) kx fun g₂ m1₂ ks₂=>VaB (VaB ?_))
   refine VaC (VaC (Vbc ?_))
   show wpAny _ _ (Builtin.SmallTypes.nextOf (.ref i2) >>= _) _ _ _
   have m2':=(m2.extBut ks₁.extBut (by walk_at "nl")).extBut ks₂.extBut (by walk_at "nl")
   have n2':=(n2.extBut ks₁.extBut (by walk_at "nl")).extBut ks₂.extBut (by walk_at "nl")
   cases ky:vs[k]? with
   | none =>
    refine VaC (ZcQ kh m2' n2' ky fun g₃ e ks₃ ke=>?_)
    exact kE g₃ e (fun c o c1 _ c3 c4 _ x=>ks₃ _ _ c4 (ks₂.extBut _ _ c3 (ks₁.extBut _ _ c1 x))) ke
   | some y =>
    have ku:ws[k]?=none:=by
     rcases kend with h | h | h
     ·rw [kx] at h;cases h
     ·rw [ky] at h;cases h
     ·exact h
    refine VaC (Za1 m2' n2' ky fun g₃ m2₃ ks₃=>VaB (VaB ?_))
    refine VaC (VaC (Vbc ?_))
    show wpAny _ _ (Builtin.SmallTypes.nextOf (.ref i3) >>= _) _ _ _
    refine VaC (ZcQ kh (((m3.extBut ks₁.extBut (by walk_at "nl")).extBut ks₂.extBut (by walk_at "nl")).extBut ks₃.extBut (by walk_at "nl")) (((n3.extBut ks₁.extBut (by walk_at "nl")).extBut ks₂.extBut (by walk_at "nl")).extBut ks₃.extBut (by walk_at "nl")) ku fun g₄ e ks₄ ke=>?_)
    exact kE g₄ e (fun c o c1 _ c3 c4 c5 x=>ks₄ _ _ c5 (ks₃.extBut _ _ c4 (ks₂.extBut _ _ c3 (ks₁.extBut _ _ c1 x)))) ke
theorem ZpN{p q r:Bool}{z TI TO i1 i2 i3 l1 l2 l3:Addr}{k:Nat}{us vs ws:Array Value}{x y u a b c f0 f1:Value}{Q:Option Value→Shared→Prop}(D:Ap3 z TI TO i1 i2 i3 l1 l2 l3)
  (kz:Z3 s.heap z TI TO f0 f1) (kf:Mk3 f0) (kTI:Tr s.heap TI (.ref i1) (.ref i2) (.ref i3)) (kTO:Tr s.heap TO a b c)
  (m1:ItK p s.heap i1 l1 k) (m2:ItK q s.heap i2 l2 k) (m3:ItK r s.heap i3 l3 k) (n1:SqK p s.heap l1 us) (n2:SqK q s.heap l2 vs) (n3:SqK r s.heap l3 ws) (kx:us[k]?=some x) (ky:vs[k]?=some y) (ku:ws[k]?=some u)
  (kQ:∀h' f0' f1',Z3 h' z TI TO f0' f1'→Mk3 f0'→(∃a b c,Tr h' TO a b c)→ItK p h' i1 l1 (k+1)→ItK q h' i2 l2 (k+1)→ItK r h' i3 l3 (k+1)→Tr h' s.heap.objs.size x y u →
   (∀c o,c≠z→c≠TO→c≠i1→c≠i2→c≠i3→s.heap.get? c=some o→h'.get? c=some o)→Q (some (.ref s.heap.objs.size)) { s with heap:=h' }) :
  wpAny (model prog w) A (pyNext (.ref z)) Q E s:=by
 have kT:s.TypeIs (.ref z) "zip" := ⟨_,kz,rfl⟩
 unfold pyNext
 exact VaC (wpAny_attempt (Vbd (name:=Str.ofString "__next__") kT F.slot_zip_next
  (Vbf F.slot_zip_next kT F.entry_zip_next
   (Zp3 D kz kf kTI kTO m1 m2 m3 n1 n2 n3 kx ky ku fun h' f0' f1' b1 b2 b3 b4 b5 b6 b7 b8=>VaB (kQ h' f0' f1' b1 b2 b3 b4 b5 b6 b7 b8)) (F.args_zip_next_1 _))))
theorem Ztm{p q r:Bool}{z TI TO i1 i2 i3 l1 l2 l3:Addr}{k:Nat}{us vs ws:Array Value}{a b c f0 f1:Value}{Q:Option Value→Shared→Prop}(kh:A.handled=none)(D:Ap3 z TI TO i1 i2 i3 l1 l2 l3)
  (kz:Z3 s.heap z TI TO f0 f1) (kf:Mk3 f0) (kTI:Tr s.heap TI (.ref i1) (.ref i2) (.ref i3)) (kTO:Tr s.heap TO a b c)
  (m1:ItK p s.heap i1 l1 k) (m2:ItK q s.heap i2 l2 k) (m3:ItK r s.heap i3 l3 k) (n1:SqK p s.heap l1 us) (n2:SqK q s.heap l2 vs) (n3:SqK r s.heap l3 ws) (kend:us[k]?=none∨vs[k]?=none∨ws[k]?=none)
  (kQ:∀h',(∀c o,c≠z→c≠TO→c≠i1→c≠i2→c≠i3→s.heap.get? c=some o→h'.get? c=some o)→Q none { s with heap:=h' }):wpAny (model prog w) A (pyNext (.ref z)) Q E s:=by
 have kT:s.TypeIs (.ref z) "zip" := ⟨_,kz,rfl⟩
 unfold pyNext
 refine VaC (wpAny_attempt (Vbd (name:=Str.ofString "__next__") kT F.slot_zip_next
  (Vbf F.slot_zip_next kT F.entry_zip_next (Zq0 kh D kz kf kTI kTO m1 m2 m3 n1 n2 n3 kend fun h' e kk ke=>?_) (F.args_zip_next_1 _))))
 obtain ⟨o,ho,hc⟩:=ke
 refine VaC (wpAny_isInstance (T := "StopIteration") (b:=true) ⟨o,ho,hc⟩ isSubtype_stop ?_)
 exact VaB (kQ _ kk)
theorem ZqV{z TI TO:Addr}{f0 f1:Value}{Q:Value→Shared→Prop}(kz:Z3 s.heap z TI TO f0 f1)(h:Q (.ref z) s):wpAny (model prog w) A (pyIter (.ref z)) Q E s:=by
 have kT:s.TypeIs (.ref z) "zip" := ⟨_,kz,rfl⟩
 refine wpAny_pyIter_slot kT F.slot_zip_iter (Vbf F.slot_zip_iter kT F.entry_zip_iter ?_ (F.args_zip_iter_1 _))
 show wpAny _ _ (ret (.ref z)) _ _ s
 exact VaB ⟨_,rfl, "zip", _,kT,F.slot_zip_next.lookup,h⟩
end
theorem Zqd(a b c:Value):checkTypeCall "zip" ⟨[a,b,c],[]⟩=pure ():=by kernel_rfl
theorem Zql(a b c:Value):checkBuiltinCall "zip.__new__" ⟨[.type "zip", a,b,c],[]⟩=pure ():=by kernel_rfl
theorem oi_4(a b c d:Value):argsOk "object.__init__" ⟨[a,b,c,d],[]⟩:=by
 have e:=signature?_of (id := "object.__init__") (o:=['t','c','e','j','b','o']) (n:=['_','_','t','i','n','i','_','_']) (by kernel_rfl) PySem.F.owner_object
 unfold argsOk
 rw [e]
 kernel_rfl
abbrev j1(p:Bool)(h:Heap)(l1:Addr):Heap:=h.push (ZiK p l1)
abbrev j2(p q:Bool)(h:Heap)(l1 l2:Addr):Heap:=(j1 p h l1).push (ZiK q l2)
abbrev j3(p q r:Bool)(h:Heap)(l1 l2 l3:Addr):Heap:=(j2 p q h l1 l2).push (ZiK r l3)
abbrev j4(p q r:Bool)(h:Heap)(l1 l2 l3:Addr):Heap:=(j3 p q r h l1 l2 l3).push { cls:=.type "tuple", data:=.seq #[.ref h.objs.size,.ref (j1 p h l1).objs.size,.ref (j2 p q h l1 l2).objs.size] }
abbrev j5(p q r:Bool)(h:Heap)(l1 l2 l3:Addr):Heap:=(j4 p q r h l1 l2 l3).push { cls:=.type "tuple", data:=.seq #[.none,.none,.none] }
abbrev j6(p q r:Bool)(h:Heap)(l1 l2 l3:Addr):Heap:=(j5 p q r h l1 l2 l3).push { cls:=.type "zip", data:=.fields #[.none,.bool false,.bool false,.ref (j3 p q r h l1 l2 l3).objs.size,.ref (j4 p q r h l1 l2 l3).objs.size] }
theorem ZnI(p q r:Bool)(l1 l2 l3:Addr)(us vs ws:Array Value) :
  Meets (Builtin.«zip.__new__» ⟨[.type "zip", .ref l1,.ref l2,.ref l3],[]⟩) (fun _ R s=>SqK p s.heap l1 us∧SqK q s.heap l2 vs∧SqK r s.heap l3 ws ∧
   R (.ok (.ret (.ref (j5 p q r s.heap l1 l2 l3).objs.size))) { s with heap:=j6 p q r s.heap l1 l2 l3 }) :=
 .of_wp fun prog w A R s h=>by
  obtain ⟨hp,g,d,tk,os⟩:=s
  obtain ⟨n1,n2,n3,h⟩:=h
  have ksub:=sub_zip
  have k1:SqK p (Shared.heap ⟨hp,g,d,tk,os⟩) l1 us:=n1
  have k2:SqK q (Shared.heap ⟨hp.push (ZiK p l1),g,d,tk,os⟩) l2 vs:=SqK.push n2 _
  have k3:SqK r (Shared.heap ⟨(hp.push (ZiK p l1)).push (ZiK q l2),g,d,tk,os⟩) l3 ws:=SqK.push (SqK.push n3 _) _
  wp_walk using ZqE k1,ZqE k2,ZqE k3
  exact ⟨_,rfl,h⟩
section
variable{prog:Program}{w:World}{A:Around}{E:Value→Shared→Prop}{s:Shared}
theorem Zo1{p q r:Bool}{l1 l2 l3:Addr}{us vs ws:Array Value}{Q:Value→Shared→Prop}(n1:SqK p s.heap l1 us)(n2:SqK q s.heap l2 vs)(n3:SqK r s.heap l3 ws)
  (h:∀h',Z3 h' (s.heap.objs.size+5) (s.heap.objs.size+3) (s.heap.objs.size+4) .none (.bool false)→Tr h' (s.heap.objs.size+3) (.ref s.heap.objs.size) (.ref (s.heap.objs.size+1)) (.ref (s.heap.objs.size+2)) →
   Tr h' (s.heap.objs.size+4) .none .none .none→ItK p h' s.heap.objs.size l1 0→ItK q h' (s.heap.objs.size+1) l2 0→ItK r h' (s.heap.objs.size+2) l3 0→h'.objs.size=s.heap.objs.size+6 →
   (∀c o,s.heap.get? c=some o→h'.get? c=some o)→Q (.ref (s.heap.objs.size+5)) { s with heap:=h' }) :
  wpAny (model prog w) A (call (.type "zip") [.ref l1,.ref l2,.ref l3]) Q E s:=by
 refine callType_new F.called_zip (by decide) (Zqd _ _ _) (Zql _ _ _) (fun obj=>oi_4 obj _ _ _) F.entry_zip_new (ZnI p q r l1 l2 l3 us vs ws) ⟨n1,n2,n3,?_⟩
 have z1:(j1 p s.heap l1).objs.size=s.heap.objs.size+1:=VaO ..
 have z2:(j2 p q s.heap l1 l2).objs.size=s.heap.objs.size+2:=by rw [VaO,z1]
 have z3:(j3 p q r s.heap l1 l2 l3).objs.size=s.heap.objs.size+3:=by rw [VaO,z2]
 have z4:(j4 p q r s.heap l1 l2 l3).objs.size=s.heap.objs.size+4:=by rw [VaO,z3]
 have z5:(j5 p q r s.heap l1 l2 l3).objs.size=s.heap.objs.size+5:=by rw [VaO,z4]
 have z6:(j6 p q r s.heap l1 l2 l3).objs.size=s.heap.objs.size+6:=by rw [VaO,z5]
 have up1:∀{c:Addr} {o:Obj},(j5 p q r s.heap l1 l2 l3).get? c=some o→(j6 p q r s.heap l1 l2 l3).get? c=some o:=fun e=>VaD _ e
 have up2:∀{c:Addr} {o:Obj},(j4 p q r s.heap l1 l2 l3).get? c=some o→(j6 p q r s.heap l1 l2 l3).get? c=some o:=fun e=>up1 (VaD _ e)
 have up3:∀{c:Addr} {o:Obj},(j3 p q r s.heap l1 l2 l3).get? c=some o→(j6 p q r s.heap l1 l2 l3).get? c=some o:=fun e=>up2 (VaD _ e)
 have up4:∀{c:Addr} {o:Obj},(j2 p q s.heap l1 l2).get? c=some o→(j6 p q r s.heap l1 l2 l3).get? c=some o:=fun e=>up3 (VaD _ e)
 have up5:∀{c:Addr} {o:Obj},(j1 p s.heap l1).get? c=some o→(j6 p q r s.heap l1 l2 l3).get? c=some o:=fun e=>up4 (VaD _ e)
 have g6:(j6 p q r s.heap l1 l2 l3).get? (j5 p q r s.heap l1 l2 l3).objs.size=some _:=VaE _ rfl
 have g5:(j6 p q r s.heap l1 l2 l3).get? (j4 p q r s.heap l1 l2 l3).objs.size=some _:=up1 (VaE _ rfl)
 have g4:(j6 p q r s.heap l1 l2 l3).get? (j3 p q r s.heap l1 l2 l3).objs.size=some _:=up2 (VaE _ rfl)
 have g3:(j6 p q r s.heap l1 l2 l3).get? (j2 p q s.heap l1 l2).objs.size=some _:=up3 (VaE _ rfl)
 have g2:(j6 p q r s.heap l1 l2 l3).get? (j1 p s.heap l1).objs.size=some _:=up4 (VaE _ rfl)
 have g1:(j6 p q r s.heap l1 l2 l3).get? s.heap.objs.size=some _:=up5 (VaE _ rfl)
 show _∧_
 rw [z3,z4,z5] at g6
 rw [z1,z2,z3] at g4
 rw [z4] at g5
 rw [z2] at g3
 rw [z1] at g2
 rw [z5]
 exact ⟨⟨_,g6,rfl⟩,h _ g6 g4 g5 (ItK.new g1) (ItK.new g2) (ItK.new g3) z6 fun c o x=>up5 (VaD _ x)⟩
end
def At3(p q r:Bool)(z TI TO i1 i2 i3 a b c:Addr)(i:Nat)(h:Heap):Prop :=
 ∃f0 f1 u v w,Z3 h z TI TO f0 f1∧Mk3 f0∧Tr h TI (.ref i1) (.ref i2) (.ref i3)∧Tr h TO u v w∧ItK p h i1 a i∧ItK q h i2 b i∧ItK r h i3 c i
theorem At3.obj{p q r:Bool}{z TI TO i1 i2 i3 a b c:Addr}{i:Nat}{h:Heap}(st:At3 p q r z TI TO i1 i2 i3 a b c i h){x:Addr}(hx:x∈[z,TI,TO,i1,i2,i3]):∃o,h.get? x=some o∧∀v,o.data≠.cell v:=by
 obtain ⟨f0,f1,u,v,w,kz,kf,kTI,kTO,m1,m2,m3⟩:=st
 obtain ⟨o1,_,e1,d1⟩:=m1.flds
 obtain ⟨o2,_,e2,d2⟩:=m2.flds
 obtain ⟨o3,_,e3,d3⟩:=m3.flds
 simp only [Vaq,VbQ,VbR] at hx
 rcases hx with rfl | rfl | rfl | rfl | rfl | rfl
 ·exact ⟨_,kz,fun v z=>by cases z⟩
 ·exact ⟨_,kTI,fun v z=>by cases z⟩
 ·exact ⟨_,kTO,fun v z=>by cases z⟩
 ·exact ⟨_,e1,fun v z=>by rw [d1] at z;cases z⟩
 ·exact ⟨_,e2,fun v z=>by rw [d2] at z;cases z⟩
 ·exact ⟨_,e3,fun v z=>by rw [d3] at z;cases z⟩
theorem At3.keep{p q r:Bool}{z TI TO i1 i2 i3 a b c:Addr}{i:Nat}{h h':Heap}(st:At3 p q r z TI TO i1 i2 i3 a b c i h)(k:∀x∈[z,TI,TO,i1,i2,i3],∀o,h.get? x=some o→h'.get? x=some o):At3 p q r z TI TO i1 i2 i3 a b c i h':=by
 obtain ⟨f0,f1,u,v,w,kz,kf,kTI,kTO,m1,m2,m3⟩:=st
 exact ⟨f0,f1,u,v,w,k z (by simp) _ kz,kf,k TI (by simp) _ kTI,k TO (by simp) _ kTO,m1.at fun o e=>k i1 (by simp) o e,m2.at fun o e=>k i2 (by simp) o e,m3.at fun o e=>k i3 (by simp) o e⟩
section
variable{X:Cx}{B:Around}{pins:List (Addr×Obj)}{σ:St}{H:Hp}{s:Shared}{p q r:Bool}{z TI TO i1 i2 i3 a b c:Addr}{i:Nat}
theorem Zr5{Q:Option Value→Shared→Prop}{E:Value→Shared→Prop}{xs ys zs:List V}{x y u:V}(D:Ap3 z TI TO i1 i2 i3 a b c)(I:Inv X pins σ H s)(hf:∀d∈[z,TI,TO,i1,i2,i3],FpOk X pins H d)(st:At3 p q r z TI TO i1 i2 i3 a b c i s.heap)(hqa:SqB X.K p H a xs)(hqb:SqB X.K q H b ys)(hqc:SqB X.K r H c zs)(hx:xs[i]?=some x)(hy:ys[i]?=some y)(hu:zs[i]?=some u)
  (kQ:∀h' T,T=s.heap.objs.size→H T=none→Inv X pins σ (upd H T (.tup [x,y,u])) { s with heap:=h' }→At3 p q r z TI TO i1 i2 i3 a b c (i+1) h'→(∀d o,d∉[z,TI,TO,i1,i2,i3]→s.heap.get? d=some o→h'.get? d=some o)→Q (some (.ref T)) { s with heap:=h' }) :
  wpAny (model X.prog X.w) B (pyNext (.ref z)) Q E s:=by
 obtain ⟨f0,f1,u0,v0,w0,kz,kf,kTI,kTO,m1,m2,m3⟩:=st
 obtain ⟨its,rv,pa,za⟩:=I.seqB hqa
 obtain ⟨its2,rv2,pb,zb⟩:=I.seqB hqb
 obtain ⟨its3,rv3,pc,zc⟩:=I.seqB hqc
 obtain ⟨u1,e1,r1⟩:=rv.get hx
 obtain ⟨u2,e2,r2⟩:=rv2.get hy
 obtain ⟨u3,e3,r3⟩:=rv3.get hu
 refine ZpN D kz kf kTI kTO m1 m2 m3 pa pb pc (x:=u1) (y:=u2) (u:=u3) (by simpa using e1) (by simpa using e2) (by simpa using e3) fun h' f0' f1' b1 b2 b3 b4 b5 b6 b7 b8=>?_
 have hT:H s.heap.objs.size=none:=I.hok.fresh (VaF _)
 have kp:∀d o,d∉[z,TI,TO,i1,i2,i3]→s.heap.get? d=some o→h'.get? d=some o:=fun d o hd e=>b8 d o (fun q=>hd (by simp [q])) (fun q=>hd (by simp [q])) (fun q=>hd (by simp [q])) (fun q=>hd (by simp [q])) (fun q=>hd (by simp [q])) e
 have kTI':Tr h' TI (.ref i1) (.ref i2) (.ref i3):=by
  obtain ⟨o1,o2,o3,o4,o5,a1,a2,a3⟩:=D
  exact b8 TI _ (nelt (by omega)) (nelt (by omega)) (nelt (by omega)) (nelt (by omega)) (nelt (by omega)) kTI
 obtain ⟨u0',v0',w0',b3⟩:=b3
 refine kQ h' _ rfl hT ?_ ⟨f0',f1',u0',v0',w0',b1,b2,kTI',b3,b4,b5,b6⟩ kp
 refine I.turnNew (fp:=[z,TI,TO,i1,i2,i3]) (t':=s.toks) (fun d ob hb e=>kp d ob hb e) hf (VaF _) ?_
 have lt3:(3:Nat)≤sizeLine:=by decide
 exact ⟨lt3,[u1,u2,u3],.cons r1 (.cons r2 (.cons r3 .nil)),⟨_,b7,rfl,_,rfl⟩⟩
theorem Zth{Q:Option Value→Shared→Prop}{E:Value→Shared→Prop}{xs ys zs:List V}(hc:B.handled=none)(D:Ap3 z TI TO i1 i2 i3 a b c)(I:Inv X pins σ H s)(hf:∀d∈[z,TI,TO,i1,i2,i3],FpOk X pins H d)(st:At3 p q r z TI TO i1 i2 i3 a b c i s.heap)(hqa:SqB X.K p H a xs)(hqb:SqB X.K q H b ys)(hqc:SqB X.K r H c zs)(hx:xs.length≤i∨ys.length≤i∨zs.length≤i)
  (kQ:∀h',Inv X pins σ H { s with heap:=h' }→(∀d o,d∉[z,TI,TO,i1,i2,i3]→s.heap.get? d=some o→h'.get? d=some o)→Q none { s with heap:=h' }) :
  wpAny (model X.prog X.w) B (pyNext (.ref z)) Q E s:=by
 obtain ⟨f0,f1,u0,v0,w0,kz,kf,kTI,kTO,m1,m2,m3⟩:=st
 obtain ⟨its,rv,pa,za⟩:=I.seqB hqa
 obtain ⟨its2,rv2,pb,zb⟩:=I.seqB hqb
 obtain ⟨its3,rv3,pc,zc⟩:=I.seqB hqc
 have hl:=rv.length
 have hl2:=rv2.length
 have hl3:=rv3.length
 refine Ztm hc D kz kf kTI kTO m1 m2 m3 pa pb pc (hx.imp (fun q=>by simp;omega) (fun q=>q.imp (fun q=>by simp;omega) (fun q=>by simp;omega))) fun h' hk=>?_
 have kp:∀d o,d∉[z,TI,TO,i1,i2,i3]→s.heap.get? d=some o→h'.get? d=some o:=fun d o hd e=>hk d o (fun q=>hd (by simp [q])) (fun q=>hd (by simp [q])) (fun q=>hd (by simp [q])) (fun q=>hd (by simp [q])) (fun q=>hd (by simp [q])) e
 exact kQ h' (I.turnedL (fp:=[z,TI,TO,i1,i2,i3]) (t':=s.toks) kp hf) kp
end
theorem Zpn{n a b c:Addr}(h1:@LT.lt Nat _ a n)(h2:@LT.lt Nat _ b n)(h3:@LT.lt Nat _ c n):Ap3 (n+5) (n+3) (n+4) n (n+1) (n+2) a b c:=⟨VaP _,VaP _,VaP _,VaP _,VaP _,h1,h2,h3⟩
theorem ZlR{X:Cx}{pins:List (Addr×Obj)}{σ:St}{H:Hp}{s:Shared}{p q r:Bool}{a b c:Addr}{xs ys zs:List V}{Q:Value→Shared→Prop}{E:Value→Shared→Prop}(I:Inv X pins σ H s)(hqa:SqB X.K p H a xs)(hqb:SqB X.K q H b ys)(hqc:SqB X.K r H c zs)
  (k:∀h' z TI TO i1 i2 i3,Ap3 z TI TO i1 i2 i3 a b c→Inv X pins σ H { s with heap:=h' }→At3 p q r z TI TO i1 i2 i3 a b c 0 h'→(∀d∈[z,TI,TO,i1,i2,i3],FpOk X pins H d)→(∀d∈[z,TI,TO,i1,i2,i3],@LT.lt Nat _ d h'.objs.size)→Q (.ref z) { s with heap:=h' }):wpAny (model X.prog X.w) X.A (call (.type "zip") [.ref a,.ref b,.ref c]) Q E s:=by
 obtain ⟨its,rv,pa,hz⟩:=I.seqB hqa
 obtain ⟨its2,rv2,pb,hz2⟩:=I.seqB hqb
 obtain ⟨its3,rv3,pc,hz3⟩:=I.seqB hqc
 have a1:a<s.heap.objs.size:=by obtain ⟨_,e⟩:=pa.here;exact Vad e
 have a2:b<s.heap.objs.size:=by obtain ⟨_,e⟩:=pb.here;exact Vad e
 have a3:c<s.heap.objs.size:=by obtain ⟨_,e⟩:=pc.here;exact Vad e
 refine Zo1 pa pb pc fun h' gz gTI gTO g1 g2 g3 sz hk=>?_
 have hI:Inv X pins σ H { s with heap:=h' }:=I.kept (t':=s.toks) hk
 refine k h' _ _ _ _ _ _ (Zpn a1 a2 a3) hI ⟨_,_,_,_,_,gz,.inl rfl,gTI,gTO,g1,g2,g3⟩ (fun d hd=>?_) (fun d hd=>?_)
 ·have hb':s.heap.objs.size≤d:=by
   simp only [Vaq,VbQ,VbR] at hd
   rcases hd with rfl | rfl | rfl | rfl | rfl | rfl<;>omega
  exact I.fpOk hb' (I.hok.fresh hb')
 ·rw [sz]
  simp only [Vaq,VbQ,VbR] at hd
  rcases hd with rfl | rfl | rfl | rfl | rfl | rfl<;>omega
def Za2:List V→List V→List V→List (V×V×V)
 | x::xs,y::ys,u::us=>(x,y,u)::Za2 xs ys us
 | _,_,_=>[]
theorem Zh5:∀{xs ys us:List V} {i:Nat} {x y u:V},(Za2 xs ys us)[i]?=some (x,y,u)→xs[i]?=some x∧ys[i]?=some y∧us[i]?=some u
 | [],_,_,_,_,_,_,h=>by simp [Za2] at h
 | _::_,[],_,_,_,_,_,h=>by simp [Za2] at h
 | _::_,_::_,[],_,_,_,_,h=>by simp [Za2] at h
 | _::_,_::_,_::_,0,_,_,_,h=>by simp [Za2] at h;obtain ⟨rfl,rfl,rfl⟩:=h;simp
 | _::xs,_::ys,_::us,i+1,_,_,_,h=>by
  have:=Zh5 (xs:=xs) (ys:=ys) (us:=us) (i:=i) (by simpa [Za2] using h)
  simpa using this
theorem Zin:∀(xs ys us:List V),xs.length≤(Za2 xs ys us).length∨ys.length≤(Za2 xs ys us).length∨us.length≤(Za2 xs ys us).length
 | [],_,_=>.inl (by simp)
 | _::_,[],_=>.inr (.inl (by simp))
 | _::_,_::_,[]=>.inr (.inr (by simp))
 | _::xs,_::ys,_::us=>by
  have:=Zin xs ys us
  simp [Za2]
  exact this
theorem ZjE:∀(xs ys us:List V),(Za2 xs ys us).length≤xs.length
 | [],_,_=>by simp [Za2]
 | _::_,[],_=>by simp [Za2]
 | _::_,_::_,[]=>by simp [Za2]
 | _::xs,_::ys,_::us=>by
  have:=ZjE xs ys us
  simp [Za2]
  exact this
inductive Lay3(H:Hp):List (V×V×V)→List Addr→Hp→Prop
 | nil:Lay3 H [] [] H
 | snoc {ts:List (V×V×V)} {as:List Addr} {H':Hp} {T:Addr} {x y u:V} (h:Lay3 H ts as H') (hT:H' T=none):Lay3 H (ts++[(x,y,u)]) (as++[T]) (upd H' T (.tup [x,y,u]))
theorem Lay3.same{H H':Hp}{ts:List (V×V×V)}{as:List Addr}(h:Lay3 H ts as H'):Same H H':=by
 induction h with
 | nil=>exact fun _ _ e=>e
 | snoc h hT ih=>exact fun b o e=>(by
   have e':=ih b o e
   rw [Zaf (fun q=>by subst q;rw [hT] at e';cases e')]
   exact e')
theorem Zn9{H:Hp}{S T:Addr}{o o':HO}(h:S≠T):upd (upd H S o) T o'=upd (upd H T o') S o:=by
 funext b
 by_cases h1:b=S
 ·subst h1;rw [Zaf h,Zag,Zag]
 ·by_cases h2:b=T
  ·subst h2;rw [Zag,Zaf h1,Zag]
  ·rw [Zaf h2,Zaf h1,Zaf h1,Zaf h2]
theorem ZeS{H:Hp}{S:Addr}{o o':HO}:upd (upd H S o) S o'=upd H S o':=by
 funext b
 by_cases h1:b=S
 ·subst h1;rw [Zag,Zag]
 ·rw [Zaf h1,Zaf h1,Zaf h1]
theorem Zde{K:W.Frag}{H H':Hp}{p:Bool}{a:Addr}{xs:List V}(e:Same H H')(h:SqB K p H a xs):SqB K p H' a xs:=by
 cases p
 ·exact Same.seq e h
 ·rcases (show SqT K H a xs from h) with (h | ⟨o,h⟩) | h
  ·exact .inl (.inl (e _ _ h))
  ·exact .inl (.inr ⟨o,e _ _ h⟩)
  ·exact .inr h
theorem ZhX{H:Hp}{S:Addr}{o:HO}(h:H S=none):Same H (upd H S o):=fun b u e=>by
 rw [Zaf (fun q=>by subst q;rw [h] at e;cases e)]
 exact e
section
variable{X:Cx}{pins:List (Addr×Obj)}{σ:St}{H:Hp}{p q r:Bool}{z TI TO i1 i2 i3 a b c S:Addr}{xs ys us:List V}
theorem Zpf{B:Around}{R:Result→Shared→Prop}(kh:B.in1.handled=none)(D:Ap3 z TI TO i1 i2 i3 a b c)(hqa:SqB X.K p H a xs)(hqb:SqB X.K q H b ys)(hqc:SqB X.K r H c us)(hS:S∉[z,TI,TO,i1,i2,i3])
  (kR:∀s' as H',Inv X pins σ (upd H' S (.lst (as.map V.ref))) s'→H' S=none→Lay3 H (Za2 xs ys us) as H'→R (.ok (.ret .none)) s') :
  ∀(k i:Nat) (s:Shared) (H':Hp) (as:List Addr),i+k=(Za2 xs ys us).length→Inv X pins σ (upd H' S (.lst (as.map V.ref))) s→H' S=none→Lay3 H ((Za2 xs ys us).take i) as H'→At3 p q r z TI TO i1 i2 i3 a b c i s.heap→as.length=i→(∀d∈[z,TI,TO,i1,i2,i3],FpOk X pins (upd H' S (.lst (as.map V.ref))) d) →
   codeAny (model X.prog X.w) B (.builtin "list.extend.loop" ⟨[.ref S,.ref z,.none],[]⟩) R s:=by
 intro k
 induction k with
 | zero =>
  intro i s H' as hk I hS' L st la hf
  have sm:Same H (upd H' S (.lst (as.map V.ref))):=fun b o e=>ZhX hS' b o (L.same b o e)
  refine VbS F.entry_extend_loop ?_
  rw [VbT VbU _]
  show wpAny _ B.in1 (pyNext (.ref z) >>= _) _ _ s
  refine VaC (Zth kh D I hf st (Zde sm hqa) (Zde sm hqb) (Zde sm hqc) (by have:=Zin xs ys us;omega) fun h' I' _=>?_)
  refine VaB (kR _ as H' I' hS' ?_)
  rw [show i=(Za2 xs ys us).length by omega,List.take_length] at L
  exact L
 | succ k ih =>
  intro i s H' as hk I hS' L st la hf
  have sm:Same H (upd H' S (.lst (as.map V.ref))):=fun b o e=>ZhX hS' b o (L.same b o e)
  have hi:i<(Za2 xs ys us).length:=by omega
  obtain ⟨⟨x,y,u⟩,et⟩ : ∃t,(Za2 xs ys us)[i]?=some t:=⟨_,VbH hi⟩
  obtain ⟨e1,e2,e3⟩:=Zh5 et
  refine VbS F.entry_extend_loop ?_
  rw [VbT VbU _]
  show wpAny _ B.in1 (pyNext (.ref z) >>= _) _ _ s
  refine VaC (Zr5 D I hf st (Zde sm hqa) (Zde sm hqb) (Zde sm hqc) e1 e2 e3 fun h' T eT hT I2 st2 kp=>?_)
  have hl:as.length<sizeLine:=by
   obtain ⟨_,_,_,hz⟩:=I.seqB (Zde sm hqa)
   have:=ZjE xs ys us
   omega
  have ST:S≠T:=fun q=>by subst q;rw [Zag] at hT;cases hT
  have hT':H' T=none:=by rw [Zaf (Ne.symm ST)] at hT;exact hT
  rw [Zn9 ST] at I2
  have hH:(upd (upd H' T (.tup [x,y,u])) S (.lst (as.map V.ref))) S=some (.lst (as.map V.ref)):=Zag
  obtain ⟨zz,its,n,rr,hlen,e⟩:=I2.lstM hH
  have hlen':its.length=as.length:=by rw [←hlen,VaN]
  show wpAny _ B.in1 (updateSeq S (·.push (.ref T)) >>= _) _ _ _
  refine VaC ?_
  refine VbM e rfl (VaB ⟨plainId_quiet VbU _,?_⟩) (by rw [Va6];omega) (by show (its.toArray.push _).size≤sizeLine+1;rw [Array.size_push,Va6];omega)
  have I3:=I2.lset (f:=(·.push (.ref T))) (t':=s.toks) (ys:=as.map V.ref++[.ref T]) (its':=its++[.ref T]) hH e (by simp) (rr.append (.cons (show RelV (.ref T) (.ref T) from rfl) .nil)) (by rw [Va4,VaN,Vbl];omega)
  rw [ZeS] at I3
  refine ih (i+1) _ (upd H' T (.tup [x,y,u])) (as++[T]) (by omega) ?_ ?_ ?_ ?_ ?_ ?_
  ·rw [VbV];exact I3
  ·rw [Zaf ST];exact hS'
  ·rw [List.take_add_one,et];exact .snoc L hT'
  ·exact st2.keep fun d hd o e=>(Vbk _ _ (fun h=>hS (by rw [h];exact hd))).trans e
  ·rw [Va4,la];rfl
  ·intro d hd
   have dS:d≠S:=fun q=>hS (by rw [←q];exact hd)
   have dT:d≠T:=by
    obtain ⟨o,ho,_⟩:=st.obj hd
    rw [eT]
    exact Vag (Vad ho)
   have z:=hf d hd
   refine ⟨?_,z.2⟩
   rw [Zaf dS,Zaf dT]
   have z1:=z.1
   rw [Zaf dS] at z1
   exact z1
theorem Zn1:typeLookup (.type "zip") "__len__"=pure none:=by rw [typeLookup_type,builtinLookup_eq_fast];kernel_rfl
theorem ZmC:typeLookup (.type "zip") "__length_hint__"=pure none:=by rw [typeLookup_type,builtinLookup_eq_fast];kernel_rfl
theorem ZqY{s:Shared}{Q:Value→Shared→Prop}{E:Value→Shared→Prop}(hc:X.calm=true)(D:Ap3 z TI TO i1 i2 i3 a b c)(I:Inv X pins σ H s)(st:At3 p q r z TI TO i1 i2 i3 a b c 0 s.heap)(hf:∀d∈[z,TI,TO,i1,i2,i3],FpOk X pins H d)(hqa:SqB X.K p H a xs)(hqb:SqB X.K q H b ys)(hqc:SqB X.K r H c us)
  (kQ:∀s' S as H',Inv X pins σ (upd H' S (.lst (as.map V.ref))) s'→H' S=none→Lay3 H (Za2 xs ys us) as H'→Q (.ref S) s'):wpAny (model X.prog X.w) X.A (call (.type "list") [.ref z]) Q E s:=by
 have lt:∀d∈[z,TI,TO,i1,i2,i3],d≠s.heap.objs.size:=fun d hd=>by
  obtain ⟨o,ho,_⟩:=st.obj hd
  exact Vag (Vad ho)
 have zin:z∈[z,TI,TO,i1,i2,i3]:=by simp
 refine callType_codes (Q₁:=fun obj s₁=>obj=.ref s.heap.objs.size∧s₁={ s with heap:=s.heap.push { cls:=.type "list", data:=.seq #[] } }) F.called_list (F.typeCall_list_1 _) F.entry_list_init
  (code_list_new _ ⟨rfl,rfl⟩) fun obj s₁ hq=>?_
 obtain ⟨rfl,rfl⟩:=hq
 have hS0:H s.heap.objs.size=none:=I.fresh
 have I1:Inv X pins σ (upd H s.heap.objs.size (.lst [])) { s with heap:=s.heap.push { cls:=.type "list", data:=.seq #[] } }:=I.lnew (its:=[]) (t':=s.toks) .nil (VaQ _)
 have st1:At3 p q r z TI TO i1 i2 i3 a b c 0 (s.heap.push { cls:=.type "list", data:=.seq #[] }):=st.keep fun d _ o e=>VaD _ e
 generalize hsz:s.heap.objs.size=S at *
 have kS:(s.heap.push { cls:=.type "list", data:=.seq #[] }).get? S=some { cls:=.type "list", data:=.seq #[] }:=by rw [←hsz];exact VaE _ rfl
 generalize s.heap.push { cls:=.type "list", data:=.seq #[] }=g at *
 refine ⟨⟨_,kS,rfl⟩,F.args_list_init_2 _ _,?_⟩
 show wpAny _ X.A.in1.in1 (do let old ←Builtin.List.listItems (.ref S);Builtin.List.listUpdate (.ref S) (fun _=>#[]);letGo old.toList.reverse;Builtin.List.listExtendWith (.ref S) (.ref z) .none) _ _ _
 refine VaC ?_
 unfold Builtin.List.listItems
 refine VaC (Vbz kS rfl (VaB ?_))
 show wpAny _ X.A.in1.in1 (updateSeq S (fun _=>#[]) >>= fun _=>letGo (#[]:Array Value).toList.reverse >>= fun _=>Builtin.List.listExtendWith (.ref S) (.ref z) .none) _ _ _
 refine VaC (VbM kS rfl ?_)
 have I2:=I1.lset (f:=fun _=>#[]) (t':=s.toks) (its:=[]) (its':=[]) (ys:=[]) (n:=0) Zag kS rfl .nil (VaQ _)
 rw [ZeS] at I2
 have st2:At3 p q r z TI TO i1 i2 i3 a b c 0 (g.update S (Obj.mapSeq fun _=>#[])):=st1.keep fun d hd o e=>(Vbk _ _ (fun h=>lt d hd h.symm)).trans e
 have kS2:=VbC (Obj.mapSeq (fun _=>(#[]:Array Value))) kS rfl
 generalize g.update S (Obj.mapSeq fun _=>#[])=g2 at *
 refine VaC (wpAny_letGo ?_)
 unfold Builtin.List.listExtendWith
 obtain ⟨f0,f1,u0,v0,w0,kz,_⟩:=id st2
 have kT:(Shared.TypeIs { s with heap:=g2 } (.ref z) "zip"):=⟨_,kz,rfl⟩
 refine VaC (Vbg kT ?_)
 have zS:S≠z:=fun h=>lt z zin h.symm
 have h1:Builtin.List.listSameRef (.ref S) (.ref z)=false:=by simp [Builtin.List.listSameRef,zS]
 have h2:(Value.type "zip"==Value.type "list")=false:=by decide
 have h3:(Value.type "zip"==Value.type "tuple")=false:=by decide
 simp only [h1,h2,h3,Bool.or_false,Vbu,Va7]
 refine VaC (ZqV kz ?_)
 refine VaC (Vbc ?_)
 unfold Builtin.List.listLengthHint
 refine VaC (wpAny_specialOf kT Zn1 ?_)
 show wpAny _ X.A.in1.in1 (specialOf (Value.ref z) (Str.ofString "__length_hint__") >>= _) _ _ _
 refine VaC (wpAny_specialOf kT ZmC ?_)
 refine VaB ?_
 show wpAny _ X.A.in1.in1 (rule "list.extend.makes-room" >>= fun _=>Builtin.List.listTouch (.ref S) >>= fun _=>again (.builtin "list.extend.loop" ⟨[.ref S,.ref z,.none],[]⟩)) _ _ _
 refine VaC (wpAny_rule ?_)
 refine VaC ?_
 show wpAny _ X.A.in1.in1 (updateSeq S (·.push .none) >>= fun _=>updateSeq S (·.pop)) _ _ _
 refine VaC (VbM kS2 rfl ?_)
 have kS3:=VbC (Obj.mapSeq (·.push Value.none)) kS2 rfl
 refine VbM (hz:=by seq_fits) kS3 rfl ?_
 have I3:=I2.lset (f:=(·.push Value.none)) (t':=s.toks) (its:=[]) (its':=[.none]) (ys:=[.non]) Zag kS2 rfl (.cons (show RelV .non .none from rfl) .nil) (by show (1:Nat)≤sizeLine;decide)
 rw [ZeS] at I3
 have I4:=I3.lset (f:=(·.pop)) (t':=s.toks) (its:=[.none]) (its':=[]) (ys:=[]) Zag kS3 rfl .nil (VaQ _)
 rw [ZeS] at I4
 have st4:At3 p q r z TI TO i1 i2 i3 a b c 0 ((g2.update S (Obj.mapSeq (·.push Value.none))).update S (Obj.mapSeq (·.pop))):=st2.keep fun d hd o e=>(Vbk _ _ (fun h=>lt d hd h.symm)).trans ((Vbk _ _ (fun h=>lt d hd h.symm)).trans e)
 refine VaB ⟨plainId_quiet VbU _,?_⟩
 refine Zpf (B:=X.A.in1) (I.ok.hd hc) D hqa hqb hqc (fun h=>lt S h rfl) (fun s' as H' I' e L=>⟨rfl,kQ s' S as H' I' e L⟩) (Za2 xs ys us).length 0 _ H [] (by omega) I4 hS0 .nil st4 rfl fun d hd=>?_
 have z:=hf d hd
 exact ⟨by rw [Zaf (lt d hd)];exact z.1,z.2⟩
end
section
variable{X:Cx}
def tLZ(K:W.Frag)(ta:TA):TE:=fun σ H Q=>ta σ H fun vs H1=>∃p q r a b c xs ys us,vs=[.ref a,.ref b,.ref c]∧SqB K p H1 a xs∧SqB K q H1 b ys∧SqB K r H1 c us∧∀S as H',H' S=none→Lay3 H1 (Za2 xs ys us) as H'→Q (.ref S) (upd H' S (.lst (as.map V.ref)))
theorem Zt0{a b c:Expr}{ta:TA}{np lp pos pos':Pos}(hc:X.calm=true)(hg:Gl X "zip")(hm:X.mg "zip"=none)(hgl:Gl X "list")(hml:X.mg "list"=none)(ha:PA X [a,b,c] ta)(hs:starEach [a,b,c] X.env=[(false,eval a X.env),(false,eval b X.env),(false,eval c X.env)]:=by rfl)(hs2:starEach [b,c] X.env=[(false,eval b X.env),(false,eval c X.env)]:=by rfl)
  (hs3:starEach [.Call (.Name "zip" np) [a,b,c] [] pos] X.env=(false,eval (.Call (.Name "zip" np) [a,b,c] [] pos) X.env)::starEach [] X.env:=by rfl) :
  PE X (.Call (.Name "list" lp) [.Call (.Name "zip" np) [a,b,c] [] pos] [] pos') (tLZ X.K ta):=by
 intro pins s σ H Q I h
 refine Call_ (Zgh I hgl hml ZiY (VaG ?_ hs3 rfl))
 rw [hs3]
 show wpAny _ _ (spliced ((false,eval (.Call (.Name "zip" np) [a,b,c] [] pos) X.env)::backTo pos' (starEach [] X.env))) _ _ s
 refine Calls.spliced_cons ?_
 refine Call_ (Zgh I hg hm ZtA (VaG (thn (ha pos pins s σ H _ I h) fun vs0 s1 ⟨vs,H1,I1,r1,q1⟩=>?_) (by rw [hs,hs2]) (by rw [hs2];rfl)))
 obtain ⟨κ,μ,ν,l,m,n,xs,ys,us,e,hqa,hqb,hqc,q⟩:=q1
 subst e
 cases r1 with
 | cons r rr =>
  cases rr with
  | cons r' rr =>
   cases rr with
   | cons r'' rr =>
    cases rr
    cases r
    cases r'
    cases r''
    refine ZlR I1 hqa hqb hqc fun h' z TI TO i1 i2 i3 D hI st hfp _=>?_
    refine Calls.spliced_nil ?_
    exact ZqY hc D hI st hfp hqa hqb hqc fun s' S as H' I' e L=>⟨.ref S,_,I',rfl,q S as H' e L⟩
end
end L2
namespace L2.Ds
open PySem PySem.Spec PyProof.Rows Dl
section
variable{K:W.Frag}{mg:Str→Option Value}{F:Hp}
theorem Zpd{xs:List V}{ds:List D}{us:List D}(r:Rps K mg F xs ds)(e:zip3 ds=.ok us):∃p q t a b c as bs cs d1 d2 d3,xs=[.ref a,.ref b,.ref c]∧SqB K p F a as∧SqB K q F b bs∧SqB K t F c cs∧Rps K mg F as d1∧Rps K mg F bs d2∧Rps K mg F cs d3∧us=trips d1 d2 d3:=by
 unfold zip3 at e
 split at e
 ·next x y z =>
  obtain ⟨vx,vy,vz,rfl,rx,ry,rz⟩:=r.three
  cases e1:seqD x with
  | ok d1 =>
   rw [e1] at e
   cases e2:seqD y with
   | ok d2 =>
    cases e3:seqD z with
    | ok d3 =>
     have e':((seqD y).bind fun ys=>(seqD z).bind fun zs=>Res.ok (trips d1 ys zs))=.ok us:=e
     rw [e2] at e'
     have e'':((seqD z).bind fun zs=>Res.ok (trips d1 d2 zs))=.ok us:=e'
     rw [e3] at e''
     have e4:Res.ok (trips d1 d2 d3)=.ok us:=e''
     cases e4
     obtain ⟨p,a,as,rfl,ha,ra⟩:=Zmd rx e1
     obtain ⟨q,b,bs,rfl,hb,rb⟩:=Zmd ry e2
     obtain ⟨t,c,cs,rfl,hc,rc⟩:=Zmd rz e3
     exact ⟨p,q,t,a,b,c,as,bs,cs,d1,d2,d3,rfl,ha,hb,hc,ra,rb,rc,rfl⟩
    | ex c =>
     have e':((seqD y).bind fun ys=>(seqD z).bind fun zs=>Res.ok (trips d1 ys zs))=.ok us:=e
     rw [e2] at e'
     have e'':((seqD z).bind fun zs=>Res.ok (trips d1 d2 zs))=.ok us:=e'
     rw [e3] at e'';cases e''
    | bad =>
     have e':((seqD y).bind fun ys=>(seqD z).bind fun zs=>Res.ok (trips d1 ys zs))=.ok us:=e
     rw [e2] at e'
     have e'':((seqD z).bind fun zs=>Res.ok (trips d1 d2 zs))=.ok us:=e'
     rw [e3] at e'';cases e''
   | ex c =>
    have e':((seqD y).bind fun ys=>(seqD z).bind fun zs=>Res.ok (trips d1 ys zs))=.ok us:=e
    rw [e2] at e';cases e'
   | bad =>
    have e':((seqD y).bind fun ys=>(seqD z).bind fun zs=>Res.ok (trips d1 ys zs))=.ok us:=e
    rw [e2] at e';cases e'
  | ex c=>rw [e1] at e;cases e
  | bad=>rw [e1] at e;cases e
 ·cases e
theorem Zpi{ds:List D}{c:Str}:zip3 ds≠.ex c:=by
 intro e
 unfold zip3 at e
 split at e
 ·next x y z =>
  cases e1:seqD x with
  | ok d1 =>
   rw [e1] at e
   have e':((seqD y).bind fun ys=>(seqD z).bind fun zs=>Res.ok (trips d1 ys zs))=.ex c:=e
   cases e2:seqD y with
   | ok d2 =>
    rw [e2] at e'
    have e'':((seqD z).bind fun zs=>Res.ok (trips d1 d2 zs))=.ex c:=e'
    cases e3:seqD z with
    | ok d3=>rw [e3] at e'';cases e''
    | ex c'=>exact absurd e3 ZmG
    | bad=>rw [e3] at e'';cases e''
   | ex c'=>exact absurd e2 ZmG
   | bad=>rw [e2] at e';cases e'
  | ex c'=>exact absurd e1 ZmG
  | bad=>rw [e1] at e;cases e
 ·cases e
theorem Zqo:∀{H H':Hp} {ts:List (V×V×V)} {as:List Addr},Lay3 H ts as H'→∀{F:Hp},Same F H→∀{us:List D},us.length=ts.length→(∀(i:Nat) x y z d,ts[i]?=some (x,y,z)→us[i]?=some d→∃a b c,d=.tup [a,b,c]∧Rp K mg F x a∧Rp K mg F y b∧Rp K mg F z c)→∃F',Gr F H F' H'∧Rps K mg F' (as.map V.ref) us:=by
 intro H H' ts as L
 induction L with
 | nil =>
  intro F s us hl _
  have:us=[]:=List.length_eq_zero_iff.mp hl
  subst this
  exact ⟨F,.refl s,.nil⟩
 | @snoc ts as H1 T x y u L hT ih =>
  intro F s us hl hd
  have hl':us.length=ts.length+1:=by rw [hl,Va4];rfl
  obtain ⟨d,eu⟩ : ∃d,us[ts.length]?=some d:=⟨_,VbH (by omega)⟩
  obtain ⟨us',rfl⟩ : ∃us',us=us'++[d]:=by
   refine ⟨us.take ts.length,?_⟩
   have:=VbW ts.length us
   rw [Vbt (by omega),VbI (by omega)] at this
   have e:us[ts.length]=d:=by
    have:=VbH (show ts.length<us.length by omega)
    rw [eu] at this
    exact (Vau this).symm
   rw [e] at this
   exact this.symm
  have hl2:us'.length=ts.length:=by rw [Va4] at hl';simpa using hl'
  obtain ⟨F1,g1,r1⟩:=ih s hl2 fun i x y z e h1 h2=>hd i x y z e (by rw [Va1 ((Vat.mp h1).1)];exact h1) (by rw [Va1 ((Vat.mp h2).1)];exact h2)
  obtain ⟨a,b,c,rfl,ra,rb,rc⟩:=hd ts.length x y u d (by simp) eu
  have g2:Gr F1 H1 _ _:=.new g1.s hT (.tup [x,y,u])
  refine ⟨_,g1.trans g2,?_⟩
  rw [VbV]
  refine Rps.app (.cons (.tup (SqT.of Zag) (.cons ((ra.same g1.f).same g2.f) (.cons ((rb.same g1.f).same g2.f) (.cons ((rc.same g1.f).same g2.f) .nil)))) .nil) (r1.same g2.f)
theorem Zgw:∀{xs ys zs:List V} {ds es fs:List D},Rps K mg F xs ds→Rps K mg F ys es→Rps K mg F zs fs→(trips ds es fs).length=(Za2 xs ys zs).length∧∀(i:Nat) x y z d,(Za2 xs ys zs)[i]?=some (x,y,z)→(trips ds es fs)[i]?=some d→∃a b c,d=.tup [a,b,c]∧Rp K mg F x a∧Rp K mg F y b∧Rp K mg F z c
 | _,_,_,_,_,_,.nil,_,_=>⟨by simp [trips,Za2],fun i x y z d h=>by simp [Za2] at h⟩
 | _,_,_,_,_,_,.cons _ _,.nil,_=>⟨by simp [trips,Za2],fun i x y z d h=>by simp [Za2] at h⟩
 | _,_,_,_,_,_,.cons _ _,.cons _ _,.nil=>⟨by simp [trips,Za2],fun i x y z d h=>by simp [Za2] at h⟩
 | _,_,_,_,_,_,.cons h1 r1,.cons h2 r2,.cons h3 r3=>by
  obtain ⟨l,q⟩:=Zgw r1 r2 r3
  refine ⟨by simp [trips,Za2,l],fun i x y z d e1 e2=>?_⟩
  cases i with
  | zero =>
   simp [Za2] at e1
   obtain ⟨rfl,rfl,rfl⟩:=e1
   simp [trips] at e2
   subst e2
   exact ⟨_,_,_,rfl,h1,h2,h3⟩
  | succ i=>exact q i x y z d (by simpa [Za2] using e1) (by simpa [trips] using e2)
end
section
variable{X:Cx}{E:XK}{a b c:Expr}{n:Nat}{t:TA}{m:MA}{pos pos' lp p:Pos}
theorem d_lz(hcm:X.calm=true)(hg:Gl X "zip")(hm:X.mg "zip"=none)(hgl:Gl X "list")(hml:X.mg "list"=none)(ha:DA X E n [a,b,c] t m)(hs:starEach [a,b,c] X.env=[(false,eval a X.env),(false,eval b X.env),(false,eval c X.env)]:=by rfl)(hs2:starEach [b,c] X.env=[(false,eval b X.env),(false,eval c X.env)]:=by rfl)
  (hs3:starEach [.Call (.Name "zip" p) [a,b,c] [] pos] X.env=(false,eval (.Call (.Name "zip" p) [a,b,c] [] pos) X.env)::starEach [] X.env:=by rfl) :
  DE X E (.Call (.Name "list" lp) [.Call (.Name "zip" p) [a,b,c] [] pos] [] pos') (tLZ X.K t) (on lz3 m):=by
 refine ⟨Zt0 hcm hg hm hgl hml ha.p hs hs2 hs3,?_⟩
 intro F0 H0 F H σ ρ rr
 refine (ha.s F0 H0 F H σ ρ rr).bind (w':=fun vs H1 Q=>∃p q r a b c xs ys us,vs=[V.ref a,V.ref b,V.ref c]∧SqB X.K p H1 a xs∧SqB X.K q H1 b ys∧SqB X.K r H1 c us∧∀S as H',H' S=none→Lay3 H1 (Za2 xs ys us) as H'→Q (V.ref S) (upd H' S (.lst (as.map V.ref)))) fun F1 H1 xs ds g1 rs=>?_
 unfold lz3
 cases e:zip3 ds with
 | ok us =>
  obtain ⟨p,q,t,a,b,c,as,bs,cs,d1,d2,d3,rfl,ha,hb,hc,ra,rb,rc,rfl⟩:=Zpd rs e
  obtain ⟨l,z⟩:=Zgw ra rb rc
  refine fun Q q'=>⟨p,q,t,a,b,c,as,bs,cs,rfl,Zhx g1.s ha,Zhx g1.s hb,Zhx g1.s hc,fun S as' H' hS L=>?_⟩
  obtain ⟨F2,g2,r2⟩:=Zqo L g1.s l z
  have g3:Gr F2 H' _ _:=.new g2.s hS (.lst (as'.map V.ref))
  exact q' _ _ _ (g2.trans g3) (.lst (SqL.of Zag) (r2.same g3.f))
 | ex c'=>exact absurd e Zpi
 | bad=>trivial
end
end L2.Ds
namespace Dl
open PySem
end Dl
namespace L2
open PySem PySem.Spec PyProof.Rows PySem.Calls
end L2
namespace L2.Ds
open PySem PySem.Spec PyProof.Rows PySem.Calls Dl
end L2.Ds
namespace Dl
open PySem
end Dl
namespace L2
open PySem PySem.Spec PyProof.Rows
end L2
namespace L2.Ds
open PySem PySem.Spec PyProof.Rows PySem.Calls Dl
def GTup(K:W.Frag)(mg:Str→Option Value)(x:Str)(ns:List Int):Prop:=∃(a:Addr) (o:Obj) (its:Array Value) (n:Nat),mg x=some (.ref a)∧K.lookup a=some o∧o.cls=.type "tuple"∧o.data=.seq its n∧its.size≤sizeLine∧Vals (ns.map V.int) its.toList
theorem Zh4{K:W.Frag}{mg:Str→Option Value}{F:Hp}:∀ns:List Int,Rps K mg F (ns.map V.int) (ns.map D.int)
 | []=>.nil
 | n::r=>.cons (.int n) (Zh4 r)
section
variable{X:Cx}{E:XK}{a b c e tg:Expr}{es:List Expr}{t:TA}{m:MA}{n:Nat}{tb:TE}{mb:ME}{pos p lpos:Pos}
theorem ZoJ{x:Str}{ns:List Int}{A:Addr}{o:Obj}{its:Array Value}{n:Nat}(hg:Gl X x)(hm:X.mg x=some (.ref A))(h1:X.K.lookup A=some o)(h2:o.cls=.type "tuple")(h3:o.data=.seq its n)(h4:its.size≤sizeLine)(h5:Vals (ns.map V.int) its.toList)(hd:(x==("__debug__" : Str))=false:=by decide) :
  DE X E (.Name x pos) (tC (.ref A)) (Dl.c (.tup (ns.map .int))):=⟨Zjh hg hm rfl hd,se_c fun _=>.tup (.inr ⟨o,its,n,h1,h2,h3,h4,h5⟩) (Zh4 ns)⟩
end
end L2.Ds
namespace Dl
open PySem
end Dl
namespace L2.Ds
open PySem PySem.Spec PyProof.Rows PySem.Calls Dl
end L2.Ds
namespace Dl
open PySem
end Dl
namespace L2.Ds
open PySem PySem.Spec PyProof.Rows Dl
end L2.Ds
namespace Dl
open PySem
def Zi0(it:MI)(own:Nat)(cap:List Nat)(g:MG)(t:MB)(e:ME):ME:=fun ρ=>(it ρ).bind fun xs =>
 if xs.length≤LIM then (Zak g t e (noA own (capD ρ cap)) xs).bind fun ys=>.ok (.lst ys) else .bad
end Dl
namespace L2
open PySem PySem.Spec PyProof.Rows
section
variable{M:Model}{A:Around}{E:Value→Shared→Prop}{s:Shared}{B:Heap}{env cenv:Env}{outer l:List Env}{L e:Addr}{cls a0 fl:Value}
theorem Zg8{h h' B':Heap}{C:Addr}(sB:∀b o,B'.get? b=some o→B.get? b=some o)(k:∀b o,b≠C→h.get? b=some o→h'.get? b=some o):∀{l:List Env},C∉frs l→h.FunFrames B l→h'.FunFrames B' l
 | [],_,_=>trivial
 | v::r,hC,⟨h1,⟨L,o,h2,h3,h4,h5⟩,h6⟩=>by
  have nC:L≠C∧C∉frs r:=by
   unfold frs at hC ⊢
   rw [Vam,h2] at hC
   exact ⟨fun z=>hC (z▸Van),fun z=>hC (Vao _ z)⟩
  refine ⟨h1,⟨L,o,h2,?_,k L o nC.1 h4,h5⟩,Zg8 sB k nC.2 h6⟩
  cases q:B'.get? L with
  | none=>rfl
  | some u=>rw [sB L u q] at h3;cases h3
theorem ZfC{Q:Unit→Shared→Prop}(hfr:A.frames=some (env::outer))(hf:env.frame=some L)(hkb:B.StaysIn s.heap)(hen:B.get? e=none)(hl:s.heap.FunFrames B (env::outer))(ht:s.heap.TracedAtW B e cls a0 fl)
  (hQ:∀h',Heap.FlyingW B outer e cls a0 h'→s.heap.UpToSlots h'→Q () { s with heap:=h' }):wpAny M A (leaving env (.ref e)) Q E s:=by
 by_cases hfl:fl=rawInt L
 ·subst hfl
  unfold leaving
  refine VaC (wpAny_noteFrame_againW hf ht ?_)
  refine wpAny_landsW (L:=L) ⟨hkb,hen,hl,ht⟩ fun h' x1 sm=>?_
  obtain ⟨k1,k2,⟨_,_,k3⟩,k4⟩:=x1
  exact hQ h' ⟨k1,k2,k3,k4⟩ sm
 ·obtain ⟨oe,vs,T,oT,ts,he,⟨hcls,h0⟩,hd,h1,hnT,hTe,hT,hdT,h3⟩:=ht
  subst hcls
  have away:∀b,b≠T→(s.heap.update T (Obj.mapFields (·.setIfInBounds 3 Value.none))).get? b=s.heap.get? b:=fun b hb=>Vbk _ _ (Ne.symm hb)
  have neT:∀b o,s.heap.get? b=some o→(∀vs,o.data≠.fields vs)→b≠T:=fun b o hb hnf q=>by
   rw [q,hT] at hb
   cases hb
   exact hnf ts hdT
  unfold leaving noteFrame
  simp only [hf]
  refine VaC (VaC (Va9 he hd h1 ?_))
  rw [if_pos (show (Value.ref T != Value.none)=true from by simp)]
  refine VaC (Va9 hT hdT h3 ?_)
  rw [if_neg (show ¬((fl==rawInt L)=true) from by simpa using hfl)]
  refine VaC (wpAny_setField hT hdT (VbX.mp h3).1 ?_)
  refine wpAny_newEntryW hfr (hl.of_keeps fun b o hb hnf=>⟨o,(away b (neT b o hb hnf)).trans hb,rfl⟩) hf ((away e (Ne.symm hTe)).trans he) (fun b o hbo=>(away b fun q=>by rw [q,hnT] at hbo;cases hbo).trans (hkb b o hbo)) hen hd (VbX.mp h1).1 h0 fun h' x=>?_
  obtain ⟨x1,⟨_,_,x2⟩,x3,x4⟩:=x
  exact hQ h' ⟨x1,hen,x2,x3⟩ fun b o hb hnf=>x4 b o ((away b (neT b o hb hnf)).trans hb) hnf
theorem Zf7{what:String}(hkb:B.StaysIn s.heap)(hl:s.heap.FunFrames B l)(ht:s.heap.TracedAtW B e cls a0 fl)
  (h:∀h' fl',B.StaysIn h'→h'.FunFrames B l→h'.TracedAtW B e cls a0 fl'→(∀b o,s.heap.get? b=some o→(∀vs,o.data≠.fields vs)→h'.get? b=some o)→E (.ref e) { s with heap:=h' }) :
  wpAny M A (PySem.passOn what (.ref e) cenv:Sem Value) (fun _ _=>False) E s:=by
 obtain ⟨oe,vs,T,oT,ts,he,hcls,hd,h1,hnT,hTe,hT,hdT,h3⟩:=ht
 have sz:3<ts.size:=(VbX.mp h3).1
 have away:∀b,b≠T→(s.heap.update T (Obj.mapFields (·.setIfInBounds 3 (cenv.frame.elim Value.none fun f=>rawInt f)))).get? b=s.heap.get? b:=fun b hb=>Vbk _ _ (Ne.symm hb)
 have neT:∀b o,s.heap.get? b=some o→(∀vs,o.data≠.fields vs)→b≠T:=fun b o hb hnf q=>by
  rw [q,hT] at hb
  cases hb
  exact hnf ts hdT
 unfold PySem.passOn
 refine VaC (Va9 he hd h1 ?_)
 rw [if_neg (show ¬((Value.ref T==Value.none)=true) from by simp)]
 refine VaC ?_
 unfold setFlight
 refine VaC (Va9 he hd h1 ?_)
 rw [if_pos (show (Value.ref T != Value.none)=true from by simp)]
 refine wpAny_setField hT hdT sz ?_
 refine wpAny_throw ?_
 refine h _ (cenv.frame.elim Value.none fun f=>rawInt f) (fun b o hbo=>(away b fun q=>by rw [q,hnT] at hbo;cases hbo).trans (hkb b o hbo)) (hl.of_keeps fun b o hb hnf=>⟨o,(away b (neT b o hb hnf)).trans hb,rfl⟩) ?_ fun b o hb hnf=>(away b (neT b o hb hnf)).trans hb
 exact ⟨oe,vs,T,_,_,(away e (Ne.symm hTe)).trans he,hcls,hd,h1,hnT,hTe,VbC _ hT (Obj.isFreed_of_fields (VbD hdT _)),VbD hdT _,by simp [sz]⟩
end
theorem Zqy{P:Program}{w:World}{l l':List Env}{H H':Hp}{s s':Shared}{x:Addr}{cls a0:Value}{B h':Heap}(os:s'.os=s.os)(bare:AllBare s'.gens)(un:Un (frs l) [] H H' s.heap s'.heap)(hok:HOk P w H' s'.heap)
  (frf:∀b∈frs l,H' b=none) (nf:∀b∈frs l,∃o,s'.heap.get? b=some o∧∀vs,o.data≠.fields vs)
  (cov:∀b o,s'.heap.get? b=some o→(H' b≠none∨∃o',s.heap.get? b=some o')→b∉frs l→B.get? b=some o)
  (sub:∀b∈frs l',b∈frs l) (new:∀b∈frs l,b∉frs l'→s.heap.get? b=none) (fl:Heap.FlyingW B l' x cls a0 h') (sm:∀b∈frs l,∀o,s'.heap.get? b=some o→(∀vs,o.data≠.fields vs)→∃sl,h'.get? b=some { o with slots:=sl }) (free:H' x=none) :
  Fly P w l' H H' s { s' with heap:=h' } x cls:=by
 have stay:∀b o,s'.heap.get? b=some o→(H' b≠none∨∃o',s.heap.get? b=some o')→b∉frs l→h'.get? b=some o:=fun b o e q hb=>fl.1 b o (cov b o e q hb)
 have out:∀{b:Addr} {o:Obj},s.heap.get? b=some o→b∉frs l'→b∉frs l:=fun {b o} e hb z=>by
  rw [new b z hb] at e;cases e
 refine ⟨os,bare,⟨fun b o e n hb hx=>?_,fun b o e n hb hx=>?_,un.free,fun b o e hx=>?_,un.tups,un.frzs,un.tbls⟩,fun a o e=>?_,fun b hb=>frf b (sub b hb),free,B,a0,fl,fun b o e q hb=>?_⟩
 ·exact stay b o (un.keep b o e n (out e hb) hx) (.inr ⟨o,e⟩) (out e hb)
 ·obtain ⟨sl,q⟩:=un.slot b o e n (sub b hb) hx
  obtain ⟨o1,q1,d1⟩:=nf b (sub b hb)
  rw [q] at q1;cases q1
  obtain ⟨sl',q2⟩:=sm b (sub b hb) _ q d1
  exact ⟨sl',q2⟩
 ·obtain ⟨o',q⟩:=un.there b o e hx
  by_cases hb:b∈frs l
  ·obtain ⟨o1,q1,d1⟩:=nf b hb
   obtain ⟨sl',q2⟩:=sm b hb _ q1 d1
   exact ⟨_,q2⟩
  ·exact ⟨o',stay b o' q (.inr ⟨o,e⟩) hb⟩
 ·refine (hok a o e).stay (fun b u hb q=>?_) (fun _ q=>q) fun _ _ q=>q
  have tr:H' b≠none:=by
   rcases hb with rfl | hb
   ·rw [e];simp
   ·rw [hb];simp
  exact stay b u q (.inl tr) fun z=>tr (frf b z)
 ·have hb':b∉frs l:=by
   intro z
   rcases q with q | ⟨o',q⟩
   ·exact q (frf b z)
   ·exact out q hb z
  have ⟨o1,q1⟩ : ∃o1,s'.heap.get? b=some o1:=by
   rcases q with q | ⟨o',q⟩
   ·cases z:H' b with
    | none=>exact absurd z q
    | some u=>exact (hok b u z).there
   ·exact un.there b o' q (by simp)
  have c:=cov b o1 q1 q hb'
  have z:=fl.1 b o1 c
  have e':h'.get? b=some o:=e
  rw [e'] at z;cases z
  exact c
def xfE(E:XK)(X:Cx):Addr→Shared→Hp→List Addr→Value→Shared→Prop:=fun C s H fp e s'=>∃H6 s6,s6.os=s.os∧Un (frs X.stack) fp H H6 s.heap s6.heap∧(∃m,s6.heap.Ns C m)∧H6 C=none∧CXR X.prog X.w X.stack H6 s6 E e s'
theorem Zqz{X:Cx}{E:XK}{N:List Str}{scope:Scope}{cl:List (Str×Addr)}{C:Addr}{s:Shared}{H:Hp}{fp:List Addr}{pn:List (Addr×Obj)}:Zcl (CXR X.prog X.w) (Zav (xfE E X) X N scope cl C s H fp pn) E:=by
 intro pins σ H6 s6 e s' I h
 obtain ⟨m,hn,_⟩:=I.loc
 exact ⟨H6,s6,I.os,I.base,⟨m,hn⟩,I.free,h⟩
section
variable{X:Cx}{E:XK}{pins:List (Addr×Obj)}{σ:St}{H:Hp}{s s7:Shared}{fp:List Addr}{scope:Scope}{cells:List (Str×Addr)}{C:Addr}{e acc:Value}{use:Option (Value→Sem Unit)}{Q:Value→Shared→Prop}
theorem Un.strip{fs ex:List Addr}{H H1:Hp}{h h1:Heap}(u:Un fs ex H H1 h h1)(n:∀b∈ex,h.get? b=none):Un fs [] H H1 h h1:=by
 have no:∀{b:Addr} {o:Obj},h.get? b=some o→b∉ex:=fun {b o} e z=>by rw [n b z] at e;cases e
 exact ⟨fun b o e q1 q2 _=>u.keep b o e q1 q2 (no e),fun b o e q1 q2 _=>u.slot b o e q1 q2 (no e),fun b o e q1 _=>u.free b o e q1 (no e),fun b o e _=>u.there b o e (no e),u.tups,u.frzs,u.tbls⟩
theorem ZnT(hst:X.stack=X.env::X.outer)(hfr:X.env.frame=some X.env.locals)(hex:X.ex=[])
  (hxe:X.xe=fun e s'=>wpAny (model X.prog X.w) X.A (leaving X.env e) (fun _ s''=>CXR X.prog X.w X.outer X.H₀ X.s₀ E e s'') (fun e' s''=>CXR X.prog X.w X.outer X.H₀ X.s₀ E e' s'') s')
  (I:Inv X pins σ H s) (fpn:∀b∈fp,X.s₀.heap.objs.size≤b) (hC:s.heap.objs.size≤C) (h:xfE E X C s H fp e s7) :
  notedBy (model X.prog X.w) X.A (compEnvC scope cells C X.env) (fun e s'=>compPost (model X.prog X.w) X.A X.xe use Q acc C (.error e) s') e s7:=by
 obtain ⟨H6,s6,os6,un6,⟨m,oc,es,ep,ho,hd,hk⟩,fC,x,cls,H',rfl,F,q⟩:=h
 obtain ⟨B,a0,fl,cov⟩:=F.ex
 have nfC:C∉frs X.stack:=fun z=>by
  rcases Vaq.mp (I.stkSub C z) with q | q
  ·exact absurd (Vae I.lt hC) (by rw [q];exact Vaf _)
  ·exact I.nofs hC q
 have C7:s7.heap.get? C=some oc:=F.un.keep C oc ho fC nfC (by simp)
 have nC7:H' C=none:=F.un.free C oc ho fC (by simp)
 have C0:X.s₀.heap.get? C=none:=Vap (Vaj I.sz hC)
 have ns7:s7.heap.Ns C m:=⟨oc,es,ep,C7,hd,hk⟩
 show wpAny _ _ (noteFrame (.ref x) X.env) _ _ s7
 refine wpAny_looks_onW (outer:=X.outer) (by rw [←hst];exact I.ok.frames) hfr (by rw [←hst];exact fl) fun h8 held sm8=>?_
 obtain ⟨k1,k2,k3,k4⟩:=held
 refine ⟨m,sm8.ns ns7,fun h9 sb cenv' _=>?_⟩
 have kb9:∀b o,b≠C→h8.get? b=some o→h9.get? b=some o:=fun b o hb z=>sb.extBut b o hb z
 obtain ⟨sl8,C8⟩:=sm8 C oc C7 fun vs z=>by rw [hd] at z;cases z
 have neF:∀{b:Addr} {o:Obj} {vs:Array Value},h8.get? b=some o→o.data=.fields vs→b≠C:=fun {b o vs} z1 z2 z3=>by
  rw [z3,C8] at z1
  cases z1
  have z2':oc.data=.fields vs:=z2
  rw [hd] at z2'
  cases z2'
 have hide:∀b o,(W.hideAll B [C]).get? b=some o→B.get? b=some o:=fun b o z=>W.of_hideAll _ z
 have hideC:∀b o,(W.hideAll B [C]).get? b=some o→b≠C:=fun b o z1 z2=>by
  rw [z2,W.hideAll_none [C] (by simp)] at z1
  cases z1
 have t9:h9.TracedAtW (W.hideAll B [C]) x cls a0 (rawInt X.env.locals):=by
  obtain ⟨oe,vs,T,oT,ts,he,hc,hd,h1,hnT,hTe,hT,hdT,h3⟩:=k4
  refine ⟨oe,vs,T,oT,ts,kb9 _ _ (neF he hd) he,hc,hd,h1,?_,hTe,kb9 _ _ (neF hT hdT) hT,hdT,h3⟩
  cases z:(W.hideAll B [C]).get? T with
  | none=>rfl
  | some u=>rw [hide _ _ z] at hnT;cases hnT
 have st9:(W.hideAll B [C]).StaysIn h9:=fun b o z=>kb9 b o (hideC b o z) (k1 b o (hide b o z))
 have en9:(W.hideAll B [C]).get? x=none:=by
  cases z:(W.hideAll B [C]).get? x with
  | none=>rfl
  | some u=>rw [hide _ _ z] at k2;cases k2
 have f9:h9.FunFrames (W.hideAll B [C]) (X.env::X.outer):=Zg8 hide kb9 (by rw [←hst];exact nfC) k3
 refine Zf7 (l:=X.env::X.outer) st9 f9 t9 fun h10 fl' st10 f10 t10 sm10=>?_
 rw [hxe]
 refine ZfC (by rw [←hst];exact I.ok.frames) hfr st10 en9 f10 t10 fun h11 fl11 sm11=>?_
 refine ⟨x,cls,H',rfl,?_,q⟩
 have un:Un (frs X.stack) [] X.H₀ H' X.s₀.heap s7.heap:=by
  refine Un.strip (ex:=fp) ?_ fun b hb=>Vap (fpn b hb)
  exact ((I.base.mono I.sub (by rw [hex];simp)).trans un6).trans (F.un.mono (fun _ z=>z) (by simp))
 refine Zqy (l:=X.stack) (s':=s7) (F.os.trans (os6.trans I.os)) F.bare un F.hok F.frf (fun b hb=>(fl.2.2.1.mem hb).2) (B:=W.hideAll B [C]) (a0:=a0) (fun b o z1 z2 z3=>?_) I.sub (fun b h1 h2=>?_) fl11 (fun b hb o z1 z2=>?_) F.free
 ·have nb:b≠C:=by
   rintro rfl
   rcases z2 with z2 | ⟨o',z2⟩
   ·exact z2 nC7
   ·rw [C0] at z2;cases z2
  have zB:B.get? b=some o:=cov b o z1 (z2.imp id fun ⟨o',z⟩=>by
   obtain ⟨o1,w1⟩:=I.base.there b o' z (by rw [hex];simp)
   exact un6.there b o1 w1 fun hb=>by
    rw [Vap (fpn b hb)] at z;cases z) z3
  exact W.hideAll_get _ zB (by simpa using nb)
 ·rcases Vaq.mp (I.stkSub b h1) with e | e
  ·rw [e];exact Vap I.ok.above
  ·exact absurd e h2
 ·have nb:b≠C:=fun z=>nfC (z▸hb)
  obtain ⟨sl,w8⟩:=sm8 b o z1 z2
  have w9:=kb9 b _ nb w8
  have w10:=sm10 b _ w9 z2
  obtain ⟨sl',w11⟩:=sm11 b _ w10 z2
  exact ⟨sl',w11⟩
end
section
variable{X:Cx}{own:List Str}{cap:List (Str×Nat)}{scope:Scope}{cl:List (Str×Addr)}{pins:List (Addr×Obj)}{σ:St}{H:Hp}{s:Shared}{fp:List Addr}{tg:Expr}{J:It}{it:Addr}{tn:Nat→Heap→Prop}{E:XK}
structure ZrG(X:Cx)(E:XK):Prop where
 hst:X.stack=X.env::X.outer
 hfr:X.env.frame=some X.env.locals
 hex:X.ex=[]
 hxe:X.xe=fun e s'=>wpAny (model X.prog X.w) X.A (leaving X.env e) (fun _ s''=>CXR X.prog X.w X.outer X.H₀ X.s₀ E e s'') (fun e' s''=>CXR X.prog X.w X.outer X.H₀ X.s₀ E e' s'') s'
theorem Zog{elt iter:Expr}{pos:Pos}{wi:TI}{ts:List Expr}{g:Fam TG}{tt:Fam TT}{te:Fam TE}(b:ZrG X E)(hi:PI X tg iter wi)(O:Zdk X own cap scope cl)(hc:X.calm=true)
  (hg:∀C s H fp pn,PG (Zav (xfE E X) X (own++cap.map (·.1)) scope cl C s H fp pn) tg (g C s H fp pn)) (ht:∀C s H fp pn,PTs (Zav (xfE E X) X (own++cap.map (·.1)) scope cl C s H fp pn) ts (tt C s H fp pn)) (he:∀C s H fp pn,PE (Zav (xfE E X) X (own++cap.map (·.1)) scope cl C s H fp pn) elt (te C s H fp pn)) (hts:ts.length≤1)
  (hs:∀x,foldedSetIterable iter X.env x=pure x:=by intro _;rfl):PE X (.ListComp elt [⟨tg,iter,ts,0⟩] scope pos) (Zfp wi g tt te own cap):=by
 intro pins s σ H Q I h
 rw [eval_ListComp]
 refine wpAny_comprehension_free (use:=none) rfl hs O.clos O.kind O.locals (thn (hi pins s σ H _ I h) fun xv s₁ h₁=>thn h₁ fun itv s₂ h₂=>?_)
 obtain ⟨it,fp,tn,J,H2,rfl,I2,T,st2,f2,hw⟩:=h₂
 refine Zim (xf:=xfE E X) (R:=fun acc C=>compPost (model X.prog X.w) X.A X.xe none (EP X pins σ Q) acc C) O hc hg ht he hts I2 T st2 f2 hw ?_ ?_
 ·intro D C H' s' m hC hn hH IV q
  exact ⟨m,hn,fun h' sb=>⟨.ref D,H',IV h' sb,rfl,q⟩⟩
 ·intro D C cells e s' hC z
  refine ZnT b.hst b.hfr b.hex b.hxe I2 (fun a ha=>?_) hC z
  rcases (f2 a ha).2.2.2.1 with q | q
  ·rw [b.hex] at q;cases q
  ·exact q
end
end L2
namespace L2.Ds
open PySem PySem.Spec PyProof.Rows Dl
section
variable{K:W.Frag}{mg:Str→Option Value}{E:XK}{F0 H0 F H:Hp}{σ:St}{ρ:Ev}
theorem Zn2{t:TG}{g:MG}{tt:TT}{nt:MB}{te:TE}{me:ME}{own:List Str}{cap:List (Str×Nat)}{J:It}{ds ys:List D}(r:Rep K mg F0 H0 F H σ ρ)(jo:ItOk K mg F J ds)(hg:SG K mg own.length t g)(ht:STt K mg E tt nt)(he:SE K mg E te me)
  (hl:ds.length≤LIM) (e0:Dl.Zak g nt me (noA own.length (capD ρ (cap.map (·.2)))) ds=.ok ys) (Q:VK) (q:∀F' H' xs,Gr F H F' H'→Rps K mg F' xs ys→xs.length≤sizeLine→∀p,H' p=none→Q (.ref p) (upd H' p (.lst xs))) :
  Zdz J t tt te own cap σ Q H:=by
 refine ⟨fun i k acc H'=>k=ds.length - i∧i≤ds.length∧acc.length≤i∧∃F' zs rs,Gr F H F' H'∧Rps K mg F' acc zs∧Dl.Zak g nt me (noA own.length (capD ρ (cap.map (·.2)))) (ds.drop i)=.ok rs∧zs++rs=ys,
  ⟨ds.length,by simp,VaQ _,VaF _,F,[],ys,.refl r.ss,.nil,e0,rfl⟩,?_⟩
 rintro i k acc H' ⟨rfl,hi,ha,F',zs,rs,g1,r1,e1,e2⟩
 have la:acc.length≤LIM:=Vaj ha (Vaj hi hl)
 refine ⟨Zft la,?_⟩
 by_cases hlt:i<ds.length
 ·refine .inr ?_
  have hd:ds[i]?=some ds[i]:=VbH hlt
  obtain ⟨go,yl⟩:=(jo F' H' g1.f g1.s i).1 _ hd
  rw [Vbt hlt] at e1
  refine ⟨go,fun x H2 y=>?_⟩
  obtain ⟨F2,g2,rx⟩:=yl x H2 y
  have rr:=(r.gr (g1.trans g2)).inner (own:=own) (cap:=cap) (g1.trans g2)
  have hG:=hg F H F2 H2 _ _ x _ rr rx
  have e':(g ds[i] (noA own.length (capD ρ (cap.map (·.2))))).bind (fun ρ1=>(nt ρ1).bind fun b=>if b=true then (me ρ1).bind fun y=>(Dl.Zak g nt me (noA own.length (capD ρ (cap.map (·.2)))) (ds.drop (i+1))).bind fun ys=>.ok (y::ys) else Dl.Zak g nt me (noA own.length (capD ρ (cap.map (·.2)))) (ds.drop (i+1)))=.ok rs:=e1
  cases eg:g ds[i] (noA own.length (capD ρ (cap.map (·.2)))) with
  | ok ρ1 =>
   rw [eg] at e' hG
   refine hG _ fun F3 H3 σ3 s3 r3 d3=>⟨d3.trans ZiV,?_⟩
   have hT:=ht F H F3 H3 σ3 ρ1 r3
   have sF:Same F' F3:=g2.f.trans s3
   have e3:(nt ρ1).bind (fun b=>if b=true then (me ρ1).bind fun y=>(Dl.Zak g nt me (noA own.length (capD ρ (cap.map (·.2)))) (ds.drop (i+1))).bind fun ys=>.ok (y::ys) else Dl.Zak g nt me (noA own.length (capD ρ (cap.map (·.2)))) (ds.drop (i+1)))=.ok rs:=e'
   cases et:nt ρ1 with
   | ok b =>
    rw [et] at e3 hT
    refine hT _ fun F4 H4 b' g4 eb=>?_
    cases (show b'=b from eb)
    cases b with
    | true =>
     rw [if_pos rfl]
     have e4:(me ρ1).bind (fun y=>(Dl.Zak g nt me (noA own.length (capD ρ (cap.map (·.2)))) (ds.drop (i+1))).bind fun ys=>.ok (y::ys))=.ok rs:=e3
     have hE:=he F H F4 H4 σ3 ρ1 (r3.gr g4)
     cases em:me ρ1 with
     | ok y' =>
      rw [em] at e4 hE
      refine hE _ fun F5 H5 u g5 ru=>⟨Vbn la (by decide),ds.length - (i+1),by omega,rfl,hlt,by rw [Va4];show acc.length+1≤i+1;omega,?_⟩
      have e5:(Dl.Zak g nt me (noA own.length (capD ρ (cap.map (·.2)))) (ds.drop (i+1))).bind (fun ys=>.ok (y'::ys))=.ok rs:=e4
      cases ec:Dl.Zak g nt me (noA own.length (capD ρ (cap.map (·.2)))) (ds.drop (i+1)) with
      | ok rs' =>
       rw [ec] at e5
       have e6:Res.ok (y'::rs')=.ok rs:=e5
       cases e6
       exact ⟨F5,zs++[y'],rs',r3.g.trans (g4.trans g5),Rps.app (.cons ru .nil) (r1.same (sF.trans (g4.f.trans g5.f))),rfl,by rw [VbK];exact e2⟩
      | ex c=>rw [ec] at e5;cases e5
      | bad=>rw [ec] at e5;cases e5
     | ex c=>rw [em] at e4;cases e4
     | bad=>rw [em] at e4;cases e4
    | false =>
     rw [if_neg Vaz]
     have e4:Dl.Zak g nt me (noA own.length (capD ρ (cap.map (·.2)))) (ds.drop (i+1))=.ok rs:=e3
     exact ⟨ds.length - (i+1),by omega,rfl,hlt,by omega,F4,zs,rs,r3.g.trans g4,r1.same (sF.trans g4.f),e4,e2⟩
   | ex c=>rw [et] at e3;cases e3
   | bad=>rw [et] at e3;cases e3
  | ex c=>rw [eg] at e';cases e'
  | bad=>rw [eg] at e';cases e'
 ·have hi2:i=ds.length:=by omega
  subst hi2
  rw [VbI (VaF _)] at e1
  cases e1
  rw [VaS] at e2
  subst e2
  exact .inl ⟨(jo F' H' g1.f g1.s _).2 (VaF _),q F' H' acc g1 r1 (Zft la)⟩
theorem Znm{t:TG}{g:MG}{tt:TT}{nt:MB}{te:TE}{me:ME}{own:List Str}{cap:List (Str×Nat)}{J:It}{ds:List D}{c:Str}(r:Rep K mg F0 H0 F H σ ρ)(jo:ItOk K mg F J ds)(hg:SG K mg own.length t g)(hgx:∀d ρ c,g d ρ≠.ex c)(ht:STt K mg E tt nt)(he:SE K mg E te me)
  (hl:ds.length≤LIM) (e0:Dl.Zak g nt me (noA own.length (capD ρ (cap.map (·.2)))) ds=.ex c) (Q:VK) (q:∀F' H' C,Gr F H F' H'→mg c=some (.ref C)→E (.ref C) none H') :
  Zdz J t tt te own cap σ Q H:=by
 refine ⟨fun i k acc H'=>k=ds.length - i∧i≤ds.length∧acc.length≤i∧∃F',Gr F H F' H'∧Dl.Zak g nt me (noA own.length (capD ρ (cap.map (·.2)))) (ds.drop i)=.ex c,
  ⟨ds.length,by simp,VaQ _,VaF _,F,.refl r.ss,e0⟩,?_⟩
 rintro i k acc H' ⟨rfl,hi,ha,F',g1,e1⟩
 have la:acc.length≤LIM:=Vaj ha (Vaj hi hl)
 refine ⟨Zft la,?_⟩
 by_cases hlt:i<ds.length
 case neg =>
  rw [VbI (by omega)] at e1
  cases e1
 refine .inr ?_
 have hd:ds[i]?=some ds[i]:=VbH hlt
 obtain ⟨go,yl⟩:=(jo F' H' g1.f g1.s i).1 _ hd
 rw [Vbt hlt] at e1
 refine ⟨go,fun x H2 y=>?_⟩
 obtain ⟨F2,g2,rx⟩:=yl x H2 y
 have rr:=(r.gr (g1.trans g2)).inner (own:=own) (cap:=cap) (g1.trans g2)
 have hG:=hg F H F2 H2 _ _ x _ rr rx
 have e':(g ds[i] (noA own.length (capD ρ (cap.map (·.2))))).bind (fun ρ1=>(nt ρ1).bind fun b=>if b=true then (me ρ1).bind fun y=>(Dl.Zak g nt me (noA own.length (capD ρ (cap.map (·.2)))) (ds.drop (i+1))).bind fun ys=>.ok (y::ys) else Dl.Zak g nt me (noA own.length (capD ρ (cap.map (·.2)))) (ds.drop (i+1)))=.ex c:=e1
 cases eg:g ds[i] (noA own.length (capD ρ (cap.map (·.2)))) with
 | bad=>rw [eg] at e';cases e'
 | ex c'=>exact absurd eg (hgx _ _ _)
 | ok ρ1 =>
  rw [eg] at e' hG
  refine hG _ fun F3 H3 σ3 s3 r3 d3=>⟨d3.trans ZiV,?_⟩
  have hT:=ht F H F3 H3 σ3 ρ1 r3
  have e3:(nt ρ1).bind (fun b=>if b=true then (me ρ1).bind fun y=>(Dl.Zak g nt me (noA own.length (capD ρ (cap.map (·.2)))) (ds.drop (i+1))).bind fun ys=>.ok (y::ys) else Dl.Zak g nt me (noA own.length (capD ρ (cap.map (·.2)))) (ds.drop (i+1)))=.ex c:=e'
  cases et:nt ρ1 with
  | bad=>rw [et] at e3;cases e3
  | ex c' =>
   rw [et] at e3 hT
   cases (show Res.ex c'=.ex c from e3)
   exact hT _ fun F4 H4 C g4 hC=>q F4 H4 C (r3.g.trans g4) hC
  | ok b =>
   rw [et] at e3 hT
   refine hT _ fun F4 H4 b' g4 eb=>?_
   cases (show b'=b from eb)
   cases b with
   | false =>
    rw [if_neg Vaz]
    exact ⟨ds.length - (i+1),by omega,rfl,hlt,by omega,F4,r3.g.trans g4,e3⟩
   | true =>
    rw [if_pos rfl]
    have e4:(me ρ1).bind (fun y=>(Dl.Zak g nt me (noA own.length (capD ρ (cap.map (·.2)))) (ds.drop (i+1))).bind fun ys=>.ok (y::ys))=.ex c:=e3
    have hE:=he F H F4 H4 σ3 ρ1 (r3.gr g4)
    cases em:me ρ1 with
    | bad=>rw [em] at e4;cases e4
    | ex c' =>
     rw [em] at e4 hE
     cases (show Res.ex c'=.ex c from e4)
     exact hE _ fun F5 H5 C g5 hC=>q F5 H5 C (r3.g.trans (g4.trans g5)) hC
    | ok y' =>
     rw [em] at e4 hE
     have e5:(Dl.Zak g nt me (noA own.length (capD ρ (cap.map (·.2)))) (ds.drop (i+1))).bind (fun ys=>.ok (y'::ys))=.ex c:=e4
     refine hE _ fun F5 H5 u g5 ru=>⟨Vbn la (by decide),ds.length - (i+1),by omega,rfl,hlt,by rw [Va4];show acc.length+1≤i+1;omega,F5,r3.g.trans (g4.trans g5),?_⟩
     cases ec:Dl.Zak g nt me (noA own.length (capD ρ (cap.map (·.2)))) (ds.drop (i+1)) with
     | ok rs=>rw [ec] at e5;cases e5
     | bad=>rw [ec] at e5;cases e5
     | ex c' =>
      rw [ec] at e5
      exact e5
theorem Zob{wi:TI}{mi:MI}{t:Fam TG}{g:MG}{tt:Fam TT}{nt:MB}{te:Fam TE}{me:ME}{own:List Str}{cap:List (Str×Nat)}(hi:SI K mg E wi mi)(hg:∀C s H fp pn,SG K mg own.length (t C s H fp pn) g)(hgx:∀d ρ c,g d ρ≠.ex c)(ht:∀C s H fp pn,STt K mg E (tt C s H fp pn) nt)(he:∀C s H fp pn,SE K mg E (te C s H fp pn) me) :
  SE K mg E (Zfp wi t tt te own cap) (Zi0 mi own.length (cap.map (·.2)) g nt me):=by
 intro F0 H0 F H σ ρ rr
 refine (hi F0 H0 F H σ ρ rr).bind (w':=fun J H1 Q=>∀C s H2 fp pn,Zdz J (t C s H2 fp pn) (tt C s H2 fp pn) (te C s H2 fp pn) own cap σ Q H1) fun F1 H1 J ds g1 jo=>?_
 by_cases hl:ds.length≤LIM
 ·rw [if_pos hl]
  cases e:Dl.Zak g nt me (noA own.length (capD ρ (cap.map (·.2)))) ds with
  | ok ys=>exact fun Q q C s H2 fp pn=>Zn2 (rr.gr g1) jo (hg C s H2 fp pn) (ht C s H2 fp pn) (he C s H2 fp pn) hl e Q fun F' H' xs g2 rs _ p hp=>q _ _ _ (g2.trans (.new g2.s hp _)) (.lst (SqL.of Zag) (rs.same (ZaA (g2.s.free hp) _)))
  | ex c=>exact fun Q q C s H2 fp pn=>Znm (rr.gr g1) jo (hg C s H2 fp pn) hgx (ht C s H2 fp pn) (he C s H2 fp pn) hl e Q fun F' H' C g2 hC=>q F' H' C g2 hC
  | bad=>trivial
 ·rw [if_neg hl];trivial
end
section
variable{X:Cx}{E:XK}{tg iter elt:Expr}{ts:List Expr}{me:ME}{na:MB}{pos:Pos}
theorem Zjk{own:List Str}{cap:List (Str×Nat)}{scope:Scope}{cl:List (Str×Addr)}{wi:TI}{mi:MI}{g:Fam TG}{gm:MG}{tt:Fam TT}{tf:Fam TE}(b:ZrG X E)(hi:DI X E tg iter wi mi)(O:Zdk X own cap scope cl)(hc:X.calm=true)
  (hg:∀C s H fp pn,DG (Zav (xfE E X) X (own++cap.map (·.1)) scope cl C s H fp pn) own.length tg (g C s H fp pn) gm) (ht:∀C s H fp pn,DTs (Zav (xfE E X) X (own++cap.map (·.1)) scope cl C s H fp pn) E ts (tt C s H fp pn) na)
  (he:∀C s H fp pn,DE (Zav (xfE E X) X (own++cap.map (·.1)) scope cl C s H fp pn) E elt (tf C s H fp pn) me) (hts:ts.length≤1:=by decide) (hs:∀x,foldedSetIterable iter X.env x=pure x:=by intro _;rfl) :
  DE X E (.ListComp elt [⟨tg,iter,ts,0⟩] scope pos) (Zfp wi g tt tf own cap) (Zi0 mi own.length (cap.map (·.2)) gm na me) :=
 ⟨Zog b hi.p O hc (fun C s H fp pn=>(hg C s H fp pn).p) (fun C s H fp pn=>(ht C s H fp pn).p) (fun C s H fp pn=>(he C s H fp pn).p) hts hs,
  Zob hi.s (fun C s H fp pn=>(hg C s H fp pn).s) (hg 0 X.s₀ (fun _=>none) [] []).x (fun C s H fp pn=>(ht C s H fp pn).s) (fun C s H fp pn=>(he C s H fp pn).s)⟩
theorem ZqL{X:Cx}{E:XK}{N:List Str}{scope:Scope}{cl:List (Str×Addr)}{C':Addr}{s:Shared}{H:Hp}{fp:List Addr}{pn:List (Addr×Obj)}{e:Expr}{es:List Expr}{t:TA}{m:MA}{n k l:Nat}{x:Str}{ps:List Str}{f:List D→Res D}{p pos:Pos}
  (C:Cal X.prog X.w X.K X.mg X.base k x ps f) (hr:Room l X.A) (hn:k≤l) (hg:Gl (Zav (xfE E X) X N scope cl C' s H fp pn) x) (ha:DA (Zav (xfE E X) X N scope cl C' s H fp pn) E n (e::es) t m) (hps:ps.length=n:=by rfl)
  (hdb:(x==("__debug__" : Str))=false:=by decide) (he:starEach (e::es) (Zav (xfE E X) X N scope cl C' s H fp pn).env=(false,eval e (Zav (xfE E X) X N scope cl C' s H fp pn).env)::starEach es (Zav (xfE E X) X N scope cl C' s H fp pn).env:=by rfl)
  (hpl:(backTo pos (starEach es (Zav (xfE E X) X N scope cl C' s H fp pn).env)).any (·.1)=false:=by rfl) :
  DE (Zav (xfE E X) X N scope cl C' s H fp pn) E (.Call (.Name x p) (e::es) [] pos) (Zjm (spD X.K X.mg ps.length f) [] E t) (on f m) :=
 ZeA (X:=Zav (xfE E X) X N scope cl C' s H fp pn) C hr hn hg Zqz ha hps hdb he hpl
end
end L2.Ds
namespace Dl
open PySem
def dFld(cs:List Str)(f:Str):D→Res D
 | .ins c ns vs=>if cs.contains c=true then ofO ((ns.zip vs).lookup f) else .bad
 | _=>.bad
def badS:MS:=fun _=>.bad
end Dl
namespace L2.Ds
open PySem PySem.Spec PyProof.Rows Dl
def Ze7(K:W.Frag)(mg:Str→Option Value)(cs:List Str)(f:Str):Prop:=∀c,cs.contains c=true→∀C,mg c=some (.ref C)→Cls K C∧ZdW K C f
def rFld(K:W.Frag)(f:Str):V→Hp→VK→Prop:=fun x H Q=>∃a C dx fs v,x=.ref a∧H a=some (.ins C dx fs)∧Cls K C∧ZdW K C f∧fs.lookup f=some v∧Q v H
section
variable{K:W.Frag}{mg:Str→Option Value}
theorem Zhf{F:Hp}{f:Str}{d:D}:∀{fs:List (Str×V)} {vs:List D},Rps K mg F (fs.map (·.2)) vs→((fs.map (·.1)).zip vs).lookup f=some d→∃v,fs.lookup f=some v∧Rp K mg F v d
 | [],_,_,e=>by simp at e
 | (n,x)::r,[],q,_=>nomatch q
 | (n,x)::r,d0::vs,.cons h q,e=>by
  rw [VaM,List.zip_cons_cons,Vbq] at e
  rw [Vbq]
  cases z:f==n with
  | true =>
   rw [show (f==(n,x).fst)=true from z] at e
   cases e
   exact ⟨x,rfl,h⟩
  | false =>
   rw [show (f==(n,x).fst)=false from z] at e
   exact Zhf q e
theorem Zq7{cs:List Str}{f:Str}(T:Ze7 K mg cs f):UnD K mg (rFld K f) (dFld cs f):=by
 intro E F H x dx s rx
 cases dx with
 | ins c ns vs =>
  show Ans mg E (Rp K mg) F H (if cs.contains c=true then ofO ((ns.zip vs).lookup f) else .bad) _
  by_cases hc:cs.contains c=true
  ·rw [if_pos hc]
   cases rx with
   | @ins _ C a dx fs xs _ m h o e r =>
    subst e
    cases q:((fs.map (·.1)).zip vs).lookup f with
    | none=>trivial
    | some d =>
     obtain ⟨v,hv,rv⟩:=Zhf r q
     obtain ⟨c1,c2⟩:=T c hc C m
     exact .ret s rv fun Q z=>⟨a,C,dx,fs,v,rfl,s _ _ h,c1,c2,hv,z⟩
  ·rw [if_neg hc];trivial
 | _=>trivial
end
theorem Zl9{X:Cx}{E:XK}{e:Expr}{te:TE}{me:ME}{cs:List Str}{f:Str}{pos:Pos}(T:Ze7 X.K X.mg cs f)(he:DE X E e te me)(hb:attributeBase e f X.env (eval e X.env)=eval e X.env:=by rfl) :
  DE X E (.Attribute e f pos) (tFld X.K te f) (o1 (dFld cs f) me):=⟨ZsM he.p hb,ZrZ (Zq7 T) he.s⟩
theorem ZqC{X:Cx}{E:XK}{sts:List Stmt}:DSs X E sts (fun _ _ _=>False) badS:=⟨fun _ _ _ _ _ _ h=>h.elim,fun _ _ _ _ _ _ _=>trivial⟩
end L2.Ds
namespace Dl
open PySem
end Dl
namespace L2.Ds
open PySem PySem.Spec PyProof.Rows Dl
end L2.Ds
namespace Dl
open PySem
end Dl
namespace L2
open PySem PySem.Spec PyProof.Rows
end L2
namespace L2.Ds
open PySem PySem.Spec PyProof.Rows PySem.Calls Dl
end L2.Ds
namespace Dl
open PySem
abbrev Fs:=List (Str×D)
abbrev MSi:=Ev→Fs→Res Fs
def iEnd:MSi:=fun _ fl=>.ok fl
def iDrp(e:ME)(k:MSi):MSi:=fun ρ fl=>(e ρ).bind fun _=>k ρ fl
def iSet(f:Str)(e:ME)(k:MSi):MSi:=fun ρ fl=>(e ρ).bind fun d=>if (fl.map (·.1)).contains f=true∨100≤fl.length then .bad else k ρ (fl++[(f,d)])
def iSup(g:List D→Fs→Res Fs)(a:MA)(k:MSi):MSi:=fun ρ fl=>(a ρ).bind fun ds=>(g ds fl).bind fun fl'=>k ρ fl'
def fnI(n:Nat)(k:MSi):List D→Fs→Res Fs:=fun ds fl=>k (.no::ev0 (n - 1) ds) fl
def make(c:Str)(g:List D→Fs→Res Fs)(a:MA):ME:=fun ρ=>(a ρ).bind fun ds=>(g ds []).bind fun fl=>.ok (.ins c (fl.map (·.1)) (fl.map (·.2)))
def meth(tab:List (Str×(List D→Res D)))(m:Str)(o:ME)(a:MA):ME:=fun ρ=>(o ρ).bind fun d=>match d with
 | .ins c ns vs=>if ns.contains m=true then .bad else match tab.lookup c with
  | some f=>(a ρ).bind fun ds=>f (.ins c ns vs::ds)
  | none=>.bad
 | _=>.bad
end Dl
namespace L2.Ds
open PySem PySem.Spec PyProof.Rows Dl
theorem Ans.imp{α β:Type}{mg:Str→Option Value}{E:XK}{R:Hp→β→α→Prop}{F H:Hp}{r:Res α}{w w':(β→Hp→Prop)→Prop}(h:Ans mg E R F H r w)(hw:∀Q,w Q→w' Q):Ans mg E R F H r w':=by
 cases r with
 | ok a=>exact fun Q q=>hw Q (h Q q)
 | ex c=>exact fun Q q=>hw Q (h Q q)
 | bad=>trivial
def Zil(P:Program)(w:World)(K:W.Frag)(mg:Str→Option Value)(base:Heap)(k:Nat)(m:Str)(E:XK)(ta:TE)(t:TA):TE:=fun σ H Q=>ta σ H fun x H1=>∃a C dx fs g fd ps sp,x=.ref a∧H1 a=some (.ins C dx fs)∧fs.lookup m=none ∧
 Cls K C∧Meth K C m g∧FnOk P w K mg base (CXR P w) k g fd ps sp∧Binds K fd ps []∧t σ H1 fun vs H2=>sp (x::vs) H2 Q E
section
variable{X:Cx}{E:XK}{k:Nat}{m:Str}{e o:Expr}{es:List Expr}{ta:TE}{t:TA}{pos apos:Pos}{pl:Sem Bool}
theorem Zny(he:PE X o ta)(hr:Room k X.A)(hx:Zcl (CXR X.prog X.w) X E)(ha:PA X (e::es) t)
  (hst:starEach (e::es) X.env=(false,eval e X.env)::starEach es X.env:=by rfl) (hpl:(backTo pos (starEach es X.env)).any (·.1)=false:=by rfl)
  (ht:eval (.Call (.Attribute o m apos) (e::es) [] pos) X.env=(do
   let ov ←eval o X.env
   standAt apos.atName
   let (f,first) ←holding [ov] (getMethod ov m pl)
   callWith pos f first (backTo pos (starEach (e::es) X.env)) (backToKw pos (keywordEach [] X.env))):=by rfl) :
  PE X (.Call (.Attribute o m apos) (e::es) [] pos) (Zil X.prog X.w X.K X.mg X.base k m E ta t):=by
 intro pins s σ H Q I h
 refine W.methodCall_KW (pl:=pl) (thn (he pins s σ H _ I h) fun u s1 hZ=>?_) ht
 obtain ⟨x,H1,I1,rx,a,C,dx,fs,g,fd,ps,sp,ex,ea,l,c,hm,F,hb,q⟩:=hZ
 subst ex
 obtain rfl:u=Value.ref a:=rx
 refine ZgZ I1 ea c hm l ?_
 refine W.callWith_K (first:=[.ref a]) (h₀:=X.base) I.ok.mod.kin hm.kp (thn (ha pos pins s1 σ H1 _ I1 q) fun us s2 ⟨vs,H2,I2,r,q2⟩=>⟨I2.kIn,?_⟩) hst hpl
 exact Zj5 (us:=.ref a::us) (vs:=.ref a::vs) (dvs:=[]) F hr hb .nil hx I2 (.cons rfl r) (by rw [VaS];exact q2)
theorem Zld(he:PE X o ta)(hr:Room k X.A)(hx:Zcl (CXR X.prog X.w) X E)
  (ht:eval (.Call (.Attribute o m apos) [] [] pos) X.env=(do
   let ov ←eval o X.env
   standAt apos.atName
   let (f,first) ←holding [ov] (getMethod ov m pl)
   callWith pos f first (backTo pos (starEach [] X.env)) (backToKw pos (keywordEach [] X.env))):=by rfl) :
  PE X (.Call (.Attribute o m apos) [] [] pos) (Zil X.prog X.w X.K X.mg X.base k m E ta tNil):=by
 intro pins s σ H Q I h
 refine W.methodCall_KW (pl:=pl) (thn (he pins s σ H _ I h) fun u s1 hZ=>?_) ht
 obtain ⟨x,H1,I1,rx,a,C,dx,fs,g,fd,ps,sp,ex,ea,l,c,hm,F,hb,q⟩:=hZ
 subst ex
 obtain rfl:u=Value.ref a:=rx
 refine ZgZ I1 ea c hm l ?_
 exact W.callWith_K0 (first:=[.ref a]) I1.kIn hm.kp (Zj5 (us:=[.ref a]) (vs:=[.ref a]) (dvs:=[]) F hr hb .nil hx I1 (.cons rfl .nil) q)
end
def Zck(P:Program)(w:World)(K:W.Frag)(mg:Str→Option Value)(base:Heap)(k n:Nat)(m:Str)(tab:List (Str×(List D→Res D))):Prop:=∀c f,tab.lookup c=some f→∀C,mg c=some (.ref C) →
 Cls K C∧∃g fd ps,Meth K C m g∧FnOk P w K mg base (CXR P w) k g fd ps (spD K mg ps.length f)∧Binds K fd ps []∧ps.length=n+1
theorem Zck.nil{P:Program}{w:World}{K:W.Frag}{mg:Str→Option Value}{base:Heap}{k n:Nat}{m:Str}:Zck P w K mg base k n m []:=fun _ _ e=>by cases e
theorem Zck.cons{P:Program}{w:World}{K:W.Frag}{mg:Str→Option Value}{base:Heap}{k n:Nat}{m c:Str}{f:List D→Res D}{tab:List (Str×(List D→Res D))}
  (h:∀C,mg c=some (.ref C)→Cls K C∧∃g fd ps,Meth K C m g∧FnOk P w K mg base (CXR P w) k g fd ps (spD K mg ps.length f)∧Binds K fd ps []∧ps.length=n+1) (r:Zck P w K mg base k n m tab):Zck P w K mg base k n m ((c,f)::tab):=by
 intro c' f' e
 rw [Vbq] at e
 split at e
 ·next q =>
  cases e
  rw [eq_of_beq q]
  exact h
 ·exact r c' f' e
theorem ZiH{m:Str}:∀{fs:List (Str×V)},¬(fs.map (·.1)).contains m=true→fs.lookup m=none
 | [],_=>rfl
 | (n,x)::r,h=>by
  rw [VaM,List.contains_cons] at h
  rw [Vbq]
  cases z:m==n with
  | true=>exact absurd (by rw [show (m==(n,x).fst)=true from z];rfl) h
  | false=>exact ZiH fun q=>h (by rw [q,Bool.or_true])
section
variable{P:Program}{w:World}{K:W.Frag}{mg:Str→Option Value}{base:Heap}{E:XK}{k n:Nat}{m:Str}{tab:List (Str×(List D→Res D))}{ta:TE}{mo:ME}{t:TA}{ma:MA}
theorem Zmn(T:Zck P w K mg base k n m tab)(ho:SE K mg E ta mo)(ha:SA K mg E t ma)(hl:SAn n ma):SE K mg E (Zil P w K mg base k m E ta t) (meth tab m mo ma):=by
 intro F0 H0 F H σ ρ rr
 refine (ho F0 H0 F H σ ρ rr).bind fun F1 H1 x d g1 rx=>?_
 cases d with
 | ins c ns vs =>
  show Ans mg E (Rp K mg) F1 H1 (if ns.contains m=true then .bad else match tab.lookup c with
   | some f=>(ma ρ).bind fun ds=>f (.ins c ns vs::ds)
   | none=>.bad) _
  by_cases hc:ns.contains m=true
  ·rw [if_pos hc];trivial
  rw [if_neg hc]
  cases e:tab.lookup c with
  | none=>trivial
  | some f =>
   show Ans mg E (Rp K mg) F1 H1 ((ma ρ).bind fun ds=>f (.ins c ns vs::ds)) _
   have rx':=rx
   cases rx with
   | @ins _ C a dx fs xs _ hm h o q r =>
    obtain ⟨c1,g,fd,ps,hM,hF,hB,hp⟩:=T c f e C hm
    refine Ans.imp ((ha F0 H0 F1 H1 σ ρ (rr.gr g1)).bindE (w':=fun vs' H2 Q=>spD K mg ps.length f (.ref a::vs') H2 Q E) fun ds ed F2 H2 vs' g2 rs=>?_) fun Q z=>⟨a,C,dx,fs,g,fd,ps,spD K mg ps.length f,rfl,g1.s _ _ h,ZiH hc,c1,hM,hF,hB,z⟩
    exact ZjI g2.s (.cons (rx'.same g2.f) rs) (by rw [VaL,hl ρ ds ed,hp])
 | _=>trivial
end
section
variable{X:Cx}{E:XK}{k l n:Nat}{m:Str}{e o:Expr}{es:List Expr}{ta:TE}{mo:ME}{t:TA}{ma:MA}{pos apos:Pos}{pl:Sem Bool}{tab:List (Str×(List D→Res D))}
theorem ZtF(T:Zck X.prog X.w X.K X.mg X.base k n m tab)(hr:Room l X.A)(hn:k≤l)(hx:Zcl (CXR X.prog X.w) X E)(ho:DE X E o ta mo)(ha:DA X E n (e::es) t ma)
  (hst:starEach (e::es) X.env=(false,eval e X.env)::starEach es X.env:=by rfl) (hpl:(backTo pos (starEach es X.env)).any (·.1)=false:=by rfl)
  (ht:eval (.Call (.Attribute o m apos) (e::es) [] pos) X.env=(do
   let ov ←eval o X.env
   standAt apos.atName
   let (f,first) ←holding [ov] (getMethod ov m pl)
   callWith pos f first (backTo pos (starEach (e::es) X.env)) (backToKw pos (keywordEach [] X.env))):=by rfl) :
  DE X E (.Call (.Attribute o m apos) (e::es) [] pos) (Zil X.prog X.w X.K X.mg X.base k m E ta t) (meth tab m mo ma):=⟨Zny ho.p (hr.mono hn) hx ha.p hst hpl ht,Zmn T ho.s ha.s ha.n⟩
theorem ZfV(T:Zck X.prog X.w X.K X.mg X.base k 0 m tab)(hr:Room l X.A)(hn:k≤l)(hx:Zcl (CXR X.prog X.w) X E)(ho:DE X E o ta mo)
  (ht:eval (.Call (.Attribute o m apos) [] [] pos) X.env=(do
   let ov ←eval o X.env
   standAt apos.atName
   let (f,first) ←holding [ov] (getMethod ov m pl)
   callWith pos f first (backTo pos (starEach [] X.env)) (backToKw pos (keywordEach [] X.env))):=by rfl) :
  DE X E (.Call (.Attribute o m apos) [] [] pos) (Zil X.prog X.w X.K X.mg X.base k m E ta tNil) (meth tab m mo anil):=⟨Zld ho.p (hr.mono hn) hx ht,Zmn T ho.s ZoO Zle⟩
end
section
variable{X:Cx}{N:List Str}{scope:Scope}{cl:List (Str×Addr)}{C':Addr}{s:Shared}{H:Hp}{fp:List Addr}{pn:List (Addr×Obj)}{e o:Expr}{es:List Expr}{ta:TE}{mo:ME}{t:TA}{ma:MA}{n k l:Nat}{m f:Str}{pos apos:Pos}{pl:Sem Bool}{tab:List (Str×(List D→Res D))}{cs:List Str}
theorem Zrt(T:Ze7 X.K X.mg cs f)(he:DE (Zay X N scope cl C' s H fp pn) E0 o ta mo)(hb:attributeBase o f (Zay X N scope cl C' s H fp pn).env (eval o (Zay X N scope cl C' s H fp pn).env)=eval o (Zay X N scope cl C' s H fp pn).env:=by rfl) :
  DE (Zay X N scope cl C' s H fp pn) E0 (.Attribute o f pos) (tFld X.K ta f) (o1 (dFld cs f) mo):=Zl9 (X:=Zay X N scope cl C' s H fp pn) T he hb
end
theorem Ze7.nil{K:W.Frag}{mg:Str→Option Value}{f:Str}:Ze7 K mg [] f:=fun _ h=>by cases h
theorem Ze7.cons{K:W.Frag}{mg:Str→Option Value}{c f:Str}{cs:List Str}(h:∀C,mg c=some (.ref C)→Cls K C∧ZdW K C f)(r:Ze7 K mg cs f):Ze7 K mg (c::cs) f:=fun c' hc=>by
 rw [List.contains_cons] at hc
 cases z:c'==c with
 | true=>rw [eq_of_beq z];exact h
 | false =>
  rw [z,Bool.false_or] at hc
  exact r c' hc
structure FR(K:W.Frag)(mg:Str→Option Value)(F:Hp)(fs:List (Str×V))(fl:Fs):Prop where
 nm:fs.map (·.1)=fl.map (·.1)
 rv:Rps K mg F (fs.map (·.2)) (fl.map (·.2))
theorem FR.same{K:W.Frag}{mg:Str→Option Value}{F F':Hp}{fs:List (Str×V)}{fl:Fs}(h:FR K mg F fs fl)(s:Same F F'):FR K mg F' fs fl:=⟨h.nm,h.rv.same s⟩
theorem FR.len{K:W.Frag}{mg:Str→Option Value}{F:Hp}{fs:List (Str×V)}{fl:Fs}(h:FR K mg F fs fl):fs.length=fl.length:=by
 have:=Vax List.length h.nm
 rwa [VaN,VaN] at this
theorem Zkj{f:Str}{y:V}:∀{fs:List (Str×V)},¬(fs.map (·.1)).contains f=true→putF f y fs=fs++[(f,y)]
 | [],_=>rfl
 | (g,x)::r,h=>by
  rw [VaM,List.contains_cons] at h
  have hg:g≠f:=by
   rintro rfl
   exact h (by rw [show ((g,x).fst==g)=true from beq_self_eq_true g];rfl)
  show (if g=f then (g,y)::r else (g,x)::putF f y r)=_
  rw [if_neg hg,Zkj fun q=>h (by rw [q,Bool.or_true])]
  rfl
theorem FR.put{K:W.Frag}{mg:Str→Option Value}{F:Hp}{fs:List (Str×V)}{fl:Fs}{f:Str}{y:V}{d:D}(h:FR K mg F fs fl)(hn:¬(fl.map (·.1)).contains f=true)(ry:Rp K mg F y d):FR K mg F (putF f y fs) (fl++[(f,d)]):=by
 rw [Zkj (by rw [h.nm];exact hn)]
 refine ⟨by rw [VbV,VbV,h.nm];rfl,?_⟩
 rw [VbV,VbV]
 exact Rps.app (.cons ry .nil) h.rv
def spI(K:W.Frag)(mg:Str→Option Value)(n:Nat)(cs:List Str)(m:List D→Fs→Res Fs):Sp:=fun vs H Q E=>vs.length=n+1∧∃(x dx C:Addr) (c:Str) (ys:List V) (fs:List (Str×V)) (F:Hp) (ds:List D) (fl:Fs),
 vs=.ref x::ys∧cs.contains c=true∧mg c=some (.ref C)∧H x=some (.ins C dx fs)∧F x=none∧Same F H∧Rps K mg F ys ds∧FR K mg F fs fl∧m ds fl≠.bad ∧
 (∀fl',m ds fl=.ok fl'→∀F' H' fs',Gr F (del H x) F' H'→F' x=none→H' x=some (.ins C dx fs')→FR K mg F' fs' fl'→Q .non H') ∧
 (∀e,m ds fl=.ex e→∀F' H' fs' Ce,Gr F (del H x) F' H'→F' x=none→H' x=some (.ins C dx fs')→mg e=some (.ref Ce)→E (.ref Ce) none H')
structure RepI(K:W.Frag)(mg:Str→Option Value)(x dx C:Addr)(F0 H0 F H:Hp)(σ:St)(ρ:Ev)(fs:List (Str×V))(fl:Fs):Prop where
 rep:Rep K mg F0 H0 F H σ ρ
 h0:H0 x=none
 self:σ[0]?=some (some (.ref x))
 fx:F x=none
 hx:H x=some (.ins C dx fs)
 fr:FR K mg F fs fl
section
variable{K:W.Frag}{mg:Str→Option Value}{x dx C:Addr}{F0 H0 F H F' H':Hp}{σ:St}{ρ:Ev}{fs fs':List (Str×V)}{fl fl':Fs}
theorem RepI.gr(r:RepI K mg x dx C F0 H0 F H σ ρ fs fl)(g:Gr F H F' H'):RepI K mg x dx C F0 H0 F' H' σ ρ fs fl:=by
 obtain ⟨q1,q2⟩:=g.o x _ r.fx r.hx
 exact ⟨r.rep.gr g,r.h0,r.self,q1,q2,r.fr.same g.f⟩
theorem RepI.go(r:RepI K mg x dx C F0 H0 F H σ ρ fs fl)(g:Gr F (del H x) F' H')(fx:F' x=none)(hx:H' x=some (.ins C dx fs'))(fr:FR K mg F' fs' fl'):RepI K mg x dx C F0 H0 F' H' σ ρ fs' fl':=by
 refine ⟨⟨⟨r.rep.g.f.trans g.f,g.s,fun a o h1 h2=>?_⟩,r.rep.len,fun i d e=>?_,fun i ds e=>?_,r.rep.ne⟩,r.h0,r.self,fx,hx,fr⟩
 ·obtain ⟨q1,q2⟩:=r.rep.g.o a o h1 h2
  exact g.o a o q1 (by rw [ZeO (Zae h2 r.h0)];exact q2)
 ·obtain ⟨y,h1,h2⟩:=r.rep.im i d e
  exact ⟨y,h1,h2.same g.f⟩
 ·obtain ⟨a,xs,h1,h2,h3,h4,h5⟩:=r.rep.ow i ds e
  have ne:a≠x:=by
   rintro rfl
   rw [r.hx] at h4
   cases h4
  obtain ⟨q1,q2⟩:=g.o a _ h3 (by rw [ZeO ne];exact h4)
  exact ⟨a,xs,h1,h2,q1,q2,h5.same g.f⟩
theorem RepI.set{f:Str}{y:V}{d:D}(r:RepI K mg x dx C F0 H0 F H σ ρ fs fl)(hn:¬(fl.map (·.1)).contains f=true)(ry:Rp K mg F y d):RepI K mg x dx C F0 H0 F (upd H x (.ins C dx (putF f y fs))) σ ρ (putF f y fs) (fl++[(f,d)]):=by
 refine r.go ⟨Same.refl _,fun a o e=>?_,fun a o h1 h2=>⟨h1,?_⟩⟩ r.fx Zag (r.fr.put hn ry)
 ·rw [Zaf (Zae e r.fx)];exact r.rep.g.s a o e
 ·have ne:a≠x:=by
   rintro rfl
   rw [ZgV] at h2
   cases h2
  rw [ZeO ne] at h2
  rw [Zaf ne];exact h2
end
def AnsI(K:W.Frag)(mg:Str→Option Value)(E:XK)(x dx C:Addr)(F0 H0:Hp)(r:Res Fs)(w:Ends→Prop):Prop :=
 match r with
 | .ok fl=>∀D:Ends,(∀F' H' σ' fs,Gr F0 H0 F' H'→F' x=none→H' x=some (.ins C dx fs)→FR K mg F' fs fl→D.nx σ' H')→w D
 | .ex c=>∀D:Ends,(∀F' H' fs Ce,Gr F0 H0 F' H'→F' x=none→H' x=some (.ins C dx fs)→mg c=some (.ref Ce)→E (.ref Ce) none H')→w D
 | .bad=>True
def SSi(K:W.Frag)(mg:Str→Option Value)(E:XK)(cs:List Str)(t:TS)(m:MSi):Prop:=∀x dx C c F0 H0 F H σ ρ fs fl,cs.contains c=true→mg c=some (.ref C)→RepI K mg x dx C F0 H0 F H σ ρ fs fl→AnsI K mg E x dx C F0 H0 (m ρ fl) (fun D=>t D σ H)
structure DSi(X:Cx)(E:XK)(cs:List Str)(sts:List Stmt)(t:TS)(m:MSi):Prop where
 p:PSs X sts t
 s:SSi X.K X.mg E cs t m
section
variable{K:W.Frag}{mg:Str→Option Value}{E:XK}{x dx C:Addr}{F0 H0 F H:Hp}{α β:Type}{R:Hp→β→α→Prop}{σ:St}{ρ:Ev}{fs:List (Str×V)}{fl:Fs}
theorem Zga{r:Res α}{w:(β→Hp→Prop)→Prop}{k:α→Res Fs}{w':β→Hp→Ends→Prop}(rr:RepI K mg x dx C F0 H0 F H σ ρ fs fl)(h1:Ans mg E R F H r w)(h2:∀a,r=.ok a→∀F1 H1 b,Gr F H F1 H1→R F1 b a→AnsI K mg E x dx C F0 H0 (k a) (w' b H1)) :
  AnsI K mg E x dx C F0 H0 (r.bind k) (fun D=>w fun b H1=>w' b H1 D):=by
 cases r with
 | ok a =>
  show AnsI K mg E x dx C F0 H0 (k a) _
  have h2':=h2 a rfl
  generalize k a=r2 at h2'
  cases r2 with
  | ok d=>exact fun D q=>h1 _ fun F1 H1 b g rb=>h2' F1 H1 b g rb D q
  | ex c=>exact fun D q=>h1 _ fun F1 H1 b g rb=>h2' F1 H1 b g rb D q
  | bad=>trivial
 | ex c=>exact fun D q=>h1 _ fun F1 H1 Ce g hc=>let r2:=rr.gr g;q F1 H1 fs Ce r2.rep.g r2.fx r2.hx hc
 | bad=>trivial
end
section
variable{X:Cx}{E:XK}{cs cs':List Str}{rest:List Stmt}{u:TS}{k:MSi}{e o:Expr}{es:List Expr}{te:TE}{me:ME}{t:TA}{ma:MA}{spos pos apos p p':Pos}{f x y m:Str}{n j l:Nat}
theorem Zib:DSi X E cs [] ZnA iEnd:=⟨Zk1,fun x dx C c F0 H0 F H σ ρ fs fl _ _ r=>fun D q=>q F H σ fs r.rep.g r.fx r.hx r.fr⟩
theorem Zfs(he:DE X E e te me)(h:DSi X E cs rest u k)(hs:swapsWith e none spos.line X.env=pure false:=by rfl):DSi X E cs (.Expr e spos::rest) (tSeq (Zgf te) u) (iDrp me k):=by
 refine ⟨ZfI (Zf2 he.p hs) h.p,?_⟩
 intro x dx C c F0 H0 F H σ ρ fs fl hc hm r
 exact Zga (w':=fun _ H1 D=>u D σ H1) r (he.s F0 H0 F H σ ρ r.rep) fun a _ F1 H1 b g _=>h.s x dx C c F0 H0 F1 H1 σ ρ fs fl hc hm (r.gr g)
theorem Ziz(T:Ze7 X.K X.mg cs f)(he:DE X E e te me)(h:DSi X E cs rest u k)(hN:X.N[0]?=some x:=by rfl)(hv:Vis X.env.scope x:=by first | exact Or.inl rfl | exact Or.inr (Or.inl rfl) | exact Or.inr (Or.inr rfl))(hd:(x==("__debug__" : Str))=false:=by decide)
  (hcd:(x==("__classdict__" : Str))=false:=by decide) (hs:swapsWith e (some (.Attribute (.Name x p) f p')) spos.line X.env=pure false:=by rfl) :
  DSi X E cs (.Assign [.Attribute (.Name x p) f p'] e spos::rest) (tSeq (sFld X.K (tVar 0) te f) u) (iSet f me k):=by
 refine ⟨ZfI (Zs1 (Ziv hN hv hd hcd) he.p hs) h.p,?_⟩
 intro x dx C c F0 H0 F H σ ρ fs fl hc hm r
 refine Zga (w':=fun y H1 D=>(tVar 0) σ H1 fun z H2=>∃a C dx fs,z=.ref a∧H2 a=some (.ins C dx fs)∧Cls X.K C∧ZdW X.K C f∧fs.length<1000∧u D σ (upd H2 a (.ins C dx (putF f y fs)))) r (he.s F0 H0 F H σ ρ r.rep) fun d _ F1 H1 y g ry=>?_
 have r1:=r.gr g
 by_cases hb:(fl.map (·.1)).contains f=true∨100≤fl.length
 ·rw [if_pos hb];trivial
 rw [if_neg hb]
 obtain ⟨c1,c2⟩:=T c hc C hm
 have r2:=r1.set (f:=f) (fun z=>hb (.inl z)) ry
 have z:=h.s x dx C c F0 H0 F1 _ σ ρ _ _ hc hm r2
 have hl:fs.length<1000:=by have:=r.fr.len;have:¬100≤fl.length:=fun z=>hb (.inr z);omega
 generalize k ρ (fl++[(f,d)])=q0 at z
 cases q0 with
 | ok fl'=>exact fun D q=>⟨_,r1.self,x,C,dx,fs,rfl,r1.hx,c1,c2,hl,z D q⟩
 | ex c=>exact fun D q=>⟨_,r1.self,x,C,dx,fs,rfl,r1.hx,c1,c2,hl,z D q⟩
 | bad=>trivial
end
structure ClsM(K:W.Frag)(C:Addr)(m:Str)(f:Addr):Prop where
 sg:W.specialIn K (.ref C) "__getattribute__"=some (some (.builtin "type.__getattribute__"))
 rd:∃mc,W.readsIn K C mc=true∧W.findCls K (.ref C) mc m=some (.val (.ref f))
 hh:W.handedIn (.ref f)=true
 kp:W.keepIn K (.ref f)=true
section
variable{X:Cx}{E:XK}{k:Nat}{y m:Str}{C f:Addr}{fd:FuncData}{ps:List Str}{sp:Sp}{e:Expr}{es:List Expr}{t:TA}{p pos apos:Pos}{pl:Sem Bool}
theorem Zqm(hg:Gl X y)(hy:X.mg y=some (.ref C))(c:ClsM X.K C m f)(F:FnOk X.prog X.w X.K X.mg X.base (CXR X.prog X.w) k f fd ps sp)(hr:Room k X.A)(hb:Binds X.K fd ps [])(hx:Zcl (CXR X.prog X.w) X E)(ha:PA X (e::es) t)(hd:(y==("__debug__" : Str))=false:=by decide)
  (hst:starEach (e::es) X.env=(false,eval e X.env)::starEach es X.env:=by rfl) (hpl:(backTo pos (starEach es X.env)).any (·.1)=false:=by rfl)
  (ht:eval (.Call (.Attribute (.Name y p) m apos) (e::es) [] pos) X.env=(do
   let ov ←eval (.Name y p) X.env
   standAt apos.atName
   let (f,first) ←holding [ov] (getMethod ov m pl)
   callWith pos f first (backTo pos (starEach (e::es) X.env)) (backToKw pos (keywordEach [] X.env))):=by rfl) :
  PE X (.Call (.Attribute (.Name y p) m apos) (e::es) [] pos) (Zjm sp [] E t):=by
 intro pins s σ H Q I h
 refine W.methodCall_KW (pl:=pl) (thn (Zjh (v:=.ref C) hg hy rfl hd pins s σ H (fun v H1=>v=.ref C∧H1=H) I ⟨rfl,rfl⟩) fun u s1 ⟨x,H1,I1,rx,ex,eh⟩=>?_) ht
 subst ex eh
 obtain rfl:u=Value.ref C:=rx
 obtain ⟨mc,r1,r2⟩:=c.rd
 refine W.method_cls I1.kIn c.sg (W.cls_value I1.kIn r1 r2 c.hh ?_)
 have I2:=I1.tok (s1.toks+1)
 refine W.callWith_K (first:=[]) (h₀:=X.base) I.ok.mod.kin c.kp (thn (ha pos pins _ σ H1 _ I2 h) fun us s2 ⟨vs,H2,I3,r,q2⟩=>⟨I3.kIn,?_⟩) hst hpl
 exact Zj5 (us:=us) (vs:=vs) (dvs:=[]) F hr hb .nil hx I3 r q2
end
structure CalS(P:Program)(w:World)(K:W.Frag)(mg:Str→Option Value)(base:Heap)(k:Nat)(y m:Str)(n:Nat)(cs:List Str)(g:List D→Fs→Res Fs):Prop where
 ex:∃(C f:Addr) (fd:FuncData) (ps:List Str),mg y=some (.ref C)∧ClsM K C m f∧FnOk P w K mg base (CXR P w) k f fd ps (spI K mg n cs g)∧Binds K fd ps []
section
variable{X:Cx}{E:XK}{cs cs':List Str}{rest:List Stmt}{u:TS}{k:MSi}{e:Expr}{es:List Expr}{t:TA}{ma:MA}{spos pos apos p p':Pos}{x y m:Str}{n j l:Nat}{g:List D→Fs→Res Fs}{pl:Sem Bool}
theorem ZjG(S:CalS X.prog X.w X.K X.mg X.base j y m n cs' g)(hr:Room l X.A)(hn:j≤l)(hg:Gl X y)(hx:Zcl (CXR X.prog X.w) X E)(hcs:∀c,cs.contains c=true→cs'.contains c=true)(ha:DA X E n es t ma)(h:DSi X E cs rest u k)
  (hN:X.N[0]?=some x:=by rfl) (hv:Vis X.env.scope x:=by first | exact Or.inl rfl | exact Or.inr (Or.inl rfl) | exact Or.inr (Or.inr rfl)) (hd:(x==("__debug__" : Str))=false:=by decide) (hcd:(x==("__classdict__" : Str))=false:=by decide) (hdy:(y==("__debug__" : Str))=false:=by decide)
  (hst:starEach (.Name x p'::es) X.env=(false,eval (.Name x p') X.env)::starEach es X.env:=by rfl) (hpl:(backTo pos (starEach es X.env)).any (·.1)=false:=by rfl)
  (ht:eval (.Call (.Attribute (.Name y p) m apos) (.Name x p'::es) [] pos) X.env=(do
   let ov ←eval (.Name y p) X.env
   standAt apos.atName
   let (f,first) ←holding [ov] (getMethod ov m pl)
   callWith pos f first (backTo pos (starEach (.Name x p'::es) X.env)) (backToKw pos (keywordEach [] X.env))):=by rfl)
  (hs:swapsWith (.Call (.Attribute (.Name y p) m apos) (.Name x p'::es) [] pos) none spos.line X.env=pure false:=by rfl) :
  DSi X E cs (.Expr (.Call (.Attribute (.Name y p) m apos) (.Name x p'::es) [] pos) spos::rest) (tSeq (Zgf (Zjm (spI X.K X.mg n cs' g) [] E (Zek (tVar 0) t))) u) (iSup g ma k):=by
 obtain ⟨C0,f,fd,ps,hy,cm,F,hb⟩:=S.ex
 refine ⟨ZfI (Zf2 (Zqm hg hy cm F (hr.mono hn) hb hx (Zen (Ziv hN hv hd hcd) ha.p hst) hdy hst hpl ht) hs) h.p,?_⟩
 intro x dx C c F0 H0 F H σ ρ fs fl hc hm r
 have A:=ha.s F0 H0 F H σ ρ r.rep
 have L:=ha.n ρ
 show AnsI X.K X.mg E x dx C F0 H0 ((ma ρ).bind fun ds=>(g ds fl).bind fun fl'=>k ρ fl') (fun D=>∃v,σ[0]?=some (some v)∧t σ H fun vs H1=>spI X.K X.mg n cs' g (v::vs++[]) H1 (fun _ H2=>u D σ H2) E)
 have key:AnsI X.K X.mg E x dx C F0 H0 ((ma ρ).bind fun ds=>(g ds fl).bind fun fl'=>k ρ fl') (fun D=>t σ H fun vs H1=>spI X.K X.mg n cs' g (.ref x::vs) H1 (fun _ H2=>u D σ H2) E):=by
  refine Zga (w':=fun vs H1 D=>spI X.K X.mg n cs' g (.ref x::vs) H1 (fun _ H2=>u D σ H2) E) r A fun ds eds F1 H1 vs g1 rs=>?_
  have r1:=r.gr g1
  have hl:vs.length=n:=rs.length.trans (L ds eds)
  cases eg:g ds fl with
  | bad=>trivial
  | ex ec =>
   show AnsI X.K X.mg E x dx C F0 H0 (.ex ec) _
   intro D q
   refine ⟨by rw [VaL,hl],x,dx,C,c,vs,fs,F1,ds,fl,rfl,hcs c hc,hm,r1.hx,r1.fx,r1.rep.g.s,rs,r1.fr,(by rw [eg];intro z;cases z),(fun fl' e=>by rw [eg] at e;cases e),fun e' he F' H' fs' Ce g2 fx hx hce=>?_⟩
   rw [eg] at he
   cases he
   have r2:=r1.go (fl':=fl) (fs':=fs) (F':=F') (H':=H') g2 fx
   refine q F' H' fs' Ce ?_ fx hx hce
   refine ⟨r1.rep.g.f.trans g2.f,g2.s,fun a o h1 h2=>?_⟩
   obtain ⟨q1,q2⟩:=r1.rep.g.o a o h1 h2
   exact g2.o a o q1 (by rw [ZeO (Zae h2 r.h0)];exact q2)
  | ok fl' =>
   show AnsI X.K X.mg E x dx C F0 H0 (k ρ fl') _
   have nx:∀F' H' fs',Gr F1 (del H1 x) F' H'→F' x=none→H' x=some (.ins C dx fs')→FR X.K X.mg F' fs' fl'→AnsI X.K X.mg E x dx C F0 H0 (k ρ fl') (fun D=>u D σ H'):=fun F' H' fs' g2 fx hx fr=>h.s x dx C c F0 H0 F' H' σ ρ fs' fl' hc hm (r1.go g2 fx hx fr)
   generalize k ρ fl'=q0 at nx
   cases q0 with
   | bad=>trivial
   | ok fl2 =>
    intro D q
    refine ⟨by rw [VaL,hl],x,dx,C,c,vs,fs,F1,ds,fl,rfl,hcs c hc,hm,r1.hx,r1.fx,r1.rep.g.s,rs,r1.fr,(by rw [eg];intro z;cases z),(fun fl'' e F' H' fs' g2 fx hx fr=>?_),fun e' he=>by rw [eg] at he;cases he⟩
    rw [eg] at e
    cases e
    exact nx F' H' fs' g2 fx hx fr D q
   | ex c2 =>
    intro D q
    refine ⟨by rw [VaL,hl],x,dx,C,c,vs,fs,F1,ds,fl,rfl,hcs c hc,hm,r1.hx,r1.fx,r1.rep.g.s,rs,r1.fr,(by rw [eg];intro z;cases z),(fun fl'' e F' H' fs' g2 fx hx fr=>?_),fun e' he=>by rw [eg] at he;cases he⟩
    rw [eg] at e
    cases e
    exact nx F' H' fs' g2 fx hx fr D q
 generalize ((ma ρ).bind fun ds=>(g ds fl).bind fun fl'=>k ρ fl')=q0 at key
 cases q0 with
 | bad=>trivial
 | ok fl'=>exact fun D q=>⟨.ref x,r.self,by simpa using key D q⟩
 | ex c'=>exact fun D q=>⟨.ref x,r.self,by simpa using key D q⟩
end
section
variable{P:Program}{w:World}{K:W.Frag}{mg:Str→Option Value}{base:Heap}{N ps:List Str}{x qual:Str}{f:Addr}{cs:List Str}
theorem ZkL{F H:Hp}{z:V}{a:Addr}{vs:List V}{ds:List D}(s:Same F H)(fa:F a=none)(r:Rps K mg F vs ds)(hN:1≤N.length):Rep K mg F (del H a) F H (start N (z::vs)) (.no::ev0 (N.length - 1) ds):=by
 have hl:=r.length
 have key:∀(i:Nat) (c:Cl),(ev0 (N.length - 1) ds)[i]?=some c→c=.no∨∃d,ds[i]?=some d∧c=.im d:=by
  intro i c e
  rw [Ziu] at e
  by_cases hi:i<ds.length
  ·rw [Va1 (by simpa using hi),Va2,VbH hi] at e
   exact .inr ⟨ds[i],VbH hi,(Vau e).symm⟩
  ·rw [VaZ (by simpa using hi),Va0] at e
   split at e
   ·exact .inl (Vau e).symm
   ·cases e
 have key2:∀(i:Nat) (c:Cl),(Cl.no::ev0 (N.length - 1) ds)[i]?=some c→c=.no∨∃d j,i=j+1∧ds[j]?=some d∧c=.im d:=by
  intro i c e
  cases i with
  | zero=>exact .inl (Vau e).symm
  | succ j =>
   rcases key j c (by simpa using e) with q | ⟨d,e1,e2⟩
   ·exact .inl q
   ·exact .inr ⟨d,j,rfl,e1,e2⟩
 refine ⟨⟨Same.refl _,s,fun b o h1 h2=>⟨h1,?_⟩⟩,?_,fun i d e=>?_,fun i ds' e=>?_,fun i j ds' es' a e=>?_⟩
 ·by_cases hb:b=a
  ·subst hb;rw [ZgV] at h2;cases h2
  ·rw [ZeO hb] at h2;exact h2
 ·rw [Ziu]
  unfold start
  simp [hl]
  omega
 ·rcases key2 i _ e with q | ⟨d',j,rfl,e1,q⟩
  ·cases q
  ·cases q
   obtain ⟨v,e2,rv⟩:=r.get e1
   refine ⟨v,?_,rv⟩
   have hi:j<vs.length:=(Vat.mp e2).1
   unfold start
   rw [VaM,List.cons_append,List.getElem?_cons_succ,Va1 (by simpa using hi),Va2,e2]
   rfl
 ·rcases key2 i _ e with q | ⟨d',j,_,e1,q⟩<;>cases q
 ·rcases key2 i _ e with q | ⟨d',j,_,e1,q⟩<;>cases q
theorem okI{st:Stmt}{fd:FuncData}{k n:Nat}{mb:MSi}(F:Fun K x qual st f fd)(S:Zad N ps (Zab st))(hN:1≤N.length)(hp:ps.length=n+1)
  (h:∀(cdv:Value) (A:Around) (outer:List Env) (s:Shared) (H:Hp) (E:XK),Room k (A.deeper (envOfC qual (Zab st) s.heap.objs.size f cdv))→∃t,DSi (cxOf (CXR P w) P w K mg base N qual (Zab st) f cdv A outer s H E) E cs (Za5 st) t mb) :
  FnOk P w K mg base (CXR P w) (k+1) f fd ps (spI K mg n cs (fnI N.length mb)):=by
 obtain ⟨oc,od,kV,doc,pm,an,cdv,ct,osl,rfl,lk,hcd⟩:=F.ex
 refine Znu lk hcd S (fun vs H Q E q=>q.1.trans hp.symm) fun A outer s H vs Q E hr hsp=>?_
 obtain ⟨t,hd⟩:=h cdv A outer s H E hr
 refine ⟨t,hd.p,?_⟩
 obtain ⟨_,x,dx,C,c,ys,fs,F0,ds,fl,rfl,hc,hm,hx,fx,s0,rs,fr,hb,hok,hex⟩:=hsp
 have z:=hd.s x dx C c F0 (del H x) F0 H (start N (.ref x::ys)) (.no::ev0 (N.length - 1) ds) fs fl hc hm ⟨ZkL s0 fx rs hN,ZgV,rfl,fx,hx,fr⟩
 unfold fnI at hb hok hex
 cases e:mb (.no::ev0 (N.length - 1) ds) fl with
 | ok fl' =>
  rw [e] at z
  exact z _ fun F' H' σ' fs' g fx' hx' fr'=>hok fl' e F' H' fs' g fx' hx' fr'
 | ex c' =>
  rw [e] at z
  exact z _ fun F' H' fs' Ce g fx' hx' hce=>hex c' e F' H' fs' Ce g fx' hx' hce
 | bad=>exact absurd e hb
theorem okM{st:Stmt}{fd:FuncData}{k:Nat}{mb:MS}(F:Fun K x qual st f fd)(S:Zad N ps (Zab st))
  (h:∀(cdv:Value) (A:Around) (outer:List Env) (s:Shared) (H:Hp) (E:XK),Room k (A.deeper (envOfC qual (Zab st) s.heap.objs.size f cdv))→∃t,DSs (cxOf (CXR P w) P w K mg base N qual (Zab st) f cdv A outer s H E) E (Za5 st) t mb) :
  FnOk P w K mg base (CXR P w) (k+1) f fd ps (spD K mg ps.length (fn N.length mb)):=by
 obtain ⟨oc,od,kV,doc,pm,an,cdv,ct,osl,rfl,lk,hcd⟩:=F.ex
 refine Znu lk hcd S (fun vs H Q E q=>q.1) fun A outer s H vs Q E hr hsp=>?_
 obtain ⟨t,hd⟩:=h cdv A outer s H E hr
 refine ⟨t,hd.p,?_⟩
 obtain ⟨_,F0,ds,s0,rs,hb,hok,hex⟩:=hsp
 have z:=hd.s F0 H F0 H (start N vs) (ev0 N.length ds) (Zf6 s0 rs)
 unfold fn at hb hok hex
 cases e:mb (ev0 N.length ds) with
 | ok fl =>
  rw [e] at z hb hok hex
  cases fl with
  | nx ρ=>exact z _ fun F' H' σ' _ r'=>hok .non rfl F' H' .non r'.g .non
  | rt d=>exact z _ fun F' H' v g rv=>hok d rfl F' H' v g rv
  | bk ρ=>exact absurd rfl hb
  | ct ρ=>exact absurd rfl hb
 | ex c =>
  rw [e] at z hex
  exact z _ fun F' H' C g hc=>hex c rfl F' H' C g hc
 | bad=>rw [e] at hb;exact absurd rfl hb
end
structure CalI(P:Program)(w:World)(K:W.Frag)(mg:Str→Option Value)(base:Heap)(k:Nat)(c:Str)(n:Nat)(cs:List Str)(g:List D→Fs→Res Fs):Prop where
 ex:∃(C f:Addr) (fd:FuncData) (ps:List Str),mg c=some (.ref C)∧Mk K C f∧FnOk P w K mg base (CXR P w) k f fd ps (spI K mg n cs g)∧Binds K fd ps []∧cs.contains c=true
def Zon(K:W.Frag)(mg:Str→Option Value)(c:Str)(n:Nat)(cs:List Str)(g:List D→Fs→Res Fs)(E:XK)(t:TA):TE:=fun σ H Q=>∃C,mg c=some (.ref C)∧ZqN C (spI K mg n cs g) [] E t σ H Q
section
variable{K:W.Frag}{mg:Str→Option Value}{E:XK}{c:Str}{n:Nat}{cs:List Str}{g:List D→Fs→Res Fs}{t:TA}{ma:MA}
theorem Zqe{C:Addr}(hm:mg c=some (.ref C))(hc:cs.contains c=true)(ha:SA K mg E t ma)(hl:SAn n ma):SE K mg E (Zon K mg c n cs g E t) (make c g ma):=by
 intro F0 H0 F H σ ρ rr
 refine Ans.imp (w:=fun Q=>ZqN C (spI K mg n cs g) [] E t σ H Q) ?_ fun Q q=>⟨C,hm,q⟩
 show Ans mg E (Rp K mg) F H ((ma ρ).bind fun ds=>(g ds []).bind fun fl=>.ok (.ins c (fl.map (·.1)) (fl.map (·.2)))) _
 refine (ha F0 H0 F H σ ρ rr).bindE (w':=fun vs H1 (Q:V→Hp→Prop)=>∀x dx,H1 x=none→H1 dx=none→dx≠x→spI K mg n cs g (.ref x::(vs++[])) (upd (upd H1 dx (.own x)) x (.ins C dx [])) (fun v H2=>v=.non∧Q (V.ref x) H2) E) fun ds eds F1 H1 vs g1 rs=>?_
 have hl':vs.length=n:=rs.length.trans (hl ρ ds eds)
 have base:∀x dx,H1 x=none→H1 dx=none→dx≠x→F1 x=none∧F1 dx=none∧Same F1 (upd (upd H1 dx (.own x)) x (.ins C dx []))∧del (upd (upd H1 dx (.own x)) x (.ins C dx [])) x=upd H1 dx (.own x):=by
  intro x dx hx hdx hne
  refine ⟨g1.s.free hx,g1.s.free hdx,fun a o e=>?_,?_⟩
  ·have z:=g1.s a o e
   rw [Zaf (Zae z hx),Zaf (Zae z hdx)]
   exact z
  ·funext a
   by_cases h:a=x
   ·subst h;rw [ZgV,Zaf (Ne.symm hne)];exact hx.symm
   ·rw [ZeO h,Zaf h]
 cases eg:g ds [] with
 | bad=>trivial
 | ex ec =>
  show Ans mg E (Rp K mg) F1 H1 (.ex ec) _
  intro Q q x dx hx hdx hne
  obtain ⟨f1,f2,s1,e1⟩:=base x dx hx hdx hne
  refine ⟨by simp [hl'],x,dx,C,c,vs,[],F1,ds,[],by simp,hc,hm,Zag,f1,s1,rs,⟨rfl,.nil⟩,(by rw [eg];intro z;cases z),(fun fl' e=>by rw [eg] at e;cases e),fun e' he F' H' fs' Ce g2 fx hx' hce=>?_⟩
  rw [eg] at he
  cases he
  rw [e1] at g2
  refine q F' H' Ce ⟨g2.f,g2.s,fun a o h1 h2=>?_⟩ hce
  exact g2.o a o h1 (by rw [Zaf (Zae h2 hdx)];exact h2)
 | ok fl =>
  show Ans mg E (Rp K mg) F1 H1 (.ok (.ins c (fl.map (·.1)) (fl.map (·.2)))) _
  intro Q q x dx hx hdx hne
  obtain ⟨f1,f2,s1,e1⟩:=base x dx hx hdx hne
  refine ⟨by simp [hl'],x,dx,C,c,vs,[],F1,ds,[],by simp,hc,hm,Zag,f1,s1,rs,⟨rfl,.nil⟩,(by rw [eg];intro z;cases z),(fun fl' e F' H' fs' g2 fx hx' fr=>?_),fun e' he=>by rw [eg] at he;cases he⟩
  rw [eg] at e
  cases e
  rw [e1] at g2
  obtain ⟨d1,d2⟩:=g2.o dx _ f2 Zag
  refine ⟨rfl,q (upd (upd F' dx (.own x)) x (.ins C dx fs')) H' (.ref x) ⟨?_,?_,fun a o h1 h2=>?_⟩ ?_⟩
  ·refine (g2.f.trans (ZaA d1 _)).trans (ZaA ?_ _)
   rw [Zaf (Ne.symm hne)];exact fx
  ·intro a o e
   by_cases ha:a=x
   ·subst ha;rw [Zag] at e;cases e;exact hx'
   ·rw [Zaf ha] at e
    by_cases hb:a=dx
    ·subst hb;rw [Zag] at e;cases e;exact d2
    ·rw [Zaf hb] at e;exact g2.s a o e
  ·have n1:a≠x:=Zae h2 hx
   have n2:a≠dx:=Zae h2 hdx
   obtain ⟨q1,q2⟩:=g2.o a o h1 (by rw [Zaf n2];exact h2)
   rw [Zaf n1,Zaf n2]
   exact ⟨q1,q2⟩
  ·have sF:Same F' (upd (upd F' dx (.own x)) x (.ins C dx fs')):=(ZaA d1 _).trans (ZaA (by rw [Zaf (Ne.symm hne)];exact fx) _)
   have z:Rp K mg (upd (upd F' dx (.own x)) x (.ins C dx fs')) (.ref x) (.ins c (fs'.map (·.1)) (fl.map (·.2))):=.ins hm Zag (by rw [Zaf hne,Zag]) rfl (fr.rv.same sF)
   rw [fr.nm] at z
   exact z
end
section
variable{X:Cx}{E:XK}{k l n:Nat}{c:Str}{cs:List Str}{g:List D→Fs→Res Fs}{e:Expr}{es:List Expr}{t:TA}{ma:MA}{p pos:Pos}
theorem ZfA(M:CalI X.prog X.w X.K X.mg X.base k c n cs g)(hr:Room l X.A)(hn:k+1≤l)(hg:Gl X c)(hx:Zcl (CXR X.prog X.w) X E)(ha:DA X E n (e::es) t ma)
  (hdb:(c==("__debug__" : Str))=false:=by decide) (he:starEach (e::es) X.env=(false,eval e X.env)::starEach es X.env:=by rfl) (hpl:(backTo pos (starEach es X.env)).any (·.1)=false:=by rfl) :
  DE X E (.Call (.Name c p) (e::es) [] pos) (Zon X.K X.mg c n cs g E t) (make c g ma):=by
 obtain ⟨C,f,fd,ps,hm,mk,F,hb,hc⟩:=M.ex
 refine ⟨?_,Zqe hm hc ha.s ha.n⟩
 intro pins s σ H Q I ⟨C',hC,h⟩
 rw [hm] at hC
 cases hC
 exact Zpj mk F (hr.mono hn) hg hm hb .nil hx ha.p hdb he hpl pins s σ H Q I h
end
end L2.Ds
namespace Dl
open PySem
def insO(i:Nat)(k e:ME):MS:=fun ρ=>(getO ρ[i]?).bind fun xs=>(k ρ).bind fun u=>match u with
 | .int j=>(e ρ).bind fun d=>if (0≤j∧j≤xs.length)∧xs.length<LIM then .ok (.nx (ρ.set i (.ow (xs.take j.toNat++d::xs.drop j.toNat)))) else .bad
 | _=>.bad
end Dl
namespace L2
open PySem PySem.Spec PyProof.Rows
def Zjj:V→List V→Hp→VK→Prop:=fun x vs H Q=>∃(l:Addr) (xs:List V) (j:Int) (y:V),x=.ref l∧vs=[.int j,y]∧H l=some (.lst xs)∧(0≤j∧j≤xs.length)∧xs.length<sizeLine∧Q .non (upd H l (.lst (xs.take j.toNat++y::xs.drop j.toNat)))
theorem Vals.takeN:∀{xs:List V} {us:List Value} (n:Nat),Vals xs us→Vals (xs.take n) (us.take n)
 | _,_,0,_=>.nil
 | _,_,_+1,.nil=>.nil
 | _,_,n+1,.cons h r=>.cons h (Vals.takeN n r)
theorem Vals.dropN:∀{xs:List V} {us:List Value} (n:Nat),Vals xs us→Vals (xs.drop n) (us.drop n)
 | _,_,0,r=>r
 | _,_,_+1,.nil=>.nil
 | _,_,n+1,.cons _ r=>Vals.dropN n r
theorem Zlf{X:Cx}:MtR X "list.insert" Zjj:=by
 intro pins s σ H x vs v us Q I rx rv h
 obtain ⟨l,xs,j,y,rfl,rfl,hH,hj,hz,q⟩:=h
 cases rx
 cases rv with
 | @cons _ u0 _ us0 r1 rv =>
  have rv:Vals [y] us0:=rv
  obtain ⟨u,rfl,ru⟩:=rv.one
  obtain ⟨t,rfl⟩:=r1
  obtain ⟨z,its,n,r,hl,e⟩:=I.lstM hH
  have hs:sizeLine<2^63:=by decide
  refine call_meets F.slot_list_insert ⟨_,e,rfl⟩ F.entry_list_insert (F.args_list_insert_3 _ _ _) (PySem.AutoSeq1.list_insert_list_int_val_1 l its.toArray n j t u (by rw [fitsIndex_both (by omega) (by omega)];exact Vaz) (by rw [Va6];omega)) ⟨e,?_⟩
  refine ⟨.non,_,I.lset (its':=its.take j.toNat++u::its.drop j.toNat) hH e ?_ ((r.takeN j.toNat).append (.cons ru (r.dropN j.toNat))) ?_,rfl,q⟩
  ·have hk:(if j<0 then (j+(its.toArray.size:Int)).toNat else min j.toNat its.toArray.size)=j.toNat:=by
    rw [if_neg (by omega),Va6]
    omega
   show (its.toArray.extract 0 (if j<0 then (j+(its.toArray.size:Int)).toNat else min j.toNat its.toArray.size)).push u++its.toArray.extract (if j<0 then (j+(its.toArray.size:Int)).toNat else min j.toNat its.toArray.size)=_
   rw [hk]
   apply Array.toList_inj.mp
   simp
   try rw [Vbx (by simp)]
  ·rw [Va4,VaL,VaX,Vbb]
   omega
end L2
namespace L2.Ds
open PySem PySem.Spec PyProof.Rows Dl
section
variable{K:W.Frag}{mg:Str→Option Value}{E:XK}{tk te:TE}{mk me:ME}
theorem ZtB{i:Nat}(hk:SE K mg E tk mk)(ha:SE K mg E te me):SS K mg E (Zgf (tBM K "list" Zjj (tVar i) (Zek tk (Zek te tNil)))) (insO i mk me):=by
 intro F0 H0 F H σ ρ rr
 unfold insO getO
 split
 ·next ds e =>
  obtain ⟨a,xs,e2,e4,e5,e3,hr⟩:=rr.ow i ds e
  have hl:xs.length=ds.length:=hr.length
  have hty:tyV K "list" (.ref a) H:=.inl ⟨rfl,xs,SqL.of e3⟩
  have h:=(hk F0 H0 F H σ ρ rr).stm (K:=K) (k:=fun u=>match u with
   | .int j=>(me ρ).bind fun d=>if (0≤j∧j≤ds.length)∧ds.length<LIM then .ok (.nx (ρ.set i (.ow (ds.take j.toNat++d::ds.drop j.toNat)))) else .bad
   | _=>.bad) (w':=fun x H1 D=>te σ H1 fun y H2=>Zjj (.ref a) [x,y] H2 fun _ H3=>D.nx σ H3) rr.g fun u _ F1 H1 x g1 rx=>?_
  ·show AnsS K mg E F0 H0 F ((mk ρ).bind fun u=>match u with
    | .int j=>(me ρ).bind fun d=>if (0≤j∧j≤ds.length)∧ds.length<LIM then .ok (.nx (ρ.set i (.ow (ds.take j.toNat++d::ds.drop j.toNat)))) else .bad
    | _=>.bad) _
   have fin:∀D:Ends,(tk σ H fun x H1=>te σ H1 fun y H2=>Zjj (.ref a) [x,y] H2 fun _ H3=>D.nx σ H3)→Zgf (tBM K "list" Zjj (tVar i) (Zek tk (Zek te tNil))) D σ H:=fun D z=>⟨.ref a,e2,hty,z⟩
   generalize ((mk ρ).bind fun u=>match u with
    | .int j=>(me ρ).bind fun d=>if (0≤j∧j≤ds.length)∧ds.length<LIM then Res.ok (Fl.nx (ρ.set i (.ow (ds.take j.toNat++d::ds.drop j.toNat)))) else .bad
    | _=>.bad)=res at h
   cases res with
   | ok f =>
    cases f with
    | nx ρ=>exact fun D q=>fin D (h D q)
    | bk ρ=>exact fun D q=>fin D (h D q)
    | ct ρ=>exact fun D q=>fin D (h D q)
    | rt d=>exact fun D q=>fin D (h D q)
   | ex c=>exact fun D q=>fin D (h D q)
   | bad=>trivial
  ·cases u with
   | int j =>
    cases rx
    have r1:=rr.gr g1
    obtain ⟨q1,q2⟩:=g1.o a _ e5 e3
    refine (ha F0 H0 F1 H1 σ ρ r1).stm (w':=fun y H2 D=>Zjj (.ref a) [.int j,y] H2 fun _ H3=>D.nx σ H3) r1.g fun d _ F2 H2 y g2 ry=>?_
    have r2:=r1.gr g2
    obtain ⟨p1,p2⟩:=g2.o a _ q1 q2
    have hr2:=(hr.same g1.f).same g2.f
    by_cases hc:(0≤j∧j≤ds.length)∧ds.length<LIM
    ·rw [if_pos hc]
     exact fun D q=>⟨a,xs,j,y,rfl,rfl,p2,by rw [hl];exact hc.1,by rw [hl];exact Vae hc.2 (by decide),q F2 _ σ (Same.refl _) (r2.put e e2 p2 e4 p1 (Rps.app (.cons ry (hr2.drop j.toNat)) (hr2.take j.toNat)))⟩
    ·rw [if_neg hc];trivial
   | _=>trivial
 ·trivial
end
section
variable{X:Cx}{E:XK}{k' e:Expr}{tk te:TE}{mk me:ME}{x:Str}{np apos cpos spos:Pos}
theorem Ztd(i:Nat)(hk:DE X E k' tk mk)(he:DE X E e te me)(hN:X.N[i]?=some x:=by rfl)(hv:Vis X.env.scope x:=by first | exact Or.inl rfl | exact Or.inr (Or.inl rfl) | exact Or.inr (Or.inr rfl))(hd:(x==("__debug__" : Str))=false:=by decide)
  (hcd:(x==("__classdict__" : Str))=false:=by decide) (hbase:attributeBase (.Name x np) "insert" X.env (eval (.Name x np) X.env)=eval (.Name x np) X.env:=by rfl)
  (hfew:((backTo cpos (starEach [k',e] X.env)).all (fun x=>!x.1)&&(backToKw cpos (keywordEach [] X.env)).all (fun x=>x.1.isSome)
   && decide ([k',e].length+([]:List Keyword).length+(if ([]:List Keyword).isEmpty then 0 else 1)<30))=true:=by rfl)
  (hline:(apos.endLine==cpos.line)=true:=by rfl) (hs:starEach [k',e] X.env=(false,eval k' X.env)::starEach [e] X.env:=by rfl) (hs2:starEach [e] X.env=(false,eval e X.env)::starEach [] X.env:=by rfl) (hplain:(backTo cpos (starEach [e] X.env)).any (·.1)=false:=by rfl)
  (hsw:swapsWith (.Call (.Attribute (.Name x np) "insert" apos) [k',e] [] cpos) none spos.line X.env=pure false:=by rfl) :
  DS X E (.Expr (.Call (.Attribute (.Name x np) "insert" apos) [k',e] [] cpos) spos) (Zgf (tBM X.K "list" Zjj (tVar i) (Zek tk (Zek te tNil)))) (insO i mk me) :=
 ⟨Zf2 (Ztx PySem.F.plainAttrs_list PySem.F.slot_list_insert PySem.F.type_list_insert Zlf (Ziv hN hv hd hcd) (Zen hk.p (Zen he.p Ziw hs2) hs) hbase hfew hline hs hplain) hsw,ZtB hk.s he.s⟩
end
end L2.Ds
namespace Dl
open PySem
end Dl
namespace L2
open PySem PySem.Spec PyProof.Rows
end L2
namespace L2.Ds
open PySem PySem.Spec PyProof.Rows PySem.Calls Dl
end L2.Ds
namespace Dl
open PySem
end Dl
namespace L2
open PySem PySem.Spec PyProof.Rows PySem.Calls
end L2
namespace L2.Ds
open PySem PySem.Spec PyProof.Rows PySem.Calls Dl
end L2.Ds
namespace L2
open PySem PySem.Spec PyProof.Rows
end L2
namespace L2.Ds
open PySem PySem.Spec PyProof.Rows PySem.Calls Dl
end L2.Ds
namespace Dl
open PySem
end Dl
namespace HT
open PySem PyProof.Rows
end HT
namespace L2
open PySem PySem.Spec PyProof.Rows
end L2
namespace L2.Ds
open PySem PySem.Spec PyProof.Rows Dl
end L2.Ds
namespace Dl
open PySem
end Dl
namespace L2.Ds
open PySem PySem.Spec PyProof.Rows Dl
end L2.Ds
namespace Dl
open PySem
end Dl
namespace L2.Ds
open PySem PySem.Spec PyProof.Rows Dl
end L2.Ds
namespace L2
open PySem PySem.Spec PyProof.Rows PySem.W
def objX(a:Addr)(o:Obj):HO:=.ext fun h=>h.get? a=some o
theorem ZpM{P:Program}{w:World}{H:Hp}{h:Heap}{a:Addr}{o:Obj}(e:h.get? a=some o):Zca P w H h a (objX a o):=⟨e,⟨o,e⟩,fun _ _ x k=>k o x⟩
theorem ZnC{P:Program}{w:World}{H:Hp}{h:Heap}{a:Addr}{o:Obj}(x:HOk P w H h)(e:H a=some (objX a o)):h.get? a=some o:=(show _∧_ from x a _ e).1
end L2
namespace L2.Ds
open PySem PySem.Spec PyProof.Rows PySem.W Dl
end L2.Ds
namespace L2
open PySem PySem.Spec PyProof.Rows PySem.W
end L2
namespace L2.Ds
open PySem PySem.Spec PyProof.Rows PySem.W Dl
end L2.Ds
namespace L2.Ds
open PySem PySem.Spec PyProof.Rows Dl
end L2.Ds
namespace L2.Ds
open PySem PySem.Spec PyProof.Rows PySem.W Dl
end L2.Ds
namespace Dl
open PySem
def firsts(kf:Nat→List Int):Nat→List (List Int)
 | 0=>[]
 | i+1=>if kf i∈firsts kf i then firsts kf i else firsts kf i++[kf i]
def intsOf:List D→Option (List Int)
 | []=>some []
 | .int n::r=>(intsOf r).map (n::·)
 | _::_=>none
def keysOf:List D→Option (List (List Int))
 | []=>some []
 | .tup ds::r=>(intsOf ds).bind fun k=>(keysOf r).map (k::·)
 | _::_=>none
def Zgg:D→Res D
 | .lst ds=>match keysOf ds with
  | some ks=>if ds.length≤16 then .ok (.int ((firsts (fun i=>ks.getD i []) ds.length).length:Nat)) else .bad
  | none=>.bad
 | _=>.bad
end Dl
namespace L2.Sx
open PySem PySem.SetTable
def adv(m:Nat)(p:Probe):Probe :=
 if p.more>0 then { p with j:=p.j+1,more:=p.more - 1 } else
 { p with j:=(leap m p.i p.perturb).1,more:=runEnd m (leap m p.i p.perturb).1 - (leap m p.i p.perturb).1,i:=(leap m p.i p.perturb).1,perturb:=(leap m p.i p.perturb).2 }
theorem Zg7(t:SetTable)(p:Probe):t.advance p=adv t.mask p:=rfl
def run(m i pt:Nat):Probe:={ j:=i,more:=runEnd m i - i,i,perturb:=pt,dummy:=none }
theorem Znx(t:SetTable)(h:Int):t.probeStart h=run t.mask (bits h%(t.mask+1)) (bits h):=rfl
inductive Rch(m:Nat)(occ:Nat→Prop):Probe→Nat→Prop
 | here (p:Probe):Rch m occ p p.j
 | next {p:Probe} {j:Nat}:occ p.j→Rch m occ (adv m p) j→Rch m occ p j
theorem Rch.mono{m:Nat}{occ occ':Nat→Prop}(h:∀j,occ j→occ' j){p:Probe}{j:Nat}(r:Rch m occ p j):Rch m occ' p j:=by
 induction r with
 | here p=>exact .here p
 | next o _ ih=>exact .next (h _ o) ih
def ZdT(m:Nat)(occ:Nat→Prop):Nat→Probe→Prop
 | 0,p=>¬occ p.j
 | n+1,p=>¬occ p.j∨ZdT m occ n (adv m p)
def advs(m:Nat):Nat→Probe→Probe
 | 0,p=>p
 | n+1,p=>advs m n (adv m p)
theorem ZdT.of{m:Nat}{occ:Nat→Prop}:∀{n:Nat} {p:Probe},¬occ (advs m n p).j→ZdT m occ n p
 | 0,_,h=>h
 | _+1,_,h=>.inr (ZdT.of h)
theorem ZdT.mono{m:Nat}{occ:Nat→Prop}:∀{n n':Nat} {p:Probe},n≤n'→ZdT m occ n p→ZdT m occ n' p
 | 0,0,_,_,h=>h
 | 0,_+1,_,_,h=>.inl h
 | n+1,0,_,hl,_=>by omega
 | n+1,n'+1,_,hl,h=>h.elim .inl fun h=>.inr (ZdT.mono (by omega) h)
theorem ZfN(m:Nat):∀(a b:Nat) (p:Probe),advs m (a+b) p=advs m b (advs m a p)
 | 0,b,p=>by rw [Nat.zero_add];rfl
 | a+1,b,p=>by rw [Nat.add_right_comm];exact ZfN m a b (adv m p)
theorem ZeP(m i pt:Nat):∀k,k≤runEnd m i - i→advs m k (run m i pt)={ j:=i+k,more:=runEnd m i - i - k,i,perturb:=pt,dummy:=none }
 | 0,_=>rfl
 | k+1,h=>by
  rw [ZfN m k 1,ZeP m i pt k (by omega)]
  show adv m _=_
  unfold adv
  rw [if_pos (show runEnd m i - i - k>0 by omega)]
  simp only [Probe.mk.injEq,and_true]
  omega
theorem Zkb(m i pt:Nat):advs m (runEnd m i - i+1) (run m i pt)=run m (leap m i pt).1 (leap m i pt).2:=by
 rw [ZfN m (runEnd m i - i) 1,ZeP m i pt _ (VaF _)]
 show adv m _=_
 unfold adv
 rw [if_neg (by simp)]
 rfl
theorem Zpg(m i:Nat):runEnd m i - i+1≤10:=by
 unfold runEnd
 split<;>omega
def ZcC(m:Nat):Nat→Nat×Nat→Nat×Nat
 | 0,p=>p
 | n+1,p=>ZcC m n (leap m p.1 p.2)
theorem Zig(m:Nat):∀(a b:Nat) (p:Nat×Nat),ZcC m (a+b) p=ZcC m b (ZcC m a p)
 | 0,b,p=>by rw [Nat.zero_add];rfl
 | a+1,b,p=>by rw [Nat.add_right_comm];exact Zig m a b _
theorem Zih(m:Nat):∀(n i pt:Nat),∃k,k≤10*n∧advs m k (run m i pt)=run m (ZcC m n (i,pt)).1 (ZcC m n (i,pt)).2
 | 0,i,pt=>⟨0,VaF _,rfl⟩
 | n+1,i,pt=>by
  obtain ⟨k,hk,e⟩:=Zih m n (leap m i pt).1 (leap m i pt).2
  refine ⟨(runEnd m i - i+1)+k,?_,?_⟩
  ·have:=Zpg m i
   omega
  ·rw [ZfN,Zkb,e]
   rfl
theorem ZiI(m:Nat):∀(n i pt:Nat),(ZcC m n (i,pt)).2=pt/32^n
 | 0,i,pt=>by rw [Nat.pow_zero,Nat.div_one];rfl
 | n+1,i,pt=>by
  show (ZcC m n (leap m i pt)).2=_
  have e:=ZiI m n (leap m i pt).1 (leap m i pt).2
  have z:ZcC m n (leap m i pt)=ZcC m n ((leap m i pt).1,(leap m i pt).2):=rfl
  rw [z,e]
  show pt/32/32^n=pt/32^(n+1)
  rw [Nat.div_div_eq_div_mul,Nat.pow_succ,Nat.mul_comm]
theorem ZjO(m:Nat):∀(n i pt:Nat),i≤m→(ZcC m n (i,pt)).1≤m
 | 0,i,pt,h=>h
 | n+1,i,pt,h=>by
  show (ZcC m n ((leap m i pt).1,(leap m i pt).2)).1≤m
  exact ZjO m n _ _ (by unfold leap;have:=Nat.mod_lt (i*5+1+pt/32) (show 0<m+1 by omega);simp only [];omega)
theorem Zmb(h:Int):bits h<2^64:=by
 unfold bits
 have h1:=VbZ h (show ((2:Int)^64)≠0 by decide)
 have h2:=Vb0 h (show (0:Int)<2^64 by decide)
 have e:((2:Int)^64)=((2^64:Nat):Int):=by norm_cast
 omega
theorem cyc7:∀i≤7,∀e≤7,∃k≤7,(ZcC 7 k (i,0)).1=e:=by decide +kernel
theorem Zt9:∀i≤31,∀e≤31,∃k≤31,(ZcC 31 k (i,0)).1=e:=by decide +kernel
def Mk(m:Nat):Prop:=m=7∨m=31
theorem cyc{m:Nat}(hm:Mk m):∀i≤m,∀e≤m,∃k≤m,(ZcC m k (i,0)).1=e:=by
 rcases hm with rfl | rfl
 ·exact cyc7
 ·exact Zt9
theorem cover{m:Nat}(hm:Mk m){i pt e:Nat}(hi:i≤m)(hp:pt<2^64)(he:e≤m):∃n,n≤13+m∧(ZcC m n (i,pt)).1=e:=by
 have h13:(ZcC m 13 (i,pt)).2=0:=by
  rw [ZiI]
  exact Nat.div_eq_of_lt (Vae hp (by decide))
 obtain ⟨k,hk,e1⟩:=cyc hm _ (ZjO m 13 i pt hi) e he
 refine ⟨13+k,by omega,?_⟩
 rw [Zig]
 have z:ZcC m 13 (i,pt)=((ZcC m 13 (i,pt)).1,0):=by rw [←h13]
 rw [z]
 exact e1
theorem ends{m:Nat}(hm:Mk m){i pt e:Nat}{occ:Nat→Prop}(hi:i≤m)(hp:pt<2^64)(he:e≤m)(ho:¬occ e):ZdT m occ (10*(13+m)) (run m i pt):=by
 obtain ⟨n,hn,e1⟩:=cover hm hi hp he
 obtain ⟨k,hk,e2⟩:=Zih m n i pt
 refine ZdT.mono (n:=k) (by omega) (ZdT.of ?_)
 rw [e2]
 show ¬occ (ZcC m n (i,pt)).1
 rw [e1]
 exact ho
theorem ZhO(xs:Array Nat)(j:Nat)(h:xs.toList.Pairwise (· < ·)):∀(fuel lo hi:Nat),lo≤hi→hi≤xs.size→hi - lo≤fuel→(∀i (q:i<xs.size),i<lo→xs[i]<j)→(∀i (q:i<xs.size),hi≤i→¬xs[i]<j) →
  below.go xs j fuel lo hi≤xs.size∧∀i (q:i<xs.size),xs[i]<j↔i<below.go xs j fuel lo hi
 | 0,lo,hi,h1,h2,h3,h4,h5=>by
  have e:lo=hi:=by omega
  subst e
  exact ⟨h2,fun i hi=>⟨fun z=>Nat.lt_of_not_le fun q=>h5 i hi q z,fun z=>h4 i hi z⟩⟩
 | fuel+1,lo,hi,h1,h2,h3,h4,h5=>by
  unfold below.go
  by_cases hl:lo<hi
  ·rw [if_pos hl]
   simp only []
   have hm:(lo+hi)/2<xs.size:=by omega
   have hp:∀a b (ha:a<xs.size) (hb:b<xs.size),a<b→xs[a]<xs[b]:=fun a b ha hb hab=>by
    have:=Vb1.mp h a b (by simpa using ha) (by simpa using hb) hab
    simpa using this
   have eg:xs.getD ((lo+hi)/2) j=xs[(lo+hi)/2]:=by simp [Array.getD,hm]
   rw [eg]
   by_cases hc:xs[(lo+hi)/2]<j
   ·rw [if_pos hc]
    refine ZhO xs j h fuel ((lo+hi)/2+1) hi (by omega) h2 (by omega) (fun i hi' z=>?_) h5
    by_cases hz:i<(lo+hi)/2
    ·exact Vbr (hp i _ hi' hm hz) hc
    ·have:i=(lo+hi)/2:=by omega
     subst this;exact hc
   ·rw [if_neg hc]
    refine ZhO xs j h fuel lo ((lo+hi)/2) (by omega) (by omega) (by omega) h4 fun i hi' z=>?_
    by_cases hz:(lo+hi)/2<i
    ·have:=hp _ i hm hi' hz
     omega
    ·have:i=(lo+hi)/2:=by omega
     subst this;exact hc
  ·rw [if_neg hl]
   have e:lo=hi:=by omega
   subst e
   exact ⟨h2,fun i hi=>⟨fun z=>Nat.lt_of_not_le fun q=>h5 i hi q z,fun z=>h4 i hi z⟩⟩
theorem Zg5{xs:Array Nat}(j:Nat)(h:xs.toList.Pairwise (· < ·)):below xs j≤xs.size∧∀i (hi:i<xs.size),xs[i]<j↔i<below xs j :=
 ZhO xs j h xs.size 0 xs.size (VaQ _) (VaF _) (by omega) (fun _ _ z=>by omega) fun i hi z=>by omega
abbrev En:Type:=Nat×Int×Value
def Occ(l:List En)(j:Nat):Prop:=∃e∈l,e.1=j
abbrev st0(m:Nat)(h:Int):Probe:=run m (bits h%(m+1)) (bits h)
structure Tb(t:SetTable)(es:Array (Int×Value))(l:List En):Prop where
 ms:Mk t.mask
 pl:t.place.toList=l.map (·.1)
 el:es.toList=l.map (·.2)
 du:t.dummies=#[]
 up:l.Pairwise fun a b=>a.1<b.1
 le:∀e∈l,e.1≤t.mask
 rc:∀e∈l,Rch t.mask (Occ l) (st0 t.mask e.2.1) e.1
section
variable{t:SetTable}{es:Array (Int×Value)}{l:List En}
theorem Tb.plP(T:Tb t es l):t.place.toList.Pairwise (· < ·):=by rw [T.pl,List.pairwise_map];exact T.up
theorem Tb.size(T:Tb t es l):t.place.size=l.length:=by rw [←Vaw,T.pl,VaN]
theorem Tb.esize(T:Tb t es l):es.size=l.length:=by rw [←Vaw,T.el,VaN]
theorem Tb.at(T:Tb t es l){i:Nat}(hi:i<t.place.size):t.place[i]=(l[i]'(by rw [←T.size];exact hi)).1:=by
 have e:t.place.toList[i]'(by simpa using hi)=(l.map (·.1))[i]'(by rw [VaN,←T.size];exact hi):=by
  congr 1
  exact T.pl
 simpa using e
theorem Tb.live(T:Tb t es l){i:Nat}{e:En}(h:l[i]?=some e):t.slot e.1=.live i:=by
 obtain ⟨hi,rfl⟩:=Vat.mp h
 have hi':i<t.place.size:=by rw [T.size];exact hi
 obtain ⟨b1,b2⟩:=Zg5 l[i].1 T.plP
 have hp:=Vb1.mp T.up
 have eb:below t.place l[i].1=i:=by
  rcases Nat.lt_trichotomy (below t.place l[i].1) i with z | z | z
  ·have hb:below t.place l[i].1<t.place.size:=by omega
   have:=hp _ i (by rw [←T.size];exact hb) hi z
   have q:=(b2 _ hb).mp (by rw [T.at hb];exact this)
   omega
  ·exact z
  ·have q:=(b2 i hi').mpr z
   rw [T.at hi'] at q
   omega
 unfold slot
 simp only []
 rw [eb,if_pos]
 rw [Vb2 hi',T.at hi']
 simp
theorem Tb.noDummy(T:Tb t es l)(j:Nat):has t.dummies j=false:=by
 rw [T.du]
 unfold has
 simp
theorem Tb.empty(T:Tb t es l){j:Nat}(h:¬Occ l j):t.slot j=.empty:=by
 unfold slot
 simp only []
 rw [if_neg,T.noDummy,if_neg Vaz]
 intro z
 have z:=eq_of_beq z
 obtain ⟨hi,e⟩:=VbX.mp z
 rw [T.at hi] at e
 exact h ⟨_,Vb3 _,e⟩
theorem Tb.occ(T:Tb t es l){j:Nat}(h:Occ l j):∃i e,l[i]?=some e∧e.1=j∧t.slot j=.live i:=by
 obtain ⟨e,he,rfl⟩:=h
 obtain ⟨i,hi,rfl⟩:=Vb4.mp he
 exact ⟨i,_,VbH hi,rfl,T.live (VbH hi)⟩
theorem ZeH{α:Type}(xs:Array α)(p:Nat)(x:α)(hp:p≤xs.size):(insertAt xs p x).toList=xs.toList.take p++x::xs.toList.drop p:=by
 unfold insertAt
 simp [Array.toList_extract,List.extract_eq_drop_take]
 exact Vbx (by simp)
theorem Tb.put(T:Tb t es l){j:Nat}{h:Int}{x:Value}(hj:j≤t.mask)(ho:¬Occ l j)(hr:Rch t.mask (Occ l) (st0 t.mask h) j) :
  ∃l',List.Perm l' ((j,h,x)::l)∧Tb (t.put j).1 (insertAt es (t.put j).2 (h,x)) l':=by
 obtain ⟨b1,b2⟩:=Zg5 j T.plP
 have ep:(t.put j).2=below t.place j:=rfl
 have et:(t.put j).1={ t with place:=insertAt t.place (below t.place j) j,dummies:=t.dummies }:=by
  unfold SetTable.put
  simp only []
  rw [T.noDummy,if_neg Vaz]
 have hp:List.Perm (l.take (below t.place j)++(j,h,x)::l.drop (below t.place j)) ((j,h,x)::l):=by
  refine List.perm_middle.trans ?_
  rw [VbW]
 have hocc:∀k,Occ l k→Occ (l.take (below t.place j)++(j,h,x)::l.drop (below t.place j)) k:=fun k ⟨e,he,q⟩=>⟨e,hp.mem_iff.mpr (Vao _ he),q⟩
 refine ⟨l.take (below t.place j)++(j,h,x)::l.drop (below t.place j),hp,?_⟩
 rw [ep,et]
 refine ⟨T.ms,?_,?_,T.du,?_,fun e he=>?_,fun e he=>?_⟩
 ·show (insertAt t.place (below t.place j) j).toList=_
  rw [ZeH _ _ _ b1,T.pl]
  simp [Vb5,List.map_drop]
 ·rw [ZeH _ _ _ (by rw [T.esize,←T.size];exact b1),T.el]
  simp [Vb5,List.map_drop]
 ·have hlow:∀e∈l.take (below t.place j),e.1<j:=fun e he=>by
   obtain ⟨i,hi,rfl⟩:=Vb4.mp he
   have hi':i<below t.place j∧i<l.length:=by rw [VaX] at hi;omega
   have hq:i<t.place.size:=by rw [T.size];exact hi'.2
   have:=(b2 i hq).mpr hi'.1
   rw [T.at hq] at this
   simpa using this
  have hhigh:∀e∈l.drop (below t.place j),j<e.1:=fun e he=>by
   obtain ⟨i,hi,rfl⟩:=Vb4.mp he
   rw [Vbb] at hi
   have hq:below t.place j+i<t.place.size:=by rw [T.size];omega
   have h1:¬t.place[below t.place j+i]<j:=fun z=>by have:=(b2 _ hq).mp z;omega
   rw [T.at hq] at h1
   have h2:(l[below t.place j+i]'(by rw [←T.size];exact hq)).1≠j:=fun z=>ho ⟨_,Vb3 _,z⟩
   rw [List.getElem_drop]
   omega
  rw [List.pairwise_append]
  refine ⟨T.up.sublist (List.take_sublist _ _),?_,fun a ha b hb=>?_⟩
  ·rw [Vb6]
   exact ⟨fun b hb=>hhigh b hb,T.up.sublist (List.drop_sublist _ _)⟩
  ·rcases Vaq.mp hb with rfl | hb
   ·exact hlow a ha
   ·exact Vbr (hlow a ha) (hhigh b hb)
 ·rcases Vaq.mp (hp.mem_iff.mp he) with rfl | he
  ·exact hj
  ·exact T.le e he
 ·rcases Vaq.mp (hp.mem_iff.mp he) with rfl | he
  ·exact hr.mono hocc
  ·exact (T.rc e he).mono hocc
end
section
variable{t:SetTable}{es:Array (Int×Value)}{l:List En}{h:Int}{ha:Nat→Int}
def HAt(l:List En)(ha:Nat→Int):Prop:=∀i e,l[i]?=some e→ha i=e.2.1
theorem Zgq(T:Tb t es l)(hh:HAt l ha):∀(n fuel:Nat) (p:Probe),p.dummy=none→ZdT t.mask (Occ l) n p→n<fuel →
  (∃j,probe.go t ha h fuel p=some (.empty j none)∧¬Occ l j∧Rch t.mask (Occ l) p j∧∀e∈l,e.2.1=h→¬Rch t.mask (Occ l) p e.1) ∨
  (∃i e p' n',probe.go t ha h fuel p=some (.candidate e.1 i (adv t.mask p'))∧l[i]?=some e∧e.2.1=h∧p'.j=e.1∧p'.dummy=none∧n'<n∧ZdT t.mask (Occ l) n' (adv t.mask p')∧(∀j,Rch t.mask (Occ l) (adv t.mask p') j→Rch t.mask (Occ l) p j)∧∀e'∈l,e'.2.1=h→e'≠e→Rch t.mask (Occ l) p e'.1→Rch t.mask (Occ l) (adv t.mask p') e'.1)
 | n,0,p,_,_,hf=>by omega
 | n,fuel+1,p,hd,hE,hf=>by
  by_cases ho:Occ l p.j
  ·obtain ⟨i,e,hi,he,hs⟩:=T.occ ho
   cases n with
   | zero=>exact absurd ho hE
   | succ n =>
    have hE':ZdT t.mask (Occ l) n (adv t.mask p):=hE.resolve_left fun z=>z ho
    have dadv:(adv t.mask p).dummy=none:=by unfold adv;split<;>exact hd
    unfold probe.go
    rw [hs]
    simp only []
    have inj:∀e'∈l,e'.1=e.1→e'=e:=fun e' he' q=>by
     obtain ⟨a,ha',rfl⟩:=Vb4.mp he'
     obtain ⟨hb,rfl⟩:=Vat.mp hi
     have hp:=Vb1.mp T.up
     rcases Nat.lt_trichotomy a i with z | z | z
     ·have:=hp a i ha' hb z;omega
     ·subst z;rfl
     ·have:=hp i a hb ha' z;omega
    have on:∀{j:Nat},Rch t.mask (Occ l) p j→j≠p.j→Rch t.mask (Occ l) (adv t.mask p) j:=fun {j} r ne=>by
     cases r with
     | here=>exact absurd rfl ne
     | next _ r=>exact r
    by_cases hq:ha i=h
    ·rw [if_pos (by rw [hq];exact beq_self_eq_true h)]
     right
     refine ⟨i,e,p,n,by rw [Zg7,he],hi,by rw [←hh i e hi];exact hq,he.symm,hd,by omega,hE',fun j r=>.next ho r,fun e' he' _ ne r=>on r fun z=>ne (inj e' he' (by rw [z,he]))⟩
    ·rw [if_neg (by intro z;exact hq (eq_of_beq z)),Zg7]
     have neh:e.2.1≠h:=by rw [←hh i e hi];exact hq
     rcases Zgq T hh n fuel (adv t.mask p) dadv hE' (by omega) with ⟨j,e1,e2,e3,e4⟩ | ⟨i',e',p',n',e1,e2,e3,e4,e5,e6,e7,e8,e9⟩
     ·left
      refine ⟨j,e1,e2,.next ho e3,fun e' he' q r=>e4 e' he' q (on r fun z=>?_)⟩
      have:=inj e' he' (by rw [z,he])
      subst this
      exact neh q
     ·right
      refine ⟨i',e',p',n',e1,e2,e3,e4,e5,by omega,e7,fun j r=>.next ho (e8 j r),fun e'' he'' q ne r=>e9 e'' he'' q ne (on r fun z=>?_)⟩
      have:=inj e'' he'' (by rw [z,he])
      subst this
      exact neh q
  ·left
   unfold probe.go
   rw [T.empty ho]
   simp only []
   refine ⟨p.j,by rw [hd],ho,.here p,fun e he _ r=>?_⟩
   generalize hz:e.1=z at r
   cases r with
   | here=>exact ho ⟨e,he,hz⟩
   | next o _=>exact ho o
end
theorem ZoQ{α:Type}:∀{xs ys:List α},xs.Nodup→(∀x∈xs,x∈ys)→xs.length≤ys.length
 | [],_,_,_=>VaQ _
 | x::r,ys,hn,hs=>by
  obtain ⟨a,b,rfl⟩:=List.append_of_mem (hs x Van)
  rw [VaV] at hn
  have:=ZoQ (ys:=a++b) hn.2 fun y hy=>by
   rcases Var.mp (hs y (Vao _ hy)) with z | z
   ·exact Vas _ z
   ·rcases Vaq.mp z with rfl | z
    ·exact absurd hy hn.1
    ·exact VaI _ z
  simp at this ⊢
  omega
theorem ZhZ{m:Nat}{js:List Nat}(h:js.length≤m):∃e,e≤m∧e∉js:=by
 refine Vb7 fun z=>?_
 have:=ZoQ (xs:=List.range (m+1)) (ys:=js) List.nodup_range fun x hx=>Vb7 fun q=>z ⟨x,by have:=Vai.mp hx;omega,q⟩
 rw [VbF] at this
 omega
theorem Zhn{m:Nat}{occ:Nat→Prop}:∀{k:Nat} {p:Probe} {j:Nat},(∀k'<k,occ (advs m k' p).j)→Rch m occ (advs m k p) j→Rch m occ p j
 | 0,_,_,_,r=>r
 | k+1,p,j,h,r=>.next (h 0 (by omega)) (Zhn (k:=k) (fun k' hk=>h (k'+1) (by omega)) r)
theorem Zpm{m i pt k:Nat}{occ:Nat→Prop}(hk:k≤runEnd m i - i)(h:∀k'<k,occ (i+k')):Rch m occ (run m i pt) (i+k):=by
 refine Zhn (k:=k) (fun k' hk'=>?_) ?_
 ·rw [ZeP m i pt k' (by omega)]
  exact h k' hk'
 ·rw [ZeP m i pt k hk]
  exact .here _
theorem Zoh{m i pt j:Nat}{occ:Nat→Prop}(h:∀k'≤runEnd m i - i,occ (i+k'))(r:Rch m occ (run m (leap m i pt).1 (leap m i pt).2) j):Rch m occ (run m i pt) j:=by
 refine Zhn (k:=runEnd m i - i+1) (fun k' hk'=>?_) ?_
 ·rw [ZeP m i pt k' (by omega)]
  exact h k' (by omega)
 ·rw [Zkb]
  exact r
structure Ow(m:Nat)(owner:Array (Option Nat))(js:List Nat):Prop where
 sz:owner.size=m+1
 nd:js.Nodup
 le:∀j∈js,j≤m
 is:∀j k,j≤m→(owner[j]?=some (some k)↔js[k]?=some j)
theorem Ow.none{m:Nat}{owner:Array (Option Nat)}{js:List Nat}(O:Ow m owner js){j:Nat}(hj:j≤m):(owner.getD j (some 0)).isNone=true↔j∉js:=by
 have hb:j<owner.size:=by rw [O.sz];omega
 have eg:owner.getD j (some 0)=owner[j]:=by simp [Array.getD,hb]
 rw [eg]
 constructor
 ·intro z hm
  obtain ⟨k,hk,e⟩:=Vb4.mp hm
  have:=(O.is j k hj).mpr (by rw [VbH hk,e])
  rw [Vb2 hb] at this
  rw [Vau this] at z
  exact Bool.noConfusion z
 ·intro z
  cases q:owner[j] with
  | none=>rfl
  | some k =>
   have:=(O.is j k hj).mp (by rw [Vb2 hb,q])
   exact absurd (Va3 this) z
theorem Zgl{m i:Nat}(h:i≤m):i≤runEnd m i∧runEnd m i≤m:=by
 unfold runEnd
 split<;>omega
theorem Zia{m:Nat}{owner:Array (Option Nat)}{js:List Nat}(O:Ow m owner js){e:Nat}(he:e≤m)(hf:e∉js):∀(fuel L i pt:Nat),i≤m→L<fuel→(ZcC m L (i,pt)).1=e →
  ∃j,j≤m∧layClean.free m owner fuel i pt=some j∧j∉js∧Rch m (·∈js) (run m i pt) j
 | 0,L,i,pt,_,hl,_=>by omega
 | fuel+1,L,i,pt,hi,hl,hL=>by
  obtain ⟨r1,r2⟩:=Zgl hi
  unfold layClean.free
  cases q:(List.range (runEnd m i+1 - i)).find? fun k=>(owner.getD (i+k) (some 0)).isNone with
  | some k =>
   obtain ⟨hp,as,bs,hs,ha⟩:=List.find?_eq_some_iff_append.mp q
   have hk:k<runEnd m i+1 - i:=Vai.mp (by rw [hs];simp)
   have hbef:∀k'<k,(owner.getD (i+k') (some 0)).isNone=false:=fun k' hk'=>by
    have hlen:as.length=k:=by
     have:=Vax (fun l=>l[as.length]?) hs
     simp at this
     rw [VbG (by have:=Vax List.length hs;simp at this;omega)] at this
     exact Vau this
    have hmem:k'∈as:=by
     have e1:(List.range (runEnd m i+1 - i))[k']?=(as++k::bs)[k']?:=by rw [hs]
     rw [VbG (by omega),Va1 (by omega)] at e1
     exact Va3 e1.symm
    have:=ha k' hmem
    simpa using this
   simp only []
   refine ⟨i+k,by omega,rfl,(O.none (by omega)).mp hp,Zpm (by omega) fun k' hk'=>?_⟩
   exact Vb7 fun z=>by
    have h1:=hbef k' hk'
    rw [(O.none (by omega)).mpr z] at h1
    exact Bool.noConfusion h1
  | none =>
   simp only []
   have hall:∀k'≤runEnd m i - i,i+k'∈js:=fun k' hk'=>Vb7 fun z=>by
    have h1:=List.find?_eq_none.mp q k' (Vai.mpr (by omega))
    exact h1 ((O.none (by omega)).mpr z)
   cases L with
   | zero =>
    have:i=e:=hL
    subst this
    exact absurd (hall 0 (by omega)) hf
   | succ L =>
    have hi':(leap m i pt).1≤m:=by
     unfold leap
     have:=VbY (i*5+1+pt/32) (show 0<m+1 by omega)
     simp only []
     omega
    obtain ⟨j,h1,h2,h3,h4⟩:=Zia O he hf fuel L (leap m i pt).1 (leap m i pt).2 hi' (by omega) hL
    exact ⟨j,h1,h2,h3,Zoh hall h4⟩
theorem Ow.put{m:Nat}{owner:Array (Option Nat)}{js:List Nat}(O:Ow m owner js){j:Nat}(hj:j≤m)(hf:j∉js):Ow m (owner.setIfInBounds j (some js.length)) (js++[j]):=by
 refine ⟨by rw [Array.size_setIfInBounds];exact O.sz,?_,fun i hi=>?_,fun i k hi=>?_⟩
 ·rw [List.nodup_append]
  refine ⟨O.nd,by simp,fun a ha b hb=>?_⟩
  rw [Vb8] at hb
  subst hb
  rintro rfl
  exact hf ha
 ·rcases Var.mp hi with z | z
  ·exact O.le i z
  ·rw [Vb8] at z;subst z;exact hj
 ·rw [Array.getElem?_setIfInBounds]
  have hb:j<owner.size:=by rw [O.sz];omega
  by_cases e:j=i
  ·subst e
   rw [if_pos rfl,if_pos hb]
   constructor
   ·intro z
    cases z
    simp
   ·intro z
    by_cases hk:k<js.length
    ·rw [Va1 hk] at z
     exact absurd (Va3 z) hf
    ·have:k=js.length:=by
      have:=(Vat.mp z).1
      simp at this
      omega
     rw [this]
  ·rw [if_neg e,O.is i k hi]
   constructor
   ·intro z
    rw [Va1 (Vat.mp z).1]
    exact z
   ·intro z
    by_cases hk:k<js.length
    ·rw [Va1 hk] at z;exact z
    ·have:k=js.length:=by
      have:=(Vat.mp z).1
      simp at this
      omega
     subst this
     simp at z
     exact absurd z e
def RcW(m:Nat)(hs:List Int)(js:List Nat):Prop:=∀(k:Nat) (h:Int) (j:Nat),hs[k]?=some h→js[k]?=some j→Rch m (·∈js) (st0 m h) j
theorem Zjs{m:Nat}(hm:Mk m):∀(rest done:List Int) (owner:Array (Option Nat)) (js:List Nat),Ow m owner js→js.length=done.length→RcW m done js→done.length+rest.length≤m →
  ∃owner' js',rest.foldl (fun acc h=>do
   let (owner,k) ←acc
   let j ←layClean.free m owner (turns m) (bits h%(m+1)) (bits h)
   pure (owner.setIfInBounds j (some k),k+1)) (some (owner,js.length))=some (owner',js'.length)∧Ow m owner' js'∧js'.length=(done++rest).length∧RcW m (done++rest) js'
 | [],done,owner,js,O,hl,hr,_=>⟨owner,js,rfl,O,by rw [VaS];exact hl,by rw [VaS];exact hr⟩
 | h::rest,done,owner,js,O,hl,hr,hle=>by
  simp only [VaL] at hle
  obtain ⟨e,he,hf⟩:=ZhZ (m:=m) (js:=js) (by omega)
  have hi:bits h%(m+1)≤m:=by
   have:=VbY (bits h) (show 0<m+1 by omega)
   omega
  obtain ⟨L,hL,eL⟩:=cover hm hi (Zmb h) he
  obtain ⟨j,h1,h2,h3,h4⟩:=Zia O he hf (turns m) L _ (bits h) hi (by unfold turns;omega) eL
  have O':=O.put h1 h3
  have hr':RcW m (done++[h]) (js++[j]):=by
   intro k h' j' e1 e2
   by_cases hk:k<done.length
   ·rw [Va1 hk] at e1
    rw [Va1 (by omega)] at e2
    exact (hr k h' j' e1 e2).mono fun x hx=>Vas _ hx
   ·have:k=done.length:=by
     have:=(Vat.mp e1).1
     simp at this
     omega
    subst this
    simp at e1
    rw [←hl] at e2
    simp at e2
    subst e1 e2
    exact h4.mono fun x hx=>Vas _ hx
  obtain ⟨owner',js',e1,e2,e3,e4⟩:=Zjs hm rest (done++[h]) _ (js++[j]) O' (by simp [hl]) hr' (by simp;omega)
  refine ⟨owner',js',?_,e2,by rw [e3];simp,by simpa using e4⟩
  rw [List.foldl_cons]
  have z:(do
   let (owner,k) ←some (owner,js.length)
   let j ←layClean.free m owner (turns m) (bits h%(m+1)) (bits h)
   pure (owner.setIfInBounds j (some k),k+1):Option (Array (Option Nat)×Nat))=some (owner.setIfInBounds j (some js.length),(js++[j]).length):=by
   show (layClean.free m owner (turns m) (bits h%(m+1)) (bits h)).bind _=_
   rw [h2]
   simp
  rw [z]
  exact e1
theorem ZmF{m:Nat}(hm:Mk m)(hashes:Array Int)(hl:hashes.size≤m):∃owner js,layClean m hashes=some owner∧Ow m owner js∧js.length=hashes.size∧RcW m hashes.toList js:=by
 have O0:Ow m (Array.replicate (m+1) none) []:=⟨by simp,List.nodup_nil,fun _ h=>(VbQ h).elim,fun j k hj=>by
  rw [Array.getElem?_replicate]
  simp [hj]⟩
 obtain ⟨owner,js,e1,e2,e3,e4⟩:=Zjs hm hashes.toList [] _ [] O0 rfl (fun k h j e _=>by simp at e) (by simpa using hl)
 refine ⟨owner,js,?_,e2,by simpa using e3,by simpa using e4⟩
 unfold layClean
 rw [←Array.foldl_toList]
 have z:=Vax (Option.map (·.1)) e1
 exact z
section
variable{t:SetTable}{es:Array (Int×Value)}{l:List En}
theorem Zmu{m:Nat}{owner:Array (Option Nat)}{js:List Nat}(O:Ow m owner js)(live:List (Nat×Nat))(hlive:live=(List.range (m+1)).filterMap fun j=>(owner.getD j none).map (j,·)) :
  live.Pairwise (fun a b=>a.1<b.1)∧∀j k,(j,k)∈live↔js[k]?=some j:=by
 have mem:∀j k,(j,k)∈live↔js[k]?=some j:=fun j k=>by
  rw [hlive,VaH]
  constructor
  ·rintro ⟨i,hi,e⟩
   have hi:=Vai.mp hi
   have hb:i<owner.size:=by rw [O.sz];exact hi
   have eg:owner.getD i none=owner[i]:=by simp [Array.getD,hb]
   rw [eg] at e
   cases q:owner[i] with
   | none=>rw [q] at e;cases e
   | some k' =>
    rw [q] at e
    simp only [Option.map_some,Option.some.injEq,Prod.mk.injEq] at e
    obtain ⟨rfl,rfl⟩:=e
    exact (O.is i k' (by omega)).mp (by rw [Vb2 hb,q])
  ·intro e
   have hj:=O.le j (Va3 e)
   have hb:j<owner.size:=by rw [O.sz];omega
   refine ⟨j,Vai.mpr (by omega),?_⟩
   have eg:owner.getD j none=owner[j]:=by simp [Array.getD,hb]
   have q:=(O.is j k hj).mpr e
   rw [Vb2 hb] at q
   rw [eg,Vau q]
   rfl
 refine ⟨?_,mem⟩
 rw [hlive,List.pairwise_filterMap]
 refine List.pairwise_lt_range.imp fun {a b} hab=>?_
 intro x hx y hy
 cases qa:owner.getD a none with
 | none=>rw [qa] at hx;cases hx
 | some ka =>
  cases qb:owner.getD b none with
  | none=>rw [qb] at hy;cases hy
  | some kb =>
   rw [qa] at hx
   rw [qb] at hy
   cases hx
   cases hy
   exact hab
theorem Tb.relay(T:Tb t es l)(hl:l.length≤16){wanted:Nat}(hw:sizeAbove wanted=32) :
  ∃t' order l',t.relaid (es.map (·.1)) wanted=some (t',order)∧t'.mask=31∧t'.led=t.led∧t'.plain=t.plain∧Tb t' (order.filterMap (es[·]?)) l'∧List.Perm (l'.map (·.2)) (l.map (·.2)):=by
 have hm:Mk 31:=.inr rfl
 obtain ⟨owner,js,e1,O,lj,rc⟩:=ZmF hm (es.map (·.1)) (by rw [Array.size_map,T.esize];omega)
 obtain ⟨live,hlive⟩ : ∃live,live=(List.range (31+1)).filterMap fun j=>(owner.getD j none).map (j,·):=⟨_,rfl⟩
 obtain ⟨up,mem⟩:=Zmu O live hlive
 have ljl:js.length=l.length:=by rw [lj,Array.size_map,T.esize]
 have hat:∀j k,(j,k)∈live→k<l.length:=fun j k h=>by
  have:=(Vat.mp ((mem j k).mp h)).1
  omega
 have hes:∀k,k<l.length→es[k]?=some ((l.getD k (0,0,.none)).2):=fun k hk=>by
  rw [←Array.getElem?_toList,T.el,Va2,VbH hk]
  simp [List.getD,hk]
 obtain ⟨l',hl'⟩ : ∃l':List En,l'=live.map fun p=>(p.1,(l.getD p.2 (0,0,.none)).2):=⟨_,rfl⟩
 have hnd:(live.map (·.2)).Nodup:=by
  unfold List.Nodup
  rw [List.pairwise_map]
  refine List.Pairwise.imp_of_mem (R:=fun a b=>a.1<b.1) (fun {a b} ha hb hab=>?_) up
  intro z
  have h1:=(mem a.1 a.2).mp ha
  have h2:=(mem b.1 b.2).mp hb
  rw [z,h2] at h1
  have:=Vau h1
  omega
 have hperm:List.Perm (live.map (·.2)) (List.range l.length):=by
  rw [List.perm_ext_iff_of_nodup hnd List.nodup_range]
  intro k
  rw [Vai]
  constructor
  ·intro h
   obtain ⟨⟨j,k'⟩,hp,rfl⟩:=Vbs.mp h
   exact hat j k' hp
  ·intro h
   refine Vbs.mpr ⟨(js[k]'(by omega),k),(mem _ _).mpr (VbH (by omega)),rfl⟩
 refine ⟨{ mask:=31,place:=(live.map (·.1)).toArray,dummies:=#[],finger:=t.finger,led:=t.led,moves:=t.movedTo 31,plain:=t.plain },(live.map (·.2)).toArray,l',?_,rfl,rfl,rfl,?_,?_⟩
 ·unfold relaid
  rw [hw]
  show laid 31 _ _ _ _ _=_
  unfold laid
  rw [e1]
  show some _=some _
  rw [hlive]
 ·have oc:∀j,j∈js→Occ l' j:=fun j hj=>by
   obtain ⟨k,hk,rfl⟩:=Vb4.mp hj
   exact ⟨_,by rw [hl'];exact Vbs.mpr ⟨(js[k],k),(mem _ _).mpr (VbH hk),rfl⟩,rfl⟩
  refine ⟨hm,?_,?_,rfl,?_,fun e he=>?_,fun e he=>?_⟩
  ·show live.map (·.1)=_
   rw [hl',VbJ]
   rfl
  ·rw [Array.toList_filterMap]
   show (live.map (·.2)).filterMap (es[·]?)=_
   rw [hl',VbJ,Vba]
   have key:∀q:List (Nat×Nat),(∀x∈q,x.2<l.length)→q.filterMap ((es[·]?) ∘ (·.2))=q.map ((·.2) ∘ fun p:Nat×Nat=>((p.1,(l.getD p.2 (0,0,Value.none)).2):En)):=by
    intro q
    induction q with
    | nil=>intro _;rfl
    | cons x r ih =>
     intro h
     rw [Vam,VaM,←ih fun y hy=>h y (Vao _ hy)]
     simp only [Function.comp]
     rw [hes x.2 (h x Van)]
   exact key live fun x hx=>hat x.1 x.2 hx
  ·rw [hl',List.pairwise_map]
   exact up
  ·rw [hl'] at he
   obtain ⟨⟨j,k⟩,hp,rfl⟩:=Vbs.mp he
   exact O.le j (Va3 ((mem j k).mp hp))
  ·rw [hl'] at he
   obtain ⟨⟨j,k⟩,hp,rfl⟩:=Vbs.mp he
   have hk:=hat j k hp
   refine (rc k _ j ?_ ((mem j k).mp hp)).mono oc
   rw [Array.toList_map,T.el,VbJ,Va2,VbH hk]
   simp [List.getD,hk]
 ·rw [hl',VbJ]
  have e:l.map (·.2)=(List.range l.length).map fun k=>(l.getD k (0,0,Value.none)).2:=by
   apply List.ext_getElem?
   intro i
   by_cases h:i<l.length
   ·simp [h]
   ·simp [h]
  rw [e]
  have:=hperm.map fun k=>(l.getD k (0,0,Value.none)).2
  rw [VbJ] at this
  exact this
end
section
variable{prog:Program}{w:World}{A:Around}{E:Value→Shared→Prop}{s:Shared}
theorem items_int{ks:List Int}{vs:List Value}(h:ItemsAre (intKind prog w) ks vs):∀v∈vs,∃i t,v=Value.int i t:=by
 induction h with
 | nil=>exact fun _ h=>(VbQ h).elim
 | @cons k v ks vs h1 _ ih =>
  intro u hu
  rcases Vaq.mp hu with rfl | hu
  ·cases u with
   | int i t=>exact ⟨i,t,rfl⟩
   | _=>exact absurd h1 (by intro z;exact Bool.noConfusion z)
  ·exact ih u hu
theorem ZiB{a:Addr}{ks:List Int}{Q:Bool→Shared→Prop}(hk:IsTupleKey (intKind prog w) s.heap ks a)(h:Q false s):wpAny (model prog w) A (ofAClassStatement 8 (.ref a)) Q E s:=by
 obtain ⟨o,items,n,ho,hc,hd,hi⟩:=hk
 have hT:s.TypeIs (.ref a) "tuple" := ⟨o,ho,hc⟩
 have hint:=items_int hi
 unfold ofAClassStatement
 refine VaC (Vbg hT ?_)
 dsimp only
 rw [if_pos (by decide)]
 refine VaC (VaB ?_)
 simp only [Bool.not_true,Vbu,Va7]
 refine VaC (Vbz ho hd ?_)
 refine VaC ?_
 rw [←VbP]
 refine wpAny_forIn_list _ (fun rest r s'=>r.1=none∧s'=s∧∀v∈rest,∃i t,v=Value.int i t) _ ?_ ?_ _ _ ⟨rfl,rfl,hint⟩
 ·rintro v rest r s' ⟨hr,rfl,hall⟩
  obtain ⟨i,t,rfl⟩:=hall v Van
  refine VaC (VaB ?_)
  simp only [Vbu,Va7]
  exact VaB ⟨rfl,rfl,fun u hu'=>hall u (Vao _ hu')⟩
 ·rintro ⟨r1,r2⟩ s' ⟨hr,rfl,_⟩
  simp only at hr
  subst hr
  exact VaB h
theorem Zpw{x:Addr}{ks:List Int}{stored:List Value}{Q:Bool→Shared→Prop}(hx:IsTupleKey (intKind prog w) s.heap ks x)(hs:∀y∈stored,∃b ks',y=Value.ref b∧IsTupleKey (intKind prog w) s.heap ks' b)(h:Q false s) :
  wpAny (model prog w) A (searchCouldBeSeen (.ref x) stored) Q E s:=by
 unfold searchCouldBeSeen
 refine VaC ?_
 refine wpAny_forIn_list _ (fun rest r s'=>r.1=none∧s'=s∧∀v∈rest,∃b ks',v=Value.ref b∧IsTupleKey (intKind prog w) s.heap ks' b) _ ?_ ?_ _ _ ⟨rfl,rfl,hs⟩
 ·rintro v rest r s' ⟨hr,rfl,hall⟩
  obtain ⟨b,ks',rfl,hb⟩:=hall v Van
  dsimp only
  split
  ·exact VaB ⟨rfl,rfl,fun u hu'=>hall u (Vao _ hu')⟩
  ·refine VaC (wpAny_eqIsQuiet_tuple hx ?_)
   simp only [Bool.not_true,Vbu,Va7]
   refine VaC (wpAny_eqIsQuiet_tuple hb ?_)
   simp only [Bool.not_true,Vbu,Va7]
   refine VaC (ZiB hx ?_)
   simp only [Vbu,Va7]
   refine VaC (ZiB hb ?_)
   simp only [Vbu,Va7]
   exact VaB ⟨rfl,rfl,fun u hu'=>hall u (Vao _ hu')⟩
 ·rintro ⟨r1,r2⟩ s' ⟨hr,rfl,_⟩
  simp only at hr
  subst hr
  exact VaB h
theorem ZkE{a:Addr}{ks:List Int}{Q:Bool→Shared→Prop}(hk:IsTupleKey (intKind prog w) s.heap ks a)(h:Q true s):wpAny (model prog w) A (hashByValue 8 (.ref a)) Q E s:=by
 have hT:=hk.typeIs
 obtain ⟨o,items,n,ho,hc,hd,hi⟩:=hk
 have hint:=items_int hi
 unfold hashByValue
 refine VaC (wpAny_specialOf hT F.slot_tuple_hash.lookup ?_)
 dsimp only
 refine VaC (Vbz ho hd ?_)
 refine VaC ?_
 show wpAny _ _ (forIn items _ _) _ _ s
 rw [←VbP]
 refine wpAny_forIn_list _ (fun rest r s'=>r.1=none∧s'=s∧∀v∈rest,∃i t,v=Value.int i t) _ ?_ ?_ _ _ ⟨rfl,rfl,hint⟩
 ·rintro v rest r s' ⟨hr,rfl,hall⟩
  obtain ⟨i,t,rfl⟩:=hall v Van
  refine VaC (VaB ?_)
  simp only [Bool.not_true,Vbu,Va7]
  exact VaB ⟨rfl,rfl,fun u hu'=>hall u (Vao _ hu')⟩
 ·rintro ⟨r1,r2⟩ s' ⟨hr,rfl,_⟩
  simp only at hr
  subst hr
  exact VaB h
end
section
variable{prog:Program}{w:World}{A:Around}{E:Value→Shared→Prop}{s:Shared}
def El(prog:Program)(w:World)(h:Heap)(p:Int×Value)(ks:List Int):Prop:=∃x:Addr,p.2=.ref x∧IsTupleKey (intKind prog w) h ks x∧p.1=tupleKeyHash (intKind prog w) ks
theorem El.inj{h:Heap}{p:Int×Value}{a b:List Int}(ha:El prog w h p a)(hb:El prog w h p b):a=b:=by
 obtain ⟨x,e,hx,_⟩:=ha
 obtain ⟨y,e',hy,_⟩:=hb
 rw [e] at e'
 cases e'
 exact hx.inj hy
theorem Tb.fits{t:SetTable}{es:Array (Int×Value)}{l:List En}(T:Tb t es l)(hl:l.length≤t.mask):t.fits es.size=true:=by
 unfold SetTable.fits SetTable.fill
 rw [T.du,T.size,T.esize]
 simp
 exact hl
theorem Tb.odd{t:SetTable}{es:Array (Int×Value)}{l:List En}(T:Tb t es l):t.gaveWay=false:=by
 unfold SetTable.gaveWay
 rcases T.ms with e | e<;>rw [e]<;>rfl
theorem ZrJ{t:SetTable}{es:Array (Int×Value)}{l:List En}(T:Tb t es l):HAt l (fun i=>(es[i]?.map (·.1)).getD 0):=fun i e h=>by
 show ((es[i]?.map (·.1)).getD 0)=_
 rw [←Array.getElem?_toList,T.el,Va2,h]
 rfl
theorem Zlu{a x:Addr}{es:Array (Int×Value)}{ep:Nat}{t:SetTable}{o:Obj}{l:List En}{ks:List Int}(hu:A.units<cLine)(ho:s.heap.get? a=some o)(hd:o.data=.set es ep t)(T:Tb t es l)(hl:l.length≤t.mask)
  (hel:∀e∈l,∃ks',El prog w s.heap e.2 ks') (hx:IsTupleKey (intKind prog w) s.heap ks x) {R:SetFound→Shared→Prop} :
  ∀(n fuel:Nat) (stand:Option Probe),n<fuel→n≤10*(13+t.mask)→(stand.getD (t.probeStart (tupleKeyHash (intKind prog w) ks))).dummy=none→ZdT t.mask (Occ l) n (stand.getD (t.probeStart (tupleKeyHash (intKind prog w) ks))) →
   ((∃e∈l,El prog w s.heap e.2 ks∧Rch t.mask (Occ l) (stand.getD (t.probeStart (tupleKeyHash (intKind prog w) ks))) e.1)∧R (.there none) s)∨((∀e∈l,¬El prog w s.heap e.2 ks)∧∀j,¬Occ l j→Rch t.mask (Occ l) (stand.getD (t.probeStart (tupleKeyHash (intKind prog w) ks))) j→R (.free j false) s) →
   wpAny (model prog w) A (setSearchFrom a (.ref x) (tupleKeyHash (intKind prog w) ks) true fuel stand) R E s:=by
 intro n
 induction n using Nat.strongRecOn with
 | ind n ih =>
  intro fuel stand hf hn hdm hE hR
  obtain ⟨fuel,rfl⟩ : ∃k,fuel=k+1:=⟨fuel - 1,by omega⟩
  unfold setSearchFrom
  refine VaC (Vb9 ho hd (T.fits hl) ?_)
  dsimp only
  rw [T.odd]
  simp only [Vbu,Va7]
  generalize hp:stand.getD (t.probeStart (tupleKeyHash (intKind prog w) ks))=p at *
  rcases Zgq (h:=tupleKeyHash (intKind prog w) ks) T (ZrJ T) n (10*turns t.mask) p hdm hE (by unfold turns;omega) with ⟨j,e1,e2,e3,e4⟩ | ⟨i,e,p',n',e1,e2,e3,e4,e5,e6,e7,e8,e9⟩
  ·generalize hm:t.probe _ (tupleKeyHash (intKind prog w) ks) p=met
   have hm':met=some (.empty j none):=hm.symm.trans e1
   subst hm'
   dsimp only
   refine VaB ?_
   rcases hR with ⟨⟨e,he,hel',hr⟩,_⟩ | ⟨_,hR⟩
   ·obtain ⟨_,_,_,hh⟩:=hel'
    exact absurd hr (e4 e he hh)
   ·exact hR j e2 e3
  ·generalize hm:t.probe _ (tupleKeyHash (intKind prog w) ks) p=met
   have hm':met=some (.candidate e.1 i (adv t.mask p')):=hm.symm.trans e1
   subst hm'
   dsimp only
   have hmem:e∈l:=Va3 e2
   obtain ⟨ks',y,ey,hy,hyh⟩:=hel e hmem
   have hes:es[i]?=some e.2:=by rw [←Array.getElem?_toList,T.el,Va2,e2];rfl
   have hes':es[i]?=some (e.2.1,Value.ref y):=by rw [hes,←ey]
   have hnext:∀stand':Option Probe,stand'.getD (t.probeStart (tupleKeyHash (intKind prog w) ks))=adv t.mask p'→¬ks'=ks→wpAny (model prog w) A (setSearchFrom a (.ref x) (tupleKeyHash (intKind prog w) ks) true fuel stand') R E s:=fun stand' hst hne=>by
    refine ih n' e6 fuel stand' (by omega) (by omega) ?_ ?_ ?_
    ·rw [hst];unfold adv;split<;>exact e5
    ·rw [hst];exact e7
    ·rw [hst]
     rcases hR with ⟨⟨e',he',hel',hr⟩,hq⟩ | ⟨hno,hR⟩
     ·left
      refine ⟨⟨e',he',hel',e9 e' he' hel'.choose_spec.2.2 (fun z=>?_) hr⟩,hq⟩
      subst z
      exact hne (El.inj ⟨y,ey,hy,hyh⟩ hel')
     ·exact .inr ⟨hno,fun j hj hr=>hR j hj (e8 j hr)⟩
   have hthere:ks'=ks→R (.there none) s:=fun hk=>by
    subst hk
    rcases hR with ⟨_,hq⟩ | ⟨hno,_⟩
    ·exact hq
    ·exact absurd ⟨y,ey,hy,hyh⟩ (hno e hmem)
   rw [hes']
   dsimp only
   have hst:∀y∈List.map (fun x=>x.2) (Array.filter (fun x=>x.1==tupleKeyHash (intKind prog w) ks) es).toList,∃b ks',y=Value.ref b∧IsTupleKey (intKind prog w) s.heap ks' b:=fun y hy=>by
    obtain ⟨q,hq,rfl⟩:=Vbs.mp hy
    rw [Array.toList_filter] at hq
    have hq:=(Vah.mp hq).1
    rw [T.el] at hq
    obtain ⟨e',he',rfl⟩:=Vbs.mp hq
    obtain ⟨k2,y2,h1,h2,_⟩:=hel e' he'
    exact ⟨y2,k2,h1,h2⟩
   have hsm:t.sameMemory t.moves t.mask=some true:=by unfold SetTable.sameMemory;simp
   cases hled:t.led
   all_goals simp only [Bool.not_false,Bool.not_true,Vbu,Va7,Va8]
   ·refine VaC (Zpw hx hst ?_)
    simp only [Vbu,Va7]
    refine VaC (Vbc (wpAny_eqBool_tuple hu hy hx ?_))
    refine VaC (Vb9 ho hd (T.fits hl) ?_)
    dsimp only
    by_cases hk:ks'=ks
    ·rw [Vbm hk]
     simp only [Bool.and_true,Va8]
     exact VaB (hthere hk)
    ·rw [Vab hk]
     simp only [Bool.and_false,Vbu,Va7]
     rw [hsm]
     dsimp only
     simp only [Va8]
     rw [T.live e2]
     dsimp only
     rw [hes']
     dsimp only
     refine wpAny_bind (wpAny_of_eq (show isSame (.ref y) (.ref y)=pure true by unfold isSame;simp) ?_)
     refine VaC (VaB ?_)
     exact hnext (some _) rfl hk
   ·refine VaC (Vbc (wpAny_eqBool_tuple hu hy hx ?_))
    refine VaC (Vb9 ho hd (T.fits hl) ?_)
    dsimp only
    by_cases hk:ks'=ks
    ·rw [Vbm hk]
     simp only [Bool.and_true,Va8]
     exact VaB (hthere hk)
    ·rw [Vab hk]
     simp only [Bool.and_false,Vbu,Va7]
     rw [hsm]
     dsimp only
     simp only [Va8]
     rw [T.live e2]
     dsimp only
     rw [hes']
     dsimp only
     refine wpAny_bind (wpAny_of_eq (show isSame (.ref y) (.ref y)=pure true by unfold isSame;simp) ?_)
     refine VaC (VaB ?_)
     exact hnext (some _) rfl hk
end
section
variable{prog:Program}{w:World}{A:Around}{E:Value→Shared→Prop}{s:Shared}
def SetT(prog:Program)(w:World)(h:Heap)(a:Addr)(kss:List (List Int)):Prop:=∃o es ep t l,h.get? a=some o∧o.ExactSet∧o.data=.set es ep t∧Tb t es l∧(t.mask=7→l.length≤4)∧l.length≤16 ∧
 (∀e∈l,∃ks∈kss,El prog w h e.2 ks)∧(∀ks∈kss,∃e∈l,El prog w h e.2 ks)∧l.length=kss.length
theorem El.keeps{h h':Heap}{a:Addr}{p:Int×Value}{ks:List Int}{o:Obj}{es:Array (Int×Value)}{ep:Nat}{t:SetTable}(x:El prog w h p ks)(ho:h.get? a=some o)(hd:o.data=.set es ep t)(hs:Heap.SameBut a h h'):El prog w h' p ks:=by
 obtain ⟨x,e,⟨o',items,n,ho',hc,hd',hi⟩,hh⟩:=x
 have hne:x≠a:=by
  rintro rfl
  obtain rfl:o'=o:=Vau (ho'.symm.trans ho)
  rw [hd] at hd';exact nomatch hd'
 exact ⟨x,e,⟨o',items,n,(hs.2 x hne).trans ho',hc,hd',hi⟩,hh⟩
theorem ZtC{m:Nat}{occ:Nat→Prop}{p:Probe}{j:Nat}(r:Rch m occ p j):p.j+p.more≤m→j≤m:=by
 induction r with
 | here p=>exact fun h=>by omega
 | @next p j _ _ ih =>
  intro h
  refine ih ?_
  unfold adv
  split
  ·simp only []
   omega
  ·have hi:(leap m p.i p.perturb).1≤m:=by
    unfold leap
    have:=VbY (p.i*5+1+p.perturb/32) (show 0<m+1 by omega)
    simp only []
    omega
   have:=Zgl hi
   simp only []
   omega
theorem Zof(t:SetTable)(j:Nat):(t.put j).1.mask=t.mask∧(t.put j).1.plain=t.plain:=⟨rfl,rfl⟩
theorem Zs0{a x:Addr}{ks:List Int}{kss:List (List Int)}{Q:Bool→Shared→Prop}(hu:A.units<cLine)(hS:SetT prog w s.heap a kss)(hx:IsTupleKey (intKind prog w) s.heap ks x)(hn:kss.length+1≤16)
  (h:∀b h',Heap.SameBut a s.heap h'→SetT prog w h' a (if ks∈kss then kss else kss++[ks])→Q b { s with heap:=h' }) :
  wpAny (model prog w) A (setAddHashed a (.ref x) (tupleKeyHash (intKind prog w) ks)) Q E s:=by
 obtain ⟨o,es,ep,t,l,ho,hex,hd,T,h7,h16,hl1,hl2,hlen⟩:=hS
 have hmk:l.length≤t.mask:=by rcases T.ms with e | e<;>rw [e]<;>omega
 have hm0:7≤t.mask:=by rcases T.ms with e | e<;>omega
 unfold setAddHashed setAddHashedIn
 refine Vbc (VaC (Vb9 ho hd (T.fits hmk) ?_))
 dsimp only
 rw [show byScan (.ref x) es=false from rfl]
 simp only [Vbu,Va7]
 obtain ⟨e,he,hf⟩:=ZhZ (m:=t.mask) (js:=l.map (·.1)) (by rw [VaN];exact hmk)
 have hE:ZdT t.mask (Occ l) (10*(13+t.mask)) (t.probeStart (tupleKeyHash (intKind prog w) ks)):=by
  rw [Znx]
  exact ends T.ms (by have:=VbY (bits (tupleKeyHash (intKind prog w) ks)) (show 0<t.mask+1 by omega);omega) (Zmb _) he fun ⟨e',he',q⟩=>hf (Vbs.mpr ⟨e',he',q⟩)
 have hb:10*(13+t.mask)<100000:=by rcases T.ms with e | e<;>rw [e]<;>decide
 refine VaC (show wpAny _ _ (setSearchFrom a (.ref x) (tupleKeyHash (intKind prog w) ks) true 100000 none) _ _ _ from Zlu hu ho hd T hmk (fun e he=>let ⟨k,_,q⟩:=hl1 e he;⟨k,q⟩) hx (10*(13+t.mask)) 100000 none hb (VaF _) rfl hE ?_)
 by_cases hk:ks∈kss
 ·left
  obtain ⟨e,he,hel⟩:=hl2 ks hk
  refine ⟨⟨e,he,hel,?_⟩,?_⟩
  ·have:=T.rc e he
   rw [hel.choose_spec.2.2] at this
   exact this
  ·refine VaB ?_
   have:=h false s.heap (Heap.SameBut.refl a s.heap) (by rw [if_pos hk];exact ⟨o,es,ep,t,l,ho,hex,hd,T,h7,h16,hl1,hl2,hlen⟩)
   exact this
 ·right
  refine ⟨fun e he hel=>?_,fun j hj hr=>?_⟩
  ·obtain ⟨ks',hk',q⟩:=hl1 e he
   have:=El.inj hel q
   subst this
   exact hk hk'
  ·dsimp only
   refine VaC (Vb9 ho hd (T.fits hmk) ?_)
   dsimp only
   have hjm:j≤t.mask:=by
    have hi:bits (tupleKeyHash (intKind prog w) ks)%(t.mask+1)≤t.mask:=by
     have:=VbY (bits (tupleKeyHash (intKind prog w) ks)) (show 0<t.mask+1 by omega)
     omega
    refine ZtC hr ?_
    show bits (tupleKeyHash (intKind prog w) ks)%(t.mask+1)+(runEnd t.mask (bits (tupleKeyHash (intKind prog w) ks)%(t.mask+1)) - bits (tupleKeyHash (intKind prog w) ks)%(t.mask+1))≤t.mask
    have:=Zgl hi
    omega
   obtain ⟨l',hp,T'⟩:=T.put (x:=.ref x) hjm hj hr
   obtain ⟨em,epl⟩:=Zof t j
   generalize ht':(t.put j).1=t' at T' em epl ⊢
   generalize hes':insertAt es (t.put j).2 (tupleKeyHash (intKind prog w) ks,Value.ref x)=es' at T' ⊢
   have ll':l'.length=l.length+1:=by rw [hp.length_eq];rfl
   have hmk':l'.length≤t'.mask:=by rw [em,ll'];rcases T.ms with e | e<;>rw [e]<;>omega
   have cont:wpAny (model prog w) A (do
     storeSet a es' t'
     if (!false&&t'.tooFull)=true then do
      setRelay a (grown (es.size+1))
      pure true
     else pure true) Q E s:=by
    have hg:(s.heap.update a (Obj.putSet es' t')).get? a=some { o with data:=.set es' (ep+1) t' }:=by
     have:=VbC (Obj.putSet es' t') ho (by rw [putSet_of es' t' hd];rfl)
     rw [putSet_of es' t' hd] at this;exact this
    have hsb:=VbB s.heap a (Obj.putSet es' t')
    have hx1:El prog w (s.heap.update a (Obj.putSet es' t')) (tupleKeyHash (intKind prog w) ks,Value.ref x) ks:=El.keeps ⟨x,rfl,hx,rfl⟩ ho hd hsb
    have g1:∀e∈l',∃k∈kss++[ks],El prog w (s.heap.update a (Obj.putSet es' t')) e.2 k:=fun e he=>by
     rcases Vaq.mp (hp.mem_iff.mp he) with rfl | he
     ·exact ⟨ks,by simp,hx1⟩
     ·obtain ⟨k,h1,h2⟩:=hl1 e he
      exact ⟨k,Vas _ h1,h2.keeps ho hd hsb⟩
    have g2:∀k∈kss++[ks],∃e∈l',El prog w (s.heap.update a (Obj.putSet es' t')) e.2 k:=fun k hk'=>by
     rcases Var.mp hk' with hk' | hk'
     ·obtain ⟨e,h1,h2⟩:=hl2 k hk'
      exact ⟨e,hp.mem_iff.mpr (Vao _ h1),h2.keeps ho hd hsb⟩
     ·rw [Vb8] at hk'
      subst hk'
      exact ⟨_,hp.mem_iff.mpr Van,hx1⟩
    have hz:es'.size≤sizeLine:=by rw [T'.esize,ll',sizeLine_eq];omega
    refine VaC (wpAny_storeSet_of ho hd ?_ hz)
    have hfill:t'.fill=l'.length:=by unfold SetTable.fill;rw [T'.du,T'.size];rfl
    by_cases hfull:t'.tooFull=true
    ·rw [hfull]
     simp only [Bool.not_false,Bool.and_true,Va8]
     unfold SetTable.tooFull at hfull
     rw [hfill,em,ll'] at hfull
     have hfull:=of_decide_eq_true hfull
     have e7:t.mask=7:=by
      rcases T.ms with e | e
      ·exact e
      ·rw [e] at hfull;omega
     have h4:=h7 e7
     rw [e7] at hfull
     have e4:l.length=4:=by omega
     have ew:es.size+1=5:=by rw [T.esize,e4]
     rw [ew]
     obtain ⟨t2,order,l2,r1,r2,r3,r4,T2,hp2⟩:=T'.relay (by omega) (wanted:=grown 5) (by decide)
     have hmap:∀e∈l2,∃e'∈l',e'.2=e.2:=fun e he=>by
      have:=hp2.mem_iff.mp (Vbs.mpr ⟨e,he,rfl⟩)
      obtain ⟨e',h1,h2⟩:=Vbs.mp this
      exact ⟨e',h1,h2⟩
     have hmap':∀e∈l',∃e'∈l2,e'.2=e.2:=fun e he=>by
      have:=hp2.mem_iff.mpr (Vbs.mpr ⟨e,he,rfl⟩)
      obtain ⟨e',h1,h2⟩:=Vbs.mp this
      exact ⟨e',h1,h2⟩
     have ll2:l2.length=l'.length:=by have:=hp2.length_eq;simpa using this
     refine VaC ?_
     unfold setRelay
     refine VaC (Vb9 hg rfl (T'.fits hmk') ?_)
     dsimp only
     rw [if_neg (by decide),r1]
     refine VaC ?_
     have hsz:(order.filterMap (es'[·]?)).size=es'.size:=by rw [T2.esize,ll2,T'.esize]
     show wpAny (model prog w) A (if ((order.filterMap (es'[·]?)).size != es'.size)=true then _ else _) _ _ _
     rw [if_neg (by rw [hsz];simp)]
     refine VaB ?_
     dsimp only
     have hg2:((s.heap.update a (Obj.putSet es' t')).update a (Obj.putSet (order.filterMap (es'[·]?)) t2)).get? a=some { o with data:=.set (order.filterMap (es'[·]?)) (ep+1+1) t2 }:=by
      have:=VbC (Obj.putSet (order.filterMap (es'[·]?)) t2) hg (by rw [putSet_of _ t2 rfl];rfl)
      rw [putSet_of _ t2 rfl] at this;exact this
     have hsb2:=VbB (s.heap.update a (Obj.putSet es' t')) a (Obj.putSet (order.filterMap (es'[·]?)) t2)
     refine wpAny_storeSet_of hg rfl ?_ (by rw [hsz];exact hz)
     refine VaB (h true _ (hsb.trans hsb2) ?_)
     rw [if_neg hk]
     refine ⟨_,_,_,t2,l2,hg2,hex,rfl,T2,fun z=>by rw [r2] at z;omega,by omega,fun e he=>?_,fun k hk'=>?_,by rw [ll2,ll',hlen];simp⟩
     ·obtain ⟨e',h1,h2⟩:=hmap e he
      obtain ⟨k,h3,h4⟩:=g1 e' h1
      rw [h2] at h4
      exact ⟨k,h3,h4.keeps hg rfl hsb2⟩
     ·obtain ⟨e,h1,h2⟩:=g2 k hk'
      obtain ⟨e',h3,h4⟩:=hmap' e h1
      rw [←h4] at h2
      exact ⟨e',h3,h2.keeps hg rfl hsb2⟩
    ·rw [Bool.eq_false_iff.mpr hfull]
     simp only [Bool.not_false,Bool.and_false,Vbu,Va7]
     refine VaB (h true _ hsb ?_)
     rw [if_neg hk]
     refine ⟨_,es',ep+1,t',l',hg,hex,rfl,T',fun z=>?_,by omega,g1,g2,by rw [ll',hlen];simp⟩
     unfold SetTable.tooFull at hfull
     rw [hfill,z] at hfull
     have:=of_decide_eq_false (Bool.eq_false_iff.mpr hfull)
     omega
   split
   ·refine VaC (ZkE hx ?_)
    simp only [Va8]
    exact cont
   ·refine VaC (VaB ?_)
    simp only [Va8]
    exact cont
end
end L2.Sx
namespace L2.Sx
open PySem PySem.SetTable PyProof.Rows
open Dl (firsts)
theorem Zdy(kf:Nat→List Int):∀i,(firsts kf i).length≤i
 | 0=>VaF _
 | i+1=>by
  have:=Zdy kf i
  unfold firsts
  split
  ·omega
  ·simp;omega
section
variable{prog:Program}{w:World}{A:Around}{R:Result→Shared→Prop}{I:Addr}{fp wr:List Addr}{G:Array GenState→Array GenState→Prop}{n:Nat}{P:Nat→Value→Prop}{St:Nat→Shared→Prop}
theorem SetT.keep{h h':Heap}{a:Addr}{kss:List (List Int)}(hS:SetT prog w h a kss)(ha:∀o,h.get? a=some o→h'.get? a=some o)(hk:∀b o,h.get? b=some o→o.cls=.type "tuple"→h'.get? b=some o):SetT prog w h' a kss:=by
 obtain ⟨o,es,ep,t,l,ho,hex,hd,T,h7,h16,hl1,hl2,hlen⟩:=hS
 have up:∀{e ks},El prog w h e ks→El prog w h' e ks:=fun {e ks} hel=>by
  obtain ⟨x,e1,⟨o',items,n,ho',hc,r⟩,hh⟩:=hel
  exact ⟨x,e1,⟨o',items,n,hk x o' ho' hc,hc,r⟩,hh⟩
 exact ⟨o,es,ep,t,l,ha o ho,hex,hd,T,h7,h16,fun e he=>let ⟨k,h1,h2⟩:=hl1 e he;⟨k,h1,up h2⟩,fun k hk'=>let ⟨e,h1,h2⟩:=hl2 k hk';⟨e,h1,up h2⟩,hlen⟩
theorem SetT.cls{h:Heap}{a:Addr}{kss:List (List Int)}(hS:SetT prog w h a kss):∀o,h.get? a=some o→o.cls≠.type "tuple" := fun o' ho' hc=>by
 obtain ⟨o,es,ep,t,l,ho,hex,_⟩:=hS
 rw [ho] at ho'
 cases ho'
 rw [hex.1] at hc
 exact absurd hc (by decide)
theorem Zrd(W:WalksS prog w A.in1 I fp wr G n P St)(S:Addr)(hSf:S∉fp)(hwr:∀i s,St i s→∀b∈wr,∀o,s.heap.get? b=some o→o.cls≠.type "tuple")(kf:Nat→List Int)(hu:A.in1.units<cLine)(h0:Heap)
  (hval:∀i v,P i v→∃x,v=.ref x∧IsTupleKey (intKind prog w) h0 (kf i) x) (hb:n≤16) :
  ∀(k i:Nat) (s:Shared),n - i=k→i≤n→St i s→SetT prog w s.heap S (firsts kf i)→(∀b o,h0.get? b=some o→o.cls=.type "tuple"→s.heap.get? b=some o) →
   (∀s',Moved (S::wr) G s s'→SetT prog w s'.heap S (firsts kf n)→R (.ok (.ret .none)) s')→codeAny (model prog w) A (.builtin "set.update.loop" ⟨[.ref S,.ref I],[]⟩) R s:=by
 have hSw:S∉wr:=fun h=>hSf (W.sub _ h)
 have hsub:∀b∈wr,b∈S::wr:=fun b hb=>Vao _ hb
 have mv:∀{i s s'},St i s→Moved wr G s s'→∀b o,s.heap.get? b=some o→o.cls=.type "tuple"→s'.heap.get? b=some o:=fun {i s s'} st m b o e hc=>m.heap b o (fun z=>hwr i s st b z o e hc) e
 intro k
 induction k with
 | zero =>
  intro i s hk hi hst hS _ hR
  obtain rfl:i=n:=by omega
  refine VbS F.entry_set_update_loop ?_
  rw [VbT F.plain_set_update_loop _]
  show wpAny _ A.in1 (pyNext (.ref I) >>= _) _ _ s
  refine VaC (W.done s _ _ hst fun s' hm=>?_)
  show wpAny _ A.in1 (ret Value.none) _ _ s'
  exact VaB (hR s' (hm.mono hsub) (hS.keep (fun o e=>hm.heap S o hSw e) (mv hst hm)))
 | succ k ih =>
  intro i s hk hi hst hS h0s hR
  have hlt:i<n:=by omega
  refine VbS F.entry_set_update_loop ?_
  rw [VbT F.plain_set_update_loop _]
  show wpAny _ A.in1 (pyNext (.ref I) >>= _) _ _ s
  refine VaC (W.item i s _ _ hlt hst fun v s' hP hst' hm=>?_)
  obtain ⟨x,rfl,hx0⟩:=hval i v hP
  have hS':=hS.keep (fun o e=>hm.heap S o hSw e) (mv hst hm)
  have h0s':∀b o,h0.get? b=some o→o.cls=.type "tuple"→s'.heap.get? b=some o:=fun b o e hc=>mv hst hm b o (h0s b o e hc) hc
  have hx:IsTupleKey (intKind prog w) s'.heap (kf i) x:=by
   obtain ⟨o,items,m,ho,hc,r⟩:=hx0
   exact ⟨o,items,m,h0s' x o ho hc,hc,r⟩
  show wpAny _ A.in1 (holding [Value.ref x] (setAdd S (.ref x)) >>= _) _ _ s'
  refine VaC (Vbc ?_)
  unfold setAdd
  refine Vbc ?_
  refine VaC (wpAny_pyHash_tuple hu hx ?_)
  refine Zs0 (s:={ s' with toks:=s'.toks+((kf i).length+1) }) hu hS' hx (by have:=Zdy kf i;omega) fun b h' hsb hS2=>?_
  have tk:∀b o,s'.heap.get? b=some o→o.cls=.type "tuple"→h'.get? b=some o:=fun b o e hc=>by
   rw [hsb.2 b (fun z:b=S=>by subst z;exact hS'.cls o e hc)];exact e
  refine VaB ⟨plainId_quiet F.plain_set_update_loop _,ih (i+1) _ (by omega) hlt (W.frame _ s' _ _ hst' (Nat.le_add_right _ _) fun b hb' o e=>?_) hS2 (fun b o e hc=>tk b o (h0s' b o e hc) hc) fun s'' hm'' hS''=>?_⟩
  ·rw [hsb.2 b (fun z:b=S=>hSf (by rw [←z];exact hb'))];exact e
  ·refine hR s'' (Moved.trans W.gtrans ((hm.mono hsub).then_heap (Nat.le_add_right _ _) fun b o hb' e=>?_) hm'') hS''
   rw [hsb.2 b (fun z:b=S=>hb' (by rw [z];exact Van))];exact e
end
open Dl (firsts)
section
variable{prog:Program}{w:World}{A:Around}{E:Value→Shared→Prop}{s:Shared}
abbrev ZgR(led:Bool):Obj:={ cls:=.type "set", dict:=none,data:=.set #[] 0 (.fresh 0 0 led) }
theorem Zm4{h:Heap}{a:Addr}{led:Bool}(ho:h.get? a=some (ZgR led)):SetT prog w h a [] :=
 ⟨_,#[],0,.fresh 0 0 led,[],ho,⟨rfl,rfl,rfl⟩,rfl,⟨.inl rfl,rfl,rfl,rfl,.nil,fun _ h=>(VbQ h).elim,fun _ h=>(VbQ h).elim⟩,fun _=>by decide,by decide,fun _ h=>(VbQ h).elim,fun _ h=>(VbQ h).elim,rfl⟩
set_option maxHeartbeats 8000000 in
theorem call_set{l:Addr}{items:Array Value}{kf:Nat→List Int}{Q:Value→Shared→Prop}(hh:A.handled=none)(hu:A.units+20<cLine)(hl:s.heap.IsList l items)(hi:∀i v,items[i]?=some v→∃x,v=.ref x∧IsTupleKey (intKind prog w) s.heap (kf i) x)(hb:items.size≤16)
  (h:∀(h':Heap) (tk:Nat),SetT prog w h' s.heap.objs.size (firsts kf items.size)→(∀b o,b<s.heap.objs.size→s.heap.get? b=some o→h'.get? b=some o)→Q (.ref s.heap.objs.size) { s with heap:=h',toks:=tk }) :
  wpAny (model prog w) A (call (.type "set") [.ref l]) Q E s:=by
 obtain ⟨c,tl,hmro⟩:=F.called_set.mro
 have hmade:=F.called_set.made
 have hsub:=F.called_set.sub
 refine wpAny_call (codeAny_of_tree ?_)
 show wpAny _ _ (callAny (.type "set") _) _ _ _
 refine VaB ⟨Code.quiet_builtin _ (by decide +kernel),VbS F.entry_type_call ?_⟩
 rw [Around.under_plain (weight_type_call_type "set" [.ref l] []) rfl]
 have h1:=F.called_set.notType
 have h2:=F.called_set.canCreate
 have hct:=F.typeCall_set_1 (.ref l)
 repeat (any_goals (first | assumption | wp_step))
 refine VaT (code_set_new_1 (.ref l) (E:=E) (Q₁:=fun obj s₁=>∃led:Bool,obj=.ref s.heap.objs.size∧s₁={ s with heap:=s.heap.push (ZgR led) }) fun led=>⟨led,rfl,rfl⟩) fun r s₁ hr=>?_
 cases r with
 | error e=>exact hr
 | ok fl =>
  cases fl with
  | next=>exact hr.elim
  | brk=>exact hr.elim
  | cont=>exact hr.elim
  | ret obj =>
   obtain ⟨led,rfl,rfl⟩:=hr
   have hS:(s.heap.push (ZgR led)).get? s.heap.objs.size=some (ZgR led):=VaE _ rfl
   have hT:Shared.TypeIs { s with heap:=s.heap.push (ZgR led) } (.ref s.heap.objs.size) "set" := ⟨_,hS,rfl⟩
   have hli:=F.called_set.init.lookup
   have hbi:=F.called_set.init.bind (.ref s.heap.objs.size)
   repeat (any_goals (first | assumption | wp_step))
   refine VaT (codeAny_call_builtin (R:=wants (fun r s₂=>r=.none∧∃h' tk,s₂={ s with heap:=h',toks:=tk }∧SetT prog w h' s.heap.objs.size (firsts kf items.size) ∧
     (∀b o,b<s.heap.objs.size→s.heap.get? b=some o→h'.get? b=some o)) E) F.called_set.init.plain F.entry_set_init (check_set_init_1 hT ?_)) fun r₂ s₂ hr₂=>?_
   ·obtain ⟨ol,hol,hcl,nl,hdl⟩:=hl
    obtain ⟨ocls,odict,odata,oslots⟩:=ol
    simp only at hcl hdl
    subst hcl;subst hdl
    have hol':(s.heap.push (ZgR led)).get? l=some { cls:=.type "list", dict:=odict,data:=.seq items nl,slots:=oslots }:=VaD _ hol
    have hsls:=F.sub_list_set
    have hslf:=F.sub_list_frozenset
    have hne:(Value.type "list"==Value.type "dict")=false:=by decide
    have hl1:(s.heap.push (ZgR led)).IsList l items:=⟨_,hol',rfl,nl,rfl⟩
    unfold Builtin.«set.__init__» noKeywords Builtin.Frozenset.updateFrom
    generalize hPI:pyIter=PI
    wp_walk
    subst hPI
    refine Vbv hl1 ?_
    refine VaC (wpAny_runValue ?_)
    have hlS:l<s.heap.objs.size:=Vad hol
    have hh3:A.in1.in1.in1.handled=none:=by simp [hh]
    have hneI:l≠(s.heap.push (ZgR led)).objs.size:=by
     rw [VaO];exact Vag (Nat.lt_succ_of_lt hlS)
    have hSf:s.heap.objs.size∉[(s.heap.push (ZgR led)).objs.size,l]:=by
     rw [VaO];simp only [Vaq,Vb8,VbQ,VbR,not_or]
     exact ⟨Vag (VaP _),VaA hlS⟩
    refine Zrd ((Walks.list hh3 _ l hneI items).toS) s.heap.objs.size hSf ?hw kf (by show A.units+1+1+1<cLine;omega) s.heap hi hb (items.size - 0) 0 _ (by omega) (VaQ _)
     ⟨⟨_,VaE _ rfl,rfl,rfl⟩,(hl1.push _)⟩ ?hS0 ?hT0 ?hR
    case hw =>
     rintro i s' ⟨⟨o',ho',hc',_⟩,_⟩ b hb' o'' e' hc
     rw [Vb8] at hb'
     subst hb'
     rw [ho'] at e'
     cases e'
     rw [hc'] at hc
     exact absurd hc (by decide)
    case hS0=>exact Zm4 (VaD _ hS)
    case hT0=>exact fun b o e _=>VaD _ (VaD _ e)
    case hR =>
     intro s' hm hS'
     obtain ⟨h',g',d',tk',os'⟩:=s'
     have eg:g'=s.gens:=hm.gens
     have ed:d'=s.drawn:=hm.drawn
     have eo:os'=s.os:=hm.os
     subst eg;subst ed;subst eo
     show wpAny _ _ _ _ _ _
     refine VaB ?_
     show wpAny _ _ (ret Value.none) _ _ _
     refine VaB ⟨rfl,h',tk',rfl,hS',fun b o hb' e=>?_⟩
     have hb1:b≠s.heap.objs.size:=Vag hb'
     have hb2:b≠(s.heap.push (ZgR led)).objs.size:=by
      rw [VaO];exact Vag (Nat.lt_succ_of_lt hb')
     exact hm.heap b o (by simp only [Vaq,Vb8,VbQ,VbR,not_or];exact ⟨hb1,hb2⟩) (VaD _ (VaD _ e))
   ·cases r₂ with
    | error e=>exact hr₂
    | ok fl₂ =>
     cases fl₂ with
     | next=>exact hr₂.elim
     | brk=>exact hr₂.elim
     | cont=>exact hr₂.elim
     | ret r =>
      obtain ⟨rfl,h',tk,rfl,hS',hk'⟩:=hr₂
      repeat (any_goals (first | assumption | wp_step))
      exact h _ _ hS' hk'
end
end L2.Sx
namespace L2
open PySem PySem.Spec PyProof.Rows
theorem Zsq:bootBuiltins "set"=some (.type "set"):=by decide +kernel
def SetN(o:Obj)(n:Nat):Prop:=o.ExactSet∧n≤16∧∃es ep t,o.data=.set es ep t∧t.fits es.size=true∧es.size=n
def Zr8(K:W.Frag)(H:Hp)(xs:List V)(kss:List (List Int)):Prop:=∀i x,xs[i]?=some x→∃a,x=.ref a∧SqT K H a ((kss.getD i []).map V.int)
def rSet(K:W.Frag):List V→Hp→VK→Prop:=fun vs H Q=>∃l xs kss,vs=[.ref l]∧SqL K H l xs∧Zr8 K H xs kss∧xs.length≤16∧∀a o,H a=none→SetN o (Dl.firsts (fun i=>kss.getD i []) xs.length).length→Q (.ref a) (upd H a (objX a o))
def ZpR:List V→Hp→VK→Prop:=fun vs H Q=>∃a o n,vs=[.ref a]∧H a=some (objX a o)∧SetN o n∧Q (.int (n:Nat)) H
section
variable{X:Cx}{k:Nat}
theorem Zkp{prog:Program}{w:World}:∀{ns:List Int} {its:List Value},Vals (ns.map V.int) its→ItemsAre (intKind prog w) ns its
 | [],_,.nil=>.nil
 | n::r,_,.cons h t=>by
  obtain ⟨tk,rfl⟩:=h
  exact .cons (intKind_is _ _ _ _) (Zkp t)
theorem Zme:∀{xs:List V} {us:List Value},Vals xs us→∀{i:Nat} {u:Value},us[i]?=some u→∃x,xs[i]?=some x∧RelV x u
 | _,_,.cons h _,0,_,e=>⟨_,rfl,by cases e;exact h⟩
 | _,_,.cons _ t,i+1,_,e=>Zme t (by simpa using e)
 | _,_,.nil,i,_,e=>by simp at e
theorem Zki:∀{xs:List V} {us:List Value},Vals xs us→us.length=xs.length
 | _,_,.nil=>rfl
 | _,_,.cons _ t=>by simp [Zki t]
theorem ZmO(hr:Room k X.A):Zej X (.type "set") (rSet X.K):=by
 intro pins s σ H vs us Q I rv ⟨l,xs,kss,e,hl,hk,h16,hq⟩
 subst e
 cases rv with
 | cons r1 rr =>
  cases rr
  cases r1
  obtain ⟨its,r,⟨o,n,e1,e2,_,e3⟩,_⟩:=I.list hl
  have hlen:=Zki r
  refine L2.Sx.call_set (items:=its.toArray) (kf:=fun i=>kss.getD i []) hr.hd (by have:=hr.un;omega) ⟨o,e1,e2,n,e3⟩ (fun i v hv=>?_) (by simpa [hlen] using h16) fun h' tk hS hkeep=>?_
  ·obtain ⟨x,hx,rx⟩:=Zme r (i:=i) (by simpa using hv)
   obtain ⟨a,rfl,hT⟩:=hk i x hx
   cases rx
   obtain ⟨is,ri,⟨o',p1,p2,m,p3⟩,_⟩:=I.tuple hT
   exact ⟨a,rfl,o',is.toArray,m,p1,p2,p3,by simpa using Zkp ri⟩
  ·have kk:∀b u,s.heap.get? b=some u→h'.get? b=some u:=fun b u e=>hkeep b u (Vad e) e
   obtain ⟨o',es,ep,t,l',ho,hex,hd,T,h7,hl16,_,_,hln⟩:=hS
   have hmk:l'.length≤t.mask:=by rcases T.ms with e | e<;>rw [e]<;>omega
   have I':=I.laid (t':=tk) (o:=objX s.heap.objs.size o') kk (VaF _) (ZpM ho)
   refine ⟨.ref s.heap.objs.size,_,I',rfl,hq _ o' (I.hok.fresh (VaF _)) ⟨hex,?_,es,ep,t,hd,T.fits hmk,?_⟩⟩
   ·rw [←hlen];have e:=hln;rw [Va6] at e;omega
   ·rw [T.esize,hln,←hlen];simp
theorem Zl4:Zej X (.builtin "len") ZpR:=by
 intro pins s σ H vs us Q I rv ⟨a,o,n,e,hH,⟨hex,h16,es,ep,t,hd,hf,hn⟩,q⟩
 subst e
 cases rv with
 | cons r1 rr =>
  cases rr
  cases r1
  have ho:=ZnC I.hok hH
  refine call_len_set ho hex hd hf (by omega) ?_
  rw [hn]
  exact ⟨.int (n:Nat),H,I.tok _,⟨_,rfl⟩,q⟩
end
end L2
namespace L2.Ds
open PySem PySem.Spec PyProof.Rows Dl
section
variable{K:W.Frag}{mg:Str→Option Value}
theorem Zgz{F:Hp}:∀{xs:List V} {ds:List D} {ns:List Int},Rps K mg F xs ds→intsOf ds=some ns→xs=ns.map V.int
 | _,[],_,.nil,e=>by cases e;rfl
 | _,d::ds,ns,.cons h r,e=>by
  cases d with
  | int n =>
   cases q:intsOf ds with
   | none=>unfold intsOf at e;rw [q] at e;cases e
   | some ms =>
    unfold intsOf at e
    rw [q] at e
    cases e
    cases h
    rw [Zgz r q]
    rfl
  | _=>cases e
theorem ZjQ{F H:Hp}(s:Same F H):∀{xs:List V} {ds:List D} {ks:List (List Int)},Rps K mg F xs ds→keysOf ds=some ks→Zr8 K H xs ks
 | _,[],_,.nil,_=>fun i x h=>by simp at h
 | _,d::ds,ks,.cons h r,e=>by
  cases d with
  | tup es =>
   cases q:intsOf es with
   | none=>unfold keysOf at e;rw [q] at e;cases e
   | some k =>
    cases q2:keysOf ds with
    | none=>unfold keysOf at e;rw [q,q2] at e;cases e
    | some kr =>
     unfold keysOf at e
     rw [q,q2] at e
     cases e
     intro i x hx
     cases i with
     | zero =>
      cases hx
      cases h with
      | tup ht rt =>
       rw [Zgz rt q] at ht
       exact ⟨_,rfl,ZaE s ht⟩
     | succ i=>exact ZjQ s r q2 i x (by simpa using hx)
  | _=>cases e
end
section
variable{X:Cx}{E:XK}{e:Expr}{te:TE}{me:ME}{k:Nat}{p p1 q p2:Pos}
theorem Zj8(hr:Room k X.A)(hgl:Gl X "len")(hml:X.mg "len"=none)(hgs:Gl X "set")(hms:X.mg "set"=none)(he:DE X E e te me)(h1:starEach [e] X.env=[(false,eval e X.env)]:=by rfl)
  (h2:starEach [Expr.Call (.Name "set" q) [e] [] p2] X.env=[(false,eval (.Call (.Name "set" q) [e] [] p2) X.env)]:=by rfl) :
  DE X E (.Call (.Name "len" p) [.Call (.Name "set" q) [e] [] p2] [] p1) (tCB ZpR (Zek (tCB (rSet X.K) (Zek te tNil)) tNil)) (o1 Zgg me):=by
 refine ⟨Zj2 Zl4 hgl hml ZmU (Zen (ZhS (ZmO hr) hgs hms Zsq (Zen he.p Ziw h1) (by decide) (by decide) h1 rfl) Ziw h2) (by decide) (by decide) h2 rfl,?_⟩
 intro F0 H0 F H σ ρ rr
 refine (he.s F0 H0 F H σ ρ rr).bind fun F1 H1 x dx g1 rx=>?_
 show Ans X.mg E (Rp X.K X.mg) F1 H1 (Zgg dx) fun Q=>rSet X.K [x] H1 fun v H2=>ZpR [v] H2 Q
 cases dx with
 | lst ds =>
  cases rx with
  | lst hl rl =>
   rename_i l xs
   show Ans X.mg E (Rp X.K X.mg) F1 H1 (match keysOf ds with | some ks=>if ds.length≤16 then .ok (.int ((firsts (fun i=>ks.getD i []) ds.length).length:Nat)) else .bad | none=>.bad) _
   cases hk:keysOf ds with
   | none=>trivial
   | some ks =>
    by_cases h16:ds.length≤16
    ·show Ans X.mg E (Rp X.K X.mg) F1 H1 (if ds.length≤16 then .ok (.int ((firsts (fun i=>ks.getD i []) ds.length).length:Nat)) else .bad) _
     rw [if_pos h16]
     intro Q q
     refine ⟨_,_,ks,rfl,g1.s.seq hl,ZjQ g1.s rl hk,by rw [rl.length];exact h16,fun a o hn hS=>⟨a,o,_,rfl,Zag,hS,?_⟩⟩
     rw [rl.length]
     exact q _ _ _ (.new g1.s hn _) (.int _)
    ·show Ans X.mg E (Rp X.K X.mg) F1 H1 (if ds.length≤16 then .ok (.int ((firsts (fun i=>ks.getD i []) ds.length).length:Nat)) else .bad) _
     rw [if_neg h16]
     trivial
 | _=>trivial
end
end L2.Ds
namespace Dl
open PySem
end Dl
namespace L2
open PySem PySem.Spec PyProof.Rows
structure FunD(K:W.Frag)(x qual:Str)(st:Stmt)(dV:Value)(f:Addr)(fd:FuncData):Prop where
 ex:∃(oc:Value) (od:Option Addr) (kV doc pm:Value) (an:Option Addr) (cdv ct:Value) (osl:Array (Option Value)),
  fd=W.fnOf x qual (Zb2 st) (Za5 st) (Zab st) dV kV doc pm an cdv ct∧K.lookup f=some ⟨oc,od,.func fd,osl⟩∧W.codeIn K cdv qual=true
end L2
namespace L2.Ds
open PySem PySem.Spec PyProof.Rows Dl
section
variable{P:Program}{w:World}{K:W.Frag}{mg:Str→Option Value}{base:Heap}{N ps:List Str}{x:Str}{f:Addr}{dV:Value}
theorem okDF{st:Stmt}{fd:FuncData}{k:Nat}{mb:MS}(F:FunD K x x st dV f fd)(S:Zad N ps (Zab st))
  (h:∀(cdv:Value) (A:Around) (outer:List Env) (s:Shared) (H:Hp) (E:XK),Room k (A.deeper (envOfC x (Zab st) s.heap.objs.size f cdv))→∃t,DSs (cxOf (CXR P w) P w K mg base N x (Zab st) f cdv A outer s H E) E (Za5 st) t mb) :
  FnOk P w K mg base (CXR P w) (k+1) f fd ps (spD K mg ps.length (fn N.length mb)):=by
 obtain ⟨oc,od,kV,doc,pm,an,cdv,ct,osl,rfl,lk,hcd⟩:=F.ex
 refine Znu lk hcd S (fun vs H Q E q=>q.1) fun A outer s H vs Q E hr hsp=>?_
 obtain ⟨t,hd⟩:=h cdv A outer s H E hr
 refine ⟨t,hd.p,?_⟩
 obtain ⟨_,F0,ds,s0,rs,hb,hok,hex⟩:=hsp
 have z:=hd.s F0 H F0 H (start N vs) (ev0 N.length ds) (Zf6 s0 rs)
 unfold fn at hb hok hex
 cases e:mb (ev0 N.length ds) with
 | ok fl =>
  rw [e] at z hb hok hex
  cases fl with
  | nx ρ=>exact z _ fun F' H' σ' _ r'=>hok .non rfl F' H' .non r'.g .non
  | rt d=>exact z _ fun F' H' v g rv=>hok d rfl F' H' v g rv
  | bk ρ=>exact absurd rfl hb
  | ct ρ=>exact absurd rfl hb
 | ex c =>
  rw [e] at z hex
  exact z _ fun F' H' C g hc=>hex c rfl F' H' C g hc
 | bad=>rw [e] at hb;exact absurd rfl hb
end
end L2.Ds
namespace Dl
open PySem
end Dl
namespace L2.Ds
open PySem PySem.Spec PyProof.Rows Dl
end L2.Ds
namespace Dl
open PySem
def Sm(k:Nat)(x:Int):Prop:=x.natAbs<2^k
theorem Sm.mono{k n:Nat}{x:Int}(h:Sm k x)(hn:k≤n):Sm n x:=Vae h (Nat.pow_le_pow_right (by decide) hn)
theorem Sm.mul{m n:Nat}{x y:Int}(h:Sm m x)(g:Sm n y):Sm (m+n) (x*y):=by
 unfold Sm at *
 rw [Int.natAbs_mul,Nat.pow_add]
 rcases Nat.eq_zero_or_pos x.natAbs with z | z
 ·rw [z,Nat.zero_mul];exact Nat.mul_pos (Nat.two_pow_pos _) (Nat.two_pow_pos _)
 ·exact Vbn (Nat.mul_le_mul_left _ (Vak g)) (Nat.mul_lt_mul_of_pos_right h (Nat.two_pow_pos _))
theorem Sm.add{m n:Nat}{x y:Int}(h:Sm m x)(g:Sm n y):Sm (max m n+1) (x+y):=by
 have h':=h.mono (Nat.le_max_left m n)
 have g':=g.mono (Nat.le_max_right m n)
 unfold Sm at *
 rw [Nat.pow_succ]
 have:=Int.natAbs_add_le x y
 omega
theorem Sm.neg{m:Nat}{x:Int}(h:Sm m x):Sm m (-x):=by
 unfold Sm at *
 rw [Int.natAbs_neg]
 exact h
theorem Sm.sub{m n:Nat}{x y:Int}(h:Sm m x)(g:Sm n y):Sm (max m n+1) (x - y):=by
 rw [Int.sub_eq_add_neg];exact h.add g.neg
theorem Sm.le{m:Nat}{x y:Int}(h:Sm m x)(e:y.natAbs≤x.natAbs):Sm m y:=Vbn e h
theorem Sm.of64{x:Int}(h1:-18446744073709551616<x)(h2:x<18446744073709551616):Sm 64 x:=by
 unfold Sm
 have:(2:Nat)^64=18446744073709551616:=by decide
 omega
theorem ZlM{n k:Nat}(h:n<2^k)(hk:0<k):n.log2<k:=by
 rcases Nat.eq_zero_or_pos n with z | z
 ·rw [z];simpa using hk
 ·exact (Nat.log2_lt (VaA z)).mpr h
theorem Sm.log{m:Nat}{x:Int}(h:Sm m x)(hm:m<9000):x.natAbs.log2<9000:=ZlM (h.mono (Vak hm)) (by decide)
theorem ZpO{a b:Int}(h:Sm 64 a):Zbk a b=true:=by
 unfold Zbk
 rw [Vbm (show a.natAbs<2^64 from h)];rfl
theorem ZpZ{a b:Int}(h:Sm 64 b):Zbk a b=true:=by
 unfold Zbk
 rw [Vbm (show b.natAbs<2^64 from h)]
 simp
theorem ZaO{a b:Int}{m n:Nat}(h:Sm m a)(g:Sm n b)(hk:m+n<99999990):Zbk a b=true:=by
 have h1:=ZlM (h.mono (Nat.le_succ m)) (Nat.succ_pos _)
 have h2:=ZlM (g.mono (Nat.le_succ n)) (Nat.succ_pos _)
 unfold Zbk
 rw [Vbm (show a.natAbs.log2+b.natAbs.log2<100000000 by omega)]
 simp
theorem ZqW{a b:Int}(h:Zbk a b=true):iMul a b=.ok (.int (a*b)):=by unfold iMul;rw [if_pos h]
theorem Znw{a b:Int}(h:0<b):iMod a b=.ok (.int (a%b)):=by unfold iMod;rw [if_pos h]
theorem ZnD{a b:Int}(h:0<b)(hl:b.natAbs.log2<9000):iDiv a b=.ok (.int (a/b)):=by unfold iDiv;rw [if_pos hl,if_pos h]
theorem Zm3{a b:Int}(h:b<0)(hl:b.natAbs.log2<9000):iDiv a b=.ok (.int (a.fdiv b)):=by unfold iDiv;rw [if_pos hl,if_neg (by omega),if_neg (by omega)]
theorem ZpC{a b:Int}(h0:0≤b)(h1:b≤1000000)(h2:a.natAbs<2^64):iPow a b=.ok (.int (a^b.toNat)):=by unfold iPow;rw [if_pos ⟨h0,h1,h2⟩]
theorem Zpy{a b:Int}(h0:0≤b)(h1:b≤1000000)(h2:a.natAbs<2^64):iShl a b=.ok (.int (a*2^b.toNat)):=by unfold iShl;rw [if_pos ⟨h0,h1,h2⟩]
theorem ZpU{a b:Int}(h0:0≤b):iShr a b=.ok (.int (a/2^b.toNat)):=by unfold iShr;rw [if_pos h0]
theorem ZpP(a b:Int):dEq (.int a) (.int b)=.ok (.bl (decide (a=b))):=by
 show Res.ok (D.bl (a==b))=_
 rw [Bool.beq_eq_decide_eq]
theorem ZpS(a b:Int):dNe (.int a) (.int b)=.ok (.bl (!decide (a=b))):=by
 show Res.ok (D.bl (!(a==b)))=_
 rw [Bool.beq_eq_decide_eq]
theorem Zm5{a b:List D}(h:a.length+b.length≤1000000):dAdd (.lst a) (.lst b)=.ok (.lst (a++b)):=by
 show (if a.length+b.length≤LIM then Res.ok (D.lst (a++b)) else .bad)=_
 rw [if_pos (show a.length+b.length≤LIM from h)]
theorem ZhH(xs:List D)(i:Int):dIx (.lst xs) (.int i)=ofO (at_ xs i):=rfl
theorem Zm0(xs:List D):bLen [.lst xs]=.ok (.int xs.length):=rfl
theorem Znf(xs:List D):bLen [.tup xs]=.ok (.int xs.length):=rfl
theorem ZnV(i:Int):bAbs [.int i]=.ok (.int i.natAbs):=by
 show Res.ok (D.int (if i<0 then -i else i))=_
 have:(if i<0 then -i else i)=(i.natAbs:Int):=by split<;>omega
 rw [this]
theorem ZnE(i j:Int):bMax [.int i,.int j]=.ok (.int (max i j)):=by
 show Res.ok (D.int (if j>i then j else i))=_
 have:(if j>i then j else i)=max i j:=by split<;>omega
 rw [this]
theorem Zqu{j:Int}(h0:-1000000000≤j)(h1:j≤1000000000):rng1 [.int j]=.ok (ZbE 0 j.toNat):=by
 show (if -1000000000≤j∧j≤1000000000 then Res.ok (ZbE 0 j.toNat) else .bad)=_
 rw [if_pos ⟨h0,h1⟩]
theorem Zgc{g:MG}{b:MS}(I:List D→Ev→Prop):∀(xs pre:List D),(∀p x r,xs=p++x::r→∀ρ,I (pre++p) ρ→∃ρ1 ρ2,g x ρ=.ok ρ1∧b ρ1=.ok (.nx ρ2)∧I (pre++p++[x]) ρ2)→∀ρ,I pre ρ→∃ρ',Zb6 g b xs ρ=.ok (.nx ρ')∧I (pre++xs) ρ'
 | [],pre,_,ρ,i=>⟨ρ,rfl,by rw [VaS];exact i⟩
 | x::r,pre,h,ρ,i=>by
  obtain ⟨ρ1,ρ2,h1,h2,i2⟩:=h [] x r rfl ρ (by rw [VaS];exact i)
  rw [VaS] at i2
  obtain ⟨ρ',h3,i3⟩:=Zgc I r (pre++[x]) (fun p y s e ρ i=>by
   have z:=h (x::p) y s (by rw [e];rfl) ρ (by simpa using i)
   simpa using z) ρ2 i2
  refine ⟨ρ',?_,by simpa using i3⟩
  show (g x ρ).bind (fun ρ1=>(b ρ1).bind (turn (Zb6 g b r)))=_
  rw [h1]
  show (b ρ1).bind (turn (Zb6 g b r))=_
  rw [h2]
  exact h3
theorem Zmy(t:MB)(b:MS)(n:Nat)(ρ:Ev):whGo t b (n+1) ρ=(t ρ).bind fun x=>if x=true then (b ρ).bind (turn (whGo t b n)) else .ok (.nx ρ):=rfl
theorem Zc7(g:MG)(t:MB)(e:ME)(ρ:Ev)(x:D)(r:List D):Zak g t e ρ (x::r)=(g x ρ).bind fun ρ1=>(t ρ1).bind fun b=>if b=true then (e ρ1).bind fun y=>(Zak g t e ρ r).bind fun ys=>.ok (y::ys) else Zak g t e ρ r:=rfl
theorem ZjK{g:MG}{e:ME}{ρ:Ev}(f:D→D):∀xs:List D,(∀x∈xs,∃ρ1,g x ρ=.ok ρ1∧e ρ1=.ok (f x))→Zak g yes e ρ xs=.ok (xs.map f)
 | [],_=>rfl
 | x::r,h=>by
  obtain ⟨ρ1,h1,h2⟩:=h x Van
  rw [Zc7,h1,Zb1]
  unfold yes
  rw [Zb1,if_pos rfl,h2,Zb1]
  have z:=ZjK f r fun y hy=>h y (Vao _ hy)
  unfold yes at z
  rw [z]
  rfl
theorem ZjJ{g:MG}{e:ME}{ρ:Ev}(P:D→D→Prop):∀xs:List D,(∀x∈xs,∃ρ1 y,g x ρ=.ok ρ1∧e ρ1=.ok y∧P x y)→∃ys,Zak g yes e ρ xs=.ok ys∧ys.length=xs.length∧∀(i:Nat) x y,xs[i]?=some x→ys[i]?=some y→P x y
 | [],_=>⟨[],rfl,rfl,fun i x y h=>by simp at h⟩
 | x::r,h=>by
  obtain ⟨ρ1,y,h1,h2,hp⟩:=h x Van
  obtain ⟨ys,e1,l1,q⟩:=ZjJ P r fun z hz=>h z (Vao _ hz)
  refine ⟨y::ys,?_,Vax (·+1) l1,fun i a b ha hb=>?_⟩
  ·rw [Zc7,h1,Zb1]
   unfold yes at e1 ⊢
   rw [Zb1,if_pos rfl,h2,Zb1,e1]
   rfl
  ·cases i with
   | zero=>simp at ha hb;subst ha hb;exact hp
   | succ i=>exact q i a b (by simpa using ha) (by simpa using hb)
def Tl{α:Type}(r:Res α)(Φ:α→Prop):Prop:=∃a,r=.ok a∧Φ a
section
variable{α β:Type}{Φ:α→Prop}{ρ:Ev}{a b d:ME}{s t:MB}{i j:Nat}
theorem Zam{r:Res α}{x:α}(e:r=.ok x)(h:Φ x):Tl r Φ:=⟨x,e,h⟩
theorem Zau{x:α}(h:Φ x):Tl (.ok x) Φ:=⟨x,rfl,h⟩
theorem Zai{r:Res β}{f:β→Res α}(h:Tl r fun x=>Tl (f x) Φ):Tl (r.bind f) Φ:=by
 obtain ⟨x,rfl,y,e,q⟩:=h
 exact ⟨y,e,q⟩
theorem Tl.mono{r:Res α}{Ψ:α→Prop}(h:Tl r Ψ)(k:∀x,Ψ x→Φ x):Tl r Φ:=by
 obtain ⟨x,e,q⟩:=h
 exact ⟨x,e,k x q⟩
theorem Tl.eq{r:Res α}{x:α}(h:Tl r (·=x)):r=.ok x:=by
 obtain ⟨y,e,rfl⟩:=h
 exact e
theorem Zjp{c:Bool}{A B:Res α}(hc:c=true)(h:Tl A Φ):Tl (if c=true then A else B) Φ:=by rw [if_pos hc];exact h
theorem ZjV{c:Bool}{A B:Res α}(hc:c=false)(h:Tl B Φ):Tl (if c=true then A else B) Φ:=by rw [if_neg (by rw [hc];exact Vaz)];exact h
theorem w_dT{P:Prop} [Decidable P] {A B:Res α} (hc:P) (h:Tl A Φ):Tl (if decide P=true then A else B) Φ:=Zjp (Vbm hc) h
theorem w_dF{P:Prop} [Decidable P] {A B:Res α} (hc:¬P) (h:Tl B Φ):Tl (if decide P=true then A else B) Φ:=ZjV (Vab hc) h
theorem w_nT{P:Prop} [Decidable P] {A B:Res α} (hc:¬P) (h:Tl A Φ):Tl (if (!decide P)=true then A else B) Φ:=Zjp (by rw [Vab hc];rfl) h
theorem w_nF{P:Prop} [Decidable P] {A B:Res α} (hc:P) (h:Tl B Φ):Tl (if (!decide P)=true then A else B) Φ:=ZjV (by rw [Vbm hc];rfl) h
theorem ZcP{P:Prop} [Decidable P] {A B:Res α} (h1:P→Tl A Φ) (h2:¬P→Tl B Φ):Tl (if decide P=true then A else B) Φ:=by
 by_cases h:P
 ·exact w_dT h (h1 h)
 ·exact w_dF h (h2 h)
theorem Zhh{P:Prop} [Decidable P] {A B:Res α} (h1:¬P→Tl A Φ) (h2:P→Tl B Φ):Tl (if (!decide P)=true then A else B) Φ:=by
 by_cases h:P
 ·exact w_nF h (h2 h)
 ·exact w_nT h (h1 h)
theorem ZrD{c:Bool}{A B:Res α}(h1:c=true→Tl A Φ)(h2:c=false→Tl B Φ):Tl (if c=true then A else B) Φ:=by
 cases c with
 | true=>exact Zjp rfl (h1 rfl)
 | false=>exact ZjV rfl (h2 rfl)
end
section
variable{Φ:D→Prop}{ρ:Ev}{a b d:ME}{s t:MB}{i j n:Nat}{m:MA}
theorem w_v'(h:Tl (getC ρ[i]?) Φ):Tl (v i ρ) Φ:=h
theorem w_gC{o:Option Cl}{x:D}(e:o=some (.im x))(h:Φ x):Tl (getC o) Φ:=Zam (by rw [e];rfl) h
theorem w_c{x:D}(h:Φ x):Tl (c x ρ) Φ:=Zau h
theorem w_o1{f:D→Res D}(h:Tl (a ρ) fun x=>Tl (f x) Φ):Tl (o1 f a ρ) Φ:=Zai h
theorem w_o2{f:D→D→Res D}(h:Tl (a ρ) fun x=>Tl (b ρ) fun y=>Tl (f x y) Φ):Tl (o2 f a b ρ) Φ:=Zai (h.mono fun _ q=>Zai q)
theorem w_on{f:List D→Res D}(h:Tl (m ρ) fun xs=>Tl (f xs) Φ):Tl (on f m ρ) Φ:=Zai h
theorem Zut(h:Tl (m ρ) fun xs=>Φ (.tup xs)):Tl (mtp m ρ) Φ:=Zai (h.mono fun _ q=>Zau q)
theorem ZuY(h:Tl (m ρ) fun xs=>Φ (.lst xs)):Tl (mls m ρ) Φ:=Zai (h.mono fun _ q=>Zau q)
theorem Zsk(h:Tl (trb a ρ) fun x=>Tl (if x=true then b ρ else .ok (.bl false)) Φ):Tl (eAnd a b ρ) Φ:=Zai h
theorem ZrQ(h:Tl (trb a ρ) fun x=>Φ (.bl (!x))):Tl (eNot a ρ) Φ:=Zai (h.mono fun _ q=>Zau q)
theorem Zuo(h:Tl (t ρ) fun x=>Tl (if x=true then a ρ else b ρ) Φ):Tl (ife t a b ρ) Φ:=Zai h
theorem Zui{lo hi:Ev→Res (Option Int)}(h:Tl (a ρ) fun x=>Tl (lo ρ) fun l=>Tl (hi ρ) fun u=>Tl (dCut x l u) Φ):Tl (cut a lo hi ρ) Φ:=Zai (h.mono fun _ q=>Zai (q.mono fun _ q=>Zai q))
theorem Zry{it:MI}{own:Nat}{cap:List Nat}{g:MG}{e:ME}(h:Tl (it ρ) fun xs=>xs.length≤1000000∧Tl (Zak g t e (noA own (capD ρ cap)) xs) fun ys=>Φ (.lst ys)):Tl (comp it own cap g t e ρ) Φ:=by
 refine Zai (h.mono fun xs q=>?_)
 rw [if_pos (show xs.length≤LIM from q.1)]
 obtain ⟨ys,e1,q2⟩:=q.2
 rw [e1]
 exact Zau q2
theorem w_fn{k:MS}{ds:List D}(h:Tl (k (ev0 n ds)) fun f=>Tl (endOf f) Φ):Tl (fn n k ds) Φ:=Zai h
theorem Zsi{x y:Int}(h:Φ (.int (x+y))):Tl (dAdd (.int x) (.int y)) Φ:=Zau h
theorem ZlV{x y:List D}(hl:x.length+y.length≤1000000)(h:Φ (.lst (x++y))):Tl (dAdd (.lst x) (.lst y)) Φ:=Zam (Zm5 hl) h
theorem w_sub{x y:Int}(h:Φ (.int (x - y))):Tl (dSub (.int x) (.int y)) Φ:=Zau h
theorem w_mul{x y:Int}(hm:Zbk x y=true)(h:Φ (.int (x*y))):Tl (dMul (.int x) (.int y)) Φ:=Zam (ZqW hm) h
theorem w_mod{x y:Int}(hy:0<y)(h:Φ (.int (x%y))):Tl (dMod (.int x) (.int y)) Φ:=Zam (Znw hy) h
theorem w_div{x y:Int}(hy:0<y)(hl:y.natAbs.log2<9000)(h:Φ (.int (x/y))):Tl (dDiv (.int x) (.int y)) Φ:=Zam (ZnD hy hl) h
theorem w_divN{x y:Int}(hy:y<0)(hl:y.natAbs.log2<9000)(h:Φ (.int (x.fdiv y))):Tl (dDiv (.int x) (.int y)) Φ:=Zam (Zm3 hy hl) h
theorem w_pow{x y:Int}(h0:0≤y)(h1:y≤1000000)(h2:x.natAbs<2^64)(h:Φ (.int (x^y.toNat))):Tl (dPow (.int x) (.int y)) Φ:=Zam (ZpC h0 h1 h2) h
theorem w_shl{x y:Int}(h0:0≤y)(h1:y≤1000000)(h2:x.natAbs<2^64)(h:Φ (.int (x*2^y.toNat))):Tl (dShl (.int x) (.int y)) Φ:=Zam (Zpy h0 h1 h2) h
theorem w_shr{x y:Int}(h0:0≤y)(h:Φ (.int (x/2^y.toNat))):Tl (dShr (.int x) (.int y)) Φ:=Zam (ZpU h0) h
theorem ZuQ{x:Int}(h:Φ (.int (-x))):Tl (dNeg (.int x)) Φ:=Zau h
theorem w_lt{x y:Int}(h:Φ (.bl (decide (x<y)))):Tl (dLt (.int x) (.int y)) Φ:=Zau h
theorem w_le{x y:Int}(h:Φ (.bl (decide (x≤y)))):Tl (dLe (.int x) (.int y)) Φ:=Zau h
theorem w_gt{x y:Int}(h:Φ (.bl (decide (y<x)))):Tl (dGt (.int x) (.int y)) Φ:=Zau h
theorem w_ge{x y:Int}(h:Φ (.bl (decide (y≤x)))):Tl (dGe (.int x) (.int y)) Φ:=Zau h
theorem ZuW{x y:Int}(h:Φ (.bl (decide (x=y)))):Tl (dEq (.int x) (.int y)) Φ:=Zam (ZpP x y) h
theorem ZuR{x y:Int}(h:Φ (.bl (!decide (x=y)))):Tl (dNe (.int x) (.int y)) Φ:=Zam (ZpS x y) h
theorem ZtZ{x:D}(h:Φ (.bl (ZkO x))):Tl (dIsN x) Φ:=Zau h
theorem ZsN{x:D}(h:Φ (.bl (!ZkO x))):Tl (Zk3 x) Φ:=Zau h
theorem ZsX{xs:List D}(h:Φ (.int xs.length)):Tl (bLen [.lst xs]) Φ:=Zau h
theorem Ztw{xs:List D}(h:Φ (.int xs.length)):Tl (bLen [.tup xs]) Φ:=Zau h
theorem ZpW{ns:List Int}(h:Φ (.int ns.length)):Tl (bLen [.tup (ns.map .int)]) Φ:=Zam (by rw [Znf,VaN]) h
theorem ZpA{ns:List Int}(h:Φ (.int ns.length)):Tl (bLen [.lst (ns.map .int)]) Φ:=Zam (by rw [Zm0,VaN]) h
theorem Zu6{x:Int}(h:Φ (.int x.natAbs)):Tl (bAbs [.int x]) Φ:=Zam (ZnV x) h
theorem ZtW{x y:Int}(h:Φ (.int (max x y))):Tl (bMax [.int x,.int y]) Φ:=Zam (ZnE x y) h
theorem Zsu{xs:List D}(h:Φ (.tup xs)):Tl (bTup [.lst xs]) Φ:=Zau h
theorem ZtE{xs:List D}(h:Φ (.lst xs)):Tl (bLst [.lst xs]) Φ:=Zau h
theorem ZsL{xs:List D}{lo hi:Option Int}(h:Φ (.lst (cutL xs lo hi))):Tl (dCut (.lst xs) lo hi) Φ:=Zau h
theorem Zsz{xs:List D}{lo hi:Option Int}(h:Φ (.tup (cutL xs lo hi))):Tl (dCut (.tup xs) lo hi) Φ:=Zau h
end
section
variable{Φ:Bool→Prop}{ρ:Ev}{a:ME}{s t:MB}
theorem Zu0(h:Tl (a ρ) fun x=>Tl (tru x) Φ):Tl (trb a ρ) Φ:=Zai h
theorem ZuG{b:Bool}(h:Φ b):Tl (tru (.bl b)) Φ:=Zau h
theorem Zrx(h:Tl (s ρ) fun x=>Tl (if x=true then t ρ else .ok false) Φ):Tl (bAnd s t ρ) Φ:=Zai h
theorem Zt5(h:Tl (s ρ) fun x=>Tl (if x=true then .ok true else t ρ) Φ):Tl (bOr s t ρ) Φ:=Zai h
theorem Ztn(h:Tl (s ρ) fun x=>Φ (!x)):Tl (bNot s ρ) Φ:=Zai (h.mono fun _ q=>Zau q)
theorem ZtX(h:Φ true):Tl (yes ρ) Φ:=Zau h
end
section
variable{Φ:List D→Prop}{ρ:Ev}{a:ME}{m:MA}
theorem ZtI(h:Φ []):Tl (anil ρ) Φ:=Zau h
theorem ZqS(h:Tl (a ρ) fun x=>Tl (m ρ) fun xs=>Φ (x::xs)):Tl (Zaa a m ρ) Φ:=Zai (h.mono fun _ q=>Zai (q.mono fun _ q=>Zau q))
theorem w_iv(h:Tl (a ρ) fun x=>Tl (items x) Φ):Tl (iv a ρ) Φ:=Zai h
theorem Zus{xs:List D}(h:Φ xs):Tl (items (.lst xs)) Φ:=Zau h
theorem Zuw{xs:List D}(h:Φ xs):Tl (items (.tup xs)) Φ:=Zau h
theorem w_r1(h:Tl (m ρ) fun xs=>Tl (rng1 xs) Φ):Tl (r1 m ρ) Φ:=Zai h
theorem Zsp{j:Int}(h0:-1000000000≤j∧j≤1000000000)(h:Φ (ZbE 0 j.toNat)):Tl (rng1 [.int j]) Φ:=Zam (Zqu h0.1 h0.2) h
theorem ZsH(h:Tl (m ρ) fun xs=>Tl (Znh xs) Φ):Tl (Ze5 m ρ) Φ:=Zai h
theorem Zo3{xs:List D}(h:Φ (numbered 0 xs)):Tl (Znh [.lst xs]) Φ:=Zau h
theorem Zk7{g:MG}{t:MB}{e:ME}(h:Φ []):Tl (Zak g t e ρ []) Φ:=Zau h
theorem Zfb{g:MG}{t:MB}{e:ME}{x:D}{r:List D}(h:Tl (g x ρ) fun ρ1=>Tl (t ρ1) fun b=>Tl (if b=true then (e ρ1).bind fun y=>(Zak g t e ρ r).bind fun ys=>.ok (y::ys) else Zak g t e ρ r) Φ):Tl (Zak g t e ρ (x::r)) Φ :=
 Zai (h.mono fun _ q=>Zai q)
end
section
variable{Φ:Option Int→Prop}{ρ:Ev}{a:ME}
theorem Zu4(h:Φ none):Tl (pno ρ) Φ:=Zau h
theorem ZtN(h:Tl (a ρ) fun x=>Tl (optI x) Φ):Tl (pso a ρ) Φ:=Zai h
theorem ZrL{i:Int}(h:Φ (some i)):Tl (optI (.int i)) Φ:=Zau h
end
section
variable{Φ:Ev→Prop}{ρ:Ev}{i n:Nat}{x:D}
theorem w_gN(h:Φ (ρ.set i (.im x))):Tl (gN i x ρ) Φ:=Zau h
theorem ZuD(h:Φ ρ):Tl (gs0 [] ρ) Φ:=Zau h
theorem Zua{g:MG}{r:MGs}{ds:List D}(h:Tl (g x ρ) fun ρ'=>Tl (r ds ρ') Φ):Tl (gs1 g r (x::ds) ρ) Φ:=Zai h
theorem ZtQ{g:MGs}{xs:List D}(hl:xs.length=n)(h:Tl (g xs ρ) Φ):Tl (gU n g (.lst xs) ρ) Φ:=by
 show Tl (if xs.length=n then g xs ρ else .bad) Φ
 rw [if_pos hl];exact h
theorem Zuy{g:MGs}{xs:List D}(hl:xs.length=n)(h:Tl (g xs ρ) Φ):Tl (gU n g (.tup xs) ρ) Φ:=by
 show Tl (if xs.length=n then g xs ρ else .bad) Φ
 rw [if_pos hl];exact h
end
section
variable{Φ:Fl→Prop}{ρ:Ev}{a b:ME}{k l:MS}{t:MB}{i j:Nat}
theorem w_sq(h:Tl (k ρ) fun f=>Tl (goOn l f) Φ):Tl (sq k l ρ) Φ:=Zai h
theorem w_gx(h:Tl (l ρ) Φ):Tl (goOn l (.nx ρ)) Φ:=h
theorem w_gr{x:D}(h:Φ (.rt x)):Tl (goOn l (.rt x)) Φ:=Zau h
theorem w_gc(h:Φ (.ct ρ)):Tl (goOn l (.ct ρ)) Φ:=Zau h
theorem w_st(h:Tl (a ρ) fun x=>Φ (.nx (ρ.set i (.im x)))):Tl (st i a ρ) Φ:=Zai (h.mono fun _ q=>Zau q)
theorem ZuA(h:Tl (a ρ) fun x=>Φ (.rt x)):Tl (ret a ρ) Φ:=Zai (h.mono fun _ q=>Zau q)
theorem ZtT(h:Φ (.nx ρ)):Tl (nop ρ) Φ:=Zau h
theorem ZuN(h:Φ (.ct ρ)):Tl (cnt ρ) Φ:=Zau h
theorem ZuP(h:Tl (a ρ) fun _=>Φ (.nx ρ)):Tl (drp a ρ) Φ:=Zai (h.mono fun _ q=>Zau q)
theorem Zun{g:MG}(h:Tl (a ρ) fun x=>Tl (g x ρ) fun ρ'=>Φ (.nx ρ')):Tl (asg g a ρ) Φ:=Zai (h.mono fun _ q=>Zai (q.mono fun _ q=>Zau q))
theorem ZtO(h:Tl (t ρ) fun x=>Tl (if x=true then k ρ else l ρ) Φ):Tl (ifs t k l ρ) Φ:=Zai h
theorem ZuF{it:MI}{g:MG}(h:Tl (it ρ) fun xs=>Tl (Zb6 g k xs ρ) Φ):Tl (for_ it g k ρ) Φ:=Zai h
theorem Zug{fu:Ev→Nat}(h:Tl (whGo t k (fu ρ) ρ) Φ):Tl (whl fu t k ρ) Φ:=h
theorem Zt2(h:Tl (a ρ) fun x=>Tl (lstO x) fun xs=>Φ (.nx (ρ.set i (.ow xs)))):Tl (stO i a ρ) Φ:=Zai (h.mono fun _ q=>Zai (q.mono fun _ q=>Zau q))
theorem Zsn{Ψ:List D→Prop}{xs:List D}(h:Ψ xs):Tl (lstO (.lst xs)) Ψ:=Zau h
theorem Ztb(h:Tl (getO ρ[i]?) fun xs=>Tl (k (ρ.set i (.im (.lst xs)))) Φ):Tl (frz i k ρ) Φ:=Zai h
theorem ZrB(h:Tl (getO ρ[i]?) fun xs=>Tl (a ρ) fun d=>xs.length<1000000∧Φ (.nx (ρ.set i (.ow (xs++[d]))))):Tl (app i a ρ) Φ:=by
 refine Zai (h.mono fun xs q=>Zai (q.mono fun d q=>?_))
 rw [if_pos (show xs.length<LIM from q.1)]
 exact Zau q.2
theorem w_gO{Ψ:List D→Prop}{o:Option Cl}{xs:List D}(e:o=some (.ow xs))(h:Ψ xs):Tl (getO o) Ψ:=Zam (by rw [e];rfl) h
theorem w_eR{Ψ:D→Prop}{x:D}(h:Ψ x):Tl (endOf (.rt x)) Ψ:=Zau h
theorem w_eN{Ψ:D→Prop}(h:Ψ .non):Tl (endOf (.nx ρ)) Ψ:=Zau h
theorem w_tx(h:Tl (k ρ) Φ):Tl (turn k (.nx ρ)) Φ:=h
theorem w_tr{x:D}(h:Φ (.rt x)):Tl (turn k (.rt x)) Φ:=Zau h
theorem w_f0{g:MG}(h:Φ (.nx ρ)):Tl (Zb6 g k [] ρ) Φ:=Zau h
theorem w_f1{g:MG}{x:D}{r:List D}(h:Tl (g x ρ) fun ρ1=>Tl (k ρ1) fun f=>Tl (turn (Zb6 g k r) f) Φ):Tl (Zb6 g k (x::r) ρ) Φ:=Zai (h.mono fun _ q=>Zai q)
theorem ZmV{g:MG}{xs:List D}(I:List D→Ev→Prop)(h0:I [] ρ)(h:∀p x r,xs=p++x::r→∀ρ,I p ρ→Tl (g x ρ) fun ρ1=>Tl (k ρ1) fun f=>∃ρ2,f=.nx ρ2∧I (p++[x]) ρ2)(hd:∀ρ,I xs ρ→Φ (.nx ρ)):Tl (Zb6 g k xs ρ) Φ:=by
 obtain ⟨ρ',e,i⟩:=Zgc (g:=g) (b:=k) I xs [] (fun p x r hx ρ i=>by
  obtain ⟨ρ1,e1,f,e2,ρ2,rfl,i2⟩:=h p x r hx ρ i
  exact ⟨ρ1,ρ2,e1,e2,i2⟩) ρ h0
 exact ⟨_,e,hd ρ' i⟩
theorem w_wh{n:Nat}(I:Ev→Prop)(μ:Ev→Nat)(h0:I ρ)(hm:μ ρ<n)(h:∀ρ,I ρ→Tl (t ρ) fun b=>(b=true→Tl (k ρ) fun f=>∃ρ2,f=.nx ρ2∧I ρ2∧μ ρ2<μ ρ)∧(b=false→Φ (.nx ρ))):Tl (whGo t k n ρ) Φ:=by
 induction n generalizing ρ with
 | zero=>exact absurd hm (Nat.not_lt_zero _)
 | succ n ih =>
  rw [Zmy]
  obtain ⟨b,e,q⟩:=h ρ h0
  rw [e]
  cases b with
  | true =>
   obtain ⟨f,e2,ρ2,rfl,i2,l2⟩:=q.1 rfl
   show Tl ((k ρ).bind (turn (whGo t k n))) Φ
   rw [e2]
   exact ih i2 (by omega)
  | false=>exact Zau (q.2 rfl)
theorem Zhv:∀{ns ms:List Int},ns.map D.int=ms.map D.int→ns=ms
 | [],[],_=>rfl
 | [],_::_,h=>by cases h
 | _::_,[],h=>by cases h
 | n::r,m::s,h=>by
  have h':D.int n=D.int m∧r.map D.int=s.map D.int:=by simpa using h
  rw [Zhv h'.2]
  cases h'.1
  rfl
end
theorem Zuv{Φ:List D→Prop}{g:MG}{e:ME}{ρ:Ev}{xs:List D}(f:D→D)(h:∀x∈xs,Tl (g x ρ) fun ρ1=>Tl (e ρ1) fun y=>y=f x)(q:Φ (xs.map f)):Tl (Zak g yes e ρ xs) Φ:=by
 refine Zam (ZjK f xs fun x hx=>?_) q
 obtain ⟨ρ1,e1,y,e2,rfl⟩:=h x hx
 exact ⟨ρ1,e1,e2⟩
theorem Zct{α:Type}{Φ:List D→Prop}{g:MG}{e:ME}{ρ:Ev}{enc:α→D}(f:α→D):∀{l:List α},(∀a∈l,Tl (g (enc a) ρ) fun ρ1=>Tl (e ρ1) fun y=>y=f a)→Φ (l.map f)→Tl (Zak g yes e ρ (l.map enc)) Φ:=by
 intro l h q
 have key:∀l:List α,(∀a∈l,Tl (g (enc a) ρ) fun ρ1=>Tl (e ρ1) fun y=>y=f a)→Zak g yes e ρ (l.map enc)=.ok (l.map f):=by
  intro l
  induction l with
  | nil=>exact fun _=>rfl
  | cons a r ih =>
   intro h
   obtain ⟨ρ1,e1,y,e2,rfl⟩:=h a Van
   have z:=ih fun b hb=>h b (Vao _ hb)
   rw [VaM,Zc7,e1,Zb1]
   unfold yes at z ⊢
   rw [Zb1,if_pos rfl,e2,Zb1,z]
   rfl
 exact Zam (key l h) q
theorem w_all{Φ:List D→Prop}{g:MG}{e:ME}{ρ:Ev}{xs:List D}(P:D→D→Prop)(h:∀x∈xs,Tl (g x ρ) fun ρ1=>Tl (e ρ1) fun y=>P x y)(q:∀ys:List D,ys.length=xs.length→(∀(i:Nat) x y,xs[i]?=some x→ys[i]?=some y→P x y)→Φ ys):Tl (Zak g yes e ρ xs) Φ:=by
 obtain ⟨ys,e1,l,hp⟩:=ZjJ (g:=g) (e:=e) (ρ:=ρ) P xs fun x hx=>by
  obtain ⟨ρ1,e1,y,e2,hp⟩:=h x hx
  exact ⟨ρ1,y,e1,e2,hp⟩
 exact ⟨ys,e1,q ys l hp⟩
section
variable{Φ:D→Prop}
theorem Zuh{x y:D}(h:Tl (dIx x y) Φ):Tl (dIx x y) Φ:=h
theorem ZrA{xs:List D}(h:Tl (bLen xs) Φ):Tl (bLen xs) Φ:=h
theorem Zt8{xs:List D}(h:Tl (bIsi xs) Φ):Tl (bIsi xs) Φ:=h
theorem Zj9{α:Type}{xs:List α}{i:Nat}:at_ xs (i:Int)=xs[i]?:=by
 unfold at_
 rw [if_pos (Int.natCast_nonneg i),VbA]
theorem Zir{xs:List D}{i:Int}(h:0≤i∧i<xs.length)(q:∀x∈xs,Φ x):Tl (dIx (.lst xs) (.int i)) Φ:=by
 obtain ⟨n,rfl⟩:=Int.eq_ofNat_of_zero_le h.1
 have hn:n<xs.length:=by omega
 rw [ZhH,Zj9,VbH hn]
 exact Zau (q _ (Vb3 hn))
theorem ZmQ{ns:List Int}{i:Int}(h:-(ns.length:Int)≤i∧i<ns.length)(q:∀n∈ns,Φ (.int n)):Tl (dIx (.lst (ns.map .int)) (.int i)) Φ:=by
 rw [ZhH]
 unfold at_
 rw [VaN]
 by_cases h0:0≤i
 ·have hn:i.toNat<ns.length:=by omega
  rw [if_pos h0,Va2,VbH hn]
  exact Zau (q _ (Vb3 hn))
 ·have hn:(i+ns.length).toNat<ns.length:=by omega
  rw [if_neg h0,if_pos h.1,Va2,VbH hn]
  exact Zau (q _ (Vb3 hn))
end
mutual
theorem ZfH:∀(x:D) (k:Nat),plain k x=true→eqD x x=true
 | .non,_,_=>rfl
 | .bl b,_,_=>by show (b==b)=true;simp
 | .int b,_,_=>by show (b==b)=true;simp
 | .str b,_,_=>by show (b==b)=true;simp
 | .tup xs,0,h=>by simp [plain] at h
 | .lst xs,0,h=>by simp [plain] at h
 | .tup xs,k+1,h=>ZgF xs k (by simpa [plain] using h)
 | .lst xs,k+1,h=>ZgF xs k (by simpa [plain] using h)
 | .ty _,k,h=>by cases k<;>simp [plain] at h
 | .cls _,k,h=>by cases k<;>simp [plain] at h
 | .exc _,k,h=>by cases k<;>simp [plain] at h
theorem ZgF:∀(xs:List D) (k:Nat),Zap k xs=true→eqDs xs xs=true
 | [],_,_=>rfl
 | x::xs,k,h=>by
  have h':plain k x=true∧Zap k xs=true:=by simpa [Zap] using h
  show (eqD x x&&eqDs xs xs)=true
  rw [ZfH x k h'.1,ZgF xs k h'.2];rfl
end
theorem Zf5(k:Nat):∀ns:List Int,Zap k (ns.map .int)=true
 | []=>rfl
 | n::r=>by
  show (plain k (.int n)&&Zap k (r.map .int))=true
  rw [Zf5 k r];cases k<;>rfl
theorem Zud{Φ:D→Prop}{x:D}(h:plain 50 x=true)(q:Φ (.bl false)):Tl (dNe x x) Φ:=by
 unfold dNe
 rw [h,Bool.and_self,if_pos rfl,ZfH x 50 h]
 exact Zau q
def Zik(i:Nat)(ρ:Ev):Nat:=((ρ[i]?).map absC).getD 0
theorem Zfg:∀(ρ:Ev) (i:Nat),Zik i ρ<fuel ρ
 | [],i=>by simp [Zik,fuel]
 | c::r,0=>by simp [Zik,fuel];omega
 | c::r,i+1=>by
  have:=Zfg r i
  simp [Zik,fuel] at this ⊢
  omega
theorem mem_range{n:Nat}{x:D}(h:x∈ZbE 0 n):∃k:Nat,k<n∧x=.int (k:Int):=by
 unfold ZbE at h
 obtain ⟨k,hk,rfl⟩:=Vbs.mp h
 exact ⟨k,Vai.mp hk,by rw [Int.zero_add]⟩
theorem ZiO{Φ:D→Prop}{ys:List D}(h:∀y∈ys,y=.bl true)(q:Φ (.bl true)):Tl (bAll [.lst ys]) Φ:=by
 have key:∀ys:List D,(∀y∈ys,y=.bl true)→∃bs,bools ys=.ok bs∧bs.all id=true:=by
  intro ys
  induction ys with
  | nil=>exact fun _=>⟨[],rfl,rfl⟩
  | cons y r ih =>
   intro h
   obtain ⟨bs,e1,e2⟩:=ih fun z hz=>h z (Vao _ hz)
   obtain rfl:=h y Van
   exact ⟨true::bs,by show (bools r).bind _=_;rw [e1];rfl,by simpa using e2⟩
 obtain ⟨bs,e1,e2⟩:=key ys h
 refine Zam (x:=.bl true) ?_ q
 show (bools ys).bind (fun bs=>Res.ok (D.bl (bs.all id)))=_
 rw [e1]
 show Res.ok (D.bl (bs.all id))=_
 rw [e2]
section
variable{Φ:D→Prop}{ρ:Ev}{i:Nat}
theorem w_pk{m:ME}(h:Tl (getO ρ[i]?) fun xs=>Tl (m (ρ.set i (.im (.lst xs)))) fun d=>Tl (Zh6 d) Φ):Tl (pk i m ρ) Φ:=Zai (h.mono fun _ q=>Zai q)
theorem Zuq{Ψ:Bool→Prop}{m:MB}(h:Tl (getO ρ[i]?) fun xs=>Tl (m (ρ.set i (.im (.lst xs)))) Ψ):Tl (pkB i m ρ) Ψ:=Zai h
theorem Zuu{n:Int}(h:Φ (.int n)):Tl (Zh6 (.int n)) Φ:=Zau h
theorem w_rev{xs:List D}(h:Φ (.lst xs.reverse)):Tl (dRev (.lst xs)) Φ:=Zau h
theorem ZoE{x:D}{ys:List D}(h1:plain 50 x=true)(h2:Zap 50 ys=true)(h:Φ (.bl (!inD x ys))):Tl (dNin x (.lst ys)) Φ:=by
 refine Zam (x:=.bl (!inD x ys)) ?_ h
 show (if (plain 50 x&&Zap 50 ys)=true then Res.ok (D.bl (!inD x ys)) else .bad)=_
 rw [h1,h2];rfl
end
end Dl
namespace Dl
section
variable{Φ:D→Prop}
theorem w_p6(h:Φ (.int 1000000)):Tl (dPow (.int 10) (.int 6)) Φ:=Zam rfl h
end
end Dl
namespace Dl
end Dl
namespace Dl
section
variable{Ψ:List D→Prop}{Φ:D→Prop}{ρ:Ev}{m:MA}{xs ys zs:List D}{a b:ME}
theorem Zsr(h:Φ (.lst (trips xs ys zs))):Tl (lz3 [.tup xs,.tup ys,.tup zs]) Φ:=Zau h
end
end Dl
namespace Mt
def gcdL(g:Nat):List Int→Nat
 | []=>g
 | x::r=>gcdL (Nat.gcd g x.natAbs) r
theorem ZjX(a b:Nat):Nat.gcd b (a%b)=Nat.gcd a b:=by
 rw [Nat.gcd_comm a b,Nat.gcd_rec b a,Nat.gcd_comm]
theorem ZjA(t b:Int):gcdL 0 [t,b]=Int.gcd t b:=by
 show Nat.gcd (Nat.gcd 0 t.natAbs) b.natAbs=_
 rw [Nat.gcd_zero_left];rfl
def frT(t b:Int):Int:=if b<0 then t.fdiv (-(Int.gcd t b:Int)) else t.fdiv (Int.gcd t b:Int)
def frB(t b:Int):Int:=if b<0 then b.fdiv (-(Int.gcd t b:Int)) else b.fdiv (Int.gcd t b:Int)
theorem ZfM{t b:Int}(h:b≠0):0<Int.gcd t b:=Int.gcd_pos_of_ne_zero_right t h
theorem ZfG{a d q:Int}(h:a=d*q)(hd:d≠0):a.fdiv d=q:=by
 subst h;exact Int.mul_fdiv_cancel_left q hd
structure Fr(t b p q:Int):Prop where
 pos:1≤q
 low:Int.gcd p q=1
 same:p*b=t*q
 np:p.natAbs≤t.natAbs
 nq:q.natAbs≤b.natAbs
theorem ZsB{t b:Int}(h:b≠0):Fr t b (frT t b) (frB t b):=by
 have g0:=ZfM (t:=t) h
 obtain ⟨p,hp⟩:=Int.gcd_dvd_left t b
 obtain ⟨q,hq⟩:=Int.gcd_dvd_right t b
 have gi:(0:Int)<(Int.gcd t b:Int):=Int.natCast_pos.mpr g0
 have hgcd:Int.gcd p q=1:=by
  have e:Int.gcd ((Int.gcd t b:Int)*p) ((Int.gcd t b:Int)*q)=Int.gcd t b*Int.gcd p q:=by
   rw [Int.gcd_mul_left,Vca]
  rw [←hp,←hq] at e
  have e2:Int.gcd t b*Int.gcd p q=Int.gcd t b*1:=by rw [Nat.mul_one];exact e.symm
  exact Nat.eq_of_mul_eq_mul_left g0 e2
 unfold frT frB
 generalize Int.gcd t b=g at *
 have npq:∀{x y:Int},x=(g:Int)*y→y.natAbs≤x.natAbs:=fun {x y} e=>by
  rw [e,Int.natAbs_mul,Vca]
  exact Nat.le_mul_of_pos_left _ g0
 have same:p*b=t*q:=by
  rw [hq,hp,Int.mul_left_comm,Int.mul_assoc]
 have hgn:-(g:Int)≠0:=by omega
 by_cases hb:b<0
 ·rw [if_pos hb,if_pos hb,ZfG (q:=-p) (by rw [Int.neg_mul_neg];exact hp) hgn,ZfG (q:=-q) (by rw [Int.neg_mul_neg];exact hq) hgn]
  have qn:q<0:=by
   rcases Int.lt_or_le q 0 with z | z
   ·exact z
   ·have z2:0≤(g:Int)*q:=Int.mul_nonneg (Int.le_of_lt gi) z
    omega
  exact ⟨by omega,by rw [Int.gcd_neg,Int.neg_gcd];exact hgcd,by rw [Int.neg_mul,Int.mul_neg,same],by rw [Int.natAbs_neg];exact npq hp,by rw [Int.natAbs_neg];exact npq hq⟩
 ·rw [if_neg hb,if_neg hb,ZfG (q:=p) hp (Int.ne_of_gt gi),ZfG (q:=q) hq (Int.ne_of_gt gi)]
  have qn:1≤q:=by
   rcases Int.lt_or_le 0 q with z | z
   ·exact z
   ·have z2:(g:Int)*q≤0:=Int.mul_nonpos_of_nonneg_of_nonpos (Int.le_of_lt gi) z
    omega
  exact ⟨qn,hgcd,same,npq hp,npq hq⟩
theorem Zti{p q r s:Int}(h1:1≤q)(h2:Int.gcd p q=1)(h3:1≤s)(h4:Int.gcd r s=1)(e:p*s=r*q):p=r∧q=s:=by
 have d1:q∣s:=by
  have z:q∣p*s:=⟨r,by rw [e,Int.mul_comm]⟩
  have z2:q.natAbs∣p.natAbs*s.natAbs:=by rw [←Int.natAbs_mul];exact Vcb.mpr z
  exact Vcb.mp (Nat.Coprime.dvd_of_dvd_mul_left (k:=q.natAbs) (m:=p.natAbs) (by show Nat.gcd _ _=1;rw [Nat.gcd_comm];exact h2) z2)
 have d2:s∣q:=by
  have z:s∣r*q:=⟨p,by rw [←e,Int.mul_comm]⟩
  have z2:s.natAbs∣r.natAbs*q.natAbs:=by rw [←Int.natAbs_mul];exact Vcb.mpr z
  exact Vcb.mp (Nat.Coprime.dvd_of_dvd_mul_left (k:=s.natAbs) (m:=r.natAbs) (by show Nat.gcd _ _=1;rw [Nat.gcd_comm];exact h4) z2)
 have e2:q=s:=Int.le_antisymm (Int.le_of_dvd (by omega) d1) (Int.le_of_dvd (by omega) d2)
 subst e2
 exact ⟨Int.eq_of_mul_eq_mul_right (by omega) e,rfl⟩
theorem Zho{a d:Int}(h:0<d):(a.fdiv d).natAbs≤a.natAbs:=by
 rw [VaJ a (Int.le_of_lt h)]
 have e:=Int.emod_add_mul_ediv a d
 have r0:=VbZ a (Int.ne_of_gt h)
 have r1:=Vb0 a h
 rcases Int.lt_or_le a 0 with z | z
 ·have q0:a/d<0:=Int.ediv_neg_of_neg_of_pos z h
  have:a≤a/d:=by
   have e2:a=a%d+d*(a/d):=e.symm
   have:d*(a/d)≤1*(a/d):=Int.mul_le_mul_of_nonpos_right (by omega) (by omega)
   rcases Int.lt_or_le a (a/d+1) with z | z
   ·omega
   ·exfalso
    have hh:(d - 1)*(a/d)≤(d - 1)*(-1):=Vcc (by omega) (by omega)
    rw [Int.sub_mul] at hh
    omega
  omega
 ·have q0:0≤a/d:=Int.ediv_nonneg z (Int.le_of_lt h)
  have:a/d≤a:=Int.ediv_le_self d z
  omega
end Mt
local macro_rules | `(tactic| walk_at "sm")=>`(tactic| first | assumption | exact Dl.Sm.of64 (by omega) (by omega) | exact Dl.Sm.mul (by walk_at "sm") (by walk_at "sm") | exact Dl.Sm.add (by walk_at "sm") (by walk_at "sm") | exact Dl.Sm.sub (by walk_at "sm") (by walk_at "sm") | exact Dl.Sm.neg (by walk_at "sm") | exact Dl.Sm.min (by walk_at "sm") (by walk_at "sm") | exact Dl.Sm.max (by walk_at "sm") (by walk_at "sm"))
local macro_rules | `(tactic| walk_at "mo")=>`(tactic| first | assumption | exact Dl.ZpO (Dl.Sm.of64 (by omega) (by omega)) | exact Dl.ZpZ (Dl.Sm.of64 (by omega) (by omega)) | exact Dl.ZaO (by walk_at "sm") (by walk_at "sm") (by decide))
local macro_rules | `(tactic| walk_at "lg")=>`(tactic| first | assumption | decide | exact Dl.Sm.log (by walk_at "sm") (by decide))
local macro_rules | `(tactic| walk_at "w1")=>`(tactic| first
 | ((with_reducible refine Dl.w_v' ?_);refine Dl.w_gC rfl ?_) | with_reducible refine Dl.w_o2 ?_ | with_reducible refine Dl.w_c ?_ | with_reducible refine Dl.w_on ?_ | with_reducible refine Dl.ZqS ?_ | with_reducible refine Dl.ZtI ?_ | with_reducible refine Dl.w_sq ?_ | with_reducible refine Dl.w_gx ?_ | with_reducible refine Dl.w_st ?_ | with_reducible refine Dl.ZtO ?_ | with_reducible refine Dl.Zu0 ?_ | with_reducible refine Dl.ZuG ?_
 | with_reducible refine Dl.Zsi ?_ | with_reducible refine Dl.w_sub ?_ | ((with_reducible refine Dl.w_mul ?_ ?_);walk_at "mo") | ((with_reducible refine Dl.w_mod ?_ ?_);(first | decide | omega)) | ((with_reducible refine Dl.w_div ?_ ?_ ?_);(first | decide | omega);walk_at "lg")
 | with_reducible refine Dl.w_lt ?_ | with_reducible refine Dl.w_le ?_ | with_reducible refine Dl.w_gt ?_ | with_reducible refine Dl.w_ge ?_ | with_reducible refine Dl.ZuW ?_ | with_reducible refine Dl.ZuR ?_ | with_reducible refine Dl.Zrx ?_ | with_reducible refine Dl.Zt5 ?_ | with_reducible refine Dl.Ztn ?_
 | with_reducible refine Dl.ZuA ?_ | with_reducible refine Dl.w_gr ?_ | with_reducible refine Dl.w_eR ?_ | with_reducible refine Dl.ZtT ?_ | with_reducible refine Dl.Zut ?_ | with_reducible refine Dl.ZuY ?_ | with_reducible refine Dl.w_fn ?_ | with_reducible refine Dl.w_o1 ?_ | with_reducible refine Dl.Zsk ?_ | with_reducible refine Dl.w_eOr ?_ | with_reducible refine Dl.ZrQ ?_ | with_reducible refine Dl.Zuo ?_ | with_reducible refine Dl.w_chain ?_
 | with_reducible refine Dl.ZpW ?_ | with_reducible refine Dl.ZpA ?_ | with_reducible refine Dl.ZsX ?_ | with_reducible refine Dl.Ztw ?_ | with_reducible refine Dl.Zu6 ?_ | with_reducible refine Dl.ZtW ?_ | with_reducible refine Dl.w_min ?_ | with_reducible refine Dl.Zsu ?_ | with_reducible refine Dl.w_tupT ?_ | with_reducible refine Dl.ZtE ?_ | with_reducible refine Dl.w_lstT ?_ | with_reducible refine Dl.ZuQ ?_
 | with_reducible refine Dl.Zui ?_ | with_reducible refine Dl.Zu4 ?_ | with_reducible refine Dl.ZtN ?_ | with_reducible refine Dl.ZrL ?_ | with_reducible refine Dl.ZsL ?_ | with_reducible refine Dl.Zsz ?_ | with_reducible refine Dl.w_iv ?_ | with_reducible refine Dl.Zus ?_ | with_reducible refine Dl.Zuw ?_ | with_reducible refine Dl.w_r1 ?_ | ((with_reducible refine Dl.Zsp ?_ ?_);omega) | with_reducible refine Dl.w_gN ?_ | with_reducible refine Dl.ZuD ?_ | with_reducible refine Dl.Zua ?_
 | ((with_reducible refine Dl.Zuy ?_ ?_);exact rfl) | ((with_reducible refine Dl.ZtQ ?_ ?_);exact rfl) | with_reducible refine Dl.ZuP ?_ | with_reducible refine Dl.Zun ?_ | with_reducible refine Dl.w_par ?_ | with_reducible refine Dl.ZuF ?_ | with_reducible refine Dl.Zug ?_ | with_reducible refine Dl.w_zip ?_ | with_reducible refine Dl.w_zip2 ?_ | with_reducible refine Dl.w_zipTL ?_ | with_reducible refine Dl.w_zipLT ?_ | with_reducible refine Dl.w_zipTT ?_ | with_reducible refine Dl.w_iz3 ?_ | with_reducible refine Dl.w_zip3T ?_ | with_reducible refine Dl.Zsr ?_ | with_reducible refine Dl.w_mLst ?_ | with_reducible refine Dl.ZsH ?_ | with_reducible refine Dl.Zo3 ?_ | with_reducible refine Dl.Zry ?_
 | with_reducible refine Dl.w_retN ?_ | with_reducible refine Dl.w_eN ?_ | with_reducible refine Dl.w_brk ?_ | with_reducible refine Dl.ZuN ?_ | with_reducible refine Dl.w_gb ?_ | with_reducible refine Dl.w_gc ?_ | with_reducible refine Dl.ZtZ ?_ | with_reducible refine Dl.ZsN ?_ | with_reducible refine Dl.w_p6 ?_ | with_reducible refine Dl.w_p8 ?_ | with_reducible refine Dl.w_p20 ?_ | ((with_reducible refine Dl.w_pow ?_ ?_ ?_ ?_);decide;decide;decide) | ((with_reducible refine Dl.w_shl ?_ ?_ ?_ ?_);decide;decide;decide) | ((with_reducible refine Dl.w_shr ?_ ?_);omega) | with_reducible refine Dl.ZtX ?_
 | with_reducible refine Dl.w_tx ?_ | with_reducible refine Dl.w_tc ?_ | with_reducible refine Dl.w_tb ?_ | with_reducible refine Dl.w_tr ?_ | with_reducible refine Dl.w_max3 ?_ | with_reducible refine Dl.w_sum ?_ | with_reducible refine Dl.w_rev ?_ | ((with_reducible refine Dl.Zuq ?_);refine Dl.w_gO rfl ?_) | ((with_reducible refine Dl.w_pk ?_);refine Dl.w_gO rfl ?_) | with_reducible refine Dl.Zuu ?_ | with_reducible refine Dl.w_scB ?_ | with_reducible refine Dl.w_endT ?_ | with_reducible refine Dl.Zt2 ?_ | with_reducible refine Dl.Zsn ?_ | ((with_reducible refine Dl.Ztb ?_);refine Dl.w_gO rfl ?_) | ((with_reducible refine Dl.ZrB ?_);refine Dl.w_gO rfl ?_) | ((with_reducible refine Dl.Zuh ?_);refine Dl.Zam rfl ?_) | ((with_reducible refine Dl.Zt8 ?_);refine Dl.Zam rfl ?_) | ((with_reducible refine Dl.ZrA ?_);refine Dl.Zam rfl ?_) | with_reducible refine Dl.Zau ?_ | with_reducible refine Dl.Zai ?_)
local macro_rules | `(tactic| walk_at "wi")=>`(tactic| first | ((with_reducible refine Dl.Zjp ?_ ?_);exact rfl) | ((with_reducible refine Dl.ZjV ?_ ?_);exact rfl) | ((with_reducible refine Dl.w_dT ?_ ?_);first | assumption | omega) | ((with_reducible refine Dl.w_dF ?_ ?_);first | assumption | omega) | ((with_reducible refine Dl.w_nT ?_ ?_);first | assumption | omega) | ((with_reducible refine Dl.w_nF ?_ ?_);first | assumption | omega))
local macro_rules | `(tactic| walk_at "wr")=>`(tactic| (refine Dl.Zam rfl ?_))
local macro_rules | `(tactic| walk_at "w")=>`(tactic| (repeat (first | walk_at "w1" | walk_at "wi"));try dsimp only [List.set_cons_zero,List.set_cons_succ,Dl.ev0,Dl.evF,Dl.noA,Dl.capD,Dl.imOf,List.getElem?_cons_zero,List.getElem?_cons_succ,Nat.reduceAdd,Nat.reduceSub])
namespace My
open PySem Dl
def objs:List Str:=["Plain", "Shaded", "Patterned", "Glass"]
def ZaG:List D→Res D:=fn 1
  (ret (o2 dEq (comp (iv (v 0)) 1 [] (gN 0) (trb (o2 dGt (on bMax (Zaa (on bAbs (Zaa (o2 dIx (v 0) (c (.int 0))) anil)) (Zaa (on bAbs (Zaa (o2 dIx (v 0) (c (.int 1))) anil)) anil))) (o2 dPow (c (.int 10)) (c (.int 6))))) (v 0)) (mls anil)))
def Zaq:List D→Res D:=fn 2
  (sq (ifs (trb (o2 dLt (v 1) (on bLen (Zaa (v 0) anil))))
  (ret (o2 dIx (v 0) (v 1)))
  nop)
  (ret (c (.int 0))))
def Za9:List D→Res D:=fn 3
  (sq (ifs (bAnd (trb (o2 dGe (v 0) (o2 dShl (c (.int 1)) (c (.int 90))))) (bAnd (trb (o2 dEq (o2 dMod (v 0) (c (.int 2))) (c (.int 1)))) (trb (o2 dGt (o2 dShr (v 0) (o2 dAdd (c (.int 1)) (o2 dMul (c (.int 31)) (v 1)))) (c (.int 0))))))
  (ret (o2 dMod (o2 dShr (v 0) (o2 dAdd (c (.int 1)) (o2 dMul (c (.int 31)) (v 1)))) (c (.int 2147483648))))
  nop)
  (sq (st 2 (o2 dMod (o2 dMul (o2 dAdd (o2 dAdd (v 0) (o2 dMul (c (.int 7919)) (v 1))) (c (.int 1))) (c (.int 48271))) (c (.int 2147483647))))
  (sq (st 2 (o2 dMod (o2 dMul (v 2) (o2 dAdd (o2 dDiv (v 2) (c (.int 1009))) (c (.int 69621)))) (c (.int 2147483647))))
  (ret (o2 dMod (o2 dMul (v 2) (o2 dAdd (o2 dAdd (o2 dDiv (v 2) (c (.int 2003))) (c (.int 39373))) (v 1))) (c (.int 2147483629)))))))
def Zaw:List D→Res D:=fn 2
  (ret (comp (r1 (Zaa (v 1) anil)) 1 [0] (gN 0) yes (on Za9 (Zaa (v 1) (Zaa (v 0) anil)))))
def Zdb:List D→Res D:=fn 1
  (ret (c (.str "glass")))
def ZaT:List D→Res D:=fn 1
  (ret (c (.str "patterned")))
def Zb9:List D→Res D:=fn 1
  (ret (c (.str "plain")))
def Zbi:List D→Res D:=fn 1
  (ret (c (.str "shaded")))
def ZcX:List (Str×(List D→Res D)):=[("Plain", Zb9),("Shaded", Zbi),("Patterned", ZaT),("Glass", Zdb)]
def Zan:List D→Res D:=fn 2
  (for_ (iv (v 0)) (gN 1)
  (ifs (trb (o2 dLe (o2 dIx (v 1) (c (.int 2))) (c (.int 0))))
  (rse "BadTriangle" (Zaa (c (.str "only corners with w above 0 are thrown onto the floor")) anil))
  nop))
def Zaz:List D→Res D:=fn 1
  (ret (eAnd (on bIsi (Zaa (v 0) (Zaa (c (.ty "int")) anil))) (eNot (on bIsi (Zaa (v 0) (Zaa (c (.ty "bool")) anil))))))
def ZbW:List D→Res D:=fn 1
  (sq (ifs (bOr (bNot (trb (on bIsi (Zaa (v 0) (Zaa (c (.ty "tuple")) anil))))) (trb (o2 dGt (on bLen (Zaa (v 0) anil)) (c (.int 3)))))
  (ret (c (.bl false)))
  nop)
  (ret (on bAll (Zaa (comp (iv (v 0)) 1 [] (gN 0) yes (on Zaz (Zaa (v 0) anil))) anil))))
def Zci:List D→Res D:=fn 1
  (sq (ifs (bOr (bNot (trb (on bIsi (Zaa (v 0) (Zaa (c (.ty "tuple")) anil))))) (trb (o2 dNe (on bLen (Zaa (v 0) anil)) (c (.int 5)))))
  (ret (c (.bl false)))
  nop)
  (sq (ifs (bNot (trb (on bAll (Zaa (comp (iv (cut (v 0) pno (pso (c (.int 4))))) 1 [] (gN 0) yes (on Zaz (Zaa (v 0) anil))) anil))))
  (ret (c (.bl false)))
  nop)
  (ret (eAnd (o2 dGe (o2 dIx (v 0) (c (.int 3))) (c (.int 1))) (on ZbW (Zaa (o2 dIx (v 0) (c (.int 4))) anil))))))
def Za0:List D→Res D:=fn 2
  (sq (ifs (bOr (bNot (trb (on bIsi (Zaa (v 0) (Zaa (c (.ty "tuple")) anil))))) (trb (o2 dNe (on bLen (Zaa (v 0) anil)) (c (.int 3)))))
  (rse "BadTriangle" (Zaa (c (.str "a triangle is a tuple of three corners")) anil))
  nop)
  (for_ (iv (v 0)) (gN 1)
  (sq (ifs (bNot (trb (on Zci (Zaa (v 1) anil))))
  (rse "BadTriangle" (Zaa (c (.str "a corner is a tuple (x, y, w, h, values) of whole numbers, h from 1 on")) anil))
  nop)
  (ifs (trb (o2 dNe (on bLen (Zaa (o2 dIx (v 1) (c (.int 4))) anil)) (on bLen (Zaa (o2 dIx (o2 dIx (v 0) (c (.int 0))) (c (.int 4))) anil))))
  (rse "BadTriangle" (Zaa (c (.str "the corners of a triangle have as many values each")) anil))
  nop))))
def Zb4:List D→Fs→Res Fs:=fnI 2
  (iDrp (on Za0 (Zaa (v 1) anil))
  (iDrp (on Zan (Zaa (v 1) anil))
  (iSet "triangle" (v 1)
  iEnd)))
def Zao:List D→Res D:=fn 5
  (sq (st 1 (c (.int 0)))
  (sq (for_ (iv (v 0)) (gN 2)
  (sq (st 3 (on bAbs (Zaa (v 2) anil)))
  (whl fuel (trb (o2 dNe (v 3) (c (.int 0))))
  (sq (st 4 (o2 dMod (v 1) (v 3)))
  (sq (st 1 (v 3))
  (st 3 (v 4)))))))
  (ret (v 1))))
def ZaF:List D→Res D:=fn 1
  (sq (ifs (bOr (bNot (trb (on bIsi (Zaa (v 0) (Zaa (c (.ty "tuple")) anil))))) (trb (o2 dNe (on bLen (Zaa (v 0) anil)) (c (.int 2)))))
  (ret (c (.bl false)))
  nop)
  (sq (ifs (bOr (bNot (trb (on Zaz (Zaa (o2 dIx (v 0) (c (.int 0))) anil)))) (bNot (trb (on Zaz (Zaa (o2 dIx (v 0) (c (.int 1))) anil)))))
  (ret (c (.bl false)))
  nop)
  (ret (eAnd (o2 dGe (o2 dIx (v 0) (c (.int 1))) (c (.int 1))) (o2 dEq (on Zao (Zaa (v 0) anil)) (c (.int 1)))))))
def ZaP:List D→Res D:=fn 1
  (ifs (bNot (trb (on ZaF (Zaa (v 0) anil))))
  (rse "BadThing" (Zaa (c (.str "a colour is a fraction in lowest terms")) anil))
  nop)
def ZbX:List D→Res D:=fn 1
  (ifs (bOr (bNot (trb (on ZaF (Zaa (v 0) anil)))) (bOr (trb (o2 dLt (o2 dIx (v 0) (c (.int 0))) (c (.int 0)))) (trb (o2 dGt (o2 dIx (v 0) (c (.int 0))) (o2 dIx (v 0) (c (.int 1)))))))
  (rse "BadThing" (Zaa (c (.str "a part is a fraction in lowest terms, from 0 to 1")) anil))
  nop)
def Zdp:List D→Fs→Res Fs:=fnI 4
  (iSup Zb4 (Zaa (v 1) anil)
  (iDrp (on ZaP (Zaa (v 2) anil))
  (iDrp (on ZbX (Zaa (v 3) anil))
  (iSet "colour" (v 2)
  (iSet "part" (v 3)
  iEnd)))))
def ZaS:List D→Res D:=fn 2
  (sq (ifs (bOr (bNot (trb (on bIsi (Zaa (v 0) (Zaa (c (.ty "list")) anil))))) (trb (o2 dNin (on bLen (Zaa (v 0) anil)) (c (.tup [.int 1,.int 2,.int 4,.int 8,.int 16])))))
  (rse "BadPattern" (Zaa (c (.str "a pattern is a list of 1, 2, 4, 8 or 16 rows")) anil))
  nop)
  (for_ (iv (v 0)) (gN 1)
  (sq (ifs (bOr (bNot (trb (on bIsi (Zaa (v 1) (Zaa (c (.ty "list")) anil))))) (trb (o2 dNin (on bLen (Zaa (v 1) anil)) (c (.tup [.int 1,.int 2,.int 4,.int 8,.int 16])))))
  (rse "BadPattern" (Zaa (c (.str "a row of a pattern is a list of 1, 2, 4, 8 or 16 fractions")) anil))
  nop)
  (sq (ifs (trb (o2 dNe (on bLen (Zaa (v 1) anil)) (on bLen (Zaa (o2 dIx (v 0) (c (.int 0))) anil))))
  (rse "BadPattern" (Zaa (c (.str "the rows of a pattern have as many fractions each")) anil))
  nop)
  (ifs (bNot (trb (on bAll (Zaa (comp (iv (v 1)) 1 [] (gN 0) yes (on ZaF (Zaa (v 0) anil))) anil))))
  (rse "BadPattern" (Zaa (c (.str "what stands in a pattern is a fraction in lowest terms")) anil))
  nop)))))
def ZaQ:List D→Res D:=fn 2
  (ifs (trb (o2 dLt (on bLen (Zaa (o2 dIx (o2 dIx (v 0) (c (.int 0))) (c (.int 4))) anil)) (v 1)))
  badS
  nop)
def ZdS:List D→Res D:=fn 1
  (ret (comp (iv (v 0)) 1 [] (gN 0) yes (on bLst (Zaa (v 0) anil))))
def Za6:List D→Fs→Res Fs:=fnI 3
  (iSup Zb4 (Zaa (v 1) anil)
  (iDrp (on ZaQ (Zaa (v 1) (Zaa (c (.int 2)) anil)))
  (iDrp (on ZaS (Zaa (v 2) anil))
  (iSet "pattern" (on ZdS (Zaa (v 2) anil))
  iEnd))))
def ZdK:List D→Fs→Res Fs:=fnI 3
  (iSup Zb4 (Zaa (v 1) anil)
  (iDrp (on ZaP (Zaa (v 2) anil))
  (iSet "colour" (v 2)
  iEnd)))
def Zcv:List D→Fs→Res Fs:=fnI 2
  (iSup Zb4 (Zaa (v 1) anil)
  (iDrp (on ZaQ (Zaa (v 1) (Zaa (c (.int 1)) anil)))
  iEnd))
def Za8:List D→Res D:=fn 2
  (sq (ifs (trb (o2 dEq (meth ZcX "word" (v 0) anil) (c (.str "glass"))))
  (ret (make "Glass" Zdp (Zaa (v 1) (Zaa (o1 (dFld objs "colour") (v 0)) (Zaa (o1 (dFld objs "part") (v 0)) anil)))))
  nop)
  (sq (ifs (trb (o2 dEq (meth ZcX "word" (v 0) anil) (c (.str "plain"))))
  (ret (make "Plain" ZdK (Zaa (v 1) (Zaa (o1 (dFld objs "colour") (v 0)) anil))))
  nop)
  (sq (ifs (trb (o2 dEq (meth ZcX "word" (v 0) anil) (c (.str "shaded"))))
  (ret (make "Shaded" Zcv (Zaa (v 1) anil)))
  nop)
  (ret (make "Patterned" Za6 (Zaa (v 1) (Zaa (o1 (dFld objs "pattern") (v 0)) anil)))))))
def ZaK:List D→Res D:=fn 4
  (sq (st 3 (comp (iv (v 0)) 5 [2,1] (gU 5 (gs1 (gN 0) (gs1 (gN 1) (gs1 (gN 2) (gs1 (gN 3) (gs1 (gN 4) gs0)))))) yes (mtp (Zaa (o2 dAdd (v 0) (o2 dMul (v 6) (v 2))) (Zaa (o2 dAdd (v 1) (o2 dMul (v 5) (v 2))) (Zaa (v 2) (Zaa (v 3) (Zaa (v 4) anil))))))))
  (ret (mtp (Zaa (o2 dIx (v 3) (c (.int 0))) (Zaa (o2 dIx (v 3) (c (.int 1))) (Zaa (o2 dIx (v 3) (c (.int 2))) anil))))))
def Zbp:List D→Res D:=fn 4
  (sq (stO 2 (mls (Zaa (o1 dRev (v 0)) anil)))
  (sq (ifs (trb (o2 dGt (on bLen (Zaa (v 0) anil)) (c (.int 1))))
  (sq (st 3 (o2 dMod (v 1) (o2 dSub (on bLen (Zaa (v 0) anil)) (c (.int 1)))))
  (sq (app 2 (o2 dAdd (cut (v 0) (pso (o2 dAdd (v 3) (c (.int 1)))) pno) (cut (v 0) pno (pso (o2 dAdd (v 3) (c (.int 1)))))))
  (app 2 (o2 dAdd (o2 dAdd (cut (v 0) pno (pso (v 3))) (mls (Zaa (o2 dIx (v 0) (o2 dAdd (v 3) (c (.int 1)))) (Zaa (o2 dIx (v 0) (v 3)) anil)))) (cut (v 0) (pso (o2 dAdd (v 3) (c (.int 2)))) pno)))))
  nop)
  (frz 2 (ret (v 2)))))
def ZbU:List D→Res D:=fn 5
  (sq (st 1 (on Zaw (Zaa (v 0) (Zaa (c (.int 17)) anil))))
  (sq (stO 2 (mls anil))
  (sq (for_ (iv (cut (v 1) (pso (c (.int 1))) (pso (o2 dAdd (c (.int 2)) (o2 dIx (mls (Zaa (o2 dMod (o2 dDiv (o2 dIx (v 1) (c (.int 0))) (c (.int 8))) (c (.int 3))) (Zaa (o2 dMod (o2 dDiv (o2 dIx (v 1) (c (.int 0))) (c (.int 8))) (c (.int 16))) anil))) (on bInt (Zaa (o2 dEq (o2 dMod (o2 dIx (v 1) (c (.int 0))) (c (.int 8))) (c (.int 7))) anil))))))) (gN 3)
  (sq (st 4 (mtp (Zaa (o2 dAdd (c (.int 1)) (o2 dMod (v 3) (c (.int 7)))) (Zaa (o2 dAdd (c (.int 1)) (o2 dMod (o2 dDiv (v 3) (c (.int 7))) (c (.int 7)))) anil))))
  (sq (ifs (trb (o2 dEq (o2 dMod (o2 dDiv (v 3) (c (.int 64))) (c (.int 3))) (c (.int 0))))
  (st 4 (mtp (Zaa (c (.int 4)) (Zaa (c (.int 4)) anil))))
  nop)
  (ifs (pkB 2 (trb (o2 dNin (v 4) (v 2))))
  (app 2 (v 4))
  nop))))
  (frz 2 (ret (v 2))))))
def ZaI:List D→Res D:=fn 3
  (sq (st 2 (on Zao (Zaa (mls (Zaa (v 0) (Zaa (v 1) anil))) anil)))
  (sq (ifs (trb (o2 dLt (v 1) (c (.int 0))))
  (st 2 (o1 dNeg (v 2)))
  nop)
  (ret (mtp (Zaa (o2 dDiv (v 0) (v 2)) (Zaa (o2 dDiv (v 1) (v 2)) anil))))))
def Zbj:List D→Res D:=fn 9
  (sq (st 2 (o2 dIx (mls (Zaa (c (.int 1)) (Zaa (c (.int 2)) (Zaa (c (.int 4)) (Zaa (c (.int 16)) anil))))) (o2 dMod (v 0) (c (.int 4)))))
  (sq (st 3 (o2 dIx (mls (Zaa (c (.int 1)) (Zaa (c (.int 2)) (Zaa (c (.int 8)) (Zaa (c (.int 4)) anil))))) (o2 dMod (o2 dDiv (v 0) (c (.int 4))) (c (.int 4)))))
  (sq (stO 4 (mls anil))
  (sq (for_ (r1 (Zaa (v 2) anil)) (gN 5)
  (sq (stO 6 (mls anil))
  (sq (for_ (r1 (Zaa (v 3) anil)) (gN 7)
  (sq (st 8 (on Za9 (Zaa (v 1) (Zaa (o2 dAdd (o2 dMul (c (.int 20)) (v 5)) (v 7)) anil))))
  (app 6 (o2 dIx (mls (Zaa (mtp (Zaa (o2 dMod (v 8) (c (.int 7))) (Zaa (c (.int 1)) anil))) (Zaa (on ZaI (Zaa (o2 dSub (v 8) (o2 dPow (c (.int 10)) (c (.int 9)))) (Zaa (o2 dAdd (c (.int 1)) (o2 dMod (o2 dDiv (v 8) (c (.int 9))) (c (.int 99)))) anil))) anil))) (o2 dMod (o2 dDiv (v 0) (c (.int 16))) (c (.int 2)))))))
  (frz 6 (app 4 (v 6))))))
  (frz 4 (ret (v 4)))))))
def ZbY:List D→Res D:=fn 10
  (sq (asg (gU 4 (gs1 (gN 2) (gs1 (gN 3) (gs1 (gN 4) (gs1 (gN 5) gs0))))) (v 0))
  (sq (st 6 (mls (Zaa (mtp (Zaa (o2 dSub (o2 dMod (o2 dDiv (v 2) (c (.int 8))) (c (.int 9))) (c (.int 2))) (Zaa (c (.int 1)) anil))) (Zaa (on ZaI (Zaa (o2 dAdd (o2 dMul (c (.int 2)) (o2 dMod (o2 dDiv (v 2) (c (.int 8))) (c (.int 9)))) (c (.int 1))) (Zaa (c (.int 2)) anil))) (Zaa (on ZaI (Zaa (o2 dSub (v 3) (o2 dPow (c (.int 10)) (c (.int 9)))) (Zaa (o2 dAdd (c (.int 1)) (v 4)) anil))) anil)))))
  (sq (st 6 (o2 dIx (v 6) (o2 dMod (o2 dDiv (v 2) (c (.int 128))) (c (.int 3)))))
  (sq (st 7 (o2 dMod (v 2) (c (.int 5))))
  (sq (ifs (trb (o2 dEq (v 7) (c (.int 0))))
  (sq (st 8 (o2 dAdd (c (.int 1)) (o2 dMod (o2 dDiv (v 2) (c (.int 8))) (c (.int 3)))))
  (ret (make "Shaded" Zcv (Zaa (on bTup (Zaa (comp (iv (v 1)) 1 [8] (gN 0) yes (o2 dAdd (cut (v 0) pno (pso (c (.int 4)))) (mtp (Zaa (cut (o2 dIx (v 0) (c (.int 4))) pno (pso (v 1))) anil)))) anil)) anil))))
  nop)
  (sq (ifs (trb (o2 dEq (v 7) (c (.int 1))))
  (ret (make "Patterned" Za6 (Zaa (v 1) (Zaa (on Zbj (Zaa (o2 dDiv (v 2) (c (.int 512))) (Zaa (v 5) anil))) anil))))
  nop)
  (sq (ifs (trb (o2 dEq (v 7) (c (.int 2))))
  (ret (make "Plain" ZdK (Zaa (v 1) (Zaa (v 6) anil))))
  nop)
  (sq (st 9 (o2 dIx (mls (Zaa (mtp (Zaa (c (.int 0)) (Zaa (c (.int 1)) anil))) (Zaa (mtp (Zaa (c (.int 1)) (Zaa (c (.int 2)) anil))) (Zaa (mtp (Zaa (c (.int 1)) (Zaa (c (.int 3)) anil))) (Zaa (mtp (Zaa (c (.int 2)) (Zaa (c (.int 3)) anil))) (Zaa (mtp (Zaa (c (.int 1)) (Zaa (c (.int 1)) anil))) (Zaa (on ZaI (Zaa (o2 dMod (v 5) (o2 dAdd (c (.int 1)) (v 3))) (Zaa (o2 dAdd (c (.int 1)) (v 3)) anil))) anil))))))) (o2 dMod (o2 dDiv (v 2) (c (.int 512))) (c (.int 6)))))
  (ret (make "Glass" Zdp (Zaa (v 1) (Zaa (v 6) (Zaa (v 9) anil)))))))))))))
def Zba:List D→Res D:=fn 11
  (sq (asg (gU 2 (gs1 (gN 2) (gs1 (gN 3) gs0))) (cut (v 0) pno (pso (c (.int 2)))))
  (sq (st 4 (o2 dIx (mls (Zaa (c (.int 2)) (Zaa (c (.int 8)) (Zaa (c (.int 1)) (Zaa (c (.int 2)) anil))))) (o2 dMod (o2 dDiv (v 2) (c (.int 4))) (c (.int 4)))))
  (sq (st 5 (o2 dAdd (c (.int 1)) (o2 dMod (o2 dDiv (v 2) (c (.int 16))) (c (.int 3)))))
  (sq (st 6 (o2 dMul (v 5) (o2 dSub (o2 dMod (o2 dDiv (v 2) (c (.int 64))) (o2 dAdd (o2 dMul (v 4) (c (.int 8))) (c (.int 1)))) (v 4))))
  (sq (st 7 (o2 dMul (v 5) (o2 dSub (o2 dMod (v 3) (o2 dAdd (o2 dMul (v 4) (c (.int 8))) (c (.int 1)))) (v 4))))
  (sq (st 8 (o2 dMul (v 4) (v 5)))
  (sq (st 9 (o2 dIx (mls (Zaa (c (.int 1)) (Zaa (v 8) (Zaa (o2 dAdd (c (.int 1)) (o2 dMod (o2 dDiv (v 3) (c (.int 512))) (c (.int 9)))) (Zaa (v 8) anil))))) (o2 dMod (o2 dDiv (v 3) (c (.int 32))) (c (.int 4)))))
  (sq (st 10 (on bTup (Zaa (comp (r1 (Zaa (v 1) anil)) 1 [0] (gN 0) yes (o2 dSub (o2 dMod (o2 dIx (v 1) (o2 dAdd (c (.int 6)) (v 0))) (c (.int 41))) (c (.int 10)))) anil)))
  (sq (ifs (trb (o2 dEq (o2 dMod (v 2) (c (.int 4))) (c (.int 3))))
  (sq (st 6 (o2 dSub (o2 dMod (o2 dIx (v 0) (c (.int 2))) (c (.int 2000001))) (o2 dPow (c (.int 10)) (c (.int 6)))))
  (sq (st 7 (o2 dSub (o2 dMod (o2 dIx (v 0) (c (.int 3))) (c (.int 2000001))) (o2 dPow (c (.int 10)) (c (.int 6)))))
  (sq (st 8 (o2 dAdd (c (.int 1)) (o2 dMod (o2 dIx (v 0) (c (.int 4))) (o2 dPow (c (.int 10)) (c (.int 6))))))
  (sq (st 9 (o2 dAdd (c (.int 1)) (o2 dMod (o2 dIx (v 0) (c (.int 5))) (o2 dPow (c (.int 10)) (c (.int 6))))))
  (st 10 (on bTup (Zaa (comp (r1 (Zaa (v 1) anil)) 1 [0] (gN 0) yes (o2 dSub (o2 dMod (o2 dIx (v 1) (o2 dAdd (c (.int 6)) (v 0))) (c (.int 2000001))) (o2 dPow (c (.int 10)) (c (.int 6))))) anil)))))))
  nop)
  (sq (ifs (trb (o2 dEq (o2 dMod (v 2) (c (.int 4))) (c (.int 2))))
  (sq (st 8 (o2 dAdd (c (.int 1)) (o2 dMod (o2 dDiv (v 3) (c (.int 4096))) (c (.int 300)))))
  (st 6 (o2 dSub (o2 dMod (o2 dIx (v 0) (c (.int 2))) (c (.int 2001))) (c (.int 1000)))))
  nop)
  (ret (mtp (Zaa (v 6) (Zaa (v 7) (Zaa (v 8) (Zaa (v 9) (Zaa (v 10) anil)))))))))))))))))
def ZaY:List D→Res D:=fn 12
  (sq (st 4 (o2 dAdd (c (.int 6)) (v 3)))
  (sq (st 5 (comp (r1 (Zaa (c (.int 6)) anil)) 1 [4,0,1] (gN 0) yes (on Zaw (Zaa (on Zaq (Zaa (v 2) (Zaa (o2 dAdd (v 3) (v 0)) anil))) (Zaa (o2 dMul (c (.int 3)) (v 1)) anil)))))
  (sq (st 6 (comp (iv (v 5)) 1 [4,3] (gN 0) yes (on Zba (Zaa (cut (v 0) pno (pso (v 1))) (Zaa (v 2) anil)))))
  (sq (st 7 (on Zaw (Zaa (on Zaq (Zaa (v 0) (Zaa (o2 dAdd (v 1) (c (.int 6))) anil))) (Zaa (o2 dAdd (v 2) (c (.int 1))) anil))))
  (sq (stO 8 (mls anil))
  (sq (for_ (r1 (Zaa (o2 dMod (o2 dIx (v 7) (c (.int 0))) (o2 dAdd (v 2) (c (.int 1)))) anil)) (gN 9)
  (sq (st 10 (o2 dIx (v 7) (o2 dAdd (c (.int 1)) (v 9))))
  (sq (st 11 (mls (Zaa (o2 dIx (v 6) (o2 dMod (v 10) (c (.int 6)))) (Zaa (o2 dIx (v 6) (o2 dMod (o2 dDiv (v 10) (c (.int 6))) (c (.int 6)))) (Zaa (o2 dIx (v 6) (o2 dMod (o2 dDiv (v 10) (c (.int 36))) (c (.int 6)))) anil)))))
  (sq (ifs (trb (o2 dEq (o2 dMod (o2 dDiv (v 10) (c (.int 216))) (c (.int 4))) (c (.int 1))))
  (st 11 (comp (r1 (Zaa (c (.int 3)) anil)) 1 [4,5,3,9] (gN 0) yes (on Zba (Zaa (cut (o2 dIx (v 2) (v 4)) (pso (o2 dMul (v 1) (v 0))) (pso (o2 dAdd (o2 dMul (v 1) (v 0)) (v 1)))) (Zaa (v 3) anil)))))
  nop)
  (app 8 (mtp (Zaa (o2 dIx (v 11) (c (.int 0))) (Zaa (o2 dIx (v 11) (c (.int 1))) (Zaa (o2 dIx (v 11) (c (.int 2))) anil)))))))))
  (frz 8 (ret (v 8)))))))))
def Zbu:List D→Res D:=fn 8
  (sq (st 3 (on Zaw (Zaa (on Zaq (Zaa (v 0) (Zaa (o2 dAdd (v 1) (c (.int 7))) anil))) (Zaa (o2 dMul (c (.int 4)) (v 2)) anil))))
  (sq (stO 4 (mls anil))
  (sq (st 5 (o2 dAdd (c (.int 2)) (o2 dMod (o2 dDiv (on Zaq (Zaa (v 0) (Zaa (o2 dAdd (v 1) (c (.int 7))) anil))) (c (.int 2))) (c (.int 2)))))
  (sq (for_ (Ze5 (Zaa (on ZaY (Zaa (v 0) (Zaa (v 1) (Zaa (v 2) (Zaa (v 5) anil))))) anil)) (gU 2 (gs1 (gN 6) (gs1 (gN 7) gs0)))
  (app 4 (on ZbY (Zaa (cut (v 3) (pso (o2 dMul (c (.int 4)) (v 6))) (pso (o2 dAdd (o2 dMul (c (.int 4)) (v 6)) (c (.int 4))))) (Zaa (v 7) anil)))))
  (frz 4 (ret (v 4)))))))
def ZaJ:List D→Res D:=fn 3
  (ret (eAnd (on Zaz (Zaa (v 0) anil)) (eAnd (o2 dGe (v 0) (v 1)) (o2 dLe (v 0) (v 2)))))
def ZaW:List D→Res D:=fn 2
  (ifs (bOr (bNot (trb (on ZaJ (Zaa (v 0) (Zaa (c (.int 1)) (Zaa (c (.int 64)) anil)))))) (bNot (trb (on ZaJ (Zaa (v 1) (Zaa (c (.int 1)) (Zaa (c (.int 64)) anil)))))))
  (rse "BadFloor" (Zaa (c (.str "a floor has 1 to 64 cells in a row, and 1 to 64 rows")) anil))
  nop)
def ZaM:List D→Res D:=fn 2
  (sq (st 1 (comp (iv (v 0)) 1 [] (gN 0) yes (o2 dIx (v 0) (c (.int 1)))))
  (ret (o2 dNe (o1 Zgg (v 1)) (on bLen (Zaa (v 1) anil)))))
def Zah:List D→Res D:=fn 2
  (ret (o2 dAdd (o2 dAdd (o2 dMul (o2 dIx (v 0) (c (.int 0))) (o2 dIx (v 1) (c (.int 0)))) (o2 dMul (o2 dIx (v 0) (c (.int 1))) (o2 dIx (v 1) (c (.int 1))))) (o2 dMul (o2 dIx (v 0) (c (.int 2))) (o2 dIx (v 1) (c (.int 2))))))
def Zcj:List D→Res D:=fn 2
  (ret (on Zah (Zaa (comp (iv (v 0)) 1 [] (gN 0) yes (o2 dIx (v 0) (c (.int 3)))) (Zaa (v 1) anil))))
def ZaL:List D→Res D:=fn 5
  (sq (st 2 (on Zcj (Zaa (v 0) (Zaa (v 1) anil))))
  (sq (st 3 (on ZaI (Zaa (on Zah (Zaa (comp (iv (v 0)) 1 [] (gN 0) yes (o2 dIx (v 0) (c (.int 2)))) (Zaa (v 1) anil))) (Zaa (v 2) anil))))
  (sq (st 4 (on lz3 (Zaa (o2 dIx (o2 dIx (v 0) (c (.int 0))) (c (.int 4))) (Zaa (o2 dIx (o2 dIx (v 0) (c (.int 1))) (c (.int 4))) (Zaa (o2 dIx (o2 dIx (v 0) (c (.int 2))) (c (.int 4))) anil)))))
  (ret (mtp (Zaa (v 3) (Zaa (on bTup (Zaa (comp (iv (v 4)) 1 [2,1] (gN 0) yes (on ZaI (Zaa (on Zah (Zaa (v 0) (Zaa (v 2) anil))) (Zaa (v 1) anil)))) anil)) anil)))))))
def ZaN:List D→Res D:=fn 2
  (ret (mtp (Zaa (o2 dSub (o2 dMul (o2 dIx (v 0) (c (.int 1))) (o2 dIx (v 1) (c (.int 2)))) (o2 dMul (o2 dIx (v 0) (c (.int 2))) (o2 dIx (v 1) (c (.int 1))))) (Zaa (o2 dSub (o2 dMul (o2 dIx (v 0) (c (.int 2))) (o2 dIx (v 1) (c (.int 0)))) (o2 dMul (o2 dIx (v 0) (c (.int 0))) (o2 dIx (v 1) (c (.int 2))))) (Zaa (o2 dSub (o2 dMul (o2 dIx (v 0) (c (.int 0))) (o2 dIx (v 1) (c (.int 1)))) (o2 dMul (o2 dIx (v 0) (c (.int 1))) (o2 dIx (v 1) (c (.int 0))))) anil)))))
def Zf0:List D→Res D:=fn 5
  (sq (st 3 (on ZaN (Zaa (v 0) (Zaa (v 1) anil))))
  (sq (for_ (iv (mtp (Zaa (on Zah (Zaa (v 3) (Zaa (v 2) anil))) (Zaa (o2 dIx (v 3) (c (.int 0))) (Zaa (o2 dIx (v 3) (c (.int 1))) anil))))) (gN 4)
  (ifs (trb (o2 dNe (v 4) (c (.int 0))))
  (ret (ife (trb (o2 dGt (v 4) (c (.int 0)))) (c (.int 1)) (o1 dNeg (c (.int 1)))))
  nop))
  (ret (c (.int 0)))))
def ZmT:List D→Res D:=fn 3
  (sq (drp (on Zan (Zaa (v 0) anil)))
  (sq (st 2 (on Zf0 (Zaa (o2 dIx (v 0) (c (.int 0))) (Zaa (o2 dIx (v 0) (c (.int 1))) (Zaa (v 1) anil)))))
  (sq (ifs (bOr (trb (o2 dNe (on Zf0 (Zaa (o2 dIx (v 0) (c (.int 1))) (Zaa (o2 dIx (v 0) (c (.int 2))) (Zaa (v 1) anil)))) (v 2))) (trb (o2 dNe (on Zf0 (Zaa (o2 dIx (v 0) (c (.int 2))) (Zaa (o2 dIx (v 0) (c (.int 0))) (Zaa (v 1) anil)))) (v 2))))
  (ret (c (.int 0)))
  nop)
  (ret (v 2)))))
def ZbH:List D→Res D:=fn 3
  (ret (on Zah (Zaa (on ZaN (Zaa (v 0) (Zaa (v 1) anil))) (Zaa (v 2) anil))))
def ZdD:List D→Res D:=fn 2
  (ret (mtp (Zaa (on ZbH (Zaa (o2 dIx (v 0) (c (.int 1))) (Zaa (o2 dIx (v 0) (c (.int 2))) (Zaa (v 1) anil)))) (Zaa (on ZbH (Zaa (o2 dIx (v 0) (c (.int 2))) (Zaa (o2 dIx (v 0) (c (.int 0))) (Zaa (v 1) anil)))) (Zaa (on ZbH (Zaa (o2 dIx (v 0) (c (.int 0))) (Zaa (o2 dIx (v 0) (c (.int 1))) (Zaa (v 1) anil)))) anil)))))
def Zal:List D→Res D:=fn 2
  (sq (ifs (trb (o2 dEq (on ZmT (Zaa (v 0) (Zaa (v 1) anil))) (c (.int 0))))
  (ret (c .non))
  nop)
  (ret (on ZaL (Zaa (v 0) (Zaa (on ZdD (Zaa (v 0) (Zaa (v 1) anil))) anil)))))
def ZbM:List D→Res D:=fn 5
  (sq (stO 2 (mls anil))
  (sq (for_ (iv (v 0)) (gN 3)
  (sq (st 4 (on Zal (Zaa (o1 (dFld objs "triangle") (v 3)) (Zaa (v 1) anil))))
  (ifs (trb (o1 Zk3 (v 4)))
  (app 2 (mtp (Zaa (v 3) (Zaa (o2 dIx (v 4) (c (.int 0))) (Zaa (o2 dIx (v 4) (c (.int 1))) anil)))))
  nop)))
  (frz 2 (ret (v 2)))))
def ZeD:List D→Res D:=fn 3
  (ret (mtp (Zaa (o2 dAdd (o2 dMul (c (.int 8)) (v 0)) (o2 dIx (v 2) (c (.int 0)))) (Zaa (o2 dAdd (o2 dMul (c (.int 8)) (v 1)) (o2 dIx (v 2) (c (.int 1)))) (Zaa (c (.int 8)) anil)))))
def Zbm:List D→Res D:=fn 4
  (ret (Zi0 (iv (v 3)) 1 [0,2,1] (gN 0) yes (on ZbM (Zaa (v 1) (Zaa (on ZeD (Zaa (v 3) (Zaa (v 2) (Zaa (v 0) anil)))) anil)))))
def ZdI:List D→Res D:=fn 1
  (sq (ifs (bOr (bNot (trb (on bIsi (Zaa (v 0) (Zaa (c (.ty "tuple")) anil))))) (trb (o2 dNe (on bLen (Zaa (v 0) anil)) (c (.int 2)))))
  (ret (c (.bl false)))
  nop)
  (ret (eAnd (on ZaJ (Zaa (o2 dIx (v 0) (c (.int 0))) (Zaa (c (.int 1)) (Zaa (c (.int 7)) anil)))) (on ZaJ (Zaa (o2 dIx (v 0) (c (.int 1))) (Zaa (c (.int 1)) (Zaa (c (.int 7)) anil)))))))
def Zbq:List D→Res D:=fn 1
  (sq (ifs (bOr (bNot (trb (on bIsi (Zaa (v 0) (Zaa (c (.ty "list")) anil))))) (bOr (trb (o2 dLt (on bLen (Zaa (v 0) anil)) (c (.int 1)))) (trb (o2 dGt (on bLen (Zaa (v 0) anil)) (c (.int 16))))))
  (rse "BadFloor" (Zaa (c (.str "spots are a list of 1 to 16 tuples")) anil))
  nop)
  (sq (ifs (bNot (trb (on bAll (Zaa (comp (iv (v 0)) 1 [] (gN 0) yes (on ZdI (Zaa (v 0) anil))) anil))))
  (rse "BadFloor" (Zaa (c (.str "a spot is a tuple of two whole numbers from 1 to 7")) anil))
  nop)
  (ifs (trb (o2 dNe (o1 Zgg (v 0)) (on bLen (Zaa (v 0) anil))))
  (rse "BadFloor" (Zaa (c (.str "the spots of a list are all unlike")) anil))
  nop)))
def Zar:List D→Res D:=fn 1
  (sq (ifs (trb (o1 dIsN (v 0)))
  (ret (mls (Zaa (mtp (Zaa (c (.int 4)) (Zaa (c (.int 4)) anil))) anil)))
  nop)
  (sq (drp (on Zbq (Zaa (v 0) anil)))
  (ret (v 0))))
def ZbS:List D→Res D:=fn 8
  (sq (drp (on ZaW (Zaa (v 1) (Zaa (v 2) anil))))
  (sq (st 4 (on Zar (Zaa (v 3) anil)))
  (sq (stO 5 (mls anil))
  (sq (for_ (r1 (Zaa (v 2) anil)) (gN 6)
  (for_ (r1 (Zaa (v 1) anil)) (gN 7)
  (ifs (trb (on bAny (Zaa (comp (iv (on Zbm (Zaa (v 0) (Zaa (v 7) (Zaa (v 6) (Zaa (v 4) anil)))))) 1 [] (gN 0) yes (on ZaM (Zaa (v 0) anil))) anil)))
  (app 5 (mtp (Zaa (v 7) (Zaa (v 6) anil))))
  nop)))
  (frz 5 (ret (v 5)))))))
def ZaZ:List D→Res D:=fn 1
  (ret (ife (trb (o1 dIsN (v 0))) (mtp (Zaa (c (.int 0)) (Zaa (c (.int 1)) anil))) (v 0)))
def Zcq:List D→Res D:=fn 2
  (ret (o1 (dFld objs "colour") (v 0)))
def Zhb:List D→Res D:=fn 1
  (ret (o2 dDiv (o2 dIx (v 0) (c (.int 0))) (o2 dIx (v 0) (c (.int 1)))))
def ZcR:List D→Res D:=fn 4
  (sq (st 3 (o2 dIx (v 0) (o2 dMod (on Zhb (Zaa (v 2) anil)) (on bLen (Zaa (v 0) anil)))))
  (ret (o2 dIx (v 3) (o2 dMod (on Zhb (Zaa (v 1) anil)) (on bLen (Zaa (v 3) anil))))))
def Zat:List D→Res D:=fn 2
  (ret (on ZcR (Zaa (o1 (dFld objs "pattern") (v 0)) (Zaa (o2 dIx (v 1) (c (.int 0))) (Zaa (o2 dIx (v 1) (c (.int 1))) anil)))))
def Zbt:List D→Res D:=fn 2
  (ret (o1 (dFld objs "colour") (v 0)))
def Zbl:List D→Res D:=fn 2
  (ret (o2 dIx (v 1) (c (.int 0))))
def Zbd:List (Str×(List D→Res D)):=[("Plain", Zbt),("Shaded", Zbl),("Patterned", Zat),("Glass", Zcq)]
def Ze2:List D→Res D:=fn 2
  (ret (on ZaI (Zaa (o2 dSub (o2 dMul (o2 dIx (v 0) (c (.int 0))) (o2 dIx (v 1) (c (.int 1)))) (o2 dMul (o2 dIx (v 1) (c (.int 0))) (o2 dIx (v 0) (c (.int 1))))) (Zaa (o2 dMul (o2 dIx (v 0) (c (.int 1))) (o2 dIx (v 1) (c (.int 1)))) anil))))
def ZeU:List D→Res D:=fn 2
  (ret (on ZaI (Zaa (o2 dAdd (o2 dMul (o2 dIx (v 0) (c (.int 0))) (o2 dIx (v 1) (c (.int 1)))) (o2 dMul (o2 dIx (v 1) (c (.int 0))) (o2 dIx (v 0) (c (.int 1))))) (Zaa (o2 dMul (o2 dIx (v 0) (c (.int 1))) (o2 dIx (v 1) (c (.int 1)))) anil))))
def ZcS:List D→Res D:=fn 2
  (ret (on ZaI (Zaa (o2 dMul (o2 dIx (v 0) (c (.int 0))) (o2 dIx (v 1) (c (.int 0)))) (Zaa (o2 dMul (o2 dIx (v 0) (c (.int 1))) (o2 dIx (v 1) (c (.int 1)))) anil))))
def ZbJ:List D→Res D:=fn 3
  (sq (st 2 (on Ze2 (Zaa (mtp (Zaa (c (.int 1)) (Zaa (c (.int 1)) anil))) (Zaa (o1 (dFld objs "part") (v 0)) anil))))
  (ret (on ZeU (Zaa (on ZcS (Zaa (o1 (dFld objs "part") (v 0)) (Zaa (o1 (dFld objs "colour") (v 0)) anil))) (Zaa (on ZcS (Zaa (v 2) (Zaa (v 1) anil))) anil)))))
def ZbQ:List D→Res D:=fn 1
  (ret (c (.bl true)))
def Zax:List D→Res D:=fn 1
  (ret (c (.bl false)))
def Za7:List (Str×(List D→Res D)):=[("Plain", Zax),("Shaded", Zax),("Patterned", Zax),("Glass", ZbQ)]
def Zc2:List D→Res D:=fn 2
  (ret (o2 dLt (o2 dMul (o2 dIx (v 0) (c (.int 0))) (o2 dIx (v 1) (c (.int 1)))) (o2 dMul (o2 dIx (v 1) (c (.int 0))) (o2 dIx (v 0) (c (.int 1))))))
def Zbe:List D→Res D:=fn 5
  (sq (stO 2 (mls anil))
  (sq (for_ (iv (v 1)) (gN 3)
  (ifs (bAnd (trb (meth Za7 "is_glass" (o2 dIx (v 3) (c (.int 0))) anil)) (bOr (trb (o1 dIsN (v 0))) (trb (on Zc2 (Zaa (o2 dIx (v 3) (c (.int 1))) (Zaa (o2 dIx (v 0) (c (.int 1))) anil))))))
  (sq (st 4 (pk 2 (on bLen (Zaa (comp (iv (v 2)) 1 [3] (gN 0) (trb (on Zc2 (Zaa (o2 dIx (v 1) (c (.int 1))) (Zaa (o2 dIx (v 0) (c (.int 1))) anil)))) (v 0)) anil))))
  (insO 2 (v 4) (v 3)))
  nop))
  (frz 2 (ret (v 2)))))
def ZbV:List D→Res D:=fn 3
  (sq (st 1 (c .non))
  (sq (for_ (iv (v 0)) (gN 2)
  (sq (ifs (trb (meth Za7 "is_glass" (o2 dIx (v 2) (c (.int 0))) anil))
  cnt
  nop)
  (ifs (bOr (trb (o1 dIsN (v 1))) (trb (on Zc2 (Zaa (o2 dIx (v 2) (c (.int 1))) (Zaa (o2 dIx (v 1) (c (.int 1))) anil)))))
  (st 1 (v 2))
  nop)))
  (ret (v 1))))
def ZbG:List D→Res D:=fn 5
  (sq (st 2 (on ZbV (Zaa (v 0) anil)))
  (sq (st 3 (v 1))
  (sq (ifs (trb (o1 Zk3 (v 2)))
  (st 3 (meth Zbd "colour_at" (o2 dIx (v 2) (c (.int 0))) (Zaa (o2 dIx (v 2) (c (.int 2))) anil)))
  nop)
  (sq (for_ (iv (on Zbe (Zaa (v 2) (Zaa (v 0) anil)))) (gN 4)
  (st 3 (on ZbJ (Zaa (o2 dIx (v 4) (c (.int 0))) (Zaa (v 3) anil)))))
  (ret (v 3))))))
def Zdw:List D→Res D:=fn 3
  (sq (st 1 (mtp (Zaa (c (.int 0)) (Zaa (c (.int 1)) anil))))
  (sq (for_ (iv (v 0)) (gN 2)
  (st 1 (on ZeU (Zaa (v 1) (Zaa (v 2) anil)))))
  (ret (on ZaI (Zaa (o2 dIx (v 1) (c (.int 0))) (Zaa (o2 dMul (o2 dIx (v 1) (c (.int 1))) (on bLen (Zaa (v 0) anil))) anil))))))
def Zby:List D→Res D:=fn 2
  (ret (on Zdw (Zaa (comp (iv (v 0)) 1 [1] (gN 0) yes (on ZbG (Zaa (v 0) (Zaa (v 1) anil)))) anil)))
def Zb8:List D→Res D:=fn 5
  (ret (Zi0 (r1 (Zaa (v 1) anil)) 1 [0,3,2,4] (gN 0) yes (on Zby (Zaa (on Zbm (Zaa (v 1) (Zaa (v 0) (Zaa (v 3) (Zaa (v 2) anil))))) (Zaa (v 4) anil)))))
def Zcf:List D→Res D:=fn 7
  (sq (drp (on ZaW (Zaa (v 1) (Zaa (v 2) anil))))
  (sq (st 5 (on Zar (Zaa (v 3) anil)))
  (sq (st 6 (on ZaZ (Zaa (v 4) anil)))
  (ret (Zi0 (r1 (Zaa (v 2) anil)) 1 [1,0,5,6] (gN 0) yes (on Zb8 (Zaa (v 2) (Zaa (v 1) (Zaa (v 0) (Zaa (v 3) (Zaa (v 4) anil)))))))))))
def Zpv:List D→Res D:=fn 17
  (sq (st 1 (on Zbu (Zaa (v 0) (Zaa (c (.int 0)) (Zaa (c (.int 4)) anil)))))
  (sq (asg (gU 2 (gs1 (gN 2) (gs1 (gN 3) gs0))) (on Zaw (Zaa (on Zaq (Zaa (v 0) (Zaa (c (.int 8)) anil))) (Zaa (c (.int 2)) anil))))
  (sq (st 4 (o2 dAdd (c (.int 1)) (o2 dMod (v 2) (c (.int 4)))))
  (sq (st 5 (o2 dAdd (c (.int 1)) (o2 dMod (o2 dDiv (v 2) (c (.int 8))) (c (.int 3)))))
  (sq (st 6 (cut (on ZbU (Zaa (on Zaq (Zaa (v 0) (Zaa (c (.int 9)) anil))) anil)) pno (pso (c (.int 2)))))
  (sq (st 7 (on Zcf (Zaa (v 1) (Zaa (v 4) (Zaa (v 5) (Zaa (v 6) (Zaa (mtp (Zaa (c (.int 1)) (Zaa (c (.int 2)) anil))) anil)))))))
  (sq (st 8 (on ZbS (Zaa (v 1) (Zaa (v 4) (Zaa (v 5) (Zaa (v 6) anil))))))
  (sq (for_ (iv (on Zbp (Zaa (v 1) (Zaa (o2 dDiv (v 2) (c (.int 64))) anil)))) (gN 9)
  (sq (st 10 (on Zcf (Zaa (v 9) (Zaa (v 4) (Zaa (v 5) (Zaa (v 6) (Zaa (mtp (Zaa (c (.int 1)) (Zaa (c (.int 2)) anil))) anil)))))))
  (sq (for_ (r1 (Zaa (v 5) anil)) (gN 11)
  (for_ (r1 (Zaa (v 4) anil)) (gN 12)
  (ifs (bAnd (trb (o2 dNin (mtp (Zaa (v 12) (Zaa (v 11) anil))) (v 8))) (trb (o2 dNe (o2 dIx (o2 dIx (v 10) (v 11)) (v 12)) (o2 dIx (o2 dIx (v 7) (v 11)) (v 12)))))
  (ret (c (.bl false)))
  nop)))
  (ifs (trb (o2 dNe (on ZbS (Zaa (v 9) (Zaa (v 4) (Zaa (v 5) (Zaa (v 6) anil))))) (v 8)))
  (ret (c (.bl false)))
  nop))))
  (sq (st 13 (o2 dMod (v 3) (c (.int 3))))
  (sq (st 14 (o2 dMod (o2 dDiv (v 3) (c (.int 4))) (c (.int 3))))
  (sq (st 9 (comp (iv (v 1)) 1 [14,13] (gN 0) (trb (on ZaG (Zaa (on ZaK (Zaa (o1 (dFld objs "triangle") (v 0)) (Zaa (v 2) (Zaa (v 1) anil)))) anil))) (v 0)))
  (sq (st 15 (comp (iv (v 9)) 1 [14,13] (gN 0) yes (on Za8 (Zaa (v 0) (Zaa (on ZaK (Zaa (o1 (dFld objs "triangle") (v 0)) (Zaa (v 2) (Zaa (v 1) anil)))) anil)))))
  (sq (st 10 (on Zcf (Zaa (v 15) (Zaa (o2 dAdd (v 4) (v 13)) (Zaa (o2 dAdd (v 5) (v 14)) (Zaa (v 6) (Zaa (mtp (Zaa (c (.int 1)) (Zaa (c (.int 2)) anil))) anil)))))))
  (sq (ifs (trb (o2 dNe (comp (iv (cut (v 10) (pso (v 14)) pno)) 1 [13] (gN 0) yes (cut (v 0) (pso (v 1)) pno)) (on Zcf (Zaa (v 9) (Zaa (v 4) (Zaa (v 5) (Zaa (v 6) (Zaa (mtp (Zaa (c (.int 1)) (Zaa (c (.int 2)) anil))) anil))))))))
  (ret (c (.bl false)))
  nop)
  (sq (st 16 (on Zcf (Zaa (v 1) (Zaa (o2 dAdd (c (.int 1)) (o2 dMod (o2 dDiv (v 3) (c (.int 16))) (v 4))) (Zaa (o2 dAdd (c (.int 1)) (o2 dMod (o2 dDiv (v 3) (c (.int 128))) (v 5))) (Zaa (v 6) (Zaa (mtp (Zaa (c (.int 1)) (Zaa (c (.int 2)) anil))) anil)))))))
  (ret (o2 dEq (v 16) (comp (iv (cut (v 7) pno (pso (on bLen (Zaa (v 16) anil))))) 1 [16] (gN 0) yes (cut (v 0) pno (pso (on bLen (Zaa (o2 dIx (v 1) (c (.int 0))) anil))))))))))))))))))))))
theorem ZmP{Φ:D→Prop}{cc k:Int}(hk:0≤k∧k≤1000)(h:∀r:Int,0≤r∧r<2147483648→Φ (.int r)):Tl (Za9 [.int cc,.int k]) Φ:=by
 unfold Za9
 walk_at "w"
 refine ZcP (fun _=>?_) (fun _=>?_)
 ·walk_at "w"
  refine ZcP (fun _=>?_) (fun _=>?_)
  ·walk_at "w"
   refine ZcP (fun _=>?_) (fun _=>?_)
   ·walk_at "w"
    exact h _ (by omega)
   ·walk_at "w"
    exact h _ (by omega)
  ·walk_at "w"
   exact h _ (by omega)
 ·walk_at "w"
  exact h _ (by omega)
def cor(x y w h:Int)(vs:List Int):D:=.tup [.int x,.int y,.int w,.int h,.tup (vs.map .int)]
def Bd(x:Int):Prop:=-1000000≤x∧x≤1000000
theorem Zpp{ys:List D}{n:Nat}(hl:ys.length=n)(h:∀y∈ys,∃v:Int,y=.int v∧Bd v):∃vs:List Int,ys=vs.map .int∧vs.length=n∧∀v∈vs,Bd v:=by
 induction ys generalizing n with
 | nil=>exact ⟨[],rfl,hl,fun _ h=>(VbQ h).elim⟩
 | cons y r ih =>
  obtain ⟨v,rfl,hv⟩:=h y Van
  obtain ⟨vs,rfl,l,hb⟩:=ih (n:=r.length) rfl fun z hz=>h z (Vao _ hz)
  refine ⟨v::vs,rfl,by simpa using hl,fun u hu=>?_⟩
  rcases Vaq.mp hu with rfl | hu
  ·exact hv
  ·exact hb u hu
theorem Zox{Φ:List D→Prop}{g:MG}{e:ME}{ρ:Ev}{n:Nat}(h:∀k:Nat,k<n→Tl (g (.int k) ρ) fun ρ1=>Tl (e ρ1) fun y=>∃v:Int,y=.int v∧Bd v)(q:∀vs:List Int,vs.length=n→(∀v∈vs,Bd v)→Φ (vs.map .int)):Tl (Zak g yes e ρ (ZbE 0 n)) Φ:=by
 have hl:(ZbE 0 n).length=n:=by unfold ZbE;simp
 refine w_all (fun _ y=>∃v:Int,y=.int v∧Bd v) (fun x hx=>?_) fun ys l hp=>?_
 ·obtain ⟨k,hk,rfl⟩:=mem_range hx
  exact h k hk
 ·obtain ⟨vs,rfl,l2,hb⟩:=Zpp (n:=n) (l.trans hl) fun y hy=>by
   obtain ⟨i,hi,rfl⟩:=Vb4.mp hy
   exact hp i _ _ (VbH (by omega)) (VbH hi)
  exact q vs l2 hb
theorem ZcN{Φ:D→Prop}{ns:List Int}{k:Int}(hk:0≤k)(h:∀n:Int,Φ (.int n)):Tl (Zaq [.lst (ns.map .int),.int k]) Φ:=by
 unfold Zaq
 walk_at "w"
 refine ZcP (fun hl=>?_) (fun _=>?_)
 ·walk_at "w"
  refine ZmQ (by omega) fun n _=>?_
  walk_at "w"
  exact h n
 ·walk_at "w"
  exact h 0
end My
namespace Mt
end Mt
namespace My
open PySem Dl
theorem ZeB{Φ:D→Prop}{ns:List Int}(h:Φ (.int (Mt.gcdL 0 ns))):Tl (Zao [.lst (ns.map .int)]) Φ:=by
 unfold Zao
 walk_at "w"
 refine ZmV (fun p ρ=>∃(p':List Int) (v2 v3 v4:Cl),p=p'.map .int∧ρ=[.im (.lst (ns.map .int)),.im (.int (Mt.gcdL 0 p')),v2,v3,v4]) ⟨[],_,_,_,rfl,rfl⟩ ?_ ?_
 ·rintro p x r hx ρ ⟨p',v2,v3,v4,rfl,rfl⟩
  obtain ⟨n,rfl⟩ : ∃n:Int,x=.int n:=by
   have:x∈ns.map .int:=by rw [hx];simp
   obtain ⟨n,_,rfl⟩:=Vbs.mp this
   exact ⟨n,rfl⟩
  walk_at "w"
  refine w_wh (fun ρ=>∃(f m:Nat) (v4:Cl),ρ=[.im (.lst (ns.map .int)),.im (.int f),.im (.int n),.im (.int m),v4]∧Nat.gcd f m=Nat.gcd (Mt.gcdL 0 p') n.natAbs) (Zik 3) ⟨_,_,_,rfl,rfl⟩ (Zfg _ _) ?_
  rintro ρ ⟨f,m,v4,rfl,e⟩
  walk_at "w"
  refine ⟨fun hb=>?_,fun hb=>?_⟩
  ·have hm:m≠0:=by simpa using hb
   walk_at "w"
   refine ⟨_,rfl,⟨m,f%m,_,rfl,?_⟩,?_⟩
   ·rw [←e,Mt.ZjX]
   ·have:=VbY f (Nat.pos_of_ne_zero hm)
    simp [Zik,absC]
    omega
  ·have hm:m=0:=by simpa using hb
   subst hm
   rw [Nat.gcd_zero_right] at e
   have e2:Mt.gcdL 0 (p'++[n])=Nat.gcd (Mt.gcdL 0 p') n.natAbs:=by
    have key:∀(l:List Int) (g:Nat),Mt.gcdL g (l++[n])=Nat.gcd (Mt.gcdL g l) n.natAbs:=by
     intro l
     induction l with
     | nil=>exact fun g=>rfl
     | cons y l ih=>exact fun g=>ih _
    exact key p' 0
   exact ⟨_,rfl,p'++[n],.im (.int n),.im (.int ((0:Nat):Int)),v4,by simp,by rw [e2,←e]⟩
 ·rintro ρ ⟨p',v2,v3,v4,hp,rfl⟩
  walk_at "w"
  have:ns=p':=Zhv hp
  rw [←this]
  exact h
theorem Zec{Φ:D→Prop}{ns:List Int}(h:Φ (.int (Mt.gcdL 0 ns))):Tl (Zao [.tup (ns.map .int)]) Φ:=by
 unfold Zao
 walk_at "w"
 refine ZmV (fun p ρ=>∃(p':List Int) (v2 v3 v4:Cl),p=p'.map .int∧ρ=[.im (.tup (ns.map .int)),.im (.int (Mt.gcdL 0 p')),v2,v3,v4]) ⟨[],_,_,_,rfl,rfl⟩ ?_ ?_
 ·rintro p x r hx ρ ⟨p',v2,v3,v4,rfl,rfl⟩
  obtain ⟨n,rfl⟩ : ∃n:Int,x=.int n:=by
   have:x∈ns.map .int:=by rw [hx];simp
   obtain ⟨n,_,rfl⟩:=Vbs.mp this
   exact ⟨n,rfl⟩
  walk_at "w"
  refine w_wh (fun ρ=>∃(f m:Nat) (v4:Cl),ρ=[.im (.tup (ns.map .int)),.im (.int f),.im (.int n),.im (.int m),v4]∧Nat.gcd f m=Nat.gcd (Mt.gcdL 0 p') n.natAbs) (Zik 3) ⟨_,_,_,rfl,rfl⟩ (Zfg _ _) ?_
  rintro ρ ⟨f,m,v4,rfl,e⟩
  walk_at "w"
  refine ⟨fun hb=>?_,fun hb=>?_⟩
  ·have hm:m≠0:=by simpa using hb
   walk_at "w"
   refine ⟨_,rfl,⟨m,f%m,_,rfl,?_⟩,?_⟩
   ·rw [←e,Mt.ZjX]
   ·have:=VbY f (Nat.pos_of_ne_zero hm)
    simp [Zik,absC]
    omega
  ·have hm:m=0:=by simpa using hb
   subst hm
   rw [Nat.gcd_zero_right] at e
   have e2:Mt.gcdL 0 (p'++[n])=Nat.gcd (Mt.gcdL 0 p') n.natAbs:=by
    have key:∀(l:List Int) (g:Nat),Mt.gcdL g (l++[n])=Nat.gcd (Mt.gcdL g l) n.natAbs:=by
     intro l
     induction l with
     | nil=>exact fun g=>rfl
     | cons y l ih=>exact fun g=>ih _
    exact key p' 0
   exact ⟨_,rfl,p'++[n],.im (.int n),.im (.int ((0:Nat):Int)),v4,by simp,by rw [e2,←e]⟩
 ·rintro ρ ⟨p',v2,v3,v4,hp,rfl⟩
  walk_at "w"
  have:ns=p':=Zhv hp
  rw [←this]
  exact h
def fra(t b:Int):D:=.tup [.int (Mt.frT t b),.int (Mt.frB t b)]
theorem Zsb{t b:Int}(h:b≠0):Int.gcd t b≤b.natAbs:=Nat.le_of_dvd (by omega) (Vcb.mpr (Int.gcd_dvd_right t b) |> fun y=>by simpa using y)
theorem Zol{Φ:D→Prop}{x y:Int}{k:Nat}(hy:0<y)(s:Sm k y)(hk:k≤8900)(h:Φ (.int (x.fdiv y))):Tl (dDiv (.int x) (.int y)) Φ:=by
 refine w_div hy (s.log (by omega)) ?_
 rw [←VaJ _ (by omega)]
 exact h
theorem ZoW{Φ:D→Prop}{x y:Int}{k:Nat}(hy:y<0)(s:Sm k y)(hk:k≤8900)(h:Φ (.int (x.fdiv y))):Tl (dDiv (.int x) (.int y)) Φ:=w_divN hy (s.log (by omega)) h
theorem Zhq{Φ:D→Prop}{t b:Int}{k:Nat}(hb:b≠0)(sb:Sm k b)(hk:k≤8900)(h:Φ (fra t b)):Tl (ZaI [.int t,.int b]) Φ:=by
 have g0:=Mt.ZfM (t:=t) hb
 have sg:Sm k (Int.gcd t b:Int):=sb.le (by rw [Vca];exact Zsb hb)
 unfold ZaI
 walk_at "w"
 refine ZeB (ns:=[t,b]) ?_
 rw [Mt.ZjA]
 walk_at "w"
 unfold fra Mt.frT Mt.frB at h
 refine ZcP (fun h0=>?_) (fun h0=>?_)
 ·walk_at "w"
  rw [if_pos h0,if_pos h0] at h
  refine ZoW (by omega) sg.neg hk ?_
  walk_at "w"
  refine ZoW (by omega) sg.neg hk ?_
  walk_at "w"
  exact h
 ·walk_at "w"
  rw [if_neg h0,if_neg h0] at h
  refine Zol (by omega) sg hk ?_
  walk_at "w"
  refine Zol (by omega) sg hk ?_
  walk_at "w"
  exact h
abbrev dot(x y z e f g:Int):Int:=x*e+y*f+z*g
theorem Zjz{x y z e f g:Int}{k n:Nat}(hx:Sm k x)(hy:Sm k y)(hz:Sm k z)(he:Sm n e)(hf:Sm n f)(hg:Sm n g):Sm (k+n+2) (dot x y z e f g):=(((hx.mul he).add (hy.mul hf)).add (hz.mul hg)).mono (by omega)
theorem ZoH{Φ:D→Prop}{x y z e f g:Int}{k n:Nat}(hx:Sm k x)(hy:Sm k y)(hz:Sm k z)(he:Sm n e)(hf:Sm n f)(hg:Sm n g)(hk:k+n≤8000)(q:Φ (.int (dot x y z e f g))):Tl (Zah [.lst [.int x,.int y,.int z],.tup [.int e,.int f,.int g]]) Φ:=by
 have m1:Zbk x e=true:=ZaO hx he (by omega)
 have m2:Zbk y f=true:=ZaO hy hf (by omega)
 have m3:Zbk z g=true:=ZaO hz hg (by omega)
 unfold Zah
 walk_at "w"
 exact q
theorem ZrX{Φ:D→Prop}{x y z e f g:Int}{k n:Nat}(hx:Sm k x)(hy:Sm k y)(hz:Sm k z)(he:Sm n e)(hf:Sm n f)(hg:Sm n g)(hk:k+n≤8000)(q:Φ (.int (dot x y z e f g))):Tl (Zah [.tup [.int x,.int y,.int z],.tup [.int e,.int f,.int g]]) Φ:=by
 have m1:Zbk x e=true:=ZaO hx he (by omega)
 have m2:Zbk y f=true:=ZaO hy hf (by omega)
 have m3:Zbk z g=true:=ZaO hz hg (by omega)
 unfold Zah
 walk_at "w"
 exact q
structure Cv(k:Nat)(x y w h:Int)(vs:List Int):Prop where
 fx:Sm k x
 fy:Sm k y
 fw:Sm k w
 fh:Sm k h
 fv:∀v∈vs,Sm k v
 f1:1≤h
theorem ZmH{Φ:D→Prop}{ax ay aw ah bx bY bw bh cx cy cw ch e f g:Int}{av bv cv:List Int}{k n:Nat}(a:Cv k ax ay aw ah av)(b:Cv k bx bY bw bh bv)(c:Cv k cx cy cw ch cv)(he:Sm n e)(hf:Sm n f)(hg:Sm n g)(hk:k+n≤8000)(q:Φ (.int (dot ah bh ch e f g))):Tl (Zcj [.tup [cor ax ay aw ah av,cor bx bY bw bh bv,cor cx cy cw ch cv],.tup [.int e,.int f,.int g]]) Φ:=by
 unfold Zcj cor
 walk_at "w"
 refine ⟨by show (3:Nat)≤_;omega,?_⟩
 refine Zfb ?_
 walk_at "w"
 refine Zfb ?_
 walk_at "w"
 refine Zfb ?_
 walk_at "w"
 refine Zk7 ?_
 walk_at "w"
 refine ZoH a.fh b.fh c.fh he hf hg hk ?_
 walk_at "w"
 exact q
theorem ZgY:∀(xs ys zs:List Int),trips (xs.map .int) (ys.map .int) (zs.map .int)=(xs.zip (ys.zip zs)).map fun t=>.tup [.int t.1,.int t.2.1,.int t.2.2]
 | [],_,_=>by simp [trips]
 | _::_,[],_=>by simp [trips]
 | _::_,_::_,[]=>by simp [trips]
 | x::xs,y::ys,z::zs=>by simp [trips,ZgY xs ys zs]
def vls(av bv cv:List Int)(e f g B:Int):List D:=(av.zip (bv.zip cv)).map fun t=>fra (dot t.1 t.2.1 t.2.2 e f g) B
theorem ZjC{av bv cv:List Int}{t:Int×Int×Int}(h:t∈av.zip (bv.zip cv)):t.1∈av∧t.2.1∈bv∧t.2.2∈cv:=by
 obtain ⟨x,y,z⟩:=t
 have h1:=VaW h
 have h2:=VaW h1.2
 exact ⟨h1.1,h2.1,h2.2⟩
theorem Zo2{Φ:D→Prop}{ax ay aw ah bx bY bw bh cx cy cw ch e f g:Int}{av bv cv:List Int}{k n:Nat}(a:Cv k ax ay aw ah av)(b:Cv k bx bY bw bh bv)(c:Cv k cx cy cw ch cv)(he:Sm n e)(hf:Sm n f)(hg:Sm n g)(hk:k+n≤7000)(hl:av.length≤1000)(h0:dot ah bh ch e f g≠0)
  (q:Φ (.tup [fra (dot aw bw cw e f g) (dot ah bh ch e f g),.tup (vls av bv cv e f g (dot ah bh ch e f g))])):Tl (ZaL [.tup [cor ax ay aw ah av,cor bx bY bw bh bv,cor cx cy cw ch cv],.tup [.int e,.int f,.int g]]) Φ:=by
 have sB:=Zjz a.fh b.fh c.fh he hf hg
 unfold ZaL
 walk_at "w"
 refine ZmH a b c he hf hg (by omega) ?_
 generalize dot ah bh ch e f g=B at *
 unfold cor
 walk_at "w"
 refine ⟨by show (3:Nat)≤_;omega,?_⟩
 refine Zfb ?_
 walk_at "w"
 refine Zfb ?_
 walk_at "w"
 refine Zfb ?_
 walk_at "w"
 refine Zk7 ?_
 walk_at "w"
 refine ZoH a.fw b.fw c.fw he hf hg (by omega) ?_
 walk_at "w"
 refine Zhq h0 sB (by omega) ?_
 walk_at "w"
 rw [ZgY]
 refine ⟨by rw [VaN,List.length_zip];omega,?_⟩
 refine Zct (fun t=>fra (dot t.1 t.2.1 t.2.2 e f g) B) (fun t ht=>?_) ?_
 ·obtain ⟨t1,t2,t3⟩:=ZjC ht
  walk_at "w"
  refine ZrX (a.fv _ t1) (b.fv _ t2) (c.fv _ t3) he hf hg (by omega) ?_
  walk_at "w"
  exact Zhq h0 sB (by omega) rfl
 walk_at "w"
 exact q
abbrev ow(ax ay aw bx bY bw cx cy cw:Int):Int:=(ay*bw - aw*bY)*cx+(aw*bx - ax*bw)*cy+(ax*bY - ay*bx)*cw
theorem sm6{x:Int}(h:-100000000≤x∧x≤100000000):Sm 64 x:=Sm.of64 (by omega) (by omega)
structure Cr(x y w:Int):Prop where
 x:Sm 64 x
 y:Sm 64 y
 w:Sm 64 w
theorem Cr.n{ax ay aw bx bY bw:Int}(a:Cr ax ay aw)(b:Cr bx bY bw):Sm 129 (ay*bw - aw*bY)∧Sm 129 (aw*bx - ax*bw)∧Sm 129 (ax*bY - ay*bx) :=
 ⟨(a.y.mul b.w).sub (a.w.mul b.y),(a.w.mul b.x).sub (a.x.mul b.w),(a.x.mul b.y).sub (a.y.mul b.x)⟩
theorem Cr.ow{ax ay aw bx bY bw cx cy cw:Int}(a:Cr ax ay aw)(b:Cr bx bY bw)(c:Cr cx cy cw):Sm 200 (ow ax ay aw bx bY bw cx cy cw):=by
 obtain ⟨n1,n2,n3⟩:=a.n b
 exact (((n1.mul c.x).add (n2.mul c.y)).add (n3.mul c.w)).mono (by decide)
theorem Bd.s{x:Int}(h:Bd x):Sm 64 x:=sm6 ⟨by have:=h.1;omega,by have:=h.2;omega⟩
theorem Zd0{Φ:D→Prop}{ax ay aw ah bx bY bw bh:Int}{av bv:List Int}(a:Cr ax ay aw)(b:Cr bx bY bw)(h:Φ (.tup [.int (ay*bw - aw*bY),.int (aw*bx - ax*bw),.int (ax*bY - ay*bx)])):Tl (ZaN [cor ax ay aw ah av,cor bx bY bw bh bv]) Φ:=by
 obtain ⟨a1,a2,a3⟩:=a
 obtain ⟨b1,b2,b3⟩:=b
 unfold ZaN cor
 walk_at "w"
 exact h
theorem ZjT{Φ:D→Prop}{l m n px py ps:Int}(hl:Sm 129 l)(hm:Sm 129 m)(hn:Sm 129 n)(p:Cr px py ps)(h:Φ (.int (l*px+m*py+n*ps))):Tl (Zah [.tup [.int l,.int m,.int n],.tup [.int px,.int py,.int ps]]) Φ:=by
 obtain ⟨p1,p2,p3⟩:=p
 unfold Zah
 walk_at "w"
 exact h
def sg(x:Int):Int:=if 0<x then 1 else if x<0 then -1 else 0
def sd3(s m n:Int):Int:=if s=0 then (if m=0 then sg n else sg m) else sg s
theorem Zk9{x:Int}(h:0<x):sg x=1:=if_pos h
theorem ZlD{x:Int}(h:x<0):sg x=-1:=by unfold sg;rw [if_neg (by omega),if_pos h]
theorem Zp1:sg 0=0:=rfl
theorem ZlX(x:Int):sg (-x)=- sg x:=by unfold sg;split<;>split<;>(try split)<;>(try split)<;>omega
theorem ZqJ(s m n:Int):sd3 (-s) (-m) (-n)=- sd3 s m n:=by
 unfold sd3
 rw [ZlX,ZlX,ZlX]
 split<;>split<;>(try split)<;>(try split)<;>omega
theorem ZpY{x:Int}:sg x=1∧0<x∨sg x=0∧x=0∨sg x=-1∧x<0:=by
 unfold sg;split<;>(try split)<;>omega
theorem Zma(x:Int):sg x=1∨sg x=0∨sg x=-1:=by
 rcases ZpY (x:=x) with h | h | h
 ·exact .inl h.1
 ·exact .inr (.inl h.1)
 ·exact .inr (.inr h.1)
theorem Zsg(s m n:Int):sd3 s m n=1∨sd3 s m n=0∨sd3 s m n=-1:=by
 unfold sd3
 by_cases h:s=0
 ·rw [if_pos h]
  by_cases h':m=0
  ·rw [if_pos h'];exact Zma n
  ·rw [if_neg h'];exact Zma m
 ·rw [if_neg h];exact Zma s
theorem Zmh{s m n e:Int}{P Q R:Prop}(h1:sg s=e↔P)(h2:sg m=e↔Q)(h3:sg n=e↔R):sd3 s m n=e↔(¬s=0∧P)∨(s=0∧((¬m=0∧Q)∨(m=0∧R))):=by
 unfold sd3
 by_cases h:s=0
 ·rw [if_pos h]
  by_cases h':m=0
  ·rw [if_pos h',h3];simp [h,h']
  ·rw [if_neg h',h2];simp [h,h']
 ·rw [if_neg h,h1];simp [h]
theorem Zmg{x:Int}:sg x=1↔0<x:=by rcases ZpY (x:=x) with h | h | h<;>omega
theorem ZlL{x:Int}:sg x=-1↔x<0:=by rcases ZpY (x:=x) with h | h | h<;>omega
abbrev sdE(ax ay aw bx bY bw px py ps:Int):Int:=sd3 (ow ax ay aw bx bY bw px py ps) (ay*bw - aw*bY) (aw*bx - ax*bw)
theorem ZiX(ax ay aw bx bY bw px py ps:Int):sdE bx bY bw ax ay aw px py ps=- sdE ax ay aw bx bY bw px py ps:=by
 unfold sdE
 rw [←ZqJ]
 congr 1
 ·unfold ow;grind
 ·grind
 ·grind
theorem w_side{Φ:D→Prop}{ax ay aw ah bx bY bw bh px py ps:Int}{av bv:List Int}(a:Cr ax ay aw)(b:Cr bx bY bw)(p:Cr px py ps)(h:Φ (.int (sdE ax ay aw bx bY bw px py ps))):Tl (Zf0 [cor ax ay aw ah av,cor bx bY bw bh bv,.tup [.int px,.int py,.int ps]]) Φ:=by
 unfold Zf0
 walk_at "w"
 refine Zd0 a b ?_
 walk_at "w"
 obtain ⟨n1,n2,n3⟩:=a.n b
 refine ZjT n1 n2 n3 p ?_
 walk_at "w"
 unfold sdE sd3 at h
 change Φ (.int (if ow ax ay aw bx bY bw px py ps=0 then _ else _)) at h
 show Tl (Zb6 _ _ [.int (ow ax ay aw bx bY bw px py ps),.int _,.int _] _) _
 generalize ow ax ay aw bx bY bw px py ps=s at *
 generalize ay*bw - aw*bY=m at *
 generalize aw*bx - ax*bw=n at *
 refine w_f1 ?_
 walk_at "w"
 refine Zhh (fun h0=>?_) (fun h0=>?_)
 ·rw [if_neg h0] at h
  walk_at "w"
  refine ZcP (fun h1=>?_) (fun h1=>?_)
  ·walk_at "w"
   rw [Zk9 h1] at h
   exact h
  ·walk_at "w"
   rw [ZlD (by omega)] at h
   exact h
 rw [if_pos h0] at h
 walk_at "w"
 refine w_f1 ?_
 walk_at "w"
 refine Zhh (fun h0=>?_) (fun h0=>?_)
 ·rw [if_neg h0] at h
  walk_at "w"
  refine ZcP (fun h1=>?_) (fun h1=>?_)
  ·walk_at "w"
   rw [Zk9 h1] at h
   exact h
  ·walk_at "w"
   rw [ZlD (by omega)] at h
   exact h
 rw [if_pos h0] at h
 walk_at "w"
 refine w_f1 ?_
 walk_at "w"
 refine Zhh (fun h0=>?_) (fun h0=>?_)
 ·walk_at "w"
  refine ZcP (fun h1=>?_) (fun h1=>?_)
  ·walk_at "w"
   rw [Zk9 h1] at h
   exact h
  ·walk_at "w"
   rw [ZlD (by omega)] at h
   exact h
 walk_at "w"
 refine w_f0 ?_
 walk_at "w"
 rw [h0,Zp1] at h
 exact h
theorem Zrg{Φ:D→Prop}{ax ay aw ah bx bY bw bh cx cy cw ch:Int}{av bv cv:List Int}(ha:1≤aw)(hb:1≤bw)(hc:1≤cw)(h:Φ .non):Tl (Zan [.tup [cor ax ay aw ah av,cor bx bY bw bh bv,cor cx cy cw ch cv]]) Φ:=by
 unfold Zan cor
 walk_at "w"
 refine w_f1 ?_
 walk_at "w"
 refine w_f1 ?_
 walk_at "w"
 refine w_f1 ?_
 walk_at "w"
 refine w_f0 ?_
 walk_at "w"
 exact h
def hd3(ab bc ca:Int):Int:=if ab=bc∧bc=ca then ab else 0
theorem Ztq{Φ:D→Prop}{ax ay aw ah bx bY bw bh cx cy cw ch px py ps:Int}{av bv cv:List Int}(ha:1≤aw)(hb:1≤bw)(hc:1≤cw)(a:Cr ax ay aw)(b:Cr bx bY bw)(c:Cr cx cy cw)(p:Cr px py ps)(h:Φ (.int (hd3 (sdE ax ay aw bx bY bw px py ps) (sdE bx bY bw cx cy cw px py ps) (sdE cx cy cw ax ay aw px py ps)))):Tl (ZmT [.tup [cor ax ay aw ah av,cor bx bY bw bh bv,cor cx cy cw ch cv],.tup [.int px,.int py,.int ps]]) Φ:=by
 unfold ZmT
 walk_at "w"
 refine Zrg ha hb hc ?_
 walk_at "w"
 refine w_side a b p ?_
 walk_at "w"
 refine w_side b c p ?_
 walk_at "w"
 unfold hd3 at h
 refine Zhh (fun h0=>?_) (fun h0=>?_)
 ·walk_at "w"
  rw [if_neg (by omega)] at h
  exact h
 walk_at "w"
 refine w_side c a p ?_
 walk_at "w"
 refine Zhh (fun h1=>?_) (fun h1=>?_)
 ·walk_at "w"
  rw [if_neg (by omega)] at h
  exact h
 walk_at "w"
 rw [if_pos (by omega)] at h
 exact h
theorem Zfe{Φ:D→Prop}{ax ay aw ah bx bY bw bh px py ps:Int}{av bv:List Int}(a:Cr ax ay aw)(b:Cr bx bY bw)(p:Cr px py ps)(h:Φ (.int (ow ax ay aw bx bY bw px py ps))):Tl (ZbH [cor ax ay aw ah av,cor bx bY bw bh bv,.tup [.int px,.int py,.int ps]]) Φ:=by
 unfold ZbH
 walk_at "w"
 refine Zd0 a b ?_
 walk_at "w"
 obtain ⟨n1,n2,n3⟩:=a.n b
 refine ZjT n1 n2 n3 p ?_
 walk_at "w"
 exact h
theorem Zlp{Φ:D→Prop}{ax ay aw ah bx bY bw bh cx cy cw ch px py ps:Int}{av bv cv:List Int}(a:Cr ax ay aw)(b:Cr bx bY bw)(c:Cr cx cy cw)(p:Cr px py ps)
  (h:Φ (.tup [.int (ow bx bY bw cx cy cw px py ps),.int (ow cx cy cw ax ay aw px py ps),.int (ow ax ay aw bx bY bw px py ps)])):Tl (ZdD [.tup [cor ax ay aw ah av,cor bx bY bw bh bv,cor cx cy cw ch cv],.tup [.int px,.int py,.int ps]]) Φ:=by
 unfold ZdD
 walk_at "w"
 refine Zfe b c p ?_
 walk_at "w"
 refine Zfe c a p ?_
 walk_at "w"
 refine Zfe a b p ?_
 walk_at "w"
 exact h
theorem Zms{s m n:Int}:sd3 s m n=1↔0<s∨(s=0∧(0<m∨(m=0∧0<n))):=by
 rw [Zmh Zmg Zmg Zmg]
 omega
theorem ZnP{s m n:Int}:sd3 s m n=-1↔s<0∨(s=0∧(m<0∨(m=0∧n<0))):=by
 rw [Zmh ZlL ZlL ZlL]
 omega
theorem mul0{a b:Int}(ha:0<a)(hb:0≤b):0≤a*b:=Int.mul_nonneg (Int.le_of_lt ha) hb
theorem Zi2{a b c x y z:Int}(ha:0<a)(hb:0<b)(hc:0<c)(hx:0≤x)(hy:0≤y)(hz:0≤z)(h:a*x+b*y+c*z≤0):x=0∧y=0∧z=0:=by
 have h1:=mul0 ha hx
 have h2:=mul0 hb hy
 have h3:=mul0 hc hz
 refine ⟨?_,?_,?_⟩
 ·rcases Int.mul_eq_zero.mp (show a*x=0 by omega) with h | h<;>omega
 ·rcases Int.mul_eq_zero.mp (show b*y=0 by omega) with h | h<;>omega
 ·rcases Int.mul_eq_zero.mp (show c*z=0 by omega) with h | h<;>omega
theorem Zk6{ax ay aw bx bY bw cx cy cw px py ps:Int}(ha:0<aw)(hb:0<bw)(hc:0<cw)(hp:0<ps)(h1:sdE ax ay aw bx bY bw px py ps=1)(h2:sdE bx bY bw cx cy cw px py ps=1)(h3:sdE cx cy cw ax ay aw px py ps=1):0<ow ax ay aw bx bY bw cx cy cw:=by
 unfold sdE at h1 h2 h3
 rw [Zms] at h1 h2 h3
 have i0:aw*ow bx bY bw cx cy cw px py ps+bw*ow cx cy cw ax ay aw px py ps+cw*ow ax ay aw bx bY bw px py ps=ow ax ay aw bx bY bw cx cy cw*ps:=by unfold ow;grind
 have i1:aw*(bY*cw - bw*cy)+bw*(cy*aw - cw*ay)+cw*(ay*bw - aw*bY)=0:=by grind
 have i2:aw*(bw*cx - bx*cw)+bw*(cw*ax - cx*aw)+cw*(aw*bx - ax*bw)=0:=by grind
 generalize ow bx bY bw cx cy cw px py ps=e at *
 generalize ow cx cy cw ax ay aw px py ps=f at *
 generalize ow ax ay aw bx bY bw px py ps=g at *
 generalize ow ax ay aw bx bY bw cx cy cw=o at *
 by_cases ho:0<o
 ·exact ho
 exfalso
 have ho':o*ps≤0:=by
  have:=Int.mul_nonneg (show 0≤-o by omega) (show 0≤ps by omega)
  rw [Int.neg_mul] at this
  omega
 obtain ⟨z1,z2,z3⟩:=Zi2 ha hb hc (x:=e) (y:=f) (z:=g) (by omega) (by omega) (by omega) (by omega)
 obtain ⟨y1,y2,y3⟩:=Zi2 ha hb hc (x:=bY*cw - bw*cy) (y:=cy*aw - cw*ay) (z:=ay*bw - aw*bY) (by omega) (by omega) (by omega) (by omega)
 obtain ⟨x1,x2,x3⟩:=Zi2 ha hb hc (x:=bw*cx - bx*cw) (y:=cw*ax - cx*aw) (z:=aw*bx - ax*bw) (by omega) (by omega) (by omega) (by omega)
 omega
theorem Zqr{ax ay aw bx bY bw cx cy cw px py ps:Int}(ha:0<aw)(hb:0<bw)(hc:0<cw)(hp:0<ps)(h1:sdE ax ay aw bx bY bw px py ps=-1)(h2:sdE bx bY bw cx cy cw px py ps=-1)(h3:sdE cx cy cw ax ay aw px py ps=-1):ow ax ay aw bx bY bw cx cy cw<0:=by
 have z:=Zk6 hc hb ha hp (by rw [ZiX bx bY bw cx cy cw,h2];rfl) (by rw [ZiX ax ay aw bx bY bw,h1];rfl) (by rw [ZiX cx cy cw ax ay aw,h3];rfl)
 have e:ow cx cy cw bx bY bw ax ay aw=- ow ax ay aw bx bY bw cx cy cw:=by unfold ow;grind
 omega
abbrev hdE(ax ay aw bx bY bw cx cy cw px py ps:Int):Int:=hd3 (sdE ax ay aw bx bY bw px py ps) (sdE bx bY bw cx cy cw px py ps) (sdE cx cy cw ax ay aw px py ps)
theorem Zlh{x y z:Int}(hx:x=1∨x=0∨x=-1)(h:hd3 x y z≠0):∃e,(e=1∨e=-1)∧x=e∧y=e∧z=e:=by
 unfold hd3 at h
 split at h
 ·exact ⟨x,by omega,rfl,by omega,by omega⟩
 ·exact absurd rfl h
theorem Zfv{Φ:Fl→Prop}{g:MG}{k:MS}{ρ:Ev}{enc:Nat→D}{n:Nat}(I:Nat→Ev→Prop)(h0:I 0 ρ)(h:∀j,j<n→∀ρ,I j ρ→Tl (g (enc j) ρ) fun ρ1=>Tl (k ρ1) fun f=>∃ρ2,f=.nx ρ2∧I (j+1) ρ2)(hd:∀ρ,I n ρ→Φ (.nx ρ)):Tl (Zb6 g k ((List.range n).map enc) ρ) Φ:=by
 refine ZmV (fun p ρ=>I p.length ρ) h0 (fun p x r e ρ i=>?_) fun ρ i=>?_
 ·have l:p.length<n:=by
   have:=Vax List.length e
   simp at this
   omega
  have ex:x=enc p.length:=by
   have z:=Vax (fun l=>l[p.length]?) e
   simp [l] at z
   exact z.symm
  subst ex
  obtain ⟨ρ1,e1,f,e2,ρ2,rfl,i2⟩:=h _ l ρ i
  refine ⟨ρ1,e1,_,e2,ρ2,rfl,?_⟩
  simpa using i2
 ·simp at i
  exact hd ρ i
theorem Zbh(n:Nat):ZbE 0 n=(List.range n).map fun (k:Nat)=>D.int (k:Int):=by
 unfold ZbE
 simp
def Wt(e f g:Int):Prop:=(0≤e∧0≤f∧0≤g∧0<e+f+g)∨(e≤0∧f≤0∧g≤0∧e+f+g<0)
theorem ZoP{ax ay aw bx bY bw cx cy cw px py ps:Int}(ha:0<aw)(hb:0<bw)(hc:0<cw)(hp:0<ps)(h:hdE ax ay aw bx bY bw cx cy cw px py ps≠0):Wt (ow bx bY bw cx cy cw px py ps) (ow cx cy cw ax ay aw px py ps) (ow ax ay aw bx bY bw px py ps):=by
 obtain ⟨s,hs,p1,p2,p3⟩:=Zlh (Zsg _ _ _) h
 have i0:aw*ow bx bY bw cx cy cw px py ps+bw*ow cx cy cw ax ay aw px py ps+cw*ow ax ay aw bx bY bw px py ps=ow ax ay aw bx bY bw cx cy cw*ps:=by unfold ow;grind
 rcases hs with rfl | rfl
 ·have o:=Zk6 ha hb hc hp p1 p2 p3
  have op:=Vcd o hp
  rw [Zms] at p1 p2 p3
  left
  refine ⟨by omega,by omega,by omega,?_⟩
  by_cases z:0<ow bx bY bw cx cy cw px py ps+ow cx cy cw ax ay aw px py ps+ow ax ay aw bx bY bw px py ps
  ·exact z
  ·exfalso
   have e1:ow bx bY bw cx cy cw px py ps=0:=by omega
   have e2:ow cx cy cw ax ay aw px py ps=0:=by omega
   have e3:ow ax ay aw bx bY bw px py ps=0:=by omega
   rw [e1,e2,e3] at i0
   omega
 ·have o:=Zqr ha hb hc hp p1 p2 p3
  have op:=Vcd (show 0 < - ow ax ay aw bx bY bw cx cy cw by omega) hp
  rw [Int.neg_mul] at op
  rw [ZnP] at p1 p2 p3
  right
  refine ⟨by omega,by omega,by omega,?_⟩
  by_cases z:ow bx bY bw cx cy cw px py ps+ow cx cy cw ax ay aw px py ps+ow ax ay aw bx bY bw px py ps<0
  ·exact z
  ·exfalso
   have e1:ow bx bY bw cx cy cw px py ps=0:=by omega
   have e2:ow cx cy cw ax ay aw px py ps=0:=by omega
   have e3:ow ax ay aw bx bY bw px py ps=0:=by omega
   rw [e1,e2,e3] at i0
   omega
theorem Zll{a x:Int}(ha:1≤a)(hx:0≤x):x≤a*x:=by
 have:=Vce ha hx
 omega
theorem ZiM{a x:Int}(ha:1≤a)(hx:x≤0):a*x≤x:=by
 have:=Vce ha (show 0≤-x by omega)
 rw [Int.mul_neg,Int.mul_neg,Int.one_mul] at this
 omega
theorem ZnU{x y z e f g:Int}(hx:1≤x)(hy:1≤y)(hz:1≤z)(w:Wt e f g):(0<e+f+g∧0<dot x y z e f g)∨(e+f+g<0∧dot x y z e f g<0):=by
 unfold dot
 rcases w with ⟨h1,h2,h3,h4⟩ | ⟨h1,h2,h3,h4⟩
 ·have:=Zll hx h1
  have:=Zll hy h2
  have:=Zll hz h3
  left;omega
 ·have:=ZiM hx h1
  have:=ZiM hy h2
  have:=ZiM hz h3
  right;omega
theorem Zom{x y z e f g:Int}(hx:1≤x)(hy:1≤y)(hz:1≤z)(w:Wt e f g):dot x y z e f g≠0:=by
 rcases ZnU hx hy hz w with h | h<;>omega
theorem Zi8{Φ:D→Prop}{ax ay aw ah bx bY bw bh cx cy cw ch px py ps:Int}{av bv cv:List Int}(ha:1≤aw)(hb:1≤bw)(hc:1≤cw)(a:Cr ax ay aw)(b:Cr bx bY bw)(c:Cr cx cy cw)(p:Cr px py ps)(h0:hdE ax ay aw bx bY bw cx cy cw px py ps=0)(q:Φ .non):Tl (Zal [.tup [cor ax ay aw ah av,cor bx bY bw bh bv,cor cx cy cw ch cv],.tup [.int px,.int py,.int ps]]) Φ:=by
 unfold Zal
 walk_at "w"
 refine Ztq ha hb hc a b c p ?_
 unfold hdE at h0
 rw [h0]
 walk_at "w"
 exact q
theorem Zjl{Φ:D→Prop}{ax ay aw ah bx bY bw bh cx cy cw ch px py ps:Int}{av bv cv:List Int}(ha:1≤aw)(hb:1≤bw)(hc:1≤cw)(hp:1≤ps)(a:Cr ax ay aw)(b:Cr bx bY bw)(c:Cr cx cy cw)(p:Cr px py ps)(va:Cv 64 ax ay aw ah av)(vb:Cv 64 bx bY bw bh bv)(vc:Cv 64 cx cy cw ch cv)(hl:av.length≤1000)(h0:hdE ax ay aw bx bY bw cx cy cw px py ps≠0){e f g B:Int}(e1:e=ow bx bY bw cx cy cw px py ps)(e2:f=ow cx cy cw ax ay aw px py ps)(e3:g=ow ax ay aw bx bY bw px py ps)(e4:B=dot ah bh ch e f g)
  (q:Φ (.tup [fra (dot aw bw cw e f g) B,.tup (vls av bv cv e f g B)])):Tl (Zal [.tup [cor ax ay aw ah av,cor bx bY bw bh bv,cor cx cy cw ch cv],.tup [.int px,.int py,.int ps]]) Φ:=by
 have W:=ZoP (by omega) (by omega) (by omega) (by omega) h0
 subst e4 e1 e2 e3
 unfold Zal
 walk_at "w"
 refine Ztq ha hb hc a b c p ?_
 walk_at "w"
 refine Zlp a b c p ?_
 walk_at "w"
 refine Zo2 va vb vc (b.ow c p) (c.ow a p) (a.ow b p) (by decide) hl (Zom va.f1 vb.f1 vc.f1 W) ?_
 walk_at "w"
 exact q
def Dw(r:Int):Prop:=0≤r∧r<2147483648
theorem ZgH{Φ:D→Prop}{cc:Int}{n:Nat}(hn:n≤900)(q:∀rs:List Int,rs.length=n→(∀r∈rs,Dw r)→Φ (.lst (rs.map .int))):Tl (Zaw [.int cc,.int (n:Int)]) Φ:=by
 unfold Zaw
 walk_at "w"
 refine ⟨by simp [ZbE];omega,?_⟩
 rw [Zbh,VbA]
 refine w_all (fun _ y=>∃r:Int,y=.int r∧Dw r) (fun x hx=>?_) fun ys ly hy=>?_
 ·obtain ⟨k,hk,rfl⟩:=Vbs.mp hx
  have hk:=Vai.mp hk
  walk_at "w"
  exact ZmP (by omega) fun r hr=>⟨r,rfl,hr⟩
 ·have l:ys.length=n:=by simpa using ly
  have hy':∀y∈ys,∃r:Int,y=.int r∧Dw r:=fun y hm=>by
   obtain ⟨i,hi,rfl⟩:=Vb4.mp hm
   exact hy i _ _ (VbH (by omega)) (VbH hi)
  obtain ⟨rs,rfl,hrs⟩ : ∃rs:List Int,ys=rs.map .int∧∀r∈rs,Dw r:=by
   clear l hy ly q
   induction ys with
   | nil=>exact ⟨[],rfl,fun _ h=>(VbQ h).elim⟩
   | cons y t ih =>
    obtain ⟨r,rfl,hr⟩:=hy' y Van
    obtain ⟨rs,rfl,hrs⟩:=ih fun z hz=>hy' z (Vao _ hz)
    refine ⟨r::rs,rfl,fun u hu=>?_⟩
    rcases Vaq.mp hu with rfl | hu
    ·exact hr
    ·exact hrs u hu
  walk_at "w"
  exact q rs (by simpa using l) hrs
structure Ck(x y w h:Int):Prop where
 x:Bd x
 y:Bd y
 w:1≤w∧w≤1000000
 h:1≤h∧h≤1000000
theorem Ck.cr{x y w h:Int}(c:Ck x y w h):Cr x y w:=⟨c.x.s,c.y.s,sm6 ⟨by have:=c.w;omega,by have:=c.w;omega⟩⟩
theorem cut2(a b:D)(r:List D):cutL (a::b::r) none (some 2)=[a,b]:=by
 unfold cutL cutAt
 have:min (2:Int).toNat (a::b::r).length=2:=by simp
 simp only []
 rw [if_neg (by decide),this]
 rfl
theorem six{rs:List Int}(h:6≤rs.length):∃n0 n1 n2 n3 n4 n5 t,rs=n0::n1::n2::n3::n4::n5::t:=by
 rcases rs with _ | ⟨n0,_ | ⟨n1,_ | ⟨n2,_ | ⟨n3,_ | ⟨n4,_ | ⟨n5,t⟩⟩⟩⟩⟩⟩<;>first | exact ⟨_,_,_,_,_,_,_,rfl⟩ | (exfalso;simp at h)
theorem Zrs{s t e:Int}(hs:1≤s∧s≤8)(ht:1≤t∧t≤3)(he:0≤e∧e≤s*8):Bd (t*(e - s)):=by
 have a1:t*(-8)≤t*(e - s):=Vcc (by omega) (by omega)
 have a2:t*(e - s)≤t*64:=Vcc (by omega) (by omega)
 exact ⟨by omega,by omega⟩
theorem ZiG{Φ:D→Prop}{rs:List Int}{many:Nat}(hm:many≤3)(hl:rs.length=6+many)(hr:∀r∈rs,Dw r)(q:∀(x y w h:Int) (vs:List Int),Ck x y w h→vs.length=many→(∀v∈vs,Bd v)→Φ (cor x y w h vs)):Tl (Zba [.lst (rs.map .int),.int (many:Int)]) Φ:=by
 obtain ⟨n0,n1,n2,n3,n4,n5,t,rfl⟩:=six (rs:=rs) (by omega)
 have lt:t.length=many:=by simp at hl;omega
 have d0:=hr n0 (by simp)
 have d1:=hr n1 (by simp)
 have d2:=hr n2 (by simp)
 have d3:=hr n3 (by simp)
 have d4:=hr n4 (by simp)
 have d5:=hr n5 (by simp)
 unfold Dw at d0 d1 d2 d3 d4 d5
 unfold Zba
 walk_at "w"
 rw [show cutL ((n0::n1::n2::n3::n4::n5::t).map D.int) none (some 2)=[.int n0,.int n1] from cut2 _ _ _]
 walk_at "w"
 refine Zir (by simp;omega) fun d hd=>?_
 have hd':∃s:Int,d=.int s∧1≤s∧s≤8:=by
  simp only [Vaq,VbQ,VbR] at hd
  rcases hd with rfl | rfl | rfl | rfl
  ·exact ⟨_,rfl,by decide⟩
  ·exact ⟨_,rfl,by decide⟩
  ·exact ⟨_,rfl,by decide⟩
  ·exact ⟨_,rfl,by decide⟩
 obtain ⟨s,rfl,hs⟩:=hd'
 walk_at "w"
 have ht:1≤1+n0/16%3∧1+n0/16%3≤3:=by omega
 generalize 1+n0/16%3=tm at *
 have hx:Bd (tm*(n0/64%(s*8+1) - s)):=Zrs hs ht (by
  have:=VbZ (n0/64) (show s*8+1≠0 by omega)
  have:=Vb0 (n0/64) (show 0<s*8+1 by omega)
  omega)
 have hy:Bd (tm*(n1%(s*8+1) - s)):=Zrs hs ht (by
  have:=VbZ n1 (show s*8+1≠0 by omega)
  have:=Vb0 n1 (show 0<s*8+1 by omega)
  omega)
 have hw:1≤s*tm∧s*tm≤1000000:=by
  have a1:0<s*tm:=Vcd (by omega) (by omega)
  have a2:s*tm≤s*3:=Vcc (by omega) (by omega)
  omega
 generalize tm*(n0/64%(s*8+1) - s)=x at *
 generalize tm*(n1%(s*8+1) - s)=y at *
 generalize s*tm=w at *
 refine Zir (by simp;omega) fun d hd=>?_
 have hd':∃h:Int,d=.int h∧1≤h∧h≤1000000:=by
  simp only [Vaq,VbQ,VbR] at hd
  rcases hd with rfl | rfl | rfl | rfl
  ·exact ⟨_,rfl,by decide⟩
  ·exact ⟨_,rfl,by omega⟩
  ·exact ⟨_,rfl,by omega⟩
  ·exact ⟨_,rfl,by omega⟩
 obtain ⟨h,rfl,hh⟩:=hd'
 walk_at "w"
 refine ⟨by simp [ZbE];omega,?_⟩
 rw [VbA]
 refine Zox (fun k hk=>?_) fun vs lv bv=>?_
 ·walk_at "w"
  show Tl (dIx (.lst ((n0::n1::n2::n3::n4::n5::t).map .int)) _) _
  refine ZmQ (by rw [hl];omega) fun u hu=>?_
  walk_at "w"
  exact ⟨_,rfl,by omega,by omega⟩
 walk_at "w"
 refine Tl.mono (Ψ:=fun f=>∃(x y w h:Int) (vs:List Int),Ck x y w h∧vs.length=many∧(∀v∈vs,Bd v)∧f=Fl.nx [.im (.lst ((n0::n1::n2::n3::n4::n5::t).map .int)),.im (.int (many:Int)),.im (.int n0),.im (.int n1),.im (.int s),.im (.int tm),.im (.int x),.im (.int y),.im (.int w),.im (.int h),.im (.tup (vs.map .int))]) ?_ ?_
 ·refine ZcP (fun _=>?_) (fun _=>?_)
  ·walk_at "w"
   refine ⟨by simp [ZbE];omega,?_⟩
   rw [VbA]
   refine Zox (fun k hk=>?_) fun vs lv bv=>?_
   ·walk_at "w"
    show Tl (dIx (.lst ((n0::n1::n2::n3::n4::n5::t).map .int)) _) _
    refine ZmQ (by rw [hl];omega) fun u hu=>?_
    walk_at "w"
    exact ⟨_,rfl,by omega,by omega⟩
   walk_at "w"
   exact ⟨_,_,_,_,vs,⟨⟨by omega,by omega⟩,⟨by omega,by omega⟩,by omega,by omega⟩,lv,bv,rfl⟩
  ·walk_at "w"
   exact ⟨_,_,_,_,vs,⟨hx,hy,hw,hh⟩,lv,bv,rfl⟩
 rintro f ⟨x,y,w,h,vs,ck,lv,bv,rfl⟩
 walk_at "w"
 refine ZcP (fun _=>?_) (fun _=>?_)
 ·walk_at "w"
  exact q _ _ _ _ vs ⟨⟨by omega,by omega⟩,ck.y,by omega,ck.h⟩ lv bv
 ·walk_at "w"
  exact q _ _ _ _ vs ck lv bv
theorem ZsJ{rs:List Int}{k:Nat}(h:k≤rs.length):cutL (rs.map .int) none (some (k:Int))=(rs.take k).map .int:=by
 unfold cutL cutAt
 rw [VaN]
 simp only []
 rw [if_neg (by omega),VbA,Vcf h,Vbw,Nat.sub_zero,Vb5]
theorem Zjg{rs:List Int}{i k:Nat}(h0:i≤k)(h:k≤rs.length):cutL (rs.map .int) (some (i:Int)) (some (k:Int))=((rs.drop i).take (k - i)).map .int:=by
 unfold cutL cutAt
 rw [VaN]
 simp only []
 rw [if_neg (by omega),if_neg (by omega),VbA,VbA,Vcf h,Vcf (Vaj h0 h),Vb5,List.map_drop]
def isC(k:Nat)(d:D):Prop:=∃(x y w h:Int) (vs:List Int),d=cor x y w h vs∧Ck x y w h∧vs.length=k∧∀v∈vs,Bd v
def isT(k:Nat)(d:D):Prop:=∃a b c:D,d=.tup [a,b,c]∧isC k a∧isC k b∧isC k c
def isR(n:Nat)(d:D):Prop:=∃rs:List Int,d=.lst (rs.map .int)∧rs.length=n∧∀r∈rs,Dw r
theorem Zn8{Φ:D→Prop}{xs:List D}{i:Int}{P:D→Prop}(h:0≤i∧i<xs.length)(hp:∀x∈xs,P x)(q:∀x,P x→Φ x):Tl (dIx (.lst xs) (.int i)) Φ:=Zir h fun x hx=>q x (hp x hx)
theorem ZmM{xs ys:List D}{P:D→Prop}(ly:ys.length=xs.length)(hy:∀(i:Nat) x y,xs[i]?=some x→ys[i]?=some y→P y):∀y∈ys,P y:=fun y hm=>by
 obtain ⟨i,hi,rfl⟩:=Vb4.mp hm
 exact hy i _ _ (VbH (by omega)) (VbH hi)
theorem Zjo{Φ:D→Prop}{ns:List Int}{first:Int}{most many:Nat}(hf:0≤first∧first≤100)(hmo:most≤6)(hm:many≤3)(q:∀ts:List D,ts.length≤most→(∀t∈ts,isT many t)→Φ (.lst ts)):Tl (ZaY [.lst (ns.map .int),.int first,.int (most:Int),.int (many:Int)]) Φ:=by
 unfold ZaY
 walk_at "w"
 refine ⟨by simp [ZbE],?_⟩
 refine w_all (fun _ y=>isR (3*(6+many)) y) (fun x hx=>?_) fun ys ly hy=>?_
 ·obtain ⟨k,hk,rfl⟩:=mem_range hx
  walk_at "w"
  refine ZcN (by omega) fun cc=>?_
  walk_at "w"
  rw [show (3*(6+(many:Int)))=((3*(6+many):Nat):Int) by omega]
  exact ZgH (by omega) fun rs lr hr=>⟨rs,rfl,lr,hr⟩
 have hy:=ZmM ly hy
 have ly:ys.length=6:=ly
 walk_at "w"
 refine ⟨by rw [ly];decide,?_⟩
 refine w_all (fun _ y=>isC many y) (fun x hx=>?_) fun zs lz hz=>?_
 ·obtain ⟨rs,rfl,lr,hr⟩:=hy x hx
  walk_at "w"
  rw [show (6+(many:Int))=((6+many:Nat):Int) by omega,ZsJ (by omega)]
  exact ZiG hm (by rw [VaX];omega) (fun r h=>hr r (Vcg h)) fun x y w h vs ck lv bv=>⟨x,y,w,h,vs,rfl,ck,lv,bv⟩
 have hz:=ZmM lz hz
 have lz:zs.length=6:=lz.trans ly
 walk_at "w"
 refine ZcN (by omega) fun cc=>?_
 walk_at "w"
 rw [show ((most:Int)+1)=((most+1:Nat):Int) by omega]
 refine ZgH (by omega) fun ds ld hd=>?_
 walk_at "w"
 refine ZmQ (by rw [ld];omega) fun d0 hd0=>?_
 have d0':Dw d0:=hd d0 hd0
 unfold Dw at d0'
 walk_at "w"
 have hn:0≤d0%((most:Int)+1)∧d0%((most:Int)+1)≤most:=by
  have:=VbZ d0 (show (most:Int)+1≠0 by omega)
  have:=Vb0 d0 (show (0:Int)<(most:Int)+1 by omega)
  omega
 generalize d0%((most:Int)+1)=m at hn ⊢
 walk_at "w"
 rw [Zbh]
 refine Zfv (fun j ρ=>∃(ts:List D) (v9 v10 v11:Cl),ts.length=j∧(∀t∈ts,isT many t)∧ρ=[.im (.lst (ns.map .int)),.im (.int first),.im (.int (most:Int)),.im (.int (many:Int)),.im (.int (6+(many:Int))),.im (.lst ys),.im (.lst zs),.im (.lst (ds.map .int)),.ow ts,v9,v10,v11]) ⟨[],_,_,_,rfl,fun _ h=>(VbQ h).elim,rfl⟩ ?_ ?_
 ·rintro j hj ρ ⟨ts,v9,v10,v11,lt,ht,rfl⟩
  walk_at "w"
  refine ZmQ (by rw [ld];omega) fun dj hdj=>?_
  have dj':Dw dj:=hd dj hdj
  unfold Dw at dj'
  walk_at "w"
  refine Zn8 (by rw [lz];omega) hz fun A hA=>?_
  walk_at "w"
  refine Zn8 (by rw [lz];omega) hz fun B hB=>?_
  walk_at "w"
  refine Zn8 (by rw [lz];omega) hz fun C hC=>?_
  walk_at "w"
  refine Tl.mono (Ψ:=fun f=>∃A B C:D,isC many A∧isC many B∧isC many C∧f=Fl.nx [.im (.lst (ns.map .int)),.im (.int first),.im (.int (most:Int)),.im (.int (many:Int)),.im (.int (6+(many:Int))),.im (.lst ys),.im (.lst zs),.im (.lst (ds.map .int)),.ow ts,.im (.int (j:Int)),.im (.int dj),.im (.lst [A,B,C])]) ?_ ?_
  ·refine ZcP (fun _=>?_) (fun _=>?_)
   ·walk_at "w"
    refine ⟨by simp [ZbE],?_⟩
    refine w_all (fun _ y=>isC many y) (fun x hx=>?_) fun us lu hu=>?_
    ·obtain ⟨k,hk,rfl⟩:=mem_range hx
     walk_at "w"
     refine Zn8 (by rw [ly];omega) hy fun row hrow=>?_
     obtain ⟨rs,rfl,lr,hr⟩:=hrow
     have k3:k<3:=hk
     have ka:(6+many)*k≤(6+many)*2:=Nat.mul_le_mul_left _ (by omega)
     walk_at "w"
     rw [show (6+(many:Int))*(k:Int)=(((6+many)*k:Nat):Int) by rw [Int.natCast_mul];rfl,show (((6+many)*k:Nat):Int)+(6+(many:Int))=(((6+many)*k+(6+many):Nat):Int) by omega,Zjg (by omega) (by omega)]
     exact ZiG hm (by rw [VaX,Vbb];omega) (fun r h=>hr r (List.mem_of_mem_drop (Vcg h))) fun x y w h vs ck lv bv=>⟨x,y,w,h,vs,rfl,ck,lv,bv⟩
    have hu:=ZmM lu hu
    have lu:us.length=3:=lu
    walk_at "w"
    match us,lu with
    | [A,B,C],_=>exact ⟨A,B,C,hu A (by simp),hu B (by simp),hu C (by simp),rfl⟩
   ·walk_at "w"
    exact ⟨A,B,C,hA,hB,hC,rfl⟩
  rintro f ⟨A,B,C,hA,hB,hC,rfl⟩
  walk_at "w"
  refine ⟨by omega,_,rfl,ts++[.tup [A,B,C]],_,_,_,by simp [lt],fun t h=>?_,rfl⟩
  rcases Var.mp h with h | h
  ·exact ht t h
  ·simp only [Vaq,VbQ,VbR] at h
   subst h
   exact ⟨A,B,C,rfl,hA,hB,hC⟩
 ·rintro ρ ⟨ts,v9,v10,v11,lt,ht,rfl⟩
  walk_at "w"
  exact q ts (by omega) ht
def frD(q:Rat):D:=.tup [.int q.num,.int (q.den:Int)]
theorem Zeo{t b:Int}(hb:b≠0):fra t b=frD (Rat.divInt t b):=by
 have F:=Mt.ZsB (t:=t) hb
 have d0:((Rat.divInt t b).den:Int)≠0:=by have:=(Rat.divInt t b).den_nz;omega
 have e:=(Rat.divInt_eq_divInt_iff d0 hb).mp (Vch (Rat.divInt t b))
 have r:=(Rat.divInt t b).reduced
 have p:=(Rat.divInt t b).den_pos
 generalize Rat.divInt t b=q at *
 have low:Int.gcd q.num (q.den:Int)=1:=by
  show Nat.gcd q.num.natAbs (q.den:Int).natAbs=1
  rw [Vca]
  exact r
 have s:=F.same
 obtain ⟨h1,h2⟩:=Mt.Zti F.pos F.low (show 1≤(q.den:Int) by omega) low (by
  generalize Mt.frT t b=T at *
  generalize Mt.frB t b=B at *
  refine Int.eq_of_mul_eq_mul_left hb ?_
  calc b*(T*q.den)=(T*b)*q.den:=by grind
   _=(t*q.den)*B:=by rw [s];grind
   _=b*(q.num*B):=by rw [←e];grind)
 unfold fra frD
 rw [h1,h2]
structure Bq(k:Nat)(q:Rat):Prop where
 n:Sm k q.num
 d:Sm k (q.den:Int)
theorem Bq.mono{k m:Nat}{q:Rat}(h:Bq k q)(hk:k≤m):Bq m q:=⟨h.n.mono hk,h.d.mono hk⟩
theorem Zjy{t b:Int}{k:Nat}(hb:0<b)(st:Sm k t)(sb:Sm k b):Bq k (Rat.divInt t b):=by
 have e:=Zeo (t:=t) (b:=b) (by omega)
 unfold fra frD Mt.frT Mt.frB at e
 rw [if_neg (by omega),if_neg (by omega)] at e
 have g0:0<(Int.gcd t b:Int):=by have:=Mt.ZfM (t:=t) (b:=b) (by omega);omega
 injection e with e
 injection e with e1 e2
 injection e1 with e1
 injection e2 with e2 _
 injection e2 with e2
 refine ⟨st.le ?_,sb.le ?_⟩
 ·rw [←e1];exact Mt.Zho g0
 ·rw [←e2];exact Mt.Zho g0
theorem Zdg{Φ:D→Prop}{t b:Int}{k:Nat}(hb:0<b)(st:Sm k t)(sb:Sm k b)(hk:k≤8000)(h:Bq k (Rat.divInt t b)→Φ (frD (Rat.divInt t b))):Tl (ZaI [.int t,.int b]) Φ:=by
 refine Zhq (by omega) sb (by omega) ?_
 rw [Zeo (by omega)]
 exact h (Zjy hb st sb)
theorem den1(q:Rat):0<(q.den:Int):=by have:=q.den_pos;omega
theorem Zhw(p q:Rat):Rat.divInt (p.num*q.den+q.num*p.den) (p.den*q.den)=p+q:=by
 have hp:=den1 p
 have hq:=den1 q
 rw [←Rat.divInt_add_divInt p.num q.num (by omega) (by omega),Vch,Vch]
theorem Zqg(p q:Rat):Rat.divInt (p.num*q.num) (p.den*q.den)=p*q:=by
 rw [←Rat.divInt_mul_divInt,Vch,Vch]
theorem ZqH{Φ:D→Prop}{p q:Rat}{a b:Nat}(hp:Bq a p)(hq:Bq b q)(hab:a+b≤4000)(h:Bq (a+b+1) (p+q)→Φ (frD (p+q))):Tl (ZeU [frD p,frD q]) Φ:=by
 have m1:Zbk p.num q.den=true:=ZaO hp.n hq.d (by omega)
 have m2:Zbk q.num p.den=true:=ZaO hq.n hp.d (by omega)
 have m3:Zbk p.den q.den=true:=ZaO hp.d hq.d (by omega)
 have s1:Sm (a+b+1) (p.num*q.den+q.num*p.den):=((hp.n.mul hq.d).add (show Sm (a+b) _ from Nat.add_comm b a▸hq.n.mul hp.d)).mono (by omega)
 have s2:Sm (a+b+1) ((p.den:Int)*q.den):=(hp.d.mul hq.d).mono (by omega)
 have d0:0<(p.den:Int)*q.den:=Vcd (den1 p) (den1 q)
 unfold ZeU frD
 walk_at "w"
 refine Zdg d0 s1 s2 (by omega) ?_
 rw [Zhw]
 intro hB
 walk_at "w"
 exact h hB
theorem ZlW{Φ:D→Prop}{p q:Rat}{a b:Nat}(hp:Bq a p)(hq:Bq b q)(hab:a+b≤4000)(h:Bq (a+b) (p*q)→Φ (frD (p*q))):Tl (ZcS [frD p,frD q]) Φ:=by
 have m1:Zbk p.num q.num=true:=ZaO hp.n hq.n (by omega)
 have m3:Zbk p.den q.den=true:=ZaO hp.d hq.d (by omega)
 have d0:0<(p.den:Int)*q.den:=Vcd (den1 p) (den1 q)
 unfold ZcS frD
 walk_at "w"
 refine Zdg d0 (hp.n.mul hq.n) (hp.d.mul hq.d) (by omega) ?_
 rw [Zqg]
 intro hB
 walk_at "w"
 exact h hB
theorem ZjR{Φ:D→Prop}{xs:List D}{i:Nat}{d:D}(h:xs[i]?=some d)(q:Φ d):Tl (dIx (.lst xs) (.int (i:Int))) Φ:=by
 show Tl (ofO (at_ xs (i:Int))) Φ
 rw [Zj9,h]
 exact Zau q
theorem ZiA{α:Type}{Φ:Fl→Prop}{g:MG}{k:MS}{ρ:Ev}{enc:α→D}{l:List α}(I:List α→Ev→Prop)(h0:I [] ρ)(h:∀p a r,p++a::r=l→∀ρ,I p ρ→Tl (g (enc a) ρ) fun ρ1=>Tl (k ρ1) fun f=>∃ρ2,f=.nx ρ2∧I (p++[a]) ρ2)(hd:∀ρ,I l ρ→Φ (.nx ρ)):Tl (Zb6 g k (l.map enc) ρ) Φ:=by
 have key:∀(r p:List α),p++r=l→∀ρ,I p ρ→Tl (Zb6 g k (r.map enc) ρ) Φ:=by
  intro r
  induction r with
  | nil =>
   intro p e ρ i
   rw [VaS] at e
   exact w_f0 (hd ρ (e▸i))
  | cons a r ih =>
   intro p e ρ i
   rw [VaM]
   refine w_f1 ((h p a r e ρ i).mono fun ρ1 t=>t.mono fun f ⟨ρ2,e2,i2⟩=>?_)
   subst e2
   exact ih (p++[a]) (by rw [VbK];exact e) ρ2 i2
 exact key l [] rfl ρ h0
theorem Zsa{α:Type}{Φ:Fl→Prop}{g:MG}{k:MS}{ρ:Ev}{enc:α→D}{l:List α}(I:List α→Ev→Prop)(h0:I [] ρ)(h:∀p a r,p++a::r=l→∀ρ,I p ρ→Tl (g (enc a) ρ) fun ρ1=>Tl (k ρ1) fun f=>∃ρ2,(f=.nx ρ2∨f=.ct ρ2)∧I (p++[a]) ρ2)(hd:∀ρ,I l ρ→Φ (.nx ρ)):Tl (Zb6 g k (l.map enc) ρ) Φ:=by
 have key:∀(r p:List α),p++r=l→∀ρ,I p ρ→Tl (Zb6 g k (r.map enc) ρ) Φ:=by
  intro r
  induction r with
  | nil =>
   intro p e ρ i
   rw [VaS] at e
   exact w_f0 (hd ρ (e▸i))
  | cons a r ih =>
   intro p e ρ i
   rw [VaM]
   refine w_f1 ((h p a r e ρ i).mono fun ρ1 t=>t.mono fun f ⟨ρ2,e2,i2⟩=>?_)
   rcases e2 with rfl | rfl
   ·exact ih (p++[a]) (by rw [VbK];exact e) ρ2 i2
   ·exact ih (p++[a]) (by rw [VbK];exact e) ρ2 i2
 exact key l [] rfl ρ h0
structure Sg where
 d:D
 gl:Bool
 q:Rat
 v:D
 own:Rat
 part:Rat
 col:Rat
 k:Int
def insR(acc:List Sg)(s:Sg):List Sg:=acc.takeWhile (fun r=>!decide (s.q<r.q))++s::acc.dropWhile (fun r=>!decide (s.q<r.q))
def insL(acc:List Sg)(s:Sg):List Sg:=acc.take (acc.filter fun l=>decide (s.q<l.q)).length++s::acc.drop (acc.filter fun l=>decide (s.q<l.q)).length
def Asc(l:List Sg):Prop:=l.Pairwise fun a b=>a.q≤b.q
theorem ZfJ(s:Sg):insR [] s=[s]:=rfl
theorem Zc5{a:Sg}{r:List Sg}{s:Sg}(h:s.q<a.q):insR (a::r) s=s::a::r:=by
 unfold insR
 rw [List.takeWhile_cons,List.dropWhile_cons,Vbm h]
 rfl
theorem ZcW{a:Sg}{r:List Sg}{s:Sg}(h:¬s.q<a.q):insR (a::r) s=a::insR r s:=by
 unfold insR
 rw [List.takeWhile_cons,List.dropWhile_cons,Vab h]
 rfl
theorem Zhj{x s:Sg}:∀{l:List Sg},x∈insR l s↔x=s∨x∈l
 | []=>by simp [ZfJ]
 | a::r=>by
  by_cases h:s.q<a.q
  ·rw [Zc5 h,Vaq]
  ·rw [ZcW h,Vaq,Zhj (l:=r),Vaq]
   constructor
   ·rintro (z | z | z)<;>simp [z]
   ·rintro (z | z | z)<;>simp [z]
theorem ZjZ{s:Sg}:∀{l:List Sg},Asc l→Asc (insR l s)
 | [],_=>by rw [ZfJ];exact List.pairwise_singleton _ _
 | a::r,h=>by
  have h':=Vb6.mp h
  by_cases c:s.q<a.q
  ·rw [Zc5 c]
   refine Vb6.mpr ⟨fun x hx=>?_,h⟩
   rcases Vaq.mp hx with rfl | hx
   ·exact Rat.le_of_lt c
   ·exact Rat.le_trans (Rat.le_of_lt c) (h'.1 x hx)
  ·rw [ZcW c]
   refine Vb6.mpr ⟨fun x hx=>?_,ZjZ h'.2⟩
   rcases Zhj.mp hx with rfl | hx
   ·exact Rat.not_lt.mp c
   ·exact h'.1 x hx
theorem ZfX(P:Sg→Bool){s:Sg}:∀{l:List Sg},Asc l→(insR l s).filter P=if P s then insR (l.filter P) s else l.filter P
 | [],_=>by rw [ZfJ,Vci];rfl
 | a::r,h=>by
  have h':=Vb6.mp h
  by_cases c:s.q<a.q
  ·rw [Zc5 c,Vci]
   by_cases hs:P s=true
   ·rw [if_pos hs,if_pos hs]
    have key:∀m:List Sg,(∀x∈m,s.q<x.q)→insR m s=s::m:=by
     intro m hm
     cases m with
     | nil=>rfl
     | cons b t=>exact Zc5 (hm b Van)
    rw [key]
    intro x hx
    have hx:=(Vah.mp hx).1
    rcases Vaq.mp hx with rfl | hx
    ·exact c
    ·exact Std.lt_of_lt_of_le c (h'.1 x hx)
   ·rw [if_neg hs,if_neg hs]
  ·rw [ZcW c,Vci,ZfX P h'.2,Vci]
   by_cases ha:P a=true
   ·rw [if_pos ha,if_pos ha]
    by_cases hs:P s=true
    ·rw [if_pos hs,if_pos hs,ZcW c]
    ·rw [if_neg hs,if_neg hs]
   ·rw [if_neg ha,if_neg ha]
def Zbg(l:List Sg):List Sg:=l.foldl insR []
theorem Zbb(l:List Sg)(s:Sg):Zbg (l++[s])=insR (Zbg l) s:=by unfold Zbg;rw [List.foldl_append];rfl
theorem snoc_ind{α:Type}{M:List α→Prop}(h0:M [])(h1:∀l a,M l→M (l++[a])):∀l,M l:=by
 intro l
 have key:∀r:List α,M r.reverse:=by
  intro r
  induction r with
  | nil=>exact h0
  | cons a r ih=>rw [Vbj];exact h1 _ _ ih
 have:=key l.reverse
 rwa [List.reverse_reverse] at this
theorem ZeI(l:List Sg):Asc (Zbg l):=by
 refine snoc_ind (M:=fun l=>Asc (Zbg l)) List.Pairwise.nil (fun l a ih=>?_) l
 rw [Zbb]
 exact ZjZ ih
theorem ZdA(P:Sg→Bool)(l:List Sg):(Zbg l).filter P=Zbg (l.filter P):=by
 refine snoc_ind (M:=fun l=>(Zbg l).filter P=Zbg (l.filter P)) rfl (fun l a ih=>?_) l
 rw [Zbb,ZfX P (ZeI l),ih,Vck]
 by_cases ha:P a=true
 ·rw [if_pos ha,Vci,if_pos ha,Vcl,Zbb]
 ·rw [if_neg ha,Vci,if_neg ha,Vcl,VaS]
def Zkw(l:List Sg):List Sg:=l.foldl insL []
theorem Zhc(l:List Sg)(s:Sg):Zkw (l++[s])=insL (Zkw l) s:=by unfold Zkw;rw [List.foldl_append];rfl
theorem Zkd{s:Sg}:∀{l:List Sg},Asc l→∃a b,l=a++b∧(∀x∈a,¬s.q<x.q)∧(∀x∈b,s.q<x.q)∧insR l s=a++s::b
 | [],_=>⟨[],[],rfl,fun _ h=>(VbQ h).elim,fun _ h=>(VbQ h).elim,rfl⟩
 | c::r,h=>by
  have h':=Vb6.mp h
  by_cases k:s.q<c.q
  ·refine ⟨[],c::r,rfl,fun _ h=>(VbQ h).elim,fun x hx=>?_,Zc5 k⟩
   rcases Vaq.mp hx with rfl | hx
   ·exact k
   ·exact Std.lt_of_lt_of_le k (h'.1 x hx)
  ·obtain ⟨a,b,e1,e2,e3,e4⟩:=Zkd (s:=s) h'.2
   refine ⟨c::a,b,by rw [e1];rfl,fun x hx=>?_,e3,by rw [ZcW k,e4];rfl⟩
   rcases Vaq.mp hx with rfl | hx
   ·exact k
   ·exact e2 x hx
theorem Zn7{l:List Sg}{s:Sg}(h:Asc l):(insR l s).reverse=insL l.reverse s:=by
 obtain ⟨a,b,rfl,e2,e3,e4⟩:=Zkd (s:=s) h
 rw [e4]
 unfold insL
 have f:((a++b).reverse.filter fun l=>decide (s.q<l.q))=b.reverse:=by
  rw [List.reverse_append,Vck]
  have f1:(b.reverse.filter fun l=>decide (s.q<l.q))=b.reverse:=List.filter_eq_self.mpr fun x hx=>Vbm (e3 x (List.mem_reverse.mp hx))
  have f2:(a.reverse.filter fun l=>decide (s.q<l.q))=[]:=List.filter_eq_nil_iff.mpr fun x hx=>by
   rw [Vcm]
   exact e2 x (List.mem_reverse.mp hx)
  rw [f1,f2,VaS]
 rw [f,List.reverse_append (as:=a) (bs:=b),List.take_left,List.drop_left]
 simp
theorem Zl7(l:List Sg):(Zbg l).reverse=Zkw l:=by
 refine snoc_ind (M:=fun l=>(Zbg l).reverse=Zkw l) rfl (fun l a ih=>?_) l
 rw [Zbb,Zn7 (ZeI l),ih,Zhc]
def ZfQ(n:Option Sg)(s:Sg):Option Sg:=if s.gl=true then n else match n with
  | none=>some s
  | some m=>if s.q<m.q then some s else some m
def near(l:List Sg):Option Sg:=l.foldl ZfQ none
theorem ZhY(l:List Sg)(s:Sg):near (l++[s])=ZfQ (near l) s:=by unfold near;rw [List.foldl_append];rfl
theorem Zln{l:List Sg}{s:Sg}:(insR l s).head?=some (match l.head? with
  | none=>s
  | some m=>if s.q<m.q then s else m):=by
 cases l with
 | nil=>rfl
 | cons a r =>
  by_cases h:s.q<a.q
  ·rw [Zc5 h];show some s=some (if s.q<a.q then s else a);rw [if_pos h]
  ·rw [ZcW h];show some a=some (if s.q<a.q then s else a);rw [if_neg h]
theorem Zl1(l:List Sg):near l=((Zbg l).filter fun s=>!s.gl).head?:=by
 rw [ZdA]
 refine snoc_ind (M:=fun l=>near l=(Zbg (l.filter fun s=>!s.gl)).head?) rfl (fun l s ih=>?_) l
 rw [ZhY,Vck]
 unfold ZfQ
 cases hs:s.gl with
 | true =>
  rw [if_pos rfl,Vci,if_neg (by rw [hs];decide),Vcl,VaS]
  exact ih
 | false =>
  rw [if_neg Vaz,Vci,if_pos (by rw [hs];rfl),Vcl,Zbb,Zln,←ih]
  cases near l with
  | none=>rfl
  | some m =>
   show (if s.q<m.q then some s else some m)=some (if s.q<m.q then s else m)
   by_cases c:s.q<m.q
   ·rw [if_pos c,if_pos c]
   ·rw [if_neg c,if_neg c]
structure GS(s:Sg):Prop where
 ob:∃(c:Str) (ns:List Str) (vs:List D),s.d=.ins c ns vs∧ns.contains "is_glass"=false∧ns.contains "colour_at"=false∧(∃f,Za7.lookup c=some f∧f [s.d]=.ok (.bl s.gl))∧(s.gl=false→∃f,Zbd.lookup c=some f∧f [s.d,s.v]=.ok (frD s.own))
 pt:s.gl=true→dFld objs "part" s.d=.ok (frD s.part)∧dFld objs "colour" s.d=.ok (frD s.col)
 bq:Bq 300 s.q
 bo:Bq 300 s.own
 bp:Bq 32 s.part
 bc:Bq 32 s.col
def seeD:Option Sg→D
 | none=>.non
 | some s=>.tup [frD s.q,s.v]
structure Seen(p d:D)(o:Option Sg):Prop where
 tri:∃T,dFld objs "triangle" d=.ok T∧Zal [T,p]=.ok (seeD o)
 ok:∀s,o=some s→s.d=d∧GS s
abbrev encS(s:Sg):D:=.tup [s.d,frD s.q,s.v]
abbrev DO:=D×Option Sg
def sgts(L:List DO):List Sg:=L.filterMap (·.2)
theorem Zmv(L:List DO)(y:DO):sgts (L++[y])=sgts L++y.2.toList:=by
 unfold sgts
 rw [List.filterMap_append,Vam,List.filterMap_nil]
 cases y.2<;>rfl
theorem Zm8(L:List DO):(sgts L).length≤L.length:=List.length_filterMap_le _ _
theorem Zpc{p:D}{L:List DO}(h:∀y∈L,Seen p y.1 y.2):∀s∈sgts L,GS s:=fun s hs=>by
 obtain ⟨y,hy,e⟩:=VaH.mp hs
 exact ((h y hy).ok s e).2
theorem Zk0{Φ:D→Prop}{tab:List (Str×(List D→Res D))}{m:Str}{o:ME}{a:MA}{ρ:Ev}(h:Tl (o ρ) fun d=>∃(c:Str) (ns:List Str) (vs:List D) (f:List D→Res D),d=.ins c ns vs∧ns.contains m=false∧tab.lookup c=some f∧Tl (a ρ) fun ds=>Tl (f (.ins c ns vs::ds)) Φ):Tl (meth tab m o a ρ) Φ:=by
 obtain ⟨d,e1,c,ns,vs,f,rfl,hn,ht,ds,e2,q⟩:=h
 unfold meth
 rw [e1]
 show Tl (if ns.contains m=true then .bad else match tab.lookup c with
  | some f=>(a ρ).bind fun ds=>f (.ins c ns vs::ds)
  | none=>.bad) Φ
 rw [hn,if_neg Vaz,ht]
 show Tl ((a ρ).bind fun ds=>f (.ins c ns vs::ds)) Φ
 rw [e2]
 exact q
theorem ZsV{Φ:D→Prop}{s:Sg}{o:ME}{ρ:Ev}(g:GS s)(ho:o ρ=.ok s.d)(q:Φ (.bl s.gl)):Tl (meth Za7 "is_glass" o anil ρ) Φ:=by
 obtain ⟨c,ns,vs,e,n1,n2,⟨f,l1,f1⟩,_⟩:=g.ob
 refine Zk0 ⟨_,ho,c,ns,vs,f,e,n1,l1,?_⟩
 refine Zam (x:=[]) rfl ?_
 rw [←e]
 exact Zam f1 q
theorem Zt1{Φ:D→Prop}{s:Sg}{o:ME}{a:MA}{ρ:Ev}(g:GS s)(h:s.gl=false)(ho:o ρ=.ok s.d)(ha:a ρ=.ok [s.v])(q:Φ (frD s.own)):Tl (meth Zbd "colour_at" o a ρ) Φ:=by
 obtain ⟨c,ns,vs,e,n1,n2,_,z⟩:=g.ob
 obtain ⟨f,l1,f1⟩:=z h
 refine Zk0 ⟨_,ho,c,ns,vs,f,e,n2,l1,?_⟩
 refine Zam ha ?_
 rw [←e]
 exact Zam f1 q
theorem ZkJ{Φ:D→Prop}{p:D}{L:List DO}(hL:∀y∈L,Seen p y.1 y.2)(hl:L.length≤1000)(q:Φ (.lst ((sgts L).map encS))):Tl (ZbM [.lst (L.map (·.1)),p]) Φ:=by
 unfold ZbM
 walk_at "w"
 refine ZiA (enc:=fun y:DO=>y.1) (fun pre ρ=>∃v3 v4:Cl,ρ=[.im (.lst (L.map (·.1))),.im p,.ow ((sgts pre).map encS),v3,v4]) ⟨_,_,rfl⟩ ?_ ?_
 ·rintro pre y r e ρ ⟨v3,v4,rfl⟩
  have hy:y∈L:=by rw [←e];simp
  have hlen:pre.length<L.length:=by rw [←e];simp
  obtain ⟨⟨T,t1,t2⟩,ok⟩:=hL y hy
  walk_at "w"
  refine Zam t1 ?_
  walk_at "w"
  refine Zam t2 ?_
  rw [Zmv]
  cases ho:y.2 with
  | none =>
   show Tl _ _
   walk_at "w"
   rw [show (none:Option Sg).toList=[] from rfl,VaS]
   exact ⟨_,rfl,_,_,rfl⟩
  | some s =>
   obtain ⟨e1,g⟩:=ok s ho
   unfold seeD
   walk_at "w"
   have:=Zm8 pre
   refine ⟨by rw [VaN];omega,?_⟩
   rw [VbV,←e1]
   exact ⟨_,rfl,_,_,rfl⟩
 ·rintro ρ ⟨v3,v4,rfl⟩
  walk_at "w"
  exact q
theorem ZfF{Φ:D→Prop}{a b:Rat}(ha:Bq 300 a)(hb:Bq 300 b)(h:Φ (.bl (decide (a<b)))):Tl (Zc2 [frD a,frD b]) Φ:=by
 have m1:Zbk a.num b.den=true:=ZaO ha.n hb.d (by decide)
 have m2:Zbk b.num a.den=true:=ZaO hb.n ha.d (by decide)
 unfold Zc2 frD
 walk_at "w"
 have e:decide (a.num*(b.den:Int)<b.num*(a.den:Int))=decide (a<b):=decide_eq_decide.mpr (Rat.lt_iff a b).symm
 rw [e]
 exact h
def optS:Option Sg→D
 | none=>.non
 | some s=>encS s
theorem ZmR{Φ:D→Prop}{l:List Sg}(hl:∀s∈l,GS s)(q:Φ (optS (near l))):Tl (ZbV [.lst (l.map encS)]) Φ:=by
 unfold ZbV
 walk_at "w"
 refine Zsa (enc:=encS) (fun pre ρ=>∃v2:Cl,(∀s,near pre=some s→s∈pre)∧ρ=[.im (.lst (l.map encS)),.im (optS (near pre)),v2]) ⟨.no,(fun s h=>by cases h),rfl⟩ ?_ ?_
 ·rintro pre s r e ρ ⟨v2,hm,rfl⟩
  have hs:s∈l:=by rw [←e];simp
  have gs:=hl s hs
  have bs:=gs.bq
  have hm':∀t,ZfQ (near pre) s=some t→t∈pre++[s]:=by
   intro t ht
   unfold ZfQ at ht
   by_cases hg:s.gl=true
   ·rw [if_pos hg] at ht
    exact Vas _ (hm t ht)
   ·rw [if_neg hg] at ht
    cases hn:near pre with
    | none=>rw [hn] at ht;cases ht;simp
    | some m =>
     rw [hn] at ht
     have ht:(if s.q<m.q then some s else some m)=some t:=ht
     by_cases c:s.q<m.q
     ·rw [if_pos c] at ht;cases ht;simp
     ·rw [if_neg c] at ht;cases ht;exact Vas _ (hm _ hn)
  rw [ZhY]
  walk_at "w"
  refine ZsV gs rfl ?_
  walk_at "w"
  cases hg:s.gl with
  | true =>
   walk_at "w"
   have e2:ZfQ (near pre) s=near pre:=by unfold ZfQ;rw [if_pos hg]
   rw [e2] at hm' ⊢
   exact ⟨_,.inr rfl,_,hm',rfl⟩
  | false =>
   walk_at "w"
   cases hn:near pre with
   | none =>
    have e2:ZfQ none s=some s:=by unfold ZfQ;rw [if_neg (by rw [hg];exact Bool.false_ne_true)]
    rw [hn,e2] at hm'
    rw [e2]
    show Tl _ _
    unfold optS
    walk_at "w"
    exact ⟨_,.inl rfl,_,hm',rfl⟩
   | some m =>
    have gm:=hl m (by rw [←e];exact Vas _ (hm _ hn))
    rw [hn] at hm'
    have e2:ZfQ (some m) s=if s.q<m.q then some s else some m:=by unfold ZfQ;rw [if_neg (by rw [hg];exact Bool.false_ne_true)]
    unfold optS
    walk_at "w"
    refine ZfF bs gm.bq ?_
    walk_at "w"
    refine ZcP (fun c=>?_) (fun c=>?_)
    ·rw [e2,if_pos c] at hm' ⊢
     walk_at "w"
     exact ⟨_,.inl rfl,_,hm',rfl⟩
    ·rw [e2,if_neg c] at hm' ⊢
     walk_at "w"
     exact ⟨_,.inl rfl,_,hm',rfl⟩
 ·rintro ρ ⟨v2,hm,rfl⟩
  walk_at "w"
  exact q
theorem ZsD{Φ:Fl→Prop}{i:Nat}{k e:ME}{ρ:Ev}{xs:List D}(hx:ρ[i]?=some (.ow xs))(h:Tl (k ρ) fun u=>∃j:Nat,u=.int (j:Int)∧j≤xs.length∧xs.length<1000000∧Tl (e ρ) fun d=>Φ (.nx (ρ.set i (.ow (xs.take j++d::xs.drop j))))):Tl (insO i k e ρ) Φ:=by
 obtain ⟨u,e1,j,rfl,h1,h2,d,e2,q⟩:=h
 unfold insO
 rw [hx]
 show Tl ((k ρ).bind _) Φ
 rw [e1]
 show Tl ((e ρ).bind fun d=>if (0≤(j:Int)∧(j:Int)≤xs.length)∧xs.length<LIM then .ok (.nx (ρ.set i (.ow (xs.take (j:Int).toNat++d::xs.drop (j:Int).toNat)))) else .bad) Φ
 rw [e2]
 show Tl (if (0≤(j:Int)∧(j:Int)≤xs.length)∧xs.length<LIM then .ok (.nx (ρ.set i (.ow (xs.take (j:Int).toNat++d::xs.drop (j:Int).toNat)))) else .bad) Φ
 rw [if_pos ⟨by omega,h2⟩,VbA]
 exact Zau q
theorem Zjf{α:Type}{Φ:List D→Prop}{g:MG}{t:MB}{e:ME}{ρ:Ev}{enc:α→D}(P:α→Bool):∀{l:List α},(∀a∈l,Tl (g (enc a) ρ) fun ρ1=>Tl (t ρ1) fun b=>b=P a∧Tl (e ρ1) fun y=>y=enc a)→Φ ((l.filter P).map enc)→Tl (Zak g t e ρ (l.map enc)) Φ:=by
 intro l h q
 have key:∀l:List α,(∀a∈l,Tl (g (enc a) ρ) fun ρ1=>Tl (t ρ1) fun b=>b=P a∧Tl (e ρ1) fun y=>y=enc a)→Zak g t e ρ (l.map enc)=.ok ((l.filter P).map enc):=by
  intro l
  induction l with
  | nil=>exact fun _=>rfl
  | cons a r ih =>
   intro h
   obtain ⟨ρ1,e1,b,e2,hb,y,e3,rfl⟩:=h a Van
   have z:=ih fun c hc=>h c (Vao _ hc)
   rw [VaM,Zc7,e1,Zb1,e2,Zb1,Vci]
   by_cases c:P a=true
   ·rw [hb,if_pos c,if_pos c,e3,Zb1,z];rfl
   ·rw [hb,if_neg c,if_neg c,z]
 exact Zam (key l h) q
def Zco(n:Option Sg)(s:Sg):Bool:=s.gl&&(match n with
 | none=>true
 | some m=>decide (s.q<m.q))
def lay(n:Option Sg)(l:List Sg):List Sg:=Zkw (l.filter (Zco n))
theorem ZeZ(n:Option Sg)(l:List Sg)(s:Sg):lay n (l++[s])=if Zco n s=true then insL (lay n l) s else lay n l:=by
 unfold lay
 rw [Vck,Vci,Vcl]
 by_cases h:Zco n s=true
 ·rw [if_pos h,if_pos h,Zhc]
 ·rw [if_neg h,if_neg h,VaS]
theorem Zm9{x s:Sg}{l:List Sg}(h:x∈insL l s):x=s∨x∈l:=by
 unfold insL at h
 rcases Var.mp h with h | h
 ·exact .inr (Vcg h)
 ·rcases Vaq.mp h with h | h
  ·exact .inl h
  ·exact .inr (List.mem_of_mem_drop h)
theorem ZmN{n:Option Sg}{x:Sg}{l:List Sg}:x∈lay n l→x∈l∧Zco n x=true:=by
 refine snoc_ind (M:=fun l=>x∈lay n l→x∈l∧Zco n x=true) (fun h=>by cases h) (fun l s ih h=>?_) l
 rw [ZeZ] at h
 by_cases c:Zco n s=true
 ·rw [if_pos c] at h
  rcases Zm9 h with rfl | h
  ·exact ⟨by simp,c⟩
  ·exact ⟨Vas _ (ih h).1,(ih h).2⟩
 ·rw [if_neg c] at h
  exact ⟨Vas _ (ih h).1,(ih h).2⟩
theorem ZnR(l:List Sg)(s:Sg):(insL l s).length=l.length+1:=by
 unfold insL
 have:=Vcn (fun t:Sg=>decide (s.q<t.q)) l
 simp
 omega
theorem Zmq(n:Option Sg)(l:List Sg):(lay n l).length≤l.length:=by
 refine snoc_ind (M:=fun l=>(lay n l).length≤l.length) (VaF _) (fun l s ih=>?_) l
 rw [ZeZ,Va4,Vbl]
 by_cases c:Zco n s=true
 ·rw [if_pos c,ZnR];omega
 ·rw [if_neg c];omega
theorem ZnX{Φ:D→Prop}{n:Option Sg}{l:List Sg}(hn:∀m,n=some m→GS m)(hl:∀s∈l,GS s)(hs:l.length≤1000)(q:Φ (.lst ((lay n l).map encS))):Tl (Zbe [optS n,.lst (l.map encS)]) Φ:=by
 unfold Zbe
 walk_at "w"
 refine ZiA (enc:=encS) (fun pre ρ=>∃v3 v4:Cl,ρ=[.im (optS n),.im (.lst (l.map encS)),.ow ((lay n pre).map encS),v3,v4]) ⟨_,_,rfl⟩ ?_ ?_
 ·rintro pre s r e ρ ⟨v3,v4,rfl⟩
  have hm:s∈l:=by rw [←e];simp
  have hlen:pre.length<l.length:=by rw [←e];simp
  have gs:=hl s hm
  have gp:∀x∈lay n pre,GS x:=fun x hx=>hl x (by rw [←e];exact Vas _ (ZmN hx).1)
  have ll:=Zmq n pre
  have tail:Zco n s=true→∀v4:Cl,Tl ((sq (st 4 (pk 2 (on bLen (Zaa (comp (iv (v 2)) 1 [3] (gN 0) (trb (on Zc2 (Zaa (o2 dIx (v 1) (c (.int 1))) (Zaa (o2 dIx (v 0) (c (.int 1))) anil)))) (v 0)) anil)))) (insO 2 (v 4) (v 3))) [.im (optS n),.im (.lst (l.map encS)),.ow ((lay n pre).map encS),.im (encS s),v4]) fun f=>∃ρ2,f=.nx ρ2∧∃v3 v4:Cl,ρ2=[.im (optS n),.im (.lst (l.map encS)),.ow ((lay n (pre++[s])).map encS),v3,v4]:=by
   intro ho v4
   rw [ZeZ,if_pos ho]
   walk_at "w"
   refine ⟨by rw [VaN];omega,?_⟩
   refine Zjf (fun t:Sg=>decide (s.q<t.q)) (fun t ht=>?_) ?_
   ·walk_at "w"
    refine ZfF gs.bq (gp t ht).bq ?_
    walk_at "w"
    exact ⟨rfl,by walk_at "w"⟩
   walk_at "w"
   refine ZsD rfl ?_
   walk_at "w"
   have:=Vcn (fun t:Sg=>decide (s.q<t.q)) (lay n pre)
   refine ⟨((lay n pre).filter fun t=>decide (s.q<t.q)).length,by rw [VaN],by rw [VaN];exact this,by rw [VaN];omega,?_⟩
   walk_at "w"
   rw [←Vb5,←List.map_drop,←VaM,←VbV]
   exact ⟨_,rfl,_,_,rfl⟩
  have skip:Zco n s=false→∃ρ2,Fl.nx [.im (optS n),.im (.lst (l.map encS)),.ow ((lay n pre).map encS),.im (encS s),v4]=.nx ρ2∧∃v3 v4:Cl,ρ2=[.im (optS n),.im (.lst (l.map encS)),.ow ((lay n (pre++[s])).map encS),v3,v4]:=fun ho=>by
   rw [ZeZ,ho,if_neg Vaz]
   exact ⟨_,rfl,_,_,rfl⟩
  walk_at "w"
  refine ZsV gs rfl ?_
  walk_at "w"
  cases hg:s.gl with
  | false =>
   walk_at "w"
   exact skip (by unfold Zco;rw [hg];rfl)
  | true =>
   cases n with
   | none =>
    unfold optS
    walk_at "w"
    have ho:Zco none s=true:=by unfold Zco;rw [hg];rfl
    rw [ZeZ,if_pos ho]
    refine ⟨by rw [VaN];omega,?_⟩
    refine Zjf (fun t:Sg=>decide (s.q<t.q)) (fun t ht=>?_) ?_
    ·walk_at "w"
     refine ZfF gs.bq (gp t ht).bq ?_
     walk_at "w"
     exact ⟨rfl,by walk_at "w"⟩
    walk_at "w"
    refine ZsD rfl ?_
    walk_at "w"
    have:=Vcn (fun t:Sg=>decide (s.q<t.q)) (lay none pre)
    refine ⟨((lay none pre).filter fun t=>decide (s.q<t.q)).length,by rw [VaN],by rw [VaN];exact this,by rw [VaN];omega,?_⟩
    walk_at "w"
    rw [←Vb5,←List.map_drop,←VaM,←VbV]
    exact ⟨_,rfl,_,_,rfl⟩
   | some m =>
    unfold optS
    walk_at "w"
    refine ZfF gs.bq (hn m rfl).bq ?_
    walk_at "w"
    refine ZcP (fun c=>?_) (fun c=>?_)
    ·exact tail (by unfold Zco;rw [hg];simp [c]) _
    ·walk_at "w"
     exact skip (by unfold Zco;rw [hg];simp [c])
 ·rintro ρ ⟨v3,v4,rfl⟩
  walk_at "w"
  exact q
theorem Zpt(p q:Rat):Rat.divInt (p.num*q.den - q.num*p.den) (p.den*q.den)=p - q:=by
 have hp:=den1 p
 have hq:=den1 q
 rw [Rat.sub_eq_add_neg,←Zhw p (-q),Rat.neg_num,Rat.neg_den]
 congr 1
 grind
theorem ZnW{Φ:D→Prop}{p q:Rat}{a b:Nat}(hp:Bq a p)(hq:Bq b q)(hab:a+b≤4000)(h:Bq (a+b+1) (p - q)→Φ (frD (p - q))):Tl (Ze2 [frD p,frD q]) Φ:=by
 have m1:Zbk p.num q.den=true:=ZaO hp.n hq.d (by omega)
 have m2:Zbk q.num p.den=true:=ZaO hq.n hp.d (by omega)
 have m3:Zbk p.den q.den=true:=ZaO hp.d hq.d (by omega)
 have s0:Sm (a+b) (q.num*p.den):=Nat.add_comm b a▸hq.n.mul hp.d
 have s1:Sm (a+b+1) (p.num*q.den - q.num*p.den):=by
  have z:=((hp.n.mul hq.d).add s0.neg).mono (show max (a+b) (a+b)+1≤a+b+1 by omega)
  rw [←Int.sub_eq_add_neg] at z
  exact z
 have s2:Sm (a+b+1) ((p.den:Int)*q.den):=(hp.d.mul hq.d).mono (by omega)
 have d0:0<(p.den:Int)*q.den:=Vcd (den1 p) (den1 q)
 unfold Ze2 frD
 walk_at "w"
 refine Zdg d0 s1 s2 (by omega) ?_
 rw [Zpt]
 intro hB
 walk_at "w"
 exact h hB
def mixQ(s:Sg)(c:Rat):Rat:=s.part*s.col+(1 - s.part)*c
theorem ZrK:Bq 1 (1:Rat):=⟨by show (1:Int).natAbs<2^1;decide,by show (1:Int).natAbs<2^1;decide⟩
theorem Zsc{Φ:D→Prop}{s:Sg}{c:Rat}{B:Nat}(g:GS s)(hg:s.gl=true)(hc:Bq B c)(hB:B≤3000)(q:Bq (B+170) (mixQ s c)→Φ (frD (mixQ s c))):Tl (ZbJ [s.d,frD c]) Φ:=by
 obtain ⟨p1,p2⟩:=g.pt hg
 unfold ZbJ
 walk_at "w"
 refine Zam p1 ?_
 walk_at "w"
 show Tl (Ze2 [frD 1,frD s.part]) _
 refine ZnW ZrK g.bp (by decide) fun b1=>?_
 walk_at "w"
 refine Zam p1 ?_
 walk_at "w"
 refine Zam p2 ?_
 walk_at "w"
 refine ZlW g.bp g.bc (by decide) fun b2=>?_
 walk_at "w"
 refine ZlW b1 hc (by omega) fun b3=>?_
 walk_at "w"
 refine ZqH b2 b3 (by omega) fun b4=>?_
 walk_at "w"
 exact q (b4.mono (by omega))
def Zhz(g:Rat):Option Sg→Rat
 | none=>g
 | some m=>m.own
def layQ(l:List Sg)(c:Rat):Rat:=l.foldl (fun c s=>mixQ s c) c
def colQ(g:Rat)(l:List Sg):Rat:=layQ (lay (near l) l) (Zhz g (near l))
theorem Zhl{l:List Sg}{m:Sg}(h:near l=some m):m∈l∧m.gl=false:=by
 rw [Zl1] at h
 have z:=List.mem_of_mem_head? (by rw [h];rfl:m∈((Zbg l).filter fun s=>!s.gl).head?)
 rw [ZdA] at z
 have key:∀k:List Sg,m∈Zbg k→m∈k:=by
  intro k
  refine snoc_ind (M:=fun k=>m∈Zbg k→m∈k) (fun h=>h) (fun k s ih h=>?_) k
  rw [Zbb] at h
  rcases Zhj.mp h with rfl | h
  ·simp
  ·exact Vas _ (ih h)
 have y:=Vah.mp (key _ z)
 exact ⟨y.1,by simpa using y.2⟩
theorem ZpI{n:Option Sg}{s:Sg}(h:Zco n s=true):s.gl=true:=by
 unfold Zco at h
 rw [Vbh] at h
 exact h.1
def rowD(w:Nat)(R:Nat→Rat):D:=.lst ((List.range w).map fun j=>frD (R j))
def patD(h w:Nat)(P:Nat→Nat→Rat):D:=.lst ((List.range h).map fun i=>rowD w (P i))
def Ct(n:Nat):Prop:=n=1∨n=2∨n=4∨n=8∨n=16
theorem Ct.le{n:Nat}(h:Ct n):1≤n∧n≤16:=by unfold Ct at h;omega
theorem ZmE{Φ:D→Prop}{n:Nat}(hn:Ct n)(h:Φ (.bl false)):Tl (dNin (.int (n:Int)) (.tup [.int 1,.int 2,.int 4,.int 8,.int 16])) Φ:=by
 refine Zam ?_ h
 rcases hn with rfl | rfl | rfl | rfl | rfl<;>rfl
theorem ZdQ{Φ:D→Prop}{n:Int}(h:Φ (.bl true)):Tl (Zaz [.int n]) Φ:=by
 unfold Zaz
 walk_at "w"
 exact h
theorem Zc9{Φ:D→Prop}{q:Rat}(h:Φ (.bl true)):Tl (ZaF [frD q]) Φ:=by
 have d:=den1 q
 unfold ZaF frD
 walk_at "w"
 refine ZdQ ?_
 walk_at "w"
 refine ZdQ ?_
 walk_at "w"
 refine Zec (ns:=[q.num,(q.den:Int)]) ?_
 rw [Mt.ZjA,show Int.gcd q.num (q.den:Int)=1 by show Nat.gcd q.num.natAbs (q.den:Int).natAbs=1;rw [Vca];exact q.reduced]
 walk_at "w"
 exact h
theorem Zgv{Φ:D→Prop}{h w:Nat}{P:Nat→Nat→Rat}(hh:Ct h)(hw:Ct w)(q:Φ .non):Tl (ZaS [patD h w P]) Φ:=by
 have h1:=hh.le
 have w1:=hw.le
 have hp:patD h w P=.lst (rowD w (P 0)::((List.range (h - 1)).map fun i=>rowD w (P (i+1)))):=by
  unfold patD
  obtain ⟨k,rfl⟩ : ∃k,h=k+1:=⟨h - 1,by omega⟩
  rw [List.range_succ_eq_map,VaM,VbJ]
  rfl
 unfold ZaS
 unfold patD
 walk_at "w"
 rw [VaN,VbF]
 refine ZmE hh ?_
 walk_at "w"
 refine Zfv (fun j ρ=>∃v1:Cl,ρ=[.im (patD h w P),v1]) ⟨_,rfl⟩ ?_ ?_
 ·rintro j hj ρ ⟨v1,rfl⟩
  unfold rowD
  walk_at "w"
  rw [VaN,VbF]
  refine ZmE hw ?_
  walk_at "w"
  rw [hp]
  walk_at "w"
  unfold rowD
  walk_at "w"
  rw [VaN,VbF,VaN,VbF]
  walk_at "w"
  refine ⟨by rw [VaN,VbF];omega,?_⟩
  refine Zct (fun _:Nat=>D.bl true) (fun k hk=>?_) ?_
  ·walk_at "w"
   exact Zc9 rfl
  walk_at "w"
  refine ZiO (fun y hy=>?_) ?_
  ·obtain ⟨_,_,rfl⟩:=Vbs.mp hy
   rfl
  walk_at "w"
  exact ⟨_,rfl,_,rfl⟩
 ·rintro ρ ⟨v1,rfl⟩
  walk_at "w"
  exact q
theorem Zqw{Φ:D→Prop}{h w:Nat}{P:Nat→Nat→Rat}{i:Nat}(hi:i<h)(q:Φ (rowD w (P i))):Tl (dIx (patD h w P) (.int (i:Int))) Φ:=by
 unfold patD
 rw [ZhH,Zj9,Va2,VbG hi]
 exact Zau q
theorem ZqM{Φ:D→Prop}{w:Nat}{R:Nat→Rat}{i:Nat}(hi:i<w)(q:Φ (frD (R i))):Tl (dIx (rowD w R) (.int (i:Int))) Φ:=by
 unfold rowD
 rw [ZhH,Zj9,Va2,VbG hi]
 exact Zau q
theorem Zj1(k:Nat)(q:Rat):plain (k+1) (frD q)=true:=by
 show Zap k [.int q.num,.int (q.den:Int)]=true
 cases k<;>rfl
theorem Zis{Φ:D→Prop}{vs:List Int}(hl:vs.length≤3)(h:Φ (.bl true)):Tl (ZbW [.tup (vs.map .int)]) Φ:=by
 unfold ZbW
 walk_at "w"
 rw [VaN]
 walk_at "w"
 refine ⟨by omega,?_⟩
 refine Zct (fun _:Int=>D.bl true) (fun k hk=>?_) ?_
 ·walk_at "w"
  exact ZdQ rfl
 walk_at "w"
 refine ZiO (fun y hy=>?_) ?_
 ·obtain ⟨_,_,rfl⟩:=Vbs.mp hy
  rfl
 walk_at "w"
 exact h
theorem ZhE{Φ:D→Prop}{x y w h:Int}{vs:List Int}(hh:1≤h)(hl:vs.length≤3)(q:Φ (.bl true)):Tl (Zci [cor x y w h vs]) Φ:=by
 unfold Zci cor
 walk_at "w"
 rw [show cutL [D.int x,D.int y,D.int w,D.int h,D.tup (List.map D.int vs)] none (some 4)=[x,y,w,h].map D.int from rfl]
 refine ⟨by show (4:Nat)≤_;omega,?_⟩
 refine Zct (fun _:Int=>D.bl true) (fun k hk=>?_) ?_
 ·walk_at "w"
  exact ZdQ rfl
 walk_at "w"
 refine ZiO (fun y hy=>?_) ?_
 ·obtain ⟨_,_,rfl⟩:=Vbs.mp hy
  rfl
 walk_at "w"
 refine Zis hl ?_
 walk_at "w"
 exact q
structure Tr(k:Nat)(T:D):Prop where
 ex:∃(ax ay aw ah bx bY bw bh cx cy cw ch:Int) (av bv cv:List Int),T=.tup [cor ax ay aw ah av,cor bx bY bw bh bv,cor cx cy cw ch cv]∧Ck ax ay aw ah∧Ck bx bY bw bh∧Ck cx cy cw ch ∧
  av.length=k∧bv.length=k∧cv.length=k∧(∀v∈av,Bd v)∧(∀v∈bv,Bd v)∧(∀v∈cv,Bd v)
theorem ZqP{k:Nat}{T:D}(hk:k≤3)(h:Tr k T):Za0 [T]=.ok .non:=by
 obtain ⟨ax,ay,aw,ah,bx,bY,bw,bh,cx,cy,cw,ch,av,bv,cv,rfl,ca,cb,cc,la,lb,lc,_⟩:=h
 refine Tl.eq ?_
 unfold Za0
 walk_at "w"
 refine w_f1 ?_
 walk_at "w"
 refine ZhE ca.h.1 (by omega) ?_
 unfold cor
 walk_at "w"
 refine w_f1 ?_
 walk_at "w"
 refine ZhE cb.h.1 (by omega) ?_
 walk_at "w"
 refine w_f1 ?_
 walk_at "w"
 refine ZhE cc.h.1 (by omega) ?_
 walk_at "w"
 refine w_f0 ?_
 walk_at "w"
theorem ZpB{k:Nat}{T:D}(h:Tr k T):Zan [T]=.ok .non:=by
 obtain ⟨ax,ay,aw,ah,bx,bY,bw,bh,cx,cy,cw,ch,av,bv,cv,rfl,ca,cb,cc,la,lb,lc,_⟩:=h
 have h1:=ca.w.1
 have h2:=cb.w.1
 have h3:=cc.w.1
 refine Tl.eq ?_
 unfold Zan cor
 walk_at "w"
 refine w_f1 ?_
 walk_at "w"
 refine w_f1 ?_
 walk_at "w"
 refine w_f1 ?_
 walk_at "w"
 refine w_f0 ?_
 walk_at "w"
theorem Zls(q:Rat):ZaP [frD q]=.ok .non:=by
 refine Tl.eq ?_
 unfold ZaP
 walk_at "w"
 refine Zc9 ?_
 walk_at "w"
theorem Zna{q:Rat}(h0:0≤q.num)(h1:q.num≤q.den):ZbX [frD q]=.ok .non:=by
 refine Tl.eq ?_
 unfold ZbX
 walk_at "w"
 refine Zc9 ?_
 unfold frD
 walk_at "w"
theorem Zkc{k:Nat}{T:D}{n:Int}(h:Tr k T)(hn:n≤k):ZaQ [T,.int n]=.ok .non:=by
 obtain ⟨ax,ay,aw,ah,bx,bY,bw,bh,cx,cy,cw,ch,av,bv,cv,rfl,ca,cb,cc,la,lb,lc,_⟩:=h
 refine Tl.eq ?_
 unfold ZaQ cor
 walk_at "w"
theorem Zgr{f:Str}{d:D}{k:MSi}{ρ:Ev}{fl:Fs}{e:ME}(he:e ρ=.ok d)(hn:(fl.map (·.1)).contains f=false)(hl:fl.length<100):iSet f e k ρ fl=k ρ (fl++[(f,d)]):=by
 unfold iSet
 rw [he]
 show (if (fl.map (·.1)).contains f=true∨100≤fl.length then Res.bad else k ρ (fl++[(f,d)]))=_
 rw [if_neg]
 rintro (z | z)
 ·rw [hn] at z;cases z
 ·omega
theorem Zfn{d:D}{k:MSi}{ρ:Ev}{fl:Fs}{e:ME}(he:e ρ=.ok d):iDrp e k ρ fl=k ρ fl:=by
 unfold iDrp
 rw [he]
 rfl
theorem Zkl{g:List D→Fs→Res Fs}{a:MA}{ds:List D}{k:MSi}{ρ:Ev}{fl fl':Fs}(ha:a ρ=.ok ds)(hg:g ds fl=.ok fl'):iSup g a k ρ fl=k ρ fl':=by
 unfold iSup
 rw [ha]
 show (g ds fl).bind _=_
 rw [hg]
 rfl
theorem no_c:([("triangle" : Str)]:List Str).contains "colour"=false:=by decide +kernel
theorem ZtU:([("triangle" : Str)]:List Str).contains "pattern"=false:=by decide +kernel
theorem Zul:([("triangle" : Str), "colour"]:List Str).contains "part"=false:=by decide +kernel
abbrev fsT(T:D):Fs:=[(("triangle" : Str),T)]
theorem ZhB{k:Nat}{T:D}(hk:k≤3)(h:Tr k T):Zb4 [T] []=.ok (fsT T):=by
 unfold Zb4 fnI
 rw [Zfn (d:=.non) (ZqP hk h),Zfn (d:=.non) (ZpB h),Zgr (d:=T) rfl rfl (by decide)]
 rfl
theorem Zmw{k:Nat}{T:D}{q:Rat}(hk:k≤3)(h:Tr k T):ZdK [T,frD q] []=.ok [(("triangle" : Str),T),(("colour" : Str),frD q)]:=by
 unfold ZdK fnI
 rw [Zkl (ds:=[T]) rfl (ZhB hk h),Zfn (d:=.non) (Zls q),Zgr (d:=frD q) rfl no_c (by show (1:Nat)<100;decide)]
 rfl
theorem Zke{k:Nat}{T:D}(hk:k≤3)(h:Tr k T)(h1:1≤k):Zcv [T] []=.ok (fsT T):=by
 unfold Zcv fnI
 rw [Zkl (ds:=[T]) rfl (ZhB hk h),Zfn (d:=.non) (Zkc h (by omega))]
 rfl
theorem Zmi{k:Nat}{T:D}{q r:Rat}(hk:k≤3)(h:Tr k T)(h0:0≤r.num)(h1:r.num≤r.den):Zdp [T,frD q,frD r] []=.ok [(("triangle" : Str),T),(("colour" : Str),frD q),(("part" : Str),frD r)]:=by
 unfold Zdp fnI
 rw [Zkl (ds:=[T]) rfl (ZhB hk h),Zfn (d:=.non) (Zls q),Zfn (d:=.non) (Zna h0 h1),Zgr (d:=frD q) rfl no_c (by show (1:Nat)<100;decide),Zgr (d:=frD r) rfl Zul (by show (2:Nat)<100;decide)]
 rfl
theorem Zne{Φ:D→Prop}{h w:Nat}{P:Nat→Nat→Rat}(hh:h≤100)(q:Φ (patD h w P)):Tl (ZdS [patD h w P]) Φ:=by
 unfold ZdS patD
 walk_at "w"
 refine ⟨by rw [VaN,VbF];omega,?_⟩
 refine Zct (fun i:Nat=>rowD w (P i)) (fun i hi=>?_) ?_
 ·unfold rowD
  walk_at "w"
 walk_at "w"
 exact q
theorem ZoD{k h w:Nat}{T:D}{P:Nat→Nat→Rat}(hk:k≤3)(ht:Tr k T)(h2:2≤k)(hh:Ct h)(hw:Ct w):Za6 [T,patD h w P] []=.ok [(("triangle" : Str),T),(("pattern" : Str),patD h w P)]:=by
 have h1:=hh.le
 have c1:ZaS [patD h w P]=.ok .non:=Tl.eq (Zgv hh hw rfl)
 have c2:ZdS [patD h w P]=.ok (patD h w P):=Tl.eq (Zne (by omega) rfl)
 unfold Za6 fnI
 rw [Zkl (ds:=[T]) rfl (ZhB hk ht),Zfn (d:=.non) (Zkc ht (by omega)),Zfn (d:=.non) c1,Zgr (d:=patD h w P) c2 ZtU (by show (1:Nat)<100;decide)]
 rfl
inductive Thg:D→Prop
 | plain {k:Nat} {T:D} {q:Rat}:Tr k T→k≤3→Bq 32 q→Thg (.ins "Plain" ["triangle", "colour"] [T,frD q])
 | shaded {k:Nat} {T:D}:Tr k T→k≤3→1≤k→Thg (.ins "Shaded" ["triangle"] [T])
 | patt {k h w:Nat} {T:D} {P:Nat→Nat→Rat}:Tr k T→k≤3→2≤k→Ct h→Ct w→(∀i,i<h→∀j,j<w→Bq 32 (P i j))→Thg (.ins "Patterned" ["triangle", "pattern"] [T,patD h w P])
 | glass {k:Nat} {T:D} {q r:Rat}:Tr k T→k≤3→Bq 32 q→Bq 32 r→0≤r.num→r.num≤r.den→Thg (.ins "Glass" ["triangle", "colour", "part"] [T,frD q,frD r])
theorem fT1(T q:D):dFld objs "triangle" (.ins "Plain" ["triangle", "colour"] [T,q])=.ok T:=rfl
theorem fT2(T:D):dFld objs "triangle" (.ins "Shaded" ["triangle"] [T])=.ok T:=rfl
theorem fT3(T q:D):dFld objs "triangle" (.ins "Patterned" ["triangle", "pattern"] [T,q])=.ok T:=rfl
theorem fT4(T q r:D):dFld objs "triangle" (.ins "Glass" ["triangle", "colour", "part"] [T,q,r])=.ok T:=rfl
theorem fC1(T q:D):dFld objs "colour" (.ins "Plain" ["triangle", "colour"] [T,q])=.ok q:=rfl
theorem fC4(T q r:D):dFld objs "colour" (.ins "Glass" ["triangle", "colour", "part"] [T,q,r])=.ok q:=rfl
theorem fP4(T q r:D):dFld objs "part" (.ins "Glass" ["triangle", "colour", "part"] [T,q,r])=.ok r:=rfl
theorem fN3(T q:D):dFld objs "pattern" (.ins "Patterned" ["triangle", "pattern"] [T,q])=.ok q:=rfl
theorem ZlF{x:Int}{n:Nat}(h:1≤n):∃i:Nat,x%(n:Int)=(i:Int)∧i<n:=by
 have a:=VbZ x (show (n:Int)≠0 by omega)
 have b:=Vb0 x (show (0:Int)<n by omega)
 exact ⟨(x%(n:Int)).toNat,by omega,by omega⟩
theorem ZoL{Φ:D→Prop}{q:Rat}{k:Nat}(hb:Bq k q)(hk:k≤8000)(h:Φ (.int (q.num/(q.den:Int)))):Tl (Zhb [frD q]) Φ:=by
 have d:=den1 q
 have l:=hb.d.log (show k<9000 by omega)
 unfold Zhb frD
 generalize q.num=n at *
 generalize (q.den:Int)=m at *
 walk_at "w"
 exact h
theorem Zo5{Φ:D→Prop}{h w:Nat}{P:Nat→Nat→Rat}{u v:Rat}(hh:Ct h)(hw:Ct w)(bu:Bq 300 u)(bv:Bq 300 v)(q:∀i j,i<h→j<w→Φ (frD (P i j))):∃i j,i<h∧j<w∧ZcR [patD h w P,frD u,frD v]=.ok (frD (P i j)):=by
 have h1:=hh.le
 have w1:=hw.le
 obtain ⟨i,ei,hi⟩:=ZlF (x:=v.num/(v.den:Int)) h1.1
 obtain ⟨j,ej,hj⟩:=ZlF (x:=u.num/(u.den:Int)) w1.1
 refine ⟨i,j,hi,hj,Tl.eq ?_⟩
 unfold ZcR
 walk_at "w"
 refine ZoL bv (by decide) ?_
 walk_at "w"
 rw [VaN,VbF]
 walk_at "w"
 rw [ei]
 refine Zqw hi ?_
 walk_at "w"
 refine ZoL bu (by decide) ?_
 walk_at "w"
 rw [VaN,VbF]
 walk_at "w"
 rw [ej]
 refine ZqM hj ?_
 walk_at "w"
theorem Zoo{t b:Int}{k:Nat}(hb:b≠0)(st:Sm k t)(sb:Sm k b):Bq k (Rat.divInt t b):=by
 have F:=Mt.ZsB (t:=t) hb
 have e:=Zeo (t:=t) (b:=b) hb
 unfold fra frD at e
 injection e with e
 injection e with e1 e2
 injection e1 with e1
 injection e2 with e2 _
 injection e2 with e2
 exact ⟨e1▸st.le F.np,e2▸sb.le F.nq⟩
theorem ZeG{k:Nat}{T:D}{px py ps:Int}(h:Tr k T)(hk:k≤3)(cp:Cr px py ps)(hp:1≤ps):Zal [T,.tup [.int px,.int py,.int ps]]=.ok .non ∨
  ∃(q:Rat) (vs:List Rat),vs.length=k∧Bq 300 q∧(∀v∈vs,Bq 300 v)∧Zal [T,.tup [.int px,.int py,.int ps]]=.ok (.tup [frD q,.tup (vs.map frD)]):=by
 obtain ⟨ax,ay,aw,ah,bx,bY,bw,bh,cx,cy,cw,ch,av,bv,cv,rfl,ca,cb,cc,la,lb,lc,va,vb,vc⟩:=h
 have sm:∀{n:Int},1≤n∧n≤1000000→Sm 64 n:=fun h=>Sm.of64 (by omega) (by omega)
 have fa:Cv 64 ax ay aw ah av:=⟨ca.cr.x,ca.cr.y,ca.cr.w,sm ca.h,fun v hv=>(va v hv).s,ca.h.1⟩
 have fb:Cv 64 bx bY bw bh bv:=⟨cb.cr.x,cb.cr.y,cb.cr.w,sm cb.h,fun v hv=>(vb v hv).s,cb.h.1⟩
 have fc:Cv 64 cx cy cw ch cv:=⟨cc.cr.x,cc.cr.y,cc.cr.w,sm cc.h,fun v hv=>(vc v hv).s,cc.h.1⟩
 by_cases h0:hdE ax ay aw bx bY bw cx cy cw px py ps=0
 ·left
  exact Tl.eq (Zi8 ca.w.1 cb.w.1 cc.w.1 ca.cr cb.cr cc.cr cp h0 rfl)
 ·right
  have W:=ZoP (by have:=ca.w;omega) (by have:=cb.w;omega) (by have:=cc.w;omega) (by omega) h0
  have se:=cb.cr.ow cc.cr cp
  have sf:=cc.cr.ow ca.cr cp
  have s3:=ca.cr.ow cb.cr cp
  have n0:=Zom ca.h.1 cb.h.1 cc.h.1 W
  have e:=Tl.eq (Zjl (Φ:=fun x=>x=_) ca.w.1 cb.w.1 cc.w.1 hp ca.cr cb.cr cc.cr cp fa fb fc (by omega) h0 rfl rfl rfl rfl rfl)
  have sB:=Zjz fa.fh fb.fh fc.fh se sf s3
  have sT:=Zjz fa.fw fb.fw fc.fw se sf s3
  generalize ow bx bY bw cx cy cw px py ps=e1 at *
  generalize ow cx cy cw ax ay aw px py ps=e2 at *
  generalize ow ax ay aw bx bY bw px py ps=e3 at *
  generalize hB:dot ah bh ch e1 e2 e3=B at *
  refine ⟨Rat.divInt (dot aw bw cw e1 e2 e3) B,(av.zip (bv.zip cv)).map fun t=>Rat.divInt (dot t.1 t.2.1 t.2.2 e1 e2 e3) B,?_,(Zoo n0 sT sB).mono (by decide),fun v hv=>?_,?_⟩
  ·rw [VaN,List.length_zip,List.length_zip];omega
  ·obtain ⟨t,ht,rfl⟩:=Vbs.mp hv
   obtain ⟨t1,t2,t3⟩:=ZjC ht
   exact (Zoo n0 (Zjz (fa.fv _ t1) (fb.fv _ t2) (fc.fv _ t3) se sf s3) sB).mono (by decide)
  ·rw [e,Zeo n0]
   unfold vls
   rw [VbJ]
   congr 3
   congr 1
   congr 1
   exact Vaa fun t _=>Zeo n0
theorem Zkm{α β:Type}(f:α→β)(R:Nat→α)(x:α)(n:Nat):(List.range n).map (fun i=>f (R i))++[f x]=(List.range (n+1)).map fun i=>f ((fun i=>if i=n then x else R i) i):=by
 rw [List.range_succ,VbV]
 show _=_++[f (if n=n then x else R n)]
 rw [if_pos rfl,show (List.range n).map (fun i=>f ((fun i=>if i=n then x else R i) i))=(List.range n).map (fun i=>f (R i)) from Vaa fun i hi=>by
  show f (if i=n then x else R i)=_
  rw [if_neg (by have:=Vai.mp hi;omega)]]
theorem Zjr{α:Type}{Q:α→Prop}{R:Nat→α}{x:α}{n:Nat}(h:∀i,i<n→Q (R i))(hx:Q x):∀i,i<n+1→Q ((fun i=>if i=n then x else R i) i):=fun i hi=>by
 show Q (if i=n then x else R i)
 by_cases c:i=n
 ·rw [if_pos c];exact hx
 ·rw [if_neg c];exact h i (by omega)
theorem ZmW(a:Int):D.tup [.int a,.int 1]=frD (a:Rat):=rfl
theorem ZoC{a:Int}{k:Nat}(h:Sm k a)(hk:1≤k):Bq k (a:Rat):=⟨h,by
 show (1:Int).natAbs<2^k
 exact Nat.one_lt_two_pow (by omega)⟩
theorem Zlw{Φ:D→Prop}{n more:Int}(hn:0≤n)(q:∀(h w:Nat) (P:Nat→Nat→Rat),Ct h→Ct w→(∀i,i<h→∀j,j<w→Bq 32 (P i j))→Φ (patD h w P)):Tl (Zbj [.int n,.int more]) Φ:=by
 unfold Zbj
 walk_at "w"
 refine Zir ⟨by omega,by show _<((4:Nat):Int);omega⟩ fun d hd=>?_
 obtain ⟨h,rfl,hh⟩ : ∃n:Nat,d=.int (n:Int)∧Ct n:=by
  simp only [Vaq,VbQ,VbR] at hd
  rcases hd with rfl | rfl | rfl | rfl
  ·exact ⟨1,rfl,by unfold Ct;omega⟩
  ·exact ⟨2,rfl,by unfold Ct;omega⟩
  ·exact ⟨4,rfl,by unfold Ct;omega⟩
  ·exact ⟨16,rfl,by unfold Ct;omega⟩
 walk_at "w"
 refine Zir ⟨by omega,by show _<((4:Nat):Int);omega⟩ fun d hd=>?_
 obtain ⟨w,rfl,hw⟩ : ∃n:Nat,d=.int (n:Int)∧Ct n:=by
  simp only [Vaq,VbQ,VbR] at hd
  rcases hd with rfl | rfl | rfl | rfl
  ·exact ⟨1,rfl,by unfold Ct;omega⟩
  ·exact ⟨2,rfl,by unfold Ct;omega⟩
  ·exact ⟨8,rfl,by unfold Ct;omega⟩
  ·exact ⟨4,rfl,by unfold Ct;omega⟩
 have h1:=hh.le
 have w1:=hw.le
 walk_at "w"
 rw [Zbh,VbA]
 refine Zfv (fun j ρ=>∃(P:Nat→Nat→Rat) (v5 v6 v7 v8:Cl),(∀i,i<j→∀t,t<w→Bq 32 (P i t))∧ρ=[.im (.int n),.im (.int more),.im (.int (h:Int)),.im (.int (w:Int)),.ow ((List.range j).map fun i=>rowD w (P i)),v5,v6,v7,v8]) ⟨fun _ _=>0,_,_,_,_,(fun i hi=>absurd hi (Nat.not_lt_zero i)),rfl⟩ ?_ ?_
 ·rintro j hj ρ ⟨P,v5,v6,v7,v8,hP,rfl⟩
  walk_at "w"
  rw [Zbh,VbA]
  refine Zfv (fun t ρ=>∃(R:Nat→Rat) (v7 v8:Cl),(∀i,i<t→Bq 32 (R i))∧ρ=[.im (.int n),.im (.int more),.im (.int (h:Int)),.im (.int (w:Int)),.ow ((List.range j).map fun i=>rowD w (P i)),.im (.int (j:Int)),.ow ((List.range t).map fun i=>frD (R i)),v7,v8]) ⟨fun _=>0,_,_,(fun i hi=>absurd hi (Nat.not_lt_zero i)),rfl⟩ ?_ ?_
  ·rintro t ht ρ ⟨R,v7,v8,hR,rfl⟩
   walk_at "w"
   refine ZmP (by omega) fun r hr=>?_
   walk_at "w"
   refine Zdg (k:=32) (by omega) (by show (r - 10^9).natAbs<2^32;omega) (by show (1+r/9%99).natAbs<2^32;omega) (by decide) fun hB=>?_
   walk_at "w"
   rw [ZmW]
   refine Zir ⟨by omega,by show _<((2:Nat):Int);omega⟩ fun d hd=>?_
   obtain ⟨x,rfl,hx⟩ : ∃x:Rat,d=frD x∧Bq 32 x:=by
    simp only [Vaq,VbQ,VbR] at hd
    rcases hd with rfl | rfl
    ·exact ⟨_,rfl,ZoC (by show (r%7).natAbs<2^32;omega) (by decide)⟩
    ·exact ⟨_,rfl,hB⟩
   refine ⟨by rw [VaN,VbF];omega,?_⟩
   rw [Zkm frD R x t]
   exact ⟨_,rfl,_,_,_,Zjr hR hx,rfl⟩
  ·rintro ρ ⟨R,v7,v8,hR,rfl⟩
   walk_at "w"
   refine ⟨by rw [VaN,VbF];omega,?_⟩
   rw [show D.lst ((List.range w).map fun i=>frD (R i))=rowD w R from rfl,Zkm (rowD w) P R j]
   exact ⟨_,rfl,_,_,_,_,_,Zjr (Q:=fun S:Nat→Rat=>∀t,t<w→Bq 32 (S t)) hP hR,rfl⟩
 ·rintro ρ ⟨P,v5,v6,v7,v8,hP,rfl⟩
  walk_at "w"
  exact q h w P hh hw hP
theorem Zfq{Φ:D→Prop}{c:Str}{g:List D→Fs→Res Fs}{a:MA}{ρ:Ev}(h:Tl (a ρ) fun ds=>∃fl,g ds []=.ok fl∧Φ (.ins c (fl.map (·.1)) (fl.map (·.2)))):Tl (make c g a ρ) Φ:=by
 obtain ⟨ds,e1,fl,e2,q⟩:=h
 refine Zam ?_ q
 unfold make
 rw [e1]
 show (g ds []).bind _=_
 rw [e2]
 rfl
theorem Zsx{rs:List Int}{k:Nat}:cutL (rs.map .int) none (some (k:Int))=(rs.take k).map .int:=by
 unfold cutL cutAt
 rw [VaN]
 simp only []
 rw [if_neg (by omega),VbA,Vbw,Nat.sub_zero,Vb5]
 by_cases h:k≤rs.length
 ·rw [Vcf h]
 ·rw [Nat.min_eq_right (by omega),Vbx (by simp),Vbx (by simp;omega)]
theorem Zkz{k:Nat}{d:D}(h:isT k d):Tr k d:=by
 obtain ⟨a,b,c,rfl,⟨ax,ay,aw,ah,av,rfl,ca,la,ba⟩,⟨bx,bY,bw,bh,bv,rfl,cb,lb,bb⟩,⟨cx,cy,cw,ch,cv,rfl,cc,lc,bc⟩⟩:=h
 exact ⟨ax,ay,aw,ah,bx,bY,bw,bh,cx,cy,cw,ch,av,bv,cv,rfl,ca,cb,cc,la,lb,lc,ba,bb,bc⟩
theorem ZrW{x y w h:Int}{vs:List Int}{f:Nat}:∃d1,dCut (cor x y w h vs) none (some 4)=.ok d1∧dAdd d1 (.tup [.tup (cutL (vs.map .int) none (some (f:Int)))])=.ok (cor x y w h (vs.take f)):=by
 refine ⟨.tup [.int x,.int y,.int w,.int h],rfl,?_⟩
 rw [Zsx]
 rfl
theorem ZkU{Φ:D→Prop}{k:Nat}{T:D}{n0 n1 n2 n3:Int}(d0:Dw n0)(d1:Dw n1)(d2:Dw n2)(d3:Dw n3)(hk:2≤k∧k≤3)(ht:isT k T)(q:∀d,Thg d→Φ d):Tl (ZbY [.lst [.int n0,.int n1,.int n2,.int n3],T]) Φ:=by
 unfold Dw at d0 d1 d2 d3
 unfold ZbY
 walk_at "w"
 refine Zdg (k:=32) (by omega) (by show (2*(n0/8%9)+1).natAbs<2^32;omega) (by show (2:Int).natAbs<2^32;decide) (by decide) fun hB1=>?_
 walk_at "w"
 refine Zdg (k:=32) (by omega) (by show (n1 - 10^9).natAbs<2^32;omega) (by show (1+n2).natAbs<2^32;omega) (by decide) fun hB2=>?_
 walk_at "w"
 rw [ZmW]
 refine Zir ⟨by omega,by show _<((3:Nat):Int);omega⟩ fun d hd=>?_
 obtain ⟨cq,rfl,hc⟩ : ∃x:Rat,d=frD x∧Bq 32 x:=by
  simp only [Vaq,VbQ,VbR] at hd
  rcases hd with rfl | rfl | rfl
  ·exact ⟨_,rfl,ZoC (by show (n0/8%9 - 2).natAbs<2^32;omega) (by decide)⟩
  ·exact ⟨_,rfl,hB1⟩
  ·exact ⟨_,rfl,hB2⟩
 clear hd
 walk_at "w"
 refine ZcP (fun w0=>?_) (fun w0=>?_)
 ·obtain ⟨a,b,c,rfl,⟨ax,ay,aw,ah,av,rfl,ca,la,ba⟩,⟨bx,bY,bw,bh,bv,rfl,cb,lb,bb⟩,⟨cx,cy,cw,ch,cv,rfl,cc,lc,bc⟩⟩:=ht
  obtain ⟨f,hf⟩ : ∃f:Nat,1+n0/8%3=(f:Int):=⟨(1+n0/8%3).toNat,by omega⟩
  walk_at "w"
  refine Zfq ?_
  walk_at "w"
  refine ⟨by show (3:Nat)≤_;omega,?_⟩
  rw [hf]
  have few:=fun (x y w h:Int) (vs:List Int)=>ZrW (x:=x) (y:=y) (w:=w) (h:=h) (vs:=vs) (f:=f)
  obtain ⟨a1,ea1,ea3⟩:=few ax ay aw ah av
  obtain ⟨b1,eb1,eb3⟩:=few bx bY bw bh bv
  obtain ⟨c1,ec1,ec3⟩:=few cx cy cw ch cv
  have tr:Tr (min f k) (.tup [cor ax ay aw ah (av.take f),cor bx bY bw bh (bv.take f),cor cx cy cw ch (cv.take f)]):=⟨ax,ay,aw,ah,bx,bY,bw,bh,cx,cy,cw,ch,_,_,_,rfl,ca,cb,cc,by rw [VaX,la],by rw [VaX,lb],by rw [VaX,lc],fun v hv=>ba v (Vcg hv),fun v hv=>bb v (Vcg hv),fun v hv=>bc v (Vcg hv)⟩
  refine Zfb ?_
  walk_at "w"
  refine Zam ea1 ?_
  walk_at "w"
  refine Zam ea3 ?_
  walk_at "w"
  refine Zfb ?_
  walk_at "w"
  refine Zam eb1 ?_
  walk_at "w"
  refine Zam eb3 ?_
  walk_at "w"
  refine Zfb ?_
  walk_at "w"
  refine Zam ec1 ?_
  walk_at "w"
  refine Zam ec3 ?_
  walk_at "w"
  refine Zk7 ?_
  walk_at "w"
  exact ⟨_,Zke (by omega) tr (by omega),by walk_at "w"; exact q _ (.shaded tr (by omega) (by omega))⟩
 walk_at "w"
 refine ZcP (fun w1=>?_) (fun w1=>?_)
 ·walk_at "w"
  refine Zfq ?_
  walk_at "w"
  refine Zlw (by omega) fun h w P hh hw hP=>?_
  walk_at "w"
  exact ⟨_,ZoD hk.2 (Zkz ht) hk.1 hh hw,by walk_at "w"; exact q _ (.patt (Zkz ht) hk.2 hk.1 hh hw hP)⟩
 walk_at "w"
 refine ZcP (fun w2=>?_) (fun w2=>?_)
 ·walk_at "w"
  refine Zfq ?_
  walk_at "w"
  exact ⟨_,Zmw hk.2 (Zkz ht),by walk_at "w"; exact q _ (.plain (Zkz ht) hk.2 hc)⟩
 walk_at "w"
 refine Zdg (k:=32) (t:=n3%(1+n1)) (by omega) (by have:=VbZ n3 (show 1+n1≠0 by omega);have:=Vb0 n3 (show 0<1+n1 by omega);show (n3%(1+n1)).natAbs<2^32;omega) (by show (1+n1).natAbs<2^32;omega) (by decide) fun hB3=>?_
 walk_at "w"
 have r0:=VbZ n3 (show 1+n1≠0 by omega)
 have r1:=Vb0 n3 (show 0<1+n1 by omega)
 have lo:∀{t b:Int},0≤t→t≤b→0<b→0≤(Rat.divInt t b).num∧(Rat.divInt t b).num≤(Rat.divInt t b).den:=by
  intro t b h0 h1 hb
  have d0:=den1 (Rat.divInt t b)
  have e:=(Rat.divInt_eq_divInt_iff (by omega) (by omega)).mp (Vch (Rat.divInt t b))
  generalize (Rat.divInt t b).num=p at *
  generalize ((Rat.divInt t b).den:Int)=m at *
  have g0:0≤t*m:=Int.mul_nonneg h0 (by omega)
  have g1:t*m≤b*m:=Vce h1 (by omega)
  constructor
  ·by_cases c:0≤p
   ·exact c
   ·exfalso
    have:=Int.mul_lt_mul_of_pos_right (show p<0 by omega) hb
    omega
  ·by_cases c:p≤m
   ·exact c
   ·exfalso
    have:=Int.mul_lt_mul_of_pos_right (show m<p by omega) hb
    have c2:m*b=b*m:=Int.mul_comm _ _
    omega
 refine Zir ⟨by omega,by show _<((6:Nat):Int);omega⟩ fun d hd=>?_
 obtain ⟨pq,rfl,hp,hp0,hp1⟩ : ∃x:Rat,d=frD x∧Bq 32 x∧0≤x.num∧x.num≤x.den:=by
  have lit:∀{t b:Int},D.tup [.int t,.int b]=frD (Rat.divInt t b)→0≤t→t≤b→0<b→b<2^30→∃x:Rat,D.tup [.int t,.int b]=frD x∧Bq 32 x∧0≤x.num∧x.num≤x.den:=fun {t b} e h0 h1 hb h2=>⟨_,e,Zjy hb (by show t.natAbs<2^32;omega) (by show b.natAbs<2^32;omega),lo h0 h1 hb⟩
  simp only [Vaq,VbQ,VbR] at hd
  rcases hd with rfl | rfl | rfl | rfl | rfl | rfl
  ·exact lit (t:=0) (b:=1) (by unfold frD;rw [show (Rat.divInt 0 1).num=0 by decide +kernel,show (Rat.divInt 0 1).den=1 by decide +kernel];rfl) (by decide) (by decide) (by decide) (by decide)
  ·exact lit (t:=1) (b:=2) (by unfold frD;rw [show (Rat.divInt 1 2).num=1 by decide +kernel,show (Rat.divInt 1 2).den=2 by decide +kernel];rfl) (by decide) (by decide) (by decide) (by decide)
  ·exact lit (t:=1) (b:=3) (by unfold frD;rw [show (Rat.divInt 1 3).num=1 by decide +kernel,show (Rat.divInt 1 3).den=3 by decide +kernel];rfl) (by decide) (by decide) (by decide) (by decide)
  ·exact lit (t:=2) (b:=3) (by unfold frD;rw [show (Rat.divInt 2 3).num=2 by decide +kernel,show (Rat.divInt 2 3).den=3 by decide +kernel];rfl) (by decide) (by decide) (by decide) (by decide)
  ·exact lit (t:=1) (b:=1) (by unfold frD;rw [show (Rat.divInt 1 1).num=1 by decide +kernel,show (Rat.divInt 1 1).den=1 by decide +kernel];rfl) (by decide) (by decide) (by decide) (by decide)
  ·exact ⟨_,rfl,hB3,lo r0 (by omega) (by omega)⟩
 walk_at "w"
 refine Zfq ?_
 walk_at "w"
 exact ⟨_,Zmi hk.2 (Zkz ht) hp0 hp1,by walk_at "w"; exact q _ (.glass (Zkz ht) hk.2 hc hp hp0 hp1)⟩
theorem Zii(s:Sg):∀l:List Sg,(insR l s).Perm (s::l)
 | []=>by rw [ZfJ]
 | a::r=>by
  by_cases c:s.q<a.q
  ·rw [Zc5 c]
  ·rw [ZcW c]
   exact ((Zii s r).cons a).trans (List.Perm.swap s a r)
theorem ZdO(l:List Sg):(Zbg l).Perm l:=by
 refine snoc_ind (M:=fun l=>(Zbg l).Perm l) (List.Perm.refl _) (fun l a ih=>?_) l
 rw [Zbb]
 exact (Zii a _).trans ((ih.cons a).trans (List.perm_append_singleton a l).symm)
theorem Zip{l:List Sg}(h:Asc l)(nd:(l.map (·.q)).Nodup):l.Pairwise fun a b=>a.q<b.q:=by
 unfold List.Nodup at nd
 rw [List.pairwise_map] at nd
 exact (h.and nd).imp fun {a b} z=>Rat.lt_of_le_of_ne z.1 z.2
theorem ZhV:∀{l m:List Sg},l.Perm m→(l.Pairwise fun a b=>a.q<b.q)→(m.Pairwise fun a b=>a.q<b.q)→l=m
 | [],m,hp,_,_=>(List.Perm.eq_nil hp.symm).symm
 | a::r,[],hp,_,_=>absurd hp.length_eq (by simp)
 | a::r,b::t,hp,h1,h2=>by
  have g1:=Vb6.mp h1
  have g2:=Vb6.mp h2
  have e:a=b:=by
   have ha:a∈b::t:=hp.mem_iff.mp Van
   have hb:b∈a::r:=hp.mem_iff.mpr Van
   rcases Vaq.mp ha with e | ha
   ·exact e
   ·rcases Vaq.mp hb with e | hb
    ·exact e.symm
    ·exact absurd (g1.1 b hb) (Rat.not_lt.mpr (Rat.le_of_lt (g2.1 a ha)))
  subst e
  rw [ZhV (List.Perm.cons_inv hp) g1.2 g2.2]
theorem Znr{l m:List Sg}(hp:l.Perm m)(nd:(l.map (·.q)).Nodup):Zbg l=Zbg m:=by
 refine ZhV ((ZdO l).trans (hp.trans (ZdO m).symm)) (Zip (ZeI l) ?_) (Zip (ZeI m) ?_)
 ·exact ((ZdO l).map _).nodup_iff.mpr nd
 ·exact (((ZdO m).trans hp.symm).map _).nodup_iff.mpr nd
theorem ZnH(n:Option Sg)(l:List Sg):lay n l=((Zbg l).filter (Zco n)).reverse:=by
 unfold lay
 rw [←Zl7,ZdA]
theorem Zex(g:Rat)(l:List Sg):colQ g l=layQ ((Zbg l).filter (Zco ((Zbg l).filter fun s=>!s.gl).head?)).reverse (Zhz g ((Zbg l).filter fun s=>!s.gl).head?):=by
 unfold colQ
 rw [ZnH,Zl1]
theorem Zly{g:Rat}{l m:List Sg}(hp:l.Perm m)(nd:(l.map (·.q)).Nodup):colQ g l=colQ g m:=by
 rw [Zex,Zex,Znr hp nd]
structure Kp(f:Sg→Sg):Prop where
 gl:∀s,(f s).gl=s.gl
 q:∀s,(f s).q=s.q
 own:∀s,(f s).own=s.own
 part:∀s,(f s).part=s.part
 col:∀s,(f s).col=s.col
theorem ZjF{f:Sg→Sg}(h:Kp f)(s:Sg):∀l:List Sg,insR (l.map f) (f s)=(insR l s).map f
 | []=>rfl
 | a::r=>by
  rw [VaM]
  by_cases c:s.q<a.q
  ·rw [Zc5 c,Zc5 (by rw [h.q,h.q];exact c)]
   rfl
  ·rw [ZcW c,ZcW (by rw [h.q,h.q];exact c),ZjF h s r]
   rfl
theorem Zlx{f:Sg→Sg}(h:Kp f)(l:List Sg):Zbg (l.map f)=(Zbg l).map f:=by
 refine snoc_ind (M:=fun l=>Zbg (l.map f)=(Zbg l).map f) rfl (fun l a ih=>?_) l
 rw [VbV,VaM,List.map_nil,Zbb,Zbb,ih,ZjF h]
theorem Zj0{f:Sg→Sg}(h:Kp f):∀(l:List Sg) (c:Rat),layQ (l.map f) c=layQ l c
 | [],_=>rfl
 | s::l,c=>by
  have e:mixQ (f s) c=mixQ s c:=by unfold mixQ;rw [h.part,h.col]
  show layQ (l.map f) (mixQ (f s) c)=layQ l (mixQ s c)
  rw [e,Zj0 h l]
theorem Znt{f:Sg→Sg}(h:Kp f)(g:Rat)(l:List Sg):colQ g (l.map f)=colQ g l:=by
 rw [Zex,Zex,Zlx h]
 have e1:((Zbg l).map f).filter (fun s=>!s.gl)=((Zbg l).filter fun s=>!s.gl).map f:=by
  rw [List.filter_map]
  congr 1
  refine List.filter_congr fun s _=>?_
  show (!(f s).gl)=_
  rw [h.gl]
 rw [e1,List.head?_map]
 generalize ((Zbg l).filter fun s=>!s.gl).head?=n
 have e2:((Zbg l).map f).filter (Zco (n.map f))=((Zbg l).filter (Zco n)).map f:=by
  rw [List.filter_map]
  congr 1
  refine List.filter_congr fun s _=>?_
  show Zco (n.map f) (f s)=_
  unfold Zco
  rw [h.gl]
  cases n with
  | none=>rfl
  | some m =>
   show (s.gl&&decide ((f s).q<(f m).q))=_
   rw [h.q,h.q]
 rw [e2,←List.map_reverse,Zj0 h]
 congr 1
 cases n with
 | none=>rfl
 | some m=>exact h.own m
theorem Zja{Φ:D→Prop}{ns:List Int}(q:∀ts:List D,ts.length≤4→(∀t∈ts,Thg t)→Φ (.lst ts)):Tl (Zbu [.lst (ns.map .int),.int 0,.int 4]) Φ:=by
 unfold Zbu
 walk_at "w"
 refine ZcN (by omega) fun c1=>?_
 walk_at "w"
 refine ZgH (n:=16) (by decide) fun ds ld hd=>?_
 walk_at "w"
 refine ZcN (by omega) fun c2=>?_
 walk_at "w"
 obtain ⟨k,hk⟩ : ∃k:Nat,2+c2/2%2=(k:Int):=⟨(2+c2/2%2).toNat,by omega⟩
 rw [hk]
 refine Zjo (first:=0) (most:=4) (many:=k) (by omega) (by decide) (by omega) fun tr lt ht=>?_
 walk_at "w"
 have en:Dl.numbered 0 tr=tr.zipIdx.map fun y=>D.tup [.int (y.2:Int),y.1]:=by
  have key:∀(l:List D) (k:Nat),Dl.numbered k l=(l.zipIdx k).map fun y=>D.tup [.int (y.2:Int),y.1]:=by
   intro l
   induction l with
   | nil=>intro k;rfl
   | cons a r ih =>
    intro k
    rw [List.zipIdx_cons,VaM,←ih (k+1)]
    rfl
  exact key tr 0
 rw [en]
 refine ZiA (enc:=fun y:D×Nat=>D.tup [.int (y.2:Int),y.1]) (fun pre ρ=>∃(ts:List D) (v6 v7:Cl),ts.length=pre.length∧(∀t∈ts,Thg t)∧ρ=[.im (.lst (ns.map .int)),.im (.int 0),.im (.int 4),.im (.lst (ds.map .int)),.ow ts,.im (.int (k:Int)),v6,v7]) ⟨[],_,_,rfl,(fun _ h=>(VbQ h).elim),rfl⟩ ?_ ?_
 ·rintro pre ⟨T,i⟩ r e ρ ⟨ts,v6,v7,lts,hts,rfl⟩
  have hz:tr.zipIdx[pre.length]?=some (T,i):=by rw [←e];simp
  have hz':tr[pre.length]?=some T∧i=pre.length:=by
   rw [List.getElem?_zipIdx] at hz
   cases eL:tr[pre.length]? with
   | none=>rw [eL] at hz;cases hz
   | some y' =>
    rw [eL] at hz
    simp at hz
    exact ⟨by rw [hz.1],hz.2.symm⟩
  obtain ⟨hz1,rfl⟩:=hz'
  have hlen:pre.length<tr.length:=by
   have:=Vax List.length e
   simp at this
   omega
  obtain ⟨n0,n1,n2,n3,e4,d0,d1,d2,d3⟩ : ∃n0 n1 n2 n3:Int,(ds.drop (4*pre.length)).take 4=[n0,n1,n2,n3]∧Dw n0∧Dw n1∧Dw n2∧Dw n3:=by
   have hall:∀x∈(ds.drop (4*pre.length)).take 4,Dw x:=fun x hx=>hd x (List.mem_of_mem_drop (Vcg hx))
   have hl:((ds.drop (4*pre.length)).take 4).length=4:=by rw [VaX,Vbb];omega
   generalize (ds.drop (4*pre.length)).take 4=l at *
   match l,hl,hall with
   | [a,b,c,d],_,h=>exact ⟨a,b,c,d,rfl,h a (by simp),h b (by simp),h c (by simp),h d (by simp)⟩
  walk_at "w"
  rw [show (4*(pre.length:Int))=((4*pre.length:Nat):Int) by omega,show (((4*pre.length:Nat):Int)+4)=((4*pre.length+4:Nat):Int) by omega,Zjg (by omega) (by omega),show 4*pre.length+4 - 4*pre.length=4 by omega,e4]
  refine ZkU d0 d1 d2 d3 (by omega) (ht T (Va3 hz1)) fun d hd=>?_
  refine ⟨by omega,_,rfl,ts++[d],_,_,by rw [Va4,Va4,lts];rfl,fun t h=>?_,rfl⟩
  rcases Var.mp h with h | h
  ·exact hts t h
  ·have:t=d:=by simpa using h
   subst this
   exact hd
 ·rintro ρ ⟨ts,v6,v7,lts,hts,rfl⟩
  walk_at "w"
  exact q ts (by rw [lts,List.length_zipIdx];exact lt) hts
theorem ZiZ{Φ:D→Prop}{it:MI}{own:Nat}{cap:List Nat}{g:MG}{t:MB}{e:ME}{ρ:Ev}(h:Tl (it ρ) fun xs=>xs.length≤1000000∧Tl (Zak g t e (noA own (capD ρ cap)) xs) fun ys=>Φ (.lst ys)):Tl (Zi0 it own cap g t e ρ) Φ:=by
 obtain ⟨xs,e1,hl,ys,e2,q⟩:=h
 refine Zam ?_ q
 unfold Zi0
 rw [e1]
 show (if xs.length≤LIM then (Zak g t e (noA own (capD ρ cap)) xs).bind (fun ys=>Res.ok (D.lst ys)) else .bad)=_
 rw [if_pos (show xs.length≤LIM from hl),e2]
 rfl
theorem ZdP(kf:Nat→List Int):∀(n:Nat) (k:List Int),k∈firsts kf n↔∃i,i<n∧kf i=k
 | 0,k=>by simp [firsts]
 | n+1,k=>by
  have ih:=ZdP kf n k
  unfold firsts
  split
  ·next h =>
   rw [ih]
   constructor
   ·rintro ⟨i,hi,e⟩
    exact ⟨i,by omega,e⟩
   ·rintro ⟨i,hi,e⟩
    by_cases z:i=n
    ·subst z
     obtain ⟨j,hj,e'⟩:=(ZdP kf i (kf i)).mp h
     exact ⟨j,hj,e'.trans e⟩
    ·exact ⟨i,by omega,e⟩
  ·rw [Var,ih,Vb8]
   constructor
   ·rintro (⟨i,hi,e⟩ | e)
    ·exact ⟨i,by omega,e⟩
    ·exact ⟨n,by omega,e.symm⟩
   ·rintro ⟨i,hi,e⟩
    by_cases z:i=n
    ·subst z;exact .inr e.symm
    ·exact .inl ⟨i,by omega,e⟩
theorem Zdy(kf:Nat→List Int):∀n,(firsts kf n).length≤n
 | 0=>VaF _
 | n+1=>by
  have:=Zdy kf n
  unfold firsts
  split
  ·omega
  ·simp;omega
theorem Zgo(kf:Nat→List Int):∀n,(firsts kf n).length=n↔∀i j,i<j→j<n→kf i≠kf j
 | 0=>by simp [firsts]
 | n+1=>by
  have ih:=Zgo kf n
  have le:=Zdy kf n
  unfold firsts
  split
  ·next h =>
   obtain ⟨i,hi,e⟩:=(ZdP kf n (kf n)).mp h
   constructor
   ·intro z;omega
   ·intro z;exact absurd e (z i n hi (by omega))
  ·next h =>
   have h':∀i,i<n→kf i≠kf n:=fun i hi e=>h ((ZdP kf n (kf n)).mpr ⟨i,hi,e⟩)
   rw [Va4,Vbl]
   constructor
   ·intro z i j hij hj
    have z':=ih.mp (by omega)
    by_cases q:j=n
    ·subst q;exact h' i hij
    ·exact z' i j hij (by omega)
   ·intro z
    have:=ih.mpr fun i j hij hj=>z i j hij (by omega)
    omega
theorem Zkg{α:Type}{enc:α→D}{key:α→List Int}(h:∀a,∃ds,enc a=.tup ds∧intsOf ds=some (key a)):∀l:List α,keysOf (l.map enc)=some (l.map key)
 | []=>rfl
 | a::r=>by
  obtain ⟨ds,e1,e2⟩:=h a
  rw [VaM,e1]
  unfold keysOf
  rw [e2,Zkg h r]
  rfl
theorem ZmD{α:Type} [DecidableEq α] {enc:α→D} {key:α→List Int} (h:∀a,∃ds,enc a=.tup ds∧intsOf ds=some (key a)) (inj:∀a b,key a=key b→a=b) {l:List α} (hl:l.length≤16) :
  ∃n:Nat,Zgg (.lst (l.map enc))=.ok (.int (n:Int))∧(n=l.length↔l.Nodup):=by
 refine ⟨(firsts (fun i=>(l.map key).getD i []) (l.map enc).length).length,?_,?_⟩
 ·show (match keysOf (l.map enc) with | some ks=>if (l.map enc).length≤16 then Res.ok (D.int ((firsts (fun i=>ks.getD i []) (l.map enc).length).length:Nat)) else Res.bad | none=>Res.bad)=_
  rw [Zkg h]
  show (if _ then _ else _)=_
  rw [if_pos (by rw [VaN];exact hl)]
 ·rw [VaN,Zgo]
  unfold List.Nodup
  rw [Vb1]
  have at_:∀i (hi:i<l.length),(l.map key).getD i []=key l[i]:=fun i hi=>by simp [List.getD,hi]
  constructor
  ·intro z i j hi hj hij e
   exact z i j hij hj (by rw [at_ i hi,at_ j hj,e])
  ·intro z i j hij hj e
   rw [at_ i (by omega),at_ j hj] at e
   exact z i j (by omega) hj hij (inj _ _ e)
theorem Zmk{α:Type}{Φ:Fl→Prop}{g:MG}{k:MS}{enc:α→D}{ts:List α}(I:List α→Ev→Prop)(h:∀us t vs,ts=us++t::vs→∀ρ,I us ρ→Tl (g (enc t) ρ) fun ρ1=>Tl (k ρ1) fun f=>(∃ρ2,f=.nx ρ2∧I (us++[t]) ρ2)∨∃d,f=.rt d∧Φ (.rt d))(hd:∀ρ,I ts ρ→Φ (.nx ρ)){ρ:Ev}(h0:I [] ρ):Tl (Zb6 g k (ts.map enc) ρ) Φ:=by
 have key:∀(vs us:List α) (ρ:Ev),ts=us++vs→I us ρ→Tl (Zb6 g k (vs.map enc) ρ) Φ:=by
  intro vs
  induction vs with
  | nil =>
   intro us ρ e i
   rw [VaS] at e
   subst e
   exact w_f0 (hd ρ i)
  | cons t vs ih =>
   intro us ρ e i
   obtain ⟨ρ1,e1,f,e2,q⟩:=h us t vs e ρ i
   rw [VaM]
   refine w_f1 ⟨ρ1,e1,_,e2,?_⟩
   rcases q with ⟨ρ2,rfl,i2⟩ | ⟨d,rfl,q⟩
   ·exact ih (us++[t]) ρ2 (by rw [e];simp) i2
   ·exact Zau q
 exact key ts [] ρ rfl h0
theorem Zrh{a b:Rat}(h:[a.num,(a.den:Int)]=[b.num,(b.den:Int)]):a=b:=by
 injection h with h1 h2
 injection h2 with h2 _
 exact Rat.ext h1 (by omega)
abbrev encP(d:Int×Int):D:=.tup [.int d.1,.int d.2]
abbrev cell(c r:Nat):D:=.tup [.int (c:Int),.int (r:Int)]
def rowC(pr:Nat→Nat→Bool)(r:Nat):Nat→List D
 | 0=>[]
 | c+1=>rowC pr r c++if pr c r=true then [cell c r] else []
def allC(pr:Nat→Nat→Bool)(w:Nat):Nat→List D
 | 0=>[]
 | r+1=>allC pr w r++rowC pr r w
theorem ZhP(pr:Nat→Nat→Bool)(r:Nat):∀c,(rowC pr r c).length≤c
 | 0=>VaF _
 | c+1=>by
  have:=ZhP pr r c
  unfold rowC
  rw [Va4]
  split<;>simp<;>omega
theorem Zkn(pr:Nat→Nat→Bool)(w:Nat):∀r,(allC pr w r).length≤w*r
 | 0=>by simp [allC]
 | r+1=>by
  have h1:=Zkn pr w r
  have h2:=ZhP pr r w
  unfold allC
  rw [Va4,Nat.mul_succ]
  omega
theorem Zm2{Φ:D→Prop}{x:Int}(q:Φ (.bl true)):Tl (Zaz [.int x]) Φ:=by
 unfold Zaz
 walk_at "w"
 exact q
theorem Zes{Φ:D→Prop}{x a b:Int}(h:a≤x∧x≤b)(q:Φ (.bl true)):Tl (ZaJ [.int x,.int a,.int b]) Φ:=by
 unfold ZaJ
 walk_at "w"
 refine Zm2 ?_
 walk_at "w"
 rw [Vbm h.2]
 exact q
theorem Zg2{Φ:D→Prop}{w h:Nat}(hw:1≤w∧w≤64)(hh:1≤h∧h≤64)(q:Φ .non):Tl (ZaW [.int (w:Int),.int (h:Int)]) Φ:=by
 unfold ZaW
 walk_at "w"
 refine Zes (by omega) ?_
 walk_at "w"
 refine Zes (by omega) ?_
 walk_at "w"
 exact q
theorem Zgm{α:Type}(f:α→Bool):∀l:List α,bools (l.map fun a=>D.bl (f a))=.ok (l.map f)
 | []=>rfl
 | a::r=>by
  rw [VaM]
  show (bools (r.map fun a=>D.bl (f a))).bind _=_
  rw [Zgm f r]
  rfl
theorem Zru{α:Type}{Φ:D→Prop}{f:α→Bool}{l:List α}(q:Φ (.bl (l.any f))):Tl (bAny [.lst (l.map fun a=>D.bl (f a))]) Φ:=by
 refine Zam ?_ q
 show (bools (l.map fun a=>D.bl (f a))).bind _=_
 rw [Zgm f l]
 show Res.ok (D.bl ((l.map f).any id))=_
 rw [List.any_map]
 rfl
theorem ZnS{Φ:D→Prop}{d:Int×Int}(hd:(1≤d.1∧d.1≤7)∧1≤d.2∧d.2≤7)(q:Φ (.bl true)):Tl (ZdI [encP d]) Φ:=by
 unfold ZdI
 walk_at "w"
 refine Zes hd.1 ?_
 walk_at "w"
 refine Zes hd.2 ?_
 walk_at "w"
 exact q
theorem Zs3{α:Type}{Φ:D→Prop}{f:α→Bool}{l:List α}(h:∀a∈l,f a=true)(q:Φ (.bl true)):Tl (bAll [.lst (l.map fun a=>D.bl (f a))]) Φ:=by
 refine Zam ?_ q
 show (bools (l.map fun a=>D.bl (f a))).bind _=_
 rw [Zgm f l]
 show Res.ok (D.bl ((l.map f).all id))=_
 rw [List.all_map,List.all_eq_true.mpr fun a ha=>(show (id ∘ f) a=true from h a ha)]
theorem ZkQ{Φ:D→Prop}{dots:List (Int×Int)}(h1:1≤dots.length∧dots.length≤16)(hd:∀d∈dots,(1≤d.1∧d.1≤7)∧1≤d.2∧d.2≤7)(hnd:dots.Nodup)(q:Φ .non):Tl (Zbq [.lst (dots.map encP)]) Φ:=by
 unfold Zbq
 walk_at "w"
 rw [VaN]
 refine ZcP (fun z=>by omega) (fun _=>?_)
 walk_at "w"
 rw [VaN]
 rw [Vab (by omega)]
 walk_at "w"
 refine ⟨by rw [VaN];omega,?_⟩
 refine Zct (enc:=encP) (fun d:Int×Int=>D.bl ((fun _=>true) d)) (fun d hd'=>?_) ?_
 ·walk_at "w"
  exact ZnS (hd d hd') rfl
 walk_at "w"
 refine Zs3 (f:=fun _:Int×Int=>true) (fun _ _=>rfl) ?_
 walk_at "w"
 obtain ⟨n,e,hn⟩:=ZmD (enc:=encP) (key:=fun d:Int×Int=>[d.1,d.2]) (fun a=>⟨_,rfl,rfl⟩) (fun a b h=>by
  injection h with h1 h2
  injection h2 with h2 _
  exact Prod.ext h1 h2) h1.2
 refine Zam e ?_
 walk_at "w"
 rw [hn.mpr hnd,VaN]
 walk_at "w"
 exact q
theorem ZkZ{dots:List (Int×Int)}(h1:1≤dots.length∧dots.length≤16)(hd:∀d∈dots,(1≤d.1∧d.1≤7)∧1≤d.2∧d.2≤7)(hnd:dots.Nodup):Zar [.lst (dots.map encP)]=.ok (.lst (dots.map encP)):=by
 refine Tl.eq ?_
 unfold Zar
 walk_at "w"
 refine ZkQ h1 hd hnd ?_
 walk_at "w"
theorem ZuI(a b:Int×Int):eqD (encP a) (encP b)=decide (a=b):=by
 unfold eqD eqDs eqDs eqDs
 show ((a.1==b.1)&&((a.2==b.2)&&true))=_
 rw [Bool.and_true,Vco,Vbh,VaK,VaK,Vcm]
 constructor
 ·rintro ⟨h1,h2⟩
  exact Prod.ext h1 h2
 ·rintro rfl
  exact ⟨rfl,rfl⟩
theorem Zrz(q:Int×Int):∀qs:List (Int×Int),inD (encP q) (qs.map encP)=decide (q∈qs)
 | []=>rfl
 | a::r=>by
  have ih:=Zrz q r
  unfold inD at ih ⊢
  rw [VaM,VbL,ih,ZuI,←Bool.decide_or,decide_eq_decide,Vaq]
  constructor
  ·rintro (rfl | h)
   ·exact .inl rfl
   ·exact .inr h
  ·rintro (rfl | h)
   ·exact .inl rfl
   ·exact .inr h
theorem Zs4(k:Nat):∀qs:List (Int×Int),Zap (k+1) (qs.map encP)=true
 | []=>rfl
 | a::r=>by
  rw [VaM]
  show (plain (k+1) (encP a)&&Zap (k+1) (r.map encP))=true
  rw [Zs4 k r]
  rfl
def Dots(dots:List (Int×Int)):Prop:=(∀d∈dots,(1≤d.1∧d.1≤7)∧1≤d.2∧d.2≤7)∧dots.Nodup
theorem ZkR{Φ:D→Prop}{cc:Int}(q:∀dots:List (Int×Int),1≤dots.length→dots.length≤16→Dots dots→Φ (.lst (dots.map encP))):Tl (ZbU [.int cc]) Φ:=by
 unfold ZbU
 walk_at "w"
 refine ZgH (n:=17) (by decide) fun ds ld hd=>?_
 obtain ⟨d0,rs,rfl⟩ : ∃d0 rs,ds=d0::rs:=by
  cases ds with
  | nil=>simp at ld
  | cons a r=>exact ⟨a,r,rfl⟩
 have h0:Dw d0:=hd d0 Van
 unfold Dw at h0
 have lr:rs.length=16:=by simpa using ld
 walk_at "w"
 have wd:Tl (bInt [.bl (decide (d0%8=7))]) fun y=>Tl (dIx (.lst [.int (d0/8%3),.int (d0/8%16)]) y) fun x=>∃n:Nat,x=.int (n:Int)∧n≤15:=by
  by_cases z:d0%8=7
  ·rw [Vbm z];exact Zam rfl (Zam rfl ⟨(d0/8%16).toNat,by rw [Int.toNat_of_nonneg (by omega)],by omega⟩)
  ·rw [Vab z];exact Zam rfl (Zam rfl ⟨(d0/8%3).toNat,by rw [Int.toNat_of_nonneg (by omega)],by omega⟩)
 obtain ⟨y,e1,x,e2,n,rfl,hn⟩:=wd
 refine Zam e1 (Zam e2 ?_)
 clear e1 e2 y
 walk_at "w"
 rw [show (2+(n:Int))=((2+n:Nat):Int) by omega,show (some (1:Int))=some (((1:Nat):Int)) from rfl,Zjg (by omega) (by rw [ld];omega)]
 have hus:((d0::rs).drop 1).take (2+n - 1)≠[]:=by
  intro z
  have:=Vax List.length z
  rw [VaX,Vbb,ld,List.length_nil] at this
  omega
 have hul:(((d0::rs).drop 1).take (2+n - 1)).length≤16:=by simp;omega
 generalize ((d0::rs).drop 1).take (2+n - 1)=us at *
 refine Zmk (enc:=D.int) (fun us' ρ=>∃(dots:List (Int×Int)) (v3 v4:Cl),(us'≠[]→1≤dots.length)∧dots.length≤us'.length∧Dots dots∧ρ=[.im (.int cc),.im (.lst ((d0::rs).map .int)),.ow (dots.map encP),v3,v4]) ?_ ?_ ⟨[],_,_,fun z=>absurd rfl z,VaF _,⟨fun _ h=>(VbQ h).elim,List.nodup_nil⟩,rfl⟩
 ·rintro us' x vs e ρ ⟨dots,v3,v4,hne,hle,hD,rfl⟩
  have hlt:us'.length<us.length:=by rw [e];simp
  walk_at "w"
  refine Tl.mono (Ψ:=fun f=>∃p:Int×Int,((1≤p.1∧p.1≤7)∧1≤p.2∧p.2≤7)∧f=Fl.nx [.im (.int cc),.im (.lst ((d0::rs).map .int)),.ow (dots.map encP),.im (.int x),.im (encP p)]) ?_ ?_
  ·refine ZcP (fun _=>?_) (fun _=>?_)
   ·walk_at "w"
    exact ⟨(4,4),by decide,rfl⟩
   ·walk_at "w"
    exact ⟨(1+x%7,1+x/7%7),⟨⟨by show 1≤1+x%7;omega,by show 1+x%7≤7;omega⟩,by show 1≤1+x/7%7;omega,by show 1+x/7%7≤7;omega⟩,rfl⟩
  rintro f ⟨p,hp,rfl⟩
  walk_at "w"
  refine ZoE rfl (Zs4 _ _) ?_
  rw [Zrz]
  walk_at "w"
  refine Zhh (fun z=>?_) (fun z=>?_)
  ·walk_at "w"
   refine ⟨by rw [VaN];omega,?_⟩
   left
   refine ⟨_,rfl,dots++[p],_,_,fun _=>by simp,by simp;omega,⟨fun d hd'=>?_,?_⟩,by rw [VbV];rfl⟩
   ·rcases Var.mp hd' with h | h
    ·exact hD.1 d h
    ·have:d=p:=by simpa using h
     subst this
     exact hp
   ·rw [List.nodup_append]
    refine ⟨hD.2,by simp,fun a ha b hb=>?_⟩
    have hb:b=p:=by simpa using hb
    rintro rfl
    subst hb
    exact z ha
  ·walk_at "w"
   left
   refine ⟨_,rfl,dots,_,_,fun _=>?_,by simp;omega,hD,rfl⟩
   have:=List.length_pos_of_mem z
   omega
 ·rintro ρ ⟨dots,v3,v4,hne,hle,hD,rfl⟩
  walk_at "w"
  exact q dots (hne hus) (by omega) hD
theorem Zmz(p:Nat→Nat→Bool)(k w:Nat):∀r,Zap (k+1) (allC p w r)=true:=by
 have app:∀a b:List D,Zap (k+1) a=true→Zap (k+1) b=true→Zap (k+1) (a++b)=true:=by
  intro a
  induction a with
  | nil=>exact fun b _ h=>h
  | cons x r ih =>
   intro b h1 h2
   have h1:(plain (k+1) x&&Zap (k+1) r)=true:=h1
   rw [Vbh] at h1
   show (plain (k+1) x&&Zap (k+1) (r++b))=true
   rw [h1.1,ih b h1.2 h2]
   rfl
 have row:∀r c,Zap (k+1) (rowC p r c)=true:=by
  intro r c
  induction c with
  | zero=>rfl
  | succ c ih =>
   unfold rowC
   refine app _ _ ih ?_
   split<;>rfl
 intro r
 induction r with
 | zero=>rfl
 | succ r ih=>exact app _ _ ih (row r w)
theorem Zn3(p:Nat→Nat→Bool)(w h:Nat):plain 50 (.lst (allC p w h))=true:=Zmz p 48 w h
theorem ZmZ{x:D}(h:plain 50 x=true):dNe x x=.ok (.bl false):=by
 unfold dNe
 rw [h,ZfH x 50 h]
 rfl
theorem ZqO{x:D}(h:plain 50 x=true):dEq x x=.ok (.bl true):=by
 unfold dEq
 rw [h,ZfH x 50 h]
 rfl
def val:Res D→D
 | .ok d=>d
 | _=>.non
def unF:D→Rat
 | .tup [.int n,.int d]=>Rat.divInt n d
 | _=>0
theorem Zf8(q:Rat):unF (frD q)=q:=Vch q
def ownOf(c:Str)(d v:D):Rat:=match Zbd.lookup c with
 | some f=>unF (val (f [d,v]))
 | none=>0
def mkS(c:Str)(ns:List Str)(vs:List D)(q:Rat)(v:D):Sg :=
 { d:=.ins c ns vs,gl:=c == "Glass", q:=q,v:=v,own:=if (c == "Glass")=true then 0 else ownOf c (.ins c ns vs) v,part:=unF (val (dFld objs "part" (.ins c ns vs))),col:=unF (val (dFld objs "colour" (.ins c ns vs))),k:=0 }
def so(p d:D):Option Sg:=match d with
 | .ins c ns (T::r)=>match Zal [T,p] with
  | .ok (.tup [q,v])=>some (mkS c ns (T::r) (unF q) v)
  | _=>none
 | _=>none
theorem ZdL{c:Str}{ns:List Str}{T p:D}{r:List D}(e:Zal [T,p]=.ok .non):so p (.ins c ns (T::r))=none:=by
 show (match Zal [T,p] with
  | .ok (.tup [q,v])=>some (mkS c ns (T::r) (unF q) v)
  | _=>none)=none
 rw [e]
theorem Zdq{c:Str}{ns:List Str}{T p v:D}{r:List D}{q:Rat}(e:Zal [T,p]=.ok (.tup [frD q,v])):so p (.ins c ns (T::r))=some (mkS c ns (T::r) q v):=by
 show (match Zal [T,p] with
  | .ok (.tup [q,v])=>some (mkS c ns (T::r) (unF q) v)
  | _=>none)=_
 rw [e]
 show some (mkS c ns (T::r) (unF (frD q)) v)=_
 rw [Zf8]
theorem b0:Bq 32 (0:Rat):=⟨by show (0:Int).natAbs<2^32;decide,by show (1:Int).natAbs<2^32;decide⟩
theorem ZeY{p d:D}{T:D}(e1:dFld objs "triangle" d=.ok T)(e2:Zal [T,p]=.ok .non)(e3:so p d=none):Seen p d (so p d):=by
 rw [e3]
 exact ⟨⟨T,e1,e2⟩,fun s h=>by cases h⟩
theorem ZeM{p d v:D}{T:D}{q:Rat}{s:Sg}(e1:dFld objs "triangle" d=.ok T)(e2:Zal [T,p]=.ok (.tup [frD q,v]))(e3:so p d=some s)(hq:s.q=q)(hv:s.v=v)(hd:s.d=d)(g:GS s):Seen p d (so p d):=by
 rw [e3]
 refine ⟨⟨T,e1,?_⟩,fun t h=>?_⟩
 ·rw [e2]
  show _=Res.ok (D.tup [frD s.q,s.v])
  rw [hq,hv]
 ·cases h
  exact ⟨hd,g⟩
theorem Zur{d:D}{px py ps:Int}(h:Thg d)(cp:Cr px py ps)(hp:1≤ps):Seen (.tup [.int px,.int py,.int ps]) d (so (.tup [.int px,.int py,.int ps]) d):=by
 cases h with
 | @plain k T q ht hk hq =>
  rcases ZeG ht hk cp hp with e | ⟨z,vs,lv,bz,bv,e⟩
  ·exact ZeY (fT1 _ _) e (ZdL e)
  ·have eo:(mkS "Plain" ["triangle", "colour"] [T,frD q] z (.tup (vs.map frD))).own=q:=Zf8 q
   have ec:(mkS "Plain" ["triangle", "colour"] [T,frD q] z (.tup (vs.map frD))).col=q:=Zf8 q
   have ep:(mkS "Plain" ["triangle", "colour"] [T,frD q] z (.tup (vs.map frD))).part=0:=rfl
   refine ZeM (fT1 _ _) e (Zdq e) rfl rfl rfl ⟨⟨_,_,_,rfl,by decide +kernel,by decide +kernel,⟨Zax,by rfl,rfl⟩,fun _=>⟨Zbt,by rfl,?_⟩⟩,(fun h=>by cases h),bz,?_,?_,?_⟩
   ·rw [eo];rfl
   ·rw [eo];exact hq.mono (by decide)
   ·rw [ep];exact b0
   ·rw [ec];exact hq
 | @shaded k T ht hk h1 =>
  rcases ZeG ht hk cp hp with e | ⟨z,vs,lv,bz,bv,e⟩
  ·exact ZeY (fT2 _) e (ZdL e)
  ·cases vs with
   | nil=>simp at lv;omega
   | cons u vs =>
    have eo:(mkS "Shaded" ["triangle"] [T] z (.tup ((u::vs).map frD))).own=u:=Zf8 u
    refine ZeM (fT2 _) e (Zdq e) rfl rfl rfl ⟨⟨_,_,_,rfl,by decide +kernel,by decide +kernel,⟨Zax,by rfl,rfl⟩,fun _=>⟨Zbl,by rfl,?_⟩⟩,(fun h=>by cases h),bz,?_,b0,b0⟩
    ·rw [eo];rfl
    ·rw [eo];exact bv u Van
 | @patt k h w T P ht hk h2 hh hw hP =>
  rcases ZeG ht hk cp hp with e | ⟨z,vs,lv,bz,bv,e⟩
  ·exact ZeY (fT3 _ _) e (ZdL e)
  ·match vs,lv,bv,e with
   | [],lv,_,_=>simp at lv;omega
   | [_],lv,_,_=>simp at lv;omega
   | u::v::vs,lv,bv,e =>
    obtain ⟨i,j,hi,hj,en⟩:=Zo5 (Φ:=fun _=>True) (P:=P) hh hw (bv u Van) (bv v (Vao _ Van)) (fun _ _ _ _=>trivial)
    have ef:Zat [.ins "Patterned" ["triangle", "pattern"] [T,patD h w P],.tup ((u::v::vs).map frD)]=.ok (frD (P i j)):=by
     refine Tl.eq ?_
     unfold Zat
     walk_at "w"
     refine Zam (fN3 _ _) ?_
     walk_at "w"
     refine Zam en ?_
     walk_at "w"
    have eo:(mkS "Patterned" ["triangle", "pattern"] [T,patD h w P] z (.tup ((u::v::vs).map frD))).own=P i j:=by
     show unF (val (Zat [.ins "Patterned" ["triangle", "pattern"] [T,patD h w P],.tup ((u::v::vs).map frD)]))=_
     rw [ef]
     exact Zf8 _
    refine ZeM (fT3 _ _) e (Zdq e) rfl rfl rfl ⟨⟨_,_,_,rfl,by decide +kernel,by decide +kernel,⟨Zax,by rfl,rfl⟩,fun _=>⟨Zat,by rfl,?_⟩⟩,(fun h=>by cases h),bz,?_,b0,b0⟩
    ·rw [eo];exact ef
    ·rw [eo];exact (hP i hi j hj).mono (by decide)
 | @glass k T q r ht hk hq hr h0 h1 =>
  rcases ZeG ht hk cp hp with e | ⟨z,vs,lv,bz,bv,e⟩
  ·exact ZeY (fT4 _ _ _) e (ZdL e)
  ·have ec:(mkS "Glass" ["triangle", "colour", "part"] [T,frD q,frD r] z (.tup (vs.map frD))).col=q:=Zf8 q
   have ep:(mkS "Glass" ["triangle", "colour", "part"] [T,frD q,frD r] z (.tup (vs.map frD))).part=r:=Zf8 r
   refine ZeM (fT4 _ _ _) e (Zdq e) rfl rfl rfl ⟨⟨_,_,_,rfl,by decide +kernel,by decide +kernel,⟨ZbQ,by rfl,rfl⟩,fun h=>by cases h⟩,fun _=>⟨?_,?_⟩,bz,b0.mono (by decide),?_,?_⟩
   ·rw [ep];exact fP4 _ _ _
   ·rw [ec];exact fC4 _ _ _
   ·rw [ep];exact hr
   ·rw [ec];exact hq
abbrev pt8(x y:Int):D:=.tup [.int x,.int y,.int 8]
def sgs(ts:List D)(p:D):List Sg:=ts.filterMap (so p)
def lk(ts:List D)(p:D):List DO:=ts.map fun d=>(d,so p d)
theorem ZrC(ts:List D)(p:D):(lk ts p).map (·.1)=ts:=by
 unfold lk
 rw [VbJ]
 exact List.map_id _
theorem Zr1(ts:List D)(p:D):sgts (lk ts p)=sgs ts p:=by
 unfold sgts lk sgs
 rw [Vba]
 rfl
theorem ZrT{ts:List D}{px py ps:Int}(h:∀t∈ts,Thg t)(cp:Cr px py ps)(hp:1≤ps):∀y∈lk ts (.tup [.int px,.int py,.int ps]),Seen (.tup [.int px,.int py,.int ps]) y.1 y.2:=by
 intro y hy
 obtain ⟨d,hd,rfl⟩:=Vbs.mp hy
 exact Zur (h d hd) cp hp
theorem Zr0{ts:List D}{px py ps:Int}(h:∀t∈ts,Thg t)(cp:Cr px py ps)(hp:1≤ps):∀s∈sgs ts (.tup [.int px,.int py,.int ps]),GS s:=by
 rw [←Zr1]
 exact Zpc (ZrT h cp hp)
theorem ZmX(ts:List D)(p:D):(sgs ts p).length≤ts.length:=List.length_filterMap_le _ _
theorem Zlq{ts:List D}{px py ps:Int}(h:∀t∈ts,Thg t)(hl:ts.length≤1000)(cp:Cr px py ps)(hp:1≤ps):ZbM [.lst ts,.tup [.int px,.int py,.int ps]]=.ok (.lst ((sgs ts (.tup [.int px,.int py,.int ps])).map encS)):=by
 have e:=Tl.eq (ZkJ (Φ:=fun x=>x=_) (ZrT h cp hp) (by unfold lk;rw [List.length_map];exact hl) rfl)
 rwa [ZrC,Zr1] at e
theorem Zri{t b:Int}{k:Nat}(hb:0<b)(sb:Sm k b):Sm k ((Rat.divInt t b).den:Int):=by
 have e:=Zeo (t:=t) (b:=b) (by omega)
 unfold fra frD Mt.frT Mt.frB at e
 rw [if_neg (by omega),if_neg (by omega)] at e
 have g0:0<(Int.gcd t b:Int):=by have:=Mt.ZfM (t:=t) (b:=b) (by omega);omega
 injection e with e
 injection e with e1 e2
 injection e2 with e2 _
 injection e2 with e2
 refine sb.le ?_
 rw [←e2];exact Mt.Zho g0
theorem ZjL{Φ:D→Prop}{t b:Int}{k:Nat}(hb:0<b)(sb:Sm k b)(hk:k≤8900)(h:Φ (frD (Rat.divInt t b))):Tl (ZaI [.int t,.int b]) Φ:=by
 refine Zhq (by omega) sb (by omega) ?_
 rw [Zeo (by omega)]
 exact h
theorem ZqA{Φ:D→Prop}{p q:Rat}{a b da db:Nat}(hp:Bq a p)(hq:Bq b q)(dp:Sm da (p.den:Int))(dq:Sm db (q.den:Int))(hab:a+b≤10000000)(hd:da+db≤8900)(h:Bq (a+b+1) (p+q)→Sm (da+db) ((p+q).den:Int)→Φ (frD (p+q))):Tl (ZeU [frD p,frD q]) Φ:=by
 have m1:Zbk p.num q.den=true:=ZaO hp.n hq.d (by omega)
 have m2:Zbk q.num p.den=true:=ZaO hq.n hp.d (by omega)
 have m3:Zbk p.den q.den=true:=ZaO hp.d hq.d (by omega)
 have s1:Sm (a+b+1) (p.num*q.den+q.num*p.den):=((hp.n.mul hq.d).add (show Sm (a+b) _ from Nat.add_comm b a▸hq.n.mul hp.d)).mono (by omega)
 have s2:Sm (a+b+1) ((p.den:Int)*q.den):=(hp.d.mul hq.d).mono (by omega)
 have d0:0<(p.den:Int)*q.den:=Vcd (den1 p) (den1 q)
 have z1:=Zjy d0 s1 s2
 have z2:=Zri (t:=p.num*q.den+q.num*p.den) d0 (dp.mul dq)
 rw [Zhw] at z1 z2
 unfold ZeU frD
 walk_at "w"
 refine ZjL d0 (dp.mul dq) hd ?_
 rw [Zhw]
 walk_at "w"
 exact h z1 z2
def sumQ(l:List Rat):Rat:=l.foldl (·+·) 0
theorem Zlc(l:List Rat)(q:Rat):sumQ (l++[q])=sumQ l+q:=by unfold sumQ;rw [List.foldl_append];rfl
def Znc(l:List Rat):Rat:=Rat.divInt (sumQ l).num ((sumQ l).den*(l.length:Int))
theorem Zpz{Φ:D→Prop}{qs:List Rat}{K k:Nat}(hK:∀q∈qs,Bq K q)(hd:∀q∈qs,Sm k (q.den:Int))(h1:1≤qs.length)(hn:qs.length≤16)(hK':K≤100000)(hk:qs.length*k+10≤8900)(h:Φ (frD (Znc qs))):Tl (Zdw [.lst (qs.map frD)]) Φ:=by
 unfold Zdw
 walk_at "w"
 show Tl (Zb6 _ _ (qs.map frD) [.im (.lst (qs.map frD)),.im (frD 0),.no]) _
 refine ZiA (enc:=frD) (fun pre ρ=>∃v2:Cl,Bq (pre.length*(K+1)+1) (sumQ pre)∧Sm (pre.length*k+1) ((sumQ pre).den:Int)∧ρ=[.im (.lst (qs.map frD)),.im (frD (sumQ pre)),v2]) ⟨.no,?_,?_,rfl⟩ ?_ ?_
 ·exact ⟨by show (0:Int).natAbs<_;exact Nat.two_pow_pos _,by show (1:Int).natAbs<2^(0*_+1);rw [Nat.zero_mul];decide⟩
 ·show (1:Int).natAbs<2^(0*_+1);rw [Nat.zero_mul];decide
 ·rintro pre q r e ρ ⟨v2,B,S,rfl⟩
  have hq:q∈qs:=by rw [←e];simp
  have hlen:pre.length<qs.length:=by rw [←e];simp
  have l2:(pre.length+1)*k≤qs.length*k:=Vcp k hlen
  have l3:(pre.length+1)*(K+1)≤16*(K+1):=Vcp (K+1) (by omega)
  rw [Nat.succ_mul] at l2 l3
  walk_at "w"
  refine ZqA B (hK q hq) S (hd q hq) (by omega) (by omega) fun B2 S2=>?_
  rw [Zlc]
  refine ⟨_,rfl,_,B2.mono ?_,S2.mono ?_,rfl⟩
  ·rw [Va4,Vbl,Nat.succ_mul];omega
  ·rw [Va4,Vbl,Nat.succ_mul];omega
 ·rintro ρ ⟨v2,B,S,rfl⟩
  have l3:qs.length*(K+1)≤16*(K+1):=Vcp (K+1) hn
  have s5:Sm 5 (qs.length:Int):=by show (qs.length:Int).natAbs<2^5;omega
  have m1:Zbk (sumQ qs).den (qs.length:Int)=true:=ZaO B.d s5 (by omega)
  have d0:0<((sumQ qs).den:Int)*(qs.length:Int):=Vcd (den1 _) (by omega)
  unfold Znc at h
  generalize sumQ qs=t at *
  unfold frD
  walk_at "w"
  rw [VaN]
  walk_at "w"
  refine ZjL d0 (S.mul s5) (by omega) ?_
  walk_at "w"
  exact h
theorem Zl6{Φ:D→Prop}{g:Rat}{l:List Sg}{n:Nat}(hg:Bq 300 g)(hl:∀s∈l,GS s)(hs:l.length≤n)(hn:n≤12)(q:Bq (300+170*n) (colQ g l)→Φ (frD (colQ g l))):Tl (ZbG [.lst (l.map encS),frD g]) Φ:=by
 have hb:Bq 300 (Zhz g (near l)):=by
  cases e:near l with
  | none=>exact hg
  | some m=>exact (hl m (Zhl e).1).bo
 have ll:=Zmq (near l) l
 unfold ZbG
 walk_at "w"
 refine ZmR hl ?_
 have rest:∀v4:Cl,Tl ((sq (for_ (iv (on Zbe (Zaa (v 2) (Zaa (v 0) anil)))) (gN 4)
  (st 3 (on ZbJ (Zaa (o2 dIx (v 4) (c (.int 0))) (Zaa (v 3) anil)))))
  (ret (v 3))) [.im (.lst (l.map encS)),.im (frD g),.im (optS (near l)),.im (frD (Zhz g (near l))),v4]) fun f=>Tl (endOf f) Φ:=by
  intro v4
  walk_at "w"
  refine ZnX (fun m e=>hl m (Zhl e).1) hl (by omega) ?_
  walk_at "w"
  refine ZiA (enc:=encS) (fun pre ρ=>∃v4:Cl,Bq (300+170*pre.length) (layQ pre (Zhz g (near l)))∧ρ=[.im (.lst (l.map encS)),.im (frD g),.im (optS (near l)),.im (frD (layQ pre (Zhz g (near l)))),v4]) ⟨_,hb,rfl⟩ ?_ ?_
  ·rintro pre s r e ρ ⟨v4,B,rfl⟩
   have hm:s∈lay (near l) l:=by rw [←e];simp
   have hlen:pre.length<(lay (near l) l).length:=by rw [←e];simp
   have hms:=ZmN hm
   walk_at "w"
   refine Zsc (hl s hms.1) (ZpI hms.2) B (by omega) fun B2=>?_
   have e2:layQ (pre++[s]) (Zhz g (near l))=mixQ s (layQ pre (Zhz g (near l))):=by unfold layQ;rw [List.foldl_append];rfl
   rw [e2]
   refine ⟨_,rfl,_,B2.mono ?_,rfl⟩
   rw [Va4,Vbl]
   omega
  ·rintro ρ ⟨v4,B,rfl⟩
   walk_at "w"
   exact q (B.mono (by omega))
 walk_at "w"
 refine Tl.mono (Ψ:=fun f=>f=Fl.nx [.im (.lst (l.map encS)),.im (frD g),.im (optS (near l)),.im (frD (Zhz g (near l))),.no]) ?_ ?_
 ·cases hn:near l with
  | none =>
   show Tl (if (false:Bool)=true then _ else _) _
   walk_at "w"
   rfl
  | some m =>
   have hm:=Zhl hn
   show Tl (if (true:Bool)=true then _ else _) _
   walk_at "w"
   refine Zt1 (s:=m) (hl m hm.1) hm.2 rfl rfl ?_
   rfl
 ·rintro f rfl
  exact rest .no
theorem sm6'{x:Int}(h:-1000000≤x∧x≤1000000):Sm 64 x:=Sm.of64 (by omega) (by omega)
theorem cr8{px py:Int}(hx:0≤px∧px≤1000)(hy:0≤py∧py≤1000):Cr px py 8:=⟨sm6' (by omega),sm6' (by omega),sm6' (by decide)⟩
abbrev ptA(c r:Nat)(d:Int×Int):D:=pt8 (8*(c:Int)+d.1) (8*(r:Int)+d.2)
def ZjU(dots:List (Int×Int)):Prop:=∀d∈dots,(1≤d.1∧d.1≤7)∧1≤d.2∧d.2≤7
def cellQ(ts:List D)(g:Rat)(dots:List (Int×Int))(c r:Nat):Rat:=Znc (dots.map fun d=>colQ g (sgs ts (ptA c r d)))
def rowP(f:Nat→Nat→Rat)(w r:Nat):D:=.lst ((List.range w).map fun c=>frD (f c r))
def picP(f:Nat→Nat→Rat)(w h:Nat):D:=.lst ((List.range h).map fun r=>rowP f w r)
section
variable{ts:List D}{dots:List (Int×Int)}
theorem Zg9{Φ:D→Prop}{c r:Nat}(hts:∀t∈ts,Thg t)(hl:ts.length≤1000)(hc:c≤100)(hr:r≤100)(hd:ZjU dots)(hn:dots.length≤16)
  (q:Φ (.lst (dots.map fun d=>D.lst ((sgs ts (ptA c r d)).map encS)))):Tl (Zbm [.lst ts,.int (c:Int),.int (r:Int),.lst (dots.map encP)]) Φ:=by
 unfold Zbm
 walk_at "w"
 refine ZiZ ?_
 walk_at "w"
 refine ⟨by rw [VaN];omega,?_⟩
 refine Zct (fun d:Int×Int=>D.lst ((sgs ts (ptA c r d)).map encS)) (fun d hd'=>?_) ?_
 ·have hb:=hd d hd'
  walk_at "w"
  unfold ZeD
  walk_at "w"
  exact Zam (Zlq hts hl (cr8 (by omega) (by omega)) (by decide)) rfl
 ·walk_at "w"
  exact q
theorem Zl8{Φ:D→Prop}{g:Rat}{n:Nat}{ls:List (List Sg)}(hg:Bq 300 g)(hl:∀l∈ls,(∀s∈l,GS s)∧l.length≤n)(hn:n≤12)(h1:1≤ls.length)(h16:ls.length≤16)(hk:ls.length*(300+170*n)+10≤8900)(q:Φ (frD (Znc (ls.map fun l=>colQ g l)))):Tl (Zby [.lst (ls.map fun l=>D.lst (l.map encS)),frD g]) Φ:=by
 have hb:∀l∈ls,Bq (300+170*n) (colQ g l)∧ZbG [.lst (l.map encS),frD g]=.ok (frD (colQ g l)):=fun l hl'=>by
  obtain ⟨x,e,h⟩:=Zl6 (Φ:=fun x=>Bq (300+170*n) (colQ g l)∧x=frD (colQ g l)) hg (hl l hl').1 (hl l hl').2 hn (fun B=>⟨B,rfl⟩)
  exact ⟨h.1,h.2▸e⟩
 unfold Zby
 walk_at "w"
 refine ⟨by rw [VaN];omega,?_⟩
 refine Zct (fun l:List Sg=>frD (colQ g l)) (fun l hl'=>?_) ?_
 ·walk_at "w"
  exact Zam (hb l hl').2 rfl
 walk_at "w"
 rw [show List.map (fun l:List Sg=>frD (colQ g l)) ls=(ls.map fun l=>colQ g l).map frD by rw [VbJ];rfl]
 refine Zpz (K:=300+170*n) (k:=300+170*n) (fun x hx=>?_) (fun x hx=>?_) (by rw [VaN];exact h1) (by rw [VaN];exact h16) (by omega) (by rw [VaN];exact hk) ?_
 ·obtain ⟨l,hl',rfl⟩:=Vbs.mp hx
  exact (hb l hl').1
 ·obtain ⟨l,hl',rfl⟩:=Vbs.mp hx
  exact (hb l hl').1.d
 ·walk_at "w"
  exact q
theorem ZpD{Φ:D→Prop}{w h n:Nat}{sp gr:D}{g:Rat}(hts:∀t∈ts,Thg t)(hl:ts.length≤n)(hn:n≤12)(hw:1≤w∧w≤64)(hh:1≤h∧h≤64)(hs:Zar [sp]=.ok (.lst (dots.map encP)))(hgr:ZaZ [gr]=.ok (frD g))(hg:Bq 300 g)(hd:ZjU dots)(h1:1≤dots.length)(h16:dots.length≤16)(hk:dots.length*(300+170*n)+10≤8900)
  (q:Φ (picP (cellQ ts g dots) w h)):Tl (Zcf [.lst ts,.int (w:Int),.int (h:Int),sp,gr]) Φ:=by
 unfold Zcf
 walk_at "w"
 refine Zg2 hw hh ?_
 walk_at "w"
 refine Zam hs ?_
 walk_at "w"
 refine Zam hgr ?_
 walk_at "w"
 refine ZiZ ?_
 walk_at "w"
 rw [Zbh,VbA]
 refine ⟨by rw [VaN,VbF];omega,?_⟩
 refine Zct (fun r:Nat=>rowP (cellQ ts g dots) w r) (fun r hr=>?_) ?_
 ·have hr:=Vai.mp hr
  walk_at "w"
  unfold Zb8
  walk_at "w"
  refine ZiZ ?_
  walk_at "w"
  rw [Zbh,VbA]
  refine ⟨by rw [VaN,VbF];omega,?_⟩
  refine Zct (fun c:Nat=>frD (cellQ ts g dots c r)) (fun c hc=>?_) ?_
  ·have hc:=Vai.mp hc
   walk_at "w"
   refine Zg9 hts (by omega) (by omega) (by omega) hd h16 ?_
   walk_at "w"
   rw [show (List.map (fun d=>D.lst ((sgs ts (ptA c r d)).map encS)) dots)=(dots.map fun d=>sgs ts (ptA c r d)).map fun l=>D.lst (l.map encS) by rw [VbJ];rfl]
   refine Zl8 (n:=n) hg (fun l hl'=>?_) hn (by rw [VaN];exact h1) (by rw [VaN];exact h16) (by rw [VaN];exact hk) ?_
   ·obtain ⟨d,hd',rfl⟩:=Vbs.mp hl'
    have hb:=hd d hd'
    exact ⟨Zr0 hts (cr8 (by omega) (by omega)) (by decide),Vaj (ZmX _ _) hl⟩
   ·unfold cellQ
    rw [VbJ]
    rfl
  ·walk_at "w"
   rfl
 ·walk_at "w"
  exact q
end
theorem Zm1(a b:Int){ax ay aw bx bY bw px py ps:Int}:ow (ax+a*aw) (ay+b*aw) aw (bx+a*bw) (bY+b*bw) bw (px+a*ps) (py+b*ps) ps=ow ax ay aw bx bY bw px py ps:=by
 unfold ow
 grind
theorem ZlB(a b:Int){ax ay aw bx bY bw px py ps:Int}:sdE (ax+a*aw) (ay+b*aw) aw (bx+a*bw) (bY+b*bw) bw (px+a*ps) (py+b*ps) ps=sdE ax ay aw bx bY bw px py ps:=by
 have e1:(ay+b*aw)*bw - aw*(bY+b*bw)=ay*bw - aw*bY:=by grind
 have e2:aw*(bx+a*bw) - (ax+a*aw)*bw=aw*bx - ax*bw:=by grind
 unfold sdE
 rw [Zm1,e1,e2]
theorem Zsf(a b:Int){ax ay aw bx bY bw cx cy cw px py ps:Int}:hdE (ax+a*aw) (ay+b*aw) aw (bx+a*bw) (bY+b*bw) bw (cx+a*cw) (cy+b*cw) cw (px+a*ps) (py+b*ps) ps=hdE ax ay aw bx bY bw cx cy cw px py ps:=by
 unfold hdE
 rw [ZlB,ZlB,ZlB]
structure Mv(a b:Int)(k:Nat)(T T':D):Prop where
 ex:∃(ax ay aw ah bx bY bw bh cx cy cw ch:Int) (av bv cv:List Int),T=.tup [cor ax ay aw ah av,cor bx bY bw bh bv,cor cx cy cw ch cv]∧T'=.tup [cor (ax+a*aw) (ay+b*aw) aw ah av,cor (bx+a*bw) (bY+b*bw) bw bh bv,cor (cx+a*cw) (cy+b*cw) cw ch cv] ∧
  Ck ax ay aw ah∧Ck bx bY bw bh∧Ck cx cy cw ch∧av.length=k∧bv.length=k∧cv.length=k∧(∀v∈av,Bd v)∧(∀v∈bv,Bd v)∧(∀v∈cv,Bd v)
theorem ZqZ{a b:Int}{k:Nat}{T T':D}{px py ps:Int}(h:Mv a b k T T')(h':Tr k T')(hk:k≤3)(cp:Cr px py ps)(cp':Cr (px+a*ps) (py+b*ps) ps)(hp:1≤ps):Zal [T',.tup [.int (px+a*ps),.int (py+b*ps),.int ps]]=Zal [T,.tup [.int px,.int py,.int ps]]:=by
 obtain ⟨ax,ay,aw,ah,bx,bY,bw,bh,cx,cy,cw,ch,av,bv,cv,rfl,rfl,ca,cb,cc,la,lb,lc,va,vb,vc⟩:=h
 obtain ⟨ax',ay',aw',ah',bx',bY',bw',bh',cx',cy',cw',ch',av',bv',cv',e,ca',cb',cc',_⟩:=h'
 unfold cor at e
 injection e with e
 injection e with e1 e
 injection e with e2 e
 injection e with e3 _
 injection e1 with e1
 injection e2 with e2
 injection e3 with e3
 injection e1 with x1 e1
 injection e1 with y1 e1
 injection e1 with w1 _
 injection e2 with x2 e2
 injection e2 with y2 e2
 injection e2 with w2 _
 injection e3 with x3 e3
 injection e3 with y3 e3
 injection e3 with w3 _
 injection x1 with x1
 injection y1 with y1
 injection w1 with w1
 injection x2 with x2
 injection y2 with y2
 injection w2 with w2
 injection x3 with x3
 injection y3 with y3
 injection w3 with w3
 subst x1 y1 w1 x2 y2 w2 x3 y3 w3
 have sm:∀{n:Int},1≤n∧n≤1000000→Sm 64 n:=fun h=>Sm.of64 (by omega) (by omega)
 have fa:Cv 64 ax ay aw ah av:=⟨ca.cr.x,ca.cr.y,ca.cr.w,sm ca.h,fun v hv=>(va v hv).s,ca.h.1⟩
 have fb:Cv 64 bx bY bw bh bv:=⟨cb.cr.x,cb.cr.y,cb.cr.w,sm cb.h,fun v hv=>(vb v hv).s,cb.h.1⟩
 have fc:Cv 64 cx cy cw ch cv:=⟨cc.cr.x,cc.cr.y,cc.cr.w,sm cc.h,fun v hv=>(vc v hv).s,cc.h.1⟩
 have fa':Cv 64 (ax+a*aw) (ay+b*aw) aw ah av:=⟨ca'.cr.x,ca'.cr.y,ca'.cr.w,sm ca.h,fun v hv=>(va v hv).s,ca.h.1⟩
 have fb':Cv 64 (bx+a*bw) (bY+b*bw) bw bh bv:=⟨cb'.cr.x,cb'.cr.y,cb'.cr.w,sm cb.h,fun v hv=>(vb v hv).s,cb.h.1⟩
 have fc':Cv 64 (cx+a*cw) (cy+b*cw) cw ch cv:=⟨cc'.cr.x,cc'.cr.y,cc'.cr.w,sm cc.h,fun v hv=>(vc v hv).s,cc.h.1⟩
 have eh:=Zsf a b (ax:=ax) (ay:=ay) (aw:=aw) (bx:=bx) (bY:=bY) (bw:=bw) (cx:=cx) (cy:=cy) (cw:=cw) (px:=px) (py:=py) (ps:=ps)
 by_cases h0:hdE ax ay aw bx bY bw cx cy cw px py ps=0
 ·rw [Tl.eq (Zi8 (Φ:=fun x=>x=_) ca.w.1 cb.w.1 cc.w.1 ca.cr cb.cr cc.cr cp h0 rfl),Tl.eq (Zi8 (Φ:=fun x=>x=_) ca'.w.1 cb'.w.1 cc'.w.1 ca'.cr cb'.cr cc'.cr cp' (eh.trans h0) rfl)]
 ·have z1:=Tl.eq (Zjl (Φ:=fun x=>x=_) ca.w.1 cb.w.1 cc.w.1 hp ca.cr cb.cr cc.cr cp fa fb fc (by omega) h0 rfl rfl rfl rfl rfl)
  have z2:=Tl.eq (Zjl (Φ:=fun x=>x=_) ca'.w.1 cb'.w.1 cc'.w.1 hp ca'.cr cb'.cr cc'.cr cp' fa' fb' fc' (by omega) (fun z=>h0 (eh.symm.trans z)) (Zm1 a b).symm (Zm1 a b).symm (Zm1 a b).symm rfl rfl)
  rw [z1,z2]
theorem ZpV{Φ:D→Prop}{a b:Int}{k:Nat}{T:D}(h:Tr k T)(ha:0≤a∧a≤10)(hb:0≤b∧b≤10)(q:∀T',Mv a b k T T'→Φ T'):Tl (ZaK [T,.int a,.int b]) Φ:=by
 obtain ⟨ax,ay,aw,ah,bx,bY,bw,bh,cx,cy,cw,ch,av,bv,cv,rfl,ca,cb,cc,la,lb,lc,va,vb,vc⟩:=h
 have q:=q _ ⟨ax,ay,aw,ah,bx,bY,bw,bh,cx,cy,cw,ch,av,bv,cv,rfl,rfl,ca,cb,cc,la,lb,lc,va,vb,vc⟩
 unfold ZaK
 unfold cor at q ⊢
 walk_at "w"
 refine ⟨by show (3:Nat)≤_;omega,?_⟩
 refine Zfb ?_
 walk_at "w"
 refine Zfb ?_
 walk_at "w"
 refine Zfb ?_
 walk_at "w"
 refine Zk7 ?_
 walk_at "w"
 exact q
theorem Zm7{a b:Int}{k:Nat}{T T':D}(h:Mv a b k T T'):∃z:Bool,ZaG [T']=.ok (.bl z)∧(z=true→Tr k T'):=by
 obtain ⟨ax,ay,aw,ah,bx,bY,bw,bh,cx,cy,cw,ch,av,bv,cv,rfl,rfl,ca,cb,cc,la,lb,lc,va,vb,vc⟩:=h
 generalize ax+a*aw=ax'
 generalize ay+b*aw=ay'
 generalize bx+a*bw=bx'
 generalize bY+b*bw=bY'
 generalize cx+a*cw=cx'
 generalize cy+b*cw=cy'
 have pl:∀(x y w h:Int) (vs:List Int),plain 49 (cor x y w h vs)=true:=fun x y w h vs=>by
  show Zap 48 [D.int x,D.int y,D.int w,D.int h,D.tup (vs.map .int)]=true
  show (true&&(true&&(true&&(true&&(plain 48 (D.tup (vs.map .int))&&true)))))=true
  rw [show plain 48 (D.tup (vs.map .int))=Zap 47 (vs.map .int) from rfl,Zf5]
  rfl
 have step:∀{Φ:List D→Prop} {x y w h:Int} {vs:List Int} {r:List D},(∀z:Bool,(z=true→Bd x∧Bd y)→Tl (Zak (gN 0) (trb (o2 dGt (on bMax (Zaa (on bAbs (Zaa (o2 dIx (v 0) (c (.int 0))) anil)) (Zaa (on bAbs (Zaa (o2 dIx (v 0) (c (.int 1))) anil)) anil))) (o2 dPow (c (.int 10)) (c (.int 6))))) (v 0) (noA 1 []) r) fun ys=>Φ ((if z=true then [] else [cor x y w h vs])++ys)) →
   Tl (Zak (gN 0) (trb (o2 dGt (on bMax (Zaa (on bAbs (Zaa (o2 dIx (v 0) (c (.int 0))) anil)) (Zaa (on bAbs (Zaa (o2 dIx (v 0) (c (.int 1))) anil)) anil))) (o2 dPow (c (.int 10)) (c (.int 6))))) (v 0) (noA 1 []) (cor x y w h vs::r)) Φ:=by
  intro Φ x y w h vs r H
  unfold cor at H ⊢
  refine Zfb ?_
  walk_at "w"
  refine ZcP (fun z=>?_) (fun z=>?_)
  ·have H:=H false (fun z=>by cases z)
   walk_at "w"
   exact H.mono fun ys y=>Zau y
  ·have H:=H true (fun _=>by
    have z':¬(1000000:Int)<max ((x.natAbs:Nat):Int) ((y.natAbs:Nat):Int):=by
     intro hh
     apply z
     show (10^Int.toNat 6:Int)<_
     exact hh
    unfold Bd
    omega)
   exact H.mono fun ys y=>by simpa using y
 obtain ⟨x,e,z,ez,hz⟩ : Tl (ZaG [.tup [cor ax' ay' aw ah av,cor bx' bY' bw bh bv,cor cx' cy' cw ch cv]]) fun x=>∃z:Bool,x=.bl z∧(z=true→Bd ax'∧Bd ay'∧Bd bx'∧Bd bY'∧Bd cx'∧Bd cy'):=by
  unfold ZaG
  walk_at "w"
  refine ⟨by show (3:Nat)≤_;omega,?_⟩
  refine step fun z1 h1=>?_
  refine step fun z2 h2=>?_
  refine step fun z3 h3=>?_
  refine Zk7 ?_
  walk_at "w"
  refine Zam (x:=.bl (z1&&z2&&z3)) ?_ ?_
  ·have pls:Zap 49 ((if z1=true then [] else [cor ax' ay' aw ah av])++((if z2=true then [] else [cor bx' bY' bw bh bv])++((if z3=true then [] else [cor cx' cy' cw ch cv])++[])))=true:=by
    cases z1<;>cases z2<;>cases z3<;>simp [Zap,pl]
   unfold dEq
   rw [show plain 50 (D.lst ((if z1=true then [] else [cor ax' ay' aw ah av])++((if z2=true then [] else [cor bx' bY' bw bh bv])++((if z3=true then [] else [cor cx' cy' cw ch cv])++[]))))=true from pls]
   cases z1<;>cases z2<;>cases z3<;>rfl
  ·walk_at "w"
   refine ⟨_,rfl,fun hz=>?_⟩
   simp only [Vbh] at hz
   obtain ⟨⟨a1,a2⟩,a3⟩:=hz
   exact ⟨(h1 a1).1,(h1 a1).2,(h2 a2).1,(h2 a2).2,(h3 a3).1,(h3 a3).2⟩
 refine ⟨z,by rw [e,ez],fun h=>?_⟩
 obtain ⟨b1,b2,b3,b4,b5,b6⟩:=hz h
 exact ⟨_,_,_,_,_,_,_,_,_,_,_,_,_,_,_,rfl,⟨b1,b2,ca.w,ca.h⟩,⟨b3,b4,cb.w,cb.h⟩,⟨b5,b6,cc.w,cc.h⟩,la,lb,lc,va,vb,vc⟩
def setT(d T':D):D:=match d with
 | .ins c ns (_::r)=>.ins c ns (T'::r)
 | d=>d
theorem so_d{p d:D}{s:Sg}(h:so p d=some s):s.d=d:=by
 unfold so at h
 split at h
 ·split at h
  ·cases h;rfl
  ·cases h
 ·cases h
structure Lk(d:D)(k:Nat)(T:D):Prop where
 tr:Tr k T
 hk:k≤3
 tri:dFld objs "triangle" d=.ok T
 thg:∀T',Tr k T'→Thg (setT d T')
 like:∀T',Tr k T'→Za8 [d,T']=.ok (setT d T')
 so:∀T' px py ps px' py' ps',Cr px py ps→1≤ps→Zal [T',.tup [.int px',.int py',.int ps']]=Zal [T,.tup [.int px,.int py,.int ps]]→so (.tup [.int px',.int py',.int ps']) (setT d T')=(so (.tup [.int px,.int py,.int ps]) d).map fun s=>{ s with d:=setT d T' }
theorem ZnK{c:Str}{ns:List Str}{T T' p p':D}{r:List D}(ho:∀q v,mkS c ns (T'::r) q v={ mkS c ns (T::r) q v with d:=.ins c ns (T'::r) })(h:Zal [T',p']=Zal [T,p])(h2:Zal [T,p]=.ok .non∨∃(q:Rat) (vs:List Rat),Zal [T,p]=.ok (.tup [frD q,.tup (vs.map frD)])):so p' (.ins c ns (T'::r))=(so p (.ins c ns (T::r))).map fun s=>{ s with d:=.ins c ns (T'::r) }:=by
 rcases h2 with e | ⟨q,vs,e⟩
 ·rw [ZdL e,ZdL (h.trans e)];rfl
 ·rw [Zdq e,Zdq (h.trans e),ho];rfl
theorem Zn6{k:Nat}{T:D}{px py ps:Int}(h:Tr k T)(hk:k≤3)(cp:Cr px py ps)(hp:1≤ps):Zal [T,.tup [.int px,.int py,.int ps]]=.ok .non∨∃(q:Rat) (vs:List Rat),Zal [T,.tup [.int px,.int py,.int ps]]=.ok (.tup [frD q,.tup (vs.map frD)]):=by
 rcases ZeG h hk cp hp with e | ⟨z,vs,lv,bz,bv,e⟩
 ·exact .inl e
 ·exact .inr ⟨z,vs,e⟩
theorem ZeF{Φ:D→Prop}{cn:Str}{ns:List Str}{vs:List D}{o:ME}{ρ:Ev}{f:List D→Res D}{x:Str}(ho:o ρ=.ok (.ins cn ns vs))(hn:ns.contains "word"=false)(hl:ZcX.lookup cn=some f)(hf:f [.ins cn ns vs]=.ok (.str x))(q:Φ (.str x)):Tl (meth ZcX "word" o anil ρ) Φ:=by
 refine Zk0 ⟨_,ho,cn,ns,vs,f,rfl,hn,hl,?_⟩
 refine Zam (x:=[]) rfl ?_
 exact Zam hf q
theorem ZhC{Φ:D→Prop}{x y:Str}{b:Bool}(h1:plain 50 (.str x)=true)(h2:plain 50 (.str y)=true)(hb:eqD (.str x) (.str y)=b)(q:Φ (.bl b)):Tl (dEq (.str x) (.str y)) Φ:=by
 refine Zam (x:=.bl b) ?_ q
 unfold dEq
 rw [h1,h2,hb]
 rfl
theorem Zt6{d:D}(h:Thg d):∃k T,Lk d k T:=by
 cases h with
 | @plain k T c tr hk hc =>
  refine ⟨k,T,tr,hk,fT1 _ _,fun T' t'=>.plain t' hk hc,fun T' t'=>?_,fun T' px py ps px' py' ps' cp hp e=>ZnK (fun q v=>rfl) e (Zn6 tr hk cp hp)⟩
  refine Tl.eq ?_
  unfold Za8
  walk_at "w"
  refine ZeF (f:=Zb9) (x := "plain") rfl (by decide +kernel) rfl rfl ?_
  walk_at "w"
  refine ZhC (b:=false) (by decide +kernel) (by decide +kernel) (by decide +kernel) ?_
  walk_at "w"
  refine ZeF (f:=Zb9) (x := "plain") rfl (by decide +kernel) rfl rfl ?_
  walk_at "w"
  refine ZhC (b:=true) (by decide +kernel) (by decide +kernel) (by decide +kernel) ?_
  walk_at "w"
  refine Zfq ?_
  walk_at "w"
  refine Zam (fC1 _ _) ?_
  walk_at "w"
  exact ⟨_,Zmw hk t',by walk_at "w"; rfl⟩
 | @shaded k T tr hk h1 =>
  refine ⟨k,T,tr,hk,fT2 _,fun T' t'=>.shaded t' hk h1,fun T' t'=>?_,fun T' px py ps px' py' ps' cp hp e=>ZnK (fun q v=>rfl) e (Zn6 tr hk cp hp)⟩
  refine Tl.eq ?_
  unfold Za8
  walk_at "w"
  refine ZeF (f:=Zbi) (x := "shaded") rfl (by decide +kernel) rfl rfl ?_
  walk_at "w"
  refine ZhC (b:=false) (by decide +kernel) (by decide +kernel) (by decide +kernel) ?_
  walk_at "w"
  refine ZeF (f:=Zbi) (x := "shaded") rfl (by decide +kernel) rfl rfl ?_
  walk_at "w"
  refine ZhC (b:=false) (by decide +kernel) (by decide +kernel) (by decide +kernel) ?_
  walk_at "w"
  refine ZeF (f:=Zbi) (x := "shaded") rfl (by decide +kernel) rfl rfl ?_
  walk_at "w"
  refine ZhC (b:=true) (by decide +kernel) (by decide +kernel) (by decide +kernel) ?_
  walk_at "w"
  refine Zfq ?_
  walk_at "w"
  exact ⟨_,Zke hk t' h1,by walk_at "w"; rfl⟩
 | @patt k h w T P tr hk h2 hh hw hP =>
  refine ⟨k,T,tr,hk,fT3 _ _,fun T' t'=>.patt t' hk h2 hh hw hP,fun T' t'=>?_,fun T' px py ps px' py' ps' cp hp e=>ZnK (fun q v=>rfl) e (Zn6 tr hk cp hp)⟩
  refine Tl.eq ?_
  unfold Za8
  walk_at "w"
  refine ZeF (f:=ZaT) (x := "patterned") rfl (by decide +kernel) rfl rfl ?_
  walk_at "w"
  refine ZhC (b:=false) (by decide +kernel) (by decide +kernel) (by decide +kernel) ?_
  walk_at "w"
  refine ZeF (f:=ZaT) (x := "patterned") rfl (by decide +kernel) rfl rfl ?_
  walk_at "w"
  refine ZhC (b:=false) (by decide +kernel) (by decide +kernel) (by decide +kernel) ?_
  walk_at "w"
  refine ZeF (f:=ZaT) (x := "patterned") rfl (by decide +kernel) rfl rfl ?_
  walk_at "w"
  refine ZhC (b:=false) (by decide +kernel) (by decide +kernel) (by decide +kernel) ?_
  walk_at "w"
  refine Zfq ?_
  walk_at "w"
  refine Zam (fN3 _ _) ?_
  walk_at "w"
  exact ⟨_,ZoD hk t' h2 hh hw,by walk_at "w"; rfl⟩
 | @glass k T c r tr hk hc hr h0 h1 =>
  refine ⟨k,T,tr,hk,fT4 _ _ _,fun T' t'=>.glass t' hk hc hr h0 h1,fun T' t'=>?_,fun T' px py ps px' py' ps' cp hp e=>ZnK (fun q v=>rfl) e (Zn6 tr hk cp hp)⟩
  refine Tl.eq ?_
  unfold Za8
  walk_at "w"
  refine ZeF (f:=Zdb) (x := "glass") rfl (by decide +kernel) rfl rfl ?_
  walk_at "w"
  refine ZhC (b:=true) (by decide +kernel) (by decide +kernel) (by decide +kernel) ?_
  walk_at "w"
  refine Zfq ?_
  walk_at "w"
  refine Zam (fC4 _ _ _) ?_
  walk_at "w"
  refine Zam (fP4 _ _ _) ?_
  walk_at "w"
  exact ⟨_,Zmi hk t' h0 h1,by walk_at "w"; rfl⟩
theorem ZkA{Φ:D→Prop}{l:List Sg}(hl:l.length≤16)(q:Φ (.bl (!decide (l.map fun s=>s.q).Nodup))):Tl (ZaM [.lst (l.map encS)]) Φ:=by
 unfold ZaM
 walk_at "w"
 refine ⟨by rw [VaN];omega,?_⟩
 refine Zct (fun s:Sg=>frD s.q) (fun s _=>?_) ?_
 ·unfold encS
  walk_at "w"
 walk_at "w"
 rw [show List.map (fun s:Sg=>frD s.q) l=(l.map fun s=>s.q).map frD by rw [VbJ];rfl]
 have hl':(l.map fun s=>s.q).length≤16:=by rw [VaN];exact hl
 generalize (l.map fun s=>s.q)=qs at *
 obtain ⟨n,e,hn⟩:=ZmD (enc:=frD) (key:=fun q:Rat=>[q.num,(q.den:Int)]) (fun a=>⟨_,rfl,rfl⟩) (fun a b h=>Zrh h) hl'
 refine Zam e ?_
 walk_at "w"
 rw [VaN]
 rw [show (!decide ((n:Int)=(qs.length:Int)))=!decide qs.Nodup by
  congr 1
  rw [decide_eq_decide,←hn]
  omega]
 exact q
def dbt(ts:List D)(dots:List (Int×Int))(c r:Nat):Bool:=dots.any fun d=>!decide ((sgs ts (ptA c r d)).map fun s=>s.q).Nodup
theorem ZmJ{Φ:D→Prop}{ts:List D}{w h:Nat}{sp:D}{dots:List (Int×Int)}(hts:∀t∈ts,Thg t)(hl:ts.length≤12)(hw:1≤w∧w≤64)(hh:1≤h∧h≤64)(hs:Zar [sp]=.ok (.lst (dots.map encP)))(hd:ZjU dots)(hn:dots.length≤16)
  (q:Φ (.lst (allC (dbt ts dots) w h))):Tl (ZbS [.lst ts,.int (w:Int),.int (h:Int),sp]) Φ:=by
 unfold ZbS
 walk_at "w"
 refine Zg2 hw hh ?_
 walk_at "w"
 refine Zam hs ?_
 walk_at "w"
 rw [Zbh,VbA]
 refine Zfv (fun r ρ=>∃v6 v7:Cl,ρ=[.im (.lst ts),.im (.int (w:Int)),.im (.int (h:Int)),.im sp,.im (.lst (dots.map encP)),.ow (allC (dbt ts dots) w r),v6,v7]) ⟨_,_,rfl⟩ ?_ ?_
 ·rintro r hr ρ ⟨v6,v7,rfl⟩
  walk_at "w"
  rw [Zbh,VbA]
  refine Zfv (fun c ρ=>∃v7:Cl,ρ=[.im (.lst ts),.im (.int (w:Int)),.im (.int (h:Int)),.im sp,.im (.lst (dots.map encP)),.ow (allC (dbt ts dots) w r++rowC (dbt ts dots) r c),.im (.int (r:Int)),v7]) ⟨_,by simp [rowC];rfl⟩ ?_ ?_
  ·rintro c hc ρ ⟨v7,rfl⟩
   walk_at "w"
   refine Zg9 hts (by omega) (by omega) (by omega) hd hn ?_
   walk_at "w"
   refine ⟨by rw [VaN];omega,?_⟩
   refine Zct (enc:=fun d:Int×Int=>D.lst ((sgs ts (ptA c r d)).map encS)) (fun d:Int×Int=>D.bl (!decide ((sgs ts (ptA c r d)).map fun s=>s.q).Nodup)) (fun d hd'=>?_) ?_
   ·walk_at "w"
    exact ZkA (Vaj (ZmX _ _) (by omega)) rfl
   walk_at "w"
   refine Zru (f:=fun d:Int×Int=>!decide ((sgs ts (ptA c r d)).map fun s=>s.q).Nodup) ?_
   have hlen:(allC (dbt ts dots) w r++rowC (dbt ts dots) r c).length<1000000:=by
    have h1:=Zkn (dbt ts dots) w r
    have h2:=ZhP (dbt ts dots) r c
    have h3:w*r≤64*64:=Nat.mul_le_mul (by omega) (by omega)
    rw [Va4]
    omega
   rw [show rowC (dbt ts dots) r (c+1)=rowC (dbt ts dots) r c++(if dbt ts dots c r=true then [cell c r] else []) from rfl]
   show Tl (tru (.bl (dbt ts dots c r))) _
   walk_at "w"
   refine ZrD (fun e=>?_) (fun e=>?_)
   ·walk_at "w"
    refine ⟨hlen,?_⟩
    rw [if_pos e,←VbK]
    exact ⟨_,rfl,_,rfl⟩
   ·walk_at "w"
    rw [if_neg (by rw [e];exact Vaz),VaS]
    exact ⟨_,rfl,_,rfl⟩
  ·rintro ρ ⟨v7,rfl⟩
   exact ⟨_,rfl,_,_,rfl⟩
 ·rintro ρ ⟨v6,v7,rfl⟩
  walk_at "w"
  exact q
theorem Zgj(xs:List D)(k:Nat):cutL xs none (some (k:Int))=xs.take k:=by
 unfold cutL cutAt
 simp only []
 rw [if_neg (by omega),Vbw,Nat.sub_zero,VbA]
 by_cases h:k≤xs.length
 ·rw [Vcf h]
 ·rw [Nat.min_eq_right (by omega),Vbx (VaF _),Vbx (by omega)]
theorem ZeX(xs:List D)(k:Nat):cutL xs (some (k:Int)) none=xs.drop k:=by
 unfold cutL cutAt
 simp only []
 rw [if_neg (by omega),VbA]
 by_cases h:k≤xs.length
 ·rw [Vcf h,Vbx (by rw [Vbb];omega)]
 ·rw [Nat.min_eq_right (by omega),List.drop_of_length_le (VaF _),List.drop_of_length_le (by omega),List.take_nil]
theorem swap_perm{l:List D}{a:Nat}(h:a+1<l.length):(l.take a++[l[a+1],l[a]]++l.drop (a+2)).Perm l:=by
 have e:l=l.take a++[l[a],l[a+1]]++l.drop (a+2):=by
  have h1:l.drop a=l[a]::l.drop (a+1):=(List.getElem_cons_drop (by omega)).symm
  have h2:l.drop (a+1)=l[a+1]::l.drop (a+2):=(List.getElem_cons_drop (by omega)).symm
  calc l=l.take a++l.drop a:=(VbW a l).symm
   _=_:=by rw [h1,h2];simp
 conv=>rhs;rw [e]
 rw [VbK,VbK]
 refine List.Perm.append_left _ ?_
 exact List.Perm.swap _ _ _
theorem Zn0{Φ:D→Prop}{ts:List D}{n:Int}(hl:ts.length≤12)(q:∀ls:List (List D),(∀l∈ls,l.Perm ts)→Φ (.lst (ls.map D.lst))):Tl (Zbp [.lst ts,.int n]) Φ:=by
 unfold Zbp
 walk_at "w"
 refine ZcP (fun h=>?_) (fun h=>?_)
 ·obtain ⟨a,ea,ha⟩ : ∃a:Nat,n%((ts.length:Int) - 1)=(a:Int)∧a+1<ts.length:=by
   have h1:=VbZ n (show (ts.length:Int) - 1≠0 by omega)
   have h2:=Vb0 n (show (0:Int)<(ts.length:Int) - 1 by omega)
   exact ⟨(n%((ts.length:Int) - 1)).toNat,by omega,by omega⟩
  walk_at "w"
  rw [ea,show ((a:Int)+1)=((a+1:Nat):Int) by omega,ZeX,Zgj]
  refine ZlV (by rw [Vbb,VaX];omega) ?_
  walk_at "w"
  refine ⟨by simp,?_⟩
  walk_at "w"
  rw [show ((a:Int)+1)=((a+1:Nat):Int) by omega,Zgj]
  refine ZjR (i:=a+1) (d:=ts[a+1]) (VbH ha) ?_
  walk_at "w"
  refine ZjR (i:=a) (d:=ts[a]) (VbH (by omega)) ?_
  walk_at "w"
  refine ZlV (by rw [VaX];simp;omega) ?_
  walk_at "w"
  rw [show ((a:Int)+2)=((a+2:Nat):Int) by omega,ZeX]
  refine ZlV (by simp;omega) ?_
  refine ⟨by simp,?_⟩
  walk_at "w"
  refine q [ts.reverse,ts.drop (a+1)++ts.take (a+1),ts.take a++[ts[a+1],ts[a]]++ts.drop (a+2)] fun l hl'=>?_
  simp only [Vaq,VbQ,VbR] at hl'
  rcases hl' with rfl | rfl | rfl
  ·exact List.reverse_perm ts
  ·exact List.perm_append_comm.trans (by rw [VbW])
  ·exact swap_perm ha
 ·walk_at "w"
  refine q [ts.reverse] fun l hl'=>?_
  have:l=ts.reverse:=by simpa using hl'
  subst this
  exact List.reverse_perm ts
theorem Zno(c r c' r':Nat):eqD (cell c' r') (cell c r)=(decide (c'=c)&&decide (r'=r)):=by
 unfold eqD eqDs eqDs eqDs
 show (((c':Int)==(c:Int))&&(((r':Int)==(r:Int))&&true))=_
 rw [Bool.and_true,Vco,Vbh,Vbh,VaK,VaK,Vcm,Vcm]
 omega
theorem Zot(p:Nat→Nat→Bool)(c r r':Nat):∀w,inD (cell c r) (rowC p r' w)=(decide (c<w)&&decide (r'=r)&&p c r')
 | 0=>by simp [rowC,inD]
 | w+1=>by
  have ih:=Zot p c r r' w
  unfold inD at ih ⊢
  unfold rowC
  rw [List.any_append,ih]
  by_cases hp:p w r'=true
  ·rw [if_pos hp,VbL,List.any_nil,Zno,Vco]
   simp only [Bool.or_eq_true,Vbh,Vcm,Bool.or_false]
   constructor
   ·rintro (⟨⟨h1,h2⟩,h3⟩ | ⟨h1,h2⟩)
    ·exact ⟨⟨by omega,h2⟩,h3⟩
    ·subst h1;exact ⟨⟨by omega,h2⟩,hp⟩
   ·rintro ⟨⟨h1,h2⟩,h3⟩
    by_cases z:w=c
    ·exact .inr ⟨z,h2⟩
    ·exact .inl ⟨⟨by omega,h2⟩,h3⟩
  ·rw [if_neg hp,List.any_nil,Bool.or_false,Vco]
   simp only [Vbh,Vcm]
   constructor
   ·rintro ⟨⟨h1,h2⟩,h3⟩
    exact ⟨⟨by omega,h2⟩,h3⟩
   ·rintro ⟨⟨h1,h2⟩,h3⟩
    by_cases z:w=c
    ·subst z;exact absurd h3 hp
    ·exact ⟨⟨by omega,h2⟩,h3⟩
theorem ZoK(p:Nat→Nat→Bool)(c r w:Nat)(hc:c<w):∀h,inD (cell c r) (allC p w h)=(decide (r<h)&&p c r)
 | 0=>by simp [allC,inD]
 | h+1=>by
  have ih:=ZoK p c r w hc h
  have e:=Zot p c r h w
  unfold inD at ih e ⊢
  unfold allC
  rw [List.any_append,ih,e,Vco]
  simp only [Bool.or_eq_true,Vbh,Vcm]
  constructor
  ·rintro (⟨h1,h2⟩ | ⟨⟨h1,h2⟩,h3⟩)
   ·exact ⟨by omega,h2⟩
   ·subst h2;exact ⟨by omega,h3⟩
  ·rintro ⟨h1,h2⟩
   by_cases z:h=r
   ·subst z;exact .inr ⟨⟨hc,rfl⟩,h2⟩
   ·exact .inl ⟨by omega,h2⟩
theorem ZjM{l ts:List D}(h:l.Perm ts)(p:D):(sgs l p).Perm (sgs ts p):=h.filterMap _
theorem Znz{l ts:List D}(h:l.Perm ts)(dots:List (Int×Int)):dbt l dots=dbt ts dots:=by
 funext c r
 unfold dbt
 congr 1
 funext d
 congr 1
 rw [decide_eq_decide]
 exact ((ZjM h _).map _).nodup_iff
theorem Zk8{l ts:List D}{g:Rat}{dots:List (Int×Int)}{c r:Nat}(h:l.Perm ts)(nd:dbt ts dots c r=false):cellQ l g dots c r=cellQ ts g dots c r:=by
 unfold cellQ
 congr 1
 refine Vaa fun d hd=>?_
 have e:(!decide ((sgs ts (ptA c r d)).map fun s=>s.q).Nodup)=false:=by
  have:=List.any_eq_false.mp nd d hd
  simpa using this
 refine (Zly (ZjM h _).symm ?_).symm
 simpa using e
theorem Zos(f:Nat→Nat→Rat)(r:Nat):∀l:List Nat,Zap 48 (l.map fun c=>frD (f c r))=true
 | []=>rfl
 | a::t=>by
  show (plain 48 (frD (f a r))&&Zap 48 (t.map fun c=>frD (f c r)))=true
  rw [Zos f r t,Zj1 47]
  rfl
theorem ZoR(f:Nat→Nat→Rat)(w h:Nat):plain 50 (picP f w h)=true:=by
 have key:∀l:List Nat,Zap 49 (l.map fun r=>rowP f w r)=true:=by
  intro l
  induction l with
  | nil=>rfl
  | cons a t ih =>
   show (plain 49 (rowP f w a)&&Zap 49 (t.map fun r=>rowP f w r))=true
   rw [ih,show plain 49 (rowP f w a)=true from Zos f a (List.range w)]
   rfl
 exact key (List.range h)
theorem Zlm{f g:Nat→Nat→Rat}{w h:Nat}(e:∀c,c<w→∀r,r<h→f c r=g c r):picP f w h=picP g w h:=by
 unfold picP rowP
 congr 1
 refine Vaa fun r hr=>?_
 congr 1
 refine Vaa fun c hc=>?_
 rw [e c (Vai.mp hc) r (Vai.mp hr)]
theorem Zi5{Φ:D→Prop}{f:Nat→Nat→Rat}{w h r:Nat}(hr:r<h)(q:Φ (rowP f w r)):Tl (dIx (picP f w h) (.int (r:Int))) Φ:=by
 unfold picP
 exact ZjR (by rw [Va2,VbG hr];rfl) q
theorem ZjH{Φ:D→Prop}{f:Nat→Nat→Rat}{w r c:Nat}(hc:c<w)(q:Φ (frD (f c r))):Tl (dIx (rowP f w r) (.int (c:Int))) Φ:=by
 unfold rowP
 exact ZjR (by rw [Va2,VbG hc];rfl) q
theorem range_drop(G:Nat→D)(n k:Nat):((List.range (n+k)).map G).drop k=(List.range n).map fun i=>G (i+k):=by
 apply List.ext_getElem
 ·simp
 ·intro i h1 h2
  simp [Nat.add_comm]
theorem ZgU(G:Nat→D){n k:Nat}(h:k≤n):((List.range n).map G).take k=(List.range k).map G:=by
 apply List.ext_getElem
 ·simp;omega
 ·intro i h1 h2
  simp
theorem ZqF{Φ:List D→Prop}{g:MG}{t:MB}{e:ME}{ρ:Ev}(P:D→Bool){l:List D}(h:∀a∈l,Tl (g a ρ) fun ρ1=>Tl (t ρ1) fun b=>b=P a∧Tl (e ρ1) fun y=>y=a)(q:Φ (l.filter P)):Tl (Zak g t e ρ l) Φ:=by
 have z:=Zjf (enc:=fun d:D=>d) (Φ:=Φ) (g:=g) (t:=t) (e:=e) (ρ:=ρ) P (l:=l) h (by rw [List.map_id'];exact q)
 rwa [List.map_id'] at z
def mvd(a b:Nat)(d:D):D:=val (ZaK [val (dFld objs "triangle" d),.int (a:Int),.int (b:Int)])
def bdd(a b:Nat)(d:D):Bool:=match ZaG [mvd a b d] with
 | .ok (.bl z)=>z
 | _=>false
theorem ZjS{d:D}{a b:Nat}(h:Thg d)(ha:a≤10)(hb:b≤10):∃k T,Lk d k T∧ZaK [T,.int (a:Int),.int (b:Int)]=.ok (mvd a b d)∧ZaG [mvd a b d]=.ok (.bl (bdd a b d))∧Mv (a:Int) (b:Int) k T (mvd a b d)∧(bdd a b d=true→Tr k (mvd a b d)):=by
 obtain ⟨k,T,L⟩:=Zt6 h
 obtain ⟨T',e,m⟩:=ZpV (Φ:=fun T'=>Mv (a:Int) (b:Int) k T T') (a:=(a:Int)) (b:=(b:Int)) L.tr (by omega) (by omega) fun T' h=>h
 have e1:mvd a b d=T':=by
  unfold mvd
  rw [L.tri]
  show val (ZaK [T,.int (a:Int),.int (b:Int)])=_
  rw [e]
  rfl
 obtain ⟨z,e2,hz⟩:=Zm7 m
 have e3:bdd a b d=z:=by
  unfold bdd
  rw [e1,e2]
 exact ⟨k,T,L,by rw [e1];exact e,by rw [e1,e3];exact e2,by rw [e1];exact m,by rw [e1,e3];exact hz⟩
def mvF(a b:Nat)(d:D):D:=setT d (mvd a b d)
theorem Zk4{ts:List D}{a b c r:Nat}{d:Int×Int}(hts:∀t∈ts,Thg t∧bdd a b t=true)(ha:a≤10)(hb:b≤10)(hc:c≤80)(hr:r≤80)(hd:(1≤d.1∧d.1≤7)∧1≤d.2∧d.2≤7):sgs (ts.map (mvF a b)) (ptA (c+a) (r+b) d)=(sgs ts (ptA c r d)).map fun s=>{ s with d:=mvF a b s.d }:=by
 have e1:8*((c+a:Nat):Int)+d.1=(8*(c:Int)+d.1)+(a:Int)*8:=by omega
 have e2:8*((r+b:Nat):Int)+d.2=(8*(r:Int)+d.2)+(b:Int)*8:=by omega
 have cp:Cr (8*(c:Int)+d.1) (8*(r:Int)+d.2) 8:=cr8 (by omega) (by omega)
 have cp':Cr ((8*(c:Int)+d.1)+(a:Int)*8) ((8*(r:Int)+d.2)+(b:Int)*8) 8:=cr8 (by omega) (by omega)
 unfold ptA pt8
 rw [e1,e2]
 have one:∀t,Thg t∧bdd a b t=true→so (pt8 ((8*(c:Int)+d.1)+(a:Int)*8) ((8*(r:Int)+d.2)+(b:Int)*8)) (mvF a b t)=(so (pt8 (8*(c:Int)+d.1) (8*(r:Int)+d.2)) t).map fun s=>{ s with d:=mvF a b s.d }:=by
  intro t ht
  obtain ⟨k,T,L,_,_,m,hz⟩:=ZjS (a:=a) (b:=b) ht.1 ha hb
  have z:=L.so (mvd a b t) _ _ _ _ _ _ cp (by decide) (ZqZ m (hz ht.2) L.hk cp cp' (by decide))
  refine z.trans ?_
  cases e:so (.tup [.int (8*(c:Int)+d.1),.int (8*(r:Int)+d.2),.int 8]) t with
  | none=>rfl
  | some s =>
   obtain rfl:=so_d e
   rfl
 unfold sgs
 rw [Vba,List.map_filterMap]
 have key:∀l:List D,(∀t∈l,Thg t∧bdd a b t=true)→l.filterMap (so (pt8 ((8*(c:Int)+d.1)+(a:Int)*8) ((8*(r:Int)+d.2)+(b:Int)*8)) ∘ mvF a b)=l.filterMap fun t=>(so (pt8 (8*(c:Int)+d.1) (8*(r:Int)+d.2)) t).map fun s=>{ s with d:=mvF a b s.d }:=by
  intro l
  induction l with
  | nil=>exact fun _=>rfl
  | cons t rest ih =>
   intro h
   rw [Vam,Vam,ih fun u hu=>h u (Vao _ hu)]
   rw [show (so (pt8 ((8*(c:Int)+d.1)+(a:Int)*8) ((8*(r:Int)+d.2)+(b:Int)*8)) ∘ mvF a b) t=_ from one t (h t Van)]
 exact key ts hts
theorem ZkN{ts:List D}{g:Rat}{dots:List (Int×Int)}{a b c r:Nat}(hts:∀t∈ts,Thg t∧bdd a b t=true)(ha:a≤10)(hb:b≤10)(hc:c≤80)(hr:r≤80)(hd:ZjU dots):cellQ (ts.map (mvF a b)) g dots (c+a) (r+b)=cellQ ts g dots c r:=by
 unfold cellQ
 congr 1
 refine Vaa fun d hd'=>?_
 rw [Zk4 hts ha hb hc hr (hd d hd')]
 exact Znt (f:=fun s=>{ s with d:=mvF a b s.d }) ⟨fun _=>rfl,fun _=>rfl,fun _=>rfl,fun _=>rfl,fun _=>rfl⟩ g _
def gh:Rat:=Rat.divInt 1 2
theorem Zuz:frD gh=.tup [.int 1,.int 2]:=by
 unfold frD gh
 rw [show (Rat.divInt 1 2).num=1 by decide +kernel,show (Rat.divInt 1 2).den=2 by decide +kernel]
 rfl
theorem ZuM:Bq 300 gh:=Zjy (by decide) (by show (1:Int).natAbs<2^300;decide) (by show (2:Int).natAbs<2^300;decide)
theorem ZuS:ZaZ [.tup [.int 1,.int 2]]=.ok (frD gh):=by
 rw [Zuz]
 rfl
theorem Zrj(l:List (Int×Int)):cutL (l.map encP) none (some 2)=(l.take 2).map encP:=by
 rw [show (2:Int)=((2:Nat):Int) from rfl,Zgj,←Vb5]
theorem Zod(ns:List Int)(h63:ns.length≤63):Zpv [.lst (ns.map .int)]=.ok (.bl true):=by
 refine Tl.eq ?_
 unfold Zpv
 walk_at "w"
 refine Zja fun ts lt hts=>?_
 walk_at "w"
 refine ZcN (by decide) fun c8=>?_
 walk_at "w"
 refine ZgH (n:=2) (by decide) fun ds ld hd=>?_
 obtain ⟨nu,mo,rfl⟩ : ∃nu mo,ds=[nu,mo]:=by
  match ds,ld with
  | [a,b],_=>exact ⟨a,b,rfl⟩
 rw [show List.map D.int [nu,mo]=[D.int nu,D.int mo] from rfl]
 walk_at "w"
 refine ZcN (by decide) fun c9=>?_
 walk_at "w"
 refine ZkR fun dots0 l1 l16 hD0=>?_
 walk_at "w"
 rw [Zrj]
 have k1:1≤(dots0.take 2).length∧(dots0.take 2).length≤2:=by rw [VaX];omega
 have hD:Dots (dots0.take 2):=⟨fun x hx=>hD0.1 x (Vcg hx),hD0.2.sublist (List.take_sublist _ _)⟩
 generalize dots0.take 2=dots at *
 have hsp:=ZkZ ⟨k1.1,by omega⟩ hD.1 hD.2
 obtain ⟨w,hw,hw1,hw2⟩ : ∃w:Nat,1+nu%4=(w:Int)∧1≤w∧w≤4:=⟨(1+nu%4).toNat,by omega,by omega,by omega⟩
 obtain ⟨h,hh,hh1,hh2⟩ : ∃h:Nat,1+nu/8%3=(h:Int)∧1≤h∧h≤3:=⟨(1+nu/8%3).toNat,by omega,by omega,by omega⟩
 rw [hw,hh]
 have w6:1≤w∧w≤64:=⟨hw1,by omega⟩
 have h6:1≤h∧h≤64:=⟨hh1,by omega⟩
 clear hw hh c8 c9 h63 ld l1 l16
 have pnt:∀{Φ:D→Prop} {l:List D} {w h:Nat},(∀t∈l,Thg t)→l.length≤4→1≤w∧w≤64→1≤h∧h≤64→Φ (picP (cellQ l gh dots) w h)→Tl (Zcf [.lst l,.int (w:Int),.int (h:Int),.lst (dots.map encP),.tup [.int 1,.int 2]]) Φ:=fun {Φ l w h} a1 a2 a3 a4 q=>ZpD (n:=4) a1 a2 (by decide) a3 a4 hsp ZuS ZuM hD.1 k1.1 (by omega) (by
  have:dots.length*(300+170*4)≤2*(300+170*4):=Vcp _ k1.2
  omega) q
 refine pnt hts lt w6 h6 ?_
 walk_at "w"
 refine ZmJ hts (by omega) w6 h6 hsp hD.1 (by omega) ?_
 walk_at "w"
 refine Zn0 (by omega) fun ls hls=>?_
 walk_at "w"
 refine Zmk (enc:=D.lst) (fun _ ρ=>∃v9 v10 v11 v12:Cl,ρ=[.im (.lst (ns.map .int)),.im (.lst ts),.im (.int nu),.im (.int mo),.im (.int (w:Int)),.im (.int (h:Int)),.im (.lst (dots.map encP)),.im (picP (cellQ ts gh dots) w h),.im (.lst (allC (dbt ts dots) w h)),v9,v10,v11,v12,.no,.no,.no,.no]) ?_ ?_ ⟨_,_,_,_,rfl⟩
 ·rintro us l vs e ρ ⟨v9,v10,v11,v12,rfl⟩
  have pl:=hls l (by rw [e];simp)
  have hl1:∀t∈l,Thg t:=fun t ht=>hts t (pl.mem_iff.mp ht)
  have hl2:l.length≤4:=by rw [pl.length_eq];exact lt
  walk_at "w"
  refine pnt hl1 hl2 w6 h6 ?_
  walk_at "w"
  rw [Zbh,VbA]
  refine Zfv (fun r ρ=>∃v11 v12:Cl,ρ=[.im (.lst (ns.map .int)),.im (.lst ts),.im (.int nu),.im (.int mo),.im (.int (w:Int)),.im (.int (h:Int)),.im (.lst (dots.map encP)),.im (picP (cellQ ts gh dots) w h),.im (.lst (allC (dbt ts dots) w h)),.im (.lst l),.im (picP (cellQ l gh dots) w h),v11,v12,.no,.no,.no,.no]) ⟨_,_,rfl⟩ ?_ ?_
  ·rintro r hr ρ ⟨v11,v12,rfl⟩
   walk_at "w"
   rw [Zbh,VbA]
   refine Zfv (fun c ρ=>∃v12:Cl,ρ=[.im (.lst (ns.map .int)),.im (.lst ts),.im (.int nu),.im (.int mo),.im (.int (w:Int)),.im (.int (h:Int)),.im (.lst (dots.map encP)),.im (picP (cellQ ts gh dots) w h),.im (.lst (allC (dbt ts dots) w h)),.im (.lst l),.im (picP (cellQ l gh dots) w h),.im (.int (r:Int)),v12,.no,.no,.no,.no]) ⟨_,rfl⟩ ?_ ?_
   ·rintro c hc ρ ⟨v12,rfl⟩
    walk_at "w"
    refine ZoE rfl (Zmz _ 49 _ _) ?_
    rw [show (D.tup [.int (c:Int),.int (r:Int)])=cell c r from rfl,ZoK _ c r w hc h,Vbm hr,Bool.true_and]
    cases hb:dbt ts dots c r with
    | true =>
     walk_at "w"
     exact ⟨_,rfl,_,rfl⟩
    | false =>
     walk_at "w"
     refine Zi5 hr ?_
     walk_at "w"
     refine ZjH hc ?_
     walk_at "w"
     refine Zi5 hr ?_
     walk_at "w"
     refine ZjH hc ?_
     rw [Zk8 pl hb]
     refine Zud (Zj1 49 _) ?_
     walk_at "w"
     exact ⟨_,rfl,_,rfl⟩
   ·rintro ρ ⟨v12,rfl⟩
    exact ⟨_,rfl,_,_,rfl⟩
  ·rintro ρ ⟨v11,v12,rfl⟩
   walk_at "w"
   refine ZmJ hl1 (by omega) w6 h6 hsp hD.1 (by omega) ?_
   rw [Znz pl]
   walk_at "w"
   refine Zam (ZmZ (Zn3 _ _ _)) ?_
   walk_at "w"
   exact .inl ⟨_,rfl,_,_,_,_,rfl⟩
 ·rintro ρ ⟨v9,v10,v11,v12,rfl⟩
  obtain ⟨a,ea,ha⟩ : ∃a:Nat,mo%3=(a:Int)∧a≤2:=⟨(mo%3).toNat,by omega,by omega⟩
  obtain ⟨b,eb,hb⟩ : ∃b:Nat,mo/4%3=(b:Int)∧b≤2:=⟨(mo/4%3).toNat,by omega,by omega⟩
  walk_at "w"
  rw [ea,eb]
  refine ⟨by omega,?_⟩
  refine ZqF (bdd a b) (fun t ht=>?_) ?_
  ·obtain ⟨k,T,L,m1,m2,_⟩:=ZjS (a:=a) (b:=b) (hts t ht) (by omega) (by omega)
   walk_at "w"
   refine Zam L.tri ?_
   walk_at "w"
   refine Zam m1 ?_
   walk_at "w"
   refine Zam m2 ?_
   walk_at "w"
   exact ⟨rfl,by walk_at "w"⟩
  have hso:∀t∈ts.filter (bdd a b),Thg t∧bdd a b t=true:=fun t ht=>⟨hts t (Vah.mp ht).1,(Vah.mp ht).2⟩
  have lso:(ts.filter (bdd a b)).length≤4:=Vaj (Vcn _ _) lt
  generalize ts.filter (bdd a b)=so1 at *
  walk_at "w"
  refine ⟨by omega,?_⟩
  refine Zuv (mvF a b) (fun t ht=>?_) ?_
  ·obtain ⟨k,T,L,m1,m2,_,hz⟩:=ZjS (a:=a) (b:=b) (hso t ht).1 (by omega) (by omega)
   walk_at "w"
   refine Zam L.tri ?_
   walk_at "w"
   refine Zam m1 ?_
   walk_at "w"
   exact Zam (L.like _ (hz (hso t ht).2)) rfl
  have hsh:∀t∈so1.map (mvF a b),Thg t:=fun t ht=>by
   obtain ⟨u,hu,rfl⟩:=Vbs.mp ht
   obtain ⟨k,T,L,m1,m2,_,hz⟩:=ZjS (a:=a) (b:=b) (hso u hu).1 (by omega) (by omega)
   exact L.thg _ (hz (hso u hu).2)
  walk_at "w"
  rw [show ((w:Int)+(a:Int))=((w+a:Nat):Int) by omega,show ((h:Int)+(b:Int))=((h+b:Nat):Int) by omega]
  refine pnt hsh (by rw [VaN];exact lso) (by omega) (by omega) ?_
  walk_at "w"
  refine (show Tl (dCut (picP (cellQ (so1.map (mvF a b)) gh dots) (w+a) (h+b)) (some (b:Int)) none) _ from ?_)
  unfold picP
  walk_at "w"
  rw [ZeX,range_drop]
  refine ⟨by rw [VaN,VbF];omega,?_⟩
  refine Zct (enc:=fun i:Nat=>rowP (cellQ (so1.map (mvF a b)) gh dots) (w+a) (i+b)) (fun i:Nat=>rowP (fun c r=>cellQ (so1.map (mvF a b)) gh dots (c+a) (r+b)) w i) (fun i hi=>?_) ?_
  ·unfold rowP
   walk_at "w"
   rw [ZeX,range_drop]
  walk_at "w"
  refine pnt (fun t ht=>(hso t ht).1) lso w6 h6 ?_
  refine (show Tl (dNe (picP (fun c r=>cellQ (so1.map (mvF a b)) gh dots (c+a) (r+b)) w h) (picP (cellQ so1 gh dots) w h)) _ from ?_)
  rw [Zlm (f:=fun c r=>cellQ (so1.map (mvF a b)) gh dots (c+a) (r+b)) (g:=cellQ so1 gh dots) fun c hc r hr=>ZkN hso (by omega) (by omega) (by omega) (by omega) hD.1]
  refine Zam (ZmZ (ZoR _ _ _)) ?_
  walk_at "w"
  obtain ⟨w',ew,hw3,hw4⟩ : ∃w':Nat,1+mo/16%(w:Int)=(w':Int)∧1≤w'∧w'≤w:=by
   have h1:=VbZ (mo/16) (show (w:Int)≠0 by omega)
   have h2:=Vb0 (mo/16) (show (0:Int)<(w:Int) by omega)
   exact ⟨(1+mo/16%(w:Int)).toNat,by omega,by omega,by omega⟩
  obtain ⟨h',eh,hh3,hh4⟩ : ∃h':Nat,1+mo/128%(h:Int)=(h':Int)∧1≤h'∧h'≤h:=by
   have h1:=VbZ (mo/128) (show (h:Int)≠0 by omega)
   have h2:=Vb0 (mo/128) (show (0:Int)<(h:Int) by omega)
   exact ⟨(1+mo/128%(h:Int)).toNat,by omega,by omega,by omega⟩
  rw [ew,eh]
  clear ew eh
  refine pnt hts lt ⟨hw3,Nat.le_trans hw4 w6.2⟩ ⟨hh3,Nat.le_trans hh4 h6.2⟩ ?_
  walk_at "w"
  rw [VaN,VbF,Zgj,ZgU _ hh4]
  refine ⟨by rw [VaN,VbF];omega,?_⟩
  refine Zct (enc:=fun i:Nat=>rowP (cellQ ts gh dots) w i) (fun i:Nat=>rowP (cellQ ts gh dots) w' i) (fun i hi=>?_) ?_
  ·walk_at "w"
   refine Zi5 (r:=0) (by omega) ?_
   walk_at "w"
   unfold rowP
   walk_at "w"
   rw [VaN,VbF,Zgj,ZgU _ hw4]
  walk_at "w"
  refine Zam (ZqO (ZoR _ _ _)) ?_
  walk_at "w"
end My
namespace My
open PySem L2 Ds Dl
def top(i:Nat):Stmt:=PySem.Challenge.pw_sampleyard_k57_whole_order_and_places.main.body.getD i (.Pass ⟨0,0,0,0⟩)
abbrev ZcJ:Stmt:=top 83
abbrev ZcF:Stmt:=top 73
abbrev ZdB:Stmt:=top 74
abbrev Zdl:Stmt:=top 75
abbrev Zc1:Stmt:=(inClass (top 68) 1)
abbrev ZbI:Stmt:=(inClass (top 67) 1)
abbrev Zc3:Stmt:=(inClass (top 65) 1)
abbrev ZcG:Stmt:=(inClass (top 66) 1)
abbrev Zbz:Stmt:=top 25
abbrev Zfi:Stmt:=top 8
abbrev ZdF:Stmt:=top 57
abbrev Zef:Stmt:=top 56
abbrev Zb5:Stmt:=top 55
abbrev ZbP:Stmt:=(inClass (top 64) 0)
abbrev Zbr:Stmt:=top 10
abbrev Zdf:Stmt:=top 20
abbrev ZcD:Stmt:=top 70
abbrev Zdn:Stmt:=top 71
abbrev ZbO:Stmt:=(inClass (top 68) 0)
abbrev Zch:Stmt:=top 60
abbrev ZcH:Stmt:=top 69
abbrev ZhG:Stmt:=top 61
abbrev Za4:Stmt:=(inClass (top 67) 0)
abbrev ZbL:Stmt:=(inClass (top 65) 0)
abbrev Zbs:Stmt:=(inClass (top 66) 0)
abbrev Zd9:Stmt:=top 84
abbrev ZdE:Stmt:=top 82
abbrev ZcU:Stmt:=top 85
abbrev Zdr:Stmt:=top 81
abbrev ZiW:Stmt:=top 13
abbrev ZcE:Stmt:=top 78
abbrev ZdJ:Stmt:=top 79
abbrev ZcZ:Stmt:=top 76
abbrev Zb3:Stmt:=top 77
abbrev Zda:Stmt:=top 80
abbrev Zdo:Stmt:=top 9
abbrev Zc8:Stmt:=top 37
abbrev Zbw:Stmt:=top 52
abbrev ZbK:Stmt:=top 11
abbrev Zeg:Stmt:=top 31
abbrev ZbC:Stmt:=top 30
abbrev ZcI:Stmt:=top 23
abbrev ZlE:Stmt:=top 22
abbrev Zp8:Stmt:=top 26
abbrev Ze4:Stmt:=top 24
abbrev ZgB:Stmt:=top 27
abbrev ZgG:Stmt:=top 29
abbrev Zem:Stmt:=top 42
abbrev Zf1:Stmt:=top 33
abbrev Zee:Stmt:=top 49
abbrev ZgE:Stmt:=top 39
abbrev Zdc:Stmt:=top 38
abbrev ZbF:Stmt:=top 40
abbrev Zbc:Stmt:=top 51
abbrev Zb0:Stmt:=top 41
abbrev ZbA:Stmt:=(inClass (top 68) 3)
abbrev ZlS:Stmt:=top 19
abbrev Ze6:Stmt:=top 62
abbrev Za3:Stmt:=(inClass (top 67) 2)
abbrev Zbv:Stmt:=(inClass (top 65) 2)
abbrev Zbo:Stmt:=(inClass (top 66) 2)
abbrev Zi9:Stmt:=top 15
abbrev Zl5:Stmt:=top 14
abbrev ZgD:Stmt:=top 16
abbrev Zea:Stmt:=top 46
abbrev ZbN:Stmt:=(inClass (top 68) 2)
abbrev ZbR:Stmt:=(inClass (top 64) 1)
abbrev Zi4:Stmt:=top 18
abbrev Zc6:Stmt:=top 45
abbrev Zdu:Stmt:=top 44
abbrev Zd8:Stmt:=top 43
abbrev ZfO:Stmt:=top 17
abbrev ZcT:Stmt:=top 50
abbrev Zc0:Stmt:=top 48
abbrev ZcY:Stmt:=top 47
abbrev ZhI:Stmt:=top 86
local macro_rules | `(tactic| walk_at "sc")=>`(tactic| exact ⟨rfl,rfl,rfl,by decide +kernel,rfl,by decide +kernel,by decide +kernel⟩)
theorem Zds:Zad ["_law_triangle"] ["_law_triangle"] (Zab ZcJ):=by walk_at "sc"
theorem ZdG:Zad ["_law_script", "_law_k"] ["_law_script", "_law_k"] (Zab ZcF):=by walk_at "sc"
theorem Zeu:Zad ["_law_cell", "_law_k", "_law_number"] ["_law_cell", "_law_k"] (Zab ZdB):=by walk_at "sc"
theorem ZeJ:Zad ["_law_cell", "_law_many"] ["_law_cell", "_law_many"] (Zab Zdl):=by walk_at "sc"
theorem Zd3:Zad ["self"] ["self"] (Zab Zc1):=by walk_at "sc"
theorem Zcr:Zad ["self"] ["self"] (Zab ZbI):=by walk_at "sc"
theorem Zd5:Zad ["self"] ["self"] (Zab Zc3):=by walk_at "sc"
theorem Zdt:Zad ["self"] ["self"] (Zab ZcG):=by walk_at "sc"
theorem Zcd:Zad ["corners", "corner"] ["corners"] (Zab Zbz):=by walk_at "sc"
theorem Zgx:Zad ["thing"] ["thing"] (Zab Zfi):=by walk_at "sc"
theorem ZeR:Zad ["thing"] ["thing"] (Zab ZdF):=by walk_at "sc"
theorem Zfu:Zad ["thing"] ["thing"] (Zab Zef):=by walk_at "sc"
theorem ZcM:Zad ["triangle", "corner"] ["triangle"] (Zab Zb5):=by walk_at "sc"
theorem Zcp:Zad ["self", "triangle"] ["self", "triangle"] (Zab ZbP):=by walk_at "sc"
theorem Zce:Zad ["numbers", "found", "number", "rest", "left"] ["numbers"] (Zab Zbr):=by walk_at "sc"
theorem ZdV:Zad ["thing"] ["thing"] (Zab Zdf):=by walk_at "sc"
theorem ZdC:Zad ["colour"] ["colour"] (Zab ZcD):=by walk_at "sc"
theorem Ze0:Zad ["part"] ["part"] (Zab Zdn):=by walk_at "sc"
theorem Zcx:Zad ["self", "triangle", "colour", "part"] ["self", "triangle", "colour", "part"] (Zab ZbO):=by walk_at "sc"
theorem Zdh:Zad ["pattern", "row"] ["pattern"] (Zab Zch):=by walk_at "sc"
theorem ZdH:Zad ["triangle", "least"] ["triangle", "least"] (Zab ZcH):=by walk_at "sc"
theorem ZiL:Zad ["pattern"] ["pattern"] (Zab ZhG):=by walk_at "sc"
theorem ZbD:Zad ["self", "triangle", "pattern"] ["self", "triangle", "pattern"] (Zab Za4):=by walk_at "sc"
theorem Zcy:Zad ["self", "triangle", "colour"] ["self", "triangle", "colour"] (Zab ZbL):=by walk_at "sc"
theorem Zcg:Zad ["self", "triangle"] ["self", "triangle"] (Zab Zbs):=by walk_at "sc"
theorem Zfo:Zad ["_law_thing_here", "_law_triangle"] ["_law_thing_here", "_law_triangle"] (Zab Zd9):=by walk_at "sc"
theorem Zdd:Zad ["_law_triangle", "_law_across", "_law_along_it", "_law_found"] ["_law_triangle", "_law_across", "_law_along_it"] (Zab ZdE):=by walk_at "sc"
theorem ZcA:Zad ["_law_things_here", "_law_number", "_law_found", "_law_at"] ["_law_things_here", "_law_number"] (Zab ZcU):=by walk_at "sc"
theorem Zeq:Zad ["_law_cell", "_law_draws_here", "_law_found", "_law_more", "_law_spot"] ["_law_cell"] (Zab Zdr):=by walk_at "sc"
theorem Zj3:Zad ["top", "bottom", "divisor"] ["top", "bottom"] (Zab ZiW):=by walk_at "sc"
theorem Zdv:Zad ["_law_number", "_law_more", "_law_rows", "_law_columns", "_law_found", "_law_r", "_law_line", "_law_c", "_law_one"] ["_law_number", "_law_more"] (Zab ZcE):=by walk_at "sc"
theorem Zer:Zad ["_law_draws_here", "_law_triangle", "_law_number", "_law_top", "_law_bottom", "_law_more", "_law_colour", "_law_way", "_law_few", "_law_part"] ["_law_draws_here", "_law_triangle"] (Zab ZdJ):=by walk_at "sc"
theorem ZbT:Zad ["_law_draws_here", "_law_many", "_law_number", "_law_more", "_law_scale", "_law_times", "_law_x", "_law_y", "_law_w", "_law_h", "_law_values"] ["_law_draws_here", "_law_many"] (Zab ZcZ):=by walk_at "sc"
theorem ZaR:Zad ["_law_script", "_law_first", "_law_most", "_law_many", "_law_size", "_law_rows", "_law_pool", "_law_draws_here", "_law_found", "_law_k", "_law_number", "_law_one"] ["_law_script", "_law_first", "_law_most", "_law_many"] (Zab Zb3):=by walk_at "sc"
theorem ZdX:Zad ["_law_script", "_law_first", "_law_most", "_law_draws_here", "_law_found", "_law_many", "_law_k", "_law_triangle"] ["_law_script", "_law_first", "_law_most"] (Zab Zda):=by walk_at "sc"
theorem Zev:Zad ["thing", "least", "most"] ["thing", "least", "most"] (Zab Zdo):=by walk_at "sc"
theorem Zd4:Zad ["width", "height"] ["width", "height"] (Zab Zc8):=by walk_at "sc"
theorem Zbn:Zad ["sights", "depths"] ["sights"] (Zab Zbw):=by walk_at "sc"
theorem Zcz:Zad ["three", "other"] ["three", "other"] (Zab ZbK):=by walk_at "sc"
theorem Zfw:Zad ["triangle", "amounts"] ["triangle", "amounts"] (Zab Zeg):=by walk_at "sc"
theorem ZaV:Zad ["triangle", "amounts", "bottom", "depth", "threes"] ["triangle", "amounts"] (Zab ZbC):=by walk_at "sc"
theorem Zdm:Zad ["one", "other"] ["one", "other"] (Zab ZcI):=by walk_at "sc"
theorem Zml:Zad ["one", "other", "point", "n", "number"] ["one", "other", "point"] (Zab ZlE):=by walk_at "sc"
theorem ZoG:Zad ["triangle", "point", "turn"] ["triangle", "point"] (Zab Zp8):=by walk_at "sc"
theorem ZfY:Zad ["one", "other", "point"] ["one", "other", "point"] (Zab Ze4):=by walk_at "sc"
theorem Zhe:Zad ["triangle", "point"] ["triangle", "point"] (Zab ZgB):=by walk_at "sc"
theorem Zg6:Zad ["triangle", "point"] ["triangle", "point"] (Zab ZgG):=by walk_at "sc"
theorem Zfr:Zad ["things", "p", "sights", "thing", "seen"] ["things", "p"] (Zab Zem):=by walk_at "sc"
theorem Zhg:Zad ["column", "row", "spot"] ["column", "row", "spot"] (Zab Zf1):=by walk_at "sc"
theorem Zfl:Zad ["things", "column", "row", "spots"] ["things", "column", "row", "spots"] (Zab Zee):=by walk_at "sc"
theorem Zg4:Zad ["thing"] ["thing"] (Zab ZgE):=by walk_at "sc"
theorem ZdY:Zad ["spots"] ["spots"] (Zab Zdc):=by walk_at "sc"
theorem Zcs:Zad ["spots"] ["spots"] (Zab ZbF):=by walk_at "sc"
theorem Zgb:Zad ["things", "width", "height", "spots", "places", "cells", "row", "column"] ["things", "width", "height", "spots"] (Zab Zbc):=by walk_at "sc"
theorem ZcO:Zad ["ground"] ["ground"] (Zab Zb0):=by walk_at "sc"
theorem Zcm:Zad ["self", "values"] ["self", "values"] (Zab ZbA):=by walk_at "sc"
theorem Zli:Zad ["one"] ["one"] (Zab ZlS):=by walk_at "sc"
theorem ZfZ:Zad ["pattern", "u", "v", "row"] ["pattern", "u", "v"] (Zab Ze6):=by walk_at "sc"
theorem Zbx:Zad ["self", "values"] ["self", "values"] (Zab Za3):=by walk_at "sc"
theorem Zcn:Zad ["self", "values"] ["self", "values"] (Zab Zbv):=by walk_at "sc"
theorem Zb7:Zad ["self", "values"] ["self", "values"] (Zab Zbo):=by walk_at "sc"
theorem Zkq:Zad ["one", "other"] ["one", "other"] (Zab Zi9):=by walk_at "sc"
theorem ZmI:Zad ["one", "other"] ["one", "other"] (Zab Zl5):=by walk_at "sc"
theorem Zha:Zad ["one", "other"] ["one", "other"] (Zab ZgD):=by walk_at "sc"
theorem Zfm:Zad ["glass", "colour", "left"] ["glass", "colour"] (Zab Zea):=by walk_at "sc"
theorem Zcu:Zad ["self"] ["self"] (Zab ZbN):=by walk_at "sc"
theorem Zcw:Zad ["self"] ["self"] (Zab ZbR):=by walk_at "sc"
theorem ZjW:Zad ["one", "other"] ["one", "other"] (Zab Zi4):=by walk_at "sc"
theorem ZcK:Zad ["nearest", "sights", "layers", "sight", "place"] ["nearest", "sights"] (Zab Zc6):=by walk_at "sc"
theorem ZeN:Zad ["sights", "nearest", "sight"] ["sights"] (Zab Zdu):=by walk_at "sc"
theorem Zdx:Zad ["sights", "ground", "nearest", "colour", "sight"] ["sights", "ground"] (Zab Zd8):=by walk_at "sc"
theorem Zg1:Zad ["some", "total", "fraction"] ["some"] (Zab ZfO):=by walk_at "sc"
theorem Zd1:Zad ["sights_by_spot", "ground"] ["sights_by_spot", "ground"] (Zab ZcT):=by walk_at "sc"
theorem ZdZ:Zad ["things", "width", "row", "spots", "ground"] ["things", "width", "row", "spots", "ground"] (Zab Zc0):=by walk_at "sc"
theorem Zj4:Zad ["things", "width", "height", "spots", "ground", "places", "beneath"] ["things", "width", "height", "spots", "ground"] (Zab ZcY):=by walk_at "sc"
theorem Zkf:Zad ["_law_script", "_law_things_here", "_law_number", "_law_more", "_law_width", "_law_height", "_law_spots_here", "_law_picture", "_law_unsure", "_law_some", "_law_other", "_law_row", "_law_column", "_law_across", "_law_down_it", "_law_shifted", "_law_small"] ["_law_script"] (Zab ZhI):=by walk_at "sc"
structure Txt(K:W.Frag)(mg:Str→Option Value):Prop where
 z_abs:mg "abs"=none
 z_all:mg "all"=none
 z_any:mg "any"=none
 z_bool:mg "bool"=none
 z_enumerate:mg "enumerate"=none
 z_int:mg "int"=none
 z_isinstance:mg "isinstance"=none
 z_len:mg "len"=none
 z_list:mg "list"=none
 z_max:mg "max"=none
 z_range:mg "range"=none
 z_set:mg "set"=none
 z_tuple:mg "tuple"=none
 z_zip:mg "zip"=none
 g_MOST_CELLS:∃tk,mg "MOST_CELLS"=some (.int 64 tk)
 g_MOST_SPOTS:∃tk,mg "MOST_SPOTS"=some (.int 16 tk)
 g_MOST_VALUES:∃tk,mg "MOST_VALUES"=some (.int 3 tk)
 t_COUNTS:GTup K mg "COUNTS" [1,2,4,8,16]
 e_BadFloor:∃C,mg "BadFloor"=some (.ref C)∧W.excIn K C ZfR "ValueError.__new__"=true
 e_BadPattern:∃C,mg "BadPattern"=some (.ref C)∧W.excIn K C ZfR "ValueError.__new__"=true
 e_BadThing:∃C,mg "BadThing"=some (.ref C)∧W.excIn K C ZfR "ValueError.__new__"=true
 e_BadTriangle:∃C,mg "BadTriangle"=some (.ref C)∧W.excIn K C ZfR "ValueError.__new__"=true
 f_colour:Ze7 K mg objs "colour"
 f_part:Ze7 K mg objs "part"
 f_pattern:Ze7 K mg objs "pattern"
 f_triangle:Ze7 K mg objs "triangle"
section
variable{P:Program}{w:World}{K:W.Frag}{mg:Str→Option Value}{base:Heap}
set_option hygiene false in
local macro_rules | `(tactic| walk_at "e")=>`(tactic| repeat' first
 | exact ZeQ
 | exact ZuU
 | exact d_bl
 | exact Zij
 | exact ZaU
 | exact ZpJ
 | exact d_v _
 | refine' Zas ?_ ?_
 | refine' d_ix ?_ ?_
 | refine' ZeA (by first | assumption | exact CalO.cal (by assumption) | exact CalN.cal (by assumption)) hr (by decide) rfl ZaB ?_
 | refine' ZpH (by first | assumption | exact CalO.cal (by assumption) | exact CalN.cal (by assumption)) hr (by decide) rfl ?_
 | refine' ZqL (by first | assumption | exact CalO.cal (by assumption) | exact CalN.cal (by assumption)) hr (by decide) rfl ?_
 | refine' Zuf ?_ ?_
 | refine' ZuT ?_ ?_
 | refine' Zuk ?_ ?_
 | refine' ZuK ?_ ?_
 | refine' Zu5 ?_ ?_
 | refine' Zt4 ?_ ?_
 | refine' Zuc ?_ ?_
 | refine' ZtS ?_ ?_
 | refine' Zra ?_ ?_
 | refine' ZuJ ?_ ?_
 | refine' Zt3 ?_ ?_
 | refine' Zuj ?_ ?_
 | refine' d_lt ?_ ?_
 | refine' d_le ?_ ?_
 | refine' d_gt ?_ ?_
 | refine' d_ge ?_ ?_
 | refine' Zjd ?_ ?_
 | refine' ZoN ?_ ?_
 | refine' ZuX ?_ ?_
 | refine' d_or ?_ ?_
 | refine' ZnF hr ?_ ?_
 | refine' ZiS hr ?_ ?_
 | refine' dt_in hr ?_ ?_
 | refine' ZlC hr ?_ ?_
 | refine' d_eq hr ?_ ?_
 | refine' d_ne hr ?_ ?_
 | refine' d_in hr ?_ ?_
 | refine' d_nin hr ?_ ?_
 | exact d_ty rfl T.z_bool ZqB
 | exact d_ty rfl T.z_int Zow
 | exact d_ty rfl T.z_list ZiY
 | exact d_ty rfl T.z_tuple ZeC
 | refine' d_cb (ZlT rfl) ZmA rfl T.z_max Ztt ?_
 | refine' d_cb Zns ZlU rfl T.z_abs Ztl ?_
 | refine' d_cb ZlO Zk5 rfl T.z_isinstance Zhk ?_
 | refine' d_cb Zfk Ziq rfl T.z_len ZmU ?_
 | refine' d_ct ZmL Zmc rfl T.z_int Zow ?_
 | refine' d_ct Ziy Zkx rfl T.z_list ZiY ?_
 | refine' Zl9 T.f_colour ?_
 | refine' Zl9 T.f_part ?_
 | refine' Zl9 T.f_pattern ?_
 | refine' Zl9 T.f_triangle ?_
 | refine' Zrt T.f_triangle ?_
 | refine' Zsv ?_ ?_
 | refine' Ztu ?_ ?_
 | refine' Zum ?_ ?_ ?_
 | refine' ZuO ?_ ?_ ?_
 | refine' ZsK ?_
 | refine' Zg3 ?_
 | refine' ZtR ?_
 | refine' Zro ?_
 | refine' Zl3 ?_
 | refine' d_isN ?_
 | refine' d_notN ?_
 | refine' Zq6 ?_
 | refine' ZuL ?_
 | refine' ZgW ?_
 | refine' Zrc ?_
 | refine' ZeL ?_
 | refine' DW.dt ?_
 | exact ZaC
 | exact Zlt
 | exact ds_retN
 | exact Zop
 | exact ds_brk
 | exact ds_pass
 | refine' Zaj ?_
 | refine' Zac ?_ ?_
 | refine' ZaH ?_
 | refine' ZbZ ?_ ?_ ?_
 | refine' Zfx hN rfl (by first | exact Or.inl rfl | exact Or.inr rfl) ?_
 | refine' ZlK hN rfl (by first | exact Or.inl rfl | exact Or.inr rfl) ?_ ?_
 | refine' Ztv _ ?_
 | refine' Zs7 ?_
 | refine' Zst ?_ ?_
 | refine' Zd2 Vcq rfl ?_ ?_ ?_
 | exact Zd6 hN rfl (by first | exact Or.inl rfl | exact Or.inr rfl) (by decide)
 | refine' ZoM rfl ?_
 | refine' ZdM ?_ ?_
 | refine' Zu3 rfl T.z_range ?_
 | refine' Zbf ?_
 | refine' ZsO ?_
 | refine' ZjN rfl m_BadFloor q_BadFloor ?_ ?_
 | refine' ZjN rfl m_BadPattern q_BadPattern ?_ ?_
 | refine' ZjN rfl m_BadThing q_BadThing ?_ ?_
 | refine' ZjN rfl m_BadTriangle q_BadTriangle ?_ ?_
 | decide
 | fail)
local macro_rules | `(tactic| walk_at "co")=>`(tactic| exact Zdk.of rfl rfl (by kernel_rfl) rfl (by repeat' (first | exact trivial | refine ⟨rfl,?_⟩)) (by repeat' (first | exact trivial | refine ⟨rfl,?_⟩)))
local macro_rules | `(tactic| walk_at "cg")=>`(tactic| exact fun _ _ _ _ _=>Zd6 (by show List.Nodup ((_:List Str) ++ (_:List Str));decide +kernel) rfl (by first | exact Or.inl rfl | exact Or.inr rfl) (by decide))
local macro_rules | `(tactic| walk_at "ct")=>`(tactic| exact fun _ _ _ _ _=>Zre)
local macro_rules | `(tactic| walk_at "ce")=>`(tactic| (intro _ _ _ _ _;walk_at "e"))
theorem ZfS(T:Txt K mg)(D:Def K mg "_law_bounded" ZcJ ["_law_triangle"])  : Cal P w K mg base 1  "_law_bounded" ["_law_triangle"] ZaG:=by
 exact D.cal Zds (fun f cdv A outer s H E hr=>have hN:=Zds.nd;⟨_,(Zaj (ZaH (d_eq hr (ZbB (own:=["_law_corner_here"]) (cap:=[]) (Zbf (d_v 0)) (by walk_at "co") rfl (by walk_at "cg") (fun _ _ _ _ _=>Zjc (by walk_at "e")) (fun _ _ _ _ _=>(d_v 0))) (Ztu ZaU))))⟩)
theorem Zge(T:Txt K mg)(D:Def K mg "_law_cell_at" ZcF ["_law_script", "_law_k"])  : Cal P w K mg base 1  "_law_cell_at" ["_law_script", "_law_k"] Zaq:=by
 exact D.cal ZdG (fun f cdv A outer s H E hr=>have hN:=ZdG.nd;⟨_,(by walk_at "e")⟩)
theorem Zhp(T:Txt K mg)(D:Def K mg "_law_mixed" ZdB ["_law_cell", "_law_k"])  : Cal P w K mg base 1  "_law_mixed" ["_law_cell", "_law_k"] Za9:=by
 exact D.cal Zeu (fun f cdv A outer s H E hr=>have hN:=Zeu.nd;⟨_,(by walk_at "e")⟩)
theorem Zhr(T:Txt K mg)(D:Def K mg "_law_draws" Zdl ["_law_cell", "_law_many"])(c__law_mixed:Cal P w K mg base 1  "_law_mixed" ["_law_cell", "_law_k"] Za9):Cal P w K mg base 2  "_law_draws" ["_law_cell", "_law_many"] Zaw:=by
 exact D.cal ZeJ (fun f cdv A outer s H E hr=>have hN:=ZeJ.nd;⟨_,(Zaj (ZaH (ZbB (own:=["_law_k"]) (cap:=[("_law_cell", 0)]) (by walk_at "e") (by walk_at "co") rfl (by walk_at "cg") (by walk_at "ct") (by walk_at "ce"))))⟩)
theorem ZgS{f:Addr}{fd:FuncData}(T:Txt K mg)(F:Fun K "word" "Glass.word" Zc1 f fd)  : FnOk P w K mg base (CXR P w) 1 f fd ["self"] (spD K mg 1 Zdb):=by
 exact okM F Zd3 (fun cdv A outer s H E hr=>have hN:=Zd3.nd;⟨_,(Zaj (ZaH Zij))⟩)
theorem Zew{f:Addr}{fd:FuncData}(T:Txt K mg)(F:Fun K "word" "Patterned.word" ZbI f fd)  : FnOk P w K mg base (CXR P w) 1 f fd ["self"] (spD K mg 1 ZaT):=by
 exact okM F Zcr (fun cdv A outer s H E hr=>have hN:=Zcr.nd;⟨_,(Zaj (ZaH Zij))⟩)
theorem ZgT{f:Addr}{fd:FuncData}(T:Txt K mg)(F:Fun K "word" "Plain.word" Zc3 f fd)  : FnOk P w K mg base (CXR P w) 1 f fd ["self"] (spD K mg 1 Zb9):=by
 exact okM F Zd5 (fun cdv A outer s H E hr=>have hN:=Zd5.nd;⟨_,(Zaj (ZaH Zij))⟩)
theorem Zgd{f:Addr}{fd:FuncData}(T:Txt K mg)(F:Fun K "word" "Shaded.word" ZcG f fd)  : FnOk P w K mg base (CXR P w) 1 f fd ["self"] (spD K mg 1 Zbi):=by
 exact okM F Zdt (fun cdv A outer s H E hr=>have hN:=Zdt.nd;⟨_,(Zaj (ZaH Zij))⟩)
theorem Zep(T:Txt K mg)(D:Def K mg "check_before_eye" Zbz ["corners"])  : Cal P w K mg base 1  "check_before_eye" ["corners"] Zan:=by
 obtain ⟨C_BadTriangle,m_BadTriangle,q_BadTriangle⟩:=T.e_BadTriangle
 exact D.cal Zcd (fun f cdv A outer s H E hr=>have hN:=Zcd.nd;⟨_,(by walk_at "e")⟩)
theorem ZiP(T:Txt K mg)(D:Def K mg "is_whole" Zfi ["thing"])  : Cal P w K mg base 1  "is_whole" ["thing"] Zaz:=by
 exact D.cal Zgx (fun f cdv A outer s H E hr=>have hN:=Zgx.nd;⟨_,(by walk_at "e")⟩)
theorem ZhJ(T:Txt K mg)(D:Def K mg "are_values" ZdF ["thing"])(c_is_whole:Cal P w K mg base 1  "is_whole" ["thing"] Zaz):Cal P w K mg base 2  "are_values" ["thing"] ZbW:=by
 obtain ⟨tk_MOST_VALUES,g_MOST_VALUES⟩:=T.g_MOST_VALUES
 exact D.cal ZeR (fun f cdv A outer s H E hr=>have hN:=ZeR.nd;⟨_,(Zac (ZbZ (DW.dt (Zjd (by walk_at "e") (ZgW (Zra (by walk_at "e") (d_gi rfl g_MOST_VALUES)))))
  (Zaj (ZaH d_bl))
  ZaC)
  (Zaj (ZaH (d_cb (ZeT rfl) ZeE rfl T.z_all Zj7 (Zas (ZbB (own:=["number"]) (cap:=[]) (Zbf (d_v 0)) (by walk_at "co") rfl (by walk_at "cg") (by walk_at "ct") (by walk_at "ce")) ZaU)))))⟩)
theorem Zh8(T:Txt K mg)(D:Def K mg "is_corner" Zef ["thing"])(c_is_whole:Cal P w K mg base 1  "is_whole" ["thing"] Zaz)(c_are_values:Cal P w K mg base 2  "are_values" ["thing"] ZbW):Cal P w K mg base 3  "is_corner" ["thing"] Zci:=by
 exact D.cal Zfu (fun f cdv A outer s H E hr=>have hN:=Zfu.nd;⟨_,(Zac (by walk_at "e")
  (Zac (ZbZ (Zg3 (ZeL (d_cb (ZeT rfl) ZeE rfl T.z_all Zj7 (Zas (ZbB (own:=["number"]) (cap:=[]) (by walk_at "e") (by walk_at "co") rfl (by walk_at "cg") (by walk_at "ct") (by walk_at "ce")) ZaU))))
  (Zaj (ZaH d_bl))
  ZaC)
  (by walk_at "e")))⟩)
theorem Zfd(T:Txt K mg)(D:Def K mg "check_triangle" Zb5 ["triangle"])(c_is_corner:Cal P w K mg base 3  "is_corner" ["thing"] Zci):Cal P w K mg base 4  "check_triangle" ["triangle"] Za0:=by
 obtain ⟨C_BadTriangle,m_BadTriangle,q_BadTriangle⟩:=T.e_BadTriangle
 exact D.cal ZcM (fun f cdv A outer s H E hr=>have hN:=ZcM.nd;⟨_,(by walk_at "e")⟩)
theorem Znq{f:Addr}{fd:FuncData}(T:Txt K mg)(F:Fun K "__init__" "Thing.__init__" ZbP f fd)(c_check_before_eye:Cal P w K mg base 1  "check_before_eye" ["corners"] Zan)(c_check_triangle:Cal P w K mg base 4  "check_triangle" ["triangle"] Za0):FnOk P w K mg base (CXR P w) 5 f fd ["self", "triangle"] (spI K mg 1 objs Zb4):=by
 exact okI F Zcp (by decide) rfl (fun cdv A outer s H E hr=>have hN:=Zcp.nd;⟨_,(Zfs (by walk_at "e")
  (Zfs (by walk_at "e")
  (Ziz T.f_triangle (d_v 1)
  Zib)))⟩)
theorem Zeh(T:Txt K mg)(D:Def K mg "greatest_divisor" Zbr ["numbers"])  : Cal P w K mg base 1  "greatest_divisor" ["numbers"] Zao:=by
 exact D.cal Zce (fun f cdv A outer s H E hr=>have hN:=Zce.nd;⟨_,(Zac (by walk_at "e")
  (Zac (Zd2 Vcq rfl (Zbf (d_v 0)) (by walk_at "e")
  (Zac (by walk_at "e")
  (Zaj (ZsY Vcq (ZnF hr (d_v 3) ZeQ)
  (by walk_at "e")))))
  (by walk_at "e")))⟩)
theorem ZgN(T:Txt K mg)(D:Def K mg "is_fraction" Zdf ["thing"])(c_is_whole:Cal P w K mg base 1  "is_whole" ["thing"] Zaz)(c_greatest_divisor:Cal P w K mg base 1  "greatest_divisor" ["numbers"] Zao):Cal P w K mg base 2  "is_fraction" ["thing"] ZaF:=by
 exact D.cal ZdV (fun f cdv A outer s H E hr=>have hN:=ZdV.nd;⟨_,(by walk_at "e")⟩)
theorem ZfU(T:Txt K mg)(D:Def K mg "check_colour" ZcD ["colour"])(c_is_fraction:Cal P w K mg base 2  "is_fraction" ["thing"] ZaF):Cal P w K mg base 3  "check_colour" ["colour"] ZaP:=by
 obtain ⟨C_BadThing,m_BadThing,q_BadThing⟩:=T.e_BadThing
 exact D.cal ZdC (fun f cdv A outer s H E hr=>have hN:=ZdC.nd;⟨_,(by walk_at "e")⟩)
theorem Zhi(T:Txt K mg)(D:Def K mg "check_part" Zdn ["part"])(c_is_fraction:Cal P w K mg base 2  "is_fraction" ["thing"] ZaF):Cal P w K mg base 3  "check_part" ["part"] ZbX:=by
 obtain ⟨C_BadThing,m_BadThing,q_BadThing⟩:=T.e_BadThing
 exact D.cal Ze0 (fun f cdv A outer s H E hr=>have hN:=Ze0.nd;⟨_,(by walk_at "e")⟩)
theorem Znj{f:Addr}{fd:FuncData}(T:Txt K mg)(F:Fun K "__init__" "Glass.__init__" ZbO f fd)(cs_Thing:CalS P w K mg base 5 "Thing" "__init__" 1 objs Zb4)(c_check_colour:Cal P w K mg base 3  "check_colour" ["colour"] ZaP)(c_check_part:Cal P w K mg base 3  "check_part" ["part"] ZbX):FnOk P w K mg base (CXR P w) 7 f fd ["self", "triangle", "colour", "part"] (spI K mg 3 objs Zdp):=by
 exact okI F Zcx (by decide) rfl (fun cdv A outer s H E hr=>have hN:=Zcx.nd;⟨_,(ZjG cs_Thing hr (by decide) rfl ZaB (fun _ h=>h) (Zas (d_v 1) ZaU)
  (Zfs (by walk_at "e")
  (Zfs (by walk_at "e")
  (Ziz T.f_colour (d_v 2)
  (Ziz T.f_part (d_v 3)
  Zib)))))⟩)
theorem ZfB(T:Txt K mg)(D:Def K mg "check_pattern" Zch ["pattern"])(c_is_fraction:Cal P w K mg base 2  "is_fraction" ["thing"] ZaF):Cal P w K mg base 3  "check_pattern" ["pattern"] ZaS:=by
 obtain ⟨C_BadPattern,m_BadPattern,q_BadPattern⟩:=T.e_BadPattern
 obtain ⟨ga_COUNTS,go_COUNTS,gi_COUNTS,gn_COUNTS,gm_COUNTS,gl_COUNTS,gc_COUNTS,gd_COUNTS,gz_COUNTS,gv_COUNTS⟩:=T.t_COUNTS
 exact D.cal Zdh (fun f cdv A outer s H E hr=>have hN:=Zdh.nd;⟨_,(Zac (ZbZ (DW.dt (Zjd (by walk_at "e") (ZgW (ZlC hr (by walk_at "e") (ZoJ (ns:=[1,2,4,8,16]) rfl gm_COUNTS gl_COUNTS gc_COUNTS gd_COUNTS gz_COUNTS gv_COUNTS)))))
  (by walk_at "e")
  ZaC)
  (Zaj (Zd2 Vcq rfl (Zbf (d_v 0)) (by walk_at "e")
  (Zac (ZbZ (DW.dt (Zjd (by walk_at "e") (ZgW (ZlC hr (by walk_at "e") (ZoJ (ns:=[1,2,4,8,16]) rfl gm_COUNTS gl_COUNTS gc_COUNTS gd_COUNTS gz_COUNTS gv_COUNTS)))))
  (by walk_at "e")
  ZaC)
  (Zac (by walk_at "e")
  (Zaj (ZbZ (Zg3 (ZeL (d_cb (ZeT rfl) ZeE rfl T.z_all Zj7 (Zas (ZbB (own:=["entry"]) (cap:=[]) (Zbf (d_v 1)) (by walk_at "co") rfl (by walk_at "cg") (by walk_at "ct") (by walk_at "ce")) ZaU))))
  (by walk_at "e")
  ZaC)))))))⟩)
theorem Zf9(T:Txt K mg)(D:Def K mg "check_values" ZcH ["triangle", "least"])  : Cal P w K mg base 1  "check_values" ["triangle", "least"] ZaQ:=by
 exact D.cal ZdH (fun f cdv A outer s H E hr=>have hN:=ZdH.nd;⟨_,(Zaj (ZbZ (by walk_at "e")
  ZqC
  ZaC))⟩)
theorem ZmK(T:Txt K mg)(D:Def K mg "copied" ZhG ["pattern"])  : Cal P w K mg base 1  "copied" ["pattern"] ZdS:=by
 exact D.cal ZiL (fun f cdv A outer s H E hr=>have hN:=ZiL.nd;⟨_,(Zaj (ZaH (ZbB (own:=["row"]) (cap:=[]) (Zbf (d_v 0)) (by walk_at "co") rfl (by walk_at "cg") (by walk_at "ct") (by walk_at "ce"))))⟩)
theorem Zh9{f:Addr}{fd:FuncData}(T:Txt K mg)(F:Fun K "__init__" "Patterned.__init__" Za4 f fd)(cs_Thing:CalS P w K mg base 5 "Thing" "__init__" 1 objs Zb4)(c_check_pattern:Cal P w K mg base 3  "check_pattern" ["pattern"] ZaS)(c_check_values:Cal P w K mg base 1  "check_values" ["triangle", "least"] ZaQ)(c_copied:Cal P w K mg base 1  "copied" ["pattern"] ZdS):FnOk P w K mg base (CXR P w) 7 f fd ["self", "triangle", "pattern"] (spI K mg 2 objs Za6):=by
 exact okI F ZbD (by decide) rfl (fun cdv A outer s H E hr=>have hN:=ZbD.nd;⟨_,(ZjG cs_Thing hr (by decide) rfl ZaB (fun _ h=>h) (Zas (d_v 1) ZaU)
  (Zfs (by walk_at "e")
  (Zfs (by walk_at "e")
  (Ziz T.f_pattern (by walk_at "e")
  Zib))))⟩)
theorem Znl{f:Addr}{fd:FuncData}(T:Txt K mg)(F:Fun K "__init__" "Plain.__init__" ZbL f fd)(cs_Thing:CalS P w K mg base 5 "Thing" "__init__" 1 objs Zb4)(c_check_colour:Cal P w K mg base 3  "check_colour" ["colour"] ZaP):FnOk P w K mg base (CXR P w) 7 f fd ["self", "triangle", "colour"] (spI K mg 2 objs ZdK):=by
 exact okI F Zcy (by decide) rfl (fun cdv A outer s H E hr=>have hN:=Zcy.nd;⟨_,(ZjG cs_Thing hr (by decide) rfl ZaB (fun _ h=>h) (Zas (d_v 1) ZaU)
  (Zfs (by walk_at "e")
  (Ziz T.f_colour (d_v 2)
  Zib)))⟩)
theorem Zmt{f:Addr}{fd:FuncData}(T:Txt K mg)(F:Fun K "__init__" "Shaded.__init__" Zbs f fd)(cs_Thing:CalS P w K mg base 5 "Thing" "__init__" 1 objs Zb4)(c_check_values:Cal P w K mg base 1  "check_values" ["triangle", "least"] ZaQ):FnOk P w K mg base (CXR P w) 7 f fd ["self", "triangle"] (spI K mg 1 objs Zcv):=by
 exact okI F Zcg (by decide) rfl (fun cdv A outer s H E hr=>have hN:=Zcg.nd;⟨_,(ZjG cs_Thing hr (by decide) rfl ZaB (fun _ h=>h) (Zas (d_v 1) ZaU)
  (Zfs (by walk_at "e")
  Zib))⟩)
theorem ZhU(T:Txt K mg)(D:Def K mg "_law_like" Zd9 ["_law_thing_here", "_law_triangle"])(cm_word:Zck P w K mg base 1 0 "word" ZcX)(ci_Glass:CalI P w K mg base 7 "Glass" 3 objs Zdp)(ci_Patterned:CalI P w K mg base 7 "Patterned" 2 objs Za6)(ci_Plain:CalI P w K mg base 7 "Plain" 2 objs ZdK)(ci_Shaded:CalI P w K mg base 7 "Shaded" 1 objs Zcv):Cal P w K mg base 9  "_law_like" ["_law_thing_here", "_law_triangle"] Za8:=by
 exact D.cal Zfo (fun f cdv A outer s H E hr=>have hN:=Zfo.nd;⟨_,(Zac (ZbZ (ZiS hr (ZfV cm_word hr (by decide) ZaB (d_v 0)) Zij)
  (Zaj (ZaH (ZfA ci_Glass hr (by decide) rfl ZaB (by walk_at "e"))))
  ZaC)
  (Zac (ZbZ (ZiS hr (ZfV cm_word hr (by decide) ZaB (d_v 0)) Zij)
  (Zaj (ZaH (ZfA ci_Plain hr (by decide) rfl ZaB (by walk_at "e"))))
  ZaC)
  (Zac (ZbZ (ZiS hr (ZfV cm_word hr (by decide) ZaB (d_v 0)) Zij)
  (Zaj (ZaH (ZfA ci_Shaded hr (by decide) rfl ZaB (Zas (d_v 1) ZaU))))
  ZaC)
  (Zaj (ZaH (ZfA ci_Patterned hr (by decide) rfl ZaB (by walk_at "e")))))))⟩)
theorem Zhm(T:Txt K mg)(D:Def K mg "_law_moved" ZdE ["_law_triangle", "_law_across", "_law_along_it"])  : Cal P w K mg base 1  "_law_moved" ["_law_triangle", "_law_across", "_law_along_it"] ZaK:=by
 exact D.cal Zdd (fun f cdv A outer s H E hr=>have hN:=Zdd.nd;⟨_,(Zac (Ze9 (i:=3) Zdd.nd rfl (Or.inl rfl) (own:=["_law_x", "_law_y", "_law_w", "_law_h", "_law_values"]) (cap:=[("_law_along_it", 2),("_law_across", 1)]) (Zbf (d_v 0)) (by walk_at "co") rfl (fun _ _ _ _ _=>(ZoM rfl (ZdM (Zd6 (i:=0) (show List.Nodup (["_law_x", "_law_y", "_law_w", "_law_h", "_law_values", "_law_along_it", "_law_across"]:List Str) by decide +kernel) rfl (Or.inl rfl) (by decide)) (ZdM (Zd6 (i:=1) (show List.Nodup (["_law_x", "_law_y", "_law_w", "_law_h", "_law_values", "_law_along_it", "_law_across"]:List Str) by decide +kernel) rfl (Or.inl rfl) (by decide)) (ZdM (Zd6 (i:=2) (show List.Nodup (["_law_x", "_law_y", "_law_w", "_law_h", "_law_values", "_law_along_it", "_law_across"]:List Str) by decide +kernel) rfl (Or.inl rfl) (by decide)) (ZdM (Zd6 (i:=3) (show List.Nodup (["_law_x", "_law_y", "_law_w", "_law_h", "_law_values", "_law_along_it", "_law_across"]:List Str) by decide +kernel) rfl (Or.inl rfl) (by decide)) (ZdM (Zd6 (i:=4) (show List.Nodup (["_law_x", "_law_y", "_law_w", "_law_h", "_law_values", "_law_along_it", "_law_across"]:List Str) by decide +kernel) rfl (Or.inl rfl) (by decide)) Zlt))))))) (by walk_at "ct") (by walk_at "ce"))
  (by walk_at "e"))⟩)
theorem ZgQ(T:Txt K mg)(D:Def K mg "_law_orders" ZcU ["_law_things_here", "_law_number"])  : Cal P w K mg base 1  "_law_orders" ["_law_things_here", "_law_number"] Zbp:=by
 exact D.cal ZcA (fun f cdv A outer s H E hr=>have hN:=ZcA.nd;⟨_,(Zac (ZlK (i:=2) ZcA.nd rfl (Or.inl rfl) (Zas (Zt7 (d_v 0) (ZsK ZeQ)) ZaU))
  (by walk_at "e"))⟩)
theorem ZhQ(T:Txt K mg)(D:Def K mg "_law_spots" Zdr ["_law_cell"])(c__law_draws:Cal P w K mg base 2  "_law_draws" ["_law_cell", "_law_many"] Zaw):Cal P w K mg base 3  "_law_spots" ["_law_cell"] ZbU:=by
 exact D.cal Zeq (fun f cdv A outer s H E hr=>have hN:=Zeq.nd;⟨_,(Zac (by walk_at "e")
  (Zac (by walk_at "e")
  (Zac (Zd2 Vcq rfl (by walk_at "e") (by walk_at "e")
  (Zac (by walk_at "e")
  (Zac (by walk_at "e")
  (Zaj (ZbZ (ZuZ 2 (by walk_at "e"))
  (by walk_at "e")
  ZaC)))))
  (by walk_at "e"))))⟩)
theorem Zoj(T:Txt K mg)(D:Def K mg "ratio" ZiW ["top", "bottom"])(c_greatest_divisor:Cal P w K mg base 1  "greatest_divisor" ["numbers"] Zao):Cal P w K mg base 2  "ratio" ["top", "bottom"] ZaI:=by
 exact D.cal Zj3 (fun f cdv A outer s H E hr=>have hN:=Zj3.nd;⟨_,(by walk_at "e")⟩)
theorem Zgi(T:Txt K mg)(D:Def K mg "_law_pattern" ZcE ["_law_number", "_law_more"])(c__law_mixed:Cal P w K mg base 1  "_law_mixed" ["_law_cell", "_law_k"] Za9)(c_ratio:Cal P w K mg base 2  "ratio" ["top", "bottom"] ZaI):Cal P w K mg base 3  "_law_pattern" ["_law_number", "_law_more"] Zbj:=by
 exact D.cal Zdv (fun f cdv A outer s H E hr=>have hN:=Zdv.nd;⟨_,(by walk_at "e")⟩)
theorem Zhy(T:Txt K mg)(D:Def K mg "_law_thing" ZdJ ["_law_draws_here", "_law_triangle"])(ci_Glass:CalI P w K mg base 7 "Glass" 3 objs Zdp)(ci_Patterned:CalI P w K mg base 7 "Patterned" 2 objs Za6)(ci_Plain:CalI P w K mg base 7 "Plain" 2 objs ZdK)(ci_Shaded:CalI P w K mg base 7 "Shaded" 1 objs Zcv)(c_ratio:Cal P w K mg base 2  "ratio" ["top", "bottom"] ZaI)(c__law_pattern:Cal P w K mg base 3  "_law_pattern" ["_law_number", "_law_more"] Zbj):Cal P w K mg base 9  "_law_thing" ["_law_draws_here", "_law_triangle"] ZbY:=by
 exact D.cal Zer (fun f cdv A outer s H E hr=>have hN:=Zer.nd;⟨_,(Zac (by walk_at "e")
  (Zac (by walk_at "e")
  (Zac (by walk_at "e")
  (Zac (by walk_at "e")
  (Zac (ZbZ (ZiS hr (d_v 7) ZeQ)
  (Zac (by walk_at "e")
  (Zaj (ZaH (ZfA ci_Shaded hr (by decide) rfl ZaB (Zas (d_ct Zcb ZcV rfl T.z_tuple ZeC (Zas (ZbB (own:=["_law_corner_here"]) (cap:=[("_law_few", 8)]) (Zbf (d_v 1)) (by walk_at "co") rfl (by walk_at "cg") (by walk_at "ct") (by walk_at "ce")) ZaU)) ZaU)))))
  ZaC)
  (Zac (ZbZ (ZiS hr (d_v 7) ZeQ)
  (Zaj (ZaH (ZfA ci_Patterned hr (by decide) rfl ZaB (by walk_at "e"))))
  ZaC)
  (Zac (ZbZ (ZiS hr (d_v 7) ZeQ)
  (Zaj (ZaH (ZfA ci_Plain hr (by decide) rfl ZaB (by walk_at "e"))))
  ZaC)
  (Zac (by walk_at "e")
  (Zaj (ZaH (ZfA ci_Glass hr (by decide) rfl ZaB (by walk_at "e"))))))))))))⟩)
theorem ZgK(T:Txt K mg)(D:Def K mg "_law_corner" ZcZ ["_law_draws_here", "_law_many"])  : Cal P w K mg base 1  "_law_corner" ["_law_draws_here", "_law_many"] Zba:=by
 exact D.cal ZbT (fun f cdv A outer s H E hr=>have hN:=ZbT.nd;⟨_,(Zac (by walk_at "e")
  (Zac (by walk_at "e")
  (Zac (by walk_at "e")
  (Zac (by walk_at "e")
  (Zac (by walk_at "e")
  (Zac (by walk_at "e")
  (Zac (by walk_at "e")
  (Zac (Zfx (i:=10) ZbT.nd rfl (Or.inl rfl) (d_ct Zcb ZcV rfl T.z_tuple ZeC (Zas (ZbB (own:=["_law_j"]) (cap:=[("_law_draws_here", 0)]) (by walk_at "e") (by walk_at "co") rfl (by walk_at "cg") (by walk_at "ct") (by walk_at "ce")) ZaU)))
  (Zac (ZbZ (by walk_at "e")
  (Zac (by walk_at "e")
  (Zac (by walk_at "e")
  (Zac (by walk_at "e")
  (Zac (by walk_at "e")
  (Zaj (Zfx (i:=10) ZbT.nd rfl (Or.inl rfl) (d_ct Zcb ZcV rfl T.z_tuple ZeC (Zas (ZbB (own:=["_law_j"]) (cap:=[("_law_draws_here", 0)]) (by walk_at "e") (by walk_at "co") rfl (by walk_at "cg") (by walk_at "ct") (by walk_at "ce")) ZaU))))))))
  ZaC)
  (by walk_at "e"))))))))))⟩)
theorem Ze8(T:Txt K mg)(D:Def K mg "_law_triangles" Zb3 ["_law_script", "_law_first", "_law_most", "_law_many"])(c__law_cell_at:Cal P w K mg base 1  "_law_cell_at" ["_law_script", "_law_k"] Zaq)(c__law_draws:Cal P w K mg base 2  "_law_draws" ["_law_cell", "_law_many"] Zaw)(c__law_corner:Cal P w K mg base 1  "_law_corner" ["_law_draws_here", "_law_many"] Zba):Cal P w K mg base 3  "_law_triangles" ["_law_script", "_law_first", "_law_most", "_law_many"] ZaY:=by
 exact D.cal ZaR (fun f cdv A outer s H E hr=>have hN:=ZaR.nd;⟨_,(Zac (by walk_at "e")
  (Zac (Zfx (i:=5) ZaR.nd rfl (Or.inr rfl) (ZbB (own:=["_law_k"]) (cap:=[("_law_size", 4),("_law_script", 0),("_law_first", 1)]) (by walk_at "e") (by walk_at "co") rfl (by walk_at "cg") (by walk_at "ct") (by walk_at "ce")))
  (Zac (Ze9 (i:=6) ZaR.nd rfl (Or.inl rfl) (own:=["_law_row"]) (cap:=[("_law_size", 4),("_law_many", 3)]) (Zbf (d_v 5)) (by walk_at "co") rfl (by walk_at "cg") (by walk_at "ct") (by walk_at "ce"))
  (Zac (by walk_at "e")
  (Zac (by walk_at "e")
  (Zac (Zd2 Vcq rfl (by walk_at "e") (by walk_at "e")
  (Zac (by walk_at "e")
  (Zac (by walk_at "e")
  (Zac (ZbZ (by walk_at "e")
  (Zaj (Ze9 (i:=11) ZaR.nd rfl (Or.inl rfl) (own:=["_law_j"]) (cap:=[("_law_size", 4),("_law_rows", 5),("_law_many", 3),("_law_k", 9)]) (by walk_at "e") (by walk_at "co") rfl (by walk_at "cg") (by walk_at "ct") (by walk_at "ce")))
  ZaC)
  (by walk_at "e")))))
  (by walk_at "e")))))))⟩)
theorem ZgP(T:Txt K mg)(D:Def K mg "_law_things" Zda ["_law_script", "_law_first", "_law_most"])(c__law_cell_at:Cal P w K mg base 1  "_law_cell_at" ["_law_script", "_law_k"] Zaq)(c__law_draws:Cal P w K mg base 2  "_law_draws" ["_law_cell", "_law_many"] Zaw)(c__law_thing:Cal P w K mg base 9  "_law_thing" ["_law_draws_here", "_law_triangle"] ZbY)(c__law_triangles:Cal P w K mg base 3  "_law_triangles" ["_law_script", "_law_first", "_law_most", "_law_many"] ZaY):Cal P w K mg base 10  "_law_things" ["_law_script", "_law_first", "_law_most"] Zbu:=by
 exact D.cal ZdX (fun f cdv A outer s H E hr=>have hN:=ZdX.nd;⟨_,(Zac (by walk_at "e")
  (Zac (by walk_at "e")
  (Zac (by walk_at "e")
  (Zac (Zd2 Vcq rfl (Zit rfl T.z_enumerate (by walk_at "e")) (by walk_at "e")
  (by walk_at "e"))
  (by walk_at "e")))))⟩)
theorem ZhK(T:Txt K mg)(D:Def K mg "is_between" Zdo ["thing", "least", "most"])(c_is_whole:Cal P w K mg base 1  "is_whole" ["thing"] Zaz):Cal P w K mg base 2  "is_between" ["thing", "least", "most"] ZaJ:=by
 exact D.cal Zev (fun f cdv A outer s H E hr=>have hN:=Zev.nd;⟨_,(by walk_at "e")⟩)
theorem ZgI(T:Txt K mg)(D:Def K mg "check_floor" Zc8 ["width", "height"])(c_is_between:Cal P w K mg base 2  "is_between" ["thing", "least", "most"] ZaJ):Cal P w K mg base 3  "check_floor" ["width", "height"] ZaW:=by
 obtain ⟨C_BadFloor,m_BadFloor,q_BadFloor⟩:=T.e_BadFloor
 obtain ⟨tk_MOST_CELLS,g_MOST_CELLS⟩:=T.g_MOST_CELLS
 exact D.cal Zd4 (fun f cdv A outer s H E hr=>have hN:=Zd4.nd;⟨_,(Zaj (ZbZ (DW.dt (Zjd (Zg3 (ZeL (ZeA c_is_between hr (by decide) rfl ZaB (Zas (d_v 0) (Zas ZeQ (Zas (d_gi rfl g_MOST_CELLS) ZaU)))))) (ZgW (Zg3 (ZeL (ZeA c_is_between hr (by decide) rfl ZaB (Zas (d_v 1) (Zas ZeQ (Zas (d_gi rfl g_MOST_CELLS) ZaU)))))))))
  (by walk_at "e")
  ZaC))⟩)
theorem Zd7(T:Txt K mg)(D:Def K mg "has_alike_depths" Zbw ["sights"])  : Cal P w K mg base 1  "has_alike_depths" ["sights"] ZaM:=by
 exact D.cal Zbn (fun f cdv A outer s H E hr=>have hN:=Zbn.nd;⟨_,(Zac (Ze9 (i:=1) Zbn.nd rfl (Or.inl rfl) (own:=["sight"]) (cap:=[]) (Zbf (d_v 0)) (by walk_at "co") rfl (by walk_at "cg") (by walk_at "ct") (fun _ _ _ _ _=>(d_ix (d_v 0) ZeQ)))
  (Zaj (ZaH (d_ne hr (Zj8 hr rfl T.z_len rfl T.z_set (d_v 1)) (by walk_at "e")))))⟩)
theorem ZeV(T:Txt K mg)(D:Def K mg "summed_products" ZbK ["three", "other"])  : Cal P w K mg base 1  "summed_products" ["three", "other"] Zah:=by
 exact D.cal Zcz (fun f cdv A outer s H E hr=>have hN:=Zcz.nd;⟨_,(by walk_at "e")⟩)
theorem ZiD(T:Txt K mg)(D:Def K mg "weighed_h" Zeg ["triangle", "amounts"])(c_summed_products:Cal P w K mg base 1  "summed_products" ["three", "other"] Zah):Cal P w K mg base 2  "weighed_h" ["triangle", "amounts"] Zcj:=by
 exact D.cal Zfw (fun f cdv A outer s H E hr=>have hN:=Zfw.nd;⟨_,(Zaj (ZaH (ZeA c_summed_products hr (by decide) rfl ZaB (Zas (ZbB (own:=["corner"]) (cap:=[]) (Zbf (d_v 0)) (by walk_at "co") rfl (by walk_at "cg") (by walk_at "ct") (fun _ _ _ _ _=>(d_ix (d_v 0) ZeQ))) (Zas (d_v 1) ZaU)))))⟩)
theorem Zel(T:Txt K mg)(D:Def K mg "depth_and_values" ZbC ["triangle", "amounts"])(c_ratio:Cal P w K mg base 2  "ratio" ["top", "bottom"] ZaI)(c_summed_products:Cal P w K mg base 1  "summed_products" ["three", "other"] Zah)(c_weighed_h:Cal P w K mg base 2  "weighed_h" ["triangle", "amounts"] Zcj):Cal P w K mg base 3  "depth_and_values" ["triangle", "amounts"] ZaL:=by
 exact D.cal ZaV (fun f cdv A outer s H E hr=>have hN:=ZaV.nd;⟨_,(Zac (by walk_at "e")
  (Zac (Zfx (i:=3) ZaV.nd rfl (Or.inl rfl) (ZeA c_ratio hr (by decide) rfl ZaB (Zas (ZeA c_summed_products hr (by decide) rfl ZaB (Zas (ZbB (own:=["corner"]) (cap:=[]) (Zbf (d_v 0)) (by walk_at "co") rfl (by walk_at "cg") (by walk_at "ct") (fun _ _ _ _ _=>(d_ix (d_v 0) ZeQ))) (Zas (d_v 1) ZaU))) (Zas (d_v 2) ZaU))))
  (Zac (Zfx (i:=4) ZaV.nd rfl (Or.inl rfl) (d_lz rfl rfl T.z_zip rfl T.z_list (by walk_at "e")))
  (Zaj (ZaH (Zsv (Zas (d_v 3) (Zas (d_ct Zcb ZcV rfl T.z_tuple ZeC (Zas (ZbB (own:=["three"]) (cap:=[("bottom", 2),("amounts", 1)]) (Zbf (d_v 4)) (by walk_at "co") rfl (by walk_at "cg") (by walk_at "ct") (by walk_at "ce")) ZaU)) ZaU))))))))⟩)
theorem Zgy(T:Txt K mg)(D:Def K mg "edge_numbers" ZcI ["one", "other"])  : Cal P w K mg base 1  "edge_numbers" ["one", "other"] ZaN:=by
 exact D.cal Zdm (fun f cdv A outer s H E hr=>have hN:=Zdm.nd;⟨_,(by walk_at "e")⟩)
theorem Zo8(T:Txt K mg)(D:Def K mg "side" ZlE ["one", "other", "point"])(c_summed_products:Cal P w K mg base 1  "summed_products" ["three", "other"] Zah)(c_edge_numbers:Cal P w K mg base 1  "edge_numbers" ["one", "other"] ZaN):Cal P w K mg base 2  "side" ["one", "other", "point"] Zf0:=by
 exact D.cal Zml (fun f cdv A outer s H E hr=>have hN:=Zml.nd;⟨_,(by walk_at "e")⟩)
theorem Zs8(T:Txt K mg)(D:Def K mg "had" Zp8 ["triangle", "point"])(c_check_before_eye:Cal P w K mg base 1  "check_before_eye" ["corners"] Zan)(c_side:Cal P w K mg base 2  "side" ["one", "other", "point"] Zf0):Cal P w K mg base 3  "had" ["triangle", "point"] ZmT:=by
 exact D.cal ZoG (fun f cdv A outer s H E hr=>have hN:=ZoG.nd;⟨_,(by walk_at "e")⟩)
theorem Zi3(T:Txt K mg)(D:Def K mg "edge_sum" Ze4 ["one", "other", "point"])(c_summed_products:Cal P w K mg base 1  "summed_products" ["three", "other"] Zah)(c_edge_numbers:Cal P w K mg base 1  "edge_numbers" ["one", "other"] ZaN):Cal P w K mg base 2  "edge_sum" ["one", "other", "point"] ZbH:=by
 exact D.cal ZfY (fun f cdv A outer s H E hr=>have hN:=ZfY.nd;⟨_,(by walk_at "e")⟩)
theorem ZkX(T:Txt K mg)(D:Def K mg "weights" ZgB ["triangle", "point"])(c_edge_sum:Cal P w K mg base 2  "edge_sum" ["one", "other", "point"] ZbH):Cal P w K mg base 3  "weights" ["triangle", "point"] ZdD:=by
 exact D.cal Zhe (fun f cdv A outer s H E hr=>have hN:=Zhe.nd;⟨_,(by walk_at "e")⟩)
theorem ZkM(T:Txt K mg)(D:Def K mg "seen_at" ZgG ["triangle", "point"])(c_depth_and_values:Cal P w K mg base 3  "depth_and_values" ["triangle", "amounts"] ZaL)(c_had:Cal P w K mg base 3  "had" ["triangle", "point"] ZmT)(c_weights:Cal P w K mg base 3  "weights" ["triangle", "point"] ZdD):Cal P w K mg base 4  "seen_at" ["triangle", "point"] Zal:=by
 exact D.cal Zg6 (fun f cdv A outer s H E hr=>have hN:=Zg6.nd;⟨_,(by walk_at "e")⟩)
theorem ZiJ(T:Txt K mg)(D:Def K mg "sights_at" Zem ["things", "p"])(c_seen_at:Cal P w K mg base 4  "seen_at" ["triangle", "point"] Zal):Cal P w K mg base 5  "sights_at" ["things", "p"] ZbM:=by
 exact D.cal Zfr (fun f cdv A outer s H E hr=>have hN:=Zfr.nd;⟨_,(by walk_at "e")⟩)
theorem ZkY(T:Txt K mg)(D:Def K mg "spot_at" Zf1 ["column", "row", "spot"])  : Cal P w K mg base 1  "spot_at" ["column", "row", "spot"] ZeD:=by
 exact D.cal Zhg (fun f cdv A outer s H E hr=>have hN:=Zhg.nd;⟨_,(by walk_at "e")⟩)
theorem Zic(T:Txt K mg)(D:Def K mg "sights_in" Zee ["things", "column", "row", "spots"])(c_sights_at:Cal P w K mg base 5  "sights_at" ["things", "p"] ZbM)(c_spot_at:Cal P w K mg base 1  "spot_at" ["column", "row", "spot"] ZeD):Cal P w K mg base 6  "sights_in" ["things", "column", "row", "spots"] Zbm:=by
 exact D.cal Zfl (fun f cdv A outer s H E hr=>have hN:=Zfl.nd;⟨_,(Zaj (ZaH (Zjk ⟨rfl,rfl,rfl,rfl⟩ (own:=["spot"]) (cap:=[("things", 0),("row", 2),("column", 1)]) (Zbf (d_v 3)) (by walk_at "co") rfl (by walk_at "cg") (by walk_at "ct") (by walk_at "ce"))))⟩)
theorem ZkV(T:Txt K mg)(D:Def K mg "is_spot" ZgE ["thing"])(c_is_between:Cal P w K mg base 2  "is_between" ["thing", "least", "most"] ZaJ):Cal P w K mg base 3  "is_spot" ["thing"] ZdI:=by
 exact D.cal Zg4 (fun f cdv A outer s H E hr=>have hN:=Zg4.nd;⟨_,(by walk_at "e")⟩)
theorem ZgM(T:Txt K mg)(D:Def K mg "check_spots" Zdc ["spots"])(c_is_spot:Cal P w K mg base 3  "is_spot" ["thing"] ZdI):Cal P w K mg base 4  "check_spots" ["spots"] Zbq:=by
 obtain ⟨C_BadFloor,m_BadFloor,q_BadFloor⟩:=T.e_BadFloor
 obtain ⟨tk_MOST_SPOTS,g_MOST_SPOTS⟩:=T.g_MOST_SPOTS
 exact D.cal ZdY (fun f cdv A outer s H E hr=>have hN:=ZdY.nd;⟨_,(Zac (ZbZ (DW.dt (Zjd (by walk_at "e") (Zjd (by walk_at "e") (ZgW (Zra (by walk_at "e") (d_gi rfl g_MOST_SPOTS))))))
  (by walk_at "e")
  ZaC)
  (Zac (ZbZ (Zg3 (ZeL (d_cb (ZeT rfl) ZeE rfl T.z_all Zj7 (Zas (ZbB (own:=["spot"]) (cap:=[]) (Zbf (d_v 0)) (by walk_at "co") rfl (by walk_at "cg") (by walk_at "ct") (by walk_at "ce")) ZaU))))
  (by walk_at "e")
  ZaC)
  (Zaj (ZbZ (ZnF hr (Zj8 hr rfl T.z_len rfl T.z_set (d_v 0)) (by walk_at "e"))
  (by walk_at "e")
  ZaC))))⟩)
theorem Zez(T:Txt K mg)(D:Def K mg "spots_or_middle" ZbF ["spots"])(c_check_spots:Cal P w K mg base 4  "check_spots" ["spots"] Zbq):Cal P w K mg base 5  "spots_or_middle" ["spots"] Zar:=by
 exact D.cal Zcs (fun f cdv A outer s H E hr=>have hN:=Zcs.nd;⟨_,(by walk_at "e")⟩)
theorem Zje{f:Addr}{fd:FuncData}{dV:Value}(T:Txt K mg)(F:FunD K "doubtful" "doubtful" Zbc dV f fd)(c_check_floor:Cal P w K mg base 3  "check_floor" ["width", "height"] ZaW)(c_has_alike_depths:Cal P w K mg base 1  "has_alike_depths" ["sights"] ZaM)(c_sights_in:Cal P w K mg base 6  "sights_in" ["things", "column", "row", "spots"] Zbm)(c_spots_or_middle:Cal P w K mg base 5  "spots_or_middle" ["spots"] Zar):FnOk P w K mg base (CXR P w) 7 f fd ["things", "width", "height", "spots"] (spD K mg 4 ZbS):=by
 exact okDF F Zgb (fun cdv A outer s H E hr=>have hN:=Zgb.nd;⟨_,(Zac (by walk_at "e")
  (Zac (by walk_at "e")
  (Zac (by walk_at "e")
  (Zac (Zd2 Vcq rfl (by walk_at "e") (by walk_at "e")
  (Zaj (Zd2 Vcq rfl (by walk_at "e") (by walk_at "e")
  (Zaj (ZbZ (ZeL (d_cb (ZlN rfl) Zlr rfl T.z_any ZsG (Zas (ZbB (own:=["sights"]) (cap:=[]) (by walk_at "e") (by walk_at "co") rfl (by walk_at "cg") (by walk_at "ct") (by walk_at "ce")) ZaU)))
  (by walk_at "e")
  ZaC)))))
  (by walk_at "e")))))⟩)
theorem Zfc(T:Txt K mg)(D:Def K mg "ground_or_none" Zb0 ["ground"])  : Cal P w K mg base 1  "ground_or_none" ["ground"] ZaZ:=by
 exact D.cal ZcO (fun f cdv A outer s H E hr=>have hN:=ZcO.nd;⟨_,(by walk_at "e")⟩)
theorem Zei{f:Addr}{fd:FuncData}(T:Txt K mg)(F:Fun K "colour_at" "Glass.colour_at" ZbA f fd)  : FnOk P w K mg base (CXR P w) 1 f fd ["self", "values"] (spD K mg 2 Zcq):=by
 exact okM F Zcm (fun cdv A outer s H E hr=>have hN:=Zcm.nd;⟨_,(by walk_at "e")⟩)
theorem Zpx(T:Txt K mg)(D:Def K mg "down" ZlS ["one"])  : Cal P w K mg base 1  "down" ["one"] Zhb:=by
 exact D.cal Zli (fun f cdv A outer s H E hr=>have hN:=Zli.nd;⟨_,(by walk_at "e")⟩)
theorem Zji(T:Txt K mg)(D:Def K mg "entry_at" Ze6 ["pattern", "u", "v"])(c_down:Cal P w K mg base 1  "down" ["one"] Zhb):Cal P w K mg base 2  "entry_at" ["pattern", "u", "v"] ZcR:=by
 exact D.cal ZfZ (fun f cdv A outer s H E hr=>have hN:=ZfZ.nd;⟨_,(by walk_at "e")⟩)
theorem Zc4{f:Addr}{fd:FuncData}(T:Txt K mg)(F:Fun K "colour_at" "Patterned.colour_at" Za3 f fd)(c_entry_at:Cal P w K mg base 2  "entry_at" ["pattern", "u", "v"] ZcR):FnOk P w K mg base (CXR P w) 3 f fd ["self", "values"] (spD K mg 2 Zat):=by
 exact okM F Zbx (fun cdv A outer s H E hr=>have hN:=Zbx.nd;⟨_,(by walk_at "e")⟩)
theorem Zeb{f:Addr}{fd:FuncData}(T:Txt K mg)(F:Fun K "colour_at" "Plain.colour_at" Zbv f fd)  : FnOk P w K mg base (CXR P w) 1 f fd ["self", "values"] (spD K mg 2 Zbt):=by
 exact okM F Zcn (fun cdv A outer s H E hr=>have hN:=Zcn.nd;⟨_,(by walk_at "e")⟩)
theorem ZdU{f:Addr}{fd:FuncData}(T:Txt K mg)(F:Fun K "colour_at" "Shaded.colour_at" Zbo f fd)  : FnOk P w K mg base (CXR P w) 1 f fd ["self", "values"] (spD K mg 2 Zbl):=by
 exact okM F Zb7 (fun cdv A outer s H E hr=>have hN:=Zb7.nd;⟨_,(by walk_at "e")⟩)
theorem Zm6(T:Txt K mg)(D:Def K mg "minus" Zi9 ["one", "other"])(c_ratio:Cal P w K mg base 2  "ratio" ["top", "bottom"] ZaI):Cal P w K mg base 3  "minus" ["one", "other"] Ze2:=by
 exact D.cal Zkq (fun f cdv A outer s H E hr=>have hN:=Zkq.nd;⟨_,(by walk_at "e")⟩)
theorem Zqn(T:Txt K mg)(D:Def K mg "plus" Zl5 ["one", "other"])(c_ratio:Cal P w K mg base 2  "ratio" ["top", "bottom"] ZaI):Cal P w K mg base 3  "plus" ["one", "other"] ZeU:=by
 exact D.cal ZmI (fun f cdv A outer s H E hr=>have hN:=ZmI.nd;⟨_,(by walk_at "e")⟩)
theorem ZkW(T:Txt K mg)(D:Def K mg "product" ZgD ["one", "other"])(c_ratio:Cal P w K mg base 2  "ratio" ["top", "bottom"] ZaI):Cal P w K mg base 3  "product" ["one", "other"] ZcS:=by
 exact D.cal Zha (fun f cdv A outer s H E hr=>have hN:=Zha.nd;⟨_,(by walk_at "e")⟩)
theorem Zix(T:Txt K mg)(D:Def K mg "laid_over" Zea ["glass", "colour"])(c_minus:Cal P w K mg base 3  "minus" ["one", "other"] Ze2)(c_plus:Cal P w K mg base 3  "plus" ["one", "other"] ZeU)(c_product:Cal P w K mg base 3  "product" ["one", "other"] ZcS):Cal P w K mg base 4  "laid_over" ["glass", "colour"] ZbJ:=by
 exact D.cal Zfm (fun f cdv A outer s H E hr=>have hN:=Zfm.nd;⟨_,(by walk_at "e")⟩)
theorem ZeW{f:Addr}{fd:FuncData}(T:Txt K mg)(F:Fun K "is_glass" "Glass.is_glass" ZbN f fd)  : FnOk P w K mg base (CXR P w) 1 f fd ["self"] (spD K mg 1 ZbQ):=by
 exact okM F Zcu (fun cdv A outer s H E hr=>have hN:=Zcu.nd;⟨_,(Zaj (ZaH d_bl))⟩)
theorem Zey{f:Addr}{fd:FuncData}(T:Txt K mg)(F:Fun K "is_glass" "Thing.is_glass" ZbR f fd)  : FnOk P w K mg base (CXR P w) 1 f fd ["self"] (spD K mg 1 Zax):=by
 exact okM F Zcw (fun cdv A outer s H E hr=>have hN:=Zcw.nd;⟨_,(Zaj (ZaH d_bl))⟩)
theorem Zn5(T:Txt K mg)(D:Def K mg "under" Zi4 ["one", "other"])  : Cal P w K mg base 1  "under" ["one", "other"] Zc2:=by
 exact D.cal ZjW (fun f cdv A outer s H E hr=>have hN:=ZjW.nd;⟨_,(by walk_at "e")⟩)
theorem ZgL(T:Txt K mg)(D:Def K mg "layers_over" Zc6 ["nearest", "sights"])(cm_is_glass:Zck P w K mg base 1 0 "is_glass" Za7)(c_under:Cal P w K mg base 1  "under" ["one", "other"] Zc2):Cal P w K mg base 2  "layers_over" ["nearest", "sights"] Zbe:=by
 exact D.cal ZcK (fun f cdv A outer s H E hr=>have hN:=ZcK.nd;⟨_,(Zac (by walk_at "e")
  (Zac (Zd2 Vcq rfl (Zbf (d_v 1)) (by walk_at "e")
  (Zaj (ZbZ (DW.dt (ZoN (ZeL (ZfV cm_is_glass hr (by decide) ZaB (d_ix (d_v 3) ZeQ))) (by walk_at "e")))
  (Zac (Zfx (i:=4) ZcK.nd rfl (Or.inl rfl) (d_pk 2 (d_cb Zfk Ziq rfl T.z_len ZmU (Zas (ZbB (own:=["layer"]) (cap:=[("sight", 3)]) (Zbf (d_v 2)) (by walk_at "co") rfl (by walk_at "cg") (fun _ _ _ _ _=>Zjc (by walk_at "e")) (fun _ _ _ _ _=>(d_v 0))) ZaU))))
  (Zaj (Ztd 2 (d_v 4) (d_v 3))))
  ZaC)))
  (by walk_at "e")))⟩)
theorem ZhM(T:Txt K mg)(D:Def K mg "nearest_of" Zdu ["sights"])(cm_is_glass:Zck P w K mg base 1 0 "is_glass" Za7)(c_under:Cal P w K mg base 1  "under" ["one", "other"] Zc2):Cal P w K mg base 2  "nearest_of" ["sights"] ZbV:=by
 exact D.cal ZeN (fun f cdv A outer s H E hr=>have hN:=ZeN.nd;⟨_,(Zac (by walk_at "e")
  (Zac (Zd2 Vcq rfl (Zbf (d_v 0)) (by walk_at "e")
  (Zac (ZbZ (ZeL (ZfV cm_is_glass hr (by decide) ZaB (d_ix (d_v 2) ZeQ)))
  (Zaj Zop)
  ZaC)
  (by walk_at "e")))
  (by walk_at "e")))⟩)
theorem ZiE(T:Txt K mg)(D:Def K mg "colour_of" Zd8 ["sights", "ground"])(cm_colour_at:Zck P w K mg base 3 1 "colour_at" Zbd)(c_laid_over:Cal P w K mg base 4  "laid_over" ["glass", "colour"] ZbJ)(c_layers_over:Cal P w K mg base 2  "layers_over" ["nearest", "sights"] Zbe)(c_nearest_of:Cal P w K mg base 2  "nearest_of" ["sights"] ZbV):Cal P w K mg base 5  "colour_of" ["sights", "ground"] ZbG:=by
 exact D.cal Zdx (fun f cdv A outer s H E hr=>have hN:=Zdx.nd;⟨_,(Zac (by walk_at "e")
  (Zac (by walk_at "e")
  (Zac (ZbZ (Zl3 (d_v 2))
  (Zaj (Zfx (i:=3) Zdx.nd rfl (Or.inl rfl) (ZtF cm_colour_at hr (by decide) ZaB (d_ix (d_v 2) ZeQ) (by walk_at "e"))))
  ZaC)
  (by walk_at "e"))))⟩)
theorem ZkD(T:Txt K mg)(D:Def K mg "mean_of" ZfO ["some"])(c_ratio:Cal P w K mg base 2  "ratio" ["top", "bottom"] ZaI)(c_plus:Cal P w K mg base 3  "plus" ["one", "other"] ZeU):Cal P w K mg base 4  "mean_of" ["some"] Zdw:=by
 exact D.cal Zg1 (fun f cdv A outer s H E hr=>have hN:=Zg1.nd;⟨_,(by walk_at "e")⟩)
theorem ZgJ(T:Txt K mg)(D:Def K mg "cell_colour" ZcT ["sights_by_spot", "ground"])(c_colour_of:Cal P w K mg base 5  "colour_of" ["sights", "ground"] ZbG)(c_mean_of:Cal P w K mg base 4  "mean_of" ["some"] Zdw):Cal P w K mg base 6  "cell_colour" ["sights_by_spot", "ground"] Zby:=by
 exact D.cal Zd1 (fun f cdv A outer s H E hr=>have hN:=Zd1.nd;⟨_,(Zaj (ZaH (ZeA c_mean_of hr (by decide) rfl ZaB (Zas (ZbB (own:=["sights"]) (cap:=[("ground", 1)]) (Zbf (d_v 0)) (by walk_at "co") rfl (by walk_at "cg") (by walk_at "ct") (by walk_at "ce")) ZaU))))⟩)
theorem ZgO(T:Txt K mg)(D:Def K mg "painted_row" Zc0 ["things", "width", "row", "spots", "ground"])(c_sights_in:Cal P w K mg base 6  "sights_in" ["things", "column", "row", "spots"] Zbm)(c_cell_colour:Cal P w K mg base 6  "cell_colour" ["sights_by_spot", "ground"] Zby):Cal P w K mg base 7  "painted_row" ["things", "width", "row", "spots", "ground"] Zb8:=by
 exact D.cal ZdZ (fun f cdv A outer s H E hr=>have hN:=ZdZ.nd;⟨_,(Zaj (ZaH (Zjk ⟨rfl,rfl,rfl,rfl⟩ (own:=["column"]) (cap:=[("things", 0),("spots", 3),("row", 2),("ground", 4)]) (by walk_at "e") (by walk_at "co") rfl (by walk_at "cg") (by walk_at "ct") (by walk_at "ce"))))⟩)
theorem Zni{f:Addr}{fd:FuncData}{dV:Value}(T:Txt K mg)(F:FunD K "paint" "paint" ZcY dV f fd)(c_check_floor:Cal P w K mg base 3  "check_floor" ["width", "height"] ZaW)(c_spots_or_middle:Cal P w K mg base 5  "spots_or_middle" ["spots"] Zar)(c_ground_or_none:Cal P w K mg base 1  "ground_or_none" ["ground"] ZaZ)(c_painted_row:Cal P w K mg base 7  "painted_row" ["things", "width", "row", "spots", "ground"] Zb8):FnOk P w K mg base (CXR P w) 8 f fd ["things", "width", "height", "spots", "ground"] (spD K mg 5 Zcf):=by
 exact okDF F Zj4 (fun cdv A outer s H E hr=>have hN:=Zj4.nd;⟨_,(Zac (by walk_at "e")
  (Zac (by walk_at "e")
  (Zac (by walk_at "e")
  (Zaj (ZaH (Zjk ⟨rfl,rfl,rfl,rfl⟩ (own:=["row"]) (cap:=[("width", 1),("things", 0),("places", 5),("beneath", 6)]) (by walk_at "e") (by walk_at "co") rfl (by walk_at "cg") (by walk_at "ct") (by walk_at "ce")))))))⟩)
theorem Zsl{f:Addr}{fd:FuncData}(T:Txt K mg)(F:Fun K "law" "law" ZhI f fd)(c__law_bounded:Cal P w K mg base 1  "_law_bounded" ["_law_triangle"] ZaG)(c__law_cell_at:Cal P w K mg base 1  "_law_cell_at" ["_law_script", "_law_k"] Zaq)(c__law_draws:Cal P w K mg base 2  "_law_draws" ["_law_cell", "_law_many"] Zaw)(c__law_like:Cal P w K mg base 9  "_law_like" ["_law_thing_here", "_law_triangle"] Za8)(c__law_moved:Cal P w K mg base 1  "_law_moved" ["_law_triangle", "_law_across", "_law_along_it"] ZaK)(c__law_orders:Cal P w K mg base 1  "_law_orders" ["_law_things_here", "_law_number"] Zbp)(c__law_spots:Cal P w K mg base 3  "_law_spots" ["_law_cell"] ZbU)(c__law_things:Cal P w K mg base 10  "_law_things" ["_law_script", "_law_first", "_law_most"] Zbu)(c_doubtful:Cal P w K mg base 7  "doubtful" ["things", "width", "height", "spots"] ZbS)(c_paint:Cal P w K mg base 8  "paint" ["things", "width", "height", "spots", "ground"] Zcf):FnOk P w K mg base (CXR P w) 11 f fd ["_law_script"] (spD K mg 1 Zpv):=by
 exact okD F Zkf (fun cdv A outer s H E hr=>have hN:=Zkf.nd;⟨_,(Zac (by walk_at "e")
  (Zac (by walk_at "e")
  (Zac (by walk_at "e")
  (Zac (by walk_at "e")
  (Zac (by walk_at "e")
  (Zac (by walk_at "e")
  (Zac (by walk_at "e")
  (Zac (by walk_at "e")
  (Zac (by walk_at "e")
  (Zac (by walk_at "e")
  (Zac (Ze9 (i:=9) Zkf.nd rfl (Or.inl rfl) (own:=["_law_thing_here"]) (cap:=[("_law_down_it", 14),("_law_across", 13)]) (Zbf (d_v 1)) (by walk_at "co") rfl (by walk_at "cg") (fun _ _ _ _ _=>Zjc (by walk_at "e")) (fun _ _ _ _ _=>(d_v 0)))
  (Zac (Ze9 (i:=15) Zkf.nd rfl (Or.inl rfl) (own:=["_law_thing_here"]) (cap:=[("_law_down_it", 14),("_law_across", 13)]) (Zbf (d_v 9)) (by walk_at "co") rfl (by walk_at "cg") (by walk_at "ct") (by walk_at "ce"))
  (Zac (by walk_at "e")
  (Zac (ZbZ (ZnF hr (ZbB (own:=["_law_line"]) (cap:=[("_law_across", 13)]) (by walk_at "e") (by walk_at "co") rfl (by walk_at "cg") (by walk_at "ct") (by walk_at "ce")) (by walk_at "e"))
  (Zaj (ZaH d_bl))
  ZaC)
  (Zac (by walk_at "e")
  (Zaj (ZaH (d_eq hr (d_v 16) (ZbB (own:=["_law_line"]) (cap:=[("_law_small", 16)]) (by walk_at "e") (by walk_at "co") rfl (by walk_at "cg") (by walk_at "ct") (by walk_at "ce"))))))))))))))))))))⟩)
end
theorem ln1{P:List Value→Prop}(q:∀a,P [a]):∀us,us.length=1→P us:=by intro us h;rcases us with _|⟨a,_|_⟩<;>first | exact q _ | cases h
theorem ln2{P:List Value→Prop}(q:∀a b,P [a,b]):∀us,us.length=2→P us:=by intro us h;rcases us with _|⟨a,_|⟨b,_|_⟩⟩<;>first | exact q _ _ | cases h
theorem ln3{P:List Value→Prop}(q:∀a b c,P [a,b,c]):∀us,us.length=3→P us:=by intro us h;rcases us with _|⟨a,_|⟨b,_|⟨c,_|_⟩⟩⟩<;>first | exact q _ _ _ | cases h
theorem ln4{P:List Value→Prop}(q:∀a b c d,P [a,b,c,d]):∀us,us.length=4→P us:=by intro us h;rcases us with _|⟨a,_|⟨b,_|⟨c,_|⟨d,_|_⟩⟩⟩⟩<;>first | exact q _ _ _ _ | cases h
theorem ln5{P:List Value→Prop}(q:∀a b c d e,P [a,b,c,d,e]):∀us,us.length=5→P us:=by intro us h;rcases us with _|⟨a,_|⟨b,_|⟨c,_|⟨d,_|⟨e,_|_⟩⟩⟩⟩⟩<;>first | exact q _ _ _ _ _ | cases h
theorem dmk{K:W.Frag}{mg:Str→Option Value}{x:Str}{st:Stmt}{ps:List Str}{f:Addr}{fd:FuncData}(F:Fun K x x st f fd)(b:Binds K fd ps [])(m:mg x=some (.ref f)):Def K mg x st ps:=⟨f,fd,F,b,m⟩
local macro_rules | `(tactic| walk_at "b1")=>`(tactic| exact fun _ _ _ _ _ _=>My.ln1 fun _=>rfl)
local macro_rules | `(tactic| walk_at "b2")=>`(tactic| exact fun _ _ _ _ _ _=>My.ln2 fun _ _=>rfl)
local macro_rules | `(tactic| walk_at "b3")=>`(tactic| exact fun _ _ _ _ _ _=>My.ln3 fun _ _ _=>rfl)
local macro_rules | `(tactic| walk_at "b4")=>`(tactic| exact fun _ _ _ _ _ _=>My.ln4 fun _ _ _ _=>rfl)
local macro_rules | `(tactic| walk_at "b5")=>`(tactic| exact fun _ _ _ _ _ _=>My.ln5 fun _ _ _ _ _=>rfl)
abbrev NI(K:W.Frag)(x:Str)(f:Addr):Prop:=W.nsIn K mainGlobals x=some (some (.ref f))
abbrev Df(K:W.Frag)(x q:Str)(st:Stmt)(f:Addr):Prop:=∃fd,Fun K x q st f fd
theorem ZsA{l:W.OpenLaw}{w:World}{K:W.Frag}{h:Heap}{mg:Str→Option Value}{fa f5 f6 f7 f8 f14 f19 f23 f24 f25 f54 f56 f59 f60 f61 f66 f67 f75 f76:Addr}(X:K.In h)(G:h.Ns mainGlobals mg)(hfa:mg "law"=some (.ref fa))
  {od54 an54 od75 an75 od76 an76:Option Addr} {sl54 sl75 sl76:Array (Option Value)} {oc54 kV54 dc54 pm54 cd54 ct54 oc75 kV75 dc75 pm75 cd75 ct75 oc76 kV76 dc76 pm76 cd76 ct76:Value} {tk0 tk1 tk2 gtk0_0 gtk0_1 gtk0_2 gtk0_3 gtk0_4:Tok} {GA0 X0 X1 X2 X3 OC_Glass OC_Patterned OC_Plain OC_Shaded OC_Thing:Addr} {godt0:Option Addr} {gnn0:Nat} {gsl0:Array (Option Value)} {dT54:Addr} {dc_54:Value} {dd_54:Option Addr} {dn_54:Nat} {ds_54:Array (Option Value)} {dT75:Addr} {dc_75:Value} {dd_75:Option Addr} {dn_75:Nat} {ds_75:Array (Option Value)}
  (ob_Glass:NI K "Glass" OC_Glass)
  (ob_Patterned:NI K "Patterned" OC_Patterned)
  (ob_Plain:NI K "Plain" OC_Plain)
  (ob_Shaded:NI K "Shaded" OC_Shaded)
  (ob_Thing:NI K "Thing" OC_Thing)
  (D1:Def K mg "_law_bounded" ZcJ ["_law_triangle"])
  (D2:Def K mg "_law_cell_at" ZcF ["_law_script", "_law_k"])
  (D3:Def K mg "_law_mixed" ZdB ["_law_cell", "_law_k"])
  (D4:Def K mg "_law_draws" Zdl ["_law_cell", "_law_many"])
  (a5:W.findIn K (.ref OC_Glass) "word"=some (some (.ref f5))) (d5:Df K "word" "Glass.word" Zc1 f5) (q5:W.isFn K (.ref f5)=true)
  (a6:W.findIn K (.ref OC_Patterned) "word"=some (some (.ref f6))) (d6:Df K "word" "Patterned.word" ZbI f6) (q6:W.isFn K (.ref f6)=true)
  (a7:W.findIn K (.ref OC_Plain) "word"=some (some (.ref f7))) (d7:Df K "word" "Plain.word" Zc3 f7) (q7:W.isFn K (.ref f7)=true)
  (a8:W.findIn K (.ref OC_Shaded) "word"=some (some (.ref f8))) (d8:Df K "word" "Shaded.word" ZcG f8) (q8:W.isFn K (.ref f8)=true)
  (D9:Def K mg "check_before_eye" Zbz ["corners"])
  (D10:Def K mg "is_whole" Zfi ["thing"])
  (D11:Def K mg "are_values" ZdF ["thing"])
  (D12:Def K mg "is_corner" Zef ["thing"])
  (D13:Def K mg "check_triangle" Zb5 ["triangle"])
  (a14:W.findIn K (.ref OC_Thing) "__init__"=some (some (.ref f14))) (d14:Df K "__init__" "Thing.__init__" ZbP f14) (q14:W.isFn K (.ref f14)=true)
  (D15:Def K mg "greatest_divisor" Zbr ["numbers"])
  (D16:Def K mg "is_fraction" Zdf ["thing"])
  (D17:Def K mg "check_colour" ZcD ["colour"])
  (D18:Def K mg "check_part" Zdn ["part"])
  (a19:W.findIn K (.ref OC_Glass) "__init__"=some (some (.ref f19))) (d19:Df K "__init__" "Glass.__init__" ZbO f19) (q19:W.isFn K (.ref f19)=true)
  (D20:Def K mg "check_pattern" Zch ["pattern"])
  (D21:Def K mg "check_values" ZcH ["triangle", "least"])
  (D22:Def K mg "copied" ZhG ["pattern"])
  (a23:W.findIn K (.ref OC_Patterned) "__init__"=some (some (.ref f23))) (d23:Df K "__init__" "Patterned.__init__" Za4 f23) (q23:W.isFn K (.ref f23)=true)
  (a24:W.findIn K (.ref OC_Plain) "__init__"=some (some (.ref f24))) (d24:Df K "__init__" "Plain.__init__" ZbL f24) (q24:W.isFn K (.ref f24)=true)
  (a25:W.findIn K (.ref OC_Shaded) "__init__"=some (some (.ref f25))) (d25:Df K "__init__" "Shaded.__init__" Zbs f25) (q25:W.isFn K (.ref f25)=true)
  (D26:Def K mg "_law_like" Zd9 ["_law_thing_here", "_law_triangle"])
  (D27:Def K mg "_law_moved" ZdE ["_law_triangle", "_law_across", "_law_along_it"])
  (D28:Def K mg "_law_orders" ZcU ["_law_things_here", "_law_number"])
  (D29:Def K mg "_law_spots" Zdr ["_law_cell"])
  (D30:Def K mg "ratio" ZiW ["top", "bottom"])
  (D31:Def K mg "_law_pattern" ZcE ["_law_number", "_law_more"])
  (D32:Def K mg "_law_thing" ZdJ ["_law_draws_here", "_law_triangle"])
  (D33:Def K mg "_law_corner" ZcZ ["_law_draws_here", "_law_many"])
  (D34:Def K mg "_law_triangles" Zb3 ["_law_script", "_law_first", "_law_most", "_law_many"])
  (D35:Def K mg "_law_things" Zda ["_law_script", "_law_first", "_law_most"])
  (D36:Def K mg "is_between" Zdo ["thing", "least", "most"])
  (D37:Def K mg "check_floor" Zc8 ["width", "height"])
  (D38:Def K mg "has_alike_depths" Zbw ["sights"])
  (D39:Def K mg "summed_products" ZbK ["three", "other"])
  (D40:Def K mg "weighed_h" Zeg ["triangle", "amounts"])
  (D41:Def K mg "depth_and_values" ZbC ["triangle", "amounts"])
  (D42:Def K mg "edge_numbers" ZcI ["one", "other"])
  (D43:Def K mg "side" ZlE ["one", "other", "point"])
  (D44:Def K mg "had" Zp8 ["triangle", "point"])
  (D45:Def K mg "edge_sum" Ze4 ["one", "other", "point"])
  (D46:Def K mg "weights" ZgB ["triangle", "point"])
  (D47:Def K mg "seen_at" ZgG ["triangle", "point"])
  (D48:Def K mg "sights_at" Zem ["things", "p"])
  (D49:Def K mg "spot_at" Zf1 ["column", "row", "spot"])
  (D50:Def K mg "sights_in" Zee ["things", "column", "row", "spots"])
  (D51:Def K mg "is_spot" ZgE ["thing"])
  (D52:Def K mg "check_spots" Zdc ["spots"])
  (D53:Def K mg "spots_or_middle" ZbF ["spots"])
  (a54:W.nsIn K mainGlobals "doubtful"=some (some (.ref f54))) (l54:K.lookup f54=some ⟨oc54,od54,.func (W.fnOf "doubtful" "doubtful" (Zb2 Zbc) (Za5 Zbc) (Zab Zbc) (.ref dT54) kV54 dc54 pm54 an54 cd54 ct54),sl54⟩) (c54:W.codeIn K cd54 "doubtful"=true) (k54:W.keepIn K (.ref f54)=true)
  (D55:Def K mg "ground_or_none" Zb0 ["ground"])
  (a56:W.findIn K (.ref OC_Glass) "colour_at"=some (some (.ref f56))) (d56:Df K "colour_at" "Glass.colour_at" ZbA f56) (q56:W.isFn K (.ref f56)=true)
  (D57:Def K mg "down" ZlS ["one"])
  (D58:Def K mg "entry_at" Ze6 ["pattern", "u", "v"])
  (a59:W.findIn K (.ref OC_Patterned) "colour_at"=some (some (.ref f59))) (d59:Df K "colour_at" "Patterned.colour_at" Za3 f59) (q59:W.isFn K (.ref f59)=true)
  (a60:W.findIn K (.ref OC_Plain) "colour_at"=some (some (.ref f60))) (d60:Df K "colour_at" "Plain.colour_at" Zbv f60) (q60:W.isFn K (.ref f60)=true)
  (a61:W.findIn K (.ref OC_Shaded) "colour_at"=some (some (.ref f61))) (d61:Df K "colour_at" "Shaded.colour_at" Zbo f61) (q61:W.isFn K (.ref f61)=true)
  (D62:Def K mg "minus" Zi9 ["one", "other"])
  (D63:Def K mg "plus" Zl5 ["one", "other"])
  (D64:Def K mg "product" ZgD ["one", "other"])
  (D65:Def K mg "laid_over" Zea ["glass", "colour"])
  (a66:W.findIn K (.ref OC_Glass) "is_glass"=some (some (.ref f66))) (d66:Df K "is_glass" "Glass.is_glass" ZbN f66) (q66:W.isFn K (.ref f66)=true)
  (a67:W.findIn K (.ref OC_Thing) "is_glass"=some (some (.ref f67))) (d67:Df K "is_glass" "Thing.is_glass" ZbR f67) (q67:W.isFn K (.ref f67)=true)
  (D68:Def K mg "under" Zi4 ["one", "other"])
  (D69:Def K mg "layers_over" Zc6 ["nearest", "sights"])
  (D70:Def K mg "nearest_of" Zdu ["sights"])
  (D71:Def K mg "colour_of" Zd8 ["sights", "ground"])
  (D72:Def K mg "mean_of" ZfO ["some"])
  (D73:Def K mg "cell_colour" ZcT ["sights_by_spot", "ground"])
  (D74:Def K mg "painted_row" Zc0 ["things", "width", "row", "spots", "ground"])
  (a75:W.nsIn K mainGlobals "paint"=some (some (.ref f75))) (l75:K.lookup f75=some ⟨oc75,od75,.func (W.fnOf "paint" "paint" (Zb2 ZcY) (Za5 ZcY) (Zab ZcY) (.ref dT75) kV75 dc75 pm75 an75 cd75 ct75),sl75⟩) (c75:W.codeIn K cd75 "paint"=true) (k75:W.keepIn K (.ref f75)=true)
  (a76:W.nsIn K mainGlobals "law"=some (some (.ref f76))) (l76:K.lookup f76=some ⟨oc76,od76,.func (W.fnOf "law" "law" (Zb2 ZhI) (Za5 ZhI) (Zab ZhI) .none kV76 dc76 pm76 an76 cd76 ct76),sl76⟩) (c76:W.codeIn K cd76 "law"=true) (k76:W.keepIn K (.ref f76)=true)
  (dl54:K.lookup dT54=some ⟨dc_54,dd_54,.seq #[.none] dn_54,ds_54⟩)
  (dl75:K.lookup dT75=some ⟨dc_75,dd_75,.seq #[.none,.none] dn_75,ds_75⟩)
  (og_Glass:W.plainGet K OC_Glass Str.empty=true) (oh_Glass:W.hasDictIn K OC_Glass=true) (oo_Glass:W.plainOver K OC_Glass=true) (os_Glass:W.findIn K (.ref OC_Glass) "__setattr__"=some (some (.builtin "object.__setattr__")))
  (on_Glass_colour:W.findIn K (.ref OC_Glass) "colour"=some none)
  (on_Glass_part:W.findIn K (.ref OC_Glass) "part"=some none)
  (on_Glass_pattern:W.findIn K (.ref OC_Glass) "pattern"=some none)
  (on_Glass_triangle:W.findIn K (.ref OC_Glass) "triangle"=some none)
  (ot_Glass_word:W.findIn K (.ref OC_Glass) "word"=some (some (.ref f5)))
  (ot_Glass_colour_at:W.findIn K (.ref OC_Glass) "colour_at"=some (some (.ref f56)))
  (ot_Glass_is_glass:W.findIn K (.ref OC_Glass) "is_glass"=some (some (.ref f66)))
  (om_Glass:W.makesIn K OC_Glass=true) (ok_Glass:W.keepIn K (.ref OC_Glass)=true)
  (og_Patterned:W.plainGet K OC_Patterned Str.empty=true) (oh_Patterned:W.hasDictIn K OC_Patterned=true) (oo_Patterned:W.plainOver K OC_Patterned=true) (os_Patterned:W.findIn K (.ref OC_Patterned) "__setattr__"=some (some (.builtin "object.__setattr__")))
  (on_Patterned_colour:W.findIn K (.ref OC_Patterned) "colour"=some none)
  (on_Patterned_part:W.findIn K (.ref OC_Patterned) "part"=some none)
  (on_Patterned_pattern:W.findIn K (.ref OC_Patterned) "pattern"=some none)
  (on_Patterned_triangle:W.findIn K (.ref OC_Patterned) "triangle"=some none)
  (ot_Patterned_word:W.findIn K (.ref OC_Patterned) "word"=some (some (.ref f6)))
  (ot_Patterned_colour_at:W.findIn K (.ref OC_Patterned) "colour_at"=some (some (.ref f59)))
  (ot_Patterned_is_glass:W.findIn K (.ref OC_Patterned) "is_glass"=some (some (.ref f67)))
  (om_Patterned:W.makesIn K OC_Patterned=true) (ok_Patterned:W.keepIn K (.ref OC_Patterned)=true)
  (og_Plain:W.plainGet K OC_Plain Str.empty=true) (oh_Plain:W.hasDictIn K OC_Plain=true) (oo_Plain:W.plainOver K OC_Plain=true) (os_Plain:W.findIn K (.ref OC_Plain) "__setattr__"=some (some (.builtin "object.__setattr__")))
  (on_Plain_colour:W.findIn K (.ref OC_Plain) "colour"=some none)
  (on_Plain_part:W.findIn K (.ref OC_Plain) "part"=some none)
  (on_Plain_pattern:W.findIn K (.ref OC_Plain) "pattern"=some none)
  (on_Plain_triangle:W.findIn K (.ref OC_Plain) "triangle"=some none)
  (ot_Plain_word:W.findIn K (.ref OC_Plain) "word"=some (some (.ref f7)))
  (ot_Plain_colour_at:W.findIn K (.ref OC_Plain) "colour_at"=some (some (.ref f60)))
  (ot_Plain_is_glass:W.findIn K (.ref OC_Plain) "is_glass"=some (some (.ref f67)))
  (om_Plain:W.makesIn K OC_Plain=true) (ok_Plain:W.keepIn K (.ref OC_Plain)=true)
  (og_Shaded:W.plainGet K OC_Shaded Str.empty=true) (oh_Shaded:W.hasDictIn K OC_Shaded=true) (oo_Shaded:W.plainOver K OC_Shaded=true) (os_Shaded:W.findIn K (.ref OC_Shaded) "__setattr__"=some (some (.builtin "object.__setattr__")))
  (on_Shaded_colour:W.findIn K (.ref OC_Shaded) "colour"=some none)
  (on_Shaded_part:W.findIn K (.ref OC_Shaded) "part"=some none)
  (on_Shaded_pattern:W.findIn K (.ref OC_Shaded) "pattern"=some none)
  (on_Shaded_triangle:W.findIn K (.ref OC_Shaded) "triangle"=some none)
  (ot_Shaded_word:W.findIn K (.ref OC_Shaded) "word"=some (some (.ref f8)))
  (ot_Shaded_colour_at:W.findIn K (.ref OC_Shaded) "colour_at"=some (some (.ref f61)))
  (ot_Shaded_is_glass:W.findIn K (.ref OC_Shaded) "is_glass"=some (some (.ref f67)))
  (om_Shaded:W.makesIn K OC_Shaded=true) (ok_Shaded:W.keepIn K (.ref OC_Shaded)=true)
  (us_Thing:W.specialIn K (.ref OC_Thing) "__getattribute__"=some (some (.builtin "type.__getattribute__"))) (ur_Thing:W.readsIn K OC_Thing (.type "type")=true) (uf_Thing:W.findCls K (.ref OC_Thing) (.type "type") "__init__"=some (.val (.ref f14))) (uh_Thing:W.handedIn (.ref f14)=true)
  (z0:W.nsIn K mainGlobals "abs"=some none)
  (z1:W.nsIn K mainGlobals "all"=some none)
  (z2:W.nsIn K mainGlobals "any"=some none)
  (z3:W.nsIn K mainGlobals "bool"=some none)
  (z4:W.nsIn K mainGlobals "enumerate"=some none)
  (z5:W.nsIn K mainGlobals "int"=some none)
  (z6:W.nsIn K mainGlobals "isinstance"=some none)
  (z7:W.nsIn K mainGlobals "len"=some none)
  (z8:W.nsIn K mainGlobals "list"=some none)
  (z9:W.nsIn K mainGlobals "max"=some none)
  (z10:W.nsIn K mainGlobals "range"=some none)
  (z11:W.nsIn K mainGlobals "set"=some none)
  (z12:W.nsIn K mainGlobals "tuple"=some none)
  (z13:W.nsIn K mainGlobals "zip"=some none)
  (gc0:W.nsIn K mainGlobals "MOST_CELLS"=some (some (.int 64 tk0)))
  (gc1:W.nsIn K mainGlobals "MOST_SPOTS"=some (some (.int 16 tk1)))
  (gc2:W.nsIn K mainGlobals "MOST_VALUES"=some (some (.int 3 tk2)))
  (gta0:W.nsIn K mainGlobals "COUNTS"=some (some (.ref GA0))) (gtl0:K.lookup GA0=some ⟨.type "tuple", godt0,.seq #[.int 1 gtk0_0,.int 2 gtk0_1,.int 4 gtk0_2,.int 8 gtk0_3,.int 16 gtk0_4] gnn0,gsl0⟩)
  (xa0:W.nsIn K mainGlobals "BadFloor"=some (some (.ref X0))) (xb0:W.excIn K X0 ZfR "ValueError.__new__"=true)
  (xa1:W.nsIn K mainGlobals "BadPattern"=some (some (.ref X1))) (xb1:W.excIn K X1 ZfR "ValueError.__new__"=true)
  (xa2:W.nsIn K mainGlobals "BadThing"=some (some (.ref X2))) (xb2:W.excIn K X2 ZfR "ValueError.__new__"=true)
  (xa3:W.nsIn K mainGlobals "BadTriangle"=some (some (.ref X3))) (xb3:W.excIn K X3 ZfR "ValueError.__new__"=true)
  : ∃fd:FuncData,(∀(s:Shared) (v:Value),BindsTo s fd ⟨[v],[]⟩ [("_law_script", v)])∧∀base:Heap,K.In base→base.Ns mainGlobals mg→FnOk l.prog w K mg base (CXR l.prog w) 11 fa fd ["_law_script"] (ZnJ K):=by
 have e:=hfa.symm.trans (Vcr X G a76)
 cases e
 have T:Txt K mg:=⟨Vcs X G z0,Vcs X G z1,Vcs X G z2,Vcs X G z3,Vcs X G z4,Vcs X G z5,Vcs X G z6,Vcs X G z7,Vcs X G z8,Vcs X G z9,Vcs X G z10,Vcs X G z11,Vcs X G z12,Vcs X G z13,⟨_,Vcr X G gc0⟩,⟨_,Vcr X G gc1⟩,⟨_,Vcr X G gc2⟩,⟨_,_,_,_,Vcr X G gta0,gtl0,rfl,rfl,show (5:Nat)≤sizeLine by decide,(.cons ⟨_,rfl⟩ (.cons ⟨_,rfl⟩ (.cons ⟨_,rfl⟩ (.cons ⟨_,rfl⟩ (.cons ⟨_,rfl⟩ .nil)))))⟩,⟨_,Vcr X G xa0,xb0⟩,⟨_,Vcr X G xa1,xb1⟩,⟨_,Vcr X G xa2,xb2⟩,⟨_,Vcr X G xa3,xb3⟩,(.cons (fun C hC=>by cases (Vcr X G ob_Plain).symm.trans hC;exact ⟨⟨og_Plain,oh_Plain,oo_Plain,os_Plain⟩,on_Plain_colour⟩) (.cons (fun C hC=>by cases (Vcr X G ob_Shaded).symm.trans hC;exact ⟨⟨og_Shaded,oh_Shaded,oo_Shaded,os_Shaded⟩,on_Shaded_colour⟩) (.cons (fun C hC=>by cases (Vcr X G ob_Patterned).symm.trans hC;exact ⟨⟨og_Patterned,oh_Patterned,oo_Patterned,os_Patterned⟩,on_Patterned_colour⟩) (.cons (fun C hC=>by cases (Vcr X G ob_Glass).symm.trans hC;exact ⟨⟨og_Glass,oh_Glass,oo_Glass,os_Glass⟩,on_Glass_colour⟩) .nil)))),(.cons (fun C hC=>by cases (Vcr X G ob_Plain).symm.trans hC;exact ⟨⟨og_Plain,oh_Plain,oo_Plain,os_Plain⟩,on_Plain_part⟩) (.cons (fun C hC=>by cases (Vcr X G ob_Shaded).symm.trans hC;exact ⟨⟨og_Shaded,oh_Shaded,oo_Shaded,os_Shaded⟩,on_Shaded_part⟩) (.cons (fun C hC=>by cases (Vcr X G ob_Patterned).symm.trans hC;exact ⟨⟨og_Patterned,oh_Patterned,oo_Patterned,os_Patterned⟩,on_Patterned_part⟩) (.cons (fun C hC=>by cases (Vcr X G ob_Glass).symm.trans hC;exact ⟨⟨og_Glass,oh_Glass,oo_Glass,os_Glass⟩,on_Glass_part⟩) .nil)))),(.cons (fun C hC=>by cases (Vcr X G ob_Plain).symm.trans hC;exact ⟨⟨og_Plain,oh_Plain,oo_Plain,os_Plain⟩,on_Plain_pattern⟩) (.cons (fun C hC=>by cases (Vcr X G ob_Shaded).symm.trans hC;exact ⟨⟨og_Shaded,oh_Shaded,oo_Shaded,os_Shaded⟩,on_Shaded_pattern⟩) (.cons (fun C hC=>by cases (Vcr X G ob_Patterned).symm.trans hC;exact ⟨⟨og_Patterned,oh_Patterned,oo_Patterned,os_Patterned⟩,on_Patterned_pattern⟩) (.cons (fun C hC=>by cases (Vcr X G ob_Glass).symm.trans hC;exact ⟨⟨og_Glass,oh_Glass,oo_Glass,os_Glass⟩,on_Glass_pattern⟩) .nil)))),(.cons (fun C hC=>by cases (Vcr X G ob_Plain).symm.trans hC;exact ⟨⟨og_Plain,oh_Plain,oo_Plain,os_Plain⟩,on_Plain_triangle⟩) (.cons (fun C hC=>by cases (Vcr X G ob_Shaded).symm.trans hC;exact ⟨⟨og_Shaded,oh_Shaded,oo_Shaded,os_Shaded⟩,on_Shaded_triangle⟩) (.cons (fun C hC=>by cases (Vcr X G ob_Patterned).symm.trans hC;exact ⟨⟨og_Patterned,oh_Patterned,oo_Patterned,os_Patterned⟩,on_Patterned_triangle⟩) (.cons (fun C hC=>by cases (Vcr X G ob_Glass).symm.trans hC;exact ⟨⟨og_Glass,oh_Glass,oo_Glass,os_Glass⟩,on_Glass_triangle⟩) .nil))))⟩
 obtain ⟨_,F5⟩:=d5
 have B5:=F5.binds (ps:=["self"]) (by walk_at "b1")
 obtain ⟨_,F6⟩:=d6
 have B6:=F6.binds (ps:=["self"]) (by walk_at "b1")
 obtain ⟨_,F7⟩:=d7
 have B7:=F7.binds (ps:=["self"]) (by walk_at "b1")
 obtain ⟨_,F8⟩:=d8
 have B8:=F8.binds (ps:=["self"]) (by walk_at "b1")
 obtain ⟨_,F14⟩:=d14
 have B14:=F14.binds (ps:=["self", "triangle"]) (by walk_at "b2")
 obtain ⟨_,F19⟩:=d19
 have B19:=F19.binds (ps:=["self", "triangle", "colour", "part"]) (by walk_at "b4")
 obtain ⟨_,F23⟩:=d23
 have B23:=F23.binds (ps:=["self", "triangle", "pattern"]) (by walk_at "b3")
 obtain ⟨_,F24⟩:=d24
 have B24:=F24.binds (ps:=["self", "triangle", "colour"]) (by walk_at "b3")
 obtain ⟨_,F25⟩:=d25
 have B25:=F25.binds (ps:=["self", "triangle"]) (by walk_at "b2")
 have F54:FunD K "doubtful" "doubtful" Zbc (.ref dT54) f54 _:=⟨_,_,_,_,_,_,_,_,_,rfl,l54,c54⟩
 obtain ⟨_,F56⟩:=d56
 have B56:=F56.binds (ps:=["self", "values"]) (by walk_at "b2")
 obtain ⟨_,F59⟩:=d59
 have B59:=F59.binds (ps:=["self", "values"]) (by walk_at "b2")
 obtain ⟨_,F60⟩:=d60
 have B60:=F60.binds (ps:=["self", "values"]) (by walk_at "b2")
 obtain ⟨_,F61⟩:=d61
 have B61:=F61.binds (ps:=["self", "values"]) (by walk_at "b2")
 obtain ⟨_,F66⟩:=d66
 have B66:=F66.binds (ps:=["self"]) (by walk_at "b1")
 obtain ⟨_,F67⟩:=d67
 have B67:=F67.binds (ps:=["self"]) (by walk_at "b1")
 have F75:FunD K "paint" "paint" ZcY (.ref dT75) f75 _:=⟨_,_,_,_,_,_,_,_,_,rfl,l75,c75⟩
 have F76:=Zdi (st:=ZhI) l76 c76 k76
 have D76:=dmk F76 (F76.binds (ps:=["_law_script"]) (by walk_at "b1")) (Vcr X G a76)
 refine ⟨W.fnOf "law" "law" (Zb2 ZhI) (Za5 ZhI) (Zab ZhI) .none kV76 dc76 pm76 an76 cd76 ct76,fun s v=>.of_eq rfl,fun base _ _=>?_⟩
 have C__law_bounded:=ZfS (P:=l.prog) (w:=w) (base:=base) T D1
 have C__law_cell_at:=Zge (P:=l.prog) (w:=w) (base:=base) T D2
 have C__law_mixed:=Zhp (P:=l.prog) (w:=w) (base:=base) T D3
 have C__law_draws:=Zhr (P:=l.prog) (w:=w) (base:=base) T D4 C__law_mixed
 have C_Glass__word:=ZgS (P:=l.prog) (w:=w) (base:=base) T F5
 have C_Patterned__word:=Zew (P:=l.prog) (w:=w) (base:=base) T F6
 have C_Plain__word:=ZgT (P:=l.prog) (w:=w) (base:=base) T F7
 have C_Shaded__word:=Zgd (P:=l.prog) (w:=w) (base:=base) T F8
 have CM_word:Zck l.prog w K mg base 1 0 "word" ZcX:=(.cons (fun C hC=>by cases (Vcr X G ob_Plain).symm.trans hC;exact ⟨⟨og_Plain,oh_Plain,oo_Plain,os_Plain⟩,_,_,_,⟨ot_Plain_word,q7,F7.kp⟩,C_Plain__word.mono (by decide),B7,rfl⟩) (.cons (fun C hC=>by cases (Vcr X G ob_Shaded).symm.trans hC;exact ⟨⟨og_Shaded,oh_Shaded,oo_Shaded,os_Shaded⟩,_,_,_,⟨ot_Shaded_word,q8,F8.kp⟩,C_Shaded__word.mono (by decide),B8,rfl⟩) (.cons (fun C hC=>by cases (Vcr X G ob_Patterned).symm.trans hC;exact ⟨⟨og_Patterned,oh_Patterned,oo_Patterned,os_Patterned⟩,_,_,_,⟨ot_Patterned_word,q6,F6.kp⟩,C_Patterned__word.mono (by decide),B6,rfl⟩) (.cons (fun C hC=>by cases (Vcr X G ob_Glass).symm.trans hC;exact ⟨⟨og_Glass,oh_Glass,oo_Glass,os_Glass⟩,_,_,_,⟨ot_Glass_word,q5,F5.kp⟩,C_Glass__word.mono (by decide),B5,rfl⟩) .nil))))
 have C_check_before_eye:=Zep (P:=l.prog) (w:=w) (base:=base) T D9
 have C_is_whole:=ZiP (P:=l.prog) (w:=w) (base:=base) T D10
 have C_are_values:=ZhJ (P:=l.prog) (w:=w) (base:=base) T D11 C_is_whole
 have C_is_corner:=Zh8 (P:=l.prog) (w:=w) (base:=base) T D12 C_is_whole C_are_values
 have C_check_triangle:=Zfd (P:=l.prog) (w:=w) (base:=base) T D13 C_is_corner
 have C_Thing____init__:=Znq (P:=l.prog) (w:=w) (base:=base) T F14 C_check_before_eye C_check_triangle
 have CS_Thing:CalS l.prog w K mg base 5 "Thing" "__init__" 1 objs Zb4:=⟨_,_,_,_,Vcr X G ob_Thing,⟨us_Thing,⟨_,ur_Thing,uf_Thing⟩,uh_Thing,F14.kp⟩,C_Thing____init__,B14⟩
 have C_greatest_divisor:=Zeh (P:=l.prog) (w:=w) (base:=base) T D15
 have C_is_fraction:=ZgN (P:=l.prog) (w:=w) (base:=base) T D16 C_is_whole C_greatest_divisor
 have C_check_colour:=ZfU (P:=l.prog) (w:=w) (base:=base) T D17 C_is_fraction
 have C_check_part:=Zhi (P:=l.prog) (w:=w) (base:=base) T D18 C_is_fraction
 have C_Glass____init__:=Znj (P:=l.prog) (w:=w) (base:=base) T F19 CS_Thing C_check_colour C_check_part
 have CI_Glass:CalI l.prog w K mg base 7 "Glass" 3 objs Zdp:=⟨_,_,_,_,Vcr X G ob_Glass,⟨om_Glass,a19,q19,ok_Glass⟩,C_Glass____init__,B19,rfl⟩
 have C_check_pattern:=ZfB (P:=l.prog) (w:=w) (base:=base) T D20 C_is_fraction
 have C_check_values:=Zf9 (P:=l.prog) (w:=w) (base:=base) T D21
 have C_copied:=ZmK (P:=l.prog) (w:=w) (base:=base) T D22
 have C_Patterned____init__:=Zh9 (P:=l.prog) (w:=w) (base:=base) T F23 CS_Thing C_check_pattern C_check_values C_copied
 have CI_Patterned:CalI l.prog w K mg base 7 "Patterned" 2 objs Za6:=⟨_,_,_,_,Vcr X G ob_Patterned,⟨om_Patterned,a23,q23,ok_Patterned⟩,C_Patterned____init__,B23,rfl⟩
 have C_Plain____init__:=Znl (P:=l.prog) (w:=w) (base:=base) T F24 CS_Thing C_check_colour
 have CI_Plain:CalI l.prog w K mg base 7 "Plain" 2 objs ZdK:=⟨_,_,_,_,Vcr X G ob_Plain,⟨om_Plain,a24,q24,ok_Plain⟩,C_Plain____init__,B24,rfl⟩
 have C_Shaded____init__:=Zmt (P:=l.prog) (w:=w) (base:=base) T F25 CS_Thing C_check_values
 have CI_Shaded:CalI l.prog w K mg base 7 "Shaded" 1 objs Zcv:=⟨_,_,_,_,Vcr X G ob_Shaded,⟨om_Shaded,a25,q25,ok_Shaded⟩,C_Shaded____init__,B25,rfl⟩
 have C__law_like:=ZhU (P:=l.prog) (w:=w) (base:=base) T D26 CM_word CI_Glass CI_Patterned CI_Plain CI_Shaded
 have C__law_moved:=Zhm (P:=l.prog) (w:=w) (base:=base) T D27
 have C__law_orders:=ZgQ (P:=l.prog) (w:=w) (base:=base) T D28
 have C__law_spots:=ZhQ (P:=l.prog) (w:=w) (base:=base) T D29 C__law_draws
 have C_ratio:=Zoj (P:=l.prog) (w:=w) (base:=base) T D30 C_greatest_divisor
 have C__law_pattern:=Zgi (P:=l.prog) (w:=w) (base:=base) T D31 C__law_mixed C_ratio
 have C__law_thing:=Zhy (P:=l.prog) (w:=w) (base:=base) T D32 CI_Glass CI_Patterned CI_Plain CI_Shaded C_ratio C__law_pattern
 have C__law_corner:=ZgK (P:=l.prog) (w:=w) (base:=base) T D33
 have C__law_triangles:=Ze8 (P:=l.prog) (w:=w) (base:=base) T D34 C__law_cell_at C__law_draws C__law_corner
 have C__law_things:=ZgP (P:=l.prog) (w:=w) (base:=base) T D35 C__law_cell_at C__law_draws C__law_thing C__law_triangles
 have C_is_between:=ZhK (P:=l.prog) (w:=w) (base:=base) T D36 C_is_whole
 have C_check_floor:=ZgI (P:=l.prog) (w:=w) (base:=base) T D37 C_is_between
 have C_has_alike_depths:=Zd7 (P:=l.prog) (w:=w) (base:=base) T D38
 have C_summed_products:=ZeV (P:=l.prog) (w:=w) (base:=base) T D39
 have C_weighed_h:=ZiD (P:=l.prog) (w:=w) (base:=base) T D40 C_summed_products
 have C_depth_and_values:=Zel (P:=l.prog) (w:=w) (base:=base) T D41 C_ratio C_summed_products C_weighed_h
 have C_edge_numbers:=Zgy (P:=l.prog) (w:=w) (base:=base) T D42
 have C_side:=Zo8 (P:=l.prog) (w:=w) (base:=base) T D43 C_summed_products C_edge_numbers
 have C_had:=Zs8 (P:=l.prog) (w:=w) (base:=base) T D44 C_check_before_eye C_side
 have C_edge_sum:=Zi3 (P:=l.prog) (w:=w) (base:=base) T D45 C_summed_products C_edge_numbers
 have C_weights:=ZkX (P:=l.prog) (w:=w) (base:=base) T D46 C_edge_sum
 have C_seen_at:=ZkM (P:=l.prog) (w:=w) (base:=base) T D47 C_depth_and_values C_had C_weights
 have C_sights_at:=ZiJ (P:=l.prog) (w:=w) (base:=base) T D48 C_seen_at
 have C_spot_at:=ZkY (P:=l.prog) (w:=w) (base:=base) T D49
 have C_sights_in:=Zic (P:=l.prog) (w:=w) (base:=base) T D50 C_sights_at C_spot_at
 have C_is_spot:=ZkV (P:=l.prog) (w:=w) (base:=base) T D51 C_is_between
 have C_check_spots:=ZgM (P:=l.prog) (w:=w) (base:=base) T D52 C_is_spot
 have C_spots_or_middle:=Zez (P:=l.prog) (w:=w) (base:=base) T D53 C_check_spots
 have K_doubtful:=Zje (P:=l.prog) (w:=w) (base:=base) T F54 C_check_floor C_has_alike_depths C_sights_in C_spots_or_middle
 have B_doubtful:Binds K (W.fnOf "doubtful" "doubtful" (Zb2 Zbc) (Za5 Zbc) (Zab Zbc) (.ref dT54) kV54 dc54 pm54 an54 cd54 ct54) ["things", "width", "height", "spots"] []:=fun s us X hl=>My.ln4 (P:=fun us=>BindsTo s _ {pos:=us} (List.zip (["things", "width", "height", "spots"]:List Str) (us++[]))) (fun _ _ _ _=>BindsTo.of_defaults rfl (X _ _ dl54) rfl rfl rfl) us (by simpa using hl)
 have C_doubtful:Cal l.prog w K mg base 7 "doubtful" ["things", "width", "height", "spots"] ZbS:=⟨_,_,K_doubtful,B_doubtful,k54,Vcr X G a54⟩
 have C_ground_or_none:=Zfc (P:=l.prog) (w:=w) (base:=base) T D55
 have C_Glass__colour_at:=Zei (P:=l.prog) (w:=w) (base:=base) T F56
 have C_down:=Zpx (P:=l.prog) (w:=w) (base:=base) T D57
 have C_entry_at:=Zji (P:=l.prog) (w:=w) (base:=base) T D58 C_down
 have C_Patterned__colour_at:=Zc4 (P:=l.prog) (w:=w) (base:=base) T F59 C_entry_at
 have C_Plain__colour_at:=Zeb (P:=l.prog) (w:=w) (base:=base) T F60
 have C_Shaded__colour_at:=ZdU (P:=l.prog) (w:=w) (base:=base) T F61
 have CM_colour_at:Zck l.prog w K mg base 3 1 "colour_at" Zbd:=(.cons (fun C hC=>by cases (Vcr X G ob_Plain).symm.trans hC;exact ⟨⟨og_Plain,oh_Plain,oo_Plain,os_Plain⟩,_,_,_,⟨ot_Plain_colour_at,q60,F60.kp⟩,C_Plain__colour_at.mono (by decide),B60,rfl⟩) (.cons (fun C hC=>by cases (Vcr X G ob_Shaded).symm.trans hC;exact ⟨⟨og_Shaded,oh_Shaded,oo_Shaded,os_Shaded⟩,_,_,_,⟨ot_Shaded_colour_at,q61,F61.kp⟩,C_Shaded__colour_at.mono (by decide),B61,rfl⟩) (.cons (fun C hC=>by cases (Vcr X G ob_Patterned).symm.trans hC;exact ⟨⟨og_Patterned,oh_Patterned,oo_Patterned,os_Patterned⟩,_,_,_,⟨ot_Patterned_colour_at,q59,F59.kp⟩,C_Patterned__colour_at.mono (by decide),B59,rfl⟩) (.cons (fun C hC=>by cases (Vcr X G ob_Glass).symm.trans hC;exact ⟨⟨og_Glass,oh_Glass,oo_Glass,os_Glass⟩,_,_,_,⟨ot_Glass_colour_at,q56,F56.kp⟩,C_Glass__colour_at.mono (by decide),B56,rfl⟩) .nil))))
 have C_minus:=Zm6 (P:=l.prog) (w:=w) (base:=base) T D62 C_ratio
 have C_plus:=Zqn (P:=l.prog) (w:=w) (base:=base) T D63 C_ratio
 have C_product:=ZkW (P:=l.prog) (w:=w) (base:=base) T D64 C_ratio
 have C_laid_over:=Zix (P:=l.prog) (w:=w) (base:=base) T D65 C_minus C_plus C_product
 have C_Glass__is_glass:=ZeW (P:=l.prog) (w:=w) (base:=base) T F66
 have C_Thing__is_glass:=Zey (P:=l.prog) (w:=w) (base:=base) T F67
 have CM_is_glass:Zck l.prog w K mg base 1 0 "is_glass" Za7:=(.cons (fun C hC=>by cases (Vcr X G ob_Plain).symm.trans hC;exact ⟨⟨og_Plain,oh_Plain,oo_Plain,os_Plain⟩,_,_,_,⟨ot_Plain_is_glass,q67,F67.kp⟩,C_Thing__is_glass.mono (by decide),B67,rfl⟩) (.cons (fun C hC=>by cases (Vcr X G ob_Shaded).symm.trans hC;exact ⟨⟨og_Shaded,oh_Shaded,oo_Shaded,os_Shaded⟩,_,_,_,⟨ot_Shaded_is_glass,q67,F67.kp⟩,C_Thing__is_glass.mono (by decide),B67,rfl⟩) (.cons (fun C hC=>by cases (Vcr X G ob_Patterned).symm.trans hC;exact ⟨⟨og_Patterned,oh_Patterned,oo_Patterned,os_Patterned⟩,_,_,_,⟨ot_Patterned_is_glass,q67,F67.kp⟩,C_Thing__is_glass.mono (by decide),B67,rfl⟩) (.cons (fun C hC=>by cases (Vcr X G ob_Glass).symm.trans hC;exact ⟨⟨og_Glass,oh_Glass,oo_Glass,os_Glass⟩,_,_,_,⟨ot_Glass_is_glass,q66,F66.kp⟩,C_Glass__is_glass.mono (by decide),B66,rfl⟩) .nil))))
 have C_under:=Zn5 (P:=l.prog) (w:=w) (base:=base) T D68
 have C_layers_over:=ZgL (P:=l.prog) (w:=w) (base:=base) T D69 CM_is_glass C_under
 have C_nearest_of:=ZhM (P:=l.prog) (w:=w) (base:=base) T D70 CM_is_glass C_under
 have C_colour_of:=ZiE (P:=l.prog) (w:=w) (base:=base) T D71 CM_colour_at C_laid_over C_layers_over C_nearest_of
 have C_mean_of:=ZkD (P:=l.prog) (w:=w) (base:=base) T D72 C_ratio C_plus
 have C_cell_colour:=ZgJ (P:=l.prog) (w:=w) (base:=base) T D73 C_colour_of C_mean_of
 have C_painted_row:=ZgO (P:=l.prog) (w:=w) (base:=base) T D74 C_sights_in C_cell_colour
 have K_paint:=Zni (P:=l.prog) (w:=w) (base:=base) T F75 C_check_floor C_spots_or_middle C_ground_or_none C_painted_row
 have B_paint:Binds K (W.fnOf "paint" "paint" (Zb2 ZcY) (Za5 ZcY) (Zab ZcY) (.ref dT75) kV75 dc75 pm75 an75 cd75 ct75) ["things", "width", "height", "spots", "ground"] []:=fun s us X hl=>My.ln5 (P:=fun us=>BindsTo s _ {pos:=us} (List.zip (["things", "width", "height", "spots", "ground"]:List Str) (us++[]))) (fun _ _ _ _ _=>BindsTo.of_defaults rfl (X _ _ dl75) rfl rfl rfl) us (by simpa using hl)
 have C_paint:Cal l.prog w K mg base 8 "paint" ["things", "width", "height", "spots", "ground"] Zcf:=⟨_,_,K_paint,B_paint,k75,Vcr X G a75⟩
 exact (Zsl (P:=l.prog) (w:=w) (base:=base) T F76 C__law_bounded C__law_cell_at C__law_draws C__law_like C__law_moved C__law_orders C__law_spots C__law_things C_doubtful C_paint).imp (ZsQ Zod)
theorem walk{l:W.OpenLaw}{q:Program}{loose:List Str}{XP:(Str→Option Value)→Heap→Prop}{YP:World→Heap→Prop}{d:DefRec}{K:Params→W.Frag}(hn:l.most=some 63)(hdf:d.params.defaults=[])
  (hY:∀(w:World) (h:Heap),YP w h→(K w.params).In h)
  (F:∀(w:World) (mg:Str→Option Value) (fa:Addr) (h:Heap),(K w.params).In h→h.Ns mainGlobals mg→mg d.name=some (.ref fa) →
   ∃fd:FuncData,(∀(s:Shared) (u:Value),BindsTo s fd ⟨[u],[]⟩ [("_law_script", u)])∧∀base:Heap,(K w.params).In base→base.Ns mainGlobals mg→FnOk l.prog w (K w.params) mg base (CXR l.prog w) 11 fa fd ["_law_script"] (ZnJ (K w.params))) :
  W.WalkO q loose XP YP l.row.toRowW d [] (fun f vs=>PySem.call f vs) :=
 L2.ZqG (n:=63) (k:=11) (x := "_law_script") (CX:=fun w=>CXR l.prog w) (sp:=fun w=>ZnJ (K w.params)) hn (by decide) hdf ⟨rfl,by decide,by decide⟩ hY F (fun _ _ a ns hl _ hS=>⟨a,ns,rfl,hS,hl,fun _=>rfl⟩) fun _ _ _ _ _ z=>Zr6 z
end My
set_option hygiene false in
local macro_rules | `(tactic| walk_at "df")=>`(tactic| (refine' ⟨_,L2.Zdi ?l ?c ?k⟩;(case l=>k_is);(case c=>k_is);(case k=>k_is)))
set_option hygiene false in
local macro_rules | `(tactic| walk_at "dd1")=>`(tactic| (refine' ⟨_,_,L2.Zdi ?l ?c ?k,L2.Fun.binds (L2.Zdi ?l ?c ?k) (fun _ _ _ _ _ _=>My.ln1 fun _=>rfl),Vcr KX G ?a⟩;(case a=>k_is);(case l=>k_is);(case c=>k_is);(case k=>k_is)))
set_option hygiene false in
local macro_rules | `(tactic| walk_at "dd2")=>`(tactic| (refine' ⟨_,_,L2.Zdi ?l ?c ?k,L2.Fun.binds (L2.Zdi ?l ?c ?k) (fun _ _ _ _ _ _=>My.ln2 fun _ _=>rfl),Vcr KX G ?a⟩;(case a=>k_is);(case l=>k_is);(case c=>k_is);(case k=>k_is)))
set_option hygiene false in
local macro_rules | `(tactic| walk_at "dd3")=>`(tactic| (refine' ⟨_,_,L2.Zdi ?l ?c ?k,L2.Fun.binds (L2.Zdi ?l ?c ?k) (fun _ _ _ _ _ _=>My.ln3 fun _ _ _=>rfl),Vcr KX G ?a⟩;(case a=>k_is);(case l=>k_is);(case c=>k_is);(case k=>k_is)))
set_option hygiene false in
local macro_rules | `(tactic| walk_at "dd4")=>`(tactic| (refine' ⟨_,_,L2.Zdi ?l ?c ?k,L2.Fun.binds (L2.Zdi ?l ?c ?k) (fun _ _ _ _ _ _=>My.ln4 fun _ _ _ _=>rfl),Vcr KX G ?a⟩;(case a=>k_is);(case l=>k_is);(case c=>k_is);(case k=>k_is)))
set_option hygiene false in
local macro_rules | `(tactic| walk_at "dd5")=>`(tactic| (refine' ⟨_,_,L2.Zdi ?l ?c ?k,L2.Fun.binds (L2.Zdi ?l ?c ?k) (fun _ _ _ _ _ _=>My.ln5 fun _ _ _ _ _=>rfl),W.mg_of KX G ?a⟩;(case a=>k_is);(case l=>k_is);(case c=>k_is);(case k=>k_is)))
local macro_rules | `(tactic| walk_at "ni")=>`(tactic| (delta My.NI;k_is))
open PySem PySem.W PyProof.Rows
set_option maxRecDepth 100000 in
set_option maxHeartbeats 0 in
theorem PySem.Challenge.cw_sampleyard_k57_whole_order_and_places_holds : PySem.Challenge.rw_sampleyard_k57_whole_order_and_places.Holds := by
 w_on;refine holds_law Hd.said fun said=>?_
 refine holds_open (r:=PySem.Challenge.rw_sampleyard_k57_whole_order_and_places.row) (q:=Hd.view) (loose:=["paint", "doubtful"]) (Xt:=(fun s=>xlAt Hd.view [] s&&recOk (RowW.records PySem.Challenge.rw_sampleyard_k57_whole_order_and_places.row.toRowW) s)) (XP:=XL Hd.view []) (Yf:=Hook.obs (kHook Hd.heap Hd.addrs Hd.ZdN)) (Ya:=Hook.val (kHook Hd.heap Hd.addrs Hd.ZdN)) (YP:=Hook.says (kHook Hd.heap Hd.addrs Hd.ZdN)) (N:=Hd.most) Hd.left (Hook.of (kHook Hd.heap Hd.addrs Hd.ZdN)) (Hook.keeps (kHook Hd.heap Hd.addrs Hd.ZdN)) (fun s e=>xl_of s (Bool.and_eq_true_iff.mp e).1) XL.keeps (by rfl) (by rfl) (by rfl) (fun s e=>recFacts_of (Bool.and_eq_true_iff.mp e).2) (by rfl) (by assumption) (by decide +kernel) ⟨rfl,rfl,rfl,rfl,rfl,by decide +kernel⟩ ?hw ?hc
 case hw=>w_witness2
 k_fill
 refine My.walk (l:=PySem.Challenge.rw_sampleyard_k57_whole_order_and_places) rfl rfl (fun w h Y=>W.kIn_of Y) ?F
 case F =>
  intro w mg fa h KX G hmg
  refine' My.ZsA KX G hmg ?ob_Glass ?ob_Patterned ?ob_Plain ?ob_Shaded ?ob_Thing ?D1 ?D2 ?D3 ?D4 ?a5 ?d5 ?q5 ?a6 ?d6 ?q6 ?a7 ?d7 ?q7 ?a8 ?d8 ?q8 ?D9 ?D10 ?D11 ?D12 ?D13 ?a14 ?d14 ?q14 ?D15 ?D16 ?D17 ?D18 ?a19 ?d19 ?q19 ?D20 ?D21 ?D22 ?a23 ?d23 ?q23 ?a24 ?d24 ?q24 ?a25 ?d25 ?q25 ?D26 ?D27 ?D28 ?D29 ?D30 ?D31 ?D32 ?D33 ?D34 ?D35 ?D36 ?D37 ?D38 ?D39 ?D40 ?D41 ?D42 ?D43 ?D44 ?D45 ?D46 ?D47 ?D48 ?D49 ?D50 ?D51 ?D52 ?D53 ?a54 ?l54 ?c54 ?k54 ?D55 ?a56 ?d56 ?q56 ?D57 ?D58 ?a59 ?d59 ?q59 ?a60 ?d60 ?q60 ?a61 ?d61 ?q61 ?D62 ?D63 ?D64 ?D65 ?a66 ?d66 ?q66 ?a67 ?d67 ?q67 ?D68 ?D69 ?D70 ?D71 ?D72 ?D73 ?D74 ?a75 ?l75 ?c75 ?k75 ?a76 ?l76 ?c76 ?k76 ?dl54 ?dl75 ?og_Glass ?oh_Glass ?oo_Glass ?os_Glass ?on_Glass_colour ?on_Glass_part ?on_Glass_pattern ?on_Glass_triangle ?ot_Glass_word ?ot_Glass_colour_at ?ot_Glass_is_glass ?om_Glass ?ok_Glass ?og_Patterned ?oh_Patterned ?oo_Patterned ?os_Patterned ?on_Patterned_colour ?on_Patterned_part ?on_Patterned_pattern ?on_Patterned_triangle ?ot_Patterned_word ?ot_Patterned_colour_at ?ot_Patterned_is_glass ?om_Patterned ?ok_Patterned ?og_Plain ?oh_Plain ?oo_Plain ?os_Plain ?on_Plain_colour ?on_Plain_part ?on_Plain_pattern ?on_Plain_triangle ?ot_Plain_word ?ot_Plain_colour_at ?ot_Plain_is_glass ?om_Plain ?ok_Plain ?og_Shaded ?oh_Shaded ?oo_Shaded ?os_Shaded ?on_Shaded_colour ?on_Shaded_part ?on_Shaded_pattern ?on_Shaded_triangle ?ot_Shaded_word ?ot_Shaded_colour_at ?ot_Shaded_is_glass ?om_Shaded ?ok_Shaded ?us_Thing ?ur_Thing ?uf_Thing ?uh_Thing ?z0 ?z1 ?z2 ?z3 ?z4 ?z5 ?z6 ?z7 ?z8 ?z9 ?z10 ?z11 ?z12 ?z13 ?gc0 ?gc1 ?gc2 ?gta0 ?gtl0 ?xa0 ?xb0 ?xa1 ?xb1 ?xa2 ?xb2 ?xa3 ?xb3
  (case ob_Glass=>walk_at "ni")
  (case ob_Patterned=>walk_at "ni")
  (case ob_Plain=>walk_at "ni")
  (case ob_Shaded=>walk_at "ni")
  (case ob_Thing=>walk_at "ni")
  (case D1=>walk_at "dd1")
  (case D2=>walk_at "dd2")
  (case D3=>walk_at "dd2")
  (case D4=>walk_at "dd2")
  case a5=>k_is
  (case d5=>walk_at "df")
  case q5 | a6=>k_is
  (case d6=>walk_at "df")
  case q6 | a7=>k_is
  (case d7=>walk_at "df")
  case q7 | a8=>k_is
  (case d8=>walk_at "df")
  case q8=>k_is
  (case D9=>walk_at "dd1")
  (case D10=>walk_at "dd1")
  (case D11=>walk_at "dd1")
  (case D12=>walk_at "dd1")
  (case D13=>walk_at "dd1")
  case a14=>k_is
  (case d14=>walk_at "df")
  case q14=>k_is
  (case D15=>walk_at "dd1")
  (case D16=>walk_at "dd1")
  (case D17=>walk_at "dd1")
  (case D18=>walk_at "dd1")
  case a19=>k_is
  (case d19=>walk_at "df")
  case q19=>k_is
  (case D20=>walk_at "dd1")
  (case D21=>walk_at "dd2")
  (case D22=>walk_at "dd1")
  case a23=>k_is
  (case d23=>walk_at "df")
  case q23 | a24=>k_is
  (case d24=>walk_at "df")
  case q24 | a25=>k_is
  (case d25=>walk_at "df")
  case q25=>k_is
  (case D26=>walk_at "dd2")
  (case D27=>walk_at "dd3")
  (case D28=>walk_at "dd2")
  (case D29=>walk_at "dd1")
  (case D30=>walk_at "dd2")
  (case D31=>walk_at "dd2")
  (case D32=>walk_at "dd2")
  (case D33=>walk_at "dd2")
  (case D34=>walk_at "dd4")
  (case D35=>walk_at "dd3")
  (case D36=>walk_at "dd3")
  (case D37=>walk_at "dd2")
  (case D38=>walk_at "dd1")
  (case D39=>walk_at "dd2")
  (case D40=>walk_at "dd2")
  (case D41=>walk_at "dd2")
  (case D42=>walk_at "dd2")
  (case D43=>walk_at "dd3")
  (case D44=>walk_at "dd2")
  (case D45=>walk_at "dd3")
  (case D46=>walk_at "dd2")
  (case D47=>walk_at "dd2")
  (case D48=>walk_at "dd2")
  (case D49=>walk_at "dd3")
  (case D50=>walk_at "dd4")
  (case D51=>walk_at "dd1")
  (case D52=>walk_at "dd1")
  (case D53=>walk_at "dd1")
  case a54 | l54 | c54 | k54=>k_is
  (case D55=>walk_at "dd1")
  case a56=>k_is
  (case d56=>walk_at "df")
  case q56=>k_is
  (case D57=>walk_at "dd1")
  (case D58=>walk_at "dd3")
  case a59=>k_is
  (case d59=>walk_at "df")
  case q59 | a60=>k_is
  (case d60=>walk_at "df")
  case q60 | a61=>k_is
  (case d61=>walk_at "df")
  case q61=>k_is
  (case D62=>walk_at "dd2")
  (case D63=>walk_at "dd2")
  (case D64=>walk_at "dd2")
  (case D65=>walk_at "dd2")
  case a66=>k_is
  (case d66=>walk_at "df")
  case q66 | a67=>k_is
  (case d67=>walk_at "df")
  case q67=>k_is
  (case D68=>walk_at "dd2")
  (case D69=>walk_at "dd2")
  (case D70=>walk_at "dd1")
  (case D71=>walk_at "dd2")
  (case D72=>walk_at "dd1")
  (case D73=>walk_at "dd2")
  (case D74=>walk_at "dd5")
  case a75 | l75 | c75 | k75 | a76 | l76 | c76 | k76 | dl54 | dl75 | og_Glass | oh_Glass | oo_Glass | os_Glass | on_Glass_colour | on_Glass_part | on_Glass_pattern | on_Glass_triangle | ot_Glass_word | ot_Glass_colour_at | ot_Glass_is_glass | om_Glass | ok_Glass | og_Patterned | oh_Patterned=>k_is
  case oo_Patterned | os_Patterned | on_Patterned_colour | on_Patterned_part | on_Patterned_pattern | on_Patterned_triangle | ot_Patterned_word | ot_Patterned_colour_at | ot_Patterned_is_glass | om_Patterned | ok_Patterned | og_Plain | oh_Plain | oo_Plain | os_Plain | on_Plain_colour | on_Plain_part | on_Plain_pattern | on_Plain_triangle | ot_Plain_word | ot_Plain_colour_at | ot_Plain_is_glass | om_Plain | ok_Plain | og_Shaded=>k_is
  case oh_Shaded | oo_Shaded | os_Shaded | on_Shaded_colour | on_Shaded_part | on_Shaded_pattern | on_Shaded_triangle | ot_Shaded_word | ot_Shaded_colour_at | ot_Shaded_is_glass | om_Shaded | ok_Shaded | us_Thing | ur_Thing | uf_Thing=>k_is
  case uh_Thing=>rfl
  case z0 | z1 | z2 | z3 | z4 | z5 | z6 | z7 | z8 | z9 | z10 | z11 | z12 | z13 | gc0 | gc1 | gc2 | gta0 | gtl0 | xa0=>k_is
  case xb0=>k_exc
  case xa1=>k_is
  case xb1=>k_exc
  case xa2=>k_is
  case xb2=>k_exc
  case xa3=>k_is
  case xb3=>k_exc
