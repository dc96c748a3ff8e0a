import PyProof.Rows.All
import Wide.All
import OpenK.AllK
import Wide.FinOn
import Lean
import KE.KLam
import KE.KNestM
import PyProof.EqAt
import PyProof.EqKinds
import PyProof.TupleCall
import PyProof.P3Eq
import PyProof.NeData
import PySem.Challenge.RW_sampleyard_k54_pictures
set_option Elab.async false
set_option linter.all false
set_option maxRecDepth 100000
noncomputable section
theorem Hd.said:PySem.W.OpenLaw.wellSaid PySem.Challenge.rw_sampleyard_k54_pictures=true:=by kernel_rfl
abbrev Vaa:=@List.map_congr_left
abbrev Vab:=@Bool.eq_false_iff
abbrev Vac:=@decide_eq_false
abbrev Vad:=@beq_eq_false_iff_ne
abbrev Vae:=@PySem.Heap.lt_size
abbrev Vaf:=@Nat.lt_of_lt_of_le
abbrev Vag:=@Nat.lt_irrefl
abbrev Vah:=@Nat.ne_of_lt
abbrev Vai:=@List.mem_filter
abbrev Vaj:=@List.mem_range
abbrev Vak:=@Nat.le_trans
abbrev Vam:=@Nat.le_of_lt
abbrev Van:=@List.filterMap_cons
abbrev Vao:=@List.mem_cons_self
abbrev Vap:=@List.mem_cons_of_mem
abbrev Vaq:=@PySem.Heap.get?_none_of_le
abbrev Var:=@List.mem_cons
abbrev Vas:=@List.mem_append
abbrev Vat:=@List.mem_append_left
abbrev Vau:=@List.getElem?_eq_some_iff
abbrev Vav:=@Option.some.inj
abbrev Vaw:=@PySem.wpAny_mono
abbrev Vax:=@Array.length_toList
abbrev Vay:=@congrArg
abbrev Vaz:=@PySem.wpAny_bind
abbrev VaA:=@PySem.wpAny_standAt
abbrev VaB:=@PySem.wpAny_pure
abbrev VaC:=@PySem.wpAny_newObj_type
abbrev VaD:=@PySem.Heap.get?_push_of_some
abbrev VaE:=@PySem.wpAny_passesOwn
abbrev VaF:=@Bool.false_ne_true
abbrev VaG:=@Nat.ne_of_gt
abbrev VaH:=@PySem.Heap.get?_push_size
abbrev VaI:=@Nat.le_refl
abbrev VaJ:=@PyProof.Rows.callWith_type1
abbrev VaK:=@List.mem_filterMap
abbrev VaL:=@List.mem_append_right
abbrev VaM:=@Int.fdiv_eq_ediv_of_nonneg
abbrev VaN:=@beq_iff_eq
abbrev VaO:=@List.length_cons
abbrev VaP:=@List.map_cons
abbrev VaQ:=@List.length_map
abbrev VaR:=@PySem.Heap.size_push
abbrev VaS:=@Nat.lt_succ_self
abbrev VaT:=@Nat.zero_le
abbrev VaU:=@PySem.W.kia_one
abbrev VaV:=@List.append_nil
abbrev VaW:=@PySem.codeAny_mono
abbrev VaX:=@PySem.wpAny_Call_Name_kw
abbrev VaY:=@List.nodup_cons
abbrev VaZ:=@List.of_mem_zip
abbrev Va0:=@List.length_take
abbrev Va1:=@PySem.mem_of_lookup
abbrev Va2:=@List.getElem?_append_right
abbrev Va3:=@List.getElem?_replicate
abbrev Va4:=@List.getElem?_append_left
abbrev Va5:=@List.getElem?_map
abbrev Va6:=@List.mem_of_getElem?
abbrev Va7:=@List.length_append
abbrev Va8:=@List.length_replicate
abbrev Va9:=@List.size_toArray
abbrev Vba:=@if_false
abbrev Vbb:=@if_true
abbrev Vbc:=@PySem.wpAny_field
abbrev Vbd:=@List.length_drop
abbrev Vbe:=@PySem.wpAny_holding
abbrev Vbf:=@PySem.wpAny_callSpecial?_slot
abbrev Vbg:=@PyProof.Rows.slot_tuple_getitem
abbrev Vbh:=@PySem.wpAny_call_entry
abbrev Vbi:=@PySem.wpAny_typeOf
abbrev Vbj:=@Bool.and_eq_true
abbrev Vbk:=@PySem.Heap.get?_update_other
abbrev Vbl:=@List.length_singleton
abbrev Vbm:=@decide_eq_true
abbrev Vbn:=@Nat.lt_of_le_of_lt
abbrev Vbo:=@List.forIn_cons
abbrev Vbp:=@List.forIn_nil
abbrev Vbq:=@List.lookup_cons
abbrev Vbr:=@Nat.lt_trans
abbrev Vbs:=@List.mem_map
abbrev Vbt:=@List.drop_eq_getElem_cons
abbrev Vbu:=@Bool.false_eq_true
abbrev Vbv:=@PySem.wpAny_pyIter_list
abbrev Vbw:=@List.drop_zero
abbrev Vbx:=@List.take_of_length_le
abbrev Vby:=@PySem.F.slot_tuple_iterator_next
abbrev Vbz:=@PySem.wpAny_seqItems
abbrev VbA:=@Int.toNat_natCast
abbrev VbB:=@PySem.Heap.SameBut.update
abbrev VbC:=@PySem.Heap.get?_update_self
abbrev VbD:=@PySem.Obj.data_mapFields
abbrev VbE:=@List.length_set
abbrev VbF:=@List.length_range
abbrev VbG:=@List.getElem?_range
abbrev VbH:=@List.getElem?_eq_getElem
abbrev VbI:=@List.drop_eq_nil_of_le
abbrev VbJ:=@List.map_map
abbrev VbK:=@List.append_assoc
abbrev VbL:=@PySem.F.plainAttrs_list
abbrev VbM:=@PySem.wpAny_updateSeq
abbrev VbN:=@PySem.wpAny_setField_rec
abbrev VbO:=@PySem.wpAny_onRaise
abbrev VbP:=@Array.forIn_toList
abbrev VbQ:=@List.not_mem_nil
abbrev VbR:=@or_false
abbrev VbS:=@PySem.codeAny_builtin
abbrev VbT:=@PySem.Around.under_plainId
abbrev VbU:=@PySem.F.plain_extend_loop
abbrev VbV:=@List.map_append
abbrev VbW:=@Array.getElem?_eq_some_iff
abbrev VbX:=@List.mem_iff_getElem
abbrev VbY:=@Nat.mod_lt
abbrev VbZ:=@Int.emod_nonneg
abbrev Vb0:=@Int.emod_lt_of_pos
abbrev Vb1:=@List.pairwise_iff_getElem
abbrev Vb2:=@Array.getElem?_eq_getElem
abbrev Vb3:=@List.getElem_mem
abbrev Vb4:=@List.map_take
abbrev Vb5:=@List.pairwise_cons
abbrev Vb6:=@Classical.byContradiction
abbrev Vb7:=@List.mem_singleton
abbrev Vb8:=@PySem.wpAny_setState_of
abbrev Vb9:=@Nat.two_pow_pos
abbrev Vca:=@Int.natAbs_natCast
abbrev Vcb:=@Int.ne_of_gt
abbrev Vcc:=@Int.natAbs_dvd_natAbs
abbrev Vcd:=@Int.mul_le_mul_of_nonneg_left
abbrev Vce:=@List.length_zip
abbrev Vcf:=@Int.mul_pos
abbrev Vcg:=@Int.mul_le_mul_of_nonneg_right
abbrev Vch:=@Nat.min_eq_left
abbrev Vci:=@List.mem_of_mem_take
abbrev Vcj:=@Rat.divInt_eq_divInt_iff
abbrev Vck:=@Rat.num_divInt_den
abbrev Vcl:=@List.filter_cons
abbrev Vcm:=@List.foldl_append
abbrev Vcn:=@List.filter_nil
abbrev Vco:=@Int.toNat_of_nonneg
abbrev Vcp:=@Nat.mul_le_mul_right
abbrev Vcq:=@Nat.succ_mul
abbrev Vcr:=@PySem.PassesOwn.leaving
abbrev Vcs:=@PySem.W.mg_of
abbrev Vct:=@PySem.W.mg_none_of
abbrev Vcu:=@PySem.BindsTo.of_defaults
namespace L2
open PySem
def inClass(s:Stmt)(j:Nat):Stmt:=match s with
 | .ClassDef _ _ _ body _ _ _ _ _ _ _=>body.getD j (.Pass ⟨0,0,0,0⟩)
 | _=>.Pass ⟨0,0,0,0⟩
def Zcu(s:Stmt):Arguments:=match s with
 | .FunctionDef _ a _ _ _ _ _ _ _ _=>a
 | _=>{ posonlyargs:=[],args:=[],vararg:=none,kwonlyargs:=[],kw_defaults:=[],kwarg:=none,defaults:=[] }
def ZaY(s:Stmt):List Stmt:=match s with
 | .FunctionDef _ _ b _ _ _ _ _ _ _=>b
 | _=>[]
def Zab(s:Stmt):Scope:=match s with
 | .FunctionDef _ _ _ _ _ _ sc _ _ _=>sc
 | _=>{ kind:=.function,names:=[],isGenerator:=false,isCoroutine:=false }
end L2
namespace Hd
open PySem PySem.W L2
abbrev top(i:Nat):Stmt:=PySem.Challenge.pw_sampleyard_k54_pictures.main.body.getD i (.Pass ⟨0,0,0,0⟩)
def view:Program:={ PySem.Challenge.pw_sampleyard_k54_pictures with main:={ PySem.Challenge.pw_sampleyard_k54_pictures.main with body:=[top 0,top 2,top 3,top 4,top 5,top 6,top 8,top 9,top 10,top 11,top 13,top 14,top 15,top 16,top 17,top 18,top 19,top 20,top 22,top 23,top 24,top 25,top 26,top 27,top 29,top 30,top 31,top 33,top 35,top 36,top 37,top 38,top 39,top 40,top 41,top 42,top 43,top 44,top 45,top 46,top 47,top 49,top 50,top 51,top 53,top 54,top 55,top 56,top 58,top 59,top 60,top 61,top 63,top 64,top 65,top 66,top 67,top 68,top 69,top 70,top 72,top 73,top 74,top 75,top 76,top 77,top 78,top 79,top 80,top 81,top 82,top 83,top 84] } }
abbrev S(x:String):Str:=Str.ofString x
abbrev st(x:String)(t:Nat):Value:=.str (Str.ofString x) t
abbrev en(P:Params)(x:String)(t:Nat)(v:Value):DictEntry:=⟨PyData.keyHash P (Str.ofString x),.str (Str.ofString x) t,v⟩
abbrev fd(s:Stmt)(n q:String)(an:Option Addr)(d k c e m t:Value):Data:=.func { name:=Str.ofString n,qualname:=Str.ofString q,params:=Zcu s,body:=.stmts (ZaY s),scope:=Zab s,globals:=mainGlobals,closure:=[],defaults:=d,kwdefaults:=k,doc:=e,pyModule:=m,annotations:=an,code:=c,closureTuple:=t,builtins:=builtinsNs }
abbrev T(xs:Array Value):Obj:=⟨.type "tuple", none,.seq xs 0,#[]⟩
abbrev F(s:Stmt)(n q:String)(an:Option Addr)(d k c e m t:Value):Obj:=⟨.type "function", none,fd s n q an d k c e m t,#[]⟩
abbrev G(i:Nat)(n:String)(c:Nat)(m:String)(t:Nat):Obj:=F (top i) n n none .none .none (.ref c) .none (st m t) .none
abbrev D(es:List DictEntry)(n:Nat):Obj:=⟨.type "dict", none,.dict (List.toArray es) n,#[]⟩
abbrev C(n:String)(a:Nat)(q:String)(b c:Nat)(d e f g h:Int)(i:Value)(j:Bool)(k:Int)(l m o p r:Value)(s t:Int)(u:Nat):Obj:=⟨.type "code", none,.fields #[st n a,st q b,st "/claim/cut.py" c,.int d 0,.int e 0,.int f 0,.int g 0,.int h 0,i,.bool j,.int k 0,l,m,o,p,r,.int s 0,.int t 0,st "/claim/cut.py" u],#[]⟩
abbrev B(n:String)(a b c:Nat)(d e:Int)(i l o p r:Nat)(s:Int)(u:Nat):Obj:=C n a n b c d e 0 0 3 (.ref i) true 181 (.ref l) .none (.ref o) (.ref p) (.ref r) s d u
abbrev E(n:String)(a b c:Nat)(d e:Int)(i l r:Nat)(s:Int)(u:Nat):Obj:=C n a n b c d e 0 0 3 (.ref i) true 181 (.ref l) .none .none .none (.ref r) s d u
abbrev L(n:String)(b m:List Value)(a:Addr)(s:List Value)(sl:Array (Option Value)):Obj:=⟨.type "type", none,.cls { name:=Str.ofString n,bases:=b,mro:=m,ns:=a,qualname:=Str.ofString n,hasDict:=true,slotNames:=[],subclasses:=s,abstract:=false,collection:=none,hasDel:=false },sl⟩
def heap:Params→Frag:=fun P =>
  (nat_lit 2,⟨.none,none,(.dict (List.toArray []) 0),#[]⟩)::
(nat_lit 3,(D [(en P "__name__" 165 (st "law_sampleyard_k54_pictures" 906)),(en P "__doc__" 166 .none),(en P "__package__" 167 .none),(en P "__loader__" 168 (.builtin "__main__.__loader__#opaque")),(en P "__spec__" 169 .none),(en P "__annotations__" 170 (.ref 6)),(en P "__builtins__" 171 (.ref 4)),(en P "__file__" 173 (st "/claim/cut.py" 172)),(en P "__cached__" 174 .none),(en P "_wall" 193 (.ref 21)),(en P "YardError" 213 (.ref 31)),(en P "BadTriangle" 229 (.ref 44)),(en P "BadThing" 245 (.ref 56)),(en P "BadFloor" 261 (.ref 68)),(en P "BadPattern" 277 (.ref 80)),(en P "is_whole" 286 (.ref 89)),(en P "is_between" 295 (.ref 96)),(en P "greatest_divisor" 306 (.ref 103)),(en P "summed_products" 314 (.ref 110)),(en P "ratio" 325 (.ref 117)),(en P "plus" 333 (.ref 124)),(en P "minus" 341 (.ref 131)),(en P "product" 349 (.ref 138)),(en P "mean_of" 358 (.ref 145)),(en P "under" 366 (.ref 152)),(en P "down" 373 (.ref 159)),(en P "is_fraction" 380 (.ref 166)),(en P "side" 393 (.ref 173)),(en P "edge_numbers" 401 (.ref 180)),(en P "edge_sum" 410 (.ref 187)),(en P "check_before_eye" 418 (.ref 194)),(en P "had" 427 (.ref 201)),(en P "weights" 435 (.ref 208)),(en P "seen_at" 445 (.ref 215)),(en P "depth_and_values" 451 (.ref 220)),(en P "weighed_h" 457 (.ref 225)),(en P "spot_at" 468 (.ref 232)),(en P "MOST_CELLS" 472 (.int (64) 471)),(en P "MOST_SPOTS" 474 (.int (16) 473)),(en P "check_floor" 482 (.ref 239)),(en P "check_spots" 488 (.ref 244)),(en P "is_spot" 495 (.ref 251)),(en P "spots_or_middle" 502 (.ref 258)),(en P "ground_or_none" 509 (.ref 265)),(en P "colour_seen" 518 (.ref 272)),(en P "sights_at" 529 (.ref 279)),(en P "colour_of" 540 (.ref 286)),(en P "nearest_of" 549 (.ref 293)),(en P "layers_over" 555 (.ref 298)),(en P "laid_over" 564 (.ref 305)),(en P "paint" 570 (.ref 311)),(en P "painted_row" 576 (.ref 316)),(en P "sights_in" 582 (.ref 321)),(en P "cell_colour" 588 (.ref 326)),(en P "MOST_VALUES" 592 (.int (3) 591)),(en P "check_triangle" 600 (.ref 333)),(en P "is_corner" 606 (.ref 338)),(en P "are_values" 612 (.ref 343)),(en P "COUNTS" 620 (.ref 344)),(en P "check_pattern" 626 (.ref 349)),(en P "copied" 632 (.ref 354)),(en P "entry_at" 642 (.ref 361)),(en P "Thing" 680 (.ref 385)),(en P "Plain" 729 (.ref 427)),(en P "Shaded" 776 (.ref 467)),(en P "Patterned" 825 (.ref 507)),(en P "Glass" 883 (.ref 554)),(en P "check_values" 891 (.ref 563)),(en P "check_colour" 898 (.ref 570)),(en P "check_part" 905 (.ref 577)),(en P "_law_cell_at" 915 (.ref 584)),(en P "_law_mixed" 924 (.ref 591)),(en P "_law_draws" 930 (.ref 596)),(en P "_law_corner" 936 (.ref 601)),(en P "_law_triangles" 942 (.ref 606)),(en P "_law_pattern" 957 (.ref 613)),(en P "_law_thing" 963 (.ref 618)),(en P "_law_things" 977 (.ref 625)),(en P "_law_spots" 988 (.ref 632)),(en P "_law_mean" 998 (.ref 639)),(en P "_law_due" 1004 (.ref 644)),(en P "_law_painted" 1016 (.ref 651)),(en P "law" 1036 (.ref 658))] 83))::
(nat_lit 20,(B "_wall" 187 188 189 1 1 15 16 17 18 19 191 192))::
(nat_lit 21,(G 0 "_wall" 20 "__main__" 164))::
(nat_lit 22,(T #[(.type "ValueError")]))::
(nat_lit 30,(D [(en P "__module__" 203 (st "sampleyard.errors" 194)),(en P "__firstlineno__" 207 (.int (5) 206)),(en P "__static_attributes__" 208 (.ref 29)),(en P "__weakref__" 210 (.ref 32)),(en P "__doc__" 211 .none)] 3))::
(nat_lit 31,(L "YardError" [(.type "ValueError")] [(.ref 31),(.type "ValueError"),(.type "Exception"),(.type "BaseException"),(.type "object")] 30 [(.ref 44),(.ref 56),(.ref 68),(.ref 80)] #[(some (.ref 22)),none,(some (st "YardError" 196)),(some (st "YardError" 204)),(some (.builtin "ValueError.__new__")),(some (.bool true))]))::
(nat_lit 32,⟨(.type "getset_descriptor"),none,(.fields #[(st "__weakref__" 209),(.ref 31),(.builtin "ExceptionGroup.__weakref__"),.none]),#[]⟩)::
(nat_lit 35,(T #[(.ref 31)]))::
(nat_lit 43,(D [(en P "__module__" 221 (st "sampleyard.errors" 194)),(en P "__firstlineno__" 225 (.int (7) 224)),(en P "__static_attributes__" 226 (.ref 42)),(en P "__doc__" 227 .none)] 2))::
(nat_lit 44,(L "BadTriangle" [(.ref 31)] [(.ref 44),(.ref 31),(.type "ValueError"),(.type "Exception"),(.type "BaseException"),(.type "object")] 43 [] #[(some (.ref 35)),none,(some (st "BadTriangle" 214)),(some (st "BadTriangle" 222)),(some (.builtin "ValueError.__new__")),(some (.bool true))]))::
(nat_lit 47,(T #[(.ref 31)]))::
(nat_lit 55,(D [(en P "__module__" 237 (st "sampleyard.errors" 194)),(en P "__firstlineno__" 241 (.int (9) 240)),(en P "__static_attributes__" 242 (.ref 54)),(en P "__doc__" 243 .none)] 2))::
(nat_lit 56,(L "BadThing" [(.ref 31)] [(.ref 56),(.ref 31),(.type "ValueError"),(.type "Exception"),(.type "BaseException"),(.type "object")] 55 [] #[(some (.ref 47)),none,(some (st "BadThing" 230)),(some (st "BadThing" 238)),(some (.builtin "ValueError.__new__")),(some (.bool true))]))::
(nat_lit 59,(T #[(.ref 31)]))::
(nat_lit 67,(D [(en P "__module__" 253 (st "sampleyard.errors" 194)),(en P "__firstlineno__" 257 (.int (11) 256)),(en P "__static_attributes__" 258 (.ref 66)),(en P "__doc__" 259 .none)] 2))::
(nat_lit 68,(L "BadFloor" [(.ref 31)] [(.ref 68),(.ref 31),(.type "ValueError"),(.type "Exception"),(.type "BaseException"),(.type "object")] 67 [] #[(some (.ref 59)),none,(some (st "BadFloor" 246)),(some (st "BadFloor" 254)),(some (.builtin "ValueError.__new__")),(some (.bool true))]))::
(nat_lit 71,(T #[(.ref 31)]))::
(nat_lit 79,(D [(en P "__module__" 269 (st "sampleyard.errors" 194)),(en P "__firstlineno__" 273 (.int (13) 272)),(en P "__static_attributes__" 274 (.ref 78)),(en P "__doc__" 275 .none)] 2))::
(nat_lit 80,(L "BadPattern" [(.ref 31)] [(.ref 80),(.ref 31),(.type "ValueError"),(.type "Exception"),(.type "BaseException"),(.type "object")] 79 [] #[(some (.ref 71)),none,(some (st "BadPattern" 262)),(some (st "BadPattern" 270)),(some (.builtin "ValueError.__new__")),(some (.bool true))]))::
(nat_lit 88,(B "is_whole" 280 281 282 16 1 83 84 85 86 87 284 285))::
(nat_lit 89,(G 8 "is_whole" 88 "sampleyard.whole" 278))::
(nat_lit 95,(B "is_between" 287 288 289 18 3 90 91 92 93 94 293 294))::
(nat_lit 96,(G 9 "is_between" 95 "sampleyard.whole" 278))::
(nat_lit 102,(B "greatest_divisor" 296 297 298 20 1 97 98 99 100 101 304 305))::
(nat_lit 103,(G 10 "greatest_divisor" 102 "sampleyard.whole" 278))::
(nat_lit 109,(B "summed_products" 307 308 309 29 2 104 105 106 107 108 312 313))::
(nat_lit 110,(G 11 "summed_products" 109 "sampleyard.whole" 278))::
(nat_lit 116,(B "ratio" 317 318 319 32 2 111 112 113 114 115 323 324))::
(nat_lit 117,(G 13 "ratio" 116 "sampleyard.fractions" 315))::
(nat_lit 123,(B "plus" 326 327 328 37 2 118 119 120 121 122 331 332))::
(nat_lit 124,(G 14 "plus" 123 "sampleyard.fractions" 315))::
(nat_lit 130,(B "minus" 334 335 336 39 2 125 126 127 128 129 339 340))::
(nat_lit 131,(G 15 "minus" 130 "sampleyard.fractions" 315))::
(nat_lit 137,(B "product" 342 343 344 41 2 132 133 134 135 136 347 348))::
(nat_lit 138,(G 16 "product" 137 "sampleyard.fractions" 315))::
(nat_lit 144,(B "mean_of" 350 351 352 43 1 139 140 141 142 143 356 357))::
(nat_lit 145,(G 17 "mean_of" 144 "sampleyard.fractions" 315))::
(nat_lit 151,(B "under" 359 360 361 48 2 146 147 148 149 150 364 365))::
(nat_lit 152,(G 18 "under" 151 "sampleyard.fractions" 315))::
(nat_lit 158,(B "down" 367 368 369 50 1 153 154 155 156 157 371 372))::
(nat_lit 159,(G 19 "down" 158 "sampleyard.fractions" 315))::
(nat_lit 165,(B "is_fraction" 374 375 376 52 1 160 161 162 163 164 378 379))::
(nat_lit 166,(G 20 "is_fraction" 165 "sampleyard.fractions" 315))::
(nat_lit 172,(B "side" 383 384 385 59 3 167 168 169 170 171 391 392))::
(nat_lit 173,(G 22 "side" 172 "sampleyard.edges" 381))::
(nat_lit 179,(B "edge_numbers" 394 395 396 65 2 174 175 176 177 178 399 400))::
(nat_lit 180,(G 23 "edge_numbers" 179 "sampleyard.edges" 381))::
(nat_lit 186,(B "edge_sum" 402 403 404 67 3 181 182 183 184 185 408 409))::
(nat_lit 187,(G 24 "edge_sum" 186 "sampleyard.edges" 381))::
(nat_lit 193,(B "check_before_eye" 411 412 413 69 1 188 189 190 191 192 416 417))::
(nat_lit 194,(G 25 "check_before_eye" 193 "sampleyard.edges" 381))::
(nat_lit 200,(B "had" 419 420 421 73 2 195 196 197 198 199 425 426))::
(nat_lit 201,(G 26 "had" 200 "sampleyard.edges" 381))::
(nat_lit 207,(B "weights" 428 429 430 79 2 202 203 204 205 206 433 434))::
(nat_lit 208,(G 27 "weights" 207 "sampleyard.edges" 381))::
(nat_lit 214,(B "seen_at" 438 439 440 82 2 209 210 211 212 213 443 444))::
(nat_lit 215,(G 29 "seen_at" 214 "sampleyard.seen" 436))::
(nat_lit 219,(E "depth_and_values" 446 447 448 86 2 216 217 218 449 450))::
(nat_lit 220,(G 30 "depth_and_values" 219 "sampleyard.seen" 436))::
(nat_lit 224,(E "weighed_h" 452 453 454 91 2 221 222 223 455 456))::
(nat_lit 225,(G 31 "weighed_h" 224 "sampleyard.seen" 436))::
(nat_lit 231,(B "spot_at" 460 461 462 94 3 226 227 228 229 230 466 467))::
(nat_lit 232,(G 33 "spot_at" 231 "sampleyard.spots" 458))::
(nat_lit 238,(B "check_floor" 475 476 477 99 2 233 234 235 236 237 480 481))::
(nat_lit 239,(G 37 "check_floor" 238 "sampleyard.paint" 469))::
(nat_lit 243,(E "check_spots" 483 484 485 102 1 240 241 242 486 487))::
(nat_lit 244,(G 38 "check_spots" 243 "sampleyard.paint" 469))::
(nat_lit 250,(B "is_spot" 489 490 491 109 1 245 246 247 248 249 493 494))::
(nat_lit 251,(G 39 "is_spot" 250 "sampleyard.paint" 469))::
(nat_lit 257,(B "spots_or_middle" 496 497 498 113 1 252 253 254 255 256 500 501))::
(nat_lit 258,(G 40 "spots_or_middle" 257 "sampleyard.paint" 469))::
(nat_lit 264,(B "ground_or_none" 503 504 505 118 1 259 260 261 262 263 507 508))::
(nat_lit 265,(G 41 "ground_or_none" 264 "sampleyard.paint" 469))::
(nat_lit 271,(B "colour_seen" 510 511 512 120 3 266 267 268 269 270 516 517))::
(nat_lit 272,(G 42 "colour_seen" 271 "sampleyard.paint" 469))::
(nat_lit 278,(B "sights_at" 519 520 521 122 2 273 274 275 276 277 527 528))::
(nat_lit 279,(G 43 "sights_at" 278 "sampleyard.paint" 469))::
(nat_lit 285,(B "colour_of" 530 531 532 129 2 280 281 282 283 284 538 539))::
(nat_lit 286,(G 44 "colour_of" 285 "sampleyard.paint" 469))::
(nat_lit 292,(B "nearest_of" 541 542 543 137 1 287 288 289 290 291 547 548))::
(nat_lit 293,(G 45 "nearest_of" 292 "sampleyard.paint" 469))::
(nat_lit 297,(E "layers_over" 550 551 552 145 2 294 295 296 553 554))::
(nat_lit 298,(G 46 "layers_over" 297 "sampleyard.paint" 469))::
(nat_lit 304,(B "laid_over" 556 557 558 152 2 299 300 301 302 303 562 563))::
(nat_lit 305,(G 47 "laid_over" 304 "sampleyard.paint" 469))::
(nat_lit 306,(T #[.none,.none]))::
(nat_lit 310,(E "paint" 565 566 567 155 5 307 308 309 568 569))::
(nat_lit 311,(F (top 48) "paint" "paint" none (.ref 306) .none (.ref 310) .none (st "sampleyard.paint" 469) .none))::
(nat_lit 315,(E "painted_row" 571 572 573 160 5 312 313 314 574 575))::
(nat_lit 316,(G 49 "painted_row" 315 "sampleyard.paint" 469))::
(nat_lit 320,(E "sights_in" 577 578 579 162 4 317 318 319 580 581))::
(nat_lit 321,(G 50 "sights_in" 320 "sampleyard.paint" 469))::
(nat_lit 325,(E "cell_colour" 583 584 585 164 2 322 323 324 586 587))::
(nat_lit 326,(G 51 "cell_colour" 325 "sampleyard.paint" 469))::
(nat_lit 332,(B "check_triangle" 593 594 595 168 1 327 328 329 330 331 598 599))::
(nat_lit 333,(G 54 "check_triangle" 332 "sampleyard.corners" 589))::
(nat_lit 337,(E "is_corner" 601 602 603 176 1 334 335 336 604 605))::
(nat_lit 338,(G 55 "is_corner" 337 "sampleyard.corners" 589))::
(nat_lit 342,(E "are_values" 607 608 609 182 1 339 340 341 610 611))::
(nat_lit 343,(G 56 "are_values" 342 "sampleyard.corners" 589))::
(nat_lit 344,(T #[(.int (1) 615),(.int (2) 616),(.int (4) 617),(.int (8) 618),(.int (16) 619)]))::
(nat_lit 348,(E "check_pattern" 621 622 623 188 1 345 346 347 624 625))::
(nat_lit 349,(G 59 "check_pattern" 348 "sampleyard.patterns" 613))::
(nat_lit 353,(E "copied" 627 628 629 198 1 350 351 352 630 631))::
(nat_lit 354,(G 60 "copied" 353 "sampleyard.patterns" 613))::
(nat_lit 360,(B "entry_at" 633 634 635 200 3 355 356 357 358 359 640 641))::
(nat_lit 361,(G 61 "entry_at" 360 "sampleyard.patterns" 613))::
(nat_lit 374,(C "__init__" 657 "Thing.__init__" 658 659 206 2 0 0 3 (.ref 369) true 181 (.ref 370) .none (.ref 371) (.ref 372) (.ref 373) 662 206 663))::
(nat_lit 375,(F (inClass (top 63) 0) "__init__" "Thing.__init__" none .none .none (.ref 374) .none (st "sampleyard.things" 643) .none))::
(nat_lit 381,(C "is_glass" 665 "Thing.is_glass" 666 667 211 1 0 0 3 (.ref 376) true 181 (.ref 377) .none (.ref 378) (.ref 379) (.ref 380) 669 211 670))::
(nat_lit 382,(F (inClass (top 63) 1) "is_glass" "Thing.is_glass" none .none .none (.ref 381) .none (st "sampleyard.things" 643) .none))::
(nat_lit 384,(D [(en P "__module__" 652 (st "sampleyard.things" 643)),(en P "__firstlineno__" 656 (.int (204) 655)),(en P "__init__" 664 (.ref 375)),(en P "is_glass" 671 (.ref 382)),(en P "__static_attributes__" 673 (.ref 383)),(en P "__dict__" 675 (.ref 386)),(en P "__weakref__" 677 (.ref 387)),(en P "__doc__" 678 .none)] 4))::
(nat_lit 385,(L "Thing" [(.type "object")] [(.ref 385),(.type "object")] 384 [(.ref 427),(.ref 467),(.ref 507),(.ref 554)] #[none,none,(some (st "Thing" 645)),(some (st "Thing" 653)),(some (.builtin "object.__new__")),(some (.bool true))]))::
(nat_lit 386,⟨(.type "getset_descriptor"),none,(.fields #[(st "__dict__" 674),(.ref 385),(.builtin "function.__dict__"),(.builtin "function.__dict__#set")]),#[]⟩)::
(nat_lit 387,⟨(.type "getset_descriptor"),none,(.fields #[(st "__weakref__" 676),(.ref 385),(.builtin "ExceptionGroup.__weakref__"),.none]),#[]⟩)::
(nat_lit 390,(T #[(.ref 385)]))::
(nat_lit 402,(C "__init__" 693 "Plain.__init__" 694 695 215 3 0 0 3 (.ref 397) true 181 (.ref 398) .none (.ref 399) (.ref 400) (.ref 401) 699 215 700))::
(nat_lit 403,(F (inClass (top 64) 0) "__init__" "Plain.__init__" none .none .none (.ref 402) .none (st "sampleyard.things" 643) .none))::
(nat_lit 409,(C "word" 702 "Plain.word" 703 704 220 1 0 0 3 (.ref 404) true 181 (.ref 405) .none (.ref 406) (.ref 407) (.ref 408) 706 220 707))::
(nat_lit 410,(F (inClass (top 64) 1) "word" "Plain.word" none .none .none (.ref 409) .none (st "sampleyard.things" 643) .none))::
(nat_lit 416,(C "colour_at" 709 "Plain.colour_at" 710 711 223 2 0 0 3 (.ref 411) true 181 (.ref 412) .none (.ref 413) (.ref 414) (.ref 415) 714 223 715))::
(nat_lit 417,(F (inClass (top 64) 2) "colour_at" "Plain.colour_at" none .none .none (.ref 416) .none (st "sampleyard.things" 643) .none))::
(nat_lit 423,(C "like" 717 "Plain.like" 718 719 226 2 0 0 3 (.ref 418) true 181 (.ref 419) .none (.ref 420) (.ref 421) (.ref 422) 722 226 723))::
(nat_lit 424,(F (inClass (top 64) 3) "like" "Plain.like" none .none .none (.ref 423) .none (st "sampleyard.things" 643) .none))::
(nat_lit 426,(D [(en P "__module__" 688 (st "sampleyard.things" 643)),(en P "__firstlineno__" 692 (.int (213) 691)),(en P "__init__" 701 (.ref 403)),(en P "word" 708 (.ref 410)),(en P "colour_at" 716 (.ref 417)),(en P "like" 724 (.ref 424)),(en P "__static_attributes__" 726 (.ref 425)),(en P "__doc__" 727 .none)] 2))::
(nat_lit 427,(L "Plain" [(.ref 385)] [(.ref 427),(.ref 385),(.type "object")] 426 [] #[(some (.ref 390)),none,(some (st "Plain" 681)),(some (st "Plain" 689)),(some (.builtin "object.__new__")),(some (.bool true))]))::
(nat_lit 430,(T #[(.ref 385)]))::
(nat_lit 442,(C "__init__" 742 "Shaded.__init__" 743 744 230 2 0 0 3 (.ref 437) true 181 (.ref 438) .none (.ref 439) (.ref 440) (.ref 441) 747 230 748))::
(nat_lit 443,(F (inClass (top 65) 0) "__init__" "Shaded.__init__" none .none .none (.ref 442) .none (st "sampleyard.things" 643) .none))::
(nat_lit 449,(C "word" 750 "Shaded.word" 751 752 234 1 0 0 3 (.ref 444) true 181 (.ref 445) .none (.ref 446) (.ref 447) (.ref 448) 754 234 755))::
(nat_lit 450,(F (inClass (top 65) 1) "word" "Shaded.word" none .none .none (.ref 449) .none (st "sampleyard.things" 643) .none))::
(nat_lit 456,(C "colour_at" 757 "Shaded.colour_at" 758 759 237 2 0 0 3 (.ref 451) true 181 (.ref 452) .none (.ref 453) (.ref 454) (.ref 455) 762 237 763))::
(nat_lit 457,(F (inClass (top 65) 2) "colour_at" "Shaded.colour_at" none .none .none (.ref 456) .none (st "sampleyard.things" 643) .none))::
(nat_lit 463,(C "like" 765 "Shaded.like" 766 767 240 2 0 0 3 (.ref 458) true 181 (.ref 459) .none (.ref 460) (.ref 461) (.ref 462) 770 240 771))::
(nat_lit 464,(F (inClass (top 65) 3) "like" "Shaded.like" none .none .none (.ref 463) .none (st "sampleyard.things" 643) .none))::
(nat_lit 466,(D [(en P "__module__" 737 (st "sampleyard.things" 643)),(en P "__firstlineno__" 741 (.int (228) 740)),(en P "__init__" 749 (.ref 443)),(en P "word" 756 (.ref 450)),(en P "colour_at" 764 (.ref 457)),(en P "like" 772 (.ref 464)),(en P "__static_attributes__" 773 (.ref 465)),(en P "__doc__" 774 .none)] 2))::
(nat_lit 467,(L "Shaded" [(.ref 385)] [(.ref 467),(.ref 385),(.type "object")] 466 [] #[(some (.ref 430)),none,(some (st "Shaded" 730)),(some (st "Shaded" 738)),(some (.builtin "object.__new__")),(some (.bool true))]))::
(nat_lit 470,(T #[(.ref 385)]))::
(nat_lit 482,(C "__init__" 789 "Patterned.__init__" 790 791 244 3 0 0 3 (.ref 477) true 181 (.ref 478) .none (.ref 479) (.ref 480) (.ref 481) 795 244 796))::
(nat_lit 483,(F (inClass (top 66) 0) "__init__" "Patterned.__init__" none .none .none (.ref 482) .none (st "sampleyard.things" 643) .none))::
(nat_lit 489,(C "word" 798 "Patterned.word" 799 800 250 1 0 0 3 (.ref 484) true 181 (.ref 485) .none (.ref 486) (.ref 487) (.ref 488) 802 250 803))::
(nat_lit 490,(F (inClass (top 66) 1) "word" "Patterned.word" none .none .none (.ref 489) .none (st "sampleyard.things" 643) .none))::
(nat_lit 496,(C "colour_at" 805 "Patterned.colour_at" 806 807 253 2 0 0 3 (.ref 491) true 181 (.ref 492) .none (.ref 493) (.ref 494) (.ref 495) 810 253 811))::
(nat_lit 497,(F (inClass (top 66) 2) "colour_at" "Patterned.colour_at" none .none .none (.ref 496) .none (st "sampleyard.things" 643) .none))::
(nat_lit 503,(C "like" 813 "Patterned.like" 814 815 256 2 0 0 3 (.ref 498) true 181 (.ref 499) .none (.ref 500) (.ref 501) (.ref 502) 818 256 819))::
(nat_lit 504,(F (inClass (top 66) 3) "like" "Patterned.like" none .none .none (.ref 503) .none (st "sampleyard.things" 643) .none))::
(nat_lit 506,(D [(en P "__module__" 784 (st "sampleyard.things" 643)),(en P "__firstlineno__" 788 (.int (242) 787)),(en P "__init__" 797 (.ref 483)),(en P "word" 804 (.ref 490)),(en P "colour_at" 812 (.ref 497)),(en P "like" 820 (.ref 504)),(en P "__static_attributes__" 822 (.ref 505)),(en P "__doc__" 823 .none)] 2))::
(nat_lit 507,(L "Patterned" [(.ref 385)] [(.ref 507),(.ref 385),(.type "object")] 506 [] #[(some (.ref 470)),none,(some (st "Patterned" 777)),(some (st "Patterned" 785)),(some (.builtin "object.__new__")),(some (.bool true))]))::
(nat_lit 510,(T #[(.ref 385)]))::
(nat_lit 522,(C "__init__" 838 "Glass.__init__" 839 840 260 4 0 0 3 (.ref 517) true 181 (.ref 518) .none (.ref 519) (.ref 520) (.ref 521) 845 260 846))::
(nat_lit 523,(F (inClass (top 67) 0) "__init__" "Glass.__init__" none .none .none (.ref 522) .none (st "sampleyard.things" 643) .none))::
(nat_lit 529,(C "word" 848 "Glass.word" 849 850 267 1 0 0 3 (.ref 524) true 181 (.ref 525) .none (.ref 526) (.ref 527) (.ref 528) 852 267 853))::
(nat_lit 530,(F (inClass (top 67) 1) "word" "Glass.word" none .none .none (.ref 529) .none (st "sampleyard.things" 643) .none))::
(nat_lit 536,(C "is_glass" 855 "Glass.is_glass" 856 857 270 1 0 0 3 (.ref 531) true 181 (.ref 532) .none (.ref 533) (.ref 534) (.ref 535) 859 270 860))::
(nat_lit 537,(F (inClass (top 67) 2) "is_glass" "Glass.is_glass" none .none .none (.ref 536) .none (st "sampleyard.things" 643) .none))::
(nat_lit 543,(C "colour_at" 862 "Glass.colour_at" 863 864 273 2 0 0 3 (.ref 538) true 181 (.ref 539) .none (.ref 540) (.ref 541) (.ref 542) 867 273 868))::
(nat_lit 544,(F (inClass (top 67) 3) "colour_at" "Glass.colour_at" none .none .none (.ref 543) .none (st "sampleyard.things" 643) .none))::
(nat_lit 550,(C "like" 870 "Glass.like" 871 872 276 2 0 0 3 (.ref 545) true 181 (.ref 546) .none (.ref 547) (.ref 548) (.ref 549) 875 276 876))::
(nat_lit 551,(F (inClass (top 67) 4) "like" "Glass.like" none .none .none (.ref 550) .none (st "sampleyard.things" 643) .none))::
(nat_lit 553,(D [(en P "__module__" 833 (st "sampleyard.things" 643)),(en P "__firstlineno__" 837 (.int (258) 836)),(en P "__init__" 847 (.ref 523)),(en P "word" 854 (.ref 530)),(en P "is_glass" 861 (.ref 537)),(en P "colour_at" 869 (.ref 544)),(en P "like" 877 (.ref 551)),(en P "__static_attributes__" 880 (.ref 552)),(en P "__doc__" 881 .none)] 2))::
(nat_lit 554,(L "Glass" [(.ref 385)] [(.ref 554),(.ref 385),(.type "object")] 553 [] #[(some (.ref 510)),none,(some (st "Glass" 826)),(some (st "Glass" 834)),(some (.builtin "object.__new__")),(some (.bool true))]))::
(nat_lit 562,(B "check_values" 884 885 886 278 2 557 558 559 560 561 889 890))::
(nat_lit 563,(G 68 "check_values" 562 "sampleyard.things" 643))::
(nat_lit 569,(B "check_colour" 892 893 894 281 1 564 565 566 567 568 896 897))::
(nat_lit 570,(G 69 "check_colour" 569 "sampleyard.things" 643))::
(nat_lit 576,(B "check_part" 899 900 901 284 1 571 572 573 574 575 903 904))::
(nat_lit 577,(G 70 "check_part" 576 "sampleyard.things" 643))::
(nat_lit 583,(B "_law_cell_at" 908 909 910 288 2 578 579 580 581 582 913 914))::
(nat_lit 584,(G 72 "_law_cell_at" 583 "law_sampleyard_k54_pictures" 906))::
(nat_lit 590,(B "_law_mixed" 916 917 918 292 2 585 586 587 588 589 922 923))::
(nat_lit 591,(G 73 "_law_mixed" 590 "law_sampleyard_k54_pictures" 906))::
(nat_lit 595,(E "_law_draws" 925 926 927 298 2 592 593 594 928 929))::
(nat_lit 596,(G 74 "_law_draws" 595 "law_sampleyard_k54_pictures" 906))::
(nat_lit 600,(E "_law_corner" 931 932 933 300 2 597 598 599 934 935))::
(nat_lit 601,(G 75 "_law_corner" 600 "law_sampleyard_k54_pictures" 906))::
(nat_lit 605,(E "_law_triangles" 937 938 939 319 4 602 603 604 940 941))::
(nat_lit 606,(G 76 "_law_triangles" 605 "law_sampleyard_k54_pictures" 906))::
(nat_lit 612,(B "_law_pattern" 943 944 945 332 2 607 608 609 610 611 955 956))::
(nat_lit 613,(G 77 "_law_pattern" 612 "law_sampleyard_k54_pictures" 906))::
(nat_lit 617,(E "_law_thing" 958 959 960 343 2 614 615 616 961 962))::
(nat_lit 618,(G 78 "_law_thing" 617 "law_sampleyard_k54_pictures" 906))::
(nat_lit 624,(B "_law_things" 964 965 966 357 3 619 620 621 622 623 975 976))::
(nat_lit 625,(G 79 "_law_things" 624 "law_sampleyard_k54_pictures" 906))::
(nat_lit 631,(B "_law_spots" 978 979 980 364 1 626 627 628 629 630 986 987))::
(nat_lit 632,(G 80 "_law_spots" 631 "law_sampleyard_k54_pictures" 906))::
(nat_lit 638,(B "_law_mean" 989 990 991 374 1 633 634 635 636 637 996 997))::
(nat_lit 639,(G 81 "_law_mean" 638 "law_sampleyard_k54_pictures" 906))::
(nat_lit 643,(E "_law_due" 999 1000 1001 381 5 640 641 642 1002 1003))::
(nat_lit 644,(G 82 "_law_due" 643 "law_sampleyard_k54_pictures" 906))::
(nat_lit 650,(B "_law_painted" 1005 1006 1007 390 6 645 646 647 648 649 1014 1015))::
(nat_lit 651,(G 83 "_law_painted" 650 "law_sampleyard_k54_pictures" 906))::
(nat_lit 657,(B "law" 1017 1018 1019 396 1 652 653 654 655 656 1034 1035))::
(nat_lit 658,(G 84 "law" 657 "law_sampleyard_k54_pictures" 906))::
[]
abbrev addrs:List Addr:=[2,3,20,21,22,30,31,32,35,43,44,47,55,56,59,67,68,71,79,80,88,89,95,96,102,103,109,110,116,117,123,124,130,131,137,138,144,145,151,152,158,159,165,166,172,173,179,180,186,187,193,194,200,201,207,208,214,215,219,220,224,225,231,232,238,239,243,244,250,251,257,258,264,265,271,272,278,279,285,286,292,293,297,298,304,305,306,310,311,315,316,320,321,325,326,332,333,337,338,342,343,344,348,349,353,354,360,361,374,375,381,382,384,385,386,387,390,402,403,409,410,416,417,423,424,426,427,430,442,443,449,450,456,457,463,464,466,467,470,482,483,489,490,496,497,503,504,506,507,510,522,523,529,530,536,537,543,544,550,551,553,554,562,563,569,570,576,577,583,584,590,591,595,596,600,601,605,606,612,613,617,618,624,625,631,632,638,639,643,644,650,651,657,658]
abbrev most:Nat:=9344
theorem Zdv(P:Params):addrs=(heap P).map (·.1):=rfl
abbrev hook:Hook:=kHook heap addrs Zdv
end Hd
namespace Hd
open PySem PySem.W PyProof.Rows
def ZfA(tb:String→Option Builtin)(p:Program)(w:World)(n₀:Nat)(ann:Option Value):Nat→SharedT→Thread→Option SharedT
 | 0,_,_=>none
 | n+1,s,t=>match through t with
  | true=>some s
  | false=>match stepOk n₀ ann t with
   | false=>none
   | true=>match stepT (denote tb) p w s t with
    | some (s',t')=>ZfA tb p w n₀ ann n s' t'
    | none=>none
theorem ZgL{tb:String→Option Builtin}{p:Program}{w:World}{n₀:Nat}{ann:Option Value}:∀{n:Nat} {s s':SharedT} {t:Thread},ZfA tb p w n₀ ann n s t=some s'→topRun tb p w n₀ ann n s.abs t=some s'.abs
 | 0,_,_,_,h=>by cases h
 | n+1,s,s',t,h=>by
  unfold ZfA at h
  unfold topRun
  cases he:through t with
  | true=>rw [he] at h;cases h;rfl
  | false =>
   rw [he] at h
   cases hk:stepOk n₀ ann t with
   | false=>rw [hk] at h;cases h
   | true =>
    rw [hk] at h
    cases hs:stepT (denote tb) p w s t with
    | none=>rw [hs] at h;cases h
    | some r=>obtain ⟨s₂,t₂⟩:=r;rw [hs] at h;rw [stepT_spec hs];exact ZgL h
def Zg3(p:Program)(w:World)(n₀:Nat)(ann:Option Value):Nat→SharedT→Thread→Option SharedT
 | 0,_,_=>none
 | n+1,s,t=>match through t with
  | true=>some s
  | false=>match Fast.tw6613529449190102663 n₀ ann t with
   | false=>none
   | true=>match Fast.tw10156331382660048174 (Fast.tw11892475500146522536 Fast.tw14364793385576792824) p w s t with
    | some (s',t')=>Zg3 p w n₀ ann n s' t'
    | none=>none
theorem ZgG(p:Program)(w:World)(n₀:Nat)(ann:Option Value):∀(n:Nat) (s:SharedT) (t:Thread),ZfA treeTable p w n₀ ann n s t=Zg3 p w n₀ ann n s t
 | 0,_,_=>rfl
 | n+1,s,t=>by
  unfold ZfA Zg3
  rw [Fast.te6613529449190102663,Fast.te10156331382660048174,Fast.te11892475500146522536,Fast.te14364793385576792824]
  cases through t with
  | true=>rfl
  | false =>
   cases Fast.tw6613529449190102663 n₀ ann t with
   | false=>rfl
   | true =>
    cases Fast.tw10156331382660048174 (Fast.tw11892475500146522536 Fast.tw14364793385576792824) p w s t with
    | none=>rfl
    | some r =>
     obtain ⟨s',t'⟩:=r
     have:=ZgG p w n₀ ann n s' t'
     rw [Fast.te14364793385576792824] at this
     exact this
def ZjX(i:Nat)(t:BT):List Obj→BT
 | []=>t
 | o::r=>ZjX (i+1) (t.ins i o) r
def Zsq(w:World)(os:OsState):SharedT:=⟨ZjX 0 .nil (boot_heap w.params).objs.toList,(boot_heap w.params).objs.size,(boot_heap w.params).life,Array.mk [],boot_drawn,boot_toks,os⟩
theorem Zmv(w:World)(os:OsState):(Zsq w os).abs=⟨boot_heap w.params,Array.mk [],boot_drawn,boot_toks,os⟩:=by kernel_rfl
def obsT(as:List Addr)(s:SharedT):List (Option Obj):=as.map fun a=>match Nat.blt a s.n with
 | true=>alive ((s.tree.get a).getD default)
 | false=>none
theorem ZpH(as:List Addr)(s:SharedT):as.map s.abs.heap.get?=obsT as s:=by
 unfold obsT
 refine Vaa fun a _=>?_
 show (absHeap s.tree s.n s.life).get? a=_
 unfold Heap.get?
 rw [absHeap_at]
 by_cases h:a<s.n
 ·rw [if_pos h,show Nat.blt a s.n=true from Nat.ble_eq.mpr h]
  generalize (s.tree.get a).getD default=o
  obtain ⟨c,d,dt,sl⟩:=o
  cases dt<;>rfl
 ·rw [if_neg h,show Nat.blt a s.n=false from Vab.mpr fun z=>h (Nat.le_of_ble_eq_true z)]
theorem Zk3{p q:Program}{loose:List Str}{Xt:Shared→Bool}{α:Type}{Yf:Shared→α}{Yt:SharedT→α}{Ya:World→α}{N m₀:Nat}{ann:Option Value}{g0:Bool}(hY:∀s,Yf s.abs=Yt s)
  (e:opening p=plainProg p.main.scope.names) (hN:Nat.ble 600 N=true) (f:∀s,fenceModules? p s=some s)
  (hz:∀w:World,((boot_heap w.params).isNs mainGlobals,(boot_heap w.params).objs.size,(boot_heap w.params).nsMap mainGlobals "__annotations__")=(true,m₀,ann))
  (h:∀(w:World) (os:OsState),(Zg3 p w m₀ ann N (Zsq w os) (topStub p)).map (fun s=>((staticsOk (importedModules p.main.body) (boot_heap w.params) s.abs.heap&&namesBound p s.abs.heap&&gensDone s.abs&&laidKept (boot_heap w.params) s.abs.heap),Fast.tw4187177175401517315 q loose (importedModules p.main.body) Xt g0 s.abs,Yt s))=some (true,openGood q loose,Ya w)) :
  LeftO p q loose Xt Yf Ya N g0:=fun w=>by
 obtain ⟨s,hs,hv⟩:=Option.map_eq_some_iff.mp (boot_open e hN f w)
 unfold openEnds
 rw [hs]
 obtain ⟨hp,g,d,k,os⟩:=s
 obtain ⟨rfl,rfl,rfl,rfl⟩ : hp=boot_heap w.params∧g=Array.mk []∧d=boot_drawn∧k=boot_toks:=by simpa using hv
 obtain ⟨s₁,h1,h2⟩:=Option.map_eq_some_iff.mp (h w os)
 rw [←ZgG] at h1
 rw [←Fast.te4187177175401517315] at h2
 have r:=ZgL h1
 rw [Zmv] at r
 obtain ⟨z1,z2,z3⟩ : _∧_∧_:=by simpa only [Prod.mk.injEq] using hz w
 obtain ⟨l1,l2,l3⟩ : _∧_∧_:=by simpa only [Prod.mk.injEq] using h2
 show (topFrom treeTable p w N ⟨boot_heap w.params,Array.mk [],boot_drawn,boot_toks,os⟩).map _=_
 unfold topFrom
 dsimp only
 rw [z1]
 show (((topRun treeTable p w (boot_heap w.params).objs.size ((boot_heap w.params).nsMap mainGlobals "__annotations__") N ⟨boot_heap w.params,Array.mk [],boot_drawn,boot_toks,os⟩ (topStub p)).bind fun s₁=>match staticsOk (importedModules p.main.body) (boot_heap w.params) s₁.heap&&namesBound p s₁.heap&&gensDone s₁&&laidKept (boot_heap w.params) s₁.heap with
   | true=>some s₁
   | false=>none).map _)=_
 rw [z2,z3,r]
 show ((match staticsOk (importedModules p.main.body) (boot_heap w.params) s₁.abs.heap&&namesBound p s₁.abs.heap&&gensDone s₁.abs&&laidKept (boot_heap w.params) s₁.abs.heap with
   | true=>some s₁.abs
   | false=>none).map _)=_
 rw [l1]
 show some (openSeen q loose (importedModules p.main.body) Xt g0 s₁.abs,Yf s₁.abs)=_
 rw [l2,hY,l3]
set_option maxRecDepth 100000 in
set_option maxHeartbeats 0 in
theorem left:LeftO PySem.Challenge.pw_sampleyard_k54_pictures view ["paint"] (fun s=>xlAt view [] s&&recOk (RowW.records PySem.Challenge.rw_sampleyard_k54_pictures.row.toRowW) s) (Hook.obs hook) (Hook.val hook) most :=
 Zk3 (ZpH addrs) (by kernel_rfl) (by decide) (fun s=>by kernel_rfl) (m₀:=11) (ann:=some (.ref 6)) (fun w=>by kernel_rfl) (fun w os=>by kernel_rfl)
end Hd
namespace L2
open PySem PySem.Spec PyProof.Rows
abbrev Key:=Sum Int Str
def Zra:Key→Value→Bool
 | .inl k,v=>Value.isInt k v
 | .inr x,v=>Value.isStrOf x v
def keyH(w:World):Key→Int
 | .inl k=>hashInt k
 | .inr x=>hashStr w x
theorem ZaQ:∀{k:Key} {v:Value},Zra k v=true→(∃i t,k=Sum.inl i∧v=Value.int i t)∨(∃x t,k=Sum.inr x∧v=Value.str x t)
 | .inl i,v,h=>by
  obtain ⟨t,e⟩:=Value.isInt_shape (k:=i) (v:=v) h
  exact .inl ⟨i,t,rfl,e⟩
 | .inr x,v,h=>by
  obtain ⟨t,e⟩:=Value.isStrOf_shape (x:=x) (v:=v) h
  exact .inr ⟨x,t,rfl,e⟩
theorem ZsU(a b:Int):decide ((Sum.inl a:Key)=Sum.inl b)=(a==b):=by
 by_cases e:a=b
 ·subst e;simp
 ·have h:¬(Sum.inl a:Key)=Sum.inl b:=fun q=>e (Sum.inl.inj q)
  rw [Vac h]
  exact (Vad.mpr e).symm
theorem Zti(a b:Str):decide ((Sum.inr a:Key)=Sum.inr b)=decide (a=b):=by
 by_cases e:a=b
 ·subst e;simp
 ·have h:¬(Sum.inr a:Key)=Sum.inr b:=fun q=>e (Sum.inr.inj q)
  rw [Vac h,Vac e]
theorem Zsh(a:Int)(b:Str):decide ((Sum.inl a:Key)=Sum.inr b)=false:=Vac (fun q=>nomatch q)
theorem Zty(a:Str)(b:Int):decide ((Sum.inr a:Key)=Sum.inl b)=false:=Vac (fun q=>nomatch q)
def Zl2(prog:Program)(w:World):PySem.KeyKind prog w Key where
 is:=Zra
 hash:=keyH w
 inj:=fun v a b ha hb=>by
  rcases ZaQ ha with ⟨i,t,rfl,rfl⟩ | ⟨x,t,rfl,rfl⟩
  ·rcases ZaQ hb with ⟨j,u,rfl,e⟩ | ⟨y,u,rfl,e⟩
   ·injection e with e1 _;rw [e1]
   ·exact nomatch e
  ·rcases ZaQ hb with ⟨j,u,rfl,e⟩ | ⟨y,u,rfl,e⟩
   ·exact nomatch e
   ·injection e with e1 _;rw [e1]
 byValue:=fun k v h=>by
  rcases ZaQ h with ⟨i,t,rfl,rfl⟩ | ⟨x,t,rfl,rfl⟩<;>rfl
 pyHash:=fun hv h=>by
  rcases ZaQ hv with ⟨i,t,rfl,rfl⟩ | ⟨x,t,rfl,rfl⟩
  ·exact wpAny_pyHash_int h
  ·exact wpAny_pyHash_str h
 eqBool:=fun hu hv h=>by
  rcases ZaQ hu with ⟨i,t,rfl,rfl⟩ | ⟨x,t,rfl,rfl⟩
  ·rcases ZaQ hv with ⟨j,u,rfl,rfl⟩ | ⟨y,u,rfl,rfl⟩
   ·rw [ZsU] at h;exact wpAny_eqBool_int h
   ·rw [Zsh] at h;exact SeqAt.EqAt.int_str i t y u _ _ _ _ h
  ·rcases ZaQ hv with ⟨j,u,rfl,rfl⟩ | ⟨y,u,rfl,rfl⟩
   ·rw [Zty] at h;exact SeqAt.EqAt.str_int x t j u _ _ _ _ h
   ·rw [Zti] at h;exact wpAny_eqBool_str h
 «strs»:=fun k x t v h=>by
  rcases ZaQ h with ⟨i,u,rfl,e⟩ | ⟨y,u,rfl,e⟩
  ·exact nomatch e
  ·injection e with e1 _
   subst e1
   cases v<;>rfl
inductive V where
 | non | bl (b:Bool) | int (i:Int) | str (x:Str) | byt (b:Array UInt8) | flt (b:UInt64) | ref (a:Addr) | ty (n:String)
 deriving DecidableEq
def RelV:V→Value→Prop
 | .non,u=>u=Value.none
 | .bl b,u=>u=Value.bool b
 | .int i,u=>∃t,u=Value.int i t
 | .str x,u=>∃t,u=Value.str x t
 | .byt b,u=>∃t,u=Value.bytes b t
 | .flt b,u=>∃t,u=Value.float b t
 | .ref a,u=>u=Value.ref a
 | .ty n,u=>u=Value.type n
abbrev Vals:List V→List Value→Prop:=Paired RelV
theorem Vals.length{xs:List V}{us:List Value}(r:Vals xs us):xs.length=us.length:=Paired.length r
theorem Vals.get:∀{xs:List V} {us:List Value} {i:Nat} {x:V},Vals xs us→xs[i]?=some x→∃u,us[i]?=some u∧RelV x u
 | _,_,_,_,.nil,e=>by simp at e
 | _,_,0,_,.cons r _,e=>by simp at e;subst e;exact ⟨_,rfl,r⟩
 | _,_,i+1,x,.cons _ t,e=>by
  obtain ⟨u,h1,h2⟩:=Vals.get (i:=i) (x:=x) t (by simpa using e)
  exact ⟨u,by simpa using h1,h2⟩
theorem Vals.append:∀{xs ys:List V} {us ws:List Value},Vals xs us→Vals ys ws→Vals (xs++ys) (us++ws)
 | _,_,_,_,.nil,s=>s
 | _,_,_,_,.cons r t,s=>.cons r (Vals.append t s)
theorem Vals.take:∀{xs:List V} {us:List Value} (n:Nat),Vals xs us→Vals (xs.take n) (us.take n)
 | _,_,0,_=>.nil
 | _,_,_+1,.nil=>.nil
 | _,_,n+1,.cons r t=>.cons r (Vals.take n t)
theorem Vals.drop:∀{xs:List V} {us:List Value} (n:Nat),Vals xs us→Vals (xs.drop n) (us.drop n)
 | _,_,0,r=>r
 | _,_,_+1,.nil=>.nil
 | _,_,n+1,.cons _ t=>Vals.drop n t
def RelO:Option V→Option Value→Prop
 | some v,some u=>RelV v u
 | none,none=>True
 | _,_=>False
def KV{κ:Type}:List (κ×V)→List (κ×Value)→Prop:=Paired fun (p:κ×V) (q:κ×Value)=>p.1=q.1∧RelV p.2 q.2
def kV:Key→V
 | .inl i=>.int i
 | .inr x=>.str x
inductive HO where
 | lst (xs:List V)
 | tup (xs:List V)
 | dK (kvs:List (Key×V)) | dT (kvs:List (List Key×V))
 | set (S:Int→Bool) (n:Nat)
 | ins (C dx:Addr) (fs:List (Str×V))
 | own (x:Addr)
 | xd (fs:List (Str×V))
 | met (f x:Addr)
 | rng (lo hi:Int)
 | frz (o:Obj) (u:HO)
 | tbl (ps:Array Value)
 | ext (φ:Heap→Prop)
abbrev Hp:=Addr→Option HO
def upd(H:Hp)(a:Addr)(o:HO):Hp:=fun b=>if b=a then some o else H b
theorem Zag{H:Hp}{a:Addr}{o:HO}:upd H a o a=some o:=by unfold upd;rw [if_pos rfl]
theorem Zaf{H:Hp}{a b:Addr}{o:HO}(h:b≠a):upd H a o b=H b:=by unfold upd;rw [if_neg h]
theorem Zae{H:Hp}{a b:Addr}{o:HO}(h:H a=some o)(h':H b=none):a≠b:=by
 intro e;subst e;rw [h] at h';cases h'
section
variable(P:Program)(w:World)
def ZbX(H:Hp)(h:Heap)(a:Addr):HO→Prop
 | .lst xs=>xs.length≤sizeLine∧∃(its:List Value) (n:Nat),Vals xs its∧h.get? a=some { cls:=.type "list", data:=.seq its.toArray n }
 | .tup xs=>xs.length≤sizeLine∧∃its:List Value,Vals xs its∧IsTup h a its.toArray
 | .dK kvs=>kvs.length≤sizeLine∧(a==sysModules)=false∧∃vs,KV kvs vs∧h.DictOf (Zl2 P w) a vs
 | .dT kvs=>kvs.length≤sizeLine∧(a==sysModules)=false∧∃xs:List (List Key×Addr×Value),
   Paired (fun (p:List Key×V) (q:List Key×Addr×Value)=>p.1=q.1∧H q.2.1=some (.tup (p.1.map kV))∧RelV p.2 q.2.2) kvs xs ∧
   ∃o es ep,h.get? a=some o∧o.ExactDict∧o.data=.dict es ep∧es.toList=xs.map (entryOfKey (tupleKind (Zl2 P w)))∧(xs.map (·.1)).Nodup
 | .set S n=>h.SetOf (intKind P w) a S n
 | .ins C dx fs=>H dx=some (.own a)∧fs.length≤1000∧dx≠a∧h.get? a=some (W.instObj C dx) ∧
   ∃mA,h.Ns1 dx mA∧(∀f,RelO (fs.lookup f) (mA f))∧PySem.Within mA (fs.map (·.1))
 | .own _=>∃o,h.get? a=some o
 | .xd fs=>∃mA,h.Ns1 a mA∧∀f,RelO (fs.lookup f) (mA f)
 | .rng lo hi=>∃t u v,h.get? a=some { cls:=.type "range", data:=.fields #[.int lo t,.int hi u,.int 1 v] }
 | .frz o u=>h.get? a=some o∧ZbX H h a u
 | .tbl ps=>h.get? a=some { cls:=.none,data:=.fields ps }
 | .met f x=>h.get? a=some (W.methodObj (.ref f) (.ref x))
 | .ext φ=>φ h∧(∃o,h.get? a=some o)∧∀h1 h2:Heap,φ h1→(∀o,h1.get? a=some o→h2.get? a=some o)→φ h2
def HOk(H:Hp)(h:Heap):Prop:=∀a o,H a=some o→ZbX P w H h a o
end
section
variable{P:Program}{w:World}{H H':Hp}{h h':Heap}{a:Addr}{o:HO}
theorem ZbX.lt(x:ZbX P w H h a o):a<h.objs.size:=by
 cases o with
 | lst xs=>obtain ⟨_,_,_,_,e⟩:=x;exact Vae e
 | tup xs=>obtain ⟨_,_,_,p⟩:=x;exact p.lt
 | dK kvs=>obtain ⟨_,_,_,_,o,_,_,e,_⟩:=x;exact Vae e
 | dT kvs=>obtain ⟨_,_,_,_,o,_,_,e,_⟩:=x;exact Vae e
 | set S n=>obtain ⟨o,_,_,_,e,_⟩:=x;exact Vae e
 | ins C dx fs=>obtain ⟨_,_,_,e,_⟩:=x;exact Vae e
 | own y=>obtain ⟨_,e⟩:=x;exact Vae e
 | xd fs=>obtain ⟨_,⟨_,_,_,e,_⟩,_⟩:=x;exact Vae e
 | rng lo hi=>obtain ⟨_,_,_,e⟩:=x;exact Vae e
 | frz ob u=>obtain ⟨e,_⟩:=x;exact Vae e
 | tbl ps=>exact Vae (show h.get? a=some _ from x)
 | met f y=>exact Vae (show h.get? a=some _ from x)
 | ext φ=>obtain ⟨_,⟨_,e⟩,_⟩:=x;exact Vae e
theorem Paired.mapP{α β:Type}{F G:α→β→Prop}:∀{l₁:List α} {l₂:List β},Paired F l₁ l₂→(∀a b,F a b→G a b)→Paired G l₁ l₂
 | _,_,.nil,_=>.nil
 | _,_,.cons r t,f=>.cons (f _ _ r) (Paired.mapP t f)
theorem ZbX.stay(x:ZbX P w H h a o)(k:∀b u,(b=a∨H b=some (.own a))→h.get? b=some u→h'.get? b=some u)
  (ho:∀b,H b=some (.own a)→H' b=some (.own a)) (ht:∀b xs,H b=some (.tup xs)→H' b=some (.tup xs)):ZbX P w H' h' a o:=by
 induction o with
 | lst xs=>obtain ⟨z,its,n,r,e⟩:=x;exact ⟨z,its,n,r,k _ _ (.inl rfl) e⟩
 | tup xs=>obtain ⟨z,its,r,ob,e,c⟩:=x;exact ⟨z,its,r,ob,k _ _ (.inl rfl) e,c⟩
 | dK kvs=>obtain ⟨z,y,vs,r,ob,es,ep,e,c⟩:=x;exact ⟨z,y,vs,r,ob,es,ep,k _ _ (.inl rfl) e,c⟩
 | dT kvs =>
  obtain ⟨z,y,xs,r,ob,es,ep,e,c⟩:=x
  exact ⟨z,y,xs,Paired.mapP r fun p q z=>⟨z.1,ht _ _ z.2.1,z.2.2⟩,ob,es,ep,k _ _ (.inl rfl) e,c⟩
 | set S n=>obtain ⟨ob,es,ep,t,e,c⟩:=x;exact ⟨ob,es,ep,t,k _ _ (.inl rfl) e,c⟩
 | ins C dx fs =>
  obtain ⟨d,z,ne,e,mA,⟨od,es,ep,e2,c⟩,r⟩:=x
  exact ⟨ho _ d,z,ne,k _ _ (.inl rfl) e,mA,⟨od,es,ep,k _ _ (.inr d) e2,c⟩,r⟩
 | own y=>obtain ⟨ob,e⟩:=x;exact ⟨ob,k _ _ (.inl rfl) e⟩
 | xd fs=>obtain ⟨mA,⟨od,es,ep,e,c⟩,r⟩:=x;exact ⟨mA,⟨od,es,ep,k _ _ (.inl rfl) e,c⟩,r⟩
 | rng lo hi=>obtain ⟨t,u,v,e⟩:=x;exact ⟨t,u,v,k _ _ (.inl rfl) e⟩
 | frz ob u ih=>obtain ⟨e,q⟩:=x;exact ⟨k _ _ (.inl rfl) e,ih q⟩
 | tbl ps =>
  have e:h.get? a=some { cls:=.none,data:=.fields ps }:=x
  show h'.get? a=some { cls:=.none,data:=.fields ps }
  exact k a _ (.inl rfl) e
 | met f y =>
  have e:h.get? a=some (W.methodObj (.ref f) (.ref y)):=x
  show h'.get? a=some (W.methodObj (.ref f) (.ref y))
  exact k a _ (.inl rfl) e
 | ext φ=>obtain ⟨p,⟨o,e⟩,st⟩:=x;exact ⟨st _ _ p fun o q=>k _ _ (.inl rfl) q,⟨o,k _ _ (.inl rfl) e⟩,st⟩
theorem HOk.lt(x:HOk P w H h)(e:H a=some o):a<h.objs.size:=(x a o e).lt
theorem HOk.fresh(x:HOk P w H h)(e:h.objs.size≤a):H a=none:=by
 cases q:H a with
 | none=>rfl
 | some u=>exact absurd (Vaf (x.lt q) e) (Vag _)
theorem HOk.kept(x:HOk P w H h)(k:∀b u,h.get? b=some u→h'.get? b=some u):HOk P w H h':=fun a o e =>
 (x a o e).stay (fun b u _ q=>k b u q) (fun _ q=>q) fun _ _ q=>q
theorem HOk.laid(x:HOk P w H h)(k:∀b u,h.get? b=some u→h'.get? b=some u)(hp:h.objs.size≤a)(new:ZbX P w (upd H a o) h' a o):HOk P w (upd H a o) h':=fun b u e=>by
 have hn:=x.fresh hp
 by_cases hb:b=a
 ·subst hb;rw [Zag] at e;cases e;exact new
 ·rw [Zaf hb] at e
  exact (x b u e).stay (fun c v _ q=>k c v q) (fun c q=>by rw [Zaf (Zae q hn)];exact q) fun c xs q=>by rw [Zaf (Zae q hn)];exact q
end
def Rd(H:Hp)(a:Addr)(u:HO):Prop:=H a=some u∨∃o,H a=some (.frz o u)
theorem Rd.ok{P:Program}{w:World}{H:Hp}{h:Heap}{a:Addr}{u:HO}(r:Rd H a u)(x:HOk P w H h):ZbX P w H h a u:=by
 rcases r with r | ⟨o,r⟩
 ·exact x a u r
 ·obtain ⟨_,q⟩:=x a _ r
  exact q
def Mut:Option HO→Prop
 | some (.lst _)=>True
 | some (.dK _)=>True
 | some (.dT _)=>True
 | some (.set _ _)=>True
 | some (.ins _ _ _)=>True
 | some (.ext _)=>True
 | _=>False
section
variable{P:Program}{w:World}{H:Hp}{h h':Heap}{x e:Addr}{o':HO}
theorem HOk.write(ok:HOk P w H h)(mu:Mut (H x))(he:e=x∨H e=some (.own x))(k:∀b u,b≠e→h.get? b=some u→h'.get? b=some u)(heo:∃u,h'.get? e=some u)
  (new:ZbX P w (upd H x o') h' x o'):HOk P w (upd H x o') h':=fun b u q=>by
 have nown:∀c y,H c=some (.own y)→c≠x:=fun c y r z=>by subst z;rw [r] at mu;exact mu
 have ntup:∀c xs,H c=some (.tup xs)→c≠x:=fun c xs r z=>by subst z;rw [r] at mu;exact mu
 by_cases hb:b=x
 ·subst hb;rw [Zag] at q;cases q;exact new
 ·rw [Zaf hb] at q
  by_cases hbe:b=e
  ·have q':H b=some (.own x):=by
    rcases he with z | z
    ·exact absurd (hbe.trans z) hb
    ·rw [hbe];exact z
   rw [q] at q';cases q'
   obtain ⟨v,hv⟩:=heo
   exact ⟨v,by rw [hbe];exact hv⟩
  ·refine (ok b u q).stay (fun c v hc r=>k c v ?_ r) (fun c r=>by rw [Zaf (nown c b r)];exact r) fun c xs r=>by rw [Zaf (ntup c xs r)];exact r
   rcases hc with rfl | hc
   ·exact hbe
   ·rintro rfl
    rcases he with z | z
    ·exact nown c b hc z
    ·rw [hc] at z;cases z;exact hb rfl
end
structure Un(fs ex:List Addr)(H H':Hp)(h h':Heap):Prop where
 keep:∀b o,h.get? b=some o→H b=none→b∉fs→b∉ex→h'.get? b=some o
 slot:∀b o,h.get? b=some o→H b=none→b∈fs→b∉ex→∃sl,h'.get? b=some { o with slots:=sl }
 free:∀b o,h.get? b=some o→H b=none→b∉ex→H' b=none
 there:∀b o,h.get? b=some o→b∉ex→∃o',h'.get? b=some o'
 tups:∀b xs,H b=some (.tup xs)→H' b=some (.tup xs)
 frzs:∀b o u,H b=some (.frz o u)→H' b=some (.frz o u)
 tbls:∀b ps,H b=some (.tbl ps)→∃more,H' b=some (.tbl (ps++more))
section
variable{fs fs' ex ex':List Addr}{H H1 H2:Hp}{h h1 h2 h':Heap}{a x e:Addr}{o:HO}
theorem Un.any(u:Un fs ex H H1 h h1){b:Addr}{ob:Obj}(q:h.get? b=some ob)(n:H b=none)(hx:b∉ex):∃sl,h1.get? b=some { ob with slots:=sl }:=by
 by_cases hb:b∈fs
 ·exact u.slot b ob q n hb hx
 ·exact ⟨ob.slots,u.keep b ob q n hb hx⟩
theorem Un.trans(a:Un fs ex H H1 h h1)(b:Un fs ex H1 H2 h1 h2):Un fs ex H H2 h h2 where
 keep:=fun c ob q n hc hx=>b.keep c ob (a.keep c ob q n hc hx) (a.free c ob q n hx) hc hx
 slot:=fun c ob q n hc hx=>by
  obtain ⟨sl,e1⟩:=a.slot c ob q n hc hx
  obtain ⟨sl',e2⟩:=b.slot c _ e1 (a.free c ob q n hx) hc hx
  exact ⟨sl',e2⟩
 free:=fun c ob q n hx=>by
  obtain ⟨o',e1⟩:=a.there c ob q hx
  exact b.free c o' e1 (a.free c ob q n hx) hx
 there:=fun c ob q hx=>by
  obtain ⟨o',e1⟩:=a.there c ob q hx
  exact b.there c o' e1 hx
 tups:=fun c xs q=>b.tups c xs (a.tups c xs q)
 frzs:=fun c ob xs q=>b.frzs c ob xs (a.frzs c ob xs q)
 tbls:=fun c ps q=>by
  obtain ⟨m1,e1⟩:=a.tbls c ps q
  obtain ⟨m2,e2⟩:=b.tbls c _ e1
  exact ⟨m1++m2,by rw [e2,Array.append_assoc]⟩
theorem Un.kept(k:∀b u,h.get? b=some u→h'.get? b=some u):Un fs ex H H h h' :=
 ⟨fun b ob q _ _ _=>k b ob q,fun b ob q _ _ _=>⟨ob.slots,k b ob q⟩,fun _ _ _ n _=>n,fun b ob q _=>⟨ob,k b ob q⟩,fun _ _ q=>q,fun _ _ _ q=>q,fun _ ps q=>⟨#[],by rw [q];simp⟩⟩
theorem Un.refl:Un fs ex H H h h:=Un.kept fun _ _ q=>q
theorem Un.laid(k:∀b u,h.get? b=some u→h'.get? b=some u)(hp:h.objs.size≤a)(hn:H a=none):Un fs ex H (upd H a o) h h' where
 keep:=fun b u q _ _ _=>k b u q
 slot:=fun b u q _ _ _=>⟨u.slots,k b u q⟩
 free:=fun b u q n _=>by rw [Zaf (Vah (Vaf (Vae q) hp))];exact n
 there:=fun b u q _=>⟨u,k b u q⟩
 tups:=fun b xs q=>by rw [Zaf (Zae q hn)];exact q
 frzs:=fun b u xs q=>by rw [Zaf (Zae q hn)];exact q
 tbls:=fun b ps q=>⟨#[],by rw [Zaf (Zae q hn),q];simp⟩
theorem Un.write(mu:Mut (H x))(he:e=x∨H e=some (.own x))(k:∀b u,b≠e→h.get? b=some u→h'.get? b=some u)(heo:∃u,h'.get? e=some u):Un fs ex H (upd H x o) h h':=by
 have hx:∀b,H b=none→b≠x:=fun b n z=>by subst z;rw [n] at mu;exact mu
 have hb:∀b,H b=none→b≠e:=fun b n z=>by
  subst z
  rcases he with r | r
  ·exact hx b n r
  ·rw [n] at r;cases r
 have hm:∀b u,H b=some u→¬Mut (some u)→b≠x:=fun b u q nm z=>by subst z;rw [q] at mu;exact nm mu
 refine ⟨fun b u q n _ _=>k b u (hb b n) q,fun b u q n _ _=>⟨u.slots,k b u (hb b n) q⟩,fun b u q n _=>by rw [Zaf (hx b n)];exact n,fun b u q _=>?_,
  fun b xs q=>by rw [Zaf (hm b _ q fun z=>z)];exact q,fun b u xs q=>by rw [Zaf (hm b _ q fun z=>z)];exact q,fun b ps q=>⟨#[],by rw [Zaf (hm b _ q fun z=>z),q];simp⟩⟩
 by_cases hbe:b=e
 ·subst hbe;exact heo
 ·exact ⟨u,k b u hbe q⟩
theorem Un.mono(u:Un fs ex H H1 h h1)(hs:∀b∈fs,b∈fs')(hx:∀b∈ex,b∈ex'):Un fs' ex' H H1 h h1 :=
 ⟨fun b ob q n hb he=>u.keep b ob q n (fun z=>hb (hs b z)) fun z=>he (hx b z),fun _ _ q n _ he=>u.any q n fun z=>he (hx _ z),fun b ob q n he=>u.free b ob q n fun z=>he (hx b z),fun b ob q he=>u.there b ob q fun z=>he (hx b z),u.tups,u.frzs,u.tbls⟩
end
def trk(h:Heap)(H:Hp):List Addr:=(List.range h.objs.size).filter fun a=>(H a).isSome
def hidT(h:Heap)(H:Hp):Heap:=W.hideAll h (trk h H)
theorem Zmn(h:Heap)(H:Hp):(hidT h H).objs.size=h.objs.size:=W.hideAll_size _ _
theorem Zn2{h:Heap}{H:Hp}{b:Addr}{o:Obj}(e:h.get? b=some o)(n:H b=none):(hidT h H).get? b=some o :=
 W.hideAll_get _ e fun hm=>by
  have q:(H b).isSome=true:=(Vai.mp hm).2
  rw [n] at q;simp at q
theorem Zo0{h:Heap}{H:Hp}{b:Addr}{o:Obj}(e:(hidT h H).get? b=some o):h.get? b=some o∧H b=none:=by
 have e':h.get? b=some o:=W.of_hideAll (trk h H) e
 refine ⟨e',?_⟩
 cases q:H b with
 | none=>rfl
 | some x =>
  have hm:b∈trk h H:=Vai.mpr ⟨Vaj.mpr (Vae e'),by simp [q]⟩
  have z:(hidT h H).get? b=none:=W.hideAll_none (trk h H) hm
  rw [z] at e;cases e
structure Mod(K:W.Frag)(mg:Str→Option Value)(base:Heap):Prop where
 kin:K.In base
 glob:base.Ns mainGlobals mg
 blt:∃mb,base.Ns builtinsNs mb∧∀x:Str,x ≠ "__name__"→mb x=bootBuiltins x
 nolimit:base.NoLimit
structure Cx where
 prog:Program
 w:World
 K:W.Frag
 mg:Str→Option Value
 base:Heap
 A:Around
 N:List Str
 s₀:Shared
 H₀:Hp
 env:Env
 outer:List Env
 stack:List Env
 ex:List Addr
 fn:Str→Bool
 calm:Bool
 pn:List (Addr×Obj)
 xe:Value→Shared→Prop
def frs(l:List Env):List Addr:=l.filterMap (·.frame)
abbrev Cx.fs(X:Cx):List Addr:=frs X.outer
def Vis(sc:Scope)(x:Str):Prop:=sc.names.lookup x=some .local∨sc.names.lookup x=some .cell∨sc.names.lookup x=some .free
def Loc(sc:Scope)(x:Str):Prop:=sc.names.lookup x=some .local∨sc.names.lookup x=some .cell
def Look(env:Env)(h:Heap)(m:Str→Option Value)(x:Str)(u:Value):Prop :=
 (env.kindOf x=some .local∧m x=some u)∨((env.kindOf x=some .cell∨env.kindOf x=some .free)∧∃c,env.cells.lookup x=some c∧h.IsCell c (some u))
structure Cx.Ok(X:Cx):Prop where
 mod:Mod X.K X.mg X.base
 kind:X.env.scope.kind=.function
 glob:X.env.globals=mainGlobals
 blt:X.env.builtins=builtinsNs
 above:X.s₀.heap.objs.size≤X.env.locals
 inj:∀x y c,X.env.cells.lookup x=some c→X.env.cells.lookup y=some c→x=y
 has:∀x,(X.env.kindOf x=some .cell∨X.env.kindOf x=some .free)→∃c,X.env.cells.lookup x=some c
 cab:∀x c,X.fn x=true→X.env.cells.lookup x=some c→X.s₀.heap.objs.size≤c
 hd:X.calm=true→X.A.handled=none
 frames:X.A.frames=some X.stack
 stk:X.stack=X.outer∨(X.stack=X.env::X.outer∧X.env.frame=some X.env.locals)
 exf:∀b∈X.ex,b≠X.env.locals∧∀x c,X.env.cells.lookup x=some c→c≠b
 bs:∀b o,X.base.get? b=some o→X.s₀.heap.get? b=some o∧X.H₀ b=none
 bsz:X.base.objs.size≤X.s₀.heap.objs.size
 noex:∀b o,X.base.get? b=some o→b∉X.ex
 exfs:∀b∈X.ex,b∉X.fs
 funs:X.s₀.heap.FunFrames X.base X.outer
 frf:∀b∈X.fs,X.H₀ b=none
structure Inv(X:Cx)(pins:List (Addr×Obj))(σ:List (Option V))(H:Hp)(s:Shared):Prop where
 ok:X.Ok
 os:s.os=X.s₀.os
 bare:AllBare s.gens
 base:Un X.fs X.ex X.H₀ H X.s₀.heap s.heap
 loc:∃m,s.heap.Ns X.env.locals m∧∀(i:Nat) (x:Str) (v:V),X.N[i]?=some x→σ[i]?=some (some v)→Vis X.env.scope x→∃u,RelV v u∧Look X.env s.heap m x u
 cell:∀x c,X.env.cells.lookup x=some c→∃v,s.heap.IsCell c v
 free:H X.env.locals=none
 freeC:∀x c,X.env.cells.lookup x=some c→H c=none
 pin:∀p∈X.pn++pins,s.heap.get? p.1=some p.2∧H p.1=none∧p.1≠X.env.locals∧p.1∉X.fs∧∀v,p.2.data≠.cell v
 hok:HOk X.prog X.w H s.heap
 len:σ.length=X.N.length
section
variable{X:Cx}{pins:List (Addr×Obj)}{σ:List (Option V)}{H H':Hp}{s:Shared}{h':Heap}
theorem Cx.Ok.nofr(ok:X.Ok){b:Addr}{o:Obj}(e:X.base.get? b=some o):b∉X.fs:=fun hb=>by
 have:=(ok.funs.mem hb).1
 rw [e] at this;cases this
theorem Inv.bs(I:Inv X pins σ H s):∀b o,X.base.get? b=some o→s.heap.get? b=some o∧H b=none:=fun b o e =>
 ⟨I.base.keep b o (I.ok.bs b o e).1 (I.ok.bs b o e).2 (I.ok.nofr e) (I.ok.noex b o e),I.base.free b o (I.ok.bs b o e).1 (I.ok.bs b o e).2 (I.ok.noex b o e)⟩
theorem Inv.bk(I:Inv X pins σ H s):∀b o,X.base.get? b=some o→s.heap.get? b=some o:=fun b o e=>(I.bs b o e).1
theorem Inv.mod(I:Inv X pins σ H s):Mod X.K X.mg X.base:=I.ok.mod
theorem Inv.kIn(I:Inv X pins σ H s):X.K.In s.heap:=I.ok.mod.kin.keeps I.bk
theorem Inv.lt(I:Inv X pins σ H s):X.env.locals<s.heap.objs.size:=let ⟨_,hn,_⟩:=I.loc;hn.lt
theorem Inv.sz(I:Inv X pins σ H s):X.s₀.heap.objs.size≤s.heap.objs.size:=Vak I.ok.above (Vam I.lt)
theorem Inv.nofs(I:Inv X pins σ H s){a:Addr}(h:s.heap.objs.size≤a):a∉X.fs:=fun hb=>by
 obtain ⟨_,o,ho,_⟩:=I.ok.funs.mem hb
 exact absurd (Vaf (Vae ho) (Vak I.sz h)) (Vag _)
theorem Inv.cne(I:Inv X pins σ H s):∀x c,X.env.cells.lookup x=some c→c≠X.env.locals:=fun x c e z=>by
 obtain ⟨v,o,ho,hd⟩:=I.cell x c e
 obtain ⟨m,⟨o',es,ep,ho',hd',_⟩,_⟩:=I.loc
 rw [z,ho'] at ho;cases ho;rw [hd'] at hd;cases hd
theorem Inv.funs(I:Inv X pins σ H s):s.heap.FunFrames X.base X.outer:=by
 have all:∀(l:List Env),(∀b∈frs l,b∈X.fs)→X.s₀.heap.FunFrames X.base l→s.heap.FunFrames X.base l:=by
  intro l
  induction l with
  | nil=>intro _ _;trivial
  | cons env r ih =>
   intro hs hl
   obtain ⟨hk,⟨L,o,hf,hn,ho,hd⟩,hr⟩:=hl
   have hL:L∈X.fs:=hs L (by unfold frs;rw [List.filterMap_cons,hf];exact List.mem_cons_self)
   obtain ⟨sl,e⟩:=I.base.slot L o ho (I.ok.frf L hL) hL fun z=>I.ok.exfs L z hL
   exact ⟨hk,⟨L,_,hf,hn,e,hd⟩,ih (fun b hb=>hs b (by unfold frs;rw [List.filterMap_cons,hf];exact List.mem_cons_of_mem _ hb)) hr⟩
 exact all X.outer (fun _ hb=>hb) I.ok.funs
theorem Inv.stack(I:Inv X pins σ H s):s.heap.FunFrames X.base X.stack:=by
 rcases I.ok.stk with e | ⟨e,hf⟩
 ·rw [e];exact I.funs
 ·rw [e]
  obtain ⟨m,hn,_⟩:=I.loc
  refine .cons (by rw [I.ok.kind];decide) hf hn ?_ I.funs
  exact Vaq (Vak I.ok.bsz I.ok.above)
theorem Inv.stkSub(I:Inv X pins σ H s):∀b∈frs X.stack,b∈X.env.locals::X.fs:=fun b hb=>by
 rcases I.ok.stk with e | ⟨e,hf⟩
 ·rw [e] at hb;exact Vap _ hb
 ·rw [e] at hb
  unfold frs at hb
  rw [Van,hf] at hb
  exact hb
theorem Inv.stkFree(I:Inv X pins σ H s):∀b∈frs X.stack,H b=none:=fun b hb=>by
 rcases Var.mp (I.stkSub b hb) with e | hb
 ·rw [e];exact I.free
 ·obtain ⟨_,o,ho,_⟩:=I.ok.funs.mem hb
  exact I.base.free b o ho (I.ok.frf b hb) fun z=>I.ok.exfs b z hb
theorem Inv.step{g':Array GenState}{t':Nat}{d':Drawn}{ch:List Addr}(I:Inv X pins σ H s)
  (hch:∀b∈ch,(b∈X.ex∨X.s₀.heap.objs.size≤b)∧b≠X.env.locals∧(∀x c,X.env.cells.lookup x=some c→c≠b)∧∀p∈X.pn++pins,p.1≠b)
  (keep:∀b o,b≠X.env.locals→b∉X.fs→b∉ch→s.heap.get? b=some o→H b=none→h'.get? b=some o)
  (slot:∀b o,b≠X.env.locals→b∈X.fs→b∉ch→s.heap.get? b=some o→H b=none→∃sl,h'.get? b=some { o with slots:=sl }) (free:∀b o,b∉ch→s.heap.get? b=some o→H b=none→H' b=none)
  (there:∀b o,b∉ch→s.heap.get? b=some o→∃o',h'.get? b=some o')
  (tups:∀b xs,H b=some (.tup xs)→H' b=some (.tup xs)) (frzs:∀b o u,H b=some (.frz o u)→H' b=some (.frz o u)) (tbls:∀b ps,H b=some (.tbl ps)→∃more,H' b=some (.tbl (ps++more)))
  (ns:∀m,s.heap.Ns X.env.locals m→h'.Ns X.env.locals m) (hok:HOk X.prog X.w H' h') (hg:AllBare g') :
  Inv X pins σ H' { s with heap:=h',gens:=g',drawn:=d',toks:=t' }:=by
 have neL:∀b o,X.s₀.heap.get? b=some o→b≠X.env.locals:=fun b o e=>Vah (Vaf (Vae e) I.ok.above)
 have neC:∀b o,X.s₀.heap.get? b=some o→b∉X.ex→b∉ch:=fun b o e hx hb=>by
  rcases (hch b hb).1 with z | z
  ·exact hx z
  ·exact absurd (Vaf (Vae e) z) (Vag _)
 have cellK:∀x c,X.env.cells.lookup x=some c→∀v,s.heap.IsCell c v→h'.IsCell c v:=fun x c e v ⟨o,ho,hd⟩=>by
  have nch:c∉ch:=fun z=>(hch c z).2.2.1 x c e rfl
  by_cases hc:c∈X.fs
  ·obtain ⟨sl,q⟩:=slot c o (I.cne x c e) hc nch ho (I.freeC x c e)
   exact ⟨_,q,hd⟩
  ·exact ⟨o,keep c o (I.cne x c e) hc nch ho (I.freeC x c e),hd⟩
 refine ⟨I.ok,I.os,hg,⟨fun b o e n hb hx=>?_,fun b o e n hb hx=>?_,fun b o e n hx=>?_,fun b o e hx=>?_,fun b xs e=>tups b xs (I.base.tups b xs e),fun b o xs e=>frzs b o xs (I.base.frzs b o xs e),fun b ps e=>?_⟩,?_,fun x c e=>?_,?_,fun x c e=>?_,fun p hp=>?_,hok,I.len⟩
 ·exact keep b o (neL b o e) hb (neC b o e hx) (I.base.keep b o e n hb hx) (I.base.free b o e n hx)
 ·obtain ⟨sl,e1⟩:=I.base.slot b o e n hb hx
  obtain ⟨sl',e2⟩:=slot b _ (neL b o e) hb (neC b o e hx) e1 (I.base.free b o e n hx)
  exact ⟨sl',e2⟩
 ·obtain ⟨o',e1⟩:=I.base.there b o e hx
  exact free b o' (neC b o e hx) e1 (I.base.free b o e n hx)
 ·obtain ⟨o',e1⟩:=I.base.there b o e hx
  exact there b o' (neC b o e hx) e1
 ·obtain ⟨m1,e1⟩:=I.base.tbls b ps e
  obtain ⟨m2,e2⟩:=tbls b _ e1
  exact ⟨m1++m2,by rw [e2,Array.append_assoc]⟩
 ·obtain ⟨m,hn,hl⟩:=I.loc
  refine ⟨m,ns m hn,fun i x v e1 e2 e3=>?_⟩
  obtain ⟨u,r,l⟩:=hl i x v e1 e2 e3
  refine ⟨u,r,?_⟩
  rcases l with l | ⟨k,c,e,z⟩
  ·exact .inl l
  ·exact .inr ⟨k,c,e,cellK x c e _ z⟩
 ·obtain ⟨v,z⟩:=I.cell x c e
  exact ⟨v,cellK x c e v z⟩
 ·obtain ⟨m,⟨o,_,_,ho,_⟩,_⟩:=I.loc
  exact free _ o (fun z=>(hch _ z).2.1 rfl) ho I.free
 ·obtain ⟨v,o,ho,hd⟩:=I.cell x c e
  exact free c o (fun z=>(hch c z).2.2.1 x c e rfl) ho (I.freeC x c e)
 ·obtain ⟨e,n,ne,nf,d⟩:=I.pin p hp
  have nch:p.1∉ch:=fun z=>(hch p.1 z).2.2.2 p hp rfl
  exact ⟨keep p.1 p.2 ne nf nch e n,free p.1 p.2 nch e n,ne,nf,d⟩
theorem Inv.un{t':Nat}(I:Inv X pins σ H s)(u:Un X.fs [] H H' s.heap h')(hok:HOk X.prog X.w H' h'):Inv X pins σ H' { s with heap:=h',toks:=t' }:=by
 obtain ⟨m,⟨o,es,ep,ho,r⟩,_⟩:=id I.loc
 obtain ⟨sl,hL⟩:=u.any ho I.free (by simp)
 exact I.step (g':=s.gens) (d':=s.drawn) (ch:=[]) (fun _ z=>nomatch z) (fun b o _ hb _ e n=>u.keep b o e n hb (by simp)) (fun b o _ hb _ e n=>u.slot b o e n hb (by simp)) (fun b o _ e n=>u.free b o e n (by simp)) (fun b o _ e=>u.there b o e (by simp)) u.tups u.frzs u.tbls (fun m' hm=>by
  obtain ⟨o',es',ep',ho',r'⟩:=hm
  rw [ho] at ho';cases ho'
  exact ⟨_,es',ep',hL,r'⟩) hok I.bare
theorem Inv.call{g':Array GenState}{t':Nat}{d':Drawn}{ch:List Addr}(I:Inv X pins σ H s)(u:Un (frs X.stack) ch H H' s.heap h')(hok:HOk X.prog X.w H' h')(hg:AllBare g')
  (hch:∀b∈ch,(b∈X.ex∨X.s₀.heap.objs.size≤b)∧b≠X.env.locals∧(∀x c,X.env.cells.lookup x=some c→c≠b)∧∀p∈X.pn++pins,p.1≠b) :
  Inv X pins σ H' { s with heap:=h',gens:=g',drawn:=d',toks:=t' }:=by
 obtain ⟨m,⟨o,es,ep,ho,r⟩,_⟩:=id I.loc
 obtain ⟨sl,hL⟩:=u.any ho I.free fun z=>(hch _ z).2.1 rfl
 exact I.step (ch:=ch) hch (fun b o hL hb hc e n=>u.keep b o e n (fun z=>(Var.mp (I.stkSub b z)).elim hL hb) hc) (fun b o _ _ hc e n=>u.any e n hc) (fun b o hc e n=>u.free b o e n hc) (fun b o hc e=>u.there b o e hc) u.tups u.frzs u.tbls (fun m' hm=>by
  obtain ⟨o',es',ep',ho',r'⟩:=hm
  rw [ho] at ho';cases ho'
  exact ⟨_,es',ep',hL,r'⟩) hok hg
theorem Inv.turned{t':Nat}{it:Addr}(I:Inv X pins σ H s)(k:∀b o,b≠it→s.heap.get? b=some o→h'.get? b=some o)(hn:H it=none)(hL:it≠X.env.locals)
  (h1:it∈X.ex∨X.s₀.heap.objs.size≤it) (h2:∀x c,X.env.cells.lookup x=some c→c≠it) (h3:∀p∈X.pn++pins,p.1≠it):Inv X pins σ H { s with heap:=h',toks:=t' }:=by
 have nit:∀b u,H b=some u→b≠it:=fun b u e z=>by rw [z,hn] at e;cases e
 refine I.step (g':=s.gens) (d':=s.drawn) (ch:=[it]) (fun b hb=>?_) (fun b o _ _ hc e _=>k b o (fun z=>hc (by simp [z])) e) (fun b o _ _ hc e _=>⟨o.slots,k b o (fun z=>hc (by simp [z])) e⟩) (fun _ _ _ _ n=>n)
  (fun b o hc e=>⟨o,k b o (fun z=>hc (by simp [z])) e⟩) (fun _ _ e=>e) (fun _ _ _ e=>e) (fun b ps e=>⟨#[],by rw [e];simp⟩) (fun m hm=>?_) (fun b u e=>?_) I.bare
 ·have e:b=it:=by simpa using hb
  subst e
  exact ⟨h1,hL,h2,h3⟩
 ·obtain ⟨o,es,ep,ho,r⟩:=hm
  exact ⟨o,es,ep,k _ o (Ne.symm hL) ho,r⟩
 ·refine (I.hok b u e).stay (fun c v hc q=>k c v ?_ q) (fun _ q=>q) fun _ _ q=>q
  rcases hc with z | z
  ·rw [z];exact nit b u e
  ·exact nit c _ z
theorem Inv.tok(I:Inv X pins σ H s)(t:Nat):Inv X pins σ H { s with toks:=t }:=I.un (h':=s.heap) (t':=t) Un.refl I.hok
theorem Inv.kept{t':Nat}(I:Inv X pins σ H s)(k:∀b u,s.heap.get? b=some u→h'.get? b=some u):Inv X pins σ H { s with heap:=h',toks:=t' }:=I.un (Un.kept k) (I.hok.kept k)
theorem Inv.laid{a:Addr}{o:HO}{t':Nat}(I:Inv X pins σ H s)(k:∀b u,s.heap.get? b=some u→h'.get? b=some u)(hp:s.heap.objs.size≤a)(new:ZbX X.prog X.w (upd H a o) h' a o) :
  Inv X pins σ (upd H a o) { s with heap:=h',toks:=t' }:=I.un (Un.laid k hp (I.hok.fresh hp)) (I.hok.laid k hp new)
theorem Inv.write{x e:Addr}{o:HO}{t':Nat}(I:Inv X pins σ H s)(mu:Mut (H x))(he:e=x∨H e=some (.own x))(k:∀b u,b≠e→s.heap.get? b=some u→h'.get? b=some u)(heo:∃u,h'.get? e=some u)
  (new:ZbX X.prog X.w (upd H x o) h' x o):Inv X pins σ (upd H x o) { s with heap:=h',toks:=t' }:=I.un (Un.write mu he k heo) (I.hok.write mu he k heo new)
theorem Inv.weak{σ':List (Option V)}(I:Inv X pins σ H s)(hl:σ'.length=σ.length)(w:∀(i:Nat) v,σ'[i]?=some (some v)→σ[i]?=some (some v)):Inv X pins σ' H s :=
 ⟨I.ok,I.os,I.bare,I.base,let ⟨m,hn,hl'⟩:=I.loc;⟨m,hn,fun i x v e1 e2 e3=>hl' i x v e1 (w i v e2) e3⟩,I.cell,I.free,I.freeC,I.pin,I.hok,hl.trans I.len⟩
theorem Inv.pins_of{pins':List (Addr×Obj)}(I:Inv X pins σ H s)(h:∀p∈pins',s.heap.get? p.1=some p.2∧H p.1=none∧p.1≠X.env.locals∧p.1∉X.fs∧∀v,p.2.data≠.cell v):Inv X pins' σ H s :=
 ⟨I.ok,I.os,I.bare,I.base,I.loc,I.cell,I.free,I.freeC,fun p hp=>(Vas.mp hp).elim (fun z=>I.pin p (Vat _ z)) (h p),I.hok,I.len⟩
theorem ZjW{N:List Str}(hN:N.Nodup){i j:Nat}{x:Str}(a:N[i]?=some x)(b:N[j]?=some x):i=j:=by
 obtain ⟨h1,e1⟩:=Vau.mp a
 obtain ⟨h2,e2⟩:=Vau.mp b
 exact (List.getElem_inj hN).mp (e1.trans e2.symm)
theorem Zls{M:Model}{A:Around}{E:Value→Shared→Prop}{i:Nat}{x:Str}{v:V}{u:Value}{Q:Unit→Shared→Prop}(I:Inv X pins σ H s)(hN:X.N.Nodup)(hi:X.N[i]?=some x)(hx:Loc X.env.scope x)(r:RelV v u)
  (h:∀s',Inv X pins (σ.set i (some v)) H s'→(∃a,Heap.SameBut a s.heap s'.heap∧(a=X.env.locals∨X.env.cells.lookup x=some a))→Q () s') (hf:X.fn x=true∨X.env.scope.names.lookup x=some .local:=by first | exact .inl rfl | exact .inr rfl | assumption):wpAny M A (storeName X.env x u) Q E s:=by
 obtain ⟨m,hn,hl⟩:=id I.loc
 have hcls:(X.env.scope.kind==.class||(X.env.scope.kind==.module&&X.env.locals != X.env.globals))=false:=by rw [I.ok.kind];rfl
 have hiσ:i<σ.length:=by rw [I.len];exact (Vau.mp hi).1
 have cne:=I.cne
 have tracked:∀{a:Addr} {h':Heap},(∃o,s.heap.get? a=some o∧H a=none)→Heap.SameBut a s.heap h'→HOk X.prog X.w H h':=fun {a h'} ha hs b ob e=>by
  obtain ⟨_,_,hfree⟩:=ha
  refine (I.hok b ob e).stay (fun c w' hc q=>(hs.2 c ?_).trans q) (fun _ q=>q) fun _ _ q=>q
  rintro rfl
  rcases hc with rfl | hc
  ·rw [hfree] at e;cases e
  ·rw [hfree] at hc;cases hc
 rcases hx with hk | hk
 ·refine wpAny_storeName_local hk hn (fun h' hn' hs=>?_) hcls
  obtain ⟨oL,_,_,hoL,_⟩:=id hn
  refine h _ ⟨I.ok,I.os,I.bare,⟨fun b o e n hb hx=>?_,fun b o e n hb hx=>?_,I.base.free,fun b o e hx=>?_,I.base.tups,I.base.frzs,I.base.tbls⟩,⟨_,hn',fun j y v' e1 e2 e3=>?_⟩,fun y c e=>?_,I.free,I.freeC,fun p hp=>?_,tracked ⟨oL,hoL,I.free⟩ hs,by simpa using I.len⟩ ⟨_,hs,.inl rfl⟩
  ·exact (hs.2 b (Vah (Vaf (Vae e) I.ok.above))).trans (I.base.keep b o e n hb hx)
  ·obtain ⟨sl,e1⟩:=I.base.slot b o e n hb hx
   exact ⟨sl,(hs.2 b (Vah (Vaf (Vae e) I.ok.above))).trans e1⟩
  ·obtain ⟨o',e1⟩:=I.base.there b o e hx
   exact ⟨o',(hs.2 b (Vah (Vaf (Vae e) I.ok.above))).trans e1⟩
  ·by_cases hj:j=i
   ·subst hj
    rw [hi] at e1;cases e1
    rw [List.getElem?_set_self hiσ] at e2
    cases e2
    exact ⟨u,r,.inl ⟨hk,by simp⟩⟩
   ·rw [List.getElem?_set_ne (Ne.symm hj)] at e2
    obtain ⟨u',r',q⟩:=hl j y v' e1 e2 e3
    refine ⟨u',r',?_⟩
    rcases q with ⟨k,e⟩ | ⟨k,c,e,z⟩
    ·refine .inl ⟨k,?_⟩
     have:y≠x:=fun e=>hj (ZjW hN e1 (e▸hi))
     simp [this,e]
    ·exact .inr ⟨k,c,e,z.sameBut hs (cne y c e)⟩
  ·obtain ⟨w',z⟩:=I.cell y c e
   exact ⟨w',z.sameBut hs (cne y c e)⟩
  ·obtain ⟨e,n,ne,nf,d⟩:=I.pin p hp
   exact ⟨(hs.2 p.1 ne).trans e,n,ne,nf,d⟩
 ·have hfn:X.fn x=true:=by
   rcases hf with z | z
   ·exact z
   ·rw [z] at hk;cases hk
  obtain ⟨c,hc⟩:=I.ok.has x (.inl hk)
  obtain ⟨w',z⟩:=I.cell x c hc
  refine wpAny_storeName_cell I.ok.kind hk hc z (fun h' hc' hs=>?_)
  obtain ⟨oc,hoc,hocd⟩:=id z
  refine h { s with heap:=h' } ⟨I.ok,I.os,I.bare,⟨fun b o e n hb hx=>?_,fun b o e n hb hx=>?_,I.base.free,fun b o e hx=>?_,I.base.tups,I.base.frzs,I.base.tbls⟩,⟨m,hn.sameBut hs (Ne.symm (cne x c hc)),fun j y v' e1 e2 e3=>?_⟩,fun y c' e=>?_,I.free,I.freeC,fun p hp=>?_,tracked ⟨oc,hoc,I.freeC x c hc⟩ hs,by simpa using I.len⟩ ⟨c,hs,.inr hc⟩
  ·exact (hs.2 b (Vah (Vaf (Vae e) (I.ok.cab x c hfn hc)))).trans (I.base.keep b o e n hb hx)
  ·obtain ⟨sl,e1⟩:=I.base.slot b o e n hb hx
   exact ⟨sl,(hs.2 b (Vah (Vaf (Vae e) (I.ok.cab x c hfn hc)))).trans e1⟩
  ·obtain ⟨o',e1⟩:=I.base.there b o e hx
   exact ⟨o',(hs.2 b (Vah (Vaf (Vae e) (I.ok.cab x c hfn hc)))).trans e1⟩
  ·by_cases hj:j=i
   ·subst hj
    rw [hi] at e1;cases e1
    rw [List.getElem?_set_self hiσ] at e2
    cases e2
    exact ⟨u,r,.inr ⟨.inl hk,c,hc,hc'⟩⟩
   ·rw [List.getElem?_set_ne (Ne.symm hj)] at e2
    obtain ⟨u',r',q⟩:=hl j y v' e1 e2 e3
    refine ⟨u',r',?_⟩
    rcases q with q | ⟨k,c',e,z'⟩
    ·exact .inl q
    ·refine .inr ⟨k,c',e,z'.sameBut hs ?_⟩
     rintro rfl
     exact hj (ZjW hN e1 (I.ok.inj _ _ _ e hc▸hi))
  ·by_cases hcc:c'=c
   ·subst hcc;exact ⟨_,hc'⟩
   ·obtain ⟨w2,z2⟩:=I.cell y c' e
    exact ⟨w2,z2.sameBut hs hcc⟩
  ·obtain ⟨e,n,ne,nf,d⟩:=I.pin p hp
   refine ⟨(hs.2 p.1 ?_).trans e,n,ne,nf,d⟩
   intro q
   rw [q,hoc] at e
   have q':oc=p.2:=Vav e
   exact d w' (by rw [←q'];exact hocd)
theorem Zd8{M:Model}{A:Around}{E:Value→Shared→Prop}{i:Nat}{x:Str}{v:V}{u:Value}{Q:Unit→Shared→Prop}(I:Inv X pins σ H s)(hN:X.N.Nodup)(hi:X.N[i]?=some x)(hx:Loc X.env.scope x)(r:RelV v u)
  (h:∀s',Inv X pins (σ.set i (some v)) H s'→Q () s') (hf:X.fn x=true∨X.env.scope.names.lookup x=some .local:=by first | exact .inl rfl | exact .inr rfl | assumption):wpAny M A (storeName X.env x u) Q E s :=
 Zls I hN hi hx r (fun s' I' _=>h s' I') hf
theorem Inv.call'{s':Shared}{ch:List Addr}(I:Inv X pins σ H s)(ho:s'.os=s.os)(u:Un (frs X.stack) ch H H' s.heap s'.heap)(hok:HOk X.prog X.w H' s'.heap)(hg:AllBare s'.gens)
  (hch:∀b∈ch,(b∈X.ex∨X.s₀.heap.objs.size≤b)∧b≠X.env.locals∧(∀x c,X.env.cells.lookup x=some c→c≠b)∧∀p∈X.pn++pins,p.1≠b):Inv X pins σ H' s':=by
 obtain ⟨h',g',d',t',o'⟩:=s'
 have e:o'=s.os:=ho
 subst e
 exact I.call (g':=g') (t':=t') (d':=d') u hok hg hch
end
abbrev XK:=Value→Option Addr→Hp→Prop
abbrev St:=List (Option V)
abbrev VK:=V→Hp→Prop
abbrev TE:=St→Hp→VK→Prop
abbrev TT:=St→Hp→(Bool→Hp→Prop)→Prop
abbrev TA:=St→Hp→(List V→Hp→Prop)→Prop
structure Ends where
 nx:St→Hp→Prop
 rt:VK
 bk:St→Hp→Prop:=fun _ _=>False
 ct:St→Hp→Prop:=fun _ _=>False
abbrev TS:=Ends→St→Hp→Prop
def EP(X:Cx)(pins:List (Addr×Obj))(σ:St)(Q:VK)(u:Value)(s':Shared):Prop:=∃v H',Inv X pins σ H' s'∧RelV v u∧Q v H'
def TP(X:Cx)(pins:List (Addr×Obj))(σ:St)(Q:Bool→Hp→Prop)(b:Bool)(s':Shared):Prop:=∃H',Inv X pins σ H' s'∧Q b H'
def AP(X:Cx)(pins:List (Addr×Obj))(σ:St)(Q:List V→Hp→Prop)(us:List Value)(s':Shared):Prop:=∃vs H',Inv X pins σ H' s'∧Vals vs us∧Q vs H'
def SP(X:Cx)(pins:List (Addr×Obj))(D:Ends)(f:Flow)(s':Shared):Prop :=
 match f with
 | .next=>∃σ' H',Inv X pins σ' H' s'∧D.nx σ' H'
 | .brk=>∃σ' H',Inv X pins σ' H' s'∧D.bk σ' H'
 | .cont=>∃σ' H',Inv X pins σ' H' s'∧D.ct σ' H'
 | .ret u=>∃v σ' H',Inv X pins σ' H' s'∧RelV v u∧D.rt v H'
def PE(X:Cx)(e:Expr)(t:TE):Prop :=
 ∀(pins:List (Addr×Obj)) (s:Shared) (σ:St) (H:Hp) (Q:VK),Inv X pins σ H s→t σ H Q→wpAny (model X.prog X.w) X.A (eval e X.env) (EP X pins σ Q) X.xe s
def PT(X:Cx)(e:Expr)(t:TT):Prop :=
 ∀(pins:List (Addr×Obj)) (s:Shared) (σ:St) (H:Hp) (Q:Bool→Hp→Prop),Inv X pins σ H s→t σ H Q→wpAny (model X.prog X.w) X.A (isTrue e X.env (eval e X.env)) (TP X pins σ Q) X.xe s
def PW(X:Cx)(e:Expr)(t:TT):Prop :=
 ∀(whole:Sem Value) (pins:List (Addr×Obj)) (s:Shared) (σ:St) (H:Hp) (Q:Bool→Hp→Prop),Inv X pins σ H s→t σ H Q→wpAny (model X.prog X.w) X.A (isTrue e X.env whole) (TP X pins σ Q) X.xe s
theorem PW.pt{X:Cx}{e:Expr}{t:TT}(h:PW X e t):PT X e t:=h _
def PA(X:Cx)(es:List Expr)(t:TA):Prop :=
 ∀(pos:Pos) (pins:List (Addr×Obj)) (s:Shared) (σ:St) (H:Hp) (Q:List V→Hp→Prop),Inv X pins σ H s→t σ H Q→wpAny (model X.prog X.w) X.A (spliced (backTo pos (starEach es X.env))) (AP X pins σ Q) X.xe s
def PS(X:Cx)(st:Stmt)(t:TS):Prop :=
 ∀(pins:List (Addr×Obj)) (s:Shared) (σ:St) (H:Hp) (D:Ends),Inv X pins σ H s→t D σ H→wpAny (model X.prog X.w) X.A (exec st X.env) (SP X pins D) X.xe s
def PSs(X:Cx)(st:List Stmt)(t:TS):Prop :=
 ∀(pins:List (Addr×Obj)) (s:Shared) (σ:St) (H:Hp) (D:Ends),Inv X pins σ H s→t D σ H→wpAny (model X.prog X.w) X.A (execs st X.env) (SP X pins D) X.xe s
theorem thn{α:Type}{t:Sem α}{Q Q':α→Shared→Prop}{M:Model}{A:Around}{E:Value→Shared→Prop}{s:Shared}(h:wpAny M A t Q E s)(hQ:∀a s,Q a s→Q' a s):wpAny M A t Q' E s:=Vaw h hQ fun _ _ x=>x
section
variable{X:Cx}
def tVar(i:Nat):TE:=fun σ H Q=>∃v,σ[i]?=some (some v)∧Q v H
def tC(v:V):TE:=fun _ H Q=>Q v H
theorem Zf4{i:Nat}{x:Str}{pos:Pos}(hN:X.N[i]?=some x)(hv:Vis X.env.scope x)(hd:(x==("__debug__" : Str))=false:=by decide)(hcd:(x==("__classdict__" : Str))=false:=by decide):PE X (.Name x pos) (tVar i):=by
 intro pins s σ H Q I h
 obtain ⟨v,e,h⟩:=h
 obtain ⟨m,hn,hl⟩:=I.loc
 obtain ⟨u,r,l⟩:=hl i x v hN e hv
 have fin:EP X pins σ Q u s:=⟨v,H,I,r,h⟩
 rcases l with ⟨hk,hm⟩ | ⟨hk,c,hc,hcell⟩
 ·exact wpAny_Name (wpAny_loadName_local I.ok.kind hk hn hm fin) hd
 ·rcases hk with hk | hk
  ·exact wpAny_Name (wpAny_loadName_cell I.ok.kind hk hc hcell fin) hd
  ·exact wpAny_Name (wpAny_loadName_free I.ok.kind hk hc hcell fin hcd) hd
theorem Zn8{i j pos}:PE X (.Constant (.int i) j pos) (tC (.int i)):=fun _ _ _ H _ I h=>wpAny_Constant_int ⟨.int i,H,I.tok _,⟨_,rfl⟩,h⟩
theorem Zur{b j pos}:PE X (.Constant (.bool b) j pos) (tC (.bl b)):=fun _ _ _ H _ I h=>Constant_bool ⟨.bl b,H,I,rfl,h⟩
theorem ZjP{j pos}:PE X (.Constant .none j pos) (tC .non):=fun _ _ _ H _ I h=>Constant_none ⟨.non,H,I,rfl,h⟩
theorem Zsn{x j pos}:PE X (.Constant (.str x) j pos) (tC (.str x)):=fun _ _ _ H _ I h=>Calls.Constant_str ⟨.str x,H,I.tok _,⟨_,rfl⟩,h⟩
def Gl(X:Cx)(x:Str):Prop:=X.env.kindOf x=some .globalImplicit
theorem ZfV{E:Value→Shared→Prop}{pins:List (Addr×Obj)}{s:Shared}{σ:St}{H:Hp}{x:Str}{u:Value}{pos:Pos}{Q:Value→Shared→Prop}(I:Inv X pins σ H s)(hg:Gl X x)(hm:X.mg x=some u)(h:Q u s)
  (hd:(x==("__debug__" : Str))=false:=by decide):wpAny (model X.prog X.w) X.A (eval (.Name x pos) X.env) Q E s :=
 Calls.Name_function_global I.ok.kind hg (Calls.loadGlobal_global (by rw [I.ok.glob];exact I.mod.glob.keeps I.bk) hm h) hd
theorem ZfL{E:Value→Shared→Prop}{pins:List (Addr×Obj)}{s:Shared}{σ:St}{H:Hp}{x:Str}{u:Value}{pos:Pos}{Q:Value→Shared→Prop}(I:Inv X pins σ H s)(hg:Gl X x)(hm:X.mg x=none)(hv:bootBuiltins x=some u)(h:Q u s)
  (hn:x ≠ "__name__" := by decide) (hd:(x==("__debug__" : Str))=false:=by decide):wpAny (model X.prog X.w) X.A (eval (.Name x pos) X.env) Q E s:=by
 obtain ⟨mb,h1,h2⟩:=I.mod.blt
 exact Calls.Name_function_global I.ok.kind hg (Calls.loadGlobal_builtin (by rw [I.ok.glob];exact I.mod.glob.keeps I.bk) hm (by rw [I.ok.blt];exact h1.keeps I.bk) ((h2 x hn).trans hv) h) hd
theorem ZiM{x:Str}{v:V}{u:Value}{pos:Pos}(hg:Gl X x)(hm:X.mg x=some u)(r:RelV v u)(hd:(x==("__debug__" : Str))=false:=by decide):PE X (.Name x pos) (tC v) :=
 fun _ _ _ H _ I h=>ZfV I hg hm ⟨v,H,I,r,h⟩ hd
theorem Zqu{x:Str}{v:V}{u:Value}{pos:Pos}(hg:Gl X x)(hm:X.mg x=none)(hv:bootBuiltins x=some u)(r:RelV v u)(hn:x ≠ "__name__" := by decide)(hd:(x==("__debug__" : Str))=false:=by decide):PE X (.Name x pos) (tC v) :=
 fun _ _ _ H _ I h=>ZfL I hg hm hv ⟨v,H,I,r,h⟩ hn hd
variable{a b:Expr}{ta tb:TE}{pos:Pos}
def tB(t:TE):TT:=fun σ H Q=>t σ H fun x H1=>∃c,x=.bl c∧Q c H1
theorem Zss{e:Expr}{t:TE}(h:PE X e t)(he:∀whole,isTrue e X.env whole=(do let v ←whole;standAt e.pos;holding [v] (truthy v)):=by intro _;rfl):PT X e (tB t):=by
 intro pins s σ H Q I hw
 refine isTrue_plain (thn (h pins s σ H _ I hw) fun v s1 ⟨x,H1,I1,r1,q1⟩=>?_) (he _)
 obtain ⟨d,rfl,q⟩:=q1
 cases r1
 exact wpAny_truthy_bool ⟨H1,I1,q⟩
variable{tA tB':TT}{rest:List Expr}
def tAnd(t u:TT):TT:=fun σ H Q=>t σ H fun c H1=>if c=true then u σ H1 Q else Q false H1
def tOr(t u:TT):TT:=fun σ H Q=>t σ H fun c H1=>if c=true then Q true H1 else u σ H1 Q
def tNot(t:TT):TT:=fun σ H Q=>t σ H fun c H1=>Q (!c) H1
theorem Zqg(ha:PT X a tA):PW X (.BoolOp .And [a] pos) tA:=by
 intro wh pins s σ H Q I h
 refine isTrue_and (thn (ha pins s σ H Q I h) fun c s1 e=>?_)
 cases c with
 | true=>exact isTrue_and_nil e
 | false=>exact e
theorem ZrS(ha:PT X a tA):PW X (.BoolOp .Or [a] pos) tA:=by
 intro wh pins s σ H Q I h
 refine isTrue_or (thn (ha pins s σ H Q I h) fun c s1 e=>?_)
 cases c with
 | false=>exact isTrue_or_nil e
 | true=>exact e
theorem Zrl(ha:PT X a tA)(hb:PW X (.BoolOp .And (b::rest) pos) tB'):PW X (.BoolOp .And (a::b::rest) pos) (tAnd tA tB'):=by
 intro wh pins s σ H Q I h
 refine isTrue_and (thn (ha pins s σ H _ I h) fun c s1 ⟨H1,I1,q1⟩=>?_)
 cases c with
 | true=>exact hb wh pins s1 σ H1 Q I1 q1
 | false=>exact ⟨H1,I1,q1⟩
theorem Zuy(ha:PT X a tA)(hb:PW X (.BoolOp .Or (b::rest) pos) tB'):PW X (.BoolOp .Or (a::b::rest) pos) (tOr tA tB'):=by
 intro wh pins s σ H Q I h
 refine isTrue_or (thn (ha pins s σ H _ I h) fun c s1 ⟨H1,I1,q1⟩=>?_)
 cases c with
 | true=>exact ⟨H1,I1,q1⟩
 | false=>exact hb wh pins s1 σ H1 Q I1 q1
theorem ZsF(ha:PT X a tA):PT X (.UnaryOp .Not a pos) (tNot tA):=by
 intro pins s σ H Q I h
 exact isTrue_not (ha pins s σ H (fun c H1=>Q (!c) H1) I h)
def ZqJ(ta tb:TE):TE:=fun σ H Q=>ta σ H fun x H1=>∃c,x=.bl c∧if c=true then tb σ H1 Q else Q (.bl false) H1
def Zqd(ta:TE):TE:=fun σ H Q=>ta σ H fun x H1=>∃c,x=.bl c∧Q (.bl (!c)) H1
theorem ZrW{op}{t:TE}(h:PE X a t):PE X (.BoolOp op [a] pos) t:=fun pins s σ H Q I hw=>BoolOp_one (h pins s σ H Q I hw)
theorem ZsH(ha:PE X a ta)(hb:PE X (.BoolOp .And (b::rest) pos) tb):PE X (.BoolOp .And (a::b::rest) pos) (ZqJ ta tb):=by
 intro pins s σ H Q I h
 refine BoolOp_and (thn (ha pins s σ H _ I h) fun v s1 ⟨x,H1,I1,r1,q1⟩=>?_)
 obtain ⟨c,rfl,q1⟩:=q1
 cases r1
 refine wpAny_truthy_bool ?_
 cases c with
 | true=>exact hb pins s1 σ H1 Q I1 q1
 | false=>exact ⟨.bl false,H1,I1,rfl,q1⟩
theorem ZrZ(ha:PE X a ta):PE X (.UnaryOp .Not a pos) (Zqd ta):=by
 intro pins s σ H Q I h
 refine UnaryOp_ (thn (ha pins s σ H _ I h) fun v s1 ⟨x,H1,I1,r1,q1⟩=>?_)
 obtain ⟨c,rfl,q1⟩:=q1
 cases r1
 exact not_of (wpAny_truthy_bool ⟨.bl (!c),H1,I1,rfl,q1⟩)
def tIf(t:TT)(ta tb:TE):TE:=fun σ H Q=>t σ H fun c H1=>if c=true then ta σ H1 Q else tb σ H1 Q
theorem ZmH{c:Expr}(hc:PT X c tA)(ha:PE X a ta)(hb:PE X b tb):PE X (.IfExp c a b pos) (tIf tA ta tb):=by
 intro pins s σ H Q I h
 refine wpAny_IfExp (thn (hc pins s σ H _ I h) fun d s1 ⟨H1,I1,q1⟩=>?_)
 cases d with
 | true=>exact ha pins s1 σ H1 Q I1 q1
 | false=>exact hb pins s1 σ H1 Q I1 q1
end
def SqL(K:W.Frag)(H:Hp)(a:Addr)(xs:List V):Prop :=
 Rd H a (.lst xs) ∨
  ∃(o:Obj) (its:Array Value) (n:Nat),K.lookup a=some o∧o.cls=.type "list"∧o.dict=none∧o.data=.seq its n∧its.size≤sizeLine∧Vals xs its.toList
def SqT(K:W.Frag)(H:Hp)(a:Addr)(xs:List V):Prop :=
 Rd H a (.tup xs) ∨
  ∃(o:Obj) (its:Array Value) (n:Nat),K.lookup a=some o∧o.cls=.type "tuple"∧o.data=.seq its n∧its.size≤sizeLine∧Vals xs its.toList
def absV:Value→Option V
 | .none=>some .non
 | .bool b=>some (.bl b)
 | .int i _=>some (.int i)
 | .str x _=>some (.str x)
 | .bytes b _=>some (.byt b)
 | .float b _=>some (.flt b)
 | .ref a=>some (.ref a)
 | .type n=>some (.ty n)
 | _=>none
theorem RelV.abs{x:V}{u:Value}(r:RelV x u):absV u=some x:=by
 cases x with
 | non=>cases r;rfl
 | bl _=>cases r;rfl
 | int _=>obtain ⟨t,rfl⟩:=r;rfl
 | str _=>obtain ⟨t,rfl⟩:=r;rfl
 | byt _=>obtain ⟨t,rfl⟩:=r;rfl
 | flt _=>obtain ⟨t,rfl⟩:=r;rfl
 | ref _=>cases r;rfl
 | ty _=>cases r;rfl
theorem RelV.inj{x y:V}{u:Value}(r:RelV x u)(q:RelV y u):x=y:=Vav (r.abs.symm.trans q.abs)
theorem Vals.inj:∀{xs ys:List V} {us:List Value},Vals xs us→Vals ys us→xs=ys
 | _,_,_,.nil,.nil=>rfl
 | _,_,_,.cons r t,.cons r' t'=>by rw [r.inj r',Vals.inj t t']
section
variable{X:Cx}{pins:List (Addr×Obj)}{σ:St}{H:Hp}{s:Shared}{a:Addr}{xs ys:List V}
theorem SqL.of{K:W.Frag}(h:H a=some (.lst xs)):SqL K H a xs:=.inl (.inl h)
theorem SqT.of{K:W.Frag}(h:H a=some (.tup xs)):SqT K H a xs:=.inl (.inl h)
theorem Inv.list(I:Inv X pins σ H s)(h:SqL X.K H a xs):∃its:List Value,Vals xs its∧PlainL s.heap a its.toArray∧xs.length≤sizeLine:=by
 rcases h with h | ⟨o,its,n,hk,hc,hd,hs,hz,r⟩
 ·obtain ⟨z,its,n,r,e⟩:=h.ok I.hok
  exact ⟨its,r,⟨_,n,e,rfl,rfl,rfl⟩,z⟩
 ·refine ⟨its.toList,r,⟨o,n,I.kIn a o hk,hc,hd,by simpa using hs⟩,?_⟩
  have e:=r.length
  simp only [Vax] at e
  omega
theorem Inv.tuple(I:Inv X pins σ H s)(h:SqT X.K H a xs):∃its:List Value,Vals xs its∧IsTup s.heap a its.toArray∧xs.length≤sizeLine:=by
 rcases h with h | ⟨o,its,n,hk,hc,hs,hz,r⟩
 ·obtain ⟨z,its,r,p⟩:=h.ok I.hok
  exact ⟨its,r,p,z⟩
 ·refine ⟨its.toList,r,⟨o,I.kIn a o hk,hc,n,by simpa using hs⟩,?_⟩
  have e:=r.length
  simp only [Vax] at e
  omega
theorem Inv.list_inj(I:Inv X pins σ H s)(h:SqL X.K H a xs)(h':SqL X.K H a ys):xs=ys:=by
 obtain ⟨its,r,⟨o,n,e,_,_,d⟩,_⟩:=I.list h
 obtain ⟨its',r',⟨o',n',e',_,_,d'⟩,_⟩:=I.list h'
 rw [e] at e';cases e'
 rw [d] at d'
 injection d' with d1 _
 have:its=its':=by simpa using Vay Array.toList d1
 subst this
 exact r.inj r'
theorem Inv.tuple_inj(I:Inv X pins σ H s)(h:SqT X.K H a xs)(h':SqT X.K H a ys):xs=ys:=by
 obtain ⟨its,r,⟨o,e,_,n,d⟩,_⟩:=I.tuple h
 obtain ⟨its',r',⟨o',e',_,n',d'⟩,_⟩:=I.tuple h'
 rw [e] at e';cases e'
 rw [d] at d'
 injection d' with d1 _
 have:its=its':=by simpa using Vay Array.toList d1
 subst this
 exact r.inj r'
end
section
variable{X:Cx}{st:Stmt}{rest:List Stmt}{t u:TS}{e:Expr}{te:TE}{pos:Pos}
def Zim:TS:=fun D σ H=>D.nx σ H
def tSeq(t u:TS):TS:=fun D σ H=>t { D with nx:=u D } σ H
theorem Zhr:PSs X [] Zim:=fun _ _ σ H _ I h=>wpAny_execs_nil ⟨σ,H,I,h⟩
theorem ZbL(h1:PS X st t)(h2:PSs X rest u):PSs X (st::rest) (tSeq t u):=by
 intro pins s σ H D I h
 refine wpAny_execs_cons (thn (h1 pins s σ H { D with nx:=u D } I h) fun f s1 q=>?_)
 cases f with
 | next =>
  obtain ⟨σ',H',I',q⟩:=q
  exact h2 pins s1 σ' H' D I' q
 | ret v=>exact q
 | brk=>exact q
 | cont=>exact q
theorem Zhh(h1:PS X st t):PSs X [st] t:=by
 intro pins s σ H D I h
 refine wpAny_execs_cons (thn (h1 pins s σ H D I h) fun f s1 q=>?_)
 cases f with
 | next=>exact wpAny_execs_nil q
 | ret v=>exact q
 | brk=>exact q
 | cont=>exact q
def ZqF:TS:=fun D σ H=>D.ct σ H
theorem Zis:PS X (.Continue pos) ZqF:=fun _ _ σ H _ I h=>wpAny_Continue ⟨σ,H,I,h⟩
theorem Inv.quiet{pins:List (Addr×Obj)}{σ:St}{H:Hp}{s:Shared}(I:Inv X pins σ H s):interactive X.env=false:=by simp [interactive,I.ok.kind]
def Zdd(te:TE):TS:=fun D σ H=>te σ H fun _ H1=>D.nx σ H1
theorem Zd0(he:PE X e te)(hs:swapsWith e none pos.line X.env=pure false:=by rfl):PS X (.Expr e pos) (Zdd te):=by
 intro pins s σ H D I h
 exact wpAny_Expr_any (thn (he pins s σ H _ I h) fun v s1 ⟨x,H1,I1,r1,q1⟩=>⟨σ,H1,I1,q1⟩) I.quiet hs
def tRet(te:TE):TS:=fun D σ H=>te σ H D.rt
theorem Zi6(he:PE X e te):PS X (.Return (some e) pos) (tRet te):=by
 intro pins s σ H D I h
 exact wpAny_Return_some (thn (he pins s σ H _ I h) fun v s1 ⟨x,H1,I1,r1,q1⟩=>⟨x,σ,H1,I1,r1,q1⟩)
def tIfS(c:TT)(t u:TS):TS:=fun D σ H=>c σ H fun b H1=>if b=true then t D σ H1 else u D σ H1
theorem Zpu{c:Expr}{a b:List Stmt}{tc:TT}(hc:PT X c tc)(ha:PSs X a t)(hb:PSs X b u):PS X (.If c a b pos) (tIfS tc t u):=by
 intro pins s σ H D I h
 refine wpAny_If (thn (hc pins s σ H _ I h) fun d s1 ⟨H1,I1,q1⟩=>?_)
 cases d with
 | true=>exact ha pins s1 σ H1 D I1 q1
 | false=>exact hb pins s1 σ H1 D I1 q1
end
abbrev TG:=V→St→Hp→(St→Hp→Prop)→Prop
abbrev TGs:=List V→St→Hp→(St→Hp→Prop)→Prop
def PG(X:Cx)(target:Expr)(t:TG):Prop :=
 ∀(pins:List (Addr×Obj)) (s:Shared) (σ:St) (H:Hp) (v:V) (u:Value) (Q:St→Hp→Prop),Inv X pins σ H s→RelV v u→t v σ H Q →
  wpAny (model X.prog X.w) X.A (assign target X.env u) (fun _ s'=>∃σ' H',Inv X pins σ' H' s'∧Q σ' H') X.xe s
def PGs(X:Cx)(ts:List Expr)(t:TGs):Prop :=
 ∀(pins:List (Addr×Obj)) (s:Shared) (σ:St) (H:Hp) (vs:List V) (us:List Value) (Q:St→Hp→Prop),Inv X pins σ H s→Vals vs us→t vs σ H Q →
  wpAny (model X.prog X.w) X.A (assignInOrder ((assignEach ts X.env).map (·.2)) us) (fun _ s'=>∃σ' H',Inv X pins σ' H' s'∧Q σ' H') X.xe s
section
variable{X:Cx}{pos:Pos}
def Zea(i:Nat):TG:=fun v σ H Q=>Q (σ.set i (some v)) H
theorem Zpb{i:Nat}{x:Str}(hN:X.N.Nodup)(hi:X.N[i]?=some x)(hx:Loc X.env.scope x)(hf:X.fn x=true∨X.env.scope.names.lookup x=some .local:=by first | exact .inl rfl | exact .inr rfl | assumption):PG X (.Name x pos) (Zea i):=by
 intro pins s σ H v u Q I r h
 exact wpAny_assign_Name (Zd8 I hN hi hx r (fun s' I'=>⟨_,H,I',h⟩) hf)
def gNil:TGs:=fun vs σ H Q=>vs=[]∧Q σ H
def ZpL(t:TG)(u:TGs):TGs:=fun vs σ H Q=>∃v r,vs=v::r∧t v σ H fun σ' H'=>u r σ' H' Q
theorem Zqw:PGs X [] gNil:=by
 intro pins s σ H vs us Q I r h
 obtain ⟨e,h⟩:=h
 subst e
 cases r
 exact assignInOrder_nil ⟨σ,H,I,h⟩
theorem Zns{e:Expr}{es:List Expr}{t:TG}{u:TGs}(h1:PG X e t)(h2:PGs X es u)
  (hs:(assignEach (e::es) X.env).map (·.2)=assign e X.env::(assignEach es X.env).map (·.2):=by rfl):PGs X (e::es) (ZpL t u):=by
 intro pins s σ H vs us Q I r h
 obtain ⟨v,vr,e1,h⟩:=h
 subst e1
 cases r with
 | cons r rr =>
  rw [hs]
  refine assignInOrder_cons (thn (h1 pins s σ H _ _ _ I r h) fun _ s1 ⟨σ1,H1,I1,q1⟩=>?_)
  exact h2 pins s1 σ1 H1 _ _ Q I1 rr q1
def gTup(K:W.Frag)(n:Nat)(t:TGs):TG:=fun v σ H Q=>∃a xs,v=.ref a∧SqT K H a xs∧xs.length=n∧t xs σ H Q
theorem Zr2{es:List Expr}{k:Nat}{t:TGs}{n:Nat}(hc:X.calm=true)(h:PGs X es t)
  (hn:(assignEach es X.env).length=n:=by rfl) (hst:(assignEach es X.env).findIdx? (·.1)=none:=by rfl):PG X (.Tuple es k pos) (gTup X.K n t):=by
 intro pins s σ H v u Q I r hw
 obtain ⟨a,xs,e1,hq,hl,hw⟩:=hw
 subst e1
 cases r
 obtain ⟨its,rv,ht,hz⟩:=I.tuple hq
 refine assign_Tuple_tuple (I.ok.hd hc) ht (by simp [hn,←hl,rv.length]) hst fun h' hx=>?_
 have I1:Inv X pins σ H { s with heap:=h' }:=I.kept (t':=s.toks) fun b o e=>hx b o (Vah (Vae e)) e
 exact h pins _ σ H xs _ Q I1 (by simpa using rv) hw
def tAsg(te:TE)(g:TG):TS:=fun D σ H=>te σ H fun x H1=>g x σ H1 D.nx
theorem Zsx{tg e:Expr}{te:TE}{g:TG}(he:PE X e te)(hg:PG X tg g)(hs:swapsWithSole [tg] e pos.line X.env=pure false:=by rfl)(hw:swappedStores [tg] e X.env=pure none:=by rfl)
  (h1:(assignEach [tg] X.env).map (·.2)=[assign tg X.env]:=by rfl):PS X (.Assign [tg] e pos) (tAsg te g):=by
 intro pins s σ H D I h
 refine wpAny_Assign_stores (thn (he pins s σ H _ I h) fun v s1 ⟨x,H1,I1,r1,q1⟩=>?_) hs hw
 rw [h1]
 exact thn (hg pins s1 σ H1 x v _ I1 r1 q1) fun _ s2 q=>q
theorem ZlO{i:Nat}{x:Str}{e:Expr}{te:TE}{pos':Pos}(hN:X.N.Nodup)(hi:X.N[i]?=some x)(hx:Loc X.env.scope x)(he:PE X e te)(hs:swapsWith e (some (.Name x pos')) pos.line X.env=pure false:=by rfl)(hf:X.fn x=true∨X.env.scope.names.lookup x=some .local:=by first | exact .inl rfl | exact .inr rfl | assumption) :
  PS X (.Assign [.Name x pos'] e pos) (tAsg te (Zea i)):=by
 intro pins s σ H D I h
 refine wpAny_Assign_Name (thn (he pins s σ H _ I h) fun v s1 ⟨y,H1,I1,r1,q1⟩=>?_) hs
 exact Zd8 I1 hN hi hx r1 (fun s2 I2=>⟨_,H1,I2,q1⟩) hf
def tPar(i j:Nat)(ta:TA):TS:=fun D σ H=>ta σ H fun vs H1=>∃v w,vs=[v,w]∧D.nx ((σ.set i (some v)).set j (some w)) H1
theorem Zr0{i j:Nat}{x y:Str}{a b:Expr}{ta:TA}{px py pt:Pos}{kt k2 pt2}(hc:X.calm=true)(hN:X.N.Nodup)(hi:X.N[i]?=some x)(hj:X.N[j]?=some y)(hij:i≠j)
  (hx:X.env.scope.names.lookup x=some .local) (hy:X.env.scope.names.lookup y=some .local) (ha:PA X [a,b] ta)
  (hw:swappedStores [.Tuple [.Name x px,.Name y py] kt pt] (.Tuple [a,b] k2 pt2) X.env=pure (some [x,y]))
  (hs:swapsWithSole [.Tuple [.Name x px,.Name y py] kt pt] (.Tuple [a,b] k2 pt2) pos.line X.env=pure false:=by rfl) :
  PS X (.Assign [.Tuple [.Name x px,.Name y py] kt pt] (.Tuple [a,b] k2 pt2) pos) (tPar i j ta):=by
 intro pins s σ H D I h
 rw [exec_Assign_arm]
 refine Vaz (VaA ?_)
 rw [hs]
 refine Vaz (VaB ?_)
 rw [if_neg (by decide)]
 refine Vaz (Tuple_ (thn (ha _ pins s σ H _ I h) fun us s1 ⟨vs,H1,I1,r1,q1⟩=>?_))
 obtain ⟨v,w,e1,q1⟩:=q1
 subst e1
 obtain ⟨u1,u2,rfl,rv,rw'⟩ : ∃u1 u2,us=[u1,u2]∧RelV v u1∧RelV w u2:=by
  cases r1 with
  | cons p q =>
   cases q with
   | cons p' q' =>
    cases q'
    exact ⟨_,_,rfl,p,p'⟩
 refine VaC ?_ (by show 2≤sizeLine;decide)
 have I2:Inv X pins σ H1 { s1 with heap:=s1.heap.push { cls:=.type "tuple", data:=.seq [u1,u2].toArray } }:=I1.kept (t':=s1.toks) fun b o e=>VaD _ e
 rw [hw]
 refine Vaz (VaB ?_)
 show wpAny (model X.prog X.w) X.A (do rule "assign.swapped-stores"; let items ←unpackItems (.ref s1.heap.objs.size) 2 none;assignInOrder [fun v=>bindName X.env y v,fun v=>bindName X.env x v] items.reverse;pure Flow.next) _ _ _
 refine Vaz (wpAny_rule (Vaz (unpackItems_tuple (items:=#[u1,u2]) (I.ok.hd hc) (IsTup.new s1.heap _) fun h' hx'=>?_)))
 have I3:=I2.kept (h':=h') (t':=s1.toks) fun b o e=>hx' b o (Vah (Vae e)) e
 show wpAny _ _ (assignInOrder [fun v=>bindName X.env y v,fun v=>bindName X.env x v] [u2,u1] >>= fun _=>pure Flow.next) _ _ _
 refine Vaz (assignInOrder_cons (wpAny_bindName (Zd8 I3 hN hj (.inl hy) rw' (fun s2 I4=>?_) (.inr hy))))
 refine assignInOrder_cons (wpAny_bindName (Zd8 I4 hN hi (.inl hx) rv (fun s3 I5=>assignInOrder_nil (VaB ?_)) (.inr hx)))
 rw [List.set_comm _ _ (Ne.symm hij)] at I5
 exact ⟨_,H1,I5,q1⟩
end
section
variable{X:Cx}{pos:Pos}
def Zjj(c:TT)(tb:TS):TS:=fun D σ H=>∃W:Nat→St→Hp→Prop,(∃m,W m σ H)∧∀m σ H,W m σ H →
 c σ H fun b H1=>if b=true then ∃N:St→Hp→Prop,(∀σ' H',N σ' H'→∃m',m'<m∧W m' σ' H')∧tb { D with nx:=N,ct:=N,bk:=D.nx } σ H1 else D.nx σ H1
theorem ZmY{c:Expr}{body:List Stmt}{tc:TT}{tb:TS}(hp:PassesOwn (model X.prog X.w) X.A X.env X.xe)(hc:PT X c tc)(hb:PSs X body tb):PS X (.While c body [] pos) (Zjj tc tb):=by
 intro pins s σ H D I h
 obtain ⟨W,⟨m0,w0⟩,turn⟩:=h
 refine wpAny_While (codeAny_whileLoop (fun n s'=>∃σ' H',Inv X pins σ' H' s'∧W n σ' H') ?_ m0 ⟨σ,H,I,w0⟩)
 rintro n s1 ⟨σ1,H1,I1,w1⟩
 refine VaE hp (thn (hc pins s1 σ1 H1 _ I1 (turn n σ1 H1 w1)) fun b s2 ⟨H2,I2,q2⟩=>?_)
 cases b with
 | true =>
  obtain ⟨N,hN,q2⟩:=q2
  rw [if_pos rfl]
  refine VaE hp (thn (hb pins s2 σ1 H2 _ I2 q2) fun f s3 q3=>?_)
  cases f with
  | next =>
   obtain ⟨σ3,H3,I3,n3⟩:=q3
   obtain ⟨m',hm,w3⟩:=hN σ3 H3 n3
   exact ⟨m',hm,σ3,H3,I3,w3⟩
  | cont =>
   obtain ⟨σ3,H3,I3,n3⟩:=q3
   obtain ⟨m',hm,w3⟩:=hN σ3 H3 n3
   exact ⟨m',hm,σ3,H3,I3,w3⟩
  | brk=>exact q3
  | ret v=>exact q3
 | false =>
  rw [if_neg VaF]
  exact wpAny_execs_nil ⟨σ1,H2,I2,q2⟩
end
structure It where
 go:Nat→Hp→Prop
 yld:Nat→Hp→V→Hp→Prop
 stop:Nat→Hp→Prop
def FpOk(X:Cx)(pins:List (Addr×Obj))(H:Hp)(b:Addr):Prop :=
 H b=none∧b≠X.env.locals∧b∉X.fs∧(b∈X.ex∨X.s₀.heap.objs.size≤b)∧(∀x c,X.env.cells.lookup x=some c→c≠b)∧∀p∈X.pn++pins,p.1≠b
theorem Inv.fpOk{X:Cx}{pins:List (Addr×Obj)}{σ:St}{H H':Hp}{s:Shared}{b:Addr}(I:Inv X pins σ H s)(hb:s.heap.objs.size≤b)(hn:H' b=none):FpOk X pins H' b:=by
 refine ⟨hn,VaG (Vaf I.lt hb),I.nofs hb,.inr (Vak I.sz hb),fun x c e z=>?_,fun p hp z=>?_⟩
 ·obtain ⟨v,q⟩:=I.cell x c e
  exact absurd (Vaf q.lt (by rw [z];exact hb)) (Vag _)
 ·exact absurd (Vaf (Vae (I.pin p hp).1) (by rw [z];exact hb)) (Vag _)
structure Turn(P:Program)(w:World)(K:W.Frag)(tg:Expr)(J:It)(fp:List Addr)(it:Addr)(tn:Nat→Heap→Prop):Prop where
 mem:it∈fp
 obj:∀i h,tn i h→∀b∈fp,∃o,h.get? b=some o∧∀v,o.data≠.cell v
 keep:∀i h h',tn i h→(∀b∈fp,∀o,h.get? b=some o→h'.get? b=some o)→tn i h'
 item:∀(X:Cx),X.prog=P→X.w=w→X.K=K→X.calm=true→∀(i:Nat) (pins:List (Addr×Obj)) (s:Shared) (σ:St) (H:Hp) (E:Value→Shared→Prop),Inv X pins σ H s→(∀b∈fp,FpOk X pins H b)→tn i s.heap→J.go i H →
  wpAny (model P w) X.A (pyNext (.ref it)) (fun r s1=>∃u,r=some u ∧
   wpAny (model P w) X.A (letOwnedTupleGo tg (.ref it) u) (fun _ s2=>∃x H',Inv X pins σ H' s2∧RelV x u∧J.yld i H x H'∧tn (i+1) s2.heap∧∀b∈fp,H' b=none) E s1) E s
 done:∀(X:Cx),X.prog=P→X.w=w→X.K=K→X.calm=true→∀(i:Nat) (pins:List (Addr×Obj)) (s:Shared) (σ:St) (H:Hp) (E:Value→Shared→Prop),Inv X pins σ H s→(∀b∈fp,FpOk X pins H b)→tn i s.heap→J.stop i H →
  wpAny (model P w) X.A (pyNext (.ref it)) (fun r s1=>r=none∧Inv X pins σ H s1) E s
 self:∀(A:Around) (i:Nat) (s:Shared) (Q:Value→Shared→Prop) (E:Value→Shared→Prop),tn i s.heap→Q (.ref it) s→wpAny (model P w) A (pyIter (.ref it)) Q E s
abbrev TI:=St→Hp→(It→Hp→Prop)→Prop
def PIE(X:Cx)(pins:List (Addr×Obj))(σ:St)(tg:Expr)(R:It→Hp→Prop)(itv:Value)(s2:Shared):Prop :=
 ∃(it:Addr) (fp:List Addr) (tn:Nat→Heap→Prop) (J:It) (H':Hp),itv=.ref it∧Inv X pins σ H' s2∧Turn X.prog X.w X.K tg J fp it tn∧tn 0 s2.heap∧(∀b∈fp,FpOk X pins H' b)∧R J H'
def PI(X:Cx)(tg iter:Expr)(wi:TI):Prop :=
 ∀(pins:List (Addr×Obj)) (s:Shared) (σ:St) (H:Hp) (R:It→Hp→Prop),Inv X pins σ H s→wi σ H R →
  wpAny (model X.prog X.w) X.A (eval iter X.env) (fun v s1=>wpAny (model X.prog X.w) X.A (pyIter v) (PIE X pins σ tg R) X.xe s1) X.xe s
theorem ZoI{M:Model}{A:Around}{E:Value→Shared→Prop}{s:Shared}{tg:Expr}{it:Addr}{u:Value}{o:Obj}{n:String}{vs:Array Value}{Q:Unit→Shared→Prop}(ho:s.heap.get? it=some o)(hc:o.cls=.type n)(hd:o.data=.fields vs)
  (hn:["enumerate", "zip", "dict_itemiterator", "dict_reverseitemiterator", "odict_iterator", "itertools.zip_longest", "itertools.pairwise"].contains n=false) (hQ:Q () s):wpAny M A (letOwnedTupleGo tg (.ref it) u) Q E s:=by
 unfold letOwnedTupleGo
 cases tg<;>first
  | exact VaB hQ
  | (cases u<;>first
    | exact VaB hQ
    | (refine Vaz (wpAny_load ho ?_)
       rw [hc,hd]
       show wpAny M A (if (["enumerate", "zip", "dict_itemiterator", "dict_reverseitemiterator", "odict_iterator", "itertools.zip_longest", "itertools.pairwise"].contains n&&vs[0]?==some (rawInt _))=true then _ else _) Q E s
       rw [if_neg (by intro h;rw [hn,Bool.false_and] at h;cases h)]
       exact VaB hQ))
def Itl(K:W.Frag)(a:Addr):It :=
 ⟨fun i H=>∃xs x,SqL K H a xs∧xs[i]?=some x,fun i H x H'=>H'=H∧∀xs,SqL K H a xs→xs[i]?=some x,fun i H=>∃xs,SqL K H a xs∧xs.length≤i⟩
def Itt(K:W.Frag)(a:Addr):It :=
 ⟨fun i H=>∃xs x,SqT K H a xs∧xs[i]?=some x,fun i H x H'=>H'=H∧∀xs,SqT K H a xs→xs[i]?=some x,fun i H=>∃xs,SqT K H a xs∧xs.length≤i⟩
def Itr(lo:Int)(n:Nat):It:=⟨fun i _=>i<n,fun i H x H'=>H'=H∧x=.int (lo+i),fun i _=>n≤i⟩
theorem Zl7{P:Program}{w:World}{K:W.Frag}{tg:Expr}(a it:Addr):Turn P w K tg (Itl K a) [it] it (fun i h=>h.IsListIter it a i) where
 mem:=by simp
 obj:=fun i h st b hb=>by
  have e:b=it:=by simpa using hb
  subst e
  obtain ⟨o,e,c,d⟩:=st
  exact ⟨o,e,fun v z=>by rw [d] at z;cases z⟩
 keep:=fun i h h' st k=>st.at fun o e=>k it (by simp) o e
 item:=by
  intro X hP hw hK hc i pins s σ H E I hf st hg
  subst hP hw hK
  obtain ⟨xs,x,hq,hx⟩:=hg
  obtain ⟨its,rv,p,hz⟩:=I.list hq
  obtain ⟨u,hu,ru⟩:=rv.get hx
  obtain ⟨f0,f1,f2,f3,f4,f5⟩:=hf it (by simp)
  refine wpAny_pyNext_list_item st p.isList (x:=u) (by simpa using hu) fun h' st' sb=>?_
  have I1:Inv X pins σ H { s with heap:=h' }:=I.turned (t':=s.toks) (fun b o hb e=>(sb.2 b hb).trans e) f0 f1 f3 f4 f5
  obtain ⟨o,e,c,d⟩:=id st'
  exact ⟨u,rfl,ZoI (s:={ s with heap:=h' }) e c d (by decide) ⟨x,H,I1,ru,⟨rfl,fun ys hy=>by rw [I.list_inj hy hq];exact hx⟩,st',fun b hb=>(hf b hb).1⟩⟩
 done:=by
  intro X hP hw hK hc i pins s σ H E I hf st hg
  subst hP hw hK
  obtain ⟨xs,hq,hx⟩:=hg
  obtain ⟨its,rv,p,hz⟩:=I.list hq
  obtain ⟨f0,f1,f2,f3,f4,f5⟩:=hf it (by simp)
  have hl:=rv.length
  exact wpAny_pyNext_list_end (I.ok.hd hc) st p.isList (by simp;omega) fun h' eb=>⟨rfl,I.turned (t':=s.toks) (fun b o hb e=>eb b o hb e) f0 f1 f3 f4 f5⟩
 self:=fun _ _ _ _ _ st h=>wpAny_pyIter_listiter st h
theorem Zks{P:Program}{w:World}{K:W.Frag}{tg:Expr}(a it:Addr):Turn P w K tg (Itt K a) [it] it (fun i h=>h.IsTupleIter it a i) where
 mem:=by simp
 obj:=fun i h st b hb=>by
  have e:b=it:=by simpa using hb
  subst e
  obtain ⟨o,e,c,d⟩:=st
  exact ⟨o,e,fun v z=>by rw [d] at z;cases z⟩
 keep:=fun i h h' st k=>st.at fun o e=>k it (by simp) o e
 item:=by
  intro X hP hw hK hc i pins s σ H E I hf st hg
  subst hP hw hK
  obtain ⟨xs,x,hq,hx⟩:=hg
  obtain ⟨its,rv,p,hz⟩:=I.tuple hq
  obtain ⟨u,hu,ru⟩:=rv.get hx
  obtain ⟨f0,f1,f2,f3,f4,f5⟩:=hf it (by simp)
  refine wpAny_pyNext_tuple_item st (show s.heap.IsTuple a its.toArray from p) (x:=u) (by simpa using hu) fun h' st' sb=>?_
  have I1:Inv X pins σ H { s with heap:=h' }:=I.turned (t':=s.toks) (fun b o hb e=>(sb.2 b hb).trans e) f0 f1 f3 f4 f5
  obtain ⟨o,e,c,d⟩:=id st'
  exact ⟨u,rfl,ZoI (s:={ s with heap:=h' }) e c d (by decide) ⟨x,H,I1,ru,⟨rfl,fun ys hy=>by rw [I.tuple_inj hy hq];exact hx⟩,st',fun b hb=>(hf b hb).1⟩⟩
 done:=by
  intro X hP hw hK hc i pins s σ H E I hf st hg
  subst hP hw hK
  obtain ⟨xs,hq,hx⟩:=hg
  obtain ⟨its,rv,p,hz⟩:=I.tuple hq
  obtain ⟨f0,f1,f2,f3,f4,f5⟩:=hf it (by simp)
  have hl:=rv.length
  exact wpAny_pyNext_tuple_end (I.ok.hd hc) st (show s.heap.IsTuple a its.toArray from p) (by simp;omega) fun h' eb=>⟨rfl,I.turned (t':=s.toks) (fun b o hb e=>eb b o hb e) f0 f1 f3 f4 f5⟩
 self:=fun _ _ _ _ _ st h=>wpAny_pyIter_tupleiter st h
theorem Zkp{P:Program}{w:World}{K:W.Frag}{tg:Expr}(it:Addr)(lo:Int)(n:Nat):Turn P w K tg (Itr lo n) [it] it (fun i h=>IsRangeIter h it (lo+(i:Nat)*1) ((n:Int) - (i:Nat)) 1) where
 mem:=by simp
 obj:=fun i h st b hb=>by
  have e:b=it:=by simpa using hb
  subst e
  exact ⟨_,st,fun v z=>by
   have z':Data.fields _=Data.cell v:=z
   cases z'⟩
 keep:=fun i h h' st k=>k it (by simp) _ st
 item:=by
  intro X hP hw hK hc i pins s σ H E I hf st hg
  subst hP hw hK
  obtain ⟨f0,f1,f2,f3,f4,f5⟩:=hf it (by simp)
  have W:=Walks.range (prog:=X.prog) (w:=X.w) (I.ok.hd hc) it lo 1 n
  refine W.item i s _ _ hg st fun v h' tk hv st' kk=>?_
  obtain ⟨t,rfl⟩:=hv
  have I1:Inv X pins σ H { s with heap:=h',toks:=tk }:=I.turned (fun b o hb e=>kk b o (by simpa using hb) e) f0 f1 f3 f4 f5
  refine ⟨_,rfl,ZoI (s:={ s with heap:=h',toks:=tk }) (n := "range_iterator") st' rfl rfl (by decide) ⟨.int (lo+i),H,I1,⟨t,?_⟩,⟨rfl,rfl⟩,st',fun b hb=>(hf b hb).1⟩⟩
  rw [Int.mul_one]
 done:=by
  intro X hP hw hK hc i pins s σ H E I hf st hg
  subst hP hw hK
  obtain ⟨f0,f1,f2,f3,f4,f5⟩:=hf it (by simp)
  exact wpAny_pyNext_range_end (I.ok.hd hc) st (by have:n≤i:=hg;omega) fun h' eb=>⟨rfl,I.turned (t':=s.toks) (fun b o hb e=>eb b o hb e) f0 f1 f3 f4 f5⟩
 self:=fun _ _ _ _ _ st h=>wpAny_pyIter_rangeiter st h
section
variable{X:Cx}{tg:Expr}
theorem ZmP{pins:List (Addr×Obj)}{σ:St}{H:Hp}{s:Shared}{R:It→Hp→Prop}{E:Value→Shared→Prop}{lo hi:Int}{t u v:Tok}{tk:Nat}(I:Inv X pins σ H s)(h1:-(2^62)≤lo)(h2:lo<2^62)(h3:-(2^62)≤hi)(h4:hi<2^62)
  (q:R (Itr lo (hi - lo).toNat) H):wpAny (model X.prog X.w) X.A (pyIter (.ref s.heap.objs.size)) (PIE X pins σ tg R) E { s with heap:=s.heap.push { cls:=.type "range", data:=.fields #[.int lo t,.int hi u,.int 1 v] },toks:=tk }:=by
 refine wpAny_pyIter_range (IsRange.new ..) (small_one h1 h2 h3 h4) ?_
 have I1:Inv X pins σ H { s with heap:=s.heap.push { cls:=.type "range", data:=.fields #[.int lo t,.int hi u,.int 1 v] },toks:=tk }:=I.kept fun b o e=>VaD _ e
 refine ⟨(s.heap.push { cls:=.type "range", data:=.fields #[.int lo t,.int hi u,.int 1 v] }).objs.size,[(s.heap.push { cls:=.type "range", data:=.fields #[.int lo t,.int hi u,.int 1 v] }).objs.size],_,_,H,rfl,
  I1.kept (t':=tk) fun b o e=>VaD _ e,Zkp _ lo (hi - lo).toNat,?_,fun b hb=>?_,q⟩
 ·have e1:lo+((0:Nat):Int)*1=lo:=by simp
  have e2:(((hi - lo).toNat:Nat):Int) - ((0:Nat):Int)=Builtin.Range.rangeSize lo hi 1:=by rw [rangeSize_one];split<;>omega
  show IsRangeIter _ _ (lo+((0:Nat):Int)*1) ((((hi - lo).toNat:Nat):Int) - ((0:Nat):Int)) 1
  rw [e1,e2]
  exact VaH _ rfl
 ·have e:b=(s.heap.push { cls:=.type "range", data:=.fields #[.int lo t,.int hi u,.int 1 v] }).objs.size:=by simpa using hb
  subst e
  exact I1.fpOk (VaI _) (I1.hok.fresh (VaI _))
def ZoY(ta:TA):TI:=fun σ H R=>ta σ H fun vs H1=>∃j:Int,vs=[.int j]∧-(2^62)≤j∧j<2^62∧R (Itr 0 j.toNat) H1
theorem Zk8{a:Expr}{ta:TA}{p pos:Pos}(hg:Gl X "range")(hm:X.mg "range"=none)(ha:PA X [a] ta)(hs:starEach [a] X.env=[(false,eval a X.env)]:=by rfl):PI X tg (.Call (.Name "range" p) [a] [] pos) (ZoY ta):=by
 intro pins s σ H R I h
 refine Call_ (ZfL I hg hm boot_range (VaJ (thn (ha pos pins s σ H _ I h) fun us s1 ⟨vs,H1,I1,r1,q1⟩=>?_) hs rfl))
 obtain ⟨j,e,q1,q2,q⟩:=q1
 subst e
 cases r1 with
 | cons r rr =>
  cases rr
  obtain ⟨t,rfl⟩:=r
  exact call_range_1 (ZmP I1 (by omega) (by omega) q1 q2 (by simpa using q))
def tFor(wi:TI)(g:TG)(tb:TS):TS:=fun D σ H=>wi σ H fun J H1=>∃W:Nat→Nat→St→Hp→Prop,(∃m,W 0 m σ H1)∧∀i m σ H,W i m σ H →
 (J.stop i H∧D.nx σ H)∨(J.go i H∧∃N:St→Hp→Prop,(∀σ' H',N σ' H'→∃m',m'<m∧W (i+1) m' σ' H')∧∀x H',J.yld i H x H'→g x σ H' fun σ2 H2=>tb { D with nx:=N,ct:=N,bk:=D.nx } σ2 H2)
def ZjS(fp:List Addr)(h:Heap):List (Addr×Obj):=fp.filterMap fun b=>(h.get? b).map fun o=>(b,o)
theorem Zb0{fp:List Addr}{h:Heap}{b:Addr}{o:Obj}(hb:b∈fp)(e:h.get? b=some o):(b,o)∈ZjS fp h:=VaK.mpr ⟨b,hb,by rw [e];rfl⟩
theorem ZkE{fp:List Addr}{h:Heap}{p:Addr×Obj}(hp:p∈ZjS fp h):p.1∈fp∧h.get? p.1=some p.2:=by
 obtain ⟨b,hb,e⟩:=VaK.mp hp
 cases q:h.get? b with
 | none=>rw [q] at e;cases e
 | some o =>
  rw [q] at e
  have e':(b,o)=p:=Vav e
  subst e'
  exact ⟨hb,q⟩
theorem Inv.pinned{pins:List (Addr×Obj)}{σ:St}{H:Hp}{s:Shared}{fp:List Addr}(I:Inv X pins σ H s)(hf:∀b∈fp,FpOk X pins H b)(ho:∀b∈fp,∃o,s.heap.get? b=some o∧∀v,o.data≠.cell v):Inv X (pins++ZjS fp s.heap) σ H s :=
 I.pins_of fun p hp=>(Vas.mp hp).elim (fun z=>I.pin p (VaL _ z)) fun z=>by
  obtain ⟨hb,e⟩:=ZkE z
  obtain ⟨f0,f1,f2,_⟩:=hf p.1 hb
  obtain ⟨o,e',d⟩:=ho p.1 hb
  rw [e] at e';cases e'
  exact ⟨e,f0,f1,f2,d⟩
theorem Inv.unpinned{pins pl:List (Addr×Obj)}{σ:St}{H:Hp}{s:Shared}(I:Inv X (pins++pl) σ H s):Inv X pins σ H s:=I.pins_of fun p hp=>I.pin p (VaL _ (Vat _ hp))
theorem Zs5{iter:Expr}{body:List Stmt}{wi:TI}{g:TG}{tb:TS}{pos:Pos}(hp:PassesOwn (model X.prog X.w) X.A X.env X.xe)(hc:X.calm=true)(hi:PI X tg iter wi)(hg:PG X tg g)(hb:PSs X body tb)
  (hs:∀x,foldedSetIterable iter X.env x=pure x:=by intro _;rfl):PS X (.For tg iter body [] pos) (tFor wi g tb):=by
 intro pins s σ H D I h
 refine wpAny_For (thn (hi pins s σ H _ I h) fun v s1 h1=>thn h1 fun itv s2 h2=>?_) hs
 obtain ⟨it,fp,tn,J,H2,e,I2,T,st2,f2,W,⟨m0,w0⟩,turn⟩:=h2
 subst e
 have stat:∀{H':Hp},(∀b∈fp,H' b=none)→∀b∈fp,FpOk X pins H' b:=fun hn b hb=>⟨hn b hb,(f2 b hb).2⟩
 refine codeAny_forLoop_any (fun n s'=>∃i σ' H',Inv X pins σ' H' s'∧tn i s'.heap∧(∀b∈fp,H' b=none)∧W i n σ' H') ?_ m0 ⟨0,σ,H2,I2,st2,fun b hb=>(f2 b hb).1,w0⟩
 rintro n s3 ⟨i,σ3,H3,I3,st3,fr3,w3⟩
 rcases turn i n σ3 H3 w3 with ⟨stop,qn⟩ | ⟨go,N,hN,step⟩
 ·refine VaE hp (thn (T.done X rfl rfl rfl hc i pins s3 σ3 H3 X.xe I3 (stat fr3) st3 stop) fun r s4 ⟨hr,I4⟩=>?_)
  subst hr
  exact wpAny_execs_nil ⟨σ3,H3,I4,qn⟩
 ·refine VaE hp (thn (T.item X rfl rfl rfl hc i pins s3 σ3 H3 X.xe I3 (stat fr3) st3 go) fun r s4 ⟨u,hr,h4⟩=>?_)
  subst hr
  refine VaE hp (thn h4 fun _ s5 ⟨x,H5,I5,r5,y5,st5,fr5⟩=>?_)
  have I5':=I5.pinned (stat fr5) (T.obj _ _ st5)
  refine VaE hp (thn (hg _ s5 σ3 H5 x u _ I5' r5 (step x H5 y5)) fun _ s6 ⟨σ6,H6,I6,q6⟩=>?_)
  refine VaE hp (thn (hb _ s6 σ6 H6 _ I6 q6) fun f s7 q7=>?_)
  have again:∀{σ7:St} {H7:Hp},Inv X (pins++ZjS fp s5.heap) σ7 H7 s7→N σ7 H7→∃m,m<n∧∃i σ' H',Inv X pins σ' H' s7∧tn i s7.heap∧(∀b∈fp,H' b=none)∧W i m σ' H':=fun {σ7 H7} I7 n7=>by
   obtain ⟨m',hm,w7⟩:=hN σ7 H7 n7
   refine ⟨m',hm,i+1,σ7,H7,I7.unpinned,T.keep _ _ _ st5 fun b hb o e=>(I7.pin (b,o) (VaL _ (VaL _ (Zb0 hb e)))).1,fun b hb=>?_,w7⟩
   obtain ⟨o,e,d⟩:=T.obj _ _ st5 b hb
   exact (I7.pin (b,o) (VaL _ (VaL _ (Zb0 hb e)))).2.1
  cases f with
  | next=>obtain ⟨σ7,H7,I7,n7⟩:=q7;exact again I7 n7
  | cont=>obtain ⟨σ7,H7,I7,n7⟩:=q7;exact again I7 n7
  | brk=>obtain ⟨σ7,H7,I7,q7⟩:=q7;exact ⟨σ7,H7,I7.unpinned,q7⟩
  | ret v=>obtain ⟨x7,σ7,H7,I7,r7,q7⟩:=q7;exact ⟨x7,σ7,H7,I7.unpinned,r7,q7⟩
end
abbrev R2:=V→V→Hp→VK→Prop
def OpR(X:Cx)(f:Value→Value→Sem Value)(r:R2):Prop :=
 ∀(pins:List (Addr×Obj)) (s:Shared) (σ:St) (H:Hp) (x y:V) (v u:Value) (Q:VK),Inv X pins σ H s→RelV x v→RelV y u→r x y H Q →
  wpAny (model X.prog X.w) X.A (f v u) (EP X pins σ Q) X.xe s
def UnR(X:Cx)(f:Value→Sem Value)(r:V→Hp→VK→Prop):Prop :=
 ∀(pins:List (Addr×Obj)) (s:Shared) (σ:St) (H:Hp) (x:V) (v:Value) (Q:VK),Inv X pins σ H s→RelV x v→r x H Q →
  wpAny (model X.prog X.w) X.A (f v) (EP X pins σ Q) X.xe s
def Zet(X:Cx)(f:Value)(r:List V→Hp→VK→Prop):Prop :=
 ∀(pins:List (Addr×Obj)) (s:Shared) (σ:St) (H:Hp) (xs:List V) (us:List Value) (Q:VK),Inv X pins σ H s→Vals xs us→r xs H Q →
  wpAny (model X.prog X.w) X.A (call f us) (EP X pins σ Q) X.xe s
def tOp(r:R2)(ta tb:TE):TE:=fun σ H Q=>ta σ H fun x H1=>tb σ H1 fun y H2=>r x y H2 Q
def tUn(r:V→Hp→VK→Prop)(ta:TE):TE:=fun σ H Q=>ta σ H fun x H1=>r x H1 Q
def rI(C:Int→Int→Prop)(g:Int→Int→V):R2:=fun x y H Q=>∃i j,x=.int i∧y=.int j∧C i j∧Q (g i j) H
def rI0(g:Int→Int→V):R2:=fun x y H Q=>∃i j,x=.int i∧y=.int j∧Q (g i j) H
def rU(g:Int→V):V→Hp→VK→Prop:=fun x H Q=>∃i,x=.int i∧Q (g i) H
section
variable{X:Cx}{a b c:Expr}{ta tb tc:TE}{pos:Pos}
theorem binT(ha:PE X a ta)(hb:PE X b tb){pins:List (Addr×Obj)}{s:Shared}{σ:St}{H:Hp}{R:V→V→Hp→Prop}(I:Inv X pins σ H s)
  (h:ta σ H fun x H1=>tb σ H1 fun y H2=>R x y H2) {Q:Value→Shared→Prop} {f:Value→Value→Sem Value}
  (hf:∀v u s2 x y H2,Inv X pins σ H2 s2→RelV x v→RelV y u→R x y H2→wpAny (model X.prog X.w) X.A (f v u) Q X.xe s2) :
  wpAny (model X.prog X.w) X.A (eval a X.env) (fun v s₁=>wpAny (model X.prog X.w) X.A (eval b X.env) (fun u s₂=>wpAny (model X.prog X.w) X.A (f v u) Q X.xe s₂) X.xe s₁) X.xe s:=by
 refine thn (ha pins s σ H _ I h) fun v s1 ⟨x,H1,I1,r1,q1⟩=>?_
 refine thn (hb pins s1 σ H1 _ I1 q1) fun u s2 ⟨y,H2,I2,r2,q2⟩=>?_
 exact hf v u s2 x y H2 I2 r1 r2 q2
theorem ZtD{op:Operator}{r:R2}(ho:OpR X (binaryOp op) r)(ha:PE X a ta)(hb:PE X b tb):PE X (.BinOp a op b pos) (tOp r ta tb):=by
 intro pins s σ H Q I h
 exact wpAny_BinOp (binT ha hb I h fun v u s2 x y H2 I2 rx ry q=>ho pins s2 σ H2 x y v u Q I2 rx ry q)
theorem Zus{op:UnaryOp}{r:V→Hp→VK→Prop}(ho:UnR X (unaryOp op) r)(ha:PE X a ta):PE X (.UnaryOp op a pos) (tUn r ta):=by
 intro pins s σ H Q I h
 exact UnaryOp_ (thn (ha pins s σ H _ I h) fun v s1 ⟨x,H1,I1,r1,q1⟩=>ho pins s1 σ H1 x v Q I1 r1 q1)
theorem opI{f:Value→Value→Sem Value}{C:Int→Int→Prop}{g:Int→Int→Int}
  (rule:∀(i j:Int) (t u:Tok) (s:Shared) (Q:Value→Shared→Prop) (E:Value→Shared→Prop),C i j→Q (.int (g i j) s.toks) { s with toks:=s.toks+1 }→wpAny (model X.prog X.w) X.A (f (.int i t) (.int j u)) Q E s) :
  OpR X f (rI C fun i j=>.int (g i j)):=by
 intro pins s σ H x y v u Q I rx ry h
 obtain ⟨i,j,rfl,rfl,hc,q⟩:=h
 obtain ⟨t,rfl⟩:=rx
 obtain ⟨t',rfl⟩:=ry
 exact rule i j t t' s _ _ hc ⟨.int (g i j),H,I.tok _,⟨_,rfl⟩,q⟩
theorem opI0{f:Value→Value→Sem Value}{g:Int→Int→Int}
  (rule:∀(i j:Int) (t u:Tok) (s:Shared) (Q:Value→Shared→Prop) (E:Value→Shared→Prop),Q (.int (g i j) s.toks) { s with toks:=s.toks+1 }→wpAny (model X.prog X.w) X.A (f (.int i t) (.int j u)) Q E s) :
  OpR X f (rI0 fun i j=>.int (g i j)):=by
 intro pins s σ H x y v u Q I rx ry h
 obtain ⟨i,j,rfl,rfl,q⟩:=h
 obtain ⟨t,rfl⟩:=rx
 obtain ⟨t',rfl⟩:=ry
 exact rule i j t t' s _ _ ⟨.int (g i j),H,I.tok _,⟨_,rfl⟩,q⟩
theorem opB0{f:Value→Value→Sem Value}{g:Int→Int→Bool}
  (rule:∀(i j:Int) (t u:Tok) (s:Shared) (Q:Value→Shared→Prop) (E:Value→Shared→Prop),Q (.bool (g i j)) s→wpAny (model X.prog X.w) X.A (f (.int i t) (.int j u)) Q E s) :
  OpR X f (rI0 fun i j=>.bl (g i j)):=by
 intro pins s σ H x y v u Q I rx ry h
 obtain ⟨i,j,rfl,rfl,q⟩:=h
 obtain ⟨t,rfl⟩:=rx
 obtain ⟨t',rfl⟩:=ry
 exact rule i j t t' s _ _ ⟨.bl (g i j),H,I,rfl,q⟩
def CPow(i j:Int):Prop:=0≤j∧j≤1000000∧i.natAbs<2^64
theorem Zke(k:Nat):(0:Int)≤2^k:=by
 rw [two_pow_cast]
 exact Int.natCast_nonneg _
theorem Zri:OpR X (binaryOp .Add) (rI0 fun i j=>.int (i+j)):=opI0 fun _ _ _ _ _ _ _ q=>add_int q
theorem Zrt:OpR X (binaryOp .Sub) (rI0 fun i j=>.int (i - j)):=opI0 fun _ _ _ _ _ _ _ q=>sub_int q
theorem Zpk:OpR X (binaryOp .Mod) (rI (fun _ j=>j≠0) fun i j=>.int (i.fmod j)):=opI fun _ _ _ _ _ _ _ hc q=>mod_int' hc q
theorem ZrK:OpR X (binaryOp .Pow) (rI CPow fun i j=>.int (i^j.toNat)):=opI fun _ _ _ _ _ _ _ hc q=>pow_int_small hc.1 hc.2.1 hc.2.2 q
theorem Zs9:OpR X (binaryOp .LShift) (rI CPow fun i j=>.int (i*2^j.toNat)):=opI fun _ _ _ _ _ _ _ hc q=>lshift_int_small hc.1 hc.2.1 hc.2.2 q
theorem Ztt:OpR X (binaryOp .RShift) (rI (fun _ j=>0≤j) fun i j=>.int (i/2^j.toNat)):=opI fun i j _ _ _ _ _ hc q =>
 rshift_int hc (by rw [VaM i (Zke _)];exact q)
theorem unI{f:Value→Sem Value}{g:Int→Int}
  (rule:∀(i:Int) (t:Tok) (s:Shared) (Q:Value→Shared→Prop) (E:Value→Shared→Prop),Q (.int (g i) s.toks) { s with toks:=s.toks+1 }→wpAny (model X.prog X.w) X.A (f (.int i t)) Q E s) :
  UnR X f (rU fun i=>.int (g i)):=by
 intro pins s σ H x v Q I rx h
 obtain ⟨i,rfl,q⟩:=h
 obtain ⟨t,rfl⟩:=rx
 exact rule i t s _ _ ⟨.int (g i),H,I.tok _,⟨_,rfl⟩,q⟩
theorem Ztk:UnR X (unaryOp .USub) (rU fun i=>.int (-i)):=unI fun _ _ _ _ _ q=>neg_int q
end
section
variable{X:Cx}{a b c:Expr}{ta tb tc:TE}{pos:Pos}
theorem ZjM{pins:List (Addr×Obj)}{σ:St}{H:Hp}{s:Shared}{Q:VK}{k k':Bool}(I:Inv X pins σ H s)(q:Q (.bl k) H)(e:k=k'):EP X pins σ Q (.bool k') s:=by
 subst e
 exact ⟨.bl k,H,I,rfl,q⟩
theorem Zru:OpR X (compareOp .Lt) (rI0 fun i j=>.bl (decide (i<j))):=opB0 fun _ _ _ _ _ _ _ q=>lt_int q
theorem ZrJ:OpR X (compareOp .LtE) (rI0 fun i j=>.bl (decide (i≤j))):=opB0 fun _ _ _ _ _ _ _ q=>le_int q
theorem Zuz:OpR X (compareOp .Gt) (rI0 fun i j=>.bl (decide (j<i))):=opB0 fun _ _ _ _ _ _ _ q=>gt_int q
theorem Zs1:OpR X (compareOp .GtE) (rI0 fun i j=>.bl (decide (j≤i))):=opB0 fun _ _ _ _ _ _ _ q=>ge_int q
theorem Zn9:OpR X (compareOp .Is) (fun x y H Q=>y=.non∧Q (.bl (decide (x=.non))) H):=by
 intro pins s σ H x y v u Q I rx ry h
 obtain ⟨rfl,q⟩:=h
 cases ry
 refine is_none_gen (ZjM I q ?_)
 cases x<;>first
  | (cases rx;rfl)
  | (obtain ⟨t,rfl⟩:=rx;rfl)
theorem Zqm:OpR X (compareOp .IsNot) (fun x y H Q=>y=.non∧Q (.bl (!decide (x=.non))) H):=by
 intro pins s σ H x y v u Q I rx ry h
 obtain ⟨rfl,q⟩:=h
 cases ry
 refine isnot_none_gen (ZjM I q ?_)
 cases x<;>first
  | (cases rx;rfl)
  | (obtain ⟨t,rfl⟩:=rx;rfl)
theorem ZcC(b:Expr){op:CmpOp}(h:op≠.In:=by decide)(h2:op≠.NotIn:=by decide):behindInMarks op b=false:=by
 have e1:(op==CmpOp.In)=false:=by cases op<;>first | rfl | exact absurd rfl h
 have e2:(op==CmpOp.NotIn)=false:=by cases op<;>first | rfl | exact absurd rfl h2
 cases b<;>simp [behindInMarks,e1,e2]
theorem Zlr{op:CmpOp}{r:R2}(ho:OpR X (compareOp op) r)(ha:PE X a ta)(hb:PE X b tb)(hm:behindInMarks op b=false):PE X (.Compare a [op] [b] pos) (tOp r ta tb):=by
 intro pins s σ H Q I h
 exact wpAny_Compare1 (binT ha hb I h fun v u s2 x y H2 I2 rx ry q=>ho pins s2 σ H2 x y v u Q I2 rx ry q) hm
def Zff(t:TE):TT:=fun σ H Q=>t σ H fun x H'=>∃k,x=.bl k∧Q k H'
theorem ZiN{op:CmpOp}{r:R2}(ho:OpR X (compareOp op) r)(ha:PE X a ta)(hb:PE X b tb)(hm:behindInMarks op b=false):PT X (.Compare a [op] [b] pos) (Zff (tOp r ta tb)):=by
 intro pins s σ H Q I h
 refine wpAny_isTrue_Compare1 (thn (ha pins s σ H _ I h) fun v s1 ⟨x,H1,I1,r1,q1⟩=>thn (hb pins s1 σ H1 _ I1 q1) fun u s2 ⟨y,H2,I2,r2,q2⟩ =>
  thn (ho pins s2 σ H2 x y v u _ I2 r1 r2 q2) fun c s3 ⟨z,H3,I3,r3,k,e,q3⟩=>?_) hm
 subst e
 cases r3
 exact wpAny_truthy_bool ⟨H3,I3,q3⟩
theorem ZlB:(sizeLine:Nat)<2^63:=by rw [sizeLine_eq];decide
theorem Zkn:OpR X (binaryOp .Add) (fun x y H Q=>∃i j,x=.str i∧y=.str j∧i.length+j.length≤sizeLine∧Q (.str (i++j)) H):=by
 intro pins s σ H x y v u Q I rx ry h
 obtain ⟨i,j,rfl,rfl,hz,q⟩:=h
 obtain ⟨t,rfl⟩:=rx
 obtain ⟨t',rfl⟩:=ry
 exact add_str (fun t' tk=>⟨.str (i++j),H,I.tok _,⟨_,rfl⟩,q⟩) hz
theorem vals1{x:V}{us:List Value}(r:Vals [x] us):∃u,us=[u]∧RelV x u:=by
 cases r with
 | cons r1 r2=>cases r2;exact ⟨_,rfl,r1⟩
theorem vals2{x y:V}{us:List Value}(r:Vals [x,y] us):∃u w',us=[u,w']∧RelV x u∧RelV y w':=by
 cases r with
 | cons r1 r2 =>
  cases r2 with
  | cons r3 r4=>cases r4;exact ⟨_,_,rfl,r1,r3⟩
theorem Znp:Zet X (.builtin "abs") (fun xs H Q=>∃i,xs=[.int i]∧Q (.int (if i<0 then -i else i)) H):=by
 intro pins s σ H xs us Q I r h
 obtain ⟨i,rfl,q⟩:=h
 obtain ⟨u,rfl,t,rfl⟩:=vals1 r
 exact call_abs_int fun u tk=>⟨.int (if i<0 then -i else i),H,I.tok _,⟨_,rfl⟩,q⟩
theorem Zk9(hc:X.calm=true):Zet X (.builtin "min") (fun xs H Q=>∃i j,xs=[.int i,.int j]∧Q (.int (if j<i then j else i)) H):=by
 intro pins s σ H xs us Q I r h
 obtain ⟨i,j,rfl,q⟩:=h
 obtain ⟨u,w',rfl,⟨t,rfl⟩,⟨t',rfl⟩⟩:=vals2 r
 refine min_two_ints (I.ok.hd hc) fun h' tk k=>⟨_,H,I.kept k,?_,q⟩
 by_cases hj:j<i
 ·rw [if_pos hj,if_pos hj];exact ⟨_,rfl⟩
 ·rw [if_neg hj,if_neg hj];exact ⟨_,rfl⟩
theorem Zmz:Zet X (.type "int") (fun xs H Q=>(∃i,xs=[.int i]∧Q (.int i) H)∨∃k,xs=[.bl k]∧Q (.int (if k then 1 else 0)) H):=by
 intro pins s σ H xs us Q I r h
 rcases h with ⟨i,rfl,q⟩ | ⟨k,rfl,q⟩
 ·obtain ⟨u,rfl,t,rfl⟩:=vals1 r
  exact call_int_int ⟨.int i,H,I,⟨_,rfl⟩,q⟩
 ·obtain ⟨u,rfl,r1⟩:=vals1 r
  cases r1
  exact call_int_bool ⟨.int (if k then 1 else 0),H,I.tok _,⟨_,rfl⟩,q⟩
end
structure ObjM(h:Heap)(x dx C:Addr)(mA:Str→Option Value):Prop where
 obj:h.get? x=some (W.instObj C dx)
 ns:h.Ns1 dx mA
 ne:dx≠x
theorem Zla{h:Heap}{dx:Addr}{mA:Str→Option Value}(n:h.Ns1 dx mA):∃od,h.get? dx=some od∧∀name,W.lookIn name od=some (mA name):=by
 obtain ⟨o,es,ep,ho,hd,hk,_,hm⟩:=n
 refine ⟨o,ho,fun name=>?_⟩
 have e:=hm name
 unfold nsFind findBy at e
 rw [←Array.find?_toList] at e
 unfold W.lookIn
 rw [hd]
 dsimp only
 split
 ·rename_i y q
  rw [q] at e
  exact Vay some e
 ·rename_i q
  rw [q] at e
  have a:es.toList.any (·.refKey)=false:=by
   rw [List.any_eq_false]
   intro y hy
   obtain ⟨z,t,hkey⟩:=hk y (Array.mem_toList_iff.mp hy)
   simp [DictEntry.refKey,hkey]
  have a':¬es.toList.any (·.refKey)=true:=by rw [a];exact VaF
  rw [if_neg a']
  exact Vay some e
theorem ObjM.look{h:Heap}{x dx C:Addr}{mA:Str→Option Value}(I:ObjM h x dx C mA):∃od,W.InstAt h x (W.instObj C dx) C (some od)∧∀name,W.lookIn name od=some (mA name) :=
 let ⟨od,ho,hl⟩:=Zla I.ns
 ⟨od,⟨I.obj,rfl,rfl,ho⟩,hl⟩
section
variable{prog:Program}{w:World}{A:Around}{E:Value→Shared→Prop}{s:Shared}{K:W.Frag}{x dx C f:Addr}{mA:Str→Option Value}{name:Str}{v:Value}
theorem ZpA{expr:Bool}{Q:Value→Shared→Prop}(X:K.In s.heap)(I:ObjM s.heap x dx C mA)(hg:W.plainGet K C name=true)(hh:W.hasDictIn K C=true)
  (ha:W.findIn K (.ref C) name=some none) (hv:mA name=some v) (hv':W.handedIn v=true) (h:Q v { s with toks:=s.toks+1 }) :
  wpAny (model prog w) A (getAttr (.ref x) name expr) Q E s:=by
 obtain ⟨od,J,hl⟩:=I.look
 exact W.get_value X J (W.plainGet_of hg).1 (W.findObj_own hh ha rfl (by rw [hl,hv])) hv' h
theorem ZnB{pl:Sem Bool}{Q:Value×List Value→Shared→Prop}(X:K.In s.heap)(I:ObjM s.heap x dx C mA)(hg:W.plainGet K C name=true)
  (hf:W.findIn K (.ref C) name=some (some (.ref f))) (ht:W.isFn K (.ref f)=true) (hv:mA name=none) (h:Q (.ref f,[.ref x]) s) :
  wpAny (model prog w) A (getMethod (.ref x) name pl) Q E s:=by
 obtain ⟨od,J,hl⟩:=I.look
 exact W.method_fn X J (W.plainGet_of hg).1 (W.plainGet_of hg).2 hf (VaN.mp ht) (by show (W.lookIn name od).map (·.isSome)=some false;rw [hl,hv];rfl) h
theorem Zpr{ns:List Str}{Q:Unit→Shared→Prop}(X:K.In s.heap)(I:ObjM s.heap x dx C mA)
  (hs:W.findIn K (.ref C) "__setattr__"=some (some (.builtin "object.__setattr__"))) (hp:W.plainOver K C=true) (ht:W.takerIn K C name=some none) (hh:W.hasDictIn K C=true)
  (hw:PySem.Within mA ns) (hsz:ns.length≤sizeLine)
  (h:∀h',ObjM h' x dx C (fun y=>if y=name then some v else mA y)→Heap.SameBut dx s.heap h'→Q () { s with heap:=h',toks:=s.toks+2 }) :
  wpAny (model prog w) A (setAttr (.ref x) name v) Q E s:=by
 obtain ⟨od,J,hl⟩:=I.look
 refine W.set_plain X J hs (W.osa_open (s:={ s with toks:=s.toks+1 }) (r:=none) X J hp ht fun b=>?_)
 obtain ⟨cd,hc,hd'⟩:=W.any_some hh
 have hx:s.heap.get? x=some ⟨.ref C,some dx,.plain,#[]⟩:=I.obj
 refine Vaz (VaB (Vaz (Vaz (wpAny_loadPart hx (Vaz (W.Looks.here (s:={ s with toks:=s.toks+1 }) (W.looks_clsIn X hc) ?_))))))
 rw [hd']
 refine VaB (a:=some dx) (Vaz (VaB (Vaz ?_)))
 refine wpAny_nsSet1 (s:={ s with toks:=s.toks+1 }) I.ns fun h' hn2 hs2=>?_
 obtain ⟨oD,esD,epD,hoD,hdD,hcD⟩:=hn2.count (PySem.Within.cons name v hw)
 refine Vaz (wpAny_lookBehind hoD (by rw [hdD];exact pastItsLine_dict (Vak hcD (by rw [VaO];omega))) ?_)
 exact VaB (h _ ⟨(hs2.2 _ (Ne.symm I.ne)).trans I.obj,hn2,I.ne⟩ hs2)
theorem Znd{R:Result→Shared→Prop}{vs:List Value}{kw:List (Str×Value)}(X:K.In s.heap)(hm:W.makesIn K C=true)
  (hi:W.findIn K (.ref C) "__init__"=some (some (.ref f))) (hf:W.typeIn K (.ref f)=some (.type "function"))
  (h:codeAny (model prog w) (A.under (.builtin "type.__call__" ⟨.ref C::vs,kw⟩)) (.call (.ref f) ⟨.ref (s.heap.objs.size+1)::vs,kw⟩) (W.InitBack (s.heap.objs.size+1) R)
   { s with heap:=(s.heap.push W.emptyDict).push (W.instObj C s.heap.objs.size) }) :
  codeAny (model prog w) A (.call (.ref C) ⟨vs,kw⟩) R s:=by
 obtain ⟨hh,g,d,t,os⟩:=s
 exact W.make_core (W.makes_of X hm) (W.looks_findIn X hi) (fun self=>W.bind_fn X self hf) (.inl rfl) h
end
def putF(f:Str)(v:V):List (Str×V)→List (Str×V)
 | []=>[(f,v)]
 | (g,x)::r=>if g=f then (g,v)::r else (g,x)::putF f v r
theorem Zfy(f g:Str)(v:V):∀fs:List (Str×V),(putF f v fs).lookup g=if g=f then some v else fs.lookup g
 | []=>by
  show List.lookup g [(f,v)]=_
  by_cases h:g=f
  ·have hb:(g==f)=true:=VaN.mpr h
   simp only [List.lookup,hb,if_pos h]
  ·have hb:(g==f)=false:=Vad.mpr h
   simp only [List.lookup,hb,if_neg h]
 | (k,x)::r=>by
  have ih:=Zfy f g v r
  rw [show putF f v ((k,x)::r)=(if k=f then (k,v)::r else (k,x)::putF f v r) from rfl]
  by_cases hk:k=f
  ·rw [if_pos hk]
   by_cases h:g=k
   ·have hb:(g==k)=true:=VaN.mpr h
    simp only [List.lookup,hb,if_pos (h.trans hk)]
   ·have hb:(g==k)=false:=Vad.mpr h
    simp only [List.lookup,hb,if_neg (fun e:g=f=>h (e.trans hk.symm))]
  ·rw [if_neg hk]
   by_cases h:g=k
   ·have hb:(g==k)=true:=VaN.mpr h
    simp only [List.lookup,hb,if_neg (fun e:g=f=>hk (h.symm.trans e))]
   ·have hb:(g==k)=false:=Vad.mpr h
    simp only [List.lookup,hb]
    exact ih
theorem ZfC(f:Str)(v:V):∀fs:List (Str×V),f∈(putF f v fs).map (·.1)∧∀g,g∈fs.map (·.1)→g∈(putF f v fs).map (·.1)
 | []=>⟨by simp [putF],fun g h=>by simp at h⟩
 | (k,x)::r=>by
  obtain ⟨i1,i2⟩:=ZfC f v r
  rw [show putF f v ((k,x)::r)=(if k=f then (k,v)::r else (k,x)::putF f v r) from rfl]
  by_cases hk:k=f
  ·rw [if_pos hk]
   subst hk
   exact ⟨by simp,fun g h=>by simpa using h⟩
  ·rw [if_neg hk]
   refine ⟨?_,fun g h=>?_⟩
   ·rw [VaP]
    exact Vap _ i1
   ·rw [VaP] at h ⊢
    rcases Var.mp h with e | e
    ·exact Var.mpr (.inl e)
    ·exact Vap _ (i2 g e)
theorem Zgc(f:Str)(v:V):∀fs:List (Str×V),(putF f v fs).length≤fs.length+1
 | []=>by simp [putF]
 | (k,x)::r=>by
  have ih:=Zgc f v r
  rw [show putF f v ((k,x)::r)=(if k=f then (k,v)::r else (k,x)::putF f v r) from rfl]
  by_cases hk:k=f
  ·rw [if_pos hk,VaO,VaO];omega
  ·rw [if_neg hk,VaO,VaO];omega
theorem RelO.some_of{v:V}{o:Option Value}(r:RelO (some v) o):∃u,o=some u∧RelV v u:=by
 cases o with
 | none=>exact (show False from r).elim
 | some u=>exact ⟨u,rfl,r⟩
theorem RelO.none_of{o:Option Value}(r:RelO none o):o=none:=by
 cases o with
 | none=>rfl
 | some u=>exact (show False from r).elim
theorem ZlG{v:V}{u:Value}(r:RelV v u):W.handedIn u=true:=by
 cases v with
 | non=>cases (show u=Value.none from r);rfl
 | bl b=>cases (show u=Value.bool b from r);rfl
 | int i=>obtain ⟨t,e⟩:=(show ∃t,u=Value.int i t from r);cases e;rfl
 | str x=>obtain ⟨t,e⟩:=(show ∃t,u=Value.str x t from r);cases e;rfl
 | byt b=>obtain ⟨t,e⟩:=(show ∃t,u=Value.bytes b t from r);cases e;rfl
 | flt b=>obtain ⟨t,e⟩:=(show ∃t,u=Value.float b t from r);cases e;rfl
 | ref a=>cases (show u=Value.ref a from r);rfl
 | ty n=>cases (show u=Value.type n from r);rfl
section
variable{P:Program}{w:World}{H H':Hp}{h h':Heap}{a C dx:Addr}{fs fs':List (Str×V)}
theorem Zg9(hok:HOk P w H h)(e:H a=some (.ins C dx fs)):∃mA,ObjM h a dx C mA∧(∀f,RelO (fs.lookup f) (mA f))∧PySem.Within mA (fs.map (·.1))∧fs.length≤1000∧H dx=some (.own a):=by
 obtain ⟨d,z,ne,ob,mA,n,r,q⟩:=(show ZbX P w H h a (.ins C dx fs) from hok a _ e)
 exact ⟨mA,⟨ob,n,ne⟩,r,q,z,d⟩
end
structure Cls(K:W.Frag)(C:Addr):Prop where
 pg:W.plainGet K C Str.empty=true
 hd:W.hasDictIn K C=true
 po:W.plainOver K C=true
 sa:W.findIn K (.ref C) "__setattr__"=some (some (.builtin "object.__setattr__"))
theorem Cls.get{K:W.Frag}{C:Addr}(c:Cls K C)(f:Str):W.plainGet K C f=true:=c.pg
def ZdC(K:W.Frag)(C:Addr)(f:Str):Prop:=W.findIn K (.ref C) f=some none
theorem ZdC.taker{K:W.Frag}{C:Addr}{f:Str}(n:ZdC K C f):W.takerIn K C f=some none:=by
 unfold W.takerIn
 rw [show W.findIn K (.ref C) f=some none from n]
 rfl
structure Meth(K:W.Frag)(C:Addr)(m:Str)(f:Addr):Prop where
 at_:W.findIn K (.ref C) m=some (some (.ref f))
 fn:W.isFn K (.ref f)=true
 kp:W.keepIn K (.ref f)=true
section
variable{X:Cx}{pins:List (Addr×Obj)}{σ:St}{H:Hp}{s:Shared}{a C dx:Addr}{fs:List (Str×V)}{f:Str}{v:V}{A:Around}{E:Value→Shared→Prop}
theorem Zj7{b:Bool}{Q:Value→Shared→Prop}(I:Inv X pins σ H s)(e:H a=some (.ins C dx fs))(c:Cls X.K C)(n:ZdC X.K C f)(l:fs.lookup f=some v)
  (h:∀u s',Inv X pins σ H s'→RelV v u→Q u s'):wpAny (model X.prog X.w) A (getAttr (.ref a) f b) Q E s:=by
 obtain ⟨mA,O,r,_,_,_⟩:=Zg9 I.hok e
 obtain ⟨u,hu,ru⟩:=RelO.some_of (v:=v) (o:=mA f) (by rw [←l];exact r f)
 exact ZpA I.kIn O (c.get f) c.hd n hu (ZlG ru) (h u _ (I.tok _) ru)
theorem Zgv{m:Str}{g:Addr}{pl:Sem Bool}{Q:Value×List Value→Shared→Prop}(I:Inv X pins σ H s)(e:H a=some (.ins C dx fs))(c:Cls X.K C)(k:Meth X.K C m g)(l:fs.lookup m=none)
  (h:Q (.ref g,[.ref a]) s):wpAny (model X.prog X.w) A (getMethod (.ref a) m pl) Q E s:=by
 obtain ⟨mA,O,r,_,_,_⟩:=Zg9 I.hok e
 have hn:mA m=none:=RelO.none_of (by rw [←l];exact r m)
 exact ZnB I.kIn O (c.get m) k.at_ k.fn hn h
theorem Zj8{y:V}{u:Value}{Q:Unit→Shared→Prop}(I:Inv X pins σ H s)(e:H a=some (.ins C dx fs))(c:Cls X.K C)(n:ZdC X.K C f)(hl:fs.length<1000)(ry:RelV y u)
  (h:∀s',Inv X pins σ (upd H a (.ins C dx (putF f y fs))) s'→Q () s'):wpAny (model X.prog X.w) A (setAttr (.ref a) f u) Q E s:=by
 obtain ⟨mA,O,r,wi,_,ho⟩:=Zg9 I.hok e
 have hz:(fs.map (·.1)).length≤sizeLine:=by rw [VaQ,sizeLine_eq];omega
 refine Zpr I.kIn O c.sa c.po n.taker c.hd wi hz fun h' O' sb=>h _ ?_
 have hd:∃o,h'.get? dx=some o:=let ⟨o,_,_,e',_⟩:=O'.ns;⟨o,e'⟩
 refine I.write (x:=a) (e:=dx) (by rw [e];exact True.intro) (.inr ho) (fun b q hb z=>(sb.2 b hb).trans z) hd ?_
 refine ⟨by rw [Zaf O.ne];exact ho,?_,O.ne,O'.obj,_,O'.ns,fun g=>?_,fun g hg=>?_⟩
 ·have:=Zgc f y fs;omega
 ·show RelO ((putF f y fs).lookup g) (if g=f then some u else mA g)
  rw [Zfy]
  by_cases q:g=f
  ·rw [if_pos q,if_pos q];exact ry
  ·rw [if_neg q,if_neg q];exact r g
 ·by_cases q:g=f
  ·rw [q];exact (ZfC f y fs).1
  ·refine (ZfC f y fs).2 g (wi g fun z=>hg ?_)
   show (if g=f then some u else mA g)=none
   rw [if_neg q];exact z
theorem Inv.made(I:Inv X pins σ H s):Inv X pins σ (upd (upd H s.heap.objs.size (.own (s.heap.objs.size+1))) (s.heap.objs.size+1) (.ins C s.heap.objs.size []))
  { s with heap:=(s.heap.push W.emptyDict).push (W.instObj C s.heap.objs.size) }:=by
 have e1:(s.heap.push W.emptyDict).get? s.heap.objs.size=some W.emptyDict:=VaH s.heap rfl
 have e2:((s.heap.push W.emptyDict).push (W.instObj C s.heap.objs.size)).get? (s.heap.objs.size+1)=some (W.instObj C s.heap.objs.size):=by
  have:=VaH (s.heap.push W.emptyDict) (o:=W.instObj C s.heap.objs.size) rfl
  rwa [VaR] at this
 have e3:(s.heap.push W.emptyDict).Ns s.heap.objs.size (fun _=>none):=⟨W.emptyDict,#[],_,e1,rfl,(fun e he=>absurd he (by simp)),fun _=>rfl⟩
 have I1:=I.laid (a:=s.heap.objs.size) (o:=.own (s.heap.objs.size+1)) (h':=s.heap.push W.emptyDict) (t':=s.toks) (fun b u q=>VaD _ q) (VaI _) ⟨_,e1⟩
 refine I1.laid (a:=s.heap.objs.size+1) (o:=.ins C s.heap.objs.size []) (t':=s.toks) (fun b u q=>VaD _ q) (Nat.le_of_eq (VaR _ _)) ?_
 have ne:s.heap.objs.size≠s.heap.objs.size+1:=Vah (VaS _)
 refine ⟨by rw [Zaf ne,Zag],VaT _,ne,e2,fun _=>none,(Heap.Ns1.of_empty e3).at fun o q=>VaD _ q,fun _=>True.intro,fun y hy=>absurd rfl hy⟩
theorem Zp2{prog:Program}{w:World}{env:Env}{e:Expr}{f:Str}{pos:Pos}{s:Shared}{Q:Value→Shared→Prop}(hb:attributeBase e f env (eval e env)=eval e env)
  (h:wpAny (model prog w) A (eval e env) (fun o s₁=>wpAny (model prog w) A (getAttr o f true) Q E s₁) E s):wpAny (model prog w) A (eval (.Attribute e f pos) env) Q E s :=
 Attribute_any_ h (by rw [arm_eval_Attribute,hb])
end
def tFld(K:W.Frag)(ta:TE)(f:Str):TE:=fun σ H Q=>ta σ H fun x H1=>∃a C dx fs v,x=.ref a∧H1 a=some (.ins C dx fs)∧Cls K C∧ZdC K C f∧fs.lookup f=some v∧Q v H1
def sFld(K:W.Frag)(ta tv:TE)(f:Str):TS:=fun D σ H=>tv σ H fun y H1=>ta σ H1 fun x H2=>∃a C dx fs,x=.ref a∧H2 a=some (.ins C dx fs)∧Cls K C∧ZdC K C f∧fs.length<1000 ∧
 D.nx σ (upd H2 a (.ins C dx (putF f y fs)))
section
variable{X:Cx}{o e value:Expr}{f:Str}{pos pos' tpos:Pos}{ta tv:TE}
theorem Ztw(he:PE X e ta)(hb:attributeBase e f X.env (eval e X.env)=eval e X.env):PE X (.Attribute e f pos) (tFld X.K ta f):=by
 intro pins s σ H Q I h
 refine Zp2 hb (thn (he pins s σ H _ I h) fun u s1 ⟨x,H1,I1,rx,a,C,dx,fs,v,ex,ea,c,n,l,q⟩=>?_)
 subst ex
 obtain rfl:u=Value.ref a:=rx
 exact Zj7 I1 ea c n l fun u' s2 I2 ru=>⟨v,H1,I2,ru,q⟩
theorem Zs8(ha:PE X o ta)(hv:PE X value tv)(hs:swapsWith value (some (.Attribute o f pos')) pos.line X.env=pure false):PS X (.Assign [.Attribute o f pos'] value pos) (sFld X.K ta tv f):=by
 intro pins s σ H D I h
 refine plainObj_wpAny_Assign_Attribute (thn (hv pins s σ H _ I h) fun u s1 ⟨y,H1,I1,ry,q⟩=>thn (ha pins s1 σ H1 _ I1 q) fun ov s2 ⟨x,H2,I2,rx,a,C,dx,fs,ex,ea,c,n,l,q2⟩=>?_) hs
 subst ex
 obtain rfl:ov=Value.ref a:=rx
 exact Zj8 I2 ea c n l ry fun s3 I3=>⟨σ,_,I3,q2⟩
end
section
variable{X:Cx}{pins:List (Addr×Obj)}{σ:St}{H:Hp}{s:Shared}{A:Around}{E:Value→Shared→Prop}{Q:Value→Shared→Prop}{c:Value}{b:Bool}
inductive TyOf(K:W.Frag)(H:Hp):V→Value→Prop where
 | non:TyOf K H .non (.type "NoneType")
 | bl (x:Bool):TyOf K H (.bl x) (.type "bool")
 | int (i:Int):TyOf K H (.int i) (.type "int")
 | str (x:Str):TyOf K H (.str x) (.type "str")
 | flt (x:UInt64):TyOf K H (.flt x) (.type "float")
 | lst {a:Addr} {xs:List V} (e:H a=some (.lst xs)):TyOf K H (.ref a) (.type "list")
 | frz {a:Addr} {o:Obj} {xs:List V} (e:H a=some (.frz o (.lst xs))):TyOf K H (.ref a) (.type "list")
 | tup {a:Addr} {xs:List V} (e:H a=some (.tup xs)):TyOf K H (.ref a) (.type "tuple")
 | dK {a:Addr} {kvs:List (Key×V)} (e:H a=some (.dK kvs)):TyOf K H (.ref a) (.type "dict")
 | dT {a:Addr} {kvs:List (List Key×V)} (e:H a=some (.dT kvs)):TyOf K H (.ref a) (.type "dict")
 | ins {a C dx:Addr} {fs:List (Str×V)} (e:H a=some (.ins C dx fs)) (cl:Cls K C) (ha:W.findIn K (.ref C) "__class__"=some (some (.builtin "object.__class__")))
   (hn:W.specialIn K (.builtin "object.__class__") "__get__"=some (some (.builtin "getset_descriptor.__get__"))) (htk:W.takesIn K (.builtin "object.__class__")=some true)
   (hm:W.mroIn K C (.type "object")=some true):TyOf K H (.ref a) (.ref C)
theorem Zeh{x:V}{u t:Value}(I:Inv X pins σ H s)(rx:RelV x u)(ty:TyOf X.K H x t)(e:W.kitOne X.K t c=some b)(h:∀tk,Q (.bool b) { s with toks:=tk }) :
  wpAny (model X.prog X.w) A (call (.builtin "isinstance") [u,c]) Q E s:=by
 cases ty with
 | non=>cases (show u=Value.none from rx);exact VaU W.kitx_none I.kIn True.intro e (fun z=>nomatch z) h
 | bl y=>cases (show u=Value.bool y from rx);exact VaU W.kitx_bool I.kIn True.intro e (fun z=>nomatch z) h
 | int i=>obtain ⟨t,q⟩:=(show ∃t,u=Value.int i t from rx);cases q;exact VaU W.kitx_int I.kIn True.intro e (fun z=>nomatch z) h
 | str y=>obtain ⟨t,q⟩:=(show ∃t,u=Value.str y t from rx);cases q;exact VaU W.kitx_str I.kIn True.intro e (fun z=>nomatch z) h
 | flt y=>obtain ⟨t,q⟩:=(show ∃t,u=Value.float y t from rx);cases q;exact VaU W.kitx_float I.kIn True.intro e (fun z=>nomatch z) h
 | @lst a xs ea =>
  cases (show u=Value.ref a from rx)
  obtain ⟨_,_,n,_,h1⟩:=(show ZbX X.prog X.w H s.heap a (.lst xs) from I.hok a _ ea)
  exact VaU W.kitx_list I.kIn ⟨_,h1,rfl⟩ e (fun z=>nomatch z) h
 | @frz a ob xs ea =>
  cases (show u=Value.ref a from rx)
  obtain ⟨_,_,_,n,_,h1⟩:=(show ZbX X.prog X.w H s.heap a (.frz ob (.lst xs)) from I.hok a _ ea)
  exact VaU W.kitx_list I.kIn ⟨_,h1,rfl⟩ e (fun z=>nomatch z) h
 | @tup a xs ea =>
  cases (show u=Value.ref a from rx)
  obtain ⟨_,_,_,p⟩:=(show ZbX X.prog X.w H s.heap a (.tup xs) from I.hok a _ ea)
  obtain ⟨o,h1,h2,_⟩:=p
  exact VaU W.kitx_tuple I.kIn ⟨o,h1,h2⟩ e (fun z=>nomatch z) h
 | @dK a kvs ea =>
  cases (show u=Value.ref a from rx)
  obtain ⟨_,_,vs,_,p⟩:=(show ZbX X.prog X.w H s.heap a (.dK kvs) from I.hok a _ ea)
  obtain ⟨o,es,ep,h1,h2,_⟩:=p
  exact VaU W.kitx_dict I.kIn ⟨o,h1,h2.1⟩ e (fun z=>nomatch z) h
 | @dT a kvs ea =>
  cases (show u=Value.ref a from rx)
  obtain ⟨_,_,xs,_,o,es,ep,h1,h2,_⟩:=(show ZbX X.prog X.w H s.heap a (.dT kvs) from I.hok a _ ea)
  exact VaU W.kitx_dict I.kIn ⟨o,h1,h2.1⟩ e (fun z=>nomatch z) h
 | @ins a C dx fs ea cl ha hn htk hm =>
  cases (show u=Value.ref a from rx)
  obtain ⟨mA,O,_⟩:=Zg9 I.hok ea
  obtain ⟨od,J,_⟩:=O.look
  exact VaU (W.kitx_own (cl.get _) cl.hd ha hn htk hm) I.kIn J e (fun z=>nomatch z) h
end
structure Room(k:Nat)(A:Around):Prop where
 hd:A.handled=none
 dp:A.depth+3*k+5<recursionLimit
 un:A.units+16*k+200<cLine
theorem Room.mono{j k:Nat}{A:Around}(r:Room k A)(h:j≤k):Room j A:=⟨r.hd,by have:=r.dp;omega,by have:=r.un;omega⟩
theorem Room.deeper{k:Nat}{A:Around}(r:Room (k+1) A)(env:Env):Room k (A.deeper env) :=
 ⟨r.hd,by have:=r.dp;show A.depth+1+3*k+5<_;omega,by have:=r.un;show A.units+3+16*k+200<_;omega⟩
theorem Zkq{A:Around}{C:Addr}{us:List Value}{kw:List (Str×Value)}:(A.under (.builtin "type.__call__" ⟨.ref C::us,kw⟩)).depth=A.depth+1:=by
 first | rfl | simp [Around.under,Code.weight,Code.isCreation,Code.isGuard,Code.isCaller,Code.frames,Code.isFrame,guardIds]
theorem Zkg{A:Around}{C:Addr}{us:List Value}{kw:List (Str×Value)}:(A.under (.builtin "type.__call__" ⟨.ref C::us,kw⟩)).units=A.units+1:=by
 first | rfl | simp [Around.under,Code.cUnits,Code.frames,Code.isFrame]
theorem Room.make{k:Nat}{A:Around}(r:Room (k+1) A)(C:Addr)(us:List Value)(kw:List (Str×Value)):Room k (A.under (.builtin "type.__call__" ⟨.ref C::us,kw⟩)) :=
 ⟨r.hd,by have:=r.dp;rw [Zkq];omega,by have:=r.un;rw [Zkg];omega⟩
theorem Room.depth{k:Nat}{A:Around}(r:Room k A):A.depth<recursionLimit:=by have:=r.dp;omega
theorem Room.units{k:Nat}{A:Around}(r:Room k A):A.units+64<cLine:=by have:=r.un;omega
def tNil:TA:=fun _ H Q=>Q [] H
def Zbv(ta:TE)(tr:TA):TA:=fun σ H Q=>ta σ H fun x H1=>tr σ H1 fun xs H2=>Q (x::xs) H2
section
variable{X:Cx}{e:Expr}{es:List Expr}{te:TE}{t:TA}{pos:Pos}
theorem Zel:PA X [] tNil:=fun _ _ _ _ H Q I h=>Calls.spliced_nil ⟨[],H,I,.nil,h⟩
theorem Zb2(ha:PE X e te)(hr:PA X es t)(hs:starEach (e::es) X.env=(false,eval e X.env)::starEach es X.env:=by rfl):PA X (e::es) (Zbv te t):=by
 intro pos pins s σ H Q I h
 rw [hs]
 show wpAny _ _ (spliced ((false,eval e X.env)::backTo pos (starEach es X.env))) _ _ s
 refine Calls.spliced_cons (thn (ha pins s σ H _ I h) fun u s1 ⟨x,H1,I1,r1,q1⟩=>?_)
 exact thn (hr pos pins s1 σ H1 _ I1 q1) fun us s2 ⟨xs,H2,I2,r2,q2⟩=>⟨x::xs,H2,I2,.cons r1 r2,q2⟩
def tTup(t:TA):TE:=fun σ H Q=>t σ H fun xs H1=>xs.length≤sizeLine∧∀p,H1 p=none→Q (.ref p) (upd H1 p (.tup xs))
def tLst(t:TA):TE:=fun σ H Q=>t σ H fun xs H1=>xs.length≤sizeLine∧∀p,H1 p=none→Q (.ref p) (upd H1 p (.lst xs))
theorem Zrh{x1}(h:PA X es t):PE X (.Tuple es x1 pos) (tTup t):=by
 intro pins s σ H Q I hq
 refine wpAny_Tuple_spliced (thn (h pos pins s σ H _ I hq) fun us s1 ⟨xs,H1,I1,r,z,q⟩=>⟨by rw [←r.length];exact z,?_⟩)
 have hf:H1 s1.heap.objs.size=none:=I1.hok.fresh (VaI _)
 refine ⟨.ref s1.heap.objs.size,upd H1 s1.heap.objs.size (.tup xs),I1.laid (t':=s1.toks) (fun b u e=>VaD _ e) (VaI _) ?_,rfl,q _ hf⟩
 exact ⟨z,us,r,⟨_,VaH _ rfl,rfl,_,rfl⟩⟩
theorem Zlv(h:PA X es t):PE X (.List es pos) (tLst t):=by
 intro pins s σ H Q I hq
 refine wpAny_List_spliced (thn (h pos pins s σ H _ I hq) fun us s1 ⟨xs,H1,I1,r,z,q⟩=>⟨by rw [←r.length];exact z,?_⟩)
 have hf:H1 s1.heap.objs.size=none:=I1.hok.fresh (VaI _)
 refine ⟨.ref s1.heap.objs.size,upd H1 s1.heap.objs.size (.lst xs),I1.laid (t':=s1.toks) (fun b u e=>VaD _ e) (VaI _) ?_,rfl,q _ hf⟩
 exact ⟨z,us,0,r,VaH _ rfl⟩
end
abbrev Sp:=List V→Hp→VK→XK→Prop
abbrev CXT:=List Env→Hp→Shared→XK→Value→Shared→Prop
structure Env0(P:Program)(w:World)(K:W.Frag)(mg:Str→Option Value)(base:Heap)(A:Around)(outer:List Env)(s:Shared)(H:Hp):Prop where
 frames:A.frames=some outer
 mod:Mod K mg base
 bs:∀b o,base.get? b=some o→s.heap.get? b=some o∧H b=none
 bsz:base.objs.size≤s.heap.objs.size
 funs:s.heap.FunFrames base outer
 frf:∀b∈frs outer,H b=none
 hok:HOk P w H s.heap
 bare:AllBare s.gens
def CE(outer:List Env)(P:Program)(w:World)(H:Hp)(s:Shared)(Q:VK)(u:Value)(s':Shared):Prop :=
 ∃v H',s'.os=s.os∧AllBare s'.gens∧Un (frs outer) [] H H' s.heap s'.heap∧HOk P w H' s'.heap∧RelV v u∧Q v H'
def CR(CX:CXT)(outer:List Env)(P:Program)(w:World)(H:Hp)(s:Shared)(Q:VK)(E:XK)(r:Result)(s':Shared):Prop :=
 match r with
 | .ok (.ret u)=>CE outer P w H s Q u s'
 | .ok _=>False
 | .error e=>CX outer H s E e s'
structure FnOk(P:Program)(w:World)(K:W.Frag)(mg:Str→Option Value)(base:Heap)(CX:CXT)(k:Nat)(f:Addr)(fd:FuncData)(ps:List Str)(sp:Sp):Prop where
 len:∀vs H Q E,sp vs H Q E→vs.length=ps.length
 run:∀(A:Around) (outer:List Env) (s:Shared) (H:Hp) (args:Args) (us:List Value) (vs:List V) (Q:VK) (E:XK),Room k A→Env0 P w K mg base A outer s H→BindsTo s fd args (ps.zip us)→Vals vs us→sp vs H Q E →
  codeAny (model P w) A (.call (.ref f) args) (CR CX outer P w H s Q E) s
theorem FnOk.mono{P:Program}{w:World}{K:W.Frag}{mg:Str→Option Value}{base:Heap}{CX:CXT}{j k:Nat}{f:Addr}{fd:FuncData}{ps:List Str}{sp:Sp}(F:FnOk P w K mg base CX j f fd ps sp)(h:j≤k) :
  FnOk P w K mg base CX k f fd ps sp:=⟨F.len,fun A outer s H args us vs Q E hr=>F.run A outer s H args us vs Q E (hr.mono h)⟩
theorem FnOk.imp{P:Program}{w:World}{K:W.Frag}{mg:Str→Option Value}{base:Heap}{CX:CXT}{k:Nat}{f:Addr}{fd:FuncData}{ps:List Str}{sp sp':Sp}(F:FnOk P w K mg base CX k f fd ps sp)
  (h:∀vs H Q E,sp' vs H Q E→sp vs H Q E):FnOk P w K mg base CX k f fd ps sp' :=
 ⟨fun vs H Q E q=>F.len vs H Q E (h _ _ _ _ q),fun A outer s H args us vs Q E hr he hb hv hs=>F.run A outer s H args us vs Q E hr he hb hv (h _ _ _ _ hs)⟩
theorem Env0.make{P:Program}{w:World}{K:W.Frag}{mg:Str→Option Value}{base:Heap}{A:Around}{outer:List Env}{s:Shared}{H:Hp}(e:Env0 P w K mg base A outer s H)(C:Addr)(us:List Value)(kw:List (Str×Value)) :
  Env0 P w K mg base (A.under (.builtin "type.__call__" ⟨.ref C::us,kw⟩)) outer s H:=⟨by first | exact e.frames | (simpa [Around.under,Code.envs,Code.isFrame,pushEnvs] using e.frames),e.mod,e.bs,e.bsz,e.funs,e.frf,e.hok,e.bare⟩
section
variable{X:Cx}{pins:List (Addr×Obj)}{σ:St}{H:Hp}{s s':Shared}
theorem Inv.env0(I:Inv X pins σ H s):Env0 X.prog X.w X.K X.mg X.base X.A X.stack s H :=
 ⟨I.ok.frames,I.ok.mod,I.bs,Vak I.ok.bsz I.sz,I.stack,I.stkFree,I.hok,I.bare⟩
theorem Inv.after{Q:VK}{u:Value}(I:Inv X pins σ H s)(h:CE X.stack X.prog X.w H s Q u s'):EP X pins σ Q u s':=by
 obtain ⟨v,H',os,bare,un,hok,r,q⟩:=h
 obtain ⟨hh,g,d,t,os'⟩:=s'
 obtain rfl:os'=s.os:=os
 exact ⟨v,H',I.call (h':=hh) (g':=g) (d':=d) (t':=t) (ch:=[]) un hok bare (fun b z=>absurd z (by simp)),r,q⟩
end
def Zgf(sp:Sp)(dvs:List V)(E:XK)(t:TA):TE:=fun σ H Q=>t σ H fun vs H1=>sp (vs++dvs) H1 Q E
def Zo2(C:Addr)(sp:Sp)(dvs:List V)(E:XK)(t:TA):TE:=fun σ H Q=>t σ H fun vs H1=>∀x dx,H1 x=none→H1 dx=none→dx≠x →
 sp (.ref x::(vs++dvs)) (upd (upd H1 dx (.own x)) x (.ins C dx [])) (fun v H2=>v=.non∧Q (.ref x) H2) E
def Binds(K:W.Frag)(fd:FuncData)(ps:List Str)(ds:List Value):Prop :=
 ∀(s:Shared) (us:List Value),K.In s.heap→(us++ds).length=ps.length→BindsTo s fd ⟨us,[]⟩ (ps.zip (us++ds))
theorem Binds.all{K:W.Frag}{fd:FuncData}{ps:List Str}(h:∀us:List Value,us.length=ps.length→bindArgs fd ⟨us,[]⟩=pure (ps.zip us)):Binds K fd ps []:=fun s us _ hl=>by
 rw [VaV] at hl ⊢
 exact .of_eq (h us hl)
def Zbe(CX:CXT)(X:Cx)(E:XK):Prop:=∀(pins:List (Addr×Obj)) (σ:St) (H:Hp) (s:Shared) (e:Value) (s':Shared),Inv X pins σ H s→CX X.stack H s E e s'→X.xe e s'
section
variable{X:Cx}{CX:CXT}{k:Nat}{f C:Addr}{fd:FuncData}{ps:List Str}{sp:Sp}{dvs:List V}{ds:List Value}{E:XK}{x m:Str}{p pos apos:Pos}{e o:Expr}{es:List Expr}{ta:TE}{t:TA}
theorem ZjE{pins:List (Addr×Obj)}{σ:St}{H:Hp}{s:Shared}{Q:VK}{us:List Value}{vs:List V}(F:FnOk X.prog X.w X.K X.mg X.base CX k f fd ps sp)(hr:Room k X.A)(hb:Binds X.K fd ps ds)(hd:Vals dvs ds)(hx:Zbe CX X E)
  (I:Inv X pins σ H s) (r:Vals vs us) (h:sp (vs++dvs) H Q E):wpAny (model X.prog X.w) X.A (call (.ref f) us) (EP X pins σ Q) X.xe s:=by
 have r2:Vals (vs++dvs) (us++ds):=r.append hd
 have hl:(us++ds).length=ps.length:=by rw [←r2.length];exact F.len _ _ _ _ h
 refine wpAny_call (VaW (F.run X.A X.stack s H ⟨us,[]⟩ (us++ds) (vs++dvs) Q E hr I.env0 (hb s us I.kIn hl) r2 h) fun r s' hq=>?_)
 cases r with
 | error e=>exact hx pins σ H s e s' I hq
 | ok fl =>
  cases fl with
  | ret u=>exact I.after hq
  | next=>exact False.elim hq
  | brk=>exact False.elim hq
  | cont=>exact False.elim hq
theorem ZgU(F:FnOk X.prog X.w X.K X.mg X.base CX k f fd ps sp)(hr:Room k X.A)(hg:Gl X x)(hm:X.mg x=some (.ref f))(hk:W.keepIn X.K (.ref f)=true)(hb:Binds X.K fd ps ds)(hd:Vals dvs ds)(hx:Zbe CX X E)
  (ha:PA X (e::es) t) (hdb:(x==("__debug__" : Str))=false:=by decide) (he:starEach (e::es) X.env=(false,eval e X.env)::starEach es X.env:=by rfl) (hpl:(backTo pos (starEach es X.env)).any (·.1)=false:=by rfl) :
  PE X (.Call (.Name x p) (e::es) [] pos) (Zgf sp dvs E t):=by
 intro pins s σ H Q I h
 refine VaX (ZfV I hg hm ?_ hdb)
 refine W.callWith_K (h₀:=X.base) I.ok.mod.kin hk (thn (ha pos pins s σ H _ I h) fun us s1 ⟨vs,H1,I1,r,q⟩=>⟨I1.kIn,?_⟩) he hpl
 exact ZjE F hr hb hd hx I1 r q
structure Mk(K:W.Frag)(C f:Addr):Prop where
 makes:W.makesIn K C=true
 init:W.findIn K (.ref C) "__init__"=some (some (.ref f))
 fn:W.isFn K (.ref f)=true
 kp:W.keepIn K (.ref C)=true
theorem Znu{pins:List (Addr×Obj)}{σ:St}{H:Hp}{s:Shared}{Q:VK}{us:List Value}{vs:List V}(M:Mk X.K C f)(F:FnOk X.prog X.w X.K X.mg X.base CX k f fd ps sp)(hr:Room (k+1) X.A)(hb:Binds X.K fd ps ds)(hd:Vals dvs ds)
  (hx:Zbe CX X E) (I:Inv X pins σ H s) (r:Vals vs us)
  (h:∀x dx,H x=none→H dx=none→dx≠x→sp (.ref x::(vs++dvs)) (upd (upd H dx (.own x)) x (.ins C dx [])) (fun v H2=>v=.non∧Q (.ref x) H2) E) :
  wpAny (model X.prog X.w) X.A (call (.ref C) us) (EP X pins σ Q) X.xe s:=by
 have hq:=h (s.heap.objs.size+1) s.heap.objs.size (I.hok.fresh (Nat.le_succ _)) (I.hok.fresh (VaI _)) (Vah (VaS _))
 have I2:=Inv.made (C:=C) I
 have r2:Vals (V.ref (s.heap.objs.size+1)::(vs++dvs)) (Value.ref (s.heap.objs.size+1)::(us++ds)):=.cons rfl (r.append hd)
 have hl:(Value.ref (s.heap.objs.size+1)::us++ds).length=ps.length:=by
  have e:=r2.length
  rw [F.len _ _ _ _ hq] at e
  exact e.symm
 refine wpAny_call (Znd (f:=f) I.kIn M.makes M.init (VaN.mp M.fn) (VaW (F.run _ X.stack _ _ ⟨Value.ref (s.heap.objs.size+1)::us,[]⟩ (Value.ref (s.heap.objs.size+1)::(us++ds)) _ _ E (hr.make C us [])
  (I2.env0.make C us []) (hb _ (Value.ref (s.heap.objs.size+1)::us) I2.kIn hl) r2 hq) fun r s' hq'=>?_))
 cases r with
 | error e=>exact hx pins σ _ _ e s' I2 hq'
 | ok fl =>
  cases fl with
  | ret u =>
   obtain ⟨v,H',I3,rv,ev,q3⟩:=I2.after hq'
   subst ev
   exact ⟨rv,⟨V.ref (s.heap.objs.size+1),H',I3,rfl,q3⟩⟩
  | next=>exact False.elim hq'
  | brk=>exact False.elim hq'
  | cont=>exact False.elim hq'
theorem ZqS(M:Mk X.K C f)(F:FnOk X.prog X.w X.K X.mg X.base CX k f fd ps sp)(hr:Room (k+1) X.A)(hg:Gl X x)(hm:X.mg x=some (.ref C))(hb:Binds X.K fd ps ds)(hd:Vals dvs ds)(hx:Zbe CX X E)
  (ha:PA X (e::es) t) (hdb:(x==("__debug__" : Str))=false:=by decide) (he:starEach (e::es) X.env=(false,eval e X.env)::starEach es X.env:=by rfl) (hpl:(backTo pos (starEach es X.env)).any (·.1)=false:=by rfl) :
  PE X (.Call (.Name x p) (e::es) [] pos) (Zo2 C sp dvs E t):=by
 intro pins s σ H Q I h
 refine VaX (ZfV I hg hm ?_ hdb)
 refine W.callWith_K (h₀:=X.base) I.ok.mod.kin M.kp (thn (ha pos pins s σ H _ I h) fun us s1 ⟨vs,H1,I1,r,q⟩=>⟨I1.kIn,?_⟩) he hpl
 exact Znu M F hr hb hd hx I1 r q
end
def PK(X:Cx)(kws:List Keyword)(t:TA):Prop :=
 ∀(pos:Pos) (pins:List (Addr×Obj)) (s:Shared) (σ:St) (H:Hp) (Q:List V→Hp→Prop),Inv X pins σ H s→t σ H Q→wpAny (model X.prog X.w) X.A (evalAll ((backToKw pos (keywordEach kws X.env)).map (·.2))) (AP X pins σ Q) X.xe s
section
variable{X:Cx}{CX:CXT}{k:Nat}{f C:Addr}{fd:FuncData}{ps ks:List Str}{sp:Sp}{E:XK}{x m:Str}{p pos apos kpos:Pos}{e o:Expr}{es:List Expr}{kws:List Keyword}{te ta:TE}{t tk:TA}{nm:Option Str}
theorem Zsa:PK X [] tNil:=fun _ _ _ _ H Q I h=>wpAny_evalAll_nil ⟨[],H,I,.nil,h⟩
theorem Zpd(ha:PE X e te)(hr:PK X kws t):PK X (⟨nm,e,kpos⟩::kws) (Zbv te t):=by
 intro pos pins s σ H Q I h
 show wpAny _ _ (evalAll ((do let v ←eval e X.env;standAt pos;pure v)::(backToKw pos (keywordEach kws X.env)).map (·.2))) _ _ s
 refine wpAny_evalAll_cons (Vaz (thn (ha pins s σ H _ I h) fun u s1 ⟨x,H1,I1,r1,q1⟩=>Vaz (VaA (VaB ?_))))
 exact thn (hr pos pins s1 σ H1 _ I1 q1) fun us s2 ⟨xs,H2,I2,r2,q2⟩=>⟨x::xs,H2,I2,.cons r1 r2,q2⟩
structure Zlb(K:W.Frag)(fd:FuncData)(ps ks:List Str)(g:List Value→List Value→List Value)(gV:List V→List V→List V):Prop where
 to:∀(s:Shared) (us ws:List Value),K.In s.heap→(g us ws).length=ps.length→BindsTo s fd ⟨us,ks.zip ws⟩ (ps.zip (g us ws))
 rel:∀{vs:List V} {us:List Value} {zs:List V} {ws:List Value},Vals vs us→Vals zs ws→Vals (gV vs zs) (g us ws)
def Zl9(sp:Sp)(gV:List V→List V→List V)(E:XK)(t tk:TA):TE:=fun σ H Q=>t σ H fun vs H1=>tk σ H1 fun zs H2=>sp (gV vs zs) H2 Q E
variable{g:List Value→List Value→List Value}{gV:List V→List V→List V}
theorem ZoV{pins:List (Addr×Obj)}{σ:St}{H:Hp}{s:Shared}{Q:VK}{us ws:List Value}{vs zs:List V}(F:FnOk X.prog X.w X.K X.mg X.base CX k f fd ps sp)(hr:Room k X.A)(hb:Zlb X.K fd ps ks g gV)(hx:Zbe CX X E)
  (I:Inv X pins σ H s) (r:Vals vs us) (rz:Vals zs ws) (h:sp (gV vs zs) H Q E):wpAny (model X.prog X.w) X.A (call (.ref f) us (ks.zip ws)) (EP X pins σ Q) X.xe s:=by
 have r2:=hb.rel r rz
 have hl:(g us ws).length=ps.length:=by rw [←r2.length];exact F.len _ _ _ _ h
 refine wpAny_call (VaW (F.run X.A X.stack s H ⟨us,ks.zip ws⟩ (g us ws) (gV vs zs) Q E hr I.env0 (hb.to s us ws I.kIn hl) r2 h) fun r s' hq=>?_)
 cases r with
 | error e=>exact hx pins σ H s e s' I hq
 | ok fl =>
  cases fl with
  | ret u=>exact I.after hq
  | next=>exact False.elim hq
  | brk=>exact False.elim hq
  | cont=>exact False.elim hq
theorem ZnG(F:FnOk X.prog X.w X.K X.mg X.base CX k f fd ps sp)(hr:Room k X.A)(hg:Gl X x)(hm:X.mg x=some (.ref f))(hk:W.keepIn X.K (.ref f)=true)(hb:Zlb X.K fd ps ks g gV)(hx:Zbe CX X E)
  (ha:PA X (e::es) t) (hkw:PK X kws tk) (hall:(backToKw pos (keywordEach kws X.env)).all (·.1.isSome)=true:=by rfl) (hks:(backToKw pos (keywordEach kws X.env)).filterMap (·.1)=ks:=by rfl)
  (hdb:(x==("__debug__" : Str))=false:=by decide) (he:starEach (e::es) X.env=(false,eval e X.env)::starEach es X.env:=by rfl)
  (hpl:((backTo pos (starEach (e::es) X.env)).any (·.1)||(backToKw pos (keywordEach kws X.env)).any (·.1.isNone))=false:=by rfl) :
  PE X (.Call (.Name x p) (e::es) kws pos) (Zl9 sp gV E t tk):=by
 intro pins s σ H Q I h
 refine VaX (ZfV I hg hm ?_ hdb)
 refine W.callWith_KW (h₀:=X.base) I.ok.mod.kin hk hall (thn (ha pos pins s σ H _ I h) fun us s1 ⟨vs,H1,I1,r,q⟩=>?_) hpl he
 refine thn (hkw pos pins s1 σ H1 _ I1 q) fun ws s2 ⟨zs,H2,I2,rz,q2⟩=>⟨I2.kIn,?_⟩
 rw [hks]
 exact ZoV F hr hb hx I2 r rz q2
end
structure Zad(N P:List Str)(sc:Scope):Prop where
 kind:sc.kind=.function
 co:sc.isCoroutine=false
 gen:sc.isGenerator=false
 nd:N.Nodup
 pre:N.take P.length=P
 par:∀x∈P,sc.names.lookup x=some .local∨sc.names.lookup x=some .cell
 nofree:∀y∈sc.names,y.2≠.free
theorem Zie{kindOf:Str→Option NameKind}{x:Str}:∀{binds:List (Str×Value)} {m:Str→Option Value},(∀v,(x,v)∉binds)→bindL kindOf binds m x=m x
 | [],_,_=>rfl
 | (n,v)::r,m,h=>by
  unfold bindL
  rw [Zie fun w hw=>h w (Vap _ hw)]
  split
  ·have:x≠n:=by rintro rfl;exact h v Vao
   simp [this]
  ·rfl
theorem Zh3{kindOf:Str→Option NameKind}{x:Str}:∀{binds:List (Str×Value)} {m:Str→Option Value},(∀v,(x,v)∉binds)→bindC kindOf binds m x=m x
 | [],_,_=>rfl
 | (n,v)::r,m,h=>by
  unfold bindC
  rw [Zh3 fun w hw=>h w (Vap _ hw)]
  split
  ·rfl
  ·have:x≠n:=by rintro rfl;exact h v Vao
   simp [this]
theorem Zhz{kindOf:Str→Option NameKind}{x:Str}{v:Value}:∀{P:List Str} {vs:List Value} {i:Nat} {m:Str→Option Value},P.Nodup→P[i]?=some x→vs[i]?=some v→kindOf x=some .local →
  bindL kindOf (P.zip vs) m x=some v
 | [],_,_,_,_,h,_,_=>by simp at h
 | _::_,[],_,_,_,_,h,_=>by simp at h
 | p::P,w::vs,0,m,nd,h1,h2,hk=>by
  simp at h1 h2;subst h1;subst h2
  show bindL kindOf ((p,w)::P.zip vs) m p=_
  unfold bindL
  rw [Zie fun v hv=>(VaY.mp nd).1 (VaZ hv).1,if_pos hk]
  simp
 | p::P,w::vs,i+1,m,nd,h1,h2,hk=>by
  show bindL kindOf ((p,w)::P.zip vs) m x=_
  unfold bindL
  exact Zhz (i:=i) (VaY.mp nd).2 (by simpa using h1) (by simpa using h2) hk
theorem Zh7{kindOf:Str→Option NameKind}{x:Str}{v:Value}:∀{P:List Str} {vs:List Value} {i:Nat} {m:Str→Option Value},P.Nodup→P[i]?=some x→vs[i]?=some v→kindOf x≠some .local →
  bindC kindOf (P.zip vs) m x=some v
 | [],_,_,_,_,h,_,_=>by simp at h
 | _::_,[],_,_,_,_,h,_=>by simp at h
 | p::P,w::vs,0,m,nd,h1,h2,hk=>by
  simp at h1 h2;subst h1;subst h2
  show bindC kindOf ((p,w)::P.zip vs) m p=_
  unfold bindC
  rw [Zh3 fun v hv=>(VaY.mp nd).1 (VaZ hv).1,if_neg hk]
  simp
 | p::P,w::vs,i+1,m,nd,h1,h2,hk=>by
  show bindC kindOf ((p,w)::P.zip vs) m x=_
  unfold bindC
  exact Zh7 (i:=i) (VaY.mp nd).2 (by simpa using h1) (by simpa using h2) hk
def start(N:List Str)(vs:List V):St:=vs.map some++List.replicate (N.length - vs.length) none
def cxOf(CX:CXT)(P:Program)(w:World)(K:W.Frag)(mg:Str→Option Value)(base:Heap)(N:List Str)(qual:Str)(scope:Scope)(f:Addr)(cd:Value)(A:Around)(outer:List Env)(s:Shared)(H:Hp)(E:XK):Cx where
 prog:=P
 w:=w
 K:=K
 mg:=mg
 base:=base
 A:=A.deeper (envOfC qual scope s.heap.objs.size f cd)
 N:=N
 s₀:=s
 H₀:=H
 env:=envOfC qual scope s.heap.objs.size f cd
 outer:=outer
 stack:=envOfC qual scope s.heap.objs.size f cd::outer
 ex:=[]
 calm:=true
 fn:=fun _=>true
 pn:=[]
 xe:=fun e s'=>wpAny (model P w) (A.deeper (envOfC qual scope s.heap.objs.size f cd)) (leaving (envOfC qual scope s.heap.objs.size f cd) e) (fun _ s''=>CX outer H s E e s'') (fun e' s''=>CX outer H s E e' s'') s'
theorem ZjB{sc:Scope}{n:Nat}{x:Str}(h:sc.names.lookup x=some .cell):∃c,(cellsFrom n sc.names []).lookup x=some c:=by
 have q:=W.cellsFrom_some sc.names n [] (.inl h)
 exact Option.isSome_iff_exists.mp q
theorem Zmm{CX:CXT}{P:Program}{w:World}{K:W.Frag}{mg:Str→Option Value}{base:Heap}{N ps:List Str}{qual:Str}{scope:Scope}{f:Addr}{cd:Value}{A:Around}{outer:List Env}{s s1:Shared}{H:Hp}{E:XK}{us:List Value}{vs:List V}
  (S:Zad N ps scope) (hd:A.handled=none) (e0:Env0 P w K mg base A outer s H) (hl:vs.length=ps.length) (r:Vals vs us)
  (x:InCallC s s.heap.objs.size (bindL (envOfC qual scope s.heap.objs.size f cd).kindOf (ps.zip us) fun _=>none) (cellsFrom (s.heap.objs.size+1) scope.names []) (bindC (envOfC qual scope s.heap.objs.size f cd).kindOf (ps.zip us) fun _=>none) s1) :
  Inv (cxOf CX P w K mg base N qual scope f cd A outer s H E) [] (start N vs) H s1:=by
 have hpl:ps.length≤N.length:=by have:=Vay List.length S.pre;rw [Va0] at this;omega
 obtain ⟨h1,tk,rfl,hk⟩:=x.done
 have noA:∀b:Addr,b∉(cxOf CX P w K mg base N qual scope f cd A outer s H E).ex:=fun b z=>absurd (show b∈([]:List Addr) from z) (by simp)
 refine ⟨⟨e0.mod,S.kind,rfl,rfl,VaI _,fun y z c h1 h2=>?_,fun y hy=>?_,fun y c _ h=>?_,fun _=>hd,Around.frames_deeper e0.frames,.inr ⟨rfl,rfl⟩,fun b z=>absurd z (noA b),e0.bs,e0.bsz,fun b _ _=>noA b,fun b z=>absurd z (noA b),e0.funs,e0.frf⟩,
  rfl,e0.bare,Un.kept hk,⟨_,x.toInCall.ns,fun i y v h1 h2 h3=>?_⟩,fun y c h=>⟨_,x.cell y c h⟩,e0.hok.fresh (VaI _),fun y c h=>?_,fun p hp=>absurd (show p∈([]:List (Addr×Obj)) from hp) (by simp),e0.hok.kept hk,?_⟩
 ·exact name_of_addr x.apart (Va1 h1) (Va1 h2)
 ·have hy:scope.names.lookup y=some .cell∨scope.names.lookup y=some .free:=hy
  rcases hy with hy | hy
  ·exact ZjB hy
  ·exact absurd rfl (S.nofree _ (Va1 hy))
 ·exact Vam (x.above y c (Va1 h))
 ·have hi:i<vs.length:=by
   unfold start at h2
   by_cases hi:i<vs.length
   ·exact hi
   ·rw [Va2 (by simpa using hi)] at h2
    rw [Va3] at h2
    split at h2<;>cases h2
  have ha:vs[i]?=some v:=by
   unfold start at h2
   rw [Va4 (by simpa using hi),Va5] at h2
   cases e:vs[i]? with
   | none=>rw [e] at h2;cases h2
   | some a=>rw [e] at h2;cases h2;rfl
  obtain ⟨u,hu,rv⟩:=r.get ha
  have hp:ps[i]?=some y:=by
   rw [←S.pre,List.getElem?_take_of_lt (by omega)];exact h1
  have ndP:ps.Nodup:=by rw [←S.pre];exact S.nd.sublist (List.take_sublist _ _)
  refine ⟨u,rv,?_⟩
  rcases S.par y (Va6 hp) with k | k
  ·exact .inl ⟨k,Zhz ndP hp hu k⟩
  ·obtain ⟨c,e⟩:=ZjB (n:=s.heap.objs.size+1) k
   refine .inr ⟨.inl k,c,e,?_⟩
   have q:=x.cell y c e
   rw [Zh7 ndP hp hu (by show scope.names.lookup y≠_;rw [k];decide)] at q
   exact q
 ·exact e0.hok.fresh (Vam (x.above y c (Va1 h)))
 ·unfold start
  show _=N.length
  rw [Va7,VaQ,Va8]
  omega
theorem Zka{CX:CXT}{P:Program}{w:World}{K:W.Frag}{mg:Str→Option Value}{base:Heap}{k:Nat}{f:Addr}{name qual:Str}{params:Arguments}{body:List Stmt}{scope:Scope}{dV kV doc pm cdv ct oc:Value}{an od:Option Addr}
  {osl:Array (Option Value)} {N ps:List Str} {sp:Sp} (lk:K.lookup f=some ⟨oc,od,.func (W.fnOf name qual params body scope dV kV doc pm an cdv ct),osl⟩) (hcd:W.codeIn K cdv qual=true) (S:Zad N ps scope)
  (len:∀vs H Q E,sp vs H Q E→vs.length=ps.length)
  (hbody:∀(A:Around) (outer:List Env) (s:Shared) (H:Hp) (vs:List V) (Q:VK) (E:XK),Room k (A.deeper (envOfC qual scope s.heap.objs.size f cdv))→sp vs H Q E →
   ∃t,PSs (cxOf CX P w K mg base N qual scope f cdv A outer s H E) body t∧t { nx:=fun _ H'=>Q .non H',rt:=Q } (start N vs) H) :
  FnOk P w K mg base CX (k+1) f (W.fnOf name qual params body scope dV kV doc pm an cdv ct) ps sp:=by
 refine ⟨len,fun A outer s H args us vs Q E hr e0 hb r hsp=>?_⟩
 have hl:=len _ _ _ _ hsp
 have KX:K.In s.heap:=e0.mod.kin.keeps fun b o e=>(e0.bs b o e).1
 have lim:s.heap.NoLimit:=e0.mod.nolimit.keeps fun b o e=>(e0.bs b o e).1
 have hkind:∀y∈ps.zip us,scope.names.lookup y.1=some .local∨(scope.names.lookup y.1=some .cell∧((cellsFrom (s.heap.objs.size+1) scope.names []).lookup y.1).isSome=true):=fun ⟨n,v⟩ hy=>by
  rcases S.par n (VaZ hy).1 with q | q
  ·exact .inl q
  ·exact .inr ⟨q,W.cellsFrom_some _ _ _ (.inl q)⟩
 refine codeAny_call_function hr.depth (KX _ _ lk) rfl S.co S.gen rfl (W.codeRec_of KX hcd) (hb _ _ _ _ ?_)
 refine wpAny_newFunctionEnv_cells S.kind hkind fun env he s1 x=>?_
 subst he
 refine ⟨lim.keeps x.toInCall.keep,codeAny_func ?_⟩
 obtain ⟨t,ht,hq⟩:=hbody A outer s H vs Q E (hr.deeper _) hsp
 have I:Inv (cxOf CX P w K mg base N qual scope f cdv A outer s H E) [] (start N vs) H s1:=Zmm S hr.hd e0 hl r x
 refine Vaw (ht [] s1 (start N vs) H _ I hq) (fun fl s' hs=>?_) fun e s' hs=>hs
 have fin:∀{σ':St} {H':Hp} {v:V} {u:Value},Inv (cxOf CX P w K mg base N qual scope f cdv A outer s H E) [] σ' H' s'→RelV v u→Q v H'→CE outer P w H s Q u s' :=
  fun {σ' H' v u} J rv q=>⟨v,H',J.os,J.bare,J.base,J.hok,rv,q⟩
 cases fl with
 | ret u =>
  obtain ⟨v,σ',H',J,rv,q⟩:=hs
  exact fin J rv q
 | next =>
  obtain ⟨σ',H',J,q⟩:=hs
  exact fin (v:=V.non) (u:=Value.none) J rfl q
 | brk =>
  obtain ⟨_,_,_,q⟩:=hs
  exact False.elim q
 | cont =>
  obtain ⟨_,_,_,q⟩:=hs
  exact False.elim q
section
variable{X:Cx}{x:Str}{p pos:Pos}{e:Expr}{es:List Expr}{t:TA}{id T:String}{r:List V→Hp→VK→Prop}
def tCB(r:List V→Hp→VK→Prop)(t:TA):TE:=fun σ H Q=>t σ H fun vs H1=>r vs H1 Q
theorem Zi8(hc:Zet X (.builtin id) r)(hg:Gl X x)(hm:X.mg x=none)(hv:bootBuiltins x=some (.builtin id))(ha:PA X (e::es) t)(hn:x ≠ "__name__" := by decide)(hdb:(x==("__debug__" : Str))=false:=by decide)
  (he:starEach (e::es) X.env=(false,eval e X.env)::starEach es X.env:=by rfl) (hpl:(backTo pos (starEach es X.env)).any (·.1)=false:=by rfl):PE X (.Call (.Name x p) (e::es) [] pos) (tCB r t):=by
 intro pins s σ H Q I h
 refine VaX (ZfL I hg hm hv ?_ hn hdb)
 exact PyProof.Rows.callWith_builtin1 (thn (ha pos pins s σ H _ I h) fun us s1 ⟨vs,H1,I1,r1,q1⟩=>hc pins s1 σ H1 vs us Q I1 r1 q1) he hpl
theorem Zh4(hc:Zet X (.type T) r)(hg:Gl X x)(hm:X.mg x=none)(hv:bootBuiltins x=some (.type T))(ha:PA X (e::es) t)(hn:x ≠ "__name__" := by decide)(hdb:(x==("__debug__" : Str))=false:=by decide)
  (he:starEach (e::es) X.env=(false,eval e X.env)::starEach es X.env:=by rfl) (hpl:(backTo pos (starEach es X.env)).any (·.1)=false:=by rfl):PE X (.Call (.Name x p) (e::es) [] pos) (tCB r t):=by
 intro pins s σ H Q I h
 refine VaX (ZfL I hg hm hv ?_ hn hdb)
 exact VaJ (thn (ha pos pins s σ H _ I h) fun us s1 ⟨vs,H1,I1,r1,q1⟩=>hc pins s1 σ H1 vs us Q I1 r1 q1) he hpl
end
end L2
namespace HT
open PySem PyProof.Rows
section
open PySem.SeqAt
open PySem.AutoSeq1 (wpAny_loadPart')
open PySem.MeetsSeq PySem.MeetsSeq2 PySem.MeetsSeq3
end
section
variable{prog:Program}{w:World}{A:Around}{E:Value→Shared→Prop}{s:Shared}
theorem ZpK{t b:Addr}{vs ws:List Value}{Q:Value→Shared→Prop}(ht:IsTup s.heap t vs.toArray)(hb:IsTup s.heap b ws.toArray)(hv:vs≠[])
  (h1:ws=[]→Q (.ref t) s) (h2:ws≠[]→Q (.ref s.heap.objs.size) { s with heap:=s.heap.push { cls:=.type "tuple", data:=.seq (vs++ws).toArray } })
  (hsz:vs.length+ws.length≤sizeLine):wpAny (model prog w) A (binaryOp .Add (.ref t) (.ref b)) Q E s:=by
 obtain ⟨⟨cls,dd,data,sl⟩,ho,hc,n,hd⟩:=id ht
 obtain ⟨⟨cls2,dd2,data2,sl2⟩,ho2,hc2,n2,hd2⟩:=id hb
 simp only at hc hd hc2 hd2
 subst hc hd hc2 hd2
 have e:vs.toArray++ws.toArray=(vs++ws).toArray:=by simp
 by_cases hw:ws=[]
 ·exact concat_meets ⟨_,ho,rfl⟩ ⟨_,ho2,rfl⟩ noFill_tuple_add seq_tuple_add PySem.F.slot_tuple_add PySem.F.entry_tuple_add (PySem.F.args_tuple_add_2 _ _)
   (tuple_addW1 t b vs.toArray ws.toArray n n2 dd dd2 sl sl2 (by simpa using hv) (by simp [hw])) ⟨ho,ho2,h1 hw⟩
 ·refine concat_meets ⟨_,ho,rfl⟩ ⟨_,ho2,rfl⟩ noFill_tuple_add seq_tuple_add PySem.F.slot_tuple_add PySem.F.entry_tuple_add (PySem.F.args_tuple_add_2 _ _)
   (tuple_addW2 t b vs.toArray ws.toArray n n2 dd dd2 sl sl2 (by simpa using hv) (by simpa using hw) (by rw [Va9,Va9];exact hsz)) ⟨ho,ho2,?_⟩
  rw [e]
  exact h2 hw
def sIx(n d:Nat):Option Int→Nat
 | none=>d
 | some v=>if v<0 then (v+(n:Int)).toNat else min v.toNat n
theorem ZrM(n d:Nat)(hd:d≤n)(o:Option Int):sIx n d o≤n:=by
 cases o with
 | none=>exact hd
 | some v =>
  show (if v<0 then (v+(n:Int)).toNat else min v.toNat n)≤n
  by_cases hv:v<0
  ·rw [if_pos hv];omega
  ·rw [if_neg hv];exact Nat.min_le_right _ _
theorem Zld(v:Int)(n d:Nat):(if v<0 then max (v+(n:Int)) 0 else min v (n:Int))=((sIx n d (some v):Nat):Int):=by
 show (if v<0 then max (v+(n:Int)) 0 else min v (n:Int))=(((if v<0 then (v+(n:Int)).toNat else min v.toNat n):Nat):Int)
 by_cases hv:v<0
 ·simp only [if_pos hv];omega
 ·simp only [if_neg hv];omega
theorem ZkC(lo hi:Option Int)(n:Nat):Builtin.Slice.sliceAdjust lo hi 1 (n:Int)=(((sIx n 0 lo:Nat):Int),((sIx n n hi:Nat):Int)):=by
 have h1:¬((1:Int)<0):=by omega
 unfold Builtin.Slice.sliceAdjust
 simp only [h1,Vba]
 refine Prod.ext ?_ ?_
 ·cases lo with
  | none=>rfl
  | some v=>exact Zld v n 0
 ·cases hi with
  | none=>rfl
  | some v=>exact Zld v n n
theorem Zkl(i j:Nat):Builtin.Slice.slicePlaces (i:Int) (j:Int) 1=j - i:=by
 unfold Builtin.Slice.slicePlaces
 have h1:(1:Int)>0:=by omega
 simp only [h1,Vbb,Int.ediv_one]
 split<;>omega
theorem ZgI{v:Value}{o:Option Int}{Q:Option Int→Shared→Prop}(p:IsPart v o)(h:Q o s):wpAny (model prog w) A (Builtin.Slice.slicePartIndex v) Q E s:=by
 cases p with
 | none=>exact slicePart_none h
 | int i t=>exact slicePart_int h
theorem Zc3{sl:Addr}{vl vu:Value}{lo hi:Option Int}{n:Nat}{Q:Int×Int×Nat→Shared→Prop}(hs:s.heap.IsSliceOf sl vl vu .none)(pl:IsPart vl lo)(pu:IsPart vu hi)
  (h:Q (((sIx n 0 lo:Nat):Int),1,sIx n n hi - sIx n 0 lo) s):wpAny (model prog w) A (Builtin.Slice.sliceApplied (.ref sl) (pure (n:Int))) Q E s:=by
 obtain ⟨os,hos,hcs,hds⟩:=id hs
 unfold Builtin.Slice.sliceApplied Builtin.Slice.sliceFields
 refine Vaz (Vaz (Vbc hos hds (x:=vl) rfl (Vaz (Vbc hos hds (x:=vu) rfl (Vaz (Vbc hos hds (x:=.none) rfl (VaB ?_)))))))
 refine Vaz (slicePart_none ?_)
 show wpAny _ _ (if ((1:Int)==0)=true then _ else _) _ _ s
 rw [if_neg (by decide)]
 refine Vaz (ZgI pl (Vaz (ZgI pu (Vaz (VaB ?_)))))
 show wpAny _ _ (match Builtin.Slice.sliceAdjust lo hi 1 (n:Int) with | (lo,hi)=>pure (lo,(1:Int),Builtin.Slice.slicePlaces lo hi 1)) _ _ s
 rw [ZkC lo hi n]
 show wpAny _ _ (pure (((sIx n 0 lo:Nat):Int),(1:Int),Builtin.Slice.slicePlaces ((sIx n 0 lo:Nat):Int) ((sIx n n hi:Nat):Int) 1)) _ _ s
 rw [Zkl]
 exact VaB h
theorem ZnX(xs:Array Value)(i k:Nat):((List.range k).filterMap fun (m:Nat)=>xs[((i:Int)+(m:Int)*1).toNat]?).toArray=((xs.toList.drop i).take k).toArray:=by
 have e:(fun (m:Nat)=>xs[((i:Int)+(m:Int)*1).toNat]?)=fun m=>xs[i+m]?:=by
  funext m
  have:((i:Int)+(m:Int)*1).toNat=i+m:=by omega
  rw [this]
 rw [e]
 have:=pick_run xs i k
 rw [List.filterMap_map] at this
 have e2:((fun x=>xs[x]?) ∘ fun x=>i+x)=fun m=>xs[i+m]?:=rfl
 rw [e2] at this
 rw [this]
theorem ZeX{t sl:Addr}{items:Array Value}{vl vu:Value}{lo hi:Option Int}{Q:Value→Shared→Prop}(ht:IsTup s.heap t items)(hs:s.heap.IsSliceOf sl vl vu .none)(pl:IsPart vl lo)(pu:IsPart vu hi)
  (hw:¬(sIx items.size 0 lo=0∧sIx items.size items.size hi=items.size))
  (h:Q (.ref s.heap.objs.size) { s with heap:=s.heap.push { cls:=.type "tuple", data:=.seq ((items.toList.drop (sIx items.size 0 lo)).take (sIx items.size items.size hi - sIx items.size 0 lo)).toArray } })
  (hsz:items.size≤sizeLine):wpAny (model prog w) A (getItem (.ref t) (.ref sl)) Q E s:=by
 have htake:sizeOk (.seq ((items.toList.drop (sIx items.size 0 lo)).take (sIx items.size items.size hi - sIx items.size 0 lo)).toArray):=by
  show ((items.toList.drop (sIx items.size 0 lo)).take (sIx items.size items.size hi - sIx items.size 0 lo)).toArray.size≤sizeLine
  rw [Va9,Va0,Vbd,Vax]
  omega
 have hj:sIx items.size items.size hi≤items.size:=ZrM _ _ (VaI _) hi
 obtain ⟨os,hos,hcs,hds⟩:=id hs
 have hTs:s.TypeIs (.ref sl) "slice" := ⟨os,hos,hcs⟩
 unfold getItem
 try with_reducible refine Vbe ?_
 first | refine Vaz (VaB ?_) | skip
 refine Vaz (wpAny_sequenceKey ht.typeIs (by decide) ?_)
 refine Vaz (Vbf (name:=Str.ofString "__getitem__") ht.typeIs Vbg
  (Vbh Vbg ht.typeIs entry_tuple_getitem ?_ (args_tuple_getitem _ _)))
 show wpAny _ _ (Builtin.Tuple.tupleItemsOf (.ref t) >>= _) _ _ s
 refine Vaz (tupleItemsOf_ ht ?_)
 refine Vaz (Vbi hTs ?_)
 rw [if_pos (by decide)]
 refine Vaz (Zc3 hs pl pu ?_)
 have hno:¬((((sIx items.size 0 lo:Nat):Int)==0&&(1:Int)==1&&(sIx items.size items.size hi - sIx items.size 0 lo)==items.size)=true):=by
  intro q
  rw [Vbj,Vbj] at q
  have q1:((sIx items.size 0 lo:Nat):Int)=0:=eq_of_beq q.1.1
  have q2:sIx items.size items.size hi - sIx items.size 0 lo=items.size:=eq_of_beq q.2
  exact hw ⟨by omega,by omega⟩
 show wpAny _ _ (if (((sIx items.size 0 lo:Nat):Int)==0&&(1:Int)==1&&(sIx items.size items.size hi - sIx items.size 0 lo)==items.size)=true then _ else _) _ _ s
 rw [if_neg hno,ZnX]
 first
  | exact Vaz (m:=Builtin.Tuple.tupleExact _) (VaC (VaB ⟨_,rfl,VaB h⟩) htake)
  | exact Vaz (m:=Builtin.Tuple.tupleExact _) (VaC (Vaz (VaB (VaB ⟨_,rfl,VaB h⟩))) htake)
  | exact Vaz (Vaz (m:=Builtin.Tuple.tupleExact _) (VaC (VaB (VaB ⟨_,rfl,VaB h⟩)) htake))
  | exact Vaz (Vaz (m:=Builtin.Tuple.tupleExact _) (VaC (VaB ⟨_,rfl,VaB h⟩) htake))
end
end HT
namespace L2
open PySem PySem.Spec PyProof.Rows
abbrev TO:=St→Hp→(Option Int→Hp→Prop)→Prop
def PO(X:Cx)(e:Option Expr)(t:TO):Prop :=
 ∀(pins:List (Addr×Obj)) (s:Shared) (σ:St) (H:Hp) (Q:Option Int→Hp→Prop),Inv X pins σ H s→t σ H Q →
  wpAny (model X.prog X.w) X.A (evalPart e X.env) (fun u s'=>∃o H',Inv X pins σ H' s'∧IsPart u o∧Q o H') X.xe s
def ZiZ:TO:=fun _ H Q=>Q none H
def ZoN(t:TE):TO:=fun σ H Q=>t σ H fun x H1=>∃i,x=.int i∧Q (some i) H1
section
variable{X:Cx}{e:Expr}{te:TE}{lo hi:Option Expr}{tl th:TO}{pos p2:Pos}
theorem ZpM:PO X none ZiZ:=by
 intro pins s σ H Q I h
 rw [evalPart_none]
 exact VaB ⟨none,H,I,.none,h⟩
theorem ZoQ(h:PE X e te):PO X (some e) (ZoN te):=by
 intro pins s σ H Q I hw
 rw [evalPart_some]
 refine thn (h pins s σ H _ I hw) fun u s1 ⟨x,H1,I1,r1,q1⟩=>?_
 obtain ⟨i,rfl,q⟩:=q1
 obtain ⟨t,rfl⟩:=r1
 exact ⟨some i,H1,I1,.int i t,q⟩
def SlR(X:Cx)(r:V→Option Int→Option Int→Hp→VK→Prop):Prop :=
 ∀(pins:List (Addr×Obj)) (s:Shared) (σ:St) (H:Hp) (x:V) (v vl vu:Value) (lo hi:Option Int) (sl:Addr) (Q:VK),Inv X pins σ H s→RelV x v→s.heap.IsSliceOf sl vl vu .none→IsPart vl lo→IsPart vu hi→r x lo hi H Q →
  ∃T id,typeLookup (.type T) "__getitem__"=pure (some (.builtin id))∧s.TypeIs v T∧wpAny (model X.prog X.w) X.A (getItem v (.ref sl)) (EP X pins σ Q) X.xe s
theorem SlR.or{r r':V→Option Int→Option Int→Hp→VK→Prop}(h:SlR X r)(h':SlR X r'):SlR X (fun x lo hi H Q=>r x lo hi H Q∨r' x lo hi H Q):=by
 intro pins s σ H x v vl vu lo hi sl Q I rx hs pl pu q
 rcases q with q | q
 ·exact h pins s σ H x v vl vu lo hi sl Q I rx hs pl pu q
 ·exact h' pins s σ H x v vl vu lo hi sl Q I rx hs pl pu q
def tSl(r:V→Option Int→Option Int→Hp→VK→Prop)(te:TE)(tl th:TO):TE:=fun σ H Q=>te σ H fun x H1=>tl σ H1 fun l H2=>th σ H2 fun u H3=>r x l u H3 Q
theorem ZnC{r:V→Option Int→Option Int→Hp→VK→Prop}(hr:SlR X r)(he:PE X e te)(hl:PO X lo tl)(hu:PO X hi th):PE X (.Subscript e (.Slice lo hi none p2) pos) (tSl r te tl th):=by
 intro pins s σ H Q I h
 refine Subscript_ (thn (he pins s σ H _ I h) fun v s1 ⟨x,H1,I1,r1,q1⟩=>?_)
 refine wpAny_Slice (thn (hl pins s1 σ H1 _ I1 q1) fun vl s2 ⟨l,H2,I2,pl,q2⟩=>thn (hu pins s2 σ H2 _ I2 q2) fun vu s3 ⟨u,H3,I3,pu,q3⟩=>?_)
 rw [evalPart_none]
 refine VaB ?_
 have I4:Inv X pins σ H3 { s3 with heap:=s3.heap.push { cls:=.type "slice", data:=.fields #[vl,vu,.none] } }:=I3.kept (t':=s3.toks) fun b ob q=>VaD _ q
 obtain ⟨T,id,hT,ht,hg⟩:=hr pins { s3 with heap:=s3.heap.push { cls:=.type "slice", data:=.fields #[vl,vu,.none] } } σ H3 x v vl vu l u s3.heap.objs.size Q I4 r1 (Heap.IsSliceOf.new ..) pl pu q3
 show wpAny (model X.prog X.w) X.A (subscriptTail e (.Slice lo hi none p2) v (.ref s3.heap.objs.size)) (EP X pins σ Q) X.xe { s3 with heap:=s3.heap.push { cls:=.type "slice", data:=.fields #[vl,vu,.none] } }
 exact tail_any (ops:=[.ref s3.heap.objs.size,v]) ht hT hg (by with_unfolding_all rfl)
def cutV(xs:List V)(lo hi:Option Int):List V:=(xs.drop (HT.sIx xs.length 0 lo)).take (HT.sIx xs.length xs.length hi - HT.sIx xs.length 0 lo)
theorem Zfq(xs:List V)(lo hi:Option Int):(cutV xs lo hi).length≤xs.length:=by
 unfold cutV
 rw [Va0,Vbd]
 omega
def rSlT(K:W.Frag):V→Option Int→Option Int→Hp→VK→Prop:=fun x lo hi H Q=>∃a xs,x=.ref a∧SqT K H a xs ∧
 ¬(HT.sIx xs.length 0 lo=0∧HT.sIx xs.length xs.length hi=xs.length)∧∀p,H p=none→Q (.ref p) (upd H p (.tup (cutV xs lo hi)))
theorem ZrF:SlR X (rSlT X.K):=by
 intro pins s σ H x v vl vu lo hi sl Q I rx hs pl pu h
 obtain ⟨a,xs,rfl,hx,hw,q⟩:=h
 cases rx
 obtain ⟨its,r,ht,hz⟩:=I.tuple hx
 have hlen:its.toArray.size=xs.length:=by rw [Va9];exact r.length.symm
 refine ⟨"tuple", _,PyProof.Rows.slot_tuple_getitem.lookup,ht.typeIs,?_⟩
 refine HT.ZeX ht hs pl pu (by rw [hlen];exact hw) ?_ (by rw [hlen];exact hz)
 rw [hlen]
 refine ⟨.ref s.heap.objs.size,_,I.laid (t':=s.toks) (o:=.tup (cutV xs lo hi)) (fun b ob q=>VaD _ q) (VaI _) ?_,rfl,q _ (I.hok.fresh (VaI _))⟩
 exact ⟨Vak (Zfq xs lo hi) hz,_,(r.drop (HT.sIx xs.length 0 lo)).take (HT.sIx xs.length xs.length hi - HT.sIx xs.length 0 lo),IsTup.new _ _⟩
def Zt1(K:W.Frag):R2:=fun x y H Q=>∃a b xs ys,x=.ref a∧y=.ref b∧SqT K H a xs∧SqT K H b ys∧xs≠[]∧xs.length+ys.length≤sizeLine ∧
 (ys=[]→Q (.ref a) H)∧(ys≠[]→∀p,H p=none→Q (.ref p) (upd H p (.tup (xs++ys))))
theorem Vals.nil_iff{xs:List V}{us:List Value}(r:Vals xs us):us=[]↔xs=[]:=by
 cases r with
 | nil=>simp
 | cons _ _=>simp
theorem Zqi:OpR X (binaryOp .Add) (Zt1 X.K):=by
 intro pins s σ H x y v u Q I rx ry h
 obtain ⟨a,b,xs,ys,rfl,rfl,ha,hb,hx,hz,q1,q2⟩:=h
 cases rx
 cases ry
 obtain ⟨its,r1,p1,_⟩:=I.tuple ha
 obtain ⟨its2,r2,p2,_⟩:=I.tuple hb
 refine HT.ZpK p1 p2 (fun z=>hx (r1.nil_iff.mp z)) (fun z=>⟨.ref a,H,I,rfl,q1 (r2.nil_iff.mp z)⟩) (fun z=>?_) (by rw [←r1.length,←r2.length];exact hz)
 refine ⟨.ref s.heap.objs.size,_,I.laid (t':=s.toks) (o:=.tup (xs++ys)) (fun b ob q=>VaD _ q) (VaI _) ?_,rfl,q2 (fun w=>z (r2.nil_iff.mpr w)) _ (I.hok.fresh (VaI _))⟩
 exact ⟨by rw [Va7];exact hz,_,r1.append r2,IsTup.new _ _⟩
end
def ixN(n:Nat)(i:Int):Option Nat:=if 0≤i then (if i<n then some i.toNat else none) else if -(n:Int)≤i then some (i+n).toNat else none
def atI{α:Type}(xs:List α)(i:Int):Option α:=(ixN xs.length i).bind fun j=>xs[j]?
theorem Zo7{n:Nat}{i:Int}{j:Nat}(h:ixN n i=some j):seqIndex? i n=some j∧j<n∧-(n:Int)≤i∧i<n:=by
 unfold ixN at h
 by_cases h0:0≤i
 ·rw [if_pos h0] at h
  by_cases h1:i<n
  ·rw [if_pos h1] at h
   have e:i.toNat=j:=Vav h
   exact ⟨by rw [seqIndex_of h0 h1,e],by omega,by omega,h1⟩
  ·rw [if_neg h1] at h;cases h
 ·rw [if_neg h0] at h
  by_cases h1:-(n:Int)≤i
  ·rw [if_pos h1] at h
   have e:(i+n).toNat=j:=Vav h
   exact ⟨by rw [seqIndex_neg (by omega) h1,e],by omega,h1,by omega⟩
  ·rw [if_neg h1] at h;cases h
theorem Zmd{α:Type}{xs:List α}{i:Int}{v:α}(h:atI xs i=some v):∃j,seqIndex? i xs.length=some j∧xs[j]?=some v∧j<xs.length∧-(xs.length:Int)≤i∧i<xs.length:=by
 unfold atI at h
 cases e:ixN xs.length i with
 | none=>rw [e] at h;cases h
 | some j =>
  rw [e] at h
  obtain ⟨h1,h2,h3,h4⟩:=Zo7 e
  exact ⟨j,h1,h,h2,h3,h4⟩
def ZmD(b:Expr):Prop:=∀o i,subscripted b false o i=operate [o,i] (getItem o i)
def IxR(X:Cx)(r:R2):Prop :=
 ∀(value slice:Expr) (pins:List (Addr×Obj)) (s:Shared) (σ:St) (H:Hp) (x y:V) (v u:Value) (Q:VK),Inv X pins σ H s→RelV x v→RelV y u→r x y H Q →
  subscripted slice false v u=operate [v,u] (getItem v u)→wpAny (model X.prog X.w) X.A (subscriptTail value slice v u) (EP X pins σ Q) X.xe s
def MtR(X:Cx)(id:String)(r:V→List V→Hp→VK→Prop):Prop :=
 ∀(pins:List (Addr×Obj)) (s:Shared) (σ:St) (H:Hp) (x:V) (xs:List V) (v:Value) (us:List Value) (Q:VK),Inv X pins σ H s→RelV x v→Vals xs us→r x xs H Q →
  wpAny (model X.prog X.w) X.A (call (.builtin id) (v::us)) (EP X pins σ Q) X.xe s
section
variable{X:Cx}{a b:Expr}{ta tb:TE}{pos:Pos}
theorem IxR.or{r r':R2}(h:IxR X r)(h':IxR X r'):IxR X (fun x y H Q=>r x y H Q∨r' x y H Q):=by
 intro value slice pins s σ H x y v u Q I rx ry q hs
 rcases q with q | q
 ·exact h value slice pins s σ H x y v u Q I rx ry q hs
 ·exact h' value slice pins s σ H x y v u Q I rx ry q hs
theorem Ztg{r:R2}(hr:IxR X r)(ha:PE X a ta)(hb:PE X b tb)(hs:ZmD b):PE X (.Subscript a b pos) (tOp r ta tb):=by
 intro pins s σ H Q I h
 exact Subscript_ (binT ha hb I h fun v u s2 x y H2 I2 rx ry q=>hr a b pins s2 σ H2 x y v u Q I2 rx ry q (hs _ _))
def rIxL(K:W.Frag):R2:=fun x y H Q=>∃p xs i v,x=.ref p∧y=.int i∧SqL K H p xs∧atI xs i=some v∧Q v H
def rIxT(K:W.Frag):R2:=fun x y H Q=>∃p xs i v,x=.ref p∧y=.int i∧SqT K H p xs∧atI xs i=some v∧Q v H
theorem ZkW:IxR X (rIxL X.K):=by
 intro value slice pins s σ H x y v u Q I rx ry h hs
 obtain ⟨p,xs,i,z,rfl,rfl,hq,he,q⟩:=h
 cases rx
 obtain ⟨t,rfl⟩:=ry
 obtain ⟨its,r,pl,hz⟩:=I.list hq
 obtain ⟨j,h1,h2,h3,h4,h5⟩:=Zmd he
 obtain ⟨w,ew,rw'⟩:=r.get h2
 have hl:=r.length
 have hn:=ZlB
 have fin:EP X pins σ Q w s:=⟨z,H,I,rw',q⟩
 by_cases h0:0≤i
 ·have hj:i.toNat=j:=by
   rw [seqIndex_of h0 h5] at h1
   exact Vav h1
  exact item_listR pl.isList h0 (by omega) (by rw [hj];simpa using ew) fin hs
 ·have hj:(i+(its.toArray.size:Int)).toNat=j:=by
   rw [seqIndex_neg (by omega) h4] at h1
   rw [Va9,←hl]
   exact Vav h1
  exact subscriptTail_builtinR (x:=w) pl.isList.typeIs slot_list_getitem.lookup
   (wpAny_getItem_list_neg (Q:=fun r s'=>r=w∧EP X pins σ Q r s') pl.isList (by omega) (by rw [Va9]<;>omega) (by omega) (by rw [hj];simpa using ew) ⟨rfl,fin⟩) hs
theorem Zos:IxR X (rIxT X.K):=by
 intro value slice pins s σ H x y v u Q I rx ry h hs
 obtain ⟨p,xs,i,z,rfl,rfl,hq,he,q⟩:=h
 cases rx
 obtain ⟨t,rfl⟩:=ry
 obtain ⟨its,r,pl,hz⟩:=I.tuple hq
 obtain ⟨j,h1,h2,h3,h4,h5⟩:=Zmd he
 obtain ⟨w,ew,rw'⟩:=r.get h2
 have hl:=r.length
 have hn:=ZlB
 have fin:EP X pins σ Q w s:=⟨z,H,I,rw',q⟩
 exact subscriptTail_builtinR (x:=w) pl.typeIs slot_tuple_getitem.lookup
  (getItem_tuple (j:=j) (Q:=fun r s'=>r=w∧EP X pins σ Q r s') pl (by omega) (by omega) (by rw [Va9,←hl];exact h1) (by simpa using ew) ⟨rfl,fin⟩) hs
theorem Zin(lo hi:Option Int)(n:Nat):(sliceBounds lo hi none n).1=((HT.sIx n 0 lo:Nat):Int)∧(sliceBounds lo hi none n).2.1=((HT.sIx n n hi:Nat):Int)∧(sliceBounds lo hi none n).2.2=1:=by
 refine ⟨?_,?_,rfl⟩
 ·cases lo with
  | none=>simp [sliceBounds,HT.sIx]
  | some i =>
   simp only [sliceBounds,HT.sIx,Option.getD_none,show (1:Int)>0 by decide,Vbb]
   by_cases h:i<0
   ·simp only [h,Vbb]<;>omega
   ·simp only [h,Vba]<;>omega
 ·cases hi with
  | none=>simp [sliceBounds,HT.sIx]
  | some i =>
   simp only [sliceBounds,HT.sIx,Option.getD_none,show (1:Int)>0 by decide,Vbb]
   by_cases h:i<0
   ·simp only [h,Vbb]<;>omega
   ·simp only [h,Vba]<;>omega
theorem ZgO(its:List Value)(lo hi:Option Int):slicePick its.toArray lo hi none=((its.drop (HT.sIx its.length 0 lo)).take (HT.sIx its.length its.length hi - HT.sIx its.length 0 lo)).toArray:=by
 obtain ⟨h1,h2,h3⟩:=Zin lo hi its.toArray.size
 unfold slicePick
 rw [h1,h2,h3]
 simp only [sliceRange_one,pick_run,Va9]<;>rfl
def rSlL(K:W.Frag):V→Option Int→Option Int→Hp→VK→Prop:=fun x lo hi H Q=>∃a xs,x=.ref a∧SqL K H a xs∧∀p,H p=none→Q (.ref p) (upd H p (.lst (cutV xs lo hi)))
theorem ZqG:SlR X (rSlL X.K):=by
 intro pins s σ H x v vl vu lo hi sl Q I rx hs pl pu h
 obtain ⟨a,xs,rfl,hx,q⟩:=h
 cases rx
 obtain ⟨its,r,ht,hz⟩:=I.list hx
 have hlen:=r.length
 refine ⟨"list", _,slot_list_getitem.lookup,ht.isList.typeIs,?_⟩
 refine wpAny_getItem_list_slice ht.isList hs pl pu .none (by simp) ?_ (by rw [Va9]<;>omega)
 rw [ZgO,←hlen]
 refine ⟨.ref s.heap.objs.size,_,I.laid (t':=s.toks) (o:=.lst (cutV xs lo hi)) (fun b ob q=>VaD _ q) (VaI _) ?_,rfl,q _ (I.hok.fresh (VaI _))⟩
 exact ⟨Vak (Zfq xs lo hi) hz,_,0,(r.drop (HT.sIx xs.length 0 lo)).take (HT.sIx xs.length xs.length hi - HT.sIx xs.length 0 lo),VaH _ rfl⟩
theorem Ze5:Zet X (.builtin "len") (fun xs H Q=>∃p ys,xs=[.ref p]∧(SqL X.K H p ys∨SqT X.K H p ys)∧Q (.int ys.length) H):=by
 intro pins s σ H xs us Q I r h
 obtain ⟨p,ys,rfl,hq,q⟩:=h
 obtain ⟨u,rfl,rx⟩:=vals1 r
 cases rx
 have hn:=ZlB
 rcases hq with hq | hq
 ·obtain ⟨its,r',pl,hz⟩:=I.list hq
  have hlen:=r'.length
  exact Calls.call_len_list pl.isList (by simp only [Va9]<;>omega) ⟨.int ys.length,H,I.tok _,⟨s.toks+1,by rw [Va9,hlen]⟩,q⟩
 ·obtain ⟨its,r',pl,hz⟩:=I.tuple hq
  have hlen:=r'.length
  exact len_tuple pl (by simp only [Va9]<;>omega) ⟨.int ys.length,H,I.tok _,⟨s.toks+1,by rw [Va9,hlen]⟩,q⟩
theorem ZhD:Zet X (.type "list") (fun xs H Q=>∃p ys,xs=[.ref p]∧(SqL X.K H p ys∨SqT X.K H p ys)∧∀l,H l=none→Q (.ref l) (upd H l (.lst ys))):=by
 intro pins s σ H xs us Q I r h
 obtain ⟨p,ys,rfl,hq,q⟩:=h
 obtain ⟨u,rfl,rx⟩:=vals1 r
 cases rx
 have fin:∀(its:List Value),Vals ys its→ys.length≤sizeLine→∀(h':Heap) (c':Nat),(∀b o',s.heap.get? b=some o'→h'.get? b=some o') →
   h'.get? s.heap.objs.size=some { cls:=.type "list", dict:=none,data:=.seq its.toArray c',slots:=#[] }→EP X pins σ Q (.ref s.heap.objs.size) { s with heap:=h' }:=fun its r' hz h' c' kp e =>
  ⟨.ref s.heap.objs.size,_,I.laid (t':=s.toks) kp (VaI _) (show ZbX X.prog X.w _ h' _ (.lst ys) from ⟨hz,its,c',r',e⟩),rfl,q _ (I.hok.fresh (VaI _))⟩
 rcases hq with hq | hq
 ·obtain ⟨its,r',pl,hz⟩:=I.list hq
  have hlen:=r'.length
  obtain ⟨o,ho,hc,n,hd⟩:=pl.isList
  exact call_list_seq p (.inl rfl) ho hc hd (fun h' c' kp e=>fin its r' hz h' c' kp e) (by simp only [Va9]<;>omega)
 ·obtain ⟨its,r',pl,hz⟩:=I.tuple hq
  have hlen:=r'.length
  obtain ⟨o,ho,hc,n,hd⟩:=pl
  exact call_list_seq p (.inr rfl) ho hc hd (fun h' c' kp e=>fin its r' hz h' c' kp e) (by simp only [Va9]<;>omega)
theorem ZbZ:Zet X (.type "tuple") (fun xs H Q=>∃p ys,xs=[.ref p]∧((SqL X.K H p ys∧∀l,H l=none→Q (.ref l) (upd H l (.tup ys)))∨(SqT X.K H p ys∧Q (.ref p) H))):=by
 intro pins s σ H xs us Q I r h
 obtain ⟨p,ys,rfl,h⟩:=h
 obtain ⟨u,rfl,rx⟩:=vals1 r
 cases rx
 rcases h with ⟨hq,q⟩ | ⟨hq,q⟩
 ·obtain ⟨its,r',pl,hz⟩:=I.list hq
  have hlen:=r'.length
  refine call_tuple_list pl.isList (fun h' kp=>?_) (by simp only [Va9]<;>omega)
  have I1:Inv X pins σ H { s with heap:=h' }:=I.kept (t':=s.toks) kp
  have I2:Inv X pins σ (upd H h'.objs.size (.tup ys)) { s with heap:=h'.push { cls:=.type "tuple", data:=.seq its.toArray } } :=
   I1.laid (t':=s.toks) (fun b o e=>VaD _ e) (VaI _) (show ZbX X.prog X.w _ _ _ (.tup ys) from ⟨hz,its,r',IsTup.new _ _⟩)
  exact ⟨.ref h'.objs.size,_,I2,rfl,q _ (I1.hok.fresh (VaI _))⟩
 ·obtain ⟨its,r',pl,hz⟩:=I.tuple hq
  exact call_tuple_same pl ⟨.ref p,H,I,rfl,q⟩
def tyV(K:W.Frag)(T:String)(x:V)(H:Hp):Prop:=match x with
 | .str _=>T = "str"
 | .int _=>T = "int"
 | .ref p=>(T = "list"∧∃xs,SqL K H p xs)∨(T = "tuple"∧∃o,K.lookup p=some o∧o.cls=.type "tuple"∧o.dict=none) ∨
   (T = "dict"∧((∃kvs,H p=some (.dK kvs))∨∃kvs,H p=some (.dT kvs)))∨(T = "set"∧∃S n,H p=some (.set S n))
 | _=>False
theorem ZsK{pins:List (Addr×Obj)}{σ:St}{H:Hp}{s:Shared}{T:String}{x:V}{v:Value}(I:Inv X pins σ H s)(r:RelV x v)(ty:tyV X.K T x H) :
  s.TypeIs v T∧∀a,v=.ref a→∃ob,s.heap.get? a=some ob∧ob.dict=none:=by
 cases x with
 | str z =>
  obtain ⟨t,rfl⟩:=r
  cases (show T = "str" from ty)
  exact ⟨typeIs_str s z t,fun _ e=>nomatch e⟩
 | int i =>
  obtain ⟨t,rfl⟩:=r
  cases (show T = "int" from ty)
  exact ⟨typeIs_int s i t,fun _ e=>nomatch e⟩
 | ref p =>
  cases r
  rcases ty with ⟨rfl,xs,hq⟩ | ⟨rfl,o,hk,hc,hd⟩ | ⟨rfl,hk⟩ | ⟨rfl,S,n,hk⟩
  ·obtain ⟨its,_,pl,_⟩:=I.list hq
   refine ⟨pl.isList.typeIs,fun a e=>?_⟩
   cases e
   obtain ⟨o,n,e,c,hd,_⟩:=pl
   exact ⟨o,e,hd⟩
  ·refine ⟨⟨o,I.kIn p o hk,hc⟩,fun a e=>?_⟩
   cases e
   exact ⟨o,I.kIn _ o hk,hd⟩
  ·have z:∃o,s.heap.get? p=some o∧o.ExactDict:=by
    rcases hk with ⟨kvs,hk⟩ | ⟨kvs,hk⟩
    ·obtain ⟨_,_,_,_,o,_,_,e,ex,_⟩:=I.hok p _ hk
     exact ⟨o,e,ex⟩
    ·obtain ⟨_,_,_,_,o,_,_,e,ex,_⟩:=I.hok p _ hk
     exact ⟨o,e,ex⟩
   obtain ⟨o,e,ex⟩:=z
   refine ⟨⟨o,e,ex.1⟩,fun a e2=>?_⟩
   cases e2
   exact ⟨o,e,ex.2.1⟩
  ·obtain ⟨o,_,_,_,e,ex,_⟩:=I.hok p _ hk
   refine ⟨⟨o,e,ex.1⟩,fun a e2=>?_⟩
   cases e2
   exact ⟨o,e,ex.2.1⟩
 | _=>exact False.elim ty
def tBM(K:W.Frag)(T:String)(r:V→List V→Hp→VK→Prop)(to:TE)(t:TA):TE:=fun σ H Q=>to σ H fun x H1=>tyV K T x H1∧t σ H1 fun xs H2=>r x xs H2 Q
variable{o e:Expr}{es:List Expr}{to:TE}{t:TA}{name:Str}{apos cpos:Pos}{T id:String}{r:V→List V→Hp→VK→Prop}
theorem ZmR(pa:PlainAttrs T)(slot:Slot T name id)(hty:typeOf (.builtin id)=pure (.type "method_descriptor"))(hm:MtR X id r)(ho:PE X o to)(ha:PA X (e::es) t)
  (hbase:attributeBase o name X.env (eval o X.env)=eval o X.env:=by rfl)
  (hfew:((backTo cpos (starEach (e::es) X.env)).all (fun x=>!x.1)&&(backToKw cpos (keywordEach [] X.env)).all (fun x=>x.1.isSome)
   && decide ((e::es).length+([]:List Keyword).length+(if ([]:List Keyword).isEmpty then 0 else 1)<30))=true:=by rfl)
  (hline:(apos.endLine==cpos.line)=true:=by rfl) (hs:starEach (e::es) X.env=(false,eval e X.env)::starEach es X.env:=by rfl) (hplain:(backTo cpos (starEach es X.env)).any (·.1)=false:=by rfl) :
  PE X (.Call (.Attribute o name apos) (e::es) [] cpos) (tBM X.K T r to t):=by
 intro pins s σ H Q I h
 refine wpAny_Call_method_late hbase hfew hline rfl (thn (ho pins s σ H _ I h) fun v s1 ⟨x,H1,I1,r1,ty,q1⟩=>?_)
 obtain ⟨h1,h2⟩:=ZsK I1 r1 ty
 refine ⟨T,id,pa,slot,hty,h1,h2,?_⟩
 have hA:=ha cpos pins s1 σ H1 _ I1 q1
 rw [hs] at hA ⊢
 refine Calls.callWith_builtin (by show (false||(backTo cpos (starEach es X.env)).any (·.1))=false;rw [hplain]<;>rfl) (Calls.evalArgs_plain ?_)
 exact thn hA fun us s2 ⟨vs,H2,I2,r2,q2⟩=>hm pins s2 σ H2 x vs v us Q I2 r1 r2 q2
end
def MtM(X:Cx)(id:String)(r:V→List V→Hp→VK→Prop):Prop :=
 ∀(pins:List (Addr×Obj)) (s:Shared) (σ:St) (H:Hp) (x:V) (xs:List V) (v:Value) (us:List Value) (Q:VK),Inv X pins σ H s→RelV x v→Vals xs us→r x xs H Q →
  wpAny (model X.prog X.w) X.A (call (.builtin id) (v::us)) (EP X pins σ Q) X.xe s
theorem Vals.one:∀{x:V} {us:List Value},Vals [x] us→∃u,us=[u]∧RelV x u
 | _,_,.cons r .nil=>⟨_,rfl,r⟩
section
variable{X:Cx}{pins:List (Addr×Obj)}{σ:St}{H:Hp}{s:Shared}{l b:Addr}{xs ys zs:List V}
theorem Inv.lset{its its':List Value}{n:Nat}{f:Array Value→Array Value}{t':Nat}(I:Inv X pins σ H s)(hH:H l=some (.lst xs))
  (e:s.heap.get? l=some { cls:=.type "list", data:=.seq its.toArray n }) (hf:f its.toArray=its'.toArray) (hv:Vals ys its') (hz:ys.length≤sizeLine) :
  Inv X pins σ (upd H l (.lst ys)) { s with heap:=s.heap.update l (Obj.mapSeq f),toks:=t' }:=by
 have q:=PySem.IsL.update e f
 rw [hf] at q
 refine I.write (x:=l) (e:=l) (by rw [hH];exact trivial) (.inl rfl) (fun b' u hb hu=>(Vbk s.heap (Obj.mapSeq f) (Ne.symm hb)).trans hu) ⟨_,q⟩ ?_
 exact ⟨hz,its',_,hv,q⟩
theorem Inv.lnew{its:List Value}{t':Nat}(I:Inv X pins σ H s)(hv:Vals ys its)(hz:ys.length≤sizeLine) :
  Inv X pins σ (upd H s.heap.objs.size (.lst ys)) { s with heap:=s.heap.push { cls:=.type "list", data:=.seq its.toArray },toks:=t' } :=
 I.laid (fun _ _ q=>VaD _ q) (VaI _) ⟨hz,its,0,hv,VaH _ rfl⟩
theorem Inv.fresh(I:Inv X pins σ H s):H s.heap.objs.size=none:=I.hok.fresh (VaI _)
theorem Inv.lstM(I:Inv X pins σ H s)(hH:H l=some (.lst xs)):xs.length≤sizeLine∧∃(its:List Value) (n:Nat),Vals xs its∧xs.length=its.length∧s.heap.get? l=some { cls:=.type "list", data:=.seq its.toArray n }:=by
 obtain ⟨z,its,n,r,e⟩:=I.hok l _ hH
 exact ⟨z,its,n,r,r.length,e⟩
end
section
variable{X:Cx}
def ZbE:V→List V→Hp→VK→Prop:=fun x vs H Q=>∃l xs y,x=.ref l∧vs=[y]∧H l=some (.lst xs)∧xs.length<sizeLine∧Q .non (upd H l (.lst (xs++[y])))
theorem ZfS:MtM X "list.append" ZbE:=by
 intro pins s σ H x vs v us Q I rx rv h
 obtain ⟨l,xs,y,rfl,rfl,hH,hz,q⟩:=h
 cases rx
 obtain ⟨u,rfl,ru⟩:=rv.one
 obtain ⟨z,its,n,r,hl,e⟩:=I.lstM hH
 refine call_meets F.slot_list_append ⟨_,e,rfl⟩ F.entry_list_append (F.args_list_append_2 _ _) (PySem.list_append l its.toArray n u (by rw [Va9];omega)) ⟨e,?_⟩
 refine ⟨.non,_,I.lset (its':=its++[u]) hH e (by simp) (r.append (.cons ru .nil)) ?_,rfl,q⟩
 rw [Va7,Vbl]
 omega
end
section
variable{prog:Program}{w:World}{A:Around}{E:Value→Shared→Prop}{s:Shared}
set_option maxRecDepth 100000 in
end
end L2
namespace Att
open PySem PySem.W PySem.Calls PyProof.Rows
theorem Zf9{P:Params}{h:Heap}:∀(ns:List Int) (vs:List Value),WellAll P h vs (ns.map WData.int)→IntsAre vs ns:=by
 intro ns
 induction ns with
 | nil =>
  intro vs w
  rw [List.map_nil] at w
  cases w
  exact .nil
 | cons n ns ih =>
  intro vs w
  rw [VaP] at w
  cases w with
  | cons a b =>
   cases a
   exact .cons _ _ (ih _ b)
theorem Zmu{l:OpenLaw}{n:Nat}(hn:l.most=some n){P:Params}{h:Heap}{args:List WData}{vals:List Value}
  (hpre:l.row.toRowW.claim.pre args=true) (hwl:WellAll P h vals args) :
  ∃a vs ns,vals=[Value.ref a]∧args=[WData.list (ns.map WData.int)]∧h.get? a=some { cls:=.type "list", data:=.seq vs.toArray }∧IntsAre vs ns∧ns.length≤n:=by
 have hsh:WShape.hasAll [] args [.list .int]=true:=(pre_splitW hpre).1
 have hc:l.pre.holds [] { args:=args }=true:=(pre_splitW hpre).2
 obtain ⟨d,r,rfl,h1,h2⟩:=hasAllW_cons hsh
 obtain rfl:=hasAllW_nil h2
 obtain ⟨xs,rfl,h3⟩:=hasW_list h1
 obtain ⟨ns,rfl⟩:=items_int h3
 have hlen:ns.length≤n:=by
  unfold OpenLaw.pre at hc
  have h4:(WTm.not (.lt (.lit (.int (n:Int))) (.len (.arg 0)))).holds [] { args:=[.list (ns.map .int)] }=true:=by
   have h4:=(holds_andW hc).1
   rw [hn] at h4
   exact h4
  have h5:=condW_of h4 (w_not (w_lt w_lit (w_len_list (w_arg rfl))))
  rw [VaQ] at h5
  refine Nat.le_of_not_lt fun q=>?_
  have q':(n:Int)<((ns.length:Nat):Int):=by omega
  first
   | (rw [Vbm q'] at h5;exact absurd h5 (by decide))
   | (simp at h5;omega)
 cases hwl with
 | cons w1 w2 =>
  cases w2
  cases w1 with
  | list ho hall=>exact ⟨_,_,ns,rfl,rfl,ho,Zf9 ns _ hall,hlen⟩
theorem Zlf(l:OpenLaw)(args:List WData):l.row.toRowW.claim.post args (.bool true) args=true :=
 postW_of (r:=l.row.toRowW) (X:=(true==true))
  (show WShape.has [] (.bool true) .bool=true by first | rfl | decide | simp [WShape.has,WShape.arms,WShape.armsAll])
  (show (WTm.eq .res (.lit (.bool true))).value [] { args:=args,res:=some (.bool true),after:=args }=some (.bool (true==true)) from w_eq_bool (w_res rfl) w_lit) rfl
theorem ZiJ{l:OpenLaw}{n:Nat}{q:Program}{loose:List Str}{XP:(Str→Option Value)→Heap→Prop}{YP:World→Heap→Prop}{d:DefRec}
  (hn:l.most=some n) (hdf:d.params.defaults=[])
  (call:∀(w:World) (s₀ s₁:Shared) (mg mb:Str→Option Value) (fa:Addr) (o:Obj) (pm cd doc:Value) (a:Addr) (vs:List Value) (ns:List Int),
   Ground q loose [] XP w s₀ mg mb s₁.heap→YP w s₁.heap →
   s₁.heap.get? fa=some o→o.data=.func (docDef d.name d.params d.body d.scope pm cd doc)→s₁.heap.CodeRec cd d.name→mg d.name=some (.ref fa) →
   s₁.heap.get? a=some { cls:=.type "list", data:=.seq vs.toArray }→IntsAre vs ns→ns.length≤n→s₁.gens=#[] →
   codeAny (model l.prog w) callerA (.call (.ref fa) ⟨[.ref a],[]⟩) (fun r s'=>r=.ok (.ret (.bool true))∧OldK s₁.heap s'.heap∧s'.os=s₁.os∧AllBare s'.gens) s₁) :
  WalkO q loose XP YP l.row.toRowW d [] (fun f vs=>PySem.call f vs):=by
 intro w s₀ s₁ mg mb G Y fa o pm cd doc dV kV ho hd hcd hD hmg hg args vals as hpre hlay hrd hwl hlo
 obtain rfl:dV=.none:=Dflts.none hD hdf
 obtain rfl:kV=.none:=Dflts.noKw hD
 obtain ⟨a,vs,ns,rfl,rfl,hobj,hints,hlen⟩:=Zmu hn hpre hwl
 refine enter_call (VaW (call w s₀ s₁ mg mb fa o pm cd doc a vs ns G Y ho (fd_plain hd) hcd hmg hobj hints hlen hg) fun r s' hq=>?_)
 obtain ⟨rfl,h2,h3,h4⟩:=hq
 exact ⟨.inl ⟨.bool true,.bool true,[],rfl,fun _=>rfl,.bool true,Zlf l _,fun _=>⟨List.Pairwise.nil,fun _ hm=>(nomatch hm)⟩⟩,h2,h3,h4⟩
end Att
namespace L2
open PySem PySem.Spec PyProof.Rows
theorem ZhQ:∀{vs:List Value} {ns:List Int},IntsAre vs ns→Vals (ns.map V.int) vs
 | _,_,.nil=>.nil
 | _,_,.cons n t h=>.cons ⟨t,rfl⟩ (ZhQ h)
def Only(H:Hp):Prop:=∀b,H b=none∨∃o xs,H b=some (.frz o (.lst xs))
theorem ZnF{P:Program}{w:World}{K:W.Frag}{mg mb:Str→Option Value}{CX:CXT}{k:Nat}{fa a:Addr}{fd:FuncData}{x:Str}{sp:Sp}{s₁:Shared}{vs:List Value}{ns:List Int}
  (KX:K.In s₁.heap) (hns:s₁.heap.Ns mainGlobals mg) (hb:s₁.heap.Ns builtinsNs mb) (hbb:∀x:Str,x ≠ "__name__"→mb x=bootBuiltins x) (hlim:s₁.heap.NoLimit) (hg:s₁.gens=#[])
  (ha:s₁.heap.get? a=some { cls:=.type "list", data:=.seq vs.toArray }) (hi:IntsAre vs ns) (hl:ns.length≤sizeLine) (hr:Room k callerA)
  (F:∀base:Heap,K.In base→base.Ns mainGlobals mg→FnOk P w K mg base CX k fa fd [x] sp) (hbind:∀(s:Shared) (u:Value),BindsTo s fd ⟨[u],[]⟩ [(x,u)])
  (hsp:∀H:Hp,Only H→SqL K H a (ns.map V.int)→sp [.ref a] H (fun v _=>v=.bl true) fun _ _ _=>False)
  (hCX:∀H e s',CX [] H s₁ (fun _ _ _=>False) e s'→False) :
  codeAny (model P w) callerA (.call (.ref fa) ⟨[.ref a],[]⟩) (fun r s'=>r=.ok (.ret (.bool true))∧OldK s₁.heap s'.heap∧s'.os=s₁.os∧AllBare s'.gens) s₁:=by
 have rv:=ZhQ hi
 have lenV:=hi.length
 have core:∀H:Hp,Only H→SqL K H a (ns.map V.int)→HOk P w H s₁.heap→(∀b,H b≠none→b=a)→(H a≠none→K.lookup a=none) →
   codeAny (model P w) callerA (.call (.ref fa) ⟨[.ref a],[]⟩) (fun r s'=>r=.ok (.ret (.bool true))∧OldK s₁.heap s'.heap∧s'.os=s₁.os∧AllBare s'.gens) s₁:=by
  intro H hO hS hok hA hK
  have base_of:∀{b:Addr} {o:Obj},s₁.heap.get? b=some o→H b=none→(hidT s₁.heap H).get? b=some o:=fun e n=>Zn2 e n
  have noA:∀{b:Addr} {o:Obj} {es:Array DictEntry} {ep:Nat},s₁.heap.get? b=some o→o.data=.dict es ep→H b=none:=fun {b o es ep} e d=>by
   cases q:H b with
   | none=>rfl
   | some u =>
    have e':b=a:=hA b (by rw [q];simp)
    subst e'
    rw [ha] at e;cases e
    have d':Data.seq vs.toArray _=Data.dict es ep:=d
    cases d'
  have nsK:∀{b:Addr} {m:Str→Option Value},s₁.heap.Ns b m→(hidT s₁.heap H).Ns b m:=fun {b m} ⟨o,es,ep,e,d,r⟩=>⟨o,es,ep,base_of e (noA e d),d,r⟩
  have hKb:K.In (hidT s₁.heap H):=fun b o e=>base_of (KX b o e) (by
   cases q:H b with
   | none=>rfl
   | some u =>
    have e':b=a:=hA b (by rw [q];simp)
    subst e'
    rw [hK (by rw [q];simp)] at e;cases e)
  have hM:Mod K mg (hidT s₁.heap H):=⟨hKb,nsK hns,⟨mb,nsK hb,hbb⟩,let ⟨mc,h1,h2⟩:=hlim;⟨mc,nsK h1,h2⟩⟩
  have e0:Env0 P w K mg (hidT s₁.heap H) callerA [] s₁ H:=⟨rfl,hM,fun b o e=>Zo0 e,Nat.le_of_eq (Zmn _ _),trivial,fun b hb=>absurd (show b∈([]:List Addr) from hb) (by simp),hok,.of_eq hg⟩
  refine VaW ((F _ hKb (nsK hns)).run callerA [] s₁ H ⟨[.ref a],[]⟩ [.ref a] [.ref a] _ _ hr e0 (hbind s₁ (.ref a)) (.cons rfl .nil) (hsp H hO hS)) fun r s' h=>?_
  cases r with
  | error e=>exact (hCX H e s' h).elim
  | ok fl =>
   cases fl with
   | next=>exact False.elim h
   | brk=>exact False.elim h
   | cont=>exact False.elim h
   | ret u =>
    obtain ⟨v,H',os,bare,un,hok',r',q⟩:=h
    have q':v=.bl true:=q
    subst q'
    obtain rfl:u=Value.bool true:=r'
    refine ⟨rfl,OldK.of_keep fun b o e=>?_,os,bare⟩
    cases q:H b with
    | none=>exact un.keep b o e q (by intro z;exact absurd (show b∈([]:List Addr) from z) (by simp)) (by simp)
    | some u =>
     rcases hO b with z | ⟨ob,xs,z⟩
     ·rw [q] at z;cases z
     ·have z2:=un.frzs b ob _ z
      obtain ⟨e1,_⟩:=hok b _ z
      obtain ⟨e2,_⟩:=hok' b _ z2
      rw [e] at e1;cases e1
      exact e2
 cases hk:K.lookup a with
 | some o =>
  have e:=KX a o hk
  rw [ha] at e
  cases e
  refine core (fun _=>none) (fun _=>.inl rfl) (.inr ⟨_,vs.toArray,_,hk,rfl,rfl,rfl,by rw [Va9,lenV];exact hl,by simpa using rv⟩) (fun b u z=>by have z':(none:Option HO)=some u:=z;cases z') (fun b z=>absurd rfl z) fun z=>absurd rfl z
 | none =>
  refine core (fun b=>if b=a then some (.frz { cls:=.type "list", data:=.seq vs.toArray } (.lst (ns.map V.int))) else none) (fun b=>?_) (.inl (.inr ⟨{ cls:=.type "list", data:=.seq vs.toArray },if_pos rfl⟩)) (fun b u z=>?_) (fun b z=>?_) fun _=>hk
  ·by_cases hb:b=a
   ·exact .inr ⟨_,_,if_pos hb⟩
   ·exact .inl (if_neg hb)
  ·by_cases hb:b=a
   ·have z':=(if_pos hb).symm.trans z
    cases z'
    subst hb
    exact ⟨ha,by rw [VaQ];exact hl,vs,_,rv,ha⟩
   ·have z':=(if_neg hb).symm.trans z
    cases z'
  ·by_cases hb:b=a
   ·exact hb
   ·exact absurd (if_neg hb) z
theorem ZoW{l:W.OpenLaw}{n k:Nat}{q:Program}{loose:List Str}{XP:(Str→Option Value)→Heap→Prop}{YP:World→Heap→Prop}{d:DefRec}{K:Params→W.Frag}{CX:World→CXT}{sp:World→Sp}{x:Str}
  (hn:l.most=some n) (hn2:n≤sizeLine) (hdf:d.params.defaults=[]) (hr:Room k callerA)
  (hY:∀(w:World) (h:Heap),YP w h→(K w.params).In h)
  (F:∀(w:World) (mg:Str→Option Value) (fa:Addr) (h:Heap),(K w.params).In h→h.Ns mainGlobals mg→mg d.name=some (.ref fa) →
   ∃fd:FuncData,(∀(s:Shared) (u:Value),BindsTo s fd ⟨[u],[]⟩ [(x,u)]) ∧
    ∀base:Heap,(K w.params).In base→base.Ns mainGlobals mg→FnOk l.prog w (K w.params) mg base (CX w) k fa fd [x] (sp w))
  (hsp:∀(w:World) (H:Hp) (a:Addr) (ns:List Int),ns.length≤n→Only H→SqL (K w.params) H a (ns.map V.int)→sp w [.ref a] H (fun v _=>v=.bl true) fun _ _ _=>False)
  (hCX:∀(w:World) (H:Hp) (s:Shared) (e:Value) (s':Shared),CX w [] H s (fun _ _ _=>False) e s'→False) :
  W.WalkO q loose XP YP l.row.toRowW d [] (fun f vs=>PySem.call f vs):=by
 refine Att.ZiJ hn hdf fun w s₀ s₁ mg mb fa o pm cd doc a vs ns G Y ho hd hcd hmg hobj hints hlen hg=>?_
 have KX:=hY w _ Y
 obtain ⟨fd,hb,hF⟩:=F w mg fa _ KX G.T.g hmg
 exact ZnF KX G.T.g G.T.b G.T.builtins G.T.nolimit hg hobj hints (Vak hlen hn2) hr hF hb (fun H hO hS=>hsp w H a ns hlen hO hS) fun H e s'=>hCX w H s₁ e s'
abbrev E0:XK:=fun _ _ _=>False
structure Fun(K:W.Frag)(x qual:Str)(st:Stmt)(f:Addr)(fd:FuncData):Prop where
 ex:∃(oc:Value) (od:Option Addr) (kV doc pm:Value) (an:Option Addr) (cdv ct:Value) (osl:Array (Option Value)),
  fd=W.fnOf x qual (Zcu st) (ZaY st) (Zab st) .none kV doc pm an cdv ct∧K.lookup f=some ⟨oc,od,.func fd,osl⟩∧W.codeIn K cdv qual=true
 kp:W.keepIn K (.ref f)=true
section
variable{P:Program}{w:World}{K:W.Frag}{mg:Str→Option Value}{base:Heap}
theorem Fun.binds{x qual:Str}{st:Stmt}{f:Addr}{fd:FuncData}{ps:List Str}(F:Fun K x qual st f fd)
  (h:∀(kV doc pm:Value) (an:Option Addr) (cdv ct:Value) (us:List Value),us.length=ps.length→bindArgs (W.fnOf x qual (Zcu st) (ZaY st) (Zab st) .none kV doc pm an cdv ct) ⟨us,[]⟩=pure (ps.zip us)):Binds K fd ps []:=by
 obtain ⟨oc,od,kV,doc,pm,an,cdv,ct,osl,rfl,lk,hcd⟩:=F.ex
 exact .all (h kV doc pm an cdv ct)
theorem Zcf{x qual:Str}{st:Stmt}{f:Addr}{oc:Value}{od an:Option Addr}{osl:Array (Option Value)}{kV doc pm cdv ct:Value}(l:K.lookup f=some ⟨oc,od,.func (W.fnOf x qual (Zcu st) (ZaY st) (Zab st) .none kV doc pm an cdv ct),osl⟩)
  (c:W.codeIn K cdv qual=true) (k:W.keepIn K (.ref f)=true):Fun K x qual st f (W.fnOf x qual (Zcu st) (ZaY st) (Zab st) .none kV doc pm an cdv ct):=⟨⟨oc,od,kV,doc,pm,an,cdv,ct,osl,rfl,l,c⟩,k⟩
end
theorem Zl4{n:Nat}(h:n≤1000):n<sizeLine:=Vbn h (by decide)
def Same(H H':Hp):Prop:=∀b o,H b=some o→H' b=some o
theorem Same.refl(H:Hp):Same H H:=fun _ _ h=>h
theorem Same.trans{H H1 H2:Hp}(a:Same H H1)(b:Same H1 H2):Same H H2:=fun c o h=>b c o (a c o h)
theorem Same.free{H H':Hp}(e:Same H H'){l:Addr}(h:H' l=Option.none):H l=Option.none:=by
 cases q:H l with
 | none=>rfl
 | some o =>
  rw [e l o q] at h
  cases h
theorem Same.seq{K:W.Frag}{H H':Hp}{a:Addr}{xs:List V}(e:Same H H')(h:SqL K H a xs):SqL K H' a xs:=by
 rcases h with (h | ⟨o,h⟩) | h
 ·exact .inl (.inl (e _ _ h))
 ·exact .inl (.inr ⟨o,e _ _ h⟩)
 ·exact .inr h
end L2
set_option maxHeartbeats 4000000
namespace L2
open PySem PySem.Spec PyProof.Rows
section
variable{X:Cx}
theorem Zqs:OpR X (binaryOp .Mult) (rI IntMulOk fun i j=>.int (i*j)):=opI fun _ _ _ _ _ _ _ hc q=>mul_int q hc
def Zqr(_ j:Int):Prop:=j≠0∧j.natAbs.log2<9000
theorem Zm4:OpR X (binaryOp .FloorDiv) (rI Zqr fun i j=>.int (i.fdiv j)):=opI fun _ _ _ _ _ _ _ hc q=>floordiv_int hc.1 q (.inl (PyProof.noPylong_of_log2 hc.2))
theorem ZrU{n:String}{x:Str}{pos:Pos}(hg:Gl X x)(hm:X.mg x=none)(hv:bootBuiltins x=some (.type n))(hn:x ≠ "__name__" := by decide)(hd:(x==("__debug__" : Str))=false:=by decide):PE X (.Name x pos) (tC (.ty n)) :=
 Zqu hg hm hv rfl hn hd
end
theorem Zsb:bootBuiltins "abs"=some (.builtin "abs"):=by decide +kernel
theorem Zjp:bootBuiltins "all"=some (.builtin "all"):=by decide +kernel
theorem Zhp:bootBuiltins "isinstance"=some (.builtin "isinstance"):=by decide +kernel
theorem ZmB:bootBuiltins "len"=some (.builtin "len"):=by decide +kernel
theorem ZrN:bootBuiltins "min"=some (.builtin "min"):=by decide +kernel
theorem Zod:bootBuiltins "int"=some (.type "int"):=by decide +kernel
theorem ZpZ:bootBuiltins "bool"=some (.type "bool"):=by decide +kernel
theorem Zd7:bootBuiltins "tuple"=some (.type "tuple"):=by decide +kernel
theorem ZiQ:bootBuiltins "list"=some (.type "list"):=by decide +kernel
theorem ZrE:bootBuiltins "zip"=some (.type "zip"):=by decide +kernel
theorem Zib:bootBuiltins "enumerate"=some (.type "enumerate"):=by decide +kernel
theorem Zm1(K:W.Frag)(t:Value):W.kitOne K t t=some true:=by
 unfold W.kitOne
 rw [if_pos (beq_self_eq_true t)]
theorem ZrX(K:W.Frag){T U:String}{b:Bool}(hne:(Value.type T==Value.type U)=false)(hm:W.kitMeta U=true)(h:(fastBuiltinMro T).map (·.contains (Value.type U))=some b):W.kitOne K (.type T) (.type U)=some b:=by
 unfold W.kitOne
 rw [if_neg (by rw [hne];exact VaF)]
 show (if W.kitMeta U=true then _ else none)=_
 rw [if_pos hm]
 exact h
mutual
inductive DV(K:W.Frag)(H:Hp):V→PyData→Prop
 | non:DV K H .non .none
 | bl (b:Bool):DV K H (.bl b) (.bool b)
 | int (i:Int):DV K H (.int i) (.int i)
 | str (x:Str):DV K H (.str x) (.str x)
 | tup {a:Addr} {xs:List V} {ds:List PyData} (h:SqT K H a xs) (r:DVs K H xs ds):DV K H (.ref a) (.tuple ds)
 | lst {a:Addr} {xs:List V} {ds:List PyData} (h:SqL K H a xs) (r:DVs K H xs ds):DV K H (.ref a) (.list ds)
inductive DVs(K:W.Frag)(H:Hp):List V→List PyData→Prop
 | nil:DVs K H [] []
 | cons {x:V} {xs:List V} {d:PyData} {ds:List PyData} (h:DV K H x d) (r:DVs K H xs ds):DVs K H (x::xs) (d::ds)
end
section
variable{X:Cx}{pins:List (Addr×Obj)}{σ:St}{H:Hp}{s:Shared}
mutual
theorem DV.reads(I:Inv X pins σ H s):∀{x:V} {d:PyData} {u:Value},DV X.K H x d→RelV x u→∃as,Reads s.heap u d as
 | _,_,_,.non,r=>by cases r;exact ⟨_,.none⟩
 | _,_,_,.bl b,r=>by cases r;exact ⟨_,.bool b⟩
 | _,_,_,.int i,r=>by obtain ⟨t,rfl⟩:=r;exact ⟨_,.int i t⟩
 | _,_,_,.str i,r=>by obtain ⟨t,rfl⟩:=r;exact ⟨_,.str i t⟩
 | _,_,_,.tup h q,r=>by
  cases r
  obtain ⟨its,rv,⟨o,h1,h2,n,h3⟩,_⟩:=I.tuple h
  obtain ⟨as,ra⟩:=DVs.reads I q rv
  exact ⟨_,.tuple h1 h2 h3 (by simpa using ra)⟩
 | _,_,_,.lst h q,r=>by
  cases r
  obtain ⟨its,rv,pl,_⟩:=I.list h
  obtain ⟨o,h1,h2,n,h3⟩:=pl.isList
  obtain ⟨as,ra⟩:=DVs.reads I q rv
  exact ⟨_,.list h1 h2 h3 (by simpa using ra)⟩
theorem DVs.reads(I:Inv X pins σ H s):∀{xs:List V} {ds:List PyData} {us:List Value},DVs X.K H xs ds→Vals xs us→∃as,ReadsAll s.heap us ds as
 | _,_,_,.nil,r=>by cases r;exact ⟨_,.nil⟩
 | _,_,_,.cons h q,r=>by
  cases r with
  | cons r1 r2 =>
   obtain ⟨as,ra⟩:=DV.reads I h r1
   obtain ⟨bs,rb⟩:=DVs.reads I q r2
   exact ⟨_,.cons ra rb⟩
end
end
section
variable{X:Cx}
def rEqD(K:W.Frag)(f:Bool→Bool):R2:=fun x y H Q=>∃dx dy,DV K H x dx∧DV K H y dy∧dx.canLay0=true∧dy.canLay0=true∧dx.depth≤60∧Q (.bl (f (PyData.eqv dx dy))) H
theorem Zou(hu:X.A.units+64<cLine):OpR X (compareOp .Eq) (rEqD X.K id):=by
 intro pins s σ H x y v u Q I rx ry h
 obtain ⟨dx,dy,h1,h2,h3,h4,h5,q⟩:=h
 obtain ⟨as,ra⟩:=h1.reads I rx
 obtain ⟨bs,rb⟩:=h2.reads I ry
 exact PySem.SeqAt.compareEq_reads ra rb h3 h4 (by omega) (ZjM I q rfl)
theorem Ztm(hu:X.A.units+64<cLine):OpR X (compareOp .NotEq) (rEqD X.K not):=by
 intro pins s σ H x y v u Q I rx ry h
 obtain ⟨dx,dy,h1,h2,h3,h4,h5,q⟩:=h
 obtain ⟨as,ra⟩:=h1.reads I rx
 obtain ⟨bs,rb⟩:=h2.reads I ry
 exact PySem.SeqAt.compareNe_reads ra rb h3 h4 (by omega) (ZjM I q rfl)
end
structure Def(K:W.Frag)(mg:Str→Option Value)(x:Str)(st:Stmt)(ps:List Str):Prop where
 ex:∃(f:Addr) (fd:FuncData),Fun K x x st f fd∧Binds K fd ps []∧mg x=some (.ref f)
theorem Zaz{H:Hp}{p:Addr}(h:H p=none)(o:HO):Same H (upd H p o):=fun b u q=>by rw [Zaf (Zae q h)];exact q
end L2
namespace L2
open PySem
end L2
namespace L2
end L2
namespace L2
open PySem PySem.Spec PyProof.Rows
def Zn4(ts:List Expr)(env:Env):Sem Bool:=match ts with
 | []=>pure true
 | c::_=>isTrue c env (eval c env)
theorem Zik(elt target iter:Expr)(scope:Scope)(pos:Pos)(it acc:Value)(env:Env) :
  compTurn (.ListComp elt [⟨target,iter,[],0⟩] scope pos) 0 it acc env=(standAt iter.pos >>= fun _=>pyNext it >>= fun r=>match r with
   | none=>pure (.done .next)
   | some v=>letOwnedTupleGo target it v >>= fun _=>assign target env v >>= fun _ =>
    (eval elt env >>= fun x=>call (.builtin "list.append") [acc,x] >>= fun _=>pure ()) >>= fun _ =>
     again (.compLoop (.ListComp elt [⟨target,iter,[],0⟩] scope pos) 0 it acc env)):=by rfl
theorem Zio(elt target iter c:Expr)(scope:Scope)(pos:Pos)(it acc:Value)(env:Env) :
  compTurn (.ListComp elt [⟨target,iter,[c],0⟩] scope pos) 0 it acc env=(standAt iter.pos >>= fun _=>pyNext it >>= fun r=>match r with
   | none=>pure (.done .next)
   | some v=>letOwnedTupleGo target it v >>= fun _=>assign target env v >>= fun _ =>
    (forIn [c] true fun (c:Expr) (s:Bool)=>if s=true then (isTrue c env (eval c env) >>= fun ok=>pure (ForInStep.yield ok)) else pure (ForInStep.yield s)) >>= fun s=>if s=true then
     (eval elt env >>= fun x=>call (.builtin "list.append") [acc,x] >>= fun _=>pure ()) >>= fun _ =>
      again (.compLoop (.ListComp elt [⟨target,iter,[c],0⟩] scope pos) 0 it acc env)
     else again (.compLoop (.ListComp elt [⟨target,iter,[c],0⟩] scope pos) 0 it acc env)):=by rfl
theorem Zhu{prog:Program}{w:World}{A:Around}{R:Result→Shared→Prop}{s:Shared}{elt target iter:Expr}{ts:List Expr}{scope:Scope}{pos:Pos}{it acc:Value}{env:Env}(hts:ts.length≤1)(I:Nat→Shared→Prop)
  (turn:∀n s,I n s→wpAny (model prog w) A (pyNext it) (fun r s₁=>match r with
   | none=>R (.ok .next) s₁
   | some v=>wpAny (model prog w) A (letOwnedTupleGo target it v) (fun _ s₁'=>wpAny (model prog w) A (assign target env v) (fun _ s₂=>wpAny (model prog w) A (Zn4 ts env) (fun b s₂'=>if b=true then wpAny (model prog w) A (eval elt env) (fun x s₃ =>
     wpAny (model prog w) A (call (.builtin "list.append") [acc,x]) (fun _ s₄=>∃m,m<n∧I m s₄) (notedBy (model prog w) A env fun e s'=>R (.error e) s') s₃)
     (notedBy (model prog w) A env fun e s'=>R (.error e) s') s₂' else ∃m,m<n∧I m s₂') (notedBy (model prog w) A env fun e s'=>R (.error e) s') s₂) (notedBy (model prog w) A env fun e s'=>R (.error e) s') s₁') (notedBy (model prog w) A env fun e s'=>R (.error e) s') s₁) (notedBy (model prog w) A env fun e s'=>R (.error e) s') s)
  (n:Nat) (h:I n s) :
  codeAny (model prog w) A (.compLoop (.ListComp elt [⟨target,iter,ts,0⟩] scope pos) 0 it acc env) R s:=by
 refine codeAny_loop rfl I (fun n s hI=>?_) n h
 show wpAny _ _ ((compTurn (.ListComp elt [⟨target,iter,ts,0⟩] scope pos) 0 it acc env).onRaise (fun x=>do noteFrame x env;theTreesLotGoes x)) _ _ s
 refine wpAny_noted ?_
 match ts,hts with
 | [],_ =>
  rw [Zik]
  refine Vaz (VaA (Vaz (Vaw (turn n s hI) (fun r s₁ h₁=>?_) fun _ _ h'=>h')))
  cases r with
  | none=>exact VaB h₁
  | some v =>
   refine Vaz (Vaw h₁ (fun _ s₁' h₁'=>?_) fun _ _ h'=>h')
   refine Vaz (Vaw h₁' (fun _ s₂ h₂=>?_) fun _ _ h'=>h')
   show wpAny _ _ ((pure true:Sem Bool) >>= fun b=>if b=true then ((eval elt env >>= fun x=>call (.builtin "list.append") [acc,x] >>= fun _=>pure ()) >>= fun _=>again (.compLoop (.ListComp elt [⟨target,iter,[],0⟩] scope pos) 0 it acc env)) else again (.compLoop (.ListComp elt [⟨target,iter,[],0⟩] scope pos) 0 it acc env)) _ _ s₂
   refine Vaz (Vaw h₂ (fun b s₂' h₂'=>?_) fun _ _ h'=>h')
   cases b with
   | true =>
    rw [if_pos rfl] at h₂' ⊢
    exact Vaz (Vaz (Vaw h₂' (fun x s₃ h₃=>Vaz (Vaw h₃ (fun _ s₄ h₄=>VaB (VaB ⟨rfl,h₄⟩)) fun _ _ h'=>h')) fun _ _ h'=>h'))
   | false =>
    rw [if_neg VaF] at h₂' ⊢
    exact VaB ⟨rfl,h₂'⟩
 | [c],_ =>
  rw [Zio]
  refine Vaz (VaA (Vaz (Vaw (turn n s hI) (fun r s₁ h₁=>?_) fun _ _ h'=>h')))
  cases r with
  | none=>exact VaB h₁
  | some v =>
   refine Vaz (Vaw h₁ (fun _ s₁' h₁'=>?_) fun _ _ h'=>h')
   refine Vaz (Vaw h₁' (fun _ s₂ h₂=>?_) fun _ _ h'=>h')
   rw [Vbo]
   refine Vaz (Vaz ?_)
   rw [if_pos rfl]
   refine Vaz (Vaw h₂ (fun b s₂' h₂'=>VaB ?_) fun _ _ h'=>h')
   show wpAny _ _ (forIn [] b _) _ _ _
   rw [Vbp]
   refine VaB ?_
   cases b with
   | true =>
    rw [if_pos rfl] at h₂' ⊢
    exact Vaz (Vaz (Vaw h₂' (fun x s₃ h₃=>Vaz (Vaw h₃ (fun _ s₄ h₄=>VaB (VaB ⟨rfl,h₄⟩)) fun _ _ h'=>h')) fun _ _ h'=>h'))
   | false =>
    rw [if_neg VaF] at h₂' ⊢
    exact VaB ⟨rfl,h₂'⟩
theorem ZfP:∀(names:List (Str×NameKind)) (h:Heap) (acc:List (Str×Addr)) (n:Str) (c:Addr),(n,c)∈PySem.cellsFrom h.objs.size names acc→(n,c)∈acc∨((PySem.pushCells h names).IsCell c none∧h.objs.size≤c)
 | [],_,_,_,_,hm=>.inl hm
 | (name,kind)::r,h,acc,n,c,hm=>by
  unfold PySem.cellsFrom at hm
  unfold PySem.pushCells
  split at hm
  ·rename_i hk
   rw [if_pos hk]
   have hm':(n,c)∈PySem.cellsFrom (h.push { cls:=.type "cell", data:=.cell none }).objs.size r ((name,h.objs.size)::acc):=by rw [VaR];exact hm
   rcases ZfP r (h.push { cls:=.type "cell", data:=.cell none }) ((name,h.objs.size)::acc) n c hm' with z | ⟨z1,z2⟩
   ·rcases Var.mp z with e | z
    ·cases e
     exact .inr ⟨⟨_,PySem.pushCells_keeps r _ _ _ (VaH _ rfl),rfl⟩,VaI _⟩
    ·exact .inl z
   ·rw [VaR] at z2
    exact .inr ⟨z1,by omega⟩
  ·rename_i hk
   rw [if_neg hk]
   exact ZfP r h acc n c hm
theorem ZfW:∀(names:List (Str×NameKind)) (k:Nat) (acc:List (Str×Addr)),(∀n c,(n,c)∈acc→c<k)→(∀n n' c,(n,c)∈acc→(n',c)∈acc→n=n')→∀n n' c,(n,c)∈PySem.cellsFrom k names acc→(n',c)∈PySem.cellsFrom k names acc→n=n'
 | [],_,_,_,hi,n,n',c,h1,h2=>hi n n' c h1 h2
 | (name,kind)::r,k,acc,hl,hi,n,n',c,h1,h2=>by
  unfold PySem.cellsFrom at h1 h2
  split at h1
  ·rename_i hk
   rw [if_pos hk] at h2
   refine ZfW r (k+1) ((name,k)::acc) (fun m d hm=>?_) (fun m m' d hm hm'=>?_) n n' c h1 h2
   ·rcases Var.mp hm with e | hm
    ·cases e;exact VaS _
    ·exact Nat.lt_succ_of_lt (hl m d hm)
   ·rcases Var.mp hm with e | hm<;>rcases Var.mp hm' with e' | hm'
    ·cases e;cases e';rfl
    ·cases e;exact absurd (hl _ _ hm') (Vag _)
    ·cases e';exact absurd (hl _ _ hm) (Vag _)
    ·exact hi m m' d hm hm'
  ·rename_i hk
   rw [if_neg hk] at h2
   exact ZfW r k acc hl hi n n' c h1 h2
theorem ZfI{x:Str}:∀(names:List (Str×NameKind)) (k:Nat) (acc:List (Str×Addr)),(∀y∈names,y.2=.cell→y.1≠x)→(PySem.cellsFrom k names acc).lookup x=acc.lookup x
 | [],_,_,_=>rfl
 | (name,kind)::r,k,acc,h=>by
  unfold PySem.cellsFrom
  split
  ·rename_i hk
   rw [ZfI r (k+1) _ fun y hy=>h y (Vap _ hy)]
   have ne:name≠x:=h (name,kind) Vao (by simpa using hk)
   rw [Vbq,beq_false_of_ne (Ne.symm ne)]
  ·exact ZfI r k acc fun y hy=>h y (Vap _ hy)
theorem ZeJ{x:Str}:∀(names:List (Str×NameKind)) (k:Nat) (acc:List (Str×Addr)),((acc.lookup x).isSome=true∨(x,NameKind.cell)∈names)→((PySem.cellsFrom k names acc).lookup x).isSome=true
 | [],_,_,h=>by
  rcases h with h | h
  ·exact h
  ·cases h
 | (name,kind)::r,k,acc,h=>by
  unfold PySem.cellsFrom
  split
  ·rename_i hk
   refine ZeJ r (k+1) _ ?_
   by_cases e:x=name
   ·subst e;exact .inl (by simp)
   ·rcases h with h | h
    ·exact .inl (by rw [Vbq,beq_false_of_ne e];exact h)
    ·rcases Var.mp h with z | h
     ·cases z;exact absurd rfl e
     ·exact .inr h
  ·rename_i hk
   refine ZeJ r k acc ?_
   rcases h with h | h
   ·exact .inl h
   ·rcases Var.mp h with z | h
    ·cases z;exact absurd rfl hk
    ·exact .inr h
theorem Zkc{M:Model}{A:Around}{E:Value→Shared→Prop}{s:Shared}{scope:Scope}{globals:Addr}{closure:List (Str×Addr)}{qual:Str}{func:Option Addr}{code:Value}{outer:Env}{builtins:Addr}{Q:Env→Shared→Prop}
  (hQ:∀h',h'.Ns s.heap.objs.size (fun _=>none)→(∀b o,s.heap.get? b=some o→h'.get? b=some o)→(∀n c,(n,c)∈PySem.cellsFrom (s.heap.objs.size+1) scope.names closure→(n,c)∈closure∨(h'.IsCell c none∧s.heap.objs.size+1≤c)) →
   Q (newEnv scope s.heap.objs.size globals (PySem.cellsFrom (s.heap.objs.size+1) scope.names closure) qual func code (some outer) builtins) { s with heap:=h' }) :
  wpAny M A (newFunctionEnv scope globals closure [] qual func code (some outer) builtins) Q E s:=by
 simp only [newFunctionEnv,Option.isSome_some,Vbb]
 refine Vaz (wpAny_alloc ?_)
 refine Vaz (wpAny_layCells _ (fun name kind cells=>by cases hkc:kind==NameKind.cell<;>simp [hkc]) _ _ _ _ ?_)
 rw [show ({ s with heap:=s.heap.push { cls:=.type "dict", data:=.dict #[] } }:Shared).heap.objs.size=s.heap.objs.size+1 from VaR ..]
 rw [Vbp]
 refine Vaz (VaB (VaB ?_))
 refine hQ _ ((Heap.Ns.new s.heap (.type "dict")).keeps (PySem.pushCells_keeps _ _)) (fun b o e=>PySem.pushCells_keeps _ _ b o (VaD _ e)) fun n c hm=>?_
 have z:=ZfP scope.names (s.heap.push { cls:=.type "dict", data:=.dict #[] }) closure n c (by rw [VaR];exact hm)
 rwa [VaR] at z
def PTs(X:Cx)(ts:List Expr)(tt:TT):Prop :=
 ∀(pins:List (Addr×Obj)) (s:Shared) (σ:St) (H:Hp) (Q:Bool→Hp→Prop),Inv X pins σ H s→tt σ H Q→wpAny (model X.prog X.w) X.A (Zn4 ts X.env) (TP X pins σ Q) X.xe s
def tYes:TT:=fun _ H Q=>Q true H
theorem Zo9{X:Cx}:PTs X [] tYes:=fun _ _ _ H _ I h=>VaB ⟨H,I,h⟩
theorem Zp9{X:Cx}{c:Expr}{tt:TT}(h:PT X c tt):PTs X [c] tt:=h
def Zar(X:Cx)(N:List Str)(scope:Scope)(cl:List (Str×Addr))(C:Addr)(s₂:Shared)(H₂:Hp)(fp:List Addr)(pn:List (Addr×Obj)):Cx :=
 { X with N:=N,s₀:=s₂,H₀:=H₂,env:=compEnvC scope (PySem.cellsFrom (C+1) scope.names cl) C X.env,outer:=X.stack,ex:=fp,fn:=fun x=>scope.names.lookup x==some .cell,pn:=pn,xe:=fun _ _=>False }
def Zkm(X:Cx)(sc:Scope)(cl:List (Str×Addr)):List (Str×Nat)→Prop
 | []=>True
 | p::r=>(X.N[p.2]?=some p.1∧X.env.scope.names.lookup p.1=some .cell∧(sc.names.lookup p.1=some .cell)∧∃c,cl.lookup p.1=some c∧X.env.cells.lookup p.1=some c)∧Zkm X sc cl r
theorem Zkm.get{X:Cx}{sc:Scope}{cl:List (Str×Addr)}:∀{cap:List (Str×Nat)} {j:Nat} {p:Str×Nat},Zkm X sc cl cap→cap[j]?=some p →
  X.N[p.2]?=some p.1∧X.env.scope.names.lookup p.1=some .cell∧(sc.names.lookup p.1=some .cell)∧∃c,cl.lookup p.1=some c∧X.env.cells.lookup p.1=some c
 | [],_,_,_,e=>by simp at e
 | _::_,0,_,h,e=>by simp at e;subst e;exact h.1
 | _::_,j+1,_,h,e=>Zkm.get (j:=j) h.2 (by simpa using e)
def capt(σ:St)(cap:List (Str×Nat)):St:=cap.map fun p=>(σ[p.2]?).join
def st0(own:List Str)(σ:St)(cap:List (Str×Nat)):St:=List.replicate own.length none++capt σ cap
def ZcV(J:It)(g:TG)(tt:TT)(te:TE)(own:List Str)(cap:List (Str×Nat))(σ:St)(Q:VK)(H1:Hp):Prop:=∃W:Nat→Nat→List V→Hp→Prop,(∃m,W 0 m [] H1)∧∀i m acc H,W i m acc H→acc.length≤sizeLine ∧
 ((J.stop i H∧∀p,H p=none→Q (.ref p) (upd H p (.lst acc))) ∨
  (J.go i H∧∀x H',J.yld i H x H'→g x (st0 own σ cap) H' fun σ2 H2=>σ2.drop own.length=capt σ cap∧tt σ2 H2 fun b H3=>if b=true then te σ2 H3 fun v H4=>acc.length<sizeLine∧∃m',m'<m∧W (i+1) m' (acc++[v]) H4 else ∃m',m'<m∧W (i+1) m' acc H3))
abbrev Fam(α:Type):=Addr→Shared→Hp→List Addr→List (Addr×Obj)→α
def ZdM(wi:TI)(g:Fam TG)(tt:Fam TT)(te:Fam TE)(own:List Str)(cap:List (Str×Nat)):TE:=fun σ H Q=>wi σ H fun J H1=>∀C s H2 fp pn,ZcV J (g C s H2 fp pn) (tt C s H2 fp pn) (te C s H2 fp pn) own cap σ Q H1
structure Zci(X:Cx)(own:List Str)(cap:List (Str×Nat))(scope:Scope)(cl:List (Str×Addr)):Prop where
 clos:closureFor scope X.env=pure cl
 kind:scope.kind=.function
 nown:∀x c,(x,c)∈cl→∀y∈scope.names,y.2=.cell→y.1≠x
 locals:∀y∈scope.names,y.2=.local→scope.names.lookup y.1=some .local
 sub:∀x c,(x,c)∈cl→X.env.cells.lookup x=some c
 has:∀k x,((relabel scope X.env).names.lookup x=some .cell∨(relabel scope X.env).names.lookup x=some .free)→∃c,(PySem.cellsFrom k scope.names cl).lookup x=some c
 cap:Zkm X (relabel scope X.env) cl cap
section
variable{X:Cx}{own:List Str}{cap:List (Str×Nat)}{scope:Scope}{cl:List (Str×Addr)}{pins:List (Addr×Obj)}{σ:St}{H:Hp}{s:Shared}{fp:List Addr}{tg:Expr}{J:It}{it:Addr}{tn:Nat→Heap→Prop}
theorem ZkR{i:Nat}{v:V}(e:(st0 own σ cap)[i]?=some (some v)):∃j p,i=own.length+j∧cap[j]?=some p∧σ[p.2]?=some (some v):=by
 unfold st0 at e
 by_cases hi:i<own.length
 ·rw [Va4 (by simpa using hi),Va3,if_pos hi] at e
  cases e
 ·rw [Va2 (by simpa using hi),Va8] at e
  unfold capt at e
  rw [Va5] at e
  cases q:cap[i - own.length]? with
  | none=>rw [q] at e;cases e
  | some p =>
   rw [q] at e
   have e':(σ[p.2]?).join=some v:=Vav e
   refine ⟨i - own.length,p,by omega,q,?_⟩
   cases z:σ[p.2]? with
   | none=>rw [z] at e';cases e'
   | some o=>rw [z] at e';have e2:o=some v:=e';rw [e2]
theorem Inv.comp(I:Inv X pins σ H s)(O:Zci X own cap scope cl)(T:Turn X.prog X.w X.K tg J fp it tn)(st:tn 0 s.heap)(f:∀b∈fp,FpOk X pins H b){C:Addr}{h':Heap}{t':Nat}{m:Str→Option Value}(hC:s.heap.objs.size≤C)
  (k:∀b o,s.heap.get? b=some o→h'.get? b=some o) (hn:h'.Ns C m) (hx:∀n c,(n,c)∈PySem.cellsFrom (C+1) scope.names cl→(n,c)∈cl∨(h'.IsCell c none∧C+1≤c)) :
  Inv (Zar X (own++cap.map (·.1)) scope cl C s H fp (X.pn++pins)) [] (st0 own σ cap) H { s with heap:=h',toks:=t' }:=by
 have neC:∀{b:Addr} {o:Obj},s.heap.get? b=some o→b≠C:=fun e=>Vah (Vaf (Vae e) hC)
 have cellC:∀x c,(x,c)∈cl→∃v,s.heap.IsCell c v:=fun x c e=>I.cell x c (O.sub x c e)
 have ltC:∀x c,(x,c)∈cl→c<C+1:=fun x c e=>by
  obtain ⟨v,o,ho,_⟩:=cellC x c e
  exact Nat.lt_succ_of_le (Vam (Vaf (Vae ho) hC))
 have nefp:∀b∈fp,b≠C:=fun b hb=>by
  obtain ⟨o,e,_⟩:=T.obj _ _ st b hb
  exact neC e
 refine ⟨⟨I.ok.mod,O.kind,I.ok.glob,I.ok.blt,hC,fun x y c e1 e2=>ZfW scope.names (C+1) cl ltC (fun n n' c h1 h2=>I.ok.inj n n' c (O.sub n c h1) (O.sub n' c h2)) x y c (Va1 e1) (Va1 e2),O.has (C+1),fun x c e1 e2=>?_,I.ok.hd,I.ok.frames,.inl rfl,fun b hb=>⟨nefp b hb,fun x c e=>?_⟩,I.bs,Vak I.ok.bsz I.sz,fun b o e hb=>?_,fun b hb z=>?_,I.stack,I.stkFree⟩,
  rfl,I.bare,Un.kept k,⟨m,hn,fun i x v e1 e2 e3=>?_⟩,fun x c e=>?_,?_,fun x c e=>?_,fun p hp=>?_,I.hok.kept k,?_⟩
 ·have e1':scope.names.lookup x=some .cell:=by simpa [Zar] using e1
  rcases hx x c (Va1 e2) with z | ⟨_,z⟩
  ·exact absurd rfl (O.nown x c z (x,.cell) (Va1 e1') rfl)
  ·exact Vak hC (Nat.le_of_succ_le z)
 ·rcases hx x c (Va1 e) with z | ⟨_,z⟩
  ·exact (f b hb).2.2.2.2.1 x c (O.sub x c z)
  ·obtain ⟨o,eo,_⟩:=T.obj _ _ st b hb
   exact VaG (Vaf (Vaf (Vae eo) hC) (Nat.le_of_succ_le z))
 ·rcases (f b hb).2.2.2.1 with z | z
  ·exact I.ok.noex b o e z
  ·exact absurd (Vaf (Vae (I.ok.bs b o e).1) z) (Vag _)
 ·rcases Var.mp (I.stkSub b z) with q | q
  ·exact (f b hb).2.1 q
  ·exact (f b hb).2.2.1 q
 ·obtain ⟨j,p,rfl,hp,hs⟩:=ZkR e2
  obtain ⟨c1,c2,c3,c,c4,c5⟩:=O.cap.get hp
  have e1':(own++cap.map (·.1))[own.length+j]?=some x:=e1
  rw [Va2 (Nat.le_add_right _ _),Nat.add_sub_cancel_left,Va5,hp] at e1'
  have ex:p.1=x:=Vav e1'
  subst ex
  obtain ⟨m2,_,hl⟩:=I.loc
  obtain ⟨u,r,l⟩:=hl p.2 p.1 v c1 hs (.inr (.inl c2))
  refine ⟨u,r,.inr ⟨.inl c3,c,(ZfI scope.names (C+1) cl fun y hy hk=>O.nown p.1 c (Va1 c4) y hy hk).trans c4,?_⟩⟩
  rcases l with ⟨z,_⟩ | ⟨_,c',z,⟨o,ho,hd⟩⟩
  ·have z':X.env.scope.names.lookup p.1=some .local:=z
   rw [c2] at z';cases z'
  ·rw [c5] at z;cases z
   exact ⟨o,k _ _ ho,hd⟩
 ·rcases hx x c (Va1 e) with z | ⟨z,_⟩
  ·obtain ⟨v,o,ho,hd⟩:=cellC x c z
   exact ⟨v,o,k _ _ ho,hd⟩
  ·exact ⟨none,z⟩
 ·exact I.hok.fresh hC
 ·rcases hx x c (Va1 e) with z | ⟨_,z⟩
  ·exact I.freeC x c (O.sub x c z)
  ·exact I.hok.fresh (Vak hC (Nat.le_of_succ_le z))
 ·have hp':p∈X.pn++pins:=by simpa [Zar] using hp
  obtain ⟨e,n,ne,nf,d⟩:=I.pin p hp'
  exact ⟨k _ _ e,n,neC e,fun z=>(Var.mp (I.stkSub p.1 z)).elim ne nf,d⟩
 ·show (st0 own σ cap).length=(own++cap.map (·.1)).length
  unfold st0 capt
  simp
theorem Cx.Ok.rexe{X:Cx}{xe:Value→Shared→Prop}(o:X.Ok):({ X with xe:=xe }:Cx).Ok:=by
 cases o
 constructor<;>assumption
theorem Inv.rexe{X:Cx}{pins:List (Addr×Obj)}{σ:St}{H:Hp}{s:Shared}{xe:Value→Shared→Prop}(I:Inv X pins σ H s):Inv { X with xe:=xe } pins σ H s:=by
 obtain ⟨ok,i1,i2,i3,i4,i5,i6,i7,i8,i9,i10⟩:=I
 exact ⟨ok.rexe,i1,i2,i3,i4,i5,i6,i7,i8,i9,i10⟩
def Zaw(xf:Addr→Shared→Hp→List Addr→Value→Shared→Prop)(X:Cx)(N:List Str)(scope:Scope)(cl:List (Str×Addr))(C:Addr)(s₂:Shared)(H₂:Hp)(fp:List Addr)(pn:List (Addr×Obj)):Cx:={ Zar X N scope cl C s₂ H₂ fp pn with xe:=xf C s₂ H₂ fp }
theorem Zig{xf:Addr→Shared→Hp→List Addr→Value→Shared→Prop}{elt iter:Expr}{ts:List Expr}{pos:Pos}{gF:Fam TG}{ttF:Fam TT}{teF:Fam TE}{E:Value→Shared→Prop}(O:Zci X own cap scope cl)(hc:X.calm=true)
  (hgF:∀C s H fp pn,PG (Zaw xf X (own++cap.map (·.1)) scope cl C s H fp pn) tg (gF C s H fp pn)) (htF:∀C s H fp pn,PTs (Zaw xf X (own++cap.map (·.1)) scope cl C s H fp pn) ts (ttF C s H fp pn)) (heF:∀C s H fp pn,PE (Zaw xf X (own++cap.map (·.1)) scope cl C s H fp pn) elt (teF C s H fp pn)) (hts:ts.length≤1)
  (I2:Inv X pins σ H s) (T:Turn X.prog X.w X.K tg J fp it tn) (st2:tn 0 s.heap) (f2:∀b∈fp,FpOk X pins H b) {Q:VK}
  (hw:∀C s H2 fp pn,ZcV J (gF C s H2 fp pn) (ttF C s H2 fp pn) (teF C s H2 fp pn) own cap σ Q H)
  {R:Value→Addr→Result→Shared→Prop}
  (fin:∀(D C:Addr) (H':Hp) (s':Shared) (m:Str→Option Value),s.heap.objs.size≤C→s'.heap.Ns C m→H' C=none →
   (∀h',Heap.SameBut C s'.heap h'→Inv X pins σ H' { s' with heap:=h' })→Q (.ref D) H'→R (.ref D) C (.ok .next) s')
  (hexc:∀(D C:Addr) (cells:List (Str×Addr)) (e:Value) (s':Shared),s.heap.objs.size≤C→xf C s H fp e s'→notedBy (model X.prog X.w) X.A (compEnvC scope cells C X.env) (fun e s'=>R (.ref D) C (.error e) s') e s') :
  wpAny (model X.prog X.w) X.A (newList []) (fun acc s₃=>wpAny (model X.prog X.w) X.A (newFunctionEnv scope X.env.globals cl [] X.env.qual none .none (some X.env)) (fun cenv s₄ =>
   codeAny (model X.prog X.w) X.A (.compStart (.ListComp elt [⟨tg,iter,ts,0⟩] scope pos) 0 (.ref it) acc { cenv with scope:=relabel scope X.env }) (R acc cenv.locals) s₄) E s₃) E s:=by
 refine VaC (Zkc (fun h₁ hns₁ hk₁ hx₁=>?_))
 dsimp only at hns₁ hk₁ hx₁ ⊢
 generalize hHh:s.heap.push { cls:=.type "list", dict:=none,data:=.seq ([]:List Value).toArray }=Hh at hns₁ hk₁ hx₁ ⊢
 have hCs:Hh.objs.size=s.heap.objs.size+1:=by rw [←hHh,VaR]
 generalize hCC:Hh.objs.size=C at hns₁ hx₁ hCs ⊢
 generalize hDD:s.heap.objs.size=D at hCs ⊢
 have ltDC:D<C:=by omega
 have hDC:D≠C:=Vah ltDC
 have hsD:s.heap.objs.size≤D:=Nat.le_of_eq hDD
 have hsC:s.heap.objs.size≤C:=by omega
 have ltS:∀{b:Addr} {o:Obj},s.heap.get? b=some o→b<D:=fun e=>by rw [←hDD];exact Vae e
 have old:∀b o,s.heap.get? b=some o→h₁.get? b=some o:=fun b o e=>by
  refine hk₁ b o ?_
  rw [←hHh]
  exact VaD _ e
 have hD0:h₁.PlainList D #[]:=by
  have z:Hh.get? D=some { cls:=.type "list", dict:=none,data:=.seq ([]:List Value).toArray }:=by
   rw [←hHh,←hDD]
   exact VaH _ rfl
  exact ⟨_,hk₁ D _ z⟩
 obtain ⟨W,⟨m0,w0⟩,turn⟩:=hw C s H fp (X.pn++pins)
 have hg:=hgF C s H fp (X.pn++pins)
 have ht:=htF C s H fp (X.pn++pins)
 have he:=heF C s H fp (X.pn++pins)
 have I':Inv (Zaw xf X (own++cap.map (·.1)) scope cl C s H fp (X.pn++pins)) [] (st0 own σ cap) H { s with heap:=h₁,toks:=s.toks }:=(I2.comp (t':=s.toks) O T st2 f2 hsC old hns₁ hx₁).rexe
 have cne:∀x c,(PySem.cellsFrom (C+1) scope.names cl).lookup x=some c→(∃v,s.heap.IsCell c v∧X.env.cells.lookup x=some c)∨C<c:=fun x c e=>by
  rcases hx₁ x c (Va1 e) with z | ⟨_,z⟩
  ·obtain ⟨v,hv⟩:=I2.cell x c (O.sub x c z)
   exact .inl ⟨v,hv,O.sub x c z⟩
  ·exact .inr z
 have st':tn 0 h₁:=T.keep _ _ _ st2 fun b hb o e=>old b o e
 have nofr:∀{a:Addr},s.heap.objs.size≤a→a∉frs X.stack:=fun {a} ha z=>by
  rcases Var.mp (I2.stkSub a z) with q | q
  ·exact absurd (Vaf I2.lt ha) (by rw [q];exact Vag _)
  ·exact I2.nofs ha q
 have ltfp:∀b∈fp,b<D:=fun b hb=>by
  obtain ⟨o,e,_⟩:=T.obj _ _ st2 b hb
  exact ltS e
 have fpk:∀{H3:Hp} {objD:Obj},(∀b∈fp,H3 b=none)→∀b∈fp,FpOk (Zaw xf X (own++cap.map (·.1)) scope cl C s H fp (X.pn++pins)) [(D,objD)] H3 b:=fun {H3 objD} hn b hb=>by
  obtain ⟨_,f1,f3,f4,f5,f6⟩:=f2 b hb
  have lb:=ltfp b hb
  refine ⟨hn b hb,(Vah (Vbr lb ltDC)),fun z=>?_,.inl hb,fun x c e=>?_,fun p hp=>?_⟩
  ·rcases Var.mp (I2.stkSub b z) with q | q
   ·exact f1 q
   ·exact f3 q
  ·rcases cne x c e with ⟨_,_,z⟩ | z
   ·exact f5 x c z
   ·exact VaG (Vbr lb (Vbr ltDC z))
  ·rcases Vas.mp hp with z | z
   ·exact f6 p z
   ·have z':p=(D,objD):=by simpa using z
    subst z'
    exact VaG lb
 have loop:∀s₃:Shared,s₃={ s with heap:=h₁ } →
   codeAny (model X.prog X.w) X.A (.compLoop (.ListComp elt [⟨tg,iter,ts,0⟩] scope pos) 0 (.ref it) (.ref D) (compEnvC scope (PySem.cellsFrom (C+1) scope.names cl) C X.env)) (R (.ref D) C) s₃:=by
  rintro s₃ rfl
  refine Zhu hts (fun n s'=>∃(i:Nat) (acc:List V) (its:List Value) (H':Hp),Inv (Zaw xf X (own++cap.map (·.1)) scope cl C s H fp (X.pn++pins)) [] (st0 own σ cap) H' s'∧tn i s'.heap∧(∀b∈fp,H' b=none)∧H' D=none ∧
   s'.heap.PlainList D its.toArray∧Vals acc its∧W i n acc H') ?_ m0 ⟨0,[],[],H,I',st',fun b hb=>(f2 b hb).1,I2.hok.fresh hsD,hD0,.nil,w0⟩
  rintro n s3 ⟨i,acc,its,H3,I3,st3,fr3,nD,⟨nn,hD⟩,rv,w3⟩
  obtain ⟨hlen,hturn⟩:=turn i n acc H3 w3
  have lenV:=rv.length
  have pinD:∀{s5:Shared} {H5:Hp},s5.heap.get? D=some { cls:=.type "list", data:=.seq its.toArray nn }→H5 D=none→∀p∈[(D,({ cls:=.type "list", data:=.seq its.toArray nn }:Obj))],s5.heap.get? p.1=some p.2∧H5 p.1=none∧p.1≠C∧p.1∉frs X.stack∧∀v,p.2.data≠.cell v:=by
   intro s5 H5 e1 e2 p hp
   have z':p=(D,({ cls:=.type "list", data:=.seq its.toArray nn }:Obj)):=by simpa using hp
   subst z'
   exact ⟨e1,e2,hDC,nofr hsD,fun v z=>by cases z⟩
  have I3p:Inv (Zaw xf X (own++cap.map (·.1)) scope cl C s H fp (X.pn++pins)) [(D,{ cls:=.type "list", data:=.seq its.toArray nn })] (st0 own σ cap) H3 s3:=I3.pins_of (pinD hD nD)
  rcases hturn with ⟨stop,qn⟩ | ⟨go,step⟩
  ·refine Vaw (T.done (Zaw xf X (own++cap.map (·.1)) scope cl C s H fp (X.pn++pins)) rfl rfl rfl hc i _ s3 _ H3 (fun _ _=>False) I3p (fpk fr3) st3 stop) (fun r s4 h4=>?_) (fun _ _ z=>z.elim)
   obtain ⟨hr,I4⟩:=h4
   subst hr
   obtain ⟨m4,hm4,_⟩:=I4.loc
   have hD4:=(I4.pin (D,{ cls:=.type "list", data:=.seq its.toArray nn }) (VaL _ (by simp))).1
   have nC:H3 C=none:=I4.free
   refine fin D C (upd H3 D (.lst acc)) s4 m4 hsC hm4 (by rw [Zaf (Ne.symm hDC)];exact nC) (fun h' sb=>?_) (qn D nD)
   have kc:∀b o,b≠C→s4.heap.get? b=some o→h'.get? b=some o:=fun b o hb e=>sb.extBut b o hb e
   have neD:∀{b:Addr} {o:Obj},s.heap.get? b=some o→b≠D:=fun e=>Vah (ltS e)
   have neC:∀{b:Addr} {o:Obj},s.heap.get? b=some o→b≠C:=fun e=>Vah (Vbr (ltS e) ltDC)
   refine I2.call' (s':={ s4 with heap:=h' }) (ch:=fp) I4.os ⟨?_,?_,?_,?_,?_,?_,?_⟩ (fun a o e=>?_) I4.bare (fun b hb=>?_)
   ·exact fun b o e n hb hx=>kc b o (neC e) (I4.base.keep b o e n hb hx)
   ·intro b o e n hb hx
    obtain ⟨sl,q⟩:=I4.base.slot b o e n hb hx
    exact ⟨sl,kc b _ (neC e) q⟩
   ·intro b o e n hx
    rw [Zaf (neD e)]
    exact I4.base.free b o e n hx
   ·intro b o e hx
    obtain ⟨o',q⟩:=I4.base.there b o e hx
    exact ⟨o',kc b _ (neC e) q⟩
   ·intro b xs e
    have q:=I4.base.tups b xs e
    rw [Zaf (Zae q nD)]
    exact q
   ·intro b o u e
    have q:=I4.base.frzs b o u e
    rw [Zaf (Zae q nD)]
    exact q
   ·intro b ps e
    obtain ⟨more,q⟩:=I4.base.tbls b ps e
    exact ⟨more,by rw [Zaf (Zae q nD)];exact q⟩
   ·by_cases ha:a=D
    ·subst ha
     rw [Zag] at e
     cases e
     exact ⟨hlen,its,nn,rv,kc _ _ hDC hD4⟩
    ·rw [Zaf ha] at e
     refine (I4.hok a o e).stay (fun b u hb q=>kc b u ?_ q) (fun b q=>?_) (fun b xs q=>?_)
     ·rcases hb with rfl | hb
      ·exact Zae e nC
      ·exact Zae hb nC
     ·rw [Zaf (Zae q nD)];exact q
     ·rw [Zaf (Zae q nD)];exact q
   ·obtain ⟨_,f1,_,f4,f5,f6⟩:=f2 b hb
    exact ⟨f4,f1,f5,f6⟩
  ·refine Vaw (T.item (Zaw xf X (own++cap.map (·.1)) scope cl C s H fp (X.pn++pins)) rfl rfl rfl hc i _ s3 _ H3 (fun _ _=>False) I3p (fpk fr3) st3 go) (fun r s4 h4=>?_) (fun _ _ z=>z.elim)
   obtain ⟨u,hr,h4⟩:=h4
   subst hr
   refine Vaw h4 (fun _ s5 h5=>?_) (fun _ _ z=>z.elim)
   obtain ⟨x,H5,I5,r5,y5,st5,fr5⟩:=h5
   have I5':=I5.pinned (fpk fr5) (T.obj _ _ st5)
   refine Vaw (hg _ s5 _ H5 x u _ I5' r5 (step x H5 y5)) (fun _ s6 h6=>?_) (fun e s' z=>hexc D C _ e s' hsC z)
   obtain ⟨σ6,H6,I6,e6,q6⟩:=h6
   refine Vaw (ht _ s6 σ6 H6 _ I6 q6) (fun bb s6' h6'=>?_) (fun e s' z=>hexc D C _ e s' hsC z)
   obtain ⟨H6',I6',q6'⟩:=h6'
   have stay:∀{H7:Hp} {s7:Shared},Inv (Zaw xf X (own++cap.map (·.1)) scope cl C s H fp (X.pn++pins)) [] σ6 H7 s7→Inv (Zaw xf X (own++cap.map (·.1)) scope cl C s H fp (X.pn++pins)) [] (st0 own σ cap) H7 s7:=fun {H7 s7} I8=>by
    refine I8.weak (I'.len.trans I8.len.symm) (fun j v e=>?_)
    obtain ⟨l,p,rfl,hp,hs⟩:=ZkR e
    have q:(σ6.drop own.length)[l]?=some (some v):=by
     rw [e6]
     unfold capt
     rw [Va5,hp]
     show some ((σ[p.2]?).join)=_
     rw [hs]
     rfl
    rwa [List.getElem?_drop] at q
   cases bb with
   | false =>
    rw [if_neg VaF] at q6' ⊢
    obtain ⟨m',hm,w7⟩:=q6'
    obtain ⟨hD7,nD7,_⟩:=I6'.pin (D,{ cls:=.type "list", data:=.seq its.toArray nn }) (VaL _ (by simp))
    have st7:tn (i+1) s6'.heap:=T.keep _ _ _ st5 fun b hb o e=>(I6'.pin (b,o) (VaL _ (VaL _ (Zb0 hb e)))).1
    have fr7:∀b∈fp,H6' b=none:=fun b hb=>by
     obtain ⟨o,e,_⟩:=T.obj _ _ st5 b hb
     exact (I6'.pin (b,o) (VaL _ (VaL _ (Zb0 hb e)))).2.1
    exact ⟨m',hm,i+1,acc,its,H6',stay (I6'.pins_of fun p hp=>nomatch hp),st7,fr7,nD7,⟨nn,hD7⟩,rv,w7⟩
   | true =>
   rw [if_pos rfl] at q6' ⊢
   refine Vaw (he _ s6' σ6 H6' _ I6' q6') (fun y s7 h7=>?_) (fun e s' z=>hexc D C _ e s' hsC z)
   obtain ⟨v,H7,I7,r7,hl7,m',hm,w7⟩:=h7
   obtain ⟨hD7,nD7,_⟩:=I7.pin (D,{ cls:=.type "list", data:=.seq its.toArray nn }) (VaL _ (by simp))
   have st7:tn (i+1) s7.heap:=T.keep _ _ _ st5 fun b hb o e=>(I7.pin (b,o) (VaL _ (VaL _ (Zb0 hb e)))).1
   have fr7:∀b∈fp,H7 b=none:=fun b hb=>by
    obtain ⟨o,e,_⟩:=T.obj _ _ st5 b hb
    exact (I7.pin (b,o) (VaL _ (VaL _ (Zb0 hb e)))).2.1
   refine wpAny_list_append_plain (l:=D) (items:=its.toArray) ⟨nn,hD7⟩ (fun h8 hp8 hs8=>?_) (by rw [Va9];omega)
   have I7w:Inv (Zaw xf X (own++cap.map (·.1)) scope cl C s H fp (X.pn++pins)) [] σ6 H7 s7:=I7.pins_of fun p hp=>nomatch hp
   have I8:Inv (Zaw xf X (own++cap.map (·.1)) scope cl C s H fp (X.pn++pins)) [] σ6 H7 { s7 with heap:=h8 }:=by
    refine I7w.turned (t':=s7.toks) (it:=D) (fun b o hb e=>hs8.extBut b o hb e) nD7 hDC (.inr hsD) (fun x c e=>?_) (fun p hp=>?_)
    ·rcases cne x c e with ⟨v,⟨o,ho,_⟩,_⟩ | z
     ·exact Vah (ltS ho)
     ·exact VaG (Vbr ltDC z)
    ·have hp':p∈X.pn++pins:=by simpa [Zaw,Zar] using hp
     exact Vah (ltS (I2.pin p hp').1)
   have I9:=stay I8
   refine ⟨m',hm,i+1,acc++[v],its++[y],H7,I9,T.keep _ _ _ st7 (fun b hb o e=>hs8.extBut b o (Vah (ltfp b hb)) e),fr7,nD7,?_,rv.append (.cons r7 .nil),w7⟩
   simpa using hp8
 exact codeAny_compStart_list (loop _ rfl) (T.self X.A 0 _ _ _ st' (loop _ rfl))
theorem ZjD{elt iter:Expr}{ts:List Expr}{pos:Pos}{gF:Fam TG}{ttF:Fam TT}{teF:Fam TE}{E:Value→Shared→Prop}(O:Zci X own cap scope cl)(hc:X.calm=true)
  (hgF:∀C s H fp pn,PG (Zar X (own++cap.map (·.1)) scope cl C s H fp pn) tg (gF C s H fp pn)) (htF:∀C s H fp pn,PTs (Zar X (own++cap.map (·.1)) scope cl C s H fp pn) ts (ttF C s H fp pn)) (heF:∀C s H fp pn,PE (Zar X (own++cap.map (·.1)) scope cl C s H fp pn) elt (teF C s H fp pn)) (hts:ts.length≤1)
  (I2:Inv X pins σ H s) (T:Turn X.prog X.w X.K tg J fp it tn) (st2:tn 0 s.heap) (f2:∀b∈fp,FpOk X pins H b) {Q:VK}
  (hw:∀C s H2 fp pn,ZcV J (gF C s H2 fp pn) (ttF C s H2 fp pn) (teF C s H2 fp pn) own cap σ Q H)
  {R:Value→Addr→Result→Shared→Prop}
  (fin:∀(D C:Addr) (H':Hp) (s':Shared) (m:Str→Option Value),s.heap.objs.size≤C→s'.heap.Ns C m→H' C=none →
   (∀h',Heap.SameBut C s'.heap h'→Inv X pins σ H' { s' with heap:=h' })→Q (.ref D) H'→R (.ref D) C (.ok .next) s') :
  wpAny (model X.prog X.w) X.A (newList []) (fun acc s₃=>wpAny (model X.prog X.w) X.A (newFunctionEnv scope X.env.globals cl [] X.env.qual none .none (some X.env)) (fun cenv s₄ =>
   codeAny (model X.prog X.w) X.A (.compStart (.ListComp elt [⟨tg,iter,ts,0⟩] scope pos) 0 (.ref it) acc { cenv with scope:=relabel scope X.env }) (R acc cenv.locals) s₄) E s₃) E s :=
 Zig (xf:=fun _ _ _ _ _ _=>False) O hc hgF htF heF hts I2 T st2 f2 hw fin fun _ _ _ _ _ _ z=>z.elim
theorem ZiI{elt iter:Expr}{pos:Pos}{wi:TI}{ts:List Expr}{g:Fam TG}{tt:Fam TT}{te:Fam TE}(hi:PI X tg iter wi)(O:Zci X own cap scope cl)(hc:X.calm=true)
  (hg:∀C s H fp pn,PG (Zar X (own++cap.map (·.1)) scope cl C s H fp pn) tg (g C s H fp pn)) (ht:∀C s H fp pn,PTs (Zar X (own++cap.map (·.1)) scope cl C s H fp pn) ts (tt C s H fp pn)) (he:∀C s H fp pn,PE (Zar X (own++cap.map (·.1)) scope cl C s H fp pn) elt (te C s H fp pn)) (hts:ts.length≤1)
  (hs:∀x,foldedSetIterable iter X.env x=pure x:=by intro _;rfl):PE X (.ListComp elt [⟨tg,iter,ts,0⟩] scope pos) (ZdM wi g tt te own cap):=by
 intro pins s σ H Q I h
 rw [eval_ListComp]
 refine wpAny_comprehension_free (use:=none) rfl hs O.clos O.kind O.locals (thn (hi pins s σ H _ I h) fun xv s₁ h₁=>thn h₁ fun itv s₂ h₂=>?_)
 obtain ⟨it,fp,tn,J,H2,rfl,I2,T,st2,f2,hw⟩:=h₂
 refine ZjD (R:=fun acc C=>compPost (model X.prog X.w) X.A X.xe none (EP X pins σ Q) acc C) O hc hg ht he hts I2 T st2 f2 hw ?_
 intro D C H' s' m hC hn hH IV q
 exact ⟨m,hn,fun h' sb=>⟨.ref D,H',IV h' sb,rfl,q⟩⟩
theorem Zkv{elt iter:Expr}{pos pos' spos:Pos}{wi:TI}{ts:List Expr}{g:Fam TG}{tt:Fam TT}{te:Fam TE}{i:Nat}{x:Str}(hN:X.N.Nodup)(hix:X.N[i]?=some x)(hx:Loc X.env.scope x)(hi:PI X tg iter wi)(O:Zci X own cap scope cl)(hc:X.calm=true)
  (hg:∀C s H fp pn,PG (Zar X (own++cap.map (·.1)) scope cl C s H fp pn) tg (g C s H fp pn)) (ht:∀C s H fp pn,PTs (Zar X (own++cap.map (·.1)) scope cl C s H fp pn) ts (tt C s H fp pn)) (he:∀C s H fp pn,PE (Zar X (own++cap.map (·.1)) scope cl C s H fp pn) elt (te C s H fp pn)) (hts:ts.length≤1)
  (hsw:swapsWith (.ListComp elt [⟨tg,iter,ts,0⟩] scope pos) (some (.Name x pos')) spos.line X.env=pure true:=by rfl)
  (hs:∀x,foldedSetIterable iter X.env x=pure x:=by intro _;rfl)
  (hf:X.fn x=true∨X.env.scope.names.lookup x=some .local:=by first | exact .inl rfl | exact .inr rfl | assumption):PS X (.Assign [.Name x pos'] (.ListComp elt [⟨tg,iter,ts,0⟩] scope pos) spos) (tAsg (ZdM wi g tt te own cap) (Zea i)):=by
 intro pins s σ H D I h
 rw [exec_Assign_Name_used _ _ _ _ hsw]
 refine Vaz (VaA (Vaz ?_))
 show wpAny _ X.A (do let _ ←comprehension (.ListComp elt [⟨tg,iter,ts,0⟩] scope pos) scope X.env _ (newList []) false (eval iter X.env) (some (assign (.Name x pos') X.env))) _ _ s
 refine Vaz (Vaw (wpAny_comprehension_free (use:=some (assign (.Name x pos') X.env)) (Q:=fun _ s'=>SP X pins D .next s') rfl hs O.clos O.kind O.locals
  (thn (hi pins s σ H _ I h) fun xv s₁ h₁=>thn h₁ fun itv s₂ h₂=>?_)) (fun _ s' hq=>VaB (VaB hq)) fun _ _ e=>e)
 obtain ⟨it,fp,tn,J,H2,rfl,I2,T,st2,f2,hw⟩:=h₂
 refine ZjD (Q:=fun x H1=>Zea i x σ H1 D.nx) (R:=fun acc C=>compPost (model X.prog X.w) X.A X.xe (some (assign (.Name x pos') X.env)) (fun _ s'=>SP X pins D .next s') acc C) O hc hg ht he hts I2 T st2 f2 hw ?_
 intro A C H' s' m hC hn hH IV q
 show wpAny _ X.A (assign (.Name x pos') X.env (.ref A)) _ _ _
 have I3:Inv X pins σ H' s':=IV s'.heap (Heap.SameBut.refl ..)
 obtain ⟨oc,es,ep,ho,hd,hk⟩:=id hn
 have neL:C≠X.env.locals:=VaG (Vaf I2.lt hC)
 have neF:C∉X.fs:=I2.nofs hC
 have I4:Inv X (pins++[(C,oc)]) σ H' s':=I3.pins_of fun p hp=>by
  rcases Vas.mp hp with z | z
  ·exact I3.pin p (VaL _ z)
  ·have z':p=(C,oc):=by simpa using z
   subst z'
   exact ⟨ho,hH,neL,neF,fun v e=>by rw [hd] at e;cases e⟩
 refine wpAny_assign_Name (Zd8 I4 hN hix hx (v:=.ref A) rfl (fun s5 I5=>?_) hf)
 have ho5:=(I5.pin (C,oc) (VaL _ (VaL _ (by simp)))).1
 refine ⟨m,⟨oc,es,ep,ho5,hd,hk⟩,fun h' sb=>⟨_,H',?_,q⟩⟩
 refine (I5.unpinned (pl:=[(C,oc)])).turned (t':=s5.toks) (it:=C) (fun b o hb e=>sb.extBut b o hb e) hH neL (.inr (Vak I2.sz hC)) (fun y c e=>?_) (fun p hp=>?_)
 ·obtain ⟨v,o,hc',_⟩:=I2.cell y c e
  exact Vah (Vaf (Vae hc') hC)
 ·exact Vah (Vaf (Vae (I2.pin p hp).1) hC)
end
def Zfm(scope out:Scope):List (Str×NameKind):=scope.names.map fun (n,k)=>if (k==.free&&out.kind==.function&&out.names.lookup n==some .cell) then (n,.cell) else (n,k)
def ZlY(scope out:Scope)(cn:List Str):Bool :=
 scope.names.all (fun y=>y.2 != .cell||!cn.contains y.1)&&scope.names.all (fun y=>y.2 != .local||scope.names.lookup y.1==some .local)&&(Zfm scope out).all (fun y=>!(y.2==.cell||y.2==.free)||cn.contains y.1||scope.names.contains (y.1,.cell))&&cn.all (fun n=>out.names.lookup n==some .cell&&(Zfm scope out).lookup n==some .cell)
def Zlc(X:Cx):List (Str×Addr)→Prop
 | []=>True
 | p::r=>X.env.cells.lookup p.1=some p.2∧Zlc X r
theorem Zlc.mem{X:Cx}:∀{cl:List (Str×Addr)} {p:Str×Addr},Zlc X cl→p∈cl→X.env.cells.lookup p.1=some p.2
 | _::_,_,h,.head _=>h.1
 | _::_,_,h,.tail _ m=>Zlc.mem h.2 m
def CapN(X:Cx):List (Str×Nat)→Prop
 | []=>True
 | p::r=>X.N[p.2]?=some p.1∧CapN X r
theorem Zf6{α:Type}{x:Str}:∀{l:List (Str×α)},x∈l.map (·.1)→∃c,l.lookup x=some c
 | [],h=>by simp at h
 | (y,c)::r,h=>by
  by_cases e:x=y
  ·subst e;exact ⟨c,by simp⟩
  ·have h':x∈r.map (·.1):=by
    rcases Vbs.mp h with ⟨p,hp,rfl⟩
    rcases Var.mp hp with rfl | hp
    ·exact absurd rfl e
    ·exact Vbs.mpr ⟨p,hp,rfl⟩
   obtain ⟨d,hd⟩:=Zf6 (l:=r) h'
   exact ⟨d,by rw [Vbq,beq_false_of_ne e];exact hd⟩
theorem Zci.of{X:Cx}{own:List Str}{cap:List (Str×Nat)}{scope:Scope}{cl:List (Str×Addr)}(clos:closureFor scope X.env=pure cl)(kind:scope.kind=.function)(chk:ZlY scope X.env.scope (cap.map (·.1))=true)
  (names:cl.map (·.1)=cap.map (·.1)) (sub:Zlc X cl) (capn:CapN X cap):Zci X own cap scope cl:=by
 unfold ZlY at chk
 simp only [Vbj,List.all_eq_true] at chk
 obtain ⟨⟨⟨h1,h2⟩,h3⟩,h4⟩:=chk
 have sub':∀x c,cl.lookup x=some c→X.env.cells.lookup x=some c:=fun x c e=>sub.mem (Va1 e)
 have capk:∀(l:List (Str×Nat)),(∀p∈l,p.1∈cap.map (·.1))→CapN X l→Zkm X (relabel scope X.env) cl l:=by
  intro l
  induction l with
  | nil=>exact fun _ _=>trivial
  | cons p r ih =>
   intro hm hn
   have hp:=hm p Vao
   have hq:=h4 p.1 hp
   have e1:X.env.scope.names.lookup p.1=some .cell:=by simpa using hq.1
   have e2:(Zfm scope X.env.scope).lookup p.1=some .cell:=by simpa using hq.2
   obtain ⟨c,hc⟩:=Zf6 (l:=cl) (x:=p.1) (by rw [names];exact hp)
   exact ⟨⟨hn.1,e1,e2,c,hc,sub' _ _ hc⟩,ih (fun q hq=>hm q (Vap _ hq)) hn.2⟩
 refine ⟨clos,kind,fun x c hm y hy hk=>?_,fun y hy e=>?_,fun x c hm=>sub.mem hm,fun k x hx=>?_,capk cap (fun p hp=>Vbs.mpr ⟨p,hp,rfl⟩) capn⟩
 ·have:=h1 y hy
  rw [hk] at this
  rintro rfl
  have hc:y.1∈cap.map (·.1):=by rw [←names];exact Vbs.mpr ⟨_,hm,rfl⟩
  simp at this
  simp at hc
  obtain ⟨a,ha⟩:=hc
  exact this a ha
 ·have:=h2 y hy
  rw [e] at this
  simpa using this
 ·have fin:∀k',(Zfm scope X.env.scope).lookup x=some k'→(k'=.cell∨k'=.free)→∃c,(PySem.cellsFrom k scope.names cl).lookup x=some c:=by
   intro k' e hk
   have:=h3 _ (Va1 e)
   refine Option.isSome_iff_exists.mp (ZeJ scope.names k cl ?_)
   have this':x∈cap.map (·.1)∨(x,NameKind.cell)∈scope.names:=by
    rcases hk with rfl | rfl
    ·simpa using this
    ·simpa using this
   rcases this' with z | z
   ·obtain ⟨c,hc⟩:=Zf6 (l:=cl) (x:=x) (by rw [names];exact z)
    exact .inl (by rw [hc];rfl)
   ·exact .inr z
  rcases hx with e | e
  ·exact fin _ e (.inl rfl)
  ·exact fin _ e (.inr rfl)
theorem ZbX.there{P:Program}{w:World}{H:Hp}{h:Heap}{a:Addr}{o:HO}(x:ZbX P w H h a o):∃ob,h.get? a=some ob:=by
 cases o with
 | lst xs=>obtain ⟨_,_,_,_,e⟩:=x;exact ⟨_,e⟩
 | tup xs=>obtain ⟨_,_,_,o,e,_⟩:=x;exact ⟨_,e⟩
 | dK kvs=>obtain ⟨_,_,_,_,o,_,_,e,_⟩:=x;exact ⟨_,e⟩
 | dT kvs=>obtain ⟨_,_,_,_,o,_,_,e,_⟩:=x;exact ⟨_,e⟩
 | set S n=>obtain ⟨o,_,_,_,e,_⟩:=x;exact ⟨_,e⟩
 | ins C dx fs=>obtain ⟨_,_,_,e,_⟩:=x;exact ⟨_,e⟩
 | own y=>obtain ⟨_,e⟩:=x;exact ⟨_,e⟩
 | xd fs=>obtain ⟨_,⟨_,_,_,e,_⟩,_⟩:=x;exact ⟨_,e⟩
 | rng lo hi=>obtain ⟨_,_,_,e⟩:=x;exact ⟨_,e⟩
 | frz ob u=>obtain ⟨e,_⟩:=x;exact ⟨_,e⟩
 | tbl ps=>exact ⟨_,(show h.get? a=some _ from x)⟩
 | met f y=>exact ⟨_,(show h.get? a=some _ from x)⟩
 | ext φ=>obtain ⟨_,⟨_,e⟩,_⟩:=x;exact ⟨_,e⟩
theorem HOk.free{P:Program}{w:World}{H:Hp}{h:Heap}(x:HOk P w H h){a:Addr}(e:h.get? a=none):H a=none:=by
 cases q:H a with
 | none=>rfl
 | some o =>
  obtain ⟨ob,z⟩:=(x a o q).there
  rw [e] at z;cases z
structure Fly(P:Program)(w:World)(l:List Env)(H H':Hp)(s s':Shared)(x:Addr)(cls:Value):Prop where
 os:s'.os=s.os
 bare:AllBare s'.gens
 un:Un (frs l) [] H H' s.heap s'.heap
 hok:HOk P w H' s'.heap
 frf:∀b∈frs l,H' b=none
 free:H' x=none
 ex:∃(B:Heap) (a0:Value),Heap.FlyingW B l x cls a0 s'.heap∧∀b o,s'.heap.get? b=some o→(H' b≠none∨∃o',s.heap.get? b=some o')→b∉frs l→B.get? b=some o
theorem ZoE{P:Program}{w:World}{l l':List Env}{H H':Hp}{s s':Shared}{x:Addr}{cls a0:Value}{B h':Heap}(os:s'.os=s.os)(bare:AllBare s'.gens)(un:Un (frs l) [] H H' s.heap s'.heap)(hok:HOk P w H' s'.heap)
  (frf:∀b∈frs l,H' b=none) (nf:∀b∈frs l,∃o,s'.heap.get? b=some o∧∀vs,o.data≠.fields vs)
  (cov:∀b o,s'.heap.get? b=some o→(H' b≠none∨∃o',s.heap.get? b=some o')→b∉frs l→B.get? b=some o)
  (sub:∀b∈frs l',b∈frs l) (new:∀b∈frs l,b∉frs l'→s.heap.get? b=none) (fl:Heap.FlyingW B l' x cls a0 h') (sm:s'.heap.UpToSlots h') (free:H' x=none) :
  Fly P w l' H H' s { s' with heap:=h' } x cls:=by
 have stay:∀b o,s'.heap.get? b=some o→(H' b≠none∨∃o',s.heap.get? b=some o')→b∉frs l→h'.get? b=some o:=fun b o e q hb=>fl.1 b o (cov b o e q hb)
 have out:∀{b:Addr} {o:Obj},s.heap.get? b=some o→b∉frs l'→b∉frs l:=fun {b o} e hb z=>by
  rw [new b z hb] at e;cases e
 refine ⟨os,bare,⟨fun b o e n hb hx=>?_,fun b o e n hb hx=>?_,un.free,fun b o e hx=>?_,un.tups,un.frzs,un.tbls⟩,fun a o e=>?_,fun b hb=>frf b (sub b hb),free,B,a0,fl,fun b o e q hb=>?_⟩
 ·exact stay b o (un.keep b o e n (out e hb) hx) (.inr ⟨o,e⟩) (out e hb)
 ·obtain ⟨sl,q⟩:=un.slot b o e n (sub b hb) hx
  obtain ⟨o1,q1,d1⟩:=nf b (sub b hb)
  rw [q] at q1;cases q1
  obtain ⟨sl',q2⟩:=sm b _ q d1
  exact ⟨sl',q2⟩
 ·obtain ⟨o',q⟩:=un.there b o e hx
  by_cases hb:b∈frs l
  ·obtain ⟨o1,q1,d1⟩:=nf b hb
   obtain ⟨sl',q2⟩:=sm b _ q1 d1
   exact ⟨_,q2⟩
  ·exact ⟨o',stay b o' q (.inr ⟨o,e⟩) hb⟩
 ·refine (hok a o e).stay (fun b u hb q=>?_) (fun _ q=>q) fun _ _ q=>q
  have tr:H' b≠none:=by
   rcases hb with rfl | hb
   ·rw [e];simp
   ·rw [hb];simp
  exact stay b u q (.inl tr) fun z=>tr (frf b z)
 ·have hb':b∉frs l:=by
   intro z
   rcases q with q | ⟨o',q⟩
   ·exact q (frf b z)
   ·exact out q hb z
  have ⟨o1,q1⟩ : ∃o1,s'.heap.get? b=some o1:=by
   rcases q with q | ⟨o',q⟩
   ·cases z:H' b with
    | none=>exact absurd z q
    | some u=>exact (hok b u z).there
   ·exact un.there b o' q (by simp)
  have c:=cov b o1 q1 q hb'
  have z:=fl.1 b o1 c
  have e':h'.get? b=some o:=e
  rw [e'] at z;cases z
  exact c
section
variable{X:Cx}{pins:List (Addr×Obj)}{σ:St}{H H':Hp}{s s':Shared}{x:Addr}{cls:Value}
theorem Inv.unStack(I:Inv X pins σ H s)(hex:X.ex=[])(hfs:∀b∈X.fs,b∈frs X.stack):Un (frs X.stack) [] X.H₀ H X.s₀.heap s.heap:=I.base.mono hfs (by rw [hex];exact fun _ z=>z)
theorem Inv.sub(I:Inv X pins σ H s):∀b∈X.fs,b∈frs X.stack:=fun b hb=>by
 rcases I.ok.stk with e | ⟨e,hf⟩
 ·rw [e];exact hb
 ·rw [e]
  unfold frs
  rw [Van,hf]
  exact Vap _ hb
theorem Inv.flyOut(I:Inv X pins σ H s)(hex:X.ex=[])(F:Fly X.prog X.w X.stack H H' s s' x cls){B h':Heap}{a0:Value}(fl0:Heap.FlyingW B X.stack x cls a0 s'.heap)
  (cov:∀b o,s'.heap.get? b=some o→(H' b≠none∨∃o',s.heap.get? b=some o')→b∉frs X.stack→B.get? b=some o) (fl:Heap.FlyingW B X.outer x cls a0 h') (sm:s'.heap.UpToSlots h') :
  Fly X.prog X.w X.outer X.H₀ H' X.s₀ { s' with heap:=h' } x cls:=by
 refine ZoE (F.os.trans I.os) F.bare ((I.unStack hex I.sub).trans F.un) F.hok F.frf (fun b hb=>(fl0.2.2.1.mem hb).2) (fun b o e q hb=>cov b o e (q.imp id fun ⟨o',z⟩=>I.base.there b o' z (by rw [hex];simp)) hb) I.sub (fun b h1 h2=>?_) fl sm F.free
 rcases Var.mp (I.stkSub b h1) with e | e
 ·rw [e];exact Vaq I.ok.above
 ·exact absurd e h2
end
def CXR(P:Program)(w:World):CXT:=fun outer H s E e s'=>∃(x:Addr) (cls:Value) (H':Hp),e=.ref x∧Fly P w outer H H' s s' x cls∧E cls none H'
section
variable{P:Program}{w:World}{K:W.Frag}{mg:Str→Option Value}{base:Heap}{N:List Str}{qual:Str}{scope:Scope}{f:Addr}{cd:Value}{A:Around}{outer:List Env}{s₀:Shared}{H₀:Hp}{E:XK}
theorem ZaG:Zbe (CXR P w) (cxOf (CXR P w) P w K mg base N qual scope f cd A outer s₀ H₀ E) E:=by
 intro pins σ H s e s' I h
 obtain ⟨x,cls,H',rfl,F,q⟩:=h
 obtain ⟨B,a0,fl,cov⟩:=F.ex
 show wpAny (model P w) (A.deeper (envOfC qual scope s₀.heap.objs.size f cd)) (leaving (envOfC qual scope s₀.heap.objs.size f cd) (.ref x)) _ _ s'
 exact wpAny_leaves_onW I.ok.frames rfl fl fun h' fl' sm=>⟨x,cls,H',rfl,I.flyOut rfl F fl cov fl' sm,q⟩
end
abbrev Zf5:List Value:=[.type "ValueError", .type "Exception", .type "BaseException", .type "object"]
theorem Ztr{K:W.Frag}{h₀:Heap}{mg:Str→Option Value}{x:Str}{C:Addr}{bmB:List Value}{newId:String}(X:K.In h₀)(m:mg x=some (.ref C))(q:W.excIn K C bmB newId=true):OwnCls x C bmB newId mg h₀:=by
 refine ⟨m,?_⟩
 unfold W.excIn at q
 split at q
 ·rename_i dd cd sl ho
  split at q
  ·rename_i C' bm k0 k1 k2 k3 n k5 hm hs
   simp only [Vbj,VaN,Bool.not_eq_true'] at q
   obtain ⟨⟨⟨⟨⟨rfl,rfl⟩,hdel⟩,ht⟩,hok⟩,hni⟩:=q
   obtain ⟨nm,bs,mro,ns,qn,hd,sn,sub,ab,col,del⟩:=cd
   dsimp only at hm hdel hok hni
   subst hm hdel
   have hsl:sl=#[k0,k1,k2,k3,some (.builtin n),k5]:=by
    obtain ⟨l⟩:=sl
    simp only at hs
    rw [hs]
   subst hsl
   exact ⟨bm,ns,nm,qn,bs,hd,sn,sub,ab,col,dd,k0,k1,k2,k3,k5,_,X _ _ ho,.of_isNs (W.isNs_of_in X hok),W.nsMap_none_of_in X hok hni,W.tail_of_in X ht⟩
  ·cases q
 ·cases q
section
variable{X:Cx}{pins:List (Addr×Obj)}{σ:St}{H:Hp}{s:Shared}
theorem Inv.flyMade(I:Inv X pins σ H s)(hex:X.ex=[])(hst:X.stack=X.env::X.outer)(hfr:X.env.frame=some X.env.locals){x:Addr}{cls:Value}{args:List Value}{s1:Shared}{h1:Heap}(e1:s1={ s with heap:=h1,toks:=s1.toks })(hx:Heap.MadeExcOf s.heap h1 x cls args)
  {Q:Unit→Shared→Prop} {E:Value→Shared→Prop} (k:∀s2,Fly X.prog X.w X.outer X.H₀ H X.s₀ s2 x cls→Q () s2):wpAny (model X.prog X.w) X.A (leaving X.env (.ref x)) Q E s1:=by
 have hin:∀env∈X.stack,∀b,env.frame=some b→b∈frs X.stack:=fun env he b hb=>VaK.mpr ⟨env,he,hb⟩
 have hh1:s1.heap=h1:=by rw [e1]
 refine wpAny_leaves_madeW (base:=W.hideAll s.heap (frs X.stack)) (h:=s.heap) (outer:=X.outer) (by rw [←hst];exact I.ok.frames) hfr (fun b o q=>W.of_hideAll _ q) (by rw [←hst];exact W.funFrames_hide I.stack hin) (by rw [hh1];exact hx) fun h2 t fl _ _ sm=>?_
 refine k _ ?_
 have F:Fly X.prog X.w X.outer X.H₀ H X.s₀ { s with heap:=h2 } x cls:=by
  refine ZoE (B:=W.hideAll s.heap (frs X.stack)) I.os I.bare (I.unStack hex I.sub) I.hok I.stkFree (fun b hb=>(I.stack.mem hb).2) (fun b o e _ hb=>W.hideAll_get _ e hb) I.sub (fun b h1 h2=>?_) fl ((Heap.UpToSlots.of_keeps hx.keeps).trans (by rw [←hh1];exact sm)) (I.hok.free hx.new)
  rcases Var.mp (I.stkSub b h1) with e | e
  ·rw [e];exact Vaq I.ok.above
  ·exact absurd e h2
 refine ⟨?_,?_,F.un,F.hok,F.frf,F.free,F.ex⟩
 ·rw [e1];exact I.os
 ·rw [e1];exact I.bare
end
section
variable{P:Program}{w:World}{K:W.Frag}{mg:Str→Option Value}{base:Heap}{N:List Str}{qual:Str}{scope:Scope}{f:Addr}{cd:Value}{A:Around}{outer:List Env}{s₀:Shared}{H₀:Hp}{E:XK}
def Zok(E:XK)(C:Addr)(te:TA):TS:=fun _ σ H=>te σ H fun vs H1=>vs.length≤1000∧E (.ref C) none H1
theorem Zm7{x:Str}{C:Addr}{np cpos pos:Pos}{e:Expr}{es:List Expr}{t:TA}(hg:Gl (cxOf (CXR P w) P w K mg base N qual scope f cd A outer s₀ H₀ E) x)(hm:mg x=some (.ref C))(hq:W.excIn K C Zf5 "ValueError.__new__"=true)
  (ha:PA (cxOf (CXR P w) P w K mg base N qual scope f cd A outer s₀ H₀ E) (e::es) t) (hd:(x==("__debug__" : Str))=false:=by decide)
  (he:starEach (e::es) (cxOf (CXR P w) P w K mg base N qual scope f cd A outer s₀ H₀ E).env=(false,eval e (cxOf (CXR P w) P w K mg base N qual scope f cd A outer s₀ H₀ E).env)::starEach es (cxOf (CXR P w) P w K mg base N qual scope f cd A outer s₀ H₀ E).env:=by rfl)
  (hpl:(backTo cpos (starEach es (cxOf (CXR P w) P w K mg base N qual scope f cd A outer s₀ H₀ E).env)).any (·.1)=false:=by rfl) :
  PS (cxOf (CXR P w) P w K mg base N qual scope f cd A outer s₀ H₀ E) (.Raise (some (.Call (.Name x np) (e::es) [] cpos)) none pos) (Zok E C t):=by
 intro pins s σ H D I h
 obtain ⟨tl,Nn,nm,q,bs,hdct,sn,sub,ab,col,dd,k0,k1,k2,k3,k5,mN,hC,hN,hni,T⟩:=(Ztr I.mod.kin hm hq).obj
 refine wpAny_Raise_call_subU (C:=C) (nm:=nm) (q:=q) (N:=Nn) (bs:=bs) (bm:=tl) (hdct:=hdct) (sn:=sn) (sub:=sub) (ab:=ab) (col:=col) (dd:=dd) (k0:=k0) (k1:=k1) (k2:=k2) (k3:=k3) (k5:=k5)
  PySem.F.excBase_ValueError (bmB:=Zf5) (by decide +kernel) PySem.F.excBase_ValueError (mN:=mN) (T.hasType PySem.F.excBase_ValueError.hasBase) (I.ok.hd rfl) (by rw [he];show (false||(backTo cpos (starEach es _)).any (·.1))=false;rw [hpl];rfl) hni (ZfV I hg hm ⟨rfl,?_⟩ hd)
 have hw:=ha cpos pins s σ H _ I h
 rw [he] at hw ⊢
 refine Calls.evalArgs_plain (Vaw hw (fun us s2 z=>?_) fun _ _ y=>y)
 obtain ⟨vs,H2,I2,rv,hl,q2⟩:=z
 refine ⟨rfl,by rw [←rv.length];exact Vam (Zl4 hl),I2.bk _ _ hC,hN.keeps I2.bk,T.keeps I2.bk,fun h' ex hx=>?_⟩
 exact I2.flyMade rfl rfl rfl rfl hx fun s3 F=>⟨ex,.ref C,H2,rfl,F,q2⟩
end
def ExcAt(a:Addr)(C:Value)(h:Heap):Prop:=∃ob,h.get? a=some ob∧ob.cls=C
def exO(a:Addr)(C:Value):HO:=.ext (ExcAt a C)
end L2
namespace L2
open PySem PySem.Spec PyProof.Rows PySem.Calls
section
open PySem.Builtin PySem.Builtin.ObjectAttr PySem.Builtin.Getset_descriptor PySem.W
variable{prog:Program}{w:World}{A:Around}{E:Value→Shared→Prop}{s:Shared}{K:W.Frag}{x D:Addr}{name:Str}{M:Model}{h:Heap}
end
end L2
namespace L2
open PySem PySem.Spec PyProof.Rows
theorem Zl6(l:Addr)(items:Array Value)(n:Nat)(sl:Array (Option Value))(b:Addr)(items2:Array Value)(n2:Nat)(sl2:Array (Option Value))(hc0:items.size+items2.size≤sizeLine) :
  Meets (Builtin.«list.__add__» ⟨[.ref l,.ref b],[]⟩) (fun _ R s=>s.heap.get? l=some { cls:=.type "list", dict:=none,data:=.seq items n,slots:=sl }∧s.heap.get? b=some { cls:=.type "list", dict:=none,data:=.seq items2 n2,slots:=sl2 }∧R (.ok (.ret (Value.ref s.heap.objs.size))) { s with heap:=s.heap.push { cls:=Value.type "list", data:=Data.seq (items++items2) },toks:=s.toks }) :=
 .of_wp fun prog w A R s h=>by obtain ⟨hp,g,d,tk,os⟩:=s;obtain ⟨hl,hb,h⟩:=h;have f1:=AutoSeq1.idx_int;have f2:=AutoSeq1.sub_tuple_tuple;have f3:=AutoSeq1.sub_list_list;have f4:=AutoSeq1.sub_tuple_list;have f5:=AutoSeq1.sub_list_tuple;wp_walk using AutoSeq1.wpAny_loadPart' hl,AutoSeq1.wpAny_loadPart' hb;exact ⟨_,rfl,h⟩
section
variable{X:Cx}
theorem Znk{pins:List (Addr×Obj)}{s:Shared}{σ:St}{H:Hp}{l b:Addr}{xs zs:List V}{Q:VK}(I:Inv X pins σ H s)(hH:SqL X.K H l xs)(hB:SqL X.K H b zs)(hz:xs.length+zs.length≤sizeLine)(q:∀p,H p=none→Q (.ref p) (upd H p (.lst (xs++zs)))) :
  wpAny (model X.prog X.w) X.A (binaryOp .Add (.ref l) (.ref b)) (EP X pins σ Q) X.xe s:=by
 obtain ⟨its,r,⟨⟨c1,d1,t1,sl1⟩,n,e,h1,h2,h3⟩,z⟩:=I.list hH
 obtain ⟨its2,r2,⟨⟨c2,d2,t2,sl2⟩,n2,e2,g1,g2,g3⟩,z2⟩:=I.list hB
 simp only at h1 h2 h3 g1 g2 g3
 subst h1 h2 h3 g1 g2 g3
 refine concat_meets ⟨_,e,rfl⟩ ⟨_,e2,rfl⟩ noFill_list_add seq_list_add F.slot_list_add F.entry_list_add (F.args_list_add_2 _ _) (Zl6 l its.toArray n sl1 b its2.toArray n2 sl2 (by rw [Va9,Va9,←r.length,←r2.length];exact hz)) ⟨e,e2,?_⟩
 have ea:its.toArray++its2.toArray=(its++its2).toArray:=by simp
 rw [ea]
 exact ⟨.ref _,_,I.lnew (t':=s.toks) (r.append r2) (by rw [Va7];exact hz),rfl,q _ I.fresh⟩
theorem ZnD{pins:List (Addr×Obj)}{s:Shared}{σ:St}{H:Hp}{a b:Addr}{xs ys:List V}{Q:VK}(I:Inv X pins σ H s)(ha:SqT X.K H a xs)(hb:SqT X.K H b ys)(hz:xs.length+ys.length≤sizeLine)(q0:xs=[]→Q (.ref b) H)
  (q1:xs≠[]→ys=[]→Q (.ref a) H) (q2:xs≠[]→ys≠[]→∀p,H p=none→Q (.ref p) (upd H p (.tup (xs++ys)))) :
  wpAny (model X.prog X.w) X.A (binaryOp .Add (.ref a) (.ref b)) (EP X pins σ Q) X.xe s:=by
 by_cases hx:xs=[]
 ·obtain ⟨its,r1,p1,_⟩:=I.tuple ha
  obtain ⟨its2,r2,p2,_⟩:=I.tuple hb
  have hi:its=[]:=r1.nil_iff.mpr hx
  subst hi
  obtain ⟨⟨cls,dd,data,sl⟩,ho,hc,n,hd⟩:=id p1
  obtain ⟨⟨cls2,dd2,data2,sl2⟩,ho2,hc2,n2,hd2⟩:=id p2
  simp only at hc hd hc2 hd2
  subst hc hd hc2 hd2
  exact concat_meets ⟨_,ho,rfl⟩ ⟨_,ho2,rfl⟩ noFill_tuple_add seq_tuple_add PySem.F.slot_tuple_add PySem.F.entry_tuple_add (PySem.F.args_tuple_add_2 _ _)
   (tuple_addW0 a b ([]:List Value).toArray its2.toArray n n2 dd dd2 sl sl2 rfl) ⟨ho,ho2,⟨.ref b,H,I,rfl,q0 hx⟩⟩
 ·exact Zqi pins s σ H (.ref a) (.ref b) _ _ Q I rfl rfl ⟨a,b,xs,ys,rfl,rfl,ha,hb,hx,hz,q1 hx,q2 hx⟩
end
end L2
namespace HT
open PySem PyProof.Rows
section
variable{prog:Program}{w:World}{A:Around}{E:Value→Shared→Prop}{s:Shared}
theorem ZdY{t sl:Addr}{items:Array Value}{vl vu:Value}{lo hi:Option Int}{Q:Value→Shared→Prop}(ht:IsTup s.heap t items)(hs:s.heap.IsSliceOf sl vl vu .none)(pl:IsPart vl lo)(pu:IsPart vu hi)
  (hw:sIx items.size 0 lo=0∧sIx items.size items.size hi=items.size) (h:Q (.ref t) s):wpAny (model prog w) A (getItem (.ref t) (.ref sl)) Q E s:=by
 obtain ⟨os,hos,hcs,hds⟩:=id hs
 have hTs:s.TypeIs (.ref sl) "slice" := ⟨os,hos,hcs⟩
 unfold getItem
 try with_reducible refine Vbe ?_
 first | refine Vaz (VaB ?_) | skip
 refine Vaz (wpAny_sequenceKey ht.typeIs (by decide) ?_)
 refine Vaz (Vbf (name:=Str.ofString "__getitem__") ht.typeIs Vbg
  (Vbh Vbg ht.typeIs entry_tuple_getitem ?_ (args_tuple_getitem _ _)))
 show wpAny _ _ (Builtin.Tuple.tupleItemsOf (.ref t) >>= _) _ _ s
 refine Vaz (tupleItemsOf_ ht ?_)
 refine Vaz (Vbi hTs ?_)
 rw [if_pos (by decide)]
 refine Vaz (Zc3 hs pl pu ?_)
 have hyes:(((sIx items.size 0 lo:Nat):Int)==0&&(1:Int)==1&&(sIx items.size items.size hi - sIx items.size 0 lo)==items.size)=true:=by
  rw [hw.1,hw.2];simp
 show wpAny _ _ (if (((sIx items.size 0 lo:Nat):Int)==0&&(1:Int)==1&&(sIx items.size items.size hi - sIx items.size 0 lo)==items.size)=true then _ else _) _ _ s
 rw [if_pos hyes]
 first
  | exact Vaz (Vaz (Vbi ht.typeIs (VaB (by rw [if_pos (by decide)];exact Vaz (wpAny_rule (VaB ⟨_,rfl,VaB h⟩))))))
  | (refine Vaz (m:=Builtin.Tuple.tupleIsExact _) (Vaz (Vbi ht.typeIs (VaB ?_)))
     rw [if_pos (by decide)]
     trace_state
     exact Vaz (wpAny_rule (VaB ⟨_,rfl,VaB h⟩)))
end
end HT
namespace L2
open PySem PySem.Spec PyProof.Rows
section
variable{X:Cx}{pins:List (Addr×Obj)}{σ:St}{H:Hp}{s:Shared}
theorem Inv.turnNew{fp:List Addr}{T:Addr}{o:HO}{h':Heap}{t':Nat}(I:Inv X pins σ H s)(k:∀b u,b∉fp→s.heap.get? b=some u→h'.get? b=some u)(hf:∀b∈fp,FpOk X pins H b)(hT:s.heap.objs.size≤T)(new:ZbX X.prog X.w (upd H T o) h' T o) :
  Inv X pins σ (upd H T o) { s with heap:=h',toks:=t' }:=by
 have hn:H T=none:=I.hok.fresh hT
 have ntr:∀b u,H b=some u→b∉fp:=fun b u e z=>by rw [(hf b z).1] at e;cases e
 refine I.call (g':=s.gens) (d':=s.drawn) (ch:=fp) ⟨fun b u q _ _ hx=>k b u hx q,fun b u q _ _ hx=>⟨u.slots,k b u hx q⟩,fun b u q n _=>?_,fun b u q hx=>⟨u,k b u hx q⟩,fun b xs q=>?_,fun b u xs q=>?_,fun b ps q=>?_⟩ (fun b u e=>?_) I.bare (fun b hb=>?_)
 ·rw [Zaf (Vah (Vaf (Vae q) hT))];exact n
 ·rw [Zaf (Zae q hn)];exact q
 ·rw [Zaf (Zae q hn)];exact q
 ·exact ⟨#[],by rw [Zaf (Zae q hn),q];simp⟩
 ·by_cases hb:b=T
  ·subst hb;rw [Zag] at e;cases e;exact new
  ·rw [Zaf hb] at e
   refine (I.hok b u e).stay (fun c v hc q=>k c v ?_ q) (fun c q=>by rw [Zaf (Zae q hn)];exact q) fun c xs q=>by rw [Zaf (Zae q hn)];exact q
   rcases hc with rfl | hc
   ·exact ntr c u e
   ·exact ntr c _ hc
 ·obtain ⟨_,f1,_,f3,f4,f5⟩:=hf b hb
  exact ⟨f3,f1,f4,f5⟩
theorem Inv.turnedL{fp:List Addr}{h':Heap}{t':Nat}(I:Inv X pins σ H s)(k:∀b u,b∉fp→s.heap.get? b=some u→h'.get? b=some u)(hf:∀b∈fp,FpOk X pins H b):Inv X pins σ H { s with heap:=h',toks:=t' }:=by
 have ntr:∀b u,H b=some u→b∉fp:=fun b u e z=>by rw [(hf b z).1] at e;cases e
 refine I.call (g':=s.gens) (d':=s.drawn) (ch:=fp) ⟨fun b u q _ _ hx=>k b u hx q,fun b u q _ _ hx=>⟨u.slots,k b u hx q⟩,fun b u q n _=>n,fun b u q hx=>⟨u,k b u hx q⟩,fun b xs q=>q,fun b u xs q=>q,fun b ps q=>⟨#[],by rw [q];simp⟩⟩ (fun b u e=>?_) I.bare (fun b hb=>?_)
 ·refine (I.hok b u e).stay (fun c v hc q=>k c v ?_ q) (fun c q=>q) fun c xs q=>q
  rcases hc with rfl | hc
  ·exact ntr c u e
  ·exact ntr c _ hc
 ·obtain ⟨_,f1,_,f3,f4,f5⟩:=hf b hb
  exact ⟨f3,f1,f4,f5⟩
end
def Ite(K:W.Frag)(a:Addr):It :=
 ⟨fun i H=>∃xs x,SqL K H a xs∧xs[i]?=some x,fun i H x H'=>∃T p,H T=none∧x=.ref T∧H'=upd H T (.tup [.int i,p])∧∀xs,SqL K H a xs→xs[i]?=some p,fun i H=>∃xs,SqL K H a xs∧xs.length≤i⟩
theorem Zly{P:Program}{w:World}{K:W.Frag}{elts:List Expr}{x1:Nat}{pos:Pos}{a e it:Addr}(hei:e≠it):Turn P w K (.Tuple elts x1 pos) (Ite K a) [e,it] e (fun i h=>(∃old,IsEnum h e it (i:Nat) old)∧h.IsListIter it a i) where
 mem:=by simp
 obj:=fun i h st b hb=>by
  obtain ⟨⟨old,he⟩,o,ho,c,d⟩:=st
  rcases Var.mp hb with rfl | hb
  ·exact ⟨_,he,fun v z=>by cases z⟩
  ·have z:b=it:=by simpa using hb
   subst z
   exact ⟨o,ho,fun v z=>by rw [d] at z;cases z⟩
 keep:=fun i h h' st k=>⟨⟨st.1.choose,k e (by simp) _ st.1.choose_spec⟩,st.2.at fun o q=>k it (by simp) o q⟩
 item:=by
  intro X hP hw hK hc i pins s σ H E I hf st hg
  subst hP hw hK
  obtain ⟨⟨old,he⟩,hit⟩:=st
  obtain ⟨xs,x,hq,hx⟩:=hg
  obtain ⟨its,rv,p,hz⟩:=I.list hq
  obtain ⟨u,hu,ru⟩:=rv.get hx
  refine wpAny_pyNext_enum_item he hit p.isList (x:=u) (by simpa using hu) hei fun h1 heo hit1 ht1 hz1 hk1=>⟨_,rfl,?_⟩
  refine wpAny_letOwnedTupleGo_enum heo fun h2 he2 hs2=>?_
  have hsz:∀{c:Addr} {ob:Obj},s.heap.get? c=some ob→c≠s.heap.objs.size:=fun q=>Vah (Vae q)
  have eT:e≠s.heap.objs.size:=hsz he
  have iT:it≠s.heap.objs.size:=by obtain ⟨_,q,_⟩:=id hit;exact hsz q
  have hs2':Heap.SameBut e h1 h2:=hs2
  have hT:H s.heap.objs.size=none:=I.hok.fresh (VaI _)
  have I2:Inv X pins σ (upd H s.heap.objs.size (.tup [.int i,x])) { s with heap:=h2,toks:=s.toks+1 }:=by
   refine I.turnNew (fp:=[e,it]) (fun b ob hb q=>?_) hf (VaI _) ?_
   ·have h1':b≠e:=fun z=>hb (by simp [z])
    have h2':b≠it:=fun z=>hb (by simp [z])
    exact hs2'.extBut b ob h1' (hk1 b ob h1' h2' q)
   ·have lt2:(2:Nat)≤sizeLine:=by decide
    exact ⟨lt2,[.int i s.toks,u],.cons ⟨_,rfl⟩ (.cons ru .nil),⟨_,hs2'.extBut _ _ (Ne.symm eT) ht1,rfl,_,rfl⟩⟩
  refine ⟨.ref s.heap.objs.size,_,I2,rfl,⟨_,x,hT,rfl,rfl,fun ys hy=>by rw [I.list_inj hy hq];exact hx⟩,⟨⟨_,he2⟩,hit1.extBut hs2'.extBut (Ne.symm hei)⟩,fun b hb=>?_⟩
  have nb:b≠s.heap.objs.size:=by
   rcases Var.mp hb with rfl | hb
   ·exact eT
   ·have z:b=it:=by simpa using hb
    subst z;exact iT
  rw [Zaf nb];exact (hf b hb).1
 done:=by
  intro X hP hw hK hc i pins s σ H E I hf st hg
  subst hP hw hK
  obtain ⟨⟨old,he⟩,hit⟩:=st
  obtain ⟨xs,hq,hx⟩:=hg
  obtain ⟨its,rv,p,hz⟩:=I.list hq
  have hl:=rv.length
  refine wpAny_pyNext_enum_end (I.ok.hd hc) he hit p.isList (by simp;omega) fun h' eb=>⟨rfl,?_⟩
  exact I.turnedL (fp:=[e,it]) (t':=s.toks) (fun b ob hb q=>eb b ob (fun z=>hb (by simp [z])) q) hf
 self:=fun _ _ _ _ _ st h=>wpAny_pyIter_enum st.1.choose_spec h
def ZrH(K:W.Frag)(ta:TA):TI:=fun σ H R=>ta σ H fun vs H1=>∃a,vs=[.ref a]∧(∃xs,SqL K H1 a xs)∧R (Ite K a) H1
theorem ZoL{X:Cx}{elts:List Expr}{x1:Nat}{tpos:Pos}{a:Expr}{ta:TA}{p pos:Pos}(hg:Gl X "enumerate")(hm:X.mg "enumerate"=none)(ha:PA X [a] ta)(hs:starEach [a] X.env=[(false,eval a X.env)]:=by rfl):PI X (.Tuple elts x1 tpos) (.Call (.Name "enumerate" p) [a] [] pos) (ZrH X.K ta):=by
 intro pins s σ H R I h
 refine Call_ (ZfL I hg hm Zib (VaJ (thn (ha pos pins s σ H _ I h) fun us s1 ⟨vs,H1,I1,r1,q1⟩=>?_) hs rfl))
 obtain ⟨l,e,⟨xs,hq⟩,q⟩:=q1
 subst e
 cases r1 with
 | cons r rr =>
  cases rr
  cases r
  obtain ⟨its,rv,pl,hz⟩:=I1.list hq
  refine call_enumerate_list pl.isList fun h' he hit hsz hk=>?_
  have hI:Inv X pins σ H1 { s1 with heap:=h' }:=I1.kept (t':=s1.toks) hk
  refine wpAny_pyIter_enum he ?_
  refine ⟨s1.heap.objs.size+1,[s1.heap.objs.size+1,s1.heap.objs.size],_,Ite X.K l,H1,rfl,hI,Zly (Nat.succ_ne_self _),⟨⟨_,he⟩,hit⟩,fun b hb=>?_,q⟩
  have hb':s1.heap.objs.size≤b:=by
   rcases Var.mp hb with rfl | hb
   ·exact Nat.le_succ _
   ·have z:b=s1.heap.objs.size:=by simpa using hb
    exact Nat.le_of_eq z.symm
  exact I1.fpOk hb' (I1.hok.fresh hb')
section
variable{prog:Program}{w:World}{A:Around}{E:Value→Shared→Prop}{s:Shared}
theorem Zh2{it t:Addr}{items:Array Value}(hne:t≠it):∀(n i:Nat) (s:Shared) (Q:List Value→Shared→Prop),s.heap.IsListIter it t i→s.heap.IsList t items→i+n≤items.size →
  (∀h',h'.IsListIter it t (i+n)→Heap.SameBut it s.heap h'→Q ((items.toList.drop i).take n) { s with heap:=h' })→wpAny (model prog w) A (draw (.ref it) n) Q E s
 | 0,i,s,Q,hit,_,_,hQ=>by
  show wpAny _ _ (pure []) Q E s
  exact VaB (by simpa using hQ s.heap hit (Heap.SameBut.refl ..))
 | n+1,i,s,Q,hit,ht,hle,hQ=>by
  have hlt:i<items.size:=by omega
  show wpAny _ _ (pyNext (.ref it) >>= _) Q E s
  refine Vaz (wpAny_pyNext_list_item hit ht (x:=items[i]) (by simp [hlt]) fun h₁ hit₁ hs₁=>?_)
  refine Vaz (Vbe (Zh2 hne n (i+1) _ _ hit₁ (ht.extBut hs₁.extBut hne) (by omega) fun h₂ hit₂ hs₂=>VaB ?_))
  have hd:items.toList.drop i=items[i]::items.toList.drop (i+1):=by simp [Vbt,hlt]
  have:=hQ h₂ (by rw [show i+(n+1)=i+1+n by omega];exact hit₂) (hs₁.trans hs₂)
  rw [hd,List.take_succ_cons] at this
  exact this
theorem Zfh{t:Addr}{items:Array Value}{Q:List Value→Shared→Prop}(hh:A.handled=none)(ht:s.heap.IsList t items)
  (hQ:∀h',Heap.ExtBut s.heap.objs.size s.heap h'→Q items.toList { s with heap:=h' }):wpAny (model prog w) A (unpackItems (.ref t) items.size none) Q E s:=by
 have hlt:t≠s.heap.objs.size:=by obtain ⟨o,ho,_⟩:=ht;exact Vah (Vae ho)
 unfold unpackItems
 refine Vaz ?_
 ·unfold notIterableAtAll
  refine Vaz (wpAny_specialOf ht.typeIs F.slot_list_iter.lookup ?_)
  refine VaB ?_
  simp only [Vbu,Vba]
  refine Vaz (Vbe (Vbv ht ?_))
  refine Vaz (Vbe (Zh2 hlt items.size 0 _ _ ⟨_,VaH _ rfl,rfl,rfl⟩ (ht.push _) (by omega) fun h₁ hit₁ hs₁=>?_))
  have hall:List.take items.size (List.drop 0 items.toList)=items.toList:=by
   rw [Vbw];exact Vbx (by simp)
  rw [hall]
  rw [if_neg (by simp)]
  have ht₁:h₁.IsList t items:=(ht.push _).extBut hs₁.extBut hlt
  refine Vaz (Vbe (wpAny_pyNext_list_end hh hit₁ ht₁ (by simp) fun h₂ he₂=>?_))
  simp only [Option.isSome_none,Vbu,Vba]
  refine VaB (hQ h₂ fun b o hb e=>he₂ b o hb (hs₁.extBut b o hb (VaD _ e)))
theorem ZeT{env:Env}{elts:List Expr}{x1}{pos:Pos}{t:Addr}{items:Array Value}{Q:Unit→Shared→Prop}(hh:A.handled=none)(ht:s.heap.IsList t items)
  (hn:(assignEach elts env).length=items.size) (hstar:(assignEach elts env).findIdx? (·.1)=none)
  (h:∀h',Heap.ExtBut s.heap.objs.size s.heap h'→wpAny (model prog w) A (assignInOrder ((assignEach elts env).map (·.2)) items.toList) Q E { s with heap:=h' }) :
  wpAny (model prog w) A (assign (.Tuple elts x1 pos) env (.ref t)) Q E s:=by
 rw [assign_Tuple]
 refine Vaz (VaA ?_)
 unfold unpack
 rw [hn,hstar]
 exact Vaz (Vbe (Zfh hh ht h))
end
def ItK:Bool→Heap→Addr→Addr→Nat→Prop
 | false,h,a,l,i=>h.IsListIter a l i
 | true,h,a,l,i=>h.IsTupleIter a l i
def SqK:Bool→Heap→Addr→Array Value→Prop
 | false,h,a,xs=>h.IsList a xs
 | true,h,a,xs=>h.IsTuple a xs
def ZhY(p:Bool)(l:Addr):Obj:={ cls:=.type (if p then "tuple_iterator" else "list_iterator"),data:=.fields #[.ref l,.int 0 0] }
theorem ItK.extBut{p:Bool}{h h':Heap}{a b l:Addr}{i:Nat}(x:ItK p h a l i)(hs:Heap.ExtBut b h h')(hab:a≠b):ItK p h' a l i:=by
 cases p
 ·exact Heap.IsListIter.extBut x hs hab
 ·exact Heap.IsTupleIter.extBut x hs hab
theorem ItK.at{p:Bool}{h h':Heap}{a l:Addr}{i:Nat}(x:ItK p h a l i)(k:∀o,h.get? a=some o→h'.get? a=some o):ItK p h' a l i:=by
 cases p
 ·obtain ⟨o,e,r⟩:=(show h.IsListIter a l i from x);exact ⟨o,k o e,r⟩
 ·obtain ⟨o,e,r⟩:=(show h.IsTupleIter a l i from x);exact ⟨o,k o e,r⟩
theorem ItK.flds{p:Bool}{h:Heap}{a l:Addr}{i:Nat}(x:ItK p h a l i):∃o vs,h.get? a=some o∧o.data=.fields vs:=by
 cases p
 ·obtain ⟨o,e,_,d⟩:=(show h.IsListIter a l i from x);exact ⟨o,_,e,d⟩
 ·obtain ⟨o,e,_,d⟩:=(show h.IsTupleIter a l i from x);exact ⟨o,_,e,d⟩
theorem ItK.new{p:Bool}{h:Heap}{a l:Addr}(e:h.get? a=some (ZhY p l)):ItK p h a l 0:=by
 cases p
 ·exact ⟨_,e,rfl,rfl⟩
 ·exact ⟨_,e,rfl,rfl⟩
theorem SqK.extBut{p:Bool}{h h':Heap}{a b:Addr}{xs:Array Value}(x:SqK p h a xs)(hs:Heap.ExtBut b h h')(hab:a≠b):SqK p h' a xs:=by
 cases p
 ·exact Heap.IsList.extBut x hs hab
 ·exact Heap.IsTuple.extBut x hs hab
theorem SqK.push{p:Bool}{h:Heap}{a:Addr}{xs:Array Value}(x:SqK p h a xs)(o:Obj):SqK p (h.push o) a xs:=by
 cases p
 ·exact Heap.IsList.push x o
 ·exact Heap.IsTuple.push x o
section
variable{prog:Program}{w:World}{A:Around}{E:Value→Shared→Prop}{s:Shared}
theorem Zpm{p:Bool}{l:Addr}{xs:Array Value}{Q:Value→Shared→Prop}(x:SqK p s.heap l xs)(h:Q (.ref s.heap.objs.size) { s with heap:=s.heap.push (ZhY p l) }):wpAny (model prog w) A (pyIter (.ref l)) Q E s:=by
 cases p
 ·exact Vbv x h
 ·exact wpAny_pyIter_tuple x h
theorem Zkk{ia la:Addr}{i:Nat}{zs}{x:Value}{Q:Value→Shared→Prop}(ki:s.heap.IsTupleIter ia la i)
  (kl:s.heap.IsTuple la zs) (kx:zs[i]?=some x)
  (kQ:∀h',h'.IsTupleIter ia la (i+1)→Heap.SameBut ia s.heap h'→Q x { s with heap:=h' }) :
  wpAny (model prog w) A (Builtin.SmallTypes.nextOf (.ref ia)) Q E s:=by
 obtain ⟨ob,ko,kc,kd⟩:=id ki
 obtain ⟨oq,kol,_,nq,kdl⟩:=kl
 unfold Builtin.SmallTypes.nextOf
 refine Vaz (Vbf (name:=Str.ofString "__next__") ki.typeIs Vby
  (Vbh Vby ki.typeIs F.entry_tuple_iterator_next ?_ (F.args_tuple_iterator_next_1 _)))
 show wpAny _ _ (field (.ref ia) 0 >>= _) _ _ s
 refine Vaz (Vbc ko kd (x:=.ref la) rfl ?_)
 show wpAny _ _ (if (Value.ref la==Value.none)=true then _ else _) _ _ s
 rw [if_neg (show ¬((Value.ref la==Value.none)=true) from VaF)]
 show wpAny _ _ (field (.ref ia) 1 >>= _) _ _ s
 refine Vaz (Vbc ko kd (x:=.int i 0) rfl ?_)
 show wpAny _ _ (seqItems? (.ref la) >>= _) _ _ s
 refine Vaz (Vbz kol kdl ?_)
 simp only [VbA,kx]
 refine Vaz (wpAny_setField ko kd (by simp) (VaB ⟨x,rfl,VaB (kQ _ ?_ (VbB ..))⟩))
 exact ⟨_,VbC _ ko (Obj.isFreed_of_fields (VbD kd _)),(Obj.cls_mapFields ..).trans kc,by
  rw [VbD kd];simp [rawInt]⟩
theorem Zme{ia la:Addr}{i:Nat}{zs}{Q:Value→Shared→Prop}(kh:A.handled=none)
  (ki:s.heap.IsTupleIter ia la i) (kl:s.heap.IsTuple la zs) (kx:zs[i]?=none)
  (kE:∀h' e,Heap.ExtBut ia s.heap h'→(∃ob,h'.get? e=some ob∧ob.cls=.type "StopIteration")→E (.ref e) { s with heap:=h' }) :
  wpAny (model prog w) A (Builtin.SmallTypes.nextOf (.ref ia)) Q E s:=by
 obtain ⟨ob,ko,kc,kd⟩:=id ki
 obtain ⟨oq,kol,_,nq,kdl⟩:=kl
 unfold Builtin.SmallTypes.nextOf
 refine Vaz (Vbf (name:=Str.ofString "__next__") ki.typeIs Vby
  (Vbh Vby ki.typeIs F.entry_tuple_iterator_next ?_ (F.args_tuple_iterator_next_1 _)))
 show wpAny _ _ (field (.ref ia) 0 >>= _) _ _ s
 refine Vaz (Vbc ko kd (x:=.ref la) rfl ?_)
 show wpAny _ _ (if (Value.ref la==Value.none)=true then _ else _) _ _ s
 rw [if_neg (show ¬((Value.ref la==Value.none)=true) from VaF)]
 show wpAny _ _ (field (.ref ia) 1 >>= _) _ _ s
 refine Vaz (Vbc ko kd (x:=.int i 0) rfl ?_)
 show wpAny _ _ (seqItems? (.ref la) >>= _) _ _ s
 refine Vaz (Vbz kol kdl ?_)
 simp only [VbA,kx]
 refine Vaz (wpAny_rule (Vaz (wpAny_setField ko kd (by simp) ?_)))
 show wpAny _ _ (newExc (.type "StopIteration") [] >>= _) _ _ _
 refine Vaz ?_
 simp only [newExc,newTuple]
 refine Vaz (VaC ?_ (by size_fits))
 refine Vaz (m:=firstArgMember _ _) (wpAny_of_eq (a:=Value.none) (by first | rfl | (simp only [firstArgMember];rfl)) ?_)
 refine VaC ?_ (by size_fits)
 simp only [raiseNew]
 refine Vaz (wpAny_handled ?_)
 first | rw [show A.in1.handled=none from kh] | rw [kh]
 refine Vaz (VaB (wpAny_throw ?_))
 exact kE _ _ (((VbB ..).extBut.push _).push _) ⟨_,VaH _ rfl,rfl⟩
theorem ZaV{p:Bool}{ia la:Addr}{i:Nat}{zs:Array Value}{x:Value}{Q:Value→Shared→Prop}(ki:ItK p s.heap ia la i)(kl:SqK p s.heap la zs)(kx:zs[i]?=some x)
  (kQ:∀h',ItK p h' ia la (i+1)→Heap.SameBut ia s.heap h'→Q x { s with heap:=h' }):wpAny (model prog w) A (Builtin.SmallTypes.nextOf (.ref ia)) Q E s:=by
 cases p
 ·exact wpAny_nextOf_list_item ki kl kx kQ
 ·exact Zkk ki kl kx kQ
theorem Zcz{p:Bool}{ia la:Addr}{i:Nat}{zs:Array Value}{Q:Value→Shared→Prop}(kh:A.handled=none)(ki:ItK p s.heap ia la i)(kl:SqK p s.heap la zs)(kx:zs[i]?=none)
  (kE:∀h' e,Heap.ExtBut ia s.heap h'→(∃o,h'.get? e=some o∧o.cls=.type "StopIteration")→E (.ref e) { s with heap:=h' }):wpAny (model prog w) A (Builtin.SmallTypes.nextOf (.ref ia)) Q E s:=by
 cases p
 ·exact wpAny_nextOf_list_end kh ki kl kx kE
 ·exact Zme kh ki kl kx kE
end
def SqB(K:W.Frag):Bool→Hp→Addr→List V→Prop
 | false,H,a,xs=>SqL K H a xs
 | true,H,a,xs=>SqT K H a xs
theorem SqK.here{p:Bool}{h:Heap}{a:Addr}{xs:Array Value}(x:SqK p h a xs):∃o,h.get? a=some o:=by
 cases p
 ·obtain ⟨o,e,_⟩:=(show h.IsList a xs from x);exact ⟨o,e⟩
 ·obtain ⟨o,e,_⟩:=(show h.IsTuple a xs from x);exact ⟨o,e⟩
theorem Inv.seqB{X:Cx}{pins:List (Addr×Obj)}{σ:St}{H:Hp}{s:Shared}{p:Bool}{a:Addr}{xs:List V}(I:Inv X pins σ H s)(h:SqB X.K p H a xs):∃its:List Value,Vals xs its∧SqK p s.heap a its.toArray∧xs.length≤sizeLine:=by
 cases p
 ·obtain ⟨its,rv,pl,hz⟩:=I.list h
  exact ⟨its,rv,pl.isList,hz⟩
 ·obtain ⟨its,rv,pl,hz⟩:=I.tuple h
  exact ⟨its,rv,pl,hz⟩
end L2
namespace Dl
open PySem
inductive D where
 | non | bl (b:Bool) | int (i:Int) | str (x:Str) | ty (n:String) | cls (c:Str)
 | tup (xs:List D) | lst (xs:List D) | exc (c:Str) | ins (c:Str) (ns:List Str) (vs:List D)
inductive Res(α:Type) where
 | ok (a:α) | ex (c:Str) | bad
def Res.bind{α β:Type}:Res α→(α→Res β)→Res β
 | .ok a,f=>f a
 | .ex c,_=>.ex c
 | .bad,_=>.bad
theorem ZcR{α β:Type}(a:α)(f:α→Res β):(Res.ok a).bind f=f a:=rfl
inductive Cl where
 | no | im (d:D) | ow (ds:List D)
abbrev Ev:=List Cl
abbrev ME:=Ev→Res D
abbrev MB:=Ev→Res Bool
abbrev MA:=Ev→Res (List D)
def getC:Option Cl→Res D
 | some (.im d)=>.ok d
 | _=>.bad
def v(i:Nat):ME:=fun ρ=>getC ρ[i]?
def c(d:D):ME:=fun _=>.ok d
def o1(f:D→Res D)(a:ME):ME:=fun ρ=>(a ρ).bind f
def o2(f:D→D→Res D)(a b:ME):ME:=fun ρ=>(a ρ).bind fun x=>(b ρ).bind fun y=>f x y
def yaa:MA:=fun _=>.ok []
def Zaa(a:ME)(r:MA):MA:=fun ρ=>(a ρ).bind fun x=>(r ρ).bind fun xs=>.ok (x::xs)
def on(f:List D→Res D)(a:MA):ME:=fun ρ=>(a ρ).bind f
def mtp(a:MA):ME:=fun ρ=>(a ρ).bind fun xs=>.ok (.tup xs)
def mls(a:MA):ME:=fun ρ=>(a ρ).bind fun xs=>.ok (.lst xs)
def tru:D→Res Bool
 | .bl b=>.ok b
 | _=>.bad
def trb(a:ME):MB:=fun ρ=>(a ρ).bind tru
def bAnd(a b:MB):MB:=fun ρ=>(a ρ).bind fun x=>if x=true then b ρ else .ok false
def bOr(a b:MB):MB:=fun ρ=>(a ρ).bind fun x=>if x=true then .ok true else b ρ
def bNot(a:MB):MB:=fun ρ=>(a ρ).bind fun x=>.ok (!x)
def eAnd(a b:ME):ME:=fun ρ=>(trb a ρ).bind fun x=>if x=true then b ρ else .ok (.bl false)
def eNot(a:ME):ME:=fun ρ=>(trb a ρ).bind fun x=>.ok (.bl (!x))
def ife(t:MB)(a b:ME):ME:=fun ρ=>(t ρ).bind fun x=>if x=true then a ρ else b ρ
def ZaR(a b:Int):Bool:=decide (a.natAbs<2^64)||decide (b.natAbs<2^64)||decide (a.natAbs.log2+b.natAbs.log2<100000000)
def LIM:Nat:=1000000
def yaA:D→D→Res D
 | .int a,.int b=>.ok (.int (a+b))
 | .lst a,.lst b=>if a.length+b.length≤LIM then .ok (.lst (a++b)) else .bad
 | .tup a,.tup b=>if a.length+b.length≤LIM then .ok (.tup (a++b)) else .bad
 | .str a,.str b=>if a.length+b.length≤LIM then .ok (.str (a++b)) else .bad
 | _,_=>.bad
def ii(f:Int→Int→Res D):D→D→Res D
 | .int a,.int b=>f a b
 | _,_=>.bad
def iSub(a b:Int):Res D:=.ok (.int (a - b))
def iMul(a b:Int):Res D:=if ZaR a b=true then .ok (.int (a*b)) else .bad
def iMod(a b:Int):Res D:=if 0<b then .ok (.int (a%b)) else if b=0 then .bad else .ok (.int (a.fmod b))
def iDiv(a b:Int):Res D:=if b.natAbs.log2<9000 then (if 0<b then .ok (.int (a/b)) else if b=0 then .bad else .ok (.int (a.fdiv b))) else .bad
def iPow(a b:Int):Res D:=if 0≤b∧b≤1000000∧a.natAbs<2^64 then .ok (.int (a^b.toNat)) else .bad
def iShl(a b:Int):Res D:=if 0≤b∧b≤1000000∧a.natAbs<2^64 then .ok (.int (a*2^b.toNat)) else .bad
def iShr(a b:Int):Res D:=if 0≤b then .ok (.int (a/2^b.toNat)) else .bad
def iLt(a b:Int):Res D:=.ok (.bl (decide (a<b)))
def iLe(a b:Int):Res D:=.ok (.bl (decide (a≤b)))
def iGt(a b:Int):Res D:=.ok (.bl (decide (b<a)))
def iGe(a b:Int):Res D:=.ok (.bl (decide (b≤a)))
abbrev dSub:=ii iSub
abbrev yaI:=ii iMul
abbrev yaz:=ii iMod
abbrev ya8:=ii iDiv
abbrev dPow:=ii iPow
abbrev dShl:=ii iShl
abbrev dShr:=ii iShr
abbrev dLt:=ii iLt
abbrev dLe:=ii iLe
abbrev dGt:=ii iGt
abbrev dGe:=ii iGe
def dNeg:D→Res D
 | .int a=>.ok (.int (-a))
 | _=>.bad
mutual
def eqD:D→D→Bool
 | .non,.non=>true
 | .bl a,.bl b=>a==b
 | .bl a,.int j=>(if a then 1 else 0)==j
 | .int i,.bl b=>i==(if b then 1 else 0)
 | .int i,.int j=>i==j
 | .str x,.str y=>x==y
 | .lst xs,.lst ys=>eqDs xs ys
 | .tup xs,.tup ys=>eqDs xs ys
 | _,_=>false
def eqDs:List D→List D→Bool
 | [],[]=>true
 | x::xs,y::ys=>eqD x y&&eqDs xs ys
 | _,_=>false
end
mutual
def plain:Nat→D→Bool
 | _,.non=>true
 | _,.bl _=>true
 | _,.int _=>true
 | _,.str x=>x.cps.all (·<0x110000)
 | k+1,.tup xs=>ZaA k xs
 | k+1,.lst xs=>ZaA k xs
 | _,_=>false
def ZaA:Nat→List D→Bool
 | _,[]=>true
 | k,x::xs=>plain k x&&ZaA k xs
end
def dEq(x y:D):Res D:=if plain 50 x&&plain 50 y then .ok (.bl (eqD x y)) else .bad
def dNe(x y:D):Res D:=if plain 50 x&&plain 50 y then .ok (.bl (!eqD x y)) else .bad
def inD(x:D)(ys:List D):Bool:=ys.any fun y=>eqD y x
def seqD:D→Res (List D)
 | .lst ys=>.ok ys
 | .tup ys=>.ok ys
 | _=>.bad
def dNin(x y:D):Res D:=(seqD y).bind fun ys=>if plain 50 x&&ZaA 50 ys then .ok (.bl (!inD x ys)) else .bad
def ZdX:D→Bool
 | .non=>true
 | _=>false
def dIsN(x:D):Res D:=.ok (.bl (ZdX x))
def ZkI(x:D):Res D:=.ok (.bl (!ZdX x))
def at_{α:Type}(xs:List α)(i:Int):Option α:=if 0≤i then xs[i.toNat]? else if -(xs.length:Int)≤i then xs[(i+xs.length).toNat]? else none
def ofO{α:Type}:Option α→Res α
 | some a=>.ok a
 | none=>.bad
def dIx:D→D→Res D
 | .lst xs,.int i=>ofO (at_ xs i)
 | .tup xs,.int i=>ofO (at_ xs i)
 | _,_=>.bad
def cutAt(n d:Nat):Option Int→Nat
 | none=>d
 | some i=>if i<0 then (i+n).toNat else min i.toNat n
def cutL(xs:List D)(lo hi:Option Int):List D:=(xs.drop (cutAt xs.length 0 lo)).take (cutAt xs.length xs.length hi - cutAt xs.length 0 lo)
def dCut(x:D)(lo hi:Option Int):Res D:=match x with
 | .lst xs=>.ok (.lst (cutL xs lo hi))
 | .tup xs=>.ok (.tup (cutL xs lo hi))
 | _=>.bad
def pno:Ev→Res (Option Int):=fun _=>.ok none
def optI:D→Res (Option Int)
 | .int i=>.ok (some i)
 | _=>.bad
def pso(a:ME):Ev→Res (Option Int):=fun ρ=>(a ρ).bind optI
def cut(a:ME)(lo hi:Ev→Res (Option Int)):ME:=fun ρ=>(a ρ).bind fun x=>(lo ρ).bind fun l=>(hi ρ).bind fun h=>dCut x l h
def bLen:List D→Res D
 | [.lst xs]=>.ok (.int xs.length)
 | [.tup xs]=>.ok (.int xs.length)
 | _=>.bad
def bAbs:List D→Res D
 | [.int i]=>.ok (.int (if i<0 then -i else i))
 | _=>.bad
def bMin:List D→Res D
 | [.int i,.int j]=>.ok (.int (if j<i then j else i))
 | _=>.bad
def bInt:List D→Res D
 | [.int i]=>.ok (.int i)
 | [.bl k]=>.ok (.int (if k then 1 else 0))
 | _=>.bad
def bTup:List D→Res D
 | [.lst xs]=>.ok (.tup xs)
 | [.tup xs]=>.ok (.tup xs)
 | _=>.bad
def bLst:List D→Res D
 | [.lst xs]=>.ok (.lst xs)
 | [.tup xs]=>.ok (.lst xs)
 | _=>.bad
def Zjy:D→Option String
 | .non=>some "NoneType"
 | .bl _=>some "bool"
 | .int _=>some "int"
 | .str _=>some "str"
 | .tup _=>some "tuple"
 | .lst _=>some "list"
 | _=>none
def isTy(t n:String):Bool:=t==n||(t == "bool"&&n == "int")
def Zjz:List String:=["int", "bool", "str", "tuple", "list", "dict"]
def bIsi:List D→Res D
 | [x,.ty n]=>if Zjz.contains n=true then (ofO (Zjy x)).bind fun t=>.ok (.bl (isTy t n)) else .bad
 | _=>.bad
def bools:List D→Res (List Bool)
 | []=>.ok []
 | d::r=>match d with
  | .bl b=>(bools r).bind fun bs=>.ok (b::bs)
  | _=>.bad
def bAll:List D→Res D
 | [d]=>match d with
  | .lst xs=>(bools xs).bind fun bs=>.ok (.bl (bs.all id))
  | _=>.bad
 | _=>.bad
abbrev MI:=Ev→Res (List D)
def items:D→Res (List D)
 | .lst xs=>.ok xs
 | .tup xs=>.ok xs
 | _=>.bad
def iv(a:ME):MI:=fun ρ=>(a ρ).bind items
def numbered:Nat→List D→List D
 | _,[]=>[]
 | k,x::xs=>.tup [.int k,x]::numbered (k+1) xs
def Zn1:List D→Res (List D)
 | [x]=>match x with
  | .lst xs=>.ok (numbered 0 xs)
  | _=>.bad
 | _=>.bad
def ZeU(a:MA):MI:=fun ρ=>(a ρ).bind Zn1
def Zbn(lo:Int)(n:Nat):List D:=(List.range n).map fun (k:Nat)=>D.int (lo+(k:Int))
def rng1:List D→Res (List D)
 | [.int j]=>if -1000000000≤j∧j≤1000000000 then .ok (Zbn 0 j.toNat) else .bad
 | _=>.bad
def r1(a:MA):MI:=fun ρ=>(a ρ).bind rng1
abbrev MG:=D→Ev→Res Ev
abbrev MGs:=List D→Ev→Res Ev
def gN(i:Nat):MG:=fun d ρ=>.ok (ρ.set i (.im d))
def gs0:MGs:=fun ds ρ=>match ds with
 | []=>.ok ρ
 | _=>.bad
def gs1(g:MG)(r:MGs):MGs:=fun ds ρ=>match ds with
 | d::ds=>(g d ρ).bind fun ρ'=>r ds ρ'
 | []=>.bad
def gU(n:Nat)(g:MGs):MG:=fun d ρ=>(items d).bind fun xs=>if xs.length=n then g xs ρ else .bad
def imOf:Option Cl→Cl
 | some (.im d)=>.im d
 | _=>.no
def yar(ρ:Ev):List Nat→Ev
 | []=>[]
 | j::r=>imOf ρ[j]?::yar ρ r
def noA:Nat→Ev→Ev
 | 0,e=>e
 | k+1,e=>.no::noA k e
def Zai(g:MG)(t:MB)(e:ME)(ρ0:Ev):List D→Res (List D)
 | []=>.ok []
 | x::r=>(g x ρ0).bind fun ρ1=>(t ρ1).bind fun b=>if b=true then (e ρ1).bind fun y=>(Zai g t e ρ0 r).bind fun ys=>.ok (y::ys) else Zai g t e ρ0 r
def yes:MB:=fun _=>.ok true
def noEx{α:Type}:Res α→Res α
 | .ex _=>.bad
 | r=>r
def comp(it:MI)(own:Nat)(cap:List Nat)(g:MG)(t:MB)(e:ME):ME:=fun ρ=>(it ρ).bind fun xs =>
 if xs.length≤LIM then (noEx (Zai g t e (noA own (yar ρ cap)) xs)).bind fun ys=>.ok (.lst ys) else .bad
inductive Fl where
 | nx (ρ:Ev) | rt (d:D) | bk (ρ:Ev) | ct (ρ:Ev)
abbrev MS:=Ev→Res Fl
def nop:MS:=fun ρ=>.ok (.nx ρ)
def goOn(b:MS):Fl→Res Fl
 | .nx ρ=>b ρ
 | f=>.ok f
def sq(a b:MS):MS:=fun ρ=>(a ρ).bind (goOn b)
def st(i:Nat)(e:ME):MS:=fun ρ=>(e ρ).bind fun d=>.ok (.nx (ρ.set i (.im d)))
def lstO:D→Res (List D)
 | .lst xs=>.ok xs
 | _=>.bad
def stO(i:Nat)(e:ME):MS:=fun ρ=>(e ρ).bind fun d=>(lstO d).bind fun xs=>.ok (.nx (ρ.set i (.ow xs)))
def getO:Option Cl→Res (List D)
 | some (.ow xs)=>.ok xs
 | _=>.bad
def frz(i:Nat)(m:MS):MS:=fun ρ=>(getO ρ[i]?).bind fun xs=>m (ρ.set i (.im (.lst xs)))
def app(i:Nat)(e:ME):MS:=fun ρ=>(getO ρ[i]?).bind fun xs=>(e ρ).bind fun d=>if xs.length<LIM then .ok (.nx (ρ.set i (.ow (xs++[d])))) else .bad
def asg(g:MG)(e:ME):MS:=fun ρ=>(e ρ).bind fun d=>(g d ρ).bind fun ρ'=>.ok (.nx ρ')
def par(i j:Nat)(a b:ME):MS:=fun ρ=>(a ρ).bind fun x=>(b ρ).bind fun y=>.ok (.nx ((ρ.set i (.im x)).set j (.im y)))
def drp(e:ME):MS:=fun ρ=>(e ρ).bind fun _=>.ok (.nx ρ)
def ret(e:ME):MS:=fun ρ=>(e ρ).bind fun d=>.ok (.rt d)
def ifs(t:MB)(a b:MS):MS:=fun ρ=>(t ρ).bind fun x=>if x=true then a ρ else b ρ
def cnt:MS:=fun ρ=>.ok (.ct ρ)
def rse(c:Str)(a:MA):MS:=fun ρ=>(a ρ).bind fun _=>.ex c
def ZhJ:D→Res D
 | .non=>.ok .non
 | .bl b=>.ok (.bl b)
 | .int i=>.ok (.int i)
 | .str x=>.ok (.str x)
 | _=>.bad
def pk(i:Nat)(m:ME):ME:=fun ρ=>(getO ρ[i]?).bind fun xs=>(m (ρ.set i (.im (.lst xs)))).bind ZhJ
def pkB(i:Nat)(m:MB):MB:=fun ρ=>(getO ρ[i]?).bind fun xs=>m (ρ.set i (.im (.lst xs)))
def turn(k:MS):Fl→Res Fl
 | .nx ρ=>k ρ
 | .ct ρ=>k ρ
 | .bk ρ=>.ok (.nx ρ)
 | .rt d=>.ok (.rt d)
def ZbM(g:MG)(b:MS):List D→MS
 | [],ρ=>.ok (.nx ρ)
 | x::r,ρ=>(g x ρ).bind fun ρ1=>(b ρ1).bind (turn (ZbM g b r))
def for_(it:MI)(g:MG)(b:MS):MS:=fun ρ=>(it ρ).bind fun xs=>ZbM g b xs ρ
def whGo(t:MB)(b:MS):Nat→MS
 | 0,_=>.bad
 | n+1,ρ=>(t ρ).bind fun x=>if x=true then (b ρ).bind (turn (whGo t b n)) else .ok (.nx ρ)
def absC:Cl→Nat
 | .im (.int i)=>i.natAbs
 | _=>0
def fuel(ρ:Ev):Nat:=(ρ.map absC).sum+1
def whl(n:Ev→Nat)(t:MB)(b:MS):MS:=fun ρ=>whGo t b (n ρ) ρ
def evF:List D→Nat→Ev
 | [],k=>noA k []
 | d::r,k=>.im d::evF r (k - 1)
def ev0(n:Nat)(ds:List D):Ev:=evF ds n
theorem ZjV:∀(k:Nat) (e:Ev),noA k e=List.replicate k .no++e
 | 0,_=>rfl
 | k+1,e=>by rw [noA,ZjV k e,List.replicate_succ,List.cons_append]
theorem Zhc(ρ:Ev):∀cap:List Nat,yar ρ cap=cap.map fun j=>imOf ρ[j]?
 | []=>rfl
 | j::r=>by rw [yar,Zhc ρ r,VaP]
theorem ZhC:∀(ds:List D) (n:Nat),ev0 n ds=ds.map .im++List.replicate (n - ds.length) .no
 | [],n=>by show noA n []=_;rw [ZjV];simp
 | d::r,n=>by
  have ih:=ZhC r (n - 1)
  show .im d::ev0 (n - 1) r=_
  rw [ih,VaP,List.cons_append,VaO,Nat.sub_sub,Nat.add_comm 1]
def endOf:Fl→Res D
 | .rt d=>.ok d
 | .nx _=>.ok .non
 | _=>.bad
def fn(n:Nat)(b:MS)(ds:List D):Res D:=(b (ev0 n ds)).bind endOf
def roC(it:MI)(own:Nat)(cap:List Nat)(g:MG)(t:MB)(e:ME):Ev→Res (List D):=fun ρ=>(it ρ).bind fun xs=>if xs.length≤LIM then noEx (Zai g t e (noA own (yar ρ cap)) xs) else .bad
def fnO(n:Nat)(m:Ev→Res (List D))(ds:List D):Res D:=(m (ev0 n ds)).bind fun xs=>.ok (.lst xs)
end Dl
namespace L2.Ds
open PySem PySem.Spec PyProof.Rows Dl
mutual
inductive Rp(K:W.Frag)(mg:Str→Option Value)(H:Hp):V→D→Prop
 | non:Rp K mg H .non .non
 | bl (b:Bool):Rp K mg H (.bl b) (.bl b)
 | int (i:Int):Rp K mg H (.int i) (.int i)
 | str (x:Str):Rp K mg H (.str x) (.str x)
 | ty (n:String):Rp K mg H (.ty n) (.ty n)
 | cls {c:Str} {C:Addr} (h:mg c=some (.ref C)):Rp K mg H (.ref C) (.cls c)
 | tup {a:Addr} {xs:List V} {ds:List D} (h:SqT K H a xs) (r:Rps K mg H xs ds):Rp K mg H (.ref a) (.tup ds)
 | lst {a:Addr} {xs:List V} {ds:List D} (h:SqL K H a xs) (r:Rps K mg H xs ds):Rp K mg H (.ref a) (.lst ds)
 | exc {c:Str} {C a:Addr} (m:mg c=some (.ref C)) (h:H a=some (exO a (.ref C))):Rp K mg H (.ref a) (.exc c)
 | ins {c:Str} {C a dx:Addr} {fs:List (Str×V)} {xs:List V} {vs:List D} (m:mg c=some (.ref C)) (h:H a=some (.ins C dx fs)) (o:H dx=some (.own a)) (e:fs.map (·.2)=xs) (r:Rps K mg H xs vs):Rp K mg H (.ref a) (.ins c (fs.map (·.1)) vs)
inductive Rps(K:W.Frag)(mg:Str→Option Value)(H:Hp):List V→List D→Prop
 | nil:Rps K mg H [] []
 | cons {x:V} {xs:List V} {d:D} {ds:List D} (h:Rp K mg H x d) (r:Rps K mg H xs ds):Rps K mg H (x::xs) (d::ds)
end
section
variable{K:W.Frag}{mg:Str→Option Value}{H H':Hp}
theorem ZaD{a:Addr}{xs:List V}(e:Same H H')(h:SqT K H a xs):SqT K H' a xs:=by
 rcases h with (h | ⟨o,h⟩) | h
 ·exact .inl (.inl (e _ _ h))
 ·exact .inl (.inr ⟨o,e _ _ h⟩)
 ·exact .inr h
mutual
theorem Rp.same(e:Same H H'):∀{x:V} {d:D},Rp K mg H x d→Rp K mg H' x d
 | _,_,.non=>.non
 | _,_,.bl b=>.bl b
 | _,_,.int i=>.int i
 | _,_,.str x=>.str x
 | _,_,.ty n=>.ty n
 | _,_,.cls h=>.cls h
 | _,_,.tup h r=>.tup (ZaD e h) (Rps.same e r)
 | _,_,.lst h r=>.lst (e.seq h) (Rps.same e r)
 | _,_,.exc m h=>.exc m (e _ _ h)
 | _,_,.ins m h o q r=>.ins m (e _ _ h) (e _ _ o) q (Rps.same e r)
theorem Rps.same(e:Same H H'):∀{xs:List V} {ds:List D},Rps K mg H xs ds→Rps K mg H' xs ds
 | _,_,.nil=>.nil
 | _,_,.cons h r=>.cons (Rp.same e h) (Rps.same e r)
end
theorem Rps.length:∀{xs:List V} {ds:List D},Rps K mg H xs ds→xs.length=ds.length
 | _,_,.nil=>rfl
 | _,_,.cons _ r=>Vay (·+1) (Rps.length r)
theorem Rps.get:∀{xs:List V} {ds:List D} {i:Nat} {d:D},Rps K mg H xs ds→ds[i]?=some d→∃x,xs[i]?=some x∧Rp K mg H x d
 | _,_,_,_,.nil,e=>by simp at e
 | _,_,0,_,.cons h _,e=>by simp at e;subst e;exact ⟨_,rfl,h⟩
 | _,_,i+1,_,.cons _ r,e=>by
  obtain ⟨x,h1,h2⟩:=Rps.get (i:=i) r (by simpa using e)
  exact ⟨x,by simpa using h1,h2⟩
theorem Rps.app{ys:List V}{es:List D}(q:Rps K mg H ys es):∀{xs:List V} {ds:List D},Rps K mg H xs ds→Rps K mg H (xs++ys) (ds++es)
 | _,_,.nil=>q
 | _,_,.cons h r=>.cons h (Rps.app q r)
theorem Rps.drop:∀{xs:List V} {ds:List D} (n:Nat),Rps K mg H xs ds→Rps K mg H (xs.drop n) (ds.drop n)
 | _,_,0,r=>r
 | _,_,_+1,.nil=>.nil
 | _,_,n+1,.cons _ r=>Rps.drop n r
theorem Rps.take:∀{xs:List V} {ds:List D} (n:Nat),Rps K mg H xs ds→Rps K mg H (xs.take n) (ds.take n)
 | _,_,0,_=>.nil
 | _,_,_+1,.nil=>.nil
 | _,_,n+1,.cons h r=>.cons h (Rps.take n r)
theorem Rps.one{xs:List V}{d:D}(h:Rps K mg H xs [d]):∃x,xs=[x]∧Rp K mg H x d:=by
 cases h with | cons h r=>cases r;exact ⟨_,rfl,h⟩
theorem Rps.two{xs:List V}{d e:D}(h:Rps K mg H xs [d,e]):∃x y,xs=[x,y]∧Rp K mg H x d∧Rp K mg H y e:=by
 cases h with | cons h r=>obtain ⟨_,rfl,g⟩:=Rps.one r;exact ⟨_,_,rfl,h,g⟩
end
structure Gr(F H F' H':Hp):Prop where
 f:Same F F'
 s:Same F' H'
 o:∀a o,F a=none→H a=some o→F' a=none∧H' a=some o
theorem Gr.refl{F H:Hp}(s:Same F H):Gr F H F H:=⟨Same.refl _,s,fun _ _ h1 h2=>⟨h1,h2⟩⟩
theorem Gr.trans{F H F1 H1 F2 H2:Hp}(g:Gr F H F1 H1)(h:Gr F1 H1 F2 H2):Gr F H F2 H2:=⟨g.f.trans h.f,h.s,fun a o h1 h2=>let ⟨q1,q2⟩:=g.o a o h1 h2;h.o a o q1 q2⟩
theorem ZnN{F H:Hp}{p:Addr}{o:HO}(s:Same F H):Same (upd F p o) (upd H p o):=fun b u e=>by
 by_cases hb:b=p
 ·subst hb;rw [Zag] at e ⊢;exact e
 ·rw [Zaf hb] at e ⊢;exact s b u e
theorem Gr.new{F H:Hp}{p:Addr}(s:Same F H)(h:H p=none)(o:HO):Gr F H (upd F p o) (upd H p o) :=
 ⟨Zaz (s.free h) o,ZnN s,fun a u h1 h2=>by
  have ne:a≠p:=Zae h2 h
  rw [Zaf ne,Zaf ne];exact ⟨h1,h2⟩⟩
structure Rep(K:W.Frag)(mg:Str→Option Value)(F0 H0 F H:Hp)(σ:St)(ρ:Ev):Prop where
 g:Gr F0 H0 F H
 len:σ.length=ρ.length
 im:∀(i:Nat) (d:D),ρ[i]?=some (.im d)→∃x,σ[i]?=some (some x)∧Rp K mg F x d
 ow:∀(i:Nat) (ds:List D),ρ[i]?=some (.ow ds)→∃a xs,σ[i]?=some (some (.ref a))∧H0 a=none∧F a=none∧H a=some (.lst xs)∧Rps K mg F xs ds
 ne:∀(i j:Nat) (ds es:List D) (a:Addr),ρ[i]?=some (.ow ds)→ρ[j]?=some (.ow es)→σ[i]?=some (some (.ref a))→σ[j]?=some (some (.ref a))→i=j
section
variable{K:W.Frag}{mg:Str→Option Value}{F0 H0 F H F' H':Hp}{σ:St}{ρ:Ev}
theorem Rep.gr(r:Rep K mg F0 H0 F H σ ρ)(g:Gr F H F' H'):Rep K mg F0 H0 F' H' σ ρ:=by
 refine ⟨r.g.trans g,r.len,fun i d e=>?_,fun i ds e=>?_,r.ne⟩
 ·obtain ⟨x,h1,h2⟩:=r.im i d e
  exact ⟨x,h1,h2.same g.f⟩
 ·obtain ⟨a,xs,h1,h2,h3,h4,h5⟩:=r.ow i ds e
  obtain ⟨q1,q2⟩:=g.o a _ h3 h4
  exact ⟨a,xs,h1,h2,q1,q2,h5.same g.f⟩
theorem Zav{α:Type}{l:List α}{i j:Nat}{x y:α}(h:(l.set i x)[j]?=some y):(i=j∧y=x∧i<l.length)∨(i≠j∧l[j]?=some y):=by
 rw [List.getElem?_set] at h
 by_cases e:i=j
 ·rw [if_pos e] at h
  split at h
  ·exact .inl ⟨e,(Vav h).symm,by assumption⟩
  ·cases h
 ·rw [if_neg e] at h;exact .inr ⟨e,h⟩
theorem ZgH{α:Type}{l:List α}{i:Nat}{x:α}(h:i<l.length):(l.set i x)[i]?=some x:=by
 rw [List.getElem?_set,if_pos rfl,if_pos h]
theorem Zbr{α:Type}{l:List α}{i j:Nat}{x:α}(h:i≠j):(l.set i x)[j]?=l[j]?:=by
 rw [List.getElem?_set,if_neg h]
theorem Rep.set{x:V}{d:D}(r:Rep K mg F0 H0 F H σ ρ)(i:Nat)(h:Rp K mg F x d):Rep K mg F0 H0 F H (σ.set i (some x)) (ρ.set i (.im d)):=by
 refine ⟨r.g,by rw [VbE,VbE];exact r.len,fun j e q=>?_,fun j ds q=>?_,fun j k ds es a q1 q2 q3 q4=>?_⟩
 ·rcases Zav q with ⟨rfl,z,l⟩ | ⟨hij,q⟩
  ·cases z
   exact ⟨x,ZgH (by rw [r.len];exact l),h⟩
  ·rw [Zbr hij];exact r.im j e q
 ·rcases Zav q with ⟨_,z,_⟩ | ⟨hij,q⟩
  ·cases z
  ·rw [Zbr hij];exact r.ow j ds q
 ·rcases Zav q1 with ⟨_,z,_⟩ | ⟨h1,q1⟩
  ·cases z
  ·rcases Zav q2 with ⟨_,z,_⟩ | ⟨h2,q2⟩
   ·cases z
   ·rw [Zbr h1] at q3
    rw [Zbr h2] at q4
    exact r.ne j k ds es a q1 q2 q3 q4
theorem Rep.own{a:Addr}{xs:List V}{ds:List D}(r:Rep K mg F0 H0 F H σ ρ)(i:Nat)(hn:H a=none)(h:Rps K mg F xs ds):Rep K mg F0 H0 F (upd H a (.lst xs)) (σ.set i (some (.ref a))) (ρ.set i (.ow ds)):=by
 have fa:F a=none:=r.g.s.free hn
 have h0a:H0 a=none:=by
  cases q:H0 a with
  | none=>rfl
  | some o =>
   cases q2:F0 a with
   | none=>rw [(r.g.o a o q2 q).2] at hn;cases hn
   | some u=>rw [r.g.f a u q2] at fa;cases fa
 have nea:∀{j:Nat} {es:List D} {b:Addr},ρ[j]?=some (.ow es)→σ[j]?=some (some (.ref b))→b≠a:=fun {j es b} q1 q2=>by
  obtain ⟨b',xs',h1,_,_,h4,_⟩:=r.ow j es q1
  rw [q2] at h1;cases h1
  exact Zae h4 hn
 refine ⟨⟨r.g.f,fun b o e=>?_,fun b o e1 e2=>?_⟩,by rw [VbE,VbE];exact r.len,fun j e q=>?_,fun j es q=>?_,fun j k es ts b q1 q2 q3 q4=>?_⟩
 ·rw [Zaf (Zae e fa)];exact r.g.s b o e
 ·rw [Zaf (Zae e2 h0a)];exact r.g.o b o e1 e2
 ·rcases Zav q with ⟨_,z,_⟩ | ⟨hij,q⟩
  ·cases z
  ·rw [Zbr hij];exact r.im j e q
 ·rcases Zav q with ⟨rfl,z,l⟩ | ⟨hij,q⟩
  ·cases z
   exact ⟨a,xs,ZgH (by rw [r.len];exact l),h0a,fa,Zag,h⟩
  ·rw [Zbr hij]
   obtain ⟨b,ys,h1,h2,h3,h4,h5⟩:=r.ow j es q
   exact ⟨b,ys,h1,h2,h3,by rw [Zaf (Zae h4 hn)];exact h4,h5⟩
 ·rcases Zav q1 with ⟨rfl,_,l1⟩ | ⟨h1,q1⟩
  ·rcases Zav q2 with ⟨rfl,_,_⟩ | ⟨h2,q2⟩
   ·rfl
   ·rw [ZgH (by rw [r.len];exact l1)] at q3
    rw [Zbr h2] at q4
    cases q3
    exact absurd rfl (nea q2 q4)
  ·rcases Zav q2 with ⟨rfl,_,l2⟩ | ⟨h2,q2⟩
   ·rw [ZgH (by rw [r.len];exact l2)] at q4
    rw [Zbr h1] at q3
    cases q4
    exact absurd rfl (nea q1 q3)
   ·rw [Zbr h1] at q3
    rw [Zbr h2] at q4
    exact r.ne j k es ts b q1 q2 q3 q4
theorem Rep.app{i:Nat}{x:V}{d:D}{ds:List D}{a:Addr}{xs:List V}(r:Rep K mg F0 H0 F H σ ρ)(e:ρ[i]?=some (.ow ds))(e2:σ[i]?=some (some (.ref a)))(e3:H a=some (.lst xs))(e4:H0 a=none)(e5:F a=none)(hr:Rps K mg F xs ds)(h:Rp K mg F x d) :
  Rep K mg F0 H0 F (upd H a (.lst (xs++[x]))) σ (ρ.set i (.ow (ds++[d]))):=by
 have li:i<ρ.length:=(Vau.mp e).1
 refine ⟨⟨r.g.f,fun b o q=>?_,fun b o q1 q2=>?_⟩,by rw [VbE];exact r.len,fun j u q=>?_,fun j es q=>?_,fun j k es ts b q1 q2 q3 q4=>?_⟩
 ·rw [Zaf (Zae q e5)];exact r.g.s b o q
 ·rw [Zaf (Zae q2 e4)];exact r.g.o b o q1 q2
 ·rcases Zav q with ⟨_,z,_⟩ | ⟨_,q⟩
  ·cases z
  ·exact r.im j u q
 ·rcases Zav q with ⟨rfl,z,l⟩ | ⟨hij,q⟩
  ·cases z
   exact ⟨a,_,e2,e4,e5,Zag,Rps.app (.cons h .nil) hr⟩
  ·obtain ⟨b,ys,h1,h2,h3,h4,h5⟩:=r.ow j es q
   have nb:b≠a:=by
    rintro rfl
    exact hij (r.ne i j ds es b e q e2 h1)
   exact ⟨b,ys,h1,h2,h3,by rw [Zaf nb];exact h4,h5⟩
 ·have o1:∃es',ρ[j]?=some (.ow es'):=by
   rcases Zav q1 with ⟨rfl,_,_⟩ | ⟨_,q⟩
   ·exact ⟨_,e⟩
   ·exact ⟨_,q⟩
  have o2:∃es',ρ[k]?=some (.ow es'):=by
   rcases Zav q2 with ⟨rfl,_,_⟩ | ⟨_,q⟩
   ·exact ⟨_,e⟩
   ·exact ⟨_,q⟩
  obtain ⟨_,o1⟩:=o1
  obtain ⟨_,o2⟩:=o2
  exact r.ne j k _ _ b o1 o2 q3 q4
theorem Rep.frz{i:Nat}{ds:List D}(r:Rep K mg F0 H0 F H σ ρ)(e:ρ[i]?=some (.ow ds)):∃F',Same F F'∧Rep K mg F0 H0 F' H σ (ρ.set i (.im (.lst ds))):=by
 obtain ⟨a,xs,e2,e4,e5,e3,hr⟩:=r.ow i ds e
 have sF:Same F (upd F a (.lst xs)):=Zaz e5 _
 refine ⟨upd F a (.lst xs),sF,⟨r.g.f.trans sF,fun b o q=>?_,fun b o q1 q2=>?_⟩,by rw [VbE];exact r.len,fun j u q=>?_,fun j es q=>?_,fun j k es ts b q1 q2 q3 q4=>?_⟩
 ·by_cases hb:b=a
  ·subst hb;rw [Zag] at q;cases q;exact e3
  ·rw [Zaf hb] at q;exact r.g.s b o q
 ·rw [Zaf (Zae q2 e4)];exact r.g.o b o q1 q2
 ·rcases Zav q with ⟨rfl,z,_⟩ | ⟨_,q⟩
  ·cases z
   exact ⟨.ref a,e2,.lst (SqL.of Zag) (hr.same sF)⟩
  ·obtain ⟨x,h1,h2⟩:=r.im j u q
   exact ⟨x,h1,h2.same sF⟩
 ·rcases Zav q with ⟨_,z,_⟩ | ⟨hij,q⟩
  ·cases z
  ·obtain ⟨b,ys,h1,h2,h3,h4,h5⟩:=r.ow j es q
   have nb:b≠a:=by
    rintro rfl
    exact hij (r.ne i j ds es b e q e2 h1)
   exact ⟨b,ys,h1,h2,by rw [Zaf nb];exact h3,h4,h5.same sF⟩
 ·rcases Zav q1 with ⟨_,z,_⟩ | ⟨_,q1⟩
  ·cases z
  ·rcases Zav q2 with ⟨_,z,_⟩ | ⟨_,q2⟩
   ·cases z
   ·exact r.ne j k es ts b q1 q2 q3 q4
end
def Ans{α β:Type}(mg:Str→Option Value)(E:XK)(R:Hp→β→α→Prop)(F H:Hp)(r:Res α)(w:(β→Hp→Prop)→Prop):Prop :=
 match r with
 | .ok a=>∀Q:β→Hp→Prop,(∀F' H' b,Gr F H F' H'→R F' b a→Q b H')→w Q
 | .ex c=>∀Q:β→Hp→Prop,(∀F' H' C,Gr F H F' H'→mg c=some (.ref C)→E (.ref C) none H')→w Q
 | .bad=>True
section
variable{α β γ δ:Type}{mg:Str→Option Value}{E:XK}{R:Hp→β→α→Prop}{R':Hp→δ→γ→Prop}{F H:Hp}
theorem Ans.ret{a:α}{b:β}{w:(β→Hp→Prop)→Prop}(s:Same F H)(r:R F b a)(h:∀Q:β→Hp→Prop,Q b H→w Q):Ans mg E R F H (.ok a) w:=fun Q q=>h Q (q F H b (.refl s) r)
theorem Ans.bindE{r:Res α}{w:(β→Hp→Prop)→Prop}{k:α→Res γ}{w':β→Hp→(δ→Hp→Prop)→Prop}(h1:Ans mg E R F H r w)(h2:∀a,r=.ok a→∀F1 H1 b,Gr F H F1 H1→R F1 b a→Ans mg E R' F1 H1 (k a) (w' b H1)) :
  Ans mg E R' F H (r.bind k) (fun Q=>w fun b H1=>w' b H1 Q):=by
 cases r with
 | ok a =>
  show Ans mg E R' F H (k a) _
  have h2':=h2 a rfl
  generalize k a=r2 at h2'
  cases r2 with
  | ok d=>exact fun Q q=>h1 _ fun F1 H1 b g rb=>h2' F1 H1 b g rb Q fun F2 H2 e g2 re=>q F2 H2 e (g.trans g2) re
  | ex c=>exact fun Q q=>h1 _ fun F1 H1 b g rb=>h2' F1 H1 b g rb Q fun F2 H2 C g2 hc=>q F2 H2 C (g.trans g2) hc
  | bad=>trivial
 | ex c=>exact fun Q q=>h1 _ q
 | bad=>trivial
theorem Ans.bind{r:Res α}{w:(β→Hp→Prop)→Prop}{k:α→Res γ}{w':β→Hp→(δ→Hp→Prop)→Prop}(h1:Ans mg E R F H r w)(h2:∀F1 H1 b a,Gr F H F1 H1→R F1 b a→Ans mg E R' F1 H1 (k a) (w' b H1)) :
  Ans mg E R' F H (r.bind k) (fun Q=>w fun b H1=>w' b H1 Q):=h1.bindE fun a _ F1 H1 b g q=>h2 F1 H1 b a g q
end
def AnsS(K:W.Frag)(mg:Str→Option Value)(E:XK)(F0 H0 F:Hp)(r:Res Fl)(w:Ends→Prop):Prop :=
 match r with
 | .ok (.nx ρ)=>∀D:Ends,(∀F' H' σ',Same F F'→Rep K mg F0 H0 F' H' σ' ρ→D.nx σ' H')→w D
 | .ok (.bk ρ)=>∀D:Ends,(∀F' H' σ',Same F F'→Rep K mg F0 H0 F' H' σ' ρ→D.bk σ' H')→w D
 | .ok (.ct ρ)=>∀D:Ends,(∀F' H' σ',Same F F'→Rep K mg F0 H0 F' H' σ' ρ→D.ct σ' H')→w D
 | .ok (.rt d)=>∀D:Ends,(∀F' H' x,Gr F0 H0 F' H'→Rp K mg F' x d→D.rt x H')→w D
 | .ex c=>∀D:Ends,(∀F' H' C,Gr F0 H0 F' H'→mg c=some (.ref C)→E (.ref C) none H')→w D
 | .bad=>True
abbrev RB:Hp→Bool→Bool→Prop:=fun _ b b'=>b=b'
abbrev RO:Hp→Option Int→Option Int→Prop:=fun _ b b'=>b=b'
def SE(K:W.Frag)(mg:Str→Option Value)(E:XK)(t:TE)(m:ME):Prop:=∀F0 H0 F H σ ρ,Rep K mg F0 H0 F H σ ρ→Ans mg E (Rp K mg) F H (m ρ) (t σ H)
def STt(K:W.Frag)(mg:Str→Option Value)(E:XK)(t:TT)(m:MB):Prop:=∀F0 H0 F H σ ρ,Rep K mg F0 H0 F H σ ρ→Ans mg E RB F H (m ρ) (t σ H)
def SA(K:W.Frag)(mg:Str→Option Value)(E:XK)(t:TA)(m:MA):Prop:=∀F0 H0 F H σ ρ,Rep K mg F0 H0 F H σ ρ→Ans mg E (Rps K mg) F H (m ρ) (t σ H)
def SO(K:W.Frag)(mg:Str→Option Value)(E:XK)(t:TO)(m:Ev→Res (Option Int)):Prop:=∀F0 H0 F H σ ρ,Rep K mg F0 H0 F H σ ρ→Ans mg E RO F H (m ρ) (t σ H)
def SS(K:W.Frag)(mg:Str→Option Value)(E:XK)(t:TS)(m:MS):Prop:=∀F0 H0 F H σ ρ,Rep K mg F0 H0 F H σ ρ→AnsS K mg E F0 H0 F (m ρ) (fun D=>t D σ H)
def AnsG(K:W.Frag)(mg:Str→Option Value)(F0 H0 F:Hp)(n:Nat)(σ:St)(r:Res Ev)(w:(St→Hp→Prop)→Prop):Prop :=
 match r with
 | .ok ρ'=>∀Q:St→Hp→Prop,(∀F' H' σ',Same F F'→Rep K mg F0 H0 F' H' σ' ρ'→σ'.drop n=σ.drop n→Q σ' H')→w Q
 | _=>True
def SG(K:W.Frag)(mg:Str→Option Value)(n:Nat)(t:TG)(g:MG):Prop:=∀F0 H0 F H σ ρ x d,Rep K mg F0 H0 F H σ ρ→Rp K mg F x d→AnsG K mg F0 H0 F n σ (g d ρ) (t x σ H)
def SGs(K:W.Frag)(mg:Str→Option Value)(n:Nat)(t:TGs)(g:MGs):Prop:=∀F0 H0 F H σ ρ xs ds,Rep K mg F0 H0 F H σ ρ→Rps K mg F xs ds→AnsG K mg F0 H0 F n σ (g ds ρ) (t xs σ H)
def ItOk(K:W.Frag)(mg:Str→Option Value)(F:Hp)(J:It)(ds:List D):Prop:=∀F' H',Same F F'→Same F' H'→∀i:Nat,
 (∀d,ds[i]?=some d→J.go i H'∧∀x H'',J.yld i H' x H''→∃F'',Gr F' H' F'' H''∧Rp K mg F'' x d)∧(ds.length≤i→J.stop i H')
def SI(K:W.Frag)(mg:Str→Option Value)(E:XK)(t:TI)(m:MI):Prop:=∀F0 H0 F H σ ρ,Rep K mg F0 H0 F H σ ρ→Ans mg E (ItOk K mg) F H (m ρ) (t σ H)
def OpD(K:W.Frag)(mg:Str→Option Value)(r:R2)(f:D→D→Res D):Prop:=∀(E:XK) F H x y dx dy,Same F H→Rp K mg F x dx→Rp K mg F y dy→Ans mg E (Rp K mg) F H (f dx dy) (r x y H)
def UnD(K:W.Frag)(mg:Str→Option Value)(r:V→Hp→VK→Prop)(f:D→Res D):Prop:=∀(E:XK) F H x dx,Same F H→Rp K mg F x dx→Ans mg E (Rp K mg) F H (f dx) (r x H)
def CallD(K:W.Frag)(mg:Str→Option Value)(r:List V→Hp→VK→Prop)(f:List D→Res D):Prop:=∀(E:XK) F H xs ds,Same F H→Rps K mg F xs ds→Ans mg E (Rp K mg) F H (f ds) (r xs H)
section
variable{K:W.Frag}{mg:Str→Option Value}{E:XK}{ta tb tc:TE}{ma mb mc:ME}{sa sb:TT}{na nb:MB}
theorem Rep.ss{F0 H0 F H:Hp}{σ:St}{ρ:Ev}(r:Rep K mg F0 H0 F H σ ρ):Same F H:=r.g.s
theorem se_v(i:Nat):SE K mg E (tVar i) (v i):=by
 intro F0 H0 F H σ ρ r
 unfold v getC
 split
 ·next d h =>
  obtain ⟨x,h1,h2⟩:=r.im i d h
  exact .ret r.ss h2 fun Q q=>⟨x,h1,q⟩
 ·trivial
theorem se_c{x:V}{d:D}(h:∀F,Rp K mg F x d):SE K mg E (tC x) (c d):=fun _ _ F _ _ _ r=>.ret r.ss (h F) fun _ q=>q
theorem ZmJ{r:R2}{f:D→D→Res D}(hf:OpD K mg r f)(ha:SE K mg E ta ma)(hb:SE K mg E tb mb):SE K mg E (tOp r ta tb) (o2 f ma mb):=by
 intro F0 H0 F H σ ρ rr
 refine (ha F0 H0 F H σ ρ rr).bind fun F1 H1 x dx g1 rx=>?_
 refine (hb F0 H0 F1 H1 σ ρ (rr.gr g1)).bind fun F2 H2 y dy g2 ry=>?_
 exact hf E F2 H2 x y dx dy g2.s (rx.same g2.f) ry
theorem ZsX{r:V→Hp→VK→Prop}{f:D→Res D}(hf:UnD K mg r f)(ha:SE K mg E ta ma):SE K mg E (tUn r ta) (o1 f ma):=by
 intro F0 H0 F H σ ρ rr
 exact (ha F0 H0 F H σ ρ rr).bind fun F1 H1 x dx g1 rx=>hf E F1 H1 x dx g1.s rx
theorem Zjv:SA K mg E tNil yaa:=fun _ _ _ _ _ _ r=>.ret r.ss .nil fun _ q=>q
theorem Zlt{t:TA}{m:MA}(ha:SE K mg E ta ma)(hr:SA K mg E t m):SA K mg E (Zbv ta t) (Zaa ma m):=by
 intro F0 H0 F H σ ρ rr
 refine (ha F0 H0 F H σ ρ rr).bind fun F1 H1 x dx g1 rx=>?_
 refine (hr F0 H0 F1 H1 σ ρ (rr.gr g1)).bind fun F2 H2 xs ds g2 rs=>?_
 exact .ret g2.s (.cons (rx.same g2.f) rs) fun _ q=>q
theorem Zsp{r:List V→Hp→VK→Prop}{f:List D→Res D}{t:TA}{m:MA}(hf:CallD K mg r f)(ha:SA K mg E t m):SE K mg E (tCB r t) (on f m):=by
 intro F0 H0 F H σ ρ rr
 exact (ha F0 H0 F H σ ρ rr).bind fun F1 H1 x dx g1 rx=>hf E F1 H1 x dx g1.s rx
theorem ZfE{α:Type}{R:Hp→V→α→Prop}{F H:Hp}{a:α}{o:HO}{w:VK→Prop}(s:Same F H)(hr:∀p,H p=none→R (upd F p o) (.ref p) a)(h:∀Q:VK,(∀p,H p=none→Q (.ref p) (upd H p o))→w Q):Ans mg E R F H (.ok a) w :=
 fun Q q=>h Q fun p hp=>q (upd F p o) (upd H p o) (.ref p) (.new s hp o) (hr p hp)
def SAn(n:Nat)(m:MA):Prop:=∀ρ ds,m ρ=.ok ds→ds.length=n
theorem ZkD:SAn 0 yaa:=fun ρ ds h=>by cases h;rfl
theorem ZnO{n:Nat}{m:MA}(h:SAn n m):SAn (n+1) (Zaa ma m):=fun ρ ds e=>by
 unfold Zaa at e
 cases ea:ma ρ with
 | ok x =>
  rw [ea] at e
  cases em:m ρ with
  | ok xs =>
   have e':(m ρ).bind (fun xs=>Res.ok (x::xs))=.ok ds:=e
   rw [em] at e'
   have e2:Res.ok (x::xs)=.ok ds:=e'
   cases e2
   exact Vay (·+1) (h ρ xs em)
  | ex c =>
   have e':(m ρ).bind (fun xs=>Res.ok (x::xs))=.ok ds:=e
   rw [em] at e';cases e'
  | bad =>
   have e':(m ρ).bind (fun xs=>Res.ok (x::xs))=.ok ds:=e
   rw [em] at e';cases e'
 | ex c=>rw [ea] at e;cases e
 | bad=>rw [ea] at e;cases e
theorem Zr8{t:TA}{m:MA}{n:Nat}(ha:SA K mg E t m)(hl:SAn n m)(hn:n≤sizeLine):SE K mg E (tTup t) (mtp m):=by
 intro F0 H0 F H σ ρ rr
 have h:=ha F0 H0 F H σ ρ rr
 unfold mtp
 cases e:m ρ with
 | ok ds =>
  rw [e] at h
  exact fun Q q=>h _ fun F' H' xs g rs=>⟨by rw [rs.length,hl ρ ds e];exact hn,fun p hp=>q _ _ _ (g.trans (.new g.s hp _)) (.tup (SqT.of Zag) (rs.same (Zaz (g.s.free hp) _)))⟩
 | ex c =>
  rw [e] at h
  exact fun Q q=>h _ q
 | bad=>trivial
theorem Zq9{t:TA}{m:MA}{n:Nat}(ha:SA K mg E t m)(hl:SAn n m)(hn:n≤sizeLine):SE K mg E (tLst t) (mls m):=by
 intro F0 H0 F H σ ρ rr
 have h:=ha F0 H0 F H σ ρ rr
 unfold mls
 cases e:m ρ with
 | ok ds =>
  rw [e] at h
  exact fun Q q=>h _ fun F' H' xs g rs=>⟨by rw [rs.length,hl ρ ds e];exact hn,fun p hp=>q _ _ _ (g.trans (.new g.s hp _)) (.lst (SqL.of Zag) (rs.same (Zaz (g.s.free hp) _)))⟩
 | ex c =>
  rw [e] at h
  exact fun Q q=>h _ q
 | bad=>trivial
theorem st_b(ha:SE K mg E ta ma):STt K mg E (L2.tB ta) (trb ma):=by
 intro F0 H0 F H σ ρ rr
 refine (ha F0 H0 F H σ ρ rr).bind fun F1 H1 x dx g1 rx=>?_
 cases dx with
 | bl b=>cases rx;exact .ret g1.s rfl fun Q q=>⟨b,rfl,q⟩
 | _=>trivial
theorem ZiC(ha:SE K mg E ta ma):STt K mg E (Zff ta) (trb ma):=st_b ha
theorem Zrw(ha:STt K mg E sa na)(hb:STt K mg E sb nb):STt K mg E (tAnd sa sb) (bAnd na nb):=by
 intro F0 H0 F H σ ρ rr
 refine (ha F0 H0 F H σ ρ rr).bind fun F1 H1 x dx g1 rx=>?_
 cases (show x=dx from rx)
 cases x with
 | true =>
  have z:=hb F0 H0 F1 H1 σ ρ (rr.gr g1)
  simp only [Vbb];exact z
 | false =>
  simp only [Vbu,Vba]
  exact Ans.ret (R:=RB) g1.s rfl fun Q q=>q
theorem Zt3(ha:STt K mg E sa na)(hb:STt K mg E sb nb):STt K mg E (tOr sa sb) (bOr na nb):=by
 intro F0 H0 F H σ ρ rr
 refine (ha F0 H0 F H σ ρ rr).bind fun F1 H1 x dx g1 rx=>?_
 cases (show x=dx from rx)
 cases x with
 | true =>
  simp only [Vbb]
  exact Ans.ret (R:=RB) g1.s rfl fun Q q=>q
 | false =>
  have z:=hb F0 H0 F1 H1 σ ρ (rr.gr g1)
  simp only [Vbu,Vba];exact z
theorem Zrn(ha:STt K mg E sa na):STt K mg E (tNot sa) (bNot na):=by
 intro F0 H0 F H σ ρ rr
 refine (ha F0 H0 F H σ ρ rr).bind fun F1 H1 x dx g1 rx=>?_
 cases (show x=dx from rx)
 exact Ans.ret (R:=RB) g1.s rfl fun Q q=>q
theorem Zrq(ha:SE K mg E ta ma)(hb:SE K mg E tb mb):SE K mg E (ZqJ ta tb) (eAnd ma mb):=by
 intro F0 H0 F H σ ρ rr
 have z:=(st_b ha F0 H0 F H σ ρ rr).bind (R':=Rp K mg) (k:=fun x=>if x=true then mb ρ else .ok (D.bl false)) (w':=fun c H1 Q=>if c=true then tb σ H1 Q else Q (V.bl false) H1) fun F1 H1 x dx g1 rx=>by
  cases (show x=dx from rx)
  cases x with
  | true =>
   have z:=hb F0 H0 F1 H1 σ ρ (rr.gr g1)
   simp only [Vbb];exact z
  | false =>
   simp only [Vbu,Vba]
   exact Ans.ret (R:=Rp K mg) g1.s (.bl false) fun Q q=>q
 exact z
theorem ZsC(ha:SE K mg E ta ma):SE K mg E (Zqd ta) (eNot ma):=by
 intro F0 H0 F H σ ρ rr
 exact (st_b ha F0 H0 F H σ ρ rr).bind (R':=Rp K mg) (k:=fun x=>.ok (D.bl (!x))) (w':=fun c H1 Q=>Q (V.bl (!c)) H1) fun F1 H1 x dx g1 rx=>by
  cases (show x=dx from rx)
  exact Ans.ret (R:=Rp K mg) g1.s (.bl _) fun Q q=>q
theorem Ztv(hc:STt K mg E sa na)(ha:SE K mg E ta ma)(hb:SE K mg E tb mb):SE K mg E (tIf sa ta tb) (ife na ma mb):=by
 intro F0 H0 F H σ ρ rr
 refine (hc F0 H0 F H σ ρ rr).bind fun F1 H1 x dx g1 rx=>?_
 cases (show x=dx from rx)
 cases x with
 | true =>
  have z:=ha F0 H0 F1 H1 σ ρ (rr.gr g1)
  simp only [Vbb];exact z
 | false =>
  have z:=hb F0 H0 F1 H1 σ ρ (rr.gr g1)
  simp only [Vbu,Vba];exact z
end
section
variable{K:W.Frag}{mg:Str→Option Value}{E:XK}
theorem Zoi{r:R2}{f:Int→Int→Res D}(h:∀(E:XK) F H a b,Same F H→Ans mg E (Rp K mg) F H (f a b) (r (.int a) (.int b) H)):OpD K mg r (ii f):=by
 intro E F H x y dx dy s rx ry
 unfold ii
 split
 ·cases rx;cases ry;exact h E F H _ _ s
 ·trivial
theorem Zj0{C:Int→Int→Prop}{g:Int→Int→V}{f:Int→Int→Res D}(h:∀a b,(∃d,f a b=.ok d∧C a b∧∀F,Rp K mg F (g a b) d)∨f a b=.bad):OpD K mg (rI C g) (ii f):=by
 refine Zoi fun E F H a b s=>?_
 rcases h a b with ⟨d,e,hc,hr⟩ | e
 ·rw [e];exact .ret s (hr F) fun Q q=>⟨a,b,rfl,rfl,hc,q⟩
 ·rw [e];trivial
theorem Zh0{g:Int→Int→V}{f:Int→Int→Res D}(h:∀a b,(∃d,f a b=.ok d∧∀F,Rp K mg F (g a b) d)∨f a b=.bad):OpD K mg (rI0 g) (ii f):=by
 refine Zoi fun E F H a b s=>?_
 rcases h a b with ⟨d,e,hr⟩ | e
 ·rw [e];exact .ret s (hr F) fun Q q=>⟨a,b,rfl,rfl,q⟩
 ·rw [e];trivial
theorem ZoO:OpD K mg (rI0 fun i j=>.int (i - j)) dSub:=Zh0 fun _ _=>.inl ⟨_,rfl,fun _=>.int _⟩
theorem Zon:OpD K mg (rI0 fun i j=>.bl (decide (i<j))) dLt:=Zh0 fun _ _=>.inl ⟨_,rfl,fun _=>.bl _⟩
theorem Zoh:OpD K mg (rI0 fun i j=>.bl (decide (i≤j))) dLe:=Zh0 fun _ _=>.inl ⟨_,rfl,fun _=>.bl _⟩
theorem Zsk:OpD K mg (rI0 fun i j=>.bl (decide (j<i))) dGt:=Zh0 fun _ _=>.inl ⟨_,rfl,fun _=>.bl _⟩
theorem Zoe:OpD K mg (rI0 fun i j=>.bl (decide (j≤i))) dGe:=Zh0 fun _ _=>.inl ⟨_,rfl,fun _=>.bl _⟩
theorem ZoS:OpD K mg (rI (fun _ j=>j≠0) fun i j=>.int (i.fmod j)) yaz:=Zj0 fun a b=>by
 unfold iMod
 by_cases h1:0<b
 ·rw [if_pos h1]
  exact .inl ⟨_,rfl,by omega,fun _=>by rw [Int.fmod_eq_emod_of_nonneg a (by omega)];exact .int _⟩
 ·rw [if_neg h1]
  by_cases h2:b=0
  ·rw [if_pos h2];exact .inr rfl
  ·rw [if_neg h2];exact .inl ⟨_,rfl,h2,fun _=>.int _⟩
theorem ZqX:OpD K mg (rI Zqr fun i j=>.int (i.fdiv j)) ya8:=Zj0 fun a b=>by
 unfold iDiv
 by_cases h0:b.natAbs.log2<9000
 ·rw [if_pos h0]
  by_cases h1:0<b
  ·rw [if_pos h1]
   exact .inl ⟨_,rfl,⟨by omega,h0⟩,fun _=>by rw [VaM a (by omega)];exact .int _⟩
  ·rw [if_neg h1]
   by_cases h2:b=0
   ·rw [if_pos h2];exact .inr rfl
   ·rw [if_neg h2];exact .inl ⟨_,rfl,⟨h2,h0⟩,fun _=>.int _⟩
 ·rw [if_neg h0];exact .inr rfl
theorem Zqc:OpD K mg (rI CPow fun i j=>.int (i^j.toNat)) dPow:=Zj0 fun a b=>by
 unfold iPow
 by_cases h:0≤b∧b≤1000000∧a.natAbs<2^64
 ·rw [if_pos h];exact .inl ⟨_,rfl,h,fun _=>.int _⟩
 ·rw [if_neg h];exact .inr rfl
theorem Zpf:OpD K mg (rI CPow fun i j=>.int (i*2^j.toNat)) dShl:=Zj0 fun a b=>by
 unfold iShl
 by_cases h:0≤b∧b≤1000000∧a.natAbs<2^64
 ·rw [if_pos h];exact .inl ⟨_,rfl,h,fun _=>.int _⟩
 ·rw [if_neg h];exact .inr rfl
theorem Zqe:OpD K mg (rI (fun _ j=>0≤j) fun i j=>.int (i/2^j.toNat)) dShr:=Zj0 fun a b=>by
 unfold iShr
 by_cases h:0≤b
 ·rw [if_pos h];exact .inl ⟨_,rfl,h,fun _=>.int _⟩
 ·rw [if_neg h];exact .inr rfl
theorem Zp3{r:V→Hp→VK→Prop}(h:∀i H Q,Q (.int (-i)) H→r (.int i) H Q):UnD K mg r dNeg:=by
 intro E F H x dx s rx
 unfold dNeg
 split
 ·cases rx;exact .ret s (.int _) fun Q q=>h _ _ _ q
 ·trivial
def ZrV(K:W.Frag):R2:=fun x y H Q=>∃l b xs zs,x=.ref l∧y=.ref b∧SqL K H l xs∧SqL K H b zs∧xs.length+zs.length≤sizeLine∧∀p,H p=none→Q (.ref p) (upd H p (.lst (xs++zs)))
def ZsI(K:W.Frag):R2:=fun x y H Q=>∃a b xs ys,x=.ref a∧y=.ref b∧SqT K H a xs∧SqT K H b ys∧xs.length+ys.length≤sizeLine ∧
 (xs=[]→Q (.ref b) H)∧(xs≠[]→ys=[]→Q (.ref a) H)∧(xs≠[]→ys≠[]→∀p,H p=none→Q (.ref p) (upd H p (.tup (xs++ys))))
def Zt8:R2:=fun x y H Q=>∃i j:Str,x=.str i∧y=.str j∧i.length+j.length≤sizeLine∧Q (.str (i++j)) H
def ZpR(K:W.Frag):R2:=fun x y H Q=>rI0 (fun i j=>.int (i+j)) x y H Q∨ZrV K x y H Q∨ZsI K x y H Q∨Zt8 x y H Q
theorem ZdI{n:Nat}(h:n≤LIM):n≤sizeLine:=Vak h (by decide)
theorem ZqH:OpD K mg (ZpR K) yaA:=by
 intro E F H x y dx dy s rx ry
 unfold yaA
 split
 ·cases rx;cases ry
  exact .ret s (.int _) fun Q q=>.inl ⟨_,_,rfl,rfl,q⟩
 ·next as bs =>
  by_cases h:as.length+bs.length≤LIM
  ·rw [if_pos h]
   cases rx with
   | lst ha ra =>
    cases ry with
    | lst hb rb =>
     refine ZfE s (o:=.lst _) (fun p hp=>.lst (SqL.of Zag) ((Rps.app rb ra).same (Zaz (s.free hp) _))) fun Q q=>.inr (.inl ⟨_,_,_,_,rfl,rfl,s.seq ha,s.seq hb,?_,q⟩)
     rw [ra.length,rb.length];exact ZdI h
  ·rw [if_neg h];trivial
 ·next as bs =>
  by_cases h:as.length+bs.length≤LIM
  ·rw [if_pos h]
   cases rx with
   | tup ha ra =>
    cases ry with
    | tup hb rb =>
     rename_i a xs b ys
     have hl:xs.length+ys.length≤sizeLine:=by rw [ra.length,rb.length];exact ZdI h
     intro Q q
     refine .inr (.inr (.inl ⟨a,b,xs,ys,rfl,rfl,ZaD s ha,ZaD s hb,hl,fun e=>?_,fun _ e=>?_,fun _ _ p hp=>?_⟩))
     ·subst e
      cases ra
      exact q F H _ (.refl s) (.tup hb rb)
     ·subst e
      cases rb
      rw [VaV] at q
      exact q F H _ (.refl s) (.tup ha ra)
     ·exact q _ _ _ (.new s hp _) (.tup (SqT.of Zag) ((Rps.app rb ra).same (Zaz (s.free hp) _)))
  ·rw [if_neg h];trivial
 ·next a b =>
  by_cases h:a.length+b.length≤LIM
  ·rw [if_pos h]
   cases rx;cases ry
   exact .ret s (.str _) fun Q q=>.inr (.inr (.inr ⟨_,_,rfl,rfl,ZdI h,q⟩))
  ·rw [if_neg h];trivial
 ·trivial
theorem ZoG{ta:TE}{ma:ME}(ha:SE K mg E ta ma):SE K mg E (tOp (fun x y H Q=>y=.non∧Q (.bl (decide (x=.non))) H) ta (tC .non)) (o1 dIsN ma):=by
 intro F0 H0 F H σ ρ rr
 refine (ha F0 H0 F H σ ρ rr).bind fun F1 H1 x dx g1 rx=>?_
 have e:decide (x=V.non)=ZdX dx:=by cases rx<;>rfl
 exact .ret g1.s (.bl _) fun Q q=>⟨rfl,by rw [e];exact q⟩
theorem ZqC{ta:TE}{ma:ME}(ha:SE K mg E ta ma):SE K mg E (tOp (fun x y H Q=>y=.non∧Q (.bl (!decide (x=.non))) H) ta (tC .non)) (o1 ZkI ma):=by
 intro F0 H0 F H σ ρ rr
 refine (ha F0 H0 F H σ ρ rr).bind fun F1 H1 x dx g1 rx=>?_
 have e:decide (x=V.non)=ZdX dx:=by cases rx<;>rfl
 exact .ret g1.s (.bl _) fun Q q=>⟨rfl,by rw [e];exact q⟩
theorem Zot{F:Hp}{xs:List V}{ds:List D}{i:Int}{d:D}(r:Rps K mg F xs ds)(h:at_ ds i=some d):∃x,atI xs i=some x∧Rp K mg F x d:=by
 have hl:=r.length
 unfold at_ at h
 unfold atI ixN
 by_cases h0:0≤i
 ·rw [if_pos h0] at h
  obtain ⟨x,e,rx⟩:=r.get h
  have lt:i.toNat<xs.length:=(Vau.mp e).1
  exact ⟨x,by rw [if_pos h0,if_pos (by omega)];exact e,rx⟩
 ·rw [if_neg h0] at h
  by_cases h1:-(ds.length:Int)≤i
  ·rw [if_pos h1] at h
   obtain ⟨x,e,rx⟩:=r.get h
   exact ⟨x,by rw [if_neg h0,if_pos (by omega),hl];exact e,rx⟩
  ·rw [if_neg h1] at h;cases h
def rIxD(K:W.Frag):R2:=fun x y H Q=>rIxL K x y H Q∨rIxT K x y H Q
theorem Zr7:OpD K mg (rIxD K) dIx:=by
 intro E F H x y dx dy s rx ry
 unfold dIx
 split
 ·next ds i =>
  cases e:at_ ds i with
  | none=>trivial
  | some d =>
   cases rx with
   | lst ha ra =>
    cases ry
    obtain ⟨z,e1,rz⟩:=Zot ra e
    exact Ans.ret s rz fun Q q=>.inl ⟨_,_,_,_,rfl,rfl,s.seq ha,e1,q⟩
 ·next ds i =>
  cases e:at_ ds i with
  | none=>trivial
  | some d =>
   cases rx with
   | tup ha ra =>
    cases ry
    obtain ⟨z,e1,rz⟩:=Zot ra e
    exact Ans.ret s rz fun Q q=>.inr ⟨_,_,_,_,rfl,rfl,ZaD s ha,e1,q⟩
 ·trivial
theorem Zjl(n d:Nat)(o:Option Int):cutAt n d o=HT.sIx n d o:=by cases o<;>rfl
theorem Zlm{F:Hp}{xs:List V}{ds:List D}(r:Rps K mg F xs ds)(lo hi:Option Int):Rps K mg F (cutV xs lo hi) (cutL ds lo hi):=by
 unfold cutV cutL
 simp only [Zjl,r.length]
 exact (r.drop _).take _
def rSlU(K:W.Frag):V→Option Int→Option Int→Hp→VK→Prop:=fun x lo hi H Q=>∃a xs,x=.ref a∧SqT K H a xs ∧
 ((HT.sIx xs.length 0 lo=0∧HT.sIx xs.length xs.length hi=xs.length)→Q (.ref a) H)∧(¬(HT.sIx xs.length 0 lo=0∧HT.sIx xs.length xs.length hi=xs.length)→∀p,H p=none→Q (.ref p) (upd H p (.tup (cutV xs lo hi))))
def rSlD(K:W.Frag):V→Option Int→Option Int→Hp→VK→Prop:=fun x lo hi H Q=>rSlL K x lo hi H Q∨rSlU K x lo hi H Q
theorem Zrk{ta:TE}{ma:ME}{tl th:TO}{ml mh:Ev→Res (Option Int)}(ha:SE K mg E ta ma)(hl:SO K mg E tl ml)(hh:SO K mg E th mh):SE K mg E (tSl (rSlD K) ta tl th) (cut ma ml mh):=by
 intro F0 H0 F H σ ρ rr
 refine (ha F0 H0 F H σ ρ rr).bind fun F1 H1 x dx g1 rx=>?_
 refine (hl F0 H0 F1 H1 σ ρ (rr.gr g1)).bind fun F2 H2 l l' g2 e2=>?_
 cases (show l=l' from e2)
 refine (hh F0 H0 F2 H2 σ ρ ((rr.gr g1).gr g2)).bind fun F3 H3 h h' g3 e3=>?_
 cases (show h=h' from e3)
 have rx':=rx.same (g2.f.trans g3.f)
 unfold dCut
 split
 ·cases rx' with
  | lst hx r =>
   refine ZfE g3.s (o:=.lst _) (fun p hp=>.lst (SqL.of Zag) ((Zlm r l h).same (Zaz (g3.s.free hp) _))) fun Q q=>.inl ⟨_,_,rfl,g3.s.seq hx,q⟩
 ·cases rx' with
  | tup hx r =>
   rename_i ds a xs
   intro Q q
   refine .inr ⟨a,xs,rfl,ZaD g3.s hx,fun e=>?_,fun _ p hp=>q _ _ _ (.new g3.s hp _) (.tup (SqT.of Zag) ((Zlm r l h).same (Zaz (g3.s.free hp) _)))⟩
   have ec:cutL ds l h=ds:=by
    unfold cutL
    simp only [Zjl,←r.length,e.1,e.2]
    rw [Vbw,Nat.sub_zero,r.length,List.take_length]
   rw [ec] at q
   exact q F3 H3 _ (.refl g3.s) (.tup hx r)
 ·trivial
theorem ZeQ:SO K mg E ZiZ pno:=fun _ _ _ _ _ _ r=>Ans.ret (R:=RO) r.ss rfl fun _ q=>q
theorem ZeL{ta:TE}{ma:ME}(ha:SE K mg E ta ma):SO K mg E (ZoN ta) (pso ma):=by
 intro F0 H0 F H σ ρ rr
 refine (ha F0 H0 F H σ ρ rr).bind fun F1 H1 x dx g1 rx=>?_
 cases dx with
 | int i=>cases rx;exact Ans.ret (R:=RO) g1.s rfl fun Q q=>⟨i,rfl,q⟩
 | _=>trivial
theorem Zhw:CallD K mg (fun xs H Q=>∃p ys,xs=[.ref p]∧(SqL K H p ys∨SqT K H p ys)∧Q (.int ys.length) H) bLen:=by
 intro E F H xs ds s r
 unfold bLen
 split
 ·obtain ⟨x,rfl,rx⟩:=r.one
  cases rx with
  | lst h q=>rw [←q.length];exact .ret s (.int _) fun Q q=>⟨_,_,rfl,.inl (s.seq h),q⟩
 ·obtain ⟨x,rfl,rx⟩:=r.one
  cases rx with
  | tup h q=>rw [←q.length];exact .ret s (.int _) fun Q q=>⟨_,_,rfl,.inr (ZaD s h),q⟩
 ·trivial
theorem ZkL:CallD K mg (fun xs H Q=>∃i,xs=[.int i]∧Q (.int (if i<0 then -i else i)) H) bAbs:=by
 intro E F H xs ds s r
 unfold bAbs
 split
 ·obtain ⟨x,rfl,rx⟩:=r.one
  cases rx
  exact .ret s (.int _) fun Q q=>⟨_,rfl,q⟩
 ·trivial
theorem Zk1:CallD K mg (fun xs H Q=>∃i j,xs=[.int i,.int j]∧Q (.int (if j<i then j else i)) H) bMin:=by
 intro E F H xs ds s r
 unfold bMin
 split
 ·obtain ⟨x,y,rfl,rx,ry⟩:=r.two
  cases rx;cases ry
  exact .ret s (.int _) fun Q q=>⟨_,_,rfl,q⟩
 ·trivial
theorem Zlx:CallD K mg (fun xs H Q=>(∃i,xs=[.int i]∧Q (.int i) H)∨∃k,xs=[.bl k]∧Q (.int (if k then 1 else 0)) H) bInt:=by
 intro E F H xs ds s r
 unfold bInt
 split
 ·obtain ⟨x,rfl,rx⟩:=r.one
  cases rx
  exact .ret s (.int _) fun Q q=>.inl ⟨_,rfl,q⟩
 ·obtain ⟨x,rfl,rx⟩:=r.one
  cases rx
  exact .ret s (.int _) fun Q q=>.inr ⟨_,rfl,q⟩
 ·trivial
theorem ZcP:CallD K mg (fun xs H Q=>∃p ys,xs=[.ref p]∧((SqL K H p ys∧∀l,H l=none→Q (.ref l) (upd H l (.tup ys)))∨(SqT K H p ys∧Q (.ref p) H))) bTup:=by
 intro E F H xs ds s r
 unfold bTup
 split
 ·obtain ⟨x,rfl,rx⟩:=r.one
  cases rx with
  | lst h q=>exact ZfE s (o:=.tup _) (fun p hp=>.tup (SqT.of Zag) (q.same (Zaz (s.free hp) _))) fun Q z=>⟨_,_,rfl,.inl ⟨s.seq h,z⟩⟩
 ·obtain ⟨x,rfl,rx⟩:=r.one
  cases rx with
  | tup h q=>exact .ret s (.tup h q) fun Q z=>⟨_,_,rfl,.inr ⟨ZaD s h,z⟩⟩
 ·trivial
theorem Zky:CallD K mg (fun xs H Q=>∃p ys,xs=[.ref p]∧(SqL K H p ys∨SqT K H p ys)∧∀l,H l=none→Q (.ref l) (upd H l (.lst ys))) bLst:=by
 intro E F H xs ds s r
 unfold bLst
 split
 ·obtain ⟨x,rfl,rx⟩:=r.one
  cases rx with
  | lst h q=>exact ZfE s (o:=.lst _) (fun p hp=>.lst (SqL.of Zag) (q.same (Zaz (s.free hp) _))) fun Q z=>⟨_,_,rfl,.inl (s.seq h),z⟩
 ·obtain ⟨x,rfl,rx⟩:=r.one
  cases rx with
  | tup h q=>exact ZfE s (o:=.lst _) (fun p hp=>.lst (SqL.of Zag) (q.same (Zaz (s.free hp) _))) fun Q z=>⟨_,_,rfl,.inr (ZaD s h),z⟩
 ·trivial
def spD(K:W.Frag)(mg:Str→Option Value)(n:Nat)(m:List D→Res D):Sp:=fun vs H Q E=>vs.length=n∧∃F ds,Same F H∧Rps K mg F vs ds∧m ds≠.bad ∧
 (∀d,m ds=.ok d→∀F' H' x,Gr F H F' H'→Rp K mg F' x d→Q x H')∧(∀c,m ds=.ex c→∀F' H' C,Gr F H F' H'→mg c=some (.ref C)→E (.ref C) none H')
theorem ZjF{n:Nat}{m:List D→Res D}{F H:Hp}{vs:List V}{ds:List D}(s:Same F H)(r:Rps K mg F vs ds)(hl:ds.length=n):Ans mg E (Rp K mg) F H (m ds) (fun Q=>spD K mg n m vs H Q E):=by
 have hv:vs.length=n:=r.length.trans hl
 cases e:m ds with
 | ok d =>
  intro Q q
  refine ⟨hv,F,ds,s,r,fun z=>?_,fun d' e'=>?_,fun c e'=>?_⟩
  ·rw [e] at z;cases z
  ·rw [e] at e';cases e';exact q
  ·rw [e] at e';cases e'
 | ex c =>
  intro Q q
  refine ⟨hv,F,ds,s,r,fun z=>?_,fun d' e'=>?_,fun c e'=>?_⟩
  ·rw [e] at z;cases z
  ·rw [e] at e';cases e'
  ·rw [e] at e';cases e';exact q
 | bad=>trivial
theorem ZpQ{n:Nat}{m:List D→Res D}{t:TA}{ma:MA}(ha:SA K mg E t ma)(hl:SAn n ma):SE K mg E (Zgf (spD K mg n m) [] E t) (on m ma):=by
 intro F0 H0 F H σ ρ rr
 refine (ha F0 H0 F H σ ρ rr).bindE (w':=fun vs H1 Q=>spD K mg n m (vs++[]) H1 Q E) fun ds e F1 H1 vs g1 rs=>?_
 have z:=ZjF (E:=E) (m:=m) g1.s rs (hl ρ ds e)
 simp only [VaV]
 exact z
end
section
variable{K:W.Frag}{mg:Str→Option Value}{E:XK}{ta:TE}{ma:ME}{F0 H0 F H:Hp}
theorem AnsS.mono{F1:Hp}{r:Res Fl}{w:Ends→Prop}(s:Same F F1)(h:AnsS K mg E F0 H0 F1 r w):AnsS K mg E F0 H0 F r w:=by
 cases r with
 | ok f =>
  cases f with
  | nx ρ=>exact fun D q=>h D fun F' H' σ' s' r'=>q F' H' σ' (s.trans s') r'
  | bk ρ=>exact fun D q=>h D fun F' H' σ' s' r'=>q F' H' σ' (s.trans s') r'
  | ct ρ=>exact fun D q=>h D fun F' H' σ' s' r'=>q F' H' σ' (s.trans s') r'
  | rt d=>exact h
 | ex c=>exact h
 | bad=>trivial
theorem Ans.stm{α β:Type}{R:Hp→β→α→Prop}{r:Res α}{w:(β→Hp→Prop)→Prop}{k:α→Res Fl}{w':β→Hp→Ends→Prop}(h1:Ans mg E R F H r w)(g0:Gr F0 H0 F H)(h2:∀a,r=.ok a→∀F1 H1 b,Gr F H F1 H1→R F1 b a→AnsS K mg E F0 H0 F1 (k a) (w' b H1)) :
  AnsS K mg E F0 H0 F (r.bind k) (fun D=>w fun b H1=>w' b H1 D):=by
 cases r with
 | ok a =>
  show AnsS K mg E F0 H0 F (k a) _
  have h2':=fun F1 H1 b (g:Gr F H F1 H1) q=>(h2 a rfl F1 H1 b g q).mono g.f
  generalize k a=r2 at h2'
  cases r2 with
  | ok f =>
   cases f with
   | nx ρ=>exact fun D q=>h1 _ fun F1 H1 b g rb=>h2' F1 H1 b g rb D q
   | bk ρ=>exact fun D q=>h1 _ fun F1 H1 b g rb=>h2' F1 H1 b g rb D q
   | ct ρ=>exact fun D q=>h1 _ fun F1 H1 b g rb=>h2' F1 H1 b g rb D q
   | rt d=>exact fun D q=>h1 _ fun F1 H1 b g rb=>h2' F1 H1 b g rb D q
  | ex c=>exact fun D q=>h1 _ fun F1 H1 b g rb=>h2' F1 H1 b g rb D q
  | bad=>trivial
 | ex c=>exact fun D q=>h1 _ fun F1 H1 C g hc=>q F1 H1 C (g0.trans g) hc
 | bad=>trivial
theorem Zte:SS K mg E Zim nop:=fun _ _ _ _ _ _ r D q=>q _ _ _ (Same.refl _) r
theorem ZsE{t u:TS}{m n:MS}(h1:SS K mg E t m)(h2:SS K mg E u n):SS K mg E (tSeq t u) (sq m n):=by
 intro F0 H0 F H σ ρ rr
 have h:=h1 F0 H0 F H σ ρ rr
 unfold sq
 cases e:m ρ with
 | ok f =>
  rw [e] at h
  cases f with
  | nx ρ' =>
   show AnsS K mg E F0 H0 F (n ρ') _
   have h2':=fun F1 H1 σ1 (s:Same F F1) r1=>(h2 F0 H0 F1 H1 σ1 ρ' r1).mono s
   generalize n ρ'=r2 at h2'
   cases r2 with
   | ok f =>
    cases f with
    | nx ρ=>exact fun D q=>h _ fun F1 H1 σ1 s r1=>h2' F1 H1 σ1 s r1 D q
    | bk ρ=>exact fun D q=>h _ fun F1 H1 σ1 s r1=>h2' F1 H1 σ1 s r1 D q
    | ct ρ=>exact fun D q=>h _ fun F1 H1 σ1 s r1=>h2' F1 H1 σ1 s r1 D q
    | rt d=>exact fun D q=>h _ fun F1 H1 σ1 s r1=>h2' F1 H1 σ1 s r1 D q
   | ex c=>exact fun D q=>h _ fun F1 H1 σ1 s r1=>h2' F1 H1 σ1 s r1 D q
   | bad=>trivial
  | bk ρ'=>exact fun D q=>h _ q
  | ct ρ'=>exact fun D q=>h _ q
  | rt d=>exact fun D q=>h _ q
 | ex c=>rw [e] at h;exact fun D q=>h _ q
 | bad=>trivial
theorem ZqY(ha:SE K mg E ta ma):SS K mg E (Zdd ta) (drp ma):=by
 intro F0 H0 F H σ ρ rr
 exact (ha F0 H0 F H σ ρ rr).stm (w':=fun _ H1 D=>D.nx σ H1) rr.g fun d _ F1 H1 x g1 rx=>fun D q=>q F1 H1 σ (Same.refl _) (rr.gr g1)
theorem Zsf(ha:SE K mg E ta ma):SS K mg E (tRet ta) (ret ma):=by
 intro F0 H0 F H σ ρ rr
 exact (ha F0 H0 F H σ ρ rr).stm (w':=fun x H1 D=>D.rt x H1) rr.g fun d _ F1 H1 x g1 rx=>fun D q=>q F1 H1 x (rr.g.trans g1) rx
theorem ZrD:SS K mg E ZqF cnt:=fun _ _ _ _ _ _ r D q=>q _ _ _ (Same.refl _) r
theorem ZuK{sc:TT}{nc:MB}{t u:TS}{m n:MS}(hc:STt K mg E sc nc)(h1:SS K mg E t m)(h2:SS K mg E u n):SS K mg E (tIfS sc t u) (ifs nc m n):=by
 intro F0 H0 F H σ ρ rr
 refine (hc F0 H0 F H σ ρ rr).stm (w':=fun b H1 D=>if b=true then t D σ H1 else u D σ H1) rr.g fun b _ F1 H1 x g1 rx=>?_
 cases (show x=b from rx)
 cases b with
 | true =>
  have z:=h1 F0 H0 F1 H1 σ ρ (rr.gr g1)
  simp only [Vbb];exact z
 | false =>
  have z:=h2 F0 H0 F1 H1 σ ρ (rr.gr g1)
  simp only [Vbu,Vba];exact z
theorem ZiU{α:Type}{l:List α}{i n:Nat}{x:α}(h:i<n):(l.set i x).drop n=l.drop n:=by
 rw [List.drop_set,if_pos h]
theorem Zqn{i n:Nat}(h:i<n):SG K mg n (Zea i) (gN i):=fun _ _ _ _ _ _ _ _ r rx _ q=>q _ _ _ (Same.refl _) (r.set i rx) (ZiU h)
theorem Zqa{n:Nat}:SGs K mg n gNil gs0:=by
 intro F0 H0 F H σ ρ xs ds r rs
 unfold gs0
 split
 ·cases rs
  exact fun Q q=>⟨rfl,q _ _ _ (Same.refl _) r rfl⟩
 ·trivial
theorem Znw{n:Nat}{t:TG}{u:TGs}{g:MG}{gs:MGs}(h1:SG K mg n t g)(h2:SGs K mg n u gs):SGs K mg n (ZpL t u) (gs1 g gs):=by
 intro F0 H0 F H σ ρ xs ds r rs
 unfold gs1
 cases rs with
 | nil=>trivial
 | cons rx rs =>
  rename_i x xs d ds
  have h:=h1 F0 H0 F H σ ρ x d r rx
  show AnsG K mg F0 H0 F n σ ((g d ρ).bind fun ρ'=>gs ds ρ') _
  cases e:g d ρ with
  | ok ρ' =>
   rw [e] at h
   show AnsG K mg F0 H0 F n σ (gs ds ρ') _
   cases e2:gs ds ρ' with
   | ok ρ'' =>
    refine fun Q q=>⟨x,xs,rfl,h _ fun F1 H1 σ1 s1 r1 d1=>?_⟩
    have h':=h2 F0 H0 F1 H1 σ1 ρ' xs ds r1 (rs.same s1)
    rw [e2] at h'
    exact h' _ fun F2 H2 σ2 s2 r2 d2=>q F2 H2 σ2 (s1.trans s2) r2 (d2.trans d1)
   | ex c=>trivial
   | bad=>trivial
  | ex c=>trivial
  | bad=>trivial
def gLst(K:W.Frag)(n:Nat)(t:TGs):TG:=fun v σ H Q=>∃a xs,v=.ref a∧SqL K H a xs∧xs.length=n∧t xs σ H Q
def gSeq(K:W.Frag)(n:Nat)(t:TGs):TG:=fun v σ H Q=>gTup K n t v σ H Q∨gLst K n t v σ H Q
theorem Zrv{n k:Nat}{t:TGs}{g:MGs}(h:SGs K mg n t g):SG K mg n (gSeq K k t) (gU k g):=by
 intro F0 H0 F H σ ρ x d r rx
 unfold gU items
 split
 ·next ds =>
  show AnsG K mg F0 H0 F n σ (if ds.length=k then g ds ρ else .bad) _
  by_cases hl:ds.length=k
  ·rw [if_pos hl]
   cases rx with
   | lst ha ra =>
    have h':=h F0 H0 F H σ ρ _ _ r ra
    cases e:g ds ρ with
    | ok ρ' =>
     rw [e] at h'
     exact fun Q q=>.inr ⟨_,_,rfl,r.ss.seq ha,ra.length.trans hl,h' Q q⟩
    | ex c=>trivial
    | bad=>trivial
  ·rw [if_neg hl];trivial
 ·next ds =>
  show AnsG K mg F0 H0 F n σ (if ds.length=k then g ds ρ else .bad) _
  by_cases hl:ds.length=k
  ·rw [if_pos hl]
   cases rx with
   | tup ha ra =>
    have h':=h F0 H0 F H σ ρ _ _ r ra
    cases e:g ds ρ with
    | ok ρ' =>
     rw [e] at h'
     exact fun Q q=>.inl ⟨_,_,rfl,ZaD r.ss ha,ra.length.trans hl,h' Q q⟩
    | ex c=>trivial
    | bad=>trivial
  ·rw [if_neg hl];trivial
 ·trivial
theorem Zr6{n:Nat}{t:TG}{g:MG}(ha:SE K mg E ta ma)(hg:SG K mg n t g)(hx:∀d ρ c,g d ρ≠.ex c):SS K mg E (tAsg ta t) (asg g ma):=by
 intro F0 H0 F H σ ρ rr
 refine (ha F0 H0 F H σ ρ rr).stm (w':=fun x H1 D=>t x σ H1 D.nx) rr.g fun d _ F1 H1 x g1 rx=>?_
 have h:=hg F0 H0 F1 H1 σ ρ x d (rr.gr g1) rx
 cases e:g d ρ with
 | ok ρ' =>
  rw [e] at h
  exact fun D q=>h _ fun F' H' σ' s r' _=>q F' H' σ' s r'
 | ex c=>exact absurd e (hx d ρ c)
 | bad=>trivial
theorem Zn5{i:Nat}(ha:SE K mg E ta ma):SS K mg E (tAsg ta (Zea i)) (st i ma):=by
 intro F0 H0 F H σ ρ rr
 exact (ha F0 H0 F H σ ρ rr).stm (w':=fun x H1 D=>D.nx (σ.set i (some x)) H1) rr.g fun d _ F1 H1 x g1 rx=>fun D q=>q F1 H1 _ (Same.refl _) ((rr.gr g1).set i rx)
theorem ZrP{i j:Nat}{tb:TE}{mb:ME}(ha:SE K mg E ta ma)(hb:SE K mg E tb mb):SS K mg E (tPar i j (Zbv ta (Zbv tb tNil))) (par i j ma mb):=by
 intro F0 H0 F H σ ρ rr
 refine (ha F0 H0 F H σ ρ rr).stm (w':=fun x H1 D=>tb σ H1 fun y H2=>∃v w,[x,y]=[v,w]∧D.nx ((σ.set i (some v)).set j (some w)) H2) rr.g fun d _ F1 H1 x g1 rx=>?_
 refine (hb F0 H0 F1 H1 σ ρ (rr.gr g1)).stm (w':=fun y H2 D=>∃v w,[x,y]=[v,w]∧D.nx ((σ.set i (some v)).set j (some w)) H2) (rr.g.trans g1) fun e _ F2 H2 y g2 ry=>?_
 exact fun D q=>⟨x,y,rfl,q F2 H2 _ (Same.refl _) ((((rr.gr g1).gr g2).set i (rx.same g2.f)).set j ry)⟩
theorem Ztl{i:Nat}{t:TS}{m:MS}(h:SS K mg E t m):SS K mg E t (frz i m):=by
 intro F0 H0 F H σ ρ rr
 unfold frz getO
 split
 ·next xs e =>
  show AnsS K mg E F0 H0 F (m (ρ.set i (.im (.lst xs)))) _
  obtain ⟨F',s,r'⟩:=rr.frz e
  exact (h F0 H0 F' H σ _ r').mono s
 ·trivial
theorem Zrg{i:Nat}(ha:SE K mg E ta ma)(hty:∀H a xs,H a=some (.lst xs)→tyV K "list" (.ref a) H):SS K mg E (Zdd (tBM K "list" ZbE (tVar i) (Zbv ta tNil))) (app i ma):=by
 intro F0 H0 F H σ ρ rr
 unfold app getO
 split
 ·next ds e =>
  show AnsS K mg E F0 H0 F ((ma ρ).bind fun d=>if ds.length<LIM then .ok (.nx (ρ.set i (.ow (ds++[d])))) else .bad) _
  obtain ⟨a,xs,e2,e4,e5,e3,hr⟩:=rr.ow i ds e
  have hl:xs.length=ds.length:=hr.length
  have h:=(ha F0 H0 F H σ ρ rr).stm (K:=K) (k:=fun d=>if ds.length<LIM then .ok (.nx (ρ.set i (.ow (ds++[d])))) else .bad) (w':=fun x H2 D=>ZbE (.ref a) [x] H2 fun _ H3=>D.nx σ H3) rr.g fun d _ F1 H1 x g1 rx=>?_
  ·generalize ((ma ρ).bind fun d=>if ds.length<LIM then Res.ok (Fl.nx (ρ.set i (.ow (ds++[d])))) else .bad)=res at h
   have fin:∀D:Ends,(ta σ H fun x H2=>ZbE (.ref a) [x] H2 fun _ H3=>D.nx σ H3)→Zdd (tBM K "list" ZbE (tVar i) (Zbv ta tNil)) D σ H:=fun D z=>⟨.ref a,e2,hty H a xs e3,z⟩
   cases res with
   | ok f =>
    cases f with
    | nx ρ=>exact fun D q=>fin D (h D q)
    | bk ρ=>exact fun D q=>fin D (h D q)
    | ct ρ=>exact fun D q=>fin D (h D q)
    | rt d=>exact fun D q=>fin D (h D q)
   | ex c=>exact fun D q=>fin D (h D q)
   | bad=>trivial
  ·by_cases hlim:ds.length<LIM
   ·simp only [hlim,Vbb]
    have r1:=rr.gr g1
    obtain ⟨q1,q2⟩:=g1.o a _ e5 e3
    exact fun D q=>⟨a,xs,x,rfl,rfl,q2,by rw [hl];exact Vaf hlim (by decide),q F1 _ σ (Same.refl _) (r1.app e e2 q2 e4 q1 (hr.same g1.f) rx)⟩
   ·simp only [hlim,Vba];trivial
 ·trivial
def iSeq(K:W.Frag)(tl:TE):TI:=fun σ H R=>tl σ H fun x H1=>∃a,x=.ref a∧(((∃xs,SqL K H1 a xs)∧R (Itl K a) H1)∨((∃xs,SqT K H1 a xs)∧R (Itt K a) H1))
theorem Zr3{a:Addr}{xs:List V}{ds:List D}(h:SqL K F a xs)(r:Rps K mg F xs ds):ItOk K mg F (Itl K a) ds:=by
 intro F' H' s1 s2 i
 have hq:SqL K H' a xs:=(s1.trans s2).seq h
 refine ⟨fun d e=>?_,fun hl=>⟨xs,hq,by rw [r.length];exact hl⟩⟩
 obtain ⟨x,e1,rx⟩:=r.get e
 refine ⟨⟨xs,x,hq,e1⟩,fun y H'' q=>?_⟩
 obtain ⟨rfl,q⟩:=q
 have e2:=q xs hq
 rw [e1] at e2;cases e2
 exact ⟨F',.refl s2,rx.same s1⟩
theorem Zs7{a:Addr}{xs:List V}{ds:List D}(h:SqT K F a xs)(r:Rps K mg F xs ds):ItOk K mg F (Itt K a) ds:=by
 intro F' H' s1 s2 i
 have hq:SqT K H' a xs:=ZaD (s1.trans s2) h
 refine ⟨fun d e=>?_,fun hl=>⟨xs,hq,by rw [r.length];exact hl⟩⟩
 obtain ⟨x,e1,rx⟩:=r.get e
 refine ⟨⟨xs,x,hq,e1⟩,fun y H'' q=>?_⟩
 obtain ⟨rfl,q⟩:=q
 have e2:=q xs hq
 rw [e1] at e2;cases e2
 exact ⟨F',.refl s2,rx.same s1⟩
theorem Zta(lo:Int)(n:Nat):ItOk K mg F (Itr lo n) (Zbn lo n):=by
 intro F' H' s1 s2 i
 unfold Zbn
 refine ⟨fun d e=>?_,fun hl=>?_⟩
 ·rw [Va5] at e
  have hi:i<n:=by
   rcases Nat.lt_or_ge i n with z | z
   ·exact z
   ·rw [List.getElem?_eq_none (by rw [VbF];exact z)] at e;cases e
  rw [VbG hi] at e
  cases e
  refine ⟨hi,fun y H'' q=>?_⟩
  obtain ⟨rfl,rfl⟩:=q
  exact ⟨F',.refl s2,.int _⟩
 ·rw [VaQ,VbF] at hl
  exact hl
theorem Zro(ha:SE K mg E ta ma):SI K mg E (iSeq K ta) (iv ma):=by
 intro F0 H0 F H σ ρ rr
 refine (ha F0 H0 F H σ ρ rr).bind fun F1 H1 x dx g1 rx=>?_
 cases dx with
 | lst ds =>
  cases rx with
  | lst h r=>exact Ans.ret (R:=ItOk K mg) g1.s (Zr3 h r) fun Q q=>⟨_,rfl,.inl ⟨⟨_,g1.s.seq h⟩,q⟩⟩
 | tup ds =>
  cases rx with
  | tup h r=>exact Ans.ret (R:=ItOk K mg) g1.s (Zs7 h r) fun Q q=>⟨_,rfl,.inr ⟨⟨_,ZaD g1.s h⟩,q⟩⟩
 | _=>trivial
theorem Zup{t:TA}{m:MA}(ha:SA K mg E t m):SI K mg E (ZoY t) (r1 m):=by
 intro F0 H0 F H σ ρ rr
 refine (ha F0 H0 F H σ ρ rr).bind fun F1 H1 xs ds g1 rs=>?_
 unfold rng1
 split
 ·next j =>
  by_cases h:-1000000000≤j∧j≤1000000000
  ·rw [if_pos h]
   obtain ⟨x,rfl,rx⟩:=rs.one
   cases rx
   exact Ans.ret (R:=ItOk K mg) g1.s (Zta 0 _) fun Q q=>⟨j,rfl,by omega,by omega,q⟩
  ·rw [if_neg h];trivial
 ·trivial
theorem ZsW{wi:TI}{mi:MI}{n:Nat}{t:TG}{g:MG}{u:TS}{m:MS}(hi:SI K mg E wi mi)(hg:SG K mg n t g)(hx:∀d ρ c,g d ρ≠.ex c)(hb:SS K mg E u m):SS K mg E (tFor wi t u) (for_ mi g m):=by
 intro F0 H0 F H σ ρ rr
 refine (hi F0 H0 F H σ ρ rr).stm (w':=fun J H1 D=>∃W:Nat→Nat→St→Hp→Prop,(∃m,W 0 m σ H1)∧∀i m σ H,W i m σ H →
  (J.stop i H∧D.nx σ H)∨(J.go i H∧∃N:St→Hp→Prop,(∀σ' H',N σ' H'→∃m',m'<m∧W (i+1) m' σ' H')∧∀x H',J.yld i H x H'→t x σ H' fun σ2 H2=>u { D with nx:=N,ct:=N,bk:=D.nx } σ2 H2)) rr.g fun ds _ F1 H1 J g1 jo=>?_
 have r1:=rr.gr g1
 have key:∀(D:Ends) (res:Res Fl),res≠.bad→(∀ρ',res=.ok (.nx ρ')→∀F' H' σ',Same F1 F'→Rep K mg F0 H0 F' H' σ' ρ'→D.nx σ' H')→(∀ρ',res=.ok (.bk ρ')→∀F' H' σ',Same F1 F'→Rep K mg F0 H0 F' H' σ' ρ'→D.bk σ' H') →
   (∀ρ',res=.ok (.ct ρ')→∀F' H' σ',Same F1 F'→Rep K mg F0 H0 F' H' σ' ρ'→D.ct σ' H')→(∀d,res=.ok (.rt d)→∀F' H' x,Gr F0 H0 F' H'→Rp K mg F' x d→D.rt x H') →
   (∀c,res=.ex c→∀F' H' C,Gr F0 H0 F' H'→mg c=some (.ref C)→E (.ref C) none H')→ZbM g m ds ρ=res →
   ∃W:Nat→Nat→St→Hp→Prop,(∃m,W 0 m σ H1)∧∀i m σ H,W i m σ H →
    (J.stop i H∧D.nx σ H)∨(J.go i H∧∃N:St→Hp→Prop,(∀σ' H',N σ' H'→∃m',m'<m∧W (i+1) m' σ' H')∧∀x H',J.yld i H x H'→t x σ H' fun σ2 H2=>u { D with nx:=N,ct:=N,bk:=D.nx } σ2 H2):=by
  intro D res hbad qn qb qc qr qe e0
  refine ⟨fun i k σ' H'=>k=ds.length - i∧i≤ds.length∧∃ρ' F',Same F1 F'∧Rep K mg F0 H0 F' H' σ' ρ'∧ZbM g m (ds.drop i) ρ'=res,⟨ds.length,by simp,VaT _,ρ,F1,Same.refl _,r1,e0⟩,?_⟩
  rintro i k σ' H' ⟨rfl,hi',ρ',F',s1,r',e⟩
  by_cases hlt:i<ds.length
  ·refine .inr ?_
   have hd:ds[i]?=some ds[i]:=VbH hlt
   obtain ⟨go,yl⟩:=(jo F' H' s1 r'.ss i).1 _ hd
   rw [Vbt hlt] at e
   refine ⟨go,fun σ2 H2=>∃ρ2 F2,Same F1 F2∧Rep K mg F0 H0 F2 H2 σ2 ρ2∧ZbM g m (ds.drop (i+1)) ρ2=res,fun σ2 H2 ⟨ρ2,F2,s2,r2,e2⟩=>⟨ds.length - (i+1),by omega,rfl,hlt,ρ2,F2,s2,r2,e2⟩,fun x H2 y=>?_⟩
   obtain ⟨F2,g2,rx⟩:=yl x H2 y
   have r2:=r'.gr g2
   have hG:=hg F0 H0 F2 H2 σ' ρ' x _ r2 rx
   have e':(g ds[i] ρ').bind (fun ρ1=>(m ρ1).bind (turn (ZbM g m (ds.drop (i+1)))))=res:=e
   cases eg:g ds[i] ρ' with
   | ok ρ1 =>
    rw [eg] at e' hG
    refine hG _ fun F3 H3 σ3 s3 r3 _=>?_
    have hB:=hb F0 H0 F3 H3 σ3 ρ1 r3
    have sF:Same F1 F3:=s1.trans (g2.f.trans s3)
    have e2:(m ρ1).bind (turn (ZbM g m (ds.drop (i+1))))=res:=e'
    cases em:m ρ1 with
    | ok f =>
     rw [em] at e2 hB
     cases f with
     | nx ρ2=>exact hB _ fun F4 H4 σ4 s4 r4=>⟨ρ2,F4,sF.trans s4,r4,e2⟩
     | ct ρ2=>exact hB _ fun F4 H4 σ4 s4 r4=>⟨ρ2,F4,sF.trans s4,r4,e2⟩
     | bk ρ2=>exact hB _ fun F4 H4 σ4 s4 r4=>qn ρ2 e2.symm F4 H4 σ4 (sF.trans s4) r4
     | rt d=>exact hB _ fun F4 H4 y g4 ry=>qr d e2.symm F4 H4 y g4 ry
    | ex c =>
     rw [em] at e2 hB
     exact hB _ fun F4 H4 C g4 hc=>qe c e2.symm F4 H4 C g4 hc
    | bad=>rw [em] at e2;exact absurd e2.symm hbad
   | ex c=>exact absurd eg (hx _ _ c)
   | bad=>rw [eg] at e';exact absurd e'.symm hbad
  ·have hi2:i=ds.length:=by omega
   subst hi2
   rw [VbI (VaI _)] at e
   exact .inl ⟨(jo F' H' s1 r'.ss _).2 (VaI _),qn ρ' e.symm F' H' σ' s1 r'⟩
 cases e:ZbM g m ds ρ with
 | ok f =>
  cases f with
  | nx ρ2=>exact fun D q=>key D _ (fun z=>by cases z) (fun _ z=>by cases z;exact q) (fun _ z=>by cases z) (fun _ z=>by cases z) (fun _ z=>by cases z) (fun _ z=>by cases z) e
  | bk ρ2=>exact fun D q=>key D _ (fun z=>by cases z) (fun _ z=>by cases z) (fun _ z=>by cases z;exact q) (fun _ z=>by cases z) (fun _ z=>by cases z) (fun _ z=>by cases z) e
  | ct ρ2=>exact fun D q=>key D _ (fun z=>by cases z) (fun _ z=>by cases z) (fun _ z=>by cases z) (fun _ z=>by cases z;exact q) (fun _ z=>by cases z) (fun _ z=>by cases z) e
  | rt d=>exact fun D q=>key D _ (fun z=>by cases z) (fun _ z=>by cases z) (fun _ z=>by cases z) (fun _ z=>by cases z) (fun _ z=>by cases z;exact q) (fun _ z=>by cases z) e
 | ex c=>exact fun D q=>key D _ (fun z=>by cases z) (fun _ z=>by cases z) (fun _ z=>by cases z) (fun _ z=>by cases z) (fun _ z=>by cases z) (fun _ z=>by cases z;exact q) e
 | bad=>trivial
theorem Znt{n:Ev→Nat}{sc:TT}{nc:MB}{u:TS}{m:MS}(hc:STt K mg E sc nc)(hb:SS K mg E u m):SS K mg E (Zjj sc u) (whl n nc m):=by
 intro F0 H0 F H σ ρ rr
 have key:∀(D:Ends) (res:Res Fl),res≠.bad→(∀ρ',res=.ok (.nx ρ')→∀F' H' σ',Same F F'→Rep K mg F0 H0 F' H' σ' ρ'→D.nx σ' H')→(∀ρ',res=.ok (.bk ρ')→∀F' H' σ',Same F F'→Rep K mg F0 H0 F' H' σ' ρ'→D.bk σ' H') →
   (∀ρ',res=.ok (.ct ρ')→∀F' H' σ',Same F F'→Rep K mg F0 H0 F' H' σ' ρ'→D.ct σ' H')→(∀d,res=.ok (.rt d)→∀F' H' x,Gr F0 H0 F' H'→Rp K mg F' x d→D.rt x H') →
   (∀c,res=.ex c→∀F' H' C,Gr F0 H0 F' H'→mg c=some (.ref C)→E (.ref C) none H')→whGo nc m (n ρ) ρ=res→Zjj sc u D σ H:=by
  intro D res hbad qn qb qc qr qe e0
  refine ⟨fun k σ' H'=>∃ρ' F',Same F F'∧Rep K mg F0 H0 F' H' σ' ρ'∧whGo nc m k ρ'=res,⟨n ρ,ρ,F,Same.refl _,rr,e0⟩,?_⟩
  rintro k σ' H' ⟨ρ',F',s1,r',e⟩
  cases k with
  | zero=>exact absurd e.symm hbad
  | succ k =>
   have e':(nc ρ').bind (fun x=>if x=true then (m ρ').bind (turn (whGo nc m k)) else .ok (.nx ρ'))=res:=e
   have hC:=hc F0 H0 F' H' σ' ρ' r'
   cases ec:nc ρ' with
   | ok b =>
    rw [ec] at e' hC
    refine hC _ fun F2 H2 b' g2 eb=>?_
    cases (show b'=b from eb)
    have r2:=r'.gr g2
    cases b with
    | true =>
     rw [if_pos rfl]
     have hB:=hb F0 H0 F2 H2 σ' ρ' r2
     have e2:(m ρ').bind (turn (whGo nc m k))=res:=e'
     refine ⟨fun σ3 H3=>∃ρ3 F3,Same F F3∧Rep K mg F0 H0 F3 H3 σ3 ρ3∧whGo nc m k ρ3=res,fun σ3 H3 h=>⟨k,VaS _,h⟩,?_⟩
     have sF:Same F F2:=s1.trans g2.f
     cases em:m ρ' with
     | ok f =>
      rw [em] at e2 hB
      cases f with
      | nx ρ2=>exact hB _ fun F4 H4 σ4 s4 r4=>⟨ρ2,F4,sF.trans s4,r4,e2⟩
      | ct ρ2=>exact hB _ fun F4 H4 σ4 s4 r4=>⟨ρ2,F4,sF.trans s4,r4,e2⟩
      | bk ρ2=>exact hB _ fun F4 H4 σ4 s4 r4=>qn ρ2 e2.symm F4 H4 σ4 (sF.trans s4) r4
      | rt d=>exact hB _ fun F4 H4 y g4 ry=>qr d e2.symm F4 H4 y g4 ry
     | ex c =>
      rw [em] at e2 hB
      exact hB _ fun F4 H4 C g4 hc=>qe c e2.symm F4 H4 C g4 hc
     | bad=>rw [em] at e2;exact absurd e2.symm hbad
    | false =>
     rw [if_neg VaF]
     have e2:Res.ok (Fl.nx ρ')=res:=e'
     exact qn ρ' e2.symm F2 H2 σ' (s1.trans g2.f) r2
   | ex c =>
    rw [ec] at e' hC
    exact hC _ fun F4 H4 C g4 hc=>qe c e'.symm F4 H4 C (r'.g.trans g4) hc
   | bad=>rw [ec] at e';exact absurd e'.symm hbad
 unfold whl
 cases e:whGo nc m (n ρ) ρ with
 | ok f =>
  cases f with
  | nx ρ2=>exact fun D q=>key D _ (fun z=>by cases z) (fun _ z=>by cases z;exact q) (fun _ z=>by cases z) (fun _ z=>by cases z) (fun _ z=>by cases z) (fun _ z=>by cases z) e
  | bk ρ2=>exact fun D q=>key D _ (fun z=>by cases z) (fun _ z=>by cases z) (fun _ z=>by cases z;exact q) (fun _ z=>by cases z) (fun _ z=>by cases z) (fun _ z=>by cases z) e
  | ct ρ2=>exact fun D q=>key D _ (fun z=>by cases z) (fun _ z=>by cases z) (fun _ z=>by cases z) (fun _ z=>by cases z;exact q) (fun _ z=>by cases z) (fun _ z=>by cases z) e
  | rt d=>exact fun D q=>key D _ (fun z=>by cases z) (fun _ z=>by cases z) (fun _ z=>by cases z) (fun _ z=>by cases z) (fun _ z=>by cases z;exact q) (fun _ z=>by cases z) e
 | ex c=>exact fun D q=>key D _ (fun z=>by cases z) (fun _ z=>by cases z) (fun _ z=>by cases z) (fun _ z=>by cases z) (fun _ z=>by cases z) (fun _ z=>by cases z;exact q) e
 | bad=>trivial
end
section
variable{K:W.Frag}{mg:Str→Option Value}{E:XK}{F0 H0 F H:Hp}{σ:St}{ρ:Ev}
theorem Rep.inner{own:List Str}{cap:List (Str×Nat)}{Fb Hb:Hp}(r:Rep K mg F0 H0 F H σ ρ)(gb:Gr Fb Hb F H):Rep K mg Fb Hb F H (st0 own σ cap) (noA own.length (yar ρ (cap.map (·.2)))):=by
 have key:∀(i:Nat) (cl:Cl),(noA own.length (yar ρ (cap.map (·.2))))[i]?=some cl→cl=.no∨∃j p d,i=own.length+j∧cap[j]?=some p∧ρ[p.2]?=some (.im d)∧cl=.im d:=by
  intro i cl e
  rw [ZjV,Zhc] at e
  by_cases hi:i<own.length
  ·rw [Va4 (by simpa using hi),Va3,if_pos hi] at e
   cases e
   exact .inl rfl
  ·rw [Va2 (by simpa using hi),Va8] at e
   rw [VbJ,Va5] at e
   cases q:cap[i - own.length]? with
   | none=>rw [q] at e;cases e
   | some p =>
    rw [q] at e
    have e':imOf ρ[p.2]?=cl:=Vav e
    unfold imOf at e'
    split at e'
    ·next d h=>exact .inr ⟨i - own.length,p,d,by omega,q,h,e'.symm⟩
    ·exact .inl e'.symm
 refine ⟨gb,?_,fun i d e=>?_,fun i ds e=>?_,fun i j ds es a e=>?_⟩
 ·rw [ZjV,Zhc]
  unfold st0 capt
  simp
 ·rcases key i _ e with z | ⟨j,p,d',rfl,hp,hρ,z⟩
  ·cases z
  ·cases z
   obtain ⟨x,hx,rx⟩:=r.im p.2 d hρ
   refine ⟨x,?_,rx⟩
   unfold st0 capt
   rw [Va2 (by simp),Va8,Nat.add_sub_cancel_left,Va5,hp]
   show some ((σ[p.2]?).join)=_
   rw [hx];rfl
 ·rcases key i _ e with z | ⟨j,p,d',rfl,hp,hρ,z⟩<;>cases z
 ·rcases key i _ e with z | ⟨j,p,d',rfl,hp,hρ,z⟩<;>cases z
theorem Zhe{own:List Str}{cap:List (Str×Nat)}:(st0 own σ cap).drop own.length=capt σ cap:=by
 unfold st0
 rw [List.drop_append_of_le_length (by simp),List.drop_of_length_le (by simp)]
 rfl
theorem ZkM{t:TG}{g:MG}{tt:TT}{nt:MB}{te:TE}{me:ME}{own:List Str}{cap:List (Str×Nat)}{J:It}{ds ys:List D}(r:Rep K mg F0 H0 F H σ ρ)(jo:ItOk K mg F J ds)(hg:SG K mg own.length t g)(ht:STt K mg E0 tt nt)(he:SE K mg E0 te me)
  (hl:ds.length≤LIM) (e0:Dl.Zai g nt me (noA own.length (yar ρ (cap.map (·.2)))) ds=.ok ys) (Q:VK) (q:∀F' H' xs,Gr F H F' H'→Rps K mg F' xs ys→xs.length≤sizeLine→∀p,H' p=none→Q (.ref p) (upd H' p (.lst xs))) :
  ZcV J t tt te own cap σ Q H:=by
 refine ⟨fun i k acc H'=>k=ds.length - i∧i≤ds.length∧acc.length≤i∧∃F' zs rs,Gr F H F' H'∧Rps K mg F' acc zs∧Dl.Zai g nt me (noA own.length (yar ρ (cap.map (·.2)))) (ds.drop i)=.ok rs∧zs++rs=ys,
  ⟨ds.length,by simp,VaT _,VaI _,F,[],ys,.refl r.ss,.nil,e0,rfl⟩,?_⟩
 rintro i k acc H' ⟨rfl,hi,ha,F',zs,rs,g1,r1,e1,e2⟩
 have la:acc.length≤LIM:=Vak ha (Vak hi hl)
 refine ⟨ZdI la,?_⟩
 by_cases hlt:i<ds.length
 ·refine .inr ?_
  have hd:ds[i]?=some ds[i]:=VbH hlt
  obtain ⟨go,yl⟩:=(jo F' H' g1.f g1.s i).1 _ hd
  rw [Vbt hlt] at e1
  refine ⟨go,fun x H2 y=>?_⟩
  obtain ⟨F2,g2,rx⟩:=yl x H2 y
  have rr:=(r.gr (g1.trans g2)).inner (own:=own) (cap:=cap) (g1.trans g2)
  have hG:=hg F H F2 H2 _ _ x _ rr rx
  have e':(g ds[i] (noA own.length (yar ρ (cap.map (·.2))))).bind (fun ρ1=>(nt ρ1).bind fun b=>if b=true then (me ρ1).bind fun y=>(Dl.Zai g nt me (noA own.length (yar ρ (cap.map (·.2)))) (ds.drop (i+1))).bind fun ys=>.ok (y::ys) else Dl.Zai g nt me (noA own.length (yar ρ (cap.map (·.2)))) (ds.drop (i+1)))=.ok rs:=e1
  cases eg:g ds[i] (noA own.length (yar ρ (cap.map (·.2)))) with
  | ok ρ1 =>
   rw [eg] at e' hG
   refine hG _ fun F3 H3 σ3 s3 r3 d3=>⟨d3.trans Zhe,?_⟩
   have hT:=ht F H F3 H3 σ3 ρ1 r3
   have sF:Same F' F3:=g2.f.trans s3
   have e3:(nt ρ1).bind (fun b=>if b=true then (me ρ1).bind fun y=>(Dl.Zai g nt me (noA own.length (yar ρ (cap.map (·.2)))) (ds.drop (i+1))).bind fun ys=>.ok (y::ys) else Dl.Zai g nt me (noA own.length (yar ρ (cap.map (·.2)))) (ds.drop (i+1)))=.ok rs:=e'
   cases et:nt ρ1 with
   | ok b =>
    rw [et] at e3 hT
    refine hT _ fun F4 H4 b' g4 eb=>?_
    cases (show b'=b from eb)
    cases b with
    | true =>
     rw [if_pos rfl]
     have e4:(me ρ1).bind (fun y=>(Dl.Zai g nt me (noA own.length (yar ρ (cap.map (·.2)))) (ds.drop (i+1))).bind fun ys=>.ok (y::ys))=.ok rs:=e3
     have hE:=he F H F4 H4 σ3 ρ1 (r3.gr g4)
     cases em:me ρ1 with
     | ok y' =>
      rw [em] at e4 hE
      refine hE _ fun F5 H5 u g5 ru=>⟨Vbn la (by decide),ds.length - (i+1),by omega,rfl,hlt,by rw [Va7];show acc.length+1≤i+1;omega,?_⟩
      have e5:(Dl.Zai g nt me (noA own.length (yar ρ (cap.map (·.2)))) (ds.drop (i+1))).bind (fun ys=>.ok (y'::ys))=.ok rs:=e4
      cases ec:Dl.Zai g nt me (noA own.length (yar ρ (cap.map (·.2)))) (ds.drop (i+1)) with
      | ok rs' =>
       rw [ec] at e5
       have e6:Res.ok (y'::rs')=.ok rs:=e5
       cases e6
       exact ⟨F5,zs++[y'],rs',r3.g.trans (g4.trans g5),Rps.app (.cons ru .nil) (r1.same (sF.trans (g4.f.trans g5.f))),rfl,by rw [VbK];exact e2⟩
      | ex c=>rw [ec] at e5;cases e5
      | bad=>rw [ec] at e5;cases e5
     | ex c=>rw [em] at e4;cases e4
     | bad=>rw [em] at e4;cases e4
    | false =>
     rw [if_neg VaF]
     have e4:Dl.Zai g nt me (noA own.length (yar ρ (cap.map (·.2)))) (ds.drop (i+1))=.ok rs:=e3
     exact ⟨ds.length - (i+1),by omega,rfl,hlt,by omega,F4,zs,rs,r3.g.trans g4,r1.same (sF.trans g4.f),e4,e2⟩
   | ex c=>rw [et] at e3;cases e3
   | bad=>rw [et] at e3;cases e3
  | ex c=>rw [eg] at e';cases e'
  | bad=>rw [eg] at e';cases e'
 ·have hi2:i=ds.length:=by omega
  subst hi2
  rw [VbI (VaI _)] at e1
  cases e1
  rw [VaV] at e2
  subst e2
  exact .inl ⟨(jo F' H' g1.f g1.s _).2 (VaI _),q F' H' acc g1 r1 (ZdI la)⟩
theorem Zl8{wi:TI}{mi:MI}{t:Fam TG}{g:MG}{tt:Fam TT}{nt:MB}{te:Fam TE}{me:ME}{own:List Str}{cap:List (Str×Nat)}(hi:SI K mg E wi mi)(hg:∀C s H fp pn,SG K mg own.length (t C s H fp pn) g)(ht:∀C s H fp pn,STt K mg E0 (tt C s H fp pn) nt)(he:∀C s H fp pn,SE K mg E0 (te C s H fp pn) me) :
  SE K mg E (ZdM wi t tt te own cap) (comp mi own.length (cap.map (·.2)) g nt me):=by
 intro F0 H0 F H σ ρ rr
 refine (hi F0 H0 F H σ ρ rr).bind (w':=fun J H1 Q=>∀C s H2 fp pn,ZcV J (t C s H2 fp pn) (tt C s H2 fp pn) (te C s H2 fp pn) own cap σ Q H1) fun F1 H1 J ds g1 jo=>?_
 by_cases hl:ds.length≤LIM
 ·rw [if_pos hl]
  cases e:Dl.Zai g nt me (noA own.length (yar ρ (cap.map (·.2)))) ds with
  | ok ys=>exact fun Q q C s H2 fp pn=>ZkM (rr.gr g1) jo (hg C s H2 fp pn) (ht C s H2 fp pn) (he C s H2 fp pn) hl e Q fun F' H' xs g2 rs _ p hp=>q _ _ _ (g2.trans (.new g2.s hp _)) (.lst (SqL.of Zag) (rs.same (Zaz (g2.s.free hp) _)))
  | ex c=>trivial
  | bad=>trivial
 ·rw [if_neg hl];trivial
end
structure DE(X:Cx)(E:XK)(e:Expr)(t:TE)(m:ME):Prop where
 p:PE X e t
 s:SE X.K X.mg E t m
structure DT(X:Cx)(E:XK)(e:Expr)(t:TT)(m:MB):Prop where
 p:PT X e t
 s:STt X.K X.mg E t m
structure DW(X:Cx)(E:XK)(e:Expr)(t:TT)(m:MB):Prop where
 p:PW X e t
 s:STt X.K X.mg E t m
structure DA(X:Cx)(E:XK)(n:Nat)(es:List Expr)(t:TA)(m:MA):Prop where
 p:PA X es t
 s:SA X.K X.mg E t m
 n:SAn n m
structure DO(X:Cx)(E:XK)(e:Option Expr)(t:TO)(m:Ev→Res (Option Int)):Prop where
 p:PO X e t
 s:SO X.K X.mg E t m
structure DS(X:Cx)(E:XK)(st:Stmt)(t:TS)(m:MS):Prop where
 p:PS X st t
 s:SS X.K X.mg E t m
structure DSs(X:Cx)(E:XK)(st:List Stmt)(t:TS)(m:MS):Prop where
 p:PSs X st t
 s:SS X.K X.mg E t m
structure DG(X:Cx)(n:Nat)(e:Expr)(t:TG)(g:MG):Prop where
 p:PG X e t
 s:SG X.K X.mg n t g
 x:∀d ρ c,g d ρ≠.ex c
structure DGs(X:Cx)(n:Nat)(es:List Expr)(t:TGs)(g:MGs):Prop where
 p:PGs X es t
 s:SGs X.K X.mg n t g
 x:∀d ρ c,g d ρ≠.ex c
structure DI(X:Cx)(E:XK)(tg e:Expr)(t:TI)(m:MI):Prop where
 p:PI X tg e t
 s:SI X.K X.mg E t m
section
variable{X:Cx}{E:XK}{a b e c':Expr}{es:List Expr}{ta tb tc te:TE}{ma mb mc me:ME}{sa sb:TT}{na nb:MB}{t:TA}{m:MA}{pos:Pos}{n:Nat}
theorem d_v(i:Nat){x:Str}(hN:X.N[i]?=some x:=by rfl)(hv:Vis X.env.scope x:=by first | exact Or.inl rfl | exact Or.inr (Or.inl rfl) | exact Or.inr (Or.inr rfl))(hd:(x==("__debug__" : Str))=false:=by decide)
  (hcd:(x==("__classdict__" : Str))=false:=by decide):DE X E (.Name x pos) (tVar i) (v i):=⟨Zf4 hN hv hd hcd,se_v i⟩
theorem ZeN{i j}:DE X E (.Constant (.int i) j pos) (tC (.int i)) (c (.int i)):=⟨Zn8,se_c fun _=>.int _⟩
theorem yc7{i j}:DE X E (.Constant (.bool i) j pos) (tC (.bl i)) (c (.bl i)):=⟨Zur,se_c fun _=>.bl _⟩
theorem ZtT{j}:DE X E (.Constant .none j pos) (tC .non) (c .non):=⟨ZjP,se_c fun _=>.non⟩
theorem ZuQ{i j}:DE X E (.Constant (.str i) j pos) (tC (.str i)) (c (.str i)):=⟨Zsn,se_c fun _=>.str _⟩
theorem ydk{k:String}{x:Str}(hg:Gl X x)(hm:X.mg x=none)(hv:bootBuiltins x=some (.type k))(hn:x ≠ "__name__" := by decide)(hd:(x==("__debug__" : Str))=false:=by decide):DE X E (.Name x pos) (tC (.ty k)) (c (.ty k)) :=
 ⟨ZrU hg hm hv hn hd,se_c fun _=>.ty _⟩
theorem ydl{x:Str}{i:Int}{tk:Tok}(hg:Gl X x)(hm:X.mg x=some (.int i tk))(hd:(x==("__debug__" : Str))=false:=by decide):DE X E (.Name x pos) (tC (.int i)) (c (.int i)):=⟨ZiM hg hm ⟨_,rfl⟩ hd,se_c fun _=>.int _⟩
theorem ZhP{op:Operator}{r:R2}{f:D→D→Res D}(ho:OpR X (binaryOp op) r)(hf:OpD X.K X.mg r f)(ha:DE X E a ta ma)(hb:DE X E b tb mb):DE X E (.BinOp a op b pos) (tOp r ta tb) (o2 f ma mb):=⟨ZtD ho ha.p hb.p,ZmJ hf ha.s hb.s⟩
theorem ZnE{op:CmpOp}{r:R2}{f:D→D→Res D}(ho:OpR X (compareOp op) r)(hf:OpD X.K X.mg r f)(ha:DE X E a ta ma)(hb:DE X E b tb mb)(hm:behindInMarks op b=false):DE X E (.Compare a [op] [b] pos) (tOp r ta tb) (o2 f ma mb):=⟨Zlr ho ha.p hb.p hm,ZmJ hf ha.s hb.s⟩
theorem Zf1{op:CmpOp}{r:R2}{f:D→D→Res D}(ho:OpR X (compareOp op) r)(hf:OpD X.K X.mg r f)(ha:DE X E a ta ma)(hb:DE X E b tb mb)(hm:behindInMarks op b=false):DT X E (.Compare a [op] [b] pos) (Zff (tOp r ta tb)) (trb (o2 f ma mb)):=⟨ZiN ho ha.p hb.p hm,ZiC (ZmJ hf ha.s hb.s)⟩
theorem OpR.or{f:Value→Value→Sem Value}{r r':R2}(h:OpR X f r)(h':OpR X f r'):OpR X f (fun x y H Q=>r x y H Q∨r' x y H Q):=by
 intro pins s σ H x y v u Q I rx ry q
 rcases q with q | q
 ·exact h pins s σ H x y v u Q I rx ry q
 ·exact h' pins s σ H x y v u Q I rx ry q
theorem ZpF:OpR X (binaryOp .Add) (ZrV X.K):=by
 intro pins s σ H x y v u Q I rx ry h
 obtain ⟨l,b,xs,zs,rfl,rfl,hH,hB,hz,q⟩:=h
 cases rx
 cases ry
 exact Znk I hH hB hz q
theorem ZoK:OpR X (binaryOp .Add) (ZsI X.K):=by
 intro pins s σ H x y v u Q I rx ry h
 obtain ⟨a,b,xs,ys,rfl,rfl,ha,hb,hz,q0,q1,q2⟩:=h
 cases rx
 cases ry
 exact ZnD I ha hb hz q0 q1 q2
theorem ZpI:OpR X (binaryOp .Add) (ZpR X.K):=OpR.or Zri (OpR.or ZpF (OpR.or ZoK Zkn))
theorem Zt9(ha:DE X E a ta ma)(hb:DE X E b tb mb):DE X E (.BinOp a .Add b pos) (tOp (ZpR X.K) ta tb) (o2 yaA ma mb):=ZhP ZpI ZqH ha hb
theorem ZuP(ha:DE X E a ta ma)(hb:DE X E b tb mb):DE X E (.BinOp a .Sub b pos) (tOp (rI0 fun i j=>V.int (i - j)) ta tb) (o2 dSub ma mb):=ZhP Zrt ZoO ha hb
theorem Ztn{a b:Int}(h:ZaR a b=true):IntMulOk a b:=by
 have h':(a.natAbs<2^64∨b.natAbs<2^64)∨a.natAbs.log2+b.natAbs.log2<100000000:=by simpa [ZaR] using h
 rcases h' with (h' | h') | h'
 ·exact .of_left (intBits_le_iff.mpr h')
 ·exact .of_right (intBits_le_iff.mpr h')
 ·have la:a.natAbs<2^(a.natAbs.log2+1):=Nat.lt_log2_self
  have lb:b.natAbs<2^(b.natAbs.log2+1):=Nat.lt_log2_self
  exact IntMulOk.of_le (intBits_le_iff.mpr la) (intBits_le_iff.mpr lb) (by omega)
theorem Zpw{K:W.Frag}{mg:Str→Option Value}:OpD K mg (rI IntMulOk fun i j=>.int (i*j)) yaI:=Zj0 fun a b=>by
 unfold iMul
 by_cases h:ZaR a b=true
 ·rw [if_pos h];exact .inl ⟨_,rfl,Ztn h,fun _=>.int _⟩
 ·rw [if_neg h];exact .inr rfl
theorem ZtB(ha:DE X E a ta ma)(hb:DE X E b tb mb):DE X E (.BinOp a .Mult b pos) (tOp (rI IntMulOk fun i j=>V.int (i*j)) ta tb) (o2 yaI ma mb):=ZhP Zqs Zpw ha hb
theorem ZtR(ha:DE X E a ta ma)(hb:DE X E b tb mb):DE X E (.BinOp a .Mod b pos) (tOp (rI (fun _ j=>j≠0) fun i j=>V.int (i.fmod j)) ta tb) (o2 yaz ma mb):=ZhP Zpk ZoS ha hb
theorem Zuv(ha:DE X E a ta ma)(hb:DE X E b tb mb):DE X E (.BinOp a .FloorDiv b pos) (tOp (rI Zqr fun i j=>V.int (i.fdiv j)) ta tb) (o2 ya8 ma mb):=ZhP Zm4 ZqX ha hb
theorem ZtI(ha:DE X E a ta ma)(hb:DE X E b tb mb):DE X E (.BinOp a .Pow b pos) (tOp (rI CPow fun i j=>V.int (i^j.toNat)) ta tb) (o2 dPow ma mb):=ZhP ZrK Zqc ha hb
theorem Zt0(ha:DE X E a ta ma)(hb:DE X E b tb mb):DE X E (.BinOp a .LShift b pos) (tOp (rI CPow fun i j=>V.int (i*2^j.toNat)) ta tb) (o2 dShl ma mb):=ZhP Zs9 Zpf ha hb
theorem Zui(ha:DE X E a ta ma)(hb:DE X E b tb mb):DE X E (.BinOp a .RShift b pos) (tOp (rI (fun _ j=>0≤j) fun i j=>V.int (i/2^j.toNat)) ta tb) (o2 dShr ma mb):=ZhP Ztt Zqe ha hb
theorem Zuw(ha:DE X E a ta ma):DE X E (.UnaryOp .USub a pos) (tUn (rU fun i=>V.int (-i)) ta) (o1 dNeg ma):=⟨Zus Ztk ha.p,ZsX (Zp3 fun _ _ _ q=>⟨_,rfl,q⟩) ha.s⟩
theorem ydr(ha:DE X E a ta ma)(hb:DE X E b tb mb):DE X E (.Compare a [.Lt] [b] pos) (tOp (rI0 fun i j=>V.bl (decide (i<j))) ta tb) (o2 dLt ma mb):=ZnE Zru Zon ha hb (ZcC _)
theorem yds(ha:DE X E a ta ma)(hb:DE X E b tb mb):DE X E (.Compare a [.LtE] [b] pos) (tOp (rI0 fun i j=>V.bl (decide (i≤j))) ta tb) (o2 dLe ma mb):=ZnE ZrJ Zoh ha hb (ZcC _)
theorem ydt(ha:DE X E a ta ma)(hb:DE X E b tb mb):DE X E (.Compare a [.GtE] [b] pos) (tOp (rI0 fun i j=>V.bl (decide (j≤i))) ta tb) (o2 dGe ma mb):=ZnE Zs1 Zoe ha hb (ZcC _)
theorem ZtS(ha:DE X E a ta ma)(hb:DE X E b tb mb):DT X E (.Compare a [.Lt] [b] pos) (Zff (tOp (rI0 fun i j=>V.bl (decide (i<j))) ta tb)) (trb (o2 dLt ma mb)):=Zf1 Zru Zon ha hb (ZcC _)
theorem ZtF(ha:DE X E a ta ma)(hb:DE X E b tb mb):DT X E (.Compare a [.LtE] [b] pos) (Zff (tOp (rI0 fun i j=>V.bl (decide (i≤j))) ta tb)) (trb (o2 dLe ma mb)):=Zf1 ZrJ Zoh ha hb (ZcC _)
theorem Zq5(ha:DE X E a ta ma)(hb:DE X E b tb mb):DT X E (.Compare a [.Gt] [b] pos) (Zff (tOp (rI0 fun i j=>V.bl (decide (j<i))) ta tb)) (trb (o2 dGt ma mb)):=Zf1 Zuz Zsk ha hb (ZcC _)
theorem ZuA(ha:DE X E a ta ma)(hb:DE X E b tb mb):DT X E (.Compare a [.GtE] [b] pos) (Zff (tOp (rI0 fun i j=>V.bl (decide (j≤i))) ta tb)) (trb (o2 dGe ma mb)):=Zf1 Zs1 Zoe ha hb (ZcC _)
mutual
def pyD:D→PyData
 | .non=>.none
 | .bl b=>.bool b
 | .int i=>.int i
 | .str x=>.str x
 | .tup xs=>.tuple (pyDs xs)
 | .lst xs=>.list (pyDs xs)
 | _=>.none
def pyDs:List D→List PyData
 | []=>[]
 | x::r=>pyD x::pyDs r
end
mutual
theorem Zjq:∀x y:D,∀k l,Dl.plain k x=true→Dl.plain l y=true→eqD x y=PyData.eqv (pyD x) (pyD y)
 | .non,y,_,_,_,hy=>by cases y<;>first | rfl | (simp [Dl.plain] at hy)
 | .bl _,y,_,_,_,hy=>by cases y<;>first | rfl | (simp [Dl.plain] at hy)
 | .int _,y,_,_,_,hy=>by cases y<;>first | rfl | (simp [Dl.plain] at hy)
 | .str _,y,_,_,_,hy=>by cases y<;>first | rfl | (simp [Dl.plain] at hy)
 | .tup xs,y,k,l,hx,hy=>by
  cases y<;>first | rfl | (simp [Dl.plain] at hy;done) | skip
  rename_i ys
  cases k with
  | zero=>simp [Dl.plain] at hx
  | succ k =>
   cases l with
   | zero=>simp [Dl.plain] at hy
   | succ l=>exact ZiB xs ys k l (by simpa [Dl.plain] using hx) (by simpa [Dl.plain] using hy)
 | .lst xs,y,k,l,hx,hy=>by
  cases y<;>first | rfl | (simp [Dl.plain] at hy;done) | skip
  rename_i ys
  cases k with
  | zero=>simp [Dl.plain] at hx
  | succ k =>
   cases l with
   | zero=>simp [Dl.plain] at hy
   | succ l=>exact ZiB xs ys k l (by simpa [Dl.plain] using hx) (by simpa [Dl.plain] using hy)
 | .ty _,_,k,_,hx,_=>by cases k<;>simp [Dl.plain] at hx
 | .cls _,_,k,_,hx,_=>by cases k<;>simp [Dl.plain] at hx
 | .exc _,_,k,_,hx,_=>by cases k<;>simp [Dl.plain] at hx
 | .ins _ _ _,_,k,_,hx,_=>by cases k<;>simp [Dl.plain] at hx
theorem ZiB:∀xs ys:List D,∀k l,Dl.ZaA k xs=true→Dl.ZaA l ys=true→eqDs xs ys=PyData.eqvAll (pyDs xs) (pyDs ys)
 | [],[],_,_,_,_=>rfl
 | [],_::_,_,_,_,_=>rfl
 | _::_,[],_,_,_,_=>rfl
 | x::xs,y::ys,k,l,hx,hy=>by
  have h1:Dl.plain k x=true∧Dl.ZaA k xs=true:=by simpa [Dl.ZaA] using hx
  have h2:Dl.plain l y=true∧Dl.ZaA l ys=true:=by simpa [Dl.ZaA] using hy
  show (eqD x y&&eqDs xs ys)=(PyData.eqv (pyD x) (pyD y)&&PyData.eqvAll (pyDs xs) (pyDs ys))
  rw [Zjq x y k l h1.1 h2.1,ZiB xs ys k l h1.2 h2.2]
end
mutual
theorem Zds:∀(x:D) (k:Nat),Dl.plain k x=true→(pyD x).canLay0=true∧(pyD x).depth≤k
 | .non,_,_=>⟨rfl,VaT _⟩
 | .bl _,_,_=>⟨rfl,VaT _⟩
 | .int _,_,_=>⟨rfl,VaT _⟩
 | .str x,_,h=>⟨by simpa [Dl.plain,pyD,PyData.canLay0,PyData.strOk] using h,VaT _⟩
 | .tup xs,0,h=>by simp [Dl.plain] at h
 | .lst xs,0,h=>by simp [Dl.plain] at h
 | .tup xs,k+1,h=>by
  obtain ⟨h1,h2⟩:=Zej xs k (by simpa [Dl.plain] using h)
  exact ⟨h1,Nat.succ_le_succ h2⟩
 | .lst xs,k+1,h=>by
  obtain ⟨h1,h2⟩:=Zej xs k (by simpa [Dl.plain] using h)
  exact ⟨h1,Nat.succ_le_succ h2⟩
 | .ty _,k,h=>by cases k<;>simp [Dl.plain] at h
 | .cls _,k,h=>by cases k<;>simp [Dl.plain] at h
 | .exc _,k,h=>by cases k<;>simp [Dl.plain] at h
 | .ins _ _ _,k,h=>by cases k<;>simp [Dl.plain] at h
theorem Zej:∀(xs:List D) (k:Nat),Dl.ZaA k xs=true→PyData.canLayAll0 (pyDs xs)=true∧PyData.depthAll (pyDs xs)≤k
 | [],_,_=>⟨rfl,VaT _⟩
 | x::xs,k,h=>by
  have h':Dl.plain k x=true∧Dl.ZaA k xs=true:=by simpa [Dl.ZaA] using h
  obtain ⟨a1,a2⟩:=Zds x k h'.1
  obtain ⟨b1,b2⟩:=Zej xs k h'.2
  refine ⟨?_,Nat.max_le.mpr ⟨a2,b2⟩⟩
  show (PyData.canLay0 (pyD x)&&PyData.canLayAll0 (pyDs xs))=true
  rw [a1,b1];rfl
end
mutual
theorem Zko{K:W.Frag}{mg:Str→Option Value}{F:Hp}:∀{x:V} {d:D} {k:Nat},Rp K mg F x d→Dl.plain k d=true→DV K F x (pyD d)
 | _,_,_,.non,_=>.non
 | _,_,_,.bl b,_=>.bl b
 | _,_,_,.int b,_=>.int b
 | _,_,_,.str b,_=>.str b
 | _,_,0,.tup h r,p=>by simp [Dl.plain] at p
 | _,_,0,.lst h r,p=>by simp [Dl.plain] at p
 | _,_,k+1,.tup h r,p=>.tup h (Zhs r (by simpa [Dl.plain] using p))
 | _,_,k+1,.lst h r,p=>.lst h (Zhs r (by simpa [Dl.plain] using p))
 | _,_,k,.ty _,p=>by cases k<;>simp [Dl.plain] at p
 | _,_,k,.cls _,p=>by cases k<;>simp [Dl.plain] at p
 | _,_,k,.exc _ _,p=>by cases k<;>simp [Dl.plain] at p
 | _,_,k,.ins _ _ _ _ _,p=>by cases k<;>simp [Dl.plain] at p
theorem Zhs{K:W.Frag}{mg:Str→Option Value}{F:Hp}:∀{xs:List V} {ds:List D} {k:Nat},Rps K mg F xs ds→Dl.ZaA k ds=true→DVs K F xs (pyDs ds)
 | _,_,_,.nil,_=>.nil
 | _,_,k,.cons h r,p=>by
  have p':=(show Dl.plain k _=true∧Dl.ZaA k _=true by simpa [Dl.ZaA] using p)
  exact .cons (Zko h p'.1) (Zhs r p'.2)
end
mutual
theorem ZeM{K:W.Frag}{F H:Hp}(s:Same F H):∀{x:V} {d:PyData},DV K F x d→DV K H x d
 | _,_,.non=>.non
 | _,_,.bl b=>.bl b
 | _,_,.int b=>.int b
 | _,_,.str b=>.str b
 | _,_,.tup h r=>.tup (ZaD s h) (Zfi s r)
 | _,_,.lst h r=>.lst (s.seq h) (Zfi s r)
theorem Zfi{K:W.Frag}{F H:Hp}(s:Same F H):∀{xs:List V} {ds:List PyData},DVs K F xs ds→DVs K H xs ds
 | _,_,.nil=>.nil
 | _,_,.cons h r=>.cons (ZeM s h) (Zfi s r)
end
theorem Zop{K:W.Frag}{mg:Str→Option Value}:OpD K mg (rEqD K id) dEq:=by
 intro E F H x y dx dy s rx ry
 unfold dEq
 by_cases h:(Dl.plain 50 dx&&Dl.plain 50 dy)=true
 ·rw [if_pos h]
  have h':Dl.plain 50 dx=true∧Dl.plain 50 dy=true:=by simpa using h
  obtain ⟨a1,a2⟩:=Zds dx 50 h'.1
  obtain ⟨b1,b2⟩:=Zds dy 50 h'.2
  exact .ret s (.bl _) fun Q q=>⟨_,_,ZeM s (Zko rx h'.1),ZeM s (Zko ry h'.2),a1,b1,Vak a2 (by decide),by rw [←Zjq dx dy 50 50 h'.1 h'.2];exact q⟩
 ·rw [if_neg h];trivial
theorem Zr4{K:W.Frag}{mg:Str→Option Value}:OpD K mg (rEqD K not) dNe:=by
 intro E F H x y dx dy s rx ry
 unfold dNe
 by_cases h:(Dl.plain 50 dx&&Dl.plain 50 dy)=true
 ·rw [if_pos h]
  have h':Dl.plain 50 dx=true∧Dl.plain 50 dy=true:=by simpa using h
  obtain ⟨a1,a2⟩:=Zds dx 50 h'.1
  obtain ⟨b1,b2⟩:=Zds dy 50 h'.2
  exact .ret s (.bl _) fun Q q=>⟨_,_,ZeM s (Zko rx h'.1),ZeM s (Zko ry h'.2),a1,b1,Vak a2 (by decide),by rw [←Zjq dx dy 50 50 h'.1 h'.2];exact q⟩
 ·rw [if_neg h];trivial
theorem ydu{k:Nat}(hr:Room k X.A)(ha:DE X E a ta ma)(hb:DE X E b tb mb):DE X E (.Compare a [.Eq] [b] pos) (tOp (rEqD X.K id) ta tb) (o2 dEq ma mb):=ZnE (Zou hr.units) Zop ha hb (ZcC _)
theorem Zmo{k:Nat}(hr:Room k X.A)(ha:DE X E a ta ma)(hb:DE X E b tb mb):DT X E (.Compare a [.Eq] [b] pos) (Zff (tOp (rEqD X.K id) ta tb)) (trb (o2 dEq ma mb)):=Zf1 (Zou hr.units) Zop ha hb (ZcC _)
theorem ZqM{k:Nat}(hr:Room k X.A)(ha:DE X E a ta ma)(hb:DE X E b tb mb):DT X E (.Compare a [.NotEq] [b] pos) (Zff (tOp (rEqD X.K not) ta tb)) (trb (o2 dNe ma mb)):=Zf1 (Ztm hr.units) Zr4 ha hb (ZcC _)
theorem Zue{j pos'}(ha:DE X E a ta ma):DE X E (.Compare a [.Is] [.Constant .none j pos'] pos) (tOp (fun x y H Q=>y=V.non∧Q (V.bl (decide (x=V.non))) H) ta (tC .non)) (o1 dIsN ma):=⟨Zlr Zn9 ha.p ZjP (ZcC _),ZoG ha.s⟩
theorem ZsB{j pos'}(ha:DE X E a ta ma):DT X E (.Compare a [.Is] [.Constant .none j pos'] pos) (Zff (tOp (fun x y H Q=>y=V.non∧Q (V.bl (decide (x=V.non))) H) ta (tC .non))) (trb (o1 dIsN ma)):=⟨ZiN Zn9 ha.p ZjP (ZcC _),ZiC (ZoG ha.s)⟩
theorem Zmi{j pos'}(ha:DE X E a ta ma):DT X E (.Compare a [.IsNot] [.Constant .none j pos'] pos) (Zff (tOp (fun x y H Q=>y=V.non∧Q (V.bl (!decide (x=V.non))) H) ta (tC .non))) (trb (o1 ZkI ma)):=⟨ZiN Zqm ha.p ZjP (ZcC _),ZiC (ZqC ha.s)⟩
theorem ydd(ha:DE X E a ta ma)(hb:DE X E b tb mb)(hs:ZmD b:=by exact fun _ _=>rfl):DE X E (.Subscript a b pos) (tOp (rIxD X.K) ta tb) (o2 dIx ma mb):=⟨Ztg (IxR.or ZkW Zos) ha.p hb.p hs,ZmJ Zr7 ha.s hb.s⟩
theorem Ze1(ha:DE X E a ta ma)(he:∀whole,isTrue a X.env whole=(do let v ←whole;standAt a.pos;holding [v] (truthy v)):=by intro _;rfl):DT X E a (L2.tB ta) (trb ma):=⟨Zss ha.p he,st_b ha.s⟩
theorem ZqD(ha:DT X E a sa na):DW X E (.BoolOp .And [a] pos) sa na:=⟨Zqg ha.p,ha.s⟩
theorem Zgs(ha:DT X E a sa na):DW X E (.BoolOp .Or [a] pos) sa na:=⟨ZrS ha.p,ha.s⟩
theorem Zoy{rest:List Expr}(ha:DT X E a sa na)(hb:DW X E (.BoolOp .And (b::rest) pos) sb nb):DW X E (.BoolOp .And (a::b::rest) pos) (tAnd sa sb) (bAnd na nb):=⟨Zrl ha.p hb.p,Zrw ha.s hb.s⟩
theorem ZiR{rest:List Expr}(ha:DT X E a sa na)(hb:DW X E (.BoolOp .Or (b::rest) pos) sb nb):DW X E (.BoolOp .Or (a::b::rest) pos) (tOr sa sb) (bOr na nb):=⟨Zuy ha.p hb.p,Zt3 ha.s hb.s⟩
theorem DW.dt(h:DW X E a sa na):DT X E a sa na:=⟨h.p.pt,h.s⟩
theorem Zgx(ha:DT X E a sa na):DT X E (.UnaryOp .Not a pos) (tNot sa) (bNot na):=⟨ZsF ha.p,Zrn ha.s⟩
theorem ZtK{op}(ha:DE X E a ta ma):DE X E (.BoolOp op [a] pos) ta ma:=⟨ZrW ha.p,ha.s⟩
theorem ZuC{rest:List Expr}(ha:DE X E a ta ma)(hb:DE X E (.BoolOp .And (b::rest) pos) tb mb):DE X E (.BoolOp .And (a::b::rest) pos) (ZqJ ta tb) (eAnd ma mb):=⟨ZsH ha.p hb.p,Zrq ha.s hb.s⟩
theorem Zun(ha:DE X E a ta ma):DE X E (.UnaryOp .Not a pos) (Zqd ta) (eNot ma):=⟨ZrZ ha.p,ZsC ha.s⟩
theorem Zum(hc:DT X E c' sa na)(ha:DE X E a ta ma)(hb:DE X E b tb mb):DE X E (.IfExp c' a b pos) (tIf sa ta tb) (ife na ma mb):=⟨ZmH hc.p ha.p hb.p,Ztv hc.s ha.s hb.s⟩
theorem Za4:DA X E 0 [] tNil yaa:=⟨Zel,Zjv,ZkD⟩
theorem Zas(ha:DE X E e te me)(hr:DA X E n es t m)(hs:starEach (e::es) X.env=(false,eval e X.env)::starEach es X.env:=by rfl):DA X E (n+1) (e::es) (Zbv te t) (Zaa me m):=⟨Zb2 ha.p hr.p hs,Zlt ha.s hr.s,ZnO hr.n⟩
theorem ZsP{x1}(h:DA X E n es t m)(hn:n≤sizeLine:=by decide):DE X E (.Tuple es x1 pos) (tTup t) (mtp m):=⟨Zrh h.p,Zr8 h.s h.n hn⟩
theorem ZtY(h:DA X E n es t m)(hn:n≤sizeLine:=by decide):DE X E (.List es pos) (tLst t) (mls m):=⟨Zlv h.p,Zq9 h.s h.n hn⟩
theorem yc3{id:String}{r:List V→Hp→VK→Prop}{f:List D→Res D}{x:Str}{p:Pos}(hc:Zet X (.builtin id) r)(hf:CallD X.K X.mg r f)(hg:Gl X x)(hm:X.mg x=none)(hv:bootBuiltins x=some (.builtin id))(ha:DA X E n (e::es) t m)(hn:x ≠ "__name__" := by decide)(hdb:(x==("__debug__" : Str))=false:=by decide)
  (he:starEach (e::es) X.env=(false,eval e X.env)::starEach es X.env:=by rfl) (hpl:(backTo pos (starEach es X.env)).any (·.1)=false:=by rfl):DE X E (.Call (.Name x p) (e::es) [] pos) (tCB r t) (on f m):=⟨Zi8 hc hg hm hv ha.p hn hdb he hpl,Zsp hf ha.s⟩
theorem yde{T:String}{r:List V→Hp→VK→Prop}{f:List D→Res D}{x:Str}{p:Pos}(hc:Zet X (.type T) r)(hf:CallD X.K X.mg r f)(hg:Gl X x)(hm:X.mg x=none)(hv:bootBuiltins x=some (.type T))(ha:DA X E n (e::es) t m)(hn:x ≠ "__name__" := by decide)(hdb:(x==("__debug__" : Str))=false:=by decide)
  (he:starEach (e::es) X.env=(false,eval e X.env)::starEach es X.env:=by rfl) (hpl:(backTo pos (starEach es X.env)).any (·.1)=false:=by rfl):DE X E (.Call (.Name x p) (e::es) [] pos) (tCB r t) (on f m):=⟨Zh4 hc hg hm hv ha.p hn hdb he hpl,Zsp hf ha.s⟩
structure Cal(P:Program)(w:World)(K:W.Frag)(mg:Str→Option Value)(base:Heap)(n:Nat)(x:Str)(ps:List Str)(m:List D→Res D):Prop where
 ex:∃(f:Addr) (fd:FuncData),FnOk P w K mg base (CXR P w) n f fd ps (spD K mg ps.length m)∧Binds K fd ps []∧W.keepIn K (.ref f)=true∧mg x=some (.ref f)
theorem ZdD{k l:Nat}{x:Str}{ps:List Str}{f:List D→Res D}{p:Pos}(C:Cal X.prog X.w X.K X.mg X.base k x ps f)(hr:Room l X.A)(hn:k≤l)(hg:Gl X x)(hx:Zbe (CXR X.prog X.w) X E)(ha:DA X E n (e::es) t m)(hps:ps.length=n:=by rfl)
  (hdb:(x==("__debug__" : Str))=false:=by decide) (he:starEach (e::es) X.env=(false,eval e X.env)::starEach es X.env:=by rfl) (hpl:(backTo pos (starEach es X.env)).any (·.1)=false:=by rfl) :
  DE X E (.Call (.Name x p) (e::es) [] pos) (Zgf (spD X.K X.mg ps.length f) [] E t) (on f m):=by
 obtain ⟨g,fd,F,b,kp,hm⟩:=C.ex
 exact ⟨ZgU F (hr.mono hn) hg hm kp b .nil hx ha.p hdb he hpl,by rw [hps];exact ZpQ ha.s ha.n⟩
theorem Zn3{N:List Str}{scope:Scope}{cl:List (Str×Addr)}{C:Addr}{s:Shared}{H:Hp}{fp:List Addr}{pn:List (Addr×Obj)}:Zbe (CXR X.prog X.w) (Zar X N scope cl C s H fp pn) E0:=by
 intro pins σ H s e s' I h
 obtain ⟨_,_,_,_,_,q⟩:=h
 exact q.elim
end
section
variable{X:Cx}{E:XK}{a b e c' tg:Expr}{es:List Expr}{ta tb tc te:TE}{ma mb mc me:ME}{sa sb:TT}{na nb:MB}{t:TA}{m:MA}{pos:Pos}{n:Nat}
theorem Zqx:SlR X (rSlU X.K):=by
 intro pins s σ H x v vl vu lo hi sl Q I rx hs pl pu h
 obtain ⟨a,xs,rfl,hx,q1,q2⟩:=h
 by_cases hw:HT.sIx xs.length 0 lo=0∧HT.sIx xs.length xs.length hi=xs.length
 ·cases rx
  obtain ⟨its,r,ht,hz⟩:=I.tuple hx
  have hlen:its.toArray.size=xs.length:=by rw [Va9];exact r.length.symm
  exact ⟨"tuple", _,PyProof.Rows.slot_tuple_getitem.lookup,ht.typeIs,HT.ZdY ht hs pl pu (by rw [hlen];exact hw) ⟨.ref a,H,I,rfl,q1 hw⟩⟩
 ·exact ZrF pins s σ H (.ref a) v vl vu lo hi sl Q I rx hs pl pu ⟨a,xs,rfl,hx,hw,q2 hw⟩
theorem ZqW:DO X E none ZiZ pno:=⟨ZpM,ZeQ⟩
theorem ZoP(h:DE X E a ta ma):DO X E (some a) (ZoN ta) (pso ma):=⟨ZoQ h.p,ZeL h.s⟩
theorem ZuG{lo hi:Option Expr}{tl th:TO}{ml mh:Ev→Res (Option Int)}{p2:Pos}(ha:DE X E a ta ma)(hl:DO X E lo tl ml)(hh:DO X E hi th mh):DE X E (.Subscript a (.Slice lo hi none p2) pos) (tSl (rSlD X.K) ta tl th) (cut ma ml mh) :=
 ⟨ZnC (SlR.or ZqG Zqx) ha.p hl.p hh.p,Zrk ha.s hl.s hh.s⟩
theorem ZqZ{K:W.Frag}{d:D}{tn n:String}(ht:Zjy d=some tn)(hn:Zjz.contains n=true):W.kitOne K (.type tn) (.type n)=some (isTy tn n):=by
 have hn':n = "int"∨n = "bool"∨n = "str"∨n = "tuple"∨n = "list"∨n = "dict" := by
  simpa [Zjz] using hn
 have ht':tn = "NoneType"∨tn = "bool"∨tn = "int"∨tn = "str"∨tn = "tuple"∨tn = "list" := by
  cases d<;>simp [Zjy] at ht<;>subst ht<;>simp
 rcases ht' with rfl | rfl | rfl | rfl | rfl | rfl<;>rcases hn' with rfl | rfl | rfl | rfl | rfl | rfl <;>
  first
  | exact Zm1 K _
  | exact ZrX K (by decide +kernel) (by decide +kernel) (by decide +kernel)
def rIsi(K:W.Frag):List V→Hp→VK→Prop:=fun xs H Q=>∃x n tn b,xs=[x,.ty n]∧W.kitOne K (.type tn) (.type n)=some b∧Q (.bl b) H ∧
 ((x=.non∧tn = "NoneType")∨(∃y,x=.bl y∧tn = "bool")∨(∃y,x=.int y∧tn = "int")∨(∃y,x=.str y∧tn = "str")∨(∃a xs,x=.ref a∧SqT K H a xs∧tn = "tuple")∨(∃a xs,x=.ref a∧SqL K H a xs∧tn = "list"))
theorem ZlW:Zet X (.builtin "isinstance") (rIsi X.K):=by
 intro pins s σ H xs us Q I r h
 obtain ⟨x,n,tn,bb,rfl,e,q,h⟩:=h
 obtain ⟨u,w',rfl,r1,r2⟩:=vals2 r
 cases r2
 have fin:∀tk,EP X pins σ Q (.bool bb) { s with toks:=tk }:=fun tk=>⟨.bl bb,H,I.tok _,rfl,q⟩
 rcases h with ⟨rfl,rfl⟩ | ⟨y,rfl,rfl⟩ | ⟨y,rfl,rfl⟩ | ⟨y,rfl,rfl⟩ | ⟨a,xs,rfl,hq,rfl⟩ | ⟨a,xs,rfl,hq,rfl⟩
 ·exact Zeh I r1 .non e fin
 ·exact Zeh I r1 (.bl y) e fin
 ·exact Zeh I r1 (.int y) e fin
 ·exact Zeh I r1 (.str y) e fin
 ·cases r1
  obtain ⟨its,_,⟨o,h1,h2,_⟩,_⟩:=I.tuple hq
  exact VaU W.kitx_tuple I.kIn ⟨o,h1,h2⟩ e (fun z=>nomatch z) fin
 ·cases r1
  obtain ⟨its,_,⟨o,_,h1,h2,_⟩,_⟩:=I.list hq
  exact VaU W.kitx_list I.kIn ⟨o,h1,h2⟩ e (fun z=>nomatch z) fin
theorem Zlj{K:W.Frag}{mg:Str→Option Value}:CallD K mg (rIsi K) bIsi:=by
 intro E F H xs ds s r
 unfold bIsi
 split
 ·next d nm =>
  obtain ⟨x,y,rfl,rx,ry⟩:=r.two
  cases ry
  by_cases hn:Zjz.contains nm=true
  ·rw [if_pos hn]
   cases e:Zjy d with
   | none=>trivial
   | some tn =>
    have k:=ZqZ (K:=K) e hn
    show Ans mg E (Rp K mg) F H (.ok (.bl (isTy tn nm))) _
    refine .ret s (.bl _) fun Q q=>⟨x,nm,tn,_,rfl,k,q,?_⟩
    cases rx with
    | non=>cases e;exact .inl ⟨rfl,rfl⟩
    | bl y=>cases e;exact .inr (.inl ⟨y,rfl,rfl⟩)
    | int y=>cases e;exact .inr (.inr (.inl ⟨y,rfl,rfl⟩))
    | str y=>cases e;exact .inr (.inr (.inr (.inl ⟨y,rfl,rfl⟩)))
    | ty y=>cases e
    | cls y=>cases e
    | exc y h=>cases e
    | ins m h o q r=>cases e
    | tup h r=>cases e;exact .inr (.inr (.inr (.inr (.inl ⟨_,_,rfl,ZaD s h,rfl⟩))))
    | lst h r=>cases e;exact .inr (.inr (.inr (.inr (.inr ⟨_,_,rfl,s.seq h,rfl⟩))))
  ·rw [if_neg hn];trivial
 ·trivial
theorem ZgP{i:Nat}{x:Str}(hN:X.N.Nodup)(hi:X.N[i]?=some x)(hx:Loc X.env.scope x)(hl:i<n)(hf:X.fn x=true∨X.env.scope.names.lookup x=some .local:=by first | exact .inl rfl | exact .inr rfl | assumption):DG X n (.Name x pos) (Zea i) (gN i) :=
 ⟨Zpb hN hi hx hf,Zqn hl,fun _ _ _ h=>by cases h⟩
theorem ZlP:DGs X n [] gNil gs0:=⟨Zqw,Zqa,fun d ρ c h=>by
 unfold gs0 at h
 split at h<;>cases h⟩
theorem Zho{t:TG}{u:TGs}{g:MG}{gs:MGs}(h1:DG X n e t g)(h2:DGs X n es u gs)(hs:(assignEach (e::es) X.env).map (·.2)=assign e X.env::(assignEach es X.env).map (·.2):=by rfl):DGs X n (e::es) (ZpL t u) (gs1 g gs) :=
 ⟨Zns h1.p h2.p hs,Znw h1.s h2.s,fun d ρ c h=>by
  unfold gs1 at h
  split at h
  ·next d' ds =>
   cases eg:g d' ρ with
   | ok ρ' =>
    rw [eg] at h
    exact h2.x ds ρ' c h
   | ex c'=>exact h1.x d' ρ c' eg
   | bad=>rw [eg] at h;cases h
  ·cases h⟩
theorem Zog{k:Nat}{u:TGs}{g:MGs}{j:Nat}(hc:X.calm=true)(h:DGs X n es u g)(hn:(assignEach es X.env).length=j:=by rfl)(hst:(assignEach es X.env).findIdx? (·.1)=none:=by rfl):DG X n (.Tuple es k pos) (gSeq X.K j u) (gU j g):=by
 refine ⟨?_,Zrv h.s,fun d ρ c hh=>?_⟩
 ·intro pins s σ H v w Q I r hw
  rcases hw with hw | hw
  ·exact Zr2 hc h.p hn hst pins s σ H v w Q I r hw
  ·obtain ⟨a,xs,e1,hq,hl,hw⟩:=hw
   subst e1
   cases r
   obtain ⟨its,rv,ht,hz⟩:=I.list hq
   refine ZeT (I.ok.hd hc) ht.isList (by simp [hn,←hl,rv.length]) hst fun h' hx=>?_
   have I1:Inv X pins σ H { s with heap:=h' }:=I.kept (t':=s.toks) fun b o e=>hx b o (Vah (Vae e)) e
   exact h.p pins _ σ H xs _ Q I1 (by simpa using rv) hw
 ·unfold gU at hh
  cases ei:items d with
  | ok xs =>
   rw [ei] at hh
   have hh':(if xs.length=j then g xs ρ else .bad)=.ex c:=hh
   split at hh'
   ·exact h.x xs ρ c hh'
   ·cases hh'
  | ex c'=>unfold items at ei;split at ei<;>cases ei
  | bad=>rw [ei] at hh;cases hh
theorem Zbj(h:DE X E a ta ma):DI X E tg a (iSeq X.K ta) (iv ma):=by
 refine ⟨?_,Zro h.s⟩
 intro pins s σ H R I hw
 refine thn (h.p pins s σ H _ I hw) fun v s1 ⟨x,H1,I1,r1,q1⟩=>?_
 obtain ⟨p,rfl,q1⟩:=q1
 cases r1
 rcases q1 with ⟨⟨xs,hq⟩,q⟩ | ⟨⟨xs,hq⟩,q⟩
 ·obtain ⟨its,rv,pl,hz⟩:=I1.list hq
  refine Vbv pl.isList ?_
  refine ⟨s1.heap.objs.size,[s1.heap.objs.size],_,_,H1,rfl,I1.kept (t':=s1.toks) fun b o e=>VaD _ e,Zl7 p _,⟨_,VaH _ rfl,rfl,rfl⟩,fun b hb=>?_,q⟩
  have e:b=s1.heap.objs.size:=by simpa using hb
  subst e
  exact I1.fpOk (VaI _) (I1.hok.fresh (VaI _))
 ·obtain ⟨its,rv,pl,hz⟩:=I1.tuple hq
  refine wpAny_pyIter_tuple (show s1.heap.IsTuple p its.toArray from pl) ?_
  refine ⟨s1.heap.objs.size,[s1.heap.objs.size],_,_,H1,rfl,I1.kept (t':=s1.toks) fun b o e=>VaD _ e,Zks p _,⟨_,VaH _ rfl,rfl,rfl⟩,fun b hb=>?_,q⟩
  have e:b=s1.heap.objs.size:=by simpa using hb
  subst e
  exact I1.fpOk (VaI _) (I1.hok.fresh (VaI _))
theorem Zt6{p:Pos}(hg:Gl X "range")(hm:X.mg "range"=none)(ha:DA X E n [a] t m)(hs:starEach [a] X.env=[(false,eval a X.env)]:=by rfl):DI X E tg (.Call (.Name "range" p) [a] [] pos) (ZoY t) (r1 m):=⟨Zk8 hg hm ha.p hs,Zup ha.s⟩
theorem Ze0:∀(ds:List D) (k i:Nat) (d:D),(Dl.numbered k ds)[i]?=some d→∃x,ds[i]?=some x∧d=.tup [.int (k+i:Nat),x]
 | [],_,_,_,h=>by simp [Dl.numbered] at h
 | x::r,k,0,d,h=>by simp [Dl.numbered] at h;exact ⟨x,rfl,h.symm⟩
 | x::r,k,i+1,d,h=>by
  obtain ⟨y,h1,h2⟩:=Ze0 r (k+1) i d (by simpa [Dl.numbered] using h)
  exact ⟨y,by simpa using h1,by rw [h2,Nat.add_right_comm,Nat.add_assoc]⟩
theorem Ze6:∀(ds:List D) (k:Nat),(Dl.numbered k ds).length=ds.length
 | [],_=>rfl
 | _::r,k=>Vay (·+1) (Ze6 r (k+1))
theorem ZsG{K:W.Frag}{mg:Str→Option Value}{F:Hp}{a:Addr}{xs:List V}{ds:List D}(h:SqL K F a xs)(r:Rps K mg F xs ds):ItOk K mg F (Ite K a) (Dl.numbered 0 ds):=by
 intro F' H' s1 s2 i
 have hq:SqL K H' a xs:=(s1.trans s2).seq h
 refine ⟨fun d e=>?_,fun hl=>⟨xs,hq,by rw [r.length];rw [Ze6] at hl;exact hl⟩⟩
 obtain ⟨x',e',rfl⟩:=Ze0 ds 0 i d e
 obtain ⟨x,e1,rx⟩:=r.get e'
 refine ⟨⟨xs,x,hq,e1⟩,fun y H'' q=>?_⟩
 obtain ⟨T,p,hT,rfl,rfl,hp⟩:=q
 have e2:=hp xs hq
 rw [e1] at e2;cases e2
 refine ⟨_,.new s2 hT _,.tup (SqT.of Zag) (.cons ?_ (.cons ((rx.same s1).same (Zaz (s2.free hT) _)) .nil))⟩
 rw [Nat.zero_add];exact .int _
theorem ZgY{K:W.Frag}{H H':Hp}{p:Bool}{a:Addr}{xs:List V}(e:Same H H')(h:SqB K p H a xs):SqB K p H' a xs:=by
 cases p
 ·exact e.seq h
 ·exact ZaD e h
theorem Zk4{K:W.Frag}{mg:Str→Option Value}{F:Hp}{x:V}{d:D}{ds:List D}(r:Rp K mg F x d)(e:seqD d=.ok ds):∃p a xs,x=.ref a∧SqB K p F a xs∧Rps K mg F xs ds:=by
 cases r with
 | tup h q=>cases e;exact ⟨true,_,_,rfl,h,q⟩
 | lst h q=>cases e;exact ⟨false,_,_,rfl,h,q⟩
 | _=>cases e
theorem Zlp{d:D}{c:Str}:seqD d≠.ex c:=by cases d<;>intro h<;>cases h
theorem ZhR{elts:List Expr}{x1:Nat}{tpos p:Pos}(hg:Gl X "enumerate")(hm:X.mg "enumerate"=none)(ha:DA X E n [a] t m)(hs:starEach [a] X.env=[(false,eval a X.env)]:=by rfl):DI X E (.Tuple elts x1 tpos) (.Call (.Name "enumerate" p) [a] [] pos) (ZrH X.K t) (ZeU m):=by
 refine ⟨ZoL hg hm ha.p hs,?_⟩
 intro F0 H0 F H σ ρ rr
 refine (ha.s F0 H0 F H σ ρ rr).bind (w':=fun vs H1 R=>∃a,vs=[V.ref a]∧(∃xs,SqL X.K H1 a xs)∧R (Ite X.K a) H1) fun F1 H1 xs ds g1 rs=>?_
 unfold Zn1
 split
 ·next d =>
  obtain ⟨x,rfl,rx⟩:=rs.one
  cases d with
  | lst ds =>
   cases rx with
   | lst h r=>exact Ans.ret (R:=ItOk X.K X.mg) g1.s (ZsG h r) fun Q q=>⟨_,rfl,⟨_,g1.s.seq h⟩,q⟩
  | tup ds=>trivial
  | _=>trivial
 ·trivial
end
structure DTs(X:Cx)(E:XK)(ts:List Expr)(t:TT)(m:MB):Prop where
 p:PTs X ts t
 s:STt X.K X.mg E t m
section
variable{X:Cx}{E:XK}{a b e c' tg iter elt:Expr}{es ts:List Expr}{ta tb tc te:TE}{ma mb mc me:ME}{sa sb:TT}{na nb:MB}{t:TA}{m:MA}{pos spos pos':Pos}{n i j:Nat}{x y:Str}
theorem Zs3{K:W.Frag}{mg:Str→Option Value}{E:XK}:STt K mg E tYes yes:=fun _ _ _ _ _ _ r=>Ans.ret (R:=RB) r.ss rfl fun _ q=>q
theorem Zo4:DTs X E [] tYes yes:=⟨Zo9,Zs3⟩
theorem ZpY(h:DT X E a sa na):DTs X E [a] sa na:=⟨Zp9 h.p,h.s⟩
theorem Zb3{own:List Str}{cap:List (Str×Nat)}{scope:Scope}{cl:List (Str×Addr)}{wi:TI}{mi:MI}{g:Fam TG}{gm:MG}{tt:Fam TT}{tf:Fam TE}(hi:DI X E tg iter wi mi)(O:Zci X own cap scope cl)(hc:X.calm=true)
  (hg:∀C s H fp pn,DG (Zar X (own++cap.map (·.1)) scope cl C s H fp pn) own.length tg (g C s H fp pn) gm) (ht:∀C s H fp pn,DTs (Zar X (own++cap.map (·.1)) scope cl C s H fp pn) E0 ts (tt C s H fp pn) na)
  (he:∀C s H fp pn,DE (Zar X (own++cap.map (·.1)) scope cl C s H fp pn) E0 elt (tf C s H fp pn) me) (hts:ts.length≤1:=by decide) (hs:∀x,foldedSetIterable iter X.env x=pure x:=by intro _;rfl) :
  DE X E (.ListComp elt [⟨tg,iter,ts,0⟩] scope pos) (ZdM wi g tt tf own cap) (comp mi own.length (cap.map (·.2)) gm na me) :=
 ⟨ZiI hi.p O hc (fun C s H fp pn=>(hg C s H fp pn).p) (fun C s H fp pn=>(ht C s H fp pn).p) (fun C s H fp pn=>(he C s H fp pn).p) hts hs,
  Zl8 hi.s (fun C s H fp pn=>(hg C s H fp pn).s) (fun C s H fp pn=>(ht C s H fp pn).s) (fun C s H fp pn=>(he C s H fp pn).s)⟩
theorem ZiG{own:List Str}{cap:List (Str×Nat)}{scope:Scope}{cl:List (Str×Addr)}{wi:TI}{mi:MI}{g:Fam TG}{gm:MG}{tt:Fam TT}{tf:Fam TE}(hN:X.N.Nodup)(hix:X.N[i]?=some x)(hx:Loc X.env.scope x)(hi:DI X E tg iter wi mi)(O:Zci X own cap scope cl)(hc:X.calm=true)
  (hg:∀C s H fp pn,DG (Zar X (own++cap.map (·.1)) scope cl C s H fp pn) own.length tg (g C s H fp pn) gm) (ht:∀C s H fp pn,DTs (Zar X (own++cap.map (·.1)) scope cl C s H fp pn) E0 ts (tt C s H fp pn) na)
  (he:∀C s H fp pn,DE (Zar X (own++cap.map (·.1)) scope cl C s H fp pn) E0 elt (tf C s H fp pn) me) (hts:ts.length≤1:=by decide)
  (hsw:swapsWith (.ListComp elt [⟨tg,iter,ts,0⟩] scope pos) (some (.Name x pos')) spos.line X.env=pure true:=by rfl)
  (hs:∀x,foldedSetIterable iter X.env x=pure x:=by intro _;rfl)
  (hf:X.fn x=true∨X.env.scope.names.lookup x=some .local:=by first | exact .inl rfl | exact .inr rfl | assumption) :
  DS X E (.Assign [.Name x pos'] (.ListComp elt [⟨tg,iter,ts,0⟩] scope pos) spos) (tAsg (ZdM wi g tt tf own cap) (Zea i)) (st i (comp mi own.length (cap.map (·.2)) gm na me)) :=
 ⟨Zkv hN hix hx hi.p O hc (fun C s H fp pn=>(hg C s H fp pn).p) (fun C s H fp pn=>(ht C s H fp pn).p) (fun C s H fp pn=>(he C s H fp pn).p) hts hsw hs hf,
  Zn5 (Zl8 hi.s (fun C s H fp pn=>(hg C s H fp pn).s) (fun C s H fp pn=>(ht C s H fp pn).s) (fun C s H fp pn=>(he C s H fp pn).s))⟩
theorem ZeZ(hN:X.N.Nodup)(hi:X.N[i]?=some x)(hx:Loc X.env.scope x)(he:DE X E e te me)(hs:swapsWith e (some (.Name x pos')) spos.line X.env=pure false:=by rfl)(hf:X.fn x=true∨X.env.scope.names.lookup x=some .local:=by first | exact .inl rfl | exact .inr rfl | assumption) :
  DS X E (.Assign [.Name x pos'] e spos) (tAsg te (Zea i)) (st i me):=⟨ZlO hN hi hx he.p hs hf,Zn5 he.s⟩
theorem Zto{g:TG}{gm:MG}(he:DE X E e te me)(hg:DG X 1000 tg g gm)(hs:swapsWithSole [tg] e spos.line X.env=pure false:=by rfl)(hw:swappedStores [tg] e X.env=pure none:=by rfl)
  (h1:(assignEach [tg] X.env).map (·.2)=[assign tg X.env]:=by rfl):DS X E (.Assign [tg] e spos) (tAsg te g) (asg gm me):=⟨Zsx he.p hg.p hs hw h1,Zr6 he.s hg.s hg.x⟩
theorem Zsi(he:DE X E e te me)(hs:swapsWith e none spos.line X.env=pure false:=by rfl):DS X E (.Expr e spos) (Zdd te) (drp me):=⟨Zd0 he.p hs,ZqY he.s⟩
theorem Zbw(he:DE X E e te me):DS X E (.Return (some e) spos) (tRet te) (ret me):=⟨Zi6 he.p,Zsf he.s⟩
theorem Zov:DS X E (.Continue spos) ZqF cnt:=⟨Zis,ZrD⟩
theorem ZrI{st:Stmt}{u:TS}{k:MS}(h:DS X E st u k):DS X E st u (frz i k):=⟨h.p,Ztl h.s⟩
theorem ZaK:DSs X E [] Zim nop:=⟨Zhr,Zte⟩
theorem Zaq{st:Stmt}{u:TS}{k:MS}(h:DS X E st u k):DSs X E [st] u k:=⟨Zhh h.p,h.s⟩
theorem Zac{st:Stmt}{rest:List Stmt}{u u':TS}{k k':MS}(h:DS X E st u k)(h':DSs X E rest u' k'):DSs X E (st::rest) (tSeq u u') (sq k k'):=⟨ZbL h.p h'.p,ZsE h.s h'.s⟩
theorem Zco{as bs:List Stmt}{u u':TS}{k k':MS}(hc:DT X E c' sa na)(ha:DSs X E as u k)(hb:DSs X E bs u' k'):DS X E (.If c' as bs spos) (tIfS sa u u') (ifs na k k'):=⟨Zpu hc.p ha.p hb.p,ZuK hc.s ha.s hb.s⟩
theorem Zdo{body:List Stmt}{wi:TI}{mi:MI}{g:TG}{gm:MG}{u:TS}{k:MS}(hp:PassesOwn (model X.prog X.w) X.A X.env X.xe)(hc:X.calm=true)(hi:DI X E tg iter wi mi)(hg:DG X 1000 tg g gm)(hb:DSs X E body u k)
  (hs:∀x,foldedSetIterable iter X.env x=pure x:=by intro _;rfl):DS X E (.For tg iter body [] spos) (tFor wi g u) (for_ mi gm k):=⟨Zs5 hp hc hi.p hg.p hb.p hs,ZsW hi.s hg.s hg.x hb.s⟩
theorem ZsJ{body:List Stmt}{u:TS}{k:MS}{fu:Ev→Nat}(hp:PassesOwn (model X.prog X.w) X.A X.env X.xe)(hc:DT X E c' sa na)(hb:DSs X E body u k):DS X E (.While c' body [] spos) (Zjj sa u) (whl fu na k):=⟨ZmY hp hc.p hb.p,Znt hc.s hb.s⟩
theorem Zr9{px py pt:Pos}{kt k2 pt2}(hc:X.calm=true)(hN:X.N.Nodup)(hi:X.N[i]?=some x)(hj:X.N[j]?=some y)(hij:i≠j)
  (hx:X.env.scope.names.lookup x=some .local) (hy:X.env.scope.names.lookup y=some .local) (ha:DE X E a ta ma) (hb:DE X E b tb mb)
  (hw:swappedStores [.Tuple [.Name x px,.Name y py] kt pt] (.Tuple [a,b] k2 pt2) X.env=pure (some [x,y]):=by rfl)
  (hs:swapsWithSole [.Tuple [.Name x px,.Name y py] kt pt] (.Tuple [a,b] k2 pt2) spos.line X.env=pure false:=by rfl)
  (hs1:starEach [a,b] X.env=(false,eval a X.env)::starEach [b] X.env:=by rfl) (hs2:starEach [b] X.env=(false,eval b X.env)::starEach [] X.env:=by rfl) :
  DS X E (.Assign [.Tuple [.Name x px,.Name y py] kt pt] (.Tuple [a,b] k2 pt2) spos) (tPar i j (Zbv ta (Zbv tb tNil))) (par i j ma mb) :=
 ⟨Zr0 hc hN hi hj hij hx hy (Zb2 ha.p (Zb2 hb.p Zel hs2) hs1) hw hs,ZrP ha.s hb.s⟩
end
section
variable{P:Program}{w:World}{K:W.Frag}{mg:Str→Option Value}{base:Heap}{N ps:List Str}{qual x:Str}{scope:Scope}{f:Addr}{cd:Value}{A:Around}{outer:List Env}{s₀:Shared}{H₀:Hp}{E:XK}{t:TA}{m:MA}{n:Nat}
theorem ZjU{C:Addr}{np cpos pos:Pos}{e:Expr}{es:List Expr}(hg:Gl (cxOf (CXR P w) P w K mg base N qual scope f cd A outer s₀ H₀ E) x)(hm:mg x=some (.ref C))(hq:W.excIn K C Zf5 "ValueError.__new__"=true)
  (ha:DA (cxOf (CXR P w) P w K mg base N qual scope f cd A outer s₀ H₀ E) E n (e::es) t m) (hn:n≤1000:=by decide) (hd:(x==("__debug__" : Str))=false:=by decide)
  (he:starEach (e::es) (cxOf (CXR P w) P w K mg base N qual scope f cd A outer s₀ H₀ E).env=(false,eval e (cxOf (CXR P w) P w K mg base N qual scope f cd A outer s₀ H₀ E).env)::starEach es (cxOf (CXR P w) P w K mg base N qual scope f cd A outer s₀ H₀ E).env:=by rfl)
  (hpl:(backTo cpos (starEach es (cxOf (CXR P w) P w K mg base N qual scope f cd A outer s₀ H₀ E).env)).any (·.1)=false:=by rfl) :
  DS (cxOf (CXR P w) P w K mg base N qual scope f cd A outer s₀ H₀ E) E (.Raise (some (.Call (.Name x np) (e::es) [] cpos)) none pos) (Zok E C t) (rse x m):=by
 refine ⟨Zm7 hg hm hq ha.p hd he hpl,?_⟩
 intro F0 H0 F H σ ρ rr
 refine (ha.s F0 H0 F H σ ρ rr).stm (w':=fun vs H1 _=>vs.length≤1000∧E (.ref C) none H1) rr.g fun ds ed F1 H1 vs g1 rs=>?_
 exact fun D q=>⟨by rw [rs.length,ha.n ρ ds ed];exact hn,q F1 H1 C (rr.g.trans g1) hm⟩
theorem Zc6{F H:Hp}{vs:List V}{ds:List D}(s:Same F H)(r:Rps K mg F vs ds):Rep K mg F H F H (start N vs) (ev0 N.length ds):=by
 have hl:=r.length
 have key:∀(i:Nat) (c:Cl),(ev0 N.length ds)[i]?=some c→c=.no∨∃d,ds[i]?=some d∧c=.im d:=by
  intro i c e
  rw [ZhC] at e
  by_cases hi:i<ds.length
  ·rw [Va4 (by simpa using hi),Va5,VbH hi] at e
   exact .inr ⟨ds[i],VbH hi,(Vav e).symm⟩
  ·rw [Va2 (by simpa using hi),Va3] at e
   split at e
   ·exact .inl (Vav e).symm
   ·cases e
 refine ⟨.refl s,?_,fun i d e=>?_,fun i ds' e=>?_,fun i j ds' es' a e=>?_⟩
 ·rw [ZhC]
  unfold start
  simp [hl]
 ·rcases key i _ e with z | ⟨d',e1,z⟩
  ·cases z
  ·cases z
   obtain ⟨v,e2,rv⟩:=r.get e1
   refine ⟨v,?_,rv⟩
   have hi:i<vs.length:=(Vau.mp e2).1
   unfold start
   rw [Va4 (by simpa using hi),Va5,e2]
   rfl
 ·rcases key i _ e with z | ⟨d',e1,z⟩<;>cases z
 ·rcases key i _ e with z | ⟨d',e1,z⟩<;>cases z
theorem okD{st:Stmt}{fd:FuncData}{k:Nat}{mb:MS}(F:Fun K x x st f fd)(S:Zad N ps (Zab st))
  (h:∀(cdv:Value) (A:Around) (outer:List Env) (s:Shared) (H:Hp) (E:XK),Room k (A.deeper (envOfC x (Zab st) s.heap.objs.size f cdv))→∃t,DSs (cxOf (CXR P w) P w K mg base N x (Zab st) f cdv A outer s H E) E (ZaY st) t mb) :
  FnOk P w K mg base (CXR P w) (k+1) f fd ps (spD K mg ps.length (fn N.length mb)):=by
 obtain ⟨oc,od,kV,doc,pm,an,cdv,ct,osl,rfl,lk,hcd⟩:=F.ex
 refine Zka lk hcd S (fun vs H Q E q=>q.1) fun A outer s H vs Q E hr hsp=>?_
 obtain ⟨t,hd⟩:=h cdv A outer s H E hr
 refine ⟨t,hd.p,?_⟩
 obtain ⟨_,F0,ds,s0,rs,hb,hok,hex⟩:=hsp
 have z:=hd.s F0 H F0 H (start N vs) (ev0 N.length ds) (Zc6 s0 rs)
 unfold fn at hb hok hex
 cases e:mb (ev0 N.length ds) with
 | ok fl =>
  rw [e] at z hb hok hex
  cases fl with
  | nx ρ=>exact z _ fun F' H' σ' _ r'=>hok .non rfl F' H' .non r'.g .non
  | rt d=>exact z _ fun F' H' v g rv=>hok d rfl F' H' v g rv
  | bk ρ=>exact absurd rfl hb
  | ct ρ=>exact absurd rfl hb
 | ex c =>
  rw [e] at z hex
  exact z _ fun F' H' C g hc=>hex c rfl F' H' C g hc
 | bad=>rw [e] at hb;exact absurd rfl hb
theorem _root_.L2.Def.cal{st:Stmt}{k:Nat}{mb:MS}(D:Def K mg x st ps)(S:Zad N ps (Zab st))
  (h:∀(f:Addr) (cdv:Value) (A:Around) (outer:List Env) (s:Shared) (H:Hp) (E:XK),Room k (A.deeper (envOfC x (Zab st) s.heap.objs.size f cdv))→∃t,DSs (cxOf (CXR P w) P w K mg base N x (Zab st) f cdv A outer s H E) E (ZaY st) t mb) :
  Cal P w K mg base (k+1) x ps (fn N.length mb):=by
 obtain ⟨f,fd,F,b,hm⟩:=D.ex
 exact ⟨f,fd,okD F S (h f),b,F.kp,hm⟩
end
theorem Zso{P:Program}{w:World}{l:List Env}{H:Hp}{s s':Shared}{e:Value}(h:CXR P w l H s (fun _ _ _=>False) e s'):False:=by
 obtain ⟨_,_,_,_,_,q⟩:=h
 exact q
def ZmQ(K:W.Frag):Sp:=fun vs H Q _=>∃(a:Addr) (ns:List Int),vs=[.ref a]∧SqL K H a (ns.map V.int)∧ns.length≤63∧∀H',Q (.bl true) H'
theorem Zi2{K:W.Frag}{mg:Str→Option Value}{H:Hp}:∀ns:List Int,Rps K mg H (ns.map V.int) (ns.map D.int)
 | []=>.nil
 | n::r=>.cons (.int n) (Zi2 r)
theorem Zst{K:W.Frag}{mg:Str→Option Value}{m:List D→Res D}(h:∀ns:List Int,ns.length≤63→m [.lst (ns.map .int)]=.ok (.bl true)):∀vs H Q E,ZmQ K vs H Q E→spD K mg 1 m vs H Q E:=by
 rintro vs H Q E ⟨a,ns,rfl,hS,hl,q⟩
 have e:=h ns hl
 refine ⟨rfl,H,_,Same.refl _,.cons (.lst hS (Zi2 ns)) .nil,fun z=>?_,fun d e'=>?_,fun c e'=>?_⟩
 ·rw [e] at z;cases z
 ·rw [e] at e';cases e'
  intro F' H' x _ rx
  cases rx
  exact q H'
 ·rw [e] at e';cases e'
theorem Zo6{X:Cx}{N:List Str}{scope:Scope}{cl:List (Str×Addr)}{C':Addr}{s:Shared}{H:Hp}{fp:List Addr}{pn:List (Addr×Obj)}{e:Expr}{es:List Expr}{t:TA}{m:MA}{n k l:Nat}{x:Str}{ps:List Str}{f:List D→Res D}{p pos:Pos}
  (C:Cal X.prog X.w X.K X.mg X.base k x ps f) (hr:Room l X.A) (hn:k≤l) (hg:Gl (Zar X N scope cl C' s H fp pn) x) (ha:DA (Zar X N scope cl C' s H fp pn) E0 n (e::es) t m) (hps:ps.length=n:=by rfl)
  (hdb:(x==("__debug__" : Str))=false:=by decide) (he:starEach (e::es) (Zar X N scope cl C' s H fp pn).env=(false,eval e (Zar X N scope cl C' s H fp pn).env)::starEach es (Zar X N scope cl C' s H fp pn).env:=by rfl)
  (hpl:(backTo pos (starEach es (Zar X N scope cl C' s H fp pn).env)).any (·.1)=false:=by rfl) :
  DE (Zar X N scope cl C' s H fp pn) E0 (.Call (.Name x p) (e::es) [] pos) (Zgf (spD X.K X.mg ps.length f) [] E0 t) (on f m) :=
 ZdD (X:=Zar X N scope cl C' s H fp pn) C hr hn hg Zn3 ha hps hdb he hpl
section
variable{X:Cx}{E:XK}
theorem all_range:∀bs:List Bool,((List.range bs.length).all fun i=>bs.getD i true)=bs.all id
 | []=>rfl
 | b::r=>by
  rw [VaO,List.range_succ_eq_map,List.all_cons,List.all_map,List.all_cons,←all_range r]
  rfl
theorem Zgr:∀(bs:List Bool) (its:List Value),Vals (bs.map V.bl) its→its=bs.map Value.bool
 | [],_,.nil=>rfl
 | b::r,_,.cons h t=>by
  cases h
  rw [VaP,Zgr r _ t]
def rAll(K:W.Frag):List V→Hp→VK→Prop:=fun xs H Q=>∃(a:Addr) (bs:List Bool),xs=[.ref a]∧SqL K H a (bs.map V.bl)∧Q (.bl (bs.all id)) H
theorem Zd9(hc:X.calm=true):Zet X (.builtin "all") (rAll X.K):=by
 intro pins s σ H xs us Q I r h
 obtain ⟨a,bs,rfl,hq,q⟩:=h
 obtain ⟨u,rfl,r1⟩:=vals1 r
 cases r1
 obtain ⟨its,rv,pl,hz⟩:=I.list hq
 obtain rfl:=Zgr bs its rv
 have la:a<s.heap.objs.size:=by
  obtain ⟨o,_,ho,_⟩:=pl
  exact Vae ho
 refine call_all_walk (Vbv pl.isList ?_)
 refine ⟨s.heap.objs.size,_,_,_,_,_,fun i=>bs.getD i true,rfl,Walks.list (A:=X.A.in1) (I.ok.hd hc) s.heap.objs.size a (Vah la) (bs.map Value.bool).toArray,⟨⟨_,VaH _ rfl,rfl,rfl⟩,?_⟩,?_,fun h' tk k=>?_⟩
 ·exact pl.isList.at fun o e=>VaD _ e
 ·intro i v s2 Q2 E2 hP hQ
  have e:v=.bool (bs.getD i true):=by
   rw [List.getElem?_toArray,Va5] at hP
   cases q:bs[i]? with
   | none=>rw [q] at hP;cases hP
   | some b =>
    rw [q] at hP
    cases hP
    rw [List.getD_eq_getElem?_getD,q];rfl
  subst e
  exact VaB hQ
 ·have e:(List.range (bs.map Value.bool).toArray.size).all (fun i=>bs.getD i true)=bs.all id:=by
   rw [Va9,VaQ];exact all_range bs
  rw [e]
  exact ⟨.bl (bs.all id),H,I.kept fun b o z=>k b o (by simp;exact Vah (Vae z)) (VaD _ z),rfl,q⟩
theorem ZjC{K:W.Frag}{mg:Str→Option Value}{F:Hp}:∀{xs:List V} {ds:List D} {bs:List Bool},Rps K mg F xs ds→bools ds=.ok bs→xs=bs.map V.bl
 | _,_,_,.nil,e=>by cases e;rfl
 | _,_,bs,.cons (d:=d) (ds:=ds) h r,e=>by
  unfold bools at e
  cases d with
  | bl b =>
   cases q:bools ds with
   | ok bs' =>
    simp only [q,Res.bind] at e
    cases e
    cases h
    rw [VaP,ZjC r q]
   | ex c=>simp only [q,Res.bind] at e;cases e
   | bad=>simp only [q,Res.bind] at e;cases e
  | _=>cases e
theorem ZjQ{c:Str}:∀ds:List D,bools ds≠.ex c
 | [],h=>by cases h
 | d::r,h=>by
  unfold bools at h
  cases d with
  | bl b =>
   cases q:bools r with
   | ok bs'=>simp only [q,Res.bind] at h;cases h
   | ex c'=>exact ZjQ r q
   | bad=>simp only [q,Res.bind] at h;cases h
  | _=>cases h
theorem Zez{K:W.Frag}{mg:Str→Option Value}:CallD K mg (rAll K) bAll:=by
 intro E F H xs ds s r
 unfold bAll
 split
 ·next d =>
  obtain ⟨x,rfl,rx⟩:=r.one
  cases d with
  | lst es =>
   cases rx with
   | lst h rs =>
    show Ans mg E (Rp K mg) F H ((bools es).bind fun bs=>.ok (.bl (bs.all id))) _
    cases q:bools es with
    | ok bs =>
     have e:=ZjC rs q
     subst e
     exact Ans.ret s (.bl _) fun Q z=>⟨_,bs,rfl,s.seq h,z⟩
    | ex c=>exact absurd q (ZjQ es)
    | bad=>trivial
  | _=>trivial
 ·trivial
theorem Rps.three{K:W.Frag}{mg:Str→Option Value}{H:Hp}{xs:List V}{d e f:D}(h:Rps K mg H xs [d,e,f]):∃x y z,xs=[x,y,z]∧Rp K mg H x d∧Rp K mg H y e∧Rp K mg H z f:=by
 cases h with | cons h r=>obtain ⟨_,_,rfl,g⟩:=Rps.two r;exact ⟨_,_,_,rfl,h,g⟩
end
section
variable{K:W.Frag}{mg:Str→Option Value}{E:XK}{i:Nat}
theorem ZpC{t:TA}{m:MA}{n:Nat}(ha:SA K mg E t m)(hl:SAn n m)(hn:n≤sizeLine):SS K mg E (tAsg (tLst t) (Zea i)) (stO i (mls m)):=by
 intro F0 H0 F H σ ρ rr
 have h:=ha F0 H0 F H σ ρ rr
 unfold stO mls
 cases e:m ρ with
 | ok ds =>
  rw [e] at h
  exact fun D q=>h _ fun F' H' xs g rs=>⟨by rw [rs.length,hl ρ ds e];exact hn,fun p hp=>q F' _ _ g.f ((rr.gr g).own i hp rs)⟩
 | ex c =>
  rw [e] at h
  exact fun D q=>h _ fun F' H' C g hC=>q F' H' C (rr.g.trans g) hC
 | bad=>trivial
end
section
variable{X:Cx}{E:XK}{a b e c' tg iter elt:Expr}{es ts:List Expr}{ta tb tc te:TE}{ma mb mc me:ME}{sa sb:TT}{na nb:MB}{t:TA}{m:MA}{pos spos pos':Pos}{n i j:Nat}{x y:Str}
theorem ZoJ(hN:X.N.Nodup)(hi:X.N[i]?=some x)(hx:Loc X.env.scope x)(ha:DA X E n es t m)(hn:n≤sizeLine:=by decide)(hs:swapsWith (.List es pos) (some (.Name x pos')) spos.line X.env=pure false:=by rfl)(hf:X.fn x=true∨X.env.scope.names.lookup x=some .local:=by first | exact .inl rfl | exact .inr rfl | assumption) :
  DS X E (.Assign [.Name x pos'] (.List es pos) spos) (tAsg (tLst t) (Zea i)) (stO i (mls m)):=⟨ZlO hN hi hx (Zlv ha.p) hs hf,ZpC ha.s ha.n hn⟩
theorem Zof(i:Nat){np apos cpos:Pos}(he:DE X E e te me)(hN:X.N[i]?=some x:=by rfl)(hv:Vis X.env.scope x:=by first | exact Or.inl rfl | exact Or.inr (Or.inl rfl) | exact Or.inr (Or.inr rfl))(hd:(x==("__debug__" : Str))=false:=by decide)
  (hcd:(x==("__classdict__" : Str))=false:=by decide) (hbase:attributeBase (.Name x np) "append" X.env (eval (.Name x np) X.env)=eval (.Name x np) X.env:=by rfl)
  (hfew:((backTo cpos (starEach [e] X.env)).all (fun x=>!x.1)&&(backToKw cpos (keywordEach [] X.env)).all (fun x=>x.1.isSome)
   && decide ([e].length+([]:List Keyword).length+(if ([]:List Keyword).isEmpty then 0 else 1)<30))=true:=by rfl)
  (hline:(apos.endLine==cpos.line)=true:=by rfl) (hs:starEach [e] X.env=(false,eval e X.env)::starEach [] X.env:=by rfl) (hplain:(backTo cpos (starEach [] X.env)).any (·.1)=false:=by rfl)
  (hsw:swapsWith (.Call (.Attribute (.Name x np) "append" apos) [e] [] cpos) none spos.line X.env=pure false:=by rfl) :
  DS X E (.Expr (.Call (.Attribute (.Name x np) "append" apos) [e] [] cpos) spos) (Zdd (tBM X.K "list" ZbE (tVar i) (Zbv te tNil))) (app i me) :=
 ⟨Zd0 (ZmR VbL PySem.F.slot_list_append PySem.F.type_list_append ZfS (Zf4 hN hv hd hcd) (Zb2 he.p Zel hs) hbase hfew hline hs hplain) hsw,
  Zrg he.s fun H a xs h=>.inl ⟨rfl,xs,SqL.of h⟩⟩
end
end L2.Ds
namespace L2
open PySem PySem.Spec PyProof.Rows PySem.Calls
end L2
namespace L2.Ds
open PySem PySem.Spec PyProof.Rows Dl
section
variable{K:W.Frag}{mg:Str→Option Value}
def del(F:Hp)(a:Addr):Hp:=fun b=>if b=a then none else F b
theorem Zgp{F:Hp}{a:Addr}:del F a a=none:=if_pos rfl
theorem Zeb{F:Hp}{a b:Addr}(h:b≠a):del F a b=F b:=if_neg h
theorem Rep.look{F0 H0 F H:Hp}{σ:St}{ρ:Ev}{i:Nat}{ds:List D}(r:Rep K mg F0 H0 F H σ ρ)(e:ρ[i]?=some (.ow ds)) :
  ∃F',Rep K mg F0 H0 F' H σ (ρ.set i (.im (.lst ds)))∧∀F1 H1,Gr F' H F1 H1→∃F2,Gr F H F2 H1:=by
 obtain ⟨a,xs,e2,e4,e5,e3,hr⟩:=r.ow i ds e
 have sF:Same F (upd F a (.lst xs)):=Zaz e5 _
 refine ⟨upd F a (.lst xs),⟨⟨r.g.f.trans sF,fun b o q=>?_,fun b o q1 q2=>?_⟩,by rw [VbE];exact r.len,fun j u q=>?_,fun j es q=>?_,fun j k es ts b q1 q2 q3 q4=>?_⟩,fun F1 H1 g=>⟨del F1 a,⟨fun b o q=>?_,fun b o q=>?_,fun b o q1 q2=>?_⟩⟩⟩
 ·by_cases hb:b=a
  ·subst hb;rw [Zag] at q;cases q;exact e3
  ·rw [Zaf hb] at q;exact r.g.s b o q
 ·rw [Zaf (Zae q2 e4)];exact r.g.o b o q1 q2
 ·rcases Zav q with ⟨rfl,z,_⟩ | ⟨_,q⟩
  ·cases z
   exact ⟨.ref a,e2,.lst (SqL.of Zag) (hr.same sF)⟩
  ·obtain ⟨x,h1,h2⟩:=r.im j u q
   exact ⟨x,h1,h2.same sF⟩
 ·rcases Zav q with ⟨_,z,_⟩ | ⟨hij,q⟩
  ·cases z
  ·obtain ⟨b,ys,h1,h2,h3,h4,h5⟩:=r.ow j es q
   have nb:b≠a:=by
    rintro rfl
    exact hij (r.ne i j ds es b e q e2 h1)
   exact ⟨b,ys,h1,h2,by rw [Zaf nb];exact h3,h4,h5.same sF⟩
 ·rcases Zav q1 with ⟨_,z,_⟩ | ⟨_,q1⟩
  ·cases z
  ·rcases Zav q2 with ⟨_,z,_⟩ | ⟨_,q2⟩
   ·cases z
   ·exact r.ne j k es ts b q1 q2 q3 q4
 ·rw [Zeb (Zae q e5)];exact g.f b o (sF b o q)
 ·by_cases hb:b=a
  ·subst hb;rw [Zgp] at q;cases q
  ·rw [Zeb hb] at q;exact g.s b o q
 ·by_cases hb:b=a
  ·subst hb
   rw [e3] at q2;cases q2
   exact ⟨Zgp,g.s _ _ (g.f _ _ Zag)⟩
  ·rw [Zeb hb]
   exact g.o b o (by rw [Zaf hb];exact q1) q2
theorem ZqP{F F':Hp}{x:V}{d d':D}(r:Rp K mg F x d)(e:ZhJ d=.ok d'):Rp K mg F' x d':=by
 cases r with
 | non=>cases e;exact .non
 | bl b=>cases e;exact .bl b
 | int b=>cases e;exact .int b
 | str b=>cases e;exact .str b
 | _=>cases e
theorem ZqK{d:D}{c:Str}:ZhJ d≠.ex c:=by cases d<;>intro h<;>cases h
theorem ZtO{E:XK}{t:TE}{m:ME}(i:Nat)(h:SE K mg E t m):SE K mg E t (pk i m):=by
 intro F0 H0 F H σ ρ rr
 unfold pk getO
 split
 ·next ds e =>
  obtain ⟨F',r',back⟩:=rr.look e
  have z:=h F0 H0 F' H σ _ r'
  show Ans mg E (Rp K mg) F H ((m (ρ.set i (.im (.lst ds)))).bind ZhJ) _
  cases em:m (ρ.set i (.im (.lst ds))) with
  | ok d =>
   rw [em] at z
   show Ans mg E (Rp K mg) F H (ZhJ d) _
   cases es:ZhJ d with
   | ok d' =>
    exact fun Q q=>z Q fun F1 H1 b g1 rb=>by
     obtain ⟨F2,g2⟩:=back F1 H1 g1
     exact q F2 H1 b g2 (ZqP rb es)
   | ex c=>exact absurd es ZqK
   | bad=>trivial
  | ex c =>
   rw [em] at z
   exact fun Q q=>z Q fun F1 H1 C g1 hC=>by
    obtain ⟨F2,g2⟩:=back F1 H1 g1
    exact q F2 H1 C g2 hC
  | bad=>trivial
 ·trivial
theorem Zuc{E:XK}{t:TT}{m:MB}(i:Nat)(h:STt K mg E t m):STt K mg E t (pkB i m):=by
 intro F0 H0 F H σ ρ rr
 unfold pkB getO
 split
 ·next ds e =>
  obtain ⟨F',r',back⟩:=rr.look e
  have z:=h F0 H0 F' H σ _ r'
  show Ans mg E RB F H (m (ρ.set i (.im (.lst ds)))) _
  cases em:m (ρ.set i (.im (.lst ds))) with
  | ok d =>
   rw [em] at z
   exact fun Q q=>z Q fun F1 H1 b g1 rb=>by
    obtain ⟨F2,g2⟩:=back F1 H1 g1
    exact q F2 H1 b g2 rb
  | ex c =>
   rw [em] at z
   exact fun Q q=>z Q fun F1 H1 C g1 hC=>by
    obtain ⟨F2,g2⟩:=back F1 H1 g1
    exact q F2 H1 C g2 hC
  | bad=>trivial
 ·trivial
end
section
variable{X:Cx}{E:XK}{k l i j:Nat}{x y:Str}{Cy:Addr}{ps:List Str}{f:List D→Res D}{t:TA}{m:MA}{u:Addr→TS}{b:MS}{e:Expr}{es:List Expr}{p yp cpos epos hpos pos:Pos}{b₀:Stmt}{suite:List Stmt}{hits:List Str}{te:TE}{me:ME}{tt:TT}{mt:MB}
theorem ydv(i:Nat)(h:DE X E e te me):DE X E e te (pk i me):=⟨h.p,ZtO i h.s⟩
theorem Zuf(i:Nat)(h:DT X E e tt mt):DT X E e tt (pkB i mt):=⟨h.p,Zuc i h.s⟩
end
section
variable{X:Cx}{pins:List (Addr×Obj)}{σ:St}{H:Hp}{s:Shared}
mutual
theorem Zom(I:Inv X pins σ H s):∀{x:V} {d d':PyData},DV X.K H x d→DV X.K H x d'→d=d'
 | _,_,_,.non,.non=>rfl
 | _,_,_,.bl _,.bl _=>rfl
 | _,_,_,.int _,.int _=>rfl
 | _,_,_,.str _,.str _=>rfl
 | _,_,_,.tup h q,.tup h' q'=>by
  have e:=I.tuple_inj h h'
  subst e
  rw [ZiV I q q']
 | _,_,_,.lst h q,.lst h' q'=>by
  have e:=I.list_inj h h'
  subst e
  rw [ZiV I q q']
 | _,_,_,.tup h q,.lst h' q'=>by
  obtain ⟨_,_,⟨o,e1,e2,_⟩,_⟩:=I.tuple h
  obtain ⟨_,_,⟨o',_,e1',e2',_⟩,_⟩:=I.list h'
  rw [e1] at e1';cases e1'
  rw [e2] at e2';simp at e2'
 | _,_,_,.lst h q,.tup h' q'=>by
  obtain ⟨_,_,⟨o,e1,e2,_⟩,_⟩:=I.tuple h'
  obtain ⟨_,_,⟨o',_,e1',e2',_⟩,_⟩:=I.list h
  rw [e1] at e1';cases e1'
  rw [e2] at e2';simp at e2'
theorem ZiV(I:Inv X pins σ H s):∀{xs:List V} {ds ds':List PyData},DVs X.K H xs ds→DVs X.K H xs ds'→ds=ds'
 | _,_,_,.nil,.nil=>rfl
 | _,_,_,.cons h r,.cons h' r'=>by rw [Zom I h h',ZiV I r r']
end
def hitE(X:Cx)(H:Hp)(dx:PyData)(u:Value):Bool:=@decide (∃y d,RelV y u∧DV X.K H y d∧PyData.eqv d dx=true) (Classical.propDecidable _)
theorem Zms(I:Inv X pins σ H s){dx d:PyData}{u:Value}{y:V}(r:RelV y u)(h:DV X.K H y d):hitE X H dx u=PyData.eqv d dx:=by
 unfold hitE
 cases e:PyData.eqv d dx with
 | true=>exact @Vbm _ (Classical.propDecidable _) ⟨y,d,r,h,e⟩
 | false =>
  refine @Vac _ (Classical.propDecidable _) ?_
  rintro ⟨y',d',r',h',e'⟩
  have ey:=r.inj r'
  subst ey
  rw [Zom I h h',e'] at e
  cases e
theorem Zit(I:Inv X pins σ H s){dx:PyData}:∀{ys:List V} {its:List Value} {ds:List PyData},Vals ys its→DVs X.K H ys ds→its.any (hitE X H dx)=ds.any fun d=>PyData.eqv d dx
 | _,_,_,.nil,.nil=>rfl
 | _,_,_,.cons r1 r2,.cons h1 h2=>by rw [List.any_cons,List.any_cons,Zit I r2 h2,Zms I r1 h1]
theorem Zow(I:Inv X pins σ H s):∀{ys:List V} {its:List Value} {ds:List PyData} {u:Value},Vals ys its→DVs X.K H ys ds→PyData.canLayAll0 ds=true→u∈its→∃y d,RelV y u∧DV X.K H y d∧d.canLay0=true
 | _,_,_,_,.nil,.nil,_,hu=>by cases hu
 | _,_,_,u,.cons r1 r2,.cons h1 h2,hc,hu=>by
  have hc':=(show PyData.canLay0 _=true∧PyData.canLayAll0 _=true by simpa [PyData.canLayAll0] using hc)
  rcases Var.mp hu with rfl | hu
  ·exact ⟨_,_,r1,h1,hc'.1⟩
  ·exact Zow I r2 h2 hc'.2 hu
def rInD(K:W.Frag)(f:Bool→Bool):R2:=fun x y H Q=>∃a ys dx dys,y=.ref a∧(SqL K H a ys∨SqT K H a ys)∧DV K H x dx∧DVs K H ys dys∧dx.canLay0=true∧PyData.canLayAll0 dys=true∧dx.depth≤50∧Q (.bl (f (dys.any fun d=>PyData.eqv d dx))) H
end
section
variable{X:Cx}{E:XK}
theorem ZpX(hu:X.A.units+64<cLine):OpR X (compareOp .NotIn) (rInD X.K not):=by
 intro pins s σ H x y v u Q I rx ry h
 obtain ⟨a,ys,dx,dys,rfl,hq,h1,h2,h3,h4,h5,q⟩:=h
 cases ry
 obtain ⟨bs,rb⟩:=h1.reads I rx
 have eq:∀{its:List Value},Vals ys its→∀u,u∈its.toArray→PySem.SeqAt.EqAt X.A.in1 s u v (hitE X H dx u):=fun {its} rv u hm=>by
  obtain ⟨y',d',r',h',c'⟩:=Zow I rv h2 h4 (by simpa using hm)
  obtain ⟨as,ra⟩:=h'.reads I r'
  rw [Zms I r' h']
  exact PySem.SeqAt.eqAt_reads d' dx X.A.in1 s u v as bs ra rb c' h3 (by show X.A.units+1+_<_;omega)
 rcases hq with hq | hq
 ·obtain ⟨its,rv,pl,hz⟩:=I.list hq
  refine PySem.SeqAt.notIn_listAt (hitE X H dx) pl.isList (eq rv) ?_
  have e:its.toArray.any (hitE X H dx)=dys.any fun d=>PyData.eqv d dx:=by rw [List.any_toArray];exact Zit I rv h2
  rw [e]
  exact ⟨.bl _,H,I,rfl,q⟩
 ·obtain ⟨its,rv,pl,hz⟩:=I.tuple hq
  refine PySem.SeqAt.notIn_tupleAt (hitE X H dx) (show s.heap.IsTuple a its.toArray from pl) (eq rv) ?_
  have e:its.toArray.any (hitE X H dx)=dys.any fun d=>PyData.eqv d dx:=by rw [List.any_toArray];exact Zit I rv h2
  rw [e]
  exact ⟨.bl _,H,I,rfl,q⟩
theorem Zoa(x:D)(k:Nat)(hx:Dl.plain k x=true):∀(ys:List D) (l:Nat),Dl.ZaA l ys=true→((pyDs ys).any fun d=>PyData.eqv d (pyD x))=inD x ys
 | [],_,_=>rfl
 | y::r,l,h=>by
  have h':Dl.plain l y=true∧Dl.ZaA l r=true:=by simpa [Dl.ZaA] using h
  show (PyData.eqv (pyD y) (pyD x)||(pyDs r).any _)=(eqD y x||inD x r)
  rw [Zoa x k hx r l h'.2,←Zjq y x l k h'.1 hx]
theorem Zq0{K:W.Frag}{mg:Str→Option Value}{f:Bool→Bool}{E:XK}{F H:Hp}{x y:V}{dx dy:D}(s:Same F H)(rx:Rp K mg F x dx)(ry:Rp K mg F y dy) :
  Ans mg E (Rp K mg) F H ((seqD dy).bind fun ys=>if Dl.plain 50 dx&&Dl.ZaA 50 ys then .ok (.bl (f (inD dx ys))) else .bad) (rInD K f x y H):=by
 have fin:∀(a:Addr) (ws:List V) (ys:List D),y=.ref a→(SqL K H a ws∨SqT K H a ws)→Rps K mg F ws ys→Ans mg E (Rp K mg) F H (if Dl.plain 50 dx&&Dl.ZaA 50 ys then .ok (.bl (f (inD dx ys))) else .bad) (rInD K f x y H):=by
  rintro a ws ys rfl hq rs
  by_cases hp:(Dl.plain 50 dx&&Dl.ZaA 50 ys)=true
  ·rw [if_pos hp]
   rw [Vbj] at hp
   obtain ⟨c1,c2⟩:=Zds dx 50 hp.1
   obtain ⟨c3,_⟩:=Zej ys 50 hp.2
   refine Ans.ret s (.bl _) fun Q q=>⟨a,ws,pyD dx,pyDs ys,rfl,hq,ZeM s (Zko rx hp.1),Zfi s (Zhs rs hp.2),c1,c3,c2,?_⟩
   rw [Zoa dx 50 hp.1 ys 50 hp.2]
   exact q
  ·rw [if_neg hp];trivial
 cases dy with
 | lst ys =>
  cases ry with
  | lst h r=>exact fin _ _ ys rfl (.inl (s.seq h)) r
 | tup ys =>
  cases ry with
  | tup h r=>exact fin _ _ ys rfl (.inr (ZaD s h)) r
 | _=>trivial
theorem Zpl{K:W.Frag}{mg:Str→Option Value}:OpD K mg (rInD K not) dNin:=fun _ _ _ _ _ _ _ s rx ry=>Zq0 (f:=not) s rx ry
variable{a b:Expr}{ta tb:TE}{ma mb:ME}{pos:Pos}
theorem Zlu{k:Nat}(hr:Room k X.A)(ha:DE X E a ta ma)(hb:DE X E b tb mb)(hm:behindInMarks .NotIn b=false:=by rfl):DT X E (.Compare a [.NotIn] [b] pos) (Zff (tOp (rInD X.K not) ta tb)) (trb (o2 dNin ma mb)):=Zf1 (ZpX hr.units) Zpl ha hb hm
end
def AnsO(K:W.Frag)(mg:Str→Option Value)(E:XK)(F0 H0:Hp)(r:Res (List D))(w:Ends→Prop):Prop :=
 match r with
 | .ok ds=>∀D:Ends,(∀F' H' a xs,Gr F0 H0 F' H'→H' a=none→Rps K mg F' xs ds→D.rt (.ref a) (upd H' a (.lst xs)))→w D
 | .ex c=>∀D:Ends,(∀F' H' C,Gr F0 H0 F' H'→mg c=some (.ref C)→E (.ref C) none H')→w D
 | .bad=>True
structure DSo(X:Cx)(E:XK)(sts:List Stmt)(t:TS)(m:Ev→Res (List D)):Prop where
 p:PSs X sts t
 s:∀F0 H0 F H σ ρ,Rep X.K X.mg F0 H0 F H σ ρ→AnsO X.K X.mg E F0 H0 (m ρ) (fun D=>t D σ H)
section
variable{X:Cx}{E:XK}{a b e c' tg iter elt:Expr}{es ts:List Expr}{ta tb tc te:TE}{ma mb mc me:ME}{sa sb:TT}{na nb:MB}{t:TA}{m:MA}{pos spos pos':Pos}{n i j:Nat}{x y:Str}
theorem ZmM{own:List Str}{cap:List (Str×Nat)}{scope:Scope}{cl:List (Str×Addr)}{wi:TI}{mi:MI}{g:Fam TG}{gm:MG}{tt:Fam TT}{tf:Fam TE}(hi:DI X E tg iter wi mi)(O:Zci X own cap scope cl)(hc:X.calm=true)
  (hg:∀C s H fp pn,DG (Zar X (own++cap.map (·.1)) scope cl C s H fp pn) own.length tg (g C s H fp pn) gm) (ht:∀C s H fp pn,DTs (Zar X (own++cap.map (·.1)) scope cl C s H fp pn) E0 ts (tt C s H fp pn) na)
  (he:∀C s H fp pn,DE (Zar X (own++cap.map (·.1)) scope cl C s H fp pn) E0 elt (tf C s H fp pn) me) (hts:ts.length≤1:=by decide) (hs:∀x,foldedSetIterable iter X.env x=pure x:=by intro _;rfl) :
  DSo X E [.Return (some (.ListComp elt [⟨tg,iter,ts,0⟩] scope pos)) spos] (tRet (ZdM wi g tt tf own cap)) (roC mi own.length (cap.map (·.2)) gm na me):=by
 refine ⟨Zhh (Zi6 (ZiI hi.p O hc (fun C s H fp pn=>(hg C s H fp pn).p) (fun C s H fp pn=>(ht C s H fp pn).p) (fun C s H fp pn=>(he C s H fp pn).p) hts hs)),fun F0 H0 F H σ ρ rr=>?_⟩
 have h:=hi.s F0 H0 F H σ ρ rr
 unfold roC
 cases e:mi ρ with
 | ok ds =>
  rw [e] at h
  show AnsO X.K X.mg E F0 H0 (if ds.length≤LIM then noEx (Dl.Zai gm na me (noA own.length (yar ρ (cap.map (·.2)))) ds) else .bad) _
  by_cases hl:ds.length≤LIM
  ·rw [if_pos hl]
   cases e2:Dl.Zai gm na me (noA own.length (yar ρ (cap.map (·.2)))) ds with
   | ok ys=>exact fun D q=>h _ fun F1 H1 J g1 jo=>fun C s H2 fp pn=>ZkM (rr.gr g1) jo (hg C s H2 fp pn).s (ht C s H2 fp pn).s (he C s H2 fp pn).s hl e2 _ fun F' H' xs g2 rs _ p hp=>q F' H' p xs ((rr.g.trans g1).trans g2) hp rs
   | ex c=>trivial
   | bad=>trivial
  ·rw [if_neg hl];trivial
 | ex c =>
  rw [e] at h
  exact fun D q=>h _ fun F' H' C g hC=>q F' H' C (rr.g.trans g) hC
 | bad=>trivial
end
def spO(K:W.Frag)(mg:Str→Option Value)(n:Nat)(f:List D→Res D):Sp:=fun vs H Q E=>vs.length=n∧∃F ds,Same F H∧Rps K mg F vs ds∧f ds≠.bad ∧
 (∀d,f ds=.ok d→∃es,d=.lst es∧∀F' H' a xs,Gr F H F' H'→H' a=none→Rps K mg F' xs es→Q (.ref a) (upd H' a (.lst xs)))∧(∀c,f ds=.ex c→∀F' H' C,Gr F H F' H'→mg c=some (.ref C)→E (.ref C) none H')
def Zlw(f:List D→Res D):Prop:=∀ds d,f ds=.ok d→∃es,d=.lst es
theorem Zpt{n:Nat}{m:Ev→Res (List D)}:Zlw (fnO n m):=by
 intro ds d h
 unfold fnO at h
 cases e:m (ev0 n ds) with
 | ok es=>rw [e] at h;cases h;exact ⟨es,rfl⟩
 | ex c=>rw [e] at h;cases h
 | bad=>rw [e] at h;cases h
structure CalO(P:Program)(w:World)(K:W.Frag)(mg:Str→Option Value)(base:Heap)(n:Nat)(x:Str)(ps:List Str)(m:List D→Res D):Prop where
 ex:∃(f:Addr) (fd:FuncData),FnOk P w K mg base (CXR P w) n f fd ps (spO K mg ps.length m)∧Binds K fd ps []∧W.keepIn K (.ref f)=true∧mg x=some (.ref f)
 l:Zlw m
section
variable{P:Program}{w:World}{K:W.Frag}{mg:Str→Option Value}{base:Heap}{N ps:List Str}{x:Str}
theorem _root_.L2.Def.calO{st:Stmt}{k:Nat}{m:Ev→Res (List D)}(Df:Def K mg x st ps)(S:Zad N ps (Zab st))
  (h:∀(f:Addr) (cdv:Value) (A:Around) (outer:List Env) (s:Shared) (H:Hp) (E:XK),Room k (A.deeper (envOfC x (Zab st) s.heap.objs.size f cdv))→∃t,DSo (cxOf (CXR P w) P w K mg base N x (Zab st) f cdv A outer s H E) E (ZaY st) t m) :
  CalO P w K mg base (k+1) x ps (fnO N.length m):=by
 obtain ⟨f,fd,F,b,hm⟩:=Df.ex
 refine ⟨⟨f,fd,?_,b,F.kp,hm⟩,Zpt⟩
 obtain ⟨oc,od,kV,doc,pm,an,cdv,ct,osl,rfl,lk,hcd⟩:=F.ex
 refine Zka lk hcd S (fun vs H Q E q=>q.1) fun A outer s H vs Q E hr hsp=>?_
 obtain ⟨t,hd⟩:=h f cdv A outer s H E hr
 refine ⟨t,hd.p,?_⟩
 obtain ⟨_,F0,ds,s0,rs,hb,hok,hex⟩:=hsp
 have z:=hd.s F0 H F0 H (start N vs) (ev0 N.length ds) (Zc6 s0 rs)
 unfold fnO at hb hok hex
 cases e:m (ev0 N.length ds) with
 | ok es =>
  rw [e] at z hok
  obtain ⟨es',e',q⟩:=hok _ rfl
  cases e'
  exact z _ fun F' H' a xs g hn rx=>q F' H' a xs g hn rx
 | ex c =>
  rw [e] at z hex
  exact z _ fun F' H' C g hc=>hex c rfl F' H' C g hc
 | bad=>rw [e] at hb;exact absurd rfl hb
end
end L2.Ds
namespace Dl
open PySem
def trips:List D→List D→List D→List D
 | x::xs,y::ys,z::zs=>.tup [x,y,z]::trips xs ys zs
 | _,_,_=>[]
def zip3:List D→Res (List D)
 | [x,y,z]=>(seqD x).bind fun xs=>(seqD y).bind fun ys=>(seqD z).bind fun zs=>.ok (trips xs ys zs)
 | _=>.bad
def lz3(ds:List D):Res D:=(zip3 ds).bind fun xs=>.ok (.lst xs)
end Dl
namespace L2.Ds
open PySem PySem.Spec PyProof.Rows Dl
section
variable{K:W.Frag}{mg:Str→Option Value}{E:XK}{ta tb te:TE}{ma mb me:ME}{F0 H0 F H:Hp}
theorem Rep.put{σ:St}{ρ:Ev}{i:Nat}{ds es:List D}{a:Addr}{xs ys:List V}(r:Rep K mg F0 H0 F H σ ρ)(e:ρ[i]?=some (.ow ds))(e2:σ[i]?=some (some (.ref a)))(e3:H a=some (.lst xs))(e4:H0 a=none)(e5:F a=none)(hr:Rps K mg F ys es) :
  Rep K mg F0 H0 F (upd H a (.lst ys)) σ (ρ.set i (.ow es)):=by
 refine ⟨⟨r.g.f,fun b o q=>?_,fun b o q1 q2=>?_⟩,by rw [VbE];exact r.len,fun j u q=>?_,fun j es q=>?_,fun j k es ts b q1 q2 q3 q4=>?_⟩
 ·rw [Zaf (Zae q e5)];exact r.g.s b o q
 ·rw [Zaf (Zae q2 e4)];exact r.g.o b o q1 q2
 ·rcases Zav q with ⟨_,z,_⟩ | ⟨_,q⟩
  ·cases z
  ·exact r.im j u q
 ·rcases Zav q with ⟨rfl,z,l⟩ | ⟨hij,q⟩
  ·cases z
   exact ⟨a,_,e2,e4,e5,Zag,hr⟩
  ·obtain ⟨b,ys,h1,h2,h3,h4,h5⟩:=r.ow j es q
   have nb:b≠a:=by
    rintro rfl
    exact hij (r.ne i j ds es b e q e2 h1)
   exact ⟨b,ys,h1,h2,h3,by rw [Zaf nb];exact h4,h5⟩
 ·have o1:∃es',ρ[j]?=some (.ow es'):=by
   rcases Zav q1 with ⟨rfl,_,_⟩ | ⟨_,q⟩
   ·exact ⟨_,e⟩
   ·exact ⟨_,q⟩
  have o2:∃es',ρ[k]?=some (.ow es'):=by
   rcases Zav q2 with ⟨rfl,_,_⟩ | ⟨_,q⟩
   ·exact ⟨_,e⟩
   ·exact ⟨_,q⟩
  obtain ⟨_,o1⟩:=o1
  obtain ⟨_,o2⟩:=o2
  exact r.ne j k _ _ b o1 o2 q3 q4
end
end L2.Ds
namespace L2
open PySem PySem.Spec PyProof.Rows
abbrev Z3(h:Heap)(z TI TO:Addr)(f0 f1:Value):Prop:=h.get? z=some { cls:=.type "zip", dict:=none,data:=.fields #[f0,f1,.bool false,.ref TI,.ref TO],slots:=#[] }
abbrev Tr(h:Heap)(T:Addr)(a b c:Value):Prop:=h.get? T=some { cls:=.type "tuple", data:=.seq #[a,b,c] }
def Mk3(f0:Value):Prop:=f0=.none∨∃T:Nat,f0=rawInt T
structure Ap3(z TI TO i1 i2 i3 l1 l2 l3:Addr):Prop where
 o1:@LT.lt Nat _ i1 i2
 o2:@LT.lt Nat _ i2 i3
 o3:@LT.lt Nat _ i3 TI
 o4:@LT.lt Nat _ TI TO
 o5:@LT.lt Nat _ TO z
 a1:@LT.lt Nat _ l1 i1
 a2:@LT.lt Nat _ l2 i1
 a3:@LT.lt Nat _ l3 i1
theorem yac{a b:Nat}(h:a<b∨b<a):a≠b:=by omega
local macro_rules | `(tactic| walk_at "nl")=>`(tactic| first | exact Nat.ne_of_gt (by assumption) | exact Nat.ne_of_lt (by assumption))
section
variable{prog:Program}{w:World}{A:Around}{E:Value→Shared→Prop}{s:Shared}
theorem ZhK{T:Addr}{a b c x:Value}{k:Nat}{Q:Unit→Shared→Prop}(kT:Tr s.heap T a b c)
  (h:∀h',h'.get? T=some { cls:=.type "tuple", data:=.seq ((#[a,b,c]:Array Value).setIfInBounds k x) }→Heap.SameBut T s.heap h'→Q () { s with heap:=h' }) :
  wpAny (model prog w) A (updateSeq T (·.setIfInBounds k x)) Q E s:=by
 refine VbM kT rfl (h _ ?_ (VbB ..))
 rw [VbC _ kT rfl]
 simp [Obj.mapSeq]
theorem Zny{a:Addr}{Q:Option Obj→Shared→Prop}(h:Q (s.heap.get? a) s):wpAny (model prog w) A (loadIfAlive a) Q E s:=fun Γ p _=>by
 show PySem.Sem.wp _ Γ (Sem.loadIfAlive a fun x=>.pure x) _ _ p s
 rw [PySem.Sem.wp_loadIfAlive]
 exact h
theorem ZjO{z TI TO:Addr}{f0 f1:Value}{Q:Bool→Shared→Prop}(kz:Z3 s.heap z TI TO f0 f1)(kf:Mk3 f0)(h1:Q true s)(h2:∀h' f,Z3 h' z TI TO f0 f→Heap.SameBut z s.heap h'→Q false { s with heap:=h' }) :
  wpAny (model prog w) A (Builtin.SmallTypes.ownedTupleIsFree (.ref z)) Q E s:=by
 unfold Builtin.SmallTypes.ownedTupleIsFree
 refine Vaz (Vbc kz rfl (x:=f0) rfl ?_)
 rcases kf with rfl | ⟨T,rfl⟩
 ·exact VaB h1
 ·refine Vaz (Zny ?_)
  split
  ·exact VaB h1
  ·refine Vaz (Vbc kz rfl (x:=f1) rfl ?_)
   split
   ·refine Vaz (VbN kz (by simp) fun g kg ks=>VaB (h2 g _ kg ks))
   ·exact VaB (h2 s.heap f1 kz (Heap.SameBut.refl ..))
theorem Zq1{p q r:Bool}{z TI TO i1 i2 i3 l1 l2 l3:Addr}{k:Nat}{us vs ws:Array Value}{x y u a b c f0 f1:Value}{Q:Value→Shared→Prop}(D:Ap3 z TI TO i1 i2 i3 l1 l2 l3)
  (kz:Z3 s.heap z TI TO f0 f1) (kf:Mk3 f0) (kTI:Tr s.heap TI (.ref i1) (.ref i2) (.ref i3)) (kTO:Tr s.heap TO a b c)
  (m1:ItK p s.heap i1 l1 k) (m2:ItK q s.heap i2 l2 k) (m3:ItK r s.heap i3 l3 k) (n1:SqK p s.heap l1 us) (n2:SqK q s.heap l2 vs) (n3:SqK r s.heap l3 ws) (kx:us[k]?=some x) (ky:vs[k]?=some y) (ku:ws[k]?=some u)
  (kQ:∀h' f0' f1',Z3 h' z TI TO f0' f1'→Mk3 f0'→(∃a b c,Tr h' TO a b c)→ItK p h' i1 l1 (k+1)→ItK q h' i2 l2 (k+1)→ItK r h' i3 l3 (k+1)→Tr h' s.heap.objs.size x y u →
   (∀c o,c≠z→c≠TO→c≠i1→c≠i2→c≠i3→s.heap.get? c=some o→h'.get? c=some o)→Q (.ref s.heap.objs.size) { s with heap:=h' }) :
  wpAny (model prog w) A (Builtin.«zip.__next__» ⟨[.ref z],[]⟩) (fun fin s'=>∃v,fin=.done (.ret v)∧Q v s') E s:=by
 obtain ⟨o1,o2,o3,o4,o5,a1,a2,a3⟩:=D
 have x1:=Nat.lt_trans o1 o2;have x2:=Nat.lt_trans o3 o4;have x3:=Nat.lt_trans o2 x2;have x4:=Nat.lt_trans o1 x3;have y1:=Nat.lt_trans x2 o5;have y2:=Nat.lt_trans x3 o5;have y3:=Nat.lt_trans x4 o5
 have b1:=Nat.lt_trans a1 o1;have c1:=Nat.lt_trans a1 x1;have d1:=Nat.lt_trans a1 x4;have e1:=Nat.lt_trans a1 y3
 have b2:=Nat.lt_trans a2 o1;have c2:=Nat.lt_trans a2 x1;have d2:=Nat.lt_trans a2 x4;have e2:=Nat.lt_trans a2 y3
 have b3:=Nat.lt_trans a3 o1;have c3:=Nat.lt_trans a3 x1;have d3:=Nat.lt_trans a3 x4;have e3:=Nat.lt_trans a3 y3
 show wpAny _ _ (field (.ref z) 2 >>= _) _ _ _
 refine Vaz (Vbc kz rfl (x:=.bool false) rfl ?_)
 show wpAny _ _ (field (.ref z) 3 >>= _) _ _ _
 refine Vaz (Vbc kz rfl (x:=.ref TI) rfl ?_)
 refine Vaz (Vbz kTI rfl ?_)
 show wpAny _ _ (Builtin.SmallTypes.ownedTupleIsFree (.ref z) >>= _) _ _ _
 refine Vaz (ZjO kz kf ?_ fun g₁ f kz₁ ks₁=>?_)
 ·simp only [Vbb]
  refine Vaz (wpAny_rule ?_)
  refine Vaz (Vbc kz rfl (x:=.ref TO) rfl ?_)
  refine Vaz (VbN kz (by simp) fun g₁ kz₁ ks₁=>?_)
  replace kz₁:Z3 g₁ z TI TO .ellipsis f1:=kz₁
  refine Vaz ?_
  simp only [List.zipIdx_cons,List.zipIdx_nil,Vbo,Vbp]
  refine Vaz (Vaz (VbO ?_))
  show wpAny _ _ (Builtin.SmallTypes.nextOf (.ref i1) >>= _) _ _ _
  refine Vaz (ZaV (m1.extBut ks₁.extBut (by walk_at "nl")) (n1.extBut ks₁.extBut (by walk_at "nl")) kx fun g₂ m1₂ ks₂=>VaB ?_)
  have kT₂:Tr g₂ TO a b c:=ks₂.extBut _ _ (by walk_at "nl") (ks₁.extBut _ _ (by walk_at "nl") kTO)
  refine Vaz (Vbz kT₂ rfl ?_)
  refine Vaz (ZhK kT₂ fun g₃ kT₃ ks₃=>?_)
  replace kT₃:Tr g₃ TO x b c:=kT₃
  refine Vaz (wpAny_letGo (VaB ?_))
  refine Vaz (Vaz (VbO ?_))
  show wpAny _ _ (Builtin.SmallTypes.nextOf (.ref i2) >>= _) _ _ _
  refine Vaz (ZaV (((m2.extBut ks₁.extBut (by walk_at "nl")).extBut ks₂.extBut (by walk_at "nl")).extBut ks₃.extBut (by walk_at "nl")) (((n2.extBut ks₁.extBut (by walk_at "nl")).extBut ks₂.extBut (by walk_at "nl")).extBut ks₃.extBut (by walk_at "nl")) ky fun g₄ m2₄ ks₄=>VaB ?_)
  have kT₄:Tr g₄ TO x b c:=ks₄.extBut _ _ (by walk_at "nl") kT₃
  refine Vaz (Vbz kT₄ rfl ?_)
  refine Vaz (ZhK kT₄ fun g₅ kT₅ ks₅=>?_)
  replace kT₅:Tr g₅ TO x y c:=kT₅
  refine Vaz (wpAny_letGo (VaB ?_))
  refine Vaz (Vaz (VbO ?_))
  show wpAny _ _ (Builtin.SmallTypes.nextOf (.ref i3) >>= _) _ _ _
  refine Vaz (ZaV (((((m3.extBut ks₁.extBut (by walk_at "nl")).extBut ks₂.extBut (by walk_at "nl")).extBut ks₃.extBut (by walk_at "nl")).extBut ks₄.extBut (by walk_at "nl")).extBut ks₅.extBut (by walk_at "nl")) (((((n3.extBut ks₁.extBut (by walk_at "nl")).extBut ks₂.extBut (by walk_at "nl")).extBut ks₃.extBut (by walk_at "nl")).extBut ks₄.extBut (by walk_at "nl")).extBut ks₅.extBut (by walk_at "nl")) ku fun g₆ m3₆ ks₆=>VaB ?_)
  have kT₆:Tr g₆ TO x y c:=ks₆.extBut _ _ (by walk_at "nl") kT₅
  refine Vaz (Vbz kT₆ rfl ?_)
  refine Vaz (ZhK kT₆ fun g₇ kT₇ ks₇=>?_)
  replace kT₇:Tr g₇ TO x y u:=kT₇
  refine Vaz (wpAny_letGo (VaB (VaB ?_)))
  refine Vaz (Vbz kT₇ rfl ?_)
  refine Vaz (wpAny_newTuple ?_)
  have sz:g₇.objs.size=s.heap.objs.size:=by rw [ks₇.1,ks₆.1,ks₅.1,ks₄.1,ks₃.1,ks₂.1,ks₁.1]
  have kz₇:Z3 g₇ z TI TO .ellipsis f1:=ks₇.extBut _ _ (by walk_at "nl") (ks₆.extBut _ _ (by walk_at "nl") (ks₅.extBut _ _ (by walk_at "nl") (ks₄.extBut _ _ (by walk_at "nl") (ks₃.extBut _ _ (by walk_at "nl") (ks₂.extBut _ _ (by walk_at "nl") kz₁)))))
  have keep:∀c o,c≠z→c≠TO→c≠i1→c≠i2→c≠i3→s.heap.get? c=some o→g₇.get? c=some o:=fun c o c1 c2 c3 c4 c5 e =>
   ks₇.extBut _ _ c2 (ks₆.extBut _ _ c5 (ks₅.extBut _ _ c2 (ks₄.extBut _ _ c4 (ks₃.extBut _ _ c2 (ks₂.extBut _ _ c3 (ks₁.extBut _ _ c1 e))))))
  have q1:ItK p g₇ i1 l1 (k+1):=((((m1₂.extBut ks₃.extBut (by walk_at "nl")).extBut ks₄.extBut (by walk_at "nl")).extBut ks₅.extBut (by walk_at "nl")).extBut ks₆.extBut (by walk_at "nl")).extBut ks₇.extBut (by walk_at "nl")
  have q2:ItK q g₇ i2 l2 (k+1):=((m2₄.extBut ks₅.extBut (by walk_at "nl")).extBut ks₆.extBut (by walk_at "nl")).extBut ks₇.extBut (by walk_at "nl")
  have q3:ItK r g₇ i3 l3 (k+1):=m3₆.extBut ks₇.extBut (by walk_at "nl")
  have zlt:z<g₇.objs.size:=Vae kz₇
  show wpAny _ _ (Builtin.SmallTypes.ownedTupleHandOut (.ref z) (.ref g₇.objs.size) >>= _) _ _ _
  refine Vaz ?_
  unfold Builtin.SmallTypes.ownedTupleHandOut
  have kz₈:Z3 (g₇.push { cls:=.type "tuple", data:=.seq #[x,y,u] }) z TI TO .ellipsis f1:=VaD _ kz₇
  refine Vaz (VbN kz₈ (by simp) fun g₉ kz₉ ks₉=>?_)
  replace kz₉:Z3 g₉ z TI TO (rawInt g₇.objs.size) f1:=kz₉
  refine VbN kz₉ (by simp) fun gA kzA ksA=>?_
  replace kzA:Z3 gA z TI TO (rawInt g₇.objs.size) (.bool false):=kzA
  have up:∀c o,c≠z→g₇.get? c=some o→gA.get? c=some o:=fun c o c1 e=>ksA.extBut _ _ c1 (ks₉.extBut _ _ c1 (VaD _ e))
  have kTA:Tr gA g₇.objs.size x y u:=ksA.extBut _ _ (VaG zlt) (ks₉.extBut _ _ (VaG zlt) (VaH _ rfl))
  rw [sz] at kTA
  refine VaB ⟨_,rfl,?_⟩
  show Q (.ref g₇.objs.size) _
  rw [sz]
  exact kQ gA _ _ kzA (.inr ⟨_,rfl⟩) ⟨_,_,_,up _ _ (by walk_at "nl") kT₇⟩ (q1.at fun o e=>up _ o (by walk_at "nl") e) (q2.at fun o e=>up _ o (by walk_at "nl") e) (q3.at fun o e=>up _ o (by walk_at "nl") e) kTA fun c o c1 c2 c3 c4 c5 e=>up c o c1 (keep c o c1 c2 c3 c4 c5 e)
 ·simp only [Vbu,Vba]
  rw [←VbP]
  simp only [Vbo,Vbp]
  refine Vaz (Vaz (Vaz (Vbe ?_)))
  show wpAny _ _ (Builtin.SmallTypes.nextOf (.ref i1) >>= _) _ _ _
  refine Vaz (ZaV (m1.extBut ks₁.extBut (by walk_at "nl")) (n1.extBut ks₁.extBut (by walk_at "nl")) kx fun g₂ m1₂ ks₂=>VaB (VaB ?_))
  refine Vaz (Vaz (Vbe ?_))
  show wpAny _ _ (Builtin.SmallTypes.nextOf (.ref i2) >>= _) _ _ _
  refine Vaz (ZaV ((m2.extBut ks₁.extBut (by walk_at "nl")).extBut ks₂.extBut (by walk_at "nl")) ((n2.extBut ks₁.extBut (by walk_at "nl")).extBut ks₂.extBut (by walk_at "nl")) ky fun g₃ m2₃ ks₃=>VaB (VaB ?_))
  refine Vaz (Vaz (Vbe ?_))
  show wpAny _ _ (Builtin.SmallTypes.nextOf (.ref i3) >>= _) _ _ _
  refine Vaz (ZaV (((m3.extBut ks₁.extBut (by walk_at "nl")).extBut ks₂.extBut (by walk_at "nl")).extBut ks₃.extBut (by walk_at "nl")) (((n3.extBut ks₁.extBut (by walk_at "nl")).extBut ks₂.extBut (by walk_at "nl")).extBut ks₃.extBut (by walk_at "nl")) ku fun g₄ m3₄ ks₄=>VaB (VaB (VaB ?_)))
  refine Vaz (wpAny_newTuple (hsz:=show (3:Nat)≤sizeLine by decide) (VaB ⟨_,rfl,?_⟩))
  have sz:g₄.objs.size=s.heap.objs.size:=by rw [ks₄.1,ks₃.1,ks₂.1,ks₁.1]
  have keep:∀c o,c≠z→c≠TO→c≠i1→c≠i2→c≠i3→s.heap.get? c=some o→g₄.get? c=some o:=fun c o c1 _ c3 c4 c5 e=>ks₄.extBut _ _ c5 (ks₃.extBut _ _ c4 (ks₂.extBut _ _ c3 (ks₁.extBut _ _ c1 e)))
  have kz₄:Z3 g₄ z TI TO f0 f:=ks₄.extBut _ _ (by walk_at "nl") (ks₃.extBut _ _ (by walk_at "nl") (ks₂.extBut _ _ (by walk_at "nl") kz₁))
  have kT₄:Tr g₄ TO a b c:=ks₄.extBut _ _ (by walk_at "nl") (ks₃.extBut _ _ (by walk_at "nl") (ks₂.extBut _ _ (by walk_at "nl") (ks₁.extBut _ _ (by walk_at "nl") kTO)))
  have q1:ItK p g₄ i1 l1 (k+1):=(m1₂.extBut ks₃.extBut (by walk_at "nl")).extBut ks₄.extBut (by walk_at "nl")
  have q2:ItK q g₄ i2 l2 (k+1):=m2₃.extBut ks₄.extBut (by walk_at "nl")
  have up:∀c o,g₄.get? c=some o→(g₄.push { cls:=.type "tuple", data:=.seq #[x,y,u] }).get? c=some o:=fun c o e=>VaD _ e
  have kTA:Tr (g₄.push { cls:=.type "tuple", data:=.seq #[x,y,u] }) g₄.objs.size x y u:=VaH _ rfl
  rw [sz] at kTA
  show Q (.ref g₄.objs.size) _
  rw [sz]
  exact kQ _ _ _ (up _ _ kz₄) kf ⟨_,_,_,up _ _ kT₄⟩ (q1.at fun o e=>up _ o e) (q2.at fun o e=>up _ o e) (m3₄.at fun o e=>up _ o e) kTA fun c o c1 c2 c3 c4 c5 e=>up c o (keep c o c1 c2 c3 c4 c5 e)
theorem Zo8{p q r:Bool}{z TI TO i1 i2 i3 l1 l2 l3:Addr}{k:Nat}{us vs ws:Array Value}{a b c f0 f1:Value}{Q:Fin→Shared→Prop}(kh:A.handled=none)(D:Ap3 z TI TO i1 i2 i3 l1 l2 l3)
  (kz:Z3 s.heap z TI TO f0 f1) (kf:Mk3 f0) (kTI:Tr s.heap TI (.ref i1) (.ref i2) (.ref i3)) (kTO:Tr s.heap TO a b c)
  (m1:ItK p s.heap i1 l1 k) (m2:ItK q s.heap i2 l2 k) (m3:ItK r s.heap i3 l3 k) (n1:SqK p s.heap l1 us) (n2:SqK q s.heap l2 vs) (n3:SqK r s.heap l3 ws) (kend:us[k]?=none∨vs[k]?=none∨ws[k]?=none)
  (kE:∀h' e,(∀c o,c≠z→c≠TO→c≠i1→c≠i2→c≠i3→s.heap.get? c=some o→h'.get? c=some o)→(∃o,h'.get? e=some o∧o.cls=.type "StopIteration")→E (.ref e) { s with heap:=h' }) :
  wpAny (model prog w) A (Builtin.«zip.__next__» ⟨[.ref z],[]⟩) Q E s:=by
 obtain ⟨o1,o2,o3,o4,o5,a1,a2,a3⟩:=D
 have x1:=Nat.lt_trans o1 o2;have x2:=Nat.lt_trans o3 o4;have x3:=Nat.lt_trans o2 x2;have x4:=Nat.lt_trans o1 x3;have y1:=Nat.lt_trans x2 o5;have y2:=Nat.lt_trans x3 o5;have y3:=Nat.lt_trans x4 o5
 have b1:=Nat.lt_trans a1 o1;have c1:=Nat.lt_trans a1 x1;have d1:=Nat.lt_trans a1 x4;have e1:=Nat.lt_trans a1 y3
 have b2:=Nat.lt_trans a2 o1;have c2:=Nat.lt_trans a2 x1;have d2:=Nat.lt_trans a2 x4;have e2:=Nat.lt_trans a2 y3
 have b3:=Nat.lt_trans a3 o1;have c3:=Nat.lt_trans a3 x1;have d3:=Nat.lt_trans a3 x4;have e3:=Nat.lt_trans a3 y3
 show wpAny _ _ (field (.ref z) 2 >>= _) _ _ _
 refine Vaz (Vbc kz rfl (x:=.bool false) rfl ?_)
 show wpAny _ _ (field (.ref z) 3 >>= _) _ _ _
 refine Vaz (Vbc kz rfl (x:=.ref TI) rfl ?_)
 refine Vaz (Vbz kTI rfl ?_)
 show wpAny _ _ (Builtin.SmallTypes.ownedTupleIsFree (.ref z) >>= _) _ _ _
 refine Vaz (ZjO kz kf ?_ fun g₁ f kz₁ ks₁=>?_)
 ·simp only [Vbb]
  refine Vaz (wpAny_rule ?_)
  refine Vaz (Vbc kz rfl (x:=.ref TO) rfl ?_)
  refine Vaz (VbN kz (by simp) fun g₁ kz₁ ks₁=>?_)
  replace kz₁:Z3 g₁ z TI TO .ellipsis f1:=kz₁
  refine Vaz ?_
  simp only [List.zipIdx_cons,List.zipIdx_nil,Vbo,Vbp]
  refine Vaz (Vaz (VbO ?_))
  show wpAny _ _ (Builtin.SmallTypes.nextOf (.ref i1) >>= _) _ _ _
  cases kx:us[k]? with
  | none =>
   refine Vaz (Zcz kh (m1.extBut ks₁.extBut (by walk_at "nl")) (n1.extBut ks₁.extBut (by walk_at "nl")) kx fun g₂ e ks₂ ke=>?_)
   obtain ⟨ox,koe,kce⟩:=ke
   have kz₂:Z3 g₂ z TI TO .ellipsis f1:=ks₂ _ _ (by walk_at "nl") kz₁
   have kez:e≠z:=fun x=>by subst x;rw [kz₂] at koe;cases koe;simp at kce
   exact VbN kz₂ (by simp) fun g₃ _ ks₃=>kE g₃ e (fun c o c1 _ c3 _ _ x=>ks₃.extBut _ _ c1 (ks₂ _ _ c3 (ks₁.extBut _ _ c1 x))) ⟨ox,ks₃.extBut _ _ kez koe,kce⟩
  | some x =>
   refine Vaz (ZaV (m1.extBut ks₁.extBut (by walk_at "nl")) (n1.extBut ks₁.extBut (by walk_at "nl")) kx fun g₂ m1₂ ks₂=>VaB ?_)
   have kT₂:Tr g₂ TO a b c:=ks₂.extBut _ _ (by walk_at "nl") (ks₁.extBut _ _ (by walk_at "nl") kTO)
   refine Vaz (Vbz kT₂ rfl ?_)
   refine Vaz (ZhK kT₂ fun g₃ kT₃ ks₃=>?_)
   replace kT₃:Tr g₃ TO x b c:=kT₃
   refine Vaz (wpAny_letGo (VaB ?_))
   refine Vaz (Vaz (VbO ?_))
   show wpAny _ _ (Builtin.SmallTypes.nextOf (.ref i2) >>= _) _ _ _
   have m2':=((m2.extBut ks₁.extBut (by walk_at "nl")).extBut ks₂.extBut (by walk_at "nl")).extBut ks₃.extBut (by walk_at "nl")
   have n2':=((n2.extBut ks₁.extBut (by walk_at "nl")).extBut ks₂.extBut (by walk_at "nl")).extBut ks₃.extBut (by walk_at "nl")
   have kz₃:Z3 g₃ z TI TO .ellipsis f1:=ks₃.extBut _ _ (by walk_at "nl") (ks₂.extBut _ _ (by walk_at "nl") kz₁)
   have keep₃:∀c o,c≠z→c≠TO→c≠i1→c≠i2→c≠i3→s.heap.get? c=some o→g₃.get? c=some o:=fun c o c1 c2 c3 _ _ x=>ks₃.extBut _ _ c2 (ks₂.extBut _ _ c3 (ks₁.extBut _ _ c1 x))
   cases ky:vs[k]? with
   | none =>
    refine Vaz (Zcz kh m2' n2' ky fun g₄ e ks₄ ke=>?_)
    obtain ⟨ox,koe,kce⟩:=ke
    have kz₄:Z3 g₄ z TI TO .ellipsis f1:=ks₄ _ _ (by walk_at "nl") kz₃
    have kez:e≠z:=fun x=>by subst x;rw [kz₄] at koe;cases koe;simp at kce
    exact VbN kz₄ (by simp) fun g₅ _ ks₅=>kE g₅ e (fun c o c1 c2 c3 c4 c5 x=>ks₅.extBut _ _ c1 (ks₄ _ _ c4 (keep₃ c o c1 c2 c3 c4 c5 x))) ⟨ox,ks₅.extBut _ _ kez koe,kce⟩
   | some y =>
    have ku:ws[k]?=none:=by
     rcases kend with h | h | h
     ·rw [kx] at h;cases h
     ·rw [ky] at h;cases h
     ·exact h
    refine Vaz (ZaV m2' n2' ky fun g₄ m2₄ ks₄=>VaB ?_)
    have kT₄:Tr g₄ TO x b c:=ks₄.extBut _ _ (by walk_at "nl") kT₃
    refine Vaz (Vbz kT₄ rfl ?_)
    refine Vaz (ZhK kT₄ fun g₅ kT₅ ks₅=>?_)
    refine Vaz (wpAny_letGo (VaB ?_))
    refine Vaz (Vaz (VbO ?_))
    show wpAny _ _ (Builtin.SmallTypes.nextOf (.ref i3) >>= _) _ _ _
    refine Vaz (Zcz kh (((((m3.extBut ks₁.extBut (by walk_at "nl")).extBut ks₂.extBut (by walk_at "nl")).extBut ks₃.extBut (by walk_at "nl")).extBut ks₄.extBut (by walk_at "nl")).extBut ks₅.extBut (by walk_at "nl")) (((((n3.extBut ks₁.extBut (by walk_at "nl")).extBut ks₂.extBut (by walk_at "nl")).extBut ks₃.extBut (by walk_at "nl")).extBut ks₄.extBut (by walk_at "nl")).extBut ks₅.extBut (by walk_at "nl")) ku fun g₆ e ks₆ ke=>?_)
    obtain ⟨ox,koe,kce⟩:=ke
    have kz₆:Z3 g₆ z TI TO .ellipsis f1:=ks₆ _ _ (by walk_at "nl") (ks₅.extBut _ _ (by walk_at "nl") (ks₄.extBut _ _ (by walk_at "nl") kz₃))
    have kez:e≠z:=fun x=>by subst x;rw [kz₆] at koe;cases koe;simp at kce
    exact VbN kz₆ (by simp) fun g₇ _ ks₇=>kE g₇ e (fun c o c1 c2 c3 c4 c5 x=>ks₇.extBut _ _ c1 (ks₆ _ _ c5 (ks₅.extBut _ _ c2 (ks₄.extBut _ _ c4 (keep₃ c o c1 c2 c3 c4 c5 x))))) ⟨ox,ks₇.extBut _ _ kez koe,kce⟩
 ·simp only [Vbu,Vba]
  rw [←VbP]
  simp only [Vbo,Vbp]
  refine Vaz (Vaz (Vaz (Vbe ?_)))
  show wpAny _ _ (Builtin.SmallTypes.nextOf (.ref i1) >>= _) _ _ _
  cases kx:us[k]? with
  | none =>
   refine Vaz (Zcz kh (m1.extBut ks₁.extBut (by walk_at "nl")) (n1.extBut ks₁.extBut (by walk_at "nl")) kx fun g₂ e ks₂ ke=>?_)
   exact kE g₂ e (fun c o c1 _ c3 _ _ x=>ks₂ _ _ c3 (ks₁.extBut _ _ c1 x)) ke
  | some x =>
   refine Vaz (ZaV (m1.extBut ks₁.extBut (by walk_at "nl")) (n1.extBut ks₁.extBut (by walk_at "nl")) kx fun g₂ m1₂ ks₂=>VaB (VaB ?_))
   refine Vaz (Vaz (Vbe ?_))
   show wpAny _ _ (Builtin.SmallTypes.nextOf (.ref i2) >>= _) _ _ _
   have m2':=(m2.extBut ks₁.extBut (by walk_at "nl")).extBut ks₂.extBut (by walk_at "nl")
   have n2':=(n2.extBut ks₁.extBut (by walk_at "nl")).extBut ks₂.extBut (by walk_at "nl")
   cases ky:vs[k]? with
   | none =>
    refine Vaz (Zcz kh m2' n2' ky fun g₃ e ks₃ ke=>?_)
    exact kE g₃ e (fun c o c1 _ c3 c4 _ x=>ks₃ _ _ c4 (ks₂.extBut _ _ c3 (ks₁.extBut _ _ c1 x))) ke
   | some y =>
    have ku:ws[k]?=none:=by
     rcases kend with h | h | h
     ·rw [kx] at h;cases h
     ·rw [ky] at h;cases h
     ·exact h
    refine Vaz (ZaV m2' n2' ky fun g₃ m2₃ ks₃=>VaB (VaB ?_))
    refine Vaz (Vaz (Vbe ?_))
    show wpAny _ _ (Builtin.SmallTypes.nextOf (.ref i3) >>= _) _ _ _
    refine Vaz (Zcz kh (((m3.extBut ks₁.extBut (by walk_at "nl")).extBut ks₂.extBut (by walk_at "nl")).extBut ks₃.extBut (by walk_at "nl")) (((n3.extBut ks₁.extBut (by walk_at "nl")).extBut ks₂.extBut (by walk_at "nl")).extBut ks₃.extBut (by walk_at "nl")) ku fun g₄ e ks₄ ke=>?_)
    exact kE g₄ e (fun c o c1 _ c3 c4 c5 x=>ks₄ _ _ c5 (ks₃.extBut _ _ c4 (ks₂.extBut _ _ c3 (ks₁.extBut _ _ c1 x)))) ke
theorem Zpg{p q r:Bool}{z TI TO i1 i2 i3 l1 l2 l3:Addr}{k:Nat}{us vs ws:Array Value}{x y u a b c f0 f1:Value}{Q:Option Value→Shared→Prop}(D:Ap3 z TI TO i1 i2 i3 l1 l2 l3)
  (kz:Z3 s.heap z TI TO f0 f1) (kf:Mk3 f0) (kTI:Tr s.heap TI (.ref i1) (.ref i2) (.ref i3)) (kTO:Tr s.heap TO a b c)
  (m1:ItK p s.heap i1 l1 k) (m2:ItK q s.heap i2 l2 k) (m3:ItK r s.heap i3 l3 k) (n1:SqK p s.heap l1 us) (n2:SqK q s.heap l2 vs) (n3:SqK r s.heap l3 ws) (kx:us[k]?=some x) (ky:vs[k]?=some y) (ku:ws[k]?=some u)
  (kQ:∀h' f0' f1',Z3 h' z TI TO f0' f1'→Mk3 f0'→(∃a b c,Tr h' TO a b c)→ItK p h' i1 l1 (k+1)→ItK q h' i2 l2 (k+1)→ItK r h' i3 l3 (k+1)→Tr h' s.heap.objs.size x y u →
   (∀c o,c≠z→c≠TO→c≠i1→c≠i2→c≠i3→s.heap.get? c=some o→h'.get? c=some o)→Q (some (.ref s.heap.objs.size)) { s with heap:=h' }) :
  wpAny (model prog w) A (pyNext (.ref z)) Q E s:=by
 have kT:s.TypeIs (.ref z) "zip" := ⟨_,kz,rfl⟩
 unfold pyNext
 exact Vaz (wpAny_attempt (Vbf (name:=Str.ofString "__next__") kT F.slot_zip_next
  (Vbh F.slot_zip_next kT F.entry_zip_next
   (Zq1 D kz kf kTI kTO m1 m2 m3 n1 n2 n3 kx ky ku fun h' f0' f1' b1 b2 b3 b4 b5 b6 b7 b8=>VaB (kQ h' f0' f1' b1 b2 b3 b4 b5 b6 b7 b8)) (F.args_zip_next_1 _))))
theorem ZsD{p q r:Bool}{z TI TO i1 i2 i3 l1 l2 l3:Addr}{k:Nat}{us vs ws:Array Value}{a b c f0 f1:Value}{Q:Option Value→Shared→Prop}(kh:A.handled=none)(D:Ap3 z TI TO i1 i2 i3 l1 l2 l3)
  (kz:Z3 s.heap z TI TO f0 f1) (kf:Mk3 f0) (kTI:Tr s.heap TI (.ref i1) (.ref i2) (.ref i3)) (kTO:Tr s.heap TO a b c)
  (m1:ItK p s.heap i1 l1 k) (m2:ItK q s.heap i2 l2 k) (m3:ItK r s.heap i3 l3 k) (n1:SqK p s.heap l1 us) (n2:SqK q s.heap l2 vs) (n3:SqK r s.heap l3 ws) (kend:us[k]?=none∨vs[k]?=none∨ws[k]?=none)
  (kQ:∀h',(∀c o,c≠z→c≠TO→c≠i1→c≠i2→c≠i3→s.heap.get? c=some o→h'.get? c=some o)→Q none { s with heap:=h' }):wpAny (model prog w) A (pyNext (.ref z)) Q E s:=by
 have kT:s.TypeIs (.ref z) "zip" := ⟨_,kz,rfl⟩
 unfold pyNext
 refine Vaz (wpAny_attempt (Vbf (name:=Str.ofString "__next__") kT F.slot_zip_next
  (Vbh F.slot_zip_next kT F.entry_zip_next (Zo8 kh D kz kf kTI kTO m1 m2 m3 n1 n2 n3 kend fun h' e kk ke=>?_) (F.args_zip_next_1 _))))
 obtain ⟨o,ho,hc⟩:=ke
 refine Vaz (wpAny_isInstance (T := "StopIteration") (b:=true) ⟨o,ho,hc⟩ isSubtype_stop ?_)
 exact VaB (kQ _ kk)
theorem Zpi{z TI TO:Addr}{f0 f1:Value}{Q:Value→Shared→Prop}(kz:Z3 s.heap z TI TO f0 f1)(h:Q (.ref z) s):wpAny (model prog w) A (pyIter (.ref z)) Q E s:=by
 have kT:s.TypeIs (.ref z) "zip" := ⟨_,kz,rfl⟩
 refine wpAny_pyIter_slot kT F.slot_zip_iter (Vbh F.slot_zip_iter kT F.entry_zip_iter ?_ (F.args_zip_iter_1 _))
 show wpAny _ _ (ret (.ref z)) _ _ s
 exact VaB ⟨_,rfl, "zip", _,kT,F.slot_zip_next.lookup,h⟩
end
theorem Zp6(a b c:Value):checkTypeCall "zip" ⟨[a,b,c],[]⟩=pure ():=by kernel_rfl
theorem Zp4(a b c:Value):checkBuiltinCall "zip.__new__" ⟨[.type "zip", a,b,c],[]⟩=pure ():=by kernel_rfl
theorem oi_4(a b c d:Value):argsOk "object.__init__" ⟨[a,b,c,d],[]⟩:=by
 have e:=signature?_of (id := "object.__init__") (o:=['t','c','e','j','b','o']) (n:=['_','_','t','i','n','i','_','_']) (by kernel_rfl) PySem.F.owner_object
 unfold argsOk
 rw [e]
 kernel_rfl
abbrev j1(p:Bool)(h:Heap)(l1:Addr):Heap:=h.push (ZhY p l1)
abbrev j2(p q:Bool)(h:Heap)(l1 l2:Addr):Heap:=(j1 p h l1).push (ZhY q l2)
abbrev j3(p q r:Bool)(h:Heap)(l1 l2 l3:Addr):Heap:=(j2 p q h l1 l2).push (ZhY r l3)
abbrev j4(p q r:Bool)(h:Heap)(l1 l2 l3:Addr):Heap:=(j3 p q r h l1 l2 l3).push { cls:=.type "tuple", data:=.seq #[.ref h.objs.size,.ref (j1 p h l1).objs.size,.ref (j2 p q h l1 l2).objs.size] }
abbrev j5(p q r:Bool)(h:Heap)(l1 l2 l3:Addr):Heap:=(j4 p q r h l1 l2 l3).push { cls:=.type "tuple", data:=.seq #[.none,.none,.none] }
abbrev j6(p q r:Bool)(h:Heap)(l1 l2 l3:Addr):Heap:=(j5 p q r h l1 l2 l3).push { cls:=.type "zip", data:=.fields #[.none,.bool false,.bool false,.ref (j3 p q r h l1 l2 l3).objs.size,.ref (j4 p q r h l1 l2 l3).objs.size] }
theorem ZnI(p q r:Bool)(l1 l2 l3:Addr)(us vs ws:Array Value) :
  Meets (Builtin.«zip.__new__» ⟨[.type "zip", .ref l1,.ref l2,.ref l3],[]⟩) (fun _ R s=>SqK p s.heap l1 us∧SqK q s.heap l2 vs∧SqK r s.heap l3 ws ∧
   R (.ok (.ret (.ref (j5 p q r s.heap l1 l2 l3).objs.size))) { s with heap:=j6 p q r s.heap l1 l2 l3 }) :=
 .of_wp fun prog w A R s h=>by
  obtain ⟨hp,g,d,tk,os⟩:=s
  obtain ⟨n1,n2,n3,h⟩:=h
  have ksub:=sub_zip
  have k1:SqK p (Shared.heap ⟨hp,g,d,tk,os⟩) l1 us:=n1
  have k2:SqK q (Shared.heap ⟨hp.push (ZhY p l1),g,d,tk,os⟩) l2 vs:=SqK.push n2 _
  have k3:SqK r (Shared.heap ⟨(hp.push (ZhY p l1)).push (ZhY q l2),g,d,tk,os⟩) l3 ws:=SqK.push (SqK.push n3 _) _
  wp_walk using Zpm k1,Zpm k2,Zpm k3
  exact ⟨_,rfl,h⟩
section
variable{prog:Program}{w:World}{A:Around}{E:Value→Shared→Prop}{s:Shared}
theorem Zqj{p q r:Bool}{l1 l2 l3:Addr}{us vs ws:Array Value}{Q:Value→Shared→Prop}(n1:SqK p s.heap l1 us)(n2:SqK q s.heap l2 vs)(n3:SqK r s.heap l3 ws)
  (h:∀h',Z3 h' (s.heap.objs.size+5) (s.heap.objs.size+3) (s.heap.objs.size+4) .none (.bool false)→Tr h' (s.heap.objs.size+3) (.ref s.heap.objs.size) (.ref (s.heap.objs.size+1)) (.ref (s.heap.objs.size+2)) →
   Tr h' (s.heap.objs.size+4) .none .none .none→ItK p h' s.heap.objs.size l1 0→ItK q h' (s.heap.objs.size+1) l2 0→ItK r h' (s.heap.objs.size+2) l3 0→h'.objs.size=s.heap.objs.size+6 →
   (∀c o,s.heap.get? c=some o→h'.get? c=some o)→Q (.ref (s.heap.objs.size+5)) { s with heap:=h' }) :
  wpAny (model prog w) A (call (.type "zip") [.ref l1,.ref l2,.ref l3]) Q E s:=by
 refine callType_new F.called_zip (by decide) (Zp6 _ _ _) (Zp4 _ _ _) (fun obj=>oi_4 obj _ _ _) F.entry_zip_new (ZnI p q r l1 l2 l3 us vs ws) ⟨n1,n2,n3,?_⟩
 have z1:(j1 p s.heap l1).objs.size=s.heap.objs.size+1:=VaR ..
 have z2:(j2 p q s.heap l1 l2).objs.size=s.heap.objs.size+2:=by rw [VaR,z1]
 have z3:(j3 p q r s.heap l1 l2 l3).objs.size=s.heap.objs.size+3:=by rw [VaR,z2]
 have z4:(j4 p q r s.heap l1 l2 l3).objs.size=s.heap.objs.size+4:=by rw [VaR,z3]
 have z5:(j5 p q r s.heap l1 l2 l3).objs.size=s.heap.objs.size+5:=by rw [VaR,z4]
 have z6:(j6 p q r s.heap l1 l2 l3).objs.size=s.heap.objs.size+6:=by rw [VaR,z5]
 have up1:∀{c:Addr} {o:Obj},(j5 p q r s.heap l1 l2 l3).get? c=some o→(j6 p q r s.heap l1 l2 l3).get? c=some o:=fun e=>VaD _ e
 have up2:∀{c:Addr} {o:Obj},(j4 p q r s.heap l1 l2 l3).get? c=some o→(j6 p q r s.heap l1 l2 l3).get? c=some o:=fun e=>up1 (VaD _ e)
 have up3:∀{c:Addr} {o:Obj},(j3 p q r s.heap l1 l2 l3).get? c=some o→(j6 p q r s.heap l1 l2 l3).get? c=some o:=fun e=>up2 (VaD _ e)
 have up4:∀{c:Addr} {o:Obj},(j2 p q s.heap l1 l2).get? c=some o→(j6 p q r s.heap l1 l2 l3).get? c=some o:=fun e=>up3 (VaD _ e)
 have up5:∀{c:Addr} {o:Obj},(j1 p s.heap l1).get? c=some o→(j6 p q r s.heap l1 l2 l3).get? c=some o:=fun e=>up4 (VaD _ e)
 have g6:(j6 p q r s.heap l1 l2 l3).get? (j5 p q r s.heap l1 l2 l3).objs.size=some _:=VaH _ rfl
 have g5:(j6 p q r s.heap l1 l2 l3).get? (j4 p q r s.heap l1 l2 l3).objs.size=some _:=up1 (VaH _ rfl)
 have g4:(j6 p q r s.heap l1 l2 l3).get? (j3 p q r s.heap l1 l2 l3).objs.size=some _:=up2 (VaH _ rfl)
 have g3:(j6 p q r s.heap l1 l2 l3).get? (j2 p q s.heap l1 l2).objs.size=some _:=up3 (VaH _ rfl)
 have g2:(j6 p q r s.heap l1 l2 l3).get? (j1 p s.heap l1).objs.size=some _:=up4 (VaH _ rfl)
 have g1:(j6 p q r s.heap l1 l2 l3).get? s.heap.objs.size=some _:=up5 (VaH _ rfl)
 show _∧_
 rw [z3,z4,z5] at g6
 rw [z1,z2,z3] at g4
 rw [z4] at g5
 rw [z2] at g3
 rw [z1] at g2
 rw [z5]
 exact ⟨⟨_,g6,rfl⟩,h _ g6 g4 g5 (ItK.new g1) (ItK.new g2) (ItK.new g3) z6 fun c o x=>up5 (VaD _ x)⟩
end
def At3(p q r:Bool)(z TI TO i1 i2 i3 a b c:Addr)(i:Nat)(h:Heap):Prop :=
 ∃f0 f1 u v w,Z3 h z TI TO f0 f1∧Mk3 f0∧Tr h TI (.ref i1) (.ref i2) (.ref i3)∧Tr h TO u v w∧ItK p h i1 a i∧ItK q h i2 b i∧ItK r h i3 c i
theorem At3.obj{p q r:Bool}{z TI TO i1 i2 i3 a b c:Addr}{i:Nat}{h:Heap}(st:At3 p q r z TI TO i1 i2 i3 a b c i h){x:Addr}(hx:x∈[z,TI,TO,i1,i2,i3]):∃o,h.get? x=some o∧∀v,o.data≠.cell v:=by
 obtain ⟨f0,f1,u,v,w,kz,kf,kTI,kTO,m1,m2,m3⟩:=st
 obtain ⟨o1,_,e1,d1⟩:=m1.flds
 obtain ⟨o2,_,e2,d2⟩:=m2.flds
 obtain ⟨o3,_,e3,d3⟩:=m3.flds
 simp only [Var,VbQ,VbR] at hx
 rcases hx with rfl | rfl | rfl | rfl | rfl | rfl
 ·exact ⟨_,kz,fun v z=>by cases z⟩
 ·exact ⟨_,kTI,fun v z=>by cases z⟩
 ·exact ⟨_,kTO,fun v z=>by cases z⟩
 ·exact ⟨_,e1,fun v z=>by rw [d1] at z;cases z⟩
 ·exact ⟨_,e2,fun v z=>by rw [d2] at z;cases z⟩
 ·exact ⟨_,e3,fun v z=>by rw [d3] at z;cases z⟩
theorem At3.keep{p q r:Bool}{z TI TO i1 i2 i3 a b c:Addr}{i:Nat}{h h':Heap}(st:At3 p q r z TI TO i1 i2 i3 a b c i h)(k:∀x∈[z,TI,TO,i1,i2,i3],∀o,h.get? x=some o→h'.get? x=some o):At3 p q r z TI TO i1 i2 i3 a b c i h':=by
 obtain ⟨f0,f1,u,v,w,kz,kf,kTI,kTO,m1,m2,m3⟩:=st
 exact ⟨f0,f1,u,v,w,k z (by simp) _ kz,kf,k TI (by simp) _ kTI,k TO (by simp) _ kTO,m1.at fun o e=>k i1 (by simp) o e,m2.at fun o e=>k i2 (by simp) o e,m3.at fun o e=>k i3 (by simp) o e⟩
section
variable{X:Cx}{B:Around}{pins:List (Addr×Obj)}{σ:St}{H:Hp}{s:Shared}{p q r:Bool}{z TI TO i1 i2 i3 a b c:Addr}{i:Nat}
theorem Ztp{Q:Option Value→Shared→Prop}{E:Value→Shared→Prop}{xs ys zs:List V}{x y u:V}(D:Ap3 z TI TO i1 i2 i3 a b c)(I:Inv X pins σ H s)(hf:∀d∈[z,TI,TO,i1,i2,i3],FpOk X pins H d)(st:At3 p q r z TI TO i1 i2 i3 a b c i s.heap)(hqa:SqB X.K p H a xs)(hqb:SqB X.K q H b ys)(hqc:SqB X.K r H c zs)(hx:xs[i]?=some x)(hy:ys[i]?=some y)(hu:zs[i]?=some u)
  (kQ:∀h' T,T=s.heap.objs.size→H T=none→Inv X pins σ (upd H T (.tup [x,y,u])) { s with heap:=h' }→At3 p q r z TI TO i1 i2 i3 a b c (i+1) h'→(∀d o,d∉[z,TI,TO,i1,i2,i3]→s.heap.get? d=some o→h'.get? d=some o)→Q (some (.ref T)) { s with heap:=h' }) :
  wpAny (model X.prog X.w) B (pyNext (.ref z)) Q E s:=by
 obtain ⟨f0,f1,u0,v0,w0,kz,kf,kTI,kTO,m1,m2,m3⟩:=st
 obtain ⟨its,rv,pa,za⟩:=I.seqB hqa
 obtain ⟨its2,rv2,pb,zb⟩:=I.seqB hqb
 obtain ⟨its3,rv3,pc,zc⟩:=I.seqB hqc
 obtain ⟨u1,e1,r1⟩:=rv.get hx
 obtain ⟨u2,e2,r2⟩:=rv2.get hy
 obtain ⟨u3,e3,r3⟩:=rv3.get hu
 refine Zpg D kz kf kTI kTO m1 m2 m3 pa pb pc (x:=u1) (y:=u2) (u:=u3) (by simpa using e1) (by simpa using e2) (by simpa using e3) fun h' f0' f1' b1 b2 b3 b4 b5 b6 b7 b8=>?_
 have hT:H s.heap.objs.size=none:=I.hok.fresh (VaI _)
 have kp:∀d o,d∉[z,TI,TO,i1,i2,i3]→s.heap.get? d=some o→h'.get? d=some o:=fun d o hd e=>b8 d o (fun q=>hd (by simp [q])) (fun q=>hd (by simp [q])) (fun q=>hd (by simp [q])) (fun q=>hd (by simp [q])) (fun q=>hd (by simp [q])) e
 have kTI':Tr h' TI (.ref i1) (.ref i2) (.ref i3):=by
  obtain ⟨o1,o2,o3,o4,o5,a1,a2,a3⟩:=D
  exact b8 TI _ (yac (by omega)) (yac (by omega)) (yac (by omega)) (yac (by omega)) (yac (by omega)) kTI
 obtain ⟨u0',v0',w0',b3⟩:=b3
 refine kQ h' _ rfl hT ?_ ⟨f0',f1',u0',v0',w0',b1,b2,kTI',b3,b4,b5,b6⟩ kp
 refine I.turnNew (fp:=[z,TI,TO,i1,i2,i3]) (t':=s.toks) (fun d ob hb e=>kp d ob hb e) hf (VaI _) ?_
 have lt3:(3:Nat)≤sizeLine:=by decide
 exact ⟨lt3,[u1,u2,u3],.cons r1 (.cons r2 (.cons r3 .nil)),⟨_,b7,rfl,_,rfl⟩⟩
theorem Zre{Q:Option Value→Shared→Prop}{E:Value→Shared→Prop}{xs ys zs:List V}(hc:B.handled=none)(D:Ap3 z TI TO i1 i2 i3 a b c)(I:Inv X pins σ H s)(hf:∀d∈[z,TI,TO,i1,i2,i3],FpOk X pins H d)(st:At3 p q r z TI TO i1 i2 i3 a b c i s.heap)(hqa:SqB X.K p H a xs)(hqb:SqB X.K q H b ys)(hqc:SqB X.K r H c zs)(hx:xs.length≤i∨ys.length≤i∨zs.length≤i)
  (kQ:∀h',Inv X pins σ H { s with heap:=h' }→(∀d o,d∉[z,TI,TO,i1,i2,i3]→s.heap.get? d=some o→h'.get? d=some o)→Q none { s with heap:=h' }) :
  wpAny (model X.prog X.w) B (pyNext (.ref z)) Q E s:=by
 obtain ⟨f0,f1,u0,v0,w0,kz,kf,kTI,kTO,m1,m2,m3⟩:=st
 obtain ⟨its,rv,pa,za⟩:=I.seqB hqa
 obtain ⟨its2,rv2,pb,zb⟩:=I.seqB hqb
 obtain ⟨its3,rv3,pc,zc⟩:=I.seqB hqc
 have hl:=rv.length
 have hl2:=rv2.length
 have hl3:=rv3.length
 refine ZsD hc D kz kf kTI kTO m1 m2 m3 pa pb pc (hx.imp (fun q=>by simp;omega) (fun q=>q.imp (fun q=>by simp;omega) (fun q=>by simp;omega))) fun h' hk=>?_
 have kp:∀d o,d∉[z,TI,TO,i1,i2,i3]→s.heap.get? d=some o→h'.get? d=some o:=fun d o hd e=>hk d o (fun q=>hd (by simp [q])) (fun q=>hd (by simp [q])) (fun q=>hd (by simp [q])) (fun q=>hd (by simp [q])) (fun q=>hd (by simp [q])) e
 exact kQ h' (I.turnedL (fp:=[z,TI,TO,i1,i2,i3]) (t':=s.toks) kp hf) kp
end
theorem Zq4{n a b c:Addr}(h1:@LT.lt Nat _ a n)(h2:@LT.lt Nat _ b n)(h3:@LT.lt Nat _ c n):Ap3 (n+5) (n+3) (n+4) n (n+1) (n+2) a b c:=⟨VaS _,VaS _,VaS _,VaS _,VaS _,h1,h2,h3⟩
theorem ZkP{X:Cx}{pins:List (Addr×Obj)}{σ:St}{H:Hp}{s:Shared}{p q r:Bool}{a b c:Addr}{xs ys zs:List V}{Q:Value→Shared→Prop}{E:Value→Shared→Prop}(I:Inv X pins σ H s)(hqa:SqB X.K p H a xs)(hqb:SqB X.K q H b ys)(hqc:SqB X.K r H c zs)
  (k:∀h' z TI TO i1 i2 i3,Ap3 z TI TO i1 i2 i3 a b c→Inv X pins σ H { s with heap:=h' }→At3 p q r z TI TO i1 i2 i3 a b c 0 h'→(∀d∈[z,TI,TO,i1,i2,i3],FpOk X pins H d)→(∀d∈[z,TI,TO,i1,i2,i3],@LT.lt Nat _ d h'.objs.size)→Q (.ref z) { s with heap:=h' }):wpAny (model X.prog X.w) X.A (call (.type "zip") [.ref a,.ref b,.ref c]) Q E s:=by
 obtain ⟨its,rv,pa,hz⟩:=I.seqB hqa
 obtain ⟨its2,rv2,pb,hz2⟩:=I.seqB hqb
 obtain ⟨its3,rv3,pc,hz3⟩:=I.seqB hqc
 have a1:a<s.heap.objs.size:=by obtain ⟨_,e⟩:=pa.here;exact Vae e
 have a2:b<s.heap.objs.size:=by obtain ⟨_,e⟩:=pb.here;exact Vae e
 have a3:c<s.heap.objs.size:=by obtain ⟨_,e⟩:=pc.here;exact Vae e
 refine Zqj pa pb pc fun h' gz gTI gTO g1 g2 g3 sz hk=>?_
 have hI:Inv X pins σ H { s with heap:=h' }:=I.kept (t':=s.toks) hk
 refine k h' _ _ _ _ _ _ (Zq4 a1 a2 a3) hI ⟨_,_,_,_,_,gz,.inl rfl,gTI,gTO,g1,g2,g3⟩ (fun d hd=>?_) (fun d hd=>?_)
 ·have hb':s.heap.objs.size≤d:=by
   simp only [Var,VbQ,VbR] at hd
   rcases hd with rfl | rfl | rfl | rfl | rfl | rfl<;>omega
  exact I.fpOk hb' (I.hok.fresh hb')
 ·rw [sz]
  simp only [Var,VbQ,VbR] at hd
  rcases hd with rfl | rfl | rfl | rfl | rfl | rfl<;>omega
def ZaX:List V→List V→List V→List (V×V×V)
 | x::xs,y::ys,u::us=>(x,y,u)::ZaX xs ys us
 | _,_,_=>[]
theorem Zid:∀{xs ys us:List V} {i:Nat} {x y u:V},(ZaX xs ys us)[i]?=some (x,y,u)→xs[i]?=some x∧ys[i]?=some y∧us[i]?=some u
 | [],_,_,_,_,_,_,h=>by simp [ZaX] at h
 | _::_,[],_,_,_,_,_,h=>by simp [ZaX] at h
 | _::_,_::_,[],_,_,_,_,h=>by simp [ZaX] at h
 | _::_,_::_,_::_,0,_,_,_,h=>by simp [ZaX] at h;obtain ⟨rfl,rfl,rfl⟩:=h;simp
 | _::xs,_::ys,_::us,i+1,_,_,_,h=>by
  have:=Zid (xs:=xs) (ys:=ys) (us:=us) (i:=i) (by simpa [ZaX] using h)
  simpa using this
theorem Zil:∀(xs ys us:List V),xs.length≤(ZaX xs ys us).length∨ys.length≤(ZaX xs ys us).length∨us.length≤(ZaX xs ys us).length
 | [],_,_=>.inl (by simp)
 | _::_,[],_=>.inr (.inl (by simp))
 | _::_,_::_,[]=>.inr (.inr (by simp))
 | _::xs,_::ys,_::us=>by
  have:=Zil xs ys us
  simp [ZaX]
  exact this
theorem Zjf:∀(xs ys us:List V),(ZaX xs ys us).length≤xs.length
 | [],_,_=>by simp [ZaX]
 | _::_,[],_=>by simp [ZaX]
 | _::_,_::_,[]=>by simp [ZaX]
 | _::xs,_::ys,_::us=>by
  have:=Zjf xs ys us
  simp [ZaX]
  exact this
inductive Lay3(H:Hp):List (V×V×V)→List Addr→Hp→Prop
 | nil:Lay3 H [] [] H
 | snoc {ts:List (V×V×V)} {as:List Addr} {H':Hp} {T:Addr} {x y u:V} (h:Lay3 H ts as H') (hT:H' T=none):Lay3 H (ts++[(x,y,u)]) (as++[T]) (upd H' T (.tup [x,y,u]))
theorem Lay3.same{H H':Hp}{ts:List (V×V×V)}{as:List Addr}(h:Lay3 H ts as H'):Same H H':=by
 induction h with
 | nil=>exact fun _ _ e=>e
 | snoc h hT ih=>exact fun b o e=>(by
   have e':=ih b o e
   rw [Zaf (fun q=>by subst q;rw [hT] at e';cases e')]
   exact e')
theorem Zn0{H:Hp}{S T:Addr}{o o':HO}(h:S≠T):upd (upd H S o) T o'=upd (upd H T o') S o:=by
 funext b
 by_cases h1:b=S
 ·subst h1;rw [Zaf h,Zag,Zag]
 ·by_cases h2:b=T
  ·subst h2;rw [Zag,Zaf h1,Zag]
  ·rw [Zaf h2,Zaf h1,Zaf h1,Zaf h2]
theorem Zd5{H:Hp}{S:Addr}{o o':HO}:upd (upd H S o) S o'=upd H S o':=by
 funext b
 by_cases h1:b=S
 ·subst h1;rw [Zag,Zag]
 ·rw [Zaf h1,Zaf h1,Zaf h1]
theorem ZcN{K:W.Frag}{H H':Hp}{p:Bool}{a:Addr}{xs:List V}(e:Same H H')(h:SqB K p H a xs):SqB K p H' a xs:=by
 cases p
 ·exact Same.seq e h
 ·rcases (show SqT K H a xs from h) with (h | ⟨o,h⟩) | h
  ·exact .inl (.inl (e _ _ h))
  ·exact .inl (.inr ⟨o,e _ _ h⟩)
  ·exact .inr h
theorem ZhL{H:Hp}{S:Addr}{o:HO}(h:H S=none):Same H (upd H S o):=fun b u e=>by
 rw [Zaf (fun q=>by subst q;rw [h] at e;cases e)]
 exact e
section
variable{X:Cx}{pins:List (Addr×Obj)}{σ:St}{H:Hp}{p q r:Bool}{z TI TO i1 i2 i3 a b c S:Addr}{xs ys us:List V}
theorem Zph{B:Around}{R:Result→Shared→Prop}(kh:B.in1.handled=none)(D:Ap3 z TI TO i1 i2 i3 a b c)(hqa:SqB X.K p H a xs)(hqb:SqB X.K q H b ys)(hqc:SqB X.K r H c us)(hS:S∉[z,TI,TO,i1,i2,i3])
  (kR:∀s' as H',Inv X pins σ (upd H' S (.lst (as.map V.ref))) s'→H' S=none→Lay3 H (ZaX xs ys us) as H'→R (.ok (.ret .none)) s') :
  ∀(k i:Nat) (s:Shared) (H':Hp) (as:List Addr),i+k=(ZaX xs ys us).length→Inv X pins σ (upd H' S (.lst (as.map V.ref))) s→H' S=none→Lay3 H ((ZaX xs ys us).take i) as H'→At3 p q r z TI TO i1 i2 i3 a b c i s.heap→as.length=i→(∀d∈[z,TI,TO,i1,i2,i3],FpOk X pins (upd H' S (.lst (as.map V.ref))) d) →
   codeAny (model X.prog X.w) B (.builtin "list.extend.loop" ⟨[.ref S,.ref z,.none],[]⟩) R s:=by
 intro k
 induction k with
 | zero =>
  intro i s H' as hk I hS' L st la hf
  have sm:Same H (upd H' S (.lst (as.map V.ref))):=fun b o e=>ZhL hS' b o (L.same b o e)
  refine VbS F.entry_extend_loop ?_
  rw [VbT VbU _]
  show wpAny _ B.in1 (pyNext (.ref z) >>= _) _ _ s
  refine Vaz (Zre kh D I hf st (ZcN sm hqa) (ZcN sm hqb) (ZcN sm hqc) (by have:=Zil xs ys us;omega) fun h' I' _=>?_)
  refine VaB (kR _ as H' I' hS' ?_)
  rw [show i=(ZaX xs ys us).length by omega,List.take_length] at L
  exact L
 | succ k ih =>
  intro i s H' as hk I hS' L st la hf
  have sm:Same H (upd H' S (.lst (as.map V.ref))):=fun b o e=>ZhL hS' b o (L.same b o e)
  have hi:i<(ZaX xs ys us).length:=by omega
  obtain ⟨⟨x,y,u⟩,et⟩ : ∃t,(ZaX xs ys us)[i]?=some t:=⟨_,VbH hi⟩
  obtain ⟨e1,e2,e3⟩:=Zid et
  refine VbS F.entry_extend_loop ?_
  rw [VbT VbU _]
  show wpAny _ B.in1 (pyNext (.ref z) >>= _) _ _ s
  refine Vaz (Ztp D I hf st (ZcN sm hqa) (ZcN sm hqb) (ZcN sm hqc) e1 e2 e3 fun h' T eT hT I2 st2 kp=>?_)
  have hl:as.length<sizeLine:=by
   obtain ⟨_,_,_,hz⟩:=I.seqB (ZcN sm hqa)
   have:=Zjf xs ys us
   omega
  have ST:S≠T:=fun q=>by subst q;rw [Zag] at hT;cases hT
  have hT':H' T=none:=by rw [Zaf (Ne.symm ST)] at hT;exact hT
  rw [Zn0 ST] at I2
  have hH:(upd (upd H' T (.tup [x,y,u])) S (.lst (as.map V.ref))) S=some (.lst (as.map V.ref)):=Zag
  obtain ⟨zz,its,n,rr,hlen,e⟩:=I2.lstM hH
  have hlen':its.length=as.length:=by rw [←hlen,VaQ]
  show wpAny _ B.in1 (updateSeq S (·.push (.ref T)) >>= _) _ _ _
  refine Vaz ?_
  refine VbM e rfl (VaB ⟨plainId_quiet VbU _,?_⟩) (by rw [Va9];omega) (by show (its.toArray.push _).size≤sizeLine+1;rw [Array.size_push,Va9];omega)
  have I3:=I2.lset (f:=(·.push (.ref T))) (t':=s.toks) (ys:=as.map V.ref++[.ref T]) (its':=its++[.ref T]) hH e (by simp) (rr.append (.cons (show RelV (.ref T) (.ref T) from rfl) .nil)) (by rw [Va7,VaQ,Vbl];omega)
  rw [Zd5] at I3
  refine ih (i+1) _ (upd H' T (.tup [x,y,u])) (as++[T]) (by omega) ?_ ?_ ?_ ?_ ?_ ?_
  ·rw [VbV];exact I3
  ·rw [Zaf ST];exact hS'
  ·rw [List.take_add_one,et];exact .snoc L hT'
  ·exact st2.keep fun d hd o e=>(Vbk _ _ (fun h=>hS (by rw [h];exact hd))).trans e
  ·rw [Va7,la];rfl
  ·intro d hd
   have dS:d≠S:=fun q=>hS (by rw [←q];exact hd)
   have dT:d≠T:=by
    obtain ⟨o,ho,_⟩:=st.obj hd
    rw [eT]
    exact Vah (Vae ho)
   have z:=hf d hd
   refine ⟨?_,z.2⟩
   rw [Zaf dS,Zaf dT]
   have z1:=z.1
   rw [Zaf dS] at z1
   exact z1
theorem ZnV:typeLookup (.type "zip") "__len__"=pure none:=by rw [typeLookup_type,builtinLookup_eq_fast];kernel_rfl
theorem Zmr:typeLookup (.type "zip") "__length_hint__"=pure none:=by rw [typeLookup_type,builtinLookup_eq_fast];kernel_rfl
theorem ZqT{s:Shared}{Q:Value→Shared→Prop}{E:Value→Shared→Prop}(hc:X.calm=true)(D:Ap3 z TI TO i1 i2 i3 a b c)(I:Inv X pins σ H s)(st:At3 p q r z TI TO i1 i2 i3 a b c 0 s.heap)(hf:∀d∈[z,TI,TO,i1,i2,i3],FpOk X pins H d)(hqa:SqB X.K p H a xs)(hqb:SqB X.K q H b ys)(hqc:SqB X.K r H c us)
  (kQ:∀s' S as H',Inv X pins σ (upd H' S (.lst (as.map V.ref))) s'→H' S=none→Lay3 H (ZaX xs ys us) as H'→Q (.ref S) s'):wpAny (model X.prog X.w) X.A (call (.type "list") [.ref z]) Q E s:=by
 have lt:∀d∈[z,TI,TO,i1,i2,i3],d≠s.heap.objs.size:=fun d hd=>by
  obtain ⟨o,ho,_⟩:=st.obj hd
  exact Vah (Vae ho)
 have zin:z∈[z,TI,TO,i1,i2,i3]:=by simp
 refine callType_codes (Q₁:=fun obj s₁=>obj=.ref s.heap.objs.size∧s₁={ s with heap:=s.heap.push { cls:=.type "list", data:=.seq #[] } }) F.called_list (F.typeCall_list_1 _) F.entry_list_init
  (code_list_new _ ⟨rfl,rfl⟩) fun obj s₁ hq=>?_
 obtain ⟨rfl,rfl⟩:=hq
 have hS0:H s.heap.objs.size=none:=I.fresh
 have I1:Inv X pins σ (upd H s.heap.objs.size (.lst [])) { s with heap:=s.heap.push { cls:=.type "list", data:=.seq #[] } }:=I.lnew (its:=[]) (t':=s.toks) .nil (VaT _)
 have st1:At3 p q r z TI TO i1 i2 i3 a b c 0 (s.heap.push { cls:=.type "list", data:=.seq #[] }):=st.keep fun d _ o e=>VaD _ e
 generalize hsz:s.heap.objs.size=S at *
 have kS:(s.heap.push { cls:=.type "list", data:=.seq #[] }).get? S=some { cls:=.type "list", data:=.seq #[] }:=by rw [←hsz];exact VaH _ rfl
 generalize s.heap.push { cls:=.type "list", data:=.seq #[] }=g at *
 refine ⟨⟨_,kS,rfl⟩,F.args_list_init_2 _ _,?_⟩
 show wpAny _ X.A.in1.in1 (do let old ←Builtin.List.listItems (.ref S);Builtin.List.listUpdate (.ref S) (fun _=>#[]);letGo old.toList.reverse;Builtin.List.listExtendWith (.ref S) (.ref z) .none) _ _ _
 refine Vaz ?_
 unfold Builtin.List.listItems
 refine Vaz (Vbz kS rfl (VaB ?_))
 show wpAny _ X.A.in1.in1 (updateSeq S (fun _=>#[]) >>= fun _=>letGo (#[]:Array Value).toList.reverse >>= fun _=>Builtin.List.listExtendWith (.ref S) (.ref z) .none) _ _ _
 refine Vaz (VbM kS rfl ?_)
 have I2:=I1.lset (f:=fun _=>#[]) (t':=s.toks) (its:=[]) (its':=[]) (ys:=[]) (n:=0) Zag kS rfl .nil (VaT _)
 rw [Zd5] at I2
 have st2:At3 p q r z TI TO i1 i2 i3 a b c 0 (g.update S (Obj.mapSeq fun _=>#[])):=st1.keep fun d hd o e=>(Vbk _ _ (fun h=>lt d hd h.symm)).trans e
 have kS2:=VbC (Obj.mapSeq (fun _=>(#[]:Array Value))) kS rfl
 generalize g.update S (Obj.mapSeq fun _=>#[])=g2 at *
 refine Vaz (wpAny_letGo ?_)
 unfold Builtin.List.listExtendWith
 obtain ⟨f0,f1,u0,v0,w0,kz,_⟩:=id st2
 have kT:(Shared.TypeIs { s with heap:=g2 } (.ref z) "zip"):=⟨_,kz,rfl⟩
 refine Vaz (Vbi kT ?_)
 have zS:S≠z:=fun h=>lt z zin h.symm
 have h1:Builtin.List.listSameRef (.ref S) (.ref z)=false:=by simp [Builtin.List.listSameRef,zS]
 have h2:(Value.type "zip"==Value.type "list")=false:=by decide
 have h3:(Value.type "zip"==Value.type "tuple")=false:=by decide
 simp only [h1,h2,h3,Bool.or_false,Vbu,Vba]
 refine Vaz (Zpi kz ?_)
 refine Vaz (Vbe ?_)
 unfold Builtin.List.listLengthHint
 refine Vaz (wpAny_specialOf kT ZnV ?_)
 show wpAny _ X.A.in1.in1 (specialOf (Value.ref z) (Str.ofString "__length_hint__") >>= _) _ _ _
 refine Vaz (wpAny_specialOf kT Zmr ?_)
 refine VaB ?_
 show wpAny _ X.A.in1.in1 (rule "list.extend.makes-room" >>= fun _=>Builtin.List.listTouch (.ref S) >>= fun _=>again (.builtin "list.extend.loop" ⟨[.ref S,.ref z,.none],[]⟩)) _ _ _
 refine Vaz (wpAny_rule ?_)
 refine Vaz ?_
 show wpAny _ X.A.in1.in1 (updateSeq S (·.push .none) >>= fun _=>updateSeq S (·.pop)) _ _ _
 refine Vaz (VbM kS2 rfl ?_)
 have kS3:=VbC (Obj.mapSeq (·.push Value.none)) kS2 rfl
 refine VbM (hz:=by seq_fits) kS3 rfl ?_
 have I3:=I2.lset (f:=(·.push Value.none)) (t':=s.toks) (its:=[]) (its':=[.none]) (ys:=[.non]) Zag kS2 rfl (.cons (show RelV .non .none from rfl) .nil) (by show (1:Nat)≤sizeLine;decide)
 rw [Zd5] at I3
 have I4:=I3.lset (f:=(·.pop)) (t':=s.toks) (its:=[.none]) (its':=[]) (ys:=[]) Zag kS3 rfl .nil (VaT _)
 rw [Zd5] at I4
 have st4:At3 p q r z TI TO i1 i2 i3 a b c 0 ((g2.update S (Obj.mapSeq (·.push Value.none))).update S (Obj.mapSeq (·.pop))):=st2.keep fun d hd o e=>(Vbk _ _ (fun h=>lt d hd h.symm)).trans ((Vbk _ _ (fun h=>lt d hd h.symm)).trans e)
 refine VaB ⟨plainId_quiet VbU _,?_⟩
 refine Zph (B:=X.A.in1) (I.ok.hd hc) D hqa hqb hqc (fun h=>lt S h rfl) (fun s' as H' I' e L=>⟨rfl,kQ s' S as H' I' e L⟩) (ZaX xs ys us).length 0 _ H [] (by omega) I4 hS0 .nil st4 rfl fun d hd=>?_
 have z:=hf d hd
 exact ⟨by rw [Zaf (lt d hd)];exact z.1,z.2⟩
end
section
variable{X:Cx}
def tLZ(K:W.Frag)(ta:TA):TE:=fun σ H Q=>ta σ H fun vs H1=>∃p q r a b c xs ys us,vs=[.ref a,.ref b,.ref c]∧SqB K p H1 a xs∧SqB K q H1 b ys∧SqB K r H1 c us∧∀S as H',H' S=none→Lay3 H1 (ZaX xs ys us) as H'→Q (.ref S) (upd H' S (.lst (as.map V.ref)))
theorem Zuu{a b c:Expr}{ta:TA}{np lp pos pos':Pos}(hc:X.calm=true)(hg:Gl X "zip")(hm:X.mg "zip"=none)(hgl:Gl X "list")(hml:X.mg "list"=none)(ha:PA X [a,b,c] ta)(hs:starEach [a,b,c] X.env=[(false,eval a X.env),(false,eval b X.env),(false,eval c X.env)]:=by rfl)(hs2:starEach [b,c] X.env=[(false,eval b X.env),(false,eval c X.env)]:=by rfl)
  (hs3:starEach [.Call (.Name "zip" np) [a,b,c] [] pos] X.env=(false,eval (.Call (.Name "zip" np) [a,b,c] [] pos) X.env)::starEach [] X.env:=by rfl) :
  PE X (.Call (.Name "list" lp) [.Call (.Name "zip" np) [a,b,c] [] pos] [] pos') (tLZ X.K ta):=by
 intro pins s σ H Q I h
 refine Call_ (ZfL I hgl hml ZiQ (VaJ ?_ hs3 rfl))
 rw [hs3]
 show wpAny _ _ (spliced ((false,eval (.Call (.Name "zip" np) [a,b,c] [] pos) X.env)::backTo pos' (starEach [] X.env))) _ _ s
 refine Calls.spliced_cons ?_
 refine Call_ (ZfL I hg hm ZrE (VaJ (thn (ha pos pins s σ H _ I h) fun vs0 s1 ⟨vs,H1,I1,r1,q1⟩=>?_) (by rw [hs,hs2]) (by rw [hs2];rfl)))
 obtain ⟨κ,μ,ν,l,m,n,xs,ys,us,e,hqa,hqb,hqc,q⟩:=q1
 subst e
 cases r1 with
 | cons r rr =>
  cases rr with
  | cons r' rr =>
   cases rr with
   | cons r'' rr =>
    cases rr
    cases r
    cases r'
    cases r''
    refine ZkP I1 hqa hqb hqc fun h' z TI TO i1 i2 i3 D hI st hfp _=>?_
    refine Calls.spliced_nil ?_
    exact ZqT hc D hI st hfp hqa hqb hqc fun s' S as H' I' e L=>⟨.ref S,_,I',rfl,q S as H' e L⟩
end
end L2
namespace L2.Ds
open PySem PySem.Spec PyProof.Rows Dl
section
variable{K:W.Frag}{mg:Str→Option Value}{F:Hp}
theorem Zps{xs:List V}{ds:List D}{us:List D}(r:Rps K mg F xs ds)(e:zip3 ds=.ok us):∃p q t a b c as bs cs d1 d2 d3,xs=[.ref a,.ref b,.ref c]∧SqB K p F a as∧SqB K q F b bs∧SqB K t F c cs∧Rps K mg F as d1∧Rps K mg F bs d2∧Rps K mg F cs d3∧us=trips d1 d2 d3:=by
 unfold zip3 at e
 split at e
 ·next x y z =>
  obtain ⟨vx,vy,vz,rfl,rx,ry,rz⟩:=r.three
  cases e1:seqD x with
  | ok d1 =>
   rw [e1] at e
   cases e2:seqD y with
   | ok d2 =>
    cases e3:seqD z with
    | ok d3 =>
     have e':((seqD y).bind fun ys=>(seqD z).bind fun zs=>Res.ok (trips d1 ys zs))=.ok us:=e
     rw [e2] at e'
     have e'':((seqD z).bind fun zs=>Res.ok (trips d1 d2 zs))=.ok us:=e'
     rw [e3] at e''
     have e4:Res.ok (trips d1 d2 d3)=.ok us:=e''
     cases e4
     obtain ⟨p,a,as,rfl,ha,ra⟩:=Zk4 rx e1
     obtain ⟨q,b,bs,rfl,hb,rb⟩:=Zk4 ry e2
     obtain ⟨t,c,cs,rfl,hc,rc⟩:=Zk4 rz e3
     exact ⟨p,q,t,a,b,c,as,bs,cs,d1,d2,d3,rfl,ha,hb,hc,ra,rb,rc,rfl⟩
    | ex c =>
     have e':((seqD y).bind fun ys=>(seqD z).bind fun zs=>Res.ok (trips d1 ys zs))=.ok us:=e
     rw [e2] at e'
     have e'':((seqD z).bind fun zs=>Res.ok (trips d1 d2 zs))=.ok us:=e'
     rw [e3] at e'';cases e''
    | bad =>
     have e':((seqD y).bind fun ys=>(seqD z).bind fun zs=>Res.ok (trips d1 ys zs))=.ok us:=e
     rw [e2] at e'
     have e'':((seqD z).bind fun zs=>Res.ok (trips d1 d2 zs))=.ok us:=e'
     rw [e3] at e'';cases e''
   | ex c =>
    have e':((seqD y).bind fun ys=>(seqD z).bind fun zs=>Res.ok (trips d1 ys zs))=.ok us:=e
    rw [e2] at e';cases e'
   | bad =>
    have e':((seqD y).bind fun ys=>(seqD z).bind fun zs=>Res.ok (trips d1 ys zs))=.ok us:=e
    rw [e2] at e';cases e'
  | ex c=>rw [e1] at e;cases e
  | bad=>rw [e1] at e;cases e
 ·cases e
theorem ZqI{ds:List D}{c:Str}:zip3 ds≠.ex c:=by
 intro e
 unfold zip3 at e
 split at e
 ·next x y z =>
  cases e1:seqD x with
  | ok d1 =>
   rw [e1] at e
   have e':((seqD y).bind fun ys=>(seqD z).bind fun zs=>Res.ok (trips d1 ys zs))=.ex c:=e
   cases e2:seqD y with
   | ok d2 =>
    rw [e2] at e'
    have e'':((seqD z).bind fun zs=>Res.ok (trips d1 d2 zs))=.ex c:=e'
    cases e3:seqD z with
    | ok d3=>rw [e3] at e'';cases e''
    | ex c'=>exact absurd e3 Zlp
    | bad=>rw [e3] at e'';cases e''
   | ex c'=>exact absurd e2 Zlp
   | bad=>rw [e2] at e';cases e'
  | ex c'=>exact absurd e1 Zlp
  | bad=>rw [e1] at e;cases e
 ·cases e
theorem ZqQ:∀{H H':Hp} {ts:List (V×V×V)} {as:List Addr},Lay3 H ts as H'→∀{F:Hp},Same F H→∀{us:List D},us.length=ts.length→(∀(i:Nat) x y z d,ts[i]?=some (x,y,z)→us[i]?=some d→∃a b c,d=.tup [a,b,c]∧Rp K mg F x a∧Rp K mg F y b∧Rp K mg F z c)→∃F',Gr F H F' H'∧Rps K mg F' (as.map V.ref) us:=by
 intro H H' ts as L
 induction L with
 | nil =>
  intro F s us hl _
  have:us=[]:=List.length_eq_zero_iff.mp hl
  subst this
  exact ⟨F,.refl s,.nil⟩
 | @snoc ts as H1 T x y u L hT ih =>
  intro F s us hl hd
  have hl':us.length=ts.length+1:=by rw [hl,Va7];rfl
  obtain ⟨d,eu⟩ : ∃d,us[ts.length]?=some d:=⟨_,VbH (by omega)⟩
  obtain ⟨us',rfl⟩ : ∃us',us=us'++[d]:=by
   refine ⟨us.take ts.length,?_⟩
   have:=List.take_append_drop ts.length us
   rw [Vbt (by omega),VbI (by omega)] at this
   have e:us[ts.length]=d:=by
    have:=VbH (show ts.length<us.length by omega)
    rw [eu] at this
    exact (Vav this).symm
   rw [e] at this
   exact this.symm
  have hl2:us'.length=ts.length:=by rw [Va7] at hl';simpa using hl'
  obtain ⟨F1,g1,r1⟩:=ih s hl2 fun i x y z e h1 h2=>hd i x y z e (by rw [Va4 ((Vau.mp h1).1)];exact h1) (by rw [Va4 ((Vau.mp h2).1)];exact h2)
  obtain ⟨a,b,c,rfl,ra,rb,rc⟩:=hd ts.length x y u d (by simp) eu
  have g2:Gr F1 H1 _ _:=.new g1.s hT (.tup [x,y,u])
  refine ⟨_,g1.trans g2,?_⟩
  rw [VbV]
  refine Rps.app (.cons (.tup (SqT.of Zag) (.cons ((ra.same g1.f).same g2.f) (.cons ((rb.same g1.f).same g2.f) (.cons ((rc.same g1.f).same g2.f) .nil)))) .nil) (r1.same g2.f)
theorem ZfO:∀{xs ys zs:List V} {ds es fs:List D},Rps K mg F xs ds→Rps K mg F ys es→Rps K mg F zs fs→(trips ds es fs).length=(ZaX xs ys zs).length∧∀(i:Nat) x y z d,(ZaX xs ys zs)[i]?=some (x,y,z)→(trips ds es fs)[i]?=some d→∃a b c,d=.tup [a,b,c]∧Rp K mg F x a∧Rp K mg F y b∧Rp K mg F z c
 | _,_,_,_,_,_,.nil,_,_=>⟨by simp [trips,ZaX],fun i x y z d h=>by simp [ZaX] at h⟩
 | _,_,_,_,_,_,.cons _ _,.nil,_=>⟨by simp [trips,ZaX],fun i x y z d h=>by simp [ZaX] at h⟩
 | _,_,_,_,_,_,.cons _ _,.cons _ _,.nil=>⟨by simp [trips,ZaX],fun i x y z d h=>by simp [ZaX] at h⟩
 | _,_,_,_,_,_,.cons h1 r1,.cons h2 r2,.cons h3 r3=>by
  obtain ⟨l,q⟩:=ZfO r1 r2 r3
  refine ⟨by simp [trips,ZaX,l],fun i x y z d e1 e2=>?_⟩
  cases i with
  | zero =>
   simp [ZaX] at e1
   obtain ⟨rfl,rfl,rfl⟩:=e1
   simp [trips] at e2
   subst e2
   exact ⟨_,_,_,rfl,h1,h2,h3⟩
  | succ i=>exact q i x y z d (by simpa [ZaX] using e1) (by simpa [trips] using e2)
end
section
variable{X:Cx}{E:XK}{a b c:Expr}{n:Nat}{t:TA}{m:MA}{pos pos' lp p:Pos}
theorem ydw(hcm:X.calm=true)(hg:Gl X "zip")(hm:X.mg "zip"=none)(hgl:Gl X "list")(hml:X.mg "list"=none)(ha:DA X E n [a,b,c] t m)(hs:starEach [a,b,c] X.env=[(false,eval a X.env),(false,eval b X.env),(false,eval c X.env)]:=by rfl)(hs2:starEach [b,c] X.env=[(false,eval b X.env),(false,eval c X.env)]:=by rfl)
  (hs3:starEach [.Call (.Name "zip" p) [a,b,c] [] pos] X.env=(false,eval (.Call (.Name "zip" p) [a,b,c] [] pos) X.env)::starEach [] X.env:=by rfl) :
  DE X E (.Call (.Name "list" lp) [.Call (.Name "zip" p) [a,b,c] [] pos] [] pos') (tLZ X.K t) (on lz3 m):=by
 refine ⟨Zuu hcm hg hm hgl hml ha.p hs hs2 hs3,?_⟩
 intro F0 H0 F H σ ρ rr
 refine (ha.s F0 H0 F H σ ρ rr).bind (w':=fun vs H1 Q=>∃p q r a b c xs ys us,vs=[V.ref a,V.ref b,V.ref c]∧SqB X.K p H1 a xs∧SqB X.K q H1 b ys∧SqB X.K r H1 c us∧∀S as H',H' S=none→Lay3 H1 (ZaX xs ys us) as H'→Q (V.ref S) (upd H' S (.lst (as.map V.ref)))) fun F1 H1 xs ds g1 rs=>?_
 unfold lz3
 cases e:zip3 ds with
 | ok us =>
  obtain ⟨p,q,t,a,b,c,as,bs,cs,d1,d2,d3,rfl,ha,hb,hc,ra,rb,rc,rfl⟩:=Zps rs e
  obtain ⟨l,z⟩:=ZfO ra rb rc
  refine fun Q q'=>⟨p,q,t,a,b,c,as,bs,cs,rfl,ZgY g1.s ha,ZgY g1.s hb,ZgY g1.s hc,fun S as' H' hS L=>?_⟩
  obtain ⟨F2,g2,r2⟩:=ZqQ L g1.s l z
  have g3:Gr F2 H' _ _:=.new g2.s hS (.lst (as'.map V.ref))
  exact q' _ _ _ (g2.trans g3) (.lst (SqL.of Zag) (r2.same g3.f))
 | ex c'=>exact absurd e ZqI
 | bad=>trivial
end
end L2.Ds
namespace Dl
open PySem
end Dl
namespace L2
open PySem PySem.Spec PyProof.Rows PySem.Calls
end L2
namespace L2.Ds
open PySem PySem.Spec PyProof.Rows PySem.Calls Dl
end L2.Ds
namespace Dl
open PySem
end Dl
namespace L2
open PySem PySem.Spec PyProof.Rows
end L2
namespace L2.Ds
open PySem PySem.Spec PyProof.Rows PySem.Calls Dl
def GTup(K:W.Frag)(mg:Str→Option Value)(x:Str)(ns:List Int):Prop:=∃(a:Addr) (o:Obj) (its:Array Value) (n:Nat),mg x=some (.ref a)∧K.lookup a=some o∧o.cls=.type "tuple"∧o.data=.seq its n∧its.size≤sizeLine∧Vals (ns.map V.int) its.toList
theorem Zhx{K:W.Frag}{mg:Str→Option Value}{F:Hp}:∀ns:List Int,Rps K mg F (ns.map V.int) (ns.map D.int)
 | []=>.nil
 | n::r=>.cons (.int n) (Zhx r)
section
variable{X:Cx}{E:XK}{a b c e tg:Expr}{es:List Expr}{t:TA}{m:MA}{n:Nat}{tb:TE}{mb:ME}{pos p lpos:Pos}
theorem Zox{x:Str}{ns:List Int}{A:Addr}{o:Obj}{its:Array Value}{n:Nat}(hg:Gl X x)(hm:X.mg x=some (.ref A))(h1:X.K.lookup A=some o)(h2:o.cls=.type "tuple")(h3:o.data=.seq its n)(h4:its.size≤sizeLine)(h5:Vals (ns.map V.int) its.toList)(hd:(x==("__debug__" : Str))=false:=by decide) :
  DE X E (.Name x pos) (tC (.ref A)) (Dl.c (.tup (ns.map .int))):=⟨ZiM hg hm rfl hd,se_c fun _=>.tup (.inr ⟨o,its,n,h1,h2,h3,h4,h5⟩) (Zhx ns)⟩
end
end L2.Ds
namespace Dl
open PySem
end Dl
namespace L2.Ds
open PySem PySem.Spec PyProof.Rows PySem.Calls Dl
end L2.Ds
namespace Dl
open PySem
def Zju:Res Fl→Res Fl
 | .ok (.rt d)=>.ok (.rt d)
 | _=>.bad
end Dl
namespace L2.Ds
open PySem PySem.Spec PyProof.Rows Dl
section
variable{K:W.Frag}{mg:Str→Option Value}{E:XK}{F0 H0 F H:Hp}{σ:St}{ρ:Ev}
theorem Rep.letgo{F3 H3 H4:Hp}{i:Nat}{x:Option V}(r:Rep K mg F0 H0 F H σ ρ)(g:Gr F H F3 H3)(ag:∀b o,H3 b=some o→(F3 b=none∨∃u,F b=some u)→H4 b=some o):Rep K mg F0 H0 F H4 (σ.set i x) (ρ.set i .no):=by
 refine ⟨⟨r.g.f,fun b u e=>ag b u (g.s b u (g.f b u e)) (.inr ⟨u,e⟩),fun b u e1 e2=>?_⟩,by rw [VbE,VbE];exact r.len,fun j d q=>?_,fun j ds q=>?_,fun j k ds es a q1 q2 q3 q4=>?_⟩
 ·obtain ⟨p1,p2⟩:=r.g.o b u e1 e2
  obtain ⟨p3,p4⟩:=g.o b u p1 p2
  exact ⟨p1,ag b u p4 (.inl p3)⟩
 ·rcases Zav q with ⟨_,z,_⟩ | ⟨hij,q⟩
  ·cases z
  ·rw [Zbr hij];exact r.im j d q
 ·rcases Zav q with ⟨_,z,_⟩ | ⟨hij,q⟩
  ·cases z
  ·rw [Zbr hij]
   obtain ⟨a,xs,h1,h2,h3,h4,h5⟩:=r.ow j ds q
   obtain ⟨p3,p4⟩:=g.o a _ h3 h4
   exact ⟨a,xs,h1,h2,h3,ag a _ p4 (.inl p3),h5⟩
 ·rcases Zav q1 with ⟨_,z,_⟩ | ⟨h1,q1⟩
  ·cases z
  ·rcases Zav q2 with ⟨_,z,_⟩ | ⟨h2,q2⟩
   ·cases z
   ·rw [Zbr h1] at q3
    rw [Zbr h2] at q4
    exact r.ne j k ds es a q1 q2 q3 q4
end
end L2.Ds
namespace Dl
open PySem
def ZkB(it:MI)(own:Nat)(cap:List Nat)(g:MG)(t:MB)(e:ME):ME:=fun ρ=>(it ρ).bind fun xs =>
 if xs.length≤LIM then (Zai g t e (noA own (yar ρ cap)) xs).bind fun ys=>.ok (.lst ys) else .bad
end Dl
namespace L2
open PySem PySem.Spec PyProof.Rows
section
variable{M:Model}{A:Around}{E:Value→Shared→Prop}{s:Shared}{B:Heap}{env cenv:Env}{outer l:List Env}{L e:Addr}{cls a0 fl:Value}
theorem Zgt{h h' B':Heap}{C:Addr}(sB:∀b o,B'.get? b=some o→B.get? b=some o)(k:∀b o,b≠C→h.get? b=some o→h'.get? b=some o):∀{l:List Env},C∉frs l→h.FunFrames B l→h'.FunFrames B' l
 | [],_,_=>trivial
 | v::r,hC,⟨h1,⟨L,o,h2,h3,h4,h5⟩,h6⟩=>by
  have nC:L≠C∧C∉frs r:=by
   unfold frs at hC ⊢
   rw [Van,h2] at hC
   exact ⟨fun z=>hC (z▸Vao),fun z=>hC (Vap _ z)⟩
  refine ⟨h1,⟨L,o,h2,?_,k L o nC.1 h4,h5⟩,Zgt sB k nC.2 h6⟩
  cases q:B'.get? L with
  | none=>rfl
  | some u=>rw [sB L u q] at h3;cases h3
theorem Zfe{Q:Unit→Shared→Prop}(hfr:A.frames=some (env::outer))(hf:env.frame=some L)(hkb:B.StaysIn s.heap)(hen:B.get? e=none)(hl:s.heap.FunFrames B (env::outer))(ht:s.heap.TracedAtW B e cls a0 fl)
  (hQ:∀h',Heap.FlyingW B outer e cls a0 h'→s.heap.UpToSlots h'→Q () { s with heap:=h' }):wpAny M A (leaving env (.ref e)) Q E s:=by
 by_cases hfl:fl=rawInt L
 ·subst hfl
  unfold leaving
  refine Vaz (wpAny_noteFrame_againW hf ht ?_)
  refine wpAny_landsW (L:=L) ⟨hkb,hen,hl,ht⟩ fun h' x1 sm=>?_
  obtain ⟨k1,k2,⟨_,_,k3⟩,k4⟩:=x1
  exact hQ h' ⟨k1,k2,k3,k4⟩ sm
 ·obtain ⟨oe,vs,T,oT,ts,he,⟨hcls,h0⟩,hd,h1,hnT,hTe,hT,hdT,h3⟩:=ht
  subst hcls
  have away:∀b,b≠T→(s.heap.update T (Obj.mapFields (·.setIfInBounds 3 Value.none))).get? b=s.heap.get? b:=fun b hb=>Vbk _ _ (Ne.symm hb)
  have neT:∀b o,s.heap.get? b=some o→(∀vs,o.data≠.fields vs)→b≠T:=fun b o hb hnf q=>by
   rw [q,hT] at hb
   cases hb
   exact hnf ts hdT
  unfold leaving noteFrame
  simp only [hf]
  refine Vaz (Vaz (Vbc he hd h1 ?_))
  rw [if_pos (show (Value.ref T != Value.none)=true from by simp)]
  refine Vaz (Vbc hT hdT h3 ?_)
  rw [if_neg (show ¬((fl==rawInt L)=true) from by simpa using hfl)]
  refine Vaz (wpAny_setField hT hdT (VbW.mp h3).1 ?_)
  refine wpAny_newEntryW hfr (hl.of_keeps fun b o hb hnf=>⟨o,(away b (neT b o hb hnf)).trans hb,rfl⟩) hf ((away e (Ne.symm hTe)).trans he) (fun b o hbo=>(away b fun q=>by rw [q,hnT] at hbo;cases hbo).trans (hkb b o hbo)) hen hd (VbW.mp h1).1 h0 fun h' x=>?_
  obtain ⟨x1,⟨_,_,x2⟩,x3,x4⟩:=x
  exact hQ h' ⟨x1,hen,x2,x3⟩ fun b o hb hnf=>x4 b o ((away b (neT b o hb hnf)).trans hb) hnf
theorem ZfZ{what:String}(hkb:B.StaysIn s.heap)(hl:s.heap.FunFrames B l)(ht:s.heap.TracedAtW B e cls a0 fl)
  (h:∀h' fl',B.StaysIn h'→h'.FunFrames B l→h'.TracedAtW B e cls a0 fl'→(∀b o,s.heap.get? b=some o→(∀vs,o.data≠.fields vs)→h'.get? b=some o)→E (.ref e) { s with heap:=h' }) :
  wpAny M A (PySem.passOn what (.ref e) cenv:Sem Value) (fun _ _=>False) E s:=by
 obtain ⟨oe,vs,T,oT,ts,he,hcls,hd,h1,hnT,hTe,hT,hdT,h3⟩:=ht
 have sz:3<ts.size:=(VbW.mp h3).1
 have away:∀b,b≠T→(s.heap.update T (Obj.mapFields (·.setIfInBounds 3 (cenv.frame.elim Value.none fun f=>rawInt f)))).get? b=s.heap.get? b:=fun b hb=>Vbk _ _ (Ne.symm hb)
 have neT:∀b o,s.heap.get? b=some o→(∀vs,o.data≠.fields vs)→b≠T:=fun b o hb hnf q=>by
  rw [q,hT] at hb
  cases hb
  exact hnf ts hdT
 unfold PySem.passOn
 refine Vaz (Vbc he hd h1 ?_)
 rw [if_neg (show ¬((Value.ref T==Value.none)=true) from by simp)]
 refine Vaz ?_
 unfold setFlight
 refine Vaz (Vbc he hd h1 ?_)
 rw [if_pos (show (Value.ref T != Value.none)=true from by simp)]
 refine wpAny_setField hT hdT sz ?_
 refine wpAny_throw ?_
 refine h _ (cenv.frame.elim Value.none fun f=>rawInt f) (fun b o hbo=>(away b fun q=>by rw [q,hnT] at hbo;cases hbo).trans (hkb b o hbo)) (hl.of_keeps fun b o hb hnf=>⟨o,(away b (neT b o hb hnf)).trans hb,rfl⟩) ?_ fun b o hb hnf=>(away b (neT b o hb hnf)).trans hb
 exact ⟨oe,vs,T,_,_,(away e (Ne.symm hTe)).trans he,hcls,hd,h1,hnT,hTe,VbC _ hT (Obj.isFreed_of_fields (VbD hdT _)),VbD hdT _,by simp [sz]⟩
end
theorem Zpe{P:Program}{w:World}{l l':List Env}{H H':Hp}{s s':Shared}{x:Addr}{cls a0:Value}{B h':Heap}(os:s'.os=s.os)(bare:AllBare s'.gens)(un:Un (frs l) [] H H' s.heap s'.heap)(hok:HOk P w H' s'.heap)
  (frf:∀b∈frs l,H' b=none) (nf:∀b∈frs l,∃o,s'.heap.get? b=some o∧∀vs,o.data≠.fields vs)
  (cov:∀b o,s'.heap.get? b=some o→(H' b≠none∨∃o',s.heap.get? b=some o')→b∉frs l→B.get? b=some o)
  (sub:∀b∈frs l',b∈frs l) (new:∀b∈frs l,b∉frs l'→s.heap.get? b=none) (fl:Heap.FlyingW B l' x cls a0 h') (sm:∀b∈frs l,∀o,s'.heap.get? b=some o→(∀vs,o.data≠.fields vs)→∃sl,h'.get? b=some { o with slots:=sl }) (free:H' x=none) :
  Fly P w l' H H' s { s' with heap:=h' } x cls:=by
 have stay:∀b o,s'.heap.get? b=some o→(H' b≠none∨∃o',s.heap.get? b=some o')→b∉frs l→h'.get? b=some o:=fun b o e q hb=>fl.1 b o (cov b o e q hb)
 have out:∀{b:Addr} {o:Obj},s.heap.get? b=some o→b∉frs l'→b∉frs l:=fun {b o} e hb z=>by
  rw [new b z hb] at e;cases e
 refine ⟨os,bare,⟨fun b o e n hb hx=>?_,fun b o e n hb hx=>?_,un.free,fun b o e hx=>?_,un.tups,un.frzs,un.tbls⟩,fun a o e=>?_,fun b hb=>frf b (sub b hb),free,B,a0,fl,fun b o e q hb=>?_⟩
 ·exact stay b o (un.keep b o e n (out e hb) hx) (.inr ⟨o,e⟩) (out e hb)
 ·obtain ⟨sl,q⟩:=un.slot b o e n (sub b hb) hx
  obtain ⟨o1,q1,d1⟩:=nf b (sub b hb)
  rw [q] at q1;cases q1
  obtain ⟨sl',q2⟩:=sm b (sub b hb) _ q d1
  exact ⟨sl',q2⟩
 ·obtain ⟨o',q⟩:=un.there b o e hx
  by_cases hb:b∈frs l
  ·obtain ⟨o1,q1,d1⟩:=nf b hb
   obtain ⟨sl',q2⟩:=sm b hb _ q1 d1
   exact ⟨_,q2⟩
  ·exact ⟨o',stay b o' q (.inr ⟨o,e⟩) hb⟩
 ·refine (hok a o e).stay (fun b u hb q=>?_) (fun _ q=>q) fun _ _ q=>q
  have tr:H' b≠none:=by
   rcases hb with rfl | hb
   ·rw [e];simp
   ·rw [hb];simp
  exact stay b u q (.inl tr) fun z=>tr (frf b z)
 ·have hb':b∉frs l:=by
   intro z
   rcases q with q | ⟨o',q⟩
   ·exact q (frf b z)
   ·exact out q hb z
  have ⟨o1,q1⟩ : ∃o1,s'.heap.get? b=some o1:=by
   rcases q with q | ⟨o',q⟩
   ·cases z:H' b with
    | none=>exact absurd z q
    | some u=>exact (hok b u z).there
   ·exact un.there b o' q (by simp)
  have c:=cov b o1 q1 q hb'
  have z:=fl.1 b o1 c
  have e':h'.get? b=some o:=e
  rw [e'] at z;cases z
  exact c
def xfE(E:XK)(X:Cx):Addr→Shared→Hp→List Addr→Value→Shared→Prop:=fun C s H fp e s'=>∃H6 s6,s6.os=s.os∧Un (frs X.stack) fp H H6 s.heap s6.heap∧(∃m,s6.heap.Ns C m)∧H6 C=none∧CXR X.prog X.w X.stack H6 s6 E e s'
theorem ZoU{X:Cx}{E:XK}{N:List Str}{scope:Scope}{cl:List (Str×Addr)}{C:Addr}{s:Shared}{H:Hp}{fp:List Addr}{pn:List (Addr×Obj)}:Zbe (CXR X.prog X.w) (Zaw (xfE E X) X N scope cl C s H fp pn) E:=by
 intro pins σ H6 s6 e s' I h
 obtain ⟨m,hn,_⟩:=I.loc
 exact ⟨H6,s6,I.os,I.base,⟨m,hn⟩,I.free,h⟩
section
variable{X:Cx}{E:XK}{pins:List (Addr×Obj)}{σ:St}{H:Hp}{s s7:Shared}{fp:List Addr}{scope:Scope}{cells:List (Str×Addr)}{C:Addr}{e acc:Value}{use:Option (Value→Sem Unit)}{Q:Value→Shared→Prop}
theorem Un.strip{fs ex:List Addr}{H H1:Hp}{h h1:Heap}(u:Un fs ex H H1 h h1)(n:∀b∈ex,h.get? b=none):Un fs [] H H1 h h1:=by
 have no:∀{b:Addr} {o:Obj},h.get? b=some o→b∉ex:=fun {b o} e z=>by rw [n b z] at e;cases e
 exact ⟨fun b o e q1 q2 _=>u.keep b o e q1 q2 (no e),fun b o e q1 q2 _=>u.slot b o e q1 q2 (no e),fun b o e q1 _=>u.free b o e q1 (no e),fun b o e _=>u.there b o e (no e),u.tups,u.frzs,u.tbls⟩
theorem ZmF(hst:X.stack=X.env::X.outer)(hfr:X.env.frame=some X.env.locals)(hex:X.ex=[])
  (hxe:X.xe=fun e s'=>wpAny (model X.prog X.w) X.A (leaving X.env e) (fun _ s''=>CXR X.prog X.w X.outer X.H₀ X.s₀ E e s'') (fun e' s''=>CXR X.prog X.w X.outer X.H₀ X.s₀ E e' s'') s')
  (I:Inv X pins σ H s) (fpn:∀b∈fp,X.s₀.heap.objs.size≤b) (hC:s.heap.objs.size≤C) (h:xfE E X C s H fp e s7) :
  notedBy (model X.prog X.w) X.A (compEnvC scope cells C X.env) (fun e s'=>compPost (model X.prog X.w) X.A X.xe use Q acc C (.error e) s') e s7:=by
 obtain ⟨H6,s6,os6,un6,⟨m,oc,es,ep,ho,hd,hk⟩,fC,x,cls,H',rfl,F,q⟩:=h
 obtain ⟨B,a0,fl,cov⟩:=F.ex
 have nfC:C∉frs X.stack:=fun z=>by
  rcases Var.mp (I.stkSub C z) with q | q
  ·exact absurd (Vaf I.lt hC) (by rw [q];exact Vag _)
  ·exact I.nofs hC q
 have C7:s7.heap.get? C=some oc:=F.un.keep C oc ho fC nfC (by simp)
 have nC7:H' C=none:=F.un.free C oc ho fC (by simp)
 have C0:X.s₀.heap.get? C=none:=Vaq (Vak I.sz hC)
 have ns7:s7.heap.Ns C m:=⟨oc,es,ep,C7,hd,hk⟩
 show wpAny _ _ (noteFrame (.ref x) X.env) _ _ s7
 refine wpAny_looks_onW (outer:=X.outer) (by rw [←hst];exact I.ok.frames) hfr (by rw [←hst];exact fl) fun h8 held sm8=>?_
 obtain ⟨k1,k2,k3,k4⟩:=held
 refine ⟨m,sm8.ns ns7,fun h9 sb cenv' _=>?_⟩
 have kb9:∀b o,b≠C→h8.get? b=some o→h9.get? b=some o:=fun b o hb z=>sb.extBut b o hb z
 obtain ⟨sl8,C8⟩:=sm8 C oc C7 fun vs z=>by rw [hd] at z;cases z
 have neF:∀{b:Addr} {o:Obj} {vs:Array Value},h8.get? b=some o→o.data=.fields vs→b≠C:=fun {b o vs} z1 z2 z3=>by
  rw [z3,C8] at z1
  cases z1
  have z2':oc.data=.fields vs:=z2
  rw [hd] at z2'
  cases z2'
 have hide:∀b o,(W.hideAll B [C]).get? b=some o→B.get? b=some o:=fun b o z=>W.of_hideAll _ z
 have hideC:∀b o,(W.hideAll B [C]).get? b=some o→b≠C:=fun b o z1 z2=>by
  rw [z2,W.hideAll_none [C] (by simp)] at z1
  cases z1
 have t9:h9.TracedAtW (W.hideAll B [C]) x cls a0 (rawInt X.env.locals):=by
  obtain ⟨oe,vs,T,oT,ts,he,hc,hd,h1,hnT,hTe,hT,hdT,h3⟩:=k4
  refine ⟨oe,vs,T,oT,ts,kb9 _ _ (neF he hd) he,hc,hd,h1,?_,hTe,kb9 _ _ (neF hT hdT) hT,hdT,h3⟩
  cases z:(W.hideAll B [C]).get? T with
  | none=>rfl
  | some u=>rw [hide _ _ z] at hnT;cases hnT
 have st9:(W.hideAll B [C]).StaysIn h9:=fun b o z=>kb9 b o (hideC b o z) (k1 b o (hide b o z))
 have en9:(W.hideAll B [C]).get? x=none:=by
  cases z:(W.hideAll B [C]).get? x with
  | none=>rfl
  | some u=>rw [hide _ _ z] at k2;cases k2
 have f9:h9.FunFrames (W.hideAll B [C]) (X.env::X.outer):=Zgt hide kb9 (by rw [←hst];exact nfC) k3
 refine ZfZ (l:=X.env::X.outer) st9 f9 t9 fun h10 fl' st10 f10 t10 sm10=>?_
 rw [hxe]
 refine Zfe (by rw [←hst];exact I.ok.frames) hfr st10 en9 f10 t10 fun h11 fl11 sm11=>?_
 refine ⟨x,cls,H',rfl,?_,q⟩
 have un:Un (frs X.stack) [] X.H₀ H' X.s₀.heap s7.heap:=by
  refine Un.strip (ex:=fp) ?_ fun b hb=>Vaq (fpn b hb)
  exact ((I.base.mono I.sub (by rw [hex];simp)).trans un6).trans (F.un.mono (fun _ z=>z) (by simp))
 refine Zpe (l:=X.stack) (s':=s7) (F.os.trans (os6.trans I.os)) F.bare un F.hok F.frf (fun b hb=>(fl.2.2.1.mem hb).2) (B:=W.hideAll B [C]) (a0:=a0) (fun b o z1 z2 z3=>?_) I.sub (fun b h1 h2=>?_) fl11 (fun b hb o z1 z2=>?_) F.free
 ·have nb:b≠C:=by
   rintro rfl
   rcases z2 with z2 | ⟨o',z2⟩
   ·exact z2 nC7
   ·rw [C0] at z2;cases z2
  have zB:B.get? b=some o:=cov b o z1 (z2.imp id fun ⟨o',z⟩=>by
   obtain ⟨o1,w1⟩:=I.base.there b o' z (by rw [hex];simp)
   exact un6.there b o1 w1 fun hb=>by
    rw [Vaq (fpn b hb)] at z;cases z) z3
  exact W.hideAll_get _ zB (by simpa using nb)
 ·rcases Var.mp (I.stkSub b h1) with e | e
  ·rw [e];exact Vaq I.ok.above
  ·exact absurd e h2
 ·have nb:b≠C:=fun z=>nfC (z▸hb)
  obtain ⟨sl,w8⟩:=sm8 b o z1 z2
  have w9:=kb9 b _ nb w8
  have w10:=sm10 b _ w9 z2
  obtain ⟨sl',w11⟩:=sm11 b _ w10 z2
  exact ⟨sl',w11⟩
end
section
variable{X:Cx}{own:List Str}{cap:List (Str×Nat)}{scope:Scope}{cl:List (Str×Addr)}{pins:List (Addr×Obj)}{σ:St}{H:Hp}{s:Shared}{fp:List Addr}{tg:Expr}{J:It}{it:Addr}{tn:Nat→Heap→Prop}{E:XK}
structure ZsL(X:Cx)(E:XK):Prop where
 hst:X.stack=X.env::X.outer
 hfr:X.env.frame=some X.env.locals
 hex:X.ex=[]
 hxe:X.xe=fun e s'=>wpAny (model X.prog X.w) X.A (leaving X.env e) (fun _ s''=>CXR X.prog X.w X.outer X.H₀ X.s₀ E e s'') (fun e' s''=>CXR X.prog X.w X.outer X.H₀ X.s₀ E e' s'') s'
theorem Znr{elt iter:Expr}{pos:Pos}{wi:TI}{ts:List Expr}{g:Fam TG}{tt:Fam TT}{te:Fam TE}(b:ZsL X E)(hi:PI X tg iter wi)(O:Zci X own cap scope cl)(hc:X.calm=true)
  (hg:∀C s H fp pn,PG (Zaw (xfE E X) X (own++cap.map (·.1)) scope cl C s H fp pn) tg (g C s H fp pn)) (ht:∀C s H fp pn,PTs (Zaw (xfE E X) X (own++cap.map (·.1)) scope cl C s H fp pn) ts (tt C s H fp pn)) (he:∀C s H fp pn,PE (Zaw (xfE E X) X (own++cap.map (·.1)) scope cl C s H fp pn) elt (te C s H fp pn)) (hts:ts.length≤1)
  (hs:∀x,foldedSetIterable iter X.env x=pure x:=by intro _;rfl):PE X (.ListComp elt [⟨tg,iter,ts,0⟩] scope pos) (ZdM wi g tt te own cap):=by
 intro pins s σ H Q I h
 rw [eval_ListComp]
 refine wpAny_comprehension_free (use:=none) rfl hs O.clos O.kind O.locals (thn (hi pins s σ H _ I h) fun xv s₁ h₁=>thn h₁ fun itv s₂ h₂=>?_)
 obtain ⟨it,fp,tn,J,H2,rfl,I2,T,st2,f2,hw⟩:=h₂
 refine Zig (xf:=xfE E X) (R:=fun acc C=>compPost (model X.prog X.w) X.A X.xe none (EP X pins σ Q) acc C) O hc hg ht he hts I2 T st2 f2 hw ?_ ?_
 ·intro D C H' s' m hC hn hH IV q
  exact ⟨m,hn,fun h' sb=>⟨.ref D,H',IV h' sb,rfl,q⟩⟩
 ·intro D C cells e s' hC z
  refine ZmF b.hst b.hfr b.hex b.hxe I2 (fun a ha=>?_) hC z
  rcases (f2 a ha).2.2.2.1 with q | q
  ·rw [b.hex] at q;cases q
  ·exact q
end
end L2
namespace L2.Ds
open PySem PySem.Spec PyProof.Rows Dl
section
variable{K:W.Frag}{mg:Str→Option Value}{E:XK}{F0 H0 F H:Hp}{σ:St}{ρ:Ev}
theorem Znf{t:TG}{g:MG}{tt:TT}{nt:MB}{te:TE}{me:ME}{own:List Str}{cap:List (Str×Nat)}{J:It}{ds ys:List D}(r:Rep K mg F0 H0 F H σ ρ)(jo:ItOk K mg F J ds)(hg:SG K mg own.length t g)(ht:STt K mg E tt nt)(he:SE K mg E te me)
  (hl:ds.length≤LIM) (e0:Dl.Zai g nt me (noA own.length (yar ρ (cap.map (·.2)))) ds=.ok ys) (Q:VK) (q:∀F' H' xs,Gr F H F' H'→Rps K mg F' xs ys→xs.length≤sizeLine→∀p,H' p=none→Q (.ref p) (upd H' p (.lst xs))) :
  ZcV J t tt te own cap σ Q H:=by
 refine ⟨fun i k acc H'=>k=ds.length - i∧i≤ds.length∧acc.length≤i∧∃F' zs rs,Gr F H F' H'∧Rps K mg F' acc zs∧Dl.Zai g nt me (noA own.length (yar ρ (cap.map (·.2)))) (ds.drop i)=.ok rs∧zs++rs=ys,
  ⟨ds.length,by simp,VaT _,VaI _,F,[],ys,.refl r.ss,.nil,e0,rfl⟩,?_⟩
 rintro i k acc H' ⟨rfl,hi,ha,F',zs,rs,g1,r1,e1,e2⟩
 have la:acc.length≤LIM:=Vak ha (Vak hi hl)
 refine ⟨ZdI la,?_⟩
 by_cases hlt:i<ds.length
 ·refine .inr ?_
  have hd:ds[i]?=some ds[i]:=VbH hlt
  obtain ⟨go,yl⟩:=(jo F' H' g1.f g1.s i).1 _ hd
  rw [Vbt hlt] at e1
  refine ⟨go,fun x H2 y=>?_⟩
  obtain ⟨F2,g2,rx⟩:=yl x H2 y
  have rr:=(r.gr (g1.trans g2)).inner (own:=own) (cap:=cap) (g1.trans g2)
  have hG:=hg F H F2 H2 _ _ x _ rr rx
  have e':(g ds[i] (noA own.length (yar ρ (cap.map (·.2))))).bind (fun ρ1=>(nt ρ1).bind fun b=>if b=true then (me ρ1).bind fun y=>(Dl.Zai g nt me (noA own.length (yar ρ (cap.map (·.2)))) (ds.drop (i+1))).bind fun ys=>.ok (y::ys) else Dl.Zai g nt me (noA own.length (yar ρ (cap.map (·.2)))) (ds.drop (i+1)))=.ok rs:=e1
  cases eg:g ds[i] (noA own.length (yar ρ (cap.map (·.2)))) with
  | ok ρ1 =>
   rw [eg] at e' hG
   refine hG _ fun F3 H3 σ3 s3 r3 d3=>⟨d3.trans Zhe,?_⟩
   have hT:=ht F H F3 H3 σ3 ρ1 r3
   have sF:Same F' F3:=g2.f.trans s3
   have e3:(nt ρ1).bind (fun b=>if b=true then (me ρ1).bind fun y=>(Dl.Zai g nt me (noA own.length (yar ρ (cap.map (·.2)))) (ds.drop (i+1))).bind fun ys=>.ok (y::ys) else Dl.Zai g nt me (noA own.length (yar ρ (cap.map (·.2)))) (ds.drop (i+1)))=.ok rs:=e'
   cases et:nt ρ1 with
   | ok b =>
    rw [et] at e3 hT
    refine hT _ fun F4 H4 b' g4 eb=>?_
    cases (show b'=b from eb)
    cases b with
    | true =>
     rw [if_pos rfl]
     have e4:(me ρ1).bind (fun y=>(Dl.Zai g nt me (noA own.length (yar ρ (cap.map (·.2)))) (ds.drop (i+1))).bind fun ys=>.ok (y::ys))=.ok rs:=e3
     have hE:=he F H F4 H4 σ3 ρ1 (r3.gr g4)
     cases em:me ρ1 with
     | ok y' =>
      rw [em] at e4 hE
      refine hE _ fun F5 H5 u g5 ru=>⟨Vbn la (by decide),ds.length - (i+1),by omega,rfl,hlt,by rw [Va7];show acc.length+1≤i+1;omega,?_⟩
      have e5:(Dl.Zai g nt me (noA own.length (yar ρ (cap.map (·.2)))) (ds.drop (i+1))).bind (fun ys=>.ok (y'::ys))=.ok rs:=e4
      cases ec:Dl.Zai g nt me (noA own.length (yar ρ (cap.map (·.2)))) (ds.drop (i+1)) with
      | ok rs' =>
       rw [ec] at e5
       have e6:Res.ok (y'::rs')=.ok rs:=e5
       cases e6
       exact ⟨F5,zs++[y'],rs',r3.g.trans (g4.trans g5),Rps.app (.cons ru .nil) (r1.same (sF.trans (g4.f.trans g5.f))),rfl,by rw [VbK];exact e2⟩
      | ex c=>rw [ec] at e5;cases e5
      | bad=>rw [ec] at e5;cases e5
     | ex c=>rw [em] at e4;cases e4
     | bad=>rw [em] at e4;cases e4
    | false =>
     rw [if_neg VaF]
     have e4:Dl.Zai g nt me (noA own.length (yar ρ (cap.map (·.2)))) (ds.drop (i+1))=.ok rs:=e3
     exact ⟨ds.length - (i+1),by omega,rfl,hlt,by omega,F4,zs,rs,r3.g.trans g4,r1.same (sF.trans g4.f),e4,e2⟩
   | ex c=>rw [et] at e3;cases e3
   | bad=>rw [et] at e3;cases e3
  | ex c=>rw [eg] at e';cases e'
  | bad=>rw [eg] at e';cases e'
 ·have hi2:i=ds.length:=by omega
  subst hi2
  rw [VbI (VaI _)] at e1
  cases e1
  rw [VaV] at e2
  subst e2
  exact .inl ⟨(jo F' H' g1.f g1.s _).2 (VaI _),q F' H' acc g1 r1 (ZdI la)⟩
theorem ZmV{t:TG}{g:MG}{tt:TT}{nt:MB}{te:TE}{me:ME}{own:List Str}{cap:List (Str×Nat)}{J:It}{ds:List D}{c:Str}(r:Rep K mg F0 H0 F H σ ρ)(jo:ItOk K mg F J ds)(hg:SG K mg own.length t g)(hgx:∀d ρ c,g d ρ≠.ex c)(ht:STt K mg E tt nt)(he:SE K mg E te me)
  (hl:ds.length≤LIM) (e0:Dl.Zai g nt me (noA own.length (yar ρ (cap.map (·.2)))) ds=.ex c) (Q:VK) (q:∀F' H' C,Gr F H F' H'→mg c=some (.ref C)→E (.ref C) none H') :
  ZcV J t tt te own cap σ Q H:=by
 refine ⟨fun i k acc H'=>k=ds.length - i∧i≤ds.length∧acc.length≤i∧∃F',Gr F H F' H'∧Dl.Zai g nt me (noA own.length (yar ρ (cap.map (·.2)))) (ds.drop i)=.ex c,
  ⟨ds.length,by simp,VaT _,VaI _,F,.refl r.ss,e0⟩,?_⟩
 rintro i k acc H' ⟨rfl,hi,ha,F',g1,e1⟩
 have la:acc.length≤LIM:=Vak ha (Vak hi hl)
 refine ⟨ZdI la,?_⟩
 by_cases hlt:i<ds.length
 case neg =>
  rw [VbI (by omega)] at e1
  cases e1
 refine .inr ?_
 have hd:ds[i]?=some ds[i]:=VbH hlt
 obtain ⟨go,yl⟩:=(jo F' H' g1.f g1.s i).1 _ hd
 rw [Vbt hlt] at e1
 refine ⟨go,fun x H2 y=>?_⟩
 obtain ⟨F2,g2,rx⟩:=yl x H2 y
 have rr:=(r.gr (g1.trans g2)).inner (own:=own) (cap:=cap) (g1.trans g2)
 have hG:=hg F H F2 H2 _ _ x _ rr rx
 have e':(g ds[i] (noA own.length (yar ρ (cap.map (·.2))))).bind (fun ρ1=>(nt ρ1).bind fun b=>if b=true then (me ρ1).bind fun y=>(Dl.Zai g nt me (noA own.length (yar ρ (cap.map (·.2)))) (ds.drop (i+1))).bind fun ys=>.ok (y::ys) else Dl.Zai g nt me (noA own.length (yar ρ (cap.map (·.2)))) (ds.drop (i+1)))=.ex c:=e1
 cases eg:g ds[i] (noA own.length (yar ρ (cap.map (·.2)))) with
 | bad=>rw [eg] at e';cases e'
 | ex c'=>exact absurd eg (hgx _ _ _)
 | ok ρ1 =>
  rw [eg] at e' hG
  refine hG _ fun F3 H3 σ3 s3 r3 d3=>⟨d3.trans Zhe,?_⟩
  have hT:=ht F H F3 H3 σ3 ρ1 r3
  have e3:(nt ρ1).bind (fun b=>if b=true then (me ρ1).bind fun y=>(Dl.Zai g nt me (noA own.length (yar ρ (cap.map (·.2)))) (ds.drop (i+1))).bind fun ys=>.ok (y::ys) else Dl.Zai g nt me (noA own.length (yar ρ (cap.map (·.2)))) (ds.drop (i+1)))=.ex c:=e'
  cases et:nt ρ1 with
  | bad=>rw [et] at e3;cases e3
  | ex c' =>
   rw [et] at e3 hT
   cases (show Res.ex c'=.ex c from e3)
   exact hT _ fun F4 H4 C g4 hC=>q F4 H4 C (r3.g.trans g4) hC
  | ok b =>
   rw [et] at e3 hT
   refine hT _ fun F4 H4 b' g4 eb=>?_
   cases (show b'=b from eb)
   cases b with
   | false =>
    rw [if_neg VaF]
    exact ⟨ds.length - (i+1),by omega,rfl,hlt,by omega,F4,r3.g.trans g4,e3⟩
   | true =>
    rw [if_pos rfl]
    have e4:(me ρ1).bind (fun y=>(Dl.Zai g nt me (noA own.length (yar ρ (cap.map (·.2)))) (ds.drop (i+1))).bind fun ys=>.ok (y::ys))=.ex c:=e3
    have hE:=he F H F4 H4 σ3 ρ1 (r3.gr g4)
    cases em:me ρ1 with
    | bad=>rw [em] at e4;cases e4
    | ex c' =>
     rw [em] at e4 hE
     cases (show Res.ex c'=.ex c from e4)
     exact hE _ fun F5 H5 C g5 hC=>q F5 H5 C (r3.g.trans (g4.trans g5)) hC
    | ok y' =>
     rw [em] at e4 hE
     have e5:(Dl.Zai g nt me (noA own.length (yar ρ (cap.map (·.2)))) (ds.drop (i+1))).bind (fun ys=>.ok (y'::ys))=.ex c:=e4
     refine hE _ fun F5 H5 u g5 ru=>⟨Vbn la (by decide),ds.length - (i+1),by omega,rfl,hlt,by rw [Va7];show acc.length+1≤i+1;omega,F5,r3.g.trans (g4.trans g5),?_⟩
     cases ec:Dl.Zai g nt me (noA own.length (yar ρ (cap.map (·.2)))) (ds.drop (i+1)) with
     | ok rs=>rw [ec] at e5;cases e5
     | bad=>rw [ec] at e5;cases e5
     | ex c' =>
      rw [ec] at e5
      exact e5
theorem Zna{wi:TI}{mi:MI}{t:Fam TG}{g:MG}{tt:Fam TT}{nt:MB}{te:Fam TE}{me:ME}{own:List Str}{cap:List (Str×Nat)}(hi:SI K mg E wi mi)(hg:∀C s H fp pn,SG K mg own.length (t C s H fp pn) g)(hgx:∀d ρ c,g d ρ≠.ex c)(ht:∀C s H fp pn,STt K mg E (tt C s H fp pn) nt)(he:∀C s H fp pn,SE K mg E (te C s H fp pn) me) :
  SE K mg E (ZdM wi t tt te own cap) (ZkB mi own.length (cap.map (·.2)) g nt me):=by
 intro F0 H0 F H σ ρ rr
 refine (hi F0 H0 F H σ ρ rr).bind (w':=fun J H1 Q=>∀C s H2 fp pn,ZcV J (t C s H2 fp pn) (tt C s H2 fp pn) (te C s H2 fp pn) own cap σ Q H1) fun F1 H1 J ds g1 jo=>?_
 by_cases hl:ds.length≤LIM
 ·rw [if_pos hl]
  cases e:Dl.Zai g nt me (noA own.length (yar ρ (cap.map (·.2)))) ds with
  | ok ys=>exact fun Q q C s H2 fp pn=>Znf (rr.gr g1) jo (hg C s H2 fp pn) (ht C s H2 fp pn) (he C s H2 fp pn) hl e Q fun F' H' xs g2 rs _ p hp=>q _ _ _ (g2.trans (.new g2.s hp _)) (.lst (SqL.of Zag) (rs.same (Zaz (g2.s.free hp) _)))
  | ex c=>exact fun Q q C s H2 fp pn=>ZmV (rr.gr g1) jo (hg C s H2 fp pn) hgx (ht C s H2 fp pn) (he C s H2 fp pn) hl e Q fun F' H' C g2 hC=>q F' H' C g2 hC
  | bad=>trivial
 ·rw [if_neg hl];trivial
end
section
variable{X:Cx}{E:XK}{tg iter elt:Expr}{ts:List Expr}{me:ME}{na:MB}{pos:Pos}
theorem ZlD{own:List Str}{cap:List (Str×Nat)}{scope:Scope}{cl:List (Str×Addr)}{wi:TI}{mi:MI}{g:Fam TG}{gm:MG}{tt:Fam TT}{tf:Fam TE}(b:ZsL X E)(hi:DI X E tg iter wi mi)(O:Zci X own cap scope cl)(hc:X.calm=true)
  (hg:∀C s H fp pn,DG (Zaw (xfE E X) X (own++cap.map (·.1)) scope cl C s H fp pn) own.length tg (g C s H fp pn) gm) (ht:∀C s H fp pn,DTs (Zaw (xfE E X) X (own++cap.map (·.1)) scope cl C s H fp pn) E ts (tt C s H fp pn) na)
  (he:∀C s H fp pn,DE (Zaw (xfE E X) X (own++cap.map (·.1)) scope cl C s H fp pn) E elt (tf C s H fp pn) me) (hts:ts.length≤1:=by decide) (hs:∀x,foldedSetIterable iter X.env x=pure x:=by intro _;rfl) :
  DE X E (.ListComp elt [⟨tg,iter,ts,0⟩] scope pos) (ZdM wi g tt tf own cap) (ZkB mi own.length (cap.map (·.2)) gm na me) :=
 ⟨Znr b hi.p O hc (fun C s H fp pn=>(hg C s H fp pn).p) (fun C s H fp pn=>(ht C s H fp pn).p) (fun C s H fp pn=>(he C s H fp pn).p) hts hs,
  Zna hi.s (fun C s H fp pn=>(hg C s H fp pn).s) (hg 0 X.s₀ (fun _=>none) [] []).x (fun C s H fp pn=>(ht C s H fp pn).s) (fun C s H fp pn=>(he C s H fp pn).s)⟩
theorem Zq3{X:Cx}{E:XK}{N:List Str}{scope:Scope}{cl:List (Str×Addr)}{C':Addr}{s:Shared}{H:Hp}{fp:List Addr}{pn:List (Addr×Obj)}{e:Expr}{es:List Expr}{t:TA}{m:MA}{n k l:Nat}{x:Str}{ps:List Str}{f:List D→Res D}{p pos:Pos}
  (C:Cal X.prog X.w X.K X.mg X.base k x ps f) (hr:Room l X.A) (hn:k≤l) (hg:Gl (Zaw (xfE E X) X N scope cl C' s H fp pn) x) (ha:DA (Zaw (xfE E X) X N scope cl C' s H fp pn) E n (e::es) t m) (hps:ps.length=n:=by rfl)
  (hdb:(x==("__debug__" : Str))=false:=by decide) (he:starEach (e::es) (Zaw (xfE E X) X N scope cl C' s H fp pn).env=(false,eval e (Zaw (xfE E X) X N scope cl C' s H fp pn).env)::starEach es (Zaw (xfE E X) X N scope cl C' s H fp pn).env:=by rfl)
  (hpl:(backTo pos (starEach es (Zaw (xfE E X) X N scope cl C' s H fp pn).env)).any (·.1)=false:=by rfl) :
  DE (Zaw (xfE E X) X N scope cl C' s H fp pn) E (.Call (.Name x p) (e::es) [] pos) (Zgf (spD X.K X.mg ps.length f) [] E t) (on f m) :=
 ZdD (X:=Zaw (xfE E X) X N scope cl C' s H fp pn) C hr hn hg ZoU ha hps hdb he hpl
end
end L2.Ds
namespace Dl
open PySem
def dFld(cs:List Str)(f:Str):D→Res D
 | .ins c ns vs=>if cs.contains c=true then ofO ((ns.zip vs).lookup f) else .bad
 | _=>.bad
def badS:MS:=fun _=>.bad
end Dl
namespace L2.Ds
open PySem PySem.Spec PyProof.Rows Dl
def Zfd(K:W.Frag)(mg:Str→Option Value)(cs:List Str)(f:Str):Prop:=∀c,cs.contains c=true→∀C,mg c=some (.ref C)→Cls K C∧ZdC K C f
def rFld(K:W.Frag)(f:Str):V→Hp→VK→Prop:=fun x H Q=>∃a C dx fs v,x=.ref a∧H a=some (.ins C dx fs)∧Cls K C∧ZdC K C f∧fs.lookup f=some v∧Q v H
section
variable{K:W.Frag}{mg:Str→Option Value}
theorem Zgw{F:Hp}{f:Str}{d:D}:∀{fs:List (Str×V)} {vs:List D},Rps K mg F (fs.map (·.2)) vs→((fs.map (·.1)).zip vs).lookup f=some d→∃v,fs.lookup f=some v∧Rp K mg F v d
 | [],_,_,e=>by simp at e
 | (n,x)::r,[],q,_=>nomatch q
 | (n,x)::r,d0::vs,.cons h q,e=>by
  rw [VaP,List.zip_cons_cons,Vbq] at e
  rw [Vbq]
  cases z:f==n with
  | true =>
   rw [show (f==(n,x).fst)=true from z] at e
   cases e
   exact ⟨x,rfl,h⟩
  | false =>
   rw [show (f==(n,x).fst)=false from z] at e
   exact Zgw q e
theorem Zqf{cs:List Str}{f:Str}(T:Zfd K mg cs f):UnD K mg (rFld K f) (dFld cs f):=by
 intro E F H x dx s rx
 cases dx with
 | ins c ns vs =>
  show Ans mg E (Rp K mg) F H (if cs.contains c=true then ofO ((ns.zip vs).lookup f) else .bad) _
  by_cases hc:cs.contains c=true
  ·rw [if_pos hc]
   cases rx with
   | @ins _ C a dx fs xs _ m h o e r =>
    subst e
    cases q:((fs.map (·.1)).zip vs).lookup f with
    | none=>trivial
    | some d =>
     obtain ⟨v,hv,rv⟩:=Zgw r q
     obtain ⟨c1,c2⟩:=T c hc C m
     exact .ret s rv fun Q z=>⟨a,C,dx,fs,v,rfl,s _ _ h,c1,c2,hv,z⟩
  ·rw [if_neg hc];trivial
 | _=>trivial
end
theorem Zm6{X:Cx}{E:XK}{e:Expr}{te:TE}{me:ME}{cs:List Str}{f:Str}{pos:Pos}(T:Zfd X.K X.mg cs f)(he:DE X E e te me)(hb:attributeBase e f X.env (eval e X.env)=eval e X.env:=by rfl) :
  DE X E (.Attribute e f pos) (tFld X.K te f) (o1 (dFld cs f) me):=⟨Ztw he.p hb,ZsX (Zqf T) he.s⟩
theorem Zpv{X:Cx}{E:XK}{sts:List Stmt}:DSs X E sts (fun _ _ _=>False) badS:=⟨fun _ _ _ _ _ _ h=>h.elim,fun _ _ _ _ _ _ _=>trivial⟩
end L2.Ds
namespace Dl
open PySem
end Dl
namespace L2.Ds
open PySem PySem.Spec PyProof.Rows Dl
section
variable{K:W.Frag}{mg:Str→Option Value}{E:XK}{F0 H0 F H:Hp}{σ:St}{ρ:Ev}
def RowR(K:W.Frag)(mg:Str→Option Value)(Fb F':Hp)(x:V)(d:D):Prop:=∃q ys cs,x=.ref q∧d=.lst cs∧Fb q=none∧F' q=some (.lst ys)∧Rps K mg F' ys cs
theorem RowR.up{Fb F' F'':Hp}{x:V}{d:D}(h:RowR K mg Fb F' x d)(s:Same F' F''):RowR K mg Fb F'' x d:=by
 obtain ⟨q,ys,cs,e1,e2,h1,h2,h3⟩:=h
 exact ⟨q,ys,cs,e1,e2,h1,s _ _ h2,h3.same s⟩
def SEl(K:W.Frag)(mg:Str→Option Value)(E:XK)(t:TE)(m:ME):Prop:=∀F0 H0 F H σ ρ,Rep K mg F0 H0 F H σ ρ→Ans mg E (RowR K mg F) F H (m ρ) (t σ H)
theorem Znh{t:TG}{g:MG}{tt:TT}{nt:MB}{te:TE}{me:ME}{own:List Str}{cap:List (Str×Nat)}{J:It}{ds ys:List D}(r:Rep K mg F0 H0 F H σ ρ)(jo:ItOk K mg F J ds)(hg:SG K mg own.length t g)(ht:STt K mg E0 tt nt)(he:SEl K mg E0 te me)
  (hl:ds.length≤LIM) (e0:Dl.Zai g nt me (noA own.length (yar ρ (cap.map (·.2)))) ds=.ok ys) (Q:VK) (q:∀F' H' xs,Gr F H F' H'→Rps K mg F' xs ys→(∀(k:Nat) (y:V) (d:D),xs[k]?=some y→ys[k]?=some d→RowR K mg F F' y d)→xs.Nodup→xs.length≤sizeLine→∀p,H' p=none→Q (.ref p) (upd H' p (.lst xs))) :
  ZcV J t tt te own cap σ Q H:=by
 refine ⟨fun i k acc H'=>k=ds.length - i∧i≤ds.length∧acc.length≤i∧∃F' zs rs,Gr F H F' H'∧Rps K mg F' acc zs∧(∀(k:Nat) (y:V) (d:D),acc[k]?=some y→zs[k]?=some d→RowR K mg F F' y d)∧acc.Nodup∧Dl.Zai g nt me (noA own.length (yar ρ (cap.map (·.2)))) (ds.drop i)=.ok rs∧zs++rs=ys,
  ⟨ds.length,by simp,VaT _,VaI _,F,[],ys,.refl r.ss,.nil,(fun k y d hy=>by simp at hy),List.nodup_nil,e0,rfl⟩,?_⟩
 rintro i k acc H' ⟨rfl,hi,ha,F',zs,rs,g1,r1,n1,nd1,e1,e2⟩
 have la:acc.length≤LIM:=Vak ha (Vak hi hl)
 refine ⟨ZdI la,?_⟩
 by_cases hlt:i<ds.length
 ·refine .inr ?_
  have hd:ds[i]?=some ds[i]:=VbH hlt
  obtain ⟨go,yl⟩:=(jo F' H' g1.f g1.s i).1 _ hd
  rw [Vbt hlt] at e1
  refine ⟨go,fun x H2 y=>?_⟩
  obtain ⟨F2,g2,rx⟩:=yl x H2 y
  have rr:=(r.gr (g1.trans g2)).inner (own:=own) (cap:=cap) (g1.trans g2)
  have hG:=hg F H F2 H2 _ _ x _ rr rx
  have e':(g ds[i] (noA own.length (yar ρ (cap.map (·.2))))).bind (fun ρ1=>(nt ρ1).bind fun b=>if b=true then (me ρ1).bind fun y=>(Dl.Zai g nt me (noA own.length (yar ρ (cap.map (·.2)))) (ds.drop (i+1))).bind fun ys=>.ok (y::ys) else Dl.Zai g nt me (noA own.length (yar ρ (cap.map (·.2)))) (ds.drop (i+1)))=.ok rs:=e1
  cases eg:g ds[i] (noA own.length (yar ρ (cap.map (·.2)))) with
  | ok ρ1 =>
   rw [eg] at e' hG
   refine hG _ fun F3 H3 σ3 s3 r3 d3=>⟨d3.trans Zhe,?_⟩
   have hT:=ht F H F3 H3 σ3 ρ1 r3
   have sF:Same F' F3:=g2.f.trans s3
   have e3:(nt ρ1).bind (fun b=>if b=true then (me ρ1).bind fun y=>(Dl.Zai g nt me (noA own.length (yar ρ (cap.map (·.2)))) (ds.drop (i+1))).bind fun ys=>.ok (y::ys) else Dl.Zai g nt me (noA own.length (yar ρ (cap.map (·.2)))) (ds.drop (i+1)))=.ok rs:=e'
   cases et:nt ρ1 with
   | ok b =>
    rw [et] at e3 hT
    refine hT _ fun F4 H4 b' g4 eb=>?_
    cases (show b'=b from eb)
    cases b with
    | true =>
     rw [if_pos rfl]
     have e4:(me ρ1).bind (fun y=>(Dl.Zai g nt me (noA own.length (yar ρ (cap.map (·.2)))) (ds.drop (i+1))).bind fun ys=>.ok (y::ys))=.ok rs:=e3
     have hE:=he F H F4 H4 σ3 ρ1 (r3.gr g4)
     cases em:me ρ1 with
     | ok y' =>
      rw [em] at e4 hE
      refine hE _ fun F5 H5 u g5 ru=>⟨Vbn la (by decide),ds.length - (i+1),by omega,rfl,hlt,by rw [Va7];show acc.length+1≤i+1;omega,?_⟩
      have e5:(Dl.Zai g nt me (noA own.length (yar ρ (cap.map (·.2)))) (ds.drop (i+1))).bind (fun ys=>.ok (y'::ys))=.ok rs:=e4
      have sF5:=sF.trans (g4.f.trans g5.f)
      cases ec:Dl.Zai g nt me (noA own.length (yar ρ (cap.map (·.2)))) (ds.drop (i+1)) with
      | ok rs' =>
       rw [ec] at e5
       have e6:Res.ok (y'::rs')=.ok rs:=e5
       cases e6
       obtain ⟨q,qs,cs,rfl,rfl,fq4,fq5,rq⟩:=ru
       have fq:F q=none:=(r3.g.f.trans g4.f).free fq4
       have lz:=r1.length
       refine ⟨F5,zs++[.lst cs],rs',r3.g.trans (g4.trans g5),Rps.app (.cons (.lst (SqL.of fq5) rq) .nil) (r1.same sF5),fun k z d hz hd=>?_,?_,rfl,by rw [VbK];exact e2⟩
       ·by_cases hk:k<acc.length
        ·rw [Va4 hk] at hz
         rw [Va4 (by omega)] at hd
         exact (n1 k z d hz hd).up sF5
        ·rw [Va2 (by omega)] at hz
         rw [Va2 (by omega)] at hd
         have hk0:k - acc.length=0:=by
          have:=(Vau.mp hz).1
          simp at this
          omega
         rw [hk0] at hz
         rw [show k - zs.length=0 by omega] at hd
         cases hz
         cases hd
         exact ⟨q,qs,cs,rfl,rfl,fq,fq5,rq⟩
       ·refine List.nodup_append.mpr ⟨nd1,by simp,fun z hz w hw=>?_⟩
        have hw':w=.ref q:=by simpa using hw
        subst hw'
        obtain ⟨k,hk,rfl⟩:=VbX.mp hz
        obtain ⟨q',_,_,ez,_,_,f',_⟩:=n1 k _ _ (VbH hk) (VbH (show k<zs.length by omega))
        rw [ez]
        intro z2
        cases z2
        rw [(sF.trans g4.f) _ _ f'] at fq4
        cases fq4
      | ex c=>rw [ec] at e5;cases e5
      | bad=>rw [ec] at e5;cases e5
     | ex c=>rw [em] at e4;cases e4
     | bad=>rw [em] at e4;cases e4
    | false =>
     rw [if_neg VaF]
     have e4:Dl.Zai g nt me (noA own.length (yar ρ (cap.map (·.2)))) (ds.drop (i+1))=.ok rs:=e3
     exact ⟨ds.length - (i+1),by omega,rfl,hlt,by omega,F4,zs,rs,r3.g.trans g4,r1.same (sF.trans g4.f),(fun k z d h1 h2=>(n1 k z d h1 h2).up (sF.trans g4.f)),nd1,e4,e2⟩
   | ex c=>rw [et] at e3;cases e3
   | bad=>rw [et] at e3;cases e3
  | ex c=>rw [eg] at e';cases e'
  | bad=>rw [eg] at e';cases e'
 ·have hi2:i=ds.length:=by omega
  subst hi2
  rw [VbI (VaI _)] at e1
  cases e1
  rw [VaV] at e2
  subst e2
  exact .inl ⟨(jo F' H' g1.f g1.s _).2 (VaI _),q F' H' acc g1 r1 n1 nd1 (ZdI la)⟩
theorem Zoo:∀{xs:List V} {ds:List D} {G:Hp},xs.length=ds.length→(∀(k:Nat) (x:V) (d:D),xs[k]?=some x→ds[k]?=some d→Rp K mg G x d)→Rps K mg G xs ds
 | [],[],_,_,_=>.nil
 | [],_::_,_,l,_=>by cases l
 | _::_,[],_,l,_=>by cases l
 | x::xs,d::ds,G,l,h=>.cons (h 0 x d rfl rfl) (Zoo (by simpa using l) fun k y e h1 h2=>h (k+1) y e (by simpa using h1) (by simpa using h2))
end
structure DEl(X:Cx)(E:XK)(e:Expr)(t:TE)(m:ME):Prop where
 p:PE X e t
 s:SEl X.K X.mg E t m
end L2.Ds
namespace Dl
open PySem
end Dl
namespace L2
open PySem PySem.Spec PyProof.Rows
end L2
namespace L2.Ds
open PySem PySem.Spec PyProof.Rows PySem.Calls Dl
end L2.Ds
namespace Dl
open PySem
abbrev Fs:=List (Str×D)
abbrev MSi:=Ev→Fs→Res Fs
def iEnd:MSi:=fun _ fl=>.ok fl
def iDrp(e:ME)(k:MSi):MSi:=fun ρ fl=>(e ρ).bind fun _=>k ρ fl
def iSet(f:Str)(e:ME)(k:MSi):MSi:=fun ρ fl=>(e ρ).bind fun d=>if (fl.map (·.1)).contains f=true∨100≤fl.length then .bad else k ρ (fl++[(f,d)])
def iSup(g:List D→Fs→Res Fs)(a:MA)(k:MSi):MSi:=fun ρ fl=>(a ρ).bind fun ds=>(g ds fl).bind fun fl'=>k ρ fl'
def fnI(n:Nat)(k:MSi):List D→Fs→Res Fs:=fun ds fl=>k (.no::ev0 (n - 1) ds) fl
def make(c:Str)(g:List D→Fs→Res Fs)(a:MA):ME:=fun ρ=>(a ρ).bind fun ds=>(g ds []).bind fun fl=>.ok (.ins c (fl.map (·.1)) (fl.map (·.2)))
def meth(tab:List (Str×(List D→Res D)))(m:Str)(o:ME)(a:MA):ME:=fun ρ=>(o ρ).bind fun d=>match d with
 | .ins c ns vs=>if ns.contains m=true then .bad else match tab.lookup c with
  | some f=>(a ρ).bind fun ds=>f (.ins c ns vs::ds)
  | none=>.bad
 | _=>.bad
end Dl
namespace L2.Ds
open PySem PySem.Spec PyProof.Rows Dl
theorem Ans.imp{α β:Type}{mg:Str→Option Value}{E:XK}{R:Hp→β→α→Prop}{F H:Hp}{r:Res α}{w w':(β→Hp→Prop)→Prop}(h:Ans mg E R F H r w)(hw:∀Q,w Q→w' Q):Ans mg E R F H r w':=by
 cases r with
 | ok a=>exact fun Q q=>hw Q (h Q q)
 | ex c=>exact fun Q q=>hw Q (h Q q)
 | bad=>trivial
def ZhO(P:Program)(w:World)(K:W.Frag)(mg:Str→Option Value)(base:Heap)(k:Nat)(m:Str)(E:XK)(ta:TE)(t:TA):TE:=fun σ H Q=>ta σ H fun x H1=>∃a C dx fs g fd ps sp,x=.ref a∧H1 a=some (.ins C dx fs)∧fs.lookup m=none ∧
 Cls K C∧Meth K C m g∧FnOk P w K mg base (CXR P w) k g fd ps sp∧Binds K fd ps []∧t σ H1 fun vs H2=>sp (x::vs) H2 Q E
section
variable{X:Cx}{E:XK}{k:Nat}{m:Str}{e o:Expr}{es:List Expr}{ta:TE}{t:TA}{pos apos:Pos}{pl:Sem Bool}
theorem Znj(he:PE X o ta)(hr:Room k X.A)(hx:Zbe (CXR X.prog X.w) X E)(ha:PA X (e::es) t)
  (hst:starEach (e::es) X.env=(false,eval e X.env)::starEach es X.env:=by rfl) (hpl:(backTo pos (starEach es X.env)).any (·.1)=false:=by rfl)
  (ht:eval (.Call (.Attribute o m apos) (e::es) [] pos) X.env=(do
   let ov ←eval o X.env
   standAt apos.atName
   let (f,first) ←holding [ov] (getMethod ov m pl)
   callWith pos f first (backTo pos (starEach (e::es) X.env)) (backToKw pos (keywordEach [] X.env))):=by rfl) :
  PE X (.Call (.Attribute o m apos) (e::es) [] pos) (ZhO X.prog X.w X.K X.mg X.base k m E ta t):=by
 intro pins s σ H Q I h
 refine W.methodCall_KW (pl:=pl) (thn (he pins s σ H _ I h) fun u s1 hZ=>?_) ht
 obtain ⟨x,H1,I1,rx,a,C,dx,fs,g,fd,ps,sp,ex,ea,l,c,hm,F,hb,q⟩:=hZ
 subst ex
 obtain rfl:u=Value.ref a:=rx
 refine Zgv I1 ea c hm l ?_
 refine W.callWith_K (first:=[.ref a]) (h₀:=X.base) I.ok.mod.kin hm.kp (thn (ha pos pins s1 σ H1 _ I1 q) fun us s2 ⟨vs,H2,I2,r,q2⟩=>⟨I2.kIn,?_⟩) hst hpl
 exact ZjE (us:=.ref a::us) (vs:=.ref a::vs) (dvs:=[]) F hr hb .nil hx I2 (.cons rfl r) (by rw [VaV];exact q2)
theorem Zlh(he:PE X o ta)(hr:Room k X.A)(hx:Zbe (CXR X.prog X.w) X E)
  (ht:eval (.Call (.Attribute o m apos) [] [] pos) X.env=(do
   let ov ←eval o X.env
   standAt apos.atName
   let (f,first) ←holding [ov] (getMethod ov m pl)
   callWith pos f first (backTo pos (starEach [] X.env)) (backToKw pos (keywordEach [] X.env))):=by rfl) :
  PE X (.Call (.Attribute o m apos) [] [] pos) (ZhO X.prog X.w X.K X.mg X.base k m E ta tNil):=by
 intro pins s σ H Q I h
 refine W.methodCall_KW (pl:=pl) (thn (he pins s σ H _ I h) fun u s1 hZ=>?_) ht
 obtain ⟨x,H1,I1,rx,a,C,dx,fs,g,fd,ps,sp,ex,ea,l,c,hm,F,hb,q⟩:=hZ
 subst ex
 obtain rfl:u=Value.ref a:=rx
 refine Zgv I1 ea c hm l ?_
 exact W.callWith_K0 (first:=[.ref a]) I1.kIn hm.kp (ZjE (us:=[.ref a]) (vs:=[.ref a]) (dvs:=[]) F hr hb .nil hx I1 (.cons rfl .nil) q)
end
def ZcA(P:Program)(w:World)(K:W.Frag)(mg:Str→Option Value)(base:Heap)(k n:Nat)(m:Str)(tab:List (Str×(List D→Res D))):Prop:=∀c f,tab.lookup c=some f→∀C,mg c=some (.ref C) →
 Cls K C∧∃g fd ps,Meth K C m g∧FnOk P w K mg base (CXR P w) k g fd ps (spD K mg ps.length f)∧Binds K fd ps []∧ps.length=n+1
theorem ZcA.nil{P:Program}{w:World}{K:W.Frag}{mg:Str→Option Value}{base:Heap}{k n:Nat}{m:Str}:ZcA P w K mg base k n m []:=fun _ _ e=>by cases e
theorem ZcA.cons{P:Program}{w:World}{K:W.Frag}{mg:Str→Option Value}{base:Heap}{k n:Nat}{m c:Str}{f:List D→Res D}{tab:List (Str×(List D→Res D))}
  (h:∀C,mg c=some (.ref C)→Cls K C∧∃g fd ps,Meth K C m g∧FnOk P w K mg base (CXR P w) k g fd ps (spD K mg ps.length f)∧Binds K fd ps []∧ps.length=n+1) (r:ZcA P w K mg base k n m tab):ZcA P w K mg base k n m ((c,f)::tab):=by
 intro c' f' e
 rw [Vbq] at e
 split at e
 ·next q =>
  cases e
  rw [eq_of_beq q]
  exact h
 ·exact r c' f' e
theorem Zii{m:Str}:∀{fs:List (Str×V)},¬(fs.map (·.1)).contains m=true→fs.lookup m=none
 | [],_=>rfl
 | (n,x)::r,h=>by
  rw [VaP,List.contains_cons] at h
  rw [Vbq]
  cases z:m==n with
  | true=>exact absurd (by rw [show (m==(n,x).fst)=true from z];rfl) h
  | false=>exact Zii fun q=>h (by rw [q,Bool.or_true])
section
variable{P:Program}{w:World}{K:W.Frag}{mg:Str→Option Value}{base:Heap}{E:XK}{k n:Nat}{m:Str}{tab:List (Str×(List D→Res D))}{ta:TE}{mo:ME}{t:TA}{ma:MA}
theorem ZlQ(T:ZcA P w K mg base k n m tab)(ho:SE K mg E ta mo)(ha:SA K mg E t ma)(hl:SAn n ma):SE K mg E (ZhO P w K mg base k m E ta t) (meth tab m mo ma):=by
 intro F0 H0 F H σ ρ rr
 refine (ho F0 H0 F H σ ρ rr).bind fun F1 H1 x d g1 rx=>?_
 cases d with
 | ins c ns vs =>
  show Ans mg E (Rp K mg) F1 H1 (if ns.contains m=true then .bad else match tab.lookup c with
   | some f=>(ma ρ).bind fun ds=>f (.ins c ns vs::ds)
   | none=>.bad) _
  by_cases hc:ns.contains m=true
  ·rw [if_pos hc];trivial
  rw [if_neg hc]
  cases e:tab.lookup c with
  | none=>trivial
  | some f =>
   show Ans mg E (Rp K mg) F1 H1 ((ma ρ).bind fun ds=>f (.ins c ns vs::ds)) _
   have rx':=rx
   cases rx with
   | @ins _ C a dx fs xs _ hm h o q r =>
    obtain ⟨c1,g,fd,ps,hM,hF,hB,hp⟩:=T c f e C hm
    refine Ans.imp ((ha F0 H0 F1 H1 σ ρ (rr.gr g1)).bindE (w':=fun vs' H2 Q=>spD K mg ps.length f (.ref a::vs') H2 Q E) fun ds ed F2 H2 vs' g2 rs=>?_) fun Q z=>⟨a,C,dx,fs,g,fd,ps,spD K mg ps.length f,rfl,g1.s _ _ h,Zii hc,c1,hM,hF,hB,z⟩
    exact ZjF g2.s (.cons (rx'.same g2.f) rs) (by rw [VaO,hl ρ ds ed,hp])
 | _=>trivial
end
section
variable{X:Cx}{E:XK}{k l n:Nat}{m:Str}{e o:Expr}{es:List Expr}{ta:TE}{mo:ME}{t:TA}{ma:MA}{pos apos:Pos}{pl:Sem Bool}{tab:List (Str×(List D→Res D))}
theorem ZsA(T:ZcA X.prog X.w X.K X.mg X.base k n m tab)(hr:Room l X.A)(hn:k≤l)(hx:Zbe (CXR X.prog X.w) X E)(ho:DE X E o ta mo)(ha:DA X E n (e::es) t ma)
  (hst:starEach (e::es) X.env=(false,eval e X.env)::starEach es X.env:=by rfl) (hpl:(backTo pos (starEach es X.env)).any (·.1)=false:=by rfl)
  (ht:eval (.Call (.Attribute o m apos) (e::es) [] pos) X.env=(do
   let ov ←eval o X.env
   standAt apos.atName
   let (f,first) ←holding [ov] (getMethod ov m pl)
   callWith pos f first (backTo pos (starEach (e::es) X.env)) (backToKw pos (keywordEach [] X.env))):=by rfl) :
  DE X E (.Call (.Attribute o m apos) (e::es) [] pos) (ZhO X.prog X.w X.K X.mg X.base k m E ta t) (meth tab m mo ma):=⟨Znj ho.p (hr.mono hn) hx ha.p hst hpl ht,ZlQ T ho.s ha.s ha.n⟩
theorem ZlX(T:ZcA X.prog X.w X.K X.mg X.base k 0 m tab)(hr:Room l X.A)(hn:k≤l)(hx:Zbe (CXR X.prog X.w) X E)(ho:DE X E o ta mo)
  (ht:eval (.Call (.Attribute o m apos) [] [] pos) X.env=(do
   let ov ←eval o X.env
   standAt apos.atName
   let (f,first) ←holding [ov] (getMethod ov m pl)
   callWith pos f first (backTo pos (starEach [] X.env)) (backToKw pos (keywordEach [] X.env))):=by rfl) :
  DE X E (.Call (.Attribute o m apos) [] [] pos) (ZhO X.prog X.w X.K X.mg X.base k m E ta tNil) (meth tab m mo yaa):=⟨Zlh ho.p (hr.mono hn) hx ht,ZlQ T ho.s Zjv ZkD⟩
end
theorem Zfd.nil{K:W.Frag}{mg:Str→Option Value}{f:Str}:Zfd K mg [] f:=fun _ h=>by cases h
theorem Zfd.cons{K:W.Frag}{mg:Str→Option Value}{c f:Str}{cs:List Str}(h:∀C,mg c=some (.ref C)→Cls K C∧ZdC K C f)(r:Zfd K mg cs f):Zfd K mg (c::cs) f:=fun c' hc=>by
 rw [List.contains_cons] at hc
 cases z:c'==c with
 | true=>rw [eq_of_beq z];exact h
 | false =>
  rw [z,Bool.false_or] at hc
  exact r c' hc
structure FR(K:W.Frag)(mg:Str→Option Value)(F:Hp)(fs:List (Str×V))(fl:Fs):Prop where
 nm:fs.map (·.1)=fl.map (·.1)
 rv:Rps K mg F (fs.map (·.2)) (fl.map (·.2))
theorem FR.same{K:W.Frag}{mg:Str→Option Value}{F F':Hp}{fs:List (Str×V)}{fl:Fs}(h:FR K mg F fs fl)(s:Same F F'):FR K mg F' fs fl:=⟨h.nm,h.rv.same s⟩
theorem FR.len{K:W.Frag}{mg:Str→Option Value}{F:Hp}{fs:List (Str×V)}{fl:Fs}(h:FR K mg F fs fl):fs.length=fl.length:=by
 have:=Vay List.length h.nm
 rwa [VaQ,VaQ] at this
theorem Zi9{f:Str}{y:V}:∀{fs:List (Str×V)},¬(fs.map (·.1)).contains f=true→putF f y fs=fs++[(f,y)]
 | [],_=>rfl
 | (g,x)::r,h=>by
  rw [VaP,List.contains_cons] at h
  have hg:g≠f:=by
   rintro rfl
   exact h (by rw [show ((g,x).fst==g)=true from beq_self_eq_true g];rfl)
  show (if g=f then (g,y)::r else (g,x)::putF f y r)=_
  rw [if_neg hg,Zi9 fun q=>h (by rw [q,Bool.or_true])]
  rfl
theorem FR.put{K:W.Frag}{mg:Str→Option Value}{F:Hp}{fs:List (Str×V)}{fl:Fs}{f:Str}{y:V}{d:D}(h:FR K mg F fs fl)(hn:¬(fl.map (·.1)).contains f=true)(ry:Rp K mg F y d):FR K mg F (putF f y fs) (fl++[(f,d)]):=by
 rw [Zi9 (by rw [h.nm];exact hn)]
 refine ⟨by rw [VbV,VbV,h.nm];rfl,?_⟩
 rw [VbV,VbV]
 exact Rps.app (.cons ry .nil) h.rv
def spI(K:W.Frag)(mg:Str→Option Value)(n:Nat)(cs:List Str)(m:List D→Fs→Res Fs):Sp:=fun vs H Q E=>vs.length=n+1∧∃(x dx C:Addr) (c:Str) (ys:List V) (fs:List (Str×V)) (F:Hp) (ds:List D) (fl:Fs),
 vs=.ref x::ys∧cs.contains c=true∧mg c=some (.ref C)∧H x=some (.ins C dx fs)∧F x=none∧Same F H∧Rps K mg F ys ds∧FR K mg F fs fl∧m ds fl≠.bad ∧
 (∀fl',m ds fl=.ok fl'→∀F' H' fs',Gr F (del H x) F' H'→F' x=none→H' x=some (.ins C dx fs')→FR K mg F' fs' fl'→Q .non H') ∧
 (∀e,m ds fl=.ex e→∀F' H' fs' Ce,Gr F (del H x) F' H'→F' x=none→H' x=some (.ins C dx fs')→mg e=some (.ref Ce)→E (.ref Ce) none H')
structure RepI(K:W.Frag)(mg:Str→Option Value)(x dx C:Addr)(F0 H0 F H:Hp)(σ:St)(ρ:Ev)(fs:List (Str×V))(fl:Fs):Prop where
 rep:Rep K mg F0 H0 F H σ ρ
 h0:H0 x=none
 self:σ[0]?=some (some (.ref x))
 fx:F x=none
 hx:H x=some (.ins C dx fs)
 fr:FR K mg F fs fl
section
variable{K:W.Frag}{mg:Str→Option Value}{x dx C:Addr}{F0 H0 F H F' H':Hp}{σ:St}{ρ:Ev}{fs fs':List (Str×V)}{fl fl':Fs}
theorem RepI.gr(r:RepI K mg x dx C F0 H0 F H σ ρ fs fl)(g:Gr F H F' H'):RepI K mg x dx C F0 H0 F' H' σ ρ fs fl:=by
 obtain ⟨q1,q2⟩:=g.o x _ r.fx r.hx
 exact ⟨r.rep.gr g,r.h0,r.self,q1,q2,r.fr.same g.f⟩
theorem RepI.go(r:RepI K mg x dx C F0 H0 F H σ ρ fs fl)(g:Gr F (del H x) F' H')(fx:F' x=none)(hx:H' x=some (.ins C dx fs'))(fr:FR K mg F' fs' fl'):RepI K mg x dx C F0 H0 F' H' σ ρ fs' fl':=by
 refine ⟨⟨⟨r.rep.g.f.trans g.f,g.s,fun a o h1 h2=>?_⟩,r.rep.len,fun i d e=>?_,fun i ds e=>?_,r.rep.ne⟩,r.h0,r.self,fx,hx,fr⟩
 ·obtain ⟨q1,q2⟩:=r.rep.g.o a o h1 h2
  exact g.o a o q1 (by rw [Zeb (Zae h2 r.h0)];exact q2)
 ·obtain ⟨y,h1,h2⟩:=r.rep.im i d e
  exact ⟨y,h1,h2.same g.f⟩
 ·obtain ⟨a,xs,h1,h2,h3,h4,h5⟩:=r.rep.ow i ds e
  have ne:a≠x:=by
   rintro rfl
   rw [r.hx] at h4
   cases h4
  obtain ⟨q1,q2⟩:=g.o a _ h3 (by rw [Zeb ne];exact h4)
  exact ⟨a,xs,h1,h2,q1,q2,h5.same g.f⟩
theorem RepI.set{f:Str}{y:V}{d:D}(r:RepI K mg x dx C F0 H0 F H σ ρ fs fl)(hn:¬(fl.map (·.1)).contains f=true)(ry:Rp K mg F y d):RepI K mg x dx C F0 H0 F (upd H x (.ins C dx (putF f y fs))) σ ρ (putF f y fs) (fl++[(f,d)]):=by
 refine r.go ⟨Same.refl _,fun a o e=>?_,fun a o h1 h2=>⟨h1,?_⟩⟩ r.fx Zag (r.fr.put hn ry)
 ·rw [Zaf (Zae e r.fx)];exact r.rep.g.s a o e
 ·have ne:a≠x:=by
   rintro rfl
   rw [Zgp] at h2
   cases h2
  rw [Zeb ne] at h2
  rw [Zaf ne];exact h2
end
def AnsI(K:W.Frag)(mg:Str→Option Value)(E:XK)(x dx C:Addr)(F0 H0:Hp)(r:Res Fs)(w:Ends→Prop):Prop :=
 match r with
 | .ok fl=>∀D:Ends,(∀F' H' σ' fs,Gr F0 H0 F' H'→F' x=none→H' x=some (.ins C dx fs)→FR K mg F' fs fl→D.nx σ' H')→w D
 | .ex c=>∀D:Ends,(∀F' H' fs Ce,Gr F0 H0 F' H'→F' x=none→H' x=some (.ins C dx fs)→mg c=some (.ref Ce)→E (.ref Ce) none H')→w D
 | .bad=>True
def SSi(K:W.Frag)(mg:Str→Option Value)(E:XK)(cs:List Str)(t:TS)(m:MSi):Prop:=∀x dx C c F0 H0 F H σ ρ fs fl,cs.contains c=true→mg c=some (.ref C)→RepI K mg x dx C F0 H0 F H σ ρ fs fl→AnsI K mg E x dx C F0 H0 (m ρ fl) (fun D=>t D σ H)
structure DSi(X:Cx)(E:XK)(cs:List Str)(sts:List Stmt)(t:TS)(m:MSi):Prop where
 p:PSs X sts t
 s:SSi X.K X.mg E cs t m
section
variable{K:W.Frag}{mg:Str→Option Value}{E:XK}{x dx C:Addr}{F0 H0 F H:Hp}{α β:Type}{R:Hp→β→α→Prop}{σ:St}{ρ:Ev}{fs:List (Str×V)}{fl:Fs}
theorem Zf0{r:Res α}{w:(β→Hp→Prop)→Prop}{k:α→Res Fs}{w':β→Hp→Ends→Prop}(rr:RepI K mg x dx C F0 H0 F H σ ρ fs fl)(h1:Ans mg E R F H r w)(h2:∀a,r=.ok a→∀F1 H1 b,Gr F H F1 H1→R F1 b a→AnsI K mg E x dx C F0 H0 (k a) (w' b H1)) :
  AnsI K mg E x dx C F0 H0 (r.bind k) (fun D=>w fun b H1=>w' b H1 D):=by
 cases r with
 | ok a =>
  show AnsI K mg E x dx C F0 H0 (k a) _
  have h2':=h2 a rfl
  generalize k a=r2 at h2'
  cases r2 with
  | ok d=>exact fun D q=>h1 _ fun F1 H1 b g rb=>h2' F1 H1 b g rb D q
  | ex c=>exact fun D q=>h1 _ fun F1 H1 b g rb=>h2' F1 H1 b g rb D q
  | bad=>trivial
 | ex c=>exact fun D q=>h1 _ fun F1 H1 Ce g hc=>let r2:=rr.gr g;q F1 H1 fs Ce r2.rep.g r2.fx r2.hx hc
 | bad=>trivial
end
section
variable{X:Cx}{E:XK}{cs cs':List Str}{rest:List Stmt}{u:TS}{k:MSi}{e o:Expr}{es:List Expr}{te:TE}{me:ME}{t:TA}{ma:MA}{spos pos apos p p':Pos}{f x y m:Str}{n j l:Nat}
theorem ZhI:DSi X E cs [] Zim iEnd:=⟨Zhr,fun x dx C c F0 H0 F H σ ρ fs fl _ _ r=>fun D q=>q F H σ fs r.rep.g r.fx r.hx r.fr⟩
theorem Zfc(he:DE X E e te me)(h:DSi X E cs rest u k)(hs:swapsWith e none spos.line X.env=pure false:=by rfl):DSi X E cs (.Expr e spos::rest) (tSeq (Zdd te) u) (iDrp me k):=by
 refine ⟨ZbL (Zd0 he.p hs) h.p,?_⟩
 intro x dx C c F0 H0 F H σ ρ fs fl hc hm r
 exact Zf0 (w':=fun _ H1 D=>u D σ H1) r (he.s F0 H0 F H σ ρ r.rep) fun a _ F1 H1 b g _=>h.s x dx C c F0 H0 F1 H1 σ ρ fs fl hc hm (r.gr g)
theorem Zia(T:Zfd X.K X.mg cs f)(he:DE X E e te me)(h:DSi X E cs rest u k)(hN:X.N[0]?=some x:=by rfl)(hv:Vis X.env.scope x:=by first | exact Or.inl rfl | exact Or.inr (Or.inl rfl) | exact Or.inr (Or.inr rfl))(hd:(x==("__debug__" : Str))=false:=by decide)
  (hcd:(x==("__classdict__" : Str))=false:=by decide) (hs:swapsWith e (some (.Attribute (.Name x p) f p')) spos.line X.env=pure false:=by rfl) :
  DSi X E cs (.Assign [.Attribute (.Name x p) f p'] e spos::rest) (tSeq (sFld X.K (tVar 0) te f) u) (iSet f me k):=by
 refine ⟨ZbL (Zs8 (Zf4 hN hv hd hcd) he.p hs) h.p,?_⟩
 intro x dx C c F0 H0 F H σ ρ fs fl hc hm r
 refine Zf0 (w':=fun y H1 D=>(tVar 0) σ H1 fun z H2=>∃a C dx fs,z=.ref a∧H2 a=some (.ins C dx fs)∧Cls X.K C∧ZdC X.K C f∧fs.length<1000∧u D σ (upd H2 a (.ins C dx (putF f y fs)))) r (he.s F0 H0 F H σ ρ r.rep) fun d _ F1 H1 y g ry=>?_
 have r1:=r.gr g
 by_cases hb:(fl.map (·.1)).contains f=true∨100≤fl.length
 ·rw [if_pos hb];trivial
 rw [if_neg hb]
 obtain ⟨c1,c2⟩:=T c hc C hm
 have r2:=r1.set (f:=f) (fun z=>hb (.inl z)) ry
 have z:=h.s x dx C c F0 H0 F1 _ σ ρ _ _ hc hm r2
 have hl:fs.length<1000:=by have:=r.fr.len;have:¬100≤fl.length:=fun z=>hb (.inr z);omega
 generalize k ρ (fl++[(f,d)])=q0 at z
 cases q0 with
 | ok fl'=>exact fun D q=>⟨_,r1.self,x,C,dx,fs,rfl,r1.hx,c1,c2,hl,z D q⟩
 | ex c=>exact fun D q=>⟨_,r1.self,x,C,dx,fs,rfl,r1.hx,c1,c2,hl,z D q⟩
 | bad=>trivial
end
structure ClsM(K:W.Frag)(C:Addr)(m:Str)(f:Addr):Prop where
 sg:W.specialIn K (.ref C) "__getattribute__"=some (some (.builtin "type.__getattribute__"))
 rd:∃mc,W.readsIn K C mc=true∧W.findCls K (.ref C) mc m=some (.val (.ref f))
 hh:W.handedIn (.ref f)=true
 kp:W.keepIn K (.ref f)=true
section
variable{X:Cx}{E:XK}{k:Nat}{y m:Str}{C f:Addr}{fd:FuncData}{ps:List Str}{sp:Sp}{e:Expr}{es:List Expr}{t:TA}{p pos apos:Pos}{pl:Sem Bool}
theorem ZqL(hg:Gl X y)(hy:X.mg y=some (.ref C))(c:ClsM X.K C m f)(F:FnOk X.prog X.w X.K X.mg X.base (CXR X.prog X.w) k f fd ps sp)(hr:Room k X.A)(hb:Binds X.K fd ps [])(hx:Zbe (CXR X.prog X.w) X E)(ha:PA X (e::es) t)(hd:(y==("__debug__" : Str))=false:=by decide)
  (hst:starEach (e::es) X.env=(false,eval e X.env)::starEach es X.env:=by rfl) (hpl:(backTo pos (starEach es X.env)).any (·.1)=false:=by rfl)
  (ht:eval (.Call (.Attribute (.Name y p) m apos) (e::es) [] pos) X.env=(do
   let ov ←eval (.Name y p) X.env
   standAt apos.atName
   let (f,first) ←holding [ov] (getMethod ov m pl)
   callWith pos f first (backTo pos (starEach (e::es) X.env)) (backToKw pos (keywordEach [] X.env))):=by rfl) :
  PE X (.Call (.Attribute (.Name y p) m apos) (e::es) [] pos) (Zgf sp [] E t):=by
 intro pins s σ H Q I h
 refine W.methodCall_KW (pl:=pl) (thn (ZiM (v:=.ref C) hg hy rfl hd pins s σ H (fun v H1=>v=.ref C∧H1=H) I ⟨rfl,rfl⟩) fun u s1 ⟨x,H1,I1,rx,ex,eh⟩=>?_) ht
 subst ex eh
 obtain rfl:u=Value.ref C:=rx
 obtain ⟨mc,r1,r2⟩:=c.rd
 refine W.method_cls I1.kIn c.sg (W.cls_value I1.kIn r1 r2 c.hh ?_)
 have I2:=I1.tok (s1.toks+1)
 refine W.callWith_K (first:=[]) (h₀:=X.base) I.ok.mod.kin c.kp (thn (ha pos pins _ σ H1 _ I2 h) fun us s2 ⟨vs,H2,I3,r,q2⟩=>⟨I3.kIn,?_⟩) hst hpl
 exact ZjE (us:=us) (vs:=vs) (dvs:=[]) F hr hb .nil hx I3 r q2
end
structure CalS(P:Program)(w:World)(K:W.Frag)(mg:Str→Option Value)(base:Heap)(k:Nat)(y m:Str)(n:Nat)(cs:List Str)(g:List D→Fs→Res Fs):Prop where
 ex:∃(C f:Addr) (fd:FuncData) (ps:List Str),mg y=some (.ref C)∧ClsM K C m f∧FnOk P w K mg base (CXR P w) k f fd ps (spI K mg n cs g)∧Binds K fd ps []
section
variable{X:Cx}{E:XK}{cs cs':List Str}{rest:List Stmt}{u:TS}{k:MSi}{e:Expr}{es:List Expr}{t:TA}{ma:MA}{spos pos apos p p':Pos}{x y m:Str}{n j l:Nat}{g:List D→Fs→Res Fs}{pl:Sem Bool}
theorem ZjG(S:CalS X.prog X.w X.K X.mg X.base j y m n cs' g)(hr:Room l X.A)(hn:j≤l)(hg:Gl X y)(hx:Zbe (CXR X.prog X.w) X E)(hcs:∀c,cs.contains c=true→cs'.contains c=true)(ha:DA X E n es t ma)(h:DSi X E cs rest u k)
  (hN:X.N[0]?=some x:=by rfl) (hv:Vis X.env.scope x:=by first | exact Or.inl rfl | exact Or.inr (Or.inl rfl) | exact Or.inr (Or.inr rfl)) (hd:(x==("__debug__" : Str))=false:=by decide) (hcd:(x==("__classdict__" : Str))=false:=by decide) (hdy:(y==("__debug__" : Str))=false:=by decide)
  (hst:starEach (.Name x p'::es) X.env=(false,eval (.Name x p') X.env)::starEach es X.env:=by rfl) (hpl:(backTo pos (starEach es X.env)).any (·.1)=false:=by rfl)
  (ht:eval (.Call (.Attribute (.Name y p) m apos) (.Name x p'::es) [] pos) X.env=(do
   let ov ←eval (.Name y p) X.env
   standAt apos.atName
   let (f,first) ←holding [ov] (getMethod ov m pl)
   callWith pos f first (backTo pos (starEach (.Name x p'::es) X.env)) (backToKw pos (keywordEach [] X.env))):=by rfl)
  (hs:swapsWith (.Call (.Attribute (.Name y p) m apos) (.Name x p'::es) [] pos) none spos.line X.env=pure false:=by rfl) :
  DSi X E cs (.Expr (.Call (.Attribute (.Name y p) m apos) (.Name x p'::es) [] pos) spos::rest) (tSeq (Zdd (Zgf (spI X.K X.mg n cs' g) [] E (Zbv (tVar 0) t))) u) (iSup g ma k):=by
 obtain ⟨C0,f,fd,ps,hy,cm,F,hb⟩:=S.ex
 refine ⟨ZbL (Zd0 (ZqL hg hy cm F (hr.mono hn) hb hx (Zb2 (Zf4 hN hv hd hcd) ha.p hst) hdy hst hpl ht) hs) h.p,?_⟩
 intro x dx C c F0 H0 F H σ ρ fs fl hc hm r
 have A:=ha.s F0 H0 F H σ ρ r.rep
 have L:=ha.n ρ
 show AnsI X.K X.mg E x dx C F0 H0 ((ma ρ).bind fun ds=>(g ds fl).bind fun fl'=>k ρ fl') (fun D=>∃v,σ[0]?=some (some v)∧t σ H fun vs H1=>spI X.K X.mg n cs' g (v::vs++[]) H1 (fun _ H2=>u D σ H2) E)
 have key:AnsI X.K X.mg E x dx C F0 H0 ((ma ρ).bind fun ds=>(g ds fl).bind fun fl'=>k ρ fl') (fun D=>t σ H fun vs H1=>spI X.K X.mg n cs' g (.ref x::vs) H1 (fun _ H2=>u D σ H2) E):=by
  refine Zf0 (w':=fun vs H1 D=>spI X.K X.mg n cs' g (.ref x::vs) H1 (fun _ H2=>u D σ H2) E) r A fun ds eds F1 H1 vs g1 rs=>?_
  have r1:=r.gr g1
  have hl:vs.length=n:=rs.length.trans (L ds eds)
  cases eg:g ds fl with
  | bad=>trivial
  | ex ec =>
   show AnsI X.K X.mg E x dx C F0 H0 (.ex ec) _
   intro D q
   refine ⟨by rw [VaO,hl],x,dx,C,c,vs,fs,F1,ds,fl,rfl,hcs c hc,hm,r1.hx,r1.fx,r1.rep.g.s,rs,r1.fr,(by rw [eg];intro z;cases z),(fun fl' e=>by rw [eg] at e;cases e),fun e' he F' H' fs' Ce g2 fx hx hce=>?_⟩
   rw [eg] at he
   cases he
   have r2:=r1.go (fl':=fl) (fs':=fs) (F':=F') (H':=H') g2 fx
   refine q F' H' fs' Ce ?_ fx hx hce
   refine ⟨r1.rep.g.f.trans g2.f,g2.s,fun a o h1 h2=>?_⟩
   obtain ⟨q1,q2⟩:=r1.rep.g.o a o h1 h2
   exact g2.o a o q1 (by rw [Zeb (Zae h2 r.h0)];exact q2)
  | ok fl' =>
   show AnsI X.K X.mg E x dx C F0 H0 (k ρ fl') _
   have nx:∀F' H' fs',Gr F1 (del H1 x) F' H'→F' x=none→H' x=some (.ins C dx fs')→FR X.K X.mg F' fs' fl'→AnsI X.K X.mg E x dx C F0 H0 (k ρ fl') (fun D=>u D σ H'):=fun F' H' fs' g2 fx hx fr=>h.s x dx C c F0 H0 F' H' σ ρ fs' fl' hc hm (r1.go g2 fx hx fr)
   generalize k ρ fl'=q0 at nx
   cases q0 with
   | bad=>trivial
   | ok fl2 =>
    intro D q
    refine ⟨by rw [VaO,hl],x,dx,C,c,vs,fs,F1,ds,fl,rfl,hcs c hc,hm,r1.hx,r1.fx,r1.rep.g.s,rs,r1.fr,(by rw [eg];intro z;cases z),(fun fl'' e F' H' fs' g2 fx hx fr=>?_),fun e' he=>by rw [eg] at he;cases he⟩
    rw [eg] at e
    cases e
    exact nx F' H' fs' g2 fx hx fr D q
   | ex c2 =>
    intro D q
    refine ⟨by rw [VaO,hl],x,dx,C,c,vs,fs,F1,ds,fl,rfl,hcs c hc,hm,r1.hx,r1.fx,r1.rep.g.s,rs,r1.fr,(by rw [eg];intro z;cases z),(fun fl'' e F' H' fs' g2 fx hx fr=>?_),fun e' he=>by rw [eg] at he;cases he⟩
    rw [eg] at e
    cases e
    exact nx F' H' fs' g2 fx hx fr D q
 generalize ((ma ρ).bind fun ds=>(g ds fl).bind fun fl'=>k ρ fl')=q0 at key
 cases q0 with
 | bad=>trivial
 | ok fl'=>exact fun D q=>⟨.ref x,r.self,by simpa using key D q⟩
 | ex c'=>exact fun D q=>⟨.ref x,r.self,by simpa using key D q⟩
end
section
variable{P:Program}{w:World}{K:W.Frag}{mg:Str→Option Value}{base:Heap}{N ps:List Str}{x qual:Str}{f:Addr}{cs:List Str}
theorem ZjZ{F H:Hp}{z:V}{a:Addr}{vs:List V}{ds:List D}(s:Same F H)(fa:F a=none)(r:Rps K mg F vs ds)(hN:1≤N.length):Rep K mg F (del H a) F H (start N (z::vs)) (.no::ev0 (N.length - 1) ds):=by
 have hl:=r.length
 have key:∀(i:Nat) (c:Cl),(ev0 (N.length - 1) ds)[i]?=some c→c=.no∨∃d,ds[i]?=some d∧c=.im d:=by
  intro i c e
  rw [ZhC] at e
  by_cases hi:i<ds.length
  ·rw [Va4 (by simpa using hi),Va5,VbH hi] at e
   exact .inr ⟨ds[i],VbH hi,(Vav e).symm⟩
  ·rw [Va2 (by simpa using hi),Va3] at e
   split at e
   ·exact .inl (Vav e).symm
   ·cases e
 have key2:∀(i:Nat) (c:Cl),(Cl.no::ev0 (N.length - 1) ds)[i]?=some c→c=.no∨∃d j,i=j+1∧ds[j]?=some d∧c=.im d:=by
  intro i c e
  cases i with
  | zero=>exact .inl (Vav e).symm
  | succ j =>
   rcases key j c (by simpa using e) with q | ⟨d,e1,e2⟩
   ·exact .inl q
   ·exact .inr ⟨d,j,rfl,e1,e2⟩
 refine ⟨⟨Same.refl _,s,fun b o h1 h2=>⟨h1,?_⟩⟩,?_,fun i d e=>?_,fun i ds' e=>?_,fun i j ds' es' a e=>?_⟩
 ·by_cases hb:b=a
  ·subst hb;rw [Zgp] at h2;cases h2
  ·rw [Zeb hb] at h2;exact h2
 ·rw [ZhC]
  unfold start
  simp [hl]
  omega
 ·rcases key2 i _ e with q | ⟨d',j,rfl,e1,q⟩
  ·cases q
  ·cases q
   obtain ⟨v,e2,rv⟩:=r.get e1
   refine ⟨v,?_,rv⟩
   have hi:j<vs.length:=(Vau.mp e2).1
   unfold start
   rw [VaP,List.cons_append,List.getElem?_cons_succ,Va4 (by simpa using hi),Va5,e2]
   rfl
 ·rcases key2 i _ e with q | ⟨d',j,_,e1,q⟩<;>cases q
 ·rcases key2 i _ e with q | ⟨d',j,_,e1,q⟩<;>cases q
theorem okI{st:Stmt}{fd:FuncData}{k n:Nat}{mb:MSi}(F:Fun K x qual st f fd)(S:Zad N ps (Zab st))(hN:1≤N.length)(hp:ps.length=n+1)
  (h:∀(cdv:Value) (A:Around) (outer:List Env) (s:Shared) (H:Hp) (E:XK),Room k (A.deeper (envOfC qual (Zab st) s.heap.objs.size f cdv))→∃t,DSi (cxOf (CXR P w) P w K mg base N qual (Zab st) f cdv A outer s H E) E cs (ZaY st) t mb) :
  FnOk P w K mg base (CXR P w) (k+1) f fd ps (spI K mg n cs (fnI N.length mb)):=by
 obtain ⟨oc,od,kV,doc,pm,an,cdv,ct,osl,rfl,lk,hcd⟩:=F.ex
 refine Zka lk hcd S (fun vs H Q E q=>q.1.trans hp.symm) fun A outer s H vs Q E hr hsp=>?_
 obtain ⟨t,hd⟩:=h cdv A outer s H E hr
 refine ⟨t,hd.p,?_⟩
 obtain ⟨_,x,dx,C,c,ys,fs,F0,ds,fl,rfl,hc,hm,hx,fx,s0,rs,fr,hb,hok,hex⟩:=hsp
 have z:=hd.s x dx C c F0 (del H x) F0 H (start N (.ref x::ys)) (.no::ev0 (N.length - 1) ds) fs fl hc hm ⟨ZjZ s0 fx rs hN,Zgp,rfl,fx,hx,fr⟩
 unfold fnI at hb hok hex
 cases e:mb (.no::ev0 (N.length - 1) ds) fl with
 | ok fl' =>
  rw [e] at z
  exact z _ fun F' H' σ' fs' g fx' hx' fr'=>hok fl' e F' H' fs' g fx' hx' fr'
 | ex c' =>
  rw [e] at z
  exact z _ fun F' H' fs' Ce g fx' hx' hce=>hex c' e F' H' fs' Ce g fx' hx' hce
 | bad=>exact absurd e hb
theorem okM{st:Stmt}{fd:FuncData}{k:Nat}{mb:MS}(F:Fun K x qual st f fd)(S:Zad N ps (Zab st))
  (h:∀(cdv:Value) (A:Around) (outer:List Env) (s:Shared) (H:Hp) (E:XK),Room k (A.deeper (envOfC qual (Zab st) s.heap.objs.size f cdv))→∃t,DSs (cxOf (CXR P w) P w K mg base N qual (Zab st) f cdv A outer s H E) E (ZaY st) t mb) :
  FnOk P w K mg base (CXR P w) (k+1) f fd ps (spD K mg ps.length (fn N.length mb)):=by
 obtain ⟨oc,od,kV,doc,pm,an,cdv,ct,osl,rfl,lk,hcd⟩:=F.ex
 refine Zka lk hcd S (fun vs H Q E q=>q.1) fun A outer s H vs Q E hr hsp=>?_
 obtain ⟨t,hd⟩:=h cdv A outer s H E hr
 refine ⟨t,hd.p,?_⟩
 obtain ⟨_,F0,ds,s0,rs,hb,hok,hex⟩:=hsp
 have z:=hd.s F0 H F0 H (start N vs) (ev0 N.length ds) (Zc6 s0 rs)
 unfold fn at hb hok hex
 cases e:mb (ev0 N.length ds) with
 | ok fl =>
  rw [e] at z hb hok hex
  cases fl with
  | nx ρ=>exact z _ fun F' H' σ' _ r'=>hok .non rfl F' H' .non r'.g .non
  | rt d=>exact z _ fun F' H' v g rv=>hok d rfl F' H' v g rv
  | bk ρ=>exact absurd rfl hb
  | ct ρ=>exact absurd rfl hb
 | ex c =>
  rw [e] at z hex
  exact z _ fun F' H' C g hc=>hex c rfl F' H' C g hc
 | bad=>rw [e] at hb;exact absurd rfl hb
end
structure CalI(P:Program)(w:World)(K:W.Frag)(mg:Str→Option Value)(base:Heap)(k:Nat)(c:Str)(n:Nat)(cs:List Str)(g:List D→Fs→Res Fs):Prop where
 ex:∃(C f:Addr) (fd:FuncData) (ps:List Str),mg c=some (.ref C)∧Mk K C f∧FnOk P w K mg base (CXR P w) k f fd ps (spI K mg n cs g)∧Binds K fd ps []∧cs.contains c=true
def ZoA(K:W.Frag)(mg:Str→Option Value)(c:Str)(n:Nat)(cs:List Str)(g:List D→Fs→Res Fs)(E:XK)(t:TA):TE:=fun σ H Q=>∃C,mg c=some (.ref C)∧Zo2 C (spI K mg n cs g) [] E t σ H Q
section
variable{K:W.Frag}{mg:Str→Option Value}{E:XK}{c:Str}{n:Nat}{cs:List Str}{g:List D→Fs→Res Fs}{t:TA}{ma:MA}
theorem ZoT{C:Addr}(hm:mg c=some (.ref C))(hc:cs.contains c=true)(ha:SA K mg E t ma)(hl:SAn n ma):SE K mg E (ZoA K mg c n cs g E t) (make c g ma):=by
 intro F0 H0 F H σ ρ rr
 refine Ans.imp (w:=fun Q=>Zo2 C (spI K mg n cs g) [] E t σ H Q) ?_ fun Q q=>⟨C,hm,q⟩
 show Ans mg E (Rp K mg) F H ((ma ρ).bind fun ds=>(g ds []).bind fun fl=>.ok (.ins c (fl.map (·.1)) (fl.map (·.2)))) _
 refine (ha F0 H0 F H σ ρ rr).bindE (w':=fun vs H1 (Q:V→Hp→Prop)=>∀x dx,H1 x=none→H1 dx=none→dx≠x→spI K mg n cs g (.ref x::(vs++[])) (upd (upd H1 dx (.own x)) x (.ins C dx [])) (fun v H2=>v=.non∧Q (V.ref x) H2) E) fun ds eds F1 H1 vs g1 rs=>?_
 have hl':vs.length=n:=rs.length.trans (hl ρ ds eds)
 have base:∀x dx,H1 x=none→H1 dx=none→dx≠x→F1 x=none∧F1 dx=none∧Same F1 (upd (upd H1 dx (.own x)) x (.ins C dx []))∧del (upd (upd H1 dx (.own x)) x (.ins C dx [])) x=upd H1 dx (.own x):=by
  intro x dx hx hdx hne
  refine ⟨g1.s.free hx,g1.s.free hdx,fun a o e=>?_,?_⟩
  ·have z:=g1.s a o e
   rw [Zaf (Zae z hx),Zaf (Zae z hdx)]
   exact z
  ·funext a
   by_cases h:a=x
   ·subst h;rw [Zgp,Zaf (Ne.symm hne)];exact hx.symm
   ·rw [Zeb h,Zaf h]
 cases eg:g ds [] with
 | bad=>trivial
 | ex ec =>
  show Ans mg E (Rp K mg) F1 H1 (.ex ec) _
  intro Q q x dx hx hdx hne
  obtain ⟨f1,f2,s1,e1⟩:=base x dx hx hdx hne
  refine ⟨by simp [hl'],x,dx,C,c,vs,[],F1,ds,[],by simp,hc,hm,Zag,f1,s1,rs,⟨rfl,.nil⟩,(by rw [eg];intro z;cases z),(fun fl' e=>by rw [eg] at e;cases e),fun e' he F' H' fs' Ce g2 fx hx' hce=>?_⟩
  rw [eg] at he
  cases he
  rw [e1] at g2
  refine q F' H' Ce ⟨g2.f,g2.s,fun a o h1 h2=>?_⟩ hce
  exact g2.o a o h1 (by rw [Zaf (Zae h2 hdx)];exact h2)
 | ok fl =>
  show Ans mg E (Rp K mg) F1 H1 (.ok (.ins c (fl.map (·.1)) (fl.map (·.2)))) _
  intro Q q x dx hx hdx hne
  obtain ⟨f1,f2,s1,e1⟩:=base x dx hx hdx hne
  refine ⟨by simp [hl'],x,dx,C,c,vs,[],F1,ds,[],by simp,hc,hm,Zag,f1,s1,rs,⟨rfl,.nil⟩,(by rw [eg];intro z;cases z),(fun fl' e F' H' fs' g2 fx hx' fr=>?_),fun e' he=>by rw [eg] at he;cases he⟩
  rw [eg] at e
  cases e
  rw [e1] at g2
  obtain ⟨d1,d2⟩:=g2.o dx _ f2 Zag
  refine ⟨rfl,q (upd (upd F' dx (.own x)) x (.ins C dx fs')) H' (.ref x) ⟨?_,?_,fun a o h1 h2=>?_⟩ ?_⟩
  ·refine (g2.f.trans (Zaz d1 _)).trans (Zaz ?_ _)
   rw [Zaf (Ne.symm hne)];exact fx
  ·intro a o e
   by_cases ha:a=x
   ·subst ha;rw [Zag] at e;cases e;exact hx'
   ·rw [Zaf ha] at e
    by_cases hb:a=dx
    ·subst hb;rw [Zag] at e;cases e;exact d2
    ·rw [Zaf hb] at e;exact g2.s a o e
  ·have n1:a≠x:=Zae h2 hx
   have n2:a≠dx:=Zae h2 hdx
   obtain ⟨q1,q2⟩:=g2.o a o h1 (by rw [Zaf n2];exact h2)
   rw [Zaf n1,Zaf n2]
   exact ⟨q1,q2⟩
  ·have sF:Same F' (upd (upd F' dx (.own x)) x (.ins C dx fs')):=(Zaz d1 _).trans (Zaz (by rw [Zaf (Ne.symm hne)];exact fx) _)
   have z:Rp K mg (upd (upd F' dx (.own x)) x (.ins C dx fs')) (.ref x) (.ins c (fs'.map (·.1)) (fl.map (·.2))):=.ins hm Zag (by rw [Zaf hne,Zag]) rfl (fr.rv.same sF)
   rw [fr.nm] at z
   exact z
end
section
variable{X:Cx}{E:XK}{k l n:Nat}{c:Str}{cs:List Str}{g:List D→Fs→Res Fs}{e:Expr}{es:List Expr}{t:TA}{ma:MA}{p pos:Pos}
theorem Zjx(M:CalI X.prog X.w X.K X.mg X.base k c n cs g)(hr:Room l X.A)(hn:k+1≤l)(hg:Gl X c)(hx:Zbe (CXR X.prog X.w) X E)(ha:DA X E n (e::es) t ma)
  (hdb:(c==("__debug__" : Str))=false:=by decide) (he:starEach (e::es) X.env=(false,eval e X.env)::starEach es X.env:=by rfl) (hpl:(backTo pos (starEach es X.env)).any (·.1)=false:=by rfl) :
  DE X E (.Call (.Name c p) (e::es) [] pos) (ZoA X.K X.mg c n cs g E t) (make c g ma):=by
 obtain ⟨C,f,fd,ps,hm,mk,F,hb,hc⟩:=M.ex
 refine ⟨?_,ZoT hm hc ha.s ha.n⟩
 intro pins s σ H Q I ⟨C',hC,h⟩
 rw [hm] at hC
 cases hC
 exact ZqS mk F (hr.mono hn) hg hm hb .nil hx ha.p hdb he hpl pins s σ H Q I h
end
end L2.Ds
namespace Dl
open PySem
def insO(i:Nat)(k e:ME):MS:=fun ρ=>(getO ρ[i]?).bind fun xs=>(k ρ).bind fun u=>match u with
 | .int j=>(e ρ).bind fun d=>if (0≤j∧j≤xs.length)∧xs.length<LIM then .ok (.nx (ρ.set i (.ow (xs.take j.toNat++d::xs.drop j.toNat)))) else .bad
 | _=>.bad
end Dl
namespace L2
open PySem PySem.Spec PyProof.Rows
def ZiW:V→List V→Hp→VK→Prop:=fun x vs H Q=>∃(l:Addr) (xs:List V) (j:Int) (y:V),x=.ref l∧vs=[.int j,y]∧H l=some (.lst xs)∧(0≤j∧j≤xs.length)∧xs.length<sizeLine∧Q .non (upd H l (.lst (xs.take j.toNat++y::xs.drop j.toNat)))
theorem Vals.takeN:∀{xs:List V} {us:List Value} (n:Nat),Vals xs us→Vals (xs.take n) (us.take n)
 | _,_,0,_=>.nil
 | _,_,_+1,.nil=>.nil
 | _,_,n+1,.cons h r=>.cons h (Vals.takeN n r)
theorem Vals.dropN:∀{xs:List V} {us:List Value} (n:Nat),Vals xs us→Vals (xs.drop n) (us.drop n)
 | _,_,0,r=>r
 | _,_,_+1,.nil=>.nil
 | _,_,n+1,.cons _ r=>Vals.dropN n r
theorem Zmg{X:Cx}:MtR X "list.insert" ZiW:=by
 intro pins s σ H x vs v us Q I rx rv h
 obtain ⟨l,xs,j,y,rfl,rfl,hH,hj,hz,q⟩:=h
 cases rx
 cases rv with
 | @cons _ u0 _ us0 r1 rv =>
  have rv:Vals [y] us0:=rv
  obtain ⟨u,rfl,ru⟩:=rv.one
  obtain ⟨t,rfl⟩:=r1
  obtain ⟨z,its,n,r,hl,e⟩:=I.lstM hH
  have hs:sizeLine<2^63:=by decide
  refine call_meets F.slot_list_insert ⟨_,e,rfl⟩ F.entry_list_insert (F.args_list_insert_3 _ _ _) (PySem.AutoSeq1.list_insert_list_int_val_1 l its.toArray n j t u (by rw [fitsIndex_both (by omega) (by omega)];exact VaF) (by rw [Va9];omega)) ⟨e,?_⟩
  refine ⟨.non,_,I.lset (its':=its.take j.toNat++u::its.drop j.toNat) hH e ?_ ((r.takeN j.toNat).append (.cons ru (r.dropN j.toNat))) ?_,rfl,q⟩
  ·have hk:(if j<0 then (j+(its.toArray.size:Int)).toNat else min j.toNat its.toArray.size)=j.toNat:=by
    rw [if_neg (by omega),Va9]
    omega
   show (its.toArray.extract 0 (if j<0 then (j+(its.toArray.size:Int)).toNat else min j.toNat its.toArray.size)).push u++its.toArray.extract (if j<0 then (j+(its.toArray.size:Int)).toNat else min j.toNat its.toArray.size)=_
   rw [hk]
   apply Array.toList_inj.mp
   simp
   try rw [Vbx (by simp)]
  ·rw [Va7,VaO,Va0,Vbd]
   omega
end L2
namespace L2.Ds
open PySem PySem.Spec PyProof.Rows Dl
section
variable{K:W.Frag}{mg:Str→Option Value}{E:XK}{tk te:TE}{mk me:ME}
theorem ZrQ{i:Nat}(hk:SE K mg E tk mk)(ha:SE K mg E te me):SS K mg E (Zdd (tBM K "list" ZiW (tVar i) (Zbv tk (Zbv te tNil)))) (insO i mk me):=by
 intro F0 H0 F H σ ρ rr
 unfold insO getO
 split
 ·next ds e =>
  obtain ⟨a,xs,e2,e4,e5,e3,hr⟩:=rr.ow i ds e
  have hl:xs.length=ds.length:=hr.length
  have hty:tyV K "list" (.ref a) H:=.inl ⟨rfl,xs,SqL.of e3⟩
  have h:=(hk F0 H0 F H σ ρ rr).stm (K:=K) (k:=fun u=>match u with
   | .int j=>(me ρ).bind fun d=>if (0≤j∧j≤ds.length)∧ds.length<LIM then .ok (.nx (ρ.set i (.ow (ds.take j.toNat++d::ds.drop j.toNat)))) else .bad
   | _=>.bad) (w':=fun x H1 D=>te σ H1 fun y H2=>ZiW (.ref a) [x,y] H2 fun _ H3=>D.nx σ H3) rr.g fun u _ F1 H1 x g1 rx=>?_
  ·show AnsS K mg E F0 H0 F ((mk ρ).bind fun u=>match u with
    | .int j=>(me ρ).bind fun d=>if (0≤j∧j≤ds.length)∧ds.length<LIM then .ok (.nx (ρ.set i (.ow (ds.take j.toNat++d::ds.drop j.toNat)))) else .bad
    | _=>.bad) _
   have fin:∀D:Ends,(tk σ H fun x H1=>te σ H1 fun y H2=>ZiW (.ref a) [x,y] H2 fun _ H3=>D.nx σ H3)→Zdd (tBM K "list" ZiW (tVar i) (Zbv tk (Zbv te tNil))) D σ H:=fun D z=>⟨.ref a,e2,hty,z⟩
   generalize ((mk ρ).bind fun u=>match u with
    | .int j=>(me ρ).bind fun d=>if (0≤j∧j≤ds.length)∧ds.length<LIM then Res.ok (Fl.nx (ρ.set i (.ow (ds.take j.toNat++d::ds.drop j.toNat)))) else .bad
    | _=>.bad)=res at h
   cases res with
   | ok f =>
    cases f with
    | nx ρ=>exact fun D q=>fin D (h D q)
    | bk ρ=>exact fun D q=>fin D (h D q)
    | ct ρ=>exact fun D q=>fin D (h D q)
    | rt d=>exact fun D q=>fin D (h D q)
   | ex c=>exact fun D q=>fin D (h D q)
   | bad=>trivial
  ·cases u with
   | int j =>
    cases rx
    have r1:=rr.gr g1
    obtain ⟨q1,q2⟩:=g1.o a _ e5 e3
    refine (ha F0 H0 F1 H1 σ ρ r1).stm (w':=fun y H2 D=>ZiW (.ref a) [.int j,y] H2 fun _ H3=>D.nx σ H3) r1.g fun d _ F2 H2 y g2 ry=>?_
    have r2:=r1.gr g2
    obtain ⟨p1,p2⟩:=g2.o a _ q1 q2
    have hr2:=(hr.same g1.f).same g2.f
    by_cases hc:(0≤j∧j≤ds.length)∧ds.length<LIM
    ·rw [if_pos hc]
     exact fun D q=>⟨a,xs,j,y,rfl,rfl,p2,by rw [hl];exact hc.1,by rw [hl];exact Vaf hc.2 (by decide),q F2 _ σ (Same.refl _) (r2.put e e2 p2 e4 p1 (Rps.app (.cons ry (hr2.drop j.toNat)) (hr2.take j.toNat)))⟩
    ·rw [if_neg hc];trivial
   | _=>trivial
 ·trivial
end
section
variable{X:Cx}{E:XK}{k' e:Expr}{tk te:TE}{mk me:ME}{x:Str}{np apos cpos spos:Pos}
theorem ZrA(i:Nat)(hk:DE X E k' tk mk)(he:DE X E e te me)(hN:X.N[i]?=some x:=by rfl)(hv:Vis X.env.scope x:=by first | exact Or.inl rfl | exact Or.inr (Or.inl rfl) | exact Or.inr (Or.inr rfl))(hd:(x==("__debug__" : Str))=false:=by decide)
  (hcd:(x==("__classdict__" : Str))=false:=by decide) (hbase:attributeBase (.Name x np) "insert" X.env (eval (.Name x np) X.env)=eval (.Name x np) X.env:=by rfl)
  (hfew:((backTo cpos (starEach [k',e] X.env)).all (fun x=>!x.1)&&(backToKw cpos (keywordEach [] X.env)).all (fun x=>x.1.isSome)
   && decide ([k',e].length+([]:List Keyword).length+(if ([]:List Keyword).isEmpty then 0 else 1)<30))=true:=by rfl)
  (hline:(apos.endLine==cpos.line)=true:=by rfl) (hs:starEach [k',e] X.env=(false,eval k' X.env)::starEach [e] X.env:=by rfl) (hs2:starEach [e] X.env=(false,eval e X.env)::starEach [] X.env:=by rfl) (hplain:(backTo cpos (starEach [e] X.env)).any (·.1)=false:=by rfl)
  (hsw:swapsWith (.Call (.Attribute (.Name x np) "insert" apos) [k',e] [] cpos) none spos.line X.env=pure false:=by rfl) :
  DS X E (.Expr (.Call (.Attribute (.Name x np) "insert" apos) [k',e] [] cpos) spos) (Zdd (tBM X.K "list" ZiW (tVar i) (Zbv tk (Zbv te tNil)))) (insO i mk me) :=
 ⟨Zd0 (ZmR VbL PySem.F.slot_list_insert PySem.F.type_list_insert Zmg (Zf4 hN hv hd hcd) (Zb2 hk.p (Zb2 he.p Zel hs2) hs) hbase hfew hline hs hplain) hsw,ZrQ hk.s he.s⟩
end
end L2.Ds
namespace Dl
open PySem
end Dl
namespace L2
open PySem PySem.Spec PyProof.Rows
end L2
namespace L2.Ds
open PySem PySem.Spec PyProof.Rows PySem.Calls Dl
end L2.Ds
namespace Dl
open PySem
end Dl
namespace L2
open PySem PySem.Spec PyProof.Rows PySem.Calls
end L2
namespace L2.Ds
open PySem PySem.Spec PyProof.Rows PySem.Calls Dl
end L2.Ds
namespace L2
open PySem PySem.Spec PyProof.Rows
end L2
namespace L2.Ds
open PySem PySem.Spec PyProof.Rows PySem.Calls Dl
end L2.Ds
namespace Dl
open PySem
def fnR(n:Nat)(m:ME):List D→Res D:=fun ds=>m (ev0 n ds)
end Dl
namespace HT
open PySem PyProof.Rows
end HT
namespace L2
open PySem PySem.Spec PyProof.Rows
end L2
namespace L2.Ds
open PySem PySem.Spec PyProof.Rows Dl
section
variable{K:W.Frag}{mg:Str→Option Value}{E:XK}{G Gb F F' F0 H0 H:Hp}{x:V}{d:D}{σ:St}{ρ:Ev}
def Zh8(K:W.Frag)(mg:Str→Option Value)(Fb F':Hp)(x:V)(d:D):Prop:=∃p xs rows,x=.ref p∧d=.lst rows∧Fb p=none∧F' p=some (.lst xs)∧xs.length=rows.length∧∀(k:Nat) (y:V) (d:D),xs[k]?=some y→rows[k]?=some d→RowR K mg Fb F' y d
theorem RowR.down{y:V}(h:RowR K mg G F' y d)(s:Same Gb G):RowR K mg Gb F' y d:=by
 obtain ⟨q,ys,cs,e1,e2,h1,h2,h3⟩:=h
 exact ⟨q,ys,cs,e1,e2,s.free h1,h2,h3⟩
theorem Zh8.down(h:Zh8 K mg G F' x d)(s:Same Gb G):Zh8 K mg Gb F' x d:=by
 obtain ⟨p,xs,rows,e1,e2,h1,h2,h3,h4⟩:=h
 exact ⟨p,xs,rows,e1,e2,s.free h1,h2,h3,fun k y d a b=>(h4 k y d a b).down s⟩
def SEr(K:W.Frag)(mg:Str→Option Value)(E:XK)(t:TE)(m:ME):Prop:=∀Fb F0 H0 F H σ ρ,Rep K mg F0 H0 F H σ ρ→Same Fb F→Ans mg E (Zh8 K mg Fb) F H (m ρ) (t σ H)
def spR(K:W.Frag)(mg:Str→Option Value)(k:Nat)(f:List D→Res D):Sp:=fun vs H Q E=>vs.length=k∧∃F ds,Same F H∧Rps K mg F vs ds∧f ds≠.bad ∧
 (∀d,f ds=.ok d→∀F' H' x,Gr F H F' H'→Zh8 K mg F F' x d→Q x H')∧(∀c,f ds=.ex c→∀F' H' C,Gr F H F' H'→mg c=some (.ref C)→E (.ref C) none H')
def AnsR(K:W.Frag)(mg:Str→Option Value)(E:XK)(F0 H0:Hp)(r:Res D)(w:Ends→Prop):Prop :=
 match r with
 | .ok d=>∀D:Ends,(∀F' H' x,Gr F0 H0 F' H'→Zh8 K mg F0 F' x d→D.rt x H')→w D
 | .ex c=>∀D:Ends,(∀F' H' C,Gr F0 H0 F' H'→mg c=some (.ref C)→E (.ref C) none H')→w D
 | .bad=>True
end
structure DEr(X:Cx)(E:XK)(e:Expr)(t:TE)(m:ME):Prop where
 p:PE X e t
 s:SEr X.K X.mg E t m
structure CalR(P:Program)(w:World)(K:W.Frag)(mg:Str→Option Value)(base:Heap)(k:Nat)(x:Str)(ps:List Str)(m:List D→Res D):Prop where
 ex:∃(f:Addr) (fd:FuncData),FnOk P w K mg base (CXR P w) k f fd ps (spR K mg ps.length m)∧Binds K fd ps []∧W.keepIn K (.ref f)=true∧mg x=some (.ref f)
structure DSr(X:Cx)(E:XK)(sts:List Stmt)(t:TS)(m:ME):Prop where
 p:PSs X sts t
 s:∀F0 H0 F H σ ρ,Rep X.K X.mg F0 H0 F H σ ρ→AnsR X.K X.mg E F0 H0 (m ρ) (fun D=>t D σ H)
section
variable{X:Cx}{E:XK}{k l n i nn:Nat}{x y:Str}{ps:List Str}{f:List D→Res D}{t:TA}{m:MA}{e:Expr}{es:List Expr}{p pos pos' spos:Pos}
theorem Zmf(C:CalR X.prog X.w X.K X.mg X.base k x ps f)(hr:Room l X.A)(hn:k≤l)(hg:Gl X x)(hx:Zbe (CXR X.prog X.w) X E)(ha:DA X E n (e::es) t m)(hps:ps.length=n:=by rfl)
  (hdb:(x==("__debug__" : Str))=false:=by decide) (he:starEach (e::es) X.env=(false,eval e X.env)::starEach es X.env:=by rfl) (hpl:(backTo pos (starEach es X.env)).any (·.1)=false:=by rfl) :
  DEr X E (.Call (.Name x p) (e::es) [] pos) (Zgf (spR X.K X.mg ps.length f) [] E t) (on f m):=by
 obtain ⟨g,fd,F,b,kp,hm⟩:=C.ex
 refine ⟨ZgU F (hr.mono hn) hg hm kp b .nil hx ha.p hdb he hpl,fun Fb F0 H0 Ff H σ ρ rr sb=>?_⟩
 refine (ha.s F0 H0 Ff H σ ρ rr).bindE (w':=fun vs H1 Q=>spR X.K X.mg ps.length f (vs++[]) H1 Q E) fun ds em F1 H1 vs g1 rs=>?_
 simp only [VaV]
 cases ef:f ds with
 | bad=>trivial
 | ex c=>exact fun Q q=>⟨by rw [rs.length,hps];exact ha.n ρ ds em,F1,ds,g1.s,rs,(by rw [ef];intro z;cases z),(fun d z=>by rw [ef] at z;cases z),fun c' z F' H' C g hC=>by
   rw [ef] at z;cases z
   exact q F' H' C g hC⟩
 | ok d=>exact fun Q q=>⟨by rw [rs.length,hps];exact ha.n ρ ds em,F1,ds,g1.s,rs,(by rw [ef];intro z;cases z),(fun d' z F' H' x g rx=>by
   rw [ef] at z;cases z
   exact q _ _ _ g (rx.down (sb.trans g1.f))),fun c' z=>by rw [ef] at z;cases z⟩
end
section
variable{X:Cx}{E:XK}{tg iter elt:Expr}{ts:List Expr}{me:ME}{na:MB}{pos spos:Pos}
theorem ZmK{own:List Str}{cap:List (Str×Nat)}{scope:Scope}{cl:List (Str×Addr)}{wi:TI}{mi:MI}{g:Fam TG}{gm:MG}{tt:Fam TT}{tf:Fam TE}(hi:DI X E tg iter wi mi)(O:Zci X own cap scope cl)(hc:X.calm=true)
  (hg:∀C s H fp pn,DG (Zar X (own++cap.map (·.1)) scope cl C s H fp pn) own.length tg (g C s H fp pn) gm) (ht:∀C s H fp pn,DTs (Zar X (own++cap.map (·.1)) scope cl C s H fp pn) E0 ts (tt C s H fp pn) na)
  (he:∀C s H fp pn,DEl (Zar X (own++cap.map (·.1)) scope cl C s H fp pn) E0 elt (tf C s H fp pn) me) (hts:ts.length≤1:=by decide) (hs:∀x,foldedSetIterable iter X.env x=pure x:=by intro _;rfl) :
  DSr X E [.Return (some (.ListComp elt [⟨tg,iter,ts,0⟩] scope pos)) spos] (tRet (ZdM wi g tt tf own cap)) (comp mi own.length (cap.map (·.2)) gm na me):=by
 refine ⟨Zhh (Zi6 (ZiI hi.p O hc (fun C s H fp pn=>(hg C s H fp pn).p) (fun C s H fp pn=>(ht C s H fp pn).p) (fun C s H fp pn=>(he C s H fp pn).p) hts hs)),fun F0 H0 F H σ ρ rr=>?_⟩
 have h:=hi.s F0 H0 F H σ ρ rr
 unfold comp
 cases e:mi ρ with
 | ok ds =>
  rw [e] at h
  by_cases hl:ds.length≤LIM
  case neg =>
   show AnsR X.K X.mg E F0 H0 (if ds.length≤LIM then _ else Res.bad) _
   rw [if_neg hl];trivial
  show AnsR X.K X.mg E F0 H0 (if ds.length≤LIM then (noEx (Dl.Zai gm na me (noA own.length (yar ρ (cap.map (·.2)))) ds)).bind _ else Res.bad) _
  rw [if_pos hl]
  cases e2:Dl.Zai gm na me (noA own.length (yar ρ (cap.map (·.2)))) ds with
  | ok ys =>
   exact fun D q=>h _ fun F1 H1 J g1 jo=>fun C s H2 fp pn=>Znh (rr.gr g1) jo (hg C s H2 fp pn).s (ht C s H2 fp pn).s (he C s H2 fp pn).s hl e2 _ fun F' H' xs g2 rs rwR _ _ p hp=>by
    have sn:Same F' (upd F' p (.lst xs)):=Zaz (g2.s.free hp) _
    exact q (upd F' p (.lst xs)) _ _ (((rr.g.trans g1).trans g2).trans (.new g2.s hp _)) ⟨p,xs,ys,rfl,rfl,(rr.g.f.trans (g1.f.trans g2.f)).free (g2.s.free hp),Zag,rs.length,fun k y d a b=>((rwR k y d a b).up sn).down (rr.g.f.trans g1.f)⟩
  | ex c=>trivial
  | bad=>trivial
 | ex c =>
  rw [e] at h
  exact fun D q=>h _ fun F' H' C g hC=>q F' H' C (rr.g.trans g) hC
 | bad=>trivial
end
section
variable{P:Program}{w:World}{K:W.Frag}{mg:Str→Option Value}{base:Heap}{N ps:List Str}{x:Str}
theorem _root_.L2.Def.calR{st:Stmt}{k:Nat}{m:ME}(Df:Def K mg x st ps)(S:Zad N ps (Zab st))
  (h:∀(f:Addr) (cdv:Value) (A:Around) (outer:List Env) (s:Shared) (H:Hp) (E:XK),Room k (A.deeper (envOfC x (Zab st) s.heap.objs.size f cdv))→∃t,DSr (cxOf (CXR P w) P w K mg base N x (Zab st) f cdv A outer s H E) E (ZaY st) t m) :
  CalR P w K mg base (k+1) x ps (fnR N.length m):=by
 obtain ⟨f,fd,F,b,hm⟩:=Df.ex
 refine ⟨⟨f,fd,?_,b,F.kp,hm⟩⟩
 obtain ⟨oc,od,kV,doc,pm,an,cdv,ct,osl,rfl,lk,hcd⟩:=F.ex
 refine Zka lk hcd S (fun vs H Q E q=>q.1) fun A outer s H vs Q E hr hsp=>?_
 obtain ⟨t,hd⟩:=h f cdv A outer s H E hr
 refine ⟨t,hd.p,?_⟩
 obtain ⟨_,F0,ds,s0,rs,hb,hok,hex⟩:=hsp
 have z:=hd.s F0 H F0 H (start N vs) (ev0 N.length ds) (Zc6 s0 rs)
 unfold fnR at hb hok hex
 cases e:m (ev0 N.length ds) with
 | ok d =>
  rw [e] at z
  exact z _ fun F' H' x g rx=>hok d e F' H' x g rx
 | ex c =>
  rw [e] at z
  exact z _ fun F' H' C g hc=>hex c e F' H' C g hc
 | bad=>exact absurd e hb
end
end L2.Ds
namespace Dl
open PySem
def soR(k:MS)(m:ME):ME:=fun ρ=>(k ρ).bind fun f=>match f with
 | .nx ρ'=>m ρ'
 | _=>.bad
end Dl
namespace L2.Ds
open PySem PySem.Spec PyProof.Rows Dl
section
variable{K:W.Frag}{mg:Str→Option Value}{E:XK}{G Gb F F' F0 H0 H:Hp}{x:V}{d:D}{σ:St}{ρ:Ev}
theorem Zh8.rp(h:Zh8 K mg G F x d):Rp K mg F x d:=by
 obtain ⟨p,xs,rows,rfl,rfl,h1,h2,h3,h4⟩:=h
 refine .lst (SqL.of h2) (Zoo h3 fun m y e a b=>?_)
 obtain ⟨q,ys,cs,rfl,rfl,q1,q2,q3⟩:=h4 m y e a b
 exact .lst (SqL.of q2) q3
end
section
variable{X:Cx}{E:XK}{k l n i nn:Nat}{x y:Str}{ps:List Str}{f:List D→Res D}{t:TA}{m:MA}{e:Expr}{es:List Expr}{p pos pos' spos:Pos}
theorem ZnY{N:List Str}{scope:Scope}{cl:List (Str×Addr)}{C':Addr}{s:Shared}{H:Hp}{fp:List Addr}{pn:List (Addr×Obj)}(C:CalO X.prog X.w X.K X.mg X.base k x ps f)(hr:Room l X.A)(hn:k≤l)(hg:Gl (Zar X N scope cl C' s H fp pn) x)(ha:DA (Zar X N scope cl C' s H fp pn) E0 n (e::es) t m)(hps:ps.length=n:=by rfl)
  (hdb:(x==("__debug__" : Str))=false:=by decide) (he:starEach (e::es) (Zar X N scope cl C' s H fp pn).env=(false,eval e (Zar X N scope cl C' s H fp pn).env)::starEach es (Zar X N scope cl C' s H fp pn).env:=by rfl)
  (hpl:(backTo pos (starEach es (Zar X N scope cl C' s H fp pn).env)).any (·.1)=false:=by rfl) :
  DEl (Zar X N scope cl C' s H fp pn) E0 (.Call (.Name x p) (e::es) [] pos) (Zgf (spO X.K X.mg ps.length f) [] E0 t) (on f m):=by
 obtain ⟨g,fd,F,b,kp,hm⟩:=C.ex
 refine ⟨ZgU F (hr.mono hn) hg hm kp b .nil Zn3 ha.p hdb he hpl,fun F0 H0 Ff H σ ρ rr=>?_⟩
 refine (ha.s F0 H0 Ff H σ ρ rr).bindE (w':=fun vs H1 Q=>spO X.K X.mg ps.length f (vs++[]) H1 Q E0) fun ds em F1 H1 vs g1 rs=>?_
 simp only [VaV]
 cases ef:f ds with
 | bad=>trivial
 | ex c=>exact fun Q q=>⟨by rw [rs.length,hps];exact ha.n ρ ds em,F1,ds,g1.s,rs,(by rw [ef];intro z;cases z),(fun d z=>by rw [ef] at z;cases z),fun c' z F' H' C g hC=>by
   rw [ef] at z;cases z
   exact q F' H' C g hC⟩
 | ok d =>
  obtain ⟨zs,rfl⟩:=C.l ds d ef
  exact fun Q q=>⟨by rw [rs.length,hps];exact ha.n ρ ds em,F1,ds,g1.s,rs,(by rw [ef];intro z;cases z),(fun d z=>by
   rw [ef] at z;cases z
   refine ⟨zs,rfl,fun F' H' a xs g hn rx=>?_⟩
   have sn:Same F' (upd F' a (.lst xs)):=Zaz (g.s.free hn) _
   exact q _ _ _ (g.trans (.new g.s hn _)) ⟨a,xs,zs,rfl,rfl,(g1.f.trans g.f).free (g.s.free hn),Zag,rx.same sn⟩),fun c' z=>by rw [ef] at z;cases z⟩
theorem Zhl{st:Stmt}{rest:List Stmt}{u u':TS}{k:MS}{k':ME}(h:DS X E st u k)(h':DSr X E rest u' k'):DSr X E (st::rest) (tSeq u u') (soR k k'):=by
 refine ⟨ZbL h.p h'.p,fun F0 H0 F H σ ρ rr=>?_⟩
 have z:=h.s F0 H0 F H σ ρ rr
 unfold soR
 cases e:k ρ with
 | ok f =>
  rw [e] at z
  cases f with
  | nx ρ' =>
   show AnsR X.K X.mg E F0 H0 (k' ρ') _
   have z':=fun F1 H1 σ1 r1=>h'.s F0 H0 F1 H1 σ1 ρ' r1
   generalize k' ρ'=r2 at z'
   cases r2 with
   | ok ds=>exact fun D q=>z _ fun F1 H1 σ1 _ r1=>z' F1 H1 σ1 r1 D q
   | ex c=>exact fun D q=>z _ fun F1 H1 σ1 _ r1=>z' F1 H1 σ1 r1 D q
   | bad=>trivial
  | bk ρ'=>trivial
  | ct ρ'=>trivial
  | rt d=>trivial
 | ex c=>rw [e] at z;exact fun D q=>z _ q
 | bad=>trivial
end
end L2.Ds
namespace Dl
open PySem
def ifR(t:MB)(k k':ME):ME:=fun ρ=>(t ρ).bind fun b=>if b=true then k ρ else k' ρ
end Dl
namespace L2.Ds
open PySem PySem.Spec PyProof.Rows Dl
end L2.Ds
namespace L2
open PySem PySem.Spec PyProof.Rows PySem.W
def objX(a:Addr)(o:Obj):HO:=.ext fun h=>h.get? a=some o
theorem Zqv{P:Program}{w:World}{H:Hp}{h:Heap}{a:Addr}{o:Obj}(e:h.get? a=some o):ZbX P w H h a (objX a o):=⟨e,⟨o,e⟩,fun _ _ x k=>k o x⟩
theorem Znc{P:Program}{w:World}{H:Hp}{h:Heap}{a:Addr}{o:Obj}(x:HOk P w H h)(e:H a=some (objX a o)):h.get? a=some o:=(show _∧_ from x a _ e).1
end L2
namespace L2.Ds
open PySem PySem.Spec PyProof.Rows PySem.W Dl
end L2.Ds
namespace L2
open PySem PySem.Spec PyProof.Rows PySem.W
end L2
namespace L2.Ds
open PySem PySem.Spec PyProof.Rows PySem.W Dl
end L2.Ds
namespace L2.Ds
open PySem PySem.Spec PyProof.Rows Dl
end L2.Ds
namespace L2.Ds
open PySem PySem.Spec PyProof.Rows PySem.W Dl
end L2.Ds
namespace Dl
open PySem
def firsts(kf:Nat→List Int):Nat→List (List Int)
 | 0=>[]
 | i+1=>if kf i∈firsts kf i then firsts kf i else firsts kf i++[kf i]
def intsOf:List D→Option (List Int)
 | []=>some []
 | .int n::r=>(intsOf r).map (n::·)
 | _::_=>none
def keysOf:List D→Option (List (List Int))
 | []=>some []
 | .tup ds::r=>(intsOf ds).bind fun k=>(keysOf r).map (k::·)
 | _::_=>none
def ZgQ:D→Res D
 | .lst ds=>match keysOf ds with
  | some ks=>if ds.length≤16 then .ok (.int ((firsts (fun i=>ks.getD i []) ds.length).length:Nat)) else .bad
  | none=>.bad
 | _=>.bad
end Dl
namespace L2.Sx
open PySem PySem.SetTable
def adv(m:Nat)(p:Probe):Probe :=
 if p.more>0 then { p with j:=p.j+1,more:=p.more - 1 } else
 { p with j:=(leap m p.i p.perturb).1,more:=runEnd m (leap m p.i p.perturb).1 - (leap m p.i p.perturb).1,i:=(leap m p.i p.perturb).1,perturb:=(leap m p.i p.perturb).2 }
theorem ZgD(t:SetTable)(p:Probe):t.advance p=adv t.mask p:=rfl
def run(m i pt:Nat):Probe:={ j:=i,more:=runEnd m i - i,i,perturb:=pt,dummy:=none }
theorem ZnA(t:SetTable)(h:Int):t.probeStart h=run t.mask (bits h%(t.mask+1)) (bits h):=rfl
inductive Rch(m:Nat)(occ:Nat→Prop):Probe→Nat→Prop
 | here (p:Probe):Rch m occ p p.j
 | next {p:Probe} {j:Nat}:occ p.j→Rch m occ (adv m p) j→Rch m occ p j
theorem Rch.mono{m:Nat}{occ occ':Nat→Prop}(h:∀j,occ j→occ' j){p:Probe}{j:Nat}(r:Rch m occ p j):Rch m occ' p j:=by
 induction r with
 | here p=>exact .here p
 | next o _ ih=>exact .next (h _ o) ih
def Zdy(m:Nat)(occ:Nat→Prop):Nat→Probe→Prop
 | 0,p=>¬occ p.j
 | n+1,p=>¬occ p.j∨Zdy m occ n (adv m p)
def advs(m:Nat):Nat→Probe→Probe
 | 0,p=>p
 | n+1,p=>advs m n (adv m p)
theorem Zdy.of{m:Nat}{occ:Nat→Prop}:∀{n:Nat} {p:Probe},¬occ (advs m n p).j→Zdy m occ n p
 | 0,_,h=>h
 | _+1,_,h=>.inr (Zdy.of h)
theorem Zdy.mono{m:Nat}{occ:Nat→Prop}:∀{n n':Nat} {p:Probe},n≤n'→Zdy m occ n p→Zdy m occ n' p
 | 0,0,_,_,h=>h
 | 0,_+1,_,_,h=>.inl h
 | n+1,0,_,hl,_=>by omega
 | n+1,n'+1,_,hl,h=>h.elim .inl fun h=>.inr (Zdy.mono (by omega) h)
theorem Zfo(m:Nat):∀(a b:Nat) (p:Probe),advs m (a+b) p=advs m b (advs m a p)
 | 0,b,p=>by rw [Nat.zero_add];rfl
 | a+1,b,p=>by rw [Nat.add_right_comm];exact Zfo m a b (adv m p)
theorem Zem(m i pt:Nat):∀k,k≤runEnd m i - i→advs m k (run m i pt)={ j:=i+k,more:=runEnd m i - i - k,i,perturb:=pt,dummy:=none }
 | 0,_=>rfl
 | k+1,h=>by
  rw [Zfo m k 1,Zem m i pt k (by omega)]
  show adv m _=_
  unfold adv
  rw [if_pos (show runEnd m i - i - k>0 by omega)]
  simp only [Probe.mk.injEq,and_true]
  omega
theorem Zjk(m i pt:Nat):advs m (runEnd m i - i+1) (run m i pt)=run m (leap m i pt).1 (leap m i pt).2:=by
 rw [Zfo m (runEnd m i - i) 1,Zem m i pt _ (VaI _)]
 show adv m _=_
 unfold adv
 rw [if_neg (by simp)]
 rfl
theorem ZqV(m i:Nat):runEnd m i - i+1≤10:=by
 unfold runEnd
 split<;>omega
def Zcs(m:Nat):Nat→Nat×Nat→Nat×Nat
 | 0,p=>p
 | n+1,p=>Zcs m n (leap m p.1 p.2)
theorem ZhX(m:Nat):∀(a b:Nat) (p:Nat×Nat),Zcs m (a+b) p=Zcs m b (Zcs m a p)
 | 0,b,p=>by rw [Nat.zero_add];rfl
 | a+1,b,p=>by rw [Nat.add_right_comm];exact ZhX m a b _
theorem Zih(m:Nat):∀(n i pt:Nat),∃k,k≤10*n∧advs m k (run m i pt)=run m (Zcs m n (i,pt)).1 (Zcs m n (i,pt)).2
 | 0,i,pt=>⟨0,VaI _,rfl⟩
 | n+1,i,pt=>by
  obtain ⟨k,hk,e⟩:=Zih m n (leap m i pt).1 (leap m i pt).2
  refine ⟨(runEnd m i - i+1)+k,?_,?_⟩
  ·have:=ZqV m i
   omega
  ·rw [Zfo,Zjk,e]
   rfl
theorem ZhE(m:Nat):∀(n i pt:Nat),(Zcs m n (i,pt)).2=pt/32^n
 | 0,i,pt=>by rw [Nat.pow_zero,Nat.div_one];rfl
 | n+1,i,pt=>by
  show (Zcs m n (leap m i pt)).2=_
  have e:=ZhE m n (leap m i pt).1 (leap m i pt).2
  have z:Zcs m n (leap m i pt)=Zcs m n ((leap m i pt).1,(leap m i pt).2):=rfl
  rw [z,e]
  show pt/32/32^n=pt/32^(n+1)
  rw [Nat.div_div_eq_div_mul,Nat.pow_succ,Nat.mul_comm]
theorem Zi1(m:Nat):∀(n i pt:Nat),i≤m→(Zcs m n (i,pt)).1≤m
 | 0,i,pt,h=>h
 | n+1,i,pt,h=>by
  show (Zcs m n ((leap m i pt).1,(leap m i pt).2)).1≤m
  exact Zi1 m n _ _ (by unfold leap;have:=Nat.mod_lt (i*5+1+pt/32) (show 0<m+1 by omega);simp only [];omega)
theorem ZlF(h:Int):bits h<2^64:=by
 unfold bits
 have h1:=VbZ h (show ((2:Int)^64)≠0 by decide)
 have h2:=Vb0 h (show (0:Int)<2^64 by decide)
 have e:((2:Int)^64)=((2^64:Nat):Int):=by norm_cast
 omega
theorem cyc7:∀i≤7,∀e≤7,∃k≤7,(Zcs 7 k (i,0)).1=e:=by decide +kernel
theorem ZtU:∀i≤31,∀e≤31,∃k≤31,(Zcs 31 k (i,0)).1=e:=by decide +kernel
def Mk(m:Nat):Prop:=m=7∨m=31
theorem cyc{m:Nat}(hm:Mk m):∀i≤m,∀e≤m,∃k≤m,(Zcs m k (i,0)).1=e:=by
 rcases hm with rfl | rfl
 ·exact cyc7
 ·exact ZtU
theorem cover{m:Nat}(hm:Mk m){i pt e:Nat}(hi:i≤m)(hp:pt<2^64)(he:e≤m):∃n,n≤13+m∧(Zcs m n (i,pt)).1=e:=by
 have h13:(Zcs m 13 (i,pt)).2=0:=by
  rw [ZhE]
  exact Nat.div_eq_of_lt (Vaf hp (by decide))
 obtain ⟨k,hk,e1⟩:=cyc hm _ (Zi1 m 13 i pt hi) e he
 refine ⟨13+k,by omega,?_⟩
 rw [ZhX]
 have z:Zcs m 13 (i,pt)=((Zcs m 13 (i,pt)).1,0):=by rw [←h13]
 rw [z]
 exact e1
theorem ends{m:Nat}(hm:Mk m){i pt e:Nat}{occ:Nat→Prop}(hi:i≤m)(hp:pt<2^64)(he:e≤m)(ho:¬occ e):Zdy m occ (10*(13+m)) (run m i pt):=by
 obtain ⟨n,hn,e1⟩:=cover hm hi hp he
 obtain ⟨k,hk,e2⟩:=Zih m n i pt
 refine Zdy.mono (n:=k) (by omega) (Zdy.of ?_)
 rw [e2]
 show ¬occ (Zcs m n (i,pt)).1
 rw [e1]
 exact ho
theorem Zhj(xs:Array Nat)(j:Nat)(h:xs.toList.Pairwise (· < ·)):∀(fuel lo hi:Nat),lo≤hi→hi≤xs.size→hi - lo≤fuel→(∀i (q:i<xs.size),i<lo→xs[i]<j)→(∀i (q:i<xs.size),hi≤i→¬xs[i]<j) →
  below.go xs j fuel lo hi≤xs.size∧∀i (q:i<xs.size),xs[i]<j↔i<below.go xs j fuel lo hi
 | 0,lo,hi,h1,h2,h3,h4,h5=>by
  have e:lo=hi:=by omega
  subst e
  exact ⟨h2,fun i hi=>⟨fun z=>Nat.lt_of_not_le fun q=>h5 i hi q z,fun z=>h4 i hi z⟩⟩
 | fuel+1,lo,hi,h1,h2,h3,h4,h5=>by
  unfold below.go
  by_cases hl:lo<hi
  ·rw [if_pos hl]
   simp only []
   have hm:(lo+hi)/2<xs.size:=by omega
   have hp:∀a b (ha:a<xs.size) (hb:b<xs.size),a<b→xs[a]<xs[b]:=fun a b ha hb hab=>by
    have:=Vb1.mp h a b (by simpa using ha) (by simpa using hb) hab
    simpa using this
   have eg:xs.getD ((lo+hi)/2) j=xs[(lo+hi)/2]:=by simp [Array.getD,hm]
   rw [eg]
   by_cases hc:xs[(lo+hi)/2]<j
   ·rw [if_pos hc]
    refine Zhj xs j h fuel ((lo+hi)/2+1) hi (by omega) h2 (by omega) (fun i hi' z=>?_) h5
    by_cases hz:i<(lo+hi)/2
    ·exact Vbr (hp i _ hi' hm hz) hc
    ·have:i=(lo+hi)/2:=by omega
     subst this;exact hc
   ·rw [if_neg hc]
    refine Zhj xs j h fuel lo ((lo+hi)/2) (by omega) (by omega) (by omega) h4 fun i hi' z=>?_
    by_cases hz:(lo+hi)/2<i
    ·have:=hp _ i hm hi' hz
     omega
    ·have:i=(lo+hi)/2:=by omega
     subst this;exact hc
  ·rw [if_neg hl]
   have e:lo=hi:=by omega
   subst e
   exact ⟨h2,fun i hi=>⟨fun z=>Nat.lt_of_not_le fun q=>h5 i hi q z,fun z=>h4 i hi z⟩⟩
theorem ZgA{xs:Array Nat}(j:Nat)(h:xs.toList.Pairwise (· < ·)):below xs j≤xs.size∧∀i (hi:i<xs.size),xs[i]<j↔i<below xs j :=
 Zhj xs j h xs.size 0 xs.size (VaT _) (VaI _) (by omega) (fun _ _ z=>by omega) fun i hi z=>by omega
abbrev En:Type:=Nat×Int×Value
def Occ(l:List En)(j:Nat):Prop:=∃e∈l,e.1=j
abbrev st0(m:Nat)(h:Int):Probe:=run m (bits h%(m+1)) (bits h)
structure Tb(t:SetTable)(es:Array (Int×Value))(l:List En):Prop where
 ms:Mk t.mask
 pl:t.place.toList=l.map (·.1)
 el:es.toList=l.map (·.2)
 du:t.dummies=#[]
 up:l.Pairwise fun a b=>a.1<b.1
 le:∀e∈l,e.1≤t.mask
 rc:∀e∈l,Rch t.mask (Occ l) (st0 t.mask e.2.1) e.1
section
variable{t:SetTable}{es:Array (Int×Value)}{l:List En}
theorem Tb.plP(T:Tb t es l):t.place.toList.Pairwise (· < ·):=by rw [T.pl,List.pairwise_map];exact T.up
theorem Tb.size(T:Tb t es l):t.place.size=l.length:=by rw [←Vax,T.pl,VaQ]
theorem Tb.esize(T:Tb t es l):es.size=l.length:=by rw [←Vax,T.el,VaQ]
theorem Tb.at(T:Tb t es l){i:Nat}(hi:i<t.place.size):t.place[i]=(l[i]'(by rw [←T.size];exact hi)).1:=by
 have e:t.place.toList[i]'(by simpa using hi)=(l.map (·.1))[i]'(by rw [VaQ,←T.size];exact hi):=by
  congr 1
  exact T.pl
 simpa using e
theorem Tb.live(T:Tb t es l){i:Nat}{e:En}(h:l[i]?=some e):t.slot e.1=.live i:=by
 obtain ⟨hi,rfl⟩:=Vau.mp h
 have hi':i<t.place.size:=by rw [T.size];exact hi
 obtain ⟨b1,b2⟩:=ZgA l[i].1 T.plP
 have hp:=Vb1.mp T.up
 have eb:below t.place l[i].1=i:=by
  rcases Nat.lt_trichotomy (below t.place l[i].1) i with z | z | z
  ·have hb:below t.place l[i].1<t.place.size:=by omega
   have:=hp _ i (by rw [←T.size];exact hb) hi z
   have q:=(b2 _ hb).mp (by rw [T.at hb];exact this)
   omega
  ·exact z
  ·have q:=(b2 i hi').mpr z
   rw [T.at hi'] at q
   omega
 unfold slot
 simp only []
 rw [eb,if_pos]
 rw [Vb2 hi',T.at hi']
 simp
theorem Tb.noDummy(T:Tb t es l)(j:Nat):has t.dummies j=false:=by
 rw [T.du]
 unfold has
 simp
theorem Tb.empty(T:Tb t es l){j:Nat}(h:¬Occ l j):t.slot j=.empty:=by
 unfold slot
 simp only []
 rw [if_neg,T.noDummy,if_neg VaF]
 intro z
 have z:=eq_of_beq z
 obtain ⟨hi,e⟩:=VbW.mp z
 rw [T.at hi] at e
 exact h ⟨_,Vb3 _,e⟩
theorem Tb.occ(T:Tb t es l){j:Nat}(h:Occ l j):∃i e,l[i]?=some e∧e.1=j∧t.slot j=.live i:=by
 obtain ⟨e,he,rfl⟩:=h
 obtain ⟨i,hi,rfl⟩:=VbX.mp he
 exact ⟨i,_,VbH hi,rfl,T.live (VbH hi)⟩
theorem Zd6{α:Type}(xs:Array α)(p:Nat)(x:α)(hp:p≤xs.size):(insertAt xs p x).toList=xs.toList.take p++x::xs.toList.drop p:=by
 unfold insertAt
 simp [Array.toList_extract,List.extract_eq_drop_take]
 exact Vbx (by simp)
theorem Tb.put(T:Tb t es l){j:Nat}{h:Int}{x:Value}(hj:j≤t.mask)(ho:¬Occ l j)(hr:Rch t.mask (Occ l) (st0 t.mask h) j) :
  ∃l',List.Perm l' ((j,h,x)::l)∧Tb (t.put j).1 (insertAt es (t.put j).2 (h,x)) l':=by
 obtain ⟨b1,b2⟩:=ZgA j T.plP
 have ep:(t.put j).2=below t.place j:=rfl
 have et:(t.put j).1={ t with place:=insertAt t.place (below t.place j) j,dummies:=t.dummies }:=by
  unfold SetTable.put
  simp only []
  rw [T.noDummy,if_neg VaF]
 have hp:List.Perm (l.take (below t.place j)++(j,h,x)::l.drop (below t.place j)) ((j,h,x)::l):=by
  refine List.perm_middle.trans ?_
  rw [List.take_append_drop]
 have hocc:∀k,Occ l k→Occ (l.take (below t.place j)++(j,h,x)::l.drop (below t.place j)) k:=fun k ⟨e,he,q⟩=>⟨e,hp.mem_iff.mpr (Vap _ he),q⟩
 refine ⟨l.take (below t.place j)++(j,h,x)::l.drop (below t.place j),hp,?_⟩
 rw [ep,et]
 refine ⟨T.ms,?_,?_,T.du,?_,fun e he=>?_,fun e he=>?_⟩
 ·show (insertAt t.place (below t.place j) j).toList=_
  rw [Zd6 _ _ _ b1,T.pl]
  simp [Vb4,List.map_drop]
 ·rw [Zd6 _ _ _ (by rw [T.esize,←T.size];exact b1),T.el]
  simp [Vb4,List.map_drop]
 ·have hlow:∀e∈l.take (below t.place j),e.1<j:=fun e he=>by
   obtain ⟨i,hi,rfl⟩:=VbX.mp he
   have hi':i<below t.place j∧i<l.length:=by rw [Va0] at hi;omega
   have hq:i<t.place.size:=by rw [T.size];exact hi'.2
   have:=(b2 i hq).mpr hi'.1
   rw [T.at hq] at this
   simpa using this
  have hhigh:∀e∈l.drop (below t.place j),j<e.1:=fun e he=>by
   obtain ⟨i,hi,rfl⟩:=VbX.mp he
   rw [Vbd] at hi
   have hq:below t.place j+i<t.place.size:=by rw [T.size];omega
   have h1:¬t.place[below t.place j+i]<j:=fun z=>by have:=(b2 _ hq).mp z;omega
   rw [T.at hq] at h1
   have h2:(l[below t.place j+i]'(by rw [←T.size];exact hq)).1≠j:=fun z=>ho ⟨_,Vb3 _,z⟩
   rw [List.getElem_drop]
   omega
  rw [List.pairwise_append]
  refine ⟨T.up.sublist (List.take_sublist _ _),?_,fun a ha b hb=>?_⟩
  ·rw [Vb5]
   exact ⟨fun b hb=>hhigh b hb,T.up.sublist (List.drop_sublist _ _)⟩
  ·rcases Var.mp hb with rfl | hb
   ·exact hlow a ha
   ·exact Vbr (hlow a ha) (hhigh b hb)
 ·rcases Var.mp (hp.mem_iff.mp he) with rfl | he
  ·exact hj
  ·exact T.le e he
 ·rcases Var.mp (hp.mem_iff.mp he) with rfl | he
  ·exact hr.mono hocc
  ·exact (T.rc e he).mono hocc
end
section
variable{t:SetTable}{es:Array (Int×Value)}{l:List En}{h:Int}{ha:Nat→Int}
def HAt(l:List En)(ha:Nat→Int):Prop:=∀i e,l[i]?=some e→ha i=e.2.1
theorem ZfT(T:Tb t es l)(hh:HAt l ha):∀(n fuel:Nat) (p:Probe),p.dummy=none→Zdy t.mask (Occ l) n p→n<fuel →
  (∃j,probe.go t ha h fuel p=some (.empty j none)∧¬Occ l j∧Rch t.mask (Occ l) p j∧∀e∈l,e.2.1=h→¬Rch t.mask (Occ l) p e.1) ∨
  (∃i e p' n',probe.go t ha h fuel p=some (.candidate e.1 i (adv t.mask p'))∧l[i]?=some e∧e.2.1=h∧p'.j=e.1∧p'.dummy=none∧n'<n∧Zdy t.mask (Occ l) n' (adv t.mask p')∧(∀j,Rch t.mask (Occ l) (adv t.mask p') j→Rch t.mask (Occ l) p j)∧∀e'∈l,e'.2.1=h→e'≠e→Rch t.mask (Occ l) p e'.1→Rch t.mask (Occ l) (adv t.mask p') e'.1)
 | n,0,p,_,_,hf=>by omega
 | n,fuel+1,p,hd,hE,hf=>by
  by_cases ho:Occ l p.j
  ·obtain ⟨i,e,hi,he,hs⟩:=T.occ ho
   cases n with
   | zero=>exact absurd ho hE
   | succ n =>
    have hE':Zdy t.mask (Occ l) n (adv t.mask p):=hE.resolve_left fun z=>z ho
    have dadv:(adv t.mask p).dummy=none:=by unfold adv;split<;>exact hd
    unfold probe.go
    rw [hs]
    simp only []
    have inj:∀e'∈l,e'.1=e.1→e'=e:=fun e' he' q=>by
     obtain ⟨a,ha',rfl⟩:=VbX.mp he'
     obtain ⟨hb,rfl⟩:=Vau.mp hi
     have hp:=Vb1.mp T.up
     rcases Nat.lt_trichotomy a i with z | z | z
     ·have:=hp a i ha' hb z;omega
     ·subst z;rfl
     ·have:=hp i a hb ha' z;omega
    have on:∀{j:Nat},Rch t.mask (Occ l) p j→j≠p.j→Rch t.mask (Occ l) (adv t.mask p) j:=fun {j} r ne=>by
     cases r with
     | here=>exact absurd rfl ne
     | next _ r=>exact r
    by_cases hq:ha i=h
    ·rw [if_pos (by rw [hq];exact beq_self_eq_true h)]
     right
     refine ⟨i,e,p,n,by rw [ZgD,he],hi,by rw [←hh i e hi];exact hq,he.symm,hd,by omega,hE',fun j r=>.next ho r,fun e' he' _ ne r=>on r fun z=>ne (inj e' he' (by rw [z,he]))⟩
    ·rw [if_neg (by intro z;exact hq (eq_of_beq z)),ZgD]
     have neh:e.2.1≠h:=by rw [←hh i e hi];exact hq
     rcases ZfT T hh n fuel (adv t.mask p) dadv hE' (by omega) with ⟨j,e1,e2,e3,e4⟩ | ⟨i',e',p',n',e1,e2,e3,e4,e5,e6,e7,e8,e9⟩
     ·left
      refine ⟨j,e1,e2,.next ho e3,fun e' he' q r=>e4 e' he' q (on r fun z=>?_)⟩
      have:=inj e' he' (by rw [z,he])
      subst this
      exact neh q
     ·right
      refine ⟨i',e',p',n',e1,e2,e3,e4,e5,by omega,e7,fun j r=>.next ho (e8 j r),fun e'' he'' q ne r=>e9 e'' he'' q ne (on r fun z=>?_)⟩
      have:=inj e'' he'' (by rw [z,he])
      subst this
      exact neh q
  ·left
   unfold probe.go
   rw [T.empty ho]
   simp only []
   refine ⟨p.j,by rw [hd],ho,.here p,fun e he _ r=>?_⟩
   generalize hz:e.1=z at r
   cases r with
   | here=>exact ho ⟨e,he,hz⟩
   | next o _=>exact ho o
end
theorem Zoc{α:Type}:∀{xs ys:List α},xs.Nodup→(∀x∈xs,x∈ys)→xs.length≤ys.length
 | [],_,_,_=>VaT _
 | x::r,ys,hn,hs=>by
  obtain ⟨a,b,rfl⟩:=List.append_of_mem (hs x Vao)
  rw [VaY] at hn
  have:=Zoc (ys:=a++b) hn.2 fun y hy=>by
   rcases Vas.mp (hs y (Vap _ hy)) with z | z
   ·exact Vat _ z
   ·rcases Var.mp z with rfl | z
    ·exact absurd hy hn.1
    ·exact VaL _ z
  simp at this ⊢
  omega
theorem Zhv{m:Nat}{js:List Nat}(h:js.length≤m):∃e,e≤m∧e∉js:=by
 refine Vb6 fun z=>?_
 have:=Zoc (xs:=List.range (m+1)) (ys:=js) List.nodup_range fun x hx=>Vb6 fun q=>z ⟨x,by have:=Vaj.mp hx;omega,q⟩
 rw [VbF] at this
 omega
theorem Zg5{m:Nat}{occ:Nat→Prop}:∀{k:Nat} {p:Probe} {j:Nat},(∀k'<k,occ (advs m k' p).j)→Rch m occ (advs m k p) j→Rch m occ p j
 | 0,_,_,_,r=>r
 | k+1,p,j,h,r=>.next (h 0 (by omega)) (Zg5 (k:=k) (fun k' hk=>h (k'+1) (by omega)) r)
theorem ZpE{m i pt k:Nat}{occ:Nat→Prop}(hk:k≤runEnd m i - i)(h:∀k'<k,occ (i+k')):Rch m occ (run m i pt) (i+k):=by
 refine Zg5 (k:=k) (fun k' hk'=>?_) ?_
 ·rw [Zem m i pt k' (by omega)]
  exact h k' hk'
 ·rw [Zem m i pt k hk]
  exact .here _
theorem ZmN{m i pt j:Nat}{occ:Nat→Prop}(h:∀k'≤runEnd m i - i,occ (i+k'))(r:Rch m occ (run m (leap m i pt).1 (leap m i pt).2) j):Rch m occ (run m i pt) j:=by
 refine Zg5 (k:=runEnd m i - i+1) (fun k' hk'=>?_) ?_
 ·rw [Zem m i pt k' (by omega)]
  exact h k' (by omega)
 ·rw [Zjk]
  exact r
structure Ow(m:Nat)(owner:Array (Option Nat))(js:List Nat):Prop where
 sz:owner.size=m+1
 nd:js.Nodup
 le:∀j∈js,j≤m
 is:∀j k,j≤m→(owner[j]?=some (some k)↔js[k]?=some j)
theorem Ow.none{m:Nat}{owner:Array (Option Nat)}{js:List Nat}(O:Ow m owner js){j:Nat}(hj:j≤m):(owner.getD j (some 0)).isNone=true↔j∉js:=by
 have hb:j<owner.size:=by rw [O.sz];omega
 have eg:owner.getD j (some 0)=owner[j]:=by simp [Array.getD,hb]
 rw [eg]
 constructor
 ·intro z hm
  obtain ⟨k,hk,e⟩:=VbX.mp hm
  have:=(O.is j k hj).mpr (by rw [VbH hk,e])
  rw [Vb2 hb] at this
  rw [Vav this] at z
  exact Bool.noConfusion z
 ·intro z
  cases q:owner[j] with
  | none=>rfl
  | some k =>
   have:=(O.is j k hj).mp (by rw [Vb2 hb,q])
   exact absurd (Va6 this) z
theorem ZfY{m i:Nat}(h:i≤m):i≤runEnd m i∧runEnd m i≤m:=by
 unfold runEnd
 split<;>omega
theorem ZhB{m:Nat}{owner:Array (Option Nat)}{js:List Nat}(O:Ow m owner js){e:Nat}(he:e≤m)(hf:e∉js):∀(fuel L i pt:Nat),i≤m→L<fuel→(Zcs m L (i,pt)).1=e →
  ∃j,j≤m∧layClean.free m owner fuel i pt=some j∧j∉js∧Rch m (·∈js) (run m i pt) j
 | 0,L,i,pt,_,hl,_=>by omega
 | fuel+1,L,i,pt,hi,hl,hL=>by
  obtain ⟨r1,r2⟩:=ZfY hi
  unfold layClean.free
  cases q:(List.range (runEnd m i+1 - i)).find? fun k=>(owner.getD (i+k) (some 0)).isNone with
  | some k =>
   obtain ⟨hp,as,bs,hs,ha⟩:=List.find?_eq_some_iff_append.mp q
   have hk:k<runEnd m i+1 - i:=Vaj.mp (by rw [hs];simp)
   have hbef:∀k'<k,(owner.getD (i+k') (some 0)).isNone=false:=fun k' hk'=>by
    have hlen:as.length=k:=by
     have:=Vay (fun l=>l[as.length]?) hs
     simp at this
     rw [VbG (by have:=Vay List.length hs;simp at this;omega)] at this
     exact Vav this
    have hmem:k'∈as:=by
     have e1:(List.range (runEnd m i+1 - i))[k']?=(as++k::bs)[k']?:=by rw [hs]
     rw [VbG (by omega),Va4 (by omega)] at e1
     exact Va6 e1.symm
    have:=ha k' hmem
    simpa using this
   simp only []
   refine ⟨i+k,by omega,rfl,(O.none (by omega)).mp hp,ZpE (by omega) fun k' hk'=>?_⟩
   exact Vb6 fun z=>by
    have h1:=hbef k' hk'
    rw [(O.none (by omega)).mpr z] at h1
    exact Bool.noConfusion h1
  | none =>
   simp only []
   have hall:∀k'≤runEnd m i - i,i+k'∈js:=fun k' hk'=>Vb6 fun z=>by
    have h1:=List.find?_eq_none.mp q k' (Vaj.mpr (by omega))
    exact h1 ((O.none (by omega)).mpr z)
   cases L with
   | zero =>
    have:i=e:=hL
    subst this
    exact absurd (hall 0 (by omega)) hf
   | succ L =>
    have hi':(leap m i pt).1≤m:=by
     unfold leap
     have:=VbY (i*5+1+pt/32) (show 0<m+1 by omega)
     simp only []
     omega
    obtain ⟨j,h1,h2,h3,h4⟩:=ZhB O he hf fuel L (leap m i pt).1 (leap m i pt).2 hi' (by omega) hL
    exact ⟨j,h1,h2,h3,ZmN hall h4⟩
theorem Ow.put{m:Nat}{owner:Array (Option Nat)}{js:List Nat}(O:Ow m owner js){j:Nat}(hj:j≤m)(hf:j∉js):Ow m (owner.setIfInBounds j (some js.length)) (js++[j]):=by
 refine ⟨by rw [Array.size_setIfInBounds];exact O.sz,?_,fun i hi=>?_,fun i k hi=>?_⟩
 ·rw [List.nodup_append]
  refine ⟨O.nd,by simp,fun a ha b hb=>?_⟩
  rw [Vb7] at hb
  subst hb
  rintro rfl
  exact hf ha
 ·rcases Vas.mp hi with z | z
  ·exact O.le i z
  ·rw [Vb7] at z;subst z;exact hj
 ·rw [Array.getElem?_setIfInBounds]
  have hb:j<owner.size:=by rw [O.sz];omega
  by_cases e:j=i
  ·subst e
   rw [if_pos rfl,if_pos hb]
   constructor
   ·intro z
    cases z
    simp
   ·intro z
    by_cases hk:k<js.length
    ·rw [Va4 hk] at z
     exact absurd (Va6 z) hf
    ·have:k=js.length:=by
      have:=(Vau.mp z).1
      simp at this
      omega
     rw [this]
  ·rw [if_neg e,O.is i k hi]
   constructor
   ·intro z
    rw [Va4 (Vau.mp z).1]
    exact z
   ·intro z
    by_cases hk:k<js.length
    ·rw [Va4 hk] at z;exact z
    ·have:k=js.length:=by
      have:=(Vau.mp z).1
      simp at this
      omega
     subst this
     simp at z
     exact absurd z e
def RcW(m:Nat)(hs:List Int)(js:List Nat):Prop:=∀(k:Nat) (h:Int) (j:Nat),hs[k]?=some h→js[k]?=some j→Rch m (·∈js) (st0 m h) j
theorem ZjA{m:Nat}(hm:Mk m):∀(rest done:List Int) (owner:Array (Option Nat)) (js:List Nat),Ow m owner js→js.length=done.length→RcW m done js→done.length+rest.length≤m →
  ∃owner' js',rest.foldl (fun acc h=>do
   let (owner,k) ←acc
   let j ←layClean.free m owner (turns m) (bits h%(m+1)) (bits h)
   pure (owner.setIfInBounds j (some k),k+1)) (some (owner,js.length))=some (owner',js'.length)∧Ow m owner' js'∧js'.length=(done++rest).length∧RcW m (done++rest) js'
 | [],done,owner,js,O,hl,hr,_=>⟨owner,js,rfl,O,by rw [VaV];exact hl,by rw [VaV];exact hr⟩
 | h::rest,done,owner,js,O,hl,hr,hle=>by
  simp only [VaO] at hle
  obtain ⟨e,he,hf⟩:=Zhv (m:=m) (js:=js) (by omega)
  have hi:bits h%(m+1)≤m:=by
   have:=VbY (bits h) (show 0<m+1 by omega)
   omega
  obtain ⟨L,hL,eL⟩:=cover hm hi (ZlF h) he
  obtain ⟨j,h1,h2,h3,h4⟩:=ZhB O he hf (turns m) L _ (bits h) hi (by unfold turns;omega) eL
  have O':=O.put h1 h3
  have hr':RcW m (done++[h]) (js++[j]):=by
   intro k h' j' e1 e2
   by_cases hk:k<done.length
   ·rw [Va4 hk] at e1
    rw [Va4 (by omega)] at e2
    exact (hr k h' j' e1 e2).mono fun x hx=>Vat _ hx
   ·have:k=done.length:=by
     have:=(Vau.mp e1).1
     simp at this
     omega
    subst this
    simp at e1
    rw [←hl] at e2
    simp at e2
    subst e1 e2
    exact h4.mono fun x hx=>Vat _ hx
  obtain ⟨owner',js',e1,e2,e3,e4⟩:=ZjA hm rest (done++[h]) _ (js++[j]) O' (by simp [hl]) hr' (by simp;omega)
  refine ⟨owner',js',?_,e2,by rw [e3];simp,by simpa using e4⟩
  rw [List.foldl_cons]
  have z:(do
   let (owner,k) ←some (owner,js.length)
   let j ←layClean.free m owner (turns m) (bits h%(m+1)) (bits h)
   pure (owner.setIfInBounds j (some k),k+1):Option (Array (Option Nat)×Nat))=some (owner.setIfInBounds j (some js.length),(js++[j]).length):=by
   show (layClean.free m owner (turns m) (bits h%(m+1)) (bits h)).bind _=_
   rw [h2]
   simp
  rw [z]
  exact e1
theorem Zli{m:Nat}(hm:Mk m)(hashes:Array Int)(hl:hashes.size≤m):∃owner js,layClean m hashes=some owner∧Ow m owner js∧js.length=hashes.size∧RcW m hashes.toList js:=by
 have O0:Ow m (Array.replicate (m+1) none) []:=⟨by simp,List.nodup_nil,fun _ h=>(VbQ h).elim,fun j k hj=>by
  rw [Array.getElem?_replicate]
  simp [hj]⟩
 obtain ⟨owner,js,e1,e2,e3,e4⟩:=ZjA hm hashes.toList [] _ [] O0 rfl (fun k h j e _=>by simp at e) (by simpa using hl)
 refine ⟨owner,js,?_,e2,by simpa using e3,by simpa using e4⟩
 unfold layClean
 rw [←Array.foldl_toList]
 have z:=Vay (Option.map (·.1)) e1
 exact z
section
variable{t:SetTable}{es:Array (Int×Value)}{l:List En}
theorem Zmp{m:Nat}{owner:Array (Option Nat)}{js:List Nat}(O:Ow m owner js)(live:List (Nat×Nat))(hlive:live=(List.range (m+1)).filterMap fun j=>(owner.getD j none).map (j,·)) :
  live.Pairwise (fun a b=>a.1<b.1)∧∀j k,(j,k)∈live↔js[k]?=some j:=by
 have mem:∀j k,(j,k)∈live↔js[k]?=some j:=fun j k=>by
  rw [hlive,VaK]
  constructor
  ·rintro ⟨i,hi,e⟩
   have hi:=Vaj.mp hi
   have hb:i<owner.size:=by rw [O.sz];exact hi
   have eg:owner.getD i none=owner[i]:=by simp [Array.getD,hb]
   rw [eg] at e
   cases q:owner[i] with
   | none=>rw [q] at e;cases e
   | some k' =>
    rw [q] at e
    simp only [Option.map_some,Option.some.injEq,Prod.mk.injEq] at e
    obtain ⟨rfl,rfl⟩:=e
    exact (O.is i k' (by omega)).mp (by rw [Vb2 hb,q])
  ·intro e
   have hj:=O.le j (Va6 e)
   have hb:j<owner.size:=by rw [O.sz];omega
   refine ⟨j,Vaj.mpr (by omega),?_⟩
   have eg:owner.getD j none=owner[j]:=by simp [Array.getD,hb]
   have q:=(O.is j k hj).mpr e
   rw [Vb2 hb] at q
   rw [eg,Vav q]
   rfl
 refine ⟨?_,mem⟩
 rw [hlive,List.pairwise_filterMap]
 refine List.pairwise_lt_range.imp fun {a b} hab=>?_
 intro x hx y hy
 cases qa:owner.getD a none with
 | none=>rw [qa] at hx;cases hx
 | some ka =>
  cases qb:owner.getD b none with
  | none=>rw [qb] at hy;cases hy
  | some kb =>
   rw [qa] at hx
   rw [qb] at hy
   cases hx
   cases hy
   exact hab
theorem Tb.relay(T:Tb t es l)(hl:l.length≤16){wanted:Nat}(hw:sizeAbove wanted=32) :
  ∃t' order l',t.relaid (es.map (·.1)) wanted=some (t',order)∧t'.mask=31∧t'.led=t.led∧t'.plain=t.plain∧Tb t' (order.filterMap (es[·]?)) l'∧List.Perm (l'.map (·.2)) (l.map (·.2)):=by
 have hm:Mk 31:=.inr rfl
 obtain ⟨owner,js,e1,O,lj,rc⟩:=Zli hm (es.map (·.1)) (by rw [Array.size_map,T.esize];omega)
 obtain ⟨live,hlive⟩ : ∃live,live=(List.range (31+1)).filterMap fun j=>(owner.getD j none).map (j,·):=⟨_,rfl⟩
 obtain ⟨up,mem⟩:=Zmp O live hlive
 have ljl:js.length=l.length:=by rw [lj,Array.size_map,T.esize]
 have hat:∀j k,(j,k)∈live→k<l.length:=fun j k h=>by
  have:=(Vau.mp ((mem j k).mp h)).1
  omega
 have hes:∀k,k<l.length→es[k]?=some ((l.getD k (0,0,.none)).2):=fun k hk=>by
  rw [←Array.getElem?_toList,T.el,Va5,VbH hk]
  simp [List.getD,hk]
 obtain ⟨l',hl'⟩ : ∃l':List En,l'=live.map fun p=>(p.1,(l.getD p.2 (0,0,.none)).2):=⟨_,rfl⟩
 have hnd:(live.map (·.2)).Nodup:=by
  unfold List.Nodup
  rw [List.pairwise_map]
  refine List.Pairwise.imp_of_mem (R:=fun a b=>a.1<b.1) (fun {a b} ha hb hab=>?_) up
  intro z
  have h1:=(mem a.1 a.2).mp ha
  have h2:=(mem b.1 b.2).mp hb
  rw [z,h2] at h1
  have:=Vav h1
  omega
 have hperm:List.Perm (live.map (·.2)) (List.range l.length):=by
  rw [List.perm_ext_iff_of_nodup hnd List.nodup_range]
  intro k
  rw [Vaj]
  constructor
  ·intro h
   obtain ⟨⟨j,k'⟩,hp,rfl⟩:=Vbs.mp h
   exact hat j k' hp
  ·intro h
   refine Vbs.mpr ⟨(js[k]'(by omega),k),(mem _ _).mpr (VbH (by omega)),rfl⟩
 refine ⟨{ mask:=31,place:=(live.map (·.1)).toArray,dummies:=#[],finger:=t.finger,led:=t.led,moves:=t.movedTo 31,plain:=t.plain },(live.map (·.2)).toArray,l',?_,rfl,rfl,rfl,?_,?_⟩
 ·unfold relaid
  rw [hw]
  show laid 31 _ _ _ _ _=_
  unfold laid
  rw [e1]
  show some _=some _
  rw [hlive]
 ·have oc:∀j,j∈js→Occ l' j:=fun j hj=>by
   obtain ⟨k,hk,rfl⟩:=VbX.mp hj
   exact ⟨_,by rw [hl'];exact Vbs.mpr ⟨(js[k],k),(mem _ _).mpr (VbH hk),rfl⟩,rfl⟩
  refine ⟨hm,?_,?_,rfl,?_,fun e he=>?_,fun e he=>?_⟩
  ·show live.map (·.1)=_
   rw [hl',VbJ]
   rfl
  ·rw [Array.toList_filterMap]
   show (live.map (·.2)).filterMap (es[·]?)=_
   rw [hl',VbJ,List.filterMap_map]
   have key:∀q:List (Nat×Nat),(∀x∈q,x.2<l.length)→q.filterMap ((es[·]?) ∘ (·.2))=q.map ((·.2) ∘ fun p:Nat×Nat=>((p.1,(l.getD p.2 (0,0,Value.none)).2):En)):=by
    intro q
    induction q with
    | nil=>intro _;rfl
    | cons x r ih =>
     intro h
     rw [Van,VaP,←ih fun y hy=>h y (Vap _ hy)]
     simp only [Function.comp]
     rw [hes x.2 (h x Vao)]
   exact key live fun x hx=>hat x.1 x.2 hx
  ·rw [hl',List.pairwise_map]
   exact up
  ·rw [hl'] at he
   obtain ⟨⟨j,k⟩,hp,rfl⟩:=Vbs.mp he
   exact O.le j (Va6 ((mem j k).mp hp))
  ·rw [hl'] at he
   obtain ⟨⟨j,k⟩,hp,rfl⟩:=Vbs.mp he
   have hk:=hat j k hp
   refine (rc k _ j ?_ ((mem j k).mp hp)).mono oc
   rw [Array.toList_map,T.el,VbJ,Va5,VbH hk]
   simp [List.getD,hk]
 ·rw [hl',VbJ]
  have e:l.map (·.2)=(List.range l.length).map fun k=>(l.getD k (0,0,Value.none)).2:=by
   apply List.ext_getElem?
   intro i
   by_cases h:i<l.length
   ·simp [h]
   ·simp [h]
  rw [e]
  have:=hperm.map fun k=>(l.getD k (0,0,Value.none)).2
  rw [VbJ] at this
  exact this
end
section
variable{prog:Program}{w:World}{A:Around}{E:Value→Shared→Prop}{s:Shared}
theorem items_int{ks:List Int}{vs:List Value}(h:ItemsAre (intKind prog w) ks vs):∀v∈vs,∃i t,v=Value.int i t:=by
 induction h with
 | nil=>exact fun _ h=>(VbQ h).elim
 | @cons k v ks vs h1 _ ih =>
  intro u hu
  rcases Var.mp hu with rfl | hu
  ·cases u with
   | int i t=>exact ⟨i,t,rfl⟩
   | _=>exact absurd h1 (by intro z;exact Bool.noConfusion z)
  ·exact ih u hu
theorem ZhS{a:Addr}{ks:List Int}{Q:Bool→Shared→Prop}(hk:IsTupleKey (intKind prog w) s.heap ks a)(h:Q false s):wpAny (model prog w) A (ofAClassStatement 8 (.ref a)) Q E s:=by
 obtain ⟨o,items,n,ho,hc,hd,hi⟩:=hk
 have hT:s.TypeIs (.ref a) "tuple" := ⟨o,ho,hc⟩
 have hint:=items_int hi
 unfold ofAClassStatement
 refine Vaz (Vbi hT ?_)
 dsimp only
 rw [if_pos (by decide)]
 refine Vaz (VaB ?_)
 simp only [Bool.not_true,Vbu,Vba]
 refine Vaz (Vbz ho hd ?_)
 refine Vaz ?_
 rw [←VbP]
 refine wpAny_forIn_list _ (fun rest r s'=>r.1=none∧s'=s∧∀v∈rest,∃i t,v=Value.int i t) _ ?_ ?_ _ _ ⟨rfl,rfl,hint⟩
 ·rintro v rest r s' ⟨hr,rfl,hall⟩
  obtain ⟨i,t,rfl⟩:=hall v Vao
  refine Vaz (VaB ?_)
  simp only [Vbu,Vba]
  exact VaB ⟨rfl,rfl,fun u hu'=>hall u (Vap _ hu')⟩
 ·rintro ⟨r1,r2⟩ s' ⟨hr,rfl,_⟩
  simp only at hr
  subst hr
  exact VaB h
theorem Zqt{x:Addr}{ks:List Int}{stored:List Value}{Q:Bool→Shared→Prop}(hx:IsTupleKey (intKind prog w) s.heap ks x)(hs:∀y∈stored,∃b ks',y=Value.ref b∧IsTupleKey (intKind prog w) s.heap ks' b)(h:Q false s) :
  wpAny (model prog w) A (searchCouldBeSeen (.ref x) stored) Q E s:=by
 unfold searchCouldBeSeen
 refine Vaz ?_
 refine wpAny_forIn_list _ (fun rest r s'=>r.1=none∧s'=s∧∀v∈rest,∃b ks',v=Value.ref b∧IsTupleKey (intKind prog w) s.heap ks' b) _ ?_ ?_ _ _ ⟨rfl,rfl,hs⟩
 ·rintro v rest r s' ⟨hr,rfl,hall⟩
  obtain ⟨b,ks',rfl,hb⟩:=hall v Vao
  dsimp only
  split
  ·exact VaB ⟨rfl,rfl,fun u hu'=>hall u (Vap _ hu')⟩
  ·refine Vaz (wpAny_eqIsQuiet_tuple hx ?_)
   simp only [Bool.not_true,Vbu,Vba]
   refine Vaz (wpAny_eqIsQuiet_tuple hb ?_)
   simp only [Bool.not_true,Vbu,Vba]
   refine Vaz (ZhS hx ?_)
   simp only [Vbu,Vba]
   refine Vaz (ZhS hb ?_)
   simp only [Vbu,Vba]
   exact VaB ⟨rfl,rfl,fun u hu'=>hall u (Vap _ hu')⟩
 ·rintro ⟨r1,r2⟩ s' ⟨hr,rfl,_⟩
  simp only at hr
  subst hr
  exact VaB h
theorem Zkw{a:Addr}{ks:List Int}{Q:Bool→Shared→Prop}(hk:IsTupleKey (intKind prog w) s.heap ks a)(h:Q true s):wpAny (model prog w) A (hashByValue 8 (.ref a)) Q E s:=by
 have hT:=hk.typeIs
 obtain ⟨o,items,n,ho,hc,hd,hi⟩:=hk
 have hint:=items_int hi
 unfold hashByValue
 refine Vaz (wpAny_specialOf hT F.slot_tuple_hash.lookup ?_)
 dsimp only
 refine Vaz (Vbz ho hd ?_)
 refine Vaz ?_
 show wpAny _ _ (forIn items _ _) _ _ s
 rw [←VbP]
 refine wpAny_forIn_list _ (fun rest r s'=>r.1=none∧s'=s∧∀v∈rest,∃i t,v=Value.int i t) _ ?_ ?_ _ _ ⟨rfl,rfl,hint⟩
 ·rintro v rest r s' ⟨hr,rfl,hall⟩
  obtain ⟨i,t,rfl⟩:=hall v Vao
  refine Vaz (VaB ?_)
  simp only [Bool.not_true,Vbu,Vba]
  exact VaB ⟨rfl,rfl,fun u hu'=>hall u (Vap _ hu')⟩
 ·rintro ⟨r1,r2⟩ s' ⟨hr,rfl,_⟩
  simp only at hr
  subst hr
  exact VaB h
end
section
variable{prog:Program}{w:World}{A:Around}{E:Value→Shared→Prop}{s:Shared}
def El(prog:Program)(w:World)(h:Heap)(p:Int×Value)(ks:List Int):Prop:=∃x:Addr,p.2=.ref x∧IsTupleKey (intKind prog w) h ks x∧p.1=tupleKeyHash (intKind prog w) ks
theorem El.inj{h:Heap}{p:Int×Value}{a b:List Int}(ha:El prog w h p a)(hb:El prog w h p b):a=b:=by
 obtain ⟨x,e,hx,_⟩:=ha
 obtain ⟨y,e',hy,_⟩:=hb
 rw [e] at e'
 cases e'
 exact hx.inj hy
theorem Tb.fits{t:SetTable}{es:Array (Int×Value)}{l:List En}(T:Tb t es l)(hl:l.length≤t.mask):t.fits es.size=true:=by
 unfold SetTable.fits SetTable.fill
 rw [T.du,T.size,T.esize]
 simp
 exact hl
theorem Tb.odd{t:SetTable}{es:Array (Int×Value)}{l:List En}(T:Tb t es l):t.gaveWay=false:=by
 unfold SetTable.gaveWay
 rcases T.ms with e | e<;>rw [e]<;>rfl
theorem ZsR{t:SetTable}{es:Array (Int×Value)}{l:List En}(T:Tb t es l):HAt l (fun i=>(es[i]?.map (·.1)).getD 0):=fun i e h=>by
 show ((es[i]?.map (·.1)).getD 0)=_
 rw [←Array.getElem?_toList,T.el,Va5,h]
 rfl
theorem ZlV{a x:Addr}{es:Array (Int×Value)}{ep:Nat}{t:SetTable}{o:Obj}{l:List En}{ks:List Int}(hu:A.units<cLine)(ho:s.heap.get? a=some o)(hd:o.data=.set es ep t)(T:Tb t es l)(hl:l.length≤t.mask)
  (hel:∀e∈l,∃ks',El prog w s.heap e.2 ks') (hx:IsTupleKey (intKind prog w) s.heap ks x) {R:SetFound→Shared→Prop} :
  ∀(n fuel:Nat) (stand:Option Probe),n<fuel→n≤10*(13+t.mask)→(stand.getD (t.probeStart (tupleKeyHash (intKind prog w) ks))).dummy=none→Zdy t.mask (Occ l) n (stand.getD (t.probeStart (tupleKeyHash (intKind prog w) ks))) →
   ((∃e∈l,El prog w s.heap e.2 ks∧Rch t.mask (Occ l) (stand.getD (t.probeStart (tupleKeyHash (intKind prog w) ks))) e.1)∧R (.there none) s)∨((∀e∈l,¬El prog w s.heap e.2 ks)∧∀j,¬Occ l j→Rch t.mask (Occ l) (stand.getD (t.probeStart (tupleKeyHash (intKind prog w) ks))) j→R (.free j false) s) →
   wpAny (model prog w) A (setSearchFrom a (.ref x) (tupleKeyHash (intKind prog w) ks) true fuel stand) R E s:=by
 intro n
 induction n using Nat.strongRecOn with
 | ind n ih =>
  intro fuel stand hf hn hdm hE hR
  obtain ⟨fuel,rfl⟩ : ∃k,fuel=k+1:=⟨fuel - 1,by omega⟩
  unfold setSearchFrom
  refine Vaz (Vb8 ho hd (T.fits hl) ?_)
  dsimp only
  rw [T.odd]
  simp only [Vbu,Vba]
  generalize hp:stand.getD (t.probeStart (tupleKeyHash (intKind prog w) ks))=p at *
  rcases ZfT (h:=tupleKeyHash (intKind prog w) ks) T (ZsR T) n (10*turns t.mask) p hdm hE (by unfold turns;omega) with ⟨j,e1,e2,e3,e4⟩ | ⟨i,e,p',n',e1,e2,e3,e4,e5,e6,e7,e8,e9⟩
  ·generalize hm:t.probe _ (tupleKeyHash (intKind prog w) ks) p=met
   have hm':met=some (.empty j none):=hm.symm.trans e1
   subst hm'
   dsimp only
   refine VaB ?_
   rcases hR with ⟨⟨e,he,hel',hr⟩,_⟩ | ⟨_,hR⟩
   ·obtain ⟨_,_,_,hh⟩:=hel'
    exact absurd hr (e4 e he hh)
   ·exact hR j e2 e3
  ·generalize hm:t.probe _ (tupleKeyHash (intKind prog w) ks) p=met
   have hm':met=some (.candidate e.1 i (adv t.mask p')):=hm.symm.trans e1
   subst hm'
   dsimp only
   have hmem:e∈l:=Va6 e2
   obtain ⟨ks',y,ey,hy,hyh⟩:=hel e hmem
   have hes:es[i]?=some e.2:=by rw [←Array.getElem?_toList,T.el,Va5,e2];rfl
   have hes':es[i]?=some (e.2.1,Value.ref y):=by rw [hes,←ey]
   have hnext:∀stand':Option Probe,stand'.getD (t.probeStart (tupleKeyHash (intKind prog w) ks))=adv t.mask p'→¬ks'=ks→wpAny (model prog w) A (setSearchFrom a (.ref x) (tupleKeyHash (intKind prog w) ks) true fuel stand') R E s:=fun stand' hst hne=>by
    refine ih n' e6 fuel stand' (by omega) (by omega) ?_ ?_ ?_
    ·rw [hst];unfold adv;split<;>exact e5
    ·rw [hst];exact e7
    ·rw [hst]
     rcases hR with ⟨⟨e',he',hel',hr⟩,hq⟩ | ⟨hno,hR⟩
     ·left
      refine ⟨⟨e',he',hel',e9 e' he' hel'.choose_spec.2.2 (fun z=>?_) hr⟩,hq⟩
      subst z
      exact hne (El.inj ⟨y,ey,hy,hyh⟩ hel')
     ·exact .inr ⟨hno,fun j hj hr=>hR j hj (e8 j hr)⟩
   have hthere:ks'=ks→R (.there none) s:=fun hk=>by
    subst hk
    rcases hR with ⟨_,hq⟩ | ⟨hno,_⟩
    ·exact hq
    ·exact absurd ⟨y,ey,hy,hyh⟩ (hno e hmem)
   rw [hes']
   dsimp only
   have hst:∀y∈List.map (fun x=>x.2) (Array.filter (fun x=>x.1==tupleKeyHash (intKind prog w) ks) es).toList,∃b ks',y=Value.ref b∧IsTupleKey (intKind prog w) s.heap ks' b:=fun y hy=>by
    obtain ⟨q,hq,rfl⟩:=Vbs.mp hy
    rw [Array.toList_filter] at hq
    have hq:=(Vai.mp hq).1
    rw [T.el] at hq
    obtain ⟨e',he',rfl⟩:=Vbs.mp hq
    obtain ⟨k2,y2,h1,h2,_⟩:=hel e' he'
    exact ⟨y2,k2,h1,h2⟩
   have hsm:t.sameMemory t.moves t.mask=some true:=by unfold SetTable.sameMemory;simp
   cases hled:t.led
   all_goals simp only [Bool.not_false,Bool.not_true,Vbu,Vba,Vbb]
   ·refine Vaz (Zqt hx hst ?_)
    simp only [Vbu,Vba]
    refine Vaz (Vbe (wpAny_eqBool_tuple hu hy hx ?_))
    refine Vaz (Vb8 ho hd (T.fits hl) ?_)
    dsimp only
    by_cases hk:ks'=ks
    ·rw [Vbm hk]
     simp only [Bool.and_true,Vbb]
     exact VaB (hthere hk)
    ·rw [Vac hk]
     simp only [Bool.and_false,Vbu,Vba]
     rw [hsm]
     dsimp only
     simp only [Vbb]
     rw [T.live e2]
     dsimp only
     rw [hes']
     dsimp only
     refine wpAny_bind (wpAny_of_eq (show isSame (.ref y) (.ref y)=pure true by unfold isSame;simp) ?_)
     refine Vaz (VaB ?_)
     exact hnext (some _) rfl hk
   ·refine Vaz (Vbe (wpAny_eqBool_tuple hu hy hx ?_))
    refine Vaz (Vb8 ho hd (T.fits hl) ?_)
    dsimp only
    by_cases hk:ks'=ks
    ·rw [Vbm hk]
     simp only [Bool.and_true,Vbb]
     exact VaB (hthere hk)
    ·rw [Vac hk]
     simp only [Bool.and_false,Vbu,Vba]
     rw [hsm]
     dsimp only
     simp only [Vbb]
     rw [T.live e2]
     dsimp only
     rw [hes']
     dsimp only
     refine wpAny_bind (wpAny_of_eq (show isSame (.ref y) (.ref y)=pure true by unfold isSame;simp) ?_)
     refine Vaz (VaB ?_)
     exact hnext (some _) rfl hk
end
section
variable{prog:Program}{w:World}{A:Around}{E:Value→Shared→Prop}{s:Shared}
def SetT(prog:Program)(w:World)(h:Heap)(a:Addr)(kss:List (List Int)):Prop:=∃o es ep t l,h.get? a=some o∧o.ExactSet∧o.data=.set es ep t∧Tb t es l∧(t.mask=7→l.length≤4)∧l.length≤16 ∧
 (∀e∈l,∃ks∈kss,El prog w h e.2 ks)∧(∀ks∈kss,∃e∈l,El prog w h e.2 ks)∧l.length=kss.length
theorem El.keeps{h h':Heap}{a:Addr}{p:Int×Value}{ks:List Int}{o:Obj}{es:Array (Int×Value)}{ep:Nat}{t:SetTable}(x:El prog w h p ks)(ho:h.get? a=some o)(hd:o.data=.set es ep t)(hs:Heap.SameBut a h h'):El prog w h' p ks:=by
 obtain ⟨x,e,⟨o',items,n,ho',hc,hd',hi⟩,hh⟩:=x
 have hne:x≠a:=by
  rintro rfl
  obtain rfl:o'=o:=Vav (ho'.symm.trans ho)
  rw [hd] at hd';exact nomatch hd'
 exact ⟨x,e,⟨o',items,n,(hs.2 x hne).trans ho',hc,hd',hi⟩,hh⟩
theorem Zsv{m:Nat}{occ:Nat→Prop}{p:Probe}{j:Nat}(r:Rch m occ p j):p.j+p.more≤m→j≤m:=by
 induction r with
 | here p=>exact fun h=>by omega
 | @next p j _ _ ih =>
  intro h
  refine ih ?_
  unfold adv
  split
  ·simp only []
   omega
  ·have hi:(leap m p.i p.perturb).1≤m:=by
    unfold leap
    have:=VbY (p.i*5+1+p.perturb/32) (show 0<m+1 by omega)
    simp only []
    omega
   have:=ZfY hi
   simp only []
   omega
theorem Zni(t:SetTable)(j:Nat):(t.put j).1.mask=t.mask∧(t.put j).1.plain=t.plain:=⟨rfl,rfl⟩
theorem Zs6{a x:Addr}{ks:List Int}{kss:List (List Int)}{Q:Bool→Shared→Prop}(hu:A.units<cLine)(hS:SetT prog w s.heap a kss)(hx:IsTupleKey (intKind prog w) s.heap ks x)(hn:kss.length+1≤16)
  (h:∀b h',Heap.SameBut a s.heap h'→SetT prog w h' a (if ks∈kss then kss else kss++[ks])→Q b { s with heap:=h' }) :
  wpAny (model prog w) A (setAddHashed a (.ref x) (tupleKeyHash (intKind prog w) ks)) Q E s:=by
 obtain ⟨o,es,ep,t,l,ho,hex,hd,T,h7,h16,hl1,hl2,hlen⟩:=hS
 have hmk:l.length≤t.mask:=by rcases T.ms with e | e<;>rw [e]<;>omega
 have hm0:7≤t.mask:=by rcases T.ms with e | e<;>omega
 unfold setAddHashed setAddHashedIn
 refine Vbe (Vaz (Vb8 ho hd (T.fits hmk) ?_))
 dsimp only
 rw [show byScan (.ref x) es=false from rfl]
 simp only [Vbu,Vba]
 obtain ⟨e,he,hf⟩:=Zhv (m:=t.mask) (js:=l.map (·.1)) (by rw [VaQ];exact hmk)
 have hE:Zdy t.mask (Occ l) (10*(13+t.mask)) (t.probeStart (tupleKeyHash (intKind prog w) ks)):=by
  rw [ZnA]
  exact ends T.ms (by have:=VbY (bits (tupleKeyHash (intKind prog w) ks)) (show 0<t.mask+1 by omega);omega) (ZlF _) he fun ⟨e',he',q⟩=>hf (Vbs.mpr ⟨e',he',q⟩)
 have hb:10*(13+t.mask)<100000:=by rcases T.ms with e | e<;>rw [e]<;>decide
 refine Vaz (show wpAny _ _ (setSearchFrom a (.ref x) (tupleKeyHash (intKind prog w) ks) true 100000 none) _ _ _ from ZlV hu ho hd T hmk (fun e he=>let ⟨k,_,q⟩:=hl1 e he;⟨k,q⟩) hx (10*(13+t.mask)) 100000 none hb (VaI _) rfl hE ?_)
 by_cases hk:ks∈kss
 ·left
  obtain ⟨e,he,hel⟩:=hl2 ks hk
  refine ⟨⟨e,he,hel,?_⟩,?_⟩
  ·have:=T.rc e he
   rw [hel.choose_spec.2.2] at this
   exact this
  ·refine VaB ?_
   have:=h false s.heap (Heap.SameBut.refl a s.heap) (by rw [if_pos hk];exact ⟨o,es,ep,t,l,ho,hex,hd,T,h7,h16,hl1,hl2,hlen⟩)
   exact this
 ·right
  refine ⟨fun e he hel=>?_,fun j hj hr=>?_⟩
  ·obtain ⟨ks',hk',q⟩:=hl1 e he
   have:=El.inj hel q
   subst this
   exact hk hk'
  ·dsimp only
   refine Vaz (Vb8 ho hd (T.fits hmk) ?_)
   dsimp only
   have hjm:j≤t.mask:=by
    have hi:bits (tupleKeyHash (intKind prog w) ks)%(t.mask+1)≤t.mask:=by
     have:=VbY (bits (tupleKeyHash (intKind prog w) ks)) (show 0<t.mask+1 by omega)
     omega
    refine Zsv hr ?_
    show bits (tupleKeyHash (intKind prog w) ks)%(t.mask+1)+(runEnd t.mask (bits (tupleKeyHash (intKind prog w) ks)%(t.mask+1)) - bits (tupleKeyHash (intKind prog w) ks)%(t.mask+1))≤t.mask
    have:=ZfY hi
    omega
   obtain ⟨l',hp,T'⟩:=T.put (x:=.ref x) hjm hj hr
   obtain ⟨em,epl⟩:=Zni t j
   generalize ht':(t.put j).1=t' at T' em epl ⊢
   generalize hes':insertAt es (t.put j).2 (tupleKeyHash (intKind prog w) ks,Value.ref x)=es' at T' ⊢
   have ll':l'.length=l.length+1:=by rw [hp.length_eq];rfl
   have hmk':l'.length≤t'.mask:=by rw [em,ll'];rcases T.ms with e | e<;>rw [e]<;>omega
   have cont:wpAny (model prog w) A (do
     storeSet a es' t'
     if (!false&&t'.tooFull)=true then do
      setRelay a (grown (es.size+1))
      pure true
     else pure true) Q E s:=by
    have hg:(s.heap.update a (Obj.putSet es' t')).get? a=some { o with data:=.set es' (ep+1) t' }:=by
     have:=VbC (Obj.putSet es' t') ho (by rw [putSet_of es' t' hd];rfl)
     rw [putSet_of es' t' hd] at this;exact this
    have hsb:=VbB s.heap a (Obj.putSet es' t')
    have hx1:El prog w (s.heap.update a (Obj.putSet es' t')) (tupleKeyHash (intKind prog w) ks,Value.ref x) ks:=El.keeps ⟨x,rfl,hx,rfl⟩ ho hd hsb
    have g1:∀e∈l',∃k∈kss++[ks],El prog w (s.heap.update a (Obj.putSet es' t')) e.2 k:=fun e he=>by
     rcases Var.mp (hp.mem_iff.mp he) with rfl | he
     ·exact ⟨ks,by simp,hx1⟩
     ·obtain ⟨k,h1,h2⟩:=hl1 e he
      exact ⟨k,Vat _ h1,h2.keeps ho hd hsb⟩
    have g2:∀k∈kss++[ks],∃e∈l',El prog w (s.heap.update a (Obj.putSet es' t')) e.2 k:=fun k hk'=>by
     rcases Vas.mp hk' with hk' | hk'
     ·obtain ⟨e,h1,h2⟩:=hl2 k hk'
      exact ⟨e,hp.mem_iff.mpr (Vap _ h1),h2.keeps ho hd hsb⟩
     ·rw [Vb7] at hk'
      subst hk'
      exact ⟨_,hp.mem_iff.mpr Vao,hx1⟩
    have hz:es'.size≤sizeLine:=by rw [T'.esize,ll',sizeLine_eq];omega
    refine Vaz (wpAny_storeSet_of ho hd ?_ hz)
    have hfill:t'.fill=l'.length:=by unfold SetTable.fill;rw [T'.du,T'.size];rfl
    by_cases hfull:t'.tooFull=true
    ·rw [hfull]
     simp only [Bool.not_false,Bool.and_true,Vbb]
     unfold SetTable.tooFull at hfull
     rw [hfill,em,ll'] at hfull
     have hfull:=of_decide_eq_true hfull
     have e7:t.mask=7:=by
      rcases T.ms with e | e
      ·exact e
      ·rw [e] at hfull;omega
     have h4:=h7 e7
     rw [e7] at hfull
     have e4:l.length=4:=by omega
     have ew:es.size+1=5:=by rw [T.esize,e4]
     rw [ew]
     obtain ⟨t2,order,l2,r1,r2,r3,r4,T2,hp2⟩:=T'.relay (by omega) (wanted:=grown 5) (by decide)
     have hmap:∀e∈l2,∃e'∈l',e'.2=e.2:=fun e he=>by
      have:=hp2.mem_iff.mp (Vbs.mpr ⟨e,he,rfl⟩)
      obtain ⟨e',h1,h2⟩:=Vbs.mp this
      exact ⟨e',h1,h2⟩
     have hmap':∀e∈l',∃e'∈l2,e'.2=e.2:=fun e he=>by
      have:=hp2.mem_iff.mpr (Vbs.mpr ⟨e,he,rfl⟩)
      obtain ⟨e',h1,h2⟩:=Vbs.mp this
      exact ⟨e',h1,h2⟩
     have ll2:l2.length=l'.length:=by have:=hp2.length_eq;simpa using this
     refine Vaz ?_
     unfold setRelay
     refine Vaz (Vb8 hg rfl (T'.fits hmk') ?_)
     dsimp only
     rw [if_neg (by decide),r1]
     refine Vaz ?_
     have hsz:(order.filterMap (es'[·]?)).size=es'.size:=by rw [T2.esize,ll2,T'.esize]
     show wpAny (model prog w) A (if ((order.filterMap (es'[·]?)).size != es'.size)=true then _ else _) _ _ _
     rw [if_neg (by rw [hsz];simp)]
     refine VaB ?_
     dsimp only
     have hg2:((s.heap.update a (Obj.putSet es' t')).update a (Obj.putSet (order.filterMap (es'[·]?)) t2)).get? a=some { o with data:=.set (order.filterMap (es'[·]?)) (ep+1+1) t2 }:=by
      have:=VbC (Obj.putSet (order.filterMap (es'[·]?)) t2) hg (by rw [putSet_of _ t2 rfl];rfl)
      rw [putSet_of _ t2 rfl] at this;exact this
     have hsb2:=VbB (s.heap.update a (Obj.putSet es' t')) a (Obj.putSet (order.filterMap (es'[·]?)) t2)
     refine wpAny_storeSet_of hg rfl ?_ (by rw [hsz];exact hz)
     refine VaB (h true _ (hsb.trans hsb2) ?_)
     rw [if_neg hk]
     refine ⟨_,_,_,t2,l2,hg2,hex,rfl,T2,fun z=>by rw [r2] at z;omega,by omega,fun e he=>?_,fun k hk'=>?_,by rw [ll2,ll',hlen];simp⟩
     ·obtain ⟨e',h1,h2⟩:=hmap e he
      obtain ⟨k,h3,h4⟩:=g1 e' h1
      rw [h2] at h4
      exact ⟨k,h3,h4.keeps hg rfl hsb2⟩
     ·obtain ⟨e,h1,h2⟩:=g2 k hk'
      obtain ⟨e',h3,h4⟩:=hmap' e h1
      rw [←h4] at h2
      exact ⟨e',h3,h2.keeps hg rfl hsb2⟩
    ·rw [Vab.mpr hfull]
     simp only [Bool.not_false,Bool.and_false,Vbu,Vba]
     refine VaB (h true _ hsb ?_)
     rw [if_neg hk]
     refine ⟨_,es',ep+1,t',l',hg,hex,rfl,T',fun z=>?_,by omega,g1,g2,by rw [ll',hlen];simp⟩
     unfold SetTable.tooFull at hfull
     rw [hfill,z] at hfull
     have:=of_decide_eq_false (Vab.mpr hfull)
     omega
   split
   ·refine Vaz (Zkw hx ?_)
    simp only [Vbb]
    exact cont
   ·refine Vaz (VaB ?_)
    simp only [Vbb]
    exact cont
end
end L2.Sx
namespace L2.Sx
open PySem PySem.SetTable PyProof.Rows
open Dl (firsts)
theorem Zdf(kf:Nat→List Int):∀i,(firsts kf i).length≤i
 | 0=>VaI _
 | i+1=>by
  have:=Zdf kf i
  unfold firsts
  split
  ·omega
  ·simp;omega
section
variable{prog:Program}{w:World}{A:Around}{R:Result→Shared→Prop}{I:Addr}{fp wr:List Addr}{G:Array GenState→Array GenState→Prop}{n:Nat}{P:Nat→Value→Prop}{St:Nat→Shared→Prop}
theorem SetT.keep{h h':Heap}{a:Addr}{kss:List (List Int)}(hS:SetT prog w h a kss)(ha:∀o,h.get? a=some o→h'.get? a=some o)(hk:∀b o,h.get? b=some o→o.cls=.type "tuple"→h'.get? b=some o):SetT prog w h' a kss:=by
 obtain ⟨o,es,ep,t,l,ho,hex,hd,T,h7,h16,hl1,hl2,hlen⟩:=hS
 have up:∀{e ks},El prog w h e ks→El prog w h' e ks:=fun {e ks} hel=>by
  obtain ⟨x,e1,⟨o',items,n,ho',hc,r⟩,hh⟩:=hel
  exact ⟨x,e1,⟨o',items,n,hk x o' ho' hc,hc,r⟩,hh⟩
 exact ⟨o,es,ep,t,l,ha o ho,hex,hd,T,h7,h16,fun e he=>let ⟨k,h1,h2⟩:=hl1 e he;⟨k,h1,up h2⟩,fun k hk'=>let ⟨e,h1,h2⟩:=hl2 k hk';⟨e,h1,up h2⟩,hlen⟩
theorem SetT.cls{h:Heap}{a:Addr}{kss:List (List Int)}(hS:SetT prog w h a kss):∀o,h.get? a=some o→o.cls≠.type "tuple" := fun o' ho' hc=>by
 obtain ⟨o,es,ep,t,l,ho,hex,_⟩:=hS
 rw [ho] at ho'
 cases ho'
 rw [hex.1] at hc
 exact absurd hc (by decide)
theorem ZpP(W:WalksS prog w A.in1 I fp wr G n P St)(S:Addr)(hSf:S∉fp)(hwr:∀i s,St i s→∀b∈wr,∀o,s.heap.get? b=some o→o.cls≠.type "tuple")(kf:Nat→List Int)(hu:A.in1.units<cLine)(h0:Heap)
  (hval:∀i v,P i v→∃x,v=.ref x∧IsTupleKey (intKind prog w) h0 (kf i) x) (hb:n≤16) :
  ∀(k i:Nat) (s:Shared),n - i=k→i≤n→St i s→SetT prog w s.heap S (firsts kf i)→(∀b o,h0.get? b=some o→o.cls=.type "tuple"→s.heap.get? b=some o) →
   (∀s',Moved (S::wr) G s s'→SetT prog w s'.heap S (firsts kf n)→R (.ok (.ret .none)) s')→codeAny (model prog w) A (.builtin "set.update.loop" ⟨[.ref S,.ref I],[]⟩) R s:=by
 have hSw:S∉wr:=fun h=>hSf (W.sub _ h)
 have hsub:∀b∈wr,b∈S::wr:=fun b hb=>Vap _ hb
 have mv:∀{i s s'},St i s→Moved wr G s s'→∀b o,s.heap.get? b=some o→o.cls=.type "tuple"→s'.heap.get? b=some o:=fun {i s s'} st m b o e hc=>m.heap b o (fun z=>hwr i s st b z o e hc) e
 intro k
 induction k with
 | zero =>
  intro i s hk hi hst hS _ hR
  obtain rfl:i=n:=by omega
  refine VbS F.entry_set_update_loop ?_
  rw [VbT F.plain_set_update_loop _]
  show wpAny _ A.in1 (pyNext (.ref I) >>= _) _ _ s
  refine Vaz (W.done s _ _ hst fun s' hm=>?_)
  show wpAny _ A.in1 (ret Value.none) _ _ s'
  exact VaB (hR s' (hm.mono hsub) (hS.keep (fun o e=>hm.heap S o hSw e) (mv hst hm)))
 | succ k ih =>
  intro i s hk hi hst hS h0s hR
  have hlt:i<n:=by omega
  refine VbS F.entry_set_update_loop ?_
  rw [VbT F.plain_set_update_loop _]
  show wpAny _ A.in1 (pyNext (.ref I) >>= _) _ _ s
  refine Vaz (W.item i s _ _ hlt hst fun v s' hP hst' hm=>?_)
  obtain ⟨x,rfl,hx0⟩:=hval i v hP
  have hS':=hS.keep (fun o e=>hm.heap S o hSw e) (mv hst hm)
  have h0s':∀b o,h0.get? b=some o→o.cls=.type "tuple"→s'.heap.get? b=some o:=fun b o e hc=>mv hst hm b o (h0s b o e hc) hc
  have hx:IsTupleKey (intKind prog w) s'.heap (kf i) x:=by
   obtain ⟨o,items,m,ho,hc,r⟩:=hx0
   exact ⟨o,items,m,h0s' x o ho hc,hc,r⟩
  show wpAny _ A.in1 (holding [Value.ref x] (setAdd S (.ref x)) >>= _) _ _ s'
  refine Vaz (Vbe ?_)
  unfold setAdd
  refine Vbe ?_
  refine Vaz (wpAny_pyHash_tuple hu hx ?_)
  refine Zs6 (s:={ s' with toks:=s'.toks+((kf i).length+1) }) hu hS' hx (by have:=Zdf kf i;omega) fun b h' hsb hS2=>?_
  have tk:∀b o,s'.heap.get? b=some o→o.cls=.type "tuple"→h'.get? b=some o:=fun b o e hc=>by
   rw [hsb.2 b (fun z:b=S=>by subst z;exact hS'.cls o e hc)];exact e
  refine VaB ⟨plainId_quiet F.plain_set_update_loop _,ih (i+1) _ (by omega) hlt (W.frame _ s' _ _ hst' (Nat.le_add_right _ _) fun b hb' o e=>?_) hS2 (fun b o e hc=>tk b o (h0s' b o e hc) hc) fun s'' hm'' hS''=>?_⟩
  ·rw [hsb.2 b (fun z:b=S=>hSf (by rw [←z];exact hb'))];exact e
  ·refine hR s'' (Moved.trans W.gtrans ((hm.mono hsub).then_heap (Nat.le_add_right _ _) fun b o hb' e=>?_) hm'') hS''
   rw [hsb.2 b (fun z:b=S=>hb' (by rw [z];exact Vao))];exact e
end
open Dl (firsts)
section
variable{prog:Program}{w:World}{A:Around}{E:Value→Shared→Prop}{s:Shared}
abbrev Zgm(led:Bool):Obj:={ cls:=.type "set", dict:=none,data:=.set #[] 0 (.fresh 0 0 led) }
theorem Znn{h:Heap}{a:Addr}{led:Bool}(ho:h.get? a=some (Zgm led)):SetT prog w h a [] :=
 ⟨_,#[],0,.fresh 0 0 led,[],ho,⟨rfl,rfl,rfl⟩,rfl,⟨.inl rfl,rfl,rfl,rfl,.nil,fun _ h=>(VbQ h).elim,fun _ h=>(VbQ h).elim⟩,fun _=>by decide,by decide,fun _ h=>(VbQ h).elim,fun _ h=>(VbQ h).elim,rfl⟩
set_option maxHeartbeats 8000000 in
theorem call_set{l:Addr}{items:Array Value}{kf:Nat→List Int}{Q:Value→Shared→Prop}(hh:A.handled=none)(hu:A.units+20<cLine)(hl:s.heap.IsList l items)(hi:∀i v,items[i]?=some v→∃x,v=.ref x∧IsTupleKey (intKind prog w) s.heap (kf i) x)(hb:items.size≤16)
  (h:∀(h':Heap) (tk:Nat),SetT prog w h' s.heap.objs.size (firsts kf items.size)→(∀b o,b<s.heap.objs.size→s.heap.get? b=some o→h'.get? b=some o)→Q (.ref s.heap.objs.size) { s with heap:=h',toks:=tk }) :
  wpAny (model prog w) A (call (.type "set") [.ref l]) Q E s:=by
 obtain ⟨c,tl,hmro⟩:=F.called_set.mro
 have hmade:=F.called_set.made
 have hsub:=F.called_set.sub
 refine wpAny_call (codeAny_of_tree ?_)
 show wpAny _ _ (callAny (.type "set") _) _ _ _
 refine VaB ⟨Code.quiet_builtin _ (by decide +kernel),VbS F.entry_type_call ?_⟩
 rw [Around.under_plain (weight_type_call_type "set" [.ref l] []) rfl]
 have h1:=F.called_set.notType
 have h2:=F.called_set.canCreate
 have hct:=F.typeCall_set_1 (.ref l)
 repeat (any_goals (first | assumption | wp_step))
 refine VaW (code_set_new_1 (.ref l) (E:=E) (Q₁:=fun obj s₁=>∃led:Bool,obj=.ref s.heap.objs.size∧s₁={ s with heap:=s.heap.push (Zgm led) }) fun led=>⟨led,rfl,rfl⟩) fun r s₁ hr=>?_
 cases r with
 | error e=>exact hr
 | ok fl =>
  cases fl with
  | next=>exact hr.elim
  | brk=>exact hr.elim
  | cont=>exact hr.elim
  | ret obj =>
   obtain ⟨led,rfl,rfl⟩:=hr
   have hS:(s.heap.push (Zgm led)).get? s.heap.objs.size=some (Zgm led):=VaH _ rfl
   have hT:Shared.TypeIs { s with heap:=s.heap.push (Zgm led) } (.ref s.heap.objs.size) "set" := ⟨_,hS,rfl⟩
   have hli:=F.called_set.init.lookup
   have hbi:=F.called_set.init.bind (.ref s.heap.objs.size)
   repeat (any_goals (first | assumption | wp_step))
   refine VaW (codeAny_call_builtin (R:=wants (fun r s₂=>r=.none∧∃h' tk,s₂={ s with heap:=h',toks:=tk }∧SetT prog w h' s.heap.objs.size (firsts kf items.size) ∧
     (∀b o,b<s.heap.objs.size→s.heap.get? b=some o→h'.get? b=some o)) E) F.called_set.init.plain F.entry_set_init (check_set_init_1 hT ?_)) fun r₂ s₂ hr₂=>?_
   ·obtain ⟨ol,hol,hcl,nl,hdl⟩:=hl
    obtain ⟨ocls,odict,odata,oslots⟩:=ol
    simp only at hcl hdl
    subst hcl;subst hdl
    have hol':(s.heap.push (Zgm led)).get? l=some { cls:=.type "list", dict:=odict,data:=.seq items nl,slots:=oslots }:=VaD _ hol
    have hsls:=F.sub_list_set
    have hslf:=F.sub_list_frozenset
    have hne:(Value.type "list"==Value.type "dict")=false:=by decide
    have hl1:(s.heap.push (Zgm led)).IsList l items:=⟨_,hol',rfl,nl,rfl⟩
    unfold Builtin.«set.__init__» noKeywords Builtin.Frozenset.updateFrom
    generalize hPI:pyIter=PI
    wp_walk
    subst hPI
    refine Vbv hl1 ?_
    refine Vaz (wpAny_runValue ?_)
    have hlS:l<s.heap.objs.size:=Vae hol
    have hh3:A.in1.in1.in1.handled=none:=by simp [hh]
    have hneI:l≠(s.heap.push (Zgm led)).objs.size:=by
     rw [VaR];exact Vah (Nat.lt_succ_of_lt hlS)
    have hSf:s.heap.objs.size∉[(s.heap.push (Zgm led)).objs.size,l]:=by
     rw [VaR];simp only [Var,Vb7,VbQ,VbR,not_or]
     exact ⟨Vah (VaS _),VaG hlS⟩
    refine ZpP ((Walks.list hh3 _ l hneI items).toS) s.heap.objs.size hSf ?hw kf (by show A.units+1+1+1<cLine;omega) s.heap hi hb (items.size - 0) 0 _ (by omega) (VaT _)
     ⟨⟨_,VaH _ rfl,rfl,rfl⟩,(hl1.push _)⟩ ?hS0 ?hT0 ?hR
    case hw =>
     rintro i s' ⟨⟨o',ho',hc',_⟩,_⟩ b hb' o'' e' hc
     rw [Vb7] at hb'
     subst hb'
     rw [ho'] at e'
     cases e'
     rw [hc'] at hc
     exact absurd hc (by decide)
    case hS0=>exact Znn (VaD _ hS)
    case hT0=>exact fun b o e _=>VaD _ (VaD _ e)
    case hR =>
     intro s' hm hS'
     obtain ⟨h',g',d',tk',os'⟩:=s'
     have eg:g'=s.gens:=hm.gens
     have ed:d'=s.drawn:=hm.drawn
     have eo:os'=s.os:=hm.os
     subst eg;subst ed;subst eo
     show wpAny _ _ _ _ _ _
     refine VaB ?_
     show wpAny _ _ (ret Value.none) _ _ _
     refine VaB ⟨rfl,h',tk',rfl,hS',fun b o hb' e=>?_⟩
     have hb1:b≠s.heap.objs.size:=Vah hb'
     have hb2:b≠(s.heap.push (Zgm led)).objs.size:=by
      rw [VaR];exact Vah (Nat.lt_succ_of_lt hb')
     exact hm.heap b o (by simp only [Var,Vb7,VbQ,VbR,not_or];exact ⟨hb1,hb2⟩) (VaD _ (VaD _ e))
   ·cases r₂ with
    | error e=>exact hr₂
    | ok fl₂ =>
     cases fl₂ with
     | next=>exact hr₂.elim
     | brk=>exact hr₂.elim
     | cont=>exact hr₂.elim
     | ret r =>
      obtain ⟨rfl,h',tk,rfl,hS',hk'⟩:=hr₂
      repeat (any_goals (first | assumption | wp_step))
      exact h _ _ hS' hk'
end
end L2.Sx
namespace L2
open PySem PySem.Spec PyProof.Rows
theorem Zrj:bootBuiltins "set"=some (.type "set"):=by decide +kernel
def SetN(o:Obj)(n:Nat):Prop:=o.ExactSet∧n≤16∧∃es ep t,o.data=.set es ep t∧t.fits es.size=true∧es.size=n
def Zsz(K:W.Frag)(H:Hp)(xs:List V)(kss:List (List Int)):Prop:=∀i x,xs[i]?=some x→∃a,x=.ref a∧SqT K H a ((kss.getD i []).map V.int)
def rSet(K:W.Frag):List V→Hp→VK→Prop:=fun vs H Q=>∃l xs kss,vs=[.ref l]∧SqL K H l xs∧Zsz K H xs kss∧xs.length≤16∧∀a o,H a=none→SetN o (Dl.firsts (fun i=>kss.getD i []) xs.length).length→Q (.ref a) (upd H a (objX a o))
def ZpD:List V→Hp→VK→Prop:=fun vs H Q=>∃a o n,vs=[.ref a]∧H a=some (objX a o)∧SetN o n∧Q (.int (n:Nat)) H
section
variable{X:Cx}{k:Nat}
theorem Zi3{prog:Program}{w:World}:∀{ns:List Int} {its:List Value},Vals (ns.map V.int) its→ItemsAre (intKind prog w) ns its
 | [],_,.nil=>.nil
 | n::r,_,.cons h t=>by
  obtain ⟨tk,rfl⟩:=h
  exact .cons (intKind_is _ _ _ _) (Zi3 t)
theorem Zlo:∀{xs:List V} {us:List Value},Vals xs us→∀{i:Nat} {u:Value},us[i]?=some u→∃x,xs[i]?=some x∧RelV x u
 | _,_,.cons h _,0,_,e=>⟨_,rfl,by cases e;exact h⟩
 | _,_,.cons _ t,i+1,_,e=>Zlo t (by simpa using e)
 | _,_,.nil,i,_,e=>by simp at e
theorem Zi7:∀{xs:List V} {us:List Value},Vals xs us→us.length=xs.length
 | _,_,.nil=>rfl
 | _,_,.cons _ t=>by simp [Zi7 t]
theorem Zmw(hr:Room k X.A):Zet X (.type "set") (rSet X.K):=by
 intro pins s σ H vs us Q I rv ⟨l,xs,kss,e,hl,hk,h16,hq⟩
 subst e
 cases rv with
 | cons r1 rr =>
  cases rr
  cases r1
  obtain ⟨its,r,⟨o,n,e1,e2,_,e3⟩,_⟩:=I.list hl
  have hlen:=Zi7 r
  refine L2.Sx.call_set (items:=its.toArray) (kf:=fun i=>kss.getD i []) hr.hd (by have:=hr.un;omega) ⟨o,e1,e2,n,e3⟩ (fun i v hv=>?_) (by simpa [hlen] using h16) fun h' tk hS hkeep=>?_
  ·obtain ⟨x,hx,rx⟩:=Zlo r (i:=i) (by simpa using hv)
   obtain ⟨a,rfl,hT⟩:=hk i x hx
   cases rx
   obtain ⟨is,ri,⟨o',p1,p2,m,p3⟩,_⟩:=I.tuple hT
   exact ⟨a,rfl,o',is.toArray,m,p1,p2,p3,by simpa using Zi3 ri⟩
  ·have kk:∀b u,s.heap.get? b=some u→h'.get? b=some u:=fun b u e=>hkeep b u (Vae e) e
   obtain ⟨o',es,ep,t,l',ho,hex,hd,T,h7,hl16,_,_,hln⟩:=hS
   have hmk:l'.length≤t.mask:=by rcases T.ms with e | e<;>rw [e]<;>omega
   have I':=I.laid (t':=tk) (o:=objX s.heap.objs.size o') kk (VaI _) (Zqv ho)
   refine ⟨.ref s.heap.objs.size,_,I',rfl,hq _ o' (I.hok.fresh (VaI _)) ⟨hex,?_,es,ep,t,hd,T.fits hmk,?_⟩⟩
   ·rw [←hlen];have e:=hln;rw [Va9] at e;omega
   ·rw [T.esize,hln,←hlen];simp
theorem ZlS:Zet X (.builtin "len") ZpD:=by
 intro pins s σ H vs us Q I rv ⟨a,o,n,e,hH,⟨hex,h16,es,ep,t,hd,hf,hn⟩,q⟩
 subst e
 cases rv with
 | cons r1 rr =>
  cases rr
  cases r1
  have ho:=Znc I.hok hH
  refine call_len_set ho hex hd hf (by omega) ?_
  rw [hn]
  exact ⟨.int (n:Nat),H,I.tok _,⟨_,rfl⟩,q⟩
end
end L2
namespace L2.Ds
open PySem PySem.Spec PyProof.Rows Dl
section
variable{K:W.Frag}{mg:Str→Option Value}
theorem ZfH{F:Hp}:∀{xs:List V} {ds:List D} {ns:List Int},Rps K mg F xs ds→intsOf ds=some ns→xs=ns.map V.int
 | _,[],_,.nil,e=>by cases e;rfl
 | _,d::ds,ns,.cons h r,e=>by
  cases d with
  | int n =>
   cases q:intsOf ds with
   | none=>unfold intsOf at e;rw [q] at e;cases e
   | some ms =>
    unfold intsOf at e
    rw [q] at e
    cases e
    cases h
    rw [ZfH r q]
    rfl
  | _=>cases e
theorem ZjT{F H:Hp}(s:Same F H):∀{xs:List V} {ds:List D} {ks:List (List Int)},Rps K mg F xs ds→keysOf ds=some ks→Zsz K H xs ks
 | _,[],_,.nil,_=>fun i x h=>by simp at h
 | _,d::ds,ks,.cons h r,e=>by
  cases d with
  | tup es =>
   cases q:intsOf es with
   | none=>unfold keysOf at e;rw [q] at e;cases e
   | some k =>
    cases q2:keysOf ds with
    | none=>unfold keysOf at e;rw [q,q2] at e;cases e
    | some kr =>
     unfold keysOf at e
     rw [q,q2] at e
     cases e
     intro i x hx
     cases i with
     | zero =>
      cases hx
      cases h with
      | tup ht rt =>
       rw [ZfH rt q] at ht
       exact ⟨_,rfl,ZaD s ht⟩
     | succ i=>exact ZjT s r q2 i x (by simpa using hx)
  | _=>cases e
end
section
variable{X:Cx}{E:XK}{e:Expr}{te:TE}{me:ME}{k:Nat}{p p1 q p2:Pos}
theorem ZnK(hr:Room k X.A)(hgl:Gl X "len")(hml:X.mg "len"=none)(hgs:Gl X "set")(hms:X.mg "set"=none)(he:DE X E e te me)(h1:starEach [e] X.env=[(false,eval e X.env)]:=by rfl)
  (h2:starEach [Expr.Call (.Name "set" q) [e] [] p2] X.env=[(false,eval (.Call (.Name "set" q) [e] [] p2) X.env)]:=by rfl) :
  DE X E (.Call (.Name "len" p) [.Call (.Name "set" q) [e] [] p2] [] p1) (tCB ZpD (Zbv (tCB (rSet X.K) (Zbv te tNil)) tNil)) (o1 ZgQ me):=by
 refine ⟨Zi8 ZlS hgl hml ZmB (Zb2 (Zh4 (Zmw hr) hgs hms Zrj (Zb2 he.p Zel h1) (by decide) (by decide) h1 rfl) Zel h2) (by decide) (by decide) h2 rfl,?_⟩
 intro F0 H0 F H σ ρ rr
 refine (he.s F0 H0 F H σ ρ rr).bind fun F1 H1 x dx g1 rx=>?_
 show Ans X.mg E (Rp X.K X.mg) F1 H1 (ZgQ dx) fun Q=>rSet X.K [x] H1 fun v H2=>ZpD [v] H2 Q
 cases dx with
 | lst ds =>
  cases rx with
  | lst hl rl =>
   rename_i l xs
   show Ans X.mg E (Rp X.K X.mg) F1 H1 (match keysOf ds with | some ks=>if ds.length≤16 then .ok (.int ((firsts (fun i=>ks.getD i []) ds.length).length:Nat)) else .bad | none=>.bad) _
   cases hk:keysOf ds with
   | none=>trivial
   | some ks =>
    by_cases h16:ds.length≤16
    ·show Ans X.mg E (Rp X.K X.mg) F1 H1 (if ds.length≤16 then .ok (.int ((firsts (fun i=>ks.getD i []) ds.length).length:Nat)) else .bad) _
     rw [if_pos h16]
     intro Q q
     refine ⟨_,_,ks,rfl,g1.s.seq hl,ZjT g1.s rl hk,by rw [rl.length];exact h16,fun a o hn hS=>⟨a,o,_,rfl,Zag,hS,?_⟩⟩
     rw [rl.length]
     exact q _ _ _ (.new g1.s hn _) (.int _)
    ·show Ans X.mg E (Rp X.K X.mg) F1 H1 (if ds.length≤16 then .ok (.int ((firsts (fun i=>ks.getD i []) ds.length).length:Nat)) else .bad) _
     rw [if_neg h16]
     trivial
 | _=>trivial
end
end L2.Ds
namespace Dl
open PySem
def Znx(ix:List (Option Nat))(zs:List D):List D:=ix.map fun o=>match o with
 | some i=>zs.getD i .non
 | none=>.non
def onK(f:List D→Res D)(ix:List (Option Nat))(a k:MA):ME:=fun ρ=>(a ρ).bind fun xs=>(k ρ).bind fun zs=>f (xs++Znx ix zs)
end Dl
namespace L2
open PySem PySem.Spec PyProof.Rows
structure FunD(K:W.Frag)(x qual:Str)(st:Stmt)(dV:Value)(f:Addr)(fd:FuncData):Prop where
 ex:∃(oc:Value) (od:Option Addr) (kV doc pm:Value) (an:Option Addr) (cdv ct:Value) (osl:Array (Option Value)),
  fd=W.fnOf x qual (Zcu st) (ZaY st) (Zab st) dV kV doc pm an cdv ct∧K.lookup f=some ⟨oc,od,.func fd,osl⟩∧W.codeIn K cdv qual=true
def ZiD(ix:List (Option Nat))(ws:List Value):List Value:=ix.map fun o=>match o with
 | some i=>ws.getD i .none
 | none=>.none
def Zht(ix:List (Option Nat))(zs:List V):List V:=ix.map fun o=>match o with
 | some i=>zs.getD i .non
 | none=>.non
theorem Zic:∀{zs:List V} {ws:List Value},Vals zs ws→∀i,RelV (zs.getD i .non) (ws.getD i .none)
 | _,_,.nil,i=>by simp;rfl
 | _,_,.cons h _,0=>h
 | _,_,.cons _ t,i+1=>by simpa using Zic t i
theorem Zeg{zs:List V}{ws:List Value}(r:Vals zs ws):∀ix,Vals (Zht ix zs) (ZiD ix ws)
 | []=>.nil
 | some i::rest=>.cons (Zic r i) (Zeg r rest)
 | none::rest=>.cons rfl (Zeg r rest)
def DfB(K:W.Frag)(fd:FuncData)(ps ks:List Str)(ix:List (Option Nat)):Prop:=∀(s:Shared) (us ws:List Value),K.In s.heap→(us++ZiD ix ws).length=ps.length→BindsTo s fd ⟨us,ks.zip ws⟩ (ps.zip (us++ZiD ix ws))
theorem DfB.kb{K:W.Frag}{fd:FuncData}{ps ks:List Str}{ix:List (Option Nat)}(h:DfB K fd ps ks ix):Zlb K fd ps ks (fun us ws=>us++ZiD ix ws) (fun vs zs=>vs++Zht ix zs):=⟨h,fun r rz=>r.append (Zeg rz ix)⟩
end L2
namespace L2.Ds
open PySem PySem.Spec PyProof.Rows Dl
section
variable{P:Program}{w:World}{K:W.Frag}{mg:Str→Option Value}{base:Heap}{N ps:List Str}{x:Str}{f:Addr}{dV:Value}
theorem Zjo{F:Hp}:∀{zs:List V} {ds:List D},Rps K mg F zs ds→∀i,Rp K mg F (zs.getD i .non) (ds.getD i .non)
 | _,_,.nil,i=>by simp;exact .non
 | _,_,.cons h _,0=>h
 | _,_,.cons _ t,i+1=>by simpa using Zjo t i
theorem Zg0{F:Hp}{zs:List V}{ds:List D}(r:Rps K mg F zs ds):∀ix,Rps K mg F (Zht ix zs) (Znx ix ds)
 | []=>.nil
 | some i::rest=>.cons (Zjo r i) (Zg0 r rest)
 | none::rest=>.cons .non (Zg0 r rest)
theorem ZmX(ix:List (Option Nat))(zs:List D):(Znx ix zs).length=ix.length:=VaQ _
end
section
variable{X:Cx}{E:XK}{k l n n':Nat}{x:Str}{ps ks:List Str}{ix:List (Option Nat)}{f:List D→Res D}{t tk:TA}{m mk:MA}{e:Expr}{es:List Expr}{kws:List Keyword}{p pos:Pos}
structure DK(X:Cx)(E:XK)(n:Nat)(kws:List Keyword)(t:TA)(m:MA):Prop where
 p:PK X kws t
 s:SA X.K X.mg E t m
theorem ZsV:DK X E 0 [] tNil yaa:=⟨Zsa,Zjv⟩
theorem Zml{nm:Option Str}{kpos:Pos}{te:TE}{me:ME}(ha:DE X E e te me)(hr:DK X E n kws t m):DK X E (n+1) (⟨nm,e,kpos⟩::kws) (Zbv te t) (Zaa me m):=⟨Zpd ha.p hr.p,Zlt ha.s hr.s⟩
end
end L2.Ds
namespace Dl
open PySem
def ZeI:D→Bool
 | .lst (.lst cs::ds)=>decide (cs.length<1000)&&decide (ds.length<1000)
 | _=>false
def ZgB(i:Nat)(e:ME)(t:MB)(k:MS)(mv:ME)(l:MS):MS:=fun ρ=>(e ρ).bind fun d=>if (ZeI d&&decide (i<ρ.length))=true then (t (ρ.set i (.im d))).bind fun b=>if b=true then Zju (k (ρ.set i (.im d))) else (noEx (mv (ρ.set i (.im d)))).bind fun _=>l (ρ.set i .no) else .bad
end Dl
namespace L2.Ds
open PySem PySem.Spec PyProof.Rows Dl
section
variable{X:Cx}{E:XK}{e c':Expr}{te:TE}{me:ME}{sa:TT}{na:MB}{pos spos:Pos}
theorem ZiT(h:DEr X E e te me):DSr X E [.Return (some e) spos] (tRet te) me:=by
 refine ⟨Zhh (Zi6 h.p),fun F0 H0 F H σ ρ rr=>?_⟩
 have z:=h.s F0 F0 H0 F H σ ρ rr rr.g.f
 generalize me ρ=r at z
 cases r with
 | ok d=>exact fun D q=>z _ fun F' H' x g rx=>q F' H' x (rr.g.trans g) rx
 | ex c=>exact fun D q=>z _ fun F' H' C g hC=>q F' H' C (rr.g.trans g) hC
 | bad=>trivial
theorem Zn6{as rest:List Stmt}{u u':TS}{k k':ME}(hc:DT X E c' sa na)(ha:DSr X E as u k)(hr:DSr X E rest u' k'):DSr X E (.If c' as [] spos::rest) (tSeq (tIfS sa u Zim) u') (ifR na k k'):=by
 refine ⟨ZbL (Zpu hc.p ha.p Zhr) hr.p,fun F0 H0 F H σ ρ rr=>?_⟩
 have z:=hc.s F0 H0 F H σ ρ rr
 unfold ifR
 cases e:na ρ with
 | ok b =>
  rw [e] at z
  cases b with
  | true =>
   show AnsR X.K X.mg E F0 H0 (k ρ) _
   have z':=fun F1 H1 r1=>ha.s F0 H0 F1 H1 σ ρ r1
   generalize k ρ=r2 at z'
   cases r2 with
   | ok ds=>exact fun D q=>z _ fun F1 H1 b g1 rb=>by cases (show b=true from rb);exact z' F1 H1 (rr.gr g1) _ q
   | ex c=>exact fun D q=>z _ fun F1 H1 b g1 rb=>by cases (show b=true from rb);exact z' F1 H1 (rr.gr g1) _ q
   | bad=>trivial
  | false =>
   show AnsR X.K X.mg E F0 H0 (k' ρ) _
   have z':=fun F1 H1 r1=>hr.s F0 H0 F1 H1 σ ρ r1
   generalize k' ρ=r2 at z'
   cases r2 with
   | ok ds=>exact fun D q=>z _ fun F1 H1 b g1 rb=>by cases (show b=false from rb);exact z' F1 H1 (rr.gr g1) D q
   | ex c=>exact fun D q=>z _ fun F1 H1 b g1 rb=>by cases (show b=false from rb);exact z' F1 H1 (rr.gr g1) D q
   | bad=>trivial
 | ex c=>rw [e] at z;exact fun D q=>z _ fun F' H' C g hC=>q F' H' C (rr.g.trans g) hC
 | bad=>trivial
end
section
variable{P:Program}{w:World}{K:W.Frag}{mg:Str→Option Value}{base:Heap}{N ps:List Str}{x:Str}{f:Addr}{dV:Value}
theorem okRF{st:Stmt}{fd:FuncData}{k:Nat}{m:ME}(F:FunD K x x st dV f fd)(S:Zad N ps (Zab st))
  (h:∀(cdv:Value) (A:Around) (outer:List Env) (s:Shared) (H:Hp) (E:XK),Room k (A.deeper (envOfC x (Zab st) s.heap.objs.size f cdv))→∃t,DSr (cxOf (CXR P w) P w K mg base N x (Zab st) f cdv A outer s H E) E (ZaY st) t m) :
  FnOk P w K mg base (CXR P w) (k+1) f fd ps (spR K mg ps.length (fnR N.length m)):=by
 obtain ⟨oc,od,kV,doc,pm,an,cdv,ct,osl,rfl,lk,hcd⟩:=F.ex
 refine Zka lk hcd S (fun vs H Q E q=>q.1) fun A outer s H vs Q E hr hsp=>?_
 obtain ⟨t,hd⟩:=h cdv A outer s H E hr
 refine ⟨t,hd.p,?_⟩
 obtain ⟨_,F0,ds,s0,rs,hb,hok,hex⟩:=hsp
 have z:=hd.s F0 H F0 H (start N vs) (ev0 N.length ds) (Zc6 s0 rs)
 unfold fnR at hb hok hex
 cases e:m (ev0 N.length ds) with
 | ok d =>
  rw [e] at z
  exact z _ fun F' H' x g rx=>hok d e F' H' x g rx
 | ex c =>
  rw [e] at z
  exact z _ fun F' H' C g hc=>hex c e F' H' C g hc
 | bad=>exact absurd e hb
structure Zj2(P:Program)(w:World)(K:W.Frag)(mg:Str→Option Value)(base:Heap)(n:Nat)(x:Str)(ps ks:List Str)(ix:List (Option Nat))(m:List D→Res D):Prop where
 ex:∃(f:Addr) (fd:FuncData),FnOk P w K mg base (CXR P w) n f fd ps (spR K mg ps.length m)∧DfB K fd ps ks ix∧W.keepIn K (.ref f)=true∧mg x=some (.ref f)
end
section
variable{X:Cx}{E:XK}{k l n n':Nat}{x:Str}{ps ks:List Str}{ix:List (Option Nat)}{f:List D→Res D}{t tk:TA}{m mk:MA}{e:Expr}{es:List Expr}{kws:List Keyword}{p pos:Pos}
theorem ZhF(ha:SA X.K X.mg E t m)(hl:SAn n m)(hk:SA X.K X.mg E tk mk)(hn:n+ix.length=n'):SEr X.K X.mg E (Zl9 (spR X.K X.mg n' f) (fun vs zs=>vs++Zht ix zs) E t tk) (onK f ix m mk):=by
 intro Fb F0 H0 F H σ ρ rr sb
 refine (ha F0 H0 F H σ ρ rr).bindE (w':=fun vs H1 Q=>tk σ H1 fun zs H2=>spR X.K X.mg n' f (vs++Zht ix zs) H2 Q E) fun ds e F1 H1 vs g1 rs=>?_
 refine (hk F0 H0 F1 H1 σ ρ (rr.gr g1)).bindE (w':=fun zs H2 Q=>spR X.K X.mg n' f (vs++Zht ix zs) H2 Q E) fun es e' F2 H2 zs g2 rz=>?_
 have rs2:=Rps.app (Zg0 rz ix) (rs.same g2.f)
 have hlen:(vs++Zht ix zs).length=n':=by rw [rs2.length,Va7,ZmX,hl ρ ds e,hn]
 cases ef:f (ds++Znx ix es) with
 | bad=>trivial
 | ex c=>exact fun Q q=>⟨hlen,F2,_,g2.s,rs2,(by rw [ef];intro z;cases z),(fun d z=>by rw [ef] at z;cases z),fun c' z F' H' C g hC=>by
   rw [ef] at z;cases z
   exact q F' H' C g hC⟩
 | ok d=>exact fun Q q=>⟨hlen,F2,_,g2.s,rs2,(by rw [ef];intro z;cases z),(fun d' z F' H' x g rx=>by
   rw [ef] at z;cases z
   exact q _ _ _ g (rx.down (sb.trans (g1.f.trans g2.f)))),fun c' z=>by rw [ef] at z;cases z⟩
theorem ZmG(C:Zj2 X.prog X.w X.K X.mg X.base k x ps ks ix f)(hr:Room l X.A)(hn:k≤l)(hg:Gl X x)(hx:Zbe (CXR X.prog X.w) X E)(ha:DA X E n (e::es) t m)(hk:DK X E n' kws tk mk)(hps:n+ix.length=ps.length:=by rfl)
  (hall:(backToKw pos (keywordEach kws X.env)).all (·.1.isSome)=true:=by rfl) (hks:(backToKw pos (keywordEach kws X.env)).filterMap (·.1)=ks:=by rfl)
  (hdb:(x==("__debug__" : Str))=false:=by decide) (he:starEach (e::es) X.env=(false,eval e X.env)::starEach es X.env:=by rfl)
  (hpl:((backTo pos (starEach (e::es) X.env)).any (·.1)||(backToKw pos (keywordEach kws X.env)).any (·.1.isNone))=false:=by rfl) :
  DEr X E (.Call (.Name x p) (e::es) kws pos) (Zl9 (spR X.K X.mg ps.length f) (fun vs zs=>vs++Zht ix zs) E t tk) (onK f ix m mk):=by
 obtain ⟨g,fd,F,b,kp,hm⟩:=C.ex
 exact ⟨ZnG F (hr.mono hn) hg hm kp b.kb hx ha.p hk.p hall hks hdb he hpl,ZhF ha.s ha.n hk.s hps⟩
theorem ZnL(C:Zj2 X.prog X.w X.K X.mg X.base k x ps [] ix f)(hr:Room l X.A)(hn:k≤l)(hg:Gl X x)(hx:Zbe (CXR X.prog X.w) X E)(ha:DA X E n (e::es) t m)(hps:n+ix.length=ps.length:=by rfl)
  (hdb:(x==("__debug__" : Str))=false:=by decide) (he:starEach (e::es) X.env=(false,eval e X.env)::starEach es X.env:=by rfl) (hpl:(backTo pos (starEach es X.env)).any (·.1)=false:=by rfl) :
  DEr X E (.Call (.Name x p) (e::es) [] pos) (Zgf (spR X.K X.mg ps.length f) (Zht ix []) E t) (onK f ix m yaa):=by
 obtain ⟨g,fd,F,b,kp,hm⟩:=C.ex
 have hb:Binds X.K fd ps (ZiD ix []):=fun s us hK hl=>b s us [] hK hl
 refine ⟨ZgU F (hr.mono hn) hg hm kp hb (Zeg .nil ix) hx ha.p hdb he hpl,?_⟩
 exact ZhF (tk:=tNil) (mk:=yaa) ha.s ha.n Zjv hps
end
section
variable{X:Cx}{E:XK}{i:Nat}{y:Str}{te tv:TE}{me mv:ME}{e c' ev:Expr}{sa:TT}{na:MB}{kb kr:MS}{ub ur:TS}{body rest:List Stmt}
theorem Zk2{K:W.Frag}{mg:Str→Option Value}(he:SEr K mg E te me)(ht:STt K mg E sa na)(hb:SS K mg E ub kb)(hv:SE K mg E tv mv)(hr:SS K mg E ur kr) :
  SS K mg E (tSeq (tAsg te (Zea i)) (tSeq (tIfS sa ub Zim) (tSeq (Zdd (tBM K "list" ZbE (tOp (rIxD K) (tVar i) (tC (.int 0))) (Zbv tv tNil))) (tSeq (Zdd (tBM K "list" ZbE (tVar i) (Zbv (tLst tNil) tNil))) ur)))) (ZgB i me na kb mv kr):=by
 intro F0 H0 F H σ ρ rr
 have h:=he F F0 H0 F H σ ρ rr (Same.refl _)
 unfold ZgB
 cases em:me ρ with
 | bad=>trivial
 | ex c=>rw [em] at h;exact fun D q=>h _ fun F' H' C g hC=>q F' H' C (rr.g.trans g) hC
 | ok d =>
  rw [em] at h
  show AnsS K mg E F0 H0 F (if (ZeI d&&decide (i<ρ.length))=true then (na (ρ.set i (.im d))).bind (fun b=>if b=true then Zju (kb (ρ.set i (.im d))) else (noEx (mv (ρ.set i (.im d)))).bind fun _=>kr (ρ.set i .no)) else .bad) _
  by_cases hd:(ZeI d&&decide (i<ρ.length))=true
  case neg=>rw [if_neg hd];trivial
  rw [if_pos hd]
  rw [Vbj,decide_eq_true_eq] at hd
  obtain ⟨hd,li0⟩:=hd
  have li:i<σ.length:=by rw [rr.len];exact li0
  have hT:=fun F1 H1 x (g:Gr F H F1 H1) (rx:Rp K mg F1 x d)=>ht F0 H0 F1 H1 _ _ ((rr.gr g).set i rx)
  cases et:na (ρ.set i (.im d)) with
  | bad=>trivial
  | ex c =>
   rw [et] at hT
   exact fun D q=>h _ fun F1 H1 x g1 rx=>hT F1 H1 x g1 rx.rp _ fun F' H' C g hC=>q F' H' C ((rr.g.trans g1).trans g) hC
  | ok b =>
   rw [et] at hT
   cases b with
   | true =>
    show AnsS K mg E F0 H0 F (Zju (kb (ρ.set i (.im d)))) _
    have hB:=fun F1 H1 σ1 r1=>hb F0 H0 F1 H1 σ1 (ρ.set i (.im d)) r1
    generalize kb (ρ.set i (.im d))=rb at hB
    match rb,hB with
    | .ok (.rt d'),hB =>
     exact fun D q=>h _ fun F1 H1 x g1 rx=>hT F1 H1 x g1 rx.rp _ fun F2 H2 b g2 eb=>by
      cases (show b=true from eb)
      exact hB F2 H2 _ (((rr.gr g1).set i rx.rp).gr g2) _ q
    | .ok (.nx _),_=>trivial
    | .ok (.bk _),_=>trivial
    | .ok (.ct _),_=>trivial
    | .ex _,_=>trivial
    | .bad,_=>trivial
   | false =>
    show AnsS K mg E F0 H0 F ((noEx (mv (ρ.set i (.im d)))).bind fun _=>kr (ρ.set i .no)) _
    have hV:=fun F1 H1 σ1 r1=>hv F0 H0 F1 H1 σ1 (ρ.set i (.im d)) r1
    cases ev:mv (ρ.set i (.im d)) with
    | bad=>trivial
    | ex c=>trivial
    | ok dv =>
    rw [ev] at hV
    show AnsS K mg E F0 H0 F (kr (ρ.set i .no)) _
    have key:∀D:Ends,(∀H4 x,Rep K mg F0 H0 F H4 (σ.set i (some x)) (ρ.set i .no)→ur D (σ.set i (some x)) H4)→(tSeq (tAsg te (Zea i)) (tSeq (tIfS sa ub Zim) (tSeq (Zdd (tBM K "list" ZbE (tOp (rIxD K) (tVar i) (tC (.int 0))) (Zbv tv tNil))) (tSeq (Zdd (tBM K "list" ZbE (tVar i) (Zbv (tLst tNil) tNil))) ur)))) D σ H:=fun D q=>h _ fun F1 H1 x g1 rx=>hT F1 H1 x g1 rx.rp _ fun F2 H2 b g2 eb=>by
     cases (show b=false from eb)
     have rp:=rx.rp
     obtain ⟨a,xs,ds,rfl,rfl,fa,f1a,hl,hx⟩:=rx
     match ds,xs,hl,hd with
     | .lst cs::ds',x0::xs',hl,hd =>
      obtain ⟨q0,zs,cs',rfl,er,fq,f1q,hz⟩:=hx 0 x0 _ rfl rfl
      cases er
      have hd:(decide (cs.length<1000)&&decide (ds'.length<1000))=true:=hd
      rw [Vbj,decide_eq_true_eq,decide_eq_true_eq] at hd
      have r2:=((rr.gr g1).set i rp).gr g2
      have hq2:H2 q0=some (.lst zs):=g2.s _ _ (g2.f _ _ f1q)
      have ha2:H2 a=some (.lst (.ref q0::xs')):=g2.s _ _ (g2.f _ _ f1a)
      refine ⟨.ref a,ZgH li,.inl ⟨a,_,0,.ref q0,rfl,rfl,SqL.of ha2,(by simp [atI,ixN]),.inl ⟨rfl,zs,SqL.of hq2⟩,?_⟩⟩
      refine hV F2 H2 _ r2 _ fun F3 H3 v g3 rv=>?_
      have hq3:H3 q0=some (.lst zs):=g3.s _ _ (g3.f _ _ (g2.f _ _ f1q))
      have ha3:H3 a=some (.lst (.ref q0::xs')):=g3.s _ _ (g3.f _ _ (g2.f _ _ f1a))
      have lz:zs.length<1000:=by rw [hz.length];exact hd.1
      have lx:(V.ref q0::xs').length<1001:=by rw [hl];simp;omega
      refine ⟨q0,zs,v,rfl,rfl,hq3,Vaf lz (by decide),.ref a,ZgH li,?_⟩
      have fin:∀ws:List V,ws.length<1001→upd H3 q0 (.lst (zs++[v])) a=some (.lst ws)→tyV K "list" (.ref a) (upd H3 q0 (.lst (zs++[v])))∧(Zbv (tLst tNil) tNil) (σ.set i (some (.ref a))) (upd H3 q0 (.lst (zs++[v]))) fun vs H5=>ZbE (.ref a) vs H5 fun _ H4=>ur D (σ.set i (some (.ref a))) H4:=fun ws hw hws=>by
       refine ⟨.inl ⟨rfl,ws,SqL.of hws⟩,by decide,fun l hl4=>?_⟩
       have nal:a≠l:=fun z=>by rw [←z,hws] at hl4;cases hl4
       refine ⟨a,ws,.ref l,rfl,rfl,by rw [Zaf nal];exact hws,Vaf hw (by decide),?_⟩
       refine q _ _ (rr.letgo ((g1.trans g2).trans g3) fun b o hb hf=>?_)
       have nb:∀{c:Addr} {o':HO},F c=none→F1 c=some o'→b≠c:=fun {c o'} z1 z2 z3=>by
        subst z3
        rcases hf with hf | ⟨u,hf⟩
        ·rw [g3.f _ _ (g2.f _ _ z2)] at hf;cases hf
        ·rw [z1] at hf;cases hf
       have nbl:b≠l:=fun z=>by
        have hq':b≠q0:=nb fq f1q
        rw [←z,Zaf hq',hb] at hl4
        cases hl4
       rw [Zaf (nb fa f1a),Zaf nbl,Zaf (nb fq f1q)]
       exact hb
      by_cases hqa:a=q0
      ·exact fin (zs++[v]) (by simp;omega) (by rw [hqa,Zag])
      ·exact fin (.ref q0::xs') lx (by rw [Zaf hqa];exact ha3)
    have hR:=fun H4 x r4=>hr F0 H0 F H4 (σ.set i (some x)) (ρ.set i .no) r4
    generalize kr (ρ.set i .no)=r2 at hR
    match r2,hR with
    | .ok (.nx ρ),hR=>exact fun D q=>key D fun H4 x r4=>hR H4 x r4 D q
    | .ok (.bk ρ),hR=>exact fun D q=>key D fun H4 x r4=>hR H4 x r4 D q
    | .ok (.ct ρ),hR=>exact fun D q=>key D fun H4 x r4=>hR H4 x r4 D q
    | .ok (.rt d),hR=>exact fun D q=>key D fun H4 x r4=>hR H4 x r4 D q
    | .ex c,hR=>exact fun D q=>key D fun H4 x r4=>hR H4 x r4 D q
    | .bad,_=>trivial
theorem Zkh{pos' spos spos' spos1 sp4 np np4 ip zp apos cpos apos4 cpos4 lp:Pos}{j:Nat}(hN:X.N.Nodup)(hi:X.N[i]?=some y)(hy:Loc X.env.scope y)(he:DEr X E e te me)(ht:DT X E c' sa na)(hb:DSs X E body ub kb)(hw:DE X E ev tv mv)(hr:DSs X E rest ur kr)
  (hv:Vis X.env.scope y:=by first | exact Or.inl rfl | exact Or.inr (Or.inl rfl) | exact Or.inr (Or.inr rfl)) (hd:(y==("__debug__" : Str))=false:=by decide) (hcd:(y==("__classdict__" : Str))=false:=by decide)
  (hs:swapsWith e (some (.Name y pos')) spos.line X.env=pure false:=by rfl) (hf:X.fn y=true∨X.env.scope.names.lookup y=some .local:=by first | exact .inl rfl | exact .inr rfl | assumption)
  (hbase:attributeBase (.Subscript (.Name y np) (.Constant (.int 0) j zp) ip) "append" X.env (eval (.Subscript (.Name y np) (.Constant (.int 0) j zp) ip) X.env)=eval (.Subscript (.Name y np) (.Constant (.int 0) j zp) ip) X.env:=by rfl)
  (hse:starEach [ev] X.env=(false,eval ev X.env)::starEach [] X.env:=by rfl)
  (hfew:((backTo cpos (starEach [ev] X.env)).all (fun x=>!x.1)&&(backToKw cpos (keywordEach [] X.env)).all (fun x=>x.1.isSome)
   && decide (([ev]:List Expr).length+([]:List Keyword).length+(if ([]:List Keyword).isEmpty then 0 else 1)<30))=true:=by rfl)
  (hline:(apos.endLine==cpos.line)=true:=by rfl) (hplain:(backTo cpos (starEach [] X.env)).any (·.1)=false:=by rfl)
  (hsw:swapsWith (.Call (.Attribute (.Subscript (.Name y np) (.Constant (.int 0) j zp) ip) "append" apos) [ev] [] cpos) none spos1.line X.env=pure false:=by rfl)
  (hbase4:attributeBase (.Name y np4) "append" X.env (eval (.Name y np4) X.env)=eval (.Name y np4) X.env:=by rfl)
  (hse4:starEach [.List [] lp] X.env=(false,eval (.List [] lp) X.env)::starEach [] X.env:=by rfl)
  (hfew4:((backTo cpos4 (starEach [.List [] lp] X.env)).all (fun x=>!x.1)&&(backToKw cpos4 (keywordEach [] X.env)).all (fun x=>x.1.isSome)
   && decide (([.List [] lp]:List Expr).length+([]:List Keyword).length+(if ([]:List Keyword).isEmpty then 0 else 1)<30))=true:=by rfl)
  (hline4:(apos4.endLine==cpos4.line)=true:=by rfl) (hplain4:(backTo cpos4 (starEach [] X.env)).any (·.1)=false:=by rfl)
  (hsw4:swapsWith (.Call (.Attribute (.Name y np4) "append" apos4) [.List [] lp] [] cpos4) none sp4.line X.env=pure false:=by rfl) :
  DSs X E (.Assign [.Name y pos'] e spos::.If c' body [] spos'::.Expr (.Call (.Attribute (.Subscript (.Name y np) (.Constant (.int 0) j zp) ip) "append" apos) [ev] [] cpos) spos1::.Expr (.Call (.Attribute (.Name y np4) "append" apos4) [.List [] lp] [] cpos4) sp4::rest)
   (tSeq (tAsg te (Zea i)) (tSeq (tIfS sa ub Zim) (tSeq (Zdd (tBM X.K "list" ZbE (tOp (rIxD X.K) (tVar i) (tC (.int 0))) (Zbv tv tNil))) (tSeq (Zdd (tBM X.K "list" ZbE (tVar i) (Zbv (tLst tNil) tNil))) ur)))) (ZgB i me na kb mv kr) :=
 ⟨ZbL (ZlO hN hi hy he.p hs hf) (ZbL (Zpu ht.p hb.p Zhr) (ZbL (Zd0 (ZmR VbL PySem.F.slot_list_append PySem.F.type_list_append ZfS (Ztg (IxR.or ZkW Zos) (Zf4 hi hv hd hcd) Zn8 (fun _ _=>rfl)) (Zb2 hw.p Zel hse) hbase hfew hline hse hplain) hsw) (ZbL (Zd0 (ZmR VbL PySem.F.slot_list_append PySem.F.type_list_append ZfS (Zf4 hi hv hd hcd) (Zb2 (Zlv Zel) Zel hse4) hbase4 hfew4 hline4 hse4 hplain4) hsw4) hr.p))),
  Zk2 he.s ht.s hb.s hw.s hr.s⟩
end
end L2.Ds
namespace Dl
open PySem
def Sm(k:Nat)(x:Int):Prop:=x.natAbs<2^k
theorem Sm.mono{k n:Nat}{x:Int}(h:Sm k x)(hn:k≤n):Sm n x:=Vaf h (Nat.pow_le_pow_right (by decide) hn)
theorem Sm.mul{m n:Nat}{x y:Int}(h:Sm m x)(g:Sm n y):Sm (m+n) (x*y):=by
 unfold Sm at *
 rw [Int.natAbs_mul,Nat.pow_add]
 rcases Nat.eq_zero_or_pos x.natAbs with z | z
 ·rw [z,Nat.zero_mul];exact Nat.mul_pos (Vb9 _) (Vb9 _)
 ·exact Vbn (Nat.mul_le_mul_left _ (Vam g)) (Nat.mul_lt_mul_of_pos_right h (Vb9 _))
theorem Sm.add{m n:Nat}{x y:Int}(h:Sm m x)(g:Sm n y):Sm (max m n+1) (x+y):=by
 have h':=h.mono (Nat.le_max_left m n)
 have g':=g.mono (Nat.le_max_right m n)
 unfold Sm at *
 rw [Nat.pow_succ]
 have:=Int.natAbs_add_le x y
 omega
theorem Sm.neg{m:Nat}{x:Int}(h:Sm m x):Sm m (-x):=by
 unfold Sm at *
 rw [Int.natAbs_neg]
 exact h
theorem Sm.sub{m n:Nat}{x y:Int}(h:Sm m x)(g:Sm n y):Sm (max m n+1) (x - y):=by
 rw [Int.sub_eq_add_neg];exact h.add g.neg
theorem Sm.le{m:Nat}{x y:Int}(h:Sm m x)(e:y.natAbs≤x.natAbs):Sm m y:=Vbn e h
theorem Sm.of64{x:Int}(h1:-18446744073709551616<x)(h2:x<18446744073709551616):Sm 64 x:=by
 unfold Sm
 have:(2:Nat)^64=18446744073709551616:=by decide
 omega
theorem Zmt{n k:Nat}(h:n<2^k)(hk:0<k):n.log2<k:=by
 rcases Nat.eq_zero_or_pos n with z | z
 ·rw [z];simpa using hk
 ·exact (Nat.log2_lt (VaG z)).mpr h
theorem Sm.log{m:Nat}{x:Int}(h:Sm m x)(hm:m<9000):x.natAbs.log2<9000:=Zmt (h.mono (Vam hm)) (by decide)
theorem ZiA{a b:Int}(h:Sm 64 a):ZaR a b=true:=by
 unfold ZaR
 rw [Vbm (show a.natAbs<2^64 from h)];rfl
theorem Zo5{a b:Int}(h:Sm 64 b):ZaR a b=true:=by
 unfold ZaR
 rw [Vbm (show b.natAbs<2^64 from h)]
 simp
theorem ZaC{a b:Int}{m n:Nat}(h:Sm m a)(g:Sm n b)(hk:m+n<99999990):ZaR a b=true:=by
 have h1:=Zmt (h.mono (Nat.le_succ m)) (Nat.succ_pos _)
 have h2:=Zmt (g.mono (Nat.le_succ n)) (Nat.succ_pos _)
 unfold ZaR
 rw [Vbm (show a.natAbs.log2+b.natAbs.log2<100000000 by omega)]
 simp
theorem Zpp{a b:Int}(h:ZaR a b=true):iMul a b=.ok (.int (a*b)):=by unfold iMul;rw [if_pos h]
theorem ZmT{a b:Int}(h:0<b):iMod a b=.ok (.int (a%b)):=by unfold iMod;rw [if_pos h]
theorem ZmW{a b:Int}(h:0<b)(hl:b.natAbs.log2<9000):iDiv a b=.ok (.int (a/b)):=by unfold iDiv;rw [if_pos hl,if_pos h]
theorem ZmZ{a b:Int}(h:b<0)(hl:b.natAbs.log2<9000):iDiv a b=.ok (.int (a.fdiv b)):=by unfold iDiv;rw [if_pos hl,if_neg (by omega),if_neg (by omega)]
theorem Zp1{a b:Int}(h0:0≤b)(h1:b≤1000000)(h2:a.natAbs<2^64):iPow a b=.ok (.int (a^b.toNat)):=by unfold iPow;rw [if_pos ⟨h0,h1,h2⟩]
theorem Zo3{a b:Int}(h0:0≤b)(h1:b≤1000000)(h2:a.natAbs<2^64):iShl a b=.ok (.int (a*2^b.toNat)):=by unfold iShl;rw [if_pos ⟨h0,h1,h2⟩]
theorem Zpy{a b:Int}(h0:0≤b):iShr a b=.ok (.int (a/2^b.toNat)):=by unfold iShr;rw [if_pos h0]
theorem Zp5(a b:Int):dEq (.int a) (.int b)=.ok (.bl (decide (a=b))):=by
 show Res.ok (D.bl (a==b))=_
 rw [Bool.beq_eq_decide_eq]
theorem ZpS(a b:Int):dNe (.int a) (.int b)=.ok (.bl (!decide (a=b))):=by
 show Res.ok (D.bl (!(a==b)))=_
 rw [Bool.beq_eq_decide_eq]
theorem Znv{a b:List D}(h:a.length+b.length≤1000000):yaA (.lst a) (.lst b)=.ok (.lst (a++b)):=by
 show (if a.length+b.length≤LIM then Res.ok (D.lst (a++b)) else .bad)=_
 rw [if_pos (show a.length+b.length≤LIM from h)]
theorem ZgZ(xs:List D)(i:Int):dIx (.lst xs) (.int i)=ofO (at_ xs i):=rfl
theorem ZnP(xs:List D):bLen [.lst xs]=.ok (.int xs.length):=rfl
theorem ZnR(xs:List D):bLen [.tup xs]=.ok (.int xs.length):=rfl
theorem ZmU(i:Int):bAbs [.int i]=.ok (.int i.natAbs):=by
 show Res.ok (D.int (if i<0 then -i else i))=_
 have:(if i<0 then -i else i)=(i.natAbs:Int):=by split<;>omega
 rw [this]
theorem ZnU(i j:Int):bMin [.int i,.int j]=.ok (.int (min i j)):=by
 show Res.ok (D.int (if j<i then j else i))=_
 have:(if j<i then j else i)=min i j:=by split<;>omega
 rw [this]
theorem Zql{j:Int}(h0:-1000000000≤j)(h1:j≤1000000000):rng1 [.int j]=.ok (Zbn 0 j.toNat):=by
 show (if -1000000000≤j∧j≤1000000000 then Res.ok (Zbn 0 j.toNat) else .bad)=_
 rw [if_pos ⟨h0,h1⟩]
theorem Zfw{g:MG}{b:MS}(I:List D→Ev→Prop):∀(xs pre:List D),(∀p x r,xs=p++x::r→∀ρ,I (pre++p) ρ→∃ρ1 ρ2,g x ρ=.ok ρ1∧b ρ1=.ok (.nx ρ2)∧I (pre++p++[x]) ρ2)→∀ρ,I pre ρ→∃ρ',ZbM g b xs ρ=.ok (.nx ρ')∧I (pre++xs) ρ'
 | [],pre,_,ρ,i=>⟨ρ,rfl,by rw [VaV];exact i⟩
 | x::r,pre,h,ρ,i=>by
  obtain ⟨ρ1,ρ2,h1,h2,i2⟩:=h [] x r rfl ρ (by rw [VaV];exact i)
  rw [VaV] at i2
  obtain ⟨ρ',h3,i3⟩:=Zfw I r (pre++[x]) (fun p y s e ρ i=>by
   have z:=h (x::p) y s (by rw [e];rfl) ρ (by simpa using i)
   simpa using z) ρ2 i2
  refine ⟨ρ',?_,by simpa using i3⟩
  show (g x ρ).bind (fun ρ1=>(b ρ1).bind (turn (ZbM g b r)))=_
  rw [h1]
  show (b ρ1).bind (turn (ZbM g b r))=_
  rw [h2]
  exact h3
theorem ZlU(t:MB)(b:MS)(n:Nat)(ρ:Ev):whGo t b (n+1) ρ=(t ρ).bind fun x=>if x=true then (b ρ).bind (turn (whGo t b n)) else .ok (.nx ρ):=rfl
theorem ZdR(g:MG)(t:MB)(e:ME)(ρ:Ev)(x:D)(r:List D):Zai g t e ρ (x::r)=(g x ρ).bind fun ρ1=>(t ρ1).bind fun b=>if b=true then (e ρ1).bind fun y=>(Zai g t e ρ r).bind fun ys=>.ok (y::ys) else Zai g t e ρ r:=rfl
theorem Zi5{g:MG}{e:ME}{ρ:Ev}(P:D→D→Prop):∀xs:List D,(∀x∈xs,∃ρ1 y,g x ρ=.ok ρ1∧e ρ1=.ok y∧P x y)→∃ys,Zai g yes e ρ xs=.ok ys∧ys.length=xs.length∧∀(i:Nat) x y,xs[i]?=some x→ys[i]?=some y→P x y
 | [],_=>⟨[],rfl,rfl,fun i x y h=>by simp at h⟩
 | x::r,h=>by
  obtain ⟨ρ1,y,h1,h2,hp⟩:=h x Vao
  obtain ⟨ys,e1,l1,q⟩:=Zi5 P r fun z hz=>h z (Vap _ hz)
  refine ⟨y::ys,?_,Vay (·+1) l1,fun i a b ha hb=>?_⟩
  ·rw [ZdR,h1,ZcR]
   unfold yes at e1 ⊢
   rw [ZcR,if_pos rfl,h2,ZcR,e1]
   rfl
  ·cases i with
   | zero=>simp at ha hb;subst ha hb;exact hp
   | succ i=>exact q i a b (by simpa using ha) (by simpa using hb)
def Tl{α:Type}(r:Res α)(Φ:α→Prop):Prop:=∃a,r=.ok a∧Φ a
section
variable{α β:Type}{Φ:α→Prop}{ρ:Ev}{a b d:ME}{s t:MB}{i j:Nat}
theorem Zal{r:Res α}{x:α}(e:r=.ok x)(h:Φ x):Tl r Φ:=⟨x,e,h⟩
theorem Zau{x:α}(h:Φ x):Tl (.ok x) Φ:=⟨x,rfl,h⟩
theorem Zaj{r:Res β}{f:β→Res α}(h:Tl r fun x=>Tl (f x) Φ):Tl (r.bind f) Φ:=by
 obtain ⟨x,rfl,y,e,q⟩:=h
 exact ⟨y,e,q⟩
theorem Tl.mono{r:Res α}{Ψ:α→Prop}(h:Tl r Ψ)(k:∀x,Ψ x→Φ x):Tl r Φ:=by
 obtain ⟨x,e,q⟩:=h
 exact ⟨x,e,k x q⟩
theorem Tl.eq{r:Res α}{x:α}(h:Tl r (·=x)):r=.ok x:=by
 obtain ⟨y,e,rfl⟩:=h
 exact e
theorem Zjn{c:Bool}{A B:Res α}(hc:c=true)(h:Tl A Φ):Tl (if c=true then A else B) Φ:=by rw [if_pos hc];exact h
theorem Zjc{c:Bool}{A B:Res α}(hc:c=false)(h:Tl B Φ):Tl (if c=true then A else B) Φ:=by rw [if_neg (by rw [hc];exact VaF)];exact h
theorem w_dT{P:Prop} [Decidable P] {A B:Res α} (hc:P) (h:Tl A Φ):Tl (if decide P=true then A else B) Φ:=Zjn (Vbm hc) h
theorem w_dF{P:Prop} [Decidable P] {A B:Res α} (hc:¬P) (h:Tl B Φ):Tl (if decide P=true then A else B) Φ:=Zjc (Vac hc) h
theorem w_nT{P:Prop} [Decidable P] {A B:Res α} (hc:¬P) (h:Tl A Φ):Tl (if (!decide P)=true then A else B) Φ:=Zjn (by rw [Vac hc];rfl) h
theorem w_nF{P:Prop} [Decidable P] {A B:Res α} (hc:P) (h:Tl B Φ):Tl (if (!decide P)=true then A else B) Φ:=Zjc (by rw [Vbm hc];rfl) h
theorem Zb9{P:Prop} [Decidable P] {A B:Res α} (h1:P→Tl A Φ) (h2:¬P→Tl B Φ):Tl (if decide P=true then A else B) Φ:=by
 by_cases h:P
 ·exact w_dT h (h1 h)
 ·exact w_dF h (h2 h)
theorem ZgJ{P:Prop} [Decidable P] {A B:Res α} (h1:¬P→Tl A Φ) (h2:P→Tl B Φ):Tl (if (!decide P)=true then A else B) Φ:=by
 by_cases h:P
 ·exact w_nF h (h2 h)
 ·exact w_nT h (h1 h)
theorem Zs2{c:Bool}{A B:Res α}(h1:c=true→Tl A Φ)(h2:c=false→Tl B Φ):Tl (if c=true then A else B) Φ:=by
 cases c with
 | true=>exact Zjn rfl (h1 rfl)
 | false=>exact Zjc rfl (h2 rfl)
end
section
variable{Φ:D→Prop}{ρ:Ev}{a b d:ME}{s t:MB}{i j n:Nat}{m:MA}
theorem w_v'(h:Tl (getC ρ[i]?) Φ):Tl (v i ρ) Φ:=h
theorem w_gC{o:Option Cl}{x:D}(e:o=some (.im x))(h:Φ x):Tl (getC o) Φ:=Zal (by rw [e];rfl) h
theorem w_c{x:D}(h:Φ x):Tl (c x ρ) Φ:=Zau h
theorem w_o1{f:D→Res D}(h:Tl (a ρ) fun x=>Tl (f x) Φ):Tl (o1 f a ρ) Φ:=Zaj h
theorem w_o2{f:D→D→Res D}(h:Tl (a ρ) fun x=>Tl (b ρ) fun y=>Tl (f x y) Φ):Tl (o2 f a b ρ) Φ:=Zaj (h.mono fun _ q=>Zaj q)
theorem w_on{f:List D→Res D}(h:Tl (m ρ) fun xs=>Tl (f xs) Φ):Tl (on f m ρ) Φ:=Zaj h
theorem ZuF(h:Tl (m ρ) fun xs=>Φ (.tup xs)):Tl (mtp m ρ) Φ:=Zaj (h.mono fun _ q=>Zau q)
theorem Zt7(h:Tl (m ρ) fun xs=>Φ (.lst xs)):Tl (mls m ρ) Φ:=Zaj (h.mono fun _ q=>Zau q)
theorem ZsQ(h:Tl (trb a ρ) fun x=>Tl (if x=true then b ρ else .ok (.bl false)) Φ):Tl (eAnd a b ρ) Φ:=Zaj h
theorem Zs0(h:Tl (trb a ρ) fun x=>Φ (.bl (!x))):Tl (eNot a ρ) Φ:=Zaj (h.mono fun _ q=>Zau q)
theorem Zuj(h:Tl (t ρ) fun x=>Tl (if x=true then a ρ else b ρ) Φ):Tl (ife t a b ρ) Φ:=Zaj h
theorem Zub{lo hi:Ev→Res (Option Int)}(h:Tl (a ρ) fun x=>Tl (lo ρ) fun l=>Tl (hi ρ) fun u=>Tl (dCut x l u) Φ):Tl (cut a lo hi ρ) Φ:=Zaj (h.mono fun _ q=>Zaj (q.mono fun _ q=>Zaj q))
theorem Zrr{it:MI}{own:Nat}{cap:List Nat}{g:MG}{e:ME}(h:Tl (it ρ) fun xs=>xs.length≤1000000∧Tl (Zai g t e (noA own (yar ρ cap)) xs) fun ys=>Φ (.lst ys)):Tl (comp it own cap g t e ρ) Φ:=by
 refine Zaj (h.mono fun xs q=>?_)
 rw [if_pos (show xs.length≤LIM from q.1)]
 obtain ⟨ys,e1,q2⟩:=q.2
 rw [e1]
 exact Zau q2
theorem w_fn{k:MS}{ds:List D}(h:Tl (k (ev0 n ds)) fun f=>Tl (endOf f) Φ):Tl (fn n k ds) Φ:=Zaj h
theorem Zrx{x y:Int}(h:Φ (.int (x+y))):Tl (yaA (.int x) (.int y)) Φ:=Zau h
theorem ZsS{x y:List D}(hl:x.length+y.length≤1000000)(h:Φ (.lst (x++y))):Tl (yaA (.lst x) (.lst y)) Φ:=Zal (Znv hl) h
theorem w_sub{x y:Int}(h:Φ (.int (x - y))):Tl (dSub (.int x) (.int y)) Φ:=Zau h
theorem w_mul{x y:Int}(hm:ZaR x y=true)(h:Φ (.int (x*y))):Tl (yaI (.int x) (.int y)) Φ:=Zal (Zpp hm) h
theorem w_mod{x y:Int}(hy:0<y)(h:Φ (.int (x%y))):Tl (yaz (.int x) (.int y)) Φ:=Zal (ZmT hy) h
theorem w_div{x y:Int}(hy:0<y)(hl:y.natAbs.log2<9000)(h:Φ (.int (x/y))):Tl (ya8 (.int x) (.int y)) Φ:=Zal (ZmW hy hl) h
theorem w_divN{x y:Int}(hy:y<0)(hl:y.natAbs.log2<9000)(h:Φ (.int (x.fdiv y))):Tl (ya8 (.int x) (.int y)) Φ:=Zal (ZmZ hy hl) h
theorem w_pow{x y:Int}(h0:0≤y)(h1:y≤1000000)(h2:x.natAbs<2^64)(h:Φ (.int (x^y.toNat))):Tl (dPow (.int x) (.int y)) Φ:=Zal (Zp1 h0 h1 h2) h
theorem w_shl{x y:Int}(h0:0≤y)(h1:y≤1000000)(h2:x.natAbs<2^64)(h:Φ (.int (x*2^y.toNat))):Tl (dShl (.int x) (.int y)) Φ:=Zal (Zo3 h0 h1 h2) h
theorem w_shr{x y:Int}(h0:0≤y)(h:Φ (.int (x/2^y.toNat))):Tl (dShr (.int x) (.int y)) Φ:=Zal (Zpy h0) h
theorem ZuJ{x:Int}(h:Φ (.int (-x))):Tl (dNeg (.int x)) Φ:=Zau h
theorem w_lt{x y:Int}(h:Φ (.bl (decide (x<y)))):Tl (dLt (.int x) (.int y)) Φ:=Zau h
theorem w_le{x y:Int}(h:Φ (.bl (decide (x≤y)))):Tl (dLe (.int x) (.int y)) Φ:=Zau h
theorem w_gt{x y:Int}(h:Φ (.bl (decide (y<x)))):Tl (dGt (.int x) (.int y)) Φ:=Zau h
theorem w_ge{x y:Int}(h:Φ (.bl (decide (y≤x)))):Tl (dGe (.int x) (.int y)) Φ:=Zau h
theorem Zuq{x y:Int}(h:Φ (.bl (decide (x=y)))):Tl (dEq (.int x) (.int y)) Φ:=Zal (Zp5 x y) h
theorem Zuh{x y:Int}(h:Φ (.bl (!decide (x=y)))):Tl (dNe (.int x) (.int y)) Φ:=Zal (ZpS x y) h
theorem Zua{x:D}(h:Φ (.bl (ZdX x))):Tl (dIsN x) Φ:=Zau h
theorem ZrC{x:D}(h:Φ (.bl (!ZdX x))):Tl (ZkI x) Φ:=Zau h
theorem ZsZ{xs:List D}(h:Φ (.int xs.length)):Tl (bLen [.lst xs]) Φ:=Zau h
theorem ZrL{xs:List D}(h:Φ (.int xs.length)):Tl (bLen [.tup xs]) Φ:=Zau h
theorem ZqA{ns:List Int}(h:Φ (.int ns.length)):Tl (bLen [.tup (ns.map .int)]) Φ:=Zal (by rw [ZnR,VaQ]) h
theorem Zqq{ns:List Int}(h:Φ (.int ns.length)):Tl (bLen [.lst (ns.map .int)]) Φ:=Zal (by rw [ZnP,VaQ]) h
theorem ZtV{x:Int}(h:Φ (.int x.natAbs)):Tl (bAbs [.int x]) Φ:=Zal (ZmU x) h
theorem ZuH{x y:Int}(h:Φ (.int (min x y))):Tl (bMin [.int x,.int y]) Φ:=Zal (ZnU x y) h
theorem Zsw{xs:List D}(h:Φ (.tup xs)):Tl (bTup [.lst xs]) Φ:=Zau h
theorem ZsY{xs:List D}(h:Φ (.lst xs)):Tl (bLst [.lst xs]) Φ:=Zau h
theorem Zsm{xs:List D}{lo hi:Option Int}(h:Φ (.lst (cutL xs lo hi))):Tl (dCut (.lst xs) lo hi) Φ:=Zau h
theorem Zrp{xs:List D}{lo hi:Option Int}(h:Φ (.tup (cutL xs lo hi))):Tl (dCut (.tup xs) lo hi) Φ:=Zau h
end
section
variable{Φ:Bool→Prop}{ρ:Ev}{a:ME}{s t:MB}
theorem ZuL(h:Tl (a ρ) fun x=>Tl (tru x) Φ):Tl (trb a ρ) Φ:=Zaj h
theorem Zuo{b:Bool}(h:Φ b):Tl (tru (.bl b)) Φ:=Zau h
theorem Ztq(h:Tl (s ρ) fun x=>Tl (if x=true then t ρ else .ok false) Φ):Tl (bAnd s t ρ) Φ:=Zaj h
theorem ZtG(h:Tl (s ρ) fun x=>Tl (if x=true then .ok true else t ρ) Φ):Tl (bOr s t ρ) Φ:=Zaj h
theorem Zrd(h:Tl (s ρ) fun x=>Φ (!x)):Tl (bNot s ρ) Φ:=Zaj (h.mono fun _ q=>Zau q)
theorem Zt4(h:Φ true):Tl (yes ρ) Φ:=Zau h
end
section
variable{Φ:List D→Prop}{ρ:Ev}{a:ME}{m:MA}
theorem Ztu(h:Φ []):Tl (yaa ρ) Φ:=Zau h
theorem ZqR(h:Tl (a ρ) fun x=>Tl (m ρ) fun xs=>Φ (x::xs)):Tl (Zaa a m ρ) Φ:=Zaj (h.mono fun _ q=>Zaj (q.mono fun _ q=>Zau q))
theorem w_iv(h:Tl (a ρ) fun x=>Tl (items x) Φ):Tl (iv a ρ) Φ:=Zaj h
theorem Zuk{xs:List D}(h:Φ xs):Tl (items (.lst xs)) Φ:=Zau h
theorem ZtE{xs:List D}(h:Φ xs):Tl (items (.tup xs)) Φ:=Zau h
theorem w_r1(h:Tl (m ρ) fun xs=>Tl (rng1 xs) Φ):Tl (r1 m ρ) Φ:=Zaj h
theorem ZrR{j:Int}(h0:-1000000000≤j∧j≤1000000000)(h:Φ (Zbn 0 j.toNat)):Tl (rng1 [.int j]) Φ:=Zal (Zql h0.1 h0.2) h
theorem Zth(h:Tl (m ρ) fun xs=>Tl (Zn1 xs) Φ):Tl (ZeU m ρ) Φ:=Zaj h
theorem Zqb{xs:List D}(h:Φ (numbered 0 xs)):Tl (Zn1 [.lst xs]) Φ:=Zau h
theorem ZqO{g:MG}{t:MB}{e:ME}(h:Φ []):Tl (Zai g t e ρ []) Φ:=Zau h
theorem Zhq{g:MG}{t:MB}{e:ME}{x:D}{r:List D}(h:Tl (g x ρ) fun ρ1=>Tl (t ρ1) fun b=>Tl (if b=true then (e ρ1).bind fun y=>(Zai g t e ρ r).bind fun ys=>.ok (y::ys) else Zai g t e ρ r) Φ):Tl (Zai g t e ρ (x::r)) Φ :=
 Zaj (h.mono fun _ q=>Zaj q)
end
section
variable{Φ:Option Int→Prop}{ρ:Ev}{a:ME}
theorem Zug(h:Φ none):Tl (pno ρ) Φ:=Zau h
theorem Zul(h:Tl (a ρ) fun x=>Tl (optI x) Φ):Tl (pso a ρ) Φ:=Zaj h
theorem ZrG{i:Int}(h:Φ (some i)):Tl (optI (.int i)) Φ:=Zau h
end
section
variable{Φ:Ev→Prop}{ρ:Ev}{i n:Nat}{x:D}
theorem w_gN(h:Φ (ρ.set i (.im x))):Tl (gN i x ρ) Φ:=Zau h
theorem ZtP(h:Φ ρ):Tl (gs0 [] ρ) Φ:=Zau h
theorem ZtZ{g:MG}{r:MGs}{ds:List D}(h:Tl (g x ρ) fun ρ'=>Tl (r ds ρ') Φ):Tl (gs1 g r (x::ds) ρ) Φ:=Zaj h
theorem Zt5{g:MGs}{xs:List D}(hl:xs.length=n)(h:Tl (g xs ρ) Φ):Tl (gU n g (.lst xs) ρ) Φ:=by
 show Tl (if xs.length=n then g xs ρ else .bad) Φ
 rw [if_pos hl];exact h
theorem ZuI{g:MGs}{xs:List D}(hl:xs.length=n)(h:Tl (g xs ρ) Φ):Tl (gU n g (.tup xs) ρ) Φ:=by
 show Tl (if xs.length=n then g xs ρ else .bad) Φ
 rw [if_pos hl];exact h
end
section
variable{Φ:Fl→Prop}{ρ:Ev}{a b:ME}{k l:MS}{t:MB}{i j:Nat}
theorem w_sq(h:Tl (k ρ) fun f=>Tl (goOn l f) Φ):Tl (sq k l ρ) Φ:=Zaj h
theorem w_gx(h:Tl (l ρ) Φ):Tl (goOn l (.nx ρ)) Φ:=h
theorem w_gr{x:D}(h:Φ (.rt x)):Tl (goOn l (.rt x)) Φ:=Zau h
theorem w_gc(h:Φ (.ct ρ)):Tl (goOn l (.ct ρ)) Φ:=Zau h
theorem w_st(h:Tl (a ρ) fun x=>Φ (.nx (ρ.set i (.im x)))):Tl (st i a ρ) Φ:=Zaj (h.mono fun _ q=>Zau q)
theorem ZuE(h:Tl (a ρ) fun x=>Φ (.rt x)):Tl (ret a ρ) Φ:=Zaj (h.mono fun _ q=>Zau q)
theorem Zux(h:Φ (.nx ρ)):Tl (nop ρ) Φ:=Zau h
theorem ZtX(h:Φ (.ct ρ)):Tl (cnt ρ) Φ:=Zau h
theorem ZtL(h:Tl (a ρ) fun _=>Φ (.nx ρ)):Tl (drp a ρ) Φ:=Zaj (h.mono fun _ q=>Zau q)
theorem ZuD{g:MG}(h:Tl (a ρ) fun x=>Tl (g x ρ) fun ρ'=>Φ (.nx ρ')):Tl (asg g a ρ) Φ:=Zaj (h.mono fun _ q=>Zaj (q.mono fun _ q=>Zau q))
theorem ZtW(h:Tl (a ρ) fun x=>Tl (b ρ) fun y=>Φ (.nx ((ρ.set i (.im x)).set j (.im y)))):Tl (par i j a b ρ) Φ:=Zaj (h.mono fun _ q=>Zaj (q.mono fun _ q=>Zau q))
theorem ZuB(h:Tl (t ρ) fun x=>Tl (if x=true then k ρ else l ρ) Φ):Tl (ifs t k l ρ) Φ:=Zaj h
theorem ZtQ{it:MI}{g:MG}(h:Tl (it ρ) fun xs=>Tl (ZbM g k xs ρ) Φ):Tl (for_ it g k ρ) Φ:=Zaj h
theorem ZtJ{fu:Ev→Nat}(h:Tl (whGo t k (fu ρ) ρ) Φ):Tl (whl fu t k ρ) Φ:=h
theorem ZtC(h:Tl (a ρ) fun x=>Tl (lstO x) fun xs=>Φ (.nx (ρ.set i (.ow xs)))):Tl (stO i a ρ) Φ:=Zaj (h.mono fun _ q=>Zaj (q.mono fun _ q=>Zau q))
theorem ZsM{Ψ:List D→Prop}{xs:List D}(h:Ψ xs):Tl (lstO (.lst xs)) Ψ:=Zau h
theorem Zrf(h:Tl (getO ρ[i]?) fun xs=>Tl (k (ρ.set i (.im (.lst xs)))) Φ):Tl (frz i k ρ) Φ:=Zaj h
theorem Zrz(h:Tl (getO ρ[i]?) fun xs=>Tl (a ρ) fun d=>xs.length<1000000∧Φ (.nx (ρ.set i (.ow (xs++[d]))))):Tl (app i a ρ) Φ:=by
 refine Zaj (h.mono fun xs q=>Zaj (q.mono fun d q=>?_))
 rw [if_pos (show xs.length<LIM from q.1)]
 exact Zau q.2
theorem w_gO{Ψ:List D→Prop}{o:Option Cl}{xs:List D}(e:o=some (.ow xs))(h:Ψ xs):Tl (getO o) Ψ:=Zal (by rw [e];rfl) h
theorem w_eR{Ψ:D→Prop}{x:D}(h:Ψ x):Tl (endOf (.rt x)) Ψ:=Zau h
theorem w_eN{Ψ:D→Prop}(h:Ψ .non):Tl (endOf (.nx ρ)) Ψ:=Zau h
theorem w_tx(h:Tl (k ρ) Φ):Tl (turn k (.nx ρ)) Φ:=h
theorem w_tr{x:D}(h:Φ (.rt x)):Tl (turn k (.rt x)) Φ:=Zau h
theorem w_f0{g:MG}(h:Φ (.nx ρ)):Tl (ZbM g k [] ρ) Φ:=Zau h
theorem w_f1{g:MG}{x:D}{r:List D}(h:Tl (g x ρ) fun ρ1=>Tl (k ρ1) fun f=>Tl (turn (ZbM g k r) f) Φ):Tl (ZbM g k (x::r) ρ) Φ:=Zaj (h.mono fun _ q=>Zaj q)
theorem Zk7{g:MG}{xs:List D}(I:List D→Ev→Prop)(h0:I [] ρ)(h:∀p x r,xs=p++x::r→∀ρ,I p ρ→Tl (g x ρ) fun ρ1=>Tl (k ρ1) fun f=>∃ρ2,f=.nx ρ2∧I (p++[x]) ρ2)(hd:∀ρ,I xs ρ→Φ (.nx ρ)):Tl (ZbM g k xs ρ) Φ:=by
 obtain ⟨ρ',e,i⟩:=Zfw (g:=g) (b:=k) I xs [] (fun p x r hx ρ i=>by
  obtain ⟨ρ1,e1,f,e2,ρ2,rfl,i2⟩:=h p x r hx ρ i
  exact ⟨ρ1,ρ2,e1,e2,i2⟩) ρ h0
 exact ⟨_,e,hd ρ' i⟩
theorem w_wh{n:Nat}(I:Ev→Prop)(μ:Ev→Nat)(h0:I ρ)(hm:μ ρ<n)(h:∀ρ,I ρ→Tl (t ρ) fun b=>(b=true→Tl (k ρ) fun f=>∃ρ2,f=.nx ρ2∧I ρ2∧μ ρ2<μ ρ)∧(b=false→Φ (.nx ρ))):Tl (whGo t k n ρ) Φ:=by
 induction n generalizing ρ with
 | zero=>exact absurd hm (Nat.not_lt_zero _)
 | succ n ih =>
  rw [ZlU]
  obtain ⟨b,e,q⟩:=h ρ h0
  rw [e]
  cases b with
  | true =>
   obtain ⟨f,e2,ρ2,rfl,i2,l2⟩:=q.1 rfl
   show Tl ((k ρ).bind (turn (whGo t k n))) Φ
   rw [e2]
   exact ih i2 (by omega)
  | false=>exact Zau (q.2 rfl)
theorem Zha:∀{ns ms:List Int},ns.map D.int=ms.map D.int→ns=ms
 | [],[],_=>rfl
 | [],_::_,h=>by cases h
 | _::_,[],h=>by cases h
 | n::r,m::s,h=>by
  have h':D.int n=D.int m∧r.map D.int=s.map D.int:=by simpa using h
  rw [Zha h'.2]
  cases h'.1
  rfl
end
theorem Zc1{α:Type}{Φ:List D→Prop}{g:MG}{e:ME}{ρ:Ev}{enc:α→D}(f:α→D):∀{l:List α},(∀a∈l,Tl (g (enc a) ρ) fun ρ1=>Tl (e ρ1) fun y=>y=f a)→Φ (l.map f)→Tl (Zai g yes e ρ (l.map enc)) Φ:=by
 intro l h q
 have key:∀l:List α,(∀a∈l,Tl (g (enc a) ρ) fun ρ1=>Tl (e ρ1) fun y=>y=f a)→Zai g yes e ρ (l.map enc)=.ok (l.map f):=by
  intro l
  induction l with
  | nil=>exact fun _=>rfl
  | cons a r ih =>
   intro h
   obtain ⟨ρ1,e1,y,e2,rfl⟩:=h a Vao
   have z:=ih fun b hb=>h b (Vap _ hb)
   rw [VaP,ZdR,e1,ZcR]
   unfold yes at z ⊢
   rw [ZcR,if_pos rfl,e2,ZcR,z]
   rfl
 exact Zal (key l h) q
theorem w_all{Φ:List D→Prop}{g:MG}{e:ME}{ρ:Ev}{xs:List D}(P:D→D→Prop)(h:∀x∈xs,Tl (g x ρ) fun ρ1=>Tl (e ρ1) fun y=>P x y)(q:∀ys:List D,ys.length=xs.length→(∀(i:Nat) x y,xs[i]?=some x→ys[i]?=some y→P x y)→Φ ys):Tl (Zai g yes e ρ xs) Φ:=by
 obtain ⟨ys,e1,l,hp⟩:=Zi5 (g:=g) (e:=e) (ρ:=ρ) P xs fun x hx=>by
  obtain ⟨ρ1,e1,y,e2,hp⟩:=h x hx
  exact ⟨ρ1,y,e1,e2,hp⟩
 exact ⟨ys,e1,q ys l hp⟩
section
variable{Φ:D→Prop}
theorem ZtN{x y:D}(h:Tl (dIx x y) Φ):Tl (dIx x y) Φ:=h
theorem Zsj{xs:List D}(h:Tl (bLen xs) Φ):Tl (bLen xs) Φ:=h
theorem Zt2{xs:List D}(h:Tl (bIsi xs) Φ):Tl (bIsi xs) Φ:=h
theorem Zmh{α:Type}{xs:List α}{i:Nat}:at_ xs (i:Int)=xs[i]?:=by
 unfold at_
 rw [if_pos (Int.natCast_nonneg i),VbA]
theorem Zgd{xs:List D}{i:Int}(h:0≤i∧i<xs.length)(q:∀x∈xs,Φ x):Tl (dIx (.lst xs) (.int i)) Φ:=by
 obtain ⟨n,rfl⟩:=Int.eq_ofNat_of_zero_le h.1
 have hn:n<xs.length:=by omega
 rw [ZgZ,Zmh,VbH hn]
 exact Zau (q _ (Vb3 hn))
theorem ZkT{ns:List Int}{i:Int}(h:-(ns.length:Int)≤i∧i<ns.length)(q:∀n∈ns,Φ (.int n)):Tl (dIx (.lst (ns.map .int)) (.int i)) Φ:=by
 rw [ZgZ]
 unfold at_
 rw [VaQ]
 by_cases h0:0≤i
 ·have hn:i.toNat<ns.length:=by omega
  rw [if_pos h0,Va5,VbH hn]
  exact Zau (q _ (Vb3 hn))
 ·have hn:(i+ns.length).toNat<ns.length:=by omega
  rw [if_neg h0,if_pos h.1,Va5,VbH hn]
  exact Zau (q _ (Vb3 hn))
end
mutual
theorem Zja:∀(x:D) (k:Nat),plain k x=true→eqD x x=true
 | .non,_,_=>rfl
 | .bl b,_,_=>by show (b==b)=true;simp
 | .int b,_,_=>by show (b==b)=true;simp
 | .str b,_,_=>by show (b==b)=true;simp
 | .tup xs,0,h=>by simp [plain] at h
 | .lst xs,0,h=>by simp [plain] at h
 | .tup xs,k+1,h=>ZfU xs k (by simpa [plain] using h)
 | .lst xs,k+1,h=>ZfU xs k (by simpa [plain] using h)
 | .ty _,k,h=>by cases k<;>simp [plain] at h
 | .cls _,k,h=>by cases k<;>simp [plain] at h
 | .exc _,k,h=>by cases k<;>simp [plain] at h
theorem ZfU:∀(xs:List D) (k:Nat),ZaA k xs=true→eqDs xs xs=true
 | [],_,_=>rfl
 | x::xs,k,h=>by
  have h':plain k x=true∧ZaA k xs=true:=by simpa [ZaA] using h
  show (eqD x x&&eqDs xs xs)=true
  rw [Zja x k h'.1,ZfU xs k h'.2];rfl
end
def ZhN(i:Nat)(ρ:Ev):Nat:=((ρ[i]?).map absC).getD 0
theorem ZeP:∀(ρ:Ev) (i:Nat),ZhN i ρ<fuel ρ
 | [],i=>by simp [ZhN,fuel]
 | c::r,0=>by simp [ZhN,fuel];omega
 | c::r,i+1=>by
  have:=ZeP r i
  simp [ZhN,fuel] at this ⊢
  omega
theorem mem_range{n:Nat}{x:D}(h:x∈Zbn 0 n):∃k:Nat,k<n∧x=.int (k:Int):=by
 unfold Zbn at h
 obtain ⟨k,hk,rfl⟩:=Vbs.mp h
 exact ⟨k,Vaj.mp hk,by rw [Int.zero_add]⟩
theorem ZiO{Φ:D→Prop}{ys:List D}(h:∀y∈ys,y=.bl true)(q:Φ (.bl true)):Tl (bAll [.lst ys]) Φ:=by
 have key:∀ys:List D,(∀y∈ys,y=.bl true)→∃bs,bools ys=.ok bs∧bs.all id=true:=by
  intro ys
  induction ys with
  | nil=>exact fun _=>⟨[],rfl,rfl⟩
  | cons y r ih =>
   intro h
   obtain ⟨bs,e1,e2⟩:=ih fun z hz=>h z (Vap _ hz)
   obtain rfl:=h y Vao
   exact ⟨true::bs,by show (bools r).bind _=_;rw [e1];rfl,by simpa using e2⟩
 obtain ⟨bs,e1,e2⟩:=key ys h
 refine Zal (x:=.bl true) ?_ q
 show (bools ys).bind (fun bs=>Res.ok (D.bl (bs.all id)))=_
 rw [e1]
 show Res.ok (D.bl (bs.all id))=_
 rw [e2]
section
variable{Φ:D→Prop}{ρ:Ev}{i:Nat}
theorem w_pk{m:ME}(h:Tl (getO ρ[i]?) fun xs=>Tl (m (ρ.set i (.im (.lst xs)))) fun d=>Tl (ZhJ d) Φ):Tl (pk i m ρ) Φ:=Zaj (h.mono fun _ q=>Zaj q)
theorem ZuM{Ψ:Bool→Prop}{m:MB}(h:Tl (getO ρ[i]?) fun xs=>Tl (m (ρ.set i (.im (.lst xs)))) Ψ):Tl (pkB i m ρ) Ψ:=Zaj h
theorem Zud{n:Int}(h:Φ (.int n)):Tl (ZhJ (.int n)) Φ:=Zau h
theorem Ztc{x:D}{ys:List D}(h1:plain 50 x=true)(h2:ZaA 50 ys=true)(h:Φ (.bl (!inD x ys))):Tl (dNin x (.lst ys)) Φ:=by
 refine Zal (x:=.bl (!inD x ys)) ?_ h
 show (if (plain 50 x&&ZaA 50 ys)=true then Res.ok (D.bl (!inD x ys)) else .bad)=_
 rw [h1,h2];rfl
end
end Dl
namespace Dl
section
variable{Φ:D→Prop}
theorem w_p6(h:Φ (.int 1000000)):Tl (dPow (.int 10) (.int 6)) Φ:=Zal rfl h
end
end Dl
namespace Dl
end Dl
namespace Dl
section
variable{Ψ:List D→Prop}{Φ:D→Prop}{ρ:Ev}{m:MA}{xs ys zs:List D}{a b:ME}
theorem ZrY(h:Φ (.lst (trips xs ys zs))):Tl (lz3 [.tup xs,.tup ys,.tup zs]) Φ:=Zau h
end
end Dl
namespace Mt
def gcdL(g:Nat):List Int→Nat
 | []=>g
 | x::r=>gcdL (Nat.gcd g x.natAbs) r
theorem Zji(a b:Nat):Nat.gcd b (a%b)=Nat.gcd a b:=by
 rw [Nat.gcd_comm a b,Nat.gcd_rec b a,Nat.gcd_comm]
theorem Zjb(t b:Int):gcdL 0 [t,b]=Int.gcd t b:=by
 show Nat.gcd (Nat.gcd 0 t.natAbs) b.natAbs=_
 rw [Nat.gcd_zero_left];rfl
def frT(t b:Int):Int:=if b<0 then t.fdiv (-(Int.gcd t b:Int)) else t.fdiv (Int.gcd t b:Int)
def frB(t b:Int):Int:=if b<0 then b.fdiv (-(Int.gcd t b:Int)) else b.fdiv (Int.gcd t b:Int)
theorem Zfj{t b:Int}(h:b≠0):0<Int.gcd t b:=Int.gcd_pos_of_ne_zero_right t h
theorem Zfk{a d q:Int}(h:a=d*q)(hd:d≠0):a.fdiv d=q:=by
 subst h;exact Int.mul_fdiv_cancel_left q hd
structure Fr(t b p q:Int):Prop where
 pos:1≤q
 low:Int.gcd p q=1
 same:p*b=t*q
 np:p.natAbs≤t.natAbs
 nq:q.natAbs≤b.natAbs
theorem Zpn{t b:Int}(h:b≠0):Fr t b (frT t b) (frB t b):=by
 have g0:=Zfj (t:=t) h
 obtain ⟨p,hp⟩:=Int.gcd_dvd_left t b
 obtain ⟨q,hq⟩:=Int.gcd_dvd_right t b
 have gi:(0:Int)<(Int.gcd t b:Int):=Int.natCast_pos.mpr g0
 have hgcd:Int.gcd p q=1:=by
  have e:Int.gcd ((Int.gcd t b:Int)*p) ((Int.gcd t b:Int)*q)=Int.gcd t b*Int.gcd p q:=by
   rw [Int.gcd_mul_left,Vca]
  rw [←hp,←hq] at e
  have e2:Int.gcd t b*Int.gcd p q=Int.gcd t b*1:=by rw [Nat.mul_one];exact e.symm
  exact Nat.eq_of_mul_eq_mul_left g0 e2
 unfold frT frB
 generalize Int.gcd t b=g at *
 have npq:∀{x y:Int},x=(g:Int)*y→y.natAbs≤x.natAbs:=fun {x y} e=>by
  rw [e,Int.natAbs_mul,Vca]
  exact Nat.le_mul_of_pos_left _ g0
 have same:p*b=t*q:=by
  rw [hq,hp,Int.mul_left_comm,Int.mul_assoc]
 have hgn:-(g:Int)≠0:=by omega
 by_cases hb:b<0
 ·rw [if_pos hb,if_pos hb,Zfk (q:=-p) (by rw [Int.neg_mul_neg];exact hp) hgn,Zfk (q:=-q) (by rw [Int.neg_mul_neg];exact hq) hgn]
  have qn:q<0:=by
   rcases Int.lt_or_le q 0 with z | z
   ·exact z
   ·have z2:0≤(g:Int)*q:=Int.mul_nonneg (Int.le_of_lt gi) z
    omega
  exact ⟨by omega,by rw [Int.gcd_neg,Int.neg_gcd];exact hgcd,by rw [Int.neg_mul,Int.mul_neg,same],by rw [Int.natAbs_neg];exact npq hp,by rw [Int.natAbs_neg];exact npq hq⟩
 ·rw [if_neg hb,if_neg hb,Zfk (q:=p) hp (Vcb gi),Zfk (q:=q) hq (Vcb gi)]
  have qn:1≤q:=by
   rcases Int.lt_or_le 0 q with z | z
   ·exact z
   ·have z2:(g:Int)*q≤0:=Int.mul_nonpos_of_nonneg_of_nonpos (Int.le_of_lt gi) z
    omega
  exact ⟨qn,hgcd,same,npq hp,npq hq⟩
theorem Zr1{p q r s:Int}(h1:1≤q)(h2:Int.gcd p q=1)(h3:1≤s)(h4:Int.gcd r s=1)(e:p*s=r*q):p=r∧q=s:=by
 have d1:q∣s:=by
  have z:q∣p*s:=⟨r,by rw [e,Int.mul_comm]⟩
  have z2:q.natAbs∣p.natAbs*s.natAbs:=by rw [←Int.natAbs_mul];exact Vcc.mpr z
  exact Vcc.mp (Nat.Coprime.dvd_of_dvd_mul_left (k:=q.natAbs) (m:=p.natAbs) (by show Nat.gcd _ _=1;rw [Nat.gcd_comm];exact h2) z2)
 have d2:s∣q:=by
  have z:s∣r*q:=⟨p,by rw [←e,Int.mul_comm]⟩
  have z2:s.natAbs∣r.natAbs*q.natAbs:=by rw [←Int.natAbs_mul];exact Vcc.mpr z
  exact Vcc.mp (Nat.Coprime.dvd_of_dvd_mul_left (k:=s.natAbs) (m:=r.natAbs) (by show Nat.gcd _ _=1;rw [Nat.gcd_comm];exact h4) z2)
 have e2:q=s:=Int.le_antisymm (Int.le_of_dvd (by omega) d1) (Int.le_of_dvd (by omega) d2)
 subst e2
 exact ⟨Int.eq_of_mul_eq_mul_right (by omega) e,rfl⟩
theorem ZgX{a d:Int}(h:0<d):(a.fdiv d).natAbs≤a.natAbs:=by
 rw [VaM a (Int.le_of_lt h)]
 have e:=Int.emod_add_mul_ediv a d
 have r0:=VbZ a (Vcb h)
 have r1:=Vb0 a h
 rcases Int.lt_or_le a 0 with z | z
 ·have q0:a/d<0:=Int.ediv_neg_of_neg_of_pos z h
  have:a≤a/d:=by
   have e2:a=a%d+d*(a/d):=e.symm
   have:d*(a/d)≤1*(a/d):=Int.mul_le_mul_of_nonpos_right (by omega) (by omega)
   rcases Int.lt_or_le a (a/d+1) with z | z
   ·omega
   ·exfalso
    have hh:(d - 1)*(a/d)≤(d - 1)*(-1):=Vcd (by omega) (by omega)
    rw [Int.sub_mul] at hh
    omega
  omega
 ·have q0:0≤a/d:=Int.ediv_nonneg z (Int.le_of_lt h)
  have:a/d≤a:=Int.ediv_le_self d z
  omega
end Mt
local macro_rules | `(tactic| walk_at "sm")=>`(tactic| first | assumption | exact Dl.Sm.of64 (by omega) (by omega) | exact Dl.Sm.mul (by walk_at "sm") (by walk_at "sm") | exact Dl.Sm.add (by walk_at "sm") (by walk_at "sm") | exact Dl.Sm.sub (by walk_at "sm") (by walk_at "sm") | exact Dl.Sm.neg (by walk_at "sm") | exact Dl.Sm.min (by walk_at "sm") (by walk_at "sm") | exact Dl.Sm.max (by walk_at "sm") (by walk_at "sm"))
local macro_rules | `(tactic| walk_at "mo")=>`(tactic| first | assumption | exact Dl.ZiA (Dl.Sm.of64 (by omega) (by omega)) | exact Dl.Zo5 (Dl.Sm.of64 (by omega) (by omega)) | exact Dl.ZaC (by walk_at "sm") (by walk_at "sm") (by decide))
local macro_rules | `(tactic| walk_at "lg")=>`(tactic| first | assumption | decide | exact Dl.Sm.log (by walk_at "sm") (by decide))
local macro_rules | `(tactic| walk_at "w1")=>`(tactic| first
 | ((with_reducible refine Dl.w_v' ?_);refine Dl.w_gC rfl ?_) | with_reducible refine Dl.w_o2 ?_ | with_reducible refine Dl.w_c ?_ | with_reducible refine Dl.w_on ?_ | with_reducible refine Dl.ZqR ?_ | with_reducible refine Dl.Ztu ?_ | with_reducible refine Dl.w_sq ?_ | with_reducible refine Dl.w_gx ?_ | with_reducible refine Dl.w_st ?_ | with_reducible refine Dl.ZuB ?_ | with_reducible refine Dl.ZuL ?_ | with_reducible refine Dl.Zuo ?_
 | with_reducible refine Dl.Zrx ?_ | with_reducible refine Dl.w_sub ?_ | ((with_reducible refine Dl.w_mul ?_ ?_);walk_at "mo") | ((with_reducible refine Dl.w_mod ?_ ?_);(first | decide | omega)) | ((with_reducible refine Dl.w_div ?_ ?_ ?_);(first | decide | omega);walk_at "lg")
 | with_reducible refine Dl.w_lt ?_ | with_reducible refine Dl.w_le ?_ | with_reducible refine Dl.w_gt ?_ | with_reducible refine Dl.w_ge ?_ | with_reducible refine Dl.Zuq ?_ | with_reducible refine Dl.Zuh ?_ | with_reducible refine Dl.Ztq ?_ | with_reducible refine Dl.ZtG ?_ | with_reducible refine Dl.Zrd ?_
 | with_reducible refine Dl.ZuE ?_ | with_reducible refine Dl.w_gr ?_ | with_reducible refine Dl.w_eR ?_ | with_reducible refine Dl.Zux ?_ | with_reducible refine Dl.ZuF ?_ | with_reducible refine Dl.Zt7 ?_ | with_reducible refine Dl.w_fn ?_ | with_reducible refine Dl.w_o1 ?_ | with_reducible refine Dl.ZsQ ?_ | with_reducible refine Dl.w_eOr ?_ | with_reducible refine Dl.Zs0 ?_ | with_reducible refine Dl.Zuj ?_ | with_reducible refine Dl.w_chain ?_
 | with_reducible refine Dl.ZqA ?_ | with_reducible refine Dl.Zqq ?_ | with_reducible refine Dl.ZsZ ?_ | with_reducible refine Dl.ZrL ?_ | with_reducible refine Dl.ZtV ?_ | with_reducible refine Dl.w_max ?_ | with_reducible refine Dl.ZuH ?_ | with_reducible refine Dl.Zsw ?_ | with_reducible refine Dl.w_tupT ?_ | with_reducible refine Dl.ZsY ?_ | with_reducible refine Dl.w_lstT ?_ | with_reducible refine Dl.ZuJ ?_
 | with_reducible refine Dl.Zub ?_ | with_reducible refine Dl.Zug ?_ | with_reducible refine Dl.Zul ?_ | with_reducible refine Dl.ZrG ?_ | with_reducible refine Dl.Zsm ?_ | with_reducible refine Dl.Zrp ?_ | with_reducible refine Dl.w_iv ?_ | with_reducible refine Dl.Zuk ?_ | with_reducible refine Dl.ZtE ?_ | with_reducible refine Dl.w_r1 ?_ | ((with_reducible refine Dl.ZrR ?_ ?_);omega) | with_reducible refine Dl.w_gN ?_ | with_reducible refine Dl.ZtP ?_ | with_reducible refine Dl.ZtZ ?_
 | ((with_reducible refine Dl.ZuI ?_ ?_);exact rfl) | ((with_reducible refine Dl.Zt5 ?_ ?_);exact rfl) | with_reducible refine Dl.ZtL ?_ | with_reducible refine Dl.ZuD ?_ | with_reducible refine Dl.ZtW ?_ | with_reducible refine Dl.ZtQ ?_ | with_reducible refine Dl.ZtJ ?_ | with_reducible refine Dl.w_zip ?_ | with_reducible refine Dl.w_zip2 ?_ | with_reducible refine Dl.w_zipTL ?_ | with_reducible refine Dl.w_zipLT ?_ | with_reducible refine Dl.w_zipTT ?_ | with_reducible refine Dl.w_iz3 ?_ | with_reducible refine Dl.w_zip3T ?_ | with_reducible refine Dl.ZrY ?_ | with_reducible refine Dl.w_mLst ?_ | with_reducible refine Dl.Zth ?_ | with_reducible refine Dl.Zqb ?_ | with_reducible refine Dl.Zrr ?_
 | with_reducible refine Dl.w_retN ?_ | with_reducible refine Dl.w_eN ?_ | with_reducible refine Dl.w_brk ?_ | with_reducible refine Dl.ZtX ?_ | with_reducible refine Dl.w_gb ?_ | with_reducible refine Dl.w_gc ?_ | with_reducible refine Dl.Zua ?_ | with_reducible refine Dl.ZrC ?_ | with_reducible refine Dl.w_p6 ?_ | with_reducible refine Dl.w_p8 ?_ | with_reducible refine Dl.w_p20 ?_ | ((with_reducible refine Dl.w_pow ?_ ?_ ?_ ?_);decide;decide;decide) | ((with_reducible refine Dl.w_shl ?_ ?_ ?_ ?_);decide;decide;decide) | ((with_reducible refine Dl.w_shr ?_ ?_);omega) | with_reducible refine Dl.Zt4 ?_
 | with_reducible refine Dl.w_tx ?_ | with_reducible refine Dl.w_tc ?_ | with_reducible refine Dl.w_tb ?_ | with_reducible refine Dl.w_tr ?_ | with_reducible refine Dl.w_max3 ?_ | with_reducible refine Dl.w_sum ?_ | with_reducible refine Dl.w_rev ?_ | ((with_reducible refine Dl.ZuM ?_);refine Dl.w_gO rfl ?_) | ((with_reducible refine Dl.w_pk ?_);refine Dl.w_gO rfl ?_) | with_reducible refine Dl.Zud ?_ | with_reducible refine Dl.w_scB ?_ | with_reducible refine Dl.w_endT ?_ | with_reducible refine Dl.ZtC ?_ | with_reducible refine Dl.ZsM ?_ | ((with_reducible refine Dl.Zrf ?_);refine Dl.w_gO rfl ?_) | ((with_reducible refine Dl.Zrz ?_);refine Dl.w_gO rfl ?_) | ((with_reducible refine Dl.ZtN ?_);refine Dl.Zal rfl ?_) | ((with_reducible refine Dl.Zt2 ?_);refine Dl.Zal rfl ?_) | ((with_reducible refine Dl.Zsj ?_);refine Dl.Zal rfl ?_) | with_reducible refine Dl.Zau ?_ | with_reducible refine Dl.Zaj ?_)
local macro_rules | `(tactic| walk_at "wi")=>`(tactic| first | ((with_reducible refine Dl.Zjn ?_ ?_);exact rfl) | ((with_reducible refine Dl.Zjc ?_ ?_);exact rfl) | ((with_reducible refine Dl.w_dT ?_ ?_);first | assumption | omega) | ((with_reducible refine Dl.w_dF ?_ ?_);first | assumption | omega) | ((with_reducible refine Dl.w_nT ?_ ?_);first | assumption | omega) | ((with_reducible refine Dl.w_nF ?_ ?_);first | assumption | omega))
local macro_rules | `(tactic| walk_at "wr")=>`(tactic| (refine Dl.Zal rfl ?_))
local macro_rules | `(tactic| walk_at "w")=>`(tactic| (repeat (first | walk_at "w1" | walk_at "wi"));try dsimp only [List.set_cons_zero,List.set_cons_succ,Dl.ev0,Dl.evF,Dl.noA,Dl.yar,Dl.imOf,List.getElem?_cons_zero,List.getElem?_cons_succ,Nat.reduceAdd,Nat.reduceSub])
namespace My
open PySem Dl
def objs:List Str:=["Plain", "Shaded", "Patterned", "Glass"]
def Zao:List D→Res D:=fn 2
  (sq (ifs (trb (o2 dLt (v 1) (on bLen (Zaa (v 0) yaa))))
  (ret (o2 dIx (v 0) (v 1)))
  nop)
  (ret (c (.int 0))))
def ZaZ:List D→Res D:=fn 3
  (sq (ifs (bAnd (trb (o2 dGe (v 0) (o2 dShl (c (.int 1)) (c (.int 90))))) (bAnd (trb (o2 dEq (o2 yaz (v 0) (c (.int 2))) (c (.int 1)))) (trb (o2 dGt (o2 dShr (v 0) (o2 yaA (c (.int 1)) (o2 yaI (c (.int 31)) (v 1)))) (c (.int 0))))))
  (ret (o2 yaz (o2 dShr (v 0) (o2 yaA (c (.int 1)) (o2 yaI (c (.int 31)) (v 1)))) (c (.int 2147483648))))
  nop)
  (sq (st 2 (o2 yaz (o2 yaI (o2 yaA (o2 yaA (v 0) (o2 yaI (c (.int 7919)) (v 1))) (c (.int 1))) (c (.int 48271))) (c (.int 2147483647))))
  (sq (st 2 (o2 yaz (o2 yaI (v 2) (o2 yaA (o2 ya8 (v 2) (c (.int 1009))) (c (.int 69621)))) (c (.int 2147483647))))
  (ret (o2 yaz (o2 yaI (v 2) (o2 yaA (o2 yaA (o2 ya8 (v 2) (c (.int 2003))) (c (.int 39373))) (v 1))) (c (.int 2147483629)))))))
def Zax:List D→Res D:=fn 2
  (ret (comp (r1 (Zaa (v 1) yaa)) 1 [0] (gN 0) yes (on ZaZ (Zaa (v 1) (Zaa (v 0) yaa)))))
def Zam:List D→Res D:=fn 5
  (sq (st 1 (c (.int 0)))
  (sq (for_ (iv (v 0)) (gN 2)
  (sq (st 3 (on bAbs (Zaa (v 2) yaa)))
  (whl fuel (trb (o2 dNe (v 3) (c (.int 0))))
  (sq (st 4 (o2 yaz (v 1) (v 3)))
  (sq (st 1 (v 3))
  (st 3 (v 4)))))))
  (ret (v 1))))
def ZaF:List D→Res D:=fn 3
  (sq (st 2 (on Zam (Zaa (mls (Zaa (v 0) (Zaa (v 1) yaa))) yaa)))
  (sq (ifs (trb (o2 dLt (v 1) (c (.int 0))))
  (st 2 (o1 dNeg (v 2)))
  nop)
  (ret (mtp (Zaa (o2 ya8 (v 0) (v 2)) (Zaa (o2 ya8 (v 1) (v 2)) yaa))))))
def Zcd:List D→Res D:=fn 4
  (sq (st 1 (c (.int 0)))
  (sq (st 2 (c (.int 1)))
  (sq (for_ (iv (v 0)) (gN 3)
  (sq (st 1 (o2 yaA (o2 yaI (v 1) (o2 dIx (v 3) (c (.int 1)))) (o2 yaI (o2 dIx (v 3) (c (.int 0))) (v 2))))
  (st 2 (o2 yaI (v 2) (o2 dIx (v 3) (c (.int 1)))))))
  (ret (on ZaF (Zaa (v 1) (Zaa (o2 yaI (v 2) (on bLen (Zaa (v 0) yaa))) yaa)))))))
def Zcl:List D→Res D:=fn 2
  (ret (o1 (dFld objs "colour") (v 0)))
def Zgq:List D→Res D:=fn 1
  (ret (o2 ya8 (o2 dIx (v 0) (c (.int 0))) (o2 dIx (v 0) (c (.int 1)))))
def Zcy:List D→Res D:=fn 4
  (sq (st 3 (o2 dIx (v 0) (o2 yaz (on Zgq (Zaa (v 2) yaa)) (on bLen (Zaa (v 0) yaa)))))
  (ret (o2 dIx (v 3) (o2 yaz (on Zgq (Zaa (v 1) yaa)) (on bLen (Zaa (v 3) yaa))))))
def Zak:List D→Res D:=fn 2
  (ret (on Zcy (Zaa (o1 (dFld objs "pattern") (v 0)) (Zaa (o2 dIx (v 1) (c (.int 0))) (Zaa (o2 dIx (v 1) (c (.int 1))) yaa)))))
def Zbm:List D→Res D:=fn 2
  (ret (o1 (dFld objs "colour") (v 0)))
def Zbd:List D→Res D:=fn 2
  (ret (o2 dIx (v 1) (c (.int 0))))
def Za6:List (Str×(List D→Res D)):=[("Plain", Zbm),("Shaded", Zbd),("Patterned", Zak),("Glass", Zcl)]
def ZeF:List D→Res D:=fn 2
  (ret (on ZaF (Zaa (o2 dSub (o2 yaI (o2 dIx (v 0) (c (.int 0))) (o2 dIx (v 1) (c (.int 1)))) (o2 yaI (o2 dIx (v 1) (c (.int 0))) (o2 dIx (v 0) (c (.int 1))))) (Zaa (o2 yaI (o2 dIx (v 0) (c (.int 1))) (o2 dIx (v 1) (c (.int 1)))) yaa))))
def Zew:List D→Res D:=fn 2
  (ret (on ZaF (Zaa (o2 yaA (o2 yaI (o2 dIx (v 0) (c (.int 0))) (o2 dIx (v 1) (c (.int 1)))) (o2 yaI (o2 dIx (v 1) (c (.int 0))) (o2 dIx (v 0) (c (.int 1))))) (Zaa (o2 yaI (o2 dIx (v 0) (c (.int 1))) (o2 dIx (v 1) (c (.int 1)))) yaa))))
def ZcB:List D→Res D:=fn 2
  (ret (on ZaF (Zaa (o2 yaI (o2 dIx (v 0) (c (.int 0))) (o2 dIx (v 1) (c (.int 0)))) (Zaa (o2 yaI (o2 dIx (v 0) (c (.int 1))) (o2 dIx (v 1) (c (.int 1)))) yaa))))
def ZbC:List D→Res D:=fn 3
  (sq (st 2 (on ZeF (Zaa (mtp (Zaa (c (.int 1)) (Zaa (c (.int 1)) yaa))) (Zaa (o1 (dFld objs "part") (v 0)) yaa))))
  (ret (on Zew (Zaa (on ZcB (Zaa (o1 (dFld objs "part") (v 0)) (Zaa (o1 (dFld objs "colour") (v 0)) yaa))) (Zaa (on ZcB (Zaa (v 2) (Zaa (v 1) yaa))) yaa)))))
def ZbH:List D→Res D:=fn 1
  (ret (c (.bl true)))
def Zay:List D→Res D:=fn 1
  (ret (c (.bl false)))
def Za1:List (Str×(List D→Res D)):=[("Plain", Zay),("Shaded", Zay),("Patterned", Zay),("Glass", ZbH)]
def ZcK:List D→Res D:=fn 2
  (ret (o2 dLt (o2 yaI (o2 dIx (v 0) (c (.int 0))) (o2 dIx (v 1) (c (.int 1)))) (o2 yaI (o2 dIx (v 1) (c (.int 0))) (o2 dIx (v 0) (c (.int 1))))))
def Za5:List D→Res D:=fn 5
  (sq (stO 2 (mls yaa))
  (sq (for_ (iv (v 1)) (gN 3)
  (ifs (bAnd (trb (meth Za1 "is_glass" (o2 dIx (v 3) (c (.int 0))) yaa)) (bOr (trb (o1 dIsN (v 0))) (trb (on ZcK (Zaa (o2 dIx (v 3) (c (.int 1))) (Zaa (o2 dIx (v 0) (c (.int 1))) yaa))))))
  (sq (st 4 (pk 2 (on bLen (Zaa (comp (iv (v 2)) 1 [3] (gN 0) (trb (on ZcK (Zaa (o2 dIx (v 1) (c (.int 1))) (Zaa (o2 dIx (v 0) (c (.int 1))) yaa)))) (v 0)) yaa))))
  (insO 2 (v 4) (v 3)))
  nop))
  (frz 2 (ret (v 2)))))
def ZbN:List D→Res D:=fn 3
  (sq (st 1 (c .non))
  (sq (for_ (iv (v 0)) (gN 2)
  (sq (ifs (trb (meth Za1 "is_glass" (o2 dIx (v 2) (c (.int 0))) yaa))
  cnt
  nop)
  (ifs (bOr (trb (o1 dIsN (v 1))) (trb (on ZcK (Zaa (o2 dIx (v 2) (c (.int 1))) (Zaa (o2 dIx (v 1) (c (.int 1))) yaa)))))
  (st 1 (v 2))
  nop)))
  (ret (v 1))))
def Za0:List D→Res D:=fn 5
  (sq (st 2 (on ZbN (Zaa (v 0) yaa)))
  (sq (st 3 (v 1))
  (sq (ifs (trb (o1 ZkI (v 2)))
  (st 3 (meth Za6 "colour_at" (o2 dIx (v 2) (c (.int 0))) (Zaa (o2 dIx (v 2) (c (.int 2))) yaa)))
  nop)
  (sq (for_ (iv (on Za5 (Zaa (v 2) (Zaa (v 0) yaa)))) (gN 4)
  (st 3 (on ZbC (Zaa (o2 dIx (v 4) (c (.int 0))) (Zaa (v 3) yaa)))))
  (ret (v 3))))))
def Zah:List D→Res D:=fn 2
  (ret (o2 yaA (o2 yaA (o2 yaI (o2 dIx (v 0) (c (.int 0))) (o2 dIx (v 1) (c (.int 0)))) (o2 yaI (o2 dIx (v 0) (c (.int 1))) (o2 dIx (v 1) (c (.int 1))))) (o2 yaI (o2 dIx (v 0) (c (.int 2))) (o2 dIx (v 1) (c (.int 2))))))
def Zb1:List D→Res D:=fn 2
  (ret (on Zah (Zaa (comp (iv (v 0)) 1 [] (gN 0) yes (o2 dIx (v 0) (c (.int 3)))) (Zaa (v 1) yaa))))
def ZaH:List D→Res D:=fn 5
  (sq (st 2 (on Zb1 (Zaa (v 0) (Zaa (v 1) yaa))))
  (sq (st 3 (on ZaF (Zaa (on Zah (Zaa (comp (iv (v 0)) 1 [] (gN 0) yes (o2 dIx (v 0) (c (.int 2)))) (Zaa (v 1) yaa))) (Zaa (v 2) yaa))))
  (sq (st 4 (on lz3 (Zaa (o2 dIx (o2 dIx (v 0) (c (.int 0))) (c (.int 4))) (Zaa (o2 dIx (o2 dIx (v 0) (c (.int 1))) (c (.int 4))) (Zaa (o2 dIx (o2 dIx (v 0) (c (.int 2))) (c (.int 4))) yaa)))))
  (ret (mtp (Zaa (v 3) (Zaa (on bTup (Zaa (comp (iv (v 4)) 1 [2,1] (gN 0) yes (on ZaF (Zaa (on Zah (Zaa (v 0) (Zaa (v 2) yaa))) (Zaa (v 1) yaa)))) yaa)) yaa)))))))
def Zan:List D→Res D:=fn 2
  (for_ (iv (v 0)) (gN 1)
  (ifs (trb (o2 dLe (o2 dIx (v 1) (c (.int 2))) (c (.int 0))))
  (rse "BadTriangle" (Zaa (c (.str "only corners with w above 0 are thrown onto the floor")) yaa))
  nop))
def ZaM:List D→Res D:=fn 2
  (ret (mtp (Zaa (o2 dSub (o2 yaI (o2 dIx (v 0) (c (.int 1))) (o2 dIx (v 1) (c (.int 2)))) (o2 yaI (o2 dIx (v 0) (c (.int 2))) (o2 dIx (v 1) (c (.int 1))))) (Zaa (o2 dSub (o2 yaI (o2 dIx (v 0) (c (.int 2))) (o2 dIx (v 1) (c (.int 0)))) (o2 yaI (o2 dIx (v 0) (c (.int 0))) (o2 dIx (v 1) (c (.int 2))))) (Zaa (o2 dSub (o2 yaI (o2 dIx (v 0) (c (.int 0))) (o2 dIx (v 1) (c (.int 1)))) (o2 yaI (o2 dIx (v 0) (c (.int 1))) (o2 dIx (v 1) (c (.int 0))))) yaa)))))
def Zft:List D→Res D:=fn 5
  (sq (st 3 (on ZaM (Zaa (v 0) (Zaa (v 1) yaa))))
  (sq (for_ (iv (mtp (Zaa (on Zah (Zaa (v 3) (Zaa (v 2) yaa))) (Zaa (o2 dIx (v 3) (c (.int 0))) (Zaa (o2 dIx (v 3) (c (.int 1))) yaa))))) (gN 4)
  (ifs (trb (o2 dNe (v 4) (c (.int 0))))
  (ret (ife (trb (o2 dGt (v 4) (c (.int 0)))) (c (.int 1)) (o1 dNeg (c (.int 1)))))
  nop))
  (ret (c (.int 0)))))
def Zlk:List D→Res D:=fn 3
  (sq (drp (on Zan (Zaa (v 0) yaa)))
  (sq (st 2 (on Zft (Zaa (o2 dIx (v 0) (c (.int 0))) (Zaa (o2 dIx (v 0) (c (.int 1))) (Zaa (v 1) yaa)))))
  (sq (ifs (bOr (trb (o2 dNe (on Zft (Zaa (o2 dIx (v 0) (c (.int 1))) (Zaa (o2 dIx (v 0) (c (.int 2))) (Zaa (v 1) yaa)))) (v 2))) (trb (o2 dNe (on Zft (Zaa (o2 dIx (v 0) (c (.int 2))) (Zaa (o2 dIx (v 0) (c (.int 0))) (Zaa (v 1) yaa)))) (v 2))))
  (ret (c (.int 0)))
  nop)
  (ret (v 2)))))
def ZbJ:List D→Res D:=fn 3
  (ret (on Zah (Zaa (on ZaM (Zaa (v 0) (Zaa (v 1) yaa))) (Zaa (v 2) yaa))))
def Zc8:List D→Res D:=fn 2
  (ret (mtp (Zaa (on ZbJ (Zaa (o2 dIx (v 0) (c (.int 1))) (Zaa (o2 dIx (v 0) (c (.int 2))) (Zaa (v 1) yaa)))) (Zaa (on ZbJ (Zaa (o2 dIx (v 0) (c (.int 2))) (Zaa (o2 dIx (v 0) (c (.int 0))) (Zaa (v 1) yaa)))) (Zaa (on ZbJ (Zaa (o2 dIx (v 0) (c (.int 0))) (Zaa (o2 dIx (v 0) (c (.int 1))) (Zaa (v 1) yaa)))) yaa)))))
def Zat:List D→Res D:=fn 2
  (sq (ifs (trb (o2 dEq (on Zlk (Zaa (v 0) (Zaa (v 1) yaa))) (c (.int 0))))
  (ret (c .non))
  nop)
  (ret (on ZaH (Zaa (v 0) (Zaa (on Zc8 (Zaa (v 0) (Zaa (v 1) yaa))) yaa)))))
def Za3:List D→Res D:=fn 5
  (sq (stO 2 (mls yaa))
  (sq (for_ (iv (v 0)) (gN 3)
  (sq (st 4 (on Zat (Zaa (o1 (dFld objs "triangle") (v 3)) (Zaa (v 1) yaa))))
  (ifs (trb (o1 ZkI (v 4)))
  (app 2 (mtp (Zaa (v 3) (Zaa (o2 dIx (v 4) (c (.int 0))) (Zaa (o2 dIx (v 4) (c (.int 1))) yaa)))))
  nop)))
  (frz 2 (ret (v 2)))))
def Za8:List D→Res D:=fn 3
  (ret (on Za0 (Zaa (on Za3 (Zaa (v 0) (Zaa (v 1) yaa))) (Zaa (v 2) yaa))))
def ZcH:List D→Res D:=fn 10
  (sq (stO 5 (mls yaa))
  (sq (for_ (r1 (Zaa (v 2) yaa)) (gN 6)
  (sq (stO 7 (mls yaa))
  (sq (for_ (r1 (Zaa (v 1) yaa)) (gN 8)
  (sq (st 9 (comp (iv (v 3)) 2 [6,8] (gU 2 (gs1 (gN 0) (gs1 (gN 1) gs0))) yes (mtp (Zaa (o2 yaA (o2 yaI (c (.int 8)) (v 3)) (v 0)) (Zaa (o2 yaA (o2 yaI (c (.int 8)) (v 2)) (v 1)) (Zaa (c (.int 8)) yaa))))))
  (app 7 (on Zcd (Zaa (ZkB (iv (v 9)) 1 [0,4] (gN 0) yes (on Za8 (Zaa (v 1) (Zaa (v 0) (Zaa (v 2) yaa))))) yaa)))))
  (frz 7 (app 5 (v 7))))))
  (frz 5 (ret (v 5)))))
def ZaB:List D→Res D:=fn 1
  (ret (eAnd (on bIsi (Zaa (v 0) (Zaa (c (.ty "int")) yaa))) (eNot (on bIsi (Zaa (v 0) (Zaa (c (.ty "bool")) yaa))))))
def ZaI:List D→Res D:=fn 3
  (ret (eAnd (on ZaB (Zaa (v 0) yaa)) (eAnd (o2 dGe (v 0) (v 1)) (o2 dLe (v 0) (v 2)))))
def Zbk:List D→Res D:=fn 2
  (ifs (bOr (bNot (trb (on ZaI (Zaa (v 0) (Zaa (c (.int 1)) (Zaa (c (.int 64)) yaa)))))) (bNot (trb (on ZaI (Zaa (v 1) (Zaa (c (.int 1)) (Zaa (c (.int 64)) yaa)))))))
  (rse "BadFloor" (Zaa (c (.str "a floor has 1 to 64 cells in a row, and 1 to 64 rows")) yaa))
  nop)
def ZaT:List D→Res D:=fn 1
  (ret (ife (trb (o1 dIsN (v 0))) (mtp (Zaa (c (.int 0)) (Zaa (c (.int 1)) yaa))) (v 0)))
def Zda:List D→Res D:=fn 3
  (sq (st 1 (mtp (Zaa (c (.int 0)) (Zaa (c (.int 1)) yaa))))
  (sq (for_ (iv (v 0)) (gN 2)
  (st 1 (on Zew (Zaa (v 1) (Zaa (v 2) yaa)))))
  (ret (on ZaF (Zaa (o2 dIx (v 1) (c (.int 0))) (Zaa (o2 yaI (o2 dIx (v 1) (c (.int 1))) (on bLen (Zaa (v 0) yaa))) yaa))))))
def Zbf:List D→Res D:=fn 2
  (ret (on Zda (Zaa (comp (iv (v 0)) 1 [1] (gN 0) yes (on Za0 (Zaa (v 0) (Zaa (v 1) yaa)))) yaa)))
def Zee:List D→Res D:=fn 3
  (ret (mtp (Zaa (o2 yaA (o2 yaI (c (.int 8)) (v 0)) (o2 dIx (v 2) (c (.int 0)))) (Zaa (o2 yaA (o2 yaI (c (.int 8)) (v 1)) (o2 dIx (v 2) (c (.int 1)))) (Zaa (c (.int 8)) yaa)))))
def Zcc:List D→Res D:=fn 4
  (ret (ZkB (iv (v 3)) 1 [0,2,1] (gN 0) yes (on Za3 (Zaa (v 1) (Zaa (on Zee (Zaa (v 3) (Zaa (v 2) (Zaa (v 0) yaa)))) yaa)))))
def ZbY:List D→Res D:=fnO 5
  (roC (r1 (Zaa (v 1) yaa)) 1 [0,3,2,4] (gN 0) yes (on Zbf (Zaa (on Zcc (Zaa (v 1) (Zaa (v 0) (Zaa (v 3) (Zaa (v 2) yaa))))) (Zaa (v 4) yaa))))
def Zc9:List D→Res D:=fn 1
  (sq (ifs (bOr (bNot (trb (on bIsi (Zaa (v 0) (Zaa (c (.ty "tuple")) yaa))))) (trb (o2 dNe (on bLen (Zaa (v 0) yaa)) (c (.int 2)))))
  (ret (c (.bl false)))
  nop)
  (ret (eAnd (on ZaI (Zaa (o2 dIx (v 0) (c (.int 0))) (Zaa (c (.int 1)) (Zaa (c (.int 7)) yaa)))) (on ZaI (Zaa (o2 dIx (v 0) (c (.int 1))) (Zaa (c (.int 1)) (Zaa (c (.int 7)) yaa)))))))
def Zbp:List D→Res D:=fn 1
  (sq (ifs (bOr (bNot (trb (on bIsi (Zaa (v 0) (Zaa (c (.ty "list")) yaa))))) (bOr (trb (o2 dLt (on bLen (Zaa (v 0) yaa)) (c (.int 1)))) (trb (o2 dGt (on bLen (Zaa (v 0) yaa)) (c (.int 16))))))
  (rse "BadFloor" (Zaa (c (.str "spots are a list of 1 to 16 tuples")) yaa))
  nop)
  (sq (ifs (bNot (trb (on bAll (Zaa (comp (iv (v 0)) 1 [] (gN 0) yes (on Zc9 (Zaa (v 0) yaa))) yaa))))
  (rse "BadFloor" (Zaa (c (.str "a spot is a tuple of two whole numbers from 1 to 7")) yaa))
  nop)
  (ifs (trb (o2 dNe (o1 ZgQ (v 0)) (on bLen (Zaa (v 0) yaa))))
  (rse "BadFloor" (Zaa (c (.str "the spots of a list are all unlike")) yaa))
  nop)))
def Zap:List D→Res D:=fn 1
  (sq (ifs (trb (o1 dIsN (v 0)))
  (ret (mls (Zaa (mtp (Zaa (c (.int 4)) (Zaa (c (.int 4)) yaa))) yaa)))
  nop)
  (sq (drp (on Zbp (Zaa (v 0) yaa)))
  (ret (v 0))))
def Za9:List D→Res D:=fnR 7
  (soR (drp (on Zbk (Zaa (v 1) (Zaa (v 2) yaa))))
  (soR (st 5 (on Zap (Zaa (v 3) yaa)))
  (soR (st 6 (on ZaT (Zaa (v 4) yaa)))
  (comp (r1 (Zaa (v 2) yaa)) 1 [1,0,5,6] (gN 0) yes (on ZbY (Zaa (v 2) (Zaa (v 1) (Zaa (v 0) (Zaa (v 3) (Zaa (v 4) yaa))))))))))
def Zba:List D→Res D:=fnR 6
  (ifR (bAnd (trb (o1 dIsN (v 3))) (trb (o1 dIsN (v 4))))
  (onK Za9 [none,none] (Zaa (v 0) (Zaa (v 1) (Zaa (v 2) yaa))) yaa)
  (ifR (trb (o2 dEq (v 5) (c (.int 0))))
  (onK Za9 [some 1,some 0] (Zaa (v 0) (Zaa (v 1) (Zaa (v 2) yaa))) (Zaa (v 4) (Zaa (v 3) yaa)))
  (on Za9 (Zaa (v 0) (Zaa (v 1) (Zaa (v 2) (Zaa (v 3) (Zaa (v 4) yaa))))))))
def ZbR:List D→Res D:=fn 5
  (sq (st 1 (on Zax (Zaa (v 0) (Zaa (c (.int 17)) yaa))))
  (sq (stO 2 (mls yaa))
  (sq (for_ (iv (cut (v 1) (pso (c (.int 1))) (pso (o2 yaA (c (.int 2)) (o2 dIx (mls (Zaa (o2 yaz (o2 ya8 (o2 dIx (v 1) (c (.int 0))) (c (.int 8))) (c (.int 3))) (Zaa (o2 yaz (o2 ya8 (o2 dIx (v 1) (c (.int 0))) (c (.int 8))) (c (.int 16))) yaa))) (on bInt (Zaa (o2 dEq (o2 yaz (o2 dIx (v 1) (c (.int 0))) (c (.int 8))) (c (.int 7))) yaa))))))) (gN 3)
  (sq (st 4 (mtp (Zaa (o2 yaA (c (.int 1)) (o2 yaz (v 3) (c (.int 7)))) (Zaa (o2 yaA (c (.int 1)) (o2 yaz (o2 ya8 (v 3) (c (.int 7))) (c (.int 7)))) yaa))))
  (sq (ifs (trb (o2 dEq (o2 yaz (o2 ya8 (v 3) (c (.int 64))) (c (.int 3))) (c (.int 0))))
  (st 4 (mtp (Zaa (c (.int 4)) (Zaa (c (.int 4)) yaa))))
  nop)
  (ifs (pkB 2 (trb (o2 dNin (v 4) (v 2))))
  (app 2 (v 4))
  nop))))
  (frz 2 (ret (v 2))))))
def ZbQ:List D→Res D:=fn 1
  (sq (ifs (bOr (bNot (trb (on bIsi (Zaa (v 0) (Zaa (c (.ty "tuple")) yaa))))) (trb (o2 dGt (on bLen (Zaa (v 0) yaa)) (c (.int 3)))))
  (ret (c (.bl false)))
  nop)
  (ret (on bAll (Zaa (comp (iv (v 0)) 1 [] (gN 0) yes (on ZaB (Zaa (v 0) yaa))) yaa))))
def Zb5:List D→Res D:=fn 1
  (sq (ifs (bOr (bNot (trb (on bIsi (Zaa (v 0) (Zaa (c (.ty "tuple")) yaa))))) (trb (o2 dNe (on bLen (Zaa (v 0) yaa)) (c (.int 5)))))
  (ret (c (.bl false)))
  nop)
  (sq (ifs (bNot (trb (on bAll (Zaa (comp (iv (cut (v 0) pno (pso (c (.int 4))))) 1 [] (gN 0) yes (on ZaB (Zaa (v 0) yaa))) yaa))))
  (ret (c (.bl false)))
  nop)
  (ret (eAnd (o2 dGe (o2 dIx (v 0) (c (.int 3))) (c (.int 1))) (on ZbQ (Zaa (o2 dIx (v 0) (c (.int 4))) yaa))))))
def ZaS:List D→Res D:=fn 2
  (sq (ifs (bOr (bNot (trb (on bIsi (Zaa (v 0) (Zaa (c (.ty "tuple")) yaa))))) (trb (o2 dNe (on bLen (Zaa (v 0) yaa)) (c (.int 3)))))
  (rse "BadTriangle" (Zaa (c (.str "a triangle is a tuple of three corners")) yaa))
  nop)
  (for_ (iv (v 0)) (gN 1)
  (sq (ifs (bNot (trb (on Zb5 (Zaa (v 1) yaa))))
  (rse "BadTriangle" (Zaa (c (.str "a corner is a tuple (x, y, w, h, values) of whole numbers, h from 1 on")) yaa))
  nop)
  (ifs (trb (o2 dNe (on bLen (Zaa (o2 dIx (v 1) (c (.int 4))) yaa)) (on bLen (Zaa (o2 dIx (o2 dIx (v 0) (c (.int 0))) (c (.int 4))) yaa))))
  (rse "BadTriangle" (Zaa (c (.str "the corners of a triangle have as many values each")) yaa))
  nop))))
def ZbS:List D→Fs→Res Fs:=fnI 2
  (iDrp (on ZaS (Zaa (v 1) yaa))
  (iDrp (on Zan (Zaa (v 1) yaa))
  (iSet "triangle" (v 1)
  iEnd)))
def ZaE:List D→Res D:=fn 1
  (sq (ifs (bOr (bNot (trb (on bIsi (Zaa (v 0) (Zaa (c (.ty "tuple")) yaa))))) (trb (o2 dNe (on bLen (Zaa (v 0) yaa)) (c (.int 2)))))
  (ret (c (.bl false)))
  nop)
  (sq (ifs (bOr (bNot (trb (on ZaB (Zaa (o2 dIx (v 0) (c (.int 0))) yaa)))) (bNot (trb (on ZaB (Zaa (o2 dIx (v 0) (c (.int 1))) yaa)))))
  (ret (c (.bl false)))
  nop)
  (ret (eAnd (o2 dGe (o2 dIx (v 0) (c (.int 1))) (c (.int 1))) (o2 dEq (on Zam (Zaa (v 0) yaa)) (c (.int 1)))))))
def ZaL:List D→Res D:=fn 1
  (ifs (bNot (trb (on ZaE (Zaa (v 0) yaa))))
  (rse "BadThing" (Zaa (c (.str "a colour is a fraction in lowest terms")) yaa))
  nop)
def ZbP:List D→Res D:=fn 1
  (ifs (bOr (bNot (trb (on ZaE (Zaa (v 0) yaa)))) (bOr (trb (o2 dLt (o2 dIx (v 0) (c (.int 0))) (c (.int 0)))) (trb (o2 dGt (o2 dIx (v 0) (c (.int 0))) (o2 dIx (v 0) (c (.int 1)))))))
  (rse "BadThing" (Zaa (c (.str "a part is a fraction in lowest terms, from 0 to 1")) yaa))
  nop)
def ZeG:List D→Fs→Res Fs:=fnI 4
  (iSup ZbS (Zaa (v 1) yaa)
  (iDrp (on ZaL (Zaa (v 2) yaa))
  (iDrp (on ZbP (Zaa (v 3) yaa))
  (iSet "colour" (v 2)
  (iSet "part" (v 3)
  iEnd)))))
def ZaO:List D→Res D:=fn 2
  (sq (ifs (bOr (bNot (trb (on bIsi (Zaa (v 0) (Zaa (c (.ty "list")) yaa))))) (trb (o2 dNin (on bLen (Zaa (v 0) yaa)) (c (.tup [.int 1,.int 2,.int 4,.int 8,.int 16])))))
  (rse "BadPattern" (Zaa (c (.str "a pattern is a list of 1, 2, 4, 8 or 16 rows")) yaa))
  nop)
  (for_ (iv (v 0)) (gN 1)
  (sq (ifs (bOr (bNot (trb (on bIsi (Zaa (v 1) (Zaa (c (.ty "list")) yaa))))) (trb (o2 dNin (on bLen (Zaa (v 1) yaa)) (c (.tup [.int 1,.int 2,.int 4,.int 8,.int 16])))))
  (rse "BadPattern" (Zaa (c (.str "a row of a pattern is a list of 1, 2, 4, 8 or 16 fractions")) yaa))
  nop)
  (sq (ifs (trb (o2 dNe (on bLen (Zaa (v 1) yaa)) (on bLen (Zaa (o2 dIx (v 0) (c (.int 0))) yaa))))
  (rse "BadPattern" (Zaa (c (.str "the rows of a pattern have as many fractions each")) yaa))
  nop)
  (ifs (bNot (trb (on bAll (Zaa (comp (iv (v 1)) 1 [] (gN 0) yes (on ZaE (Zaa (v 0) yaa))) yaa))))
  (rse "BadPattern" (Zaa (c (.str "what stands in a pattern is a fraction in lowest terms")) yaa))
  nop)))))
def ZaJ:List D→Res D:=fn 2
  (ifs (trb (o2 dLt (on bLen (Zaa (o2 dIx (o2 dIx (v 0) (c (.int 0))) (c (.int 4))) yaa)) (v 1)))
  badS
  nop)
def Zdt:List D→Res D:=fn 1
  (ret (comp (iv (v 0)) 1 [] (gN 0) yes (on bLst (Zaa (v 0) yaa))))
def ZbD:List D→Fs→Res Fs:=fnI 3
  (iSup ZbS (Zaa (v 1) yaa)
  (iDrp (on ZaJ (Zaa (v 1) (Zaa (c (.int 2)) yaa)))
  (iDrp (on ZaO (Zaa (v 2) yaa))
  (iSet "pattern" (on Zdt (Zaa (v 2) yaa))
  iEnd))))
def ZeS:List D→Fs→Res Fs:=fnI 3
  (iSup ZbS (Zaa (v 1) yaa)
  (iDrp (on ZaL (Zaa (v 2) yaa))
  (iSet "colour" (v 2)
  iEnd)))
def Zdw:List D→Fs→Res Fs:=fnI 2
  (iSup ZbS (Zaa (v 1) yaa)
  (iDrp (on ZaJ (Zaa (v 1) (Zaa (c (.int 1)) yaa)))
  iEnd))
def Zbb:List D→Res D:=fn 9
  (sq (st 2 (o2 dIx (mls (Zaa (c (.int 1)) (Zaa (c (.int 2)) (Zaa (c (.int 4)) (Zaa (c (.int 16)) yaa))))) (o2 yaz (v 0) (c (.int 4)))))
  (sq (st 3 (o2 dIx (mls (Zaa (c (.int 1)) (Zaa (c (.int 2)) (Zaa (c (.int 8)) (Zaa (c (.int 4)) yaa))))) (o2 yaz (o2 ya8 (v 0) (c (.int 4))) (c (.int 4)))))
  (sq (stO 4 (mls yaa))
  (sq (for_ (r1 (Zaa (v 2) yaa)) (gN 5)
  (sq (stO 6 (mls yaa))
  (sq (for_ (r1 (Zaa (v 3) yaa)) (gN 7)
  (sq (st 8 (on ZaZ (Zaa (v 1) (Zaa (o2 yaA (o2 yaI (c (.int 20)) (v 5)) (v 7)) yaa))))
  (app 6 (o2 dIx (mls (Zaa (mtp (Zaa (o2 yaz (v 8) (c (.int 7))) (Zaa (c (.int 1)) yaa))) (Zaa (on ZaF (Zaa (o2 dSub (v 8) (o2 dPow (c (.int 10)) (c (.int 9)))) (Zaa (o2 yaA (c (.int 1)) (o2 yaz (o2 ya8 (v 8) (c (.int 9))) (c (.int 99)))) yaa))) yaa))) (o2 yaz (o2 ya8 (v 0) (c (.int 16))) (c (.int 2)))))))
  (frz 6 (app 4 (v 6))))))
  (frz 4 (ret (v 4)))))))
def ZbO:List D→Res D:=fn 10
  (sq (asg (gU 4 (gs1 (gN 2) (gs1 (gN 3) (gs1 (gN 4) (gs1 (gN 5) gs0))))) (v 0))
  (sq (st 6 (mls (Zaa (mtp (Zaa (o2 dSub (o2 yaz (o2 ya8 (v 2) (c (.int 8))) (c (.int 9))) (c (.int 2))) (Zaa (c (.int 1)) yaa))) (Zaa (on ZaF (Zaa (o2 yaA (o2 yaI (c (.int 2)) (o2 yaz (o2 ya8 (v 2) (c (.int 8))) (c (.int 9)))) (c (.int 1))) (Zaa (c (.int 2)) yaa))) (Zaa (on ZaF (Zaa (o2 dSub (v 3) (o2 dPow (c (.int 10)) (c (.int 9)))) (Zaa (o2 yaA (c (.int 1)) (v 4)) yaa))) yaa)))))
  (sq (st 6 (o2 dIx (v 6) (o2 yaz (o2 ya8 (v 2) (c (.int 128))) (c (.int 3)))))
  (sq (st 7 (o2 yaz (v 2) (c (.int 5))))
  (sq (ifs (trb (o2 dEq (v 7) (c (.int 0))))
  (sq (st 8 (o2 yaA (c (.int 1)) (o2 yaz (o2 ya8 (v 2) (c (.int 8))) (c (.int 3)))))
  (ret (make "Shaded" Zdw (Zaa (on bTup (Zaa (comp (iv (v 1)) 1 [8] (gN 0) yes (o2 yaA (cut (v 0) pno (pso (c (.int 4)))) (mtp (Zaa (cut (o2 dIx (v 0) (c (.int 4))) pno (pso (v 1))) yaa)))) yaa)) yaa))))
  nop)
  (sq (ifs (trb (o2 dEq (v 7) (c (.int 1))))
  (ret (make "Patterned" ZbD (Zaa (v 1) (Zaa (on Zbb (Zaa (o2 ya8 (v 2) (c (.int 512))) (Zaa (v 5) yaa))) yaa))))
  nop)
  (sq (ifs (trb (o2 dEq (v 7) (c (.int 2))))
  (ret (make "Plain" ZeS (Zaa (v 1) (Zaa (v 6) yaa))))
  nop)
  (sq (st 9 (o2 dIx (mls (Zaa (mtp (Zaa (c (.int 0)) (Zaa (c (.int 1)) yaa))) (Zaa (mtp (Zaa (c (.int 1)) (Zaa (c (.int 2)) yaa))) (Zaa (mtp (Zaa (c (.int 1)) (Zaa (c (.int 3)) yaa))) (Zaa (mtp (Zaa (c (.int 2)) (Zaa (c (.int 3)) yaa))) (Zaa (mtp (Zaa (c (.int 1)) (Zaa (c (.int 1)) yaa))) (Zaa (on ZaF (Zaa (o2 yaz (v 5) (o2 yaA (c (.int 1)) (v 3))) (Zaa (o2 yaA (c (.int 1)) (v 3)) yaa))) yaa))))))) (o2 yaz (o2 ya8 (v 2) (c (.int 512))) (c (.int 6)))))
  (ret (make "Glass" ZeG (Zaa (v 1) (Zaa (v 6) (Zaa (v 9) yaa)))))))))))))
def Za7:List D→Res D:=fn 11
  (sq (asg (gU 2 (gs1 (gN 2) (gs1 (gN 3) gs0))) (cut (v 0) pno (pso (c (.int 2)))))
  (sq (st 4 (o2 dIx (mls (Zaa (c (.int 2)) (Zaa (c (.int 8)) (Zaa (c (.int 1)) (Zaa (c (.int 2)) yaa))))) (o2 yaz (o2 ya8 (v 2) (c (.int 4))) (c (.int 4)))))
  (sq (st 5 (o2 yaA (c (.int 1)) (o2 yaz (o2 ya8 (v 2) (c (.int 16))) (c (.int 3)))))
  (sq (st 6 (o2 yaI (v 5) (o2 dSub (o2 yaz (o2 ya8 (v 2) (c (.int 64))) (o2 yaA (o2 yaI (v 4) (c (.int 8))) (c (.int 1)))) (v 4))))
  (sq (st 7 (o2 yaI (v 5) (o2 dSub (o2 yaz (v 3) (o2 yaA (o2 yaI (v 4) (c (.int 8))) (c (.int 1)))) (v 4))))
  (sq (st 8 (o2 yaI (v 4) (v 5)))
  (sq (st 9 (o2 dIx (mls (Zaa (c (.int 1)) (Zaa (v 8) (Zaa (o2 yaA (c (.int 1)) (o2 yaz (o2 ya8 (v 3) (c (.int 512))) (c (.int 9)))) (Zaa (v 8) yaa))))) (o2 yaz (o2 ya8 (v 3) (c (.int 32))) (c (.int 4)))))
  (sq (st 10 (on bTup (Zaa (comp (r1 (Zaa (v 1) yaa)) 1 [0] (gN 0) yes (o2 dSub (o2 yaz (o2 dIx (v 1) (o2 yaA (c (.int 6)) (v 0))) (c (.int 41))) (c (.int 10)))) yaa)))
  (sq (ifs (trb (o2 dEq (o2 yaz (v 2) (c (.int 4))) (c (.int 3))))
  (sq (st 6 (o2 dSub (o2 yaz (o2 dIx (v 0) (c (.int 2))) (c (.int 2000001))) (o2 dPow (c (.int 10)) (c (.int 6)))))
  (sq (st 7 (o2 dSub (o2 yaz (o2 dIx (v 0) (c (.int 3))) (c (.int 2000001))) (o2 dPow (c (.int 10)) (c (.int 6)))))
  (sq (st 8 (o2 yaA (c (.int 1)) (o2 yaz (o2 dIx (v 0) (c (.int 4))) (o2 dPow (c (.int 10)) (c (.int 6))))))
  (sq (st 9 (o2 yaA (c (.int 1)) (o2 yaz (o2 dIx (v 0) (c (.int 5))) (o2 dPow (c (.int 10)) (c (.int 6))))))
  (st 10 (on bTup (Zaa (comp (r1 (Zaa (v 1) yaa)) 1 [0] (gN 0) yes (o2 dSub (o2 yaz (o2 dIx (v 1) (o2 yaA (c (.int 6)) (v 0))) (c (.int 2000001))) (o2 dPow (c (.int 10)) (c (.int 6))))) yaa)))))))
  nop)
  (sq (ifs (trb (o2 dEq (o2 yaz (v 2) (c (.int 4))) (c (.int 2))))
  (sq (st 8 (o2 yaA (c (.int 1)) (o2 yaz (o2 ya8 (v 3) (c (.int 4096))) (c (.int 300)))))
  (st 6 (o2 dSub (o2 yaz (o2 dIx (v 0) (c (.int 2))) (c (.int 2001))) (c (.int 1000)))))
  nop)
  (ret (mtp (Zaa (v 6) (Zaa (v 7) (Zaa (v 8) (Zaa (v 9) (Zaa (v 10) yaa)))))))))))))))))
def ZaU:List D→Res D:=fn 12
  (sq (st 4 (o2 yaA (c (.int 6)) (v 3)))
  (sq (st 5 (comp (r1 (Zaa (c (.int 6)) yaa)) 1 [4,0,1] (gN 0) yes (on Zax (Zaa (on Zao (Zaa (v 2) (Zaa (o2 yaA (v 3) (v 0)) yaa))) (Zaa (o2 yaI (c (.int 3)) (v 1)) yaa)))))
  (sq (st 6 (comp (iv (v 5)) 1 [4,3] (gN 0) yes (on Za7 (Zaa (cut (v 0) pno (pso (v 1))) (Zaa (v 2) yaa)))))
  (sq (st 7 (on Zax (Zaa (on Zao (Zaa (v 0) (Zaa (o2 yaA (v 1) (c (.int 6))) yaa))) (Zaa (o2 yaA (v 2) (c (.int 1))) yaa))))
  (sq (stO 8 (mls yaa))
  (sq (for_ (r1 (Zaa (o2 yaz (o2 dIx (v 7) (c (.int 0))) (o2 yaA (v 2) (c (.int 1)))) yaa)) (gN 9)
  (sq (st 10 (o2 dIx (v 7) (o2 yaA (c (.int 1)) (v 9))))
  (sq (st 11 (mls (Zaa (o2 dIx (v 6) (o2 yaz (v 10) (c (.int 6)))) (Zaa (o2 dIx (v 6) (o2 yaz (o2 ya8 (v 10) (c (.int 6))) (c (.int 6)))) (Zaa (o2 dIx (v 6) (o2 yaz (o2 ya8 (v 10) (c (.int 36))) (c (.int 6)))) yaa)))))
  (sq (ifs (trb (o2 dEq (o2 yaz (o2 ya8 (v 10) (c (.int 216))) (c (.int 4))) (c (.int 1))))
  (st 11 (comp (r1 (Zaa (c (.int 3)) yaa)) 1 [4,5,3,9] (gN 0) yes (on Za7 (Zaa (cut (o2 dIx (v 2) (v 4)) (pso (o2 yaI (v 1) (v 0))) (pso (o2 yaA (o2 yaI (v 1) (v 0)) (v 1)))) (Zaa (v 3) yaa)))))
  nop)
  (app 8 (mtp (Zaa (o2 dIx (v 11) (c (.int 0))) (Zaa (o2 dIx (v 11) (c (.int 1))) (Zaa (o2 dIx (v 11) (c (.int 2))) yaa)))))))))
  (frz 8 (ret (v 8)))))))))
def Zbt:List D→Res D:=fn 8
  (sq (st 3 (on Zax (Zaa (on Zao (Zaa (v 0) (Zaa (o2 yaA (v 1) (c (.int 7))) yaa))) (Zaa (o2 yaI (c (.int 4)) (v 2)) yaa))))
  (sq (stO 4 (mls yaa))
  (sq (st 5 (o2 yaA (c (.int 2)) (o2 yaz (o2 ya8 (on Zao (Zaa (v 0) (Zaa (o2 yaA (v 1) (c (.int 7))) yaa))) (c (.int 2))) (c (.int 2)))))
  (sq (for_ (ZeU (Zaa (on ZaU (Zaa (v 0) (Zaa (v 1) (Zaa (v 2) (Zaa (v 5) yaa))))) yaa)) (gU 2 (gs1 (gN 6) (gs1 (gN 7) gs0)))
  (app 4 (on ZbO (Zaa (cut (v 3) (pso (o2 yaI (c (.int 4)) (v 6))) (pso (o2 yaA (o2 yaI (c (.int 4)) (v 6)) (c (.int 4))))) (Zaa (v 7) yaa)))))
  (frz 4 (ret (v 4)))))))
def Zpo:List D→Res D:=fn 14
  (sq (st 1 (on Zbt (Zaa (v 0) (Zaa (c (.int 0)) (Zaa (c (.int 5)) yaa)))))
  (sq (asg (gU 2 (gs1 (gN 2) (gs1 (gN 3) gs0))) (on Zax (Zaa (on Zao (Zaa (v 0) (Zaa (c (.int 8)) yaa))) (Zaa (c (.int 2)) yaa))))
  (sq (st 4 (o2 yaA (c (.int 1)) (o2 yaz (v 2) (c (.int 6)))))
  (sq (st 5 (o2 yaA (c (.int 1)) (o2 yaz (o2 ya8 (v 2) (c (.int 8))) (c (.int 5)))))
  (sq (ifs (trb (o2 dEq (o2 yaz (o2 ya8 (v 3) (c (.int 64))) (c (.int 4))) (c (.int 1))))
  (st 1 (o2 yaA (v 1) (cut (v 1) pno (pso (c (.int 2))))))
  nop)
  (sq (ifs (trb (o2 dEq (o2 yaz (o2 ya8 (v 2) (c (.int 64))) (c (.int 16))) (c (.int 3))))
  (sq (asg (gU 2 (gs1 (gN 4) (gs1 (gN 5) gs0))) (o2 dIx (mls (Zaa (mtp (Zaa (c (.int 64)) (Zaa (c (.int 1)) yaa))) (Zaa (mtp (Zaa (c (.int 1)) (Zaa (c (.int 64)) yaa))) (Zaa (mtp (Zaa (c (.int 64)) (Zaa (c (.int 6)) yaa))) (Zaa (mtp (Zaa (c (.int 5)) (Zaa (c (.int 64)) yaa))) yaa))))) (o2 yaz (o2 ya8 (v 2) (c (.int 1024))) (c (.int 4)))))
  (st 1 (cut (v 1) pno (pso (o2 yaA (c (.int 1)) (on bInt (Zaa (o2 dEq (o2 yaI (v 4) (v 5)) (c (.int 64))) yaa)))))))
  nop)
  (sq (st 6 (on ZbR (Zaa (on Zao (Zaa (v 0) (Zaa (c (.int 9)) yaa))) yaa)))
  (sq (ifs (bAnd (trb (o2 dGt (on bLen (Zaa (v 6) yaa)) (c (.int 3)))) (trb (o2 dLt (o2 yaI (v 4) (v 5)) (c (.int 64)))))
  (par 4 5 (on bMin (Zaa (v 4) (Zaa (c (.int 2)) yaa))) (on bMin (Zaa (v 5) (Zaa (c (.int 2)) yaa))))
  (ifs (trb (o2 dGe (o2 yaI (v 4) (v 5)) (c (.int 64))))
  (st 6 (cut (v 6) pno (pso (c (.int 1)))))
  nop))
  (sq (st 7 (o2 dIx (mls (Zaa (c .non) (Zaa (v 6) yaa))) (o2 ya8 (o2 yaz (v 3) (c (.int 4))) (c (.int 2)))))
  (sq (st 8 (o2 dIx (mls (Zaa (c .non) (Zaa (mtp (Zaa (c (.int 0)) (Zaa (c (.int 1)) yaa))) (Zaa (mtp (Zaa (c (.int 5)) (Zaa (c (.int 3)) yaa))) (Zaa (mtp (Zaa (o1 dNeg (c (.int 2))) (Zaa (c (.int 1)) yaa))) yaa))))) (o2 yaz (o2 ya8 (v 3) (c (.int 4))) (c (.int 4)))))
  (sq (st 9 (o2 dIx (mls (Zaa (v 7) (Zaa (mls (Zaa (mtp (Zaa (c (.int 4)) (Zaa (c (.int 4)) yaa))) yaa)) yaa))) (on bInt (Zaa (o1 dIsN (v 7)) yaa))))
  (sq (st 10 (on ZcH (Zaa (v 1) (Zaa (v 4) (Zaa (v 5) (Zaa (v 9) (Zaa (o2 dIx (mls (Zaa (v 8) (Zaa (mtp (Zaa (c (.int 0)) (Zaa (c (.int 1)) yaa))) yaa))) (on bInt (Zaa (o1 dIsN (v 8)) yaa))) yaa)))))))
  (sq (st 11 (on bLst (Zaa (v 1) yaa)))
  (sq (for_ (r1 (Zaa (c (.int 2)) yaa)) (gN 12)
  (ZgB 13 (on Zba (Zaa (v 11) (Zaa (v 4) (Zaa (v 5) (Zaa (v 7) (Zaa (v 8) (Zaa (o2 yaz (o2 ya8 (v 3) (c (.int 16))) (c (.int 3))) yaa))))))) (bOr (bNot (trb (on bIsi (Zaa (v 13) (Zaa (c (.ty "list")) yaa))))) (bOr (trb (o2 dNe (v 13) (v 10))) (trb (o2 dNe (on bLen (Zaa (v 11) yaa)) (on bLen (Zaa (v 1) yaa))))))
  (ret (c (.bl false)))
  (mtp (Zaa (c (.int 1)) (Zaa (c (.int 1)) yaa)))
  nop))
  (ret (c (.bl true)))))))))))))))))
theorem Zk6{Φ:D→Prop}{cc k:Int}(hk:0≤k∧k≤1000)(h:∀r:Int,0≤r∧r<2147483648→Φ (.int r)):Tl (ZaZ [.int cc,.int k]) Φ:=by
 unfold ZaZ
 walk_at "w"
 refine Zb9 (fun _=>?_) (fun _=>?_)
 ·walk_at "w"
  refine Zb9 (fun _=>?_) (fun _=>?_)
  ·walk_at "w"
   refine Zb9 (fun _=>?_) (fun _=>?_)
   ·walk_at "w"
    exact h _ (by omega)
   ·walk_at "w"
    exact h _ (by omega)
  ·walk_at "w"
   exact h _ (by omega)
 ·walk_at "w"
  exact h _ (by omega)
def cor(x y w h:Int)(vs:List Int):D:=.tup [.int x,.int y,.int w,.int h,.tup (vs.map .int)]
def Bd(x:Int):Prop:=-1000000≤x∧x≤1000000
theorem ZqN{ys:List D}{n:Nat}(hl:ys.length=n)(h:∀y∈ys,∃v:Int,y=.int v∧Bd v):∃vs:List Int,ys=vs.map .int∧vs.length=n∧∀v∈vs,Bd v:=by
 induction ys generalizing n with
 | nil=>exact ⟨[],rfl,hl,fun _ h=>(VbQ h).elim⟩
 | cons y r ih =>
  obtain ⟨v,rfl,hv⟩:=h y Vao
  obtain ⟨vs,rfl,l,hb⟩:=ih (n:=r.length) rfl fun z hz=>h z (Vap _ hz)
  refine ⟨v::vs,rfl,by simpa using hl,fun u hu=>?_⟩
  rcases Var.mp hu with rfl | hu
  ·exact hv
  ·exact hb u hu
theorem Zoj{Φ:List D→Prop}{g:MG}{e:ME}{ρ:Ev}{n:Nat}(h:∀k:Nat,k<n→Tl (g (.int k) ρ) fun ρ1=>Tl (e ρ1) fun y=>∃v:Int,y=.int v∧Bd v)(q:∀vs:List Int,vs.length=n→(∀v∈vs,Bd v)→Φ (vs.map .int)):Tl (Zai g yes e ρ (Zbn 0 n)) Φ:=by
 have hl:(Zbn 0 n).length=n:=by unfold Zbn;simp
 refine w_all (fun _ y=>∃v:Int,y=.int v∧Bd v) (fun x hx=>?_) fun ys l hp=>?_
 ·obtain ⟨k,hk,rfl⟩:=mem_range hx
  exact h k hk
 ·obtain ⟨vs,rfl,l2,hb⟩:=ZqN (n:=n) (l.trans hl) fun y hy=>by
   obtain ⟨i,hi,rfl⟩:=VbX.mp hy
   exact hp i _ _ (VbH (by omega)) (VbH hi)
  exact q vs l2 hb
theorem ZcF{Φ:D→Prop}{ns:List Int}{k:Int}(hk:0≤k)(h:∀n:Int,Φ (.int n)):Tl (Zao [.lst (ns.map .int),.int k]) Φ:=by
 unfold Zao
 walk_at "w"
 refine Zb9 (fun hl=>?_) (fun _=>?_)
 ·walk_at "w"
  refine ZkT (by omega) fun n _=>?_
  walk_at "w"
  exact h n
 ·walk_at "w"
  exact h 0
end My
namespace Mt
end Mt
namespace My
open PySem Dl
theorem Zep{Φ:D→Prop}{ns:List Int}(h:Φ (.int (Mt.gcdL 0 ns))):Tl (Zam [.lst (ns.map .int)]) Φ:=by
 unfold Zam
 walk_at "w"
 refine Zk7 (fun p ρ=>∃(p':List Int) (v2 v3 v4:Cl),p=p'.map .int∧ρ=[.im (.lst (ns.map .int)),.im (.int (Mt.gcdL 0 p')),v2,v3,v4]) ⟨[],_,_,_,rfl,rfl⟩ ?_ ?_
 ·rintro p x r hx ρ ⟨p',v2,v3,v4,rfl,rfl⟩
  obtain ⟨n,rfl⟩ : ∃n:Int,x=.int n:=by
   have:x∈ns.map .int:=by rw [hx];simp
   obtain ⟨n,_,rfl⟩:=Vbs.mp this
   exact ⟨n,rfl⟩
  walk_at "w"
  refine w_wh (fun ρ=>∃(f m:Nat) (v4:Cl),ρ=[.im (.lst (ns.map .int)),.im (.int f),.im (.int n),.im (.int m),v4]∧Nat.gcd f m=Nat.gcd (Mt.gcdL 0 p') n.natAbs) (ZhN 3) ⟨_,_,_,rfl,rfl⟩ (ZeP _ _) ?_
  rintro ρ ⟨f,m,v4,rfl,e⟩
  walk_at "w"
  refine ⟨fun hb=>?_,fun hb=>?_⟩
  ·have hm:m≠0:=by simpa using hb
   walk_at "w"
   refine ⟨_,rfl,⟨m,f%m,_,rfl,?_⟩,?_⟩
   ·rw [←e,Mt.Zji]
   ·have:=VbY f (Nat.pos_of_ne_zero hm)
    simp [ZhN,absC]
    omega
  ·have hm:m=0:=by simpa using hb
   subst hm
   rw [Nat.gcd_zero_right] at e
   have e2:Mt.gcdL 0 (p'++[n])=Nat.gcd (Mt.gcdL 0 p') n.natAbs:=by
    have key:∀(l:List Int) (g:Nat),Mt.gcdL g (l++[n])=Nat.gcd (Mt.gcdL g l) n.natAbs:=by
     intro l
     induction l with
     | nil=>exact fun g=>rfl
     | cons y l ih=>exact fun g=>ih _
    exact key p' 0
   exact ⟨_,rfl,p'++[n],.im (.int n),.im (.int ((0:Nat):Int)),v4,by simp,by rw [e2,←e]⟩
 ·rintro ρ ⟨p',v2,v3,v4,hp,rfl⟩
  walk_at "w"
  have:ns=p':=Zha hp
  rw [←this]
  exact h
theorem ZdS{Φ:D→Prop}{ns:List Int}(h:Φ (.int (Mt.gcdL 0 ns))):Tl (Zam [.tup (ns.map .int)]) Φ:=by
 unfold Zam
 walk_at "w"
 refine Zk7 (fun p ρ=>∃(p':List Int) (v2 v3 v4:Cl),p=p'.map .int∧ρ=[.im (.tup (ns.map .int)),.im (.int (Mt.gcdL 0 p')),v2,v3,v4]) ⟨[],_,_,_,rfl,rfl⟩ ?_ ?_
 ·rintro p x r hx ρ ⟨p',v2,v3,v4,rfl,rfl⟩
  obtain ⟨n,rfl⟩ : ∃n:Int,x=.int n:=by
   have:x∈ns.map .int:=by rw [hx];simp
   obtain ⟨n,_,rfl⟩:=Vbs.mp this
   exact ⟨n,rfl⟩
  walk_at "w"
  refine w_wh (fun ρ=>∃(f m:Nat) (v4:Cl),ρ=[.im (.tup (ns.map .int)),.im (.int f),.im (.int n),.im (.int m),v4]∧Nat.gcd f m=Nat.gcd (Mt.gcdL 0 p') n.natAbs) (ZhN 3) ⟨_,_,_,rfl,rfl⟩ (ZeP _ _) ?_
  rintro ρ ⟨f,m,v4,rfl,e⟩
  walk_at "w"
  refine ⟨fun hb=>?_,fun hb=>?_⟩
  ·have hm:m≠0:=by simpa using hb
   walk_at "w"
   refine ⟨_,rfl,⟨m,f%m,_,rfl,?_⟩,?_⟩
   ·rw [←e,Mt.Zji]
   ·have:=VbY f (Nat.pos_of_ne_zero hm)
    simp [ZhN,absC]
    omega
  ·have hm:m=0:=by simpa using hb
   subst hm
   rw [Nat.gcd_zero_right] at e
   have e2:Mt.gcdL 0 (p'++[n])=Nat.gcd (Mt.gcdL 0 p') n.natAbs:=by
    have key:∀(l:List Int) (g:Nat),Mt.gcdL g (l++[n])=Nat.gcd (Mt.gcdL g l) n.natAbs:=by
     intro l
     induction l with
     | nil=>exact fun g=>rfl
     | cons y l ih=>exact fun g=>ih _
    exact key p' 0
   exact ⟨_,rfl,p'++[n],.im (.int n),.im (.int ((0:Nat):Int)),v4,by simp,by rw [e2,←e]⟩
 ·rintro ρ ⟨p',v2,v3,v4,hp,rfl⟩
  walk_at "w"
  have:ns=p':=Zha hp
  rw [←this]
  exact h
def fra(t b:Int):D:=.tup [.int (Mt.frT t b),.int (Mt.frB t b)]
theorem Zsd{t b:Int}(h:b≠0):Int.gcd t b≤b.natAbs:=Nat.le_of_dvd (by omega) (Vcc.mpr (Int.gcd_dvd_right t b) |> fun y=>by simpa using y)
theorem Zoq{Φ:D→Prop}{x y:Int}{k:Nat}(hy:0<y)(s:Sm k y)(hk:k≤8900)(h:Φ (.int (x.fdiv y))):Tl (ya8 (.int x) (.int y)) Φ:=by
 refine w_div hy (s.log (by omega)) ?_
 rw [←VaM _ (by omega)]
 exact h
theorem Zob{Φ:D→Prop}{x y:Int}{k:Nat}(hy:y<0)(s:Sm k y)(hk:k≤8900)(h:Φ (.int (x.fdiv y))):Tl (ya8 (.int x) (.int y)) Φ:=w_divN hy (s.log (by omega)) h
theorem ZgR{Φ:D→Prop}{t b:Int}{k:Nat}(hb:b≠0)(sb:Sm k b)(hk:k≤8900)(h:Φ (fra t b)):Tl (ZaF [.int t,.int b]) Φ:=by
 have g0:=Mt.Zfj (t:=t) hb
 have sg:Sm k (Int.gcd t b:Int):=sb.le (by rw [Vca];exact Zsd hb)
 unfold ZaF
 walk_at "w"
 refine Zep (ns:=[t,b]) ?_
 rw [Mt.Zjb]
 walk_at "w"
 unfold fra Mt.frT Mt.frB at h
 refine Zb9 (fun h0=>?_) (fun h0=>?_)
 ·walk_at "w"
  rw [if_pos h0,if_pos h0] at h
  refine Zob (by omega) sg.neg hk ?_
  walk_at "w"
  refine Zob (by omega) sg.neg hk ?_
  walk_at "w"
  exact h
 ·walk_at "w"
  rw [if_neg h0,if_neg h0] at h
  refine Zoq (by omega) sg hk ?_
  walk_at "w"
  refine Zoq (by omega) sg hk ?_
  walk_at "w"
  exact h
abbrev dot(x y z e f g:Int):Int:=x*e+y*f+z*g
theorem ZjN{x y z e f g:Int}{k n:Nat}(hx:Sm k x)(hy:Sm k y)(hz:Sm k z)(he:Sm n e)(hf:Sm n f)(hg:Sm n g):Sm (k+n+2) (dot x y z e f g):=(((hx.mul he).add (hy.mul hf)).add (hz.mul hg)).mono (by omega)
theorem ZoF{Φ:D→Prop}{x y z e f g:Int}{k n:Nat}(hx:Sm k x)(hy:Sm k y)(hz:Sm k z)(he:Sm n e)(hf:Sm n f)(hg:Sm n g)(hk:k+n≤8000)(q:Φ (.int (dot x y z e f g))):Tl (Zah [.lst [.int x,.int y,.int z],.tup [.int e,.int f,.int g]]) Φ:=by
 have m1:ZaR x e=true:=ZaC hx he (by omega)
 have m2:ZaR y f=true:=ZaC hy hf (by omega)
 have m3:ZaR z g=true:=ZaC hz hg (by omega)
 unfold Zah
 walk_at "w"
 exact q
theorem Ztj{Φ:D→Prop}{x y z e f g:Int}{k n:Nat}(hx:Sm k x)(hy:Sm k y)(hz:Sm k z)(he:Sm n e)(hf:Sm n f)(hg:Sm n g)(hk:k+n≤8000)(q:Φ (.int (dot x y z e f g))):Tl (Zah [.tup [.int x,.int y,.int z],.tup [.int e,.int f,.int g]]) Φ:=by
 have m1:ZaR x e=true:=ZaC hx he (by omega)
 have m2:ZaR y f=true:=ZaC hy hf (by omega)
 have m3:ZaR z g=true:=ZaC hz hg (by omega)
 unfold Zah
 walk_at "w"
 exact q
structure Cv(k:Nat)(x y w h:Int)(vs:List Int):Prop where
 fx:Sm k x
 fy:Sm k y
 fw:Sm k w
 fh:Sm k h
 fv:∀v∈vs,Sm k v
 f1:1≤h
theorem Zlq{Φ:D→Prop}{ax ay aw ah bx bY bw bh cx cy cw ch e f g:Int}{av bv cv:List Int}{k n:Nat}(a:Cv k ax ay aw ah av)(b:Cv k bx bY bw bh bv)(c:Cv k cx cy cw ch cv)(he:Sm n e)(hf:Sm n f)(hg:Sm n g)(hk:k+n≤8000)(q:Φ (.int (dot ah bh ch e f g))):Tl (Zb1 [.tup [cor ax ay aw ah av,cor bx bY bw bh bv,cor cx cy cw ch cv],.tup [.int e,.int f,.int g]]) Φ:=by
 unfold Zb1 cor
 walk_at "w"
 refine ⟨by show (3:Nat)≤_;omega,?_⟩
 refine Zhq ?_
 walk_at "w"
 refine Zhq ?_
 walk_at "w"
 refine Zhq ?_
 walk_at "w"
 refine ZqO ?_
 walk_at "w"
 refine ZoF a.fh b.fh c.fh he hf hg hk ?_
 walk_at "w"
 exact q
theorem ZgK:∀(xs ys zs:List Int),trips (xs.map .int) (ys.map .int) (zs.map .int)=(xs.zip (ys.zip zs)).map fun t=>.tup [.int t.1,.int t.2.1,.int t.2.2]
 | [],_,_=>by simp [trips]
 | _::_,[],_=>by simp [trips]
 | _::_,_::_,[]=>by simp [trips]
 | x::xs,y::ys,z::zs=>by simp [trips,ZgK xs ys zs]
def vls(av bv cv:List Int)(e f g B:Int):List D:=(av.zip (bv.zip cv)).map fun t=>fra (dot t.1 t.2.1 t.2.2 e f g) B
theorem ZjI{av bv cv:List Int}{t:Int×Int×Int}(h:t∈av.zip (bv.zip cv)):t.1∈av∧t.2.1∈bv∧t.2.2∈cv:=by
 obtain ⟨x,y,z⟩:=t
 have h1:=VaZ h
 have h2:=VaZ h1.2
 exact ⟨h1.1,h2.1,h2.2⟩
theorem Zqp{Φ:D→Prop}{ax ay aw ah bx bY bw bh cx cy cw ch e f g:Int}{av bv cv:List Int}{k n:Nat}(a:Cv k ax ay aw ah av)(b:Cv k bx bY bw bh bv)(c:Cv k cx cy cw ch cv)(he:Sm n e)(hf:Sm n f)(hg:Sm n g)(hk:k+n≤7000)(hl:av.length≤1000)(h0:dot ah bh ch e f g≠0)
  (q:Φ (.tup [fra (dot aw bw cw e f g) (dot ah bh ch e f g),.tup (vls av bv cv e f g (dot ah bh ch e f g))])):Tl (ZaH [.tup [cor ax ay aw ah av,cor bx bY bw bh bv,cor cx cy cw ch cv],.tup [.int e,.int f,.int g]]) Φ:=by
 have sB:=ZjN a.fh b.fh c.fh he hf hg
 unfold ZaH
 walk_at "w"
 refine Zlq a b c he hf hg (by omega) ?_
 generalize dot ah bh ch e f g=B at *
 unfold cor
 walk_at "w"
 refine ⟨by show (3:Nat)≤_;omega,?_⟩
 refine Zhq ?_
 walk_at "w"
 refine Zhq ?_
 walk_at "w"
 refine Zhq ?_
 walk_at "w"
 refine ZqO ?_
 walk_at "w"
 refine ZoF a.fw b.fw c.fw he hf hg (by omega) ?_
 walk_at "w"
 refine ZgR h0 sB (by omega) ?_
 walk_at "w"
 rw [ZgK]
 refine ⟨by rw [VaQ,Vce];omega,?_⟩
 refine Zc1 (fun t=>fra (dot t.1 t.2.1 t.2.2 e f g) B) (fun t ht=>?_) ?_
 ·obtain ⟨t1,t2,t3⟩:=ZjI ht
  walk_at "w"
  refine Ztj (a.fv _ t1) (b.fv _ t2) (c.fv _ t3) he hf hg (by omega) ?_
  walk_at "w"
  exact ZgR h0 sB (by omega) rfl
 walk_at "w"
 exact q
abbrev ow(ax ay aw bx bY bw cx cy cw:Int):Int:=(ay*bw - aw*bY)*cx+(aw*bx - ax*bw)*cy+(ax*bY - ay*bx)*cw
theorem sm6{x:Int}(h:-100000000≤x∧x≤100000000):Sm 64 x:=Sm.of64 (by omega) (by omega)
structure Cr(x y w:Int):Prop where
 x:Sm 64 x
 y:Sm 64 y
 w:Sm 64 w
theorem Cr.n{ax ay aw bx bY bw:Int}(a:Cr ax ay aw)(b:Cr bx bY bw):Sm 129 (ay*bw - aw*bY)∧Sm 129 (aw*bx - ax*bw)∧Sm 129 (ax*bY - ay*bx) :=
 ⟨(a.y.mul b.w).sub (a.w.mul b.y),(a.w.mul b.x).sub (a.x.mul b.w),(a.x.mul b.y).sub (a.y.mul b.x)⟩
theorem Cr.ow{ax ay aw bx bY bw cx cy cw:Int}(a:Cr ax ay aw)(b:Cr bx bY bw)(c:Cr cx cy cw):Sm 200 (ow ax ay aw bx bY bw cx cy cw):=by
 obtain ⟨n1,n2,n3⟩:=a.n b
 exact (((n1.mul c.x).add (n2.mul c.y)).add (n3.mul c.w)).mono (by decide)
theorem Bd.s{x:Int}(h:Bd x):Sm 64 x:=sm6 ⟨by have:=h.1;omega,by have:=h.2;omega⟩
theorem ZdG{Φ:D→Prop}{ax ay aw ah bx bY bw bh:Int}{av bv:List Int}(a:Cr ax ay aw)(b:Cr bx bY bw)(h:Φ (.tup [.int (ay*bw - aw*bY),.int (aw*bx - ax*bw),.int (ax*bY - ay*bx)])):Tl (ZaM [cor ax ay aw ah av,cor bx bY bw bh bv]) Φ:=by
 obtain ⟨a1,a2,a3⟩:=a
 obtain ⟨b1,b2,b3⟩:=b
 unfold ZaM cor
 walk_at "w"
 exact h
theorem Zjd{Φ:D→Prop}{l m n px py ps:Int}(hl:Sm 129 l)(hm:Sm 129 m)(hn:Sm 129 n)(p:Cr px py ps)(h:Φ (.int (l*px+m*py+n*ps))):Tl (Zah [.tup [.int l,.int m,.int n],.tup [.int px,.int py,.int ps]]) Φ:=by
 obtain ⟨p1,p2,p3⟩:=p
 unfold Zah
 walk_at "w"
 exact h
def sg(x:Int):Int:=if 0<x then 1 else if x<0 then -1 else 0
def sd3(s m n:Int):Int:=if s=0 then (if m=0 then sg n else sg m) else sg s
theorem ZlE{x:Int}(h:0<x):sg x=1:=if_pos h
theorem ZkF{x:Int}(h:x<0):sg x=-1:=by unfold sg;rw [if_neg (by omega),if_pos h]
theorem ZqB:sg 0=0:=rfl
theorem ZlJ(x:Int):sg (-x)=- sg x:=by unfold sg;split<;>split<;>(try split)<;>(try split)<;>omega
theorem Zp0(s m n:Int):sd3 (-s) (-m) (-n)=- sd3 s m n:=by
 unfold sd3
 rw [ZlJ,ZlJ,ZlJ]
 split<;>split<;>(try split)<;>(try split)<;>omega
theorem ZoZ{x:Int}:sg x=1∧0<x∨sg x=0∧x=0∨sg x=-1∧x<0:=by
 unfold sg;split<;>(try split)<;>omega
theorem Zmj(x:Int):sg x=1∨sg x=0∨sg x=-1:=by
 rcases ZoZ (x:=x) with h | h | h
 ·exact .inl h.1
 ·exact .inr (.inl h.1)
 ·exact .inr (.inr h.1)
theorem Zrs(s m n:Int):sd3 s m n=1∨sd3 s m n=0∨sd3 s m n=-1:=by
 unfold sd3
 by_cases h:s=0
 ·rw [if_pos h]
  by_cases h':m=0
  ·rw [if_pos h'];exact Zmj n
  ·rw [if_neg h'];exact Zmj m
 ·rw [if_neg h];exact Zmj s
theorem Zmy{s m n e:Int}{P Q R:Prop}(h1:sg s=e↔P)(h2:sg m=e↔Q)(h3:sg n=e↔R):sd3 s m n=e↔(¬s=0∧P)∨(s=0∧((¬m=0∧Q)∨(m=0∧R))):=by
 unfold sd3
 by_cases h:s=0
 ·rw [if_pos h]
  by_cases h':m=0
  ·rw [if_pos h',h3];simp [h,h']
  ·rw [if_neg h',h2];simp [h,h']
 ·rw [if_neg h,h1];simp [h]
theorem Zk0{x:Int}:sg x=1↔0<x:=by rcases ZoZ (x:=x) with h | h | h<;>omega
theorem ZkN{x:Int}:sg x=-1↔x<0:=by rcases ZoZ (x:=x) with h | h | h<;>omega
abbrev sdE(ax ay aw bx bY bw px py ps:Int):Int:=sd3 (ow ax ay aw bx bY bw px py ps) (ay*bw - aw*bY) (aw*bx - ax*bw)
theorem ZiP(ax ay aw bx bY bw px py ps:Int):sdE bx bY bw ax ay aw px py ps=- sdE ax ay aw bx bY bw px py ps:=by
 unfold sdE
 rw [←Zp0]
 congr 1
 ·unfold ow;grind
 ·grind
 ·grind
theorem w_side{Φ:D→Prop}{ax ay aw ah bx bY bw bh px py ps:Int}{av bv:List Int}(a:Cr ax ay aw)(b:Cr bx bY bw)(p:Cr px py ps)(h:Φ (.int (sdE ax ay aw bx bY bw px py ps))):Tl (Zft [cor ax ay aw ah av,cor bx bY bw bh bv,.tup [.int px,.int py,.int ps]]) Φ:=by
 unfold Zft
 walk_at "w"
 refine ZdG a b ?_
 walk_at "w"
 obtain ⟨n1,n2,n3⟩:=a.n b
 refine Zjd n1 n2 n3 p ?_
 walk_at "w"
 unfold sdE sd3 at h
 change Φ (.int (if ow ax ay aw bx bY bw px py ps=0 then _ else _)) at h
 show Tl (ZbM _ _ [.int (ow ax ay aw bx bY bw px py ps),.int _,.int _] _) _
 generalize ow ax ay aw bx bY bw px py ps=s at *
 generalize ay*bw - aw*bY=m at *
 generalize aw*bx - ax*bw=n at *
 refine w_f1 ?_
 walk_at "w"
 refine ZgJ (fun h0=>?_) (fun h0=>?_)
 ·rw [if_neg h0] at h
  walk_at "w"
  refine Zb9 (fun h1=>?_) (fun h1=>?_)
  ·walk_at "w"
   rw [ZlE h1] at h
   exact h
  ·walk_at "w"
   rw [ZkF (by omega)] at h
   exact h
 rw [if_pos h0] at h
 walk_at "w"
 refine w_f1 ?_
 walk_at "w"
 refine ZgJ (fun h0=>?_) (fun h0=>?_)
 ·rw [if_neg h0] at h
  walk_at "w"
  refine Zb9 (fun h1=>?_) (fun h1=>?_)
  ·walk_at "w"
   rw [ZlE h1] at h
   exact h
  ·walk_at "w"
   rw [ZkF (by omega)] at h
   exact h
 rw [if_pos h0] at h
 walk_at "w"
 refine w_f1 ?_
 walk_at "w"
 refine ZgJ (fun h0=>?_) (fun h0=>?_)
 ·walk_at "w"
  refine Zb9 (fun h1=>?_) (fun h1=>?_)
  ·walk_at "w"
   rw [ZlE h1] at h
   exact h
  ·walk_at "w"
   rw [ZkF (by omega)] at h
   exact h
 walk_at "w"
 refine w_f0 ?_
 walk_at "w"
 rw [h0,ZqB] at h
 exact h
theorem Zqz{Φ:D→Prop}{ax ay aw ah bx bY bw bh cx cy cw ch:Int}{av bv cv:List Int}(ha:1≤aw)(hb:1≤bw)(hc:1≤cw)(h:Φ .non):Tl (Zan [.tup [cor ax ay aw ah av,cor bx bY bw bh bv,cor cx cy cw ch cv]]) Φ:=by
 unfold Zan cor
 walk_at "w"
 refine w_f1 ?_
 walk_at "w"
 refine w_f1 ?_
 walk_at "w"
 refine w_f1 ?_
 walk_at "w"
 refine w_f0 ?_
 walk_at "w"
 exact h
def hd3(ab bc ca:Int):Int:=if ab=bc∧bc=ca then ab else 0
theorem Zts{Φ:D→Prop}{ax ay aw ah bx bY bw bh cx cy cw ch px py ps:Int}{av bv cv:List Int}(ha:1≤aw)(hb:1≤bw)(hc:1≤cw)(a:Cr ax ay aw)(b:Cr bx bY bw)(c:Cr cx cy cw)(p:Cr px py ps)(h:Φ (.int (hd3 (sdE ax ay aw bx bY bw px py ps) (sdE bx bY bw cx cy cw px py ps) (sdE cx cy cw ax ay aw px py ps)))):Tl (Zlk [.tup [cor ax ay aw ah av,cor bx bY bw bh bv,cor cx cy cw ch cv],.tup [.int px,.int py,.int ps]]) Φ:=by
 unfold Zlk
 walk_at "w"
 refine Zqz ha hb hc ?_
 walk_at "w"
 refine w_side a b p ?_
 walk_at "w"
 refine w_side b c p ?_
 walk_at "w"
 unfold hd3 at h
 refine ZgJ (fun h0=>?_) (fun h0=>?_)
 ·walk_at "w"
  rw [if_neg (by omega)] at h
  exact h
 walk_at "w"
 refine w_side c a p ?_
 walk_at "w"
 refine ZgJ (fun h1=>?_) (fun h1=>?_)
 ·walk_at "w"
  rw [if_neg (by omega)] at h
  exact h
 walk_at "w"
 rw [if_pos (by omega)] at h
 exact h
theorem ZeR{Φ:D→Prop}{ax ay aw ah bx bY bw bh px py ps:Int}{av bv:List Int}(a:Cr ax ay aw)(b:Cr bx bY bw)(p:Cr px py ps)(h:Φ (.int (ow ax ay aw bx bY bw px py ps))):Tl (ZbJ [cor ax ay aw ah av,cor bx bY bw bh bv,.tup [.int px,.int py,.int ps]]) Φ:=by
 unfold ZbJ
 walk_at "w"
 refine ZdG a b ?_
 walk_at "w"
 obtain ⟨n1,n2,n3⟩:=a.n b
 refine Zjd n1 n2 n3 p ?_
 walk_at "w"
 exact h
theorem Zma{Φ:D→Prop}{ax ay aw ah bx bY bw bh cx cy cw ch px py ps:Int}{av bv cv:List Int}(a:Cr ax ay aw)(b:Cr bx bY bw)(c:Cr cx cy cw)(p:Cr px py ps)
  (h:Φ (.tup [.int (ow bx bY bw cx cy cw px py ps),.int (ow cx cy cw ax ay aw px py ps),.int (ow ax ay aw bx bY bw px py ps)])):Tl (Zc8 [.tup [cor ax ay aw ah av,cor bx bY bw bh bv,cor cx cy cw ch cv],.tup [.int px,.int py,.int ps]]) Φ:=by
 unfold Zc8
 walk_at "w"
 refine ZeR b c p ?_
 walk_at "w"
 refine ZeR c a p ?_
 walk_at "w"
 refine ZeR a b p ?_
 walk_at "w"
 exact h
theorem ZkK{s m n:Int}:sd3 s m n=1↔0<s∨(s=0∧(0<m∨(m=0∧0<n))):=by
 rw [Zmy Zk0 Zk0 Zk0]
 omega
theorem Zne{s m n:Int}:sd3 s m n=-1↔s<0∨(s=0∧(m<0∨(m=0∧n<0))):=by
 rw [Zmy ZkN ZkN ZkN]
 omega
theorem mul0{a b:Int}(ha:0<a)(hb:0≤b):0≤a*b:=Int.mul_nonneg (Int.le_of_lt ha) hb
theorem ZiL{a b c x y z:Int}(ha:0<a)(hb:0<b)(hc:0<c)(hx:0≤x)(hy:0≤y)(hz:0≤z)(h:a*x+b*y+c*z≤0):x=0∧y=0∧z=0:=by
 have h1:=mul0 ha hx
 have h2:=mul0 hb hy
 have h3:=mul0 hc hz
 refine ⟨?_,?_,?_⟩
 ·rcases Int.mul_eq_zero.mp (show a*x=0 by omega) with h | h<;>omega
 ·rcases Int.mul_eq_zero.mp (show b*y=0 by omega) with h | h<;>omega
 ·rcases Int.mul_eq_zero.mp (show c*z=0 by omega) with h | h<;>omega
theorem Zl0{ax ay aw bx bY bw cx cy cw px py ps:Int}(ha:0<aw)(hb:0<bw)(hc:0<cw)(hp:0<ps)(h1:sdE ax ay aw bx bY bw px py ps=1)(h2:sdE bx bY bw cx cy cw px py ps=1)(h3:sdE cx cy cw ax ay aw px py ps=1):0<ow ax ay aw bx bY bw cx cy cw:=by
 unfold sdE at h1 h2 h3
 rw [ZkK] at h1 h2 h3
 have i0:aw*ow bx bY bw cx cy cw px py ps+bw*ow cx cy cw ax ay aw px py ps+cw*ow ax ay aw bx bY bw px py ps=ow ax ay aw bx bY bw cx cy cw*ps:=by unfold ow;grind
 have i1:aw*(bY*cw - bw*cy)+bw*(cy*aw - cw*ay)+cw*(ay*bw - aw*bY)=0:=by grind
 have i2:aw*(bw*cx - bx*cw)+bw*(cw*ax - cx*aw)+cw*(aw*bx - ax*bw)=0:=by grind
 generalize ow bx bY bw cx cy cw px py ps=e at *
 generalize ow cx cy cw ax ay aw px py ps=f at *
 generalize ow ax ay aw bx bY bw px py ps=g at *
 generalize ow ax ay aw bx bY bw cx cy cw=o at *
 by_cases ho:0<o
 ·exact ho
 exfalso
 have ho':o*ps≤0:=by
  have:=Int.mul_nonneg (show 0≤-o by omega) (show 0≤ps by omega)
  rw [Int.neg_mul] at this
  omega
 obtain ⟨z1,z2,z3⟩:=ZiL ha hb hc (x:=e) (y:=f) (z:=g) (by omega) (by omega) (by omega) (by omega)
 obtain ⟨y1,y2,y3⟩:=ZiL ha hb hc (x:=bY*cw - bw*cy) (y:=cy*aw - cw*ay) (z:=ay*bw - aw*bY) (by omega) (by omega) (by omega) (by omega)
 obtain ⟨x1,x2,x3⟩:=ZiL ha hb hc (x:=bw*cx - bx*cw) (y:=cw*ax - cx*aw) (z:=aw*bx - ax*bw) (by omega) (by omega) (by omega) (by omega)
 omega
theorem Zqo{ax ay aw bx bY bw cx cy cw px py ps:Int}(ha:0<aw)(hb:0<bw)(hc:0<cw)(hp:0<ps)(h1:sdE ax ay aw bx bY bw px py ps=-1)(h2:sdE bx bY bw cx cy cw px py ps=-1)(h3:sdE cx cy cw ax ay aw px py ps=-1):ow ax ay aw bx bY bw cx cy cw<0:=by
 have z:=Zl0 hc hb ha hp (by rw [ZiP bx bY bw cx cy cw,h2];rfl) (by rw [ZiP ax ay aw bx bY bw,h1];rfl) (by rw [ZiP cx cy cw ax ay aw,h3];rfl)
 have e:ow cx cy cw bx bY bw ax ay aw=- ow ax ay aw bx bY bw cx cy cw:=by unfold ow;grind
 omega
abbrev hdE(ax ay aw bx bY bw cx cy cw px py ps:Int):Int:=hd3 (sdE ax ay aw bx bY bw px py ps) (sdE bx bY bw cx cy cw px py ps) (sdE cx cy cw ax ay aw px py ps)
theorem ZlH{x y z:Int}(hx:x=1∨x=0∨x=-1)(h:hd3 x y z≠0):∃e,(e=1∨e=-1)∧x=e∧y=e∧z=e:=by
 unfold hd3 at h
 split at h
 ·exact ⟨x,by omega,rfl,by omega,by omega⟩
 ·exact absurd rfl h
theorem Zfp{Φ:Fl→Prop}{g:MG}{k:MS}{ρ:Ev}{enc:Nat→D}{n:Nat}(I:Nat→Ev→Prop)(h0:I 0 ρ)(h:∀j,j<n→∀ρ,I j ρ→Tl (g (enc j) ρ) fun ρ1=>Tl (k ρ1) fun f=>∃ρ2,f=.nx ρ2∧I (j+1) ρ2)(hd:∀ρ,I n ρ→Φ (.nx ρ)):Tl (ZbM g k ((List.range n).map enc) ρ) Φ:=by
 refine Zk7 (fun p ρ=>I p.length ρ) h0 (fun p x r e ρ i=>?_) fun ρ i=>?_
 ·have l:p.length<n:=by
   have:=Vay List.length e
   simp at this
   omega
  have ex:x=enc p.length:=by
   have z:=Vay (fun l=>l[p.length]?) e
   simp [l] at z
   exact z.symm
  subst ex
  obtain ⟨ρ1,e1,f,e2,ρ2,rfl,i2⟩:=h _ l ρ i
  refine ⟨ρ1,e1,_,e2,ρ2,rfl,?_⟩
  simpa using i2
 ·simp at i
  exact hd ρ i
theorem Zbo(n:Nat):Zbn 0 n=(List.range n).map fun (k:Nat)=>D.int (k:Int):=by
 unfold Zbn
 simp
def Wt(e f g:Int):Prop:=(0≤e∧0≤f∧0≤g∧0<e+f+g)∨(e≤0∧f≤0∧g≤0∧e+f+g<0)
theorem ZkV{ax ay aw bx bY bw cx cy cw px py ps:Int}(ha:0<aw)(hb:0<bw)(hc:0<cw)(hp:0<ps)(h:hdE ax ay aw bx bY bw cx cy cw px py ps≠0):Wt (ow bx bY bw cx cy cw px py ps) (ow cx cy cw ax ay aw px py ps) (ow ax ay aw bx bY bw px py ps):=by
 obtain ⟨s,hs,p1,p2,p3⟩:=ZlH (Zrs _ _ _) h
 have i0:aw*ow bx bY bw cx cy cw px py ps+bw*ow cx cy cw ax ay aw px py ps+cw*ow ax ay aw bx bY bw px py ps=ow ax ay aw bx bY bw cx cy cw*ps:=by unfold ow;grind
 rcases hs with rfl | rfl
 ·have o:=Zl0 ha hb hc hp p1 p2 p3
  have op:=Vcf o hp
  rw [ZkK] at p1 p2 p3
  left
  refine ⟨by omega,by omega,by omega,?_⟩
  by_cases z:0<ow bx bY bw cx cy cw px py ps+ow cx cy cw ax ay aw px py ps+ow ax ay aw bx bY bw px py ps
  ·exact z
  ·exfalso
   have e1:ow bx bY bw cx cy cw px py ps=0:=by omega
   have e2:ow cx cy cw ax ay aw px py ps=0:=by omega
   have e3:ow ax ay aw bx bY bw px py ps=0:=by omega
   rw [e1,e2,e3] at i0
   omega
 ·have o:=Zqo ha hb hc hp p1 p2 p3
  have op:=Vcf (show 0 < - ow ax ay aw bx bY bw cx cy cw by omega) hp
  rw [Int.neg_mul] at op
  rw [Zne] at p1 p2 p3
  right
  refine ⟨by omega,by omega,by omega,?_⟩
  by_cases z:ow bx bY bw cx cy cw px py ps+ow cx cy cw ax ay aw px py ps+ow ax ay aw bx bY bw px py ps<0
  ·exact z
  ·exfalso
   have e1:ow bx bY bw cx cy cw px py ps=0:=by omega
   have e2:ow cx cy cw ax ay aw px py ps=0:=by omega
   have e3:ow ax ay aw bx bY bw px py ps=0:=by omega
   rw [e1,e2,e3] at i0
   omega
theorem ZkY{a x:Int}(ha:1≤a)(hx:0≤x):x≤a*x:=by
 have:=Vcg ha hx
 omega
theorem Zip{a x:Int}(ha:1≤a)(hx:x≤0):a*x≤x:=by
 have:=Vcg ha (show 0≤-x by omega)
 rw [Int.mul_neg,Int.mul_neg,Int.one_mul] at this
 omega
theorem ZnS{x y z e f g:Int}(hx:1≤x)(hy:1≤y)(hz:1≤z)(w:Wt e f g):(0<e+f+g∧0<dot x y z e f g)∨(e+f+g<0∧dot x y z e f g<0):=by
 unfold dot
 rcases w with ⟨h1,h2,h3,h4⟩ | ⟨h1,h2,h3,h4⟩
 ·have:=ZkY hx h1
  have:=ZkY hy h2
  have:=ZkY hz h3
  left;omega
 ·have:=Zip hx h1
  have:=Zip hy h2
  have:=Zip hz h3
  right;omega
theorem Zl1{x y z e f g:Int}(hx:1≤x)(hy:1≤y)(hz:1≤z)(w:Wt e f g):dot x y z e f g≠0:=by
 rcases ZnS hx hy hz w with h | h<;>omega
theorem Zmq{Φ:D→Prop}{ax ay aw ah bx bY bw bh cx cy cw ch px py ps:Int}{av bv cv:List Int}(ha:1≤aw)(hb:1≤bw)(hc:1≤cw)(a:Cr ax ay aw)(b:Cr bx bY bw)(c:Cr cx cy cw)(p:Cr px py ps)(h0:hdE ax ay aw bx bY bw cx cy cw px py ps=0)(q:Φ .non):Tl (Zat [.tup [cor ax ay aw ah av,cor bx bY bw bh bv,cor cx cy cw ch cv],.tup [.int px,.int py,.int ps]]) Φ:=by
 unfold Zat
 walk_at "w"
 refine Zts ha hb hc a b c p ?_
 unfold hdE at h0
 rw [h0]
 walk_at "w"
 exact q
theorem ZlI{Φ:D→Prop}{ax ay aw ah bx bY bw bh cx cy cw ch px py ps:Int}{av bv cv:List Int}(ha:1≤aw)(hb:1≤bw)(hc:1≤cw)(hp:1≤ps)(a:Cr ax ay aw)(b:Cr bx bY bw)(c:Cr cx cy cw)(p:Cr px py ps)(va:Cv 64 ax ay aw ah av)(vb:Cv 64 bx bY bw bh bv)(vc:Cv 64 cx cy cw ch cv)(hl:av.length≤1000)(h0:hdE ax ay aw bx bY bw cx cy cw px py ps≠0){e f g B:Int}(e1:e=ow bx bY bw cx cy cw px py ps)(e2:f=ow cx cy cw ax ay aw px py ps)(e3:g=ow ax ay aw bx bY bw px py ps)(e4:B=dot ah bh ch e f g)
  (q:Φ (.tup [fra (dot aw bw cw e f g) B,.tup (vls av bv cv e f g B)])):Tl (Zat [.tup [cor ax ay aw ah av,cor bx bY bw bh bv,cor cx cy cw ch cv],.tup [.int px,.int py,.int ps]]) Φ:=by
 have W:=ZkV (by omega) (by omega) (by omega) (by omega) h0
 subst e4 e1 e2 e3
 unfold Zat
 walk_at "w"
 refine Zts ha hb hc a b c p ?_
 walk_at "w"
 refine Zma a b c p ?_
 walk_at "w"
 refine Zqp va vb vc (b.ow c p) (c.ow a p) (a.ow b p) (by decide) hl (Zl1 va.f1 vb.f1 vc.f1 W) ?_
 walk_at "w"
 exact q
def Dw(r:Int):Prop:=0≤r∧r<2147483648
theorem Zfz{Φ:D→Prop}{cc:Int}{n:Nat}(hn:n≤900)(q:∀rs:List Int,rs.length=n→(∀r∈rs,Dw r)→Φ (.lst (rs.map .int))):Tl (Zax [.int cc,.int (n:Int)]) Φ:=by
 unfold Zax
 walk_at "w"
 refine ⟨by simp [Zbn];omega,?_⟩
 rw [Zbo,VbA]
 refine w_all (fun _ y=>∃r:Int,y=.int r∧Dw r) (fun x hx=>?_) fun ys ly hy=>?_
 ·obtain ⟨k,hk,rfl⟩:=Vbs.mp hx
  have hk:=Vaj.mp hk
  walk_at "w"
  exact Zk6 (by omega) fun r hr=>⟨r,rfl,hr⟩
 ·have l:ys.length=n:=by simpa using ly
  have hy':∀y∈ys,∃r:Int,y=.int r∧Dw r:=fun y hm=>by
   obtain ⟨i,hi,rfl⟩:=VbX.mp hm
   exact hy i _ _ (VbH (by omega)) (VbH hi)
  obtain ⟨rs,rfl,hrs⟩ : ∃rs:List Int,ys=rs.map .int∧∀r∈rs,Dw r:=by
   clear l hy ly q
   induction ys with
   | nil=>exact ⟨[],rfl,fun _ h=>(VbQ h).elim⟩
   | cons y t ih =>
    obtain ⟨r,rfl,hr⟩:=hy' y Vao
    obtain ⟨rs,rfl,hrs⟩:=ih fun z hz=>hy' z (Vap _ hz)
    refine ⟨r::rs,rfl,fun u hu=>?_⟩
    rcases Var.mp hu with rfl | hu
    ·exact hr
    ·exact hrs u hu
  walk_at "w"
  exact q rs (by simpa using l) hrs
structure Ck(x y w h:Int):Prop where
 x:Bd x
 y:Bd y
 w:1≤w∧w≤1000000
 h:1≤h∧h≤1000000
theorem Ck.cr{x y w h:Int}(c:Ck x y w h):Cr x y w:=⟨c.x.s,c.y.s,sm6 ⟨by have:=c.w;omega,by have:=c.w;omega⟩⟩
theorem cut2(a b:D)(r:List D):cutL (a::b::r) none (some 2)=[a,b]:=by
 unfold cutL cutAt
 have:min (2:Int).toNat (a::b::r).length=2:=by simp
 simp only []
 rw [if_neg (by decide),this]
 rfl
theorem six{rs:List Int}(h:6≤rs.length):∃n0 n1 n2 n3 n4 n5 t,rs=n0::n1::n2::n3::n4::n5::t:=by
 rcases rs with _ | ⟨n0,_ | ⟨n1,_ | ⟨n2,_ | ⟨n3,_ | ⟨n4,_ | ⟨n5,t⟩⟩⟩⟩⟩⟩<;>first | exact ⟨_,_,_,_,_,_,_,rfl⟩ | (exfalso;simp at h)
theorem Zse{s t e:Int}(hs:1≤s∧s≤8)(ht:1≤t∧t≤3)(he:0≤e∧e≤s*8):Bd (t*(e - s)):=by
 have a1:t*(-8)≤t*(e - s):=Vcd (by omega) (by omega)
 have a2:t*(e - s)≤t*64:=Vcd (by omega) (by omega)
 exact ⟨by omega,by omega⟩
theorem Zh9{Φ:D→Prop}{rs:List Int}{many:Nat}(hm:many≤3)(hl:rs.length=6+many)(hr:∀r∈rs,Dw r)(q:∀(x y w h:Int) (vs:List Int),Ck x y w h→vs.length=many→(∀v∈vs,Bd v)→Φ (cor x y w h vs)):Tl (Za7 [.lst (rs.map .int),.int (many:Int)]) Φ:=by
 obtain ⟨n0,n1,n2,n3,n4,n5,t,rfl⟩:=six (rs:=rs) (by omega)
 have lt:t.length=many:=by simp at hl;omega
 have d0:=hr n0 (by simp)
 have d1:=hr n1 (by simp)
 have d2:=hr n2 (by simp)
 have d3:=hr n3 (by simp)
 have d4:=hr n4 (by simp)
 have d5:=hr n5 (by simp)
 unfold Dw at d0 d1 d2 d3 d4 d5
 unfold Za7
 walk_at "w"
 rw [show cutL ((n0::n1::n2::n3::n4::n5::t).map D.int) none (some 2)=[.int n0,.int n1] from cut2 _ _ _]
 walk_at "w"
 refine Zgd (by simp;omega) fun d hd=>?_
 have hd':∃s:Int,d=.int s∧1≤s∧s≤8:=by
  simp only [Var,VbQ,VbR] at hd
  rcases hd with rfl | rfl | rfl | rfl
  ·exact ⟨_,rfl,by decide⟩
  ·exact ⟨_,rfl,by decide⟩
  ·exact ⟨_,rfl,by decide⟩
  ·exact ⟨_,rfl,by decide⟩
 obtain ⟨s,rfl,hs⟩:=hd'
 walk_at "w"
 have ht:1≤1+n0/16%3∧1+n0/16%3≤3:=by omega
 generalize 1+n0/16%3=tm at *
 have hx:Bd (tm*(n0/64%(s*8+1) - s)):=Zse hs ht (by
  have:=VbZ (n0/64) (show s*8+1≠0 by omega)
  have:=Vb0 (n0/64) (show 0<s*8+1 by omega)
  omega)
 have hy:Bd (tm*(n1%(s*8+1) - s)):=Zse hs ht (by
  have:=VbZ n1 (show s*8+1≠0 by omega)
  have:=Vb0 n1 (show 0<s*8+1 by omega)
  omega)
 have hw:1≤s*tm∧s*tm≤1000000:=by
  have a1:0<s*tm:=Vcf (by omega) (by omega)
  have a2:s*tm≤s*3:=Vcd (by omega) (by omega)
  omega
 generalize tm*(n0/64%(s*8+1) - s)=x at *
 generalize tm*(n1%(s*8+1) - s)=y at *
 generalize s*tm=w at *
 refine Zgd (by simp;omega) fun d hd=>?_
 have hd':∃h:Int,d=.int h∧1≤h∧h≤1000000:=by
  simp only [Var,VbQ,VbR] at hd
  rcases hd with rfl | rfl | rfl | rfl
  ·exact ⟨_,rfl,by decide⟩
  ·exact ⟨_,rfl,by omega⟩
  ·exact ⟨_,rfl,by omega⟩
  ·exact ⟨_,rfl,by omega⟩
 obtain ⟨h,rfl,hh⟩:=hd'
 walk_at "w"
 refine ⟨by simp [Zbn];omega,?_⟩
 rw [VbA]
 refine Zoj (fun k hk=>?_) fun vs lv bv=>?_
 ·walk_at "w"
  show Tl (dIx (.lst ((n0::n1::n2::n3::n4::n5::t).map .int)) _) _
  refine ZkT (by rw [hl];omega) fun u hu=>?_
  walk_at "w"
  exact ⟨_,rfl,by omega,by omega⟩
 walk_at "w"
 refine Tl.mono (Ψ:=fun f=>∃(x y w h:Int) (vs:List Int),Ck x y w h∧vs.length=many∧(∀v∈vs,Bd v)∧f=Fl.nx [.im (.lst ((n0::n1::n2::n3::n4::n5::t).map .int)),.im (.int (many:Int)),.im (.int n0),.im (.int n1),.im (.int s),.im (.int tm),.im (.int x),.im (.int y),.im (.int w),.im (.int h),.im (.tup (vs.map .int))]) ?_ ?_
 ·refine Zb9 (fun _=>?_) (fun _=>?_)
  ·walk_at "w"
   refine ⟨by simp [Zbn];omega,?_⟩
   rw [VbA]
   refine Zoj (fun k hk=>?_) fun vs lv bv=>?_
   ·walk_at "w"
    show Tl (dIx (.lst ((n0::n1::n2::n3::n4::n5::t).map .int)) _) _
    refine ZkT (by rw [hl];omega) fun u hu=>?_
    walk_at "w"
    exact ⟨_,rfl,by omega,by omega⟩
   walk_at "w"
   exact ⟨_,_,_,_,vs,⟨⟨by omega,by omega⟩,⟨by omega,by omega⟩,by omega,by omega⟩,lv,bv,rfl⟩
  ·walk_at "w"
   exact ⟨_,_,_,_,vs,⟨hx,hy,hw,hh⟩,lv,bv,rfl⟩
 rintro f ⟨x,y,w,h,vs,ck,lv,bv,rfl⟩
 walk_at "w"
 refine Zb9 (fun _=>?_) (fun _=>?_)
 ·walk_at "w"
  exact q _ _ _ _ vs ⟨⟨by omega,by omega⟩,ck.y,by omega,ck.h⟩ lv bv
 ·walk_at "w"
  exact q _ _ _ _ vs ck lv bv
theorem Ztz{rs:List Int}{k:Nat}(h:k≤rs.length):cutL (rs.map .int) none (some (k:Int))=(rs.take k).map .int:=by
 unfold cutL cutAt
 rw [VaQ]
 simp only []
 rw [if_neg (by omega),VbA,Vch h,Vbw,Nat.sub_zero,Vb4]
theorem Zix{rs:List Int}{i k:Nat}(h0:i≤k)(h:k≤rs.length):cutL (rs.map .int) (some (i:Int)) (some (k:Int))=((rs.drop i).take (k - i)).map .int:=by
 unfold cutL cutAt
 rw [VaQ]
 simp only []
 rw [if_neg (by omega),if_neg (by omega),VbA,VbA,Vch h,Vch (Vak h0 h),Vb4,List.map_drop]
def isC(k:Nat)(d:D):Prop:=∃(x y w h:Int) (vs:List Int),d=cor x y w h vs∧Ck x y w h∧vs.length=k∧∀v∈vs,Bd v
def isT(k:Nat)(d:D):Prop:=∃a b c:D,d=.tup [a,b,c]∧isC k a∧isC k b∧isC k c
def isR(n:Nat)(d:D):Prop:=∃rs:List Int,d=.lst (rs.map .int)∧rs.length=n∧∀r∈rs,Dw r
theorem ZmO{Φ:D→Prop}{xs:List D}{i:Int}{P:D→Prop}(h:0≤i∧i<xs.length)(hp:∀x∈xs,P x)(q:∀x,P x→Φ x):Tl (dIx (.lst xs) (.int i)) Φ:=Zgd h fun x hx=>q x (hp x hx)
theorem ZmC{xs ys:List D}{P:D→Prop}(ly:ys.length=xs.length)(hy:∀(i:Nat) x y,xs[i]?=some x→ys[i]?=some y→P y):∀y∈ys,P y:=fun y hm=>by
 obtain ⟨i,hi,rfl⟩:=VbX.mp hm
 exact hy i _ _ (VbH (by omega)) (VbH hi)
theorem Zi0{Φ:D→Prop}{ns:List Int}{first:Int}{most many:Nat}(hf:0≤first∧first≤100)(hmo:most≤6)(hm:many≤3)(q:∀ts:List D,ts.length≤most→(∀t∈ts,isT many t)→Φ (.lst ts)):Tl (ZaU [.lst (ns.map .int),.int first,.int (most:Int),.int (many:Int)]) Φ:=by
 unfold ZaU
 walk_at "w"
 refine ⟨by simp [Zbn],?_⟩
 refine w_all (fun _ y=>isR (3*(6+many)) y) (fun x hx=>?_) fun ys ly hy=>?_
 ·obtain ⟨k,hk,rfl⟩:=mem_range hx
  walk_at "w"
  refine ZcF (by omega) fun cc=>?_
  walk_at "w"
  rw [show (3*(6+(many:Int)))=((3*(6+many):Nat):Int) by omega]
  exact Zfz (by omega) fun rs lr hr=>⟨rs,rfl,lr,hr⟩
 have hy:=ZmC ly hy
 have ly:ys.length=6:=ly
 walk_at "w"
 refine ⟨by rw [ly];decide,?_⟩
 refine w_all (fun _ y=>isC many y) (fun x hx=>?_) fun zs lz hz=>?_
 ·obtain ⟨rs,rfl,lr,hr⟩:=hy x hx
  walk_at "w"
  rw [show (6+(many:Int))=((6+many:Nat):Int) by omega,Ztz (by omega)]
  exact Zh9 hm (by rw [Va0];omega) (fun r h=>hr r (Vci h)) fun x y w h vs ck lv bv=>⟨x,y,w,h,vs,rfl,ck,lv,bv⟩
 have hz:=ZmC lz hz
 have lz:zs.length=6:=lz.trans ly
 walk_at "w"
 refine ZcF (by omega) fun cc=>?_
 walk_at "w"
 rw [show ((most:Int)+1)=((most+1:Nat):Int) by omega]
 refine Zfz (by omega) fun ds ld hd=>?_
 walk_at "w"
 refine ZkT (by rw [ld];omega) fun d0 hd0=>?_
 have d0':Dw d0:=hd d0 hd0
 unfold Dw at d0'
 walk_at "w"
 have hn:0≤d0%((most:Int)+1)∧d0%((most:Int)+1)≤most:=by
  have:=VbZ d0 (show (most:Int)+1≠0 by omega)
  have:=Vb0 d0 (show (0:Int)<(most:Int)+1 by omega)
  omega
 generalize d0%((most:Int)+1)=m at hn ⊢
 walk_at "w"
 rw [Zbo]
 refine Zfp (fun j ρ=>∃(ts:List D) (v9 v10 v11:Cl),ts.length=j∧(∀t∈ts,isT many t)∧ρ=[.im (.lst (ns.map .int)),.im (.int first),.im (.int (most:Int)),.im (.int (many:Int)),.im (.int (6+(many:Int))),.im (.lst ys),.im (.lst zs),.im (.lst (ds.map .int)),.ow ts,v9,v10,v11]) ⟨[],_,_,_,rfl,fun _ h=>(VbQ h).elim,rfl⟩ ?_ ?_
 ·rintro j hj ρ ⟨ts,v9,v10,v11,lt,ht,rfl⟩
  walk_at "w"
  refine ZkT (by rw [ld];omega) fun dj hdj=>?_
  have dj':Dw dj:=hd dj hdj
  unfold Dw at dj'
  walk_at "w"
  refine ZmO (by rw [lz];omega) hz fun A hA=>?_
  walk_at "w"
  refine ZmO (by rw [lz];omega) hz fun B hB=>?_
  walk_at "w"
  refine ZmO (by rw [lz];omega) hz fun C hC=>?_
  walk_at "w"
  refine Tl.mono (Ψ:=fun f=>∃A B C:D,isC many A∧isC many B∧isC many C∧f=Fl.nx [.im (.lst (ns.map .int)),.im (.int first),.im (.int (most:Int)),.im (.int (many:Int)),.im (.int (6+(many:Int))),.im (.lst ys),.im (.lst zs),.im (.lst (ds.map .int)),.ow ts,.im (.int (j:Int)),.im (.int dj),.im (.lst [A,B,C])]) ?_ ?_
  ·refine Zb9 (fun _=>?_) (fun _=>?_)
   ·walk_at "w"
    refine ⟨by simp [Zbn],?_⟩
    refine w_all (fun _ y=>isC many y) (fun x hx=>?_) fun us lu hu=>?_
    ·obtain ⟨k,hk,rfl⟩:=mem_range hx
     walk_at "w"
     refine ZmO (by rw [ly];omega) hy fun row hrow=>?_
     obtain ⟨rs,rfl,lr,hr⟩:=hrow
     have k3:k<3:=hk
     have ka:(6+many)*k≤(6+many)*2:=Nat.mul_le_mul_left _ (by omega)
     walk_at "w"
     rw [show (6+(many:Int))*(k:Int)=(((6+many)*k:Nat):Int) by rw [Int.natCast_mul];rfl,show (((6+many)*k:Nat):Int)+(6+(many:Int))=(((6+many)*k+(6+many):Nat):Int) by omega,Zix (by omega) (by omega)]
     exact Zh9 hm (by rw [Va0,Vbd];omega) (fun r h=>hr r (List.mem_of_mem_drop (Vci h))) fun x y w h vs ck lv bv=>⟨x,y,w,h,vs,rfl,ck,lv,bv⟩
    have hu:=ZmC lu hu
    have lu:us.length=3:=lu
    walk_at "w"
    match us,lu with
    | [A,B,C],_=>exact ⟨A,B,C,hu A (by simp),hu B (by simp),hu C (by simp),rfl⟩
   ·walk_at "w"
    exact ⟨A,B,C,hA,hB,hC,rfl⟩
  rintro f ⟨A,B,C,hA,hB,hC,rfl⟩
  walk_at "w"
  refine ⟨by omega,_,rfl,ts++[.tup [A,B,C]],_,_,_,by simp [lt],fun t h=>?_,rfl⟩
  rcases Vas.mp h with h | h
  ·exact ht t h
  ·simp only [Var,VbQ,VbR] at h
   subst h
   exact ⟨A,B,C,rfl,hA,hB,hC⟩
 ·rintro ρ ⟨ts,v9,v10,v11,lt,ht,rfl⟩
  walk_at "w"
  exact q ts (by omega) ht
def frD(q:Rat):D:=.tup [.int q.num,.int (q.den:Int)]
theorem ZcI{t b:Int}(hb:b≠0):fra t b=frD (Rat.divInt t b):=by
 have F:=Mt.Zpn (t:=t) hb
 have d0:((Rat.divInt t b).den:Int)≠0:=by have:=(Rat.divInt t b).den_nz;omega
 have e:=(Vcj d0 hb).mp (Vck (Rat.divInt t b))
 have r:=(Rat.divInt t b).reduced
 have p:=(Rat.divInt t b).den_pos
 generalize Rat.divInt t b=q at *
 have low:Int.gcd q.num (q.den:Int)=1:=by
  show Nat.gcd q.num.natAbs (q.den:Int).natAbs=1
  rw [Vca]
  exact r
 have s:=F.same
 obtain ⟨h1,h2⟩:=Mt.Zr1 F.pos F.low (show 1≤(q.den:Int) by omega) low (by
  generalize Mt.frT t b=T at *
  generalize Mt.frB t b=B at *
  refine Int.eq_of_mul_eq_mul_left hb ?_
  calc b*(T*q.den)=(T*b)*q.den:=by grind
   _=(t*q.den)*B:=by rw [s];grind
   _=b*(q.num*B):=by rw [←e];grind)
 unfold fra frD
 rw [h1,h2]
structure Bq(k:Nat)(q:Rat):Prop where
 n:Sm k q.num
 d:Sm k (q.den:Int)
theorem Bq.mono{k m:Nat}{q:Rat}(h:Bq k q)(hk:k≤m):Bq m q:=⟨h.n.mono hk,h.d.mono hk⟩
theorem Zjm{t b:Int}{k:Nat}(hb:0<b)(st:Sm k t)(sb:Sm k b):Bq k (Rat.divInt t b):=by
 have e:=ZcI (t:=t) (b:=b) (by omega)
 unfold fra frD Mt.frT Mt.frB at e
 rw [if_neg (by omega),if_neg (by omega)] at e
 have g0:0<(Int.gcd t b:Int):=by have:=Mt.Zfj (t:=t) (b:=b) (by omega);omega
 injection e with e
 injection e with e1 e2
 injection e1 with e1
 injection e2 with e2 _
 injection e2 with e2
 refine ⟨st.le ?_,sb.le ?_⟩
 ·rw [←e1];exact Mt.ZgX g0
 ·rw [←e2];exact Mt.ZgX g0
theorem ZcX{Φ:D→Prop}{t b:Int}{k:Nat}(hb:0<b)(st:Sm k t)(sb:Sm k b)(hk:k≤8000)(h:Bq k (Rat.divInt t b)→Φ (frD (Rat.divInt t b))):Tl (ZaF [.int t,.int b]) Φ:=by
 refine ZgR (by omega) sb (by omega) ?_
 rw [ZcI (by omega)]
 exact h (Zjm hb st sb)
theorem den1(q:Rat):0<(q.den:Int):=by have:=q.den_pos;omega
theorem Zhk(p q:Rat):Rat.divInt (p.num*q.den+q.num*p.den) (p.den*q.den)=p+q:=by
 have hp:=den1 p
 have hq:=den1 q
 rw [←Rat.divInt_add_divInt p.num q.num (by omega) (by omega),Vck,Vck]
theorem ZlM(p q:Rat):Rat.divInt (p.num*q.num) (p.den*q.den)=p*q:=by
 rw [←Rat.divInt_mul_divInt,Vck,Vck]
theorem ZpO{Φ:D→Prop}{p q:Rat}{a b:Nat}(hp:Bq a p)(hq:Bq b q)(hab:a+b≤4000)(h:Bq (a+b+1) (p+q)→Φ (frD (p+q))):Tl (Zew [frD p,frD q]) Φ:=by
 have m1:ZaR p.num q.den=true:=ZaC hp.n hq.d (by omega)
 have m2:ZaR q.num p.den=true:=ZaC hq.n hp.d (by omega)
 have m3:ZaR p.den q.den=true:=ZaC hp.d hq.d (by omega)
 have s1:Sm (a+b+1) (p.num*q.den+q.num*p.den):=((hp.n.mul hq.d).add (show Sm (a+b) _ from Nat.add_comm b a▸hq.n.mul hp.d)).mono (by omega)
 have s2:Sm (a+b+1) ((p.den:Int)*q.den):=(hp.d.mul hq.d).mono (by omega)
 have d0:0<(p.den:Int)*q.den:=Vcf (den1 p) (den1 q)
 unfold Zew frD
 walk_at "w"
 refine ZcX d0 s1 s2 (by omega) ?_
 rw [Zhk]
 intro hB
 walk_at "w"
 exact h hB
theorem ZlC{Φ:D→Prop}{p q:Rat}{a b:Nat}(hp:Bq a p)(hq:Bq b q)(hab:a+b≤4000)(h:Bq (a+b) (p*q)→Φ (frD (p*q))):Tl (ZcB [frD p,frD q]) Φ:=by
 have m1:ZaR p.num q.num=true:=ZaC hp.n hq.n (by omega)
 have m3:ZaR p.den q.den=true:=ZaC hp.d hq.d (by omega)
 have d0:0<(p.den:Int)*q.den:=Vcf (den1 p) (den1 q)
 unfold ZcB frD
 walk_at "w"
 refine ZcX d0 (hp.n.mul hq.n) (hp.d.mul hq.d) (by omega) ?_
 rw [ZlM]
 intro hB
 walk_at "w"
 exact h hB
theorem Zgy{α:Type}{Φ:Fl→Prop}{g:MG}{k:MS}{ρ:Ev}{enc:α→D}{l:List α}(I:List α→Ev→Prop)(h0:I [] ρ)(h:∀p a r,p++a::r=l→∀ρ,I p ρ→Tl (g (enc a) ρ) fun ρ1=>Tl (k ρ1) fun f=>∃ρ2,f=.nx ρ2∧I (p++[a]) ρ2)(hd:∀ρ,I l ρ→Φ (.nx ρ)):Tl (ZbM g k (l.map enc) ρ) Φ:=by
 have key:∀(r p:List α),p++r=l→∀ρ,I p ρ→Tl (ZbM g k (r.map enc) ρ) Φ:=by
  intro r
  induction r with
  | nil =>
   intro p e ρ i
   rw [VaV] at e
   exact w_f0 (hd ρ (e▸i))
  | cons a r ih =>
   intro p e ρ i
   rw [VaP]
   refine w_f1 ((h p a r e ρ i).mono fun ρ1 t=>t.mono fun f ⟨ρ2,e2,i2⟩=>?_)
   subst e2
   exact ih (p++[a]) (by rw [VbK];exact e) ρ2 i2
 exact key l [] rfl ρ h0
theorem Zry{α:Type}{Φ:Fl→Prop}{g:MG}{k:MS}{ρ:Ev}{enc:α→D}{l:List α}(I:List α→Ev→Prop)(h0:I [] ρ)(h:∀p a r,p++a::r=l→∀ρ,I p ρ→Tl (g (enc a) ρ) fun ρ1=>Tl (k ρ1) fun f=>∃ρ2,(f=.nx ρ2∨f=.ct ρ2)∧I (p++[a]) ρ2)(hd:∀ρ,I l ρ→Φ (.nx ρ)):Tl (ZbM g k (l.map enc) ρ) Φ:=by
 have key:∀(r p:List α),p++r=l→∀ρ,I p ρ→Tl (ZbM g k (r.map enc) ρ) Φ:=by
  intro r
  induction r with
  | nil =>
   intro p e ρ i
   rw [VaV] at e
   exact w_f0 (hd ρ (e▸i))
  | cons a r ih =>
   intro p e ρ i
   rw [VaP]
   refine w_f1 ((h p a r e ρ i).mono fun ρ1 t=>t.mono fun f ⟨ρ2,e2,i2⟩=>?_)
   rcases e2 with rfl | rfl
   ·exact ih (p++[a]) (by rw [VbK];exact e) ρ2 i2
   ·exact ih (p++[a]) (by rw [VbK];exact e) ρ2 i2
 exact key l [] rfl ρ h0
structure Sg where
 d:D
 gl:Bool
 q:Rat
 v:D
 own:Rat
 part:Rat
 col:Rat
 k:Int
def insR(acc:List Sg)(s:Sg):List Sg:=acc.takeWhile (fun r=>!decide (s.q<r.q))++s::acc.dropWhile (fun r=>!decide (s.q<r.q))
def insL(acc:List Sg)(s:Sg):List Sg:=acc.take (acc.filter fun l=>decide (s.q<l.q)).length++s::acc.drop (acc.filter fun l=>decide (s.q<l.q)).length
def Asc(l:List Sg):Prop:=l.Pairwise fun a b=>a.q≤b.q
theorem Zhn(s:Sg):insR [] s=[s]:=rfl
theorem Zf7{a:Sg}{r:List Sg}{s:Sg}(h:s.q<a.q):insR (a::r) s=s::a::r:=by
 unfold insR
 rw [List.takeWhile_cons,List.dropWhile_cons,Vbm h]
 rfl
theorem Zga{a:Sg}{r:List Sg}{s:Sg}(h:¬s.q<a.q):insR (a::r) s=a::insR r s:=by
 unfold insR
 rw [List.takeWhile_cons,List.dropWhile_cons,Vac h]
 rfl
theorem Zhg{x s:Sg}:∀{l:List Sg},x∈insR l s↔x=s∨x∈l
 | []=>by simp [Zhn]
 | a::r=>by
  by_cases h:s.q<a.q
  ·rw [Zf7 h,Var]
  ·rw [Zga h,Var,Zhg (l:=r),Var]
   constructor
   ·rintro (z | z | z)<;>simp [z]
   ·rintro (z | z | z)<;>simp [z]
theorem Zjw{s:Sg}:∀{l:List Sg},Asc l→Asc (insR l s)
 | [],_=>by rw [Zhn];exact List.pairwise_singleton _ _
 | a::r,h=>by
  have h':=Vb5.mp h
  by_cases c:s.q<a.q
  ·rw [Zf7 c]
   refine Vb5.mpr ⟨fun x hx=>?_,h⟩
   rcases Var.mp hx with rfl | hx
   ·exact Rat.le_of_lt c
   ·exact Rat.le_trans (Rat.le_of_lt c) (h'.1 x hx)
  ·rw [Zga c]
   refine Vb5.mpr ⟨fun x hx=>?_,Zjw h'.2⟩
   rcases Zhg.mp hx with rfl | hx
   ·exact Rat.not_lt.mp c
   ·exact h'.1 x hx
theorem ZfF(P:Sg→Bool){s:Sg}:∀{l:List Sg},Asc l→(insR l s).filter P=if P s then insR (l.filter P) s else l.filter P
 | [],_=>by rw [Zhn,Vcl];rfl
 | a::r,h=>by
  have h':=Vb5.mp h
  by_cases c:s.q<a.q
  ·rw [Zf7 c,Vcl]
   by_cases hs:P s=true
   ·rw [if_pos hs,if_pos hs]
    have key:∀m:List Sg,(∀x∈m,s.q<x.q)→insR m s=s::m:=by
     intro m hm
     cases m with
     | nil=>rfl
     | cons b t=>exact Zf7 (hm b Vao)
    rw [key]
    intro x hx
    have hx:=(Vai.mp hx).1
    rcases Var.mp hx with rfl | hx
    ·exact c
    ·exact Std.lt_of_lt_of_le c (h'.1 x hx)
   ·rw [if_neg hs,if_neg hs]
  ·rw [Zga c,Vcl,ZfF P h'.2,Vcl]
   by_cases ha:P a=true
   ·rw [if_pos ha,if_pos ha]
    by_cases hs:P s=true
    ·rw [if_pos hs,if_pos hs,Zga c]
    ·rw [if_neg hs,if_neg hs]
   ·rw [if_neg ha,if_neg ha]
def Zef(l:List Sg):List Sg:=l.foldl insR []
theorem ZcD(l:List Sg)(s:Sg):Zef (l++[s])=insR (Zef l) s:=by unfold Zef;rw [List.foldl_append];rfl
theorem snoc_ind{α:Type}{M:List α→Prop}(h0:M [])(h1:∀l a,M l→M (l++[a])):∀l,M l:=by
 intro l
 have key:∀r:List α,M r.reverse:=by
  intro r
  induction r with
  | nil=>exact h0
  | cons a r ih=>rw [List.reverse_cons];exact h1 _ _ ih
 have:=key l.reverse
 rwa [List.reverse_reverse] at this
theorem ZkG(l:List Sg):Asc (Zef l):=by
 refine snoc_ind (M:=fun l=>Asc (Zef l)) List.Pairwise.nil (fun l a ih=>?_) l
 rw [ZcD]
 exact Zjw ih
theorem Ze8(P:Sg→Bool)(l:List Sg):(Zef l).filter P=Zef (l.filter P):=by
 refine snoc_ind (M:=fun l=>(Zef l).filter P=Zef (l.filter P)) rfl (fun l a ih=>?_) l
 rw [ZcD,ZfF P (ZkG l),ih,List.filter_append]
 by_cases ha:P a=true
 ·rw [if_pos ha,Vcl,if_pos ha,Vcn,ZcD]
 ·rw [if_neg ha,Vcl,if_neg ha,Vcn,VaV]
def Zm8(l:List Sg):List Sg:=l.foldl insL []
theorem Zkt(l:List Sg)(s:Sg):Zm8 (l++[s])=insL (Zm8 l) s:=by unfold Zm8;rw [List.foldl_append];rfl
def Zfx(n:Option Sg)(s:Sg):Option Sg:=if s.gl=true then n else match n with
  | none=>some s
  | some m=>if s.q<m.q then some s else some m
def near(l:List Sg):Option Sg:=l.foldl Zfx none
theorem Zij(l:List Sg)(s:Sg):near (l++[s])=Zfx (near l) s:=by unfold near;rw [List.foldl_append];rfl
theorem Zmb{l:List Sg}{s:Sg}:(insR l s).head?=some (match l.head? with
  | none=>s
  | some m=>if s.q<m.q then s else m):=by
 cases l with
 | nil=>rfl
 | cons a r =>
  by_cases h:s.q<a.q
  ·rw [Zf7 h];show some s=some (if s.q<a.q then s else a);rw [if_pos h]
  ·rw [Zga h];show some a=some (if s.q<a.q then s else a);rw [if_neg h]
theorem Zqk(l:List Sg):near l=((Zef l).filter fun s=>!s.gl).head?:=by
 rw [Ze8]
 refine snoc_ind (M:=fun l=>near l=(Zef (l.filter fun s=>!s.gl)).head?) rfl (fun l s ih=>?_) l
 rw [Zij,List.filter_append]
 unfold Zfx
 cases hs:s.gl with
 | true =>
  rw [if_pos rfl,Vcl,if_neg (by rw [hs];decide),Vcn,VaV]
  exact ih
 | false =>
  rw [if_neg VaF,Vcl,if_pos (by rw [hs];rfl),Vcn,ZcD,Zmb,←ih]
  cases near l with
  | none=>rfl
  | some m =>
   show (if s.q<m.q then some s else some m)=some (if s.q<m.q then s else m)
   by_cases c:s.q<m.q
   ·rw [if_pos c,if_pos c]
   ·rw [if_neg c,if_neg c]
structure GS(s:Sg):Prop where
 ob:∃(c:Str) (ns:List Str) (vs:List D),s.d=.ins c ns vs∧ns.contains "is_glass"=false∧ns.contains "colour_at"=false∧(∃f,Za1.lookup c=some f∧f [s.d]=.ok (.bl s.gl))∧(s.gl=false→∃f,Za6.lookup c=some f∧f [s.d,s.v]=.ok (frD s.own))
 pt:s.gl=true→dFld objs "part" s.d=.ok (frD s.part)∧dFld objs "colour" s.d=.ok (frD s.col)
 bq:Bq 300 s.q
 bo:Bq 300 s.own
 bp:Bq 32 s.part
 bc:Bq 32 s.col
def seeD:Option Sg→D
 | none=>.non
 | some s=>.tup [frD s.q,s.v]
structure Seen(p d:D)(o:Option Sg):Prop where
 tri:∃T,dFld objs "triangle" d=.ok T∧Zat [T,p]=.ok (seeD o)
 ok:∀s,o=some s→s.d=d∧GS s
abbrev encS(s:Sg):D:=.tup [s.d,frD s.q,s.v]
abbrev DO:=D×Option Sg
def sgts(L:List DO):List Sg:=L.filterMap (·.2)
theorem ZlZ(L:List DO)(y:DO):sgts (L++[y])=sgts L++y.2.toList:=by
 unfold sgts
 rw [List.filterMap_append,Van,List.filterMap_nil]
 cases y.2<;>rfl
theorem ZnH(L:List DO):(sgts L).length≤L.length:=List.length_filterMap_le _ _
theorem Zqh{p:D}{L:List DO}(h:∀y∈L,Seen p y.1 y.2):∀s∈sgts L,GS s:=fun s hs=>by
 obtain ⟨y,hy,e⟩:=VaK.mp hs
 exact ((h y hy).ok s e).2
theorem Zol{Φ:D→Prop}{tab:List (Str×(List D→Res D))}{m:Str}{o:ME}{a:MA}{ρ:Ev}(h:Tl (o ρ) fun d=>∃(c:Str) (ns:List Str) (vs:List D) (f:List D→Res D),d=.ins c ns vs∧ns.contains m=false∧tab.lookup c=some f∧Tl (a ρ) fun ds=>Tl (f (.ins c ns vs::ds)) Φ):Tl (meth tab m o a ρ) Φ:=by
 obtain ⟨d,e1,c,ns,vs,f,rfl,hn,ht,ds,e2,q⟩:=h
 unfold meth
 rw [e1]
 show Tl (if ns.contains m=true then .bad else match tab.lookup c with
  | some f=>(a ρ).bind fun ds=>f (.ins c ns vs::ds)
  | none=>.bad) Φ
 rw [hn,if_neg VaF,ht]
 show Tl ((a ρ).bind fun ds=>f (.ins c ns vs::ds)) Φ
 rw [e2]
 exact q
theorem ZsN{Φ:D→Prop}{s:Sg}{o:ME}{ρ:Ev}(g:GS s)(ho:o ρ=.ok s.d)(q:Φ (.bl s.gl)):Tl (meth Za1 "is_glass" o yaa ρ) Φ:=by
 obtain ⟨c,ns,vs,e,n1,n2,⟨f,l1,f1⟩,_⟩:=g.ob
 refine Zol ⟨_,ho,c,ns,vs,f,e,n1,l1,?_⟩
 refine Zal (x:=[]) rfl ?_
 rw [←e]
 exact Zal f1 q
theorem Zut{Φ:D→Prop}{s:Sg}{o:ME}{a:MA}{ρ:Ev}(g:GS s)(h:s.gl=false)(ho:o ρ=.ok s.d)(ha:a ρ=.ok [s.v])(q:Φ (frD s.own)):Tl (meth Za6 "colour_at" o a ρ) Φ:=by
 obtain ⟨c,ns,vs,e,n1,n2,_,z⟩:=g.ob
 obtain ⟨f,l1,f1⟩:=z h
 refine Zol ⟨_,ho,c,ns,vs,f,e,n2,l1,?_⟩
 refine Zal ha ?_
 rw [←e]
 exact Zal f1 q
theorem Zj3{Φ:D→Prop}{p:D}{L:List DO}(hL:∀y∈L,Seen p y.1 y.2)(hl:L.length≤1000)(q:Φ (.lst ((sgts L).map encS))):Tl (Za3 [.lst (L.map (·.1)),p]) Φ:=by
 unfold Za3
 walk_at "w"
 refine Zgy (enc:=fun y:DO=>y.1) (fun pre ρ=>∃v3 v4:Cl,ρ=[.im (.lst (L.map (·.1))),.im p,.ow ((sgts pre).map encS),v3,v4]) ⟨_,_,rfl⟩ ?_ ?_
 ·rintro pre y r e ρ ⟨v3,v4,rfl⟩
  have hy:y∈L:=by rw [←e];simp
  have hlen:pre.length<L.length:=by rw [←e];simp
  obtain ⟨⟨T,t1,t2⟩,ok⟩:=hL y hy
  walk_at "w"
  refine Zal t1 ?_
  walk_at "w"
  refine Zal t2 ?_
  rw [ZlZ]
  cases ho:y.2 with
  | none =>
   show Tl _ _
   walk_at "w"
   rw [show (none:Option Sg).toList=[] from rfl,VaV]
   exact ⟨_,rfl,_,_,rfl⟩
  | some s =>
   obtain ⟨e1,g⟩:=ok s ho
   unfold seeD
   walk_at "w"
   have:=ZnH pre
   refine ⟨by rw [VaQ];omega,?_⟩
   rw [VbV,←e1]
   exact ⟨_,rfl,_,_,rfl⟩
 ·rintro ρ ⟨v3,v4,rfl⟩
  walk_at "w"
  exact q
theorem Zfn{Φ:D→Prop}{a b:Rat}(ha:Bq 300 a)(hb:Bq 300 b)(h:Φ (.bl (decide (a<b)))):Tl (ZcK [frD a,frD b]) Φ:=by
 have m1:ZaR a.num b.den=true:=ZaC ha.n hb.d (by decide)
 have m2:ZaR b.num a.den=true:=ZaC hb.n ha.d (by decide)
 unfold ZcK frD
 walk_at "w"
 have e:decide (a.num*(b.den:Int)<b.num*(a.den:Int))=decide (a<b):=decide_eq_decide.mpr (Rat.lt_iff a b).symm
 rw [e]
 exact h
def optS:Option Sg→D
 | none=>.non
 | some s=>encS s
theorem ZkX{Φ:D→Prop}{l:List Sg}(hl:∀s∈l,GS s)(q:Φ (optS (near l))):Tl (ZbN [.lst (l.map encS)]) Φ:=by
 unfold ZbN
 walk_at "w"
 refine Zry (enc:=encS) (fun pre ρ=>∃v2:Cl,(∀s,near pre=some s→s∈pre)∧ρ=[.im (.lst (l.map encS)),.im (optS (near pre)),v2]) ⟨.no,(fun s h=>by cases h),rfl⟩ ?_ ?_
 ·rintro pre s r e ρ ⟨v2,hm,rfl⟩
  have hs:s∈l:=by rw [←e];simp
  have gs:=hl s hs
  have bs:=gs.bq
  have hm':∀t,Zfx (near pre) s=some t→t∈pre++[s]:=by
   intro t ht
   unfold Zfx at ht
   by_cases hg:s.gl=true
   ·rw [if_pos hg] at ht
    exact Vat _ (hm t ht)
   ·rw [if_neg hg] at ht
    cases hn:near pre with
    | none=>rw [hn] at ht;cases ht;simp
    | some m =>
     rw [hn] at ht
     have ht:(if s.q<m.q then some s else some m)=some t:=ht
     by_cases c:s.q<m.q
     ·rw [if_pos c] at ht;cases ht;simp
     ·rw [if_neg c] at ht;cases ht;exact Vat _ (hm _ hn)
  rw [Zij]
  walk_at "w"
  refine ZsN gs rfl ?_
  walk_at "w"
  cases hg:s.gl with
  | true =>
   walk_at "w"
   have e2:Zfx (near pre) s=near pre:=by unfold Zfx;rw [if_pos hg]
   rw [e2] at hm' ⊢
   exact ⟨_,.inr rfl,_,hm',rfl⟩
  | false =>
   walk_at "w"
   cases hn:near pre with
   | none =>
    have e2:Zfx none s=some s:=by unfold Zfx;rw [if_neg (by rw [hg];exact Bool.false_ne_true)]
    rw [hn,e2] at hm'
    rw [e2]
    show Tl _ _
    unfold optS
    walk_at "w"
    exact ⟨_,.inl rfl,_,hm',rfl⟩
   | some m =>
    have gm:=hl m (by rw [←e];exact Vat _ (hm _ hn))
    rw [hn] at hm'
    have e2:Zfx (some m) s=if s.q<m.q then some s else some m:=by unfold Zfx;rw [if_neg (by rw [hg];exact Bool.false_ne_true)]
    unfold optS
    walk_at "w"
    refine Zfn bs gm.bq ?_
    walk_at "w"
    refine Zb9 (fun c=>?_) (fun c=>?_)
    ·rw [e2,if_pos c] at hm' ⊢
     walk_at "w"
     exact ⟨_,.inl rfl,_,hm',rfl⟩
    ·rw [e2,if_neg c] at hm' ⊢
     walk_at "w"
     exact ⟨_,.inl rfl,_,hm',rfl⟩
 ·rintro ρ ⟨v2,hm,rfl⟩
  walk_at "w"
  exact q
theorem Zrm{Φ:Fl→Prop}{i:Nat}{k e:ME}{ρ:Ev}{xs:List D}(hx:ρ[i]?=some (.ow xs))(h:Tl (k ρ) fun u=>∃j:Nat,u=.int (j:Int)∧j≤xs.length∧xs.length<1000000∧Tl (e ρ) fun d=>Φ (.nx (ρ.set i (.ow (xs.take j++d::xs.drop j))))):Tl (insO i k e ρ) Φ:=by
 obtain ⟨u,e1,j,rfl,h1,h2,d,e2,q⟩:=h
 unfold insO
 rw [hx]
 show Tl ((k ρ).bind _) Φ
 rw [e1]
 show Tl ((e ρ).bind fun d=>if (0≤(j:Int)∧(j:Int)≤xs.length)∧xs.length<LIM then .ok (.nx (ρ.set i (.ow (xs.take (j:Int).toNat++d::xs.drop (j:Int).toNat)))) else .bad) Φ
 rw [e2]
 show Tl (if (0≤(j:Int)∧(j:Int)≤xs.length)∧xs.length<LIM then .ok (.nx (ρ.set i (.ow (xs.take (j:Int).toNat++d::xs.drop (j:Int).toNat)))) else .bad) Φ
 rw [if_pos ⟨by omega,h2⟩,VbA]
 exact Zau q
theorem Zll{α:Type}{Φ:List D→Prop}{g:MG}{t:MB}{e:ME}{ρ:Ev}{enc:α→D}(P:α→Bool):∀{l:List α},(∀a∈l,Tl (g (enc a) ρ) fun ρ1=>Tl (t ρ1) fun b=>b=P a∧Tl (e ρ1) fun y=>y=enc a)→Φ ((l.filter P).map enc)→Tl (Zai g t e ρ (l.map enc)) Φ:=by
 intro l h q
 have key:∀l:List α,(∀a∈l,Tl (g (enc a) ρ) fun ρ1=>Tl (t ρ1) fun b=>b=P a∧Tl (e ρ1) fun y=>y=enc a)→Zai g t e ρ (l.map enc)=.ok ((l.filter P).map enc):=by
  intro l
  induction l with
  | nil=>exact fun _=>rfl
  | cons a r ih =>
   intro h
   obtain ⟨ρ1,e1,b,e2,hb,y,e3,rfl⟩:=h a Vao
   have z:=ih fun c hc=>h c (Vap _ hc)
   rw [VaP,ZdR,e1,ZcR,e2,ZcR,Vcl]
   by_cases c:P a=true
   ·rw [hb,if_pos c,if_pos c,e3,ZcR,z];rfl
   ·rw [hb,if_neg c,if_neg c,z]
 exact Zal (key l h) q
def Zdz(n:Option Sg)(s:Sg):Bool:=s.gl&&(match n with
 | none=>true
 | some m=>decide (s.q<m.q))
def lay(n:Option Sg)(l:List Sg):List Sg:=Zm8 (l.filter (Zdz n))
theorem Zeu(n:Option Sg)(l:List Sg)(s:Sg):lay n (l++[s])=if Zdz n s=true then insL (lay n l) s else lay n l:=by
 unfold lay
 rw [List.filter_append,Vcl,Vcn]
 by_cases h:Zdz n s=true
 ·rw [if_pos h,if_pos h,Zkt]
 ·rw [if_neg h,if_neg h,VaV]
theorem ZnJ{x s:Sg}{l:List Sg}(h:x∈insL l s):x=s∨x∈l:=by
 unfold insL at h
 rcases Vas.mp h with h | h
 ·exact .inr (Vci h)
 ·rcases Var.mp h with h | h
  ·exact .inl h
  ·exact .inr (List.mem_of_mem_drop h)
theorem ZiE{n:Option Sg}{x:Sg}{l:List Sg}:x∈lay n l→x∈l∧Zdz n x=true:=by
 refine snoc_ind (M:=fun l=>x∈lay n l→x∈l∧Zdz n x=true) (fun h=>by cases h) (fun l s ih h=>?_) l
 rw [Zeu] at h
 by_cases c:Zdz n s=true
 ·rw [if_pos c] at h
  rcases ZnJ h with rfl | h
  ·exact ⟨by simp,c⟩
  ·exact ⟨Vat _ (ih h).1,(ih h).2⟩
 ·rw [if_neg c] at h
  exact ⟨Vat _ (ih h).1,(ih h).2⟩
theorem ZnQ(l:List Sg)(s:Sg):(insL l s).length=l.length+1:=by
 unfold insL
 have:=List.length_filter_le (fun t:Sg=>decide (s.q<t.q)) l
 simp
 omega
theorem ZiX(n:Option Sg)(l:List Sg):(lay n l).length≤l.length:=by
 refine snoc_ind (M:=fun l=>(lay n l).length≤l.length) (VaI _) (fun l s ih=>?_) l
 rw [Zeu,Va7,Vbl]
 by_cases c:Zdz n s=true
 ·rw [if_pos c,ZnQ];omega
 ·rw [if_neg c];omega
theorem Zm0{Φ:D→Prop}{n:Option Sg}{l:List Sg}(hn:∀m,n=some m→GS m)(hl:∀s∈l,GS s)(hs:l.length≤1000)(q:Φ (.lst ((lay n l).map encS))):Tl (Za5 [optS n,.lst (l.map encS)]) Φ:=by
 unfold Za5
 walk_at "w"
 refine Zgy (enc:=encS) (fun pre ρ=>∃v3 v4:Cl,ρ=[.im (optS n),.im (.lst (l.map encS)),.ow ((lay n pre).map encS),v3,v4]) ⟨_,_,rfl⟩ ?_ ?_
 ·rintro pre s r e ρ ⟨v3,v4,rfl⟩
  have hm:s∈l:=by rw [←e];simp
  have hlen:pre.length<l.length:=by rw [←e];simp
  have gs:=hl s hm
  have gp:∀x∈lay n pre,GS x:=fun x hx=>hl x (by rw [←e];exact Vat _ (ZiE hx).1)
  have ll:=ZiX n pre
  have tail:Zdz n s=true→∀v4:Cl,Tl ((sq (st 4 (pk 2 (on bLen (Zaa (comp (iv (v 2)) 1 [3] (gN 0) (trb (on ZcK (Zaa (o2 dIx (v 1) (c (.int 1))) (Zaa (o2 dIx (v 0) (c (.int 1))) yaa)))) (v 0)) yaa)))) (insO 2 (v 4) (v 3))) [.im (optS n),.im (.lst (l.map encS)),.ow ((lay n pre).map encS),.im (encS s),v4]) fun f=>∃ρ2,f=.nx ρ2∧∃v3 v4:Cl,ρ2=[.im (optS n),.im (.lst (l.map encS)),.ow ((lay n (pre++[s])).map encS),v3,v4]:=by
   intro ho v4
   rw [Zeu,if_pos ho]
   walk_at "w"
   refine ⟨by rw [VaQ];omega,?_⟩
   refine Zll (fun t:Sg=>decide (s.q<t.q)) (fun t ht=>?_) ?_
   ·walk_at "w"
    refine Zfn gs.bq (gp t ht).bq ?_
    walk_at "w"
    exact ⟨rfl,by walk_at "w"⟩
   walk_at "w"
   refine Zrm rfl ?_
   walk_at "w"
   have:=List.length_filter_le (fun t:Sg=>decide (s.q<t.q)) (lay n pre)
   refine ⟨((lay n pre).filter fun t=>decide (s.q<t.q)).length,by rw [VaQ],by rw [VaQ];exact this,by rw [VaQ];omega,?_⟩
   walk_at "w"
   rw [←Vb4,←List.map_drop,←VaP,←VbV]
   exact ⟨_,rfl,_,_,rfl⟩
  have skip:Zdz n s=false→∃ρ2,Fl.nx [.im (optS n),.im (.lst (l.map encS)),.ow ((lay n pre).map encS),.im (encS s),v4]=.nx ρ2∧∃v3 v4:Cl,ρ2=[.im (optS n),.im (.lst (l.map encS)),.ow ((lay n (pre++[s])).map encS),v3,v4]:=fun ho=>by
   rw [Zeu,ho,if_neg VaF]
   exact ⟨_,rfl,_,_,rfl⟩
  walk_at "w"
  refine ZsN gs rfl ?_
  walk_at "w"
  cases hg:s.gl with
  | false =>
   walk_at "w"
   exact skip (by unfold Zdz;rw [hg];rfl)
  | true =>
   cases n with
   | none =>
    unfold optS
    walk_at "w"
    have ho:Zdz none s=true:=by unfold Zdz;rw [hg];rfl
    rw [Zeu,if_pos ho]
    refine ⟨by rw [VaQ];omega,?_⟩
    refine Zll (fun t:Sg=>decide (s.q<t.q)) (fun t ht=>?_) ?_
    ·walk_at "w"
     refine Zfn gs.bq (gp t ht).bq ?_
     walk_at "w"
     exact ⟨rfl,by walk_at "w"⟩
    walk_at "w"
    refine Zrm rfl ?_
    walk_at "w"
    have:=List.length_filter_le (fun t:Sg=>decide (s.q<t.q)) (lay none pre)
    refine ⟨((lay none pre).filter fun t=>decide (s.q<t.q)).length,by rw [VaQ],by rw [VaQ];exact this,by rw [VaQ];omega,?_⟩
    walk_at "w"
    rw [←Vb4,←List.map_drop,←VaP,←VbV]
    exact ⟨_,rfl,_,_,rfl⟩
   | some m =>
    unfold optS
    walk_at "w"
    refine Zfn gs.bq (hn m rfl).bq ?_
    walk_at "w"
    refine Zb9 (fun c=>?_) (fun c=>?_)
    ·exact tail (by unfold Zdz;rw [hg];simp [c]) _
    ·walk_at "w"
     exact skip (by unfold Zdz;rw [hg];simp [c])
 ·rintro ρ ⟨v3,v4,rfl⟩
  walk_at "w"
  exact q
theorem ZlT(p q:Rat):Rat.divInt (p.num*q.den - q.num*p.den) (p.den*q.den)=p - q:=by
 have hp:=den1 p
 have hq:=den1 q
 rw [Rat.sub_eq_add_neg,←Zhk p (-q),Rat.neg_num,Rat.neg_den]
 congr 1
 grind
theorem ZnZ{Φ:D→Prop}{p q:Rat}{a b:Nat}(hp:Bq a p)(hq:Bq b q)(hab:a+b≤4000)(h:Bq (a+b+1) (p - q)→Φ (frD (p - q))):Tl (ZeF [frD p,frD q]) Φ:=by
 have m1:ZaR p.num q.den=true:=ZaC hp.n hq.d (by omega)
 have m2:ZaR q.num p.den=true:=ZaC hq.n hp.d (by omega)
 have m3:ZaR p.den q.den=true:=ZaC hp.d hq.d (by omega)
 have s0:Sm (a+b) (q.num*p.den):=Nat.add_comm b a▸hq.n.mul hp.d
 have s1:Sm (a+b+1) (p.num*q.den - q.num*p.den):=by
  have z:=((hp.n.mul hq.d).add s0.neg).mono (show max (a+b) (a+b)+1≤a+b+1 by omega)
  rw [←Int.sub_eq_add_neg] at z
  exact z
 have s2:Sm (a+b+1) ((p.den:Int)*q.den):=(hp.d.mul hq.d).mono (by omega)
 have d0:0<(p.den:Int)*q.den:=Vcf (den1 p) (den1 q)
 unfold ZeF frD
 walk_at "w"
 refine ZcX d0 s1 s2 (by omega) ?_
 rw [ZlT]
 intro hB
 walk_at "w"
 exact h hB
def mixQ(s:Sg)(c:Rat):Rat:=s.part*s.col+(1 - s.part)*c
theorem Zq8:Bq 1 (1:Rat):=⟨by show (1:Int).natAbs<2^1;decide,by show (1:Int).natAbs<2^1;decide⟩
theorem Zrc{Φ:D→Prop}{s:Sg}{c:Rat}{B:Nat}(g:GS s)(hg:s.gl=true)(hc:Bq B c)(hB:B≤3000)(q:Bq (B+170) (mixQ s c)→Φ (frD (mixQ s c))):Tl (ZbC [s.d,frD c]) Φ:=by
 obtain ⟨p1,p2⟩:=g.pt hg
 unfold ZbC
 walk_at "w"
 refine Zal p1 ?_
 walk_at "w"
 show Tl (ZeF [frD 1,frD s.part]) _
 refine ZnZ Zq8 g.bp (by decide) fun b1=>?_
 walk_at "w"
 refine Zal p1 ?_
 walk_at "w"
 refine Zal p2 ?_
 walk_at "w"
 refine ZlC g.bp g.bc (by decide) fun b2=>?_
 walk_at "w"
 refine ZlC b1 hc (by omega) fun b3=>?_
 walk_at "w"
 refine ZpO b2 b3 (by omega) fun b4=>?_
 walk_at "w"
 exact q (b4.mono (by omega))
def Zg2(g:Rat):Option Sg→Rat
 | none=>g
 | some m=>m.own
def layQ(l:List Sg)(c:Rat):Rat:=l.foldl (fun c s=>mixQ s c) c
def colQ(g:Rat)(l:List Sg):Rat:=layQ (lay (near l) l) (Zg2 g (near l))
theorem Zfl{l:List Sg}{m:Sg}(h:near l=some m):m∈l∧m.gl=false:=by
 rw [Zqk] at h
 have z:=List.mem_of_mem_head? (by rw [h];rfl:m∈((Zef l).filter fun s=>!s.gl).head?)
 rw [Ze8] at z
 have key:∀k:List Sg,m∈Zef k→m∈k:=by
  intro k
  refine snoc_ind (M:=fun k=>m∈Zef k→m∈k) (fun h=>h) (fun k s ih h=>?_) k
  rw [ZcD] at h
  rcases Zhg.mp h with rfl | h
  ·simp
  ·exact Vat _ (ih h)
 have y:=Vai.mp (key _ z)
 exact ⟨y.1,by simpa using y.2⟩
theorem Zp8{n:Option Sg}{s:Sg}(h:Zdz n s=true):s.gl=true:=by
 unfold Zdz at h
 rw [Vbj] at h
 exact h.1
def rowD(w:Nat)(R:Nat→Rat):D:=.lst ((List.range w).map fun j=>frD (R j))
def patD(h w:Nat)(P:Nat→Nat→Rat):D:=.lst ((List.range h).map fun i=>rowD w (P i))
def Ct(n:Nat):Prop:=n=1∨n=2∨n=4∨n=8∨n=16
theorem Ct.le{n:Nat}(h:Ct n):1≤n∧n≤16:=by unfold Ct at h;omega
theorem ZlR{Φ:D→Prop}{n:Nat}(hn:Ct n)(h:Φ (.bl false)):Tl (dNin (.int (n:Int)) (.tup [.int 1,.int 2,.int 4,.int 8,.int 16])) Φ:=by
 refine Zal ?_ h
 rcases hn with rfl | rfl | rfl | rfl | rfl<;>rfl
theorem Zdq{Φ:D→Prop}{n:Int}(h:Φ (.bl true)):Tl (ZaB [.int n]) Φ:=by
 unfold ZaB
 walk_at "w"
 exact h
theorem ZcM{Φ:D→Prop}{q:Rat}(h:Φ (.bl true)):Tl (ZaE [frD q]) Φ:=by
 have d:=den1 q
 unfold ZaE frD
 walk_at "w"
 refine Zdq ?_
 walk_at "w"
 refine Zdq ?_
 walk_at "w"
 refine ZdS (ns:=[q.num,(q.den:Int)]) ?_
 rw [Mt.Zjb,show Int.gcd q.num (q.den:Int)=1 by show Nat.gcd q.num.natAbs (q.den:Int).natAbs=1;rw [Vca];exact q.reduced]
 walk_at "w"
 exact h
theorem Zf8{Φ:D→Prop}{h w:Nat}{P:Nat→Nat→Rat}(hh:Ct h)(hw:Ct w)(q:Φ .non):Tl (ZaO [patD h w P]) Φ:=by
 have h1:=hh.le
 have w1:=hw.le
 have hp:patD h w P=.lst (rowD w (P 0)::((List.range (h - 1)).map fun i=>rowD w (P (i+1)))):=by
  unfold patD
  obtain ⟨k,rfl⟩ : ∃k,h=k+1:=⟨h - 1,by omega⟩
  rw [List.range_succ_eq_map,VaP,VbJ]
  rfl
 unfold ZaO
 unfold patD
 walk_at "w"
 rw [VaQ,VbF]
 refine ZlR hh ?_
 walk_at "w"
 refine Zfp (fun j ρ=>∃v1:Cl,ρ=[.im (patD h w P),v1]) ⟨_,rfl⟩ ?_ ?_
 ·rintro j hj ρ ⟨v1,rfl⟩
  unfold rowD
  walk_at "w"
  rw [VaQ,VbF]
  refine ZlR hw ?_
  walk_at "w"
  rw [hp]
  walk_at "w"
  unfold rowD
  walk_at "w"
  rw [VaQ,VbF,VaQ,VbF]
  walk_at "w"
  refine ⟨by rw [VaQ,VbF];omega,?_⟩
  refine Zc1 (fun _:Nat=>D.bl true) (fun k hk=>?_) ?_
  ·walk_at "w"
   exact ZcM rfl
  walk_at "w"
  refine ZiO (fun y hy=>?_) ?_
  ·obtain ⟨_,_,rfl⟩:=Vbs.mp hy
   rfl
  walk_at "w"
  exact ⟨_,rfl,_,rfl⟩
 ·rintro ρ ⟨v1,rfl⟩
  walk_at "w"
  exact q
theorem ZpB{Φ:D→Prop}{h w:Nat}{P:Nat→Nat→Rat}{i:Nat}(hi:i<h)(q:Φ (rowD w (P i))):Tl (dIx (patD h w P) (.int (i:Int))) Φ:=by
 unfold patD
 rw [ZgZ,Zmh,Va5,VbG hi]
 exact Zau q
theorem Zpj{Φ:D→Prop}{w:Nat}{R:Nat→Rat}{i:Nat}(hi:i<w)(q:Φ (frD (R i))):Tl (dIx (rowD w R) (.int (i:Int))) Φ:=by
 unfold rowD
 rw [ZgZ,Zmh,Va5,VbG hi]
 exact Zau q
theorem ZnW(k:Nat)(q:Rat):plain (k+1) (frD q)=true:=by
 show ZaA k [.int q.num,.int (q.den:Int)]=true
 cases k<;>rfl
theorem Zhy{Φ:D→Prop}{vs:List Int}(hl:vs.length≤3)(h:Φ (.bl true)):Tl (ZbQ [.tup (vs.map .int)]) Φ:=by
 unfold ZbQ
 walk_at "w"
 rw [VaQ]
 walk_at "w"
 refine ⟨by omega,?_⟩
 refine Zc1 (fun _:Int=>D.bl true) (fun k hk=>?_) ?_
 ·walk_at "w"
  exact Zdq rfl
 walk_at "w"
 refine ZiO (fun y hy=>?_) ?_
 ·obtain ⟨_,_,rfl⟩:=Vbs.mp hy
  rfl
 walk_at "w"
 exact h
theorem Zhi{Φ:D→Prop}{x y w h:Int}{vs:List Int}(hh:1≤h)(hl:vs.length≤3)(q:Φ (.bl true)):Tl (Zb5 [cor x y w h vs]) Φ:=by
 unfold Zb5 cor
 walk_at "w"
 rw [show cutL [D.int x,D.int y,D.int w,D.int h,D.tup (List.map D.int vs)] none (some 4)=[x,y,w,h].map D.int from rfl]
 refine ⟨by show (4:Nat)≤_;omega,?_⟩
 refine Zc1 (fun _:Int=>D.bl true) (fun k hk=>?_) ?_
 ·walk_at "w"
  exact Zdq rfl
 walk_at "w"
 refine ZiO (fun y hy=>?_) ?_
 ·obtain ⟨_,_,rfl⟩:=Vbs.mp hy
  rfl
 walk_at "w"
 refine Zhy hl ?_
 walk_at "w"
 exact q
structure Tr(k:Nat)(T:D):Prop where
 ex:∃(ax ay aw ah bx bY bw bh cx cy cw ch:Int) (av bv cv:List Int),T=.tup [cor ax ay aw ah av,cor bx bY bw bh bv,cor cx cy cw ch cv]∧Ck ax ay aw ah∧Ck bx bY bw bh∧Ck cx cy cw ch ∧
  av.length=k∧bv.length=k∧cv.length=k∧(∀v∈av,Bd v)∧(∀v∈bv,Bd v)∧(∀v∈cv,Bd v)
theorem Zq2{k:Nat}{T:D}(hk:k≤3)(h:Tr k T):ZaS [T]=.ok .non:=by
 obtain ⟨ax,ay,aw,ah,bx,bY,bw,bh,cx,cy,cw,ch,av,bv,cv,rfl,ca,cb,cc,la,lb,lc,_⟩:=h
 refine Tl.eq ?_
 unfold ZaS
 walk_at "w"
 refine w_f1 ?_
 walk_at "w"
 refine Zhi ca.h.1 (by omega) ?_
 unfold cor
 walk_at "w"
 refine w_f1 ?_
 walk_at "w"
 refine Zhi cb.h.1 (by omega) ?_
 walk_at "w"
 refine w_f1 ?_
 walk_at "w"
 refine Zhi cc.h.1 (by omega) ?_
 walk_at "w"
 refine w_f0 ?_
 walk_at "w"
theorem ZpV{k:Nat}{T:D}(h:Tr k T):Zan [T]=.ok .non:=by
 obtain ⟨ax,ay,aw,ah,bx,bY,bw,bh,cx,cy,cw,ch,av,bv,cv,rfl,ca,cb,cc,la,lb,lc,_⟩:=h
 have h1:=ca.w.1
 have h2:=cb.w.1
 have h3:=cc.w.1
 refine Tl.eq ?_
 unfold Zan cor
 walk_at "w"
 refine w_f1 ?_
 walk_at "w"
 refine w_f1 ?_
 walk_at "w"
 refine w_f1 ?_
 walk_at "w"
 refine w_f0 ?_
 walk_at "w"
theorem ZkQ(q:Rat):ZaL [frD q]=.ok .non:=by
 refine Tl.eq ?_
 unfold ZaL
 walk_at "w"
 refine ZcM ?_
 walk_at "w"
theorem Zng{q:Rat}(h0:0≤q.num)(h1:q.num≤q.den):ZbP [frD q]=.ok .non:=by
 refine Tl.eq ?_
 unfold ZbP
 walk_at "w"
 refine ZcM ?_
 unfold frD
 walk_at "w"
theorem Zjt{k:Nat}{T:D}{n:Int}(h:Tr k T)(hn:n≤k):ZaJ [T,.int n]=.ok .non:=by
 obtain ⟨ax,ay,aw,ah,bx,bY,bw,bh,cx,cy,cw,ch,av,bv,cv,rfl,ca,cb,cc,la,lb,lc,_⟩:=h
 refine Tl.eq ?_
 unfold ZaJ cor
 walk_at "w"
theorem Zf3{f:Str}{d:D}{k:MSi}{ρ:Ev}{fl:Fs}{e:ME}(he:e ρ=.ok d)(hn:(fl.map (·.1)).contains f=false)(hl:fl.length<100):iSet f e k ρ fl=k ρ (fl++[(f,d)]):=by
 unfold iSet
 rw [he]
 show (if (fl.map (·.1)).contains f=true∨100≤fl.length then Res.bad else k ρ (fl++[(f,d)]))=_
 rw [if_neg]
 rintro (z | z)
 ·rw [hn] at z;cases z
 ·omega
theorem Zfa{d:D}{k:MSi}{ρ:Ev}{fl:Fs}{e:ME}(he:e ρ=.ok d):iDrp e k ρ fl=k ρ fl:=by
 unfold iDrp
 rw [he]
 rfl
theorem Zje{g:List D→Fs→Res Fs}{a:MA}{ds:List D}{k:MSi}{ρ:Ev}{fl fl':Fs}(ha:a ρ=.ok ds)(hg:g ds fl=.ok fl'):iSup g a k ρ fl=k ρ fl':=by
 unfold iSup
 rw [ha]
 show (g ds fl).bind _=_
 rw [hg]
 rfl
theorem no_c:([("triangle" : Str)]:List Str).contains "colour"=false:=by decide +kernel
theorem ZtH:([("triangle" : Str)]:List Str).contains "pattern"=false:=by decide +kernel
theorem ZuN:([("triangle" : Str), "colour"]:List Str).contains "part"=false:=by decide +kernel
abbrev fsT(T:D):Fs:=[(("triangle" : Str),T)]
theorem Zhf{k:Nat}{T:D}(hk:k≤3)(h:Tr k T):ZbS [T] []=.ok (fsT T):=by
 unfold ZbS fnI
 rw [Zfa (d:=.non) (Zq2 hk h),Zfa (d:=.non) (ZpV h),Zf3 (d:=T) rfl rfl (by decide)]
 rfl
theorem Zpx{k:Nat}{T:D}{q:Rat}(hk:k≤3)(h:Tr k T):ZeS [T,frD q] []=.ok [(("triangle" : Str),T),(("colour" : Str),frD q)]:=by
 unfold ZeS fnI
 rw [Zje (ds:=[T]) rfl (Zhf hk h),Zfa (d:=.non) (ZkQ q),Zf3 (d:=frD q) rfl no_c (by show (1:Nat)<100;decide)]
 rfl
theorem Znq{k:Nat}{T:D}(hk:k≤3)(h:Tr k T)(h1:1≤k):Zdw [T] []=.ok (fsT T):=by
 unfold Zdw fnI
 rw [Zje (ds:=[T]) rfl (Zhf hk h),Zfa (d:=.non) (Zjt h (by omega))]
 rfl
theorem ZoM{k:Nat}{T:D}{q r:Rat}(hk:k≤3)(h:Tr k T)(h0:0≤r.num)(h1:r.num≤r.den):ZeG [T,frD q,frD r] []=.ok [(("triangle" : Str),T),(("colour" : Str),frD q),(("part" : Str),frD r)]:=by
 unfold ZeG fnI
 rw [Zje (ds:=[T]) rfl (Zhf hk h),Zfa (d:=.non) (ZkQ q),Zfa (d:=.non) (Zng h0 h1),Zf3 (d:=frD q) rfl no_c (by show (1:Nat)<100;decide),Zf3 (d:=frD r) rfl ZuN (by show (2:Nat)<100;decide)]
 rfl
theorem ZnM{Φ:D→Prop}{h w:Nat}{P:Nat→Nat→Rat}(hh:h≤100)(q:Φ (patD h w P)):Tl (Zdt [patD h w P]) Φ:=by
 unfold Zdt patD
 walk_at "w"
 refine ⟨by rw [VaQ,VbF];omega,?_⟩
 refine Zc1 (fun i:Nat=>rowD w (P i)) (fun i hi=>?_) ?_
 ·unfold rowD
  walk_at "w"
 walk_at "w"
 exact q
theorem Ztd{k h w:Nat}{T:D}{P:Nat→Nat→Rat}(hk:k≤3)(ht:Tr k T)(h2:2≤k)(hh:Ct h)(hw:Ct w):ZbD [T,patD h w P] []=.ok [(("triangle" : Str),T),(("pattern" : Str),patD h w P)]:=by
 have h1:=hh.le
 have c1:ZaO [patD h w P]=.ok .non:=Tl.eq (Zf8 hh hw rfl)
 have c2:Zdt [patD h w P]=.ok (patD h w P):=Tl.eq (ZnM (by omega) rfl)
 unfold ZbD fnI
 rw [Zje (ds:=[T]) rfl (Zhf hk ht),Zfa (d:=.non) (Zjt ht (by omega)),Zfa (d:=.non) c1,Zf3 (d:=patD h w P) c2 ZtH (by show (1:Nat)<100;decide)]
 rfl
inductive Thg:D→Prop
 | plain {k:Nat} {T:D} {q:Rat}:Tr k T→k≤3→Bq 32 q→Thg (.ins "Plain" ["triangle", "colour"] [T,frD q])
 | shaded {k:Nat} {T:D}:Tr k T→k≤3→1≤k→Thg (.ins "Shaded" ["triangle"] [T])
 | patt {k h w:Nat} {T:D} {P:Nat→Nat→Rat}:Tr k T→k≤3→2≤k→Ct h→Ct w→(∀i,i<h→∀j,j<w→Bq 32 (P i j))→Thg (.ins "Patterned" ["triangle", "pattern"] [T,patD h w P])
 | glass {k:Nat} {T:D} {q r:Rat}:Tr k T→k≤3→Bq 32 q→Bq 32 r→0≤r.num→r.num≤r.den→Thg (.ins "Glass" ["triangle", "colour", "part"] [T,frD q,frD r])
theorem fT1(T q:D):dFld objs "triangle" (.ins "Plain" ["triangle", "colour"] [T,q])=.ok T:=rfl
theorem fT2(T:D):dFld objs "triangle" (.ins "Shaded" ["triangle"] [T])=.ok T:=rfl
theorem fT3(T q:D):dFld objs "triangle" (.ins "Patterned" ["triangle", "pattern"] [T,q])=.ok T:=rfl
theorem fT4(T q r:D):dFld objs "triangle" (.ins "Glass" ["triangle", "colour", "part"] [T,q,r])=.ok T:=rfl
theorem fC4(T q r:D):dFld objs "colour" (.ins "Glass" ["triangle", "colour", "part"] [T,q,r])=.ok q:=rfl
theorem fP4(T q r:D):dFld objs "part" (.ins "Glass" ["triangle", "colour", "part"] [T,q,r])=.ok r:=rfl
theorem fN3(T q:D):dFld objs "pattern" (.ins "Patterned" ["triangle", "pattern"] [T,q])=.ok q:=rfl
theorem Zl3{x:Int}{n:Nat}(h:1≤n):∃i:Nat,x%(n:Int)=(i:Int)∧i<n:=by
 have a:=VbZ x (show (n:Int)≠0 by omega)
 have b:=Vb0 x (show (0:Int)<n by omega)
 exact ⟨(x%(n:Int)).toNat,by omega,by omega⟩
theorem Zoz{Φ:D→Prop}{q:Rat}{k:Nat}(hb:Bq k q)(hk:k≤8000)(h:Φ (.int (q.num/(q.den:Int)))):Tl (Zgq [frD q]) Φ:=by
 have d:=den1 q
 have l:=hb.d.log (show k<9000 by omega)
 unfold Zgq frD
 generalize q.num=n at *
 generalize (q.den:Int)=m at *
 walk_at "w"
 exact h
theorem ZkZ{Φ:D→Prop}{h w:Nat}{P:Nat→Nat→Rat}{u v:Rat}(hh:Ct h)(hw:Ct w)(bu:Bq 300 u)(bv:Bq 300 v)(q:∀i j,i<h→j<w→Φ (frD (P i j))):∃i j,i<h∧j<w∧Zcy [patD h w P,frD u,frD v]=.ok (frD (P i j)):=by
 have h1:=hh.le
 have w1:=hw.le
 obtain ⟨i,ei,hi⟩:=Zl3 (x:=v.num/(v.den:Int)) h1.1
 obtain ⟨j,ej,hj⟩:=Zl3 (x:=u.num/(u.den:Int)) w1.1
 refine ⟨i,j,hi,hj,Tl.eq ?_⟩
 unfold Zcy
 walk_at "w"
 refine Zoz bv (by decide) ?_
 walk_at "w"
 rw [VaQ,VbF]
 walk_at "w"
 rw [ei]
 refine ZpB hi ?_
 walk_at "w"
 refine Zoz bu (by decide) ?_
 walk_at "w"
 rw [VaQ,VbF]
 walk_at "w"
 rw [ej]
 refine Zpj hj ?_
 walk_at "w"
theorem ZoD{t b:Int}{k:Nat}(hb:b≠0)(st:Sm k t)(sb:Sm k b):Bq k (Rat.divInt t b):=by
 have F:=Mt.Zpn (t:=t) hb
 have e:=ZcI (t:=t) (b:=b) hb
 unfold fra frD at e
 injection e with e
 injection e with e1 e2
 injection e1 with e1
 injection e2 with e2 _
 injection e2 with e2
 exact ⟨e1▸st.le F.np,e2▸sb.le F.nq⟩
theorem Zer{k:Nat}{T:D}{px py ps:Int}(h:Tr k T)(hk:k≤3)(cp:Cr px py ps)(hp:1≤ps):Zat [T,.tup [.int px,.int py,.int ps]]=.ok .non ∨
  ∃(q:Rat) (vs:List Rat),vs.length=k∧Bq 300 q∧(∀v∈vs,Bq 300 v)∧Zat [T,.tup [.int px,.int py,.int ps]]=.ok (.tup [frD q,.tup (vs.map frD)]):=by
 obtain ⟨ax,ay,aw,ah,bx,bY,bw,bh,cx,cy,cw,ch,av,bv,cv,rfl,ca,cb,cc,la,lb,lc,va,vb,vc⟩:=h
 have sm:∀{n:Int},1≤n∧n≤1000000→Sm 64 n:=fun h=>Sm.of64 (by omega) (by omega)
 have fa:Cv 64 ax ay aw ah av:=⟨ca.cr.x,ca.cr.y,ca.cr.w,sm ca.h,fun v hv=>(va v hv).s,ca.h.1⟩
 have fb:Cv 64 bx bY bw bh bv:=⟨cb.cr.x,cb.cr.y,cb.cr.w,sm cb.h,fun v hv=>(vb v hv).s,cb.h.1⟩
 have fc:Cv 64 cx cy cw ch cv:=⟨cc.cr.x,cc.cr.y,cc.cr.w,sm cc.h,fun v hv=>(vc v hv).s,cc.h.1⟩
 by_cases h0:hdE ax ay aw bx bY bw cx cy cw px py ps=0
 ·left
  exact Tl.eq (Zmq ca.w.1 cb.w.1 cc.w.1 ca.cr cb.cr cc.cr cp h0 rfl)
 ·right
  have W:=ZkV (by have:=ca.w;omega) (by have:=cb.w;omega) (by have:=cc.w;omega) (by omega) h0
  have se:=cb.cr.ow cc.cr cp
  have sf:=cc.cr.ow ca.cr cp
  have s3:=ca.cr.ow cb.cr cp
  have n0:=Zl1 ca.h.1 cb.h.1 cc.h.1 W
  have e:=Tl.eq (ZlI (Φ:=fun x=>x=_) ca.w.1 cb.w.1 cc.w.1 hp ca.cr cb.cr cc.cr cp fa fb fc (by omega) h0 rfl rfl rfl rfl rfl)
  have sB:=ZjN fa.fh fb.fh fc.fh se sf s3
  have sT:=ZjN fa.fw fb.fw fc.fw se sf s3
  generalize ow bx bY bw cx cy cw px py ps=e1 at *
  generalize ow cx cy cw ax ay aw px py ps=e2 at *
  generalize ow ax ay aw bx bY bw px py ps=e3 at *
  generalize hB:dot ah bh ch e1 e2 e3=B at *
  refine ⟨Rat.divInt (dot aw bw cw e1 e2 e3) B,(av.zip (bv.zip cv)).map fun t=>Rat.divInt (dot t.1 t.2.1 t.2.2 e1 e2 e3) B,?_,(ZoD n0 sT sB).mono (by decide),fun v hv=>?_,?_⟩
  ·rw [VaQ,Vce,Vce];omega
  ·obtain ⟨t,ht,rfl⟩:=Vbs.mp hv
   obtain ⟨t1,t2,t3⟩:=ZjI ht
   exact (ZoD n0 (ZjN (fa.fv _ t1) (fb.fv _ t2) (fc.fv _ t3) se sf s3) sB).mono (by decide)
  ·rw [e,ZcI n0]
   unfold vls
   rw [VbJ]
   congr 3
   congr 1
   congr 1
   exact Vaa fun t _=>ZcI n0
theorem Zjr{α β:Type}(f:α→β)(R:Nat→α)(x:α)(n:Nat):(List.range n).map (fun i=>f (R i))++[f x]=(List.range (n+1)).map fun i=>f ((fun i=>if i=n then x else R i) i):=by
 rw [List.range_succ,VbV]
 show _=_++[f (if n=n then x else R n)]
 rw [if_pos rfl,show (List.range n).map (fun i=>f ((fun i=>if i=n then x else R i) i))=(List.range n).map (fun i=>f (R i)) from Vaa fun i hi=>by
  show f (if i=n then x else R i)=_
  rw [if_neg (by have:=Vaj.mp hi;omega)]]
theorem ZjH{α:Type}{Q:α→Prop}{R:Nat→α}{x:α}{n:Nat}(h:∀i,i<n→Q (R i))(hx:Q x):∀i,i<n+1→Q ((fun i=>if i=n then x else R i) i):=fun i hi=>by
 show Q (if i=n then x else R i)
 by_cases c:i=n
 ·rw [if_pos c];exact hx
 ·rw [if_neg c];exact h i (by omega)
theorem ZlL(a:Int):D.tup [.int a,.int 1]=frD (a:Rat):=rfl
theorem ZoH{a:Int}{k:Nat}(h:Sm k a)(hk:1≤k):Bq k (a:Rat):=⟨h,by
 show (1:Int).natAbs<2^k
 exact Nat.one_lt_two_pow (by omega)⟩
theorem ZmA{Φ:D→Prop}{n more:Int}(hn:0≤n)(q:∀(h w:Nat) (P:Nat→Nat→Rat),Ct h→Ct w→(∀i,i<h→∀j,j<w→Bq 32 (P i j))→Φ (patD h w P)):Tl (Zbb [.int n,.int more]) Φ:=by
 unfold Zbb
 walk_at "w"
 refine Zgd ⟨by omega,by show _<((4:Nat):Int);omega⟩ fun d hd=>?_
 obtain ⟨h,rfl,hh⟩ : ∃n:Nat,d=.int (n:Int)∧Ct n:=by
  simp only [Var,VbQ,VbR] at hd
  rcases hd with rfl | rfl | rfl | rfl
  ·exact ⟨1,rfl,by unfold Ct;omega⟩
  ·exact ⟨2,rfl,by unfold Ct;omega⟩
  ·exact ⟨4,rfl,by unfold Ct;omega⟩
  ·exact ⟨16,rfl,by unfold Ct;omega⟩
 walk_at "w"
 refine Zgd ⟨by omega,by show _<((4:Nat):Int);omega⟩ fun d hd=>?_
 obtain ⟨w,rfl,hw⟩ : ∃n:Nat,d=.int (n:Int)∧Ct n:=by
  simp only [Var,VbQ,VbR] at hd
  rcases hd with rfl | rfl | rfl | rfl
  ·exact ⟨1,rfl,by unfold Ct;omega⟩
  ·exact ⟨2,rfl,by unfold Ct;omega⟩
  ·exact ⟨8,rfl,by unfold Ct;omega⟩
  ·exact ⟨4,rfl,by unfold Ct;omega⟩
 have h1:=hh.le
 have w1:=hw.le
 walk_at "w"
 rw [Zbo,VbA]
 refine Zfp (fun j ρ=>∃(P:Nat→Nat→Rat) (v5 v6 v7 v8:Cl),(∀i,i<j→∀t,t<w→Bq 32 (P i t))∧ρ=[.im (.int n),.im (.int more),.im (.int (h:Int)),.im (.int (w:Int)),.ow ((List.range j).map fun i=>rowD w (P i)),v5,v6,v7,v8]) ⟨fun _ _=>0,_,_,_,_,(fun i hi=>absurd hi (Nat.not_lt_zero i)),rfl⟩ ?_ ?_
 ·rintro j hj ρ ⟨P,v5,v6,v7,v8,hP,rfl⟩
  walk_at "w"
  rw [Zbo,VbA]
  refine Zfp (fun t ρ=>∃(R:Nat→Rat) (v7 v8:Cl),(∀i,i<t→Bq 32 (R i))∧ρ=[.im (.int n),.im (.int more),.im (.int (h:Int)),.im (.int (w:Int)),.ow ((List.range j).map fun i=>rowD w (P i)),.im (.int (j:Int)),.ow ((List.range t).map fun i=>frD (R i)),v7,v8]) ⟨fun _=>0,_,_,(fun i hi=>absurd hi (Nat.not_lt_zero i)),rfl⟩ ?_ ?_
  ·rintro t ht ρ ⟨R,v7,v8,hR,rfl⟩
   walk_at "w"
   refine Zk6 (by omega) fun r hr=>?_
   walk_at "w"
   refine ZcX (k:=32) (by omega) (by show (r - 10^9).natAbs<2^32;omega) (by show (1+r/9%99).natAbs<2^32;omega) (by decide) fun hB=>?_
   walk_at "w"
   rw [ZlL]
   refine Zgd ⟨by omega,by show _<((2:Nat):Int);omega⟩ fun d hd=>?_
   obtain ⟨x,rfl,hx⟩ : ∃x:Rat,d=frD x∧Bq 32 x:=by
    simp only [Var,VbQ,VbR] at hd
    rcases hd with rfl | rfl
    ·exact ⟨_,rfl,ZoH (by show (r%7).natAbs<2^32;omega) (by decide)⟩
    ·exact ⟨_,rfl,hB⟩
   refine ⟨by rw [VaQ,VbF];omega,?_⟩
   rw [Zjr frD R x t]
   exact ⟨_,rfl,_,_,_,ZjH hR hx,rfl⟩
  ·rintro ρ ⟨R,v7,v8,hR,rfl⟩
   walk_at "w"
   refine ⟨by rw [VaQ,VbF];omega,?_⟩
   rw [show D.lst ((List.range w).map fun i=>frD (R i))=rowD w R from rfl,Zjr (rowD w) P R j]
   exact ⟨_,rfl,_,_,_,_,_,ZjH (Q:=fun S:Nat→Rat=>∀t,t<w→Bq 32 (S t)) hP hR,rfl⟩
 ·rintro ρ ⟨P,v5,v6,v7,v8,hP,rfl⟩
  walk_at "w"
  exact q h w P hh hw hP
theorem Zjs{Φ:D→Prop}{c:Str}{g:List D→Fs→Res Fs}{a:MA}{ρ:Ev}(h:Tl (a ρ) fun ds=>∃fl,g ds []=.ok fl∧Φ (.ins c (fl.map (·.1)) (fl.map (·.2)))):Tl (make c g a ρ) Φ:=by
 obtain ⟨ds,e1,fl,e2,q⟩:=h
 refine Zal ?_ q
 unfold make
 rw [e1]
 show (g ds []).bind _=_
 rw [e2]
 rfl
theorem Zsg{rs:List Int}{k:Nat}:cutL (rs.map .int) none (some (k:Int))=(rs.take k).map .int:=by
 unfold cutL cutAt
 rw [VaQ]
 simp only []
 rw [if_neg (by omega),VbA,Vbw,Nat.sub_zero,Vb4]
 by_cases h:k≤rs.length
 ·rw [Vch h]
 ·rw [Nat.min_eq_right (by omega),Vbx (by simp),Vbx (by simp;omega)]
theorem Zkr{k:Nat}{d:D}(h:isT k d):Tr k d:=by
 obtain ⟨a,b,c,rfl,⟨ax,ay,aw,ah,av,rfl,ca,la,ba⟩,⟨bx,bY,bw,bh,bv,rfl,cb,lb,bb⟩,⟨cx,cy,cw,ch,cv,rfl,cc,lc,bc⟩⟩:=h
 exact ⟨ax,ay,aw,ah,bx,bY,bw,bh,cx,cy,cw,ch,av,bv,cv,rfl,ca,cb,cc,la,lb,lc,ba,bb,bc⟩
theorem Zrb{x y w h:Int}{vs:List Int}{f:Nat}:∃d1,dCut (cor x y w h vs) none (some 4)=.ok d1∧yaA d1 (.tup [.tup (cutL (vs.map .int) none (some (f:Int)))])=.ok (cor x y w h (vs.take f)):=by
 refine ⟨.tup [.int x,.int y,.int w,.int h],rfl,?_⟩
 rw [Zsg]
 rfl
theorem Zkz{Φ:D→Prop}{k:Nat}{T:D}{n0 n1 n2 n3:Int}(d0:Dw n0)(d1:Dw n1)(d2:Dw n2)(d3:Dw n3)(hk:2≤k∧k≤3)(ht:isT k T)(q:∀d,Thg d→Φ d):Tl (ZbO [.lst [.int n0,.int n1,.int n2,.int n3],T]) Φ:=by
 unfold Dw at d0 d1 d2 d3
 unfold ZbO
 walk_at "w"
 refine ZcX (k:=32) (by omega) (by show (2*(n0/8%9)+1).natAbs<2^32;omega) (by show (2:Int).natAbs<2^32;decide) (by decide) fun hB1=>?_
 walk_at "w"
 refine ZcX (k:=32) (by omega) (by show (n1 - 10^9).natAbs<2^32;omega) (by show (1+n2).natAbs<2^32;omega) (by decide) fun hB2=>?_
 walk_at "w"
 rw [ZlL]
 refine Zgd ⟨by omega,by show _<((3:Nat):Int);omega⟩ fun d hd=>?_
 obtain ⟨cq,rfl,hc⟩ : ∃x:Rat,d=frD x∧Bq 32 x:=by
  simp only [Var,VbQ,VbR] at hd
  rcases hd with rfl | rfl | rfl
  ·exact ⟨_,rfl,ZoH (by show (n0/8%9 - 2).natAbs<2^32;omega) (by decide)⟩
  ·exact ⟨_,rfl,hB1⟩
  ·exact ⟨_,rfl,hB2⟩
 clear hd
 walk_at "w"
 refine Zb9 (fun w0=>?_) (fun w0=>?_)
 ·obtain ⟨a,b,c,rfl,⟨ax,ay,aw,ah,av,rfl,ca,la,ba⟩,⟨bx,bY,bw,bh,bv,rfl,cb,lb,bb⟩,⟨cx,cy,cw,ch,cv,rfl,cc,lc,bc⟩⟩:=ht
  obtain ⟨f,hf⟩ : ∃f:Nat,1+n0/8%3=(f:Int):=⟨(1+n0/8%3).toNat,by omega⟩
  walk_at "w"
  refine Zjs ?_
  walk_at "w"
  refine ⟨by show (3:Nat)≤_;omega,?_⟩
  rw [hf]
  have few:=fun (x y w h:Int) (vs:List Int)=>Zrb (x:=x) (y:=y) (w:=w) (h:=h) (vs:=vs) (f:=f)
  obtain ⟨a1,ea1,ea3⟩:=few ax ay aw ah av
  obtain ⟨b1,eb1,eb3⟩:=few bx bY bw bh bv
  obtain ⟨c1,ec1,ec3⟩:=few cx cy cw ch cv
  have tr:Tr (min f k) (.tup [cor ax ay aw ah (av.take f),cor bx bY bw bh (bv.take f),cor cx cy cw ch (cv.take f)]):=⟨ax,ay,aw,ah,bx,bY,bw,bh,cx,cy,cw,ch,_,_,_,rfl,ca,cb,cc,by rw [Va0,la],by rw [Va0,lb],by rw [Va0,lc],fun v hv=>ba v (Vci hv),fun v hv=>bb v (Vci hv),fun v hv=>bc v (Vci hv)⟩
  refine Zhq ?_
  walk_at "w"
  refine Zal ea1 ?_
  walk_at "w"
  refine Zal ea3 ?_
  walk_at "w"
  refine Zhq ?_
  walk_at "w"
  refine Zal eb1 ?_
  walk_at "w"
  refine Zal eb3 ?_
  walk_at "w"
  refine Zhq ?_
  walk_at "w"
  refine Zal ec1 ?_
  walk_at "w"
  refine Zal ec3 ?_
  walk_at "w"
  refine ZqO ?_
  walk_at "w"
  exact ⟨_,Znq (by omega) tr (by omega),by walk_at "w"; exact q _ (.shaded tr (by omega) (by omega))⟩
 walk_at "w"
 refine Zb9 (fun w1=>?_) (fun w1=>?_)
 ·walk_at "w"
  refine Zjs ?_
  walk_at "w"
  refine ZmA (by omega) fun h w P hh hw hP=>?_
  walk_at "w"
  exact ⟨_,Ztd hk.2 (Zkr ht) hk.1 hh hw,by walk_at "w"; exact q _ (.patt (Zkr ht) hk.2 hk.1 hh hw hP)⟩
 walk_at "w"
 refine Zb9 (fun w2=>?_) (fun w2=>?_)
 ·walk_at "w"
  refine Zjs ?_
  walk_at "w"
  exact ⟨_,Zpx hk.2 (Zkr ht),by walk_at "w"; exact q _ (.plain (Zkr ht) hk.2 hc)⟩
 walk_at "w"
 refine ZcX (k:=32) (t:=n3%(1+n1)) (by omega) (by have:=VbZ n3 (show 1+n1≠0 by omega);have:=Vb0 n3 (show 0<1+n1 by omega);show (n3%(1+n1)).natAbs<2^32;omega) (by show (1+n1).natAbs<2^32;omega) (by decide) fun hB3=>?_
 walk_at "w"
 have r0:=VbZ n3 (show 1+n1≠0 by omega)
 have r1:=Vb0 n3 (show 0<1+n1 by omega)
 have lo:∀{t b:Int},0≤t→t≤b→0<b→0≤(Rat.divInt t b).num∧(Rat.divInt t b).num≤(Rat.divInt t b).den:=by
  intro t b h0 h1 hb
  have d0:=den1 (Rat.divInt t b)
  have e:=(Vcj (by omega) (by omega)).mp (Vck (Rat.divInt t b))
  generalize (Rat.divInt t b).num=p at *
  generalize ((Rat.divInt t b).den:Int)=m at *
  have g0:0≤t*m:=Int.mul_nonneg h0 (by omega)
  have g1:t*m≤b*m:=Vcg h1 (by omega)
  constructor
  ·by_cases c:0≤p
   ·exact c
   ·exfalso
    have:=Int.mul_lt_mul_of_pos_right (show p<0 by omega) hb
    omega
  ·by_cases c:p≤m
   ·exact c
   ·exfalso
    have:=Int.mul_lt_mul_of_pos_right (show m<p by omega) hb
    have c2:m*b=b*m:=Int.mul_comm _ _
    omega
 refine Zgd ⟨by omega,by show _<((6:Nat):Int);omega⟩ fun d hd=>?_
 obtain ⟨pq,rfl,hp,hp0,hp1⟩ : ∃x:Rat,d=frD x∧Bq 32 x∧0≤x.num∧x.num≤x.den:=by
  have lit:∀{t b:Int},D.tup [.int t,.int b]=frD (Rat.divInt t b)→0≤t→t≤b→0<b→b<2^30→∃x:Rat,D.tup [.int t,.int b]=frD x∧Bq 32 x∧0≤x.num∧x.num≤x.den:=fun {t b} e h0 h1 hb h2=>⟨_,e,Zjm hb (by show t.natAbs<2^32;omega) (by show b.natAbs<2^32;omega),lo h0 h1 hb⟩
  simp only [Var,VbQ,VbR] at hd
  rcases hd with rfl | rfl | rfl | rfl | rfl | rfl
  ·exact lit (t:=0) (b:=1) (by unfold frD;rw [show (Rat.divInt 0 1).num=0 by decide +kernel,show (Rat.divInt 0 1).den=1 by decide +kernel];rfl) (by decide) (by decide) (by decide) (by decide)
  ·exact lit (t:=1) (b:=2) (by unfold frD;rw [show (Rat.divInt 1 2).num=1 by decide +kernel,show (Rat.divInt 1 2).den=2 by decide +kernel];rfl) (by decide) (by decide) (by decide) (by decide)
  ·exact lit (t:=1) (b:=3) (by unfold frD;rw [show (Rat.divInt 1 3).num=1 by decide +kernel,show (Rat.divInt 1 3).den=3 by decide +kernel];rfl) (by decide) (by decide) (by decide) (by decide)
  ·exact lit (t:=2) (b:=3) (by unfold frD;rw [show (Rat.divInt 2 3).num=2 by decide +kernel,show (Rat.divInt 2 3).den=3 by decide +kernel];rfl) (by decide) (by decide) (by decide) (by decide)
  ·exact lit (t:=1) (b:=1) (by unfold frD;rw [show (Rat.divInt 1 1).num=1 by decide +kernel,show (Rat.divInt 1 1).den=1 by decide +kernel];rfl) (by decide) (by decide) (by decide) (by decide)
  ·exact ⟨_,rfl,hB3,lo r0 (by omega) (by omega)⟩
 walk_at "w"
 refine Zjs ?_
 walk_at "w"
 exact ⟨_,ZoM hk.2 (Zkr ht) hp0 hp1,by walk_at "w"; exact q _ (.glass (Zkr ht) hk.2 hc hp hp0 hp1)⟩
theorem ZiH{Φ:D→Prop}{ns:List Int}(q:∀ts:List D,ts.length≤5→(∀t∈ts,Thg t)→Φ (.lst ts)):Tl (Zbt [.lst (ns.map .int),.int 0,.int 5]) Φ:=by
 unfold Zbt
 walk_at "w"
 refine ZcF (by omega) fun c1=>?_
 walk_at "w"
 refine Zfz (n:=20) (by decide) fun ds ld hd=>?_
 walk_at "w"
 refine ZcF (by omega) fun c2=>?_
 walk_at "w"
 obtain ⟨k,hk⟩ : ∃k:Nat,2+c2/2%2=(k:Int):=⟨(2+c2/2%2).toNat,by omega⟩
 rw [hk]
 refine Zi0 (first:=0) (most:=5) (many:=k) (by omega) (by decide) (by omega) fun tr lt ht=>?_
 walk_at "w"
 have en:Dl.numbered 0 tr=tr.zipIdx.map fun y=>D.tup [.int (y.2:Int),y.1]:=by
  have key:∀(l:List D) (k:Nat),Dl.numbered k l=(l.zipIdx k).map fun y=>D.tup [.int (y.2:Int),y.1]:=by
   intro l
   induction l with
   | nil=>intro k;rfl
   | cons a r ih =>
    intro k
    rw [List.zipIdx_cons,VaP,←ih (k+1)]
    rfl
  exact key tr 0
 rw [en]
 refine Zgy (enc:=fun y:D×Nat=>D.tup [.int (y.2:Int),y.1]) (fun pre ρ=>∃(ts:List D) (v6 v7:Cl),ts.length=pre.length∧(∀t∈ts,Thg t)∧ρ=[.im (.lst (ns.map .int)),.im (.int 0),.im (.int 5),.im (.lst (ds.map .int)),.ow ts,.im (.int (k:Int)),v6,v7]) ⟨[],_,_,rfl,(fun _ h=>(VbQ h).elim),rfl⟩ ?_ ?_
 ·rintro pre ⟨T,i⟩ r e ρ ⟨ts,v6,v7,lts,hts,rfl⟩
  have hz:tr.zipIdx[pre.length]?=some (T,i):=by rw [←e];simp
  have hz':tr[pre.length]?=some T∧i=pre.length:=by
   rw [List.getElem?_zipIdx] at hz
   cases eL:tr[pre.length]? with
   | none=>rw [eL] at hz;cases hz
   | some y' =>
    rw [eL] at hz
    simp at hz
    exact ⟨by rw [hz.1],hz.2.symm⟩
  obtain ⟨hz1,rfl⟩:=hz'
  have hlen:pre.length<tr.length:=by
   have:=Vay List.length e
   simp at this
   omega
  obtain ⟨n0,n1,n2,n3,e4,d0,d1,d2,d3⟩ : ∃n0 n1 n2 n3:Int,(ds.drop (4*pre.length)).take 4=[n0,n1,n2,n3]∧Dw n0∧Dw n1∧Dw n2∧Dw n3:=by
   have hall:∀x∈(ds.drop (4*pre.length)).take 4,Dw x:=fun x hx=>hd x (List.mem_of_mem_drop (Vci hx))
   have hl:((ds.drop (4*pre.length)).take 4).length=4:=by rw [Va0,Vbd];omega
   generalize (ds.drop (4*pre.length)).take 4=l at *
   match l,hl,hall with
   | [a,b,c,d],_,h=>exact ⟨a,b,c,d,rfl,h a (by simp),h b (by simp),h c (by simp),h d (by simp)⟩
  walk_at "w"
  rw [show (4*(pre.length:Int))=((4*pre.length:Nat):Int) by omega,show (((4*pre.length:Nat):Int)+4)=((4*pre.length+4:Nat):Int) by omega,Zix (by omega) (by omega),show 4*pre.length+4 - 4*pre.length=4 by omega,e4]
  refine Zkz d0 d1 d2 d3 (by omega) (ht T (Va6 hz1)) fun d hd=>?_
  refine ⟨by omega,_,rfl,ts++[d],_,_,by rw [Va7,Va7,lts];rfl,fun t h=>?_,rfl⟩
  rcases Vas.mp h with h | h
  ·exact hts t h
  ·have:t=d:=by simpa using h
   subst this
   exact hd
 ·rintro ρ ⟨ts,v6,v7,lts,hts,rfl⟩
  walk_at "w"
  exact q ts (by rw [lts,List.length_zipIdx];exact lt) hts
theorem ZlN{Φ:D→Prop}{it:MI}{own:Nat}{cap:List Nat}{g:MG}{t:MB}{e:ME}{ρ:Ev}(h:Tl (it ρ) fun xs=>xs.length≤1000000∧Tl (Zai g t e (noA own (yar ρ cap)) xs) fun ys=>Φ (.lst ys)):Tl (ZkB it own cap g t e ρ) Φ:=by
 obtain ⟨xs,e1,hl,ys,e2,q⟩:=h
 refine Zal ?_ q
 unfold ZkB
 rw [e1]
 show (if xs.length≤LIM then (Zai g t e (noA own (yar ρ cap)) xs).bind (fun ys=>Res.ok (D.lst ys)) else .bad)=_
 rw [if_pos (show xs.length≤LIM from hl),e2]
 rfl
theorem Zdr(kf:Nat→List Int):∀(n:Nat) (k:List Int),k∈firsts kf n↔∃i,i<n∧kf i=k
 | 0,k=>by simp [firsts]
 | n+1,k=>by
  have ih:=Zdr kf n k
  unfold firsts
  split
  ·next h =>
   rw [ih]
   constructor
   ·rintro ⟨i,hi,e⟩
    exact ⟨i,by omega,e⟩
   ·rintro ⟨i,hi,e⟩
    by_cases z:i=n
    ·subst z
     obtain ⟨j,hj,e'⟩:=(Zdr kf i (kf i)).mp h
     exact ⟨j,hj,e'.trans e⟩
    ·exact ⟨i,by omega,e⟩
  ·rw [Vas,ih,Vb7]
   constructor
   ·rintro (⟨i,hi,e⟩ | e)
    ·exact ⟨i,by omega,e⟩
    ·exact ⟨n,by omega,e.symm⟩
   ·rintro ⟨i,hi,e⟩
    by_cases z:i=n
    ·subst z;exact .inr e.symm
    ·exact .inl ⟨i,by omega,e⟩
theorem Zdf(kf:Nat→List Int):∀n,(firsts kf n).length≤n
 | 0=>VaI _
 | n+1=>by
  have:=Zdf kf n
  unfold firsts
  split
  ·omega
  ·simp;omega
theorem ZfK(kf:Nat→List Int):∀n,(firsts kf n).length=n↔∀i j,i<j→j<n→kf i≠kf j
 | 0=>by simp [firsts]
 | n+1=>by
  have ih:=ZfK kf n
  have le:=Zdf kf n
  unfold firsts
  split
  ·next h =>
   obtain ⟨i,hi,e⟩:=(Zdr kf n (kf n)).mp h
   constructor
   ·intro z;omega
   ·intro z;exact absurd e (z i n hi (by omega))
  ·next h =>
   have h':∀i,i<n→kf i≠kf n:=fun i hi e=>h ((Zdr kf n (kf n)).mpr ⟨i,hi,e⟩)
   rw [Va7,Vbl]
   constructor
   ·intro z i j hij hj
    have z':=ih.mp (by omega)
    by_cases q:j=n
    ·subst q;exact h' i hij
    ·exact z' i j hij (by omega)
   ·intro z
    have:=ih.mpr fun i j hij hj=>z i j hij (by omega)
    omega
theorem ZjK{α:Type}{enc:α→D}{key:α→List Int}(h:∀a,∃ds,enc a=.tup ds∧intsOf ds=some (key a)):∀l:List α,keysOf (l.map enc)=some (l.map key)
 | []=>rfl
 | a::r=>by
  obtain ⟨ds,e1,e2⟩:=h a
  rw [VaP,e1]
  unfold keysOf
  rw [e2,ZjK h r]
  rfl
theorem ZpN{α:Type} [DecidableEq α] {enc:α→D} {key:α→List Int} (h:∀a,∃ds,enc a=.tup ds∧intsOf ds=some (key a)) (inj:∀a b,key a=key b→a=b) {l:List α} (hl:l.length≤16) :
  ∃n:Nat,ZgQ (.lst (l.map enc))=.ok (.int (n:Int))∧(n=l.length↔l.Nodup):=by
 refine ⟨(firsts (fun i=>(l.map key).getD i []) (l.map enc).length).length,?_,?_⟩
 ·show (match keysOf (l.map enc) with | some ks=>if (l.map enc).length≤16 then Res.ok (D.int ((firsts (fun i=>ks.getD i []) (l.map enc).length).length:Nat)) else Res.bad | none=>Res.bad)=_
  rw [ZjK h]
  show (if _ then _ else _)=_
  rw [if_pos (by rw [VaQ];exact hl)]
 ·rw [VaQ,ZfK]
  unfold List.Nodup
  rw [Vb1]
  have at_:∀i (hi:i<l.length),(l.map key).getD i []=key l[i]:=fun i hi=>by simp [List.getD,hi]
  constructor
  ·intro z i j hi hj hij e
   exact z i j hij hj (by rw [at_ i hi,at_ j hj,e])
  ·intro z i j hij hj e
   rw [at_ i (by omega),at_ j hj] at e
   exact z i j (by omega) hj hij (inj _ _ e)
theorem Zpz{α:Type}{Φ:Fl→Prop}{g:MG}{k:MS}{enc:α→D}{ts:List α}(I:List α→Ev→Prop)(h:∀us t vs,ts=us++t::vs→∀ρ,I us ρ→Tl (g (enc t) ρ) fun ρ1=>Tl (k ρ1) fun f=>(∃ρ2,f=.nx ρ2∧I (us++[t]) ρ2)∨∃d,f=.rt d∧Φ (.rt d))(hd:∀ρ,I ts ρ→Φ (.nx ρ)){ρ:Ev}(h0:I [] ρ):Tl (ZbM g k (ts.map enc) ρ) Φ:=by
 have key:∀(vs us:List α) (ρ:Ev),ts=us++vs→I us ρ→Tl (ZbM g k (vs.map enc) ρ) Φ:=by
  intro vs
  induction vs with
  | nil =>
   intro us ρ e i
   rw [VaV] at e
   subst e
   exact w_f0 (hd ρ i)
  | cons t vs ih =>
   intro us ρ e i
   obtain ⟨ρ1,e1,f,e2,q⟩:=h us t vs e ρ i
   rw [VaP]
   refine w_f1 ⟨ρ1,e1,_,e2,?_⟩
   rcases q with ⟨ρ2,rfl,i2⟩ | ⟨d,rfl,q⟩
   ·exact ih (us++[t]) ρ2 (by rw [e];simp) i2
   ·exact Zau q
 exact key ts [] ρ rfl h0
abbrev encP(d:Int×Int):D:=.tup [.int d.1,.int d.2]
theorem Zno{Φ:D→Prop}{x:Int}(q:Φ (.bl true)):Tl (ZaB [.int x]) Φ:=by
 unfold ZaB
 walk_at "w"
 exact q
theorem Zey{Φ:D→Prop}{x a b:Int}(h:a≤x∧x≤b)(q:Φ (.bl true)):Tl (ZaI [.int x,.int a,.int b]) Φ:=by
 unfold ZaI
 walk_at "w"
 refine Zno ?_
 walk_at "w"
 rw [Vbm h.2]
 exact q
theorem Zkd{Φ:D→Prop}{w h:Nat}(hw:1≤w∧w≤64)(hh:1≤h∧h≤64)(q:Φ .non):Tl (Zbk [.int (w:Int),.int (h:Int)]) Φ:=by
 unfold Zbk
 walk_at "w"
 refine Zey (by omega) ?_
 walk_at "w"
 refine Zey (by omega) ?_
 walk_at "w"
 exact q
theorem ZhU{α:Type}(f:α→Bool):∀l:List α,bools (l.map fun a=>D.bl (f a))=.ok (l.map f)
 | []=>rfl
 | a::r=>by
  rw [VaP]
  show (bools (r.map fun a=>D.bl (f a))).bind _=_
  rw [ZhU f r]
  rfl
theorem ZmL{Φ:D→Prop}{d:Int×Int}(hd:(1≤d.1∧d.1≤7)∧1≤d.2∧d.2≤7)(q:Φ (.bl true)):Tl (Zc9 [encP d]) Φ:=by
 unfold Zc9
 walk_at "w"
 refine Zey hd.1 ?_
 walk_at "w"
 refine Zey hd.2 ?_
 walk_at "w"
 exact q
theorem Zsy{α:Type}{Φ:D→Prop}{f:α→Bool}{l:List α}(h:∀a∈l,f a=true)(q:Φ (.bl true)):Tl (bAll [.lst (l.map fun a=>D.bl (f a))]) Φ:=by
 refine Zal ?_ q
 show (bools (l.map fun a=>D.bl (f a))).bind _=_
 rw [ZhU f l]
 show Res.ok (D.bl ((l.map f).all id))=_
 rw [List.all_map,List.all_eq_true.mpr fun a ha=>(show (id ∘ f) a=true from h a ha)]
theorem Zkb{Φ:D→Prop}{dots:List (Int×Int)}(h1:1≤dots.length∧dots.length≤16)(hd:∀d∈dots,(1≤d.1∧d.1≤7)∧1≤d.2∧d.2≤7)(hnd:dots.Nodup)(q:Φ .non):Tl (Zbp [.lst (dots.map encP)]) Φ:=by
 unfold Zbp
 walk_at "w"
 rw [VaQ]
 refine Zb9 (fun z=>by omega) (fun _=>?_)
 walk_at "w"
 rw [VaQ]
 rw [Vac (by omega)]
 walk_at "w"
 refine ⟨by rw [VaQ];omega,?_⟩
 refine Zc1 (enc:=encP) (fun d:Int×Int=>D.bl ((fun _=>true) d)) (fun d hd'=>?_) ?_
 ·walk_at "w"
  exact ZmL (hd d hd') rfl
 walk_at "w"
 refine Zsy (f:=fun _:Int×Int=>true) (fun _ _=>rfl) ?_
 walk_at "w"
 obtain ⟨n,e,hn⟩:=ZpN (enc:=encP) (key:=fun d:Int×Int=>[d.1,d.2]) (fun a=>⟨_,rfl,rfl⟩) (fun a b h=>by
  injection h with h1 h2
  injection h2 with h2 _
  exact Prod.ext h1 h2) h1.2
 refine Zal e ?_
 walk_at "w"
 rw [hn.mpr hnd,VaQ]
 walk_at "w"
 exact q
theorem ZjY:Zap [.non]=.ok (.lst ([(4,4)].map encP)):=by
 refine Tl.eq ?_
 unfold Zap
 walk_at "w"
 rfl
theorem Zj9{dots:List (Int×Int)}(h1:1≤dots.length∧dots.length≤16)(hd:∀d∈dots,(1≤d.1∧d.1≤7)∧1≤d.2∧d.2≤7)(hnd:dots.Nodup):Zap [.lst (dots.map encP)]=.ok (.lst (dots.map encP)):=by
 refine Tl.eq ?_
 unfold Zap
 walk_at "w"
 refine Zkb h1 hd hnd ?_
 walk_at "w"
theorem ZtA(a b:Int×Int):eqD (encP a) (encP b)=decide (a=b):=by
 unfold eqD eqDs eqDs eqDs
 show ((a.1==b.1)&&((a.2==b.2)&&true))=_
 rw [Bool.and_true,Bool.eq_iff_iff,Vbj,VaN,VaN,decide_eq_true_eq]
 constructor
 ·rintro ⟨h1,h2⟩
  exact Prod.ext h1 h2
 ·rintro rfl
  exact ⟨rfl,rfl⟩
theorem ZrT(q:Int×Int):∀qs:List (Int×Int),inD (encP q) (qs.map encP)=decide (q∈qs)
 | []=>rfl
 | a::r=>by
  have ih:=ZrT q r
  unfold inD at ih ⊢
  rw [VaP,List.any_cons,ih,ZtA,←Bool.decide_or,decide_eq_decide,Var]
  constructor
  ·rintro (rfl | h)
   ·exact .inl rfl
   ·exact .inr h
  ·rintro (rfl | h)
   ·exact .inl rfl
   ·exact .inr h
theorem Zsr(k:Nat):∀qs:List (Int×Int),ZaA (k+1) (qs.map encP)=true
 | []=>rfl
 | a::r=>by
  rw [VaP]
  show (plain (k+1) (encP a)&&ZaA (k+1) (r.map encP))=true
  rw [Zsr k r]
  rfl
def Dots(dots:List (Int×Int)):Prop:=(∀d∈dots,(1≤d.1∧d.1≤7)∧1≤d.2∧d.2≤7)∧dots.Nodup
theorem Zkx{Φ:D→Prop}{cc:Int}(q:∀dots:List (Int×Int),1≤dots.length→dots.length≤16→Dots dots→Φ (.lst (dots.map encP))):Tl (ZbR [.int cc]) Φ:=by
 unfold ZbR
 walk_at "w"
 refine Zfz (n:=17) (by decide) fun ds ld hd=>?_
 obtain ⟨d0,rs,rfl⟩ : ∃d0 rs,ds=d0::rs:=by
  cases ds with
  | nil=>simp at ld
  | cons a r=>exact ⟨a,r,rfl⟩
 have h0:Dw d0:=hd d0 Vao
 unfold Dw at h0
 have lr:rs.length=16:=by simpa using ld
 walk_at "w"
 have wd:Tl (bInt [.bl (decide (d0%8=7))]) fun y=>Tl (dIx (.lst [.int (d0/8%3),.int (d0/8%16)]) y) fun x=>∃n:Nat,x=.int (n:Int)∧n≤15:=by
  by_cases z:d0%8=7
  ·rw [Vbm z];exact Zal rfl (Zal rfl ⟨(d0/8%16).toNat,by rw [Vco (by omega)],by omega⟩)
  ·rw [Vac z];exact Zal rfl (Zal rfl ⟨(d0/8%3).toNat,by rw [Vco (by omega)],by omega⟩)
 obtain ⟨y,e1,x,e2,n,rfl,hn⟩:=wd
 refine Zal e1 (Zal e2 ?_)
 clear e1 e2 y
 walk_at "w"
 rw [show (2+(n:Int))=((2+n:Nat):Int) by omega,show (some (1:Int))=some (((1:Nat):Int)) from rfl,Zix (by omega) (by rw [ld];omega)]
 have hus:((d0::rs).drop 1).take (2+n - 1)≠[]:=by
  intro z
  have:=Vay List.length z
  rw [Va0,Vbd,ld,List.length_nil] at this
  omega
 have hul:(((d0::rs).drop 1).take (2+n - 1)).length≤16:=by simp;omega
 generalize ((d0::rs).drop 1).take (2+n - 1)=us at *
 refine Zpz (enc:=D.int) (fun us' ρ=>∃(dots:List (Int×Int)) (v3 v4:Cl),(us'≠[]→1≤dots.length)∧dots.length≤us'.length∧Dots dots∧ρ=[.im (.int cc),.im (.lst ((d0::rs).map .int)),.ow (dots.map encP),v3,v4]) ?_ ?_ ⟨[],_,_,fun z=>absurd rfl z,VaI _,⟨fun _ h=>(VbQ h).elim,List.nodup_nil⟩,rfl⟩
 ·rintro us' x vs e ρ ⟨dots,v3,v4,hne,hle,hD,rfl⟩
  have hlt:us'.length<us.length:=by rw [e];simp
  walk_at "w"
  refine Tl.mono (Ψ:=fun f=>∃p:Int×Int,((1≤p.1∧p.1≤7)∧1≤p.2∧p.2≤7)∧f=Fl.nx [.im (.int cc),.im (.lst ((d0::rs).map .int)),.ow (dots.map encP),.im (.int x),.im (encP p)]) ?_ ?_
  ·refine Zb9 (fun _=>?_) (fun _=>?_)
   ·walk_at "w"
    exact ⟨(4,4),by decide,rfl⟩
   ·walk_at "w"
    exact ⟨(1+x%7,1+x/7%7),⟨⟨by show 1≤1+x%7;omega,by show 1+x%7≤7;omega⟩,by show 1≤1+x/7%7;omega,by show 1+x/7%7≤7;omega⟩,rfl⟩
  rintro f ⟨p,hp,rfl⟩
  walk_at "w"
  refine Ztc rfl (Zsr _ _) ?_
  rw [ZrT]
  walk_at "w"
  refine ZgJ (fun z=>?_) (fun z=>?_)
  ·walk_at "w"
   refine ⟨by rw [VaQ];omega,?_⟩
   left
   refine ⟨_,rfl,dots++[p],_,_,fun _=>by simp,by simp;omega,⟨fun d hd'=>?_,?_⟩,by rw [VbV];rfl⟩
   ·rcases Vas.mp hd' with h | h
    ·exact hD.1 d h
    ·have:d=p:=by simpa using h
     subst this
     exact hp
   ·rw [List.nodup_append]
    refine ⟨hD.2,by simp,fun a ha b hb=>?_⟩
    have hb:b=p:=by simpa using hb
    rintro rfl
    subst hb
    exact z ha
  ·walk_at "w"
   left
   refine ⟨_,rfl,dots,_,_,fun _=>?_,by simp;omega,hD,rfl⟩
   have:=List.length_pos_of_mem z
   omega
 ·rintro ρ ⟨dots,v3,v4,hne,hle,hD,rfl⟩
  walk_at "w"
  exact q dots (hne hus) (by omega) hD
theorem Zpa{x:D}(h:plain 50 x=true):dNe x x=.ok (.bl false):=by
 unfold dNe
 rw [h,Zja x 50 h]
 rfl
def val:Res D→D
 | .ok d=>d
 | _=>.non
def unF:D→Rat
 | .tup [.int n,.int d]=>Rat.divInt n d
 | _=>0
theorem ZdA(q:Rat):unF (frD q)=q:=Vck q
def ownOf(c:Str)(d v:D):Rat:=match Za6.lookup c with
 | some f=>unF (val (f [d,v]))
 | none=>0
def mkS(c:Str)(ns:List Str)(vs:List D)(q:Rat)(v:D):Sg :=
 { d:=.ins c ns vs,gl:=c == "Glass", q:=q,v:=v,own:=if (c == "Glass")=true then 0 else ownOf c (.ins c ns vs) v,part:=unF (val (dFld objs "part" (.ins c ns vs))),col:=unF (val (dFld objs "colour" (.ins c ns vs))),k:=0 }
def so(p d:D):Option Sg:=match d with
 | .ins c ns (T::r)=>match Zat [T,p] with
  | .ok (.tup [q,v])=>some (mkS c ns (T::r) (unF q) v)
  | _=>none
 | _=>none
theorem ZeQ{c:Str}{ns:List Str}{T p:D}{r:List D}(e:Zat [T,p]=.ok .non):so p (.ins c ns (T::r))=none:=by
 show (match Zat [T,p] with
  | .ok (.tup [q,v])=>some (mkS c ns (T::r) (unF q) v)
  | _=>none)=none
 rw [e]
theorem ZeL{c:Str}{ns:List Str}{T p v:D}{r:List D}{q:Rat}(e:Zat [T,p]=.ok (.tup [frD q,v])):so p (.ins c ns (T::r))=some (mkS c ns (T::r) q v):=by
 show (match Zat [T,p] with
  | .ok (.tup [q,v])=>some (mkS c ns (T::r) (unF q) v)
  | _=>none)=_
 rw [e]
 show some (mkS c ns (T::r) (unF (frD q)) v)=_
 rw [ZdA]
theorem b0:Bq 32 (0:Rat):=⟨by show (0:Int).natAbs<2^32;decide,by show (1:Int).natAbs<2^32;decide⟩
theorem ZeB{p d:D}{T:D}(e1:dFld objs "triangle" d=.ok T)(e2:Zat [T,p]=.ok .non)(e3:so p d=none):Seen p d (so p d):=by
 rw [e3]
 exact ⟨⟨T,e1,e2⟩,fun s h=>by cases h⟩
theorem Zek{p d v:D}{T:D}{q:Rat}{s:Sg}(e1:dFld objs "triangle" d=.ok T)(e2:Zat [T,p]=.ok (.tup [frD q,v]))(e3:so p d=some s)(hq:s.q=q)(hv:s.v=v)(hd:s.d=d)(g:GS s):Seen p d (so p d):=by
 rw [e3]
 refine ⟨⟨T,e1,?_⟩,fun t h=>?_⟩
 ·rw [e2]
  show _=Res.ok (D.tup [frD s.q,s.v])
  rw [hq,hv]
 ·cases h
  exact ⟨hd,g⟩
theorem Ztb{d:D}{px py ps:Int}(h:Thg d)(cp:Cr px py ps)(hp:1≤ps):Seen (.tup [.int px,.int py,.int ps]) d (so (.tup [.int px,.int py,.int ps]) d):=by
 cases h with
 | @plain k T q ht hk hq =>
  rcases Zer ht hk cp hp with e | ⟨z,vs,lv,bz,bv,e⟩
  ·exact ZeB (fT1 _ _) e (ZeQ e)
  ·have eo:(mkS "Plain" ["triangle", "colour"] [T,frD q] z (.tup (vs.map frD))).own=q:=ZdA q
   have ec:(mkS "Plain" ["triangle", "colour"] [T,frD q] z (.tup (vs.map frD))).col=q:=ZdA q
   have ep:(mkS "Plain" ["triangle", "colour"] [T,frD q] z (.tup (vs.map frD))).part=0:=rfl
   refine Zek (fT1 _ _) e (ZeL e) rfl rfl rfl ⟨⟨_,_,_,rfl,by decide +kernel,by decide +kernel,⟨Zay,by rfl,rfl⟩,fun _=>⟨Zbm,by rfl,?_⟩⟩,(fun h=>by cases h),bz,?_,?_,?_⟩
   ·rw [eo];rfl
   ·rw [eo];exact hq.mono (by decide)
   ·rw [ep];exact b0
   ·rw [ec];exact hq
 | @shaded k T ht hk h1 =>
  rcases Zer ht hk cp hp with e | ⟨z,vs,lv,bz,bv,e⟩
  ·exact ZeB (fT2 _) e (ZeQ e)
  ·cases vs with
   | nil=>simp at lv;omega
   | cons u vs =>
    have eo:(mkS "Shaded" ["triangle"] [T] z (.tup ((u::vs).map frD))).own=u:=ZdA u
    refine Zek (fT2 _) e (ZeL e) rfl rfl rfl ⟨⟨_,_,_,rfl,by decide +kernel,by decide +kernel,⟨Zay,by rfl,rfl⟩,fun _=>⟨Zbd,by rfl,?_⟩⟩,(fun h=>by cases h),bz,?_,b0,b0⟩
    ·rw [eo];rfl
    ·rw [eo];exact bv u Vao
 | @patt k h w T P ht hk h2 hh hw hP =>
  rcases Zer ht hk cp hp with e | ⟨z,vs,lv,bz,bv,e⟩
  ·exact ZeB (fT3 _ _) e (ZeQ e)
  ·match vs,lv,bv,e with
   | [],lv,_,_=>simp at lv;omega
   | [_],lv,_,_=>simp at lv;omega
   | u::v::vs,lv,bv,e =>
    obtain ⟨i,j,hi,hj,en⟩:=ZkZ (Φ:=fun _=>True) (P:=P) hh hw (bv u Vao) (bv v (Vap _ Vao)) (fun _ _ _ _=>trivial)
    have ef:Zak [.ins "Patterned" ["triangle", "pattern"] [T,patD h w P],.tup ((u::v::vs).map frD)]=.ok (frD (P i j)):=by
     refine Tl.eq ?_
     unfold Zak
     walk_at "w"
     refine Zal (fN3 _ _) ?_
     walk_at "w"
     refine Zal en ?_
     walk_at "w"
    have eo:(mkS "Patterned" ["triangle", "pattern"] [T,patD h w P] z (.tup ((u::v::vs).map frD))).own=P i j:=by
     show unF (val (Zak [.ins "Patterned" ["triangle", "pattern"] [T,patD h w P],.tup ((u::v::vs).map frD)]))=_
     rw [ef]
     exact ZdA _
    refine Zek (fT3 _ _) e (ZeL e) rfl rfl rfl ⟨⟨_,_,_,rfl,by decide +kernel,by decide +kernel,⟨Zay,by rfl,rfl⟩,fun _=>⟨Zak,by rfl,?_⟩⟩,(fun h=>by cases h),bz,?_,b0,b0⟩
    ·rw [eo];exact ef
    ·rw [eo];exact (hP i hi j hj).mono (by decide)
 | @glass k T q r ht hk hq hr h0 h1 =>
  rcases Zer ht hk cp hp with e | ⟨z,vs,lv,bz,bv,e⟩
  ·exact ZeB (fT4 _ _ _) e (ZeQ e)
  ·have ec:(mkS "Glass" ["triangle", "colour", "part"] [T,frD q,frD r] z (.tup (vs.map frD))).col=q:=ZdA q
   have ep:(mkS "Glass" ["triangle", "colour", "part"] [T,frD q,frD r] z (.tup (vs.map frD))).part=r:=ZdA r
   refine Zek (fT4 _ _ _) e (ZeL e) rfl rfl rfl ⟨⟨_,_,_,rfl,by decide +kernel,by decide +kernel,⟨ZbH,by rfl,rfl⟩,fun h=>by cases h⟩,fun _=>⟨?_,?_⟩,bz,b0.mono (by decide),?_,?_⟩
   ·rw [ep];exact fP4 _ _ _
   ·rw [ec];exact fC4 _ _ _
   ·rw [ep];exact hr
   ·rw [ec];exact hq
abbrev pt8(x y:Int):D:=.tup [.int x,.int y,.int 8]
def sgs(ts:List D)(p:D):List Sg:=ts.filterMap (so p)
def lk(ts:List D)(p:D):List DO:=ts.map fun d=>(d,so p d)
theorem Zr5(ts:List D)(p:D):(lk ts p).map (·.1)=ts:=by
 unfold lk
 rw [VbJ]
 exact List.map_id _
theorem ZsT(ts:List D)(p:D):sgts (lk ts p)=sgs ts p:=by
 unfold sgts lk sgs
 rw [List.filterMap_map]
 rfl
theorem Zs4{ts:List D}{px py ps:Int}(h:∀t∈ts,Thg t)(cp:Cr px py ps)(hp:1≤ps):∀y∈lk ts (.tup [.int px,.int py,.int ps]),Seen (.tup [.int px,.int py,.int ps]) y.1 y.2:=by
 intro y hy
 obtain ⟨d,hd,rfl⟩:=Vbs.mp hy
 exact Ztb (h d hd) cp hp
theorem Zn7{ts:List D}{px py ps:Int}(h:∀t∈ts,Thg t)(cp:Cr px py ps)(hp:1≤ps):∀s∈sgs ts (.tup [.int px,.int py,.int ps]),GS s:=by
 rw [←ZsT]
 exact Zqh (Zs4 h cp hp)
theorem Ziy(ts:List D)(p:D):(sgs ts p).length≤ts.length:=List.length_filterMap_le _ _
theorem ZhG{ts:List D}{px py ps:Int}(h:∀t∈ts,Thg t)(hl:ts.length≤1000)(cp:Cr px py ps)(hp:1≤ps):Za3 [.lst ts,.tup [.int px,.int py,.int ps]]=.ok (.lst ((sgs ts (.tup [.int px,.int py,.int ps])).map encS)):=by
 have e:=Tl.eq (Zj3 (Φ:=fun x=>x=_) (Zs4 h cp hp) (by unfold lk;rw [List.length_map];exact hl) rfl)
 rwa [Zr5,ZsT] at e
theorem Zl5{t b:Int}{k:Nat}(hb:0<b)(sb:Sm k b):Sm k ((Rat.divInt t b).den:Int):=by
 have e:=ZcI (t:=t) (b:=b) (by omega)
 unfold fra frD Mt.frT Mt.frB at e
 rw [if_neg (by omega),if_neg (by omega)] at e
 have g0:0<(Int.gcd t b:Int):=by have:=Mt.Zfj (t:=t) (b:=b) (by omega);omega
 injection e with e
 injection e with e1 e2
 injection e2 with e2 _
 injection e2 with e2
 refine sb.le ?_
 rw [←e2];exact Mt.ZgX g0
theorem ZgS{Φ:D→Prop}{t b:Int}{k:Nat}(hb:0<b)(sb:Sm k b)(hk:k≤8900)(h:Φ (frD (Rat.divInt t b))):Tl (ZaF [.int t,.int b]) Φ:=by
 refine ZgR (by omega) sb (by omega) ?_
 rw [ZcI (by omega)]
 exact h
theorem ZoX{Φ:D→Prop}{p q:Rat}{a b da db:Nat}(hp:Bq a p)(hq:Bq b q)(dp:Sm da (p.den:Int))(dq:Sm db (q.den:Int))(hab:a+b≤10000000)(hd:da+db≤8900)(h:Bq (a+b+1) (p+q)→Sm (da+db) ((p+q).den:Int)→Φ (frD (p+q))):Tl (Zew [frD p,frD q]) Φ:=by
 have m1:ZaR p.num q.den=true:=ZaC hp.n hq.d (by omega)
 have m2:ZaR q.num p.den=true:=ZaC hq.n hp.d (by omega)
 have m3:ZaR p.den q.den=true:=ZaC hp.d hq.d (by omega)
 have s1:Sm (a+b+1) (p.num*q.den+q.num*p.den):=((hp.n.mul hq.d).add (show Sm (a+b) _ from Nat.add_comm b a▸hq.n.mul hp.d)).mono (by omega)
 have s2:Sm (a+b+1) ((p.den:Int)*q.den):=(hp.d.mul hq.d).mono (by omega)
 have d0:0<(p.den:Int)*q.den:=Vcf (den1 p) (den1 q)
 have z1:=Zjm d0 s1 s2
 have z2:=Zl5 (t:=p.num*q.den+q.num*p.den) d0 (dp.mul dq)
 rw [Zhk] at z1 z2
 unfold Zew frD
 walk_at "w"
 refine ZgS d0 (dp.mul dq) hd ?_
 rw [Zhk]
 walk_at "w"
 exact h z1 z2
def sumQ(l:List Rat):Rat:=l.foldl (·+·) 0
theorem ZhT(l:List Rat)(q:Rat):sumQ (l++[q])=sumQ l+q:=by unfold sumQ;rw [List.foldl_append];rfl
def Zmx(l:List Rat):Rat:=Rat.divInt (sumQ l).num ((sumQ l).den*(l.length:Int))
theorem Zo1{Φ:D→Prop}{qs:List Rat}{K k:Nat}(hK:∀q∈qs,Bq K q)(hd:∀q∈qs,Sm k (q.den:Int))(h1:1≤qs.length)(hn:qs.length≤16)(hK':K≤100000)(hk:qs.length*k+10≤8900)(h:Φ (frD (Zmx qs))):Tl (Zda [.lst (qs.map frD)]) Φ:=by
 unfold Zda
 walk_at "w"
 show Tl (ZbM _ _ (qs.map frD) [.im (.lst (qs.map frD)),.im (frD 0),.no]) _
 refine Zgy (enc:=frD) (fun pre ρ=>∃v2:Cl,Bq (pre.length*(K+1)+1) (sumQ pre)∧Sm (pre.length*k+1) ((sumQ pre).den:Int)∧ρ=[.im (.lst (qs.map frD)),.im (frD (sumQ pre)),v2]) ⟨.no,?_,?_,rfl⟩ ?_ ?_
 ·exact ⟨by show (0:Int).natAbs<_;exact Vb9 _,by show (1:Int).natAbs<2^(0*_+1);rw [Nat.zero_mul];decide⟩
 ·show (1:Int).natAbs<2^(0*_+1);rw [Nat.zero_mul];decide
 ·rintro pre q r e ρ ⟨v2,B,S,rfl⟩
  have hq:q∈qs:=by rw [←e];simp
  have hlen:pre.length<qs.length:=by rw [←e];simp
  have l2:(pre.length+1)*k≤qs.length*k:=Vcp k hlen
  have l3:(pre.length+1)*(K+1)≤16*(K+1):=Vcp (K+1) (by omega)
  rw [Vcq] at l2 l3
  walk_at "w"
  refine ZoX B (hK q hq) S (hd q hq) (by omega) (by omega) fun B2 S2=>?_
  rw [ZhT]
  refine ⟨_,rfl,_,B2.mono ?_,S2.mono ?_,rfl⟩
  ·rw [Va7,Vbl,Vcq];omega
  ·rw [Va7,Vbl,Vcq];omega
 ·rintro ρ ⟨v2,B,S,rfl⟩
  have l3:qs.length*(K+1)≤16*(K+1):=Vcp (K+1) hn
  have s5:Sm 5 (qs.length:Int):=by show (qs.length:Int).natAbs<2^5;omega
  have m1:ZaR (sumQ qs).den (qs.length:Int)=true:=ZaC B.d s5 (by omega)
  have d0:0<((sumQ qs).den:Int)*(qs.length:Int):=Vcf (den1 _) (by omega)
  unfold Zmx at h
  generalize sumQ qs=t at *
  unfold frD
  walk_at "w"
  rw [VaQ]
  walk_at "w"
  refine ZgS d0 (S.mul s5) (by omega) ?_
  walk_at "w"
  exact h
theorem ZhW{Φ:D→Prop}{g:Rat}{l:List Sg}{n:Nat}(hg:Bq 300 g)(hl:∀s∈l,GS s)(hs:l.length≤n)(hn:n≤12)(q:Bq (300+170*n) (colQ g l)→Φ (frD (colQ g l))):Tl (Za0 [.lst (l.map encS),frD g]) Φ:=by
 have hb:Bq 300 (Zg2 g (near l)):=by
  cases e:near l with
  | none=>exact hg
  | some m=>exact (hl m (Zfl e).1).bo
 have ll:=ZiX (near l) l
 unfold Za0
 walk_at "w"
 refine ZkX hl ?_
 have rest:∀v4:Cl,Tl ((sq (for_ (iv (on Za5 (Zaa (v 2) (Zaa (v 0) yaa)))) (gN 4)
  (st 3 (on ZbC (Zaa (o2 dIx (v 4) (c (.int 0))) (Zaa (v 3) yaa)))))
  (ret (v 3))) [.im (.lst (l.map encS)),.im (frD g),.im (optS (near l)),.im (frD (Zg2 g (near l))),v4]) fun f=>Tl (endOf f) Φ:=by
  intro v4
  walk_at "w"
  refine Zm0 (fun m e=>hl m (Zfl e).1) hl (by omega) ?_
  walk_at "w"
  refine Zgy (enc:=encS) (fun pre ρ=>∃v4:Cl,Bq (300+170*pre.length) (layQ pre (Zg2 g (near l)))∧ρ=[.im (.lst (l.map encS)),.im (frD g),.im (optS (near l)),.im (frD (layQ pre (Zg2 g (near l)))),v4]) ⟨_,hb,rfl⟩ ?_ ?_
  ·rintro pre s r e ρ ⟨v4,B,rfl⟩
   have hm:s∈lay (near l) l:=by rw [←e];simp
   have hlen:pre.length<(lay (near l) l).length:=by rw [←e];simp
   have hms:=ZiE hm
   walk_at "w"
   refine Zrc (hl s hms.1) (Zp8 hms.2) B (by omega) fun B2=>?_
   have e2:layQ (pre++[s]) (Zg2 g (near l))=mixQ s (layQ pre (Zg2 g (near l))):=by unfold layQ;rw [List.foldl_append];rfl
   rw [e2]
   refine ⟨_,rfl,_,B2.mono ?_,rfl⟩
   rw [Va7,Vbl]
   omega
  ·rintro ρ ⟨v4,B,rfl⟩
   walk_at "w"
   exact q (B.mono (by omega))
 walk_at "w"
 refine Tl.mono (Ψ:=fun f=>f=Fl.nx [.im (.lst (l.map encS)),.im (frD g),.im (optS (near l)),.im (frD (Zg2 g (near l))),.no]) ?_ ?_
 ·cases hn:near l with
  | none =>
   show Tl (if (false:Bool)=true then _ else _) _
   walk_at "w"
   rfl
  | some m =>
   have hm:=Zfl hn
   show Tl (if (true:Bool)=true then _ else _) _
   walk_at "w"
   refine Zut (s:=m) (hl m hm.1) hm.2 rfl rfl ?_
   rfl
 ·rintro f rfl
  exact rest .no
theorem sm6'{x:Int}(h:-1000000≤x∧x≤1000000):Sm 64 x:=Sm.of64 (by omega) (by omega)
theorem cr8{px py:Int}(hx:0≤px∧px≤1000)(hy:0≤py∧py≤1000):Cr px py 8:=⟨sm6' (by omega),sm6' (by omega),sm6' (by decide)⟩
abbrev ptA(c r:Nat)(d:Int×Int):D:=pt8 (8*(c:Int)+d.1) (8*(r:Int)+d.2)
def Zjg(dots:List (Int×Int)):Prop:=∀d∈dots,(1≤d.1∧d.1≤7)∧1≤d.2∧d.2≤7
def cellQ(ts:List D)(g:Rat)(dots:List (Int×Int))(c r:Nat):Rat:=Zmx (dots.map fun d=>colQ g (sgs ts (ptA c r d)))
def rowP(f:Nat→Nat→Rat)(w r:Nat):D:=.lst ((List.range w).map fun c=>frD (f c r))
def picP(f:Nat→Nat→Rat)(w h:Nat):D:=.lst ((List.range h).map fun r=>rowP f w r)
section
variable{ts:List D}{dots:List (Int×Int)}
theorem Zj4{Φ:D→Prop}{c r:Nat}(hts:∀t∈ts,Thg t)(hl:ts.length≤1000)(hc:c≤100)(hr:r≤100)(hd:Zjg dots)(hn:dots.length≤16)
  (q:Φ (.lst (dots.map fun d=>D.lst ((sgs ts (ptA c r d)).map encS)))):Tl (Zcc [.lst ts,.int (c:Int),.int (r:Int),.lst (dots.map encP)]) Φ:=by
 unfold Zcc
 walk_at "w"
 refine ZlN ?_
 walk_at "w"
 refine ⟨by rw [VaQ];omega,?_⟩
 refine Zc1 (fun d:Int×Int=>D.lst ((sgs ts (ptA c r d)).map encS)) (fun d hd'=>?_) ?_
 ·have hb:=hd d hd'
  walk_at "w"
  unfold Zee
  walk_at "w"
  exact Zal (ZhG hts hl (cr8 (by omega) (by omega)) (by decide)) rfl
 ·walk_at "w"
  exact q
end
theorem Ztx{t b:Int}{k:Nat}(hb:b≠0)(sb:Sm k b):Sm k ((Rat.divInt t b).den:Int):=by
 have F:=Mt.Zpn (t:=t) hb
 have e:=ZcI (t:=t) (b:=b) hb
 unfold fra frD at e
 injection e with e
 injection e with e1 e2
 injection e2 with e2 _
 injection e2 with e2
 exact e2▸sb.le F.nq
theorem Zki{x:Int}{k:Nat}(m:Nat)(h:x.natAbs≤m)(hm:m<2^k):Sm k x:=Vbn h hm
theorem Zg6{ax ay aw ah bx bY bw bh px py:Int}(a:Ck ax ay aw ah)(b:Ck bx bY bw bh)(hx:0≤px∧px≤1000)(hy:0≤py∧py≤1000):Sm 53 (ow ax ay aw bx bY bw px py 8):=by
 have s1:∀{x:Int},Bd x→Sm 20 x:=fun {x} h=>by
  unfold Bd at h
  exact Zki 1000000 (by omega) (by decide)
 have s2:∀{x:Int},1≤x∧x≤1000000→Sm 20 x:=fun {x} h=>Zki 1000000 (by omega) (by decide)
 have p1:Sm 10 px:=Zki 1000 (by omega) (by decide)
 have p2:Sm 10 py:=Zki 1000 (by omega) (by decide)
 have p3:Sm 10 (8:Int):=Zki 8 (by decide) (by decide)
 have c1:Sm 41 (ay*bw - aw*bY):=((s1 a.y).mul (s2 b.w)).sub ((s2 a.w).mul (s1 b.y))
 have c2:Sm 41 (aw*bx - ax*bw):=((s2 a.w).mul (s1 b.x)).sub ((s1 a.x).mul (s2 b.w))
 have c3:Sm 41 (ax*bY - ay*bx):=((s1 a.x).mul (s1 b.y)).sub ((s1 a.y).mul (s1 b.x))
 have d1:Sm 52 ((ay*bw - aw*bY)*px+(aw*bx - ax*bw)*py):=(c1.mul p1).add (c2.mul p2)
 have d2:Sm 52 ((ax*bY - ay*bx)*8):=(c3.mul p3).mono (by decide)
 exact d1.add d2
theorem ZpU{k:Nat}{T:D}{px py:Int}(h:Tr k T)(hk:k≤3)(hx:0≤px∧px≤1000)(hy:0≤py∧py≤1000){q v:D}(e:Zat [T,.tup [.int px,.int py,.int 8]]=.ok (.tup [q,v])):∃vs:List Rat,v=.tup (vs.map frD)∧vs.length=k∧∀u∈vs,Sm 75 (u.den:Int):=by
 obtain ⟨ax,ay,aw,ah,bx,bY,bw,bh,cx,cy,cw,ch,av,bv,cv,rfl,ca,cb,cc,la,lb,lc,va,vb,vc⟩:=h
 have cp:Cr px py 8:=⟨Sm.of64 (by omega) (by omega),Sm.of64 (by omega) (by omega),Sm.of64 (by decide) (by decide)⟩
 have sm:∀{n:Int},1≤n∧n≤1000000→Sm 64 n:=fun h=>Sm.of64 (by omega) (by omega)
 have fa:Cv 64 ax ay aw ah av:=⟨ca.cr.x,ca.cr.y,ca.cr.w,sm ca.h,fun v hv=>(va v hv).s,ca.h.1⟩
 have fb:Cv 64 bx bY bw bh bv:=⟨cb.cr.x,cb.cr.y,cb.cr.w,sm cb.h,fun v hv=>(vb v hv).s,cb.h.1⟩
 have fc:Cv 64 cx cy cw ch cv:=⟨cc.cr.x,cc.cr.y,cc.cr.w,sm cc.h,fun v hv=>(vc v hv).s,cc.h.1⟩
 by_cases h0:hdE ax ay aw bx bY bw cx cy cw px py 8=0
 ·have z:=Tl.eq (Zmq (Φ:=fun x=>x=_) (ah:=ah) (bh:=bh) (ch:=ch) (av:=av) (bv:=bv) (cv:=cv) ca.w.1 cb.w.1 cc.w.1 ca.cr cb.cr cc.cr cp h0 rfl)
  rw [z] at e
  cases e
 ·have W:=ZkV (by have:=ca.w;omega) (by have:=cb.w;omega) (by have:=cc.w;omega) (by decide) h0
  have n0:=Zl1 ca.h.1 cb.h.1 cc.h.1 W
  have z:=Tl.eq (ZlI (Φ:=fun x=>x=_) ca.w.1 cb.w.1 cc.w.1 (by decide) ca.cr cb.cr cc.cr cp fa fb fc (by omega) h0 rfl rfl rfl rfl rfl)
  have s1:=Zg6 cb cc hx hy
  have s2:=Zg6 cc ca hx hy
  have s3:=Zg6 ca cb hx hy
  have h20:∀{x:Int},1≤x∧x≤1000000→Sm 20 x:=fun {x} h=>Zki 1000000 (by omega) (by decide)
  have sB:Sm 75 (dot ah bh ch (ow bx bY bw cx cy cw px py 8) (ow cx cy cw ax ay aw px py 8) (ow ax ay aw bx bY bw px py 8)):=by
   have d1:Sm 74 (ah*ow bx bY bw cx cy cw px py 8+bh*ow cx cy cw ax ay aw px py 8):=((h20 ca.h).mul s1).add ((h20 cb.h).mul s2)
   exact d1.add (((h20 cc.h).mul s3).mono (show 73≤74 by decide))
  rw [z] at e
  generalize ow bx bY bw cx cy cw px py 8=e1 at *
  generalize ow cx cy cw ax ay aw px py 8=e2 at *
  generalize ow ax ay aw bx bY bw px py 8=e3 at *
  generalize hB:dot ah bh ch e1 e2 e3=B at *
  cases e
  refine ⟨(av.zip (bv.zip cv)).map fun t=>Rat.divInt (dot t.1 t.2.1 t.2.2 e1 e2 e3) B,?_,?_,fun u hu=>?_⟩
  ·unfold vls
   rw [VbJ]
   congr 1
   exact Vaa fun t _=>ZcI n0
  ·rw [VaQ,Vce,Vce];omega
  ·obtain ⟨t,ht,rfl⟩:=Vbs.mp hu
   exact Ztx n0 sB
theorem Zdu{T p:D}{s:Sg}{c:Str}{ns:List Str}{r:List D}(h:so p (.ins c ns (T::r))=some s):∃q v,Zat [T,p]=.ok (.tup [q,v])∧s=mkS c ns (T::r) (unF q) v:=by
 have h:(match Zat [T,p] with
  | .ok (.tup [q,v])=>some (mkS c ns (T::r) (unF q) v)
  | _=>none)=some s:=h
 split at h
 ·next q v e2 =>
  cases h
  exact ⟨q,v,e2,rfl⟩
 ·cases h
theorem ZsO{d:D}{px py:Int}{s:Sg}(h:Thg d)(hx:0≤px∧px≤1000)(hy:0≤py∧py≤1000)(e:so (.tup [.int px,.int py,.int 8]) d=some s):Sm 75 (s.own.den:Int):=by
 have z0:Sm 75 (((0:Rat).den:Nat):Int):=by show (1:Int).natAbs<2^75;decide
 have cp:Cr px py 8:=⟨Sm.of64 (by omega) (by omega),Sm.of64 (by omega) (by omega),Sm.of64 (by decide) (by decide)⟩
 cases h with
 | @plain k T q ht hk hq =>
  obtain ⟨u,v,e1,rfl⟩:=Zdu e
  rw [show (mkS "Plain" ["triangle", "colour"] [T,frD q] (unF u) v).own=q from ZdA q]
  exact hq.d.mono (by decide)
 | @shaded k T ht hk h1 =>
  obtain ⟨u,v,e1,rfl⟩:=Zdu e
  obtain ⟨vs,rfl,lv,hv⟩:=ZpU ht hk hx hy e1
  cases vs with
  | nil=>simp at lv;omega
  | cons a vs =>
   rw [show (mkS "Shaded" ["triangle"] [T] (unF u) (.tup ((a::vs).map frD))).own=a from ZdA a]
   exact hv a Vao
 | @patt k h w T P ht hk h2 hh hw hP =>
  have so1:=Ztb (.patt ht hk h2 hh hw hP) cp (by decide)
  rw [e] at so1
  obtain ⟨u,v,e1,rfl⟩:=Zdu e
  rcases Zer ht hk cp (by decide) with z | ⟨z,vs,lv,bz,bv,ez⟩
  ·rw [z] at e1;cases e1
  ·rw [ez] at e1
   cases e1
   match vs,lv,bv,ez with
   | [],lv,_,_=>simp at lv;omega
   | [_],lv,_,_=>simp at lv;omega
   | a::b::vs,lv,bv,ez =>
    obtain ⟨i,j,hi,hj,en⟩:=ZkZ (Φ:=fun _=>True) (P:=P) hh hw (bv a Vao) (bv b (Vap _ Vao)) (fun _ _ _ _=>trivial)
    have ef:Zak [.ins "Patterned" ["triangle", "pattern"] [T,patD h w P],.tup ((a::b::vs).map frD)]=.ok (frD (P i j)):=by
     refine Tl.eq ?_
     unfold Zak
     walk_at "w"
     refine Zal (fN3 _ _) ?_
     walk_at "w"
     refine Zal en ?_
     walk_at "w"
    have eo:(mkS "Patterned" ["triangle", "pattern"] [T,patD h w P] (unF (frD z)) (.tup ((a::b::vs).map frD))).own=P i j:=by
     show unF (val (Zak [.ins "Patterned" ["triangle", "pattern"] [T,patD h w P],.tup ((a::b::vs).map frD)]))=_
     rw [ef]
     exact ZdA _
    rw [eo]
    exact (hP i hi j hj).d.mono (by decide)
 | @glass k T q r ht hk hq hr h0 h1 =>
  obtain ⟨u,v,e1,rfl⟩:=Zdu e
  exact z0
theorem Zpq(p c x:Rat):Rat.divInt (p.num*c.num*x.den+(p.den - p.num)*x.num*c.den) (p.den*c.den*x.den)=p*c+(1 - p)*x:=by
 have hp:=den1 p
 have hc:=den1 c
 have hx:=den1 x
 have n1:(p.den:Int)*c.den≠0:=Vcb (Vcf hp hc)
 have n2:(p.den:Int)*x.den≠0:=Vcb (Vcf hp hx)
 have n3:(p.den:Int)*c.den*x.den≠0:=Vcb (Vcf (Vcf hp hc) hx)
 have e1:p*c=Rat.divInt (p.num*c.num) (p.den*c.den):=(ZlM p c).symm
 have e0:1 - p=Rat.divInt (p.den - p.num) p.den:=by
  rw [←ZlT 1 p]
  show Rat.divInt (1*(p.den:Int) - p.num*1) (1*(p.den:Int))=_
  rw [Int.one_mul,Int.mul_one]
 have e2:(1 - p)*x=Rat.divInt ((p.den - p.num)*x.num) (p.den*x.den):=by
  rw [e0,←Rat.divInt_mul_divInt,Vck]
 rw [e1,e2,Rat.divInt_add_divInt _ _ n1 n2,Vcj n3 (Int.mul_ne_zero n1 n2)]
 grind
theorem Zq6{s:Sg}{x:Rat}{K:Nat}(g:GS s)(h:Sm K (x.den:Int)):Sm (K+64) ((mixQ s x).den:Int):=by
 unfold mixQ
 rw [←Zpq]
 have:=Zl5 (t:=s.part.num*s.col.num*x.den+(s.part.den - s.part.num)*x.num*s.col.den) (Vcf (Vcf (den1 s.part) (den1 s.col)) (den1 x)) ((g.bp.d.mul g.bc.d).mul h)
 exact this.mono (by omega)
theorem Zlg:∀(l:List Sg) (x:Rat) (K:Nat),(∀s∈l,GS s)→Sm K (x.den:Int)→Sm (K+64*l.length) ((layQ l x).den:Int)
 | [],_,_,_,h=>h
 | s::l,x,K,hs,h=>by
  have:=Zlg l (mixQ s x) (K+64) (fun t ht=>hs t (Vap _ ht)) (Zq6 (hs s Vao) h)
  refine Sm.mono this ?_
  rw [VaO]
  omega
theorem ZlA{g:Rat}{l:List Sg}{n:Nat}(hg:Sm 75 (g.den:Int))(hl:∀s∈l,GS s∧Sm 75 (s.own.den:Int))(hn:l.length≤n):Sm (75+64*n) ((colQ g l).den:Int):=by
 have ll:=ZiX (near l) l
 have hb:Sm 75 ((Zg2 g (near l)).den:Int):=by
  cases e:near l with
  | none=>exact hg
  | some m=>exact (hl m (Zfl e).1).2
 unfold colQ
 exact (Zlg _ _ 75 (fun s hs=>(hl s (ZiE hs).1).1) hb).mono (by omega)
theorem Zj6{Φ:D→Prop}{g:Rat}{n:Nat}{ls:List (List Sg)}(hg:Bq 300 g)(hg2:Sm 75 (g.den:Int))(hl:∀l∈ls,(∀s∈l,GS s∧Sm 75 (s.own.den:Int))∧l.length≤n)(hn:n≤12)(h1:1≤ls.length)(h16:ls.length≤16)(hk:ls.length*(75+64*n)+10≤8900)(q:Φ (frD (Zmx (ls.map fun l=>colQ g l)))):Tl (Zbf [.lst (ls.map fun l=>D.lst (l.map encS)),frD g]) Φ:=by
 have hb:∀l∈ls,Bq (300+170*n) (colQ g l)∧Za0 [.lst (l.map encS),frD g]=.ok (frD (colQ g l)):=fun l hl'=>by
  obtain ⟨x,e,h⟩:=ZhW (Φ:=fun x=>Bq (300+170*n) (colQ g l)∧x=frD (colQ g l)) hg (fun s hs=>((hl l hl').1 s hs).1) (hl l hl').2 hn (fun B=>⟨B,rfl⟩)
  exact ⟨h.1,h.2▸e⟩
 unfold Zbf
 walk_at "w"
 refine ⟨by rw [VaQ];omega,?_⟩
 refine Zc1 (fun l:List Sg=>frD (colQ g l)) (fun l hl'=>?_) ?_
 ·walk_at "w"
  exact Zal (hb l hl').2 rfl
 walk_at "w"
 rw [show List.map (fun l:List Sg=>frD (colQ g l)) ls=(ls.map fun l=>colQ g l).map frD by rw [VbJ];rfl]
 refine Zo1 (K:=300+170*n) (k:=75+64*n) (fun x hx=>?_) (fun x hx=>?_) (by rw [VaQ];exact h1) (by rw [VaQ];exact h16) (by omega) (by rw [VaQ];exact hk) ?_
 ·obtain ⟨l,hl',rfl⟩:=Vbs.mp hx
  exact (hb l hl').1
 ·obtain ⟨l,hl',rfl⟩:=Vbs.mp hx
  exact ZlA hg2 (hl l hl').1 (hl l hl').2
 ·walk_at "w"
  exact q
theorem ZkU{ts:List D}{px py:Int}(h:∀t∈ts,Thg t)(hx:0≤px∧px≤1000)(hy:0≤py∧py≤1000):∀s∈sgs ts (.tup [.int px,.int py,.int 8]),GS s∧Sm 75 (s.own.den:Int):=fun s hs=>by
 refine ⟨Zn7 h (cr8 hx hy) (by decide) s hs,?_⟩
 obtain ⟨t,ht,e⟩:=VaK.mp hs
 exact ZsO (h t ht) hx hy e
theorem Zsl{Φ:D→Prop}{n:Nat}{m:ME}{ds:List D}(h:Tl (m (ev0 n ds)) Φ):Tl (fnR n m ds) Φ:=h
theorem ZoR{Φ:D→Prop}{k:MS}{m:ME}{ρ:Ev}(h:Tl (k ρ) fun f=>∃ρ',f=.nx ρ'∧Tl (m ρ') Φ):Tl (soR k m ρ) Φ:=Zaj (h.mono fun f ⟨_,e,q⟩=>e▸q)
theorem ZrO{Φ:D→Prop}{t:MB}{a b:ME}{ρ:Ev}(h:Tl (t ρ) fun x=>Tl (if x=true then a ρ else b ρ) Φ):Tl (ifR t a b ρ) Φ:=Zaj h
theorem ZtM{Φ:D→Prop}{n:Nat}{m:Ev→Res (List D)}{ds:List D}(h:Tl (m (ev0 n ds)) fun xs=>Φ (.lst xs)):Tl (fnO n m ds) Φ:=Zaj (h.mono fun _ q=>Zau q)
theorem ZuO{Φ:List D→Prop}{it:MI}{own:Nat}{cap:List Nat}{g:MG}{t:MB}{e:ME}{ρ:Ev}(h:Tl (it ρ) fun xs=>xs.length≤1000000∧Tl (Zai g t e (noA own (yar ρ cap)) xs) Φ):Tl (roC it own cap g t e ρ) Φ:=by
 obtain ⟨xs,e1,hl,ys,e2,q⟩:=h
 refine Zal ?_ q
 unfold roC
 rw [e1]
 show (if xs.length≤LIM then noEx (Zai g t e (noA own (yar ρ cap)) xs) else .bad)=_
 rw [if_pos (show xs.length≤LIM from hl),e2]
 rfl
theorem Znz{Φ:Fl→Prop}{i:Nat}{e:ME}{t:MB}{k:MS}{mv:ME}{l:MS}{ρ:Ev}(hi:i<ρ.length)(h:Tl (e ρ) fun d=>ZeI d=true∧Tl (t (ρ.set i (.im d))) fun b=>b=false∧Tl (mv (ρ.set i (.im d))) fun _=>Tl (l (ρ.set i .no)) Φ):Tl (ZgB i e t k mv l ρ) Φ:=by
 obtain ⟨d,e1,h1,b,e2,rfl,x,e3,q⟩:=h
 unfold ZgB
 rw [e1]
 show Tl (if (ZeI d&&decide (i<ρ.length))=true then (t (ρ.set i (.im d))).bind (fun b=>if b=true then Zju (k (ρ.set i (.im d))) else (noEx (mv (ρ.set i (.im d)))).bind fun _=>l (ρ.set i .no)) else .bad) Φ
 rw [h1,Vbm hi,if_pos (show (true&&true)=true from rfl),e2]
 show Tl ((noEx (mv (ρ.set i (.im d)))).bind fun _=>l (ρ.set i .no)) Φ
 rw [e3]
 exact q
section
variable{ts:List D}{dots:List (Int×Int)}{g:Rat}{n:Nat}
theorem Zm2{Φ:D→Prop}{w h:Nat}{sp gr:D}(hts:∀t∈ts,Thg t)(hl:ts.length≤n)(hn:n≤12)(hw:1≤w∧w≤64)(hh:1≤h∧h≤64)(hs:Zap [sp]=.ok (.lst (dots.map encP)))(hgr:ZaT [gr]=.ok (frD g))(hg:Bq 300 g)(hg2:Sm 75 (g.den:Int))(hd:Zjg dots)(h1:1≤dots.length)(h16:dots.length≤16)(hk:dots.length*(75+64*n)+10≤8900)
  (q:Φ (picP (cellQ ts g dots) w h)):Tl (Za9 [.lst ts,.int (w:Int),.int (h:Int),sp,gr]) Φ:=by
 unfold Za9
 refine Zsl (ZoR ?_)
 walk_at "w"
 refine Zkd hw hh ?_
 refine ⟨_,rfl,ZoR ?_⟩
 walk_at "w"
 refine Zal hs ?_
 refine ⟨_,rfl,ZoR ?_⟩
 walk_at "w"
 refine Zal hgr ?_
 refine ⟨_,rfl,?_⟩
 walk_at "w"
 rw [Zbo,VbA]
 refine ⟨by rw [VaQ,VbF];omega,?_⟩
 refine Zc1 (fun r:Nat=>rowP (cellQ ts g dots) w r) (fun r hr=>?_) ?_
 ·have hr:=Vaj.mp hr
  walk_at "w"
  unfold ZbY
  refine ZtM (ZuO ?_)
  walk_at "w"
  rw [Zbo,VbA]
  refine ⟨by rw [VaQ,VbF];omega,?_⟩
  refine Zc1 (fun c:Nat=>frD (cellQ ts g dots c r)) (fun c hc=>?_) ?_
  ·have hc:=Vaj.mp hc
   walk_at "w"
   refine Zj4 hts (by omega) (by omega) (by omega) hd h16 ?_
   walk_at "w"
   rw [show (List.map (fun d=>D.lst ((sgs ts (ptA c r d)).map encS)) dots)=(dots.map fun d=>sgs ts (ptA c r d)).map fun l=>D.lst (l.map encS) by rw [VbJ];rfl]
   refine Zj6 (n:=n) hg hg2 (fun l hl'=>?_) hn (by rw [VaQ];exact h1) (by rw [VaQ];exact h16) (by rw [VaQ];exact hk) ?_
   ·obtain ⟨d,hd',rfl⟩:=Vbs.mp hl'
    have hb:=hd d hd'
    exact ⟨ZkU hts (by omega) (by omega),Vak (Ziy _ _) hl⟩
   ·unfold cellQ
    rw [VbJ]
    rfl
  ·rfl
 ·exact q
theorem ZgF{px py:Int}(hts:∀t∈ts,Thg t)(hl:ts.length≤n)(hn:n≤12)(hg:Bq 300 g)(hx:0≤px∧px≤1000)(hy:0≤py∧py≤1000):Za8 [.lst ts,pt8 px py,frD g]=.ok (frD (colQ g (sgs ts (pt8 px py))))∧Bq (300+170*n) (colQ g (sgs ts (pt8 px py))):=by
 obtain ⟨x,e,h⟩ : Tl (Za8 [.lst ts,pt8 px py,frD g]) fun x=>x=frD (colQ g (sgs ts (pt8 px py)))∧Bq (300+170*n) (colQ g (sgs ts (pt8 px py))):=by
  unfold Za8
  walk_at "w"
  refine Zal (ZhG hts (by omega) (cr8 hx hy) (by decide)) ?_
  walk_at "w"
  refine ZhW (n:=n) hg (Zn7 hts (cr8 hx hy) (by decide)) (Vak (Ziy _ _) hl) hn fun B=>?_
  walk_at "w"
  exact ⟨rfl,B⟩
 exact ⟨h.1▸e,h.2⟩
end
theorem Ziw{t b:Int}{q:Rat}(hb:0<b):Rat.divInt (t*q.den+q.num*b) (b*q.den)=Rat.divInt t b+q:=by
 have hq:=den1 q
 conv=>rhs;rw [←Vck q]
 rw [Rat.divInt_add_divInt _ _ (by omega) (by omega)]
theorem ZkJ{t b:Int}{s:Rat}{n:Int}(hb:0<b)(hn:0<n)(e:Rat.divInt t b=s):Rat.divInt t (b*n)=Rat.divInt s.num (s.den*n):=by
 have hs:=den1 s
 have e2:t*s.den=s.num*b:=by
  rw [←Vck s] at e
  exact (Vcj (by omega) (by omega)).mp e
 rw [Vcj (Vcb (Vcf hb hn)) (Vcb (Vcf hs hn))]
 calc t*(s.den*n)=(t*s.den)*n:=by grind
  _=s.num*(b*n):=by rw [e2];grind
theorem ZkS{Φ:D→Prop}{qs:List Rat}{K k:Nat}(hK:∀q∈qs,Bq K q)(hd:∀q∈qs,Sm k (q.den:Int))(h1:1≤qs.length)(hn:qs.length≤16)(hK':K≤100000)(hk:qs.length*k+10≤8900)(h:Φ (frD (Zmx qs))):Tl (Zcd [.lst (qs.map frD)]) Φ:=by
 unfold Zcd
 walk_at "w"
 refine Zgy (enc:=frD) (fun pre ρ=>∃(t b:Int) (v3:Cl),0<b∧Rat.divInt t b=sumQ pre∧Sm (pre.length*(K+1)+1) t∧Sm (pre.length*(K+1)+1) b∧Sm (pre.length*k+1) b∧ρ=[.im (.lst (qs.map frD)),.im (.int t),.im (.int b),v3]) ⟨0,1,.no,by decide,rfl,?_,?_,?_,rfl⟩ ?_ ?_
 ·show (0:Int).natAbs<_;exact Vb9 _
 ·show (1:Int).natAbs<2^(0*_+1);rw [Nat.zero_mul];decide
 ·show (1:Int).natAbs<2^(0*_+1);rw [Nat.zero_mul];decide
 ·rintro pre q r e ρ ⟨t,b,v3,hb,es,st1,sb1,sb2,rfl⟩
  have hq:q∈qs:=by rw [←e];simp
  have hlen:pre.length<qs.length:=by rw [←e];simp
  have l3:(pre.length+1)*(K+1)≤16*(K+1):=Vcp (K+1) (by omega)
  rw [Vcq] at l3
  have B:=hK q hq
  have m1:ZaR t q.den=true:=ZaC st1 B.d (by omega)
  have m2:ZaR q.num b=true:=ZaC B.n sb1 (by omega)
  have m3:ZaR b q.den=true:=ZaC sb1 B.d (by omega)
  have e2:=Ziw (t:=t) (q:=q) hb
  rw [es,←ZhT] at e2
  have s0:Sm (pre.length*(K+1)+1+K) (q.num*b):=by rw [Nat.add_comm (pre.length*(K+1)+1) K];exact B.n.mul sb1
  have s1:Sm (pre.length*(K+1)+1+K+1) (t*q.den+q.num*b):=((st1.mul B.d).add s0).mono (by omega)
  have s2:Sm (pre.length*(K+1)+1+K) (b*q.den):=sb1.mul B.d
  have s3:Sm (pre.length*k+1+k) (b*q.den):=sb2.mul (hd q hq)
  have b1:0<b*q.den:=Vcf hb (den1 q)
  unfold frD
  walk_at "w"
  refine ⟨_,rfl,_,_,_,b1,e2,s1.mono ?_,s2.mono ?_,s3.mono ?_,rfl⟩
  ·rw [Va7,Vbl,Vcq];omega
  ·rw [Va7,Vbl,Vcq];omega
  ·rw [Va7,Vbl,Vcq];omega
 ·rintro ρ ⟨t,b,v3,hb,es,st1,sb1,sb2,rfl⟩
  have l3:qs.length*(K+1)≤16*(K+1):=Vcp (K+1) hn
  have s5:Sm 5 (qs.length:Int):=by show (qs.length:Int).natAbs<2^5;omega
  have m1:ZaR b (qs.length:Int)=true:=ZaC sb1 s5 (by omega)
  have e3:=ZkJ (n:=(qs.length:Int)) hb (by omega) es
  walk_at "w"
  rw [VaQ]
  walk_at "w"
  refine ZgS (Vcf hb (by omega)) (sb2.mul s5) (by omega) ?_
  rw [e3]
  walk_at "w"
  exact h
section
variable{ts:List D}{dots:List (Int×Int)}{g:Rat}{n:Nat}
theorem ZnT{Φ:D→Prop}{w h:Nat}(hts:∀t∈ts,Thg t)(hl:ts.length≤n)(hn:n≤12)(hw:1≤w∧w≤64)(hh:1≤h∧h≤64)(hg:Bq 300 g)(hg2:Sm 75 (g.den:Int))(hd:Zjg dots)(h1:1≤dots.length)(h16:dots.length≤16)(hk:dots.length*(75+64*n)+10≤8900)
  (q:Φ (picP (cellQ ts g dots) w h)):Tl (ZcH [.lst ts,.int (w:Int),.int (h:Int),.lst (dots.map encP),frD g]) Φ:=by
 unfold ZcH
 walk_at "w"
 rw [Zbo,VbA]
 refine Zfp (fun r ρ=>∃v6 v7 v8 v9:Cl,ρ=[.im (.lst ts),.im (.int (w:Int)),.im (.int (h:Int)),.im (.lst (dots.map encP)),.im (frD g),.ow ((List.range r).map fun i=>rowP (cellQ ts g dots) w i),v6,v7,v8,v9]) ⟨_,_,_,_,rfl⟩ ?_ ?_
 ·rintro r hr ρ ⟨v6,v7,v8,v9,rfl⟩
  walk_at "w"
  rw [Zbo,VbA]
  refine Zfp (fun c ρ=>∃v8 v9:Cl,ρ=[.im (.lst ts),.im (.int (w:Int)),.im (.int (h:Int)),.im (.lst (dots.map encP)),.im (frD g),.ow ((List.range r).map fun i=>rowP (cellQ ts g dots) w i),.im (.int (r:Int)),.ow ((List.range c).map fun j=>frD (cellQ ts g dots j r)),v8,v9]) ⟨_,_,rfl⟩ ?_ ?_
  ·rintro c hc ρ ⟨v8,v9,rfl⟩
   walk_at "w"
   refine ⟨by rw [VaQ];omega,?_⟩
   refine Zc1 (fun d:Int×Int=>ptA c r d) (fun d hd'=>?_) ?_
   ·walk_at "w"
   walk_at "w"
   refine ZlN ?_
   walk_at "w"
   refine ⟨by rw [VaQ];omega,?_⟩
   refine Zc1 (enc:=fun d:Int×Int=>ptA c r d) (fun d:Int×Int=>frD (colQ g (sgs ts (ptA c r d)))) (fun d hd'=>?_) ?_
   ·have hb:=hd d hd'
    walk_at "w"
    exact Zal (ZgF hts hl hn hg (by omega) (by omega)).1 rfl
   walk_at "w"
   rw [show List.map (fun d:Int×Int=>frD (colQ g (sgs ts (ptA c r d)))) dots=(dots.map fun d=>colQ g (sgs ts (ptA c r d))).map frD by rw [VbJ];rfl]
   refine ZkS (K:=300+170*n) (k:=75+64*n) (fun x hx=>?_) (fun x hx=>?_) (by rw [VaQ];exact h1) (by rw [VaQ];exact h16) (by omega) (by rw [VaQ];exact hk) ?_
   ·obtain ⟨d,hd',rfl⟩:=Vbs.mp hx
    have hb:=hd d hd'
    exact (ZgF hts hl hn hg (by omega) (by omega)).2
   ·obtain ⟨d,hd',rfl⟩:=Vbs.mp hx
    have hb:=hd d hd'
    exact ZlA hg2 (ZkU hts (by omega) (by omega)) (Vak (Ziy _ _) hl)
   refine ⟨by rw [VaQ,VbF];omega,?_⟩
   rw [List.range_succ,VbV]
   exact ⟨_,rfl,_,_,rfl⟩
  ·rintro ρ ⟨v8,v9,rfl⟩
   walk_at "w"
   refine ⟨by rw [VaQ,VbF];omega,?_⟩
   rw [List.range_succ (n:=r),VbV]
   exact ⟨_,rfl,_,_,_,_,rfl⟩
 ·rintro ρ ⟨v6,v7,v8,v9,rfl⟩
  walk_at "w"
  exact q
end
theorem ZpW{f:List D→Res D}{a k:MA}{ρ:Ev}{x y z s u:D}(ha:a ρ=.ok [x,y,z])(hk:k ρ=.ok [u,s]):onK f [some 1,some 0] a k ρ=f [x,y,z,s,u]:=by
 unfold onK
 rw [ha]
 show (k ρ).bind _=_
 rw [hk]
 rfl
theorem Zmc{f:List D→Res D}{a:MA}{ρ:Ev}{x y z:D}(ha:a ρ=.ok [x,y,z]):onK f [none,none] a yaa ρ=f [x,y,z,.non,.non]:=by
 unfold onK
 rw [ha]
 rfl
theorem ZmE{Φ:D→Prop}{T sp gr P:D}{w h way:Int}(hp:Za9 [T,.int w,.int h,sp,gr]=.ok P)(q:Φ P):Tl (Zba [T,.int w,.int h,sp,gr,.int way]) Φ:=by
 unfold Zba
 refine Zsl (ZrO ?_)
 have rest:Tl (ifR (trb (o2 dEq (v 5) (c (.int 0)))) (onK Za9 [some 1,some 0] (Zaa (v 0) (Zaa (v 1) (Zaa (v 2) yaa))) (Zaa (v 4) (Zaa (v 3) yaa))) (on Za9 (Zaa (v 0) (Zaa (v 1) (Zaa (v 2) (Zaa (v 3) (Zaa (v 4) yaa)))))) (ev0 6 [T,.int w,.int h,sp,gr,.int way])) Φ:=by
  refine ZrO ?_
  walk_at "w"
  refine Zb9 (fun _=>?_) (fun _=>?_)
  ·rw [ZpW (x:=T) (y:=.int w) (z:=.int h) (s:=sp) (u:=gr) rfl rfl]
   exact Zal hp q
  ·walk_at "w"
   exact Zal hp q
 by_cases h1:ZdX sp=true
 ·by_cases h2:ZdX gr=true
  ·have e1:sp=.non:=by cases sp<;>first | rfl | (cases h1)
   have e2:gr=.non:=by cases gr<;>first | rfl | (cases h2)
   subst e1 e2
   walk_at "w"
   rw [Zmc (x:=T) (y:=.int w) (z:=.int h) rfl]
   exact Zal hp q
  ·refine Zal (x:=false) ?_ (by rw [if_neg VaF];exact rest)
   show ((Res.ok (ZdX sp)).bind fun x=>if x=true then (Res.ok (ZdX gr)) else .ok false)=_
   rw [h1]
   show Res.ok (ZdX gr)=_
   rw [Vab.mpr h2]
 ·refine Zal (x:=false) ?_ (by rw [if_neg VaF];exact rest)
  show ((Res.ok (ZdX sp)).bind fun x=>if x=true then (Res.ok (ZdX gr)) else .ok false)=_
  rw [Vab.mpr h1]
  rfl
theorem ZoC{t b:Int}(g:Rat)(h1:g.num=t)(h2:(g.den:Int)=b):frD g=.tup [.int t,.int b]:=by
 unfold frD
 rw [h1,h2]
structure Gd(gr:D)(g:Rat):Prop where
 gn:ZaT [gr]=.ok (frD g)
 bq:Bq 300 g
 bd:Sm 75 (g.den:Int)
 pick:Tl (bInt [.bl (ZdX gr)]) fun y=>Tl (dIx (.lst [gr,.tup [.int 0,.int 1]]) y) fun x=>x=frD g
theorem Zir{t b:Int}{g:Rat}(e:frD g=.tup [.int t,.int b])(b1:Bq 75 g):Gd (.tup [.int t,.int b]) g:=by
 refine ⟨?_,b1.mono (by decide),b1.d,?_⟩
 ·rw [e];rfl
 ·rw [e];exact Zal (x:=.int 0) rfl (Zal rfl rfl)
theorem Zq7:Gd .non 0:=by
 have e:frD 0=.tup [.int 0,.int 1]:=rfl
 refine ⟨by rw [e];rfl,b0.mono (by decide),b0.d.mono (by decide),?_⟩
 rw [e]
 exact Zal (x:=.int 1) rfl (Zal rfl rfl)
theorem ZqE{gr:D}(h:gr∈[D.non,.tup [.int 0,.int 1],.tup [.int 5,.int 3],.tup [.int (-2),.int 1]]):∃g,Gd gr g:=by
 simp only [Var,VbQ,VbR] at h
 rcases h with rfl | rfl | rfl | rfl
 ·exact ⟨0,Zq7⟩
 ·exact ⟨0,Zir rfl (b0.mono (by decide))⟩
 ·exact ⟨Rat.divInt 5 3,Zir (ZoC _ (by decide +kernel) (by decide +kernel)) (Zjm (by decide) (by show (5:Int).natAbs<2^75;decide) (by show (3:Int).natAbs<2^75;decide))⟩
 ·exact ⟨((-2:Int):Rat),Zir (ZoC _ rfl rfl) ⟨by show (-2:Int).natAbs<2^75;decide,by show (1:Int).natAbs<2^75;decide⟩⟩
structure Sp(sp:D)(dots:List (Int×Int)):Prop where
 sm:Zap [sp]=.ok (.lst (dots.map encP))
 l1:1≤dots.length
 l16:dots.length≤16
 ok:Zjg dots
 pick:Tl (bInt [.bl (ZdX sp)]) fun y=>Tl (dIx (.lst [sp,.lst [.tup [.int 4,.int 4]]]) y) fun x=>x=.lst (dots.map encP)
theorem ZpJ:Sp .non [(4,4)]:=⟨ZjY,by decide,by decide,(by decide:∀d∈[((4:Int),(4:Int))],(1≤d.1∧d.1≤7)∧1≤d.2∧d.2≤7),Zal (x:=.int 1) rfl (Zal rfl rfl)⟩
theorem Zpc{dots:List (Int×Int)}(l1:1≤dots.length)(l16:dots.length≤16)(h:Dots dots):Sp (.lst (dots.map encP)) dots:=⟨Zj9 ⟨l1,l16⟩ h.1 h.2,l1,l16,h.1,Zal (x:=.int 0) rfl (Zal rfl rfl)⟩
theorem Zqy(f:Nat→Nat→Rat){w h:Nat}(hw:w≤64)(h1:1≤h)(hh:h≤64):ZeI (picP f w h)=true:=by
 unfold picP
 obtain ⟨k,rfl⟩ : ∃k,h=k+1:=⟨h - 1,by omega⟩
 rw [List.range_succ_eq_map,VaP]
 show (decide (((List.range w).map fun c=>frD (f c 0)).length<1000)&&decide ((((List.range k).map Nat.succ).map fun r=>rowP f w r).length<1000))=true
 rw [VaQ,VaQ,VaQ,VbF,VbF,Vbm (by omega),Vbm (by omega)]
 rfl
theorem Ziu(xs:List D)(k:Nat):cutL xs none (some (k:Int))=xs.take k:=by
 unfold cutL cutAt
 simp only []
 rw [if_neg (by omega),Vbw,Nat.sub_zero,VbA]
 by_cases h:k≤xs.length
 ·rw [Vch h]
 ·rw [Nat.min_eq_right (by omega),Vbx (VaI _),Vbx (by omega)]
theorem ZoB(f:Nat→Nat→Rat)(r:Nat):∀l:List Nat,ZaA 48 (l.map fun c=>frD (f c r))=true
 | []=>rfl
 | a::t=>by
  show (plain 48 (frD (f a r))&&ZaA 48 (t.map fun c=>frD (f c r)))=true
  rw [ZoB f r t,ZnW 47]
  rfl
theorem Zsc(f:Nat→Nat→Rat)(w h:Nat):plain 50 (picP f w h)=true:=by
 have key:∀l:List Nat,ZaA 49 (l.map fun r=>rowP f w r)=true:=by
  intro l
  induction l with
  | nil=>rfl
  | cons a t ih =>
   show (plain 49 (rowP f w a)&&ZaA 49 (t.map fun r=>rowP f w r))=true
   rw [ih,show plain 49 (rowP f w a)=true from ZoB f a (List.range w)]
   rfl
 exact key (List.range h)
theorem Zm3(ns:List Int)(h63:ns.length≤63):Zpo [.lst (ns.map .int)]=.ok (.bl true):=by
 refine Tl.eq ?_
 unfold Zpo
 walk_at "w"
 refine ZiH fun ts0 lt0 hts0=>?_
 walk_at "w"
 refine ZcF (by decide) fun c8=>?_
 walk_at "w"
 refine Zfz (n:=2) (by decide) fun ds ld hd=>?_
 obtain ⟨nu,mo,rfl⟩ : ∃nu mo,ds=[nu,mo]:=by
  match ds,ld with
  | [a,b],_=>exact ⟨a,b,rfl⟩
 have hnu:=hd nu (by simp)
 have hmo:=hd mo (by simp)
 unfold Dw at hnu hmo
 rw [show List.map D.int [nu,mo]=[D.int nu,D.int mo] from rfl]
 walk_at "w"
 refine Tl.mono (Ψ:=fun f=>∃ts:List D,ts.length≤7∧(∀t∈ts,Thg t)∧f=Fl.nx [.im (.lst (ns.map .int)),.im (.lst ts),.im (.int nu),.im (.int mo),.im (.int (1+nu%6)),.im (.int (1+nu/8%5)),.no,.no,.no,.no,.no,.no,.no,.no]) ?_ ?_
 ·refine Zb9 (fun _=>?_) (fun _=>?_)
  ·walk_at "w"
   rw [show (2:Int)=((2:Nat):Int) from rfl,Ziu]
   refine ZsS (by rw [Va0];omega) ?_
   walk_at "w"
   refine ⟨_,by rw [Va7,Va0];omega,fun t ht=>?_,rfl⟩
   rcases Vas.mp ht with z | z
   ·exact hts0 t z
   ·exact hts0 t (Vci z)
  ·walk_at "w"
   exact ⟨ts0,by omega,hts0,rfl⟩
 rintro f ⟨ts1,lt1,hts1,rfl⟩
 clear hts0 lt0 ts0
 walk_at "w"
 refine Tl.mono (Ψ:=fun f=>∃(ts:List D) (w h:Nat),ts.length≤7∧(∀t∈ts,Thg t)∧(1≤w∧w≤64)∧(1≤h∧h≤64)∧f=Fl.nx [.im (.lst (ns.map .int)),.im (.lst ts),.im (.int nu),.im (.int mo),.im (.int (w:Int)),.im (.int (h:Int)),.no,.no,.no,.no,.no,.no,.no,.no]) ?_ ?_
 ·refine Zb9 (fun _=>?_) (fun _=>?_)
  ·walk_at "w"
   refine Zgd ⟨by omega,by show _<((4:Nat):Int);omega⟩ fun d hdm=>?_
   obtain ⟨w,h,hw,hh,rfl⟩ : ∃w h:Nat,(1≤w∧w≤64)∧(1≤h∧h≤64)∧d=.tup [.int (w:Int),.int (h:Int)]:=by
    simp only [Var,VbQ,VbR] at hdm
    rcases hdm with rfl | rfl | rfl | rfl
    ·exact ⟨64,1,by decide,by decide,rfl⟩
    ·exact ⟨1,64,by decide,by decide,rfl⟩
    ·exact ⟨64,6,by decide,by decide,rfl⟩
    ·exact ⟨5,64,by decide,by decide,rfl⟩
   have m1:ZaR (w:Int) (h:Int)=true:=ZiA (Sm.of64 (by omega) (by omega))
   walk_at "w"
   obtain ⟨k,y,e1,hk⟩ : ∃(k:Nat) (y:D),bInt [.bl (decide ((w:Int)*(h:Int)=64))]=.ok y∧y=.int (k:Int):=by
    by_cases z:(w:Int)*(h:Int)=64
    ·rw [Vbm z];exact ⟨1,_,rfl,rfl⟩
    ·rw [Vac z];exact ⟨0,_,rfl,rfl⟩
   refine Zal e1 ?_
   subst hk
   walk_at "w"
   rw [show (1+(k:Int))=((1+k:Nat):Int) by omega,Ziu]
   exact ⟨_,w,h,by rw [Va0];omega,fun t ht=>hts1 t (Vci ht),hw,hh,rfl⟩
  ·walk_at "w"
   refine ⟨ts1,(1+nu%6).toNat,(1+nu/8%5).toNat,by omega,hts1,by omega,by omega,?_⟩
   rw [Vco (by omega),Vco (by omega)]
 rintro f ⟨ts,w1,h1,lt,hts,hw1,hh1,rfl⟩
 clear hts1 lt1 ts1
 have m1:ZaR (w1:Int) (h1:Int)=true:=ZiA (Sm.of64 (by omega) (by omega))
 walk_at "w"
 refine ZcF (by decide) fun c9=>?_
 walk_at "w"
 refine Zkx fun dots0 l1 l16 hD0=>?_
 walk_at "w"
 refine Tl.mono (Ψ:=fun _:Bool=>True) ?_ ?_
 ·refine Zb9 (fun _=>?_) (fun _=>?_)
  ·walk_at "w"
  ·walk_at "w"
 intro bb _
 refine Tl.mono (Ψ:=fun f=>∃(w h:Nat) (dots:List (Int×Int)),(1≤w∧w≤64)∧(1≤h∧h≤64)∧1≤dots.length∧dots.length≤16∧Dots dots∧f=Fl.nx [.im (.lst (ns.map .int)),.im (.lst ts),.im (.int nu),.im (.int mo),.im (.int (w:Int)),.im (.int (h:Int)),.im (.lst (dots.map encP)),.no,.no,.no,.no,.no,.no,.no]) ?_ ?_
 ·have rest:Tl ((ifs (trb (o2 dGe (o2 yaI (v 4) (v 5)) (c (.int 64)))) (st 6 (cut (v 6) pno (pso (c (.int 1))))) nop) [.im (.lst (ns.map .int)),.im (.lst ts),.im (.int nu),.im (.int mo),.im (.int (w1:Int)),.im (.int (h1:Int)),.im (.lst (dots0.map encP)),.no,.no,.no,.no,.no,.no,.no]) fun f=>∃(w h:Nat) (dots:List (Int×Int)),(1≤w∧w≤64)∧(1≤h∧h≤64)∧1≤dots.length∧dots.length≤16∧Dots dots∧f=Fl.nx [.im (.lst (ns.map .int)),.im (.lst ts),.im (.int nu),.im (.int mo),.im (.int (w:Int)),.im (.int (h:Int)),.im (.lst (dots.map encP)),.no,.no,.no,.no,.no,.no,.no]:=by
   walk_at "w"
   refine Zb9 (fun _=>?_) (fun _=>?_)
   ·walk_at "w"
    rw [show (1:Int)=((1:Nat):Int) from rfl,Ziu,←Vb4]
    exact ⟨w1,h1,dots0.take 1,hw1,hh1,by rw [Va0];omega,by rw [Va0];omega,⟨fun x hx=>hD0.1 x (Vci hx),hD0.2.sublist (List.take_sublist _ _)⟩,rfl⟩
   ·walk_at "w"
    exact ⟨w1,h1,dots0,hw1,hh1,l1,l16,hD0,rfl⟩
  refine Zs2 (fun _=>?_) (fun _=>rest)
  walk_at "w"
  refine ⟨(min (w1:Int) 2).toNat,(min (h1:Int) 2).toNat,dots0,by omega,by omega,l1,l16,hD0,?_⟩
  rw [Vco (by omega),Vco (by omega)]
 rintro f ⟨w,h,dots1,hw,hh,l1',l16',hD,rfl⟩
 clear hD0 l1 l16 dots0
 walk_at "w"
 refine Zgd ⟨by omega,by show _<((2:Nat):Int);omega⟩ fun sp hsp=>?_
 obtain ⟨dots,S⟩ : ∃dots,Sp sp dots:=by
  simp only [Var,VbQ,VbR] at hsp
  rcases hsp with rfl | rfl
  ·exact ⟨_,ZpJ⟩
  ·exact ⟨_,Zpc l1' l16' hD⟩
 clear hsp
 walk_at "w"
 refine Zgd ⟨by omega,by show _<((4:Nat):Int);omega⟩ fun gr hgr=>?_
 obtain ⟨g,G⟩:=ZqE hgr
 clear hgr
 have hk:dots.length*(75+64*7)+10≤8900:=by
  have:dots.length*(75+64*7)≤16*(75+64*7):=Vcp _ S.l16
  omega
 have hp:Za9 [.lst ts,.int (w:Int),.int (h:Int),sp,gr]=.ok (picP (cellQ ts g dots) w h):=Tl.eq (Zm2 (n:=7) hts lt (by decide) hw hh S.sm G.gn G.bq G.bd S.ok S.l1 S.l16 hk rfl)
 walk_at "w"
 obtain ⟨y1,e1,x1,e2,rfl⟩:=S.pick
 refine Zal e1 (Zal e2 ?_)
 walk_at "w"
 obtain ⟨y2,e3,x2,e4,rfl⟩:=G.pick
 refine Zal e3 (Zal e4 ?_)
 walk_at "w"
 refine ZnT (n:=7) hts lt (by decide) hw hh G.bq G.bd S.ok S.l1 S.l16 hk ?_
 walk_at "w"
 show Tl (ZbM _ _ (Zbn 0 2) _) _
 rw [Zbo]
 refine Zfp (fun j ρ=>∃v12 v13:Cl,ρ=[.im (.lst (ns.map .int)),.im (.lst ts),.im (.int nu),.im (.int mo),.im (.int (w:Int)),.im (.int (h:Int)),.im (.lst (dots1.map encP)),.im sp,.im gr,.im (.lst (dots.map encP)),.im (picP (cellQ ts g dots) w h),.im (.lst ts),v12,v13]) ⟨_,_,rfl⟩ ?_ ?_
 ·rintro j hj ρ ⟨v12,v13,rfl⟩
  walk_at "w"
  refine Znz (by simp) ?_
  walk_at "w"
  refine ZmE hp ?_
  refine ⟨Zqy _ hw.2 hh.1 hh.2,?_⟩
  walk_at "w"
  refine Zal (Zpa (Zsc _ _ _)) ?_
  walk_at "w"
  exact ⟨by rw [Vbm rfl];rfl,Zal rfl (Zal rfl ⟨_,rfl,_,_,rfl⟩)⟩
 ·rintro ρ ⟨v12,v13,rfl⟩
  walk_at "w"
end My
namespace My
open PySem L2 Ds Dl
def top(i:Nat):Stmt:=PySem.Challenge.pw_sampleyard_k54_pictures.main.body.getD i (.Pass ⟨0,0,0,0⟩)
abbrev Zcq:Stmt:=top 72
abbrev Zdh:Stmt:=top 73
abbrev Zdk:Stmt:=top 74
abbrev Zbh:Stmt:=top 10
abbrev Ziz:Stmt:=top 13
abbrev Zd3:Stmt:=top 81
abbrev Zbl:Stmt:=(inClass (top 67) 3)
abbrev ZkH:Stmt:=top 19
abbrev ZeW:Stmt:=top 61
abbrev ZaW:Stmt:=(inClass (top 66) 2)
abbrev Zbq:Stmt:=(inClass (top 64) 2)
abbrev Zbc:Stmt:=(inClass (top 65) 2)
abbrev ZiK:Stmt:=top 15
abbrev Zln:Stmt:=top 14
abbrev ZfX:Stmt:=top 16
abbrev Zd2:Stmt:=top 47
abbrev ZbF:Stmt:=(inClass (top 67) 2)
abbrev Zbz:Stmt:=(inClass (top 63) 1)
abbrev Ziq:Stmt:=top 18
abbrev ZcO:Stmt:=top 46
abbrev Zdl:Stmt:=top 45
abbrev ZdU:Stmt:=top 44
abbrev ZbI:Stmt:=top 11
abbrev ZdQ:Stmt:=top 31
abbrev Zbi:Stmt:=top 30
abbrev Zbs:Stmt:=top 25
abbrev Zct:Stmt:=top 23
abbrev Zle:Stmt:=top 22
abbrev ZpT:Stmt:=top 26
abbrev ZeV:Stmt:=top 24
abbrev Zfr:Stmt:=top 27
abbrev Zf2:Stmt:=top 29
abbrev ZdT:Stmt:=top 43
abbrev ZcT:Stmt:=top 42
abbrev ZeE:Stmt:=top 82
abbrev ZeK:Stmt:=top 8
abbrev Zdp:Stmt:=top 9
abbrev Zc0:Stmt:=top 37
abbrev ZbV:Stmt:=top 41
abbrev ZfQ:Stmt:=top 17
abbrev ZcL:Stmt:=top 51
abbrev ZfR:Stmt:=top 33
abbrev ZdN:Stmt:=top 50
abbrev ZcQ:Stmt:=top 49
abbrev ZfM:Stmt:=top 39
abbrev ZcZ:Stmt:=top 38
abbrev ZbA:Stmt:=top 40
abbrev ZcU:Stmt:=top 48
abbrev Zcr:Stmt:=top 83
abbrev Zdm:Stmt:=top 80
abbrev Zde:Stmt:=top 56
abbrev ZdV:Stmt:=top 55
abbrev ZbT:Stmt:=top 54
abbrev Zby:Stmt:=(inClass (top 63) 0)
abbrev ZcJ:Stmt:=top 20
abbrev Zcv:Stmt:=top 69
abbrev Zdg:Stmt:=top 70
abbrev ZbG:Stmt:=(inClass (top 67) 0)
abbrev Zb8:Stmt:=top 59
abbrev Zcw:Stmt:=top 68
abbrev ZgT:Stmt:=top 60
abbrev Za2:Stmt:=(inClass (top 66) 0)
abbrev ZbB:Stmt:=(inClass (top 64) 0)
abbrev Zbu:Stmt:=(inClass (top 65) 0)
abbrev Zcx:Stmt:=top 77
abbrev Zc4:Stmt:=top 78
abbrev ZcW:Stmt:=top 75
abbrev ZbU:Stmt:=top 76
abbrev ZcS:Stmt:=top 79
abbrev Zg7:Stmt:=top 84
local macro_rules | `(tactic| walk_at "sc")=>`(tactic| exact ⟨rfl,rfl,rfl,by decide +kernel,rfl,by decide +kernel,by decide +kernel⟩)
theorem Zdc:Zad ["_law_script", "_law_k"] ["_law_script", "_law_k"] (Zab Zcq):=by walk_at "sc"
theorem ZeA:Zad ["_law_cell", "_law_k", "_law_number"] ["_law_cell", "_law_k"] (Zab Zdh):=by walk_at "sc"
theorem Zes:Zad ["_law_cell", "_law_many"] ["_law_cell", "_law_many"] (Zab Zdk):=by walk_at "sc"
theorem Zb7:Zad ["numbers", "found", "number", "rest", "left"] ["numbers"] (Zab Zbh):=by walk_at "sc"
theorem ZjR:Zad ["top", "bottom", "divisor"] ["top", "bottom"] (Zab Ziz):=by walk_at "sc"
theorem Ze2:Zad ["_law_some", "_law_top", "_law_bottom", "_law_one"] ["_law_some"] (Zab Zd3):=by walk_at "sc"
theorem Zb6:Zad ["self", "values"] ["self", "values"] (Zab Zbl):=by walk_at "sc"
theorem Zmk:Zad ["one"] ["one"] (Zab ZkH):=by walk_at "sc"
theorem ZfB:Zad ["pattern", "u", "v", "row"] ["pattern", "u", "v"] (Zab ZeW):=by walk_at "sc"
theorem Zbg:Zad ["self", "values"] ["self", "values"] (Zab ZaW):=by walk_at "sc"
theorem Zb4:Zad ["self", "values"] ["self", "values"] (Zab Zbq):=by walk_at "sc"
theorem ZbW:Zad ["self", "values"] ["self", "values"] (Zab Zbc):=by walk_at "sc"
theorem ZjJ:Zad ["one", "other"] ["one", "other"] (Zab ZiK):=by walk_at "sc"
theorem Zk5:Zad ["one", "other"] ["one", "other"] (Zab Zln):=by walk_at "sc"
theorem ZgC:Zad ["one", "other"] ["one", "other"] (Zab ZfX):=by walk_at "sc"
theorem Ze4:Zad ["glass", "colour", "left"] ["glass", "colour"] (Zab Zd2):=by walk_at "sc"
theorem Zce:Zad ["self"] ["self"] (Zab ZbF):=by walk_at "sc"
theorem Zck:Zad ["self"] ["self"] (Zab Zbz):=by walk_at "sc"
theorem Zi4:Zad ["one", "other"] ["one", "other"] (Zab Ziq):=by walk_at "sc"
theorem Zcp:Zad ["nearest", "sights", "layers", "sight", "place"] ["nearest", "sights"] (Zab ZcO):=by walk_at "sc"
theorem Zeq:Zad ["sights", "nearest", "sight"] ["sights"] (Zab Zdl):=by walk_at "sc"
theorem Zc5:Zad ["sights", "ground", "nearest", "colour", "sight"] ["sights", "ground"] (Zab ZdU):=by walk_at "sc"
theorem Zcj:Zad ["three", "other"] ["three", "other"] (Zab ZbI):=by walk_at "sc"
theorem Ze9:Zad ["triangle", "amounts"] ["triangle", "amounts"] (Zab ZdQ):=by walk_at "sc"
theorem ZaP:Zad ["triangle", "amounts", "bottom", "depth", "threes"] ["triangle", "amounts"] (Zab Zbi):=by walk_at "sc"
theorem Zca:Zad ["corners", "corner"] ["corners"] (Zab Zbs):=by walk_at "sc"
theorem Zdb:Zad ["one", "other"] ["one", "other"] (Zab Zct):=by walk_at "sc"
theorem ZkO:Zad ["one", "other", "point", "n", "number"] ["one", "other", "point"] (Zab Zle):=by walk_at "sc"
theorem Zor:Zad ["triangle", "point", "turn"] ["triangle", "point"] (Zab ZpT):=by walk_at "sc"
theorem Zfv:Zad ["one", "other", "point"] ["one", "other", "point"] (Zab ZeV):=by walk_at "sc"
theorem Zgu:Zad ["triangle", "point"] ["triangle", "point"] (Zab Zfr):=by walk_at "sc"
theorem ZgN:Zad ["triangle", "point"] ["triangle", "point"] (Zab Zf2):=by walk_at "sc"
theorem Ze3:Zad ["things", "p", "sights", "thing", "seen"] ["things", "p"] (Zab ZdT):=by walk_at "sc"
theorem ZdL:Zad ["things", "p", "ground"] ["things", "p", "ground"] (Zab ZcT):=by walk_at "sc"
theorem ZdO:Zad ["_law_things_here", "_law_width", "_law_height", "_law_dots", "_law_base", "_law_rows", "_law_row", "_law_line", "_law_column", "_law_points"] ["_law_things_here", "_law_width", "_law_height", "_law_dots", "_law_base"] (Zab ZeE):=by walk_at "sc"
theorem ZfG:Zad ["thing"] ["thing"] (Zab ZeK):=by walk_at "sc"
theorem Zec:Zad ["thing", "least", "most"] ["thing", "least", "most"] (Zab Zdp):=by walk_at "sc"
theorem ZdE:Zad ["width", "height"] ["width", "height"] (Zab Zc0):=by walk_at "sc"
theorem ZcG:Zad ["ground"] ["ground"] (Zab ZbV):=by walk_at "sc"
theorem ZgE:Zad ["some", "total", "fraction"] ["some"] (Zab ZfQ):=by walk_at "sc"
theorem ZdF:Zad ["sights_by_spot", "ground"] ["sights_by_spot", "ground"] (Zab ZcL):=by walk_at "sc"
theorem ZgM:Zad ["column", "row", "spot"] ["column", "row", "spot"] (Zab ZfR):=by walk_at "sc"
theorem Zfb:Zad ["things", "column", "row", "spots"] ["things", "column", "row", "spots"] (Zab ZdN):=by walk_at "sc"
theorem ZdH:Zad ["things", "width", "row", "spots", "ground"] ["things", "width", "row", "spots", "ground"] (Zab ZcQ):=by walk_at "sc"
theorem Zgz:Zad ["thing"] ["thing"] (Zab ZfM):=by walk_at "sc"
theorem ZdK:Zad ["spots"] ["spots"] (Zab ZcZ):=by walk_at "sc"
theorem Zch:Zad ["spots"] ["spots"] (Zab ZbA):=by walk_at "sc"
theorem Zjh:Zad ["things", "width", "height", "spots", "ground", "places", "beneath"] ["things", "width", "height", "spots", "ground"] (Zab ZcU):=by walk_at "sc"
theorem Zdj:Zad ["_law_things_here", "_law_width", "_law_height", "_law_dots", "_law_base", "_law_way"] ["_law_things_here", "_law_width", "_law_height", "_law_dots", "_law_base", "_law_way"] (Zab Zcr):=by walk_at "sc"
theorem ZeC:Zad ["_law_cell", "_law_draws_here", "_law_found", "_law_more", "_law_spot"] ["_law_cell"] (Zab Zdm):=by walk_at "sc"
theorem Zev:Zad ["thing"] ["thing"] (Zab Zde):=by walk_at "sc"
theorem Ze7:Zad ["thing"] ["thing"] (Zab ZdV):=by walk_at "sc"
theorem ZcE:Zad ["triangle", "corner"] ["triangle"] (Zab ZbT):=by walk_at "sc"
theorem Zcm:Zad ["self", "triangle"] ["self", "triangle"] (Zab Zby):=by walk_at "sc"
theorem ZdB:Zad ["thing"] ["thing"] (Zab ZcJ):=by walk_at "sc"
theorem Zdi:Zad ["colour"] ["colour"] (Zab Zcv):=by walk_at "sc"
theorem Zed:Zad ["part"] ["part"] (Zab Zdg):=by walk_at "sc"
theorem Zcg:Zad ["self", "triangle", "colour", "part"] ["self", "triangle", "colour", "part"] (Zab ZbG):=by walk_at "sc"
theorem Zc2:Zad ["pattern", "row"] ["pattern"] (Zab Zb8):=by walk_at "sc"
theorem Zdn:Zad ["triangle", "least"] ["triangle", "least"] (Zab Zcw):=by walk_at "sc"
theorem ZhM:Zad ["pattern"] ["pattern"] (Zab ZgT):=by walk_at "sc"
theorem Zbx:Zad ["self", "triangle", "pattern"] ["self", "triangle", "pattern"] (Zab Za2):=by walk_at "sc"
theorem Zcn:Zad ["self", "triangle", "colour"] ["self", "triangle", "colour"] (Zab ZbB):=by walk_at "sc"
theorem Zcb:Zad ["self", "triangle"] ["self", "triangle"] (Zab Zbu):=by walk_at "sc"
theorem Zc7:Zad ["_law_number", "_law_more", "_law_rows", "_law_columns", "_law_found", "_law_r", "_law_line", "_law_c", "_law_one"] ["_law_number", "_law_more"] (Zab Zcx):=by walk_at "sc"
theorem Zex:Zad ["_law_draws_here", "_law_triangle", "_law_number", "_law_top", "_law_bottom", "_law_more", "_law_colour", "_law_way", "_law_few", "_law_part"] ["_law_draws_here", "_law_triangle"] (Zab Zc4):=by walk_at "sc"
theorem ZbK:Zad ["_law_draws_here", "_law_many", "_law_number", "_law_more", "_law_scale", "_law_times", "_law_x", "_law_y", "_law_w", "_law_h", "_law_values"] ["_law_draws_here", "_law_many"] (Zab ZcW):=by walk_at "sc"
theorem ZaN:Zad ["_law_script", "_law_first", "_law_most", "_law_many", "_law_size", "_law_rows", "_law_pool", "_law_draws_here", "_law_found", "_law_k", "_law_number", "_law_one"] ["_law_script", "_law_first", "_law_most", "_law_many"] (Zab ZbU):=by walk_at "sc"
theorem ZdJ:Zad ["_law_script", "_law_first", "_law_most", "_law_draws_here", "_law_found", "_law_many", "_law_k", "_law_triangle"] ["_law_script", "_law_first", "_law_most"] (Zab ZcS):=by walk_at "sc"
theorem ZjL:Zad ["_law_script", "_law_things_here", "_law_number", "_law_more", "_law_width", "_law_height", "_law_few", "_law_dots", "_law_base", "_law_some", "_law_due_here", "_law_handed", "_law_turn", "_law_found"] ["_law_script"] (Zab Zg7):=by walk_at "sc"
structure Txt(K:W.Frag)(mg:Str→Option Value):Prop where
 ydm:mg "abs"=none
 yc4:mg "all"=none
 ydf:mg "bool"=none
 ycF:mg "enumerate"=none
 ydg:mg "int"=none
 ycp:mg "isinstance"=none
 yc8:mg "len"=none
 ycU:mg "list"=none
 ydn:mg "min"=none
 yc9:mg "range"=none
 ydo:mg "set"=none
 ybQ:mg "tuple"=none
 ydp:mg "zip"=none
 yaU:∃tk,mg "MOST_CELLS"=some (.int 64 tk)
 ybg:∃tk,mg "MOST_SPOTS"=some (.int 16 tk)
 ya9:∃tk,mg "MOST_VALUES"=some (.int 3 tk)
 t_COUNTS:GTup K mg "COUNTS" [1,2,4,8,16]
 yb1:∃C,mg "BadFloor"=some (.ref C)∧W.excIn K C Zf5 "ValueError.__new__"=true
 ycq:∃C,mg "BadPattern"=some (.ref C)∧W.excIn K C Zf5 "ValueError.__new__"=true
 yb2:∃C,mg "BadThing"=some (.ref C)∧W.excIn K C Zf5 "ValueError.__new__"=true
 ybv:∃C,mg "BadTriangle"=some (.ref C)∧W.excIn K C Zf5 "ValueError.__new__"=true
 f_colour:Zfd K mg objs "colour"
 f_part:Zfd K mg objs "part"
 f_pattern:Zfd K mg objs "pattern"
 f_triangle:Zfd K mg objs "triangle"
section
variable{P:Program}{w:World}{K:W.Frag}{mg:Str→Option Value}{base:Heap}
set_option hygiene false in
local macro_rules | `(tactic| walk_at "e")=>`(tactic| repeat' first
 | exact ZeN
 | exact ZtT
 | exact yc7
 | exact ZuQ
 | exact Za4
 | exact ZqW
 | exact d_v _
 | refine' Zas ?_ ?_
 | refine' ydd ?_ ?_
 | refine' ZdD (by first | assumption | exact CalO.cal (by assumption) | exact CalN.cal (by assumption)) hr (by decide) rfl ZaG ?_
 | refine' Zo6 (by first | assumption | exact CalO.cal (by assumption) | exact CalN.cal (by assumption)) hr (by decide) rfl ?_
 | refine' Zq3 (by first | assumption | exact CalO.cal (by assumption) | exact CalN.cal (by assumption)) hr (by decide) rfl ?_
 | refine' Zt9 ?_ ?_
 | refine' ZuP ?_ ?_
 | refine' ZtB ?_ ?_
 | refine' ZtR ?_ ?_
 | refine' Zuv ?_ ?_
 | refine' ZtI ?_ ?_
 | refine' Zui ?_ ?_
 | refine' Zt0 ?_ ?_
 | refine' Zq5 ?_ ?_
 | refine' ZtS ?_ ?_
 | refine' ZuA ?_ ?_
 | refine' ZtF ?_ ?_
 | refine' ydr ?_ ?_
 | refine' yds ?_ ?_
 | refine' d_gt ?_ ?_
 | refine' ydt ?_ ?_
 | refine' ZiR ?_ ?_
 | refine' Zoy ?_ ?_
 | refine' ZuC ?_ ?_
 | refine' d_or ?_ ?_
 | refine' ZqM hr ?_ ?_
 | refine' Zmo hr ?_ ?_
 | refine' dt_in hr ?_ ?_
 | refine' Zlu hr ?_ ?_
 | refine' ydu hr ?_ ?_
 | refine' d_ne hr ?_ ?_
 | refine' d_in hr ?_ ?_
 | refine' d_nin hr ?_ ?_
 | exact ydk rfl T.ydf ZpZ
 | exact ydk rfl T.ydg Zod
 | exact ydk rfl T.ycU ZiQ
 | exact ydk rfl T.ybQ Zd7
 | refine' yc3 (Zk9 rfl) Zk1 rfl T.ydn ZrN ?_
 | refine' yc3 Znp ZkL rfl T.ydm Zsb ?_
 | refine' yc3 ZlW Zlj rfl T.ycp Zhp ?_
 | refine' yc3 Ze5 Zhw rfl T.yc8 ZmB ?_
 | refine' yde Zmz Zlx rfl T.ydg Zod ?_
 | refine' yde ZhD Zky rfl T.ycU ZiQ ?_
 | refine' Zm6 T.f_colour ?_
 | refine' Zm6 T.f_part ?_
 | refine' Zm6 T.f_pattern ?_
 | refine' Zm6 T.f_triangle ?_
 | refine' ZsP ?_ ?_
 | refine' ZtY ?_ ?_
 | refine' ZuG ?_ ?_ ?_
 | refine' Zum ?_ ?_ ?_
 | refine' Zuw ?_
 | refine' Zgx ?_
 | refine' Zun ?_
 | refine' ZsB ?_
 | refine' Zmi ?_
 | refine' Zue ?_
 | refine' d_notN ?_
 | refine' ZoP ?_
 | refine' ZtK ?_
 | refine' Zgs ?_
 | refine' ZqD ?_
 | refine' Ze1 ?_
 | refine' DW.dt ?_
 | exact ZaK
 | exact ZlP
 | exact ds_retN
 | exact Zov
 | exact ds_brk
 | exact ds_pass
 | refine' Zaq ?_
 | refine' Zac ?_ ?_
 | refine' Zbw ?_
 | refine' Zco ?_ ?_ ?_
 | refine' ZeZ hN rfl (by first | exact Or.inl rfl | exact Or.inr rfl) ?_
 | refine' ZoJ hN rfl (by first | exact Or.inl rfl | exact Or.inr rfl) ?_ ?_
 | refine' Zof _ ?_
 | refine' Zsi ?_
 | refine' Zto ?_ ?_
 | refine' Zdo Vcr rfl ?_ ?_ ?_
 | exact ZgP hN rfl (by first | exact Or.inl rfl | exact Or.inr rfl) (by decide)
 | refine' Zog rfl ?_
 | refine' Zho ?_ ?_
 | refine' Zt6 rfl T.yc9 ?_
 | refine' Zbj ?_
 | refine' ZrI ?_
 | refine' ZjU rfl yb3 yb4 ?_ ?_
 | refine' ZjU rfl ycr ycs ?_ ?_
 | refine' ZjU rfl yb5 yb6 ?_ ?_
 | refine' ZjU rfl ybw ybx ?_ ?_
 | decide
 | fail)
local macro_rules | `(tactic| walk_at "co")=>`(tactic| exact Zci.of rfl rfl (by kernel_rfl) rfl (by repeat' (first | exact trivial | refine ⟨rfl,?_⟩)) (by repeat' (first | exact trivial | refine ⟨rfl,?_⟩)))
local macro_rules | `(tactic| walk_at "cg")=>`(tactic| exact fun _ _ _ _ _=>ZgP (by show List.Nodup ((_:List Str) ++ (_:List Str));decide +kernel) rfl (by first | exact Or.inl rfl | exact Or.inr rfl) (by decide))
local macro_rules | `(tactic| walk_at "ct")=>`(tactic| exact fun _ _ _ _ _=>Zo4)
local macro_rules | `(tactic| walk_at "ce")=>`(tactic| (intro _ _ _ _ _;walk_at "e"))
theorem ZfJ(T:Txt K mg)(D:Def K mg "_law_cell_at" Zcq ["_law_script", "_law_k"])  : Cal P w K mg base 1  "_law_cell_at" ["_law_script", "_law_k"] Zao:=by
 exact D.cal Zdc (fun f cdv A outer s H E hr=>have hN:=Zdc.nd;⟨_,(by walk_at "e")⟩)
theorem Zg4(T:Txt K mg)(D:Def K mg "_law_mixed" Zdh ["_law_cell", "_law_k"])  : Cal P w K mg base 1  "_law_mixed" ["_law_cell", "_law_k"] ZaZ:=by
 exact D.cal ZeA (fun f cdv A outer s H E hr=>have hN:=ZeA.nd;⟨_,(by walk_at "e")⟩)
theorem Zg1(T:Txt K mg)(D:Def K mg "_law_draws" Zdk ["_law_cell", "_law_many"])(yct:Cal P w K mg base 1  "_law_mixed" ["_law_cell", "_law_k"] ZaZ):Cal P w K mg base 2  "_law_draws" ["_law_cell", "_law_many"] Zax:=by
 exact D.cal Zes (fun f cdv A outer s H E hr=>have hN:=Zes.nd;⟨_,(Zaq (Zbw (Zb3 (own:=["_law_k"]) (cap:=[("_law_cell", 0)]) (by walk_at "e") (by walk_at "co") rfl (by walk_at "cg") (by walk_at "ct") (by walk_at "ce"))))⟩)
theorem ZdZ(T:Txt K mg)(D:Def K mg "greatest_divisor" Zbh ["numbers"])  : Cal P w K mg base 1  "greatest_divisor" ["numbers"] Zam:=by
 exact D.cal Zb7 (fun f cdv A outer s H E hr=>have hN:=Zb7.nd;⟨_,(Zac (by walk_at "e")
  (Zac (Zdo Vcr rfl (Zbj (d_v 0)) (by walk_at "e")
  (Zac (by walk_at "e")
  (Zaq (ZsJ Vcr (ZqM hr (d_v 3) ZeN)
  (by walk_at "e")))))
  (by walk_at "e")))⟩)
theorem Znl(T:Txt K mg)(D:Def K mg "ratio" Ziz ["top", "bottom"])(yby:Cal P w K mg base 1  "greatest_divisor" ["numbers"] Zam):Cal P w K mg base 2  "ratio" ["top", "bottom"] ZaF:=by
 exact D.cal ZjR (fun f cdv A outer s H E hr=>have hN:=ZjR.nd;⟨_,(by walk_at "e")⟩)
theorem ZhH(T:Txt K mg)(D:Def K mg "_law_mean" Zd3 ["_law_some"])(ybh:Cal P w K mg base 2  "ratio" ["top", "bottom"] ZaF):Cal P w K mg base 3  "_law_mean" ["_law_some"] Zcd:=by
 exact D.cal Ze2 (fun f cdv A outer s H E hr=>have hN:=Ze2.nd;⟨_,(by walk_at "e")⟩)
theorem ZdP{f:Addr}{fd:FuncData}(T:Txt K mg)(F:Fun K "colour_at" "Glass.colour_at" Zbl f fd)  : FnOk P w K mg base (CXR P w) 1 f fd ["self", "values"] (spD K mg 2 Zcl):=by
 exact okM F Zb6 (fun cdv A outer s H E hr=>have hN:=Zb6.nd;⟨_,(by walk_at "e")⟩)
theorem Zp7(T:Txt K mg)(D:Def K mg "down" ZkH ["one"])  : Cal P w K mg base 1  "down" ["one"] Zgq:=by
 exact D.cal Zmk (fun f cdv A outer s H E hr=>have hN:=Zmk.nd;⟨_,(by walk_at "e")⟩)
theorem Ziv(T:Txt K mg)(D:Def K mg "entry_at" ZeW ["pattern", "u", "v"])(c_down:Cal P w K mg base 1  "down" ["one"] Zgq):Cal P w K mg base 2  "entry_at" ["pattern", "u", "v"] Zcy:=by
 exact D.cal ZfB (fun f cdv A outer s H E hr=>have hN:=ZfB.nd;⟨_,(by walk_at "e")⟩)
theorem ZcY{f:Addr}{fd:FuncData}(T:Txt K mg)(F:Fun K "colour_at" "Patterned.colour_at" ZaW f fd)(c_entry_at:Cal P w K mg base 2  "entry_at" ["pattern", "u", "v"] Zcy):FnOk P w K mg base (CXR P w) 3 f fd ["self", "values"] (spD K mg 2 Zak):=by
 exact okM F Zbg (fun cdv A outer s H E hr=>have hN:=Zbg.nd;⟨_,(by walk_at "e")⟩)
theorem Zd4{f:Addr}{fd:FuncData}(T:Txt K mg)(F:Fun K "colour_at" "Plain.colour_at" Zbq f fd)  : FnOk P w K mg base (CXR P w) 1 f fd ["self", "values"] (spD K mg 2 Zbm):=by
 exact okM F Zb4 (fun cdv A outer s H E hr=>have hN:=Zb4.nd;⟨_,(by walk_at "e")⟩)
theorem Zdx{f:Addr}{fd:FuncData}(T:Txt K mg)(F:Fun K "colour_at" "Shaded.colour_at" Zbc f fd)  : FnOk P w K mg base (CXR P w) 1 f fd ["self", "values"] (spD K mg 2 Zbd):=by
 exact okM F ZbW (fun cdv A outer s H E hr=>have hN:=ZbW.nd;⟨_,(by walk_at "e")⟩)
theorem Zm9(T:Txt K mg)(D:Def K mg "minus" ZiK ["one", "other"])(ybh:Cal P w K mg base 2  "ratio" ["top", "bottom"] ZaF):Cal P w K mg base 3  "minus" ["one", "other"] ZeF:=by
 exact D.cal ZjJ (fun f cdv A outer s H E hr=>have hN:=ZjJ.nd;⟨_,(by walk_at "e")⟩)
theorem ZqU(T:Txt K mg)(D:Def K mg "plus" Zln ["one", "other"])(ybh:Cal P w K mg base 2  "ratio" ["top", "bottom"] ZaF):Cal P w K mg base 3  "plus" ["one", "other"] Zew:=by
 exact D.cal Zk5 (fun f cdv A outer s H E hr=>have hN:=Zk5.nd;⟨_,(by walk_at "e")⟩)
theorem Zkf(T:Txt K mg)(D:Def K mg "product" ZfX ["one", "other"])(ybh:Cal P w K mg base 2  "ratio" ["top", "bottom"] ZaF):Cal P w K mg base 3  "product" ["one", "other"] ZcB:=by
 exact D.cal ZgC (fun f cdv A outer s H E hr=>have hN:=ZgC.nd;⟨_,(by walk_at "e")⟩)
theorem Zif(T:Txt K mg)(D:Def K mg "laid_over" Zd2 ["glass", "colour"])(c_minus:Cal P w K mg base 3  "minus" ["one", "other"] ZeF)(ydh:Cal P w K mg base 3  "plus" ["one", "other"] Zew)(c_product:Cal P w K mg base 3  "product" ["one", "other"] ZcB):Cal P w K mg base 4  "laid_over" ["glass", "colour"] ZbC:=by
 exact D.cal Ze4 (fun f cdv A outer s H E hr=>have hN:=Ze4.nd;⟨_,(by walk_at "e")⟩)
theorem Zei{f:Addr}{fd:FuncData}(T:Txt K mg)(F:Fun K "is_glass" "Glass.is_glass" ZbF f fd)  : FnOk P w K mg base (CXR P w) 1 f fd ["self"] (spD K mg 1 ZbH):=by
 exact okM F Zce (fun cdv A outer s H E hr=>have hN:=Zce.nd;⟨_,(Zaq (Zbw yc7))⟩)
theorem Zen{f:Addr}{fd:FuncData}(T:Txt K mg)(F:Fun K "is_glass" "Thing.is_glass" Zbz f fd)  : FnOk P w K mg base (CXR P w) 1 f fd ["self"] (spD K mg 1 Zay):=by
 exact okM F Zck (fun cdv A outer s H E hr=>have hN:=Zck.nd;⟨_,(Zaq (Zbw yc7))⟩)
theorem Znb(T:Txt K mg)(D:Def K mg "under" Ziq ["one", "other"])  : Cal P w K mg base 1  "under" ["one", "other"] ZcK:=by
 exact D.cal Zi4 (fun f cdv A outer s H E hr=>have hN:=Zi4.nd;⟨_,(by walk_at "e")⟩)
theorem Zgo(T:Txt K mg)(D:Def K mg "layers_over" ZcO ["nearest", "sights"])(cm_is_glass:ZcA P w K mg base 1 0 "is_glass" Za1)(yda:Cal P w K mg base 1  "under" ["one", "other"] ZcK):Cal P w K mg base 2  "layers_over" ["nearest", "sights"] Za5:=by
 exact D.cal Zcp (fun f cdv A outer s H E hr=>have hN:=Zcp.nd;⟨_,(Zac (by walk_at "e")
  (Zac (Zdo Vcr rfl (Zbj (d_v 1)) (by walk_at "e")
  (Zaq (Zco (DW.dt (Zoy (Ze1 (ZlX cm_is_glass hr (by decide) ZaG (ydd (d_v 3) ZeN))) (by walk_at "e")))
  (Zac (ZeZ (i:=4) Zcp.nd rfl (Or.inl rfl) (ydv 2 (yc3 Ze5 Zhw rfl T.yc8 ZmB (Zas (Zb3 (own:=["layer"]) (cap:=[("sight", 3)]) (Zbj (d_v 2)) (by walk_at "co") rfl (by walk_at "cg") (fun _ _ _ _ _=>ZpY (by walk_at "e")) (fun _ _ _ _ _=>(d_v 0))) Za4))))
  (Zaq (ZrA 2 (d_v 4) (d_v 3))))
  ZaK)))
  (by walk_at "e")))⟩)
theorem Zhd(T:Txt K mg)(D:Def K mg "nearest_of" Zdl ["sights"])(cm_is_glass:ZcA P w K mg base 1 0 "is_glass" Za1)(yda:Cal P w K mg base 1  "under" ["one", "other"] ZcK):Cal P w K mg base 2  "nearest_of" ["sights"] ZbN:=by
 exact D.cal Zeq (fun f cdv A outer s H E hr=>have hN:=Zeq.nd;⟨_,(Zac (by walk_at "e")
  (Zac (Zdo Vcr rfl (Zbj (d_v 0)) (by walk_at "e")
  (Zac (Zco (Ze1 (ZlX cm_is_glass hr (by decide) ZaG (ydd (d_v 2) ZeN)))
  (Zaq Zov)
  ZaK)
  (by walk_at "e")))
  (by walk_at "e")))⟩)
theorem Zh1(T:Txt K mg)(D:Def K mg "colour_of" ZdU ["sights", "ground"])(cm_colour_at:ZcA P w K mg base 3 1 "colour_at" Za6)(c_laid_over:Cal P w K mg base 4  "laid_over" ["glass", "colour"] ZbC)(c_layers_over:Cal P w K mg base 2  "layers_over" ["nearest", "sights"] Za5)(c_nearest_of:Cal P w K mg base 2  "nearest_of" ["sights"] ZbN):Cal P w K mg base 5  "colour_of" ["sights", "ground"] Za0:=by
 exact D.cal Zc5 (fun f cdv A outer s H E hr=>have hN:=Zc5.nd;⟨_,(Zac (by walk_at "e")
  (Zac (by walk_at "e")
  (Zac (Zco (Zmi (d_v 2))
  (Zaq (ZeZ (i:=3) Zc5.nd rfl (Or.inl rfl) (ZsA cm_colour_at hr (by decide) ZaG (ydd (d_v 2) ZeN) (by walk_at "e"))))
  ZaK)
  (by walk_at "e"))))⟩)
theorem Zeo(T:Txt K mg)(D:Def K mg "summed_products" ZbI ["three", "other"])  : Cal P w K mg base 1  "summed_products" ["three", "other"] Zah:=by
 exact D.cal Zcj (fun f cdv A outer s H E hr=>have hN:=Zcj.nd;⟨_,(by walk_at "e")⟩)
theorem ZhZ(T:Txt K mg)(D:Def K mg "weighed_h" ZdQ ["triangle", "amounts"])(yag:Cal P w K mg base 1  "summed_products" ["three", "other"] Zah):Cal P w K mg base 2  "weighed_h" ["triangle", "amounts"] Zb1:=by
 exact D.cal Ze9 (fun f cdv A outer s H E hr=>have hN:=Ze9.nd;⟨_,(Zaq (Zbw (ZdD yag hr (by decide) rfl ZaG (Zas (Zb3 (own:=["corner"]) (cap:=[]) (Zbj (d_v 0)) (by walk_at "co") rfl (by walk_at "cg") (by walk_at "ct") (fun _ _ _ _ _=>(ydd (d_v 0) ZeN))) (Zas (d_v 1) Za4)))))⟩)
theorem Zd1(T:Txt K mg)(D:Def K mg "depth_and_values" Zbi ["triangle", "amounts"])(ybh:Cal P w K mg base 2  "ratio" ["top", "bottom"] ZaF)(yag:Cal P w K mg base 1  "summed_products" ["three", "other"] Zah)(c_weighed_h:Cal P w K mg base 2  "weighed_h" ["triangle", "amounts"] Zb1):Cal P w K mg base 3  "depth_and_values" ["triangle", "amounts"] ZaH:=by
 exact D.cal ZaP (fun f cdv A outer s H E hr=>have hN:=ZaP.nd;⟨_,(Zac (by walk_at "e")
  (Zac (ZeZ (i:=3) ZaP.nd rfl (Or.inl rfl) (ZdD ybh hr (by decide) rfl ZaG (Zas (ZdD yag hr (by decide) rfl ZaG (Zas (Zb3 (own:=["corner"]) (cap:=[]) (Zbj (d_v 0)) (by walk_at "co") rfl (by walk_at "cg") (by walk_at "ct") (fun _ _ _ _ _=>(ydd (d_v 0) ZeN))) (Zas (d_v 1) Za4))) (Zas (d_v 2) Za4))))
  (Zac (ZeZ (i:=4) ZaP.nd rfl (Or.inl rfl) (ydw rfl rfl T.ydp rfl T.ycU (by walk_at "e")))
  (Zaq (Zbw (ZsP (Zas (d_v 3) (Zas (yde ZbZ ZcP rfl T.ybQ Zd7 (Zas (Zb3 (own:=["three"]) (cap:=[("bottom", 2),("amounts", 1)]) (Zbj (d_v 4)) (by walk_at "co") rfl (by walk_at "cg") (by walk_at "ct") (by walk_at "ce")) Za4)) Za4))))))))⟩)
theorem ZdW(T:Txt K mg)(D:Def K mg "check_before_eye" Zbs ["corners"])  : Cal P w K mg base 1  "check_before_eye" ["corners"] Zan:=by
 obtain ⟨yb7,ybw,ybx⟩:=T.ybv
 exact D.cal Zca (fun f cdv A outer s H E hr=>have hN:=Zca.nd;⟨_,(by walk_at "e")⟩)
theorem Zgb(T:Txt K mg)(D:Def K mg "edge_numbers" Zct ["one", "other"])  : Cal P w K mg base 1  "edge_numbers" ["one", "other"] ZaM:=by
 exact D.cal Zdb (fun f cdv A outer s H E hr=>have hN:=Zdb.nd;⟨_,(by walk_at "e")⟩)
theorem ZpG(T:Txt K mg)(D:Def K mg "side" Zle ["one", "other", "point"])(yag:Cal P w K mg base 1  "summed_products" ["three", "other"] Zah)(ybW:Cal P w K mg base 1  "edge_numbers" ["one", "other"] ZaM):Cal P w K mg base 2  "side" ["one", "other", "point"] Zft:=by
 exact D.cal ZkO (fun f cdv A outer s H E hr=>have hN:=ZkO.nd;⟨_,(by walk_at "e")⟩)
theorem Ztf(T:Txt K mg)(D:Def K mg "had" ZpT ["triangle", "point"])(ybz:Cal P w K mg base 1  "check_before_eye" ["corners"] Zan)(c_side:Cal P w K mg base 2  "side" ["one", "other", "point"] Zft):Cal P w K mg base 3  "had" ["triangle", "point"] Zlk:=by
 exact D.cal Zor (fun f cdv A outer s H E hr=>have hN:=Zor.nd;⟨_,(by walk_at "e")⟩)
theorem ZiS(T:Txt K mg)(D:Def K mg "edge_sum" ZeV ["one", "other", "point"])(yag:Cal P w K mg base 1  "summed_products" ["three", "other"] Zah)(ybW:Cal P w K mg base 1  "edge_numbers" ["one", "other"] ZaM):Cal P w K mg base 2  "edge_sum" ["one", "other", "point"] ZbJ:=by
 exact D.cal Zfv (fun f cdv A outer s H E hr=>have hN:=Zfv.nd;⟨_,(by walk_at "e")⟩)
theorem Zj5(T:Txt K mg)(D:Def K mg "weights" Zfr ["triangle", "point"])(c_edge_sum:Cal P w K mg base 2  "edge_sum" ["one", "other", "point"] ZbJ):Cal P w K mg base 3  "weights" ["triangle", "point"] Zc8:=by
 exact D.cal Zgu (fun f cdv A outer s H E hr=>have hN:=Zgu.nd;⟨_,(by walk_at "e")⟩)
theorem Zku(T:Txt K mg)(D:Def K mg "seen_at" Zf2 ["triangle", "point"])(c_depth_and_values:Cal P w K mg base 3  "depth_and_values" ["triangle", "amounts"] ZaH)(c_had:Cal P w K mg base 3  "had" ["triangle", "point"] Zlk)(c_weights:Cal P w K mg base 3  "weights" ["triangle", "point"] Zc8):Cal P w K mg base 4  "seen_at" ["triangle", "point"] Zat:=by
 exact D.cal ZgN (fun f cdv A outer s H E hr=>have hN:=ZgN.nd;⟨_,(by walk_at "e")⟩)
theorem Zh5(T:Txt K mg)(D:Def K mg "sights_at" ZdT ["things", "p"])(c_seen_at:Cal P w K mg base 4  "seen_at" ["triangle", "point"] Zat):Cal P w K mg base 5  "sights_at" ["things", "p"] Za3:=by
 exact D.cal Ze3 (fun f cdv A outer s H E hr=>have hN:=Ze3.nd;⟨_,(by walk_at "e")⟩)
theorem Zgn(T:Txt K mg)(D:Def K mg "colour_seen" ZcT ["things", "p", "ground"])(ycG:Cal P w K mg base 5  "colour_of" ["sights", "ground"] Za0)(ycH:Cal P w K mg base 5  "sights_at" ["things", "p"] Za3):Cal P w K mg base 6  "colour_seen" ["things", "p", "ground"] Za8:=by
 exact D.cal ZdL (fun f cdv A outer s H E hr=>have hN:=ZdL.nd;⟨_,(by walk_at "e")⟩)
theorem ZiF(T:Txt K mg)(D:Def K mg "_law_due" ZeE ["_law_things_here", "_law_width", "_law_height", "_law_dots", "_law_base"])(ycI:Cal P w K mg base 3  "_law_mean" ["_law_some"] Zcd)(c_colour_seen:Cal P w K mg base 6  "colour_seen" ["things", "p", "ground"] Za8):Cal P w K mg base 7  "_law_due" ["_law_things_here", "_law_width", "_law_height", "_law_dots", "_law_base"] ZcH:=by
 exact D.cal ZdO (fun f cdv A outer s H E hr=>have hN:=ZdO.nd;⟨_,(Zac (by walk_at "e")
  (Zac (Zdo Vcr rfl (by walk_at "e") (by walk_at "e")
  (Zac (by walk_at "e")
  (Zac (Zdo Vcr rfl (by walk_at "e") (by walk_at "e")
  (Zac (ZiG (i:=9) ZdO.nd rfl (Or.inl rfl) (own:=["_law_dx", "_law_dy"]) (cap:=[("_law_row", 6),("_law_column", 8)]) (Zbj (d_v 3)) (by walk_at "co") rfl (fun _ _ _ _ _=>(Zog rfl (Zho (ZgP (i:=0) (show List.Nodup (["_law_dx", "_law_dy", "_law_row", "_law_column"]:List Str) by decide +kernel) rfl (Or.inl rfl) (by decide)) (Zho (ZgP (i:=1) (show List.Nodup (["_law_dx", "_law_dy", "_law_row", "_law_column"]:List Str) by decide +kernel) rfl (Or.inl rfl) (by decide)) ZlP)))) (by walk_at "ct") (by walk_at "ce"))
  (Zaq (Zof 7 (ZdD ycI hr (by decide) rfl ZaG (Zas (ZlD ⟨rfl,rfl,rfl,rfl⟩ (own:=["_law_point"]) (cap:=[("_law_things_here", 0),("_law_base", 4)]) (Zbj (d_v 9)) (by walk_at "co") rfl (by walk_at "cg") (by walk_at "ct") (by walk_at "ce")) Za4))))))
  (by walk_at "e"))))
  (by walk_at "e")))⟩)
theorem ZiY(T:Txt K mg)(D:Def K mg "is_whole" ZeK ["thing"])  : Cal P w K mg base 1  "is_whole" ["thing"] ZaB:=by
 exact D.cal ZfG (fun f cdv A outer s H E hr=>have hN:=ZfG.nd;⟨_,(by walk_at "e")⟩)
theorem Zhb(T:Txt K mg)(D:Def K mg "is_between" Zdp ["thing", "least", "most"])(ybF:Cal P w K mg base 1  "is_whole" ["thing"] ZaB):Cal P w K mg base 2  "is_between" ["thing", "least", "most"] ZaI:=by
 exact D.cal Zec (fun f cdv A outer s H E hr=>have hN:=Zec.nd;⟨_,(by walk_at "e")⟩)
theorem Zgg(T:Txt K mg)(D:Def K mg "check_floor" Zc0 ["width", "height"])(ybi:Cal P w K mg base 2  "is_between" ["thing", "least", "most"] ZaI):Cal P w K mg base 3  "check_floor" ["width", "height"] Zbk:=by
 obtain ⟨ycO,yb3,yb4⟩:=T.yb1
 obtain ⟨tk_MOST_CELLS,yaU⟩:=T.yaU
 exact D.cal ZdE (fun f cdv A outer s H E hr=>have hN:=ZdE.nd;⟨_,(Zaq (Zco (DW.dt (ZiR (Zgx (Ze1 (ZdD ybi hr (by decide) rfl ZaG (Zas (d_v 0) (Zas ZeN (Zas (ydl rfl yaU) Za4)))))) (Zgs (Zgx (Ze1 (ZdD ybi hr (by decide) rfl ZaG (Zas (d_v 1) (Zas ZeN (Zas (ydl rfl yaU) Za4)))))))))
  (by walk_at "e")
  ZaK))⟩)
theorem ZeY(T:Txt K mg)(D:Def K mg "ground_or_none" ZbV ["ground"])  : Cal P w K mg base 1  "ground_or_none" ["ground"] ZaT:=by
 exact D.cal ZcG (fun f cdv A outer s H E hr=>have hN:=ZcG.nd;⟨_,(by walk_at "e")⟩)
theorem ZkA(T:Txt K mg)(D:Def K mg "mean_of" ZfQ ["some"])(ybh:Cal P w K mg base 2  "ratio" ["top", "bottom"] ZaF)(ydh:Cal P w K mg base 3  "plus" ["one", "other"] Zew):Cal P w K mg base 4  "mean_of" ["some"] Zda:=by
 exact D.cal ZgE (fun f cdv A outer s H E hr=>have hN:=ZgE.nd;⟨_,(by walk_at "e")⟩)
theorem Zgl(T:Txt K mg)(D:Def K mg "cell_colour" ZcL ["sights_by_spot", "ground"])(ycG:Cal P w K mg base 5  "colour_of" ["sights", "ground"] Za0)(ycV:Cal P w K mg base 4  "mean_of" ["some"] Zda):Cal P w K mg base 6  "cell_colour" ["sights_by_spot", "ground"] Zbf:=by
 exact D.cal ZdF (fun f cdv A outer s H E hr=>have hN:=ZdF.nd;⟨_,(Zaq (Zbw (ZdD ycV hr (by decide) rfl ZaG (Zas (Zb3 (own:=["sights"]) (cap:=[("ground", 1)]) (Zbj (d_v 0)) (by walk_at "co") rfl (by walk_at "cg") (by walk_at "ct") (by walk_at "ce")) Za4))))⟩)
theorem Zkj(T:Txt K mg)(D:Def K mg "spot_at" ZfR ["column", "row", "spot"])  : Cal P w K mg base 1  "spot_at" ["column", "row", "spot"] Zee:=by
 exact D.cal ZgM (fun f cdv A outer s H E hr=>have hN:=ZgM.nd;⟨_,(by walk_at "e")⟩)
theorem Zh6(T:Txt K mg)(D:Def K mg "sights_in" ZdN ["things", "column", "row", "spots"])(ycH:Cal P w K mg base 5  "sights_at" ["things", "p"] Za3)(c_spot_at:Cal P w K mg base 1  "spot_at" ["column", "row", "spot"] Zee):Cal P w K mg base 6  "sights_in" ["things", "column", "row", "spots"] Zcc:=by
 exact D.cal Zfb (fun f cdv A outer s H E hr=>have hN:=Zfb.nd;⟨_,(Zaq (Zbw (ZlD ⟨rfl,rfl,rfl,rfl⟩ (own:=["spot"]) (cap:=[("things", 0),("row", 2),("column", 1)]) (Zbj (d_v 3)) (by walk_at "co") rfl (by walk_at "cg") (by walk_at "ct") (by walk_at "ce"))))⟩)
theorem Zgj(T:Txt K mg)(D:Def K mg "painted_row" ZcQ ["things", "width", "row", "spots", "ground"])(c_cell_colour:Cal P w K mg base 6  "cell_colour" ["sights_by_spot", "ground"] Zbf)(c_sights_in:Cal P w K mg base 6  "sights_in" ["things", "column", "row", "spots"] Zcc):CalO P w K mg base 7  "painted_row" ["things", "width", "row", "spots", "ground"] ZbY:=by
 exact D.calO ZdH (fun f cdv A outer s H E hr=>have hN:=ZdH.nd;⟨_,(ZmM (own:=["column"]) (cap:=[("things", 0),("spots", 3),("row", 2),("ground", 4)]) (by walk_at "e") (by walk_at "co") rfl (by walk_at "cg") (by walk_at "ct") (by walk_at "ce"))⟩)
theorem Zj1(T:Txt K mg)(D:Def K mg "is_spot" ZfM ["thing"])(ybi:Cal P w K mg base 2  "is_between" ["thing", "least", "most"] ZaI):Cal P w K mg base 3  "is_spot" ["thing"] Zc9:=by
 exact D.cal Zgz (fun f cdv A outer s H E hr=>have hN:=Zgz.nd;⟨_,(by walk_at "e")⟩)
theorem Zgk(T:Txt K mg)(D:Def K mg "check_spots" ZcZ ["spots"])(c_is_spot:Cal P w K mg base 3  "is_spot" ["thing"] Zc9):Cal P w K mg base 4  "check_spots" ["spots"] Zbp:=by
 obtain ⟨ycO,yb3,yb4⟩:=T.yb1
 obtain ⟨tk_MOST_SPOTS,ybg⟩:=T.ybg
 exact D.cal ZdK (fun f cdv A outer s H E hr=>have hN:=ZdK.nd;⟨_,(Zac (Zco (DW.dt (ZiR (by walk_at "e") (ZiR (by walk_at "e") (Zgs (Zq5 (by walk_at "e") (ydl rfl ybg))))))
  (by walk_at "e")
  ZaK)
  (Zac (Zco (Zgx (Ze1 (yc3 (Zd9 rfl) Zez rfl T.yc4 Zjp (Zas (Zb3 (own:=["spot"]) (cap:=[]) (Zbj (d_v 0)) (by walk_at "co") rfl (by walk_at "cg") (by walk_at "ct") (by walk_at "ce")) Za4))))
  (by walk_at "e")
  ZaK)
  (Zaq (Zco (ZqM hr (ZnK hr rfl T.yc8 rfl T.ydo (d_v 0)) (by walk_at "e"))
  (by walk_at "e")
  ZaK))))⟩)
theorem ZeD(T:Txt K mg)(D:Def K mg "spots_or_middle" ZbA ["spots"])(c_check_spots:Cal P w K mg base 4  "check_spots" ["spots"] Zbp):Cal P w K mg base 5  "spots_or_middle" ["spots"] Zap:=by
 exact D.cal Zch (fun f cdv A outer s H E hr=>have hN:=Zch.nd;⟨_,(by walk_at "e")⟩)
theorem Zm5{f:Addr}{fd:FuncData}{dV:Value}(T:Txt K mg)(F:FunD K "paint" "paint" ZcU dV f fd)(c_check_floor:Cal P w K mg base 3  "check_floor" ["width", "height"] Zbk)(c_ground_or_none:Cal P w K mg base 1  "ground_or_none" ["ground"] ZaT)(co_painted_row:CalO P w K mg base 7  "painted_row" ["things", "width", "row", "spots", "ground"] ZbY)(c_spots_or_middle:Cal P w K mg base 5  "spots_or_middle" ["spots"] Zap):FnOk P w K mg base (CXR P w) 8 f fd ["things", "width", "height", "spots", "ground"] (spR K mg 5 Za9):=by
 exact okRF F Zjh (fun cdv A outer s H E hr=>have hN:=Zjh.nd;⟨_,(Zhl (by walk_at "e")
  (Zhl (by walk_at "e")
  (Zhl (by walk_at "e")
  (ZmK (own:=["row"]) (cap:=[("width", 1),("things", 0),("places", 5),("beneath", 6)]) (by walk_at "e") (by walk_at "co") rfl (by walk_at "cg") (by walk_at "ct") (fun _ _ _ _ _=>(ZnY co_painted_row hr (by decide) rfl (by walk_at "e")))))))⟩)
theorem Zfu(T:Txt K mg)(D:Def K mg "_law_painted" Zcr ["_law_things_here", "_law_width", "_law_height", "_law_dots", "_law_base", "_law_way"])(cr_paint:CalR P w K mg base 8 "paint" ["things", "width", "height", "spots", "ground"] Za9)(ycP:Zj2 P w K mg base 8 "paint" ["things", "width", "height", "spots", "ground"] [] [none,none] Za9)(yba:Zj2 P w K mg base 8 "paint" ["things", "width", "height", "spots", "ground"] ["ground", "spots"] [some 1,some 0] Za9):CalR P w K mg base 9  "_law_painted" ["_law_things_here", "_law_width", "_law_height", "_law_dots", "_law_base", "_law_way"] Zba:=by
 exact D.calR Zdj (fun f cdv A outer s H E hr=>have hN:=Zdj.nd;⟨_,(Zn6 (by walk_at "e")
  (ZiT (ZnL ycP hr (by decide) rfl ZaG (by walk_at "e")))
  (Zn6 (Zmo hr (d_v 5) ZeN)
  (ZiT (ZmG yba hr (by decide) rfl ZaG (by walk_at "e") (Zml (d_v 4) (Zml (d_v 3) ZsV))))
  (ZiT (Zmf cr_paint hr (by decide) rfl ZaG (by walk_at "e")))))⟩)
theorem ZgV(T:Txt K mg)(D:Def K mg "_law_spots" Zdm ["_law_cell"])(ybj:Cal P w K mg base 2  "_law_draws" ["_law_cell", "_law_many"] Zax):Cal P w K mg base 3  "_law_spots" ["_law_cell"] ZbR:=by
 exact D.cal ZeC (fun f cdv A outer s H E hr=>have hN:=ZeC.nd;⟨_,(Zac (by walk_at "e")
  (Zac (by walk_at "e")
  (Zac (Zdo Vcr rfl (by walk_at "e") (by walk_at "e")
  (Zac (by walk_at "e")
  (Zac (by walk_at "e")
  (Zaq (Zco (Zuf 2 (by walk_at "e"))
  (by walk_at "e")
  ZaK)))))
  (by walk_at "e"))))⟩)
theorem Zg8(T:Txt K mg)(D:Def K mg "are_values" Zde ["thing"])(ybF:Cal P w K mg base 1  "is_whole" ["thing"] ZaB):Cal P w K mg base 2  "are_values" ["thing"] ZbQ:=by
 obtain ⟨tk_MOST_VALUES,ya9⟩:=T.ya9
 exact D.cal Zev (fun f cdv A outer s H E hr=>have hN:=Zev.nd;⟨_,(Zac (Zco (DW.dt (ZiR (by walk_at "e") (Zgs (Zq5 (by walk_at "e") (ydl rfl ya9)))))
  (Zaq (Zbw yc7))
  ZaK)
  (Zaq (Zbw (yc3 (Zd9 rfl) Zez rfl T.yc4 Zjp (Zas (Zb3 (own:=["number"]) (cap:=[]) (Zbj (d_v 0)) (by walk_at "co") rfl (by walk_at "cg") (by walk_at "ct") (by walk_at "ce")) Za4)))))⟩)
theorem ZhA(T:Txt K mg)(D:Def K mg "is_corner" ZdV ["thing"])(ybF:Cal P w K mg base 1  "is_whole" ["thing"] ZaB)(c_are_values:Cal P w K mg base 2  "are_values" ["thing"] ZbQ):Cal P w K mg base 3  "is_corner" ["thing"] Zb5:=by
 exact D.cal Ze7 (fun f cdv A outer s H E hr=>have hN:=Ze7.nd;⟨_,(Zac (by walk_at "e")
  (Zac (Zco (Zgx (Ze1 (yc3 (Zd9 rfl) Zez rfl T.yc4 Zjp (Zas (Zb3 (own:=["number"]) (cap:=[]) (by walk_at "e") (by walk_at "co") rfl (by walk_at "cg") (by walk_at "ct") (by walk_at "ce")) Za4))))
  (Zaq (Zbw yc7))
  ZaK)
  (by walk_at "e")))⟩)
theorem ZeO(T:Txt K mg)(D:Def K mg "check_triangle" ZbT ["triangle"])(c_is_corner:Cal P w K mg base 3  "is_corner" ["thing"] Zb5):Cal P w K mg base 4  "check_triangle" ["triangle"] ZaS:=by
 obtain ⟨yb7,ybw,ybx⟩:=T.ybv
 exact D.cal ZcE (fun f cdv A outer s H E hr=>have hN:=ZcE.nd;⟨_,(by walk_at "e")⟩)
theorem Znm{f:Addr}{fd:FuncData}(T:Txt K mg)(F:Fun K "__init__" "Thing.__init__" Zby f fd)(ybz:Cal P w K mg base 1  "check_before_eye" ["corners"] Zan)(c_check_triangle:Cal P w K mg base 4  "check_triangle" ["triangle"] ZaS):FnOk P w K mg base (CXR P w) 5 f fd ["self", "triangle"] (spI K mg 1 objs ZbS):=by
 exact okI F Zcm (by decide) rfl (fun cdv A outer s H E hr=>have hN:=Zcm.nd;⟨_,(Zfc (by walk_at "e")
  (Zfc (by walk_at "e")
  (Zia T.f_triangle (d_v 1)
  ZhI)))⟩)
theorem Zgi(T:Txt K mg)(D:Def K mg "is_fraction" ZcJ ["thing"])(yby:Cal P w K mg base 1  "greatest_divisor" ["numbers"] Zam)(ybF:Cal P w K mg base 1  "is_whole" ["thing"] ZaB):Cal P w K mg base 2  "is_fraction" ["thing"] ZaE:=by
 exact D.cal ZdB (fun f cdv A outer s H E hr=>have hN:=ZdB.nd;⟨_,(by walk_at "e")⟩)
theorem ZfD(T:Txt K mg)(D:Def K mg "check_colour" Zcv ["colour"])(ybA:Cal P w K mg base 2  "is_fraction" ["thing"] ZaE):Cal P w K mg base 3  "check_colour" ["colour"] ZaL:=by
 obtain ⟨ycQ,yb5,yb6⟩:=T.yb2
 exact D.cal Zdi (fun f cdv A outer s H E hr=>have hN:=Zdi.nd;⟨_,(by walk_at "e")⟩)
theorem Zhm(T:Txt K mg)(D:Def K mg "check_part" Zdg ["part"])(ybA:Cal P w K mg base 2  "is_fraction" ["thing"] ZaE):Cal P w K mg base 3  "check_part" ["part"] ZbP:=by
 obtain ⟨ycQ,yb5,yb6⟩:=T.yb2
 exact D.cal Zed (fun f cdv A outer s H E hr=>have hN:=Zed.nd;⟨_,(by walk_at "e")⟩)
theorem ZmI{f:Addr}{fd:FuncData}(T:Txt K mg)(F:Fun K "__init__" "Glass.__init__" ZbG f fd)(ybb:CalS P w K mg base 5 "Thing" "__init__" 1 objs ZbS)(ybX:Cal P w K mg base 3  "check_colour" ["colour"] ZaL)(c_check_part:Cal P w K mg base 3  "check_part" ["part"] ZbP):FnOk P w K mg base (CXR P w) 7 f fd ["self", "triangle", "colour", "part"] (spI K mg 3 objs ZeG):=by
 exact okI F Zcg (by decide) rfl (fun cdv A outer s H E hr=>have hN:=Zcg.nd;⟨_,(ZjG ybb hr (by decide) rfl ZaG (fun _ h=>h) (Zas (d_v 1) Za4)
  (Zfc (by walk_at "e")
  (Zfc (by walk_at "e")
  (Zia T.f_colour (d_v 2)
  (Zia T.f_part (d_v 3)
  ZhI)))))⟩)
theorem Zfg(T:Txt K mg)(D:Def K mg "check_pattern" Zb8 ["pattern"])(ybA:Cal P w K mg base 2  "is_fraction" ["thing"] ZaE):Cal P w K mg base 3  "check_pattern" ["pattern"] ZaO:=by
 obtain ⟨C_BadPattern,ycr,ycs⟩:=T.ycq
 obtain ⟨ga_COUNTS,go_COUNTS,gi_COUNTS,gn_COUNTS,ycu,ycv,ycw,ycx,ycy,ycz⟩:=T.t_COUNTS
 exact D.cal Zc2 (fun f cdv A outer s H E hr=>have hN:=Zc2.nd;⟨_,(Zac (Zco (DW.dt (ZiR (by walk_at "e") (Zgs (Zlu hr (by walk_at "e") (Zox (ns:=[1,2,4,8,16]) rfl ycu ycv ycw ycx ycy ycz)))))
  (by walk_at "e")
  ZaK)
  (Zaq (Zdo Vcr rfl (Zbj (d_v 0)) (by walk_at "e")
  (Zac (Zco (DW.dt (ZiR (by walk_at "e") (Zgs (Zlu hr (by walk_at "e") (Zox (ns:=[1,2,4,8,16]) rfl ycu ycv ycw ycx ycy ycz)))))
  (by walk_at "e")
  ZaK)
  (Zac (by walk_at "e")
  (Zaq (Zco (Zgx (Ze1 (yc3 (Zd9 rfl) Zez rfl T.yc4 Zjp (Zas (Zb3 (own:=["entry"]) (cap:=[]) (Zbj (d_v 1)) (by walk_at "co") rfl (by walk_at "cg") (by walk_at "ct") (by walk_at "ce")) Za4))))
  (by walk_at "e")
  ZaK)))))))⟩)
theorem ZfN(T:Txt K mg)(D:Def K mg "check_values" Zcw ["triangle", "least"])  : Cal P w K mg base 1  "check_values" ["triangle", "least"] ZaJ:=by
 exact D.cal Zdn (fun f cdv A outer s H E hr=>have hN:=Zdn.nd;⟨_,(Zaq (Zco (by walk_at "e")
  Zpv
  ZaK))⟩)
theorem Zlz(T:Txt K mg)(D:Def K mg "copied" ZgT ["pattern"])  : Cal P w K mg base 1  "copied" ["pattern"] Zdt:=by
 exact D.cal ZhM (fun f cdv A outer s H E hr=>have hN:=ZhM.nd;⟨_,(Zaq (Zbw (Zb3 (own:=["row"]) (cap:=[]) (Zbj (d_v 0)) (by walk_at "co") rfl (by walk_at "cg") (by walk_at "ct") (by walk_at "ce"))))⟩)
theorem ZhV{f:Addr}{fd:FuncData}(T:Txt K mg)(F:Fun K "__init__" "Patterned.__init__" Za2 f fd)(ybb:CalS P w K mg base 5 "Thing" "__init__" 1 objs ZbS)(c_check_pattern:Cal P w K mg base 3  "check_pattern" ["pattern"] ZaO)(ybY:Cal P w K mg base 1  "check_values" ["triangle", "least"] ZaJ)(c_copied:Cal P w K mg base 1  "copied" ["pattern"] Zdt):FnOk P w K mg base (CXR P w) 7 f fd ["self", "triangle", "pattern"] (spI K mg 2 objs ZbD):=by
 exact okI F Zbx (by decide) rfl (fun cdv A outer s H E hr=>have hN:=Zbx.nd;⟨_,(ZjG ybb hr (by decide) rfl ZaG (fun _ h=>h) (Zas (d_v 1) Za4)
  (Zfc (by walk_at "e")
  (Zfc (by walk_at "e")
  (Zia T.f_pattern (by walk_at "e")
  ZhI))))⟩)
theorem ZmS{f:Addr}{fd:FuncData}(T:Txt K mg)(F:Fun K "__init__" "Plain.__init__" ZbB f fd)(ybb:CalS P w K mg base 5 "Thing" "__init__" 1 objs ZbS)(ybX:Cal P w K mg base 3  "check_colour" ["colour"] ZaL):FnOk P w K mg base (CXR P w) 7 f fd ["self", "triangle", "colour"] (spI K mg 2 objs ZeS):=by
 exact okI F Zcn (by decide) rfl (fun cdv A outer s H E hr=>have hN:=Zcn.nd;⟨_,(ZjG ybb hr (by decide) rfl ZaG (fun _ h=>h) (Zas (d_v 1) Za4)
  (Zfc (by walk_at "e")
  (Zia T.f_colour (d_v 2)
  ZhI)))⟩)
theorem ZlK{f:Addr}{fd:FuncData}(T:Txt K mg)(F:Fun K "__init__" "Shaded.__init__" Zbu f fd)(ybb:CalS P w K mg base 5 "Thing" "__init__" 1 objs ZbS)(ybY:Cal P w K mg base 1  "check_values" ["triangle", "least"] ZaJ):FnOk P w K mg base (CXR P w) 7 f fd ["self", "triangle"] (spI K mg 1 objs Zdw):=by
 exact okI F Zcb (by decide) rfl (fun cdv A outer s H E hr=>have hN:=Zcb.nd;⟨_,(ZjG ybb hr (by decide) rfl ZaG (fun _ h=>h) (Zas (d_v 1) Za4)
  (Zfc (by walk_at "e")
  ZhI))⟩)
theorem Zfs(T:Txt K mg)(D:Def K mg "_law_pattern" Zcx ["_law_number", "_law_more"])(yct:Cal P w K mg base 1  "_law_mixed" ["_law_cell", "_law_k"] ZaZ)(ybh:Cal P w K mg base 2  "ratio" ["top", "bottom"] ZaF):Cal P w K mg base 3  "_law_pattern" ["_law_number", "_law_more"] Zbb:=by
 exact D.cal Zc7 (fun f cdv A outer s H E hr=>have hN:=Zc7.nd;⟨_,(by walk_at "e")⟩)
theorem ZgW(T:Txt K mg)(D:Def K mg "_law_thing" Zc4 ["_law_draws_here", "_law_triangle"])(ybh:Cal P w K mg base 2  "ratio" ["top", "bottom"] ZaF)(ci_Glass:CalI P w K mg base 7 "Glass" 3 objs ZeG)(ci_Patterned:CalI P w K mg base 7 "Patterned" 2 objs ZbD)(ci_Plain:CalI P w K mg base 7 "Plain" 2 objs ZeS)(ci_Shaded:CalI P w K mg base 7 "Shaded" 1 objs Zdw)(c__law_pattern:Cal P w K mg base 3  "_law_pattern" ["_law_number", "_law_more"] Zbb):Cal P w K mg base 9  "_law_thing" ["_law_draws_here", "_law_triangle"] ZbO:=by
 exact D.cal Zex (fun f cdv A outer s H E hr=>have hN:=Zex.nd;⟨_,(Zac (by walk_at "e")
  (Zac (by walk_at "e")
  (Zac (by walk_at "e")
  (Zac (by walk_at "e")
  (Zac (Zco (Zmo hr (d_v 7) ZeN)
  (Zac (by walk_at "e")
  (Zaq (Zbw (Zjx ci_Shaded hr (by decide) rfl ZaG (Zas (yde ZbZ ZcP rfl T.ybQ Zd7 (Zas (Zb3 (own:=["_law_corner_here"]) (cap:=[("_law_few", 8)]) (Zbj (d_v 1)) (by walk_at "co") rfl (by walk_at "cg") (by walk_at "ct") (by walk_at "ce")) Za4)) Za4)))))
  ZaK)
  (Zac (Zco (Zmo hr (d_v 7) ZeN)
  (Zaq (Zbw (Zjx ci_Patterned hr (by decide) rfl ZaG (by walk_at "e"))))
  ZaK)
  (Zac (Zco (Zmo hr (d_v 7) ZeN)
  (Zaq (Zbw (Zjx ci_Plain hr (by decide) rfl ZaG (by walk_at "e"))))
  ZaK)
  (Zac (by walk_at "e")
  (Zaq (Zbw (Zjx ci_Glass hr (by decide) rfl ZaG (by walk_at "e"))))))))))))⟩)
theorem Zge(T:Txt K mg)(D:Def K mg "_law_corner" ZcW ["_law_draws_here", "_law_many"])  : Cal P w K mg base 1  "_law_corner" ["_law_draws_here", "_law_many"] Za7:=by
 exact D.cal ZbK (fun f cdv A outer s H E hr=>have hN:=ZbK.nd;⟨_,(Zac (by walk_at "e")
  (Zac (by walk_at "e")
  (Zac (by walk_at "e")
  (Zac (by walk_at "e")
  (Zac (by walk_at "e")
  (Zac (by walk_at "e")
  (Zac (by walk_at "e")
  (Zac (ZeZ (i:=10) ZbK.nd rfl (Or.inl rfl) (yde ZbZ ZcP rfl T.ybQ Zd7 (Zas (Zb3 (own:=["_law_j"]) (cap:=[("_law_draws_here", 0)]) (by walk_at "e") (by walk_at "co") rfl (by walk_at "cg") (by walk_at "ct") (by walk_at "ce")) Za4)))
  (Zac (Zco (by walk_at "e")
  (Zac (by walk_at "e")
  (Zac (by walk_at "e")
  (Zac (by walk_at "e")
  (Zac (by walk_at "e")
  (Zaq (ZeZ (i:=10) ZbK.nd rfl (Or.inl rfl) (yde ZbZ ZcP rfl T.ybQ Zd7 (Zas (Zb3 (own:=["_law_j"]) (cap:=[("_law_draws_here", 0)]) (by walk_at "e") (by walk_at "co") rfl (by walk_at "cg") (by walk_at "ct") (by walk_at "ce")) Za4))))))))
  ZaK)
  (by walk_at "e"))))))))))⟩)
theorem ZeH(T:Txt K mg)(D:Def K mg "_law_triangles" ZbU ["_law_script", "_law_first", "_law_most", "_law_many"])(ybq:Cal P w K mg base 1  "_law_cell_at" ["_law_script", "_law_k"] Zao)(ybj:Cal P w K mg base 2  "_law_draws" ["_law_cell", "_law_many"] Zax)(c__law_corner:Cal P w K mg base 1  "_law_corner" ["_law_draws_here", "_law_many"] Za7):Cal P w K mg base 3  "_law_triangles" ["_law_script", "_law_first", "_law_most", "_law_many"] ZaU:=by
 exact D.cal ZaN (fun f cdv A outer s H E hr=>have hN:=ZaN.nd;⟨_,(Zac (by walk_at "e")
  (Zac (ZeZ (i:=5) ZaN.nd rfl (Or.inr rfl) (Zb3 (own:=["_law_k"]) (cap:=[("_law_size", 4),("_law_script", 0),("_law_first", 1)]) (by walk_at "e") (by walk_at "co") rfl (by walk_at "cg") (by walk_at "ct") (by walk_at "ce")))
  (Zac (ZiG (i:=6) ZaN.nd rfl (Or.inl rfl) (own:=["_law_row"]) (cap:=[("_law_size", 4),("_law_many", 3)]) (Zbj (d_v 5)) (by walk_at "co") rfl (by walk_at "cg") (by walk_at "ct") (by walk_at "ce"))
  (Zac (by walk_at "e")
  (Zac (by walk_at "e")
  (Zac (Zdo Vcr rfl (by walk_at "e") (by walk_at "e")
  (Zac (by walk_at "e")
  (Zac (by walk_at "e")
  (Zac (Zco (by walk_at "e")
  (Zaq (ZiG (i:=11) ZaN.nd rfl (Or.inl rfl) (own:=["_law_j"]) (cap:=[("_law_size", 4),("_law_rows", 5),("_law_many", 3),("_law_k", 9)]) (by walk_at "e") (by walk_at "co") rfl (by walk_at "cg") (by walk_at "ct") (by walk_at "ce")))
  ZaK)
  (by walk_at "e")))))
  (by walk_at "e")))))))⟩)
theorem Zgh(T:Txt K mg)(D:Def K mg "_law_things" ZcS ["_law_script", "_law_first", "_law_most"])(ybq:Cal P w K mg base 1  "_law_cell_at" ["_law_script", "_law_k"] Zao)(ybj:Cal P w K mg base 2  "_law_draws" ["_law_cell", "_law_many"] Zax)(c__law_thing:Cal P w K mg base 9  "_law_thing" ["_law_draws_here", "_law_triangle"] ZbO)(c__law_triangles:Cal P w K mg base 3  "_law_triangles" ["_law_script", "_law_first", "_law_most", "_law_many"] ZaU):Cal P w K mg base 10  "_law_things" ["_law_script", "_law_first", "_law_most"] Zbt:=by
 exact D.cal ZdJ (fun f cdv A outer s H E hr=>have hN:=ZdJ.nd;⟨_,(Zac (by walk_at "e")
  (Zac (by walk_at "e")
  (Zac (by walk_at "e")
  (Zac (Zdo Vcr rfl (ZhR rfl T.ycF (by walk_at "e")) (by walk_at "e")
  (by walk_at "e"))
  (by walk_at "e")))))⟩)
theorem ZrB{f:Addr}{fd:FuncData}(T:Txt K mg)(F:Fun K "law" "law" Zg7 f fd)(ybq:Cal P w K mg base 1  "_law_cell_at" ["_law_script", "_law_k"] Zao)(ybj:Cal P w K mg base 2  "_law_draws" ["_law_cell", "_law_many"] Zax)(c__law_due:Cal P w K mg base 7  "_law_due" ["_law_things_here", "_law_width", "_law_height", "_law_dots", "_law_base"] ZcH)(cr__law_painted:CalR P w K mg base 9 "_law_painted" ["_law_things_here", "_law_width", "_law_height", "_law_dots", "_law_base", "_law_way"] Zba)(c__law_spots:Cal P w K mg base 3  "_law_spots" ["_law_cell"] ZbR)(c__law_things:Cal P w K mg base 10  "_law_things" ["_law_script", "_law_first", "_law_most"] Zbt):FnOk P w K mg base (CXR P w) 11 f fd ["_law_script"] (spD K mg 1 Zpo):=by
 exact okD F ZjL (fun cdv A outer s H E hr=>have hN:=ZjL.nd;⟨_,(Zac (by walk_at "e")
  (Zac (by walk_at "e")
  (Zac (by walk_at "e")
  (Zac (by walk_at "e")
  (Zac (by walk_at "e")
  (Zac (by walk_at "e")
  (Zac (by walk_at "e")
  (Zac (Zco (by walk_at "e")
  (Zaq (Zr9 (i:=4) (j:=5) rfl ZjL.nd rfl rfl (by decide) rfl rfl (by walk_at "e") (by walk_at "e")))
  (by walk_at "e"))
  (Zac (by walk_at "e")
  (Zac (by walk_at "e")
  (Zac (by walk_at "e")
  (Zac (by walk_at "e")
  (Zac (by walk_at "e")
  (Zac (Zdo Vcr rfl (by walk_at "e") (by walk_at "e")
  (Zkh (i:=13) ZjL.nd rfl (Or.inl rfl) (Zmf cr__law_painted hr (by decide) rfl ZaG (by walk_at "e")) (by walk_at "e")
  (Zaq (Zbw yc7))
  (by walk_at "e")
  ZaK))
  (Zaq (Zbw yc7))))))))))))))))⟩)
end
theorem ln1{P:List Value→Prop}(q:∀a,P [a]):∀us,us.length=1→P us:=by intro us h;rcases us with _|⟨a,_|_⟩<;>first | exact q _ | cases h
theorem ln2{P:List Value→Prop}(q:∀a b,P [a,b]):∀us,us.length=2→P us:=by intro us h;rcases us with _|⟨a,_|⟨b,_|_⟩⟩<;>first | exact q _ _ | cases h
theorem ln3{P:List Value→Prop}(q:∀a b c,P [a,b,c]):∀us,us.length=3→P us:=by intro us h;rcases us with _|⟨a,_|⟨b,_|⟨c,_|_⟩⟩⟩<;>first | exact q _ _ _ | cases h
theorem ln4{P:List Value→Prop}(q:∀a b c d,P [a,b,c,d]):∀us,us.length=4→P us:=by intro us h;rcases us with _|⟨a,_|⟨b,_|⟨c,_|⟨d,_|_⟩⟩⟩⟩<;>first | exact q _ _ _ _ | cases h
theorem ln5{P:List Value→Prop}(q:∀a b c d e,P [a,b,c,d,e]):∀us,us.length=5→P us:=by intro us h;rcases us with _|⟨a,_|⟨b,_|⟨c,_|⟨d,_|⟨e,_|_⟩⟩⟩⟩⟩<;>first | exact q _ _ _ _ _ | cases h
theorem ln6{P:List Value→Prop}(q:∀a b c d e f,P [a,b,c,d,e,f]):∀us,us.length=6→P us:=by intro us h;rcases us with _|⟨a,_|⟨b,_|⟨c,_|⟨d,_|⟨e,_|⟨f,_|_⟩⟩⟩⟩⟩⟩<;>first | exact q _ _ _ _ _ _ | cases h
theorem dmk{K:W.Frag}{mg:Str→Option Value}{x:Str}{st:Stmt}{ps:List Str}{f:Addr}{fd:FuncData}(F:Fun K x x st f fd)(b:Binds K fd ps [])(m:mg x=some (.ref f)):Def K mg x st ps:=⟨f,fd,F,b,m⟩
local macro_rules | `(tactic| walk_at "b1")=>`(tactic| exact fun _ _ _ _ _ _=>My.ln1 fun _=>rfl)
local macro_rules | `(tactic| walk_at "b2")=>`(tactic| exact fun _ _ _ _ _ _=>My.ln2 fun _ _=>rfl)
local macro_rules | `(tactic| walk_at "b3")=>`(tactic| exact fun _ _ _ _ _ _=>My.ln3 fun _ _ _=>rfl)
local macro_rules | `(tactic| walk_at "b4")=>`(tactic| exact fun _ _ _ _ _ _=>My.ln4 fun _ _ _ _=>rfl)
local macro_rules | `(tactic| walk_at "b5")=>`(tactic| exact fun _ _ _ _ _ _=>My.ln5 fun _ _ _ _ _=>rfl)
local macro_rules | `(tactic| walk_at "b6")=>`(tactic| exact fun _ _ _ _ _ _=>My.ln6 fun _ _ _ _ _ _=>rfl)
abbrev NI(K:W.Frag)(x:Str)(f:Addr):Prop:=W.nsIn K mainGlobals x=some (some (.ref f))
abbrev Df(K:W.Frag)(x q:Str)(st:Stmt)(f:Addr):Prop:=∃fd,Fun K x q st f fd
theorem Zsu{l:W.OpenLaw}{w:World}{K:W.Frag}{h:Heap}{mg:Str→Option Value}{fa f7 f10 f11 f12 f17 f18 f48 f54 f58 f62 f63 f64 f70:Addr}(X:K.In h)(G:h.Ns mainGlobals mg)(hfa:mg "law"=some (.ref fa))
  {od48 an48 od70 an70:Option Addr} {sl48 sl70:Array (Option Value)} {oc48 kV48 dc48 pm48 cd48 ct48 oc70 kV70 dc70 pm70 cd70 ct70:Value} {tk0 tk1 tk2 gtk0_0 gtk0_1 gtk0_2 gtk0_3 gtk0_4:Tok} {GA0 X0 X1 X2 X3 yaf yab yal yad ybo:Addr} {godt0:Option Addr} {gnn0:Nat} {gsl0:Array (Option Value)} {dT48:Addr} {dc_48:Value} {dd_48:Option Addr} {dn_48:Nat} {ds_48:Array (Option Value)}
  (yaQ:NI K "Glass" yaf)
  (yae:NI K "Patterned" yab)
  (yaR:NI K "Plain" yal)
  (yau:NI K "Shaded" yad)
  (yb8:NI K "Thing" ybo)
  (D1:Def K mg "_law_cell_at" Zcq ["_law_script", "_law_k"])
  (D2:Def K mg "_law_mixed" Zdh ["_law_cell", "_law_k"])
  (D3:Def K mg "_law_draws" Zdk ["_law_cell", "_law_many"])
  (D4:Def K mg "greatest_divisor" Zbh ["numbers"])
  (D5:Def K mg "ratio" Ziz ["top", "bottom"])
  (D6:Def K mg "_law_mean" Zd3 ["_law_some"])
  (a7:W.findIn K (.ref yaf) "colour_at"=some (some (.ref f7))) (d7:Df K "colour_at" "Glass.colour_at" Zbl f7) (q7:W.isFn K (.ref f7)=true)
  (D8:Def K mg "down" ZkH ["one"])
  (D9:Def K mg "entry_at" ZeW ["pattern", "u", "v"])
  (a10:W.findIn K (.ref yab) "colour_at"=some (some (.ref f10))) (d10:Df K "colour_at" "Patterned.colour_at" ZaW f10) (q10:W.isFn K (.ref f10)=true)
  (a11:W.findIn K (.ref yal) "colour_at"=some (some (.ref f11))) (d11:Df K "colour_at" "Plain.colour_at" Zbq f11) (q11:W.isFn K (.ref f11)=true)
  (a12:W.findIn K (.ref yad) "colour_at"=some (some (.ref f12))) (d12:Df K "colour_at" "Shaded.colour_at" Zbc f12) (q12:W.isFn K (.ref f12)=true)
  (D13:Def K mg "minus" ZiK ["one", "other"])
  (D14:Def K mg "plus" Zln ["one", "other"])
  (D15:Def K mg "product" ZfX ["one", "other"])
  (D16:Def K mg "laid_over" Zd2 ["glass", "colour"])
  (a17:W.findIn K (.ref yaf) "is_glass"=some (some (.ref f17))) (d17:Df K "is_glass" "Glass.is_glass" ZbF f17) (q17:W.isFn K (.ref f17)=true)
  (a18:W.findIn K (.ref ybo) "is_glass"=some (some (.ref f18))) (d18:Df K "is_glass" "Thing.is_glass" Zbz f18) (q18:W.isFn K (.ref f18)=true)
  (D19:Def K mg "under" Ziq ["one", "other"])
  (D20:Def K mg "layers_over" ZcO ["nearest", "sights"])
  (D21:Def K mg "nearest_of" Zdl ["sights"])
  (D22:Def K mg "colour_of" ZdU ["sights", "ground"])
  (D23:Def K mg "summed_products" ZbI ["three", "other"])
  (D24:Def K mg "weighed_h" ZdQ ["triangle", "amounts"])
  (D25:Def K mg "depth_and_values" Zbi ["triangle", "amounts"])
  (D26:Def K mg "check_before_eye" Zbs ["corners"])
  (D27:Def K mg "edge_numbers" Zct ["one", "other"])
  (D28:Def K mg "side" Zle ["one", "other", "point"])
  (D29:Def K mg "had" ZpT ["triangle", "point"])
  (D30:Def K mg "edge_sum" ZeV ["one", "other", "point"])
  (D31:Def K mg "weights" Zfr ["triangle", "point"])
  (D32:Def K mg "seen_at" Zf2 ["triangle", "point"])
  (D33:Def K mg "sights_at" ZdT ["things", "p"])
  (D34:Def K mg "colour_seen" ZcT ["things", "p", "ground"])
  (D35:Def K mg "_law_due" ZeE ["_law_things_here", "_law_width", "_law_height", "_law_dots", "_law_base"])
  (D36:Def K mg "is_whole" ZeK ["thing"])
  (D37:Def K mg "is_between" Zdp ["thing", "least", "most"])
  (D38:Def K mg "check_floor" Zc0 ["width", "height"])
  (D39:Def K mg "ground_or_none" ZbV ["ground"])
  (D40:Def K mg "mean_of" ZfQ ["some"])
  (D41:Def K mg "cell_colour" ZcL ["sights_by_spot", "ground"])
  (D42:Def K mg "spot_at" ZfR ["column", "row", "spot"])
  (D43:Def K mg "sights_in" ZdN ["things", "column", "row", "spots"])
  (D44:Def K mg "painted_row" ZcQ ["things", "width", "row", "spots", "ground"])
  (D45:Def K mg "is_spot" ZfM ["thing"])
  (D46:Def K mg "check_spots" ZcZ ["spots"])
  (D47:Def K mg "spots_or_middle" ZbA ["spots"])
  (a48:W.nsIn K mainGlobals "paint"=some (some (.ref f48))) (l48:K.lookup f48=some ⟨oc48,od48,.func (W.fnOf "paint" "paint" (Zcu ZcU) (ZaY ZcU) (Zab ZcU) (.ref dT48) kV48 dc48 pm48 an48 cd48 ct48),sl48⟩) (c48:W.codeIn K cd48 "paint"=true) (k48:W.keepIn K (.ref f48)=true)
  (D49:Def K mg "_law_painted" Zcr ["_law_things_here", "_law_width", "_law_height", "_law_dots", "_law_base", "_law_way"])
  (D50:Def K mg "_law_spots" Zdm ["_law_cell"])
  (D51:Def K mg "are_values" Zde ["thing"])
  (D52:Def K mg "is_corner" ZdV ["thing"])
  (D53:Def K mg "check_triangle" ZbT ["triangle"])
  (a54:W.findIn K (.ref ybo) "__init__"=some (some (.ref f54))) (d54:Df K "__init__" "Thing.__init__" Zby f54) (q54:W.isFn K (.ref f54)=true)
  (D55:Def K mg "is_fraction" ZcJ ["thing"])
  (D56:Def K mg "check_colour" Zcv ["colour"])
  (D57:Def K mg "check_part" Zdg ["part"])
  (a58:W.findIn K (.ref yaf) "__init__"=some (some (.ref f58))) (d58:Df K "__init__" "Glass.__init__" ZbG f58) (q58:W.isFn K (.ref f58)=true)
  (D59:Def K mg "check_pattern" Zb8 ["pattern"])
  (D60:Def K mg "check_values" Zcw ["triangle", "least"])
  (D61:Def K mg "copied" ZgT ["pattern"])
  (a62:W.findIn K (.ref yab) "__init__"=some (some (.ref f62))) (d62:Df K "__init__" "Patterned.__init__" Za2 f62) (q62:W.isFn K (.ref f62)=true)
  (a63:W.findIn K (.ref yal) "__init__"=some (some (.ref f63))) (d63:Df K "__init__" "Plain.__init__" ZbB f63) (q63:W.isFn K (.ref f63)=true)
  (a64:W.findIn K (.ref yad) "__init__"=some (some (.ref f64))) (d64:Df K "__init__" "Shaded.__init__" Zbu f64) (q64:W.isFn K (.ref f64)=true)
  (D65:Def K mg "_law_pattern" Zcx ["_law_number", "_law_more"])
  (D66:Def K mg "_law_thing" Zc4 ["_law_draws_here", "_law_triangle"])
  (D67:Def K mg "_law_corner" ZcW ["_law_draws_here", "_law_many"])
  (D68:Def K mg "_law_triangles" ZbU ["_law_script", "_law_first", "_law_most", "_law_many"])
  (D69:Def K mg "_law_things" ZcS ["_law_script", "_law_first", "_law_most"])
  (a70:W.nsIn K mainGlobals "law"=some (some (.ref f70))) (l70:K.lookup f70=some ⟨oc70,od70,.func (W.fnOf "law" "law" (Zcu Zg7) (ZaY Zg7) (Zab Zg7) .none kV70 dc70 pm70 an70 cd70 ct70),sl70⟩) (c70:W.codeIn K cd70 "law"=true) (k70:W.keepIn K (.ref f70)=true)
  (dl48:K.lookup dT48=some ⟨dc_48,dd_48,.seq #[.none,.none] dn_48,ds_48⟩)
  (yaV:W.plainGet K yaf Str.empty=true) (yaW:W.hasDictIn K yaf=true) (yaX:W.plainOver K yaf=true) (yaY:W.findIn K (.ref yaf) "__setattr__"=some (some (.builtin "object.__setattr__")))
  (yaS:W.findIn K (.ref yaf) "colour"=some none)
  (ybc:W.findIn K (.ref yaf) "part"=some none)
  (yaN:W.findIn K (.ref yaf) "pattern"=some none)
  (yaB:W.findIn K (.ref yaf) "triangle"=some none)
  (yav:W.findIn K (.ref yaf) "colour_at"=some (some (.ref f7)))
  (yaC:W.findIn K (.ref yaf) "is_glass"=some (some (.ref f17)))
  (yb9:W.makesIn K yaf=true) (yca:W.keepIn K (.ref yaf)=true)
  (yah:W.plainGet K yab Str.empty=true) (yai:W.hasDictIn K yab=true) (yaj:W.plainOver K yab=true) (yak:W.findIn K (.ref yab) "__setattr__"=some (some (.builtin "object.__setattr__")))
  (yas:W.findIn K (.ref yab) "colour"=some none)
  (yaD:W.findIn K (.ref yab) "part"=some none)
  (yaq:W.findIn K (.ref yab) "pattern"=some none)
  (yan:W.findIn K (.ref yab) "triangle"=some none)
  (yam:W.findIn K (.ref yab) "colour_at"=some (some (.ref f10)))
  (yao:W.findIn K (.ref yab) "is_glass"=some (some (.ref f18)))
  (ybk:W.makesIn K yab=true) (ybl:W.keepIn K (.ref yab)=true)
  (yaZ:W.plainGet K yal Str.empty=true) (ya0:W.hasDictIn K yal=true) (ya1:W.plainOver K yal=true) (ya2:W.findIn K (.ref yal) "__setattr__"=some (some (.builtin "object.__setattr__")))
  (yaT:W.findIn K (.ref yal) "colour"=some none)
  (ybd:W.findIn K (.ref yal) "part"=some none)
  (yaO:W.findIn K (.ref yal) "pattern"=some none)
  (yaE:W.findIn K (.ref yal) "triangle"=some none)
  (yaw:W.findIn K (.ref yal) "colour_at"=some (some (.ref f11)))
  (yaF:W.findIn K (.ref yal) "is_glass"=some (some (.ref f18)))
  (ycb:W.makesIn K yal=true) (ycc:W.keepIn K (.ref yal)=true)
  (yaJ:W.plainGet K yad Str.empty=true) (yaK:W.hasDictIn K yad=true) (yaL:W.plainOver K yad=true) (yaM:W.findIn K (.ref yad) "__setattr__"=some (some (.builtin "object.__setattr__")))
  (yaP:W.findIn K (.ref yad) "colour"=some none)
  (ya6:W.findIn K (.ref yad) "part"=some none)
  (yaG:W.findIn K (.ref yad) "pattern"=some none)
  (yax:W.findIn K (.ref yad) "triangle"=some none)
  (yat:W.findIn K (.ref yad) "colour_at"=some (some (.ref f12)))
  (yay:W.findIn K (.ref yad) "is_glass"=some (some (.ref f18)))
  (ybR:W.makesIn K yad=true) (ybS:W.keepIn K (.ref yad)=true)
  (ycd:W.specialIn K (.ref ybo) "__getattribute__"=some (some (.builtin "type.__getattribute__"))) (yce:W.readsIn K ybo (.type "type")=true) (ycf:W.findCls K (.ref ybo) (.type "type") "__init__"=some (.val (.ref f54))) (ycg:W.handedIn (.ref f54)=true)
  (z0:W.nsIn K mainGlobals "abs"=some none)
  (z1:W.nsIn K mainGlobals "all"=some none)
  (z2:W.nsIn K mainGlobals "bool"=some none)
  (z3:W.nsIn K mainGlobals "enumerate"=some none)
  (z4:W.nsIn K mainGlobals "int"=some none)
  (z5:W.nsIn K mainGlobals "isinstance"=some none)
  (z6:W.nsIn K mainGlobals "len"=some none)
  (z7:W.nsIn K mainGlobals "list"=some none)
  (z8:W.nsIn K mainGlobals "min"=some none)
  (z9:W.nsIn K mainGlobals "range"=some none)
  (z10:W.nsIn K mainGlobals "set"=some none)
  (z11:W.nsIn K mainGlobals "tuple"=some none)
  (z12:W.nsIn K mainGlobals "zip"=some none)
  (gc0:W.nsIn K mainGlobals "MOST_CELLS"=some (some (.int 64 tk0)))
  (gc1:W.nsIn K mainGlobals "MOST_SPOTS"=some (some (.int 16 tk1)))
  (gc2:W.nsIn K mainGlobals "MOST_VALUES"=some (some (.int 3 tk2)))
  (gta0:W.nsIn K mainGlobals "COUNTS"=some (some (.ref GA0))) (gtl0:K.lookup GA0=some ⟨.type "tuple", godt0,.seq #[.int 1 gtk0_0,.int 2 gtk0_1,.int 4 gtk0_2,.int 8 gtk0_3,.int 16 gtk0_4] gnn0,gsl0⟩)
  (xa0:W.nsIn K mainGlobals "BadFloor"=some (some (.ref X0))) (xb0:W.excIn K X0 Zf5 "ValueError.__new__"=true)
  (xa1:W.nsIn K mainGlobals "BadPattern"=some (some (.ref X1))) (xb1:W.excIn K X1 Zf5 "ValueError.__new__"=true)
  (xa2:W.nsIn K mainGlobals "BadThing"=some (some (.ref X2))) (xb2:W.excIn K X2 Zf5 "ValueError.__new__"=true)
  (xa3:W.nsIn K mainGlobals "BadTriangle"=some (some (.ref X3))) (xb3:W.excIn K X3 Zf5 "ValueError.__new__"=true)
  : ∃fd:FuncData,(∀(s:Shared) (v:Value),BindsTo s fd ⟨[v],[]⟩ [("_law_script", v)])∧∀base:Heap,K.In base→base.Ns mainGlobals mg→FnOk l.prog w K mg base (CXR l.prog w) 11 fa fd ["_law_script"] (ZmQ K):=by
 have e:=hfa.symm.trans (Vcs X G a70)
 cases e
 have T:Txt K mg:=⟨Vct X G z0,Vct X G z1,Vct X G z2,Vct X G z3,Vct X G z4,Vct X G z5,Vct X G z6,Vct X G z7,Vct X G z8,Vct X G z9,Vct X G z10,Vct X G z11,Vct X G z12,⟨_,Vcs X G gc0⟩,⟨_,Vcs X G gc1⟩,⟨_,Vcs X G gc2⟩,⟨_,_,_,_,Vcs X G gta0,gtl0,rfl,rfl,show (5:Nat)≤sizeLine by decide,(.cons ⟨_,rfl⟩ (.cons ⟨_,rfl⟩ (.cons ⟨_,rfl⟩ (.cons ⟨_,rfl⟩ (.cons ⟨_,rfl⟩ .nil)))))⟩,⟨_,Vcs X G xa0,xb0⟩,⟨_,Vcs X G xa1,xb1⟩,⟨_,Vcs X G xa2,xb2⟩,⟨_,Vcs X G xa3,xb3⟩,(.cons (fun C hC=>by cases (Vcs X G yaR).symm.trans hC;exact ⟨⟨yaZ,ya0,ya1,ya2⟩,yaT⟩) (.cons (fun C hC=>by cases (Vcs X G yau).symm.trans hC;exact ⟨⟨yaJ,yaK,yaL,yaM⟩,yaP⟩) (.cons (fun C hC=>by cases (Vcs X G yae).symm.trans hC;exact ⟨⟨yah,yai,yaj,yak⟩,yas⟩) (.cons (fun C hC=>by cases (Vcs X G yaQ).symm.trans hC;exact ⟨⟨yaV,yaW,yaX,yaY⟩,yaS⟩) .nil)))),(.cons (fun C hC=>by cases (Vcs X G yaR).symm.trans hC;exact ⟨⟨yaZ,ya0,ya1,ya2⟩,ybd⟩) (.cons (fun C hC=>by cases (Vcs X G yau).symm.trans hC;exact ⟨⟨yaJ,yaK,yaL,yaM⟩,ya6⟩) (.cons (fun C hC=>by cases (Vcs X G yae).symm.trans hC;exact ⟨⟨yah,yai,yaj,yak⟩,yaD⟩) (.cons (fun C hC=>by cases (Vcs X G yaQ).symm.trans hC;exact ⟨⟨yaV,yaW,yaX,yaY⟩,ybc⟩) .nil)))),(.cons (fun C hC=>by cases (Vcs X G yaR).symm.trans hC;exact ⟨⟨yaZ,ya0,ya1,ya2⟩,yaO⟩) (.cons (fun C hC=>by cases (Vcs X G yau).symm.trans hC;exact ⟨⟨yaJ,yaK,yaL,yaM⟩,yaG⟩) (.cons (fun C hC=>by cases (Vcs X G yae).symm.trans hC;exact ⟨⟨yah,yai,yaj,yak⟩,yaq⟩) (.cons (fun C hC=>by cases (Vcs X G yaQ).symm.trans hC;exact ⟨⟨yaV,yaW,yaX,yaY⟩,yaN⟩) .nil)))),(.cons (fun C hC=>by cases (Vcs X G yaR).symm.trans hC;exact ⟨⟨yaZ,ya0,ya1,ya2⟩,yaE⟩) (.cons (fun C hC=>by cases (Vcs X G yau).symm.trans hC;exact ⟨⟨yaJ,yaK,yaL,yaM⟩,yax⟩) (.cons (fun C hC=>by cases (Vcs X G yae).symm.trans hC;exact ⟨⟨yah,yai,yaj,yak⟩,yan⟩) (.cons (fun C hC=>by cases (Vcs X G yaQ).symm.trans hC;exact ⟨⟨yaV,yaW,yaX,yaY⟩,yaB⟩) .nil))))⟩
 obtain ⟨_,F7⟩:=d7
 have B7:=F7.binds (ps:=["self", "values"]) (by walk_at "b2")
 obtain ⟨_,F10⟩:=d10
 have B10:=F10.binds (ps:=["self", "values"]) (by walk_at "b2")
 obtain ⟨_,F11⟩:=d11
 have B11:=F11.binds (ps:=["self", "values"]) (by walk_at "b2")
 obtain ⟨_,F12⟩:=d12
 have B12:=F12.binds (ps:=["self", "values"]) (by walk_at "b2")
 obtain ⟨_,F17⟩:=d17
 have B17:=F17.binds (ps:=["self"]) (by walk_at "b1")
 obtain ⟨_,F18⟩:=d18
 have B18:=F18.binds (ps:=["self"]) (by walk_at "b1")
 have F48:FunD K "paint" "paint" ZcU (.ref dT48) f48 _:=⟨_,_,_,_,_,_,_,_,_,rfl,l48,c48⟩
 obtain ⟨_,F54⟩:=d54
 have B54:=F54.binds (ps:=["self", "triangle"]) (by walk_at "b2")
 obtain ⟨_,F58⟩:=d58
 have B58:=F58.binds (ps:=["self", "triangle", "colour", "part"]) (by walk_at "b4")
 obtain ⟨_,F62⟩:=d62
 have B62:=F62.binds (ps:=["self", "triangle", "pattern"]) (by walk_at "b3")
 obtain ⟨_,F63⟩:=d63
 have B63:=F63.binds (ps:=["self", "triangle", "colour"]) (by walk_at "b3")
 obtain ⟨_,F64⟩:=d64
 have B64:=F64.binds (ps:=["self", "triangle"]) (by walk_at "b2")
 have F70:=Zcf (st:=Zg7) l70 c70 k70
 have D70:=dmk F70 (F70.binds (ps:=["_law_script"]) (by walk_at "b1")) (Vcs X G a70)
 refine ⟨W.fnOf "law" "law" (Zcu Zg7) (ZaY Zg7) (Zab Zg7) .none kV70 dc70 pm70 an70 cd70 ct70,fun s v=>.of_eq rfl,fun base _ _=>?_⟩
 have ya7:=ZfJ (P:=l.prog) (w:=w) (base:=base) T D1
 have ybL:=Zg4 (P:=l.prog) (w:=w) (base:=base) T D2
 have ya3:=Zg1 (P:=l.prog) (w:=w) (base:=base) T D3 ybL
 have ya4:=ZdZ (P:=l.prog) (w:=w) (base:=base) T D4
 have ybm:=Znl (P:=l.prog) (w:=w) (base:=base) T D5 ya4
 have ycJ:=ZhH (P:=l.prog) (w:=w) (base:=base) T D6 ybm
 have ybB:=ZdP (P:=l.prog) (w:=w) (base:=base) T F7
 have ydi:=Zp7 (P:=l.prog) (w:=w) (base:=base) T D8
 have ycR:=Ziv (P:=l.prog) (w:=w) (base:=base) T D9 ydi
 have ybf:=ZcY (P:=l.prog) (w:=w) (base:=base) T F10 ycR
 have ybC:=Zd4 (P:=l.prog) (w:=w) (base:=base) T F11
 have ybu:=Zdx (P:=l.prog) (w:=w) (base:=base) T F12
 have CM_colour_at:ZcA l.prog w K mg base 3 1 "colour_at" Za6:=(.cons (fun C hC=>by cases (Vcs X G yaR).symm.trans hC;exact ⟨⟨yaZ,ya0,ya1,ya2⟩,_,_,_,⟨yaw,q11,F11.kp⟩,ybC.mono (by decide),B11,rfl⟩) (.cons (fun C hC=>by cases (Vcs X G yau).symm.trans hC;exact ⟨⟨yaJ,yaK,yaL,yaM⟩,_,_,_,⟨yat,q12,F12.kp⟩,ybu.mono (by decide),B12,rfl⟩) (.cons (fun C hC=>by cases (Vcs X G yae).symm.trans hC;exact ⟨⟨yah,yai,yaj,yak⟩,_,_,_,⟨yam,q10,F10.kp⟩,ybf.mono (by decide),B10,rfl⟩) (.cons (fun C hC=>by cases (Vcs X G yaQ).symm.trans hC;exact ⟨⟨yaV,yaW,yaX,yaY⟩,_,_,_,⟨yav,q7,F7.kp⟩,ybB.mono (by decide),B7,rfl⟩) .nil))))
 have ydb:=Zm9 (P:=l.prog) (w:=w) (base:=base) T D13 ybm
 have yc6:=ZqU (P:=l.prog) (w:=w) (base:=base) T D14 ybm
 have ycW:=Zkf (P:=l.prog) (w:=w) (base:=base) T D15 ybm
 have ycK:=Zif (P:=l.prog) (w:=w) (base:=base) T D16 ydb yc6 ycW
 have ybG:=Zei (P:=l.prog) (w:=w) (base:=base) T F17
 have yaH:=Zen (P:=l.prog) (w:=w) (base:=base) T F18
 have CM_is_glass:ZcA l.prog w K mg base 1 0 "is_glass" Za1:=(.cons (fun C hC=>by cases (Vcs X G yaR).symm.trans hC;exact ⟨⟨yaZ,ya0,ya1,ya2⟩,_,_,_,⟨yaF,q18,F18.kp⟩,yaH.mono (by decide),B18,rfl⟩) (.cons (fun C hC=>by cases (Vcs X G yau).symm.trans hC;exact ⟨⟨yaJ,yaK,yaL,yaM⟩,_,_,_,⟨yay,q18,F18.kp⟩,yaH.mono (by decide),B18,rfl⟩) (.cons (fun C hC=>by cases (Vcs X G yae).symm.trans hC;exact ⟨⟨yah,yai,yaj,yak⟩,_,_,_,⟨yao,q18,F18.kp⟩,yaH.mono (by decide),B18,rfl⟩) (.cons (fun C hC=>by cases (Vcs X G yaQ).symm.trans hC;exact ⟨⟨yaV,yaW,yaX,yaY⟩,_,_,_,⟨yaC,q17,F17.kp⟩,ybG.mono (by decide),B17,rfl⟩) .nil))))
 have ycX:=Znb (P:=l.prog) (w:=w) (base:=base) T D19
 have ych:=Zgo (P:=l.prog) (w:=w) (base:=base) T D20 CM_is_glass ycX
 have ycA:=Zhd (P:=l.prog) (w:=w) (base:=base) T D21 CM_is_glass ycX
 have ybT:=Zh1 (P:=l.prog) (w:=w) (base:=base) T D22 CM_colour_at ycK ych ycA
 have yap:=Zeo (P:=l.prog) (w:=w) (base:=base) T D23
 have ycL:=ZhZ (P:=l.prog) (w:=w) (base:=base) T D24 yap
 have ybD:=Zd1 (P:=l.prog) (w:=w) (base:=base) T D25 ybm yap ycL
 have ya5:=ZdW (P:=l.prog) (w:=w) (base:=base) T D26
 have ybr:=Zgb (P:=l.prog) (w:=w) (base:=base) T D27
 have ydj:=ZpG (P:=l.prog) (w:=w) (base:=base) T D28 yap ybr
 have ydq:=Ztf (P:=l.prog) (w:=w) (base:=base) T D29 ya5 ydj
 have ycS:=ZiS (P:=l.prog) (w:=w) (base:=base) T D30 yap ybr
 have ycY:=Zj5 (P:=l.prog) (w:=w) (base:=base) T D31 ycS
 have ycZ:=Zku (P:=l.prog) (w:=w) (base:=base) T D32 ybD ydq ycY
 have ybU:=Zh5 (P:=l.prog) (w:=w) (base:=base) T D33 ycZ
 have yci:=Zgn (P:=l.prog) (w:=w) (base:=base) T D34 ybT ybU
 have ycT:=ZiF (P:=l.prog) (w:=w) (base:=base) T D35 ycJ yci
 have ybp:=ZiY (P:=l.prog) (w:=w) (base:=base) T D36
 have ybM:=Zhb (P:=l.prog) (w:=w) (base:=base) T D37 ybp
 have ycj:=Zgg (P:=l.prog) (w:=w) (base:=base) T D38 ybM
 have ybN:=ZeY (P:=l.prog) (w:=w) (base:=base) T D39
 have yc0:=ZkA (P:=l.prog) (w:=w) (base:=base) T D40 ybm yc6
 have yck:=Zgl (P:=l.prog) (w:=w) (base:=base) T D41 ybT yc0
 have yc1:=Zkj (P:=l.prog) (w:=w) (base:=base) T D42
 have ycM:=Zh6 (P:=l.prog) (w:=w) (base:=base) T D43 ybU yc1
 have ycl:=Zgj (P:=l.prog) (w:=w) (base:=base) T D44 yck ycM
 have yc2:=Zj1 (P:=l.prog) (w:=w) (base:=base) T D45 ybM
 have ycm:=Zgk (P:=l.prog) (w:=w) (base:=base) T D46 yc2
 have ybH:=ZeD (P:=l.prog) (w:=w) (base:=base) T D47 ycm
 have K_paint:=Zm5 (P:=l.prog) (w:=w) (base:=base) T F48 ycj ybN ycl ybH
 have B_paint:Binds K (W.fnOf "paint" "paint" (Zcu ZcU) (ZaY ZcU) (Zab ZcU) (.ref dT48) kV48 dc48 pm48 an48 cd48 ct48) ["things", "width", "height", "spots", "ground"] []:=fun s us X hl=>My.ln5 (P:=fun us=>BindsTo s _ {pos:=us} (List.zip (["things", "width", "height", "spots", "ground"]:List Str) (us++[]))) (fun _ _ _ _ _=>Vcu rfl (X _ _ dl48) rfl rfl rfl) us (by simpa using hl)
 have ydc:CalR l.prog w K mg base 8 "paint" ["things", "width", "height", "spots", "ground"] Za9:=⟨_,_,K_paint,B_paint,k48,Vcs X G a48⟩
 have Q_paint_3:Zj2 l.prog w K mg base 8 "paint" ["things", "width", "height", "spots", "ground"] [] [none,none] Za9:=⟨_,_,K_paint,fun s us ws X hl=>by
  have h3:us.length=3:=by have h0:=hl;simp [ZiD] at h0;omega
  match us,h3 with
  | [_,_,_],_ =>
   exact Vcu rfl (X _ _ dl48) rfl rfl rfl,k48,Vcs X G a48⟩
 have Q_paint_3_ground_spots:Zj2 l.prog w K mg base 8 "paint" ["things", "width", "height", "spots", "ground"] ["ground", "spots"] [some 1,some 0] Za9:=⟨_,_,K_paint,fun s us ws X hl=>by
  have h3:us.length=3:=by have h0:=hl;simp [ZiD] at h0;omega
  match us,h3 with
  | [_,_,_],_ =>
   match ws with
   | []=>exact Vcu rfl (X _ _ dl48) rfl rfl rfl
   | [_]=>exact Vcu rfl (X _ _ dl48) rfl rfl rfl
   | _::_::_=>exact Vcu rfl (X _ _ dl48) rfl rfl rfl,k48,Vcs X G a48⟩
 have ybZ:=Zfu (P:=l.prog) (w:=w) (base:=base) T D49 ydc Q_paint_3 Q_paint_3_ground_spots
 have ycB:=ZgV (P:=l.prog) (w:=w) (base:=base) T D50 ya3
 have ycC:=Zg8 (P:=l.prog) (w:=w) (base:=base) T D51 ybp
 have ycN:=ZhA (P:=l.prog) (w:=w) (base:=base) T D52 ybp ycC
 have ybO:=ZeO (P:=l.prog) (w:=w) (base:=base) T D53 ycN
 have ybI:=Znm (P:=l.prog) (w:=w) (base:=base) T F54 ya5 ybO
 have CS_Thing:CalS l.prog w K mg base 5 "Thing" "__init__" 1 objs ZbS:=⟨_,_,_,_,Vcs X G yb8,⟨ycd,⟨_,yce,ycf⟩,ycg,F54.kp⟩,ybI,B54⟩
 have ybe:=Zgi (P:=l.prog) (w:=w) (base:=base) T D55 ya4 ybp
 have ybs:=ZfD (P:=l.prog) (w:=w) (base:=base) T D56 ybe
 have ycD:=Zhm (P:=l.prog) (w:=w) (base:=base) T D57 ybe
 have ybJ:=ZmI (P:=l.prog) (w:=w) (base:=base) T F58 CS_Thing ybs ycD
 have CI_Glass:CalI l.prog w K mg base 7 "Glass" 3 objs ZeG:=⟨_,_,_,_,Vcs X G yaQ,⟨yb9,a58,q58,yca⟩,ybJ,B58,rfl⟩
 have ybV:=Zfg (P:=l.prog) (w:=w) (base:=base) T D59 ybe
 have ybt:=ZfN (P:=l.prog) (w:=w) (base:=base) T D60
 have yc5:=Zlz (P:=l.prog) (w:=w) (base:=base) T D61
 have ybn:=ZhV (P:=l.prog) (w:=w) (base:=base) T F62 CS_Thing ybV ybt yc5
 have CI_Patterned:CalI l.prog w K mg base 7 "Patterned" 2 objs ZbD:=⟨_,_,_,_,Vcs X G yae,⟨ybk,a62,q62,ybl⟩,ybn,B62,rfl⟩
 have ybK:=ZmS (P:=l.prog) (w:=w) (base:=base) T F63 CS_Thing ybs
 have CI_Plain:CalI l.prog w K mg base 7 "Plain" 2 objs ZeS:=⟨_,_,_,_,Vcs X G yaR,⟨ycb,a63,q63,ycc⟩,ybK,B63,rfl⟩
 have ybE:=ZlK (P:=l.prog) (w:=w) (base:=base) T F64 CS_Thing ybt
 have CI_Shaded:CalI l.prog w K mg base 7 "Shaded" 1 objs Zdw:=⟨_,_,_,_,Vcs X G yau,⟨ybR,a64,q64,ybS⟩,ybE,B64,rfl⟩
 have yb0:=Zfs (P:=l.prog) (w:=w) (base:=base) T D65 ybL ybm
 have ycE:=ZgW (P:=l.prog) (w:=w) (base:=base) T D66 ybm CI_Glass CI_Patterned CI_Plain CI_Shaded yb0
 have ycn:=Zge (P:=l.prog) (w:=w) (base:=base) T D67
 have ybP:=ZeH (P:=l.prog) (w:=w) (base:=base) T D68 ya7 ya3 ycn
 have yco:=Zgh (P:=l.prog) (w:=w) (base:=base) T D69 ya7 ya3 ycE ybP
 exact (ZrB (P:=l.prog) (w:=w) (base:=base) T F70 ya7 ya3 ycT ybZ ycB yco).imp (Zst Zm3)
theorem walk{l:W.OpenLaw}{q:Program}{loose:List Str}{XP:(Str→Option Value)→Heap→Prop}{YP:World→Heap→Prop}{d:DefRec}{K:Params→W.Frag}(hn:l.most=some 63)(hdf:d.params.defaults=[])
  (hY:∀(w:World) (h:Heap),YP w h→(K w.params).In h)
  (F:∀(w:World) (mg:Str→Option Value) (fa:Addr) (h:Heap),(K w.params).In h→h.Ns mainGlobals mg→mg d.name=some (.ref fa) →
   ∃fd:FuncData,(∀(s:Shared) (u:Value),BindsTo s fd ⟨[u],[]⟩ [("_law_script", u)])∧∀base:Heap,(K w.params).In base→base.Ns mainGlobals mg→FnOk l.prog w (K w.params) mg base (CXR l.prog w) 11 fa fd ["_law_script"] (ZmQ (K w.params))) :
  W.WalkO q loose XP YP l.row.toRowW d [] (fun f vs=>PySem.call f vs) :=
 L2.ZoW (n:=63) (k:=11) (x := "_law_script") (CX:=fun w=>CXR l.prog w) (sp:=fun w=>ZmQ (K w.params)) hn (by decide) hdf ⟨rfl,by decide,by decide⟩ hY F (fun _ _ a ns hl _ hS=>⟨a,ns,rfl,hS,hl,fun _=>rfl⟩) fun _ _ _ _ _ z=>Zso z
end My
set_option hygiene false in
local macro_rules | `(tactic| walk_at "df")=>`(tactic| (refine' ⟨_,L2.Zcf ?l ?c ?k⟩;(case l=>k_is);(case c=>k_is);(case k=>k_is)))
set_option hygiene false in
local macro_rules | `(tactic| walk_at "dd1")=>`(tactic| (refine' ⟨_,_,L2.Zcf ?l ?c ?k,L2.Fun.binds (L2.Zcf ?l ?c ?k) (fun _ _ _ _ _ _=>My.ln1 fun _=>rfl),Vcs KX G ?a⟩;(case a=>k_is);(case l=>k_is);(case c=>k_is);(case k=>k_is)))
set_option hygiene false in
local macro_rules | `(tactic| walk_at "dd2")=>`(tactic| (refine' ⟨_,_,L2.Zcf ?l ?c ?k,L2.Fun.binds (L2.Zcf ?l ?c ?k) (fun _ _ _ _ _ _=>My.ln2 fun _ _=>rfl),Vcs KX G ?a⟩;(case a=>k_is);(case l=>k_is);(case c=>k_is);(case k=>k_is)))
set_option hygiene false in
local macro_rules | `(tactic| walk_at "dd3")=>`(tactic| (refine' ⟨_,_,L2.Zcf ?l ?c ?k,L2.Fun.binds (L2.Zcf ?l ?c ?k) (fun _ _ _ _ _ _=>My.ln3 fun _ _ _=>rfl),Vcs KX G ?a⟩;(case a=>k_is);(case l=>k_is);(case c=>k_is);(case k=>k_is)))
set_option hygiene false in
local macro_rules | `(tactic| walk_at "dd4")=>`(tactic| (refine' ⟨_,_,L2.Zcf ?l ?c ?k,L2.Fun.binds (L2.Zcf ?l ?c ?k) (fun _ _ _ _ _ _=>My.ln4 fun _ _ _ _=>rfl),Vcs KX G ?a⟩;(case a=>k_is);(case l=>k_is);(case c=>k_is);(case k=>k_is)))
set_option hygiene false in
local macro_rules | `(tactic| walk_at "dd5")=>`(tactic| (refine' ⟨_,_,L2.Zcf ?l ?c ?k,L2.Fun.binds (L2.Zcf ?l ?c ?k) (fun _ _ _ _ _ _=>My.ln5 fun _ _ _ _ _=>rfl),Vcs KX G ?a⟩;(case a=>k_is);(case l=>k_is);(case c=>k_is);(case k=>k_is)))
set_option hygiene false in
local macro_rules | `(tactic| walk_at "dd6")=>`(tactic| (refine' ⟨_,_,L2.Zcf ?l ?c ?k,L2.Fun.binds (L2.Zcf ?l ?c ?k) (fun _ _ _ _ _ _=>My.ln6 fun _ _ _ _ _ _=>rfl),W.mg_of KX G ?a⟩;(case a=>k_is);(case l=>k_is);(case c=>k_is);(case k=>k_is)))
local macro_rules | `(tactic| walk_at "ni")=>`(tactic| (delta My.NI;k_is))
open PySem PySem.W PyProof.Rows
set_option maxRecDepth 100000 in
set_option maxHeartbeats 0 in
theorem PySem.Challenge.cw_sampleyard_k54_pictures_holds : PySem.Challenge.rw_sampleyard_k54_pictures.Holds := by
 w_on;refine holds_law Hd.said fun said=>?_
 refine holds_open (r:=PySem.Challenge.rw_sampleyard_k54_pictures.row) (q:=Hd.view) (loose:=["paint"]) (Xt:=(fun s=>xlAt Hd.view [] s&&recOk (RowW.records PySem.Challenge.rw_sampleyard_k54_pictures.row.toRowW) s)) (XP:=XL Hd.view []) (Yf:=Hook.obs (kHook Hd.heap Hd.addrs Hd.Zdv)) (Ya:=Hook.val (kHook Hd.heap Hd.addrs Hd.Zdv)) (YP:=Hook.says (kHook Hd.heap Hd.addrs Hd.Zdv)) (N:=Hd.most) Hd.left (Hook.of (kHook Hd.heap Hd.addrs Hd.Zdv)) (Hook.keeps (kHook Hd.heap Hd.addrs Hd.Zdv)) (fun s e=>xl_of s (Bool.and_eq_true_iff.mp e).1) XL.keeps (by rfl) (by rfl) (by rfl) (fun s e=>recFacts_of (Bool.and_eq_true_iff.mp e).2) (by rfl) (by assumption) (by decide +kernel) ⟨rfl,rfl,rfl,rfl,rfl,by decide +kernel⟩ ?hw ?hc
 case hw=>w_witness2
 k_fill
 refine My.walk (l:=PySem.Challenge.rw_sampleyard_k54_pictures) rfl rfl (fun w h Y=>W.kIn_of Y) ?F
 case F =>
  intro w mg fa h KX G hmg
  refine' My.Zsu KX G hmg ?yaQ ?yae ?yaR ?yau ?yb8 ?D1 ?D2 ?D3 ?D4 ?D5 ?D6 ?a7 ?d7 ?q7 ?D8 ?D9 ?a10 ?d10 ?q10 ?a11 ?d11 ?q11 ?a12 ?d12 ?q12 ?D13 ?D14 ?D15 ?D16 ?a17 ?d17 ?q17 ?a18 ?d18 ?q18 ?D19 ?D20 ?D21 ?D22 ?D23 ?D24 ?D25 ?D26 ?D27 ?D28 ?D29 ?D30 ?D31 ?D32 ?D33 ?D34 ?D35 ?D36 ?D37 ?D38 ?D39 ?D40 ?D41 ?D42 ?D43 ?D44 ?D45 ?D46 ?D47 ?a48 ?l48 ?c48 ?k48 ?D49 ?D50 ?D51 ?D52 ?D53 ?a54 ?d54 ?q54 ?D55 ?D56 ?D57 ?a58 ?d58 ?q58 ?D59 ?D60 ?D61 ?a62 ?d62 ?q62 ?a63 ?d63 ?q63 ?a64 ?d64 ?q64 ?D65 ?D66 ?D67 ?D68 ?D69 ?a70 ?l70 ?c70 ?k70 ?dl48 ?yaV ?yaW ?yaX ?yaY ?yaS ?ybc ?yaN ?yaB ?yav ?yaC ?yb9 ?yca ?yah ?yai ?yaj ?yak ?yas ?yaD ?yaq ?yan ?yam ?yao ?ybk ?ybl ?yaZ ?ya0 ?ya1 ?ya2 ?yaT ?ybd ?yaO ?yaE ?yaw ?yaF ?ycb ?ycc ?yaJ ?yaK ?yaL ?yaM ?yaP ?ya6 ?yaG ?yax ?yat ?yay ?ybR ?ybS ?ycd ?yce ?ycf ?ycg ?z0 ?z1 ?z2 ?z3 ?z4 ?z5 ?z6 ?z7 ?z8 ?z9 ?z10 ?z11 ?z12 ?gc0 ?gc1 ?gc2 ?gta0 ?gtl0 ?xa0 ?xb0 ?xa1 ?xb1 ?xa2 ?xb2 ?xa3 ?xb3
  (case yaQ=>walk_at "ni")
  (case yae=>walk_at "ni")
  (case yaR=>walk_at "ni")
  (case yau=>walk_at "ni")
  (case yb8=>walk_at "ni")
  (case D1=>walk_at "dd2")
  (case D2=>walk_at "dd2")
  (case D3=>walk_at "dd2")
  (case D4=>walk_at "dd1")
  (case D5=>walk_at "dd2")
  (case D6=>walk_at "dd1")
  case a7=>k_is
  (case d7=>walk_at "df")
  case q7=>k_is
  (case D8=>walk_at "dd1")
  (case D9=>walk_at "dd3")
  case a10=>k_is
  (case d10=>walk_at "df")
  case q10 | a11=>k_is
  (case d11=>walk_at "df")
  case q11 | a12=>k_is
  (case d12=>walk_at "df")
  case q12=>k_is
  (case D13=>walk_at "dd2")
  (case D14=>walk_at "dd2")
  (case D15=>walk_at "dd2")
  (case D16=>walk_at "dd2")
  case a17=>k_is
  (case d17=>walk_at "df")
  case q17 | a18=>k_is
  (case d18=>walk_at "df")
  case q18=>k_is
  (case D19=>walk_at "dd2")
  (case D20=>walk_at "dd2")
  (case D21=>walk_at "dd1")
  (case D22=>walk_at "dd2")
  (case D23=>walk_at "dd2")
  (case D24=>walk_at "dd2")
  (case D25=>walk_at "dd2")
  (case D26=>walk_at "dd1")
  (case D27=>walk_at "dd2")
  (case D28=>walk_at "dd3")
  (case D29=>walk_at "dd2")
  (case D30=>walk_at "dd3")
  (case D31=>walk_at "dd2")
  (case D32=>walk_at "dd2")
  (case D33=>walk_at "dd2")
  (case D34=>walk_at "dd3")
  (case D35=>walk_at "dd5")
  (case D36=>walk_at "dd1")
  (case D37=>walk_at "dd3")
  (case D38=>walk_at "dd2")
  (case D39=>walk_at "dd1")
  (case D40=>walk_at "dd1")
  (case D41=>walk_at "dd2")
  (case D42=>walk_at "dd3")
  (case D43=>walk_at "dd4")
  (case D44=>walk_at "dd5")
  (case D45=>walk_at "dd1")
  (case D46=>walk_at "dd1")
  (case D47=>walk_at "dd1")
  case a48 | l48 | c48 | k48=>k_is
  (case D49=>walk_at "dd6")
  (case D50=>walk_at "dd1")
  (case D51=>walk_at "dd1")
  (case D52=>walk_at "dd1")
  (case D53=>walk_at "dd1")
  case a54=>k_is
  (case d54=>walk_at "df")
  case q54=>k_is
  (case D55=>walk_at "dd1")
  (case D56=>walk_at "dd1")
  (case D57=>walk_at "dd1")
  case a58=>k_is
  (case d58=>walk_at "df")
  case q58=>k_is
  (case D59=>walk_at "dd1")
  (case D60=>walk_at "dd2")
  (case D61=>walk_at "dd1")
  case a62=>k_is
  (case d62=>walk_at "df")
  case q62 | a63=>k_is
  (case d63=>walk_at "df")
  case q63 | a64=>k_is
  (case d64=>walk_at "df")
  case q64=>k_is
  (case D65=>walk_at "dd2")
  (case D66=>walk_at "dd2")
  (case D67=>walk_at "dd2")
  (case D68=>walk_at "dd4")
  (case D69=>walk_at "dd3")
  case a70 | l70 | c70 | k70 | dl48 | yaV | yaW | yaX | yaY | yaS | ybc | yaN | yaB | yav | yaC | yb9 | yca | yah | yai | yaj | yak | yas | yaD | yaq | yan=>k_is
  case yam | yao | ybk | ybl | yaZ | ya0 | ya1 | ya2 | yaT | ybd | yaO | yaE | yaw | yaF | ycb | ycc | yaJ | yaK | yaL | yaM | yaP | ya6 | yaG | yax | yat=>k_is
  case yay | ybR | ybS | ycd | yce | ycf=>k_is
  case ycg=>rfl
  case z0 | z1 | z2 | z3 | z4 | z5 | z6 | z7 | z8 | z9 | z10 | z11 | z12 | gc0 | gc1 | gc2 | gta0 | gtl0 | xa0=>k_is
  case xb0=>k_exc
  case xa1=>k_is
  case xb1=>k_exc
  case xa2=>k_is
  case xb2=>k_exc
  case xa3=>k_is
  case xb3=>k_exc
