import PyProof.Rows.All
import Wide.All
import OpenK.AllK
import Wide.FinOn
import Lean
import KE.KSortTup
import KE.KLam
import KE.KNestM
import PyProof.EqAt
import PyProof.EqKinds
import PyProof.TupleCall
import PyProof.P3Eq
import PyProof.NeData
import PySem.Challenge.RW_sampleyard_k63_let_go
set_option Elab.async false
set_option linter.all false
set_option maxRecDepth 100000
set_option compiler.extract_closed false
noncomputable section
abbrev iP:=@if_pos
abbrev iN:=@if_neg
abbrev aB:=@absurd
def Hd.said:PySem.W.OpenLaw.wellSaid PySem.Challenge.rw_sampleyard_k63_let_go=true:=by kernel_rfl
abbrev Le:=@List.map_congr_left
abbrev Br:=@Option.some.inj
abbrev Fz:=@decide_eq_false
abbrev Ry:=@beq_eq_false_iff_ne
abbrev BK:=@PySem.Heap.lt_size
abbrev Bv:=@Nat.lt_of_lt_of_le
abbrev HN:=@Nat.lt_irrefl
abbrev BR:=@Nat.ne_of_lt
abbrev Jm:=@List.mem_filter
abbrev DN:=@List.mem_range
abbrev CJ:=@Nat.le_trans
abbrev Hx:=@Nat.le_of_lt
abbrev Px:=@List.filterMap_cons
abbrev BL:=@List.mem_cons_self
abbrev BW:=@List.mem_cons_of_mem
abbrev Al:=@List.mem_cons
abbrev Ek:=@List.mem_append
abbrev GP:=@List.mem_append_left
abbrev Cd:=@List.getElem?_eq_some_iff
abbrev Cg:=@PySem.wpAny_mono
abbrev Kr:=@Array.length_toList
abbrev Bw:=@congrArg
abbrev Ac:=@PySem.wpAny_bind
abbrev Cp:=@PySem.wpAny_holding
abbrev JK:=@PySem.wpAny_passesOwn
abbrev DX:=@Bool.false_ne_true
abbrev Gm:=@Nat.ne_of_gt
abbrev Ae:=@PySem.wpAny_pure
abbrev Bf:=@PySem.Heap.get?_push_of_some
abbrev CQ:=@PySem.Heap.get?_push_size
abbrev Am:=@Nat.le_refl
abbrev Ht:=@PyProof.Rows.callWith_type1
abbrev QV:=@List.mem_filterMap
abbrev Dc:=@List.mem_append_right
abbrev QJ:=@Int.fdiv_eq_ediv_of_nonneg
abbrev Ih:=@beq_iff_eq
abbrev By:=@List.length_cons
abbrev Bb:=@List.map_cons
abbrev Ad:=@List.length_map
abbrev Du:=@PySem.Heap.size_push
abbrev G9:=@Nat.lt_succ_self
abbrev DQ:=@Nat.zero_le
abbrev G6:=@PySem.W.kia_one
abbrev Bp:=@List.append_nil
abbrev KY:=@PySem.codeAny_mono
abbrev O1:=@PySem.wpAny_Call_Name_kw
abbrev Ir:=@Nat.le_succ
abbrev Hk:=@List.nodup_cons
abbrev Mu:=@List.of_mem_zip
abbrev CZ:=@List.length_take
abbrev Ed:=@PySem.mem_of_lookup
abbrev Fp:=@List.getElem?_append_right
abbrev JS:=@List.getElem?_replicate
abbrev Eo:=@List.getElem?_append_left
abbrev Ca:=@List.getElem?_map
abbrev GF:=@List.mem_of_getElem?
abbrev BJ:=@List.length_append
abbrev JL:=@List.length_replicate
abbrev Be:=@List.size_toArray
abbrev CV:=@if_false
abbrev Dj:=@if_true
abbrev Em:=@PySem.wpAny_field
abbrev GX:=@List.length_drop
abbrev Ju:=@PySem.wpAny_callSpecial?_slot
abbrev Qy:=@PyProof.Rows.slot_tuple_getitem
abbrev JG:=@PySem.wpAny_call_entry
abbrev J5:=@PySem.wpAny_typeOf
abbrev Hg:=@Bool.and_eq_true
abbrev Jc:=@PySem.wpAny_newObj_type
abbrev Ku:=@PySem.Heap.get?_update_self
abbrev Ke:=@PySem.Heap.get?_update_other
abbrev De:=@List.length_set
abbrev Gn:=@List.replicate_succ
abbrev Jf:=@List.flatten_cons
abbrev Dr:=@List.append_assoc
abbrev HS:=@List.length_singleton
abbrev Rm:=@Array.getElem?_toList
abbrev FN:=@Nat.succ_mul
abbrev JV:=@Nat.add_comm
abbrev Dp:=@decide_eq_true
abbrev Hr:=@Nat.lt_of_le_of_lt
abbrev NT:=@List.forIn_cons
abbrev G7:=@Nat.lt_succ_of_lt
abbrev Io:=@List.lookup_cons
abbrev Az:=@Nat.lt_trans
abbrev Bk:=@List.mem_map
abbrev Hs:=@List.drop_eq_getElem_cons
abbrev DR:=@Bool.false_eq_true
abbrev NZ:=@PySem.wpAny_pyIter_list
abbrev Ln:=@List.drop_zero
abbrev HB:=@List.take_of_length_le
abbrev RT:=@PySem.F.slot_tuple_iterator_next
abbrev Fd:=@PySem.wpAny_seqItems
abbrev Do:=@Int.toNat_natCast
abbrev Og:=@PySem.Heap.SameBut.update
abbrev Bx:=@List.length_range
abbrev QQ:=@List.getElem?_range
abbrev Aw:=@List.getElem?_eq_getElem
abbrev Jh:=@List.drop_eq_nil_of_le
abbrev Dz:=@List.map_map
abbrev Qx:=@List.range_succ_eq_map
abbrev Jk:=@PySem.F.plainAttrs_list
abbrev RJ:=@PySem.F.slot_list_append
abbrev Ox:=@PySem.F.type_list_append
abbrev J7:=@PySem.wpAny_updateSeq
abbrev Hv:=@PySem.wpAny_setField_rec
abbrev Ka:=@PySem.wpAny_onRaise
abbrev Oi:=@Array.forIn_toList
abbrev CK:=@List.not_mem_nil
abbrev Ej:=@or_false
abbrev Lq:=@PySem.codeAny_builtin
abbrev Qj:=@PySem.Around.under_plainId
abbrev QT:=@PySem.F.plain_extend_loop
abbrev Cz:=@List.map_append
abbrev Jz:=@List.length_eq_zero_iff
abbrev Ii:=@List.mem_iff_getElem
abbrev Hy:=@Nat.mod_lt
abbrev Gq:=@Int.emod_nonneg
abbrev G4:=@Int.emod_lt_of_pos
abbrev Ow:=@List.pairwise_iff_getElem
abbrev Iv:=@List.getElem_mem
abbrev HH:=@List.map_take
abbrev KJ:=@List.map_drop
abbrev Fq:=@List.pairwise_cons
abbrev Nt:=@PySem.wpAny_setState_of
abbrev Jl:=@List.mem_singleton
abbrev Jp:=@PySem.Heap.size_update
abbrev KZ:=@PySem.Heap.get?_push_ne
abbrev HX:=@Int.toNat_of_nonneg
abbrev Lh:=@Int.natAbs_natCast
abbrev Nv:=@Int.natAbs_dvd_natAbs
abbrev Qu:=@Int.mul_le_mul_of_nonneg_left
abbrev Hw:=@Int.mul_pos
abbrev Ud:=@Int.mul_le_mul_of_nonneg_right
abbrev Kf:=@Nat.min_eq_left
abbrev GC:=@List.mem_of_mem_take
abbrev Ig:=@Int.natCast_mul
abbrev Mx:=@List.mem_of_mem_drop
abbrev Je:=@Rat.num_divInt_den
abbrev Fv:=@List.filter_cons
abbrev Tc:=@List.foldl_append
abbrev Ji:=@List.filter_append
abbrev IV:=@List.filter_nil
abbrev Nk:=@List.length_filter_le
abbrev HJ:=@List.range_succ
abbrev QL:=@Nat.mul_le_mul_right
abbrev d8:=@List.length_zipWith
abbrev Fy:=@List.flatMap_cons
abbrev Hf:=@List.flatMap_append
abbrev GR:=@Nat.mul_le_mul
abbrev Jb:=@List.flatMap_nil
namespace L2
open PySem
def inClass(s:Stmt)(j:Nat):Stmt:=match s with
 | .ClassDef _ _ _ body _ _ _ _ _ _ _=>body.getD j (.Pass ⟨0,0,0,0⟩)
 | _=>.Pass ⟨0,0,0,0⟩
def Gz(s:Stmt):Arguments:=match s with
 | .FunctionDef _ a _ _ _ _ _ _ _ _=>a
 | _=>{ posonlyargs:=[],args:=[],vararg:=none,kwonlyargs:=[],kw_defaults:=[],kwarg:=none,defaults:=[] }
def Dv(s:Stmt):List Stmt:=match s with
 | .FunctionDef _ _ b _ _ _ _ _ _ _=>b
 | _=>[]
def Ax(s:Stmt):Scope:=match s with
 | .FunctionDef _ _ _ _ _ _ sc _ _ _=>sc
 | _=>{ kind:=.function,names:=[],isGenerator:=false,isCoroutine:=false }
end L2
namespace Hd
open PySem PySem.W L2
abbrev top(i:Nat):Stmt:=PySem.Challenge.pw_sampleyard_k63_let_go.main.body.getD i (.Pass ⟨0,0,0,0⟩)
noncomputable def view:Program:={ PySem.Challenge.pw_sampleyard_k63_let_go with main:={ PySem.Challenge.pw_sampleyard_k63_let_go.main with body:=[top 0,top 2,top 3,top 4,top 5,top 6,top 8,top 9,top 10,top 11,top 13,top 14,top 15,top 16,top 17,top 18,top 19,top 20,top 21,top 22,top 24,top 25,top 26,top 27,top 28,top 29,top 31,top 32,top 33,top 35,top 37,top 38,top 39,top 40,top 41,top 42,top 43,top 44,top 45,top 46,top 47,top 48,top 50,top 51,top 52,top 53,top 54,top 55,top 57,top 58,top 59,top 60,top 61,top 62,top 64,top 65,top 66,top 67,top 69,top 70,top 71,top 72,top 74,top 75,top 76,top 77,top 78,top 79,top 80,top 81,top 83,top 84,top 85,top 86,top 87,top 88,top 89,top 90,top 91,top 92,top 93,top 94,top 95,top 96,top 97] } }
abbrev S(x:String):Str:=Str.ofString x
abbrev st(x:String)(t:Nat):Value:=.str (Str.ofString x) t
abbrev en(P:Params)(x:String)(t:Nat)(v:Value):DictEntry:=⟨PyData.keyHash P (Str.ofString x),.str (Str.ofString x) t,v⟩
abbrev fd(s:Stmt)(n q:String)(an:Option Addr)(d k c e m t:Value):Data:=.func { name:=Str.ofString n,qualname:=Str.ofString q,params:=Gz s,body:=.stmts (Dv s),scope:=Ax s,globals:=mainGlobals,closure:=[],defaults:=d,kwdefaults:=k,doc:=e,pyModule:=m,annotations:=an,code:=c,closureTuple:=t,builtins:=builtinsNs }
abbrev T(xs:Array Value):Obj:=⟨.type "tuple",none,.seq xs 0,#[]⟩
abbrev F(s:Stmt)(n q:String)(an:Option Addr)(d k c e m t:Value):Obj:=⟨.type "function",none,fd s n q an d k c e m t,#[]⟩
abbrev G(i:Nat)(n:String)(c:Nat)(m:String)(t:Nat):Obj:=F (top i) n n none .none .none (.ref c) .none (st m t) .none
abbrev D(es:List DictEntry)(n:Nat):Obj:=⟨.type "dict",none,.dict (List.toArray es) n,#[]⟩
abbrev C(n:String)(a:Nat)(q:String)(b c:Nat)(d e f g h:Int)(i:Value)(j:Bool)(k:Int)(l m o p r:Value)(s t:Int)(u:Nat):Obj:=⟨.type "code",none,.fields #[st n a,st q b,st "/claim/cut.py" c,.int d 0,.int e 0,.int f 0,.int g 0,.int h 0,i,.bool j,.int k 0,l,m,o,p,r,.int s 0,.int t 0,st "/claim/cut.py" u],#[]⟩
abbrev B(n:String)(a b c:Nat)(d e:Int)(i l o p r:Nat)(s:Int)(u:Nat):Obj:=C n a n b c d e 0 0 3 (.ref i) true 181 (.ref l) .none (.ref o) (.ref p) (.ref r) s d u
abbrev E(n:String)(a b c:Nat)(d e:Int)(i l r:Nat)(s:Int)(u:Nat):Obj:=C n a n b c d e 0 0 3 (.ref i) true 181 (.ref l) .none .none .none (.ref r) s d u
abbrev L(n:String)(b m:List Value)(a:Addr)(s:List Value)(sl:Array (Option Value)):Obj:=⟨.type "type",none,.cls { name:=Str.ofString n,bases:=b,mro:=m,ns:=a,qualname:=Str.ofString n,hasDict:=true,slotNames:=[],subclasses:=s,abstract:=false,collection:=none,hasDel:=false },sl⟩
abbrev B1(n:String)(a:Nat)(d e:Int)(i s:Nat):Obj:=B n a (a+1) (a+2) d e i (i+1) (i+2) (i+3) (i+4) (Int.ofNat s) (s+1)
abbrev E1(n:String)(a:Nat)(d e:Int)(i s:Nat):Obj:=E n a (a+1) (a+2) d e i (i+1) (i+2) (Int.ofNat s) (s+1)
abbrev G1(i:Nat)(n:String)(c:Nat)(m:Value):Obj:=F (top i) n n none .none .none (.ref c) .none m .none
abbrev o0_:Value:=st "__main__" 164
abbrev o1_:Value:=st "sampleyard.whole" 278
abbrev o2_:Value:=st "sampleyard.fractions" 315
abbrev o3_:Value:=st "sampleyard.edges" 399
abbrev o4_:Value:=st "sampleyard.seen" 454
abbrev o5_:Value:=st "sampleyard.spots" 476
abbrev o6_:Value:=st "sampleyard.paint" 487
abbrev o7_:Value:=st "sampleyard.tiles" 569
abbrev o8_:Value:=st "sampleyard.corners" 676
abbrev o9_:Value:=st "sampleyard.patterns" 700
abbrev o10_:Value:=st "sampleyard.things" 730
abbrev o11_:Value:=st "law_sampleyard_k63_let_go" 993
noncomputable def heap:Params->Frag:=λP=>
  (nat_lit 2,⟨.none,none,(.dict (List.toArray []) 0),#[]⟩)::
(nat_lit 3,D [(en P "__name__" 165 (st "law_sampleyard_k63_let_go" 993)),(en P "__doc__" 166 .none),(en P "__package__" 167 .none),(en P "__loader__" 168 (.builtin "__main__.__loader__#opaque")),(en P "__spec__" 169 .none),(en P "__annotations__" 170 (.ref 6)),(en P "__builtins__" 171 (.ref 4)),(en P "__file__" 173 (st "/claim/cut.py" 172)),(en P "__cached__" 174 .none),(en P "_wall" 193 (.ref 21)),(en P "YardError" 213 (.ref 31)),(en P "BadTriangle" 229 (.ref 44)),(en P "BadThing" 245 (.ref 56)),(en P "BadFloor" 261 (.ref 68)),(en P "BadPattern" 277 (.ref 80)),(en P "is_whole" 286 (.ref 89)),(en P "is_between" 295 (.ref 96)),(en P "greatest_divisor" 306 (.ref 103)),(en P "summed_products" 314 (.ref 110)),(en P "ratio" 325 (.ref 117)),(en P "plus" 333 (.ref 124)),(en P "minus" 341 (.ref 131)),(en P "product" 349 (.ref 138)),(en P "mean_of" 358 (.ref 145)),(en P "under" 366 (.ref 152)),(en P "least_of" 375 (.ref 159)),(en P "greatest_of" 384 (.ref 166)),(en P "down" 391 (.ref 173)),(en P "is_fraction" 398 (.ref 180)),(en P "side" 411 (.ref 187)),(en P "edge_numbers" 419 (.ref 194)),(en P "edge_sum" 428 (.ref 201)),(en P "check_before_eye" 436 (.ref 208)),(en P "had" 445 (.ref 215)),(en P "weights" 453 (.ref 222)),(en P "seen_at" 463 (.ref 229)),(en P "depth_and_values" 469 (.ref 234)),(en P "weighed_h" 475 (.ref 239)),(en P "spot_at" 486 (.ref 246)),(en P "MOST_CELLS" 490 (.int (64) 489)),(en P "MOST_SPOTS" 492 (.int (16) 491)),(en P "check_floor" 500 (.ref 253)),(en P "check_spots" 506 (.ref 258)),(en P "is_spot" 513 (.ref 265)),(en P "spots_or_middle" 520 (.ref 272)),(en P "ground_or_none" 527 (.ref 279)),(en P "colour_of" 538 (.ref 286)),(en P "nearest_of" 547 (.ref 293)),(en P "layers_over" 553 (.ref 298)),(en P "laid_over" 562 (.ref 305)),(en P "cell_colour" 568 (.ref 310)),(en P "MOST_WIDE" 572 (.int (64) 571)),(en P "tiles_along" 580 (.ref 317)),(en P "tile_cells" 596 (.ref 324)),(en P "near_depth" 602 (.ref 329)),(en P "check_wide" 609 (.ref 336)),(en P "order_or_rising" 615 (.ref 341)),(en P "paint_tiles" 621 (.ref 347)),(en P "points_in" 627 (.ref 352)),(en P "looked_at" 633 (.ref 357)),(en P "far_depth" 640 (.ref 364)),(en P "look_at" 653 (.ref 371)),(en P "lesser" 661 (.ref 378)),(en P "paint_cells" 675 (.ref 385)),(en P "MOST_VALUES" 679 (.int (3) 678)),(en P "check_triangle" 687 (.ref 392)),(en P "is_corner" 693 (.ref 397)),(en P "are_values" 699 (.ref 402)),(en P "COUNTS" 707 (.ref 403)),(en P "check_pattern" 713 (.ref 408)),(en P "copied" 719 (.ref 413)),(en P "entry_at" 729 (.ref 420)),(en P "Thing" 767 (.ref 444)),(en P "Plain" 816 (.ref 486)),(en P "Shaded" 863 (.ref 526)),(en P "Patterned" 912 (.ref 566)),(en P "Glass" 970 (.ref 613)),(en P "check_values" 978 (.ref 622)),(en P "check_colour" 985 (.ref 629)),(en P "check_part" 992 (.ref 636)),(en P "_law_cell_at" 1002 (.ref 643)),(en P "_law_mixed" 1011 (.ref 650)),(en P "_law_draws" 1017 (.ref 655)),(en P "_law_corner" 1023 (.ref 660)),(en P "_law_triangles" 1029 (.ref 665)),(en P "_law_pattern" 1044 (.ref 672)),(en P "_law_thing" 1050 (.ref 677)),(en P "_law_things" 1064 (.ref 684)),(en P "_law_spots" 1075 (.ref 691)),(en P "_law_less" 1083 (.ref 698)),(en P "_law_cells" 1097 (.ref 705)),(en P "_law_cover" 1106 (.ref 712)),(en P "_law_tile_due" 1112 (.ref 717)),(en P "_law_order" 1123 (.ref 724)),(en P "law" 1129 (.ref 729))] 95)::
(nat_lit 20,B1 "_wall" 187 1 1 15 191)::
(nat_lit 21,G1 0 "_wall" 20 o0_)::
(nat_lit 22,T #[(.type "ValueError")])::
(nat_lit 30,D [(en P "__module__" 203 (st "sampleyard.errors" 194)),(en P "__firstlineno__" 207 (.int (5) 206)),(en P "__static_attributes__" 208 (.ref 29)),(en P "__weakref__" 210 (.ref 32)),(en P "__doc__" 211 .none)] 3)::
(nat_lit 31,L "YardError" [(.type "ValueError")] [(.ref 31),(.type "ValueError"),(.type "Exception"),(.type "BaseException"),(.type "object")] 30 [(.ref 44),(.ref 56),(.ref 68),(.ref 80)] #[(some (.ref 22)),none,(some (st "YardError" 196)),(some (st "YardError" 204)),(some (.builtin "ValueError.__new__")),(some (.bool true))])::
(nat_lit 32,⟨(.type "getset_descriptor"),none,(.fields #[(st "__weakref__" 209),(.ref 31),(.builtin "ExceptionGroup.__weakref__"),.none]),#[]⟩)::
(nat_lit 35,T #[(.ref 31)])::
(nat_lit 43,D [(en P "__module__" 221 (st "sampleyard.errors" 194)),(en P "__firstlineno__" 225 (.int (7) 224)),(en P "__static_attributes__" 226 (.ref 42)),(en P "__doc__" 227 .none)] 2)::
(nat_lit 44,L "BadTriangle" [(.ref 31)] [(.ref 44),(.ref 31),(.type "ValueError"),(.type "Exception"),(.type "BaseException"),(.type "object")] 43 [] #[(some (.ref 35)),none,(some (st "BadTriangle" 214)),(some (st "BadTriangle" 222)),(some (.builtin "ValueError.__new__")),(some (.bool true))])::
(nat_lit 47,T #[(.ref 31)])::
(nat_lit 55,D [(en P "__module__" 237 (st "sampleyard.errors" 194)),(en P "__firstlineno__" 241 (.int (9) 240)),(en P "__static_attributes__" 242 (.ref 54)),(en P "__doc__" 243 .none)] 2)::
(nat_lit 56,L "BadThing" [(.ref 31)] [(.ref 56),(.ref 31),(.type "ValueError"),(.type "Exception"),(.type "BaseException"),(.type "object")] 55 [] #[(some (.ref 47)),none,(some (st "BadThing" 230)),(some (st "BadThing" 238)),(some (.builtin "ValueError.__new__")),(some (.bool true))])::
(nat_lit 59,T #[(.ref 31)])::
(nat_lit 67,D [(en P "__module__" 253 (st "sampleyard.errors" 194)),(en P "__firstlineno__" 257 (.int (11) 256)),(en P "__static_attributes__" 258 (.ref 66)),(en P "__doc__" 259 .none)] 2)::
(nat_lit 68,L "BadFloor" [(.ref 31)] [(.ref 68),(.ref 31),(.type "ValueError"),(.type "Exception"),(.type "BaseException"),(.type "object")] 67 [] #[(some (.ref 59)),none,(some (st "BadFloor" 246)),(some (st "BadFloor" 254)),(some (.builtin "ValueError.__new__")),(some (.bool true))])::
(nat_lit 71,T #[(.ref 31)])::
(nat_lit 79,D [(en P "__module__" 269 (st "sampleyard.errors" 194)),(en P "__firstlineno__" 273 (.int (13) 272)),(en P "__static_attributes__" 274 (.ref 78)),(en P "__doc__" 275 .none)] 2)::
(nat_lit 80,L "BadPattern" [(.ref 31)] [(.ref 80),(.ref 31),(.type "ValueError"),(.type "Exception"),(.type "BaseException"),(.type "object")] 79 [] #[(some (.ref 71)),none,(some (st "BadPattern" 262)),(some (st "BadPattern" 270)),(some (.builtin "ValueError.__new__")),(some (.bool true))])::
(nat_lit 88,B1 "is_whole" 280 16 1 83 284)::
(nat_lit 89,G1 8 "is_whole" 88 o1_)::
(nat_lit 95,B1 "is_between" 287 18 3 90 293)::
(nat_lit 96,G1 9 "is_between" 95 o1_)::
(nat_lit 102,B1 "greatest_divisor" 296 20 1 97 304)::
(nat_lit 103,G1 10 "greatest_divisor" 102 o1_)::
(nat_lit 109,B1 "summed_products" 307 29 2 104 312)::
(nat_lit 110,G1 11 "summed_products" 109 o1_)::
(nat_lit 116,B1 "ratio" 317 32 2 111 323)::
(nat_lit 117,G1 13 "ratio" 116 o2_)::
(nat_lit 123,B1 "plus" 326 37 2 118 331)::
(nat_lit 124,G1 14 "plus" 123 o2_)::
(nat_lit 130,B1 "minus" 334 39 2 125 339)::
(nat_lit 131,G1 15 "minus" 130 o2_)::
(nat_lit 137,B1 "product" 342 41 2 132 347)::
(nat_lit 138,G1 16 "product" 137 o2_)::
(nat_lit 144,B1 "mean_of" 350 43 1 139 356)::
(nat_lit 145,G1 17 "mean_of" 144 o2_)::
(nat_lit 151,B1 "under" 359 48 2 146 364)::
(nat_lit 152,G1 18 "under" 151 o2_)::
(nat_lit 158,B1 "least_of" 367 50 1 153 373)::
(nat_lit 159,G1 19 "least_of" 158 o2_)::
(nat_lit 165,B1 "greatest_of" 376 56 1 160 382)::
(nat_lit 166,G1 20 "greatest_of" 165 o2_)::
(nat_lit 172,B1 "down" 385 62 1 167 389)::
(nat_lit 173,G1 21 "down" 172 o2_)::
(nat_lit 179,B1 "is_fraction" 392 64 1 174 396)::
(nat_lit 180,G1 22 "is_fraction" 179 o2_)::
(nat_lit 186,B1 "side" 401 71 3 181 409)::
(nat_lit 187,G1 24 "side" 186 o3_)::
(nat_lit 193,B1 "edge_numbers" 412 77 2 188 417)::
(nat_lit 194,G1 25 "edge_numbers" 193 o3_)::
(nat_lit 200,B1 "edge_sum" 420 79 3 195 426)::
(nat_lit 201,G1 26 "edge_sum" 200 o3_)::
(nat_lit 207,B1 "check_before_eye" 429 81 1 202 434)::
(nat_lit 208,G1 27 "check_before_eye" 207 o3_)::
(nat_lit 214,B1 "had" 437 85 2 209 443)::
(nat_lit 215,G1 28 "had" 214 o3_)::
(nat_lit 221,B1 "weights" 446 91 2 216 451)::
(nat_lit 222,G1 29 "weights" 221 o3_)::
(nat_lit 228,B1 "seen_at" 456 94 2 223 461)::
(nat_lit 229,G1 31 "seen_at" 228 o4_)::
(nat_lit 233,E1 "depth_and_values" 464 98 2 230 467)::
(nat_lit 234,G1 32 "depth_and_values" 233 o4_)::
(nat_lit 238,E1 "weighed_h" 470 103 2 235 473)::
(nat_lit 239,G1 33 "weighed_h" 238 o4_)::
(nat_lit 245,B1 "spot_at" 478 106 3 240 484)::
(nat_lit 246,G1 35 "spot_at" 245 o5_)::
(nat_lit 252,B1 "check_floor" 493 111 2 247 498)::
(nat_lit 253,G1 39 "check_floor" 252 o6_)::
(nat_lit 257,E1 "check_spots" 501 114 1 254 504)::
(nat_lit 258,G1 40 "check_spots" 257 o6_)::
(nat_lit 264,B1 "is_spot" 507 121 1 259 511)::
(nat_lit 265,G1 41 "is_spot" 264 o6_)::
(nat_lit 271,B1 "spots_or_middle" 514 125 1 266 518)::
(nat_lit 272,G1 42 "spots_or_middle" 271 o6_)::
(nat_lit 278,B1 "ground_or_none" 521 130 1 273 525)::
(nat_lit 279,G1 43 "ground_or_none" 278 o6_)::
(nat_lit 285,B1 "colour_of" 528 132 2 280 536)::
(nat_lit 286,G1 44 "colour_of" 285 o6_)::
(nat_lit 292,B1 "nearest_of" 539 140 1 287 545)::
(nat_lit 293,G1 45 "nearest_of" 292 o6_)::
(nat_lit 297,E1 "layers_over" 548 148 2 294 551)::
(nat_lit 298,G1 46 "layers_over" 297 o6_)::
(nat_lit 304,B1 "laid_over" 554 155 2 299 560)::
(nat_lit 305,G1 47 "laid_over" 304 o6_)::
(nat_lit 309,E1 "cell_colour" 563 158 2 306 566)::
(nat_lit 310,G1 48 "cell_colour" 309 o6_)::
(nat_lit 316,B1 "tiles_along" 573 162 2 311 578)::
(nat_lit 317,G1 51 "tiles_along" 316 o7_)::
(nat_lit 323,B1 "tile_cells" 581 164 4 318 594)::
(nat_lit 324,G1 52 "tile_cells" 323 o7_)::
(nat_lit 328,E1 "near_depth" 597 173 1 325 600)::
(nat_lit 329,G1 53 "near_depth" 328 o7_)::
(nat_lit 335,B1 "check_wide" 603 175 1 330 607)::
(nat_lit 336,G1 54 "check_wide" 335 o7_)::
(nat_lit 340,E1 "order_or_rising" 610 178 2 337 613)::
(nat_lit 341,G1 55 "order_or_rising" 340 o7_)::
(nat_lit 342,T #[.none,.none,.none])::
(nat_lit 346,E1 "paint_tiles" 616 186 7 343 619)::
(nat_lit 347,F (top 56) "paint_tiles" "paint_tiles" none (.ref 342) .none (.ref 346) .none (st "sampleyard.tiles" 569) .none)::
(nat_lit 351,E1 "points_in" 622 200 2 348 625)::
(nat_lit 352,G1 57 "points_in" 351 o7_)::
(nat_lit 356,E1 "looked_at" 628 205 2 353 631)::
(nat_lit 357,G1 58 "looked_at" 356 o7_)::
(nat_lit 363,B1 "far_depth" 634 217 1 358 638)::
(nat_lit 364,G1 59 "far_depth" 363 o7_)::
(nat_lit 370,B1 "look_at" 641 221 4 365 651)::
(nat_lit 371,G1 60 "look_at" 370 o7_)::
(nat_lit 377,B1 "lesser" 654 229 2 372 659)::
(nat_lit 378,G1 61 "lesser" 377 o7_)::
(nat_lit 384,B1 "paint_cells" 662 231 4 379 673)::
(nat_lit 385,G1 62 "paint_cells" 384 o7_)::
(nat_lit 391,B1 "check_triangle" 680 238 1 386 685)::
(nat_lit 392,G1 65 "check_triangle" 391 o8_)::
(nat_lit 396,E1 "is_corner" 688 246 1 393 691)::
(nat_lit 397,G1 66 "is_corner" 396 o8_)::
(nat_lit 401,E1 "are_values" 694 252 1 398 697)::
(nat_lit 402,G1 67 "are_values" 401 o8_)::
(nat_lit 403,T #[(.int (1) 702),(.int (2) 703),(.int (4) 704),(.int (8) 705),(.int (16) 706)])::
(nat_lit 407,E1 "check_pattern" 708 258 1 404 711)::
(nat_lit 408,G1 70 "check_pattern" 407 o9_)::
(nat_lit 412,E1 "copied" 714 268 1 409 717)::
(nat_lit 413,G1 71 "copied" 412 o9_)::
(nat_lit 419,B1 "entry_at" 720 270 3 414 727)::
(nat_lit 420,G1 72 "entry_at" 419 o9_)::
(nat_lit 433,C "__init__" 744 "Thing.__init__" 745 746 276 2 0 0 3 (.ref 428) true 181 (.ref 429) .none (.ref 430) (.ref 431) (.ref 432) 749 276 750)::
(nat_lit 434,F (inClass (top 74) 0) "__init__" "Thing.__init__" none .none .none (.ref 433) .none (st "sampleyard.things" 730) .none)::
(nat_lit 440,C "is_glass" 752 "Thing.is_glass" 753 754 281 1 0 0 3 (.ref 435) true 181 (.ref 436) .none (.ref 437) (.ref 438) (.ref 439) 756 281 757)::
(nat_lit 441,F (inClass (top 74) 1) "is_glass" "Thing.is_glass" none .none .none (.ref 440) .none (st "sampleyard.things" 730) .none)::
(nat_lit 443,D [(en P "__module__" 739 (st "sampleyard.things" 730)),(en P "__firstlineno__" 743 (.int (274) 742)),(en P "__init__" 751 (.ref 434)),(en P "is_glass" 758 (.ref 441)),(en P "__static_attributes__" 760 (.ref 442)),(en P "__dict__" 762 (.ref 445)),(en P "__weakref__" 764 (.ref 446)),(en P "__doc__" 765 .none)] 4)::
(nat_lit 444,L "Thing" [(.type "object")] [(.ref 444),(.type "object")] 443 [(.ref 486),(.ref 526),(.ref 566),(.ref 613)] #[none,none,(some (st "Thing" 732)),(some (st "Thing" 740)),(some (.builtin "object.__new__")),(some (.bool true))])::
(nat_lit 445,⟨(.type "getset_descriptor"),none,(.fields #[(st "__dict__" 761),(.ref 444),(.builtin "function.__dict__"),(.builtin "function.__dict__#set")]),#[]⟩)::
(nat_lit 446,⟨(.type "getset_descriptor"),none,(.fields #[(st "__weakref__" 763),(.ref 444),(.builtin "ExceptionGroup.__weakref__"),.none]),#[]⟩)::
(nat_lit 449,T #[(.ref 444)])::
(nat_lit 461,C "__init__" 780 "Plain.__init__" 781 782 285 3 0 0 3 (.ref 456) true 181 (.ref 457) .none (.ref 458) (.ref 459) (.ref 460) 786 285 787)::
(nat_lit 462,F (inClass (top 75) 0) "__init__" "Plain.__init__" none .none .none (.ref 461) .none (st "sampleyard.things" 730) .none)::
(nat_lit 468,C "word" 789 "Plain.word" 790 791 290 1 0 0 3 (.ref 463) true 181 (.ref 464) .none (.ref 465) (.ref 466) (.ref 467) 793 290 794)::
(nat_lit 469,F (inClass (top 75) 1) "word" "Plain.word" none .none .none (.ref 468) .none (st "sampleyard.things" 730) .none)::
(nat_lit 475,C "colour_at" 796 "Plain.colour_at" 797 798 293 2 0 0 3 (.ref 470) true 181 (.ref 471) .none (.ref 472) (.ref 473) (.ref 474) 801 293 802)::
(nat_lit 476,F (inClass (top 75) 2) "colour_at" "Plain.colour_at" none .none .none (.ref 475) .none (st "sampleyard.things" 730) .none)::
(nat_lit 482,C "like" 804 "Plain.like" 805 806 296 2 0 0 3 (.ref 477) true 181 (.ref 478) .none (.ref 479) (.ref 480) (.ref 481) 809 296 810)::
(nat_lit 483,F (inClass (top 75) 3) "like" "Plain.like" none .none .none (.ref 482) .none (st "sampleyard.things" 730) .none)::
(nat_lit 485,D [(en P "__module__" 775 (st "sampleyard.things" 730)),(en P "__firstlineno__" 779 (.int (283) 778)),(en P "__init__" 788 (.ref 462)),(en P "word" 795 (.ref 469)),(en P "colour_at" 803 (.ref 476)),(en P "like" 811 (.ref 483)),(en P "__static_attributes__" 813 (.ref 484)),(en P "__doc__" 814 .none)] 2)::
(nat_lit 486,L "Plain" [(.ref 444)] [(.ref 486),(.ref 444),(.type "object")] 485 [] #[(some (.ref 449)),none,(some (st "Plain" 768)),(some (st "Plain" 776)),(some (.builtin "object.__new__")),(some (.bool true))])::
(nat_lit 489,T #[(.ref 444)])::
(nat_lit 501,C "__init__" 829 "Shaded.__init__" 830 831 300 2 0 0 3 (.ref 496) true 181 (.ref 497) .none (.ref 498) (.ref 499) (.ref 500) 834 300 835)::
(nat_lit 502,F (inClass (top 76) 0) "__init__" "Shaded.__init__" none .none .none (.ref 501) .none (st "sampleyard.things" 730) .none)::
(nat_lit 508,C "word" 837 "Shaded.word" 838 839 304 1 0 0 3 (.ref 503) true 181 (.ref 504) .none (.ref 505) (.ref 506) (.ref 507) 841 304 842)::
(nat_lit 509,F (inClass (top 76) 1) "word" "Shaded.word" none .none .none (.ref 508) .none (st "sampleyard.things" 730) .none)::
(nat_lit 515,C "colour_at" 844 "Shaded.colour_at" 845 846 307 2 0 0 3 (.ref 510) true 181 (.ref 511) .none (.ref 512) (.ref 513) (.ref 514) 849 307 850)::
(nat_lit 516,F (inClass (top 76) 2) "colour_at" "Shaded.colour_at" none .none .none (.ref 515) .none (st "sampleyard.things" 730) .none)::
(nat_lit 522,C "like" 852 "Shaded.like" 853 854 310 2 0 0 3 (.ref 517) true 181 (.ref 518) .none (.ref 519) (.ref 520) (.ref 521) 857 310 858)::
(nat_lit 523,F (inClass (top 76) 3) "like" "Shaded.like" none .none .none (.ref 522) .none (st "sampleyard.things" 730) .none)::
(nat_lit 525,D [(en P "__module__" 824 (st "sampleyard.things" 730)),(en P "__firstlineno__" 828 (.int (298) 827)),(en P "__init__" 836 (.ref 502)),(en P "word" 843 (.ref 509)),(en P "colour_at" 851 (.ref 516)),(en P "like" 859 (.ref 523)),(en P "__static_attributes__" 860 (.ref 524)),(en P "__doc__" 861 .none)] 2)::
(nat_lit 526,L "Shaded" [(.ref 444)] [(.ref 526),(.ref 444),(.type "object")] 525 [] #[(some (.ref 489)),none,(some (st "Shaded" 817)),(some (st "Shaded" 825)),(some (.builtin "object.__new__")),(some (.bool true))])::
(nat_lit 529,T #[(.ref 444)])::
(nat_lit 541,C "__init__" 876 "Patterned.__init__" 877 878 314 3 0 0 3 (.ref 536) true 181 (.ref 537) .none (.ref 538) (.ref 539) (.ref 540) 882 314 883)::
(nat_lit 542,F (inClass (top 77) 0) "__init__" "Patterned.__init__" none .none .none (.ref 541) .none (st "sampleyard.things" 730) .none)::
(nat_lit 548,C "word" 885 "Patterned.word" 886 887 320 1 0 0 3 (.ref 543) true 181 (.ref 544) .none (.ref 545) (.ref 546) (.ref 547) 889 320 890)::
(nat_lit 549,F (inClass (top 77) 1) "word" "Patterned.word" none .none .none (.ref 548) .none (st "sampleyard.things" 730) .none)::
(nat_lit 555,C "colour_at" 892 "Patterned.colour_at" 893 894 323 2 0 0 3 (.ref 550) true 181 (.ref 551) .none (.ref 552) (.ref 553) (.ref 554) 897 323 898)::
(nat_lit 556,F (inClass (top 77) 2) "colour_at" "Patterned.colour_at" none .none .none (.ref 555) .none (st "sampleyard.things" 730) .none)::
(nat_lit 562,C "like" 900 "Patterned.like" 901 902 326 2 0 0 3 (.ref 557) true 181 (.ref 558) .none (.ref 559) (.ref 560) (.ref 561) 905 326 906)::
(nat_lit 563,F (inClass (top 77) 3) "like" "Patterned.like" none .none .none (.ref 562) .none (st "sampleyard.things" 730) .none)::
(nat_lit 565,D [(en P "__module__" 871 (st "sampleyard.things" 730)),(en P "__firstlineno__" 875 (.int (312) 874)),(en P "__init__" 884 (.ref 542)),(en P "word" 891 (.ref 549)),(en P "colour_at" 899 (.ref 556)),(en P "like" 907 (.ref 563)),(en P "__static_attributes__" 909 (.ref 564)),(en P "__doc__" 910 .none)] 2)::
(nat_lit 566,L "Patterned" [(.ref 444)] [(.ref 566),(.ref 444),(.type "object")] 565 [] #[(some (.ref 529)),none,(some (st "Patterned" 864)),(some (st "Patterned" 872)),(some (.builtin "object.__new__")),(some (.bool true))])::
(nat_lit 569,T #[(.ref 444)])::
(nat_lit 581,C "__init__" 925 "Glass.__init__" 926 927 330 4 0 0 3 (.ref 576) true 181 (.ref 577) .none (.ref 578) (.ref 579) (.ref 580) 932 330 933)::
(nat_lit 582,F (inClass (top 78) 0) "__init__" "Glass.__init__" none .none .none (.ref 581) .none (st "sampleyard.things" 730) .none)::
(nat_lit 588,C "word" 935 "Glass.word" 936 937 337 1 0 0 3 (.ref 583) true 181 (.ref 584) .none (.ref 585) (.ref 586) (.ref 587) 939 337 940)::
(nat_lit 589,F (inClass (top 78) 1) "word" "Glass.word" none .none .none (.ref 588) .none (st "sampleyard.things" 730) .none)::
(nat_lit 595,C "is_glass" 942 "Glass.is_glass" 943 944 340 1 0 0 3 (.ref 590) true 181 (.ref 591) .none (.ref 592) (.ref 593) (.ref 594) 946 340 947)::
(nat_lit 596,F (inClass (top 78) 2) "is_glass" "Glass.is_glass" none .none .none (.ref 595) .none (st "sampleyard.things" 730) .none)::
(nat_lit 602,C "colour_at" 949 "Glass.colour_at" 950 951 343 2 0 0 3 (.ref 597) true 181 (.ref 598) .none (.ref 599) (.ref 600) (.ref 601) 954 343 955)::
(nat_lit 603,F (inClass (top 78) 3) "colour_at" "Glass.colour_at" none .none .none (.ref 602) .none (st "sampleyard.things" 730) .none)::
(nat_lit 609,C "like" 957 "Glass.like" 958 959 346 2 0 0 3 (.ref 604) true 181 (.ref 605) .none (.ref 606) (.ref 607) (.ref 608) 962 346 963)::
(nat_lit 610,F (inClass (top 78) 4) "like" "Glass.like" none .none .none (.ref 609) .none (st "sampleyard.things" 730) .none)::
(nat_lit 612,D [(en P "__module__" 920 (st "sampleyard.things" 730)),(en P "__firstlineno__" 924 (.int (328) 923)),(en P "__init__" 934 (.ref 582)),(en P "word" 941 (.ref 589)),(en P "is_glass" 948 (.ref 596)),(en P "colour_at" 956 (.ref 603)),(en P "like" 964 (.ref 610)),(en P "__static_attributes__" 967 (.ref 611)),(en P "__doc__" 968 .none)] 2)::
(nat_lit 613,L "Glass" [(.ref 444)] [(.ref 613),(.ref 444),(.type "object")] 612 [] #[(some (.ref 569)),none,(some (st "Glass" 913)),(some (st "Glass" 921)),(some (.builtin "object.__new__")),(some (.bool true))])::
(nat_lit 621,B1 "check_values" 971 348 2 616 976)::
(nat_lit 622,G1 79 "check_values" 621 o10_)::
(nat_lit 628,B1 "check_colour" 979 351 1 623 983)::
(nat_lit 629,G1 80 "check_colour" 628 o10_)::
(nat_lit 635,B1 "check_part" 986 354 1 630 990)::
(nat_lit 636,G1 81 "check_part" 635 o10_)::
(nat_lit 642,B1 "_law_cell_at" 995 358 2 637 1000)::
(nat_lit 643,G1 83 "_law_cell_at" 642 o11_)::
(nat_lit 649,B1 "_law_mixed" 1003 362 2 644 1009)::
(nat_lit 650,G1 84 "_law_mixed" 649 o11_)::
(nat_lit 654,E1 "_law_draws" 1012 368 2 651 1015)::
(nat_lit 655,G1 85 "_law_draws" 654 o11_)::
(nat_lit 659,E1 "_law_corner" 1018 370 2 656 1021)::
(nat_lit 660,G1 86 "_law_corner" 659 o11_)::
(nat_lit 664,E1 "_law_triangles" 1024 389 4 661 1027)::
(nat_lit 665,G1 87 "_law_triangles" 664 o11_)::
(nat_lit 671,B1 "_law_pattern" 1030 402 2 666 1042)::
(nat_lit 672,G1 88 "_law_pattern" 671 o11_)::
(nat_lit 676,E1 "_law_thing" 1045 413 2 673 1048)::
(nat_lit 677,G1 89 "_law_thing" 676 o11_)::
(nat_lit 683,B1 "_law_things" 1051 427 3 678 1062)::
(nat_lit 684,G1 90 "_law_things" 683 o11_)::
(nat_lit 690,B1 "_law_spots" 1065 434 1 685 1073)::
(nat_lit 691,G1 91 "_law_spots" 690 o11_)::
(nat_lit 697,B1 "_law_less" 1076 444 2 692 1081)::
(nat_lit 698,G1 92 "_law_less" 697 o11_)::
(nat_lit 704,B1 "_law_cells" 1084 446 4 699 1095)::
(nat_lit 705,G1 93 "_law_cells" 704 o11_)::
(nat_lit 711,B1 "_law_cover" 1098 454 1 706 1104)::
(nat_lit 712,G1 94 "_law_cover" 711 o11_)::
(nat_lit 716,E1 "_law_tile_due" 1107 462 3 713 1110)::
(nat_lit 717,G1 95 "_law_tile_due" 716 o11_)::
(nat_lit 723,B1 "_law_order" 1113 481 2 718 1121)::
(nat_lit 724,G1 96 "_law_order" 723 o11_)::
(nat_lit 728,E1 "law" 1124 489 1 725 1127)::
(nat_lit 729,G1 97 "law" 728 o11_)::
[]
noncomputable abbrev addrs:List Addr:=[2,3,20,21,22,30,31,32,35,43,44,47,55,56,59,67,68,71,79,80,88,89,95,96,102,103,109,110,116,117,123,124,130,131,137,138,144,145,151,152,158,159,165,166,172,173,179,180,186,187,193,194,200,201,207,208,214,215,221,222,228,229,233,234,238,239,245,246,252,253,257,258,264,265,271,272,278,279,285,286,292,293,297,298,304,305,309,310,316,317,323,324,328,329,335,336,340,341,342,346,347,351,352,356,357,363,364,370,371,377,378,384,385,391,392,396,397,401,402,403,407,408,412,413,419,420,433,434,440,441,443,444,445,446,449,461,462,468,469,475,476,482,483,485,486,489,501,502,508,509,515,516,522,523,525,526,529,541,542,548,549,555,556,562,563,565,566,569,581,582,588,589,595,596,602,603,609,610,612,613,621,622,628,629,635,636,642,643,649,650,654,655,659,660,664,665,671,672,676,677,683,684,690,691,697,698,704,705,711,712,716,717,723,724,728,729]
abbrev most:Nat:=10030
def Kc(P:Params):addrs=(heap P).map (·.1):=rfl
abbrev hook:Hook:=kHook heap addrs Kc
end Hd
namespace Hd
open PySem PySem.W PyProof.Rows
def Lf(tb:String->Option Builtin)(p:Program)(w:World)(n₀:Nat)(ann:Option Value):Nat->SharedT->Thread->Option SharedT
 | 0,_,_=>none
 | n+1,s,t=>match through t with
  | true=>some s
  | false=>match stepOk n₀ ann t with
   | false=>none
   | true=>match stepT (denote tb) p w s t with
    | some (s',t')=>Lf tb p w n₀ ann n s' t'
    | none=>none
def X4{tb:String->Option Builtin}{p:Program}{w:World}{n₀:Nat}{ann:Option Value}:∀{n:Nat} {s s':SharedT} {t:Thread},Lf tb p w n₀ ann n s t=some s'->topRun tb p w n₀ ann n s.abs t=some s'.abs
 | 0,_,_,_,h=>by cases h
 | n+1,s,s',t,h=>by
  unfold Lf at h;unfold topRun;cases he:through t with
  | true=>rw [he] at h;cases h;rfl
  | false=>
   rw [he] at h;cases hk:stepOk n₀ ann t with
   | false=>rw [hk] at h;cases h
   | true=>
    rw [hk] at h;cases hs:stepT (denote tb) p w s t with
    | none=>rw [hs] at h;cases h
    | some r=>obtain ⟨s₂,t₂⟩:=r;rw [hs] at h;rw [stepT_spec hs];exact X4 h
def RX(p:Program)(w:World)(n₀:Nat)(ann:Option Value):Nat->SharedT->Thread->Option SharedT
 | 0,_,_=>none
 | n+1,s,t=>match through t with
  | true=>some s
  | false=>match Fast.tw6613529449190102663 n₀ ann t with
   | false=>none
   | true=>match Fast.tw10156331382660048174 (Fast.tw11892475500146522536 Fast.tw14364793385576792824) p w s t with
    | some (s',t')=>RX p w n₀ ann n s' t'
    | none=>none
def YL(p:Program)(w:World)(n₀:Nat)(ann:Option Value):∀(n:Nat) (s:SharedT) (t:Thread),Lf treeTable p w n₀ ann n s t=RX p w n₀ ann n s t
 | 0,_,_=>rfl
 | n+1,s,t=>by
  unfold Lf RX;rw [Fast.te6613529449190102663,Fast.te10156331382660048174,Fast.te11892475500146522536,Fast.te14364793385576792824];cases through t with
  | true=>rfl
  | false=>
   cases Fast.tw6613529449190102663 n₀ ann t with
   | false=>rfl
   | true=>
    cases Fast.tw10156331382660048174 (Fast.tw11892475500146522536 Fast.tw14364793385576792824) p w s t with
    | none=>rfl
    | some r=>
     obtain ⟨b,a⟩:=r;have:=YL p w n₀ ann n b a;rw [Fast.te14364793385576792824] at this;exact this
def YJ(i:Nat)(t:BT):List Obj->BT
 | []=>t
 | o::r=>YJ (i+1) (t.ins i o) r
def YK(w:World)(os:OsState):SharedT:=⟨YJ 0 .nil (boot_heap w.params).objs.toList,(boot_heap w.params).objs.size,(boot_heap w.params).life,Array.mk [],boot_drawn,boot_toks,os⟩
def wI(w:World)(os:OsState):(YK w os).abs=⟨boot_heap w.params,Array.mk [],boot_drawn,boot_toks,os⟩:=by kernel_rfl
def obsT(as:List Addr)(s:SharedT):List (Option Obj):=as.map λa=>match Nat.blt a s.n with
 | true=>alive ((s.tree.get a).getD default)
 | false=>none
def oK(as:List Addr)(s:SharedT):as.map s.abs.heap.get?=obsT as s:=by
 unfold obsT;refine Le λa _=>?_;show (absHeap s.tree s.n s.life).get? a=_;unfold Heap.get?;rw [absHeap_at];by_cases h:a<s.n
 .rw [iP h,show Nat.blt a s.n=true from Nat.ble_eq.mpr h];generalize (s.tree.get a).getD default=o;obtain ⟨c,d,b,e⟩:=o;cases b<;>rfl
 .rw [iN h,show Nat.blt a s.n=false from Bool.eq_false_iff.mpr λz=>h (Nat.le_of_ble_eq_true z)]
abbrev U0{α:Type}(p:Program)(N m₀:Nat)(ann:Option Value)(f:SharedT->α)(d:α)(w:World)(os:OsState):Prop:=(RX p w m₀ ann N (YK w os) (topStub p)).map f=some d
abbrev U1{α:Type}(p q:Program)(loose:List Str)(Xt:Shared->Bool)(N m₀:Nat)(ann:Option Value)(g0:Bool)(Yt:SharedT->α)(Ya:World->α):Prop:=∀w os,U0 p N m₀ ann (λs=>((staticsOk (importedModules p.main.body) (boot_heap w.params) s.abs.heap&&namesBound p s.abs.heap&&gensDone s.abs&&laidKept (boot_heap w.params) s.abs.heap),Yt s,(Fast.tw4187177175401517315 q loose (importedModules p.main.body) Xt g0 s.abs).1)) (true,Ya w,expectedOf q) w os
abbrev U2(p q:Program)(loose:List Str)(Xt:Shared->Bool)(N m₀:Nat)(ann:Option Value)(g0:Bool):Prop:=∀w os,U0 p N m₀ ann (λs=>((Fast.tw4187177175401517315 q loose (importedModules p.main.body) Xt g0 s.abs).2.1,(Fast.tw4187177175401517315 q loose (importedModules p.main.body) Xt g0 s.abs).2.2.1,(Fast.tw4187177175401517315 q loose (importedModules p.main.body) Xt g0 s.abs).2.2.2.1)) (bltViewBooted,true,true) w os
abbrev U3(p q:Program)(loose:List Str)(Xt:Shared->Bool)(N m₀:Nat)(ann:Option Value)(g0:Bool):Prop:=∀w os,U0 p N m₀ ann (λs=>(Fast.tw4187177175401517315 q loose (importedModules p.main.body) Xt g0 s.abs).2.2.2.2) (pinGoodD (drecsOf q),plainGoodE q (looseW q loose),plainGoodD q loose,wideGood q,clsGoodW q loose) w os
def qZ{p q:Program}{loose:List Str}{Xt:Shared->Bool}{α:Type}{Yf:Shared->α}{Yt:SharedT->α}{Ya:World->α}{N m₀:Nat}{ann:Option Value}{g0:Bool}(hY:∀s,Yf s.abs=Yt s)
  (e:opening p=plainProg p.main.scope.names) (hN:Nat.ble 600 N=true) (f:∀s,fenceModules? p s=some s)
  (hz:∀w:World,((boot_heap w.params).isNs mainGlobals,(boot_heap w.params).objs.size,(boot_heap w.params).nsMap mainGlobals "__annotations__")=(true,m₀,ann))
  (h:U1 p q loose Xt N m₀ ann g0 Yt Ya) (hh:U2 p q loose Xt N m₀ ann g0) (hj:U3 p q loose Xt N m₀ ann g0) :
  LeftO p q loose Xt Yf Ya N g0:=λw=>by
 obtain ⟨s,x,D⟩:=Option.map_eq_some_iff.mp (boot_open e hN f w);unfold openEnds;rw [x];obtain ⟨n,g,d,k,b⟩:=s;obtain ⟨rfl,rfl,rfl,rfl⟩ : n=boot_heap w.params/\g=Array.mk []/\d=boot_drawn/\k=boot_toks:=by simpa using D
 obtain ⟨a,i,l⟩:=Option.map_eq_some_iff.mp (h w b);have c:(_:Option _).map _=_:=hh w b;have j:(_:Option _).map _=_:=hj w b;rw [i] at c j;rw [<-YL] at i;rw [<-Fast.te4187177175401517315] at l c j;have r:=X4 i;rw [wI] at r;obtain ⟨C,v,y⟩ : _/\_/\_:=by simpa only [Prod.mk.injEq] using hz w
 obtain ⟨u,z,t⟩ : _/\_/\_:=by simpa only [Prod.mk.injEq] using l
 obtain ⟨m,o,A⟩ : _/\_/\_:=by simpa only [Prod.mk.injEq] using Br c
 have B:openSeen q loose (importedModules p.main.body) Xt g0 a.abs=openGood q loose:=Prod.ext t (Prod.ext m (Prod.ext o (Prod.ext A (Br j))));show (topFrom treeTable p w N ⟨boot_heap w.params,Array.mk [],boot_drawn,boot_toks,b⟩).map _=_;unfold topFrom;dsimp only;rw [C]
 show (((topRun treeTable p w (boot_heap w.params).objs.size ((boot_heap w.params).nsMap mainGlobals "__annotations__") N ⟨boot_heap w.params,Array.mk [],boot_drawn,boot_toks,b⟩ (topStub p)).bind λa=>match staticsOk (importedModules p.main.body) (boot_heap w.params) a.heap&&namesBound p a.heap&&gensDone a&&laidKept (boot_heap w.params) a.heap with
   | true=>some a
   | false=>none).map _)=_
 rw [v,y,r]
 show ((match staticsOk (importedModules p.main.body) (boot_heap w.params) a.abs.heap&&namesBound p a.abs.heap&&gensDone a.abs&&laidKept (boot_heap w.params) a.abs.heap with
   | true=>some a.abs
   | false=>none).map _)=_
 rw [u];show some (openSeen q loose (importedModules p.main.body) Xt g0 a.abs,Yf a.abs)=_;rw [B,hY,z]
set_option maxRecDepth 100000 in
set_option maxHeartbeats 0 in
def l1:U1 PySem.Challenge.pw_sampleyard_k63_let_go view ["paint_tiles"] (λs=>xlAt view [] s&&recOk (RowW.records PySem.Challenge.rw_sampleyard_k63_let_go.row.toRowW) s) most 11 (some (.ref 6)) true (obsT addrs) (Hook.val hook):=λw a=>by kernel_rfl
set_option maxRecDepth 100000 in
set_option maxHeartbeats 0 in
def l2:U2 PySem.Challenge.pw_sampleyard_k63_let_go view ["paint_tiles"] (λs=>xlAt view [] s&&recOk (RowW.records PySem.Challenge.rw_sampleyard_k63_let_go.row.toRowW) s) most 11 (some (.ref 6)) true:=λw a=>by kernel_rfl
set_option maxRecDepth 100000 in
set_option maxHeartbeats 0 in
def l3:U3 PySem.Challenge.pw_sampleyard_k63_let_go view ["paint_tiles"] (λs=>xlAt view [] s&&recOk (RowW.records PySem.Challenge.rw_sampleyard_k63_let_go.row.toRowW) s) most 11 (some (.ref 6)) true:=λw a=>by kernel_rfl
def left:LeftO PySem.Challenge.pw_sampleyard_k63_let_go view ["paint_tiles"] (λs=>xlAt view [] s&&recOk (RowW.records PySem.Challenge.rw_sampleyard_k63_let_go.row.toRowW) s) (Hook.obs hook) (Hook.val hook) most :=
 qZ (oK addrs) (by kernel_rfl) (by decide) (λs=>by kernel_rfl) (λw=>by kernel_rfl) l1 l2 l3
def okO:(chainsOk view&&opensWell PySem.Challenge.rw_sampleyard_k63_let_go.row.prog&&(frees PySem.Challenge.rw_sampleyard_k63_let_go.row.toRowW&&PySem.Challenge.rw_sampleyard_k63_let_go.row.within.isEmpty))=true:=by decide +kernel
def bar:PySem.Challenge.rw_sampleyard_k63_let_go.row.prog.bare:=⟨rfl,rfl,rfl,rfl,rfl,by decide +kernel⟩
end Hd
set_option maxHeartbeats 4000000
section
open PySem PySem.Spec PyProof.Rows
abbrev ND(x:PySem.Str):=(x==("__debug__" : PySem.Str))=false
abbrev NE(x:PySem.Str):=(x==("__classdict__" : PySem.Str))=false
namespace L2
inductive V where
 | non | bl (b:Bool) | int (i:Int) | str (x:Str) | ref (a:Addr) | ty (n:String)
 deriving DecidableEq
def RelV:V->Value->Prop
 | .non,u=>u=Value.none
 | .bl b,u=>u=Value.bool b
 | .int i,u=>∃t,u=Value.int i t
 | .str x,u=>∃t,u=Value.str x t
 | .ref a,u=>u=Value.ref a
 | .ty n,u=>u=Value.type n
abbrev Vals:List V->List Value->Prop:=Paired RelV
def Vals.length(r:Vals xs us):xs.length=us.length:=Paired.length r
def Vals.get:∀{xs:List V} {us:List Value} {i:Nat} {x:V},Vals xs us->xs[i]?=some x->∃u,us[i]?=some u/\RelV x u
 | _,_,_,_,.nil,e=>by simp at e
 | _,_,0,_,.cons r _,e=>by simp at e;subst e;exact ⟨_,rfl,r⟩
 | _,_,i+1,x,.cons _ t,e=>by
  obtain ⟨u,b,a⟩:=Vals.get t (by simpa using e);exact ⟨u,by simpa using b,a⟩
def Vals.set(r:RelV x u):∀{xs:List V} {us:List Value} (i:Nat),Vals xs us->Vals (xs.set i x) (us.set i u)
 | _,_,_,.nil=>.nil
 | _,_,0,.cons _ t=>.cons r t
 | _,_,i+1,.cons q t=>.cons q (Vals.set r i t)
def Vals.append:∀{xs ys:List V} {us ws:List Value},Vals xs us->Vals ys ws->Vals (xs++ys) (us++ws)
 | _,_,_,_,.nil,s=>s
 | _,_,_,_,.cons r t,s=>.cons r (Vals.append t s)
def Vals.take:∀{xs:List V} {us:List Value} (n:Nat),Vals xs us->Vals (xs.take n) (us.take n)
 | _,_,0,_=>.nil
 | _,_,_+1,.nil=>.nil
 | _,_,n+1,.cons r t=>.cons r (Vals.take n t)
def Vals.drop:∀{xs:List V} {us:List Value} (n:Nat),Vals xs us->Vals (xs.drop n) (us.drop n)
 | _,_,0,r=>r
 | _,_,_+1,.nil=>.nil
 | _,_,n+1,.cons _ t=>Vals.drop n t
def RelO:Option V->Option Value->Prop
 | some v,some u=>RelV v u
 | none,none=>True
 | _,_=>False
inductive HO where
 | lst (xs:List V)
 | tup (xs:List V)
 | ins (C dx:Addr) (fs:List (Str×V))
 | own (x:Addr)
 | xd (fs:List (Str×V))
 | frz (o:Obj) (u:HO)
 | tbl (ps:Array Value)
 | ext (φ:Heap->Prop)
abbrev Hp:=Addr->Option HO
def upd(H:Hp)(a:Addr)(o:HO):Hp:=λb=>if b=a then some o else H b
def An:upd H a o a=some o:=by unfold upd;rw [iP rfl]
def Ag(h:b≠a):upd H a o b=H b:=by unfold upd;rw [iN h]
def Ay{H:Hp}{a b:Addr}{o:HO}(h:H a=some o)(h':H b=none):a≠b:=by
 intro e;subst e;rw [h] at h';cases h'
section
variable(P:Program)(w:World)
def Dt(P:Program)(w:World)(H:Hp)(h:Heap)(a:Addr):HO->Prop
 | .lst c=>c.length<=sizeLine/\∃b n,Vals c b/\h.get? a=some { cls:=.type "list",data:=.seq b.toArray n }
 | .tup c=>c.length<=sizeLine/\∃b,Vals c b/\IsTup h a b.toArray
 | .ins C dx fs=>H dx=some (.own a)/\fs.length<=1000/\dx≠a/\h.get? a=some (W.instObj C dx) /\
   ∃d,h.Ns1 dx d/\(∀f,RelO (fs.lookup f) (d f))/\PySem.Within d (fs.map (·.1))
 | .own _=>∃o,h.get? a=some o
 | .xd fs=>∃d,h.Ns1 a d/\∀f,RelO (fs.lookup f) (d f)
 | .frz o u=>h.get? a=some o/\Dt P w H h a u
 | .tbl ps=>h.get? a=some { cls:=.none,data:=.fields ps }
 | .ext φ=>φ h/\(∃o,h.get? a=some o)/\∀j e,φ j->(∀o,j.get? a=some o->e.get? a=some o)->φ e
def HOk(H:Hp)(h:Heap):Prop:=∀a o,H a=some o->Dt P w H h a o
end
section
variable{P:Program}{w:World}{H H':Hp}{h h':Heap}{a:Addr}{o:HO}
def Dt.lt(x:Dt P w H h a o):a<h.objs.size:=by
 cases o with
 | lst xs=>obtain ⟨_,_,_,_,e⟩:=x;exact BK e
 | tup xs=>obtain ⟨_,_,_,p⟩:=x;exact p.lt
 | ins C dx fs=>obtain ⟨_,_,_,e,_⟩:=x;exact BK e
 | own y=>obtain ⟨_,e⟩:=x;exact BK e
 | xd fs=>obtain ⟨_,⟨_,_,_,e,_⟩,_⟩:=x;exact BK e
 | frz ob u=>obtain ⟨e,_⟩:=x;exact BK e
 | tbl ps=>exact BK (x)
 | ext φ=>obtain ⟨_,⟨_,e⟩,_⟩:=x;exact BK e
def Dt.stay(x:Dt P w H h a o)(k:∀b u,(b=a\/H b=some (.own a))->h.get? b=some u->h'.get? b=some u)(ho:∀b,H b=some (.own a)->H' b=some (.own a))(ht:∀b xs,H b=some (.tup xs)->H' b=some (.tup xs)):Dt P w H' h' a o:=by
 induction o with
 | lst xs=>obtain ⟨z,its,n,r,e⟩:=x;exact ⟨z,its,n,r,k _ _ (.inl rfl) e⟩
 | tup xs=>obtain ⟨z,its,r,g,e,c⟩:=x;exact ⟨z,its,r,g,k _ _ (.inl rfl) e,c⟩
 | ins C dx fs=>
  obtain ⟨d,z,A,e,m,⟨l,j,i,s,c⟩,r⟩:=x;exact ⟨ho _ d,z,A,k _ _ (.inl rfl) e,m,⟨l,j,i,k _ _ (.inr d) s,c⟩,r⟩
 | own y=>obtain ⟨g,e⟩:=x;exact ⟨g,k _ _ (.inl rfl) e⟩
 | xd fs=>obtain ⟨m,⟨l,j,i,e,c⟩,r⟩:=x;exact ⟨m,⟨l,j,i,k _ _ (.inl rfl) e,c⟩,r⟩
 | frz g u ih=>obtain ⟨e,q⟩:=x;exact ⟨k _ _ (.inl rfl) e,ih q⟩
 | tbl ps=>
  have e:=x;exact k a _ (.inl rfl) e
 | ext φ=>obtain ⟨p,⟨o,e⟩,st⟩:=x;exact ⟨st _ _ p λo q=>k _ _ (.inl rfl) q,⟨o,k _ _ (.inl rfl) e⟩,st⟩
def HOk.lt(x:HOk P w H h)(e:H a=some o):a<h.objs.size:=(x a o e).lt
def HOk.fresh(x:HOk P w H h)(e:h.objs.size<=a):H a=none:=by
 cases q:H a with
 | none=>rfl
 | some u=>exact aB (Bv (x.lt q) e) (HN _)
def HOk.kept(x:HOk P w H h)(k:∀b u,h.get? b=some u->h'.get? b=some u):HOk P w H h':=λa o e=>
 (x a o e).stay (λb u _ q=>k b u q) (λ_ q=>q) λ_ _ q=>q
def HOk.laid(x:HOk P w H h)(k:∀b u,h.get? b=some u->h'.get? b=some u)(hp:h.objs.size<=a)(new:Dt P w (upd H a o) h' a o):HOk P w (upd H a o) h':=λb u e=>by
 have d:=x.fresh hp;by_cases hb:b=a
 .subst hb;rw [An] at e;cases e;exact new
 .rw [Ag hb] at e;exact (x b u e).stay (λc v _ q=>k c v q) (λc q=>by rw [Ag (Ay q d)];exact q) λc f q=>by rw [Ag (Ay q d)];exact q
end
def Rd(H:Hp)(a:Addr)(u:HO):Prop:=H a=some u\/∃o,H a=some (.frz o u)
def Rd.ok(r:Rd H a u)(x:HOk P w H h):Dt P w H h a u:=by
 rcases r with r | ⟨o,r⟩
 .exact x a u r
 .obtain ⟨_,q⟩:=x a _ r;exact q
def Mut:Option HO->Prop
 | some (.lst _)=>True
 | some (.ins _ _ _)=>True
 | some (.ext _)=>True
 | _=>False
section
variable{P:Program}{w:World}{H:Hp}{h h':Heap}{x e:Addr}{o':HO}
def HOk.write(ok:HOk P w H h)(mu:Mut (H x))(he:e=x\/H e=some (.own x))(k:∀b u,b≠e->h.get? b=some u->h'.get? b=some u)(heo:∃u,h'.get? e=some u)(new:Dt P w (upd H x o') h' x o'):HOk P w (upd H x o') h':=λb u q=>by
 have a:∀c y,H c=some (.own y)->c≠x:=λc y r z=>by subst z;rw [r] at mu;exact mu
 have d:∀c f,H c=some (.tup f)->c≠x:=λc f r z=>by subst z;rw [r] at mu;exact mu
 by_cases hb:b=x
 .subst hb;rw [An] at q;cases q;exact new
 .rw [Ag hb] at q;by_cases hbe:b=e
  .have g:H b=some (.own x):=by
    rcases he with z | z
    .exact aB (hbe.trans z) hb
    .rw [hbe];exact z
   rw [q] at g;cases g;obtain ⟨v,i⟩:=heo;exact ⟨v,by rw [hbe];exact i⟩
  .refine (ok b u q).stay (λc v hc r=>k c v ?_ r) (λc r=>by rw [Ag (a c b r)];exact r) λc f r=>by rw [Ag (d c f r)];exact r
   rcases hc with rfl | hc
   .exact hbe
   .rintro rfl;rcases he with z | z
    .exact a c b hc z
    .rw [hc] at z;cases z;exact hb rfl
end
structure Un(fs ex:List Addr)(H H':Hp)(h h':Heap):Prop where
 keep:∀b o,h.get? b=some o->H b=none->b∉fs->b∉ex->h'.get? b=some o
 slot:∀b o,h.get? b=some o->H b=none->b∈fs->b∉ex->∃sl,h'.get? b=some { o with slots:=sl }
 free:∀b o,h.get? b=some o->H b=none->b∉ex->H' b=none
 there:∀b o,h.get? b=some o->b∉ex->∃o',h'.get? b=some o'
 tups:∀b xs,H b=some (.tup xs)->H' b=some (.tup xs)
 frzs:∀b o u,H b=some (.frz o u)->H' b=some (.frz o u)
 tbls:∀b ps,H b=some (.tbl ps)->∃more,H' b=some (.tbl (ps++more))
section
variable{fs fs' ex ex':List Addr}{H H1 H2:Hp}{h h1 h2 h':Heap}{a x e:Addr}{o:HO}
def Un.any(u:Un fs ex H H1 h h1)(q:h.get? b=some ob)(n:H b=none)(hx:b∉ex):∃sl,h1.get? b=some { ob with slots:=sl }:=by
 by_cases hb:b∈fs
 .exact u.slot b ob q n hb hx
 .exact ⟨ob.slots,u.keep b ob q n hb hx⟩
def Un.trans(a:Un fs ex H H1 h h1)(b:Un fs ex H1 H2 h1 h2):Un fs ex H H2 h h2 where
 keep:=λc e q n i d=>b.keep c e (a.keep c e q n i d) (a.free c e q n d) i d
 slot:=λc e q n i d=>by
  obtain ⟨r,f⟩:=a.slot c e q n i d;obtain ⟨l,k⟩:=b.slot c _ f (a.free c e q n d) i d;exact ⟨l,k⟩
 free:=λc e q n d=>by
  obtain ⟨j,f⟩:=a.there c e q d;exact b.free c j f (a.free c e q n d) d
 there:=λc e q d=>by
  obtain ⟨j,f⟩:=a.there c e q d;exact b.there c j f d
 tups:=λc g q=>b.tups c g (a.tups c g q)
 frzs:=λc e g q=>b.frzs c e g (a.frzs c e g q)
 tbls:=λc o q=>by
  obtain ⟨m,f⟩:=a.tbls c o q;obtain ⟨p,k⟩:=b.tbls c _ f;exact ⟨m++p,by rw [k,Array.append_assoc]⟩
def Un.kept(k:∀b u,h.get? b=some u->h'.get? b=some u):Un fs ex H H h h' :=
 ⟨λb a q _ _ _=>k b a q,λb a q _ _ _=>⟨a.slots,k b a q⟩,λ_ _ _ n _=>n,λb a q _=>⟨a,k b a q⟩,λ_ _ q=>q,λ_ _ _ q=>q,λ_ c q=>⟨#[],by rw [q];simp⟩⟩
def Un.refl:Un fs ex H H h h:=Un.kept λ_ _ q=>q
def Un.laid(k:∀b u,h.get? b=some u->h'.get? b=some u)(hp:h.objs.size<=a)(hn:H a=none):Un fs ex H (upd H a o) h h' where
 keep:=λb u q _ _ _=>k b u q
 slot:=λb u q _ _ _=>⟨u.slots,k b u q⟩
 free:=λb u q n _=>by rw [Ag (BR (Bv (BK q) hp))];exact n
 there:=λb u q _=>⟨u,k b u q⟩
 tups:=λb c q=>by rw [Ag (Ay q hn)];exact q
 frzs:=λb u c q=>by rw [Ag (Ay q hn)];exact q
 tbls:=λb d q=>⟨#[],by rw [Ag (Ay q hn),q];simp⟩
def Un.write(mu:Mut (H x))(he:e=x\/H e=some (.own x))(k:∀b u,b≠e->h.get? b=some u->h'.get? b=some u)(heo:∃u,h'.get? e=some u):Un fs ex H (upd H x o) h h':=by
 have d:∀b,H b=none->b≠x:=λb n z=>by subst z;rw [n] at mu;exact mu
 have c:∀b,H b=none->b≠e:=λb n z=>by
  subst z;rcases he with r | r
  .exact d b n r
  .rw [n] at r;cases r
 have a:∀b u,H b=some u->¬Mut (some u)->b≠x:=λb u q g z=>by subst z;rw [q] at mu;exact g mu
 refine ⟨λb u q n _ _=>k b u (c b n) q,λb u q n _ _=>⟨u.slots,k b u (c b n) q⟩,λb u q n _=>by rw [Ag (d b n)];exact n,λb u q _=>?_,
  λb f q=>by rw [Ag (a b _ q λz=>z)];exact q,λb u f q=>by rw [Ag (a b _ q λz=>z)];exact q,λb i q=>⟨#[],by rw [Ag (a b _ q λz=>z),q];simp⟩⟩
 by_cases hbe:b=e
 .subst hbe;exact heo
 .exact ⟨u,k b u hbe q⟩
def Un.mono(u:Un fs ex H H1 h h1)(hs:∀b∈fs,b∈fs')(hx:∀b∈ex,b∈ex'):Un fs' ex' H H1 h h1 :=
 ⟨λb c q n d a=>u.keep b c q n (λz=>d (hs b z)) λz=>a (hx b z),λ_ _ q n _ a=>u.any q n λz=>a (hx _ z),λb c q n a=>u.free b c q n λz=>a (hx b z),λb c q a=>u.there b c q λz=>a (hx b z),u.tups,u.frzs,u.tbls⟩
end
def trk(h:Heap)(H:Hp):List Addr:=(List.range h.objs.size).filter λa=>(H a).isSome
def hidT(h:Heap)(H:Hp):Heap:=W.hideAll h (trk h H)
def yN(h)(H):(hidT h H).objs.size=h.objs.size:=W.hideAll_size _ _
def qQ(e:h.get? b=some o)(n:H b=none):(hidT h H).get? b=some o :=
 W.hideAll_get _ e λa=>by
  have q:=(Jm.mp a).2;rw [n] at q;simp at q
def f9(e:(hidT h H).get? b=some o):h.get? b=some o/\H b=none:=by
 have a:=W.of_hideAll (trk h H) e;refine ⟨a,?_⟩;cases q:H b with
 | none=>rfl
 | some x=>
  have c:b∈trk h H:=Jm.mpr ⟨DN.mpr (BK a),by simp [q]⟩;have z:(hidT h H).get? b=none:=W.hideAll_none (trk h H) c;rw [z] at e;cases e
structure Mod(K:W.Frag)(mg:Str->Option Value)(base:Heap):Prop where
 kin:K.In base
 glob:base.Ns mainGlobals mg
 blt:∃mb,base.Ns builtinsNs mb/\∀x:Str,x ≠ "__name__"->mb x=bootBuiltins x
 nolimit:base.NoLimit
structure Cx where
 prog:Program
 w:World
 K:W.Frag
 mg:Str->Option Value
 base:Heap
 A:Around
 N:List Str
 s₀:Shared
 H₀:Hp
 env:Env
 outer:List Env
 stack:List Env
 ex:List Addr
 fn:Str->Bool
 calm:Bool
 pn:List (Addr×Obj)
 xe:Value->Shared->Prop
def frs(l:List Env):List Addr:=l.filterMap (·.frame)
abbrev Cx.fs(X:Cx):List Addr:=frs X.outer
def Dd(sc:Scope)(x:Str):Prop:=sc.names.lookup x=some .local\/sc.names.lookup x=some .cell\/sc.names.lookup x=some .free
def Loc(sc:Scope)(x:Str):Prop:=sc.names.lookup x=some .local\/sc.names.lookup x=some .cell
def Look(env:Env)(h:Heap)(m:Str->Option Value)(x:Str)(u:Value):Prop :=
 (env.kindOf x=some .local/\m x=some u)\/((env.kindOf x=some .cell\/env.kindOf x=some .free)/\∃c,env.cells.lookup x=some c/\h.IsCell c (some u))
structure Cx.Ok(X:Cx):Prop where
 mod:Mod X.K X.mg X.base
 kind:X.env.scope.kind=.function
 glob:X.env.globals=mainGlobals
 blt:X.env.builtins=builtinsNs
 above:X.s₀.heap.objs.size<=X.env.locals
 inj:∀x y c,X.env.cells.lookup x=some c->X.env.cells.lookup y=some c->x=y
 has:∀x,(X.env.kindOf x=some .cell\/X.env.kindOf x=some .free)->∃c,X.env.cells.lookup x=some c
 cab:∀x c,X.fn x=true->X.env.cells.lookup x=some c->X.s₀.heap.objs.size<=c
 hd:X.calm=true->X.A.handled=none
 frames:X.A.frames=some X.stack
 stk:X.stack=X.outer\/(X.stack=X.env::X.outer/\X.env.frame=some X.env.locals)
 exf:∀b∈X.ex,b≠X.env.locals/\∀x c,X.env.cells.lookup x=some c->c≠b
 bs:∀b o,X.base.get? b=some o->X.s₀.heap.get? b=some o/\X.H₀ b=none
 bsz:X.base.objs.size<=X.s₀.heap.objs.size
 noex:∀b o,X.base.get? b=some o->b∉X.ex
 exfs:∀b∈X.ex,b∉X.fs
 funs:X.s₀.heap.FunFrames X.base X.outer
 frf:∀b∈X.fs,X.H₀ b=none
structure Inv(X:Cx)(pins:List (Addr×Obj))(Y:List (Option V))(H:Hp)(s:Shared):Prop where
 ok:X.Ok
 os:s.os=X.s₀.os
 bare:AllBare s.gens
 base:Un X.fs X.ex X.H₀ H X.s₀.heap s.heap
 loc:∃m,s.heap.Ns X.env.locals m/\∀(i:Nat) (x:Str) (v:V),X.N[i]?=some x->Y[i]?=some (some v)->Dd X.env.scope x->∃u,RelV v u/\Look X.env s.heap m x u
 cell:∀x c,X.env.cells.lookup x=some c->∃v,s.heap.IsCell c v
 free:H X.env.locals=none
 freeC:∀x c,X.env.cells.lookup x=some c->H c=none
 pin:∀p∈X.pn++pins,s.heap.get? p.1=some p.2/\H p.1=none/\p.1≠X.env.locals/\p.1∉X.fs/\∀v,p.2.data≠.cell v
 hok:HOk X.prog X.w H s.heap
 len:Y.length=X.N.length
section
variable{X:Cx}{pins:List (Addr×Obj)}{Y:List (Option V)}{H H':Hp}{s:Shared}{h':Heap}
def Cx.Ok.nofr(ok:X.Ok)(e:X.base.get? b=some o):b∉X.fs:=λa=>by
 have:=(ok.funs.mem a).1;rw [e] at this;cases this
def Inv.bs(I:Inv X pins Y H s):∀b o,X.base.get? b=some o->s.heap.get? b=some o/\H b=none:=λb o e=>
 ⟨I.base.keep b o (I.ok.bs b o e).1 (I.ok.bs b o e).2 (I.ok.nofr e) (I.ok.noex b o e),I.base.free b o (I.ok.bs b o e).1 (I.ok.bs b o e).2 (I.ok.noex b o e)⟩
def Inv.bk(I:Inv X pins Y H s):∀b o,X.base.get? b=some o->s.heap.get? b=some o:=λb o e=>(I.bs b o e).1
def Inv.mod(I:Inv X pins Y H s):Mod X.K X.mg X.base:=I.ok.mod
def Inv.kIn(I:Inv X pins Y H s):X.K.In s.heap:=I.ok.mod.kin.keeps I.bk
def Inv.lt(I:Inv X pins Y H s):X.env.locals<s.heap.objs.size:=let ⟨_,hn,_⟩:=I.loc;hn.lt
def Inv.sz(I:Inv X pins Y H s):X.s₀.heap.objs.size<=s.heap.objs.size:=CJ I.ok.above (Hx I.lt)
def Inv.nofs(I:Inv X pins Y H s)(h:s.heap.objs.size<=a):a∉X.fs:=λb=>by
 obtain ⟨_,o,c,_⟩:=I.ok.funs.mem b;exact aB (Bv (BK c) (CJ I.sz h)) (HN _)
def Inv.cne(I:Inv X pins Y H s):∀x c,X.env.cells.lookup x=some c->c≠X.env.locals:=λx c e z=>by
 obtain ⟨v,o,f,d⟩:=I.cell x c e;obtain ⟨m,⟨h,g,i,a,b,_⟩,_⟩:=I.loc;rw [z,a] at f;cases f;rw [b] at d;cases d
def Inv.funs(I:Inv X pins Y H s):s.heap.FunFrames X.base X.outer:=by
 have c:∀l,(∀b∈frs l,b∈X.fs)->X.s₀.heap.FunFrames X.base l->s.heap.FunFrames X.base l:=by
  intro l
  induction l with
  | nil=>intro _ _;trivial
  | cons env r ih=>
   intro g k;obtain ⟨m,⟨L,o,a,n,i,h⟩,j⟩:=k;have f:=g L (by unfold frs;rw [List.filterMap_cons,a];exact List.mem_cons_self);obtain ⟨p,e⟩:=I.base.slot L o i (I.ok.frf L f) f λz=>I.ok.exfs L z f;exact ⟨m,⟨L,_,a,n,e,h⟩,ih (λb d=>g b (by unfold frs;rw [List.filterMap_cons,a];exact List.mem_cons_of_mem _ d)) j⟩
 exact c X.outer (λ_ d=>d) I.ok.funs
def Inv.stack(I:Inv X pins Y H s):s.heap.FunFrames X.base X.stack:=by
 rcases I.ok.stk with e | ⟨e,hf⟩
 .rw [e];exact I.funs
 .rw [e];obtain ⟨m,a,_⟩:=I.loc;refine .cons (by rw [I.ok.kind];decide) hf a ?_ I.funs;exact Heap.get?_none_of_le (CJ I.ok.bsz I.ok.above)
def Inv.stkSub(I:Inv X pins Y H s):∀b∈frs X.stack,b∈X.env.locals::X.fs:=λb a=>by
 rcases I.ok.stk with e | ⟨e,hf⟩
 .rw [e] at a;exact BW _ a
 .rw [e] at a;unfold frs at a;rw [Px,hf] at a;exact a
def Inv.stkFree(I:Inv X pins Y H s):∀b∈frs X.stack,H b=none:=λb hb=>by
 rcases Al.mp (I.stkSub b hb) with e | hb
 .rw [e];exact I.free
 .obtain ⟨_,o,a,_⟩:=I.ok.funs.mem hb;exact I.base.free b o a (I.ok.frf b hb) λz=>I.ok.exfs b z hb
def Inv.step{g':Array GenState}{t':Nat}{d':Drawn}{ch:List Addr}(I:Inv X pins Y H s)(hch:∀b∈ch,(b∈X.ex\/X.s₀.heap.objs.size<=b)/\b≠X.env.locals/\(∀x c,X.env.cells.lookup x=some c->c≠b)/\∀p∈X.pn++pins,p.1≠b)(keep:∀b o,b≠X.env.locals->b∉X.fs->b∉ch->s.heap.get? b=some o->H b=none->h'.get? b=some o)(slot:∀b o,b≠X.env.locals->b∈X.fs->b∉ch->s.heap.get? b=some o->H b=none->∃sl,h'.get? b=some { o with slots:=sl })(free:∀b o,b∉ch->s.heap.get? b=some o->H b=none->H' b=none)(there:∀b o,b∉ch->s.heap.get? b=some o->∃o',h'.get? b=some o')(tups:∀b xs,H b=some (.tup xs)->H' b=some (.tup xs))(frzs:∀b o u,H b=some (.frz o u)->H' b=some (.frz o u))(tbls:∀b ps,H b=some (.tbl ps)->∃more,H' b=some (.tbl (ps++more)))(ns:∀m,s.heap.Ns X.env.locals m->h'.Ns X.env.locals m)(hok:HOk X.prog X.w H' h')(hg:AllBare g') :
  Inv X pins Y H' { s with heap:=h',gens:=g',drawn:=d',toks:=t' }:=by
 have A:∀b o,X.s₀.heap.get? b=some o->b≠X.env.locals:=λb o e=>BR (Bv (BK e) I.ok.above);have j:∀b o,X.s₀.heap.get? b=some o->b∉X.ex->b∉ch:=λb o e a t=>by
  rcases (hch b t).1 with z | z
  .exact a z
  .exact aB (Bv (BK e) z) (HN _)
 have g:∀x c,X.env.cells.lookup x=some c->∀v,s.heap.IsCell c v->h'.IsCell c v:=λx c e v ⟨o,y,C⟩=>by
  have f:=λz=>(hch c z).2.2.1 x c e rfl;by_cases hc:c∈X.fs
  .obtain ⟨sl,q⟩:=slot c o (I.cne x c e) hc f y (I.freeC x c e);exact ⟨_,q,C⟩
  .exact ⟨o,keep c o (I.cne x c e) hc f y (I.freeC x c e),C⟩
 refine ⟨I.ok,I.os,hg,⟨λb o e n t a=>?_,λb o e n t a=>?_,λb o e n a=>?_,λb o e a=>?_,λb xs e=>tups b xs (I.base.tups b xs e),λb o xs e=>frzs b o xs (I.base.frzs b o xs e),λb ps e=>?_⟩,?_,λx c e=>?_,?_,λx c e=>?_,λp F=>?_,hok,I.len⟩
 .exact keep b o (A b o e) t (j b o e a) (I.base.keep b o e n t a) (I.base.free b o e n a)
 .obtain ⟨sl,h⟩:=I.base.slot b o e n t a;obtain ⟨D,B⟩:=slot b _ (A b o e) t (j b o e a) h (I.base.free b o e n a);exact ⟨D,B⟩
 .obtain ⟨o',h⟩:=I.base.there b o e a;exact free b o' (j b o e a) h (I.base.free b o e n a)
 .obtain ⟨o',h⟩:=I.base.there b o e a;exact there b o' (j b o e a) h
 .obtain ⟨K,h⟩:=I.base.tbls b ps e;obtain ⟨J,B⟩:=tbls b _ h;exact ⟨K++J,by rw [B,Array.append_assoc]⟩
 .obtain ⟨m,N,M⟩:=I.loc;refine ⟨m,ns m N,λi x v h B L=>?_⟩;obtain ⟨u,r,l⟩:=M i x v h B L;refine ⟨u,r,?_⟩;rcases l with l | ⟨k,c,e,z⟩
  .exact .inl l
  .exact .inr ⟨k,c,e,g x c e _ z⟩
 .obtain ⟨v,z⟩:=I.cell x c e;exact ⟨v,g x c e v z⟩
 .obtain ⟨m,⟨o,_,_,y,_⟩,_⟩:=I.loc;exact free _ o (λz=>(hch _ z).2.1 rfl) y I.free
 .obtain ⟨v,o,y,C⟩:=I.cell x c e;exact free c o (λz=>(hch c z).2.2.1 x c e rfl) y (I.freeC x c e)
 .obtain ⟨e,n,G,E,d⟩:=I.pin p F;have f:=λz=>(hch p.1 z).2.2.2 p F rfl;exact ⟨keep p.1 p.2 G E f e n,free p.1 p.2 f e n,G,E,d⟩
def Inv.un{t':Nat}(I:Inv X pins Y H s)(u:Un X.fs [] H H' s.heap h')(hok:HOk X.prog X.w H' h'):Inv X pins Y H' { s with heap:=h',toks:=t' }:=by
 obtain ⟨m,⟨o,t,q,g,r⟩,_⟩:=id I.loc;obtain ⟨p,j⟩:=u.any g I.free (by simp)
 exact I.step (ch:=[]) (λ_ z=>nomatch z) (λb o _ f _ e n=>u.keep b o e n f (by simp)) (λb o _ f _ e n=>u.slot b o e n f (by simp)) (λb o _ e n=>u.free b o e n (by simp)) (λb o _ e=>u.there b o e (by simp)) u.tups u.frzs u.tbls (λl i=>by
  obtain ⟨k,c,d,a,h⟩:=i;rw [g] at a;cases a
  exact ⟨_,c,d,j,h⟩) hok I.bare
def Inv.call{g':Array GenState}{t':Nat}{d':Drawn}{ch:List Addr}(I:Inv X pins Y H s)(u:Un (frs X.stack) ch H H' s.heap h')(hok:HOk X.prog X.w H' h')(hg:AllBare g')(hch:∀b∈ch,(b∈X.ex\/X.s₀.heap.objs.size<=b)/\b≠X.env.locals/\(∀x c,X.env.cells.lookup x=some c->c≠b)/\∀p∈X.pn++pins,p.1≠b) :
  Inv X pins Y H' { s with heap:=h',gens:=g',drawn:=d',toks:=t' }:=by
 obtain ⟨m,⟨o,A,y,i,r⟩,_⟩:=id I.loc;obtain ⟨v,h⟩:=u.any i I.free λz=>(hch _ z).2.1 rfl
 exact I.step hch (λb o h l a e n=>u.keep b o e n (λz=>(Al.mp (I.stkSub b z)).elim h l) a) (λb o _ _ a e n=>u.any e n a) (λb o a e n=>u.free b o e n a) (λb o a e=>u.there b o e a) u.tups u.frzs u.tbls (λt k=>by
  obtain ⟨q,f,g,d,j⟩:=k;rw [i] at d;cases d
  exact ⟨_,f,g,h,j⟩) hok hg
def Inv.turned{t':Nat}{it:Addr}(I:Inv X pins Y H s)(k:∀b o,b≠it->s.heap.get? b=some o->h'.get? b=some o)(hn:H it=none)(hL:it≠X.env.locals)(h1:it∈X.ex\/X.s₀.heap.objs.size<=it)(h2:∀x c,X.env.cells.lookup x=some c->c≠it)(h3:∀p∈X.pn++pins,p.1≠it):Inv X pins Y H { s with heap:=h',toks:=t' }:=by
 have d:∀b u,H b=some u->b≠it:=λb u e z=>by rw [z,hn] at e;cases e
 refine I.step (ch:=[it]) (λb j=>?_) (λb o _ _ a e _=>k b o (λz=>a (by simp [z])) e) (λb o _ _ a e _=>⟨o.slots,k b o (λz=>a (by simp [z])) e⟩) (λ_ _ _ _ n=>n)
  (λb o a e=>⟨o,k b o (λz=>a (by simp [z])) e⟩) (λ_ _ e=>e) (λ_ _ _ e=>e) (λb l e=>⟨#[],by rw [e];simp⟩) (λm h=>?_) (λb u e=>?_) I.bare
 .have e:b=it:=by simpa using j
  subst e;exact ⟨h1,hL,h2,h3⟩
 .obtain ⟨o,i,g,f,r⟩:=h;exact ⟨o,i,g,k _ o (Ne.symm hL) f,r⟩
 .refine (I.hok b u e).stay (λc v a q=>k c v ?_ q) (λ_ q=>q) λ_ _ q=>q;rcases a with z | z
  .rw [z];exact d b u e
  .exact d c _ z
def Inv.tok(I:Inv X pins Y H s)(t):Inv X pins Y H { s with toks:=t }:=I.un (h':=s.heap) (t':=t) Un.refl I.hok
def Inv.kept(I:Inv X pins Y H s)(k:∀b u,s.heap.get? b=some u->h'.get? b=some u):Inv X pins Y H { s with heap:=h',toks:=t' }:=I.un (Un.kept k) (I.hok.kept k)
def Inv.laid(I:Inv X pins Y H s)(k:∀b u,s.heap.get? b=some u->h'.get? b=some u)(hp:s.heap.objs.size<=a)(new:Dt X.prog X.w (upd H a o) h' a o) :
  Inv X pins Y (upd H a o) { s with heap:=h',toks:=t' }:=I.un (Un.laid k hp (I.hok.fresh hp)) (I.hok.laid k hp new)
def Inv.write(I:Inv X pins Y H s)(mu:Mut (H x))(he:e=x\/H e=some (.own x))(k:∀b u,b≠e->s.heap.get? b=some u->h'.get? b=some u)(heo:∃u,h'.get? e=some u)(new:Dt X.prog X.w (upd H x o) h' x o):Inv X pins Y (upd H x o) { s with heap:=h',toks:=t' }:=I.un (Un.write mu he k heo) (I.hok.write mu he k heo new)
def Inv.weak{Y':List (Option V)}(I:Inv X pins Y H s)(hl:Y'.length=Y.length)(w:∀(i:Nat) v,Y'[i]?=some (some v)->Y[i]?=some (some v)):Inv X pins Y' H s :=
 ⟨I.ok,I.os,I.bare,I.base,let ⟨m,hn,hl'⟩:=I.loc;⟨m,hn,λi x v a c b=>hl' i x v a (w i v c) b⟩,I.cell,I.free,I.freeC,I.pin,I.hok,hl.trans I.len⟩
def Inv.pins_of(I:Inv X pins Y H s)(h:∀p∈pins',s.heap.get? p.1=some p.2/\H p.1=none/\p.1≠X.env.locals/\p.1∉X.fs/\∀v,p.2.data≠.cell v):Inv X pins' Y H s :=
 ⟨I.ok,I.os,I.bare,I.base,I.loc,I.cell,I.free,I.freeC,λp a=>(Ek.mp a).elim (λz=>I.pin p (GP _ z)) (h p),I.hok,I.len⟩
def Mv{N:List Str}(hN:N.Nodup){i j:Nat}{x:Str}(a:N[i]?=some x)(b:N[j]?=some x):i=j:=by
 obtain ⟨f,d⟩:=Cd.mp a;obtain ⟨e,c⟩:=Cd.mp b;exact (List.getElem_inj hN).mp (d.trans c.symm)
def eE(I:Inv X pins Y H s)(hN:X.N.Nodup)(hi:X.N[i]?=some x)(hx:Loc X.env.scope x)(r:RelV v u)(h:∀s',Inv X pins (Y.set i (some v)) H s'->(∃a,Heap.SameBut a s.heap s'.heap/\(a=X.env.locals\/X.env.cells.lookup x=some a))->Q () s')(hf:X.fn x=true\/X.env.scope.names.lookup x=some .local:=by first | exact .inl rfl | exact .inr rfl | assumption):wpAny M A (storeName X.env x u) Q E s:=by
 obtain ⟨m,hn,hl⟩:=id I.loc;have P:(X.env.scope.kind==.class||(X.env.scope.kind==.module&&X.env.locals != X.env.globals))=false:=by rw [I.ok.kind];rfl
 have C:i<Y.length:=by rw [I.len];exact (Cd.mp hi).1
 have G:=I.cne;have g:∀{a:Addr} {J:Heap},(∃o,s.heap.get? a=some o/\H a=none)->Heap.SameBut a s.heap J->HOk X.prog X.w H J:=λ{a J} ha f b ob e=>by
  obtain ⟨_,_,t⟩:=ha;refine (I.hok b ob e).stay (λc R hc q=>(f.2 c ?_).trans q) (λ_ q=>q) λ_ _ q=>q;rintro rfl;rcases hc with rfl | hc
  .rw [t] at e;cases e
  .rw [t] at hc;cases hc
 rcases hx with hk | hk
 .refine wpAny_storeName_local hk hn (λJ hn' f=>?_) P;obtain ⟨oL,_,_,hoL,_⟩:=id hn;refine h _ ⟨I.ok,I.os,I.bare,⟨λb o e n F hx=>?_,λb o e n F hx=>?_,I.base.free,λb o e hx=>?_,I.base.tups,I.base.frzs,I.base.tbls⟩,⟨_,hn',λj y v' l B e3=>?_⟩,λy c e=>?_,I.free,I.freeC,λp hp=>?_,g ⟨oL,hoL,I.free⟩ f,by simpa using I.len⟩ ⟨_,f,.inl rfl⟩
  .exact (f.2 b (BR (Bv (BK e) I.ok.above))).trans (I.base.keep b o e n F hx)
  .obtain ⟨W,l⟩:=I.base.slot b o e n F hx;exact ⟨W,(f.2 b (BR (Bv (BK e) I.ok.above))).trans l⟩
  .obtain ⟨U,l⟩:=I.base.there b o e hx;exact ⟨U,(f.2 b (BR (Bv (BK e) I.ok.above))).trans l⟩
  .by_cases hj:j=i
   .subst hj;rw [hi] at l;cases l;rw [List.getElem?_set_self C] at B;cases B;exact ⟨u,r,.inl ⟨hk,by simp⟩⟩
   .rw [List.getElem?_set_ne (Ne.symm hj)] at B;obtain ⟨u',V,q⟩:=hl j y v' l B e3;refine ⟨u',V,?_⟩;rcases q with ⟨k,e⟩ | ⟨k,c,e,z⟩
    .refine .inl ⟨k,?_⟩;have:y≠x:=λe=>hj (Mv hN l (e▸hi));simp [this,e]
    .exact .inr ⟨k,c,e,z.sameBut f (G y c e)⟩
  .obtain ⟨R,z⟩:=I.cell y c e;exact ⟨R,z.sameBut f (G y c e)⟩
  .obtain ⟨e,n,T,Z,d⟩:=I.pin p hp;exact ⟨(f.2 p.1 T).trans e,n,T,Z,d⟩
 .have D:X.fn x=true:=by
   rcases hf with z | z
   .exact z
   .rw [z] at hk;cases hk
  obtain ⟨c,hc⟩:=I.ok.has x (.inl hk);obtain ⟨R,z⟩:=I.cell x c hc;refine wpAny_storeName_cell I.ok.kind hk hc z (λJ L f=>?_);obtain ⟨oc,K,O⟩:=id z;refine h { s with heap:=J } ⟨I.ok,I.os,I.bare,⟨λb o e n F hx=>?_,λb o e n F hx=>?_,I.base.free,λb o e hx=>?_,I.base.tups,I.base.frzs,I.base.tbls⟩,⟨m,hn.sameBut f (Ne.symm (G x c hc)),λj y v' l B e3=>?_⟩,λy S e=>?_,I.free,I.freeC,λp hp=>?_,g ⟨oc,K,I.freeC x c hc⟩ f,by simpa using I.len⟩ ⟨c,f,.inr hc⟩
  .exact (f.2 b (BR (Bv (BK e) (I.ok.cab x c D hc)))).trans (I.base.keep b o e n F hx)
  .obtain ⟨W,l⟩:=I.base.slot b o e n F hx;exact ⟨W,(f.2 b (BR (Bv (BK e) (I.ok.cab x c D hc)))).trans l⟩
  .obtain ⟨U,l⟩:=I.base.there b o e hx;exact ⟨U,(f.2 b (BR (Bv (BK e) (I.ok.cab x c D hc)))).trans l⟩
  .by_cases hj:j=i
   .subst hj;rw [hi] at l;cases l;rw [List.getElem?_set_self C] at B;cases B;exact ⟨u,r,.inr ⟨.inl hk,c,hc,L⟩⟩
   .rw [List.getElem?_set_ne (Ne.symm hj)] at B;obtain ⟨u',V,q⟩:=hl j y v' l B e3;refine ⟨u',V,?_⟩;rcases q with q | ⟨k,S,e,z'⟩
    .exact .inl q
    .refine .inr ⟨k,S,e,z'.sameBut f ?_⟩;rintro rfl;exact hj (Mv hN l (I.ok.inj _ _ _ e hc▸hi))
  .by_cases hcc:S=c
   .subst hcc;exact ⟨_,L⟩
   .obtain ⟨w2,z2⟩:=I.cell y S e;exact ⟨w2,z2.sameBut f hcc⟩
  .obtain ⟨e,n,T,Z,d⟩:=I.pin p hp;refine ⟨(f.2 p.1 ?_).trans e,n,T,Z,d⟩;intro q;rw [q,K] at e;have q':=Br e;exact d R (by rw [<-q'];exact O)
def R3(I:Inv X pins Y H s)(hN:X.N.Nodup)(hi:X.N[i]?=some x)(hx:Loc X.env.scope x)(r:RelV v u)(h:∀s',Inv X pins (Y.set i (some v)) H s'->Q () s')(hf:X.fn x=true\/X.env.scope.names.lookup x=some .local:=by first | exact .inl rfl | exact .inr rfl | assumption):wpAny M A (storeName X.env x u) Q E s :=
 eE I hN hi hx r (λs' a _=>h s' a) hf
def Inv.call'(I:Inv X pins Y H s)(ho:s'.os=s.os)(u:Un (frs X.stack) ch H H' s.heap s'.heap)(hok:HOk X.prog X.w H' s'.heap)(hg:AllBare s'.gens)(hch:∀b∈ch,(b∈X.ex\/X.s₀.heap.objs.size<=b)/\b≠X.env.locals/\(∀x c,X.env.cells.lookup x=some c->c≠b)/\∀p∈X.pn++pins,p.1≠b):Inv X pins Y H' s':=by
 obtain ⟨g,h,f,a,d⟩:=s';have e:=ho;subst e;exact I.call u hok hg hch
end
abbrev XK:=Value->Option Addr->Hp->Prop
abbrev St:=List (Option V)
abbrev VK:=V->Hp->Prop
abbrev TE:=St->Hp->VK->Prop
abbrev TT:=St->Hp->(Bool->Hp->Prop)->Prop
abbrev TA:=St->Hp->(List V->Hp->Prop)->Prop
structure Ends where
 nx:St->Hp->Prop
 rt:VK
 bk:St->Hp->Prop:=λ_ _=>False
 ct:St->Hp->Prop:=λ_ _=>False
abbrev TS:=Ends->St->Hp->Prop
def EP(X:Cx)(pins:List (Addr×Obj))(Y:St)(Q:VK)(u:Value)(s':Shared):Prop:=∃v a,Inv X pins Y a s'/\RelV v u/\Q v a
def TP(X:Cx)(pins:List (Addr×Obj))(Y:St)(Q:Bool->Hp->Prop)(b:Bool)(s':Shared):Prop:=∃a,Inv X pins Y a s'/\Q b a
def AP(X:Cx)(pins:List (Addr×Obj))(Y:St)(Q:List V->Hp->Prop)(us:List Value)(s':Shared):Prop:=∃b a,Inv X pins Y a s'/\Vals b us/\Q b a
def SP(X:Cx)(pins:List (Addr×Obj))(D:Ends)(f:Flow)(s':Shared):Prop :=
 match f with
 | .next=>∃b a,Inv X pins b a s'/\D.nx b a
 | .brk=>∃b a,Inv X pins b a s'/\D.bk b a
 | .cont=>∃b a,Inv X pins b a s'/\D.ct b a
 | .ret u=>∃v b a,Inv X pins b a s'/\RelV v u/\D.rt v a
abbrev wX{α}(X:Cx):=@wpAny α (model X.prog X.w) X.A
def PE(X:Cx)(e:Expr)(t:TE):Prop :=
 ∀a s Y H Q,Inv X a Y H s->t Y H Q->wX X (eval e X.env) (EP X a Y Q) X.xe s
def PT(X:Cx)(e:Expr)(t:TT):Prop :=
 ∀a s Y H Q,Inv X a Y H s->t Y H Q->wX X (isTrue e X.env (eval e X.env)) (TP X a Y Q) X.xe s
def PW(X:Cx)(e:Expr)(t:TT):Prop :=
 ∀b a s Y H Q,Inv X a Y H s->t Y H Q->wX X (isTrue e X.env b) (TP X a Y Q) X.xe s
def PW.pt(h:PW X e t):PT X e t:=h _
def PA(X:Cx)(es:List Expr)(t:TA):Prop :=
 ∀b a s Y H Q,Inv X a Y H s->t Y H Q->wX X (spliced (backTo b (starEach es X.env))) (AP X a Y Q) X.xe s
def PS(X:Cx)(st:Stmt)(t:TS):Prop :=
 ∀a s Y H D,Inv X a Y H s->t D Y H->wX X (exec st X.env) (SP X a D) X.xe s
def PSs(X:Cx)(st:List Stmt)(t:TS):Prop :=
 ∀a s Y H D,Inv X a Y H s->t D Y H->wX X (execs st X.env) (SP X a D) X.xe s
def thn(h:wpAny M A t Q E s)(hQ:∀a s,Q a s->Q' a s):wpAny M A t Q' E s:=Cg h hQ λ_ _ x=>x
section
variable{X:Cx}
def tVar(i:Nat):TE:=λY H Q=>∃v,Y[i]?=some (some v)/\Q v H
def tC(v:V):TE:=λ_ H Q=>Q v H
def Dq(hN:X.N[i]?=some x)(hv:Dd X.env.scope x)(hd:ND x:=by decide)(hcd:NE x:=by decide):PE X (.Name x pos) (tVar i):=by
 intro b s Y H Q I h;obtain ⟨v,e,h⟩:=h;obtain ⟨m,f,d⟩:=I.loc;obtain ⟨u,r,l⟩:=d i x v hN e hv;have a:EP X b Y Q u s:=⟨v,H,I,r,h⟩;rcases l with ⟨hk,hm⟩ | ⟨hk,c,hc,hcell⟩
 .exact wpAny_Name (wpAny_loadName_local I.ok.kind hk f hm a) hd
 .rcases hk with hk | hk
  .exact wpAny_Name (wpAny_loadName_cell I.ok.kind hk hc hcell a) hd
  .exact wpAny_Name (wpAny_loadName_free I.ok.kind hk hc hcell a hcd) hd
def Sv{i j pos}:PE X (.Constant (.int i) j pos) (tC (.int i)):=λ_ _ _ H _ I h=>wpAny_Constant_int ⟨.int i,H,I.tok _,⟨_,rfl⟩,h⟩
def ZwG{b j pos}:PE X (.Constant (.bool b) j pos) (tC (.bl b)):=λ_ _ _ H _ I h=>Constant_bool ⟨.bl b,H,I,rfl,h⟩
def Vl{j pos}:PE X (.Constant .none j pos) (tC .non):=λ_ _ _ H _ I h=>Constant_none ⟨.non,H,I,rfl,h⟩
def eU{x j pos}:PE X (.Constant (.str x) j pos) (tC (.str x)):=λ_ _ _ H _ I h=>Calls.Constant_str ⟨.str x,H,I.tok _,⟨_,rfl⟩,h⟩
def Gl(X:Cx)(x:Str):Prop:=X.env.kindOf x=some .globalImplicit
def Pb(I:Inv X pins Y H s)(hg:Gl X x)(hm:X.mg x=some u)(h:Q u s)(hd:ND x:=by decide):wX X (eval (.Name x pos) X.env) Q E s :=
 Calls.Name_function_global I.ok.kind hg (Calls.loadGlobal_global (by rw [I.ok.glob];exact I.mod.glob.keeps I.bk) hm h) hd
def Gu(I:Inv X pins Y H s)(hg:Gl X x)(hm:X.mg x=none)(hv:bootBuiltins x=some u)(h:Q u s)(hn:x ≠ "__name__":=by decide)(hd:ND x:=by decide):wX X (eval (.Name x pos) X.env) Q E s:=by
 obtain ⟨c,b,a⟩:=I.mod.blt;exact Calls.Name_function_global I.ok.kind hg (Calls.loadGlobal_builtin (by rw [I.ok.glob];exact I.mod.glob.keeps I.bk) hm (by rw [I.ok.blt];exact b.keeps I.bk) ((a x hn).trans hv) h) hd
def T7(hg:Gl X x)(hm:X.mg x=some u)(r:RelV v u)(hd:ND x:=by decide):PE X (.Name x pos) (tC v) :=
 λ_ _ _ H _ I h=>Pb I hg hm ⟨v,H,I,r,h⟩ hd
def uI(hg:Gl X x)(hm:X.mg x=none)(hv:bootBuiltins x=some u)(r:RelV v u)(hn:x ≠ "__name__":=by decide)(hd:ND x:=by decide):PE X (.Name x pos) (tC v) :=
 λ_ _ _ H _ I h=>Gu I hg hm hv ⟨v,H,I,r,h⟩ hn hd
variable{a b:Expr}{ta tb:TE}{pos:Pos}
def tB(t:TE):TT:=λY H Q=>t Y H λx a=>∃c,x=.bl c/\Q c a
def ux(h:PE X e t)(he:∀whole,isTrue e X.env whole=(do let v <-whole;standAt e.pos;holding [v] (truthy v)):=by intro _;rfl):PT X e (tB t):=by
 intro a s Y H Q I b;refine isTrue_plain (thn (h a s Y H _ I b) λv j zq=>?_) (he _);obtain ⟨x,g,i,c,f⟩:=zq;obtain ⟨d,rfl,q⟩:=f;cases c;exact wpAny_truthy_bool ⟨g,i,q⟩
variable{tA tB':TT}{rest:List Expr}
def tAnd(t u:TT):TT:=λY H Q=>t Y H λc a=>if c=true then u Y a Q else Q false a
def tOr(t u:TT):TT:=λY H Q=>t Y H λc a=>if c=true then Q true a else u Y a Q
def tNot(t:TT):TT:=λY H Q=>t Y H λc a=>Q (!c) a
def qu(ha:PT X a tA):PW X (.BoolOp .And [a] pos) tA:=by
 intro f b s Y H Q I h;refine isTrue_and (thn (ha b s Y H Q I h) λc d e=>?_);cases c with
 | true=>exact isTrue_and_nil e
 | false=>exact e
def vK(ha:PT X a tA):PW X (.BoolOp .Or [a] pos) tA:=by
 intro f b s Y H Q I h;refine isTrue_or (thn (ha b s Y H Q I h) λc d e=>?_);cases c with
 | false=>exact isTrue_or_nil e
 | true=>exact e
def uU(ha:PT X a tA)(hb:PW X (.BoolOp .And (b::rest) pos) tB'):PW X (.BoolOp .And (a::b::rest) pos) (tAnd tA tB'):=by
 intro j d s Y H Q I h;refine isTrue_and (thn (ha d s Y H _ I h) λc i zq=>?_);obtain ⟨f,g,e⟩:=zq;cases c with
 | true=>exact hb j d i Y f Q g e
 | false=>exact ⟨f,g,e⟩
def zP(ha:PT X a tA)(hb:PW X (.BoolOp .Or (b::rest) pos) tB'):PW X (.BoolOp .Or (a::b::rest) pos) (tOr tA tB'):=by
 intro j d s Y H Q I h;refine isTrue_or (thn (ha d s Y H _ I h) λc i zq=>?_);obtain ⟨f,g,e⟩:=zq;cases c with
 | true=>exact ⟨f,g,e⟩
 | false=>exact hb j d i Y f Q g e
def yd(ha:PT X a tA):PT X (.UnaryOp .Not a pos) (tNot tA):=by
 intro b s Y H Q I h;exact isTrue_not (ha b s Y H (λc d=>Q (!c) d) I h)
def Ur(ta tb:TE):TE:=λY H Q=>ta Y H λx a=>∃c,x=.bl c/\if c=true then tb Y a Q else Q (.bl false) a
def Vn(ta:TE):TE:=λY H Q=>ta Y H λx a=>∃c,x=.bl c/\Q (.bl (!c)) a
def uE{op}(h:PE X a t):PE X (.BoolOp op [a] pos) t:=λb s Y H Q I c=>BoolOp_one (h b s Y H Q I c)
def fP(ha:PE X a ta)(hb:PE X (.BoolOp .And (b::rest) pos) tb):PE X (.BoolOp .And (a::b::rest) pos) (Ur ta tb):=by
 intro d s Y H Q I h;refine BoolOp_and (thn (ha d s Y H _ I h) λv i zq=>?_);obtain ⟨x,f,g,j,e⟩:=zq;obtain ⟨c,rfl,e⟩:=e;cases j;refine wpAny_truthy_bool ?_;cases c with
 | true=>exact hb d i Y f Q g e
 | false=>exact ⟨.bl false,f,g,rfl,e⟩
def vz(ha:PE X a ta):PE X (.UnaryOp .Not a pos) (Vn ta):=by
 intro b s Y H Q I h;refine UnaryOp_ (thn (ha b s Y H _ I h) λv i zq=>?_);obtain ⟨x,f,g,e,d⟩:=zq;obtain ⟨c,rfl,d⟩:=d;cases e;exact not_of (wpAny_truthy_bool ⟨.bl (!c),f,g,rfl,d⟩)
def tIf(t:TT)(ta tb:TE):TE:=λY H Q=>t Y H λc a=>if c=true then ta Y a Q else tb Y a Q
def oH(hc:PT X c tA)(ha:PE X a ta)(hb:PE X b tb):PE X (.IfExp c a b pos) (tIf tA ta tb):=by
 intro e s Y H Q I h;refine wpAny_IfExp (thn (hc e s Y H _ I h) λd f zq=>?_);obtain ⟨i,j,g⟩:=zq;cases d with
 | true=>exact ha e f Y i Q j g
 | false=>exact hb e f Y i Q j g
end
def SqL(K:W.Frag)(H:Hp)(a:Addr)(xs:List V):Prop :=
 Rd H a (.lst xs) \/
  ∃o b n,K.lookup a=some o/\o.cls=.type "list"/\o.dict=none/\o.data=.seq b n/\b.size<=sizeLine/\Vals xs b.toList
def SqT(K:W.Frag)(H:Hp)(a:Addr)(xs:List V):Prop :=
 Rd H a (.tup xs) \/
  ∃o b n,K.lookup a=some o/\o.cls=.type "tuple"/\o.data=.seq b n/\b.size<=sizeLine/\Vals xs b.toList
def absV:Value->Option V
 | .none=>some .non
 | .bool b=>some (.bl b)
 | .int i _=>some (.int i)
 | .str x _=>some (.str x)
 | .ref a=>some (.ref a)
 | .type n=>some (.ty n)
 | _=>none
def RelV.abs(r:RelV x u):absV u=some x:=by
 cases x with
 | non=>cases r;rfl
 | bl _=>cases r;rfl
 | int _=>obtain ⟨t,rfl⟩:=r;rfl
 | str _=>obtain ⟨t,rfl⟩:=r;rfl
 | ref _=>cases r;rfl
 | ty _=>cases r;rfl
def RelV.inj(r:RelV x u)(q:RelV y u):x=y:=Br (r.abs.symm.trans q.abs)
def Vals.inj:∀{xs ys:List V} {us:List Value},Vals xs us->Vals ys us->xs=ys
 | _,_,_,.nil,.nil=>rfl
 | _,_,_,.cons r t,.cons r' t'=>by rw [r.inj r',Vals.inj t t']
section
variable{X:Cx}{pins:List (Addr×Obj)}{Y:St}{H:Hp}{s:Shared}{a:Addr}{xs ys:List V}
def SqL.of{K:W.Frag}(h:H a=some (.lst xs)):SqL K H a xs:=.inl (.inl h)
def SqT.of{K:W.Frag}(h:H a=some (.tup xs)):SqT K H a xs:=.inl (.inl h)
def Inv.list(I:Inv X pins Y H s)(h:SqL X.K H a xs):∃its,Vals xs its/\PlainL s.heap a its.toArray/\xs.length<=sizeLine:=by
 rcases h with h | ⟨o,its,n,hk,hc,hd,hs,hz,r⟩
 .obtain ⟨z,its,n,r,e⟩:=h.ok I.hok;exact ⟨its,r,⟨_,n,e,rfl,rfl,rfl⟩,z⟩
 .refine ⟨its.toList,r,⟨o,n,I.kIn a o hk,hc,hd,by simpa using hs⟩,?_⟩;have e:=r.length;simp only [Kr] at e;omega
def Inv.tuple(I:Inv X pins Y H s)(h:SqT X.K H a xs):∃its,Vals xs its/\IsTup s.heap a its.toArray/\xs.length<=sizeLine:=by
 rcases h with h | ⟨o,its,n,hk,hc,hs,hz,r⟩
 .obtain ⟨z,its,r,p⟩:=h.ok I.hok;exact ⟨its,r,p,z⟩
 .refine ⟨its.toList,r,⟨o,I.kIn a o hk,hc,n,by simpa using hs⟩,?_⟩;have e:=r.length;simp only [Kr] at e;omega
def Inv.list_inj(I:Inv X pins Y H s)(h:SqL X.K H a xs)(h':SqL X.K H a ys):xs=ys:=by
 obtain ⟨c,r,⟨o,n,e,_,_,d⟩,_⟩:=I.list h;obtain ⟨b,i,⟨j,k,g,_,_,f⟩,_⟩:=I.list h';rw [e] at g;cases g;rw [d] at f;injection f with d1 _
 have:c=b:=by simpa using Bw Array.toList d1
 subst this;exact r.inj i
def Inv.tuple_inj(I:Inv X pins Y H s)(h:SqT X.K H a xs)(h':SqT X.K H a ys):xs=ys:=by
 obtain ⟨c,r,⟨o,e,_,n,d⟩,_⟩:=I.tuple h;obtain ⟨b,i,⟨j,g,_,k,f⟩,_⟩:=I.tuple h';rw [e] at g;cases g;rw [d] at f;injection f with d1 _
 have:c=b:=by simpa using Bw Array.toList d1
 subst this;exact r.inj i
end
section
variable{X:Cx}{st:Stmt}{rest:List Stmt}{t u:TS}{e:Expr}{te:TE}{pos:Pos}
def Gi:TS:=λD Y H=>D.nx Y H
def tSeq(t u:TS):TS:=λD Y H=>t { D with nx:=u D } Y H
def K8:PSs X [] Gi:=λ_ _ Y H _ I h=>wpAny_execs_nil ⟨Y,H,I,h⟩
def Ga(h1:PS X st t)(h2:PSs X rest u):PSs X (st::rest) (tSeq t u):=by
 intro a s Y H D I h;refine wpAny_execs_cons (thn (h1 a s Y H { D with nx:=u D } I h) λf b q=>?_)
 cases f with
 | next=>
  obtain ⟨d,c,e,q⟩:=q;exact h2 a b d c D e q
 | ret v=>exact q
 | brk=>exact q
 | cont=>exact q
def Uq(h1:PS X st t):PSs X [st] t:=by
 intro a s Y H D I h;refine wpAny_execs_cons (thn (h1 a s Y H D I h) λf b q=>?_);cases f with
 | next=>exact wpAny_execs_nil q
 | ret v=>exact q
 | brk=>exact q
 | cont=>exact q
def Kg:TS:=λD Y H=>D.ct Y H
def jh:PS X (.Continue pos) Kg:=λ_ _ Y H _ I h=>wpAny_Continue ⟨Y,H,I,h⟩
def Inv.quiet(I:Inv X pins Y H s):interactive X.env=false:=by simp [interactive,I.ok.kind]
def CG(te:TE):TS:=λD Y H=>te Y H λ_ a=>D.nx Y a
def Gp(he:PE X e te)(hs:swapsWith e none pos.line X.env=pure false:=by rfl):PS X (.Expr e pos) (CG te):=by
 intro a s Y H D I h;exact wpAny_Expr_any (thn (he a s Y H _ I h) λv f zq=>by obtain ⟨x,c,d,g,b⟩:=zq;exact ⟨Y,c,d,b⟩) I.quiet hs
def tRet(te:TE):TS:=λD Y H=>te Y H D.rt
def ao(he:PE X e te):PS X (.Return (some e) pos) (tRet te):=by
 intro a s Y H D I h;exact wpAny_Return_some (thn (he a s Y H _ I h) λv g zq=>by obtain ⟨x,d,f,b,c⟩:=zq;exact ⟨x,Y,d,f,b,c⟩)
def tIfS(c:TT)(t u:TS):TS:=λD Y H=>c Y H λb a=>if b=true then t D Y a else u D Y a
def Ob(hc:PT X c tc)(ha:PSs X a t)(hb:PSs X b u):PS X (.If c a b pos) (tIfS tc t u):=by
 intro e s Y H D I h;refine wpAny_If (thn (hc e s Y H _ I h) λd f zq=>?_);obtain ⟨i,j,g⟩:=zq;cases d with
 | true=>exact ha e f Y i D j g
 | false=>exact hb e f Y i D j g
end
abbrev TG:=V->St->Hp->(St->Hp->Prop)->Prop
abbrev TGs:=List V->St->Hp->(St->Hp->Prop)->Prop
def PG(X:Cx)(target:Expr)(t:TG):Prop :=
 ∀a s Y H v u Q,Inv X a Y H s->RelV v u->t v Y H Q ->
  wX X (assign target X.env u) (λ_ d=>∃c b,Inv X a c b d/\Q c b) X.xe s
def PGs(X:Cx)(ts:List Expr)(t:TGs):Prop :=
 ∀a s Y H e c Q,Inv X a Y H s->Vals e c->t e Y H Q ->
  wX X (assignInOrder ((assignEach ts X.env).map (·.2)) c) (λ_ f=>∃d b,Inv X a d b f/\Q d b) X.xe s
abbrev TSet:=V->V->V->Hp->(Hp->Prop)->Prop
def PSet(X:Cx)(t:TSet):Prop :=
 ∀a s Y H o i v d c u Q,Inv X a Y H s->RelV o d->RelV i c->RelV v u->t o i v H Q ->
  wX X (setItem d c u) (λ_ e=>∃b,Inv X a Y b e/\Q b) X.xe s
section
variable{X:Cx}{pos:Pos}
def Bt(i:Nat):TG:=λv Y H Q=>Q (Y.set i (some v)) H
def bR(hN:X.N.Nodup)(hi:X.N[i]?=some x)(hx:Loc X.env.scope x)(hf:X.fn x=true\/X.env.scope.names.lookup x=some .local:=by first | exact .inl rfl | exact .inr rfl | assumption):PG X (.Name x pos) (Bt i):=by
 intro a s Y H v u Q I r h;exact wpAny_assign_Name (R3 I hN hi hx r (λc b=>⟨_,H,b,h⟩) hf)
def gNil:TGs:=λa Y H Q=>a=[]/\Q Y H
def RN(t:TG)(u:TGs):TGs:=λc Y H Q=>∃v r,c=v::r/\t v Y H λb a=>u r b a Q
def gY:PGs X [] gNil:=by
 intro a s Y H c b Q I r h;obtain ⟨e,h⟩:=h;subst e;cases r;exact assignInOrder_nil ⟨Y,H,I,h⟩
def tK(h1:PG X e t)(h2:PGs X es u)(hs:(assignEach (e::es) X.env).map (·.2)=assign e X.env::(assignEach es X.env).map (·.2):=by rfl):PGs X (e::es) (RN t u):=by
 intro a s Y H l j Q I r h;obtain ⟨v,k,g,h⟩:=h;subst g;cases r with
 | cons r rr=>
  rw [hs];refine assignInOrder_cons (thn (h1 a s Y H _ _ _ I r h) λ_ b zq=>?_);obtain ⟨c,d,i,f⟩:=zq;exact h2 a b c d _ _ Q i rr f
def gTup(K:W.Frag)(n:Nat)(t:TGs):TG:=λv Y H Q=>∃a b,v=.ref a/\SqT K H a b/\b.length=n/\t b Y H Q
def nG(hc:X.calm=true)(h:PGs X es t)(hn:(assignEach es X.env).length=n:=by rfl)(hst:(assignEach es X.env).findIdx? (·.1)=none:=by rfl):PG X (.Tuple es k pos) (gTup X.K n t):=by
 intro c s Y H v u Q I r d;obtain ⟨a,i,q,p,m,d⟩:=d;subst q;cases r;obtain ⟨j,f,g,y⟩:=I.tuple p;refine assign_Tuple_tuple (I.ok.hd hc) g (by simp [hn,<-m,f.length]) hst λx l=>?_;have w:=I.kept (t':=s.toks) λb o e=>l b o (BR (BK e)) e;exact h c _ Y H i _ Q w (by simpa using f) d
def gSub(to ti:TE)(t:TSet):TG:=λv Y H Q=>to Y H λo c=>ti Y c λi a=>t o i v a λb=>Q Y b
def Rr(ho:PE X o to)(hi:PE X i ti)(hs:PSet X t) (ha:∀v,assign (.Subscript o i pos) X.env v=(do
   let ov <-holding [v] (eval o X.env)
   let iv <-holding [v,ov] (eval i X.env)
   standAt pos
   holding [v,ov,iv] (setItem ov iv v)
   release [v,ov,iv] []):=by intro _;rfl):PG X (.Subscript o i pos) (gSub to ti t):=by
 intro a s Y H v u Q I r h;rw [ha];refine Ac (Cp (thn (ho a s Y H _ I h) λov b zq=>?_));obtain ⟨x,f,q,c,p⟩:=zq;refine Ac (Cp (thn (hi a b Y f _ q p) λiv g zq=>?_));obtain ⟨y,j,k,d,e⟩:=zq;refine Ac (wpAny_standAt (Ac (Cp (thn (hs a g Y j x y v ov iv u _ k c d r e) λ_ w zq=>?_))));obtain ⟨n,m,l⟩:=zq;exact wpAny_release ⟨Y,n,m,l⟩
def tAsg(te:TE)(g:TG):TS:=λD Y H=>te Y H λx a=>g x Y a D.nx
def Oh(he:PE X e te)(hg:PG X tg g)(hs:swapsWithSole [tg] e pos.line X.env=pure false:=by rfl)(hw:swappedStores [tg] e X.env=pure none:=by rfl)(h1:(assignEach [tg] X.env).map (·.2)=[assign tg X.env]:=by rfl):PS X (.Assign [tg] e pos) (tAsg te g):=by
 intro a s Y H D I h;refine wpAny_Assign_stores (thn (he a s Y H _ I h) λv b zq=>?_) hs hw;obtain ⟨x,f,i,c,d⟩:=zq;rw [h1];exact thn (hg a b Y f x v _ i c d) λ_ j q=>q
def Nb(hN:X.N.Nodup)(hi:X.N[i]?=some x)(hx:Loc X.env.scope x)(he:PE X e te)(hs:swapsWith e (some (.Name x pos')) pos.line X.env=pure false:=by rfl)(hf:X.fn x=true\/X.env.scope.names.lookup x=some .local:=by first | exact .inl rfl | exact .inr rfl | assumption) :
  PS X (.Assign [.Name x pos'] e pos) (tAsg te (Bt i)):=by
 intro a s Y H D I h;refine wpAny_Assign_Name (thn (he a s Y H _ I h) λv j zq=>?_) hs;obtain ⟨y,f,g,b,d⟩:=zq;exact R3 g hN hi hx b (λk c=>⟨_,f,c,d⟩) hf
end
section
variable{X:Cx}{pos:Pos}
def Qs(c:TT)(tb:TS):TS:=λD Y H=>∃W:Nat->St->Hp->Prop,(∃m,W m Y H)/\∀m Y H,W m Y H ->
 c Y H λb f=>if b=true then ∃N:St->Hp->Prop,(∀e a,N e a->∃d,d<m/\W d e a)/\tb { D with nx:=N,ct:=N,bk:=D.nx } Y f else D.nx Y f
def yq(hp:PassesOwn (model X.prog X.w) X.A X.env X.xe)(hc:PT X c tc)(hb:PSs X body tb):PS X (.While c body [] pos) (Qs tc tb):=by
 intro a s Y H D I h;obtain ⟨W,⟨B,J⟩,d⟩:=h;refine wpAny_While (codeAny_whileLoop (λn K=>∃z t,Inv X a z t K/\W n z t) ?_ B ⟨Y,H,I,J⟩);rintro n C ⟨k,r,F,G⟩;refine JK hp (thn (hc a C k r _ F (d n k r G)) λb E zq=>?_);obtain ⟨x,y,j⟩:=zq;cases b with
 | true=>
  obtain ⟨N,u,j⟩:=j;rw [iP rfl];refine JK hp (thn (hb a E k x _ y j) λf L i=>?_);cases f with
  | next=>
   obtain ⟨g,e,q,l⟩:=i;obtain ⟨m,o,p⟩:=u g e l;exact ⟨m,o,g,e,q,p⟩
  | cont=>
   obtain ⟨g,e,q,l⟩:=i;obtain ⟨m,o,p⟩:=u g e l;exact ⟨m,o,g,e,q,p⟩
  | brk=>exact i
  | ret v=>exact i
 | false=>
  rw [iN DX];exact wpAny_execs_nil ⟨k,x,y,j⟩
end
structure It where
 go:Nat->Hp->Prop
 yld:Nat->Hp->V->Hp->Prop
 stop:Nat->Hp->Prop
def FpOk(X:Cx)(pins:List (Addr×Obj))(H:Hp)(b:Addr):Prop :=
 H b=none/\b≠X.env.locals/\b∉X.fs/\(b∈X.ex\/X.s₀.heap.objs.size<=b)/\(∀x c,X.env.cells.lookup x=some c->c≠b)/\∀p∈X.pn++pins,p.1≠b
def Inv.fpOk(I:Inv X pins Y H s)(hb:s.heap.objs.size<=b)(hn:H' b=none):FpOk X pins H' b:=by
 refine ⟨hn,Gm (Bv I.lt hb),I.nofs hb,.inr (CJ I.sz hb),λx c e z=>?_,λp a z=>?_⟩
 .obtain ⟨v,q⟩:=I.cell x c e;exact aB (Bv q.lt (by rw [z];exact hb)) (HN _)
 .exact aB (Bv (BK (I.pin p a).1) (by rw [z];exact hb)) (HN _)
structure Turn(P:Program)(w:World)(K:W.Frag)(tg:Expr)(J:It)(fp:List Addr)(it:Addr)(tn:Nat->Heap->Prop):Prop where
 mem:it∈fp
 obj:∀i h,tn i h->∀b∈fp,∃o,h.get? b=some o/\∀v,o.data≠.cell v
 keep:∀i h h',tn i h->(∀b∈fp,∀o,h.get? b=some o->h'.get? b=some o)->tn i h'
 item:∀(X:Cx),X.prog=P->X.w=w->X.K=K->X.calm=true->∀(i:Nat) (pins:List (Addr×Obj)) (s:Shared) (Y:St) (H:Hp) (E:Value->Shared->Prop),Inv X pins Y H s->(∀b∈fp,FpOk X pins H b)->tn i s.heap->J.go i H ->
  wpAny (model P w) X.A (pyNext (.ref it)) (λr s1=>∃u,r=some u /\
   wpAny (model P w) X.A (letOwnedTupleGo tg (.ref it) u) (λ_ s2=>∃x H',Inv X pins Y H' s2/\RelV x u/\J.yld i H x H'/\tn (i+1) s2.heap/\∀b∈fp,H' b=none) E s1) E s
 done:∀(X:Cx),X.prog=P->X.w=w->X.K=K->X.calm=true->∀(i:Nat) (pins:List (Addr×Obj)) (s:Shared) (Y:St) (H:Hp) (E:Value->Shared->Prop),Inv X pins Y H s->(∀b∈fp,FpOk X pins H b)->tn i s.heap->J.stop i H ->
  wpAny (model P w) X.A (pyNext (.ref it)) (λr s1=>r=none/\Inv X pins Y H s1) E s
 self:∀(A:Around) (i:Nat) (s:Shared) (Q:Value->Shared->Prop) (E:Value->Shared->Prop),tn i s.heap->Q (.ref it) s->wpAny (model P w) A (pyIter (.ref it)) Q E s
abbrev TI:=St->Hp->(It->Hp->Prop)->Prop
def PIE(X:Cx)(pins:List (Addr×Obj))(Y:St)(tg:Expr)(R:It->Hp->Prop)(itv:Value)(s2:Shared):Prop :=
 ∃d c e J a,itv=.ref d/\Inv X pins Y a s2/\Turn X.prog X.w X.K tg J c d e/\e 0 s2.heap/\(∀b∈c,FpOk X pins a b)/\R J a
def PI(X:Cx)(tg iter:Expr)(wi:TI):Prop :=
 ∀a s Y H R,Inv X a Y H s->wi Y H R ->
  wX X (eval iter X.env) (λv b=>wX X (pyIter v) (PIE X a Y tg R) X.xe b) X.xe s
def VB(ho:s.heap.get? it=some o)(hc:o.cls=.type n)(hd:o.data=.fields vs)(hn:["enumerate","zip","dict_itemiterator","dict_reverseitemiterator","odict_iterator","itertools.zip_longest","itertools.pairwise"].contains n=false)(hQ:Q () s):wpAny M A (letOwnedTupleGo tg (.ref it) u) Q E s:=by
 unfold letOwnedTupleGo;cases tg<;>first
  | exact Ae hQ
  | (cases u<;>first
    | exact Ae hQ
    | (refine Ac (wpAny_load ho ?_)
       rw [hc,hd];show wpAny M A (if (["enumerate","zip","dict_itemiterator","dict_reverseitemiterator","odict_iterator","itertools.zip_longest","itertools.pairwise"].contains n&&vs[0]?==some (rawInt _))=true then _ else _) Q E s
       rw [iN (by intro h;rw [hn,Bool.false_and] at h;cases h)]
       exact Ae hQ))
def Itl(K:W.Frag)(a:Addr):It :=
 ⟨λi H=>∃b x,SqL K H a b/\b[i]?=some x,λi H x c=>c=H/\∀b,SqL K H a b->b[i]?=some x,λi H=>∃b,SqL K H a b/\b.length<=i⟩
def Itt(K:W.Frag)(a:Addr):It :=
 ⟨λi H=>∃b x,SqT K H a b/\b[i]?=some x,λi H x c=>c=H/\∀b,SqT K H a b->b[i]?=some x,λi H=>∃b,SqT K H a b/\b.length<=i⟩
def Itr(lo:Int)(n:Nat):It:=⟨λi _=>i<n,λi H x a=>a=H/\x=.int (lo+i),λi _=>n<=i⟩
def ie{P:Program}{w:World}{K:W.Frag}{tg:Expr}(a it):Turn P w K tg (Itl K a) [it] it (λi h=>h.IsListIter it a i) where
 mem:=by simp
 obj:=λi h f b g=>by
  have e:b=it:=by simpa using g
  subst e;obtain ⟨o,e,c,d⟩:=f;exact ⟨o,e,λv z=>by rw [d] at z;cases z⟩
 keep:=λi h N f k=>f.at λo e=>k it (by simp) o e
 item:=by
  intro X A C J M i l s Y H E I n f r;subst A C J;obtain ⟨O,x,m,t⟩:=r;obtain ⟨F,D,p,T⟩:=I.list m;obtain ⟨u,Z,R⟩:=D.get t;obtain ⟨L,G,f2,q,y,B⟩:=n it (by simp);refine wpAny_pyNext_list_item f p.isList (by simpa using Z) λN j S=>?_;have U:=I.turned (t':=s.toks) (λb o g e=>(S.2 b g).trans e) L G q y B;obtain ⟨o,e,c,d⟩:=id j;exact ⟨u,rfl,VB e c d (by decide) ⟨x,H,U,R,⟨rfl,λys V=>by rw [I.list_inj V m];exact t⟩,j,λb g=>(n b g).1⟩⟩
 done:=by
  intro X A C J M i l s Y H E I n f r;subst A C J;obtain ⟨O,m,t⟩:=r;obtain ⟨F,D,p,T⟩:=I.list m;obtain ⟨L,G,f2,q,y,B⟩:=n it (by simp);have hl:=D.length;exact wpAny_pyNext_list_end (I.ok.hd M) f p.isList (by simp;omega) λN Q=>⟨rfl,I.turned (λb o g e=>Q b o g e) L G q y B⟩
 self:=λ_ _ _ _ _ f h=>wpAny_pyIter_listiter f h
def iD{P:Program}{w:World}{K:W.Frag}{tg:Expr}(a it):Turn P w K tg (Itt K a) [it] it (λi h=>h.IsTupleIter it a i) where
 mem:=by simp
 obj:=λi h f b g=>by
  have e:b=it:=by simpa using g
  subst e;obtain ⟨o,e,c,d⟩:=f;exact ⟨o,e,λv z=>by rw [d] at z;cases z⟩
 keep:=λi h N f k=>f.at λo e=>k it (by simp) o e
 item:=by
  intro X A C J M i l s Y H E I n f r;subst A C J;obtain ⟨O,x,m,t⟩:=r;obtain ⟨F,D,p,T⟩:=I.tuple m;obtain ⟨u,Z,R⟩:=D.get t;obtain ⟨L,G,f2,q,y,B⟩:=n it (by simp);refine wpAny_pyNext_tuple_item f (p) (by simpa using Z) λN j S=>?_;have U:=I.turned (t':=s.toks) (λb o g e=>(S.2 b g).trans e) L G q y B;obtain ⟨o,e,c,d⟩:=id j;exact ⟨u,rfl,VB e c d (by decide) ⟨x,H,U,R,⟨rfl,λys V=>by rw [I.tuple_inj V m];exact t⟩,j,λb g=>(n b g).1⟩⟩
 done:=by
  intro X A C J M i l s Y H E I n f r;subst A C J;obtain ⟨O,m,t⟩:=r;obtain ⟨F,D,p,T⟩:=I.tuple m;obtain ⟨L,G,f2,q,y,B⟩:=n it (by simp);have hl:=D.length;exact wpAny_pyNext_tuple_end (I.ok.hd M) f (p) (by simp;omega) λN Q=>⟨rfl,I.turned (λb o g e=>Q b o g e) L G q y B⟩
 self:=λ_ _ _ _ _ f h=>wpAny_pyIter_tupleiter f h
def vf{P:Program}{w:World}{K:W.Frag}{tg:Expr}(it)(lo)(n):Turn P w K tg (Itr lo n) [it] it (λi h=>IsRangeIter h it (lo+(i:Nat)*1) ((n:Int) - (i:Nat)) 1) where
 mem:=by simp
 obj:=λi h a b d=>by
  have e:b=it:=by simpa using d
  subst e
  exact ⟨_,a,λv z=>by
   have D:Data.fields _=Data.cell v:=z
   cases D⟩
 keep:=λi h x a k=>k it (by simp) _ a
 item:=by
  intro X q u A m i c s Y H E I g a l;subst q u A;obtain ⟨B,y,M,j,p,r⟩:=g it (by simp);have W:=Walks.range (prog:=X.prog) (w:=X.w) (I.ok.hd m) it lo 1 n;refine W.item i s _ _ l a λv x F G f L=>?_;obtain ⟨t,rfl⟩:=G;have J:Inv X c Y H { s with heap:=x,toks:=F }:=I.turned (λb o d e=>L b o (by simpa using d) e) B y j p r
  refine ⟨_,rfl,VB f rfl rfl (by decide) ⟨.int (lo+i),H,J,⟨t,?_⟩,⟨rfl,rfl⟩,f,λb d=>(g b d).1⟩⟩;rw [Int.mul_one]
 done:=by
  intro X q u A m i c s Y H E I g a l;subst q u A;obtain ⟨B,y,M,j,p,r⟩:=g it (by simp);exact wpAny_pyNext_range_end (I.ok.hd m) a (by have:n<=i:=l;omega) λx C=>⟨rfl,I.turned (λb o d e=>C b o d e) B y j p r⟩
 self:=λ_ _ _ _ _ a h=>wpAny_pyIter_rangeiter a h
section
variable{X:Cx}{tg:Expr}
def V6{pins:List (Addr×Obj)}{Y:St}{H:Hp}{s:Shared}{R:It->Hp->Prop}{E:Value->Shared->Prop}{lo hi:Int}{t u v:Tok}{tk:Nat}(I:Inv X pins Y H s)(h1:-(2^62)<=lo)(h2:lo<2^62)(h3:-(2^62)<=hi)(h4:hi<2^62)(q:R (Itr lo (hi - lo).toNat) H):wX X (pyIter (.ref s.heap.objs.size)) (PIE X pins Y tg R) E { s with heap:=s.heap.push { cls:=.type "range",data:=.fields #[.int lo t,.int hi u,.int 1 v] },toks:=tk }:=by
 refine wpAny_pyIter_range (IsRange.new ..) (small_one h1 h2 h3 h4) ?_;have a:Inv X pins Y H { s with heap:=s.heap.push { cls:=.type "range",data:=.fields #[.int lo t,.int hi u,.int 1 v] },toks:=tk }:=I.kept λb o e=>Bf _ e
 refine ⟨(s.heap.push { cls:=.type "range",data:=.fields #[.int lo t,.int hi u,.int 1 v] }).objs.size,[(s.heap.push { cls:=.type "range",data:=.fields #[.int lo t,.int hi u,.int 1 v] }).objs.size],_,_,H,rfl,
  a.kept λb o e=>Bf _ e,vf _ lo (hi - lo).toNat,?_,λb c=>?_,q⟩
 .have f:lo+((0:Nat):Int)*1=lo:=by simp
  have d:(((hi - lo).toNat:Nat):Int) - ((0:Nat):Int)=Builtin.Range.rangeSize lo hi 1:=by rw [rangeSize_one];split<;>omega
  rw [f,d];exact CQ _ rfl
 .have e:b=(s.heap.push { cls:=.type "range",data:=.fields #[.int lo t,.int hi u,.int 1 v] }).objs.size:=by simpa using c
  subst e;exact a.fpOk (Am _) (a.hok.fresh (Am _))
def Tu(ta:TA):TI:=λY H R=>ta Y H λb a=>∃j,b=[.int j]/\-(2^62)<=j/\j<2^62/\R (Itr 0 j.toNat) a
def TF(ta:TA):TI:=λY H R=>ta Y H λb a=>∃i j,b=[.int i,.int j]/\(-(2^62)<=i/\i<2^62/\-(2^62)<=j/\j<2^62)/\R (Itr i (j - i).toNat) a
def pM{a:Expr}{ta:TA}{p pos:Pos}(hg:Gl X "range")(hm:X.mg "range"=none)(ha:PA X [a] ta)(hs:starEach [a] X.env=[(false,eval a X.env)]:=by rfl):PI X tg (.Call (.Name "range" p) [a] [] pos) (Tu ta):=by
 intro b s Y H R I h;refine Call_ (Gu I hg hm boot_range (Ht (thn (ha pos b s Y H _ I h) λk i zq=>?_) hs rfl));obtain ⟨m,l,g,d,c⟩:=zq;obtain ⟨j,e,c,f,q⟩:=c;subst e;cases d with
 | cons r rr=>
  cases rr;obtain ⟨t,rfl⟩:=r;exact call_range_1 (V6 g (by omega) (by omega) c f (by simpa using q))
def qX(hg:Gl X "range")(hm:X.mg "range"=none)(ha:PA X [a,b] ta)(hs:starEach [a,b] X.env=[(false,eval a X.env),(false,eval b X.env)]:=by rfl)(hs2:starEach [b] X.env=[(false,eval b X.env)]:=by rfl) :
  PI X tg (.Call (.Name "range" p) [a,b] [] pos) (TF ta):=by
 intro c s Y H R I h;refine Call_ (Gu I hg hm boot_range (Ht (thn (ha pos c s Y H _ I h) λu n zq=>?_) (by rw [hs,hs2]) (by rw [hs2];rfl)));obtain ⟨w,v,m,f,d⟩:=zq;obtain ⟨i,j,e,⟨d,g,k,l⟩,q⟩:=d;subst e;cases f with
 | cons r rr=>
  cases rr with
  | cons r' rr=>
   cases rr;obtain ⟨t,rfl⟩:=r;obtain ⟨o,rfl⟩:=r';exact call_range_2 (V6 m d g k l q)
def tFor(wi:TI)(g:TG)(tb:TS):TS:=λD Y H=>wi Y H λJ d=>∃W:Nat->Nat->St->Hp->Prop,(∃m,W 0 m Y d)/\∀i m Y H,W i m Y H ->
 (J.stop i H/\D.nx Y H)\/(J.go i H/\∃N:St->Hp->Prop,(∀c a,N c a->∃b,b<m/\W (i+1) b c a)/\∀x a,J.yld i H x a->g x Y a λf e=>tb { D with nx:=N,ct:=N,bk:=D.nx } f e)
def Rb(fp:List Addr)(h:Heap):List (Addr×Obj):=fp.filterMap λb=>(h.get? b).map λo=>(b,o)
def Kh(hb:b∈fp)(e:h.get? b=some o):(b,o)∈Rb fp h:=QV.mpr ⟨b,hb,by rw [e];rfl⟩
def yM(hp:p∈Rb fp h):p.1∈fp/\h.get? p.1=some p.2:=by
 obtain ⟨b,c,e⟩:=QV.mp hp;cases q:h.get? b with
 | none=>rw [q] at e;cases e
 | some o=>
  rw [q] at e;have a:=Br e;subst a;exact ⟨c,q⟩
def Inv.pinned(I:Inv X pins Y H s)(hf:∀b∈fp,FpOk X pins H b)(ho:∀b∈fp,∃o,s.heap.get? b=some o/\∀v,o.data≠.cell v):Inv X (pins++Rb fp s.heap) Y H s :=
 I.pins_of λp g=>(Ek.mp g).elim (λz=>I.pin p (Dc _ z)) λz=>by
  obtain ⟨a,e⟩:=yM z;obtain ⟨i,f,h,_⟩:=hf p.1 a;obtain ⟨o,c,d⟩:=ho p.1 a;rw [e] at c;cases c;exact ⟨e,i,f,h,d⟩
def Inv.unpinned(I:Inv X (pins++pl) Y H s):Inv X pins Y H s:=I.pins_of λp a=>I.pin p (Dc _ (GP _ a))
def Sw(hp:PassesOwn (model X.prog X.w) X.A X.env X.xe)(hc:X.calm=true)(hi:PI X tg iter wi)(hg:PG X tg g)(hb:PSs X body tb)(hs:∀x,foldedSetIterable iter X.env x=pure x:=by intro _;rfl):PS X (.For tg iter body [] pos) (tFor wi g tb):=by
 intro a s Y H D I h;refine wpAny_For (thn (hi a s Y H _ I h) λv s1 h1=>thn h1 λitv s2 h2=>?_) hs;obtain ⟨it,z,Z,J,H2,e,I2,T,O,f2,W,⟨m0,w0⟩,E⟩:=h2;subst e;have p:∀{q:Hp},(∀b∈z,q b=none)->∀b∈z,FpOk X a q b:=λhn b hb=>⟨hn b hb,(f2 b hb).2⟩;refine codeAny_forLoop_any (λn V=>∃i G q,Inv X a G q V/\Z i V.heap/\(∀b∈z,q b=none)/\W i n G q) ?_ m0 ⟨0,Y,H2,I2,O,λb hb=>(f2 b hb).1,w0⟩;rintro n S ⟨i,K,L,I3,C,F,w3⟩;rcases E i n K L w3 with ⟨stop,qn⟩ | ⟨go,N,hN,step⟩
 .refine JK hp (thn (T.done X rfl rfl rfl hc i a S K L X.xe I3 (p F) C stop) λr s4 ⟨R,I4⟩=>?_);subst R;exact wpAny_execs_nil ⟨K,L,I4,qn⟩
 .refine JK hp (thn (T.item X rfl rfl rfl hc i a S K L X.xe I3 (p F) C go) λr s4 zq=>?_);obtain ⟨u,R,h4⟩:=zq;subst R;refine JK hp (thn h4 λ_ s5 zq=>?_);obtain ⟨x,U,I5,r5,y5,y,M⟩:=zq;have Q:=I5.pinned (p M) (T.obj _ _ y);refine JK hp (thn (hg _ s5 K U x u _ Q r5 (step x U y5)) λ_ s6 zq=>?_);obtain ⟨Y6,H6,I6,q6⟩:=zq;refine JK hp (thn (hb _ s6 Y6 H6 _ I6 q6) λf P t=>?_);have c:∀{k:St} {l:Hp},Inv X (a++Rb z s5.heap) k l P->N k l->∃m,m<n/\∃i G q,Inv X a G q P/\Z i P.heap/\(∀b∈z,q b=none)/\W i m G q:=λ{k l} j B=>by
   obtain ⟨m',hm,w7⟩:=hN k l B;refine ⟨m',hm,i+1,k,l,j.unpinned,T.keep _ _ _ y λb hb o e=>(j.pin (b,o) (Dc _ (Dc _ (Kh hb e)))).1,λb hb=>?_,w7⟩;obtain ⟨o,e,d⟩:=T.obj _ _ y b hb;exact (j.pin (b,o) (Dc _ (Dc _ (Kh hb e)))).2.1
  cases f with
  | next=>obtain ⟨k,l,j,B⟩:=t;exact c j B
  | cont=>obtain ⟨k,l,j,B⟩:=t;exact c j B
  | brk=>obtain ⟨k,l,j,t⟩:=t;exact ⟨k,l,j.unpinned,t⟩
  | ret v=>obtain ⟨x7,k,l,j,r7,t⟩:=t;exact ⟨x7,k,l,j.unpinned,r7,t⟩
end
abbrev R2:=V->V->Hp->VK->Prop
def OpR(X:Cx)(f:Value->Value->Sem Value)(r:R2):Prop :=
 ∀a s Y H x y v u Q,Inv X a Y H s->RelV x v->RelV y u->r x y H Q ->
  wX X (f v u) (EP X a Y Q) X.xe s
def UnR(X:Cx)(f:Value->Sem Value)(r:V->Hp->VK->Prop):Prop :=
 ∀a s Y H x v Q,Inv X a Y H s->RelV x v->r x H Q ->
  wX X (f v) (EP X a Y Q) X.xe s
def Et(X:Cx)(f:Value)(r:List V->Hp->VK->Prop):Prop :=
 ∀a s Y H b c Q,Inv X a Y H s->Vals b c->r b H Q ->
  wX X (call f c) (EP X a Y Q) X.xe s
def tOp(r:R2)(ta tb:TE):TE:=λY H Q=>ta Y H λx a=>tb Y a λy b=>r x y b Q
def tUn(r:V->Hp->VK->Prop)(ta:TE):TE:=λY H Q=>ta Y H λx a=>r x a Q
def rI(C:Int->Int->Prop)(g:Int->Int->V):R2:=λx y H Q=>∃i j,x=.int i/\y=.int j/\C i j/\Q (g i j) H
def rI0(g:Int->Int->V):R2:=λx y H Q=>∃i j,x=.int i/\y=.int j/\Q (g i j) H
def rU(g:Int->V):V->Hp->VK->Prop:=λx H Q=>∃i,x=.int i/\Q (g i) H
section
variable{X:Cx}{a b c:Expr}{ta tb tc:TE}{pos:Pos}
def binT(ha:PE X a ta)(hb:PE X b tb){pins:List (Addr×Obj)}{s:Shared}{Y:St}{H:Hp}{R:V->V->Hp->Prop}(I:Inv X pins Y H s)(h:ta Y H λx H1=>tb Y H1 λy H2=>R x y H2){Q:Value->Shared->Prop}{f:Value->Value->Sem Value}(hf:∀v u s2 x y H2,Inv X pins Y H2 s2->RelV x v->RelV y u->R x y H2->wX X (f v u) Q X.xe s2) :
  wX X (eval a X.env) (λv s₁=>wX X (eval b X.env) (λu s₂=>wX X (f v u) Q X.xe s₂) X.xe s₁) X.xe s:=by
 refine thn (ha pins s Y H _ I h) λv c zq=>?_;obtain ⟨x,H1,k,d,j⟩:=zq;refine thn (hb pins c Y H1 _ k j) λu s2 zq=>?_;obtain ⟨y,H2,e,g,i⟩:=zq;exact hf v u s2 x y H2 e d g i
def aD(ho:OpR X (binaryOp op) r)(ha:PE X a ta)(hb:PE X b tb):PE X (.BinOp a op b pos) (tOp r ta tb):=by
 intro c s Y H Q I h;exact wpAny_BinOp (binT ha hb I h λv u e x y f i g d q=>ho c e Y f x y v u Q i g d q)
def Zwy(ho:UnR X (unaryOp op) r)(ha:PE X a ta):PE X (.UnaryOp op a pos) (tUn r ta):=by
 intro b s Y H Q I h;exact UnaryOp_ (thn (ha b s Y H _ I h) λv c zq=>by obtain ⟨x,f,g,d,e⟩:=zq;exact ho b c Y f x v Q g d e)
def opI{f:Value->Value->Sem Value}{C:Int->Int->Prop}{g:Int->Int->Int}(rule:∀(i j:Int) (t u:Tok) (s:Shared) (Q:Value->Shared->Prop) (E:Value->Shared->Prop),C i j->Q (.int (g i j) s.toks) { s with toks:=s.toks+1 }->wX X (f (.int i t) (.int j u)) Q E s) :
  OpR X f (rI C λi j=>.int (g i j)):=by
 intro a s Y H x y v u Q I e b h;obtain ⟨i,j,rfl,rfl,d,q⟩:=h;obtain ⟨t,rfl⟩:=e;obtain ⟨c,rfl⟩:=b;exact rule i j t c s _ _ d ⟨.int (g i j),H,I.tok _,⟨_,rfl⟩,q⟩
def opI0{f:Value->Value->Sem Value}{g:Int->Int->Int}(rule:∀(i j:Int) (t u:Tok) (s:Shared) (Q:Value->Shared->Prop) (E:Value->Shared->Prop),Q (.int (g i j) s.toks) { s with toks:=s.toks+1 }->wX X (f (.int i t) (.int j u)) Q E s) :
  OpR X f (rI0 λi j=>.int (g i j)):=by
 intro a s Y H x y v u Q I c b h;obtain ⟨i,j,rfl,rfl,q⟩:=h;obtain ⟨t,rfl⟩:=c;obtain ⟨d,rfl⟩:=b;exact rule i j t d s _ _ ⟨.int (g i j),H,I.tok _,⟨_,rfl⟩,q⟩
def opB0{f:Value->Value->Sem Value}{g:Int->Int->Bool}(rule:∀(i j:Int) (t u:Tok) (s:Shared) (Q:Value->Shared->Prop) (E:Value->Shared->Prop),Q (.bool (g i j)) s->wX X (f (.int i t) (.int j u)) Q E s) :
  OpR X f (rI0 λi j=>.bl (g i j)):=by
 intro a s Y H x y v u Q I c b h;obtain ⟨i,j,rfl,rfl,q⟩:=h;obtain ⟨t,rfl⟩:=c;obtain ⟨d,rfl⟩:=b;exact rule i j t d s _ _ ⟨.bl (g i j),H,I,rfl,q⟩
def CPow(i j:Int):Prop:=0<=j/\j<=1000000/\i.natAbs<2^64
def u5(k):(0:Int)<=2^k:=by
 rw [two_pow_cast];exact Int.natCast_nonneg _
def qW:OpR X (binaryOp .Add) (rI0 λi j=>.int (i+j)):=opI0 λ_ _ _ _ _ _ _ q=>add_int q
def zR:OpR X (binaryOp .Sub) (rI0 λi j=>.int (i - j)):=opI0 λ_ _ _ _ _ _ _ q=>sub_int q
def ZsO:OpR X (binaryOp .Mod) (rI (λ_ j=>j≠0) λi j=>.int (i.fmod j)):=opI λ_ _ _ _ _ _ _ a q=>mod_int' a q
def n6:OpR X (binaryOp .Pow) (rI CPow λi j=>.int (i^j.toNat)):=opI λ_ _ _ _ _ _ _ a q=>pow_int_small a.1 a.2.1 a.2.2 q
def t7:OpR X (binaryOp .LShift) (rI CPow λi j=>.int (i*2^j.toNat)):=opI λ_ _ _ _ _ _ _ a q=>lshift_int_small a.1 a.2.1 a.2.2 q
def lB:OpR X (binaryOp .RShift) (rI (λ_ j=>0<=j) λi j=>.int (i/2^j.toNat)):=opI λi j _ _ _ _ _ a q=>
 rshift_int a (by rw [QJ i (u5 _)];exact q)
def unI{f:Value->Sem Value}{g:Int->Int}(rule:∀(i:Int) (t:Tok) (s:Shared) (Q:Value->Shared->Prop) (E:Value->Shared->Prop),Q (.int (g i) s.toks) { s with toks:=s.toks+1 }->wX X (f (.int i t)) Q E s) :
  UnR X f (rU λi=>.int (g i)):=by
 intro a s Y H x v Q I b h;obtain ⟨i,rfl,q⟩:=h;obtain ⟨t,rfl⟩:=b;exact rule i t s _ _ ⟨.int (g i),H,I.tok _,⟨_,rfl⟩,q⟩
def zy:UnR X (unaryOp .USub) (rU λi=>.int (-i)):=unI λ_ _ _ _ _ q=>neg_int q
end
section
variable{X:Cx}{a b c:Expr}{ta tb tc:TE}{pos:Pos}
def PN(I:Inv X pins Y H s)(q:Q (.bl k) H)(e:k=k'):EP X pins Y Q (.bool k') s:=by
 subst e;exact ⟨.bl k,H,I,rfl,q⟩
def XF:OpR X (compareOp .Lt) (rI0 λi j=>.bl (decide (i<j))):=opB0 λ_ _ _ _ _ _ _ q=>lt_int q
def ZD:OpR X (compareOp .LtE) (rI0 λi j=>.bl (decide (i<=j))):=opB0 λ_ _ _ _ _ _ _ q=>le_int q
def lF:OpR X (compareOp .Gt) (rI0 λi j=>.bl (decide (j<i))):=opB0 λ_ _ _ _ _ _ _ q=>gt_int q
def X3:OpR X (compareOp .GtE) (rI0 λi j=>.bl (decide (j<=i))):=opB0 λ_ _ _ _ _ _ _ q=>ge_int q
def qj:OpR X (compareOp .Is) (λx y H Q=>y=.non/\Q (.bl (decide (x=.non))) H):=by
 intro b s Y H x y v u Q I a c h;obtain ⟨rfl,q⟩:=h;cases c;refine is_none_gen (PN I q ?_);cases x<;>first
  | (cases a;rfl)
  | (obtain ⟨t,rfl⟩:=a;rfl)
def uf:OpR X (compareOp .IsNot) (λx y H Q=>y=.non/\Q (.bl (!decide (x=.non))) H):=by
 intro b s Y H x y v u Q I a c h;obtain ⟨rfl,q⟩:=h;cases c;refine isnot_none_gen (PN I q ?_);cases x<;>first
  | (cases a;rfl)
  | (obtain ⟨t,rfl⟩:=a;rfl)
def Fe(b)(h:op≠.In:=by decide)(h2:op≠.NotIn:=by decide):behindInMarks op b=false:=by
 have c:(op==CmpOp.In)=false:=by cases op<;>first | rfl | exact aB rfl h
 have a:(op==CmpOp.NotIn)=false:=by cases op<;>first | rfl | exact aB rfl h2
 cases b<;>simp [behindInMarks,c,a]
def iQ(ho:OpR X (compareOp op) r)(ha:PE X a ta)(hb:PE X b tb)(hm:behindInMarks op b=false):PE X (.Compare a [op] [b] pos) (tOp r ta tb):=by
 intro c s Y H Q I h;exact wpAny_Compare1 (binT ha hb I h λv u e x y f i g d q=>ho c e Y f x y v u Q i g d q) hm
def FW(t:TE):TT:=λY H Q=>t Y H λx a=>∃k,x=.bl k/\Q k a
def S6(ho:OpR X (compareOp op) r)(ha:PE X a ta)(hb:PE X b tb)(hm:behindInMarks op b=false):PT X (.Compare a [op] [b] pos) (FW (tOp r ta tb)):=by
 intro d s Y H Q I h
 refine wpAny_isTrue_Compare1 (thn (ha d s Y H _ I h) λv f zq=>?_) hm;obtain ⟨x,l,B,g,A⟩:=zq;refine thn (hb d f Y l _ B A) λu m zq=>?_;obtain ⟨y,n,o,i,j⟩:=zq;refine thn (ho d m Y n x y v u _ o g i j) λc C zq=>?_;obtain ⟨z,w,t,q,k,e,p⟩:=zq
 subst e;cases q;exact wpAny_truthy_bool ⟨w,t,p⟩
def Qa:(sizeLine:Nat)<2^63:=by rw [sizeLine_eq];decide
def n8:OpR X (binaryOp .Add) (λx y H Q=>∃i j,x=.str i/\y=.str j/\i.length+j.length<=sizeLine/\Q (.str (i++j)) H):=by
 intro a s Y H x y v u Q I d b h;obtain ⟨i,j,rfl,rfl,e,q⟩:=h;obtain ⟨t,rfl⟩:=d;obtain ⟨c,rfl⟩:=b;exact add_str (λc f=>⟨.str (i++j),H,I.tok _,⟨_,rfl⟩,q⟩) e
def vals1(r:Vals [x] us):∃u,us=[u]/\RelV x u:=by
 cases r with
 | cons r1 r2=>cases r2;exact ⟨_,rfl,r1⟩
def vals2(r:Vals [x,y] us):∃u w',us=[u,w']/\RelV x u/\RelV y w':=by
 cases r with
 | cons r1 r2=>
  cases r2 with
  | cons r3 r4=>cases r4;exact ⟨_,_,rfl,r1,r3⟩
def mU:Et X (.builtin "abs") (λxs H Q=>∃i,xs=[.int i]/\Q (.int (if i<0 then -i else i)) H):=by
 intro a s Y H xs b Q I r h;obtain ⟨i,rfl,q⟩:=h;obtain ⟨u,rfl,t,rfl⟩:=vals1 r;exact call_abs_int λu c=>⟨.int (if i<0 then -i else i),H,I.tok _,⟨_,rfl⟩,q⟩
def jN(hc:X.calm=true):Et X (.builtin "min") (λxs H Q=>∃i j,xs=[.int i,.int j]/\Q (.int (if j<i then j else i)) H):=by
 intro a s Y H xs d Q I r h;obtain ⟨i,j,rfl,q⟩:=h;obtain ⟨u,e,rfl,⟨t,rfl⟩,⟨b,rfl⟩⟩:=vals2 r;refine min_two_ints (I.ok.hd hc) λc f k=>⟨_,H,I.kept k,?_,q⟩;by_cases hj:j<i
 .rw [iP hj,iP hj];exact ⟨_,rfl⟩
 .rw [iN hj,iN hj];exact ⟨_,rfl⟩
def wu:Et X (.type "int") (λxs H Q=>(∃i,xs=[.int i]/\Q (.int i) H)\/∃k,xs=[.bl k]/\Q (.int (if k then 1 else 0)) H):=by
 intro a s Y H xs c Q I r h;rcases h with ⟨i,rfl,q⟩ | ⟨k,rfl,q⟩
 .obtain ⟨u,rfl,t,rfl⟩:=vals1 r;exact call_int_int ⟨.int i,H,I,⟨_,rfl⟩,q⟩
 .obtain ⟨u,rfl,b⟩:=vals1 r;cases b;exact call_int_bool ⟨.int (if k then 1 else 0),H,I.tok _,⟨_,rfl⟩,q⟩
end
structure ObjM(h:Heap)(x dx C:Addr)(mA:Str->Option Value):Prop where
 obj:h.get? x=some (W.instObj C dx)
 ns:h.Ns1 dx mA
 ne:dx≠x
def sG{h:Heap}(n:h.Ns1 dx mA):∃od,h.get? dx=some od/\∀name,W.lookIn name od=some (mA name):=by
 obtain ⟨o,c,l,g,f,k,_,j⟩:=n;refine ⟨o,g,λname=>?_⟩;have e:=j name;unfold nsFind findBy at e;rw [<-Array.find?_toList] at e;unfold W.lookIn;rw [f];dsimp only;split
 .rename_i y q;rw [q] at e;exact Bw some e
 .rename_i q;rw [q] at e;have a:c.toList.any (·.refKey)=false:=by
   rw [List.any_eq_false];intro y i;obtain ⟨z,t,b⟩:=k y (Array.mem_toList_iff.mp i);simp [DictEntry.refKey,b]
  have d:¬c.toList.any (·.refKey)=true:=by rw [a];exact DX
  rw [iN d];exact Bw some e
def ObjM.look(I:ObjM h x dx C mA):∃od,W.InstAt h x (W.instObj C dx) C (some od)/\∀name,W.lookIn name od=some (mA name) :=
 let ⟨od,ho,hl⟩:=sG I.ns
 ⟨od,⟨I.obj,rfl,rfl,ho⟩,hl⟩
section
variable{prog:Program}{w:World}{A:Around}{E:Value->Shared->Prop}{s:Shared}{K:W.Frag}{x dx C f:Addr}{mA:Str->Option Value}{name:Str}{v:Value}
def zg(X:K.In s.heap)(I:ObjM s.heap x dx C mA)(hg:W.plainGet K C name=true)(hh:W.hasDictIn K C=true)(ha:W.findIn K (.ref C) name=some none)(hv:mA name=some v)(hv':W.handedIn v=true)(h:Q v { s with toks:=s.toks+1 }) :
  wpAny (model prog w) A (getAttr (.ref x) name expr) Q E s:=by
 obtain ⟨b,J,a⟩:=I.look;exact W.get_value X J (W.plainGet_of hg).1 (W.findObj_own hh ha rfl (by rw [a,hv])) hv' h
def sI(X:K.In s.heap)(I:ObjM s.heap x dx C mA)(hg:W.plainGet K C name=true)(hf:W.findIn K (.ref C) name=some (some (.ref f)))(ht:W.isFn K (.ref f)=true)(hv:mA name=none)(h:Q (.ref f,[.ref x]) s) :
  wpAny (model prog w) A (getMethod (.ref x) name pl) Q E s:=by
 obtain ⟨a,J,b⟩:=I.look;exact W.method_fn X J (W.plainGet_of hg).1 (W.plainGet_of hg).2 hf (Ih.mp ht) (by show (W.lookIn name a).map (·.isSome)=some false;rw [b,hv];rfl) h
def zM(X:K.In s.heap)(I:ObjM s.heap x dx C mA)(hs:W.findIn K (.ref C) "__setattr__"=some (some (.builtin "object.__setattr__")))(hp:W.plainOver K C=true)(ht:W.takerIn K C name=some none)(hh:W.hasDictIn K C=true)(hw:PySem.Within mA ns)(hsz:ns.length<=sizeLine)(h:∀h',ObjM h' x dx C (λy=>if y=name then some v else mA y)->Heap.SameBut dx s.heap h'->Q () { s with heap:=h',toks:=s.toks+2 }) :
  wpAny (model prog w) A (setAttr (.ref x) name v) Q E s:=by
 obtain ⟨o,J,m⟩:=I.look;refine W.set_plain X J hs (W.osa_open X J hp ht λb=>?_);obtain ⟨p,l,f⟩:=W.any_some hh;have k:=I.obj;refine Ac (Ae (Ac (Ac (wpAny_loadPart k (Ac (W.Looks.here (W.looks_clsIn X l) ?_))))));rw [f];refine Ae (Ac (Ae (Ac ?_)));refine wpAny_nsSet1 I.ns λh' a c=>?_;obtain ⟨n,i,j,g,e,d⟩:=a.count (PySem.Within.cons name v hw);refine Ac (wpAny_lookBehind g (by rw [e];exact pastItsLine_dict (CJ d (by rw [By];omega))) ?_);exact Ae (h _ ⟨(c.2 _ (Ne.symm I.ne)).trans I.obj,a,I.ne⟩ c)
def uZ(X:K.In s.heap)(hm:W.makesIn K C=true)(hi:W.findIn K (.ref C) "__init__"=some (some (.ref f)))(hf:W.typeIn K (.ref f)=some (.type "function")) (h:codeAny (model prog w) (A.under (.builtin "type.__call__" ⟨.ref C::vs,kw⟩)) (.call (.ref f) ⟨.ref (s.heap.objs.size+1)::vs,kw⟩) (W.InitBack (s.heap.objs.size+1) R)
   { s with heap:=(s.heap.push W.emptyDict).push (W.instObj C s.heap.objs.size) }) :
  codeAny (model prog w) A (.call (.ref C) ⟨vs,kw⟩) R s:=by
 obtain ⟨c,g,d,t,b⟩:=s;exact W.make_core (W.makes_of X hm) (W.looks_findIn X hi) (λa=>W.bind_fn X a hf) (.inl rfl) h
end
def putF(f:Str)(v:V):List (Str×V)->List (Str×V)
 | []=>[(f,v)]
 | (g,x)::r=>if g=f then (g,v)::r else (g,x)::putF f v r
def ak(f g)(v):∀fs,(putF f v fs).lookup g=if g=f then some v else fs.lookup g
 | []=>by
  show List.lookup g [(f,v)]=_;by_cases h:g=f
  .have a:(g==f)=true:=Ih.mpr h;simp only [List.lookup,a,iP h]
  .have a:(g==f)=false:=Ry.mpr h;simp only [List.lookup,a,iN h]
 | (k,x)::r=>by
  have ih:=ak f g v r;rw [show putF f v ((k,x)::r)=(if k=f then (k,v)::r else (k,x)::putF f v r) from rfl]
  by_cases hk:k=f
  .rw [iP hk];by_cases h:g=k
   .have a:(g==k)=true:=Ih.mpr h;simp only [List.lookup,a,iP (h.trans hk)]
   .have a:(g==k)=false:=Ry.mpr h;simp only [List.lookup,a,iN (λe:g=f=>h (e.trans hk.symm))]
  .rw [iN hk];by_cases h:g=k
   .have a:(g==k)=true:=Ih.mpr h;simp only [List.lookup,a,iN (λe:g=f=>hk (h.symm.trans e))]
   .have a:(g==k)=false:=Ry.mpr h;simp only [List.lookup,a];exact ih
def Vf(f)(v):∀fs,f∈(putF f v fs).map (·.1)/\∀g,g∈fs.map (·.1)->g∈(putF f v fs).map (·.1)
 | []=>⟨by simp [putF],λg h=>by simp at h⟩
 | (k,x)::r=>by
  obtain ⟨b,a⟩:=Vf f v r;rw [show putF f v ((k,x)::r)=(if k=f then (k,v)::r else (k,x)::putF f v r) from rfl]
  by_cases hk:k=f
  .rw [iP hk];subst hk;exact ⟨by simp,λg h=>by simpa using h⟩
  .rw [iN hk];refine ⟨?_,λg h=>?_⟩
   .rw [Bb];exact BW _ b
   .rw [Bb] at h ⊢;rcases Al.mp h with e | e
    .exact Al.mpr (.inl e)
    .exact BW _ (a g e)
def cZ(f)(v):∀fs,(putF f v fs).length<=fs.length+1
 | []=>by simp [putF]
 | (k,x)::r=>by
  have ih:=cZ f v r;rw [show putF f v ((k,x)::r)=(if k=f then (k,v)::r else (k,x)::putF f v r) from rfl]
  by_cases hk:k=f
  .rw [iP hk,By,By];omega
  .rw [iN hk,By,By];omega
def RelO.some_of(r:RelO (some v) o):∃u,o=some u/\RelV v u:=by
 cases o with
 | none=>exact (r).elim
 | some u=>exact ⟨u,rfl,r⟩
def RelO.none_of(r:RelO none o):o=none:=by
 cases o with
 | none=>rfl
 | some u=>exact (r).elim
def zT(r:RelV v u):W.handedIn u=true:=by
 cases v with
 | non=>cases (r);rfl
 | bl b=>cases (r);rfl
 | int i=>obtain ⟨t,e⟩:=(r);cases e;rfl
 | str x=>obtain ⟨t,e⟩:=(r);cases e;rfl
 | ref a=>cases (r);rfl
 | ty n=>cases (r);rfl
section
variable{P:Program}{w:World}{H H':Hp}{h h':Heap}{a C dx:Addr}{fs fs':List (Str×V)}
def Ql(hok:HOk P w H h)(e:H a=some (.ins C dx fs)):∃mA,ObjM h a dx C mA/\(∀f,RelO (fs.lookup f) (mA f))/\PySem.Within mA (fs.map (·.1))/\fs.length<=1000/\H dx=some (.own a):=by
 obtain ⟨d,z,b,c,mA,n,r,q⟩:=(hok a _ e);exact ⟨mA,⟨c,n,b⟩,r,q,z,d⟩
end
structure Cls(K:W.Frag)(C:Addr):Prop where
 pg:W.plainGet K C Str.empty=true
 hd:W.hasDictIn K C=true
 po:W.plainOver K C=true
 sa:W.findIn K (.ref C) "__setattr__"=some (some (.builtin "object.__setattr__"))
def Cls.get{K:W.Frag}{C:Addr}(c:Cls K C)(f):W.plainGet K C f=true:=c.pg
def Ha(K:W.Frag)(C:Addr)(f:Str):Prop:=W.findIn K (.ref C) f=some none
def Ha.taker{K:W.Frag}{C:Addr}{f:Str}(n:Ha K C f):W.takerIn K C f=some none:=by
 unfold W.takerIn;rw [show W.findIn K (.ref C) f=some none from n];rfl
structure Meth(K:W.Frag)(C:Addr)(m:Str)(f:Addr):Prop where
 at_:W.findIn K (.ref C) m=some (some (.ref f))
 fn:W.isFn K (.ref f)=true
 kp:W.keepIn K (.ref f)=true
section
variable{X:Cx}{pins:List (Addr×Obj)}{Y:St}{H:Hp}{s:Shared}{a C dx:Addr}{fs:List (Str×V)}{f:Str}{v:V}{A:Around}{E:Value->Shared->Prop}
def yR(I:Inv X pins Y H s)(e:H a=some (.ins C dx fs))(c:Cls X.K C)(n:Ha X.K C f)(l:fs.lookup f=some v)(h:∀u s',Inv X pins Y H s'->RelV v u->Q u s'):wpAny (model X.prog X.w) A (getAttr (.ref a) f b) Q E s:=by
 obtain ⟨i,O,r,_,_,_⟩:=Ql I.hok e;obtain ⟨u,g,d⟩:=RelO.some_of (by rw [<-l];exact r f);exact zg I.kIn O (c.get f) c.hd n g (zT d) (h u _ (I.tok _) d)
def dG(I:Inv X pins Y H s)(e:H a=some (.ins C dx fs))(c:Cls X.K C)(k:Meth X.K C m g)(l:fs.lookup m=none)(h:Q (.ref g,[.ref a]) s):wpAny (model X.prog X.w) A (getMethod (.ref a) m pl) Q E s:=by
 obtain ⟨d,O,r,_,_,_⟩:=Ql I.hok e;have b:=RelO.none_of (by rw [<-l];exact r m);exact sI I.kIn O (c.get m) k.at_ k.fn b h
def pP(I:Inv X pins Y H s)(e:H a=some (.ins C dx fs))(c:Cls X.K C)(n:Ha X.K C f)(hl:fs.length<1000)(ry:RelV y u)(h:∀s',Inv X pins Y (upd H a (.ins C dx (putF f y fs))) s'->Q () s'):wpAny (model X.prog X.w) A (setAttr (.ref a) f u) Q E s:=by
 obtain ⟨j,O,r,k,_,i⟩:=Ql I.hok e;have x:(fs.map (·.1)).length<=sizeLine:=by rw [Ad,sizeLine_eq];omega
 refine zM I.kIn O c.sa c.po n.taker c.hd k x λl d t=>h _ ?_;have m:∃o,l.get? dx=some o:=let ⟨o,_,_,e',_⟩:=d.ns;⟨o,e'⟩;refine I.write (by rw [e];exact True.intro) (.inr i) (λb q v z=>(t.2 b v).trans z) m ?_;refine ⟨by rw [Ag O.ne];exact i,?_,O.ne,d.obj,_,d.ns,λg=>?_,λg p=>?_⟩
 .have:=cZ f y fs;omega
 .show RelO ((putF f y fs).lookup g) (if g=f then some u else j g)
  rw [ak];by_cases q:g=f
  .rw [iP q,iP q];exact ry
  .rw [iN q,iN q];exact r g
 .by_cases q:g=f
  .rw [q];exact (Vf f y fs).1
  .refine (Vf f y fs).2 g (k g λz=>p ?_);show (if g=f then some u else j g)=none
   rw [iN q];exact z
def Inv.made(I:Inv X pins Y H s):Inv X pins Y (upd (upd H s.heap.objs.size (.own (s.heap.objs.size+1))) (s.heap.objs.size+1) (.ins C s.heap.objs.size []))
  { s with heap:=(s.heap.push W.emptyDict).push (W.instObj C s.heap.objs.size) }:=by
 have c:(s.heap.push W.emptyDict).get? s.heap.objs.size=some W.emptyDict:=CQ s.heap rfl;have d:((s.heap.push W.emptyDict).push (W.instObj C s.heap.objs.size)).get? (s.heap.objs.size+1)=some (W.instObj C s.heap.objs.size):=by
  have:=CQ (s.heap.push W.emptyDict) (o:=W.instObj C s.heap.objs.size) rfl;rwa [Du] at this
 have f:(s.heap.push W.emptyDict).Ns s.heap.objs.size (λ_=>none):=⟨W.emptyDict,#[],_,c,rfl,(λe i=>aB i (by simp)),λ_=>rfl⟩;have h:=I.laid (o:=.own (s.heap.objs.size+1)) (t':=s.toks) (λb u q=>Bf _ q) (Am _) ⟨_,c⟩;refine h.laid (λb u q=>Bf _ q) (Nat.le_of_eq (Du _ _)) ?_;have a:s.heap.objs.size≠s.heap.objs.size+1:=BR (G9 _);refine ⟨by rw [Ag a,An],DQ _,a,d,λ_=>none,(Heap.Ns1.of_empty f).at λo q=>Bf _ q,λ_=>True.intro,λy g=>aB rfl g⟩
def wz(hb:attributeBase e f env (eval e env)=eval e env)(h:wpAny (model prog w) A (eval e env) (λo s₁=>wpAny (model prog w) A (getAttr o f true) Q E s₁) E s):wpAny (model prog w) A (eval (.Attribute e f pos) env) Q E s :=
 Attribute_any_ h (by rw [arm_eval_Attribute,hb])
end
def tFld(K:W.Frag)(ta:TE)(f:Str):TE:=λY H Q=>ta Y H λx b=>∃a C d c v,x=.ref a/\b a=some (.ins C d c)/\Cls K C/\Ha K C f/\c.lookup f=some v/\Q v b
def sFld(K:W.Frag)(ta tv:TE)(f:Str):TS:=λD Y H=>tv Y H λy e=>ta Y e λx c=>∃a C d b,x=.ref a/\c a=some (.ins C d b)/\Cls K C/\Ha K C f/\b.length<1000 /\
 D.nx Y (upd c a (.ins C d (putF f y b)))
section
variable{X:Cx}{o e value:Expr}{f:Str}{pos pos' tpos:Pos}{ta tv:TE}
def iy(he:PE X e ta)(hb:attributeBase e f X.env (eval e X.env)=eval e X.env):PE X (.Attribute e f pos) (tFld X.K ta f):=by
 intro b s Y H Q I h;refine wz hb (thn (he b s Y H _ I h) λu s1 zq=>?_);obtain ⟨x,H1,I1,rx,a,C,dx,fs,v,ex,ea,c,n,l,q⟩:=zq;subst ex;obtain rfl:u=Value.ref a:=rx;exact yR I1 ea c n l λj i d g=>⟨v,H1,d,g,q⟩
def dm(ha:PE X o ta)(hv:PE X value tv)(hs:swapsWith value (some (.Attribute o f pos')) pos.line X.env=pure false):PS X (.Assign [.Attribute o f pos'] value pos) (sFld X.K ta tv f):=by
 intro b s Y H D I h;refine plainObj_wpAny_Assign_Attribute (thn (hv b s Y H _ I h) λu e zq=>?_) hs;obtain ⟨y,i,j,d,q⟩:=zq;refine thn (ha b e Y i _ j q) λov s2 zq=>?_;obtain ⟨x,H2,I2,rx,a,C,dx,fs,ex,ea,c,n,l,q2⟩:=zq;subst ex;obtain rfl:ov=Value.ref a:=rx;exact pP I2 ea c n l d λk g=>⟨Y,_,g,q2⟩
end
section
variable{X:Cx}{pins:List (Addr×Obj)}{Y:St}{H:Hp}{s:Shared}{A:Around}{E:Value->Shared->Prop}{Q:Value->Shared->Prop}{c:Value}{b:Bool}
inductive TyOf(K:W.Frag)(H:Hp):V->Value->Prop where
 | non:TyOf K H .non (.type "NoneType")
 | bl (x:Bool):TyOf K H (.bl x) (.type "bool")
 | int (i:Int):TyOf K H (.int i) (.type "int")
 | str (x:Str):TyOf K H (.str x) (.type "str")
 | lst {a:Addr} {xs:List V} (e:H a=some (.lst xs)):TyOf K H (.ref a) (.type "list")
 | frz {a:Addr} {o:Obj} {xs:List V} (e:H a=some (.frz o (.lst xs))):TyOf K H (.ref a) (.type "list")
 | tup {a:Addr} {xs:List V} (e:H a=some (.tup xs)):TyOf K H (.ref a) (.type "tuple")
 | ins {a C dx:Addr} {fs:List (Str×V)} (e:H a=some (.ins C dx fs)) (cl:Cls K C) (ha:W.findIn K (.ref C) "__class__"=some (some (.builtin "object.__class__")))
   (hn:W.specialIn K (.builtin "object.__class__") "__get__"=some (some (.builtin "getset_descriptor.__get__"))) (htk:W.takesIn K (.builtin "object.__class__")=some true)
   (hm:W.mroIn K C (.type "object")=some true):TyOf K H (.ref a) (.ref C)
def Qi(I:Inv X pins Y H s)(rx:RelV x u)(ty:TyOf X.K H x t)(e:W.kitOne X.K t c=some b)(h:∀tk,Q (.bool b) { s with toks:=tk }) :
  wpAny (model X.prog X.w) A (call (.builtin "isinstance") [u,c]) Q E s:=by
 cases ty with
 | non=>cases (show u=Value.none from rx);exact G6 W.kitx_none I.kIn True.intro e (λz=>nomatch z) h
 | bl y=>cases (rx);exact G6 W.kitx_bool I.kIn True.intro e (λz=>nomatch z) h
 | int i=>obtain ⟨t,q⟩:=(rx);cases q;exact G6 W.kitx_int I.kIn True.intro e (λz=>nomatch z) h
 | str y=>obtain ⟨t,q⟩:=(rx);cases q;exact G6 W.kitx_str I.kIn True.intro e (λz=>nomatch z) h
 | @lst a g ea=>
  cases (rx);obtain ⟨_,_,n,_,d⟩:=(I.hok a _ ea);exact G6 W.kitx_list I.kIn ⟨_,d,rfl⟩ e (λz=>nomatch z) h
 | @frz a ob g ea=>
  cases (rx);obtain ⟨_,_,_,n,_,d⟩:=(I.hok a _ ea);exact G6 W.kitx_list I.kIn ⟨_,d,rfl⟩ e (λz=>nomatch z) h
 | @tup a g ea=>
  cases (rx);obtain ⟨_,_,_,p⟩:=(I.hok a _ ea);obtain ⟨o,d,f,_⟩:=p;exact G6 W.kitx_tuple I.kIn ⟨o,d,f⟩ e (λz=>nomatch z) h
 | @ins a C dx fs ea cl ha hn htk hm=>
  cases (show u=Value.ref a from rx);obtain ⟨r,O,_⟩:=Ql I.hok ea;obtain ⟨m,J,_⟩:=O.look;exact G6 (W.kitx_own (cl.get _) cl.hd ha hn htk hm) I.kIn J e (λz=>nomatch z) h
end
structure Room(k:Nat)(A:Around):Prop where
 hd:A.handled=none
 dp:A.depth+3*k+5<recursionLimit
 un:A.units+16*k+200<cLine
def Room.mono(r:Room k A)(h:j<=k):Room j A:=⟨r.hd,by have:=r.dp;omega,by have:=r.un;omega⟩
def Room.deeper(r:Room (k+1) A)(env):Room k (A.deeper env) :=
 ⟨r.hd,by have:=r.dp;show A.depth+1+3*k+5<_;omega,by have:=r.un;show A.units+3+16*k+200<_;omega⟩
def gh{A:Around}:(A.under (.builtin "type.__call__" ⟨.ref C::us,kw⟩)).depth=A.depth+1:=by
 first | rfl | simp [Around.under,Code.weight,Code.isCreation,Code.isGuard,Code.isCaller,Code.frames,Code.isFrame,guardIds]
def jj{A:Around}:(A.under (.builtin "type.__call__" ⟨.ref C::us,kw⟩)).units=A.units+1:=by
 first | rfl | simp [Around.under,Code.cUnits,Code.frames,Code.isFrame]
def Room.make(r:Room (k+1) A)(C)(us)(kw):Room k (A.under (.builtin "type.__call__" ⟨.ref C::us,kw⟩)) :=
 ⟨r.hd,by have:=r.dp;rw [gh];omega,by have:=r.un;rw [jj];omega⟩
def Room.depth(r:Room k A):A.depth<recursionLimit:=by have:=r.dp;omega
def Room.units(r:Room k A):A.units+64<cLine:=by have:=r.un;omega
def tNil:TA:=λ_ H Q=>Q [] H
def Bg(ta:TE)(tr:TA):TA:=λY H Q=>ta Y H λx a=>tr Y a λc b=>Q (x::c) b
section
variable{X:Cx}{e:Expr}{es:List Expr}{te:TE}{t:TA}{pos:Pos}
def GK:PA X [] tNil:=λ_ _ _ _ H Q I h=>Calls.spliced_nil ⟨[],H,I,.nil,h⟩
def Dy(ha:PE X e te)(hr:PA X es t)(hs:starEach (e::es) X.env=(false,eval e X.env)::starEach es X.env:=by rfl):PA X (e::es) (Bg te t):=by
 intro b a s Y H Q I h;rw [hs];refine Calls.spliced_cons (thn (ha a s Y H _ I h) λu c zq=>?_);obtain ⟨x,j,n,d,m⟩:=zq;exact thn (hr b a c Y j _ n m) λo p ⟨g,k,l,f,i⟩=>⟨x::g,k,l,.cons d f,i⟩
def tTup(t:TA):TE:=λY H Q=>t Y H λb a=>b.length<=sizeLine/\∀p,a p=none->Q (.ref p) (upd a p (.tup b))
def tLst(t:TA):TE:=λY H Q=>t Y H λb a=>b.length<=sizeLine/\∀p,a p=none->Q (.ref p) (upd a p (.lst b))
def XM{x1}(h:PA X es t):PE X (.Tuple es x1 pos) (tTup t):=by
 intro a s Y H Q I k;refine wpAny_Tuple_spliced (thn (h pos a s Y H _ I k) λg c zq=>?_);obtain ⟨f,i,d,r,z,q⟩:=zq;refine ⟨by rw [<-r.length];exact z,?_⟩;have j:=d.hok.fresh (Am _);refine ⟨.ref c.heap.objs.size,upd i c.heap.objs.size (.tup f),d.laid (λb u e=>Bf _ e) (Am _) ?_,rfl,q _ j⟩;exact ⟨z,g,r,⟨_,CQ _ rfl,rfl,_,rfl⟩⟩
def P0(h:PA X es t):PE X (.List es pos) (tLst t):=by
 intro a s Y H Q I k;refine wpAny_List_spliced (thn (h pos a s Y H _ I k) λg c zq=>?_);obtain ⟨f,i,d,r,z,q⟩:=zq;refine ⟨by rw [<-r.length];exact z,?_⟩;have j:=d.hok.fresh (Am _);refine ⟨.ref c.heap.objs.size,upd i c.heap.objs.size (.lst f),d.laid (λb u e=>Bf _ e) (Am _) ?_,rfl,q _ j⟩;exact ⟨z,g,0,r,CQ _ rfl⟩
end
abbrev Sp:=List V->Hp->VK->XK->Prop
abbrev CXT:=List Env->Hp->Shared->XK->Value->Shared->Prop
structure Env0(P:Program)(w:World)(K:W.Frag)(mg:Str->Option Value)(base:Heap)(A:Around)(outer:List Env)(s:Shared)(H:Hp):Prop where
 frames:A.frames=some outer
 mod:Mod K mg base
 bs:∀b o,base.get? b=some o->s.heap.get? b=some o/\H b=none
 bsz:base.objs.size<=s.heap.objs.size
 funs:s.heap.FunFrames base outer
 frf:∀b∈frs outer,H b=none
 hok:HOk P w H s.heap
 bare:AllBare s.gens
def CE(outer:List Env)(P:Program)(w:World)(H:Hp)(s:Shared)(Q:VK)(u:Value)(s':Shared):Prop :=
 ∃v a,s'.os=s.os/\AllBare s'.gens/\Un (frs outer) [] H a s.heap s'.heap/\HOk P w a s'.heap/\RelV v u/\Q v a
def CR(CX:CXT)(outer:List Env)(P:Program)(w:World)(H:Hp)(s:Shared)(Q:VK)(E:XK)(r:Result)(s':Shared):Prop :=
 match r with
 | .ok (.ret u)=>CE outer P w H s Q u s'
 | .ok _=>False
 | .error e=>CX outer H s E e s'
structure FnOk(P:Program)(w:World)(K:W.Frag)(mg:Str->Option Value)(base:Heap)(CX:CXT)(k:Nat)(f:Addr)(fd:FuncData)(ps:List Str)(sp:Sp):Prop where
 len:∀vs H Q E,sp vs H Q E->vs.length=ps.length
 run:∀(A:Around) (outer:List Env) (s:Shared) (H:Hp) (args:Args) (us:List Value) (vs:List V) (Q:VK) (E:XK),Room k A->Env0 P w K mg base A outer s H->BindsTo s fd args (ps.zip us)->Vals vs us->sp vs H Q E ->
  codeAny (model P w) A (.call (.ref f) args) (CR CX outer P w H s Q E) s
def FnOk.mono{P:Program}{w:World}{K:W.Frag}{mg:Str->Option Value}{base:Heap}{CX:CXT}{j k:Nat}{f:Addr}{fd:FuncData}{ps:List Str}{sp:Sp}(F:FnOk P w K mg base CX j f fd ps sp)(h:j<=k) :
  FnOk P w K mg base CX k f fd ps sp:=⟨F.len,λA a s H b c e Q E d=>F.run A a s H b c e Q E (d.mono h)⟩
def FnOk.imp{P:Program}{w:World}{K:W.Frag}{mg:Str->Option Value}{base:Heap}{CX:CXT}{k:Nat}{f:Addr}{fd:FuncData}{ps:List Str}{sp sp':Sp}(F:FnOk P w K mg base CX k f fd ps sp)(h:∀vs H Q E,sp' vs H Q E->sp vs H Q E):FnOk P w K mg base CX k f fd ps sp' :=
 ⟨λvs H Q E q=>F.len vs H Q E (h _ _ _ _ q),λA a s H b c vs Q E d e i j g=>F.run A a s H b c vs Q E d e i j (h _ _ _ _ g)⟩
def Env0.make{P:Program}{w:World}{K:W.Frag}{mg:Str->Option Value}{base:Heap}{A:Around}{outer:List Env}{s:Shared}{H:Hp}(e:Env0 P w K mg base A outer s H)(C)(us)(kw) :
  Env0 P w K mg base (A.under (.builtin "type.__call__" ⟨.ref C::us,kw⟩)) outer s H:=⟨by first | exact e.frames | (simpa [Around.under,Code.envs,Code.isFrame,pushEnvs] using e.frames),e.mod,e.bs,e.bsz,e.funs,e.frf,e.hok,e.bare⟩
section
variable{X:Cx}{pins:List (Addr×Obj)}{Y:St}{H:Hp}{s s':Shared}
def Inv.env0(I:Inv X pins Y H s):Env0 X.prog X.w X.K X.mg X.base X.A X.stack s H :=
 ⟨I.ok.frames,I.ok.mod,I.bs,CJ I.ok.bsz I.sz,I.stack,I.stkFree,I.hok,I.bare⟩
def Inv.after(I:Inv X pins Y H s)(h:CE X.stack X.prog X.w H s Q u s'):EP X pins Y Q u s':=by
 obtain ⟨v,f,i,a,j,c,r,q⟩:=h;obtain ⟨k,g,d,t,e⟩:=s';obtain rfl:e=s.os:=i;exact ⟨v,f,I.call j c a (λb z=>aB z (by simp)),r,q⟩
end
def Gv(sp:Sp)(dvs:List V)(E:XK)(t:TA):TE:=λY H Q=>t Y H λb a=>sp (b++dvs) a Q E
def XX(C:Addr)(sp:Sp)(dvs:List V)(E:XK)(t:TA):TE:=λY H Q=>t Y H λd b=>∀x a,b x=none->b a=none->a≠x ->
 sp (.ref x::(d++dvs)) (upd (upd b a (.own x)) x (.ins C a [])) (λv c=>v=.non/\Q (.ref x) c) E
def Binds(K:W.Frag)(fd:FuncData)(ps:List Str)(ds:List Value):Prop :=
 ∀s a,K.In s.heap->(a++ds).length=ps.length->BindsTo s fd ⟨a,[]⟩ (ps.zip (a++ds))
def Binds.all{K:W.Frag}{fd:FuncData}{ps:List Str}(h:∀us:List Value,us.length=ps.length->bindArgs fd ⟨us,[]⟩=pure (ps.zip us)):Binds K fd ps []:=λs us _ a=>by
 rw [Bp] at a ⊢;exact .of_eq (h us a)
def Ea(CX:CXT)(X:Cx)(E:XK):Prop:=∀a Y H s e b,Inv X a Y H s->CX X.stack H s E e b->X.xe e b
section
variable{X:Cx}{CX:CXT}{k:Nat}{f C:Addr}{fd:FuncData}{ps:List Str}{sp:Sp}{dvs:List V}{ds:List Value}{E:XK}{x m:Str}{p pos apos:Pos}{e o:Expr}{es:List Expr}{ta:TE}{t:TA}
def Pk(F:FnOk X.prog X.w X.K X.mg X.base CX k f fd ps sp)(hr:Room k X.A)(hb:Binds X.K fd ps ds)(hd:Vals dvs ds)(hx:Ea CX X E)(I:Inv X pins Y H s)(r:Vals vs us)(h:sp (vs++dvs) H Q E):wX X (call (.ref f) us) (EP X pins Y Q) X.xe s:=by
 have b:=r.append hd;have c:(us++ds).length=ps.length:=by rw [<-b.length];exact F.len _ _ _ _ h
 refine wpAny_call (KY (F.run X.A X.stack s H ⟨us,[]⟩ (us++ds) (vs++dvs) Q E hr I.env0 (hb s us I.kIn c) b h) λr d a=>?_);cases r with
 | error e=>exact hx pins Y H s e d I a
 | ok fl=>
  cases fl with
  | ret u=>exact I.after a
  | next=>exact False.elim a
  | brk=>exact False.elim a
  | cont=>exact False.elim a
def U6(F:FnOk X.prog X.w X.K X.mg X.base CX k f fd ps sp)(hr:Room k X.A)(hg:Gl X x)(hm:X.mg x=some (.ref f))(hk:W.keepIn X.K (.ref f)=true)(hb:Binds X.K fd ps ds)(hd:Vals dvs ds)(hx:Ea CX X E)(ha:PA X (e::es) t)(hdb:ND x:=by decide)(he:starEach (e::es) X.env=(false,eval e X.env)::starEach es X.env:=by rfl)(hpl:(backTo pos (starEach es X.env)).any (·.1)=false:=by rfl) :
  PE X (.Call (.Name x p) (e::es) [] pos) (Gv sp dvs E t):=by
 intro a s Y H Q I h;refine O1 (Pb I hg hm ?_ hdb);refine W.callWith_K I.ok.mod.kin hk (thn (ha pos a s Y H _ I h) λd c zq=>?_) he hpl;obtain ⟨g,i,b,r,q⟩:=zq;refine ⟨b.kIn,?_⟩;exact Pk F hr hb hd hx b r q
structure Mk(K:W.Frag)(C f:Addr):Prop where
 makes:W.makesIn K C=true
 init:W.findIn K (.ref C) "__init__"=some (some (.ref f))
 fn:W.isFn K (.ref f)=true
 kp:W.keepIn K (.ref C)=true
def qH(M:Mk X.K C f)(F:FnOk X.prog X.w X.K X.mg X.base CX k f fd ps sp)(hr:Room (k+1) X.A)(hb:Binds X.K fd ps ds)(hd:Vals dvs ds)(hx:Ea CX X E)(I:Inv X pins Y H s)(r:Vals vs us)(h:∀x dx,H x=none->H dx=none->dx≠x->sp (.ref x::(vs++dvs)) (upd (upd H dx (.own x)) x (.ins C dx [])) (λv H2=>v=.non/\Q (.ref x) H2) E) :
  wX X (call (.ref C) us) (EP X pins Y Q) X.xe s:=by
 have c:=h (s.heap.objs.size+1) s.heap.objs.size (I.hok.fresh (Ir _)) (I.hok.fresh (Am _)) (BR (G9 _));have b:=Inv.made (C:=C) I;have d:Vals (V.ref (s.heap.objs.size+1)::(vs++dvs)) (Value.ref (s.heap.objs.size+1)::(us++ds)):=.cons rfl (r.append hd);have g:(Value.ref (s.heap.objs.size+1)::us++ds).length=ps.length:=by
  have e:=d.length;rw [F.len _ _ _ _ c] at e;exact e.symm
 refine wpAny_call (uZ I.kIn M.makes M.init (Ih.mp M.fn) (KY (F.run _ X.stack _ _ ⟨Value.ref (s.heap.objs.size+1)::us,[]⟩ (Value.ref (s.heap.objs.size+1)::(us++ds)) _ _ E (hr.make C us [])
  (b.env0.make C us []) (hb _ (Value.ref (s.heap.objs.size+1)::us) b.kIn g) d c) λr o a=>?_))
 cases r with
 | error e=>exact hx pins Y _ _ e o b a
 | ok fl=>
  cases fl with
  | ret u=>
   obtain ⟨v,l,n,m,i,j⟩:=b.after a;subst i;exact ⟨m,⟨V.ref (s.heap.objs.size+1),l,n,rfl,j⟩⟩
  | next=>exact False.elim a
  | brk=>exact False.elim a
  | cont=>exact False.elim a
def Zri(M:Mk X.K C f)(F:FnOk X.prog X.w X.K X.mg X.base CX k f fd ps sp)(hr:Room (k+1) X.A)(hg:Gl X x)(hm:X.mg x=some (.ref C))(hb:Binds X.K fd ps ds)(hd:Vals dvs ds)(hx:Ea CX X E)(ha:PA X (e::es) t)(hdb:ND x:=by decide)(he:starEach (e::es) X.env=(false,eval e X.env)::starEach es X.env:=by rfl)(hpl:(backTo pos (starEach es X.env)).any (·.1)=false:=by rfl) :
  PE X (.Call (.Name x p) (e::es) [] pos) (XX C sp dvs E t):=by
 intro a s Y H Q I h;refine O1 (Pb I hg hm ?_ hdb);refine W.callWith_K I.ok.mod.kin M.kp (thn (ha pos a s Y H _ I h) λd c zq=>?_) he hpl;obtain ⟨g,i,b,r,q⟩:=zq;refine ⟨b.kIn,?_⟩;exact qH M F hr hb hd hx b r q
end
section
variable{X:Cx}{CX:CXT}{k:Nat}{f C:Addr}{fd:FuncData}{ps ks:List Str}{sp:Sp}{E:XK}{x m:Str}{p pos apos kpos:Pos}{e o:Expr}{es:List Expr}{kws:List Keyword}{te ta:TE}{t tk:TA}{nm:Option Str}
def Ztj(sp:Sp)(gV:List V->List V->List V)(E:XK)(t tk:TA):TE:=λY H Q=>t Y H λd a=>tk Y a λc b=>sp (gV d c) b Q E
variable{g:List Value->List Value->List Value}{gV:List V->List V->List V}
end
structure Ci(N P:List Str)(sc:Scope):Prop where
 kind:sc.kind=.function
 co:sc.isCoroutine=false
 gen:sc.isGenerator=false
 nd:N.Nodup
 pre:N.take P.length=P
 par:∀x∈P,sc.names.lookup x=some .local\/sc.names.lookup x=some .cell
 nofree:∀y∈sc.names,y.2≠.free
def bJ{kindOf:Str->Option NameKind}{x:Str}:∀{binds:List (Str×Value)} {m:Str->Option Value},(∀v,(x,v)∉binds)->bindL kindOf binds m x=m x
 | [],_,_=>rfl
 | (n,v)::r,m,h=>by
  unfold bindL;rw [bJ λw a=>h w (BW _ a)];split
  .have:x≠n:=by rintro rfl;exact h v BL
   simp [this]
  .rfl
def bf{kindOf:Str->Option NameKind}{x:Str}:∀{binds:List (Str×Value)} {m:Str->Option Value},(∀v,(x,v)∉binds)->bindC kindOf binds m x=m x
 | [],_,_=>rfl
 | (n,v)::r,m,h=>by
  unfold bindC;rw [bf λw a=>h w (BW _ a)];split
  .rfl
  .have:x≠n:=by rintro rfl;exact h v BL
   simp [this]
def W6{kindOf:Str->Option NameKind}{x:Str}{v:Value}:∀{P:List Str} {vs:List Value} {i:Nat} {m:Str->Option Value},P.Nodup->P[i]?=some x->vs[i]?=some v->kindOf x=some .local ->
  bindL kindOf (P.zip vs) m x=some v
 | [],_,_,_,_,h,_,_=>by simp at h
 | _::_,[],_,_,_,_,h,_=>by simp at h
 | p::P,w::vs,0,m,nd,h1,h2,hk=>by
  simp at h1 h2;subst h1;subst h2;show bindL kindOf ((p,w)::P.zip vs) m p=_;unfold bindL;rw [bJ λv a=>(Hk.mp nd).1 (Mu a).1,iP hk];simp
 | p::P,w::vs,i+1,m,nd,h1,h2,hk=>by
  show bindL kindOf ((p,w)::P.zip vs) m x=_;unfold bindL;exact W6 (i:=i) (Hk.mp nd).2 (by simpa using h1) (by simpa using h2) hk
def V2{kindOf:Str->Option NameKind}{x:Str}{v:Value}:∀{P:List Str} {vs:List Value} {i:Nat} {m:Str->Option Value},P.Nodup->P[i]?=some x->vs[i]?=some v->kindOf x≠some .local ->
  bindC kindOf (P.zip vs) m x=some v
 | [],_,_,_,_,h,_,_=>by simp at h
 | _::_,[],_,_,_,_,h,_=>by simp at h
 | p::P,w::vs,0,m,nd,h1,h2,hk=>by
  simp at h1 h2;subst h1;subst h2;show bindC kindOf ((p,w)::P.zip vs) m p=_;unfold bindC;rw [bf λv a=>(Hk.mp nd).1 (Mu a).1,iN hk];simp
 | p::P,w::vs,i+1,m,nd,h1,h2,hk=>by
  show bindC kindOf ((p,w)::P.zip vs) m x=_;unfold bindC;exact V2 (i:=i) (Hk.mp nd).2 (by simpa using h1) (by simpa using h2) hk
def start(N:List Str)(vs:List V):St:=vs.map some++List.replicate (N.length - vs.length) none
def cxOf(CX:CXT)(P:Program)(w:World)(K:W.Frag)(mg:Str->Option Value)(base:Heap)(N:List Str)(qual:Str)(scope:Scope)(f:Addr)(cd:Value)(A:Around)(outer:List Env)(s:Shared)(H:Hp)(E:XK):Cx where
 prog:=P
 w:=w
 K:=K
 mg:=mg
 base:=base
 A:=A.deeper (envOfC qual scope s.heap.objs.size f cd)
 N:=N
 s₀:=s
 H₀:=H
 env:=envOfC qual scope s.heap.objs.size f cd
 outer:=outer
 stack:=envOfC qual scope s.heap.objs.size f cd::outer
 ex:=[]
 calm:=true
 fn:=λ_=>true
 pn:=[]
 xe:=λe c=>wpAny (model P w) (A.deeper (envOfC qual scope s.heap.objs.size f cd)) (leaving (envOfC qual scope s.heap.objs.size f cd) e) (λ_ a=>CX outer H s E e a) (λb a=>CX outer H s E b a) c
def XC{sc:Scope}(h:sc.names.lookup x=some .cell):∃c,(cellsFrom n sc.names []).lookup x=some c:=by
 have q:=W.cellsFrom_some sc.names n [] (.inl h);exact Option.isSome_iff_exists.mp q
def Zng{CX:CXT}{P:Program}{w:World}{K:W.Frag}{mg:Str->Option Value}{base:Heap}{N ps:List Str}{qual:Str}{scope:Scope}{f:Addr}{cd:Value}{A:Around}{outer:List Env}{s s1:Shared}{H:Hp}{E:XK}{us:List Value}{vs:List V}(S:Ci N ps scope)(hd:A.handled=none)(e0:Env0 P w K mg base A outer s H)(hl:vs.length=ps.length)(r:Vals vs us)(x:InCallC s s.heap.objs.size (bindL (envOfC qual scope s.heap.objs.size f cd).kindOf (ps.zip us) λ_=>none) (cellsFrom (s.heap.objs.size+1) scope.names []) (bindC (envOfC qual scope s.heap.objs.size f cd).kindOf (ps.zip us) λ_=>none) s1) :
  Inv (cxOf CX P w K mg base N qual scope f cd A outer s H E) [] (start N vs) H s1:=by
 have C:ps.length<=N.length:=by have:=Bw List.length S.pre;rw [CZ] at this;omega
 obtain ⟨n,F,rfl,t⟩:=x.done;have g:∀b:Addr,b∉(cxOf CX P w K mg base N qual scope f cd A outer s H E).ex:=λb z=>aB (show b∈([]:List Addr) from z) (by simp)
 refine ⟨⟨e0.mod,S.kind,rfl,rfl,Am _,λy z c n d=>?_,λy hy=>?_,λy c _ h=>?_,λ_=>hd,Around.frames_deeper e0.frames,.inr ⟨rfl,rfl⟩,λb z=>aB z (g b),e0.bs,e0.bsz,λb _ _=>g b,λb z=>aB z (g b),e0.funs,e0.frf⟩,
  rfl,e0.bare,Un.kept t,⟨_,x.toInCall.ns,λi y v n d G=>?_⟩,λy c h=>⟨_,x.cell y c h⟩,e0.hok.fresh (Am _),λy c h=>?_,λp j=>aB (show p∈([]:List (Addr×Obj)) from j) (by simp),e0.hok.kept t,?_⟩
 .exact name_of_addr x.apart (Ed n) (Ed d)
 .have hy:scope.names.lookup y=some .cell\/scope.names.lookup y=some .free:=hy;rcases hy with hy | hy
  .exact XC hy
  .exact aB rfl (S.nofree _ (Ed hy))
 .exact Hx (x.above y c (Ed h))
 .have m:i<vs.length:=by
   unfold start at d;by_cases m:i<vs.length
   .exact m
   .rw [Fp (by simpa using m)] at d;rw [JS] at d;split at d<;>cases d
  have D:vs[i]?=some v:=by
   unfold start at d;rw [Eo (by simpa using m),Ca] at d;cases e:vs[i]? with
   | none=>rw [e] at d;cases d
   | some a=>rw [e] at d;cases d;rfl
  obtain ⟨u,o,B⟩:=r.get D;have j:ps[i]?=some y:=by
   rw [<-S.pre,List.getElem?_take_of_lt (by omega)];exact n
  have l:ps.Nodup:=by rw [<-S.pre];exact S.nd.sublist (List.take_sublist _ _)
  refine ⟨u,B,?_⟩;rcases S.par y (GF j) with k | k
  .exact .inl ⟨k,W6 l j o k⟩
  .obtain ⟨c,e⟩:=XC k;refine .inr ⟨.inl k,c,e,?_⟩;have q:=x.cell y c e;rw [V2 l j o (by show scope.names.lookup y≠_;rw [k];decide)] at q;exact q
 .exact e0.hok.fresh (Hx (x.above y c (Ed h)))
 .unfold start;show _=N.length;rw [BJ,Ad,JL];omega
def M7{CX:CXT}{P:Program}{w:World}{K:W.Frag}{mg:Str->Option Value}{base:Heap}{k:Nat}{f:Addr}{name qual:Str}{params:Arguments}{body:List Stmt}{scope:Scope}{dV kV doc pm cdv ct oc:Value}{an od:Option Addr}{osl:Array (Option Value)}{N ps:List Str}{sp:Sp}(lk:K.lookup f=some ⟨oc,od,.func (W.fnOf name qual params body scope dV kV doc pm an cdv ct),osl⟩)(hcd:W.codeIn K cdv qual=true)(S:Ci N ps scope)(len:∀vs H Q E,sp vs H Q E->vs.length=ps.length) (hbody:∀(A:Around) (outer:List Env) (s:Shared) (H:Hp) (vs:List V) (Q:VK) (E:XK),Room k (A.deeper (envOfC qual scope s.heap.objs.size f cdv))->sp vs H Q E ->
   ∃t,PSs (cxOf CX P w K mg base N qual scope f cdv A outer s H E) body t/\t { nx:=λ_ H'=>Q .non H',rt:=Q } (start N vs) H) :
  FnOk P w K mg base CX (k+1) f (W.fnOf name qual params body scope dV kV doc pm an cdv ct) ps sp:=by
 refine ⟨len,λA outer s H C D vs Q E m g U r h=>?_⟩;have T:=len _ _ _ _ h;have B:=g.mod.kin.keeps λb o e=>(g.bs b o e).1;have j:=g.mod.nolimit.keeps λb o e=>(g.bs b o e).1;have a:∀y∈ps.zip D,scope.names.lookup y.1=some .local\/(scope.names.lookup y.1=some .cell/\((cellsFrom (s.heap.objs.size+1) scope.names []).lookup y.1).isSome=true):=λ⟨n,v⟩ R=>by
  rcases S.par n (Mu R).1 with q | q
  .exact .inl q
  .exact .inr ⟨q,W.cellsFrom_some _ _ _ (.inl q)⟩
 refine codeAny_call_function m.depth (B _ _ lk) rfl S.co S.gen rfl (W.codeRec_of B hcd) (U _ _ _ _ ?_);refine wpAny_newFunctionEnv_cells S.kind a λM G z x=>?_;subst G;refine ⟨j.keeps x.toInCall.keep,codeAny_func ?_⟩;obtain ⟨t,O,L⟩:=hbody A outer s H vs Q E (m.deeper _) h;have I:Inv (cxOf CX P w K mg base N qual scope f cdv A outer s H E) [] (start N vs) H z:=Zng S m.hd g T r x;refine Cg (O [] z (start N vs) H _ I L) (λF p c=>?_) λe p c=>c;have d:∀{i:St} {H':Hp} {v:V} {u:Value},Inv (cxOf CX P w K mg base N qual scope f cdv A outer s H E) [] i H' p->RelV v u->Q v H'->CE outer P w H s Q u p :=
  λ{i H' v u} J l q=>⟨v,H',J.os,J.bare,J.base,J.hok,l,q⟩
 cases F with
 | ret u=>
  obtain ⟨v,i,H',J,l,q⟩:=c;exact d J l q
 | next=>
  obtain ⟨i,H',J,q⟩:=c;exact d (v:=V.non) J rfl q
 | brk=>
  obtain ⟨_,_,_,q⟩:=c;exact False.elim q
 | cont=>
  obtain ⟨_,_,_,q⟩:=c;exact False.elim q
section
variable{X:Cx}{x:Str}{p pos:Pos}{e:Expr}{es:List Expr}{t:TA}{id T:String}{r:List V->Hp->VK->Prop}
def tCB(r:List V->Hp->VK->Prop)(t:TA):TE:=λY H Q=>t Y H λb a=>r b a Q
def ZW(hc:Et X (.builtin id) r)(hg:Gl X x)(hm:X.mg x=none)(hv:bootBuiltins x=some (.builtin id))(ha:PA X (e::es) t)(hn:x ≠ "__name__":=by decide)(hdb:ND x:=by decide)(he:starEach (e::es) X.env=(false,eval e X.env)::starEach es X.env:=by rfl)(hpl:(backTo pos (starEach es X.env)).any (·.1)=false:=by rfl):PE X (.Call (.Name x p) (e::es) [] pos) (tCB r t):=by
 intro a s Y H Q I h;refine O1 (Gu I hg hm hv ?_ hn hdb);exact PyProof.Rows.callWith_builtin1 (thn (ha pos a s Y H _ I h) λf b zq=>by obtain ⟨g,i,j,c,d⟩:=zq;exact hc a b Y i g f Q j c d) he hpl
def WT(hc:Et X (.type T) r)(hg:Gl X x)(hm:X.mg x=none)(hv:bootBuiltins x=some (.type T))(ha:PA X (e::es) t)(hn:x ≠ "__name__":=by decide)(hdb:ND x:=by decide)(he:starEach (e::es) X.env=(false,eval e X.env)::starEach es X.env:=by rfl)(hpl:(backTo pos (starEach es X.env)).any (·.1)=false:=by rfl):PE X (.Call (.Name x p) (e::es) [] pos) (tCB r t):=by
 intro a s Y H Q I h;refine O1 (Gu I hg hm hv ?_ hn hdb);exact Ht (thn (ha pos a s Y H _ I h) λf b zq=>by obtain ⟨g,i,j,c,d⟩:=zq;exact hc a b Y i g f Q j c d) he hpl
end
end L2
namespace HT
section
open PySem.SeqAt
open PySem.AutoSeq1 (wpAny_loadPart')
open PySem.MeetsSeq PySem.MeetsSeq2 PySem.MeetsSeq3
end
section
variable{prog:Program}{w:World}{A:Around}{E:Value->Shared->Prop}{s:Shared}
def wB(ht:IsTup s.heap t vs.toArray)(hb:IsTup s.heap b ws.toArray)(hv:vs≠[])(h1:ws=[]->Q (.ref t) s)(h2:ws≠[]->Q (.ref s.heap.objs.size) { s with heap:=s.heap.push { cls:=.type "tuple",data:=.seq (vs++ws).toArray } })(hsz:vs.length+ws.length<=sizeLine):wpAny (model prog w) A (binaryOp .Add (.ref t) (.ref b)) Q E s:=by
 obtain ⟨⟨cls,j,data,m⟩,h,p,n,k⟩:=id ht;obtain ⟨⟨l,c,i,d⟩,a,g,o,f⟩:=id hb;simp only at p k g f;subst p k g f;have e:vs.toArray++ws.toArray=(vs++ws).toArray:=by simp
 by_cases hw:ws=[]
 .exact concat_meets ⟨_,h,rfl⟩ ⟨_,a,rfl⟩ noFill_tuple_add seq_tuple_add PySem.F.slot_tuple_add PySem.F.entry_tuple_add (PySem.F.args_tuple_add_2 _ _)
   (tuple_addW1 t b vs.toArray ws.toArray n o j c m d (by simpa using hv) (by simp [hw])) ⟨h,a,h1 hw⟩
 .refine concat_meets ⟨_,h,rfl⟩ ⟨_,a,rfl⟩ noFill_tuple_add seq_tuple_add PySem.F.slot_tuple_add PySem.F.entry_tuple_add (PySem.F.args_tuple_add_2 _ _)
   (tuple_addW2 t b vs.toArray ws.toArray n o j c m d (by simpa using hv) (by simpa using hw) (by rw [Be,Be];exact hsz)) ⟨h,a,?_⟩
  rw [e];exact h2 hw
def sIx(n d:Nat):Option Int->Nat
 | none=>d
 | some v=>if v<0 then (v+(n:Int)).toNat else min v.toNat n
def cL(v:Int)(n d:Nat):(if v<0 then max (v+(n:Int)) 0 else min v (n:Int))=((sIx n d (some v):Nat):Int):=by
 show (if v<0 then max (v+(n:Int)) 0 else min v (n:Int))=(((if v<0 then (v+(n:Int)).toNat else min v.toNat n):Nat):Int)
 by_cases hv:v<0
 .simp only [iP hv];omega
 .simp only [iN hv];omega
def lY(lo hi:Option Int)(n:Nat):Builtin.Slice.sliceAdjust lo hi 1 (n:Int)=(((sIx n 0 lo:Nat):Int),((sIx n n hi:Nat):Int)):=by
 have a:¬((1:Int)<0):=by omega
 unfold Builtin.Slice.sliceAdjust;simp only [a,CV];refine Prod.ext ?_ ?_
 .cases lo with
  | none=>rfl
  | some v=>exact cL v n 0
 .cases hi with
  | none=>rfl
  | some v=>exact cL v n n
def uK(i j:Nat):Builtin.Slice.slicePlaces (i:Int) (j:Int) 1=j - i:=by
 unfold Builtin.Slice.slicePlaces;have a:(1:Int)>0:=by omega
 simp only [a,Dj,Int.ediv_one];split<;>omega
def Xu(p:IsPart v o)(h:Q o s):wpAny (model prog w) A (Builtin.Slice.slicePartIndex v) Q E s:=by
 cases p with
 | none=>exact slicePart_none h
 | int i t=>exact slicePart_int h
def Zj{sl:Addr}{vl vu:Value}{lo hi:Option Int}{n:Nat}{Q:Int×Int×Nat->Shared->Prop}(hs:s.heap.IsSliceOf sl vl vu .none)(pl:IsPart vl lo)(pu:IsPart vu hi)(h:Q (((sIx n 0 lo:Nat):Int),1,sIx n n hi - sIx n 0 lo) s):wpAny (model prog w) A (Builtin.Slice.sliceApplied (.ref sl) (pure (n:Int))) Q E s:=by
 obtain ⟨d,b,c,a⟩:=id hs;unfold Builtin.Slice.sliceApplied Builtin.Slice.sliceFields;refine Ac (Ac (Em b a rfl (Ac (Em b a rfl (Ac (Em b a rfl (Ae ?_)))))));refine Ac (slicePart_none ?_);rw [iN (by decide)];refine Ac (Xu pl (Ac (Xu pu (Ac (Ae ?_)))));show wpAny _ _ (match Builtin.Slice.sliceAdjust lo hi 1 (n:Int) with | (lo,hi)=>pure (lo,(1:Int),Builtin.Slice.slicePlaces lo hi 1)) _ _ s
 rw [lY lo hi n];show wpAny _ _ (pure (((sIx n 0 lo:Nat):Int),(1:Int),Builtin.Slice.slicePlaces ((sIx n 0 lo:Nat):Int) ((sIx n n hi:Nat):Int) 1)) _ _ s;rw [uK];exact Ae h
def yQ(xs:Array Value)(i k:Nat):((List.range k).filterMap λ(m:Nat)=>xs[((i:Int)+(m:Int)*1).toNat]?).toArray=((xs.toList.drop i).take k).toArray:=by
 have e:(λ(m:Nat)=>xs[((i:Int)+(m:Int)*1).toNat]?)=λm=>xs[i+m]?:=by
  funext m;have:((i:Int)+(m:Int)*1).toNat=i+m:=by omega
  rw [this]
 rw [e];have:=pick_run xs i k;rw [List.filterMap_map] at this;have a:((λx=>xs[x]?) ∘ λx=>i+x)=λm=>xs[i+m]?:=rfl;rw [a] at this;rw [this]
def wL{t sl:Addr}{items:Array Value}{vl vu:Value}{lo hi:Option Int}{Q:Value->Shared->Prop}(ht:IsTup s.heap t items)(hs:s.heap.IsSliceOf sl vl vu .none)(pl:IsPart vl lo)(pu:IsPart vu hi)(hw:¬(sIx items.size 0 lo=0/\sIx items.size items.size hi=items.size))(h:Q (.ref s.heap.objs.size) { s with heap:=s.heap.push { cls:=.type "tuple",data:=.seq ((items.toList.drop (sIx items.size 0 lo)).take (sIx items.size items.size hi - sIx items.size 0 lo)).toArray } })(hsz:items.size<=sizeLine):wpAny (model prog w) A (getItem (.ref t) (.ref sl)) Q E s:=by
 have a:sizeOk (.seq ((items.toList.drop (sIx items.size 0 lo)).take (sIx items.size items.size hi - sIx items.size 0 lo)).toArray):=by
  show ((items.toList.drop (sIx items.size 0 lo)).take (sIx items.size items.size hi - sIx items.size 0 lo)).toArray.size<=sizeLine;rw [Be,CZ,GX,Kr];omega
 obtain ⟨g,c,e,f⟩:=id hs;have d:s.TypeIs (.ref sl) "slice":=⟨g,c,e⟩;unfold getItem
 try with_reducible refine Cp ?_
 first | refine Ac (Ae ?_) | skip
 refine Ac (wpAny_sequenceKey ht.typeIs (by decide) ?_)
 refine Ac (Ju ht.typeIs Qy
  (JG Qy ht.typeIs entry_tuple_getitem ?_ (args_tuple_getitem _ _)))
 show wpAny _ _ (Builtin.Tuple.tupleItemsOf (.ref t) >>= _) _ _ s;refine Ac (tupleItemsOf_ ht ?_);refine Ac (J5 d ?_);rw [iP (by decide)];refine Ac (Zj hs pl pu ?_);have b:¬((((sIx items.size 0 lo:Nat):Int)==0&&(1:Int)==1&&(sIx items.size items.size hi - sIx items.size 0 lo)==items.size)=true):=by
  intro q;rw [Hg,Hg] at q;have j:=eq_of_beq q.1.1;have i:=eq_of_beq q.2;exact hw ⟨by omega,by omega⟩
 show wpAny _ _ (if (((sIx items.size 0 lo:Nat):Int)==0&&(1:Int)==1&&(sIx items.size items.size hi - sIx items.size 0 lo)==items.size)=true then _ else _) _ _ s
 rw [iN b,yQ]
 first
  | exact Ac (Jc (Ae ⟨_,rfl,Ae h⟩) a)
  | exact Ac (Jc (Ac (Ae (Ae ⟨_,rfl,Ae h⟩))) a)
  | exact Ac (Ac (Jc (Ae (Ae ⟨_,rfl,Ae h⟩)) a))
  | exact Ac (Ac (Jc (Ae ⟨_,rfl,Ae h⟩) a))
end
end HT
namespace L2
abbrev TO:=St->Hp->(Option Int->Hp->Prop)->Prop
def PO(X:Cx)(e:Option Expr)(t:TO):Prop :=
 ∀a s Y H Q,Inv X a Y H s->t Y H Q ->
  wX X (evalPart e X.env) (λu c=>∃o b,Inv X a Y b c/\IsPart u o/\Q o b) X.xe s
def Ut:TO:=λ_ H Q=>Q none H
def VV(t:TE):TO:=λY H Q=>t Y H λx a=>∃i,x=.int i/\Q (some i) a
section
variable{X:Cx}{e:Expr}{te:TE}{lo hi:Option Expr}{tl th:TO}{pos p2:Pos}
def uV:PO X none Ut:=by
 intro a s Y H Q I h;rw [evalPart_none];exact Ae ⟨none,H,I,.none,h⟩
def oF(h:PE X e te):PO X (some e) (VV te):=by
 intro a s Y H Q I b;rw [evalPart_some];refine thn (h a s Y H _ I b) λu j zq=>?_;obtain ⟨x,f,g,c,d⟩:=zq;obtain ⟨i,rfl,q⟩:=d;obtain ⟨t,rfl⟩:=c;exact ⟨some i,f,g,.int i t,q⟩
def SlR(X:Cx)(r:V->Option Int->Option Int->Hp->VK->Prop):Prop :=
 ∀a s Y H x v d c f b e Q,Inv X a Y H s->RelV x v->s.heap.IsSliceOf e d c .none->IsPart d f->IsPart c b->r x f b H Q ->
  ∃T g,typeLookup (.type T) "__getitem__"=pure (some (.builtin g))/\s.TypeIs v T/\wX X (getItem v (.ref e)) (EP X a Y Q) X.xe s
def SlR.or(h:SlR X r)(h':SlR X r'):SlR X (λx lo hi H Q=>r x lo hi H Q\/r' x lo hi H Q):=by
 intro a s Y H x v e d lo hi f Q I g i b c q;rcases q with q | q
 .exact h a s Y H x v e d lo hi f Q I g i b c q
 .exact h' a s Y H x v e d lo hi f Q I g i b c q
def tSl(r:V->Option Int->Option Int->Hp->VK->Prop)(te:TE)(tl th:TO):TE:=λY H Q=>te Y H λx c=>tl Y c λl a=>th Y a λu b=>r x l u b Q
def wU(hr:SlR X r)(he:PE X e te)(hl:PO X lo tl)(hu:PO X hi th):PE X (.Subscript e (.Slice lo hi none p2) pos) (tSl r te tl th):=by
 intro a s Y H Q I h;refine Subscript_ (thn (he a s Y H _ I h) λv j zq=>?_);obtain ⟨x,w,F,k,D⟩:=zq;refine wpAny_Slice (thn (hl a j Y w _ F D) λf y zq=>?_);obtain ⟨l,z,A,m,o⟩:=zq;refine thn (hu a y Y z _ A o) λd c zq=>?_;obtain ⟨u,g,C,n,B⟩:=zq;rw [evalPart_none];refine Ae ?_;have p:Inv X a Y g { c with heap:=c.heap.push { cls:=.type "slice",data:=.fields #[f,d,.none] } }:=C.kept λb J q=>Bf _ q
 obtain ⟨T,G,i,E,t⟩:=hr a { c with heap:=c.heap.push { cls:=.type "slice",data:=.fields #[f,d,.none] } } Y g x v f d l u c.heap.objs.size Q p k (Heap.IsSliceOf.new ..) m n B;exact tail_any E i t (by with_unfolding_all rfl)
def cutV(xs:List V)(lo hi:Option Int):List V:=(xs.drop (HT.sIx xs.length 0 lo)).take (HT.sIx xs.length xs.length hi - HT.sIx xs.length 0 lo)
def cB(xs)(lo hi):(cutV xs lo hi).length<=xs.length:=by
 unfold cutV;rw [CZ,GX];omega
def rSlT(K:W.Frag):V->Option Int->Option Int->Hp->VK->Prop:=λx d c H Q=>∃a b,x=.ref a/\SqT K H a b /\
 ¬(HT.sIx b.length 0 d=0/\HT.sIx b.length b.length c=b.length)/\∀p,H p=none->Q (.ref p) (upd H p (.tup (cutV b d c)))
def xR:SlR X (rSlT X.K):=by
 intro j s Y H x v w u f g y Q I p t m n h;obtain ⟨a,d,rfl,o,l,q⟩:=h;cases p;obtain ⟨e,r,i,k⟩:=I.tuple o;have c:e.toArray.size=d.length:=by rw [Be];exact r.length.symm
 refine ⟨"tuple",_,PyProof.Rows.slot_tuple_getitem.lookup,i.typeIs,?_⟩;refine HT.wL i t m n (by rw [c];exact l) ?_ (by rw [c];exact k);rw [c];refine ⟨.ref s.heap.objs.size,_,I.laid (λb z q=>Bf _ q) (Am _) ?_,rfl,q _ (I.hok.fresh (Am _))⟩;exact ⟨CJ (cB d f g) k,_,(r.drop (HT.sIx d.length 0 f)).take (HT.sIx d.length d.length g - HT.sIx d.length 0 f),IsTup.new _ _⟩
def Zw4(K:W.Frag):R2:=λx y H Q=>∃a b d c,x=.ref a/\y=.ref b/\SqT K H a d/\SqT K H b c/\d≠[]/\d.length+c.length<=sizeLine /\
 (c=[]->Q (.ref a) H)/\(c≠[]->∀p,H p=none->Q (.ref p) (upd H p (.tup (d++c))))
def Vals.nil_iff(r:Vals xs us):us=[]↔xs=[]:=by
 cases r with
 | nil=>simp
 | cons _ _=>simp
def xq:OpR X (binaryOp .Add) (Zw4 X.K):=by
 intro e s Y H x y v u Q I n i h;obtain ⟨a,b,A,B,rfl,rfl,o,r,l,g,t,j⟩:=h;cases n;cases i;obtain ⟨k,d,m,_⟩:=I.tuple o;obtain ⟨f,c,p,_⟩:=I.tuple r;refine HT.wB m p (λz=>l (d.nil_iff.mp z)) (λz=>⟨.ref a,H,I,rfl,t (c.nil_iff.mp z)⟩) (λz=>?_) (by rw [<-d.length,<-c.length];exact g);refine ⟨.ref s.heap.objs.size,_,I.laid (λb C q=>Bf _ q) (Am _) ?_,rfl,j (λw=>z (c.nil_iff.mpr w)) _ (I.hok.fresh (Am _))⟩;exact ⟨by rw [BJ];exact g,_,d.append c,IsTup.new _ _⟩
end
def ixN(n:Nat)(i:Int):Option Nat:=if 0<=i then (if i<n then some i.toNat else none) else if -(n:Int)<=i then some (i+n).toNat else none
def atI(xs:List α)(i:Int):Option α:=(ixN xs.length i).bind λj=>xs[j]?
def Zr(h:ixN n i=some j):seqIndex? i n=some j/\j<n/\-(n:Int)<=i/\i<n:=by
 unfold ixN at h;by_cases h0:0<=i
 .rw [iP h0] at h;by_cases h1:i<n
  .rw [iP h1] at h;have e:=Br h;exact ⟨by rw [seqIndex_of h0 h1,e],by omega,by omega,h1⟩
  .rw [iN h1] at h;cases h
 .rw [iN h0] at h;by_cases h1:-(n:Int)<=i
  .rw [iP h1] at h;have e:=Br h;exact ⟨by rw [seqIndex_neg (by omega) h1,e],by omega,h1,by omega⟩
  .rw [iN h1] at h;cases h
def WR(h:atI xs i=some v):∃j,seqIndex? i xs.length=some j/\xs[j]?=some v/\j<xs.length/\-(xs.length:Int)<=i/\i<xs.length:=by
 unfold atI at h;cases e:ixN xs.length i with
 | none=>rw [e] at h;cases h
 | some j=>
  rw [e] at h;obtain ⟨d,c,b,a⟩:=Zr e;exact ⟨j,d,h,c,b,a⟩
def RL(b:Expr):Prop:=∀o i,subscripted b false o i=operate [o,i] (getItem o i)
def IxR(X:Cx)(r:R2):Prop :=
 ∀c a b s Y H x y v u Q,Inv X b Y H s->RelV x v->RelV y u->r x y H Q ->
  subscripted a false v u=operate [v,u] (getItem v u)->wX X (subscriptTail c a v u) (EP X b Y Q) X.xe s
def MtR(X:Cx)(id:String)(r:V->List V->Hp->VK->Prop):Prop :=
 ∀a s Y H x b v c Q,Inv X a Y H s->RelV x v->Vals b c->r x b H Q ->
  wX X (call (.builtin id) (v::c)) (EP X a Y Q) X.xe s
section
variable{X:Cx}{a b:Expr}{ta tb:TE}{pos:Pos}
def IxR.or(h:IxR X r)(h':IxR X r'):IxR X (λx y H Q=>r x y H Q\/r' x y H Q):=by
 intro b a c s Y H x y v u Q I e d q f;rcases q with q | q
 .exact h b a c s Y H x y v u Q I e d q f
 .exact h' b a c s Y H x y v u Q I e d q f
def Q9(hr:IxR X r)(ha:PE X a ta)(hb:PE X b tb)(hs:RL b):PE X (.Subscript a b pos) (tOp r ta tb):=by
 intro c s Y H Q I h;exact Subscript_ (binT ha hb I h λv u e x y f i g d q=>hr a b c e Y f x y v u Q i g d q (hs _ _))
def rIxL(K:W.Frag):R2:=λx y H Q=>∃p a i v,x=.ref p/\y=.int i/\SqL K H p a/\atI a i=some v/\Q v H
def rIxT(K:W.Frag):R2:=λx y H Q=>∃p a i v,x=.ref p/\y=.int i/\SqT K H p a/\atI a i=some v/\Q v H
def RZ:IxR X (rIxL X.K):=by
 intro f d b s Y H x y v u Q I A C h n;obtain ⟨p,J,i,z,rfl,rfl,B,o,q⟩:=h;cases A;obtain ⟨t,rfl⟩:=C;obtain ⟨g,r,k,L⟩:=I.list B;obtain ⟨j,c,F,M,G,D⟩:=WR o;obtain ⟨w,m,l⟩:=r.get F;have E:=r.length;have N:=Qa;have a:EP X b Y Q w s:=⟨z,H,I,l,q⟩;by_cases h0:0<=i
 .have e:i.toNat=j:=by
   rw [seqIndex_of h0 D] at c;exact Br c
  exact item_listR k.isList h0 (by omega) (by rw [e];simpa using m) a n
 .have e:(i+(g.toArray.size:Int)).toNat=j:=by
   rw [seqIndex_neg (by omega) G] at c;rw [Be,<-E];exact Br c
  exact subscriptTail_builtinR k.isList.typeIs slot_list_getitem.lookup
   (wpAny_getItem_list_neg k.isList (by omega) (by rw [Be]<;>omega) (by omega) (by rw [e];simpa using m) ⟨rfl,a⟩) n
def Rg:IxR X (rIxT X.K):=by
 intro c b a s Y H x y v u Q I l n h C;obtain ⟨p,F,i,z,rfl,rfl,m,k,q⟩:=h;cases l;obtain ⟨t,rfl⟩:=n;obtain ⟨o,r,f,G⟩:=I.tuple m;obtain ⟨j,A,D,L,J,E⟩:=WR k;obtain ⟨w,g,d⟩:=r.get D;have B:=r.length;have M:=Qa;have e:EP X a Y Q w s:=⟨z,H,I,d,q⟩;exact subscriptTail_builtinR f.typeIs slot_tuple_getitem.lookup
  (getItem_tuple f (by omega) (by omega) (by rw [Be,<-B];exact A) (by simpa using g) ⟨rfl,e⟩) C
def yI(its:List Value)(n j:Nat)(u:Value):Obj.mapSeq (·.setIfInBounds j u) { cls:=.type "list",data:=.seq its.toArray n }={ cls:=.type "list",data:=.seq (its.set j u).toArray n }:=by
 simp [Obj.mapSeq]
def Inv.lst{pins:List (Addr×Obj)}{Y:St}{H:Hp}{s:Shared}{p:Addr}{xs:List V}(I:Inv X pins Y H s)(h:H p=some (.lst xs)) :
  ∃its n,Vals xs its/\s.heap.get? p=some { cls:=.type "list",data:=.seq its.toArray n }/\xs.length<=sizeLine:=by
 obtain ⟨z,its,n,r,e⟩:=I.hok p _ h;exact ⟨its,n,r,e,z⟩
def Inv.lstUpd{s:Shared}{ys:List V}{its its':List Value}(I:Inv X pins Y H s)(h:H p=some (.lst xs))(ho:s.heap.get? p=some { cls:=.type "list",data:=.seq its.toArray n })(hf:f { cls:=.type "list",data:=.seq its.toArray n }={ cls:=.type "list",data:=.seq its'.toArray n' })(r:Vals ys its')(hz:ys.length<=sizeLine)(t) :
  Inv X pins Y (upd H p (.lst ys)) { s with heap:=s.heap.update p f,toks:=t }:=by
 have e:(s.heap.update p f).get? p=some { cls:=.type "list",data:=.seq its'.toArray n' }:=by
  rw [Ku f ho (by rw [hf]<;>rfl),hf]
 refine I.write (by rw [h];trivial) (.inl rfl) (λb u a q=>(Ke _ _ (Ne.symm a)).trans q) ⟨_,e⟩ ?_;exact ⟨hz,its',n',r,e⟩
def GZ:V->V->V->Hp->(Hp->Prop)->Prop:=λo i v H Q=>∃p a k j,o=.ref p/\i=.int k/\H p=some (.lst a)/\ixN a.length k=some j/\Q (upd H p (.lst (a.set j v)))
def set_list:PSet X GZ:=by
 intro b s Y H o i v E G u Q I z B x h;obtain ⟨p,y,k,j,rfl,rfl,g,A,q⟩:=h;cases z;obtain ⟨t,rfl⟩:=B;obtain ⟨a,n,r,d,C⟩:=I.lst g;obtain ⟨c,D,w,m⟩:=Zr A;have f:=r.length;have F:=Qa;have l:Inv X b Y (upd H p (.lst (y.set j v))) { s with heap:=s.heap.update p (Obj.mapSeq (·.setIfInBounds j u)) } :=
  I.lstUpd g d (yI a n j u) (r.set x j) (by rw [De];exact C) s.toks
 by_cases h0:0<=k
 .have e:k.toNat=j:=by
   rw [seqIndex_of h0 m] at c;exact Br c
  exact W.ki_setAt d h0 (by omega) (by rw [Be,<-f];exact m) (by rw [e];exact ⟨_,l,q⟩)
 .have e:(k+(a.toArray.size:Int)).toNat=j:=by
   rw [seqIndex_neg (by omega) w] at c;rw [Be,<-f];exact Br c
  exact W.ki_setBack d (by omega) (by rw [Be,<-f];exact w) (by omega) (by rw [e];exact ⟨_,l,q⟩)
def zV(lo hi)(n):(sliceBounds lo hi none n).1=((HT.sIx n 0 lo:Nat):Int)/\(sliceBounds lo hi none n).2.1=((HT.sIx n n hi:Nat):Int)/\(sliceBounds lo hi none n).2.2=1:=by
 refine ⟨?_,?_,rfl⟩
 .cases lo with
  | none=>simp [sliceBounds,HT.sIx]
  | some i=>
   simp only [sliceBounds,HT.sIx,Option.getD_none,show (1:Int)>0 by decide,Dj];by_cases h:i<0
   .simp only [h,Dj]<;>omega
   .simp only [h,CV]<;>omega
 .cases hi with
  | none=>simp [sliceBounds,HT.sIx]
  | some i=>
   simp only [sliceBounds,HT.sIx,Option.getD_none,show (1:Int)>0 by decide,Dj];by_cases h:i<0
   .simp only [h,Dj]<;>omega
   .simp only [h,CV]<;>omega
def vg(its:List Value)(lo hi:Option Int):slicePick its.toArray lo hi none=((its.drop (HT.sIx its.length 0 lo)).take (HT.sIx its.length its.length hi - HT.sIx its.length 0 lo)).toArray:=by
 obtain ⟨c,b,a⟩:=zV lo hi its.toArray.size;unfold slicePick;rw [c,b,a];simp only [sliceRange_one,pick_run,Be]<;>rfl
def rSlL(K:W.Frag):V->Option Int->Option Int->Hp->VK->Prop:=λx d c H Q=>∃a b,x=.ref a/\SqL K H a b/\∀p,H p=none->Q (.ref p) (upd H p (.lst (cutV b d c)))
def lu:SlR X (rSlL X.K):=by
 intro i s Y H x v u t e f w Q I n o j k h;obtain ⟨a,c,rfl,m,q⟩:=h;cases n;obtain ⟨l,r,g,p⟩:=I.list m;have d:=r.length;refine ⟨"list",_,slot_list_getitem.lookup,g.isList.typeIs,?_⟩;refine wpAny_getItem_list_slice g.isList o j k .none (by simp) ?_ (by rw [Be]<;>omega);rw [vg,<-d];refine ⟨.ref s.heap.objs.size,_,I.laid (λb y q=>Bf _ q) (Am _) ?_,rfl,q _ (I.hok.fresh (Am _))⟩;exact ⟨CJ (cB c e f) p,_,0,(r.drop (HT.sIx c.length 0 e)).take (HT.sIx c.length c.length f - HT.sIx c.length 0 e),CQ _ rfl⟩
def Xm:Et X (.builtin "len") (λxs H Q=>∃p ys,xs=[.ref p]/\(SqL X.K H p ys\/SqT X.K H p ys)/\Q (.int ys.length) H):=by
 intro e s Y H xs i Q I r h;obtain ⟨p,ys,rfl,hq,q⟩:=h;obtain ⟨u,rfl,f⟩:=vals1 r;cases f;have j:=Qa;rcases hq with hq | hq
 .obtain ⟨d,c,b,g⟩:=I.list hq;have a:=c.length;exact Calls.call_len_list b.isList (by simp only [Be]<;>omega) ⟨.int ys.length,H,I.tok _,⟨s.toks+1,by rw [Be,a]⟩,q⟩
 .obtain ⟨d,c,b,g⟩:=I.tuple hq;have a:=c.length;exact len_tuple b (by simp only [Be]<;>omega) ⟨.int ys.length,H,I.tok _,⟨s.toks+1,by rw [Be,a]⟩,q⟩
def lw:Et X (.type "list") (λxs H Q=>∃p ys,xs=[.ref p]/\(SqL X.K H p ys\/SqT X.K H p ys)/\∀l,H l=none->Q (.ref l) (upd H l (.lst ys))):=by
 intro m s Y H xs B Q I r h;obtain ⟨p,ys,rfl,hq,q⟩:=h;obtain ⟨u,rfl,A⟩:=vals1 r;cases A;have k:∀a,Vals ys a->ys.length<=sizeLine->∀c f,(∀b z,s.heap.get? b=some z->c.get? b=some z) ->
   c.get? s.heap.objs.size=some { cls:=.type "list",dict:=none,data:=.seq a.toArray f,slots:=#[] }->EP X m Y Q (.ref s.heap.objs.size) { s with heap:=c }:=λa d j c f g e=>
  ⟨.ref s.heap.objs.size,_,I.laid g (Am _) (show Dt X.prog X.w _ c _ (.lst ys) from ⟨j,a,f,d,e⟩),rfl,q _ (I.hok.fresh (Am _))⟩
 rcases hq with hq | hq
 .obtain ⟨a,d,t,j⟩:=I.list hq;have i:=d.length;obtain ⟨o,v,x,n,y⟩:=t.isList;exact call_list_seq p (.inl rfl) v x y (λc f g e=>k a d j c f g e) (by simp only [Be]<;>omega)
 .obtain ⟨a,d,t,j⟩:=I.tuple hq;have i:=d.length;obtain ⟨o,v,x,n,y⟩:=t;exact call_list_seq p (.inr rfl) v x y (λc f g e=>k a d j c f g e) (by simp only [Be]<;>omega)
def uO:Et X (.type "tuple") (λxs H Q=>∃p ys,xs=[.ref p]/\((SqL X.K H p ys/\∀l,H l=none->Q (.ref l) (upd H l (.tup ys)))\/(SqT X.K H p ys/\Q (.ref p) H))):=by
 intro c s Y H xs v Q I r h;obtain ⟨p,ys,rfl,h⟩:=h;obtain ⟨u,rfl,n⟩:=vals1 r;cases n;rcases h with ⟨hq,q⟩ | ⟨hq,q⟩
 .obtain ⟨a,f,d,j⟩:=I.list hq;have i:=f.length;refine call_tuple_list d.isList (λg m=>?_) (by simp only [Be]<;>omega);have k:=I.kept (t':=s.toks) m;have t:Inv X c Y (upd H g.objs.size (.tup ys)) { s with heap:=g.push { cls:=.type "tuple",data:=.seq a.toArray } } :=
   k.laid (λb o e=>Bf _ e) (Am _) (⟨j,a,f,IsTup.new _ _⟩)
  exact ⟨.ref g.objs.size,_,t,rfl,q _ (k.hok.fresh (Am _))⟩
 .obtain ⟨a,f,d,j⟩:=I.tuple hq;exact call_tuple_same d ⟨.ref p,H,I,rfl,q⟩
def tyV(K:W.Frag)(T:String)(x:V)(H:Hp):Prop:=match x with
 | .str _=>T = "str"
 | .int _=>T = "int"
 | .ref p=>(T = "list"/\∃b,SqL K H p b)\/(T = "tuple"/\∃o,K.lookup p=some o/\o.cls=.type "tuple"/\o.dict=none) \/False
 | _=>False
def rF(I:Inv X pins Y H s)(r:RelV x v)(ty:tyV X.K T x H) :
  s.TypeIs v T/\∀a,v=.ref a->∃ob,s.heap.get? a=some ob/\ob.dict=none:=by
 cases x with
 | str z=>
  obtain ⟨t,rfl⟩:=r;cases (ty);exact ⟨typeIs_str s z t,λ_ e=>nomatch e⟩
 | int i=>
  obtain ⟨t,rfl⟩:=r;cases (ty);exact ⟨typeIs_int s i t,λ_ e=>nomatch e⟩
 | ref p=>
  cases r;rcases ty with ⟨rfl,xs,hq⟩ | ⟨rfl,o,hk,hc,b⟩ | c
  .obtain ⟨g,_,f,_⟩:=I.list hq;refine ⟨f.isList.typeIs,λa e=>?_⟩;cases e;obtain ⟨o,n,e,c,b,_⟩:=f;exact ⟨o,e,b⟩
  .refine ⟨⟨o,I.kIn p o hk,hc⟩,λa e=>?_⟩;cases e;exact ⟨o,I.kIn _ o hk,b⟩
  .exact c.elim
 | _=>exact False.elim ty
def tBM(K:W.Frag)(T:String)(r:V->List V->Hp->VK->Prop)(to:TE)(t:TA):TE:=λY H Q=>to Y H λx a=>tyV K T x a/\t Y a λc b=>r x c b Q
variable{o e:Expr}{es:List Expr}{to:TE}{t:TA}{name:Str}{apos cpos:Pos}{T id:String}{r:V->List V->Hp->VK->Prop}
def JH(pa:PlainAttrs T)(slot:Slot T name id)(hty:typeOf (.builtin id)=pure (.type "method_descriptor"))(hm:MtR X id r)(ho:PE X o to)(ha:PA X (e::es) t)(hbase:attributeBase o name X.env (eval o X.env)=eval o X.env:=by rfl) (hfew:((backTo cpos (starEach (e::es) X.env)).all (λx=>!x.1)&&(backToKw cpos (keywordEach [] X.env)).all (λx=>x.1.isSome)
   && decide ((e::es).length+([]:List Keyword).length+(if ([]:List Keyword).isEmpty then 0 else 1)<30))=true:=by rfl) (hline:(apos.endLine==cpos.line)=true:=by rfl) (hs:starEach (e::es) X.env=(false,eval e X.env)::starEach es X.env:=by rfl) (hplain:(backTo cpos (starEach es X.env)).any (·.1)=false:=by rfl) :
  PE X (.Call (.Attribute o name apos) (e::es) [] cpos) (tBM X.K T r to t):=by
 intro a s Y H Q I h;refine wpAny_Call_method_late hbase hfew hline rfl (thn (ho a s Y H _ I h) λv f zq=>?_);obtain ⟨x,l,d,b,m,y⟩:=zq;obtain ⟨n,j⟩:=rF d b m;refine ⟨T,id,pa,slot,hty,n,j,?_⟩;have c:=ha cpos a f Y l _ d y;rw [hs] at c ⊢;refine Calls.callWith_builtin (by show (false||(backTo cpos (starEach es X.env)).any (·.1))=false;rw [hplain]<;>rfl) (Calls.evalArgs_plain ?_);exact thn c λk q ⟨p,u,w,g,i⟩=>hm a q Y u x p v k Q w b g i
end
def MtM(X:Cx)(id:String)(r:V->List V->Hp->VK->Prop):Prop :=
 ∀a s Y H x b v c Q,Inv X a Y H s->RelV x v->Vals b c->r x b H Q ->
  wX X (call (.builtin id) (v::c)) (EP X a Y Q) X.xe s
def Vals.one:∀{x:V} {us:List Value},Vals [x] us->∃u,us=[u]/\RelV x u
 | _,_,.cons r .nil=>⟨_,rfl,r⟩
def Vals.eraseIdx:∀{xs:List V} {us:List Value} (i:Nat),Vals xs us->Vals (xs.eraseIdx i) (us.eraseIdx i)
 | _,_,_,.nil=>.nil
 | _,_,0,.cons _ t=>t
 | _,_,i+1,.cons r t=>.cons r (Vals.eraseIdx i t)
def Vals.rep(h:Vals xs us):∀k,Vals (List.replicate k xs).flatten (List.replicate k us).flatten
 | 0=>.nil
 | k+1=>by
  rw [Gn,Gn,Jf,Jf];exact Vals.append h (Vals.rep h k)
def YC:∀(l:List α) (i:Nat),(l.eraseIdx i).length<=l.length
 | [],_=>Am _
 | _::_,0=>Ir _
 | _::r,i+1=>Nat.succ_le_succ (YC r i)
def foldl_rep(its:List Value):∀k acc,
  List.foldl (λx1 x2=>x1++x2) acc.toArray (List.replicate k its.toArray)=(acc++(List.replicate k its).flatten).toArray
 | 0,acc=>by simp
 | k+1,acc=>by
  have e:acc.toArray++its.toArray=(acc++its).toArray:=by simp
  have a:(acc++its)++(List.replicate k its).flatten=acc++(List.replicate (k+1) its).flatten:=by
   rw [Gn,Jf,Dr]
  rw [<-a,<-foldl_rep its k (acc++its),<-e,Gn,List.foldl_cons]
section
variable{X:Cx}{pins:List (Addr×Obj)}{Y:St}{H:Hp}{s:Shared}{l b:Addr}{xs ys zs:List V}
def Inv.lset{its its':List Value}(I:Inv X pins Y H s)(hH:H l=some (.lst xs))(e:s.heap.get? l=some { cls:=.type "list",data:=.seq its.toArray n })(hf:f its.toArray=its'.toArray)(hv:Vals ys its')(hz:ys.length<=sizeLine) :
  Inv X pins Y (upd H l (.lst ys)) { s with heap:=s.heap.update l (Obj.mapSeq f),toks:=t' }:=by
 have q:=PySem.IsL.update e f;rw [hf] at q;refine I.write (by rw [hH];exact trivial) (.inl rfl) (λc u a b=>(Ke s.heap (Obj.mapSeq f) (Ne.symm a)).trans b) ⟨_,q⟩ ?_;exact ⟨hz,its',_,hv,q⟩
def Inv.lnew(I:Inv X pins Y H s)(hv:Vals ys its)(hz:ys.length<=sizeLine) :
  Inv X pins Y (upd H s.heap.objs.size (.lst ys)) { s with heap:=s.heap.push { cls:=.type "list",data:=.seq its.toArray },toks:=t' } :=
 I.laid (λ_ _ q=>Bf _ q) (Am _) ⟨hz,its,0,hv,CQ _ rfl⟩
def Inv.fresh(I:Inv X pins Y H s):H s.heap.objs.size=none:=I.hok.fresh (Am _)
def Inv.lstM(I:Inv X pins Y H s)(hH:H l=some (.lst xs)):xs.length<=sizeLine/\∃its n,Vals xs its/\xs.length=its.length/\s.heap.get? l=some { cls:=.type "list",data:=.seq its.toArray n }:=by
 obtain ⟨z,its,n,r,e⟩:=I.hok l _ hH;exact ⟨z,its,n,r,r.length,e⟩
def Wo(h:n<=sizeLine):Builtin.List.listTooLong n=false:=by
 unfold Builtin.List.listTooLong;exact Fz (by omega)
end
section
variable{X:Cx}
def FZ:V->List V->Hp->VK->Prop:=λx b H Q=>∃l a y,x=.ref l/\b=[y]/\H l=some (.lst a)/\a.length<sizeLine/\Q .non (upd H l (.lst (a++[y])))
def PJ:MtM X "list.append" FZ:=by
 intro c s Y H x k v j Q I g d h;obtain ⟨l,i,y,rfl,rfl,b,o,q⟩:=h;cases g;obtain ⟨u,rfl,f⟩:=d.one;obtain ⟨z,a,n,r,m,e⟩:=I.lstM b;refine call_meets F.slot_list_append ⟨_,e,rfl⟩ F.entry_list_append (F.args_list_append_2 _ _) (PySem.list_append l a.toArray n u (by rw [Be];omega)) ⟨e,?_⟩;refine ⟨.non,_,I.lset b e (by simp) (r.append (.cons f .nil)) ?_,rfl,q⟩;rw [BJ,HS];omega
def S5:V->List V->Hp->VK->Prop:=λx b H Q=>∃l a i k y,x=.ref l/\b=[.int i]/\H l=some (.lst a)/\-(2^63)<=i/\i<2^63/\seqIndex? i a.length=some k/\a[k]?=some y/\Q y (upd H l (.lst (a.eraseIdx k)))
def jl:MtM X "list.pop" S5:=by
 intro d s Y H x G v E Q I B g h;obtain ⟨l,j,i,k,y,rfl,rfl,c,C,m,p,o,q⟩:=h;cases B;obtain ⟨u,rfl,A⟩:=g.one;obtain ⟨t,rfl⟩:=A;obtain ⟨z,a,n,r,D,e⟩:=I.lstM c;obtain ⟨w,f,b⟩:=r.get o;refine call_meets F.slot_list_pop ⟨_,e,rfl⟩ F.entry_list_pop (F.args_list_pop_2 _ _)
  (MeetsSeq.list_pop_at l a.toArray n i t k w (fitsIndex_both C m) (by rw [Be,<-D];exact p) (by rw [<-Rm];exact f) (by rw [Be];omega)) ⟨e,?_⟩
 refine ⟨y,_,I.lset c e ?_ (r.eraseIdx k) ?_,b,q⟩
 .show a.toArray.eraseIdxIfInBounds k=(a.eraseIdx k).toArray;rw [List.eraseIdxIfInBounds_toArray]
 .have:=YC j k;omega
def rRep:R2:=λx y H Q=>∃l k a,x=.ref l/\y=.int k/\H l=some (.lst a)/\-(2^63)<=k/\k<2^63/\a.length*k.toNat<=sizeLine /\
 ∀p,H p=none->Q (.ref p) (upd H p (.lst (List.replicate k.toNat a).flatten))
def len_rep(xs:List α)(k:Nat):(List.replicate k xs).flatten.length=k*xs.length:=by
 induction k with
 | zero=>simp
 | succ k ih=>rw [Gn,Jf,BJ,ih,FN,JV]
def nH:OpR X (binaryOp .Mult) rRep:=by
 intro w s Y H x y v u Q I B C h;obtain ⟨l,k,L,rfl,rfl,A,E,D,p,q⟩:=h;cases B;obtain ⟨t,rfl⟩:=C;obtain ⟨z,b,n,r,G,e⟩:=I.lstM A;have g:b.toArray.size*k.toNat<=sizeLine:=by rw [Be,<-G];exact p
 have f:¬b.toArray.size*k.toNat>(2^63 - 1)/8:=by
  have:(sizeLine:Nat)<=(2^63 - 1)/8:=by decide
  omega
 have d:¬(!Builtin.List.listFitsIndex k)=true:=by
  rw [fitsIndex_both E D];exact DX
 have c:¬Builtin.List.listTooLong (b.toArray.size*k.toNat)=true:=by
  rw [Wo g];exact DX
 have i:List.foldl (λj o=>j++o) #[] (List.replicate (if b.toArray.isEmpty=true then 0 else k.toNat) b.toArray)=(List.replicate k.toNat b).flatten.toArray:=by
  have J:∀m:Nat,List.foldl (λj o=>j++o) #[] (List.replicate m b.toArray)=(List.replicate m b).flatten.toArray:=λm=>by
   have:=foldl_rep b m [];rw [List.nil_append] at this;exact this
  rw [J];cases b with
  | nil=>simp
  | cons a r'=>rw [iN (by simp)]
 refine wpAny_binaryOp_repeat_ref (by decide) ⟨_,e,rfl⟩ (λK=>typeIs_int K k t) noFill_list_mul F.fills_int_mul F.slot_int_rmul repeat_list F.slot_int_index.lookup
  (call_meets F.slot_int_rmul (typeIs_int s k t) F.entry_int_rmul (F.args_int_rmul_2 _ _) (int___rmul___int_list k t l b.toArray n)
   ⟨e,rfl,⟨_,e,rfl⟩,call_meets F.slot_list_mul ⟨_,e,rfl⟩ F.entry_list_mul (F.args_list_mul_2 _ _) (AutoListH.list___mul___list_int_3 l b.toArray n k t d f c) ⟨e,?_⟩⟩)
 rw [i];exact ⟨.ref _,_,I.lnew (r.rep k.toNat) (by rw [len_rep,Nat.mul_comm];exact p),rfl,q _ I.fresh⟩
end
section
variable{prog:Program}{w:World}{A:Around}{E:Value->Shared->Prop}{s:Shared}
set_option maxRecDepth 100000 in
end
end L2
namespace Att
open PySem.W PySem.Calls
def lZ:∀ns vs,WellAll P h vs (ns.map WData.int)->IntsAre vs ns:=by
 intro ns
 induction ns with
 | nil=>
  intro vs w;rw [List.map_nil] at w;cases w;exact .nil
 | cons n ns ih=>
  intro vs w;rw [Bb] at w;cases w with
  | cons a b=>
   cases a;exact .cons _ _ (ih _ b)
def fQ{l:OpenLaw}(hn:l.most=some n){h:Heap}(hpre:l.row.toRowW.claim.pre args=true)(hwl:WellAll P h vals args) :
  ∃a vs ns,vals=[Value.ref a]/\args=[WData.list (ns.map WData.int)]/\h.get? a=some { cls:=.type "list",data:=.seq vs.toArray }/\IntsAre vs ns/\ns.length<=n:=by
 have f:=(pre_splitW hpre).1;have g:l.pre.holds [] { args:=args }=true:=(pre_splitW hpre).2;obtain ⟨d,r,rfl,m,j⟩:=hasAllW_cons f;obtain rfl:=hasAllW_nil j;obtain ⟨o,rfl,k⟩:=hasW_list m;obtain ⟨ns,rfl⟩:=items_int k;have b:ns.length<=n:=by
  unfold OpenLaw.pre at g;have e:(WTm.not (.lt (.lit (.int n)) (.len (.arg 0)))).holds [] { args:=[.list (ns.map .int)] }=true:=by
   have e:=(holds_andW g).1;rw [hn] at e;exact e
  have c:=condW_of e (w_not (w_lt w_lit (w_len_list (w_arg rfl))));rw [Ad] at c;refine Nat.le_of_not_lt λq=>?_;have i:(n:Int)<((ns.length:Nat):Int):=by omega
  first
   | (rw [Dp i] at c;exact aB c (by decide))
   | (simp at c;omega)
 cases hwl with
 | cons w1 w2=>
  cases w2;cases w1 with
  | list ho hall=>exact ⟨_,_,ns,rfl,rfl,ho,lZ ns _ hall,b⟩
def xX(l:OpenLaw)(args:List WData):l.row.toRowW.claim.post args (.bool true) args=true :=
 postW_of
  (by first | rfl | decide | simp [WShape.has,WShape.arms,WShape.armsAll])
  (w_eq_bool (w_res rfl) w_lit) rfl
def yg{l:OpenLaw}{d:DefRec}(hn:l.most=some n)(hdf:d.params.defaults=[]) (call:∀(w:World) (s₀ s₁:Shared) (mg mb:Str->Option Value) (fa:Addr) (o:Obj) (pm cd doc:Value) (a:Addr) (vs:List Value) (ns:List Int),
   Ground q loose [] XP w s₀ mg mb s₁.heap->YP w s₁.heap ->
   s₁.heap.get? fa=some o->o.data=.func (docDef d.name d.params d.body d.scope pm cd doc)->s₁.heap.CodeRec cd d.name->mg d.name=some (.ref fa) ->
   s₁.heap.get? a=some { cls:=.type "list",data:=.seq vs.toArray }->IntsAre vs ns->ns.length<=n->s₁.gens=#[] ->
   codeAny (model l.prog w) callerA (.call (.ref fa) ⟨[.ref a],[]⟩) (λr s'=>r=.ok (.ret (.bool true))/\OldK s₁.heap s'.heap/\s'.os=s₁.os/\AllBare s'.gens) s₁) :
  WalkO q loose XP YP l.row.toRowW d [] (λf vs=>PySem.call f vs):=by
 intro w s₀ s₁ mg mb G A fa o pm cd doc E t v B h k j u s m I g p C i z;obtain rfl:E=.none:=Dflts.none k hdf;obtain rfl:t=.none:=Dflts.noKw k;obtain ⟨a,vs,ns,rfl,rfl,c,b,e⟩:=fQ hn g i;refine enter_call (KY (call w s₀ s₁ mg mb fa o pm cd doc a vs ns G A v (fd_plain B) h j c b e u) λr s' y=>?_);obtain ⟨rfl,D,H,F⟩:=y;exact ⟨.inl ⟨.bool true,.bool true,[],rfl,λ_=>rfl,.bool true,xX l _,λ_=>⟨List.Pairwise.nil,λ_ x=>(nomatch x)⟩⟩,D,H,F⟩
end Att
namespace L2
def Rq:∀{vs:List Value} {ns:List Int},IntsAre vs ns->Vals (ns.map V.int) vs
 | _,_,.nil=>.nil
 | _,_,.cons n t h=>.cons ⟨t,rfl⟩ (Rq h)
def Only(H:Hp):Prop:=∀b,H b=none\/∃o a,H b=some (.frz o (.lst a))
def xN{K:W.Frag}{s₁:Shared}{vs:List Value}{ns:List Int}(KX:K.In s₁.heap)(hns:s₁.heap.Ns mainGlobals mg)(hb:s₁.heap.Ns builtinsNs mb)(hbb:∀x:Str,x ≠ "__name__"->mb x=bootBuiltins x)(hlim:s₁.heap.NoLimit)(hg:s₁.gens=#[])(ha:s₁.heap.get? a=some { cls:=.type "list",data:=.seq vs.toArray })(hi:IntsAre vs ns)(hl:ns.length<=sizeLine)(hr:Room k callerA)(F:∀base:Heap,K.In base->base.Ns mainGlobals mg->FnOk P w K mg base CX k fa fd [x] sp)(hbind:∀(s:Shared) (u:Value),BindsTo s fd ⟨[u],[]⟩ [(x,u)])(hsp:∀H:Hp,Only H->SqL K H a (ns.map V.int)->sp [.ref a] H (λv _=>v=.bl true) λ_ _ _=>False)(hCX:∀H e s',CX [] H s₁ (λ_ _ _=>False) e s'->False) :
  codeAny (model P w) callerA (.call (.ref fa) ⟨[.ref a],[]⟩) (λr s'=>r=.ok (.ret (.bool true))/\OldK s₁.heap s'.heap/\s'.os=s₁.os/\AllBare s'.gens) s₁:=by
 have J:=Rq hi;have l:=hi.length;have g:∀H:Hp,Only H->SqL K H a (ns.map V.int)->HOk P w H s₁.heap->(∀b,H b≠none->b=a)->(H a≠none->K.lookup a=none) ->
   codeAny (model P w) callerA (.call (.ref fa) ⟨[.ref a],[]⟩) (λr s'=>r=.ok (.ret (.bool true))/\OldK s₁.heap s'.heap/\s'.os=s₁.os/\AllBare s'.gens) s₁:=by
  intro H I O y L S;have c:∀{b:Addr} {o:Obj},s₁.heap.get? b=some o->H b=none->(hidT s₁.heap H).get? b=some o:=λe n=>qQ e n;have C:∀{b:Addr} {o:Obj} {A:Array DictEntry} {B:Nat},s₁.heap.get? b=some o->o.data=.dict A B->H b=none:=λ{b o A B} e d=>by
   cases q:H b with
   | none=>rfl
   | some u=>
    have D:=L b (by rw [q];simp);subst D;rw [ha] at e;cases e;have X:=d;cases X
  have f:∀{b:Addr} {m:Str->Option Value},s₁.heap.Ns b m->(hidT s₁.heap H).Ns b m:=λ{b m} ⟨o,A,B,e,d,r⟩=>⟨o,A,B,c e (C e d),d,r⟩
  have t:K.In (hidT s₁.heap H):=λb o e=>c (KX b o e) (by
   cases q:H b with
   | none=>rfl
   | some u=>
    have D:=L b (by rw [q];simp);subst D
    rw [S (by rw [q];simp)] at e;cases e)
  have U:Mod K mg (hidT s₁.heap H):=⟨t,f hns,⟨mb,f hb,hbb⟩,let ⟨mc,h1,h2⟩:=hlim;⟨mc,f h1,h2⟩⟩;have R:Env0 P w K mg (hidT s₁.heap H) callerA [] s₁ H:=⟨rfl,U,λb o e=>f9 e,Nat.le_of_eq (yN _ _),trivial,λb hb=>aB (show b∈([]:List Addr) from hb) (by simp),y,.of_eq hg⟩;refine KY ((F _ t (f hns)).run callerA [] s₁ H ⟨[.ref a],[]⟩ [.ref a] [.ref a] _ _ hr R (hbind s₁ (.ref a)) (.cons rfl .nil) (hsp H I O)) λr s' h=>?_;cases r with
  | error e=>exact (hCX H e s' h).elim
  | ok fl=>
   cases fl with
   | next=>exact False.elim h
   | brk=>exact False.elim h
   | cont=>exact False.elim h
   | ret u=>
    obtain ⟨v,Y,os,p,G,j,M,q⟩:=h;have Q:=q;subst Q;obtain rfl:u=Value.bool true:=M;refine ⟨rfl,OldK.of_keep λb o e=>?_,os,p⟩;cases q:H b with
    | none=>exact G.keep b o e q (by intro z;exact aB (show b∈([]:List Addr) from z) (by simp)) (by simp)
    | some u=>
     rcases I b with z | ⟨ob,xs,z⟩
     .rw [q] at z;cases z
     .have T:=G.frzs b ob _ z;obtain ⟨E,_⟩:=y b _ z;obtain ⟨N,_⟩:=j b _ T;rw [e] at E;cases E;exact N
 cases hk:K.lookup a with
 | some o=>
  have e:=KX a o hk;rw [ha] at e;cases e;refine g (λ_=>none) (λ_=>.inl rfl) (.inr ⟨_,vs.toArray,_,hk,rfl,rfl,rfl,by rw [Be,l];exact hl,by simpa using J⟩) (λb u z=>by have i:(none:Option HO)=some u:=z;cases i) (λb z=>aB rfl z) λz=>aB rfl z
 | none=>
  refine g (λb=>if b=a then some (.frz { cls:=.type "list",data:=.seq vs.toArray } (.lst (ns.map V.int))) else none) (λb=>?_) (.inl (.inr ⟨{ cls:=.type "list",data:=.seq vs.toArray },iP rfl⟩)) (λb u z=>?_) (λb z=>?_) λ_=>hk
  .by_cases hb:b=a
   .exact .inr ⟨_,_,iP hb⟩
   .exact .inl (iN hb)
  .by_cases hb:b=a
   .have i:=(iP hb).symm.trans z;cases i;subst hb;exact ⟨ha,by rw [Ad];exact hl,vs,_,J,ha⟩
   .have i:=(iN hb).symm.trans z;cases i
  .by_cases hb:b=a
   .exact hb
   .exact aB (iN hb) z
def yh{l:W.OpenLaw}{n k:Nat}{q:Program}{loose:List Str}{XP:(Str->Option Value)->Heap->Prop}{YP:World->Heap->Prop}{d:DefRec}{K:Params->W.Frag}{CX:World->CXT}{sp:World->Sp}{x:Str}(hn:l.most=some n)(hn2:n<=sizeLine)(hdf:d.params.defaults=[])(hr:Room k callerA)(hY:∀(w:World) (h:Heap),YP w h->(K w.params).In h) (F:∀(w:World) (mg:Str->Option Value) (fa:Addr) (h:Heap),(K w.params).In h->h.Ns mainGlobals mg->mg d.name=some (.ref fa) ->
   ∃fd:FuncData,(∀(s:Shared) (u:Value),BindsTo s fd ⟨[u],[]⟩ [(x,u)]) /\
    ∀base:Heap,(K w.params).In base->base.Ns mainGlobals mg->FnOk l.prog w (K w.params) mg base (CX w) k fa fd [x] (sp w)) (hsp:∀(w:World) (H:Hp) (a:Addr) (ns:List Int),ns.length<=n->Only H->SqL (K w.params) H a (ns.map V.int)->sp w [.ref a] H (λv _=>v=.bl true) λ_ _ _=>False) (hCX:∀(w:World) (H:Hp) (s:Shared) (e:Value) (s':Shared),CX w [] H s (λ_ _ _=>False) e s'->False) :
  W.WalkO q loose XP YP l.row.toRowW d [] (λf vs=>PySem.call f vs):=by
 refine Att.yg hn hdf λw r m mg O fa o L N D a vs ns G E M J A p j i c z=>?_;have t:=hY w _ E;obtain ⟨fd,C,I⟩:=F w mg fa _ t G.T.g p;exact xN t G.T.g G.T.b G.T.builtins G.T.nolimit z j i (CJ c hn2) hr I C (λH B y=>hsp w H a ns c B y) λH e s'=>hCX w H m e s'
abbrev E0:XK:=λ_ _ _=>False
structure Fun(K:W.Frag)(x qual:Str)(st:Stmt)(f:Addr)(fd:FuncData):Prop where
 ex:∃(oc:Value) (od:Option Addr) (kV doc pm:Value) (an:Option Addr) (cdv ct:Value) (osl:Array (Option Value)),
  fd=W.fnOf x qual (Gz st) (Dv st) (Ax st) .none kV doc pm an cdv ct/\K.lookup f=some ⟨oc,od,.func fd,osl⟩/\W.codeIn K cdv qual=true
 kp:W.keepIn K (.ref f)=true
section
variable{P:Program}{w:World}{K:W.Frag}{mg:Str->Option Value}{base:Heap}
def Fun.binds{x qual:Str}{st:Stmt}{f:Addr}{fd:FuncData}{ps:List Str}(F:Fun K x qual st f fd)(h:∀(kV doc pm:Value) (an:Option Addr) (cdv ct:Value) (us:List Value),us.length=ps.length->bindArgs (W.fnOf x qual (Gz st) (Dv st) (Ax st) .none kV doc pm an cdv ct) ⟨us,[]⟩=pure (ps.zip us)):Binds K fd ps []:=by
 obtain ⟨d,e,kV,doc,pm,an,cdv,ct,b,rfl,c,a⟩:=F.ex;exact .all (h kV doc pm an cdv ct)
def Eb{x qual:Str}{st:Stmt}{f:Addr}{oc:Value}{od an:Option Addr}{osl:Array (Option Value)}{kV doc pm cdv ct:Value}(l:K.lookup f=some ⟨oc,od,.func (W.fnOf x qual (Gz st) (Dv st) (Ax st) .none kV doc pm an cdv ct),osl⟩)(c:W.codeIn K cdv qual=true)(k:W.keepIn K (.ref f)=true):Fun K x qual st f (W.fnOf x qual (Gz st) (Dv st) (Ax st) .none kV doc pm an cdv ct):=⟨⟨oc,od,kV,doc,pm,an,cdv,ct,osl,rfl,l,c⟩,k⟩
end
def sO(h:n<=1000):n<sizeLine:=Hr h (by decide)
def Same(H H':Hp):Prop:=∀b o,H b=some o->H' b=some o
def Same.refl(H):Same H H:=λ_ _ h=>h
def Same.trans(a:Same H H1)(b:Same H1 H2):Same H H2:=λc o h=>b c o (a c o h)
def Same.free(e:Same H H')(h:H' l=Option.none):H l=Option.none:=by
 cases q:H l with
 | none=>rfl
 | some o=>
  rw [e l o q] at h;cases h
def Same.seq{K:W.Frag}{H H':Hp}{a:Addr}{xs:List V}(e:Same H H')(h:SqL K H a xs):SqL K H' a xs:=by
 rcases h with (h | ⟨o,h⟩) | h
 .exact .inl (.inl (e _ _ h))
 .exact .inl (.inr ⟨o,e _ _ h⟩)
 .exact .inr h
end L2
section
variable{X:L2.Cx}{Y:L2.St}{H:L2.Hp}{s:PySem.Shared}{pins:List (PySem.Addr×PySem.Obj)}{us:List PySem.Value}{pos spos cpos pos':PySem.Pos}{A:PySem.Around}{i n k j:Nat}{e:PySem.Expr}{w:PySem.World}{P:PySem.Program}{K:W.Frag}{x:PySem.Str}{xs:List L2.V}{mg:PySem.Str->Option PySem.Value}{base:PySem.Heap}{ps N:List PySem.Str}{es:List PySem.Expr}{te:L2.TE}{fd:PySem.FuncData}
namespace L2
section
def jU:OpR X (binaryOp .Mult) (rI IntMulOk λi j=>.int (i*j)):=opI λ_ _ _ _ _ _ _ a q=>mul_int q a
def VJ(_ j:Int):Prop:=j≠0/\j.natAbs.log2<9000
def zU:OpR X (binaryOp .FloorDiv) (rI VJ λi j=>.int (i.fdiv j)):=opI λ_ _ _ _ _ _ _ a q=>floordiv_int a.1 q (.inl (PyProof.noPylong_of_log2 a.2))
def gQ{n:String}(hg:Gl X x)(hm:X.mg x=none)(hv:bootBuiltins x=some (.type n))(hn:x ≠ "__name__":=by decide)(hd:ND x:=by decide):PE X (.Name x pos) (tC (.ty n)) :=
 uI hg hm hv rfl hn hd
end
def vC:bootBuiltins "abs"=some (.builtin "abs"):=by decide +kernel
def M9:bootBuiltins "all"=some (.builtin "all"):=by decide +kernel
def Zg2:bootBuiltins "isinstance"=some (.builtin "isinstance"):=by decide +kernel
def T9:bootBuiltins "len"=some (.builtin "len"):=by decide +kernel
def vB:bootBuiltins "min"=some (.builtin "min"):=by decide +kernel
def rP:bootBuiltins "sorted"=some (.builtin "sorted"):=by decide +kernel
def cF:bootBuiltins "int"=some (.type "int"):=by decide +kernel
def zr:bootBuiltins "bool"=some (.type "bool"):=by decide +kernel
def aK:bootBuiltins "tuple"=some (.type "tuple"):=by decide +kernel
def Oj:bootBuiltins "list"=some (.type "list"):=by decide +kernel
def lO:bootBuiltins "zip"=some (.type "zip"):=by decide +kernel
def uz:bootBuiltins "enumerate"=some (.type "enumerate"):=by decide +kernel
def jM(K)(t):W.kitOne K t t=some true:=by
 unfold W.kitOne;rw [iP (beq_self_eq_true t)]
def zj(K)(hne:(Value.type T==Value.type U00)=false)(hm:W.kitMeta U00=true)(h:(fastBuiltinMro T).map (·.contains (Value.type U00))=some b):W.kitOne K (.type T) (.type U00)=some b:=by
 unfold W.kitOne;rw [iN (by rw [hne];exact DX)];show (if W.kitMeta U00=true then _ else none)=_
 rw [iP hm];exact h
mutual
inductive DV(K:W.Frag)(H:Hp):V->PyData->Prop
 | non:DV K H .non .none
 | bl (b:Bool):DV K H (.bl b) (.bool b)
 | int (i:Int):DV K H (.int i) (.int i)
 | str (x:Str):DV K H (.str x) (.str x)
 | tup {a:Addr} {xs:List V} {ds:List PyData} (h:SqT K H a xs) (r:DVs K H xs ds):DV K H (.ref a) (.tuple ds)
 | lst {a:Addr} {xs:List V} {ds:List PyData} (h:SqL K H a xs) (r:DVs K H xs ds):DV K H (.ref a) (.list ds)
inductive DVs(K:W.Frag)(H:Hp):List V->List PyData->Prop
 | nil:DVs K H [] []
 | cons {x:V} {xs:List V} {d:PyData} {ds:List PyData} (h:DV K H x d) (r:DVs K H xs ds):DVs K H (x::xs) (d::ds)
end
section
mutual
def DV.reads(I:Inv X pins Y H s){x:V}{d:PyData}{u:Value}(h:DV X.K H x d)(r:RelV x u):∃as,Reads s.heap u d as:=by
 cases h with
 | non=>cases r;exact ⟨_,.none⟩
 | bl b=>cases r;exact ⟨_,.bool b⟩
 | int i=>obtain ⟨t,rfl⟩:=r;exact ⟨_,.int i t⟩
 | str i=>obtain ⟨t,rfl⟩:=r;exact ⟨_,.str i t⟩
 | tup h q=>
  cases r;obtain ⟨e,a,⟨o,j,c,n,g⟩,_⟩:=I.tuple h;obtain ⟨as,f⟩:=DVs.reads I q a;exact ⟨_,.tuple j c g (by simpa using f)⟩
 | lst h q=>
  cases r;obtain ⟨e,a,k,_⟩:=I.list h;obtain ⟨o,j,c,n,g⟩:=k.isList;obtain ⟨as,f⟩:=DVs.reads I q a;exact ⟨_,.list j c g (by simpa using f)⟩
def DVs.reads(I:Inv X pins Y H s){xs:List V}{ds:List PyData}{us:List Value}(h:DVs X.K H xs ds)(r:Vals xs us):∃as,ReadsAll s.heap us ds as:=by
 cases h with
 | nil=>cases r;exact ⟨_,.nil⟩
 | cons h q=>
  cases r with
  | cons r1 r2=>
   obtain ⟨as,b⟩:=DV.reads I h r1;obtain ⟨c,a⟩:=DVs.reads I q r2;exact ⟨_,.cons b a⟩
end
end
section
def rEqD(K:W.Frag)(f:Bool->Bool):R2:=λx y H Q=>∃a b,DV K H x a/\DV K H y b/\a.canLay0=true/\b.canLay0=true/\a.depth<=60/\Q (.bl (f (PyData.eqv a b))) H
def V1(hu:X.A.units+64<cLine):OpR X (compareOp .Eq) (rEqD X.K id):=by
 intro a s Y H x y v u Q I g b h;obtain ⟨m,n,f,d,j,i,k,q⟩:=h;obtain ⟨l,e⟩:=f.reads I g;obtain ⟨o,c⟩:=d.reads I b;exact PySem.SeqAt.compareEq_reads e c j i (by omega) (PN I q rfl)
def sU(hu:X.A.units+64<cLine):OpR X (compareOp .NotEq) (rEqD X.K not):=by
 intro a s Y H x y v u Q I g b h;obtain ⟨m,n,f,d,j,i,k,q⟩:=h;obtain ⟨l,e⟩:=f.reads I g;obtain ⟨o,c⟩:=d.reads I b;exact PySem.SeqAt.compareNe_reads e c j i (by omega) (PN I q rfl)
end
structure Def(K:W.Frag)(mg:Str->Option Value)(x:Str)(st:Stmt)(ps:List Str):Prop where
 ex:∃(f:Addr) (fd:FuncData),Fun K x x st f fd/\Binds K fd ps []/\mg x=some (.ref f)
def DP(h:H p=none)(o):Same H (upd H p o):=λb u q=>by rw [Ag (Ay q h)];exact q
end L2
namespace L2
def Y9(ts:List Expr)(env:Env):Sem Bool:=match ts with
 | []=>pure true
 | c::_=>isTrue c env (eval c env)
def sZ(elt target iter c)(scope)(pos)(it acc)(env) :
  compTurn (.ListComp elt [⟨target,iter,[c],0⟩] scope pos) 0 it acc env=(standAt iter.pos >>= λ_=>pyNext it >>= λr=>match r with
   | none=>pure (.done .next)
   | some v=>letOwnedTupleGo target it v >>= λ_=>assign target env v >>= λ_=>
    (forIn [c] true λ(c:Expr) (s:Bool)=>if s=true then (isTrue c env (eval c env) >>= λok=>pure (ForInStep.yield ok)) else pure (ForInStep.yield s)) >>= λs=>if s=true then
     (eval elt env >>= λx=>call (.builtin "list.append") [acc,x] >>= λ_=>pure ()) >>= λ_=>
      again (.compLoop (.ListComp elt [⟨target,iter,[c],0⟩] scope pos) 0 it acc env)
     else again (.compLoop (.ListComp elt [⟨target,iter,[c],0⟩] scope pos) 0 it acc env)):=by rfl
def wH(hts:ts.length<=1)(I:Nat->Shared->Prop) (turn:∀n s,I n s->wpAny (model prog w) A (pyNext it) (λr s₁=>match r with
   | none=>R (.ok .next) s₁
   | some v=>wpAny (model prog w) A (letOwnedTupleGo target it v) (λ_ s1'=>wpAny (model prog w) A (assign target env v) (λ_ s₂=>wpAny (model prog w) A (Y9 ts env) (λb s2'=>if b=true then wpAny (model prog w) A (eval elt env) (λx s₃=>
     wpAny (model prog w) A (call (.builtin "list.append") [acc,x]) (λ_ s₄=>∃m,m<n/\I m s₄) (notedBy (model prog w) A env λe s'=>R (.error e) s') s₃)
     (notedBy (model prog w) A env λe s'=>R (.error e) s') s2' else ∃m,m<n/\I m s2') (notedBy (model prog w) A env λe s'=>R (.error e) s') s₂) (notedBy (model prog w) A env λe s'=>R (.error e) s') s1') (notedBy (model prog w) A env λe s'=>R (.error e) s') s₁) (notedBy (model prog w) A env λe s'=>R (.error e) s') s) (n:Nat) (h:I n s) :
  codeAny (model prog w) A (.compLoop (.ListComp elt [⟨target,iter,ts,0⟩] scope pos) 0 it acc env) R s:=by
 refine codeAny_loop rfl I (λn s l=>?_) n h;refine wpAny_noted ?_
 match ts,hts with
 | [],_=>
  refine Ac (wpAny_standAt (Ac (Cg (turn n s l) (λr s₁ f=>?_) λ_ _ a=>a)));cases r with
  | none=>exact Ae f
  | some v=>
   refine Ac (Cg f (λ_ s1' g=>?_) λ_ _ a=>a);refine Ac (Cg g (λ_ s₂ i=>?_) λ_ _ a=>a);show wpAny _ _ ((pure true:Sem Bool) >>= λb=>if b=true then ((eval elt env >>= λx=>call (.builtin "list.append") [acc,x] >>= λ_=>pure ()) >>= λ_=>again (.compLoop (.ListComp elt [⟨target,iter,[],0⟩] scope pos) 0 it acc env)) else again (.compLoop (.ListComp elt [⟨target,iter,[],0⟩] scope pos) 0 it acc env)) _ _ s₂
   refine Ac (Cg i (λb s2' d=>?_) λ_ _ a=>a);cases b with
   | true=>
    exact Ac (Ac (Cg d (λx s₃ j=>Ac (Cg j (λ_ s₄ k=>Ae (Ae ⟨rfl,k⟩)) λ_ _ a=>a)) λ_ _ a=>a))
   | false=>
    exact Ae ⟨rfl,d⟩
 | [c],_=>
  rw [sZ];refine Ac (wpAny_standAt (Ac (Cg (turn n s l) (λr s₁ f=>?_) λ_ _ a=>a)));cases r with
  | none=>exact Ae f
  | some v=>
   refine Ac (Cg f (λ_ s1' g=>?_) λ_ _ a=>a);refine Ac (Cg g (λ_ s₂ i=>?_) λ_ _ a=>a);rw [NT];refine Ac (Ac ?_);refine Ac (Cg i (λb s2' d=>Ae ?_) λ_ _ a=>a);refine Ae ?_;cases b with
   | true=>
    exact Ac (Ac (Cg d (λx s₃ j=>Ac (Cg j (λ_ s₄ k=>Ae (Ae ⟨rfl,k⟩)) λ_ _ a=>a)) λ_ _ a=>a))
   | false=>
    exact Ae ⟨rfl,d⟩
def Vc:∀names h acc n c,(n,c)∈PySem.cellsFrom h.objs.size names acc->(n,c)∈acc\/((PySem.pushCells h names).IsCell c none/\h.objs.size<=c)
 | [],_,_,_,_,hm=>.inl hm
 | (name,kind)::r,h,acc,n,c,hm=>by
  unfold PySem.cellsFrom at hm;unfold PySem.pushCells;split at hm
  .rename_i hk;rw [iP hk];have a:(n,c)∈PySem.cellsFrom (h.push { cls:=.type "cell",data:=.cell none }).objs.size r ((name,h.objs.size)::acc):=by rw [Du];exact hm
   rcases Vc r (h.push { cls:=.type "cell",data:=.cell none }) ((name,h.objs.size)::acc) n c a with z | ⟨z1,z2⟩
   .rcases Al.mp z with e | z
    .cases e;exact .inr ⟨⟨_,PySem.pushCells_keeps r _ _ _ (CQ _ rfl),rfl⟩,Am _⟩
    .exact .inl z
   .rw [Du] at z2;exact .inr ⟨z1,by omega⟩
  .rename_i hk;rw [iN hk];exact Vc r h acc n c hm
def VD:∀names k acc,(∀n c,(n,c)∈acc->c<k)->(∀n n' c,(n,c)∈acc->(n',c)∈acc->n=n')->∀n n' c,(n,c)∈PySem.cellsFrom k names acc->(n',c)∈PySem.cellsFrom k names acc->n=n'
 | [],_,_,_,hi,n,n',c,h1,h2=>hi n n' c h1 h2
 | (name,kind)::r,k,acc,hl,hi,n,n',c,h1,h2=>by
  unfold PySem.cellsFrom at h1 h2;split at h1
  .rename_i hk;rw [iP hk] at h2;refine VD r (k+1) ((name,k)::acc) (λm d hm=>?_) (λm a d hm hm'=>?_) n n' c h1 h2
   .rcases Al.mp hm with e | hm
    .cases e;exact G9 _
    .exact G7 (hl m d hm)
   .rcases Al.mp hm with e | hm<;>rcases Al.mp hm' with e' | hm'
    .cases e;cases e';rfl
    .cases e;exact aB (hl _ _ hm') (HN _)
    .cases e';exact aB (hl _ _ hm) (HN _)
    .exact hi m a d hm hm'
  .rename_i hk;rw [iN hk] at h2;exact VD r k acc hl hi n n' c h1 h2
def TY:∀names k acc,(∀y∈names,y.2=.cell->y.1≠x)->(PySem.cellsFrom k names acc).lookup x=acc.lookup x
 | [],_,_,_=>rfl
 | (name,kind)::r,k,acc,h=>by
  unfold PySem.cellsFrom;split
  .rename_i hk;rw [TY r (k+1) _ λy a=>h y (BW _ a)];have b:name≠x:=h (name,kind) BL (by simpa using hk);rw [Io,beq_false_of_ne (Ne.symm b)]
  .exact TY r k acc λy a=>h y (BW _ a)
def Td:∀names k acc,((acc.lookup x).isSome=true\/(x,NameKind.cell)∈names)->((PySem.cellsFrom k names acc).lookup x).isSome=true
 | [],_,_,h=>by
  rcases h with h | h
  .exact h
  .cases h
 | (name,kind)::r,k,acc,h=>by
  unfold PySem.cellsFrom;split
  .rename_i hk;refine Td r (k+1) _ ?_;by_cases e:x=name
   .subst e;exact .inl (by simp)
   .rcases h with h | h
    .exact .inl (by rw [Io,beq_false_of_ne e];exact h)
    .rcases Al.mp h with z | h
     .cases z;exact aB rfl e
     .exact .inr h
  .rename_i hk;refine Td r k acc ?_;rcases h with h | h
   .exact .inl h
   .rcases Al.mp h with z | h
    .cases z;exact aB rfl hk
    .exact .inr h
def lV{M:Model}{E:Value->Shared->Prop}{scope:Scope}{globals:Addr}{closure:List (Str×Addr)}{qual:Str}{func:Option Addr}{code:Value}{outer:Env}{builtins:Addr}{Q:Env->Shared->Prop} (hQ:∀h',h'.Ns s.heap.objs.size (λ_=>none)->(∀b o,s.heap.get? b=some o->h'.get? b=some o)->(∀n c,(n,c)∈PySem.cellsFrom (s.heap.objs.size+1) scope.names closure->(n,c)∈closure\/(h'.IsCell c none/\s.heap.objs.size+1<=c)) ->
   Q (newEnv scope s.heap.objs.size globals (PySem.cellsFrom (s.heap.objs.size+1) scope.names closure) qual func code (some outer) builtins) { s with heap:=h' }) :
  wpAny M A (newFunctionEnv scope globals closure [] qual func code (some outer) builtins) Q E s:=by
 simp only [newFunctionEnv,Option.isSome_some,Dj];refine Ac (wpAny_alloc ?_);refine Ac (wpAny_layCells _ (λf a d=>by cases hkc:a==NameKind.cell<;>simp [hkc]) _ _ _ _ ?_);rw [show ({ s with heap:=s.heap.push { cls:=.type "dict",data:=.dict #[] } }:Shared).heap.objs.size=s.heap.objs.size+1 from Du ..]
 refine Ac (Ae (Ae ?_));refine hQ _ ((Heap.Ns.new s.heap (.type "dict")).keeps (PySem.pushCells_keeps _ _)) (λb o e=>PySem.pushCells_keeps _ _ b o (Bf _ e)) λn c g=>?_;have z:=Vc scope.names (s.heap.push { cls:=.type "dict",data:=.dict #[] }) closure n c (by rw [Du];exact g);rwa [Du] at z
def PTs(X:Cx)(ts:List Expr)(tt:TT):Prop :=
 ∀a s Y H Q,Inv X a Y H s->tt Y H Q->wX X (Y9 ts X.env) (TP X a Y Q) X.xe s
def tYes:TT:=λ_ H Q=>Q true H
def m5:PTs X [] tYes:=λ_ _ _ H _ I h=>Ae ⟨H,I,h⟩
def tV(h:PT X c tt):PTs X [c] tt:=h
def BZ(X:Cx)(N:List Str)(scope:Scope)(cl:List (Str×Addr))(C:Addr)(s₂:Shared)(H₂:Hp)(fp:List Addr)(pn:List (Addr×Obj)):Cx :=
 { X with N:=N,s₀:=s₂,H₀:=H₂,env:=compEnvC scope (PySem.cellsFrom (C+1) scope.names cl) C X.env,outer:=X.stack,ex:=fp,fn:=λx=>scope.names.lookup x==some .cell,pn:=pn,xe:=λ_ _=>False }
def Kq(X:Cx)(sc:Scope)(cl:List (Str×Addr)):List (Str×Nat)->Prop
 | []=>True
 | p::r=>(X.N[p.2]?=some p.1/\X.env.scope.names.lookup p.1=some .cell/\(sc.names.lookup p.1=some .cell)/\∃c,cl.lookup p.1=some c/\X.env.cells.lookup p.1=some c)/\Kq X sc cl r
def Kq.get:∀{cap:List (Str×Nat)} {j:Nat} {p:Str×Nat},Kq X sc cl cap->cap[j]?=some p ->
  X.N[p.2]?=some p.1/\X.env.scope.names.lookup p.1=some .cell/\(sc.names.lookup p.1=some .cell)/\∃c,cl.lookup p.1=some c/\X.env.cells.lookup p.1=some c
 | [],_,_,_,e=>by simp at e
 | _::_,0,_,h,e=>by simp at e;subst e;exact h.1
 | _::_,j+1,_,h,e=>Kq.get (j:=j) h.2 (by simpa using e)
def capt(Y:St)(cap:List (Str×Nat)):St:=cap.map λp=>(Y[p.2]?).join
def st0(own:List Str)(Y:St)(cap:List (Str×Nat)):St:=List.replicate own.length none++capt Y cap
def Lz(J:It)(g:TG)(tt:TT)(te:TE)(own:List Str)(cap:List (Str×Nat))(Y:St)(Q:VK)(H1:Hp):Prop:=∃W:Nat->Nat->List V->Hp->Prop,(∃m,W 0 m [] H1)/\∀i m a H,W i m a H->a.length<=sizeLine /\
 ((J.stop i H/\∀p,H p=none->Q (.ref p) (upd H p (.lst a))) \/
  (J.go i H/\∀x e,J.yld i H x e->g x (st0 own Y cap) e λd h=>d.drop own.length=capt Y cap/\tt d h λb f=>if b=true then te d f λv j=>a.length<sizeLine/\∃c,c<m/\W (i+1) c (a++[v]) j else ∃c,c<m/\W (i+1) c a f))
abbrev Fam(α:Type):=Addr->Shared->Hp->List Addr->List (Addr×Obj)->α
def GJ(wi:TI)(g:Fam TG)(tt:Fam TT)(te:Fam TE)(own:List Str)(cap:List (Str×Nat)):TE:=λY H Q=>wi Y H λJ d=>∀C s a b c,Lz J (g C s a b c) (tt C s a b c) (te C s a b c) own cap Y Q d
structure Fi(X:Cx)(own:List Str)(cap:List (Str×Nat))(scope:Scope)(cl:List (Str×Addr)):Prop where
 clos:closureFor scope X.env=pure cl
 kind:scope.kind=.function
 nown:∀x c,(x,c)∈cl->∀y∈scope.names,y.2=.cell->y.1≠x
 locals:∀y∈scope.names,y.2=.local->scope.names.lookup y.1=some .local
 sub:∀x c,(x,c)∈cl->X.env.cells.lookup x=some c
 has:∀k x,((relabel scope X.env).names.lookup x=some .cell\/(relabel scope X.env).names.lookup x=some .free)->∃c,(PySem.cellsFrom k scope.names cl).lookup x=some c
 cap:Kq X (relabel scope X.env) cl cap
section
variable {own:List Str} {cap:List (Str×Nat)} {scope:Scope} {cl:List (Str×Addr)} {fp:List Addr} {tg:Expr} {J:It} {it:Addr} {tn:Nat->Heap->Prop}
def Ye(e:(st0 own Y cap)[i]?=some (some v)):∃j p,i=own.length+j/\cap[j]?=some p/\Y[p.2]?=some (some v):=by
 unfold st0 at e;by_cases hi:i<own.length
 .rw [Eo (by simpa using hi),JS,iP hi] at e;cases e
 .rw [Fp (by simpa using hi),JL] at e;unfold capt at e;rw [Ca] at e;cases q:cap[i - own.length]? with
  | none=>rw [q] at e;cases e
  | some p=>
   rw [q] at e;have a:(Y[p.2]?).join=some v:=Br e;refine ⟨i - own.length,p,by omega,q,?_⟩;cases z:Y[p.2]? with
   | none=>rw [z] at a;cases a
   | some o=>rw [z] at a;have b:o=some v:=a;rw [b]
def Inv.comp(I:Inv X pins Y H s)(O:Fi X own cap scope cl)(T:Turn X.prog X.w X.K tg J fp it tn)(st:tn 0 s.heap)(f:∀b∈fp,FpOk X pins H b)(hC:s.heap.objs.size<=C)(k:∀b o,s.heap.get? b=some o->h'.get? b=some o)(hn:h'.Ns C m)(hx:∀n c,(n,c)∈PySem.cellsFrom (C+1) scope.names cl->(n,c)∈cl\/(h'.IsCell c none/\C+1<=c)) :
  Inv (BZ X (own++cap.map (·.1)) scope cl C s H fp (X.pn++pins)) [] (st0 own Y cap) H { s with heap:=h',toks:=t' }:=by
 have E:∀{b:Addr} {o:Obj},s.heap.get? b=some o->b≠C:=λe=>BR (Bv (BK e) hC);have a:=λx c e=>I.cell x c (O.sub x c e);have L:∀x c,(x,c)∈cl->c<C+1:=λx c e=>by
  obtain ⟨v,o,t,_⟩:=a x c e;exact Nat.lt_succ_of_le (Hx (Bv (BK t) hC))
 have B:∀b∈fp,b≠C:=λb g=>by
  obtain ⟨o,e,_⟩:=T.obj _ _ st b g;exact E e
 refine ⟨⟨I.ok.mod,O.kind,I.ok.glob,I.ok.blt,hC,λx y c D A=>VD scope.names (C+1) cl L (λn Q c h1 W=>I.ok.inj n Q c (O.sub n c h1) (O.sub Q c W)) x y c (Ed D) (Ed A),O.has (C+1),λx c D A=>?_,I.ok.hd,I.ok.frames,.inl rfl,λb g=>⟨B b g,λx c e=>?_⟩,I.bs,CJ I.ok.bsz I.sz,λb o e g=>?_,λb g z=>?_,I.stack,I.stkFree⟩,
  rfl,I.bare,Un.kept k,⟨m,hn,λi x v D A e3=>?_⟩,λx c e=>?_,?_,λx c e=>?_,λp F=>?_,I.hok.kept k,?_⟩
 .have h:scope.names.lookup x=some .cell:=by simpa [BZ] using D
  rcases hx x c (Ed A) with z | ⟨_,z⟩
  .exact aB rfl (O.nown x c z (x,.cell) (Ed h) rfl)
  .exact CJ hC (Nat.le_of_succ_le z)
 .rcases hx x c (Ed e) with z | ⟨_,z⟩
  .exact (f b g).2.2.2.2.1 x c (O.sub x c z)
  .obtain ⟨o,eo,_⟩:=T.obj _ _ st b g;exact Gm (Bv (Bv (BK eo) hC) (Nat.le_of_succ_le z))
 .rcases (f b g).2.2.2.1 with z | z
  .exact I.ok.noex b o e z
  .exact aB (Bv (BK (I.ok.bs b o e).1) z) (HN _)
 .rcases Al.mp (I.stkSub b z) with q | q
  .exact (f b g).2.1 q
  .exact (f b g).2.2.1 q
 .obtain ⟨j,p,rfl,F,U⟩:=Ye A;obtain ⟨c1,R,c3,c,P,c5⟩:=O.cap.get F;have h:(own++cap.map (·.1))[own.length+j]?=some x:=D;rw [Fp (Nat.le_add_right _ _),Nat.add_sub_cancel_left,Ca,F] at h;have ex:=Br h;subst ex;obtain ⟨m2,_,hl⟩:=I.loc;obtain ⟨u,r,l⟩:=hl p.2 p.1 v c1 U (.inr (.inl R));refine ⟨u,r,.inr ⟨.inl c3,c,(TY scope.names (C+1) cl λy Z V=>O.nown p.1 c (Ed P) y Z V).trans P,?_⟩⟩;rcases l with ⟨z,_⟩ | ⟨_,c',z,⟨o,t,M⟩⟩
  .have N:X.env.scope.names.lookup p.1=some .local:=z;rw [R] at N;cases N
  .rw [c5] at z;cases z;exact ⟨o,k _ _ t,M⟩
 .rcases hx x c (Ed e) with z | ⟨z,_⟩
  .obtain ⟨v,o,t,M⟩:=a x c z;exact ⟨v,o,k _ _ t,M⟩
  .exact ⟨none,z⟩
 .exact I.hok.fresh hC
 .rcases hx x c (Ed e) with z | ⟨_,z⟩
  .exact I.freeC x c (O.sub x c z)
  .exact I.hok.fresh (CJ hC (Nat.le_of_succ_le z))
 .have G:p∈X.pn++pins:=by simpa [BZ] using F
  obtain ⟨e,n,ne,S,d⟩:=I.pin p G;exact ⟨k _ _ e,n,E e,λz=>(Al.mp (I.stkSub p.1 z)).elim ne S,d⟩
 .show (st0 own Y cap).length=(own++cap.map (·.1)).length;unfold st0 capt;simp
def Cx.Ok.rexe{xe:Value->Shared->Prop}(o:X.Ok):({ X with xe:=xe }:Cx).Ok:=by
 cases o;constructor<;>assumption
def Inv.rexe(I:Inv X pins Y H s):Inv { X with xe:=xe } pins Y H s:=by
 obtain ⟨ok,i1,i2,i3,i4,i5,i6,i7,i8,i9,i10⟩:=I;exact ⟨ok.rexe,i1,i2,i3,i4,i5,i6,i7,i8,i9,i10⟩
def Fg(xf:Addr->Shared->Hp->List Addr->Value->Shared->Prop)(X:Cx)(N:List Str)(scope:Scope)(cl:List (Str×Addr))(C:Addr)(s₂:Shared)(H₂:Hp)(fp:List Addr)(pn:List (Addr×Obj)):Cx:={ BZ X N scope cl C s₂ H₂ fp pn with xe:=xf C s₂ H₂ fp }
def lC{xf:Addr->Shared->Hp->List Addr->Value->Shared->Prop}{elt iter:Expr}{ts:List Expr}{gF:Fam TG}{ttF:Fam TT}{teF:Fam TE}{E:Value->Shared->Prop}(O:Fi X own cap scope cl)(hc:X.calm=true)(hgF:∀C s H fp pn,PG (Fg xf X (own++cap.map (·.1)) scope cl C s H fp pn) tg (gF C s H fp pn))(htF:∀C s H fp pn,PTs (Fg xf X (own++cap.map (·.1)) scope cl C s H fp pn) ts (ttF C s H fp pn))(heF:∀C s H fp pn,PE (Fg xf X (own++cap.map (·.1)) scope cl C s H fp pn) elt (teF C s H fp pn))(hts:ts.length<=1)(I2:Inv X pins Y H s)(T:Turn X.prog X.w X.K tg J fp it tn)(st2:tn 0 s.heap)(f2:∀b∈fp,FpOk X pins H b){Q:VK}(hw:∀C s H2 fp pn,Lz J (gF C s H2 fp pn) (ttF C s H2 fp pn) (teF C s H2 fp pn) own cap Y Q H){R:Value->Addr->Result->Shared->Prop} (fin:∀(D C:Addr) (H':Hp) (s':Shared) (m:Str->Option Value),s.heap.objs.size<=C->s'.heap.Ns C m->H' C=none ->
   (∀h',Heap.SameBut C s'.heap h'->Inv X pins Y H' { s' with heap:=h' })->Q (.ref D) H'->R (.ref D) C (.ok .next) s') (hexc:∀(D C:Addr) (cells:List (Str×Addr)) (e:Value) (s':Shared),s.heap.objs.size<=C->xf C s H fp e s'->notedBy (model X.prog X.w) X.A (compEnvC scope cells C X.env) (λe s'=>R (.ref D) C (.error e) s') e s') :
  wX X (newList []) (λacc s₃=>wX X (newFunctionEnv scope X.env.globals cl [] X.env.qual none .none (some X.env)) (λcenv s₄=>
   codeAny (model X.prog X.w) X.A (.compStart (.ListComp elt [⟨tg,iter,ts,0⟩] scope pos) 0 (.ref it) acc { cenv with scope:=relabel scope X.env }) (R acc cenv.locals) s₄) E s₃) E s:=by
 refine Jc (lV (λk F h f=>?_));generalize hHh:s.heap.push { cls:=.type "list",dict:=none,data:=.seq ([]:List Value).toArray }=Hh at F h f ⊢;have hCs:Hh.objs.size=s.heap.objs.size+1:=by rw [<-hHh,Du]
 generalize hCC:Hh.objs.size=C at F f hCs ⊢;generalize hDD:s.heap.objs.size=D at hCs ⊢;have g:D<C:=by omega
 have S:=BR g;have hsD:=Nat.le_of_eq hDD;have I:s.heap.objs.size<=C:=by omega
 have M:∀{b:Addr} {o:Obj},s.heap.get? b=some o->b<D:=λe=>by rw [<-hDD];exact BK e
 have old:∀b o,s.heap.get? b=some o->k.get? b=some o:=λb o e=>by
  refine h b o ?_;rw [<-hHh];exact Bf _ e
 have hD0:k.PlainList D #[]:=by
  have z:Hh.get? D=some { cls:=.type "list",dict:=none,data:=.seq ([]:List Value).toArray }:=by
   rw [<-hHh,<-hDD];exact CQ _ rfl
  exact ⟨_,h D _ z⟩
 obtain ⟨W,⟨m0,w0⟩,turn⟩:=hw C s H fp (X.pn++pins);have hg:=hgF C s H fp (X.pn++pins);have ht:=htF C s H fp (X.pn++pins);have he:=heF C s H fp (X.pn++pins);have I':Inv (Fg xf X (own++cap.map (·.1)) scope cl C s H fp (X.pn++pins)) [] (st0 own Y cap) H { s with heap:=k,toks:=s.toks }:=(I2.comp O T st2 f2 I old F f).rexe
 have cne:∀x c,(PySem.cellsFrom (C+1) scope.names cl).lookup x=some c->(∃v,s.heap.IsCell c v/\X.env.cells.lookup x=some c)\/C<c:=λx c e=>by
  rcases f x c (Ed e) with z | ⟨_,z⟩
  .obtain ⟨v,hv⟩:=I2.cell x c (O.sub x c z);exact .inl ⟨v,hv,O.sub x c z⟩
  .exact .inr z
 have st':=T.keep _ _ _ st2 λb hb o e=>old b o e;have nofr:∀{a:Addr},s.heap.objs.size<=a->a∉frs X.stack:=λ{a} ha z=>by
  rcases Al.mp (I2.stkSub a z) with q | q
  .exact aB (Bv I2.lt ha) (by rw [q];exact HN _)
  .exact I2.nofs ha q
 have ltfp:∀b∈fp,b<D:=λb hb=>by
  obtain ⟨o,e,_⟩:=T.obj _ _ st2 b hb;exact M e
 have fpk:∀{H3:Hp} {L:Obj},(∀b∈fp,H3 b=none)->∀b∈fp,FpOk (Fg xf X (own++cap.map (·.1)) scope cl C s H fp (X.pn++pins)) [(D,L)] H3 b:=λ{H3 L} hn b hb=>by
  obtain ⟨_,f1,f3,f4,f5,f6⟩:=f2 b hb;have lb:=ltfp b hb;refine ⟨hn b hb,(BR (Az lb g)),λz=>?_,.inl hb,λx c e=>?_,λp B=>?_⟩
  .rcases Al.mp (I2.stkSub b z) with q | q
   .exact f1 q
   .exact f3 q
  .rcases cne x c e with ⟨_,_,z⟩ | z
   .exact f5 x c z
   .exact Gm (Az lb (Az g z))
  .rcases Ek.mp B with z | z
   .exact f6 p z
   .have z':p=(D,L):=by simpa using z
    subst z';exact Gm lb
 have loop:∀s₃:Shared,s₃={ s with heap:=k } ->
   codeAny (model X.prog X.w) X.A (.compLoop (.ListComp elt [⟨tg,iter,ts,0⟩] scope pos) 0 (.ref it) (.ref D) (compEnvC scope (PySem.cellsFrom (C+1) scope.names cl) C X.env)) (R (.ref D) C) s₃:=by
  rintro s₃ rfl
  refine wH hts (λn s'=>∃(i:Nat) (acc:List V) (d:List Value) (H':Hp),Inv (Fg xf X (own++cap.map (·.1)) scope cl C s H fp (X.pn++pins)) [] (st0 own Y cap) H' s'/\tn i s'.heap/\(∀b∈fp,H' b=none)/\H' D=none /\
   s'.heap.PlainList D d.toArray/\Vals acc d/\W i n acc H') ?_ m0 ⟨0,[],[],H,I',st',λb hb=>(f2 b hb).1,I2.hok.fresh hsD,hD0,.nil,w0⟩
  rintro n s3 ⟨i,acc,d,H3,I3,st3,fr3,nD,⟨P,hD⟩,rv,w3⟩;obtain ⟨hlen,hturn⟩:=turn i n acc H3 w3;have lenV:=rv.length;have pinD:∀{s5:Shared} {H5:Hp},s5.heap.get? D=some { cls:=.type "list",data:=.seq d.toArray P }->H5 D=none->∀p∈[(D,({ cls:=.type "list",data:=.seq d.toArray P }:Obj))],s5.heap.get? p.1=some p.2/\H5 p.1=none/\p.1≠C/\p.1∉frs X.stack/\∀v,p.2.data≠.cell v:=by
   intro s5 H5 e1 e2 p B;have z':p=(D,({ cls:=.type "list",data:=.seq d.toArray P }:Obj)):=by simpa using B
   subst z';exact ⟨e1,e2,S,nofr hsD,λv z=>by cases z⟩
  have I3p:=I3.pins_of (pinD hD nD);rcases hturn with ⟨stop,qn⟩ | ⟨go,step⟩
  .refine Cg (T.done (Fg xf X (own++cap.map (·.1)) scope cl C s H fp (X.pn++pins)) rfl rfl rfl hc i _ s3 _ H3 (λ_ _=>False) I3p (fpk fr3) st3 stop) (λr s4 h4=>?_) (λ_ _ z=>z.elim);obtain ⟨hr,t⟩:=h4;subst hr;obtain ⟨m4,hm4,_⟩:=t.loc;have hD4:=(t.pin (D,{ cls:=.type "list",data:=.seq d.toArray P }) (Dc _ (by simp))).1;have nC:=t.free;refine fin D C (upd H3 D (.lst acc)) s4 m4 I hm4 (by rw [Ag (Ne.symm S)];exact nC) (λh' sb=>?_) (qn D nD);have kc:=λb o hb e=>sb.extBut b o hb e;have neD:∀{b:Addr} {o:Obj},s.heap.get? b=some o->b≠D:=λe=>BR (M e);have neC:∀{b:Addr} {o:Obj},s.heap.get? b=some o->b≠C:=λe=>BR (Az (M e) g);refine I2.call' (ch:=fp) t.os ⟨?_,?_,?_,?_,?_,?_,?_⟩ (λa o e=>?_) t.bare (λb hb=>?_)
   .exact λb o e n hb hx=>kc b o (neC e) (t.base.keep b o e n hb hx)
   .intro b o e n hb hx;obtain ⟨sl,q⟩:=t.base.slot b o e n hb hx;exact ⟨sl,kc b _ (neC e) q⟩
   .intro b o e n hx;rw [Ag (neD e)];exact t.base.free b o e n hx
   .intro b o e hx;obtain ⟨o',q⟩:=t.base.there b o e hx;exact ⟨o',kc b _ (neC e) q⟩
   .intro b xs e;have q:=t.base.tups b xs e;rw [Ag (Ay q nD)];exact q
   .intro b o u e;have q:=t.base.frzs b o u e;rw [Ag (Ay q nD)];exact q
   .intro b ps e;obtain ⟨more,q⟩:=t.base.tbls b ps e;exact ⟨more,by rw [Ag (Ay q nD)];exact q⟩
   .by_cases ha:a=D
    .subst ha;rw [An] at e;cases e;exact ⟨hlen,d,P,rv,kc _ _ S hD4⟩
    .rw [Ag ha] at e;refine (t.hok a o e).stay (λb u hb q=>kc b u ?_ q) (λb q=>?_) (λb xs q=>?_)
     .rcases hb with rfl | hb
      .exact Ay e nC
      .exact Ay hb nC
     .rw [Ag (Ay q nD)];exact q
     .rw [Ag (Ay q nD)];exact q
   .obtain ⟨_,f1,_,f4,f5,f6⟩:=f2 b hb;exact ⟨f4,f1,f5,f6⟩
  .refine Cg (T.item (Fg xf X (own++cap.map (·.1)) scope cl C s H fp (X.pn++pins)) rfl rfl rfl hc i _ s3 _ H3 (λ_ _=>False) I3p (fpk fr3) st3 go) (λr s4 h4=>?_) (λ_ _ z=>z.elim);obtain ⟨u,hr,h4⟩:=h4;subst hr;refine Cg h4 (λ_ s5 h5=>?_) (λ_ _ z=>z.elim);obtain ⟨x,H5,I5,r5,y5,N,fr5⟩:=h5;have I5':=I5.pinned (fpk fr5) (T.obj _ _ N);refine Cg (hg _ s5 _ H5 x u _ I5' r5 (step x H5 y5)) (λ_ s6 h6=>?_) (λe s' z=>hexc D C _ e s' I z);obtain ⟨Y6,H6,I6,e6,q6⟩:=h6;refine Cg (ht _ s6 Y6 H6 _ I6 q6) (λbb s6' h6'=>?_) (λe s' z=>hexc D C _ e s' I z);obtain ⟨H6',G,q6'⟩:=h6';have Z:∀{H7:Hp} {s7:Shared},Inv (Fg xf X (own++cap.map (·.1)) scope cl C s H fp (X.pn++pins)) [] Y6 H7 s7->Inv (Fg xf X (own++cap.map (·.1)) scope cl C s H fp (X.pn++pins)) [] (st0 own Y cap) H7 s7:=λ{H7 s7} I8=>by
    refine I8.weak (I'.len.trans I8.len.symm) (λj v e=>?_);obtain ⟨l,p,rfl,B,hs⟩:=Ye e;have q:(Y6.drop own.length)[l]?=some (some v):=by
     rw [e6];unfold capt;rw [Ca,B];show some ((Y[p.2]?).join)=_;rw [hs];rfl
    rwa [List.getElem?_drop] at q
   cases bb with
   | false=>
    obtain ⟨m',hm,w7⟩:=q6';obtain ⟨hD7,U,_⟩:=G.pin (D,{ cls:=.type "list",data:=.seq d.toArray P }) (Dc _ (by simp));have st7:=T.keep _ _ _ N λb hb o e=>(G.pin (b,o) (Dc _ (Dc _ (Kh hb e)))).1;have fr7:∀b∈fp,H6' b=none:=λb hb=>by
     obtain ⟨o,e,_⟩:=T.obj _ _ N b hb;exact (G.pin (b,o) (Dc _ (Dc _ (Kh hb e)))).2.1
    exact ⟨m',hm,i+1,acc,d,H6',Z (G.pins_of λp B=>nomatch B),st7,fr7,U,⟨P,hD7⟩,rv,w7⟩
   | true=>
   refine Cg (he _ s6' Y6 H6' _ G q6') (λy s7 h7=>?_) (λe s' z=>hexc D C _ e s' I z);obtain ⟨v,H7,I7,r7,hl7,m',hm,w7⟩:=h7;obtain ⟨hD7,U,_⟩:=I7.pin (D,{ cls:=.type "list",data:=.seq d.toArray P }) (Dc _ (by simp));have st7:=T.keep _ _ _ N λb hb o e=>(I7.pin (b,o) (Dc _ (Dc _ (Kh hb e)))).1;have fr7:∀b∈fp,H7 b=none:=λb hb=>by
    obtain ⟨o,e,_⟩:=T.obj _ _ N b hb;exact (I7.pin (b,o) (Dc _ (Dc _ (Kh hb e)))).2.1
   refine wpAny_list_append_plain ⟨P,hD7⟩ (λh8 hp8 hs8=>?_) (by rw [Be];omega);have I7w:Inv (Fg xf X (own++cap.map (·.1)) scope cl C s H fp (X.pn++pins)) [] Y6 H7 s7:=I7.pins_of λp B=>nomatch B;have I8:Inv (Fg xf X (own++cap.map (·.1)) scope cl C s H fp (X.pn++pins)) [] Y6 H7 { s7 with heap:=h8 }:=by
    refine I7w.turned (λb o hb e=>hs8.extBut b o hb e) U S (.inr hsD) (λx c e=>?_) (λp B=>?_)
    .rcases cne x c e with ⟨v,⟨o,ho,_⟩,_⟩ | z
     .exact BR (M ho)
     .exact Gm (Az g z)
    .have hp':p∈X.pn++pins:=by simpa [Fg,BZ] using B
     exact BR (M (I2.pin p hp').1)
   have I9:=Z I8;refine ⟨m',hm,i+1,acc++[v],d++[y],H7,I9,T.keep _ _ _ st7 (λb hb o e=>hs8.extBut b o (BR (ltfp b hb)) e),fr7,U,?_,rv.append (.cons r7 .nil),w7⟩;simpa using hp8
 exact codeAny_compStart_list (loop _ rfl) (T.self X.A 0 _ _ _ st' (loop _ rfl))
def Z8{elt iter:Expr}{ts:List Expr}{gF:Fam TG}{ttF:Fam TT}{teF:Fam TE}{E:Value->Shared->Prop}(O:Fi X own cap scope cl)(hc:X.calm=true)(hgF:∀C s H fp pn,PG (BZ X (own++cap.map (·.1)) scope cl C s H fp pn) tg (gF C s H fp pn))(htF:∀C s H fp pn,PTs (BZ X (own++cap.map (·.1)) scope cl C s H fp pn) ts (ttF C s H fp pn))(heF:∀C s H fp pn,PE (BZ X (own++cap.map (·.1)) scope cl C s H fp pn) elt (teF C s H fp pn))(hts:ts.length<=1)(I2:Inv X pins Y H s)(T:Turn X.prog X.w X.K tg J fp it tn)(st2:tn 0 s.heap)(f2:∀b∈fp,FpOk X pins H b){Q:VK}(hw:∀C s H2 fp pn,Lz J (gF C s H2 fp pn) (ttF C s H2 fp pn) (teF C s H2 fp pn) own cap Y Q H){R:Value->Addr->Result->Shared->Prop} (fin:∀(D C:Addr) (H':Hp) (s':Shared) (m:Str->Option Value),s.heap.objs.size<=C->s'.heap.Ns C m->H' C=none ->
   (∀h',Heap.SameBut C s'.heap h'->Inv X pins Y H' { s' with heap:=h' })->Q (.ref D) H'->R (.ref D) C (.ok .next) s') :
  wX X (newList []) (λacc s₃=>wX X (newFunctionEnv scope X.env.globals cl [] X.env.qual none .none (some X.env)) (λcenv s₄=>
   codeAny (model X.prog X.w) X.A (.compStart (.ListComp elt [⟨tg,iter,ts,0⟩] scope pos) 0 (.ref it) acc { cenv with scope:=relabel scope X.env }) (R acc cenv.locals) s₄) E s₃) E s :=
 lC O hc hgF htF heF hts I2 T st2 f2 hw fin λ_ _ _ _ _ _ z=>z.elim
def mD{elt iter:Expr}{wi:TI}{ts:List Expr}{g:Fam TG}{tt:Fam TT}{te:Fam TE}(hi:PI X tg iter wi)(O:Fi X own cap scope cl)(hc:X.calm=true)(hg:∀C s H fp pn,PG (BZ X (own++cap.map (·.1)) scope cl C s H fp pn) tg (g C s H fp pn))(ht:∀C s H fp pn,PTs (BZ X (own++cap.map (·.1)) scope cl C s H fp pn) ts (tt C s H fp pn))(he:∀C s H fp pn,PE (BZ X (own++cap.map (·.1)) scope cl C s H fp pn) elt (te C s H fp pn))(hts:ts.length<=1)(hs:∀x,foldedSetIterable iter X.env x=pure x:=by intro _;rfl):PE X (.ListComp elt [⟨tg,iter,ts,0⟩] scope pos) (GJ wi g tt te own cap):=by
 intro b s Y H Q I h;refine wpAny_comprehension_free rfl hs O.clos O.kind O.locals (thn (hi b s Y H _ I h) λu e c=>thn c λt f a=>?_);obtain ⟨A,fp,w,J,z,rfl,n,T,d,r,i⟩:=a;refine Z8 O hc hg ht he hts n T d r i ?_;intro D C k B m v o y l q;exact ⟨m,o,λj p=>⟨.ref D,k,l j p,rfl,q⟩⟩
def RK{elt iter:Expr}{wi:TI}{ts:List Expr}{g:Fam TG}{tt:Fam TT}{te:Fam TE}(hN:X.N.Nodup)(hix:X.N[i]?=some x)(hx:Loc X.env.scope x)(hi:PI X tg iter wi)(O:Fi X own cap scope cl)(hc:X.calm=true)(hg:∀C s H fp pn,PG (BZ X (own++cap.map (·.1)) scope cl C s H fp pn) tg (g C s H fp pn))(ht:∀C s H fp pn,PTs (BZ X (own++cap.map (·.1)) scope cl C s H fp pn) ts (tt C s H fp pn))(he:∀C s H fp pn,PE (BZ X (own++cap.map (·.1)) scope cl C s H fp pn) elt (te C s H fp pn))(hts:ts.length<=1)(hsw:swapsWith (.ListComp elt [⟨tg,iter,ts,0⟩] scope pos) (some (.Name x pos')) spos.line X.env=pure true:=by rfl)(hs:∀x,foldedSetIterable iter X.env x=pure x:=by intro _;rfl)(hf:X.fn x=true\/X.env.scope.names.lookup x=some .local:=by first | exact .inl rfl | exact .inr rfl | assumption):PS X (.Assign [.Name x pos'] (.ListComp elt [⟨tg,iter,ts,0⟩] scope pos) spos) (tAsg (GJ wi g tt te own cap) (Bt i)):=by
 intro a s Y H D I h;rw [exec_Assign_Name_used _ _ _ _ hsw];refine Ac (wpAny_standAt (Ac ?_))
 refine Ac (Cg (wpAny_comprehension_free rfl hs O.clos O.kind O.locals
  (thn (hi a s Y H _ I h) λxv Q l=>thn l λitv G k=>?_)) (λ_ B Z=>Ae (Ae Z)) λ_ _ e=>e)
 obtain ⟨it,fp,tn,J,H2,rfl,d,T,w,f2,hw⟩:=k;refine Z8 O hc hg ht he hts d T w f2 hw ?_;intro A C L B m j hn F W q;have M:=W B.heap (Heap.SameBut.refl ..);obtain ⟨n,es,V,S,K,hk⟩:=id hn;have f:=Gm (Bv d.lt j);have E:=d.nofs j;have R:Inv X (a++[(C,n)]) Y L B:=M.pins_of λp u=>by
  rcases Ek.mp u with z | z
  .exact M.pin p (Dc _ z)
  .have U:p=(C,n):=by simpa using z
   subst U;exact ⟨S,F,f,E,λv e=>by rw [K] at e;cases e⟩
 refine wpAny_assign_Name (R3 R hN hix hx (v:=.ref A) rfl (λs5 P=>?_) hf);have r:=(P.pin (C,n) (Dc _ (Dc _ (by simp)))).1;refine ⟨m,⟨n,es,V,r,K,hk⟩,λh' sb=>⟨_,L,?_,q⟩⟩;refine (P.unpinned).turned (λb o hb e=>sb.extBut b o hb e) F f (.inr (CJ d.sz j)) (λy c e=>?_) (λp u=>?_)
 .obtain ⟨v,o,t,_⟩:=d.cell y c e;exact BR (Bv (BK t) j)
 .exact BR (Bv (BK (d.pin p u).1) j)
end
def Oc(scope out:Scope):List (Str×NameKind):=scope.names.map λ(n,k)=>if (k==.free&&out.kind==.function&&out.names.lookup n==some .cell) then (n,.cell) else (n,k)
def cO(scope out:Scope)(cn:List Str):Bool :=
 scope.names.all (λy=>y.2 != .cell||!cn.contains y.1)&&scope.names.all (λy=>y.2 != .local||scope.names.lookup y.1==some .local)&&(Oc scope out).all (λy=>!(y.2==.cell||y.2==.free)||cn.contains y.1||scope.names.contains (y.1,.cell))&&cn.all (λn=>out.names.lookup n==some .cell&&(Oc scope out).lookup n==some .cell)
def Np(X:Cx):List (Str×Addr)->Prop
 | []=>True
 | p::r=>X.env.cells.lookup p.1=some p.2/\Np X r
def Np.mem:∀{cl:List (Str×Addr)} {p:Str×Addr},Np X cl->p∈cl->X.env.cells.lookup p.1=some p.2
 | _::_,_,h,.head _=>h.1
 | _::_,_,h,.tail _ m=>Np.mem h.2 m
def CapN(X:Cx):List (Str×Nat)->Prop
 | []=>True
 | p::r=>X.N[p.2]?=some p.1/\CapN X r
def UV:∀{l:List (Str×α)},x∈l.map (·.1)->∃c,l.lookup x=some c
 | [],h=>by simp at h
 | (y,c)::r,h=>by
  by_cases e:x=y
  .subst e;exact ⟨c,by simp⟩
  .have b:x∈r.map (·.1):=by
    rcases Bk.mp h with ⟨p,hp,rfl⟩;rcases Al.mp hp with rfl | hp
    .exact aB rfl e
    .exact Bk.mpr ⟨p,hp,rfl⟩
   obtain ⟨d,a⟩:=UV b;exact ⟨d,by rw [Io,beq_false_of_ne e];exact a⟩
def Fi.of{cap:List (Str×Nat)}{scope:Scope}{cl:List (Str×Addr)}(clos:closureFor scope X.env=pure cl)(kind:scope.kind=.function)(chk:cO scope X.env.scope (cap.map (·.1))=true)(names:cl.map (·.1)=cap.map (·.1))(sub:Np X cl)(capn:CapN X cap):Fi X own cap scope cl:=by
 unfold cO at chk;simp only [Hg,List.all_eq_true] at chk;obtain ⟨⟨⟨w,u⟩,E⟩,C⟩:=chk;have g:∀x c,cl.lookup x=some c->X.env.cells.lookup x=some c:=λx c e=>sub.mem (Ed e);have i:∀l,(∀p∈l,p.1∈cap.map (·.1))->CapN X l->Kq X (relabel scope X.env) cl l:=by
  intro l
  induction l with
  | nil=>exact λ_ _=>trivial
  | cons p r ih=>
   intro f t;have j:=f p BL;have m:=C p.1 j;have D:X.env.scope.names.lookup p.1=some .cell:=by simpa using m.1
   have B:(Oc scope X.env.scope).lookup p.1=some .cell:=by simpa using m.2
   obtain ⟨c,b⟩:=UV (by rw [names];exact j);exact ⟨⟨t.1,D,B,c,b,g _ _ b⟩,ih (λq m=>f q (BW _ m)) t.2⟩
 refine ⟨clos,kind,λx c f y o s=>?_,λy o e=>?_,λx c f=>sub.mem f,λk x v=>?_,i cap (λp j=>Bk.mpr ⟨p,j,rfl⟩) capn⟩
 .have:=w y o;rw [s] at this;rintro rfl;have b:y.1∈cap.map (·.1):=by rw [<-names];exact Bk.mpr ⟨_,f,rfl⟩
  simp at this;simp at b;obtain ⟨a,A⟩:=b;exact this a A
 .have:=u y o;rw [e] at this;simpa using this
 .have h:∀n,(Oc scope X.env.scope).lookup x=some n->(n=.cell\/n=.free)->∃c,(PySem.cellsFrom k scope.names cl).lookup x=some c:=by
   intro n e s;have:=E _ (Ed e);refine Option.isSome_iff_exists.mp (Td scope.names k cl ?_);have d:x∈cap.map (·.1)\/(x,NameKind.cell)∈scope.names:=by
    rcases s with rfl | rfl
    .simpa using this
    .simpa using this
   rcases d with z | z
   .obtain ⟨c,b⟩:=UV (by rw [names];exact z);exact .inl (by rw [b];rfl)
   .exact .inr z
  rcases v with e | e
  .exact h _ e (.inl rfl)
  .exact h _ e (.inr rfl)
end L2
namespace L2
open PySem.Calls
structure Sk(o o':Obj):Prop where
 d:o'.dict=o.dict
 f:∀vs,o.data=.fields vs->∃vs':Array Value,o'.data=.fields vs'/\vs'[2]?=vs[2]?
def Sk.refl(o):Sk o o:=⟨rfl,λa e=>⟨a,e,rfl⟩⟩
def Sk.trans(x:Sk a b)(y:Sk b c):Sk a c:=⟨y.d.trans x.d,λm e=>by
 obtain ⟨g,k,i⟩:=x.f m e;obtain ⟨l,h,j⟩:=y.f g k
 exact ⟨l,h,j.trans i⟩⟩
def KD(h h':Heap):Prop:=∀(b:Nat) (o:Obj),h.objs[b]?=some o->∃a:Obj,h'.objs[b]?=some a/\Sk o a
def KD.refl(h:Heap):KD h h:=λ_ o e=>⟨o,e,.refl o⟩
def KD.trans(x:KD a b)(y:KD b c):KD a c:=λk o e=>by
 obtain ⟨h,i,g⟩:=x k o e;obtain ⟨d,f,j⟩:=y k h i;exact ⟨d,f,g.trans j⟩
def KD.push(h:Heap)(o:Obj):KD h (h.push o):=λb u e=>by
 obtain ⟨a,l⟩:=h;refine ⟨u,?_,.refl u⟩;show (a.push o)[b]?=some u;have e:a[b]?=some u:=e;have c:=(Array.getElem?_eq_some_iff.mp e).1;rw [Array.getElem?_push,iN (by omega)];exact e
def KD.update(h:Heap)(a:Addr)(hf:∀o,Sk o (f o)):KD h (h.update a f):=λb u e=>by
 obtain ⟨c,l⟩:=h;have e:=e;show ∃d,(c.modify a f)[b]?=some d/\_;rw [Array.getElem?_modify];by_cases q:a=b
 .rw [iP q,e];exact ⟨f u,rfl,hf u⟩
 .rw [iN q];exact ⟨u,e,.refl u⟩
def Vw{h:Heap}(e:h.get? a=some o):h.objs[a]?=some o:=by
 unfold Heap.get? at e;split at e
 .cases e
 .exact e
def KD.at{h h':Heap}(x:KD h h')(e:h.get? a=some o)(e':h'.get? a=some o'):Sk o o':=by
 obtain ⟨d,b,c⟩:=x a o (Vw e);rw [Vw e'] at b;cases b;exact c
def Dk:Sem α->Prop
 | .pure _=>True
 | .raise _=>True
 | .unsupported _=>True
 | .finish _=>True
 | .rule _ k=>Dk (k ())
 | .at _ k=>Dk (k ())
 | .load _ _ k=>∀o,Dk (k o)
 | .update _ _ f k=>(∀o,Sk o (f o))/\Dk (k ())
 | .loadIfAlive _ k=>∀o,Dk (k o)
 | .point _ k=>Dk (k ())
 | .alloc _ k=>∀a,Dk (k a)
 | .fresh k=>∀t,Dk (k t)
 | .ask k=>∀x,Dk (k x)
 | .choose _ _ k=>∀n,Dk (k n)
 | .handled _ k=>∀x,Dk (k x)
 | .stack k=>∀l,Dk (k l)
 | .thread k=>∀n,Dk (k n)
 | .register _ _=>True
 | _=>False
def sr:∀(t:Sem α) {Q:α->Pos->Shared->Prop} {E:Value->Pos->Shared->Prop} {p:Pos} {s:Shared},Dk t->Sem.wp M Γ t Q E p s ->
  Sem.wp M Γ t (λa p' s'=>Q a p' s'/\KD s.heap s'.heap) (λe p' s'=>E e p' s'/\KD s.heap s'.heap) p s:=by
 intro t
 induction t with
 | pure a=>intro Q E p s _ h;exact ⟨h,.refl _⟩
 | raise e=>intro Q E p s _ h;exact ⟨h,.refl _⟩
 | unsupported w=>intro Q E p s _ h;exact h
 | finish e=>intro Q E p s _ h;exact h
 | rule t k ih=>intro Q E p s d h;exact ih () d h
 | «at» q k ih=>intro Q E p s d h;exact ih () d h
 | load a q k ih=>intro Q E p s d h;obtain ⟨o,e,h⟩:=h;exact ⟨o,e,ih o (d o) h⟩
 | update a q f k ih=>
  intro Q E p s d h;refine ⟨h.1,?_⟩;have z:=ih () d.2 h.2;exact Sem.wp_mono _ _ _ (λ_ _ _ x=>⟨x.1,(KD.update _ _ d.1).trans x.2⟩) (λ_ _ _ x=>⟨x.1,(KD.update _ _ d.1).trans x.2⟩) _ _ z
 | alloc o k ih=>
  intro Q E p s d h;exact Sem.wp_mono _ _ _ (λ_ _ _ x=>⟨x.1,(KD.push _ _).trans x.2⟩) (λ_ _ _ x=>⟨x.1,(KD.push _ _).trans x.2⟩) _ _ (ih _ (d _) h)
 | loadIfAlive a k ih=>intro Q E p s d h;exact ih _ (d _) h
 | point l k ih=>intro Q E p s d h;exact ih () d h
 | register a k ih=>intro Q E p s d h;exact h
 | fresh k ih=>intro Q E p s d h;exact ih _ (d _) h
 | ask k ih=>intro Q E p s d h;exact ih _ (d _) h
 | choose src n k ih=>intro Q E p s d h;exact ⟨h.1,ih _ (d _) h.2⟩
 | handled o k ih=>intro Q E p s d h;exact ih _ (d _) h
 | stack k ih=>intro Q E p s d h;exact ih _ (d _) h
 | thread k ih=>intro Q E p s d h;exact ih _ (d _) h
 | _=>intro Q E p s d h;exact d.elim
def aF(d:Dk t)(h:wpAny M A t Q E s):wpAny M A t (λa s'=>Q a s'/\KD s.heap s'.heap) (λe s'=>E e s'/\KD s.heap s'.heap) s :=
 λΓ p b=>sr t d (h Γ p b)
def Dk.bind:∀{t:Sem α} {k:α->Sem β},Dk t->(∀a,Dk (k a))->Dk (t >>= k):=by
 intro t
 induction t with
 | pure a=>intro k _ h;exact h a
 | raise e=>intro k _ h;trivial
 | unsupported w=>intro k _ h;trivial
 | finish e=>intro k _ h;trivial
 | rule t k ih=>intro k d h;exact ih () d h
 | «at» q k ih=>intro k d h;exact ih () d h
 | load a q k ih=>intro k d h o;exact ih o (d o) h
 | update a q f k ih=>intro k d h;exact ⟨d.1,ih () d.2 h⟩
 | alloc o k ih=>intro k d h a;exact ih a (d a) h
 | loadIfAlive a k ih=>intro k d h o;exact ih o (d o) h
 | point l k ih=>intro k d h;exact ih () d h
 | register a k ih=>intro k d h;trivial
 | fresh k ih=>intro k d h o;exact ih o (d o) h
 | ask k ih=>intro k d h o;exact ih o (d o) h
 | choose src n k ih=>intro k d h o;exact ih o (d o) h
 | handled o k ih=>intro k d h o;exact ih o (d o) h
 | stack k ih=>intro k d h o;exact ih o (d o) h
 | thread k ih=>intro k d h o;exact ih o (d o) h
 | _=>intro k d h;exact d.elim
def Us(a):Dk (load a):=λ_=>trivial
def S9:Dk stack:=λ_=>trivial
def ZV(a)(hf:∀o,Sk o (f o)):Dk (update a f):=⟨hf,trivial⟩
def Znx(o):Dk (alloc o):=λ_=>trivial
def vH(v):Dk (fieldsOf v):=by
 unfold fieldsOf;split
 .refine Dk.bind (Us _) λo=>?_;split
  .trivial
  .trivial
 .trivial
def Od(v)(i):Dk (field v i):=by
 unfold field;refine Dk.bind (vH v) λo=>?_;split
 .trivial
 .trivial
def tG(hi:i≠2)(v)(o):Sk o (Obj.mapFields (·.setIfInBounds i v) o):=by
 obtain ⟨c,d,a,f⟩:=o;refine ⟨by cases a<;>rfl,λb e=>?_⟩;have e:=e;subst e;exact ⟨b.setIfInBounds i v,rfl,by rw [Array.getElem?_setIfInBounds_ne hi]⟩
def ZsG(a)(hi:i≠2)(v):Dk (updateField a i v):=by
 unfold updateField;refine Dk.bind (Us _) λo=>?_;split
 .split
  .exact ZV _ (tG hi _)
  .trivial
 .trivial
def VR(e)(hi:i≠2)(v):Dk (setField e i v):=by
 unfold setField;split
 .exact ZsG _ hi _
 .trivial
def uQ(e)(f):Dk (setFlight e f):=by
 unfold setFlight;refine Dk.bind (Od _ _) λo=>?_;split
 .exact VR _ (by decide) _
 .trivial
def Xj:∀l,Dk (readyFrames l)
 | []=>trivial
 | env::outer=>by
  unfold readyFrames;split
  .refine Dk.bind (Us _) λo=>?_;split
   .trivial
   .refine Dk.bind ?_ λb=>Dk.bind ?_ λk=>Dk.bind (ZV _ λo=>⟨rfl,λa e=>⟨a,e,rfl⟩⟩) λ_=>Xj outer
    .unfold behindIsImport;split
     .trivial
     .split
      .trivial
      .exact Dk.bind (Od _ _) λ_=>trivial
    .unfold keptBack;split
     .split
      .trivial
      .unfold underTheClaimsCaller;exact Dk.bind (Dk.bind S9 λ_=>trivial) λ_=>trivial
     .trivial
  .trivial
def fG(env):Dk (PySem.frameOf env):=by
 unfold PySem.frameOf frameEnvs;refine Dk.bind (Dk.bind S9 λ_=>trivial) λl=>Dk.bind ?_ λo=>?_
 .unfold frameObject;split
  .trivial
  .exact Dk.bind (Xj _) λ_=>trivial
 .split
  .trivial
  .trivial
def oU(a b c d e)(l):Dk (EntryCells.newEntry a b c d e l):=by
 unfold EntryCells.newEntry newFields;generalize ([a,b,c,d,e]++_)=vs;unfold newObj newObjAsIs;have f:Dk (alloc { cls:=Value.type "traceback",data:=Data.fields vs.toArray } >>= λa=>(pure (Value.ref a):Sem Value)):=Dk.bind (Znx _) λ_=>trivial;by_cases h:vs.toArray.size>sizeLine+2
 .show Dk (if vs.toArray.size>sizeLine+2 then _ else _)
  rw [iP h];trivial
 .show Dk (if vs.toArray.size>sizeLine+2 then _ else _)
  rw [iN h];exact f
def kO(e)(env):Dk (noteFrame e env):=by
 unfold noteFrame;split
 .refine Dk.bind (Od _ _) λo=>?_;have a:Dk (do setField e 1 (<-EntryCells.newEntry o (<-PySem.frameOf env) .none (rawInt ‹Addr›) .none (<-entryPlaceOf ‹Addr› (o != .none)))):=by
   refine Dk.bind (fG _) λ_=>Dk.bind ?_ λ_=>Dk.bind (oU _ _ _ _ _ _) λ_=>VR _ (by decide) _;unfold entryPlaceOf;refine Dk.bind S9 λ_=>?_;split
   .trivial
   .trivial
  split
  .refine Dk.bind (Od _ _) λ_=>?_;split
   .trivial
   .exact Dk.bind (VR _ (by decide) _) λ_=>a
  .exact a
 .trivial
def W7(env)(e):Dk (leaving env e):=Dk.bind (kO _ _) λ_=>uQ _ _
end L2
namespace L2
def Dt.there(x:Dt P w H h a o):∃ob,h.get? a=some ob:=by
 cases o with
 | lst xs=>obtain ⟨_,_,_,_,e⟩:=x;exact ⟨_,e⟩
 | tup xs=>obtain ⟨_,_,_,o,e,_⟩:=x;exact ⟨_,e⟩
 | ins C dx fs=>obtain ⟨_,_,_,e,_⟩:=x;exact ⟨_,e⟩
 | own y=>obtain ⟨_,e⟩:=x;exact ⟨_,e⟩
 | xd fs=>obtain ⟨_,⟨_,_,_,e,_⟩,_⟩:=x;exact ⟨_,e⟩
 | frz ob u=>obtain ⟨e,_⟩:=x;exact ⟨_,e⟩
 | tbl ps=>exact ⟨_,(x)⟩
 | ext φ=>obtain ⟨_,⟨_,e⟩,_⟩:=x;exact ⟨_,e⟩
def HOk.free(x:HOk P w H h)(e:h.get? a=none):H a=none:=by
 cases q:H a with
 | none=>rfl
 | some o=>
  obtain ⟨b,z⟩:=(x a o q).there;rw [e] at z;cases z
structure Fly(P:Program)(w:World)(l:List Env)(H H':Hp)(s s':Shared)(x:Addr)(cls:Value):Prop where
 os:s'.os=s.os
 bare:AllBare s'.gens
 un:Un (frs l) [] H H' s.heap s'.heap
 hok:HOk P w H' s'.heap
 frf:∀b∈frs l,H' b=none
 free:H' x=none
 ex:∃(B:Heap) (a0:Value),Heap.FlyingW B l x cls a0 s'.heap/\∀b o,s'.heap.get? b=some o->(H' b≠none\/∃o',s.heap.get? b=some o')->b∉frs l->B.get? b=some o
def Xb{s':Shared}{x:Addr}{B:Heap}(os:s'.os=s.os)(bare:AllBare s'.gens)(un:Un (frs l) [] H H' s.heap s'.heap)(hok:HOk P w H' s'.heap)(frf:∀b∈frs l,H' b=none)(nf:∀b∈frs l,∃o,s'.heap.get? b=some o/\∀vs,o.data≠.fields vs)(cov:∀b o,s'.heap.get? b=some o->(H' b≠none\/∃o',s.heap.get? b=some o')->b∉frs l->B.get? b=some o)(sub:∀b∈frs l',b∈frs l)(new:∀b∈frs l,b∉frs l'->s.heap.get? b=none)(fl:Heap.FlyingW B l' x cls a0 h')(sm:s'.heap.UpToSlots h')(free:H' x=none) :
  Fly P w l' H H' s { s' with heap:=h' } x cls:=by
 have d:=λb o e q hb=>fl.1 b o (cov b o e q hb);have f:∀{b:Addr} {o:Obj},s.heap.get? b=some o->b∉frs l'->b∉frs l:=λ{b o} e hb z=>by
  rw [new b z hb] at e;cases e
 refine ⟨os,bare,⟨λb o e n hb j=>?_,λb o e n hb j=>?_,un.free,λb o e j=>?_,un.tups,un.frzs,un.tbls⟩,λa o e=>?_,λb hb=>frf b (sub b hb),free,B,a0,fl,λb o e q hb=>?_⟩
 .exact d b o (un.keep b o e n (f e hb) j) (.inr ⟨o,e⟩) (f e hb)
 .obtain ⟨v,q⟩:=un.slot b o e n (sub b hb) j;obtain ⟨g,h,m⟩:=nf b (sub b hb);rw [q] at h;cases h;obtain ⟨i,k⟩:=sm b _ q m;exact ⟨i,k⟩
 .obtain ⟨o',q⟩:=un.there b o e j;by_cases hb:b∈frs l
  .obtain ⟨g,h,m⟩:=nf b hb;obtain ⟨i,k⟩:=sm b _ h m;exact ⟨_,k⟩
  .exact ⟨o',d b o' q (.inr ⟨o,e⟩) hb⟩
 .refine (hok a o e).stay (λb u hb q=>?_) (λ_ q=>q) λ_ _ q=>q;have r:H' b≠none:=by
   rcases hb with rfl | hb
   .rw [e];simp
   .rw [hb];simp
  exact d b u q (.inl r) λz=>r (frf b z)
 .have p:b∉frs l:=by
   intro z;rcases q with q | ⟨o',q⟩
   .exact q (frf b z)
   .exact f q hb z
  have ⟨g,h⟩ : ∃g,s'.heap.get? b=some g:=by
   rcases q with q | ⟨o',q⟩
   .cases z:H' b with
    | none=>exact aB z q
    | some u=>exact (hok b u z).there
   .exact un.there b o' q (by simp)
  have c:=cov b g h q p;have z:=fl.1 b g c;have t:=e;rw [t] at z;cases z;exact c
section
variable {H':Hp} {s':Shared} {x:Addr} {cls:Value}
def Inv.unStack(I:Inv X pins Y H s)(hex:X.ex=[])(hfs:∀b∈X.fs,b∈frs X.stack):Un (frs X.stack) [] X.H₀ H X.s₀.heap s.heap:=I.base.mono hfs (by rw [hex];exact λ_ z=>z)
def Inv.sub(I:Inv X pins Y H s):∀b∈X.fs,b∈frs X.stack:=λb a=>by
 rcases I.ok.stk with e | ⟨e,hf⟩
 .rw [e];exact a
 .rw [e];unfold frs;rw [Px,hf];exact BW _ a
def Inv.flyOut(I:Inv X pins Y H s)(hex:X.ex=[])(F:Fly X.prog X.w X.stack H H' s s' x cls){B:Heap}(fl0:Heap.FlyingW B X.stack x cls a0 s'.heap)(cov:∀b o,s'.heap.get? b=some o->(H' b≠none\/∃o',s.heap.get? b=some o')->b∉frs X.stack->B.get? b=some o)(fl:Heap.FlyingW B X.outer x cls a0 h')(sm:s'.heap.UpToSlots h') :
  Fly X.prog X.w X.outer X.H₀ H' X.s₀ { s' with heap:=h' } x cls:=by
 refine Xb (F.os.trans I.os) F.bare ((I.unStack hex I.sub).trans F.un) F.hok F.frf (λb a=>(fl0.2.2.1.mem a).2) (λb o e q a=>cov b o e (q.imp id λ⟨o',z⟩=>I.base.there b o' z (by rw [hex];simp)) a) I.sub (λb d c=>?_) fl sm F.free;rcases Al.mp (I.stkSub b d) with e | e
 .rw [e];exact Heap.get?_none_of_le I.ok.above
 .exact aB e c
end
def CtxN(x:Addr)(h:Heap):Prop:=∃a b,h.get? x=some a/\a.data=.fields b/\b[2]?=some .none
def CtxN.on{x:Addr}(k:CtxN x h)(kd:KD h h')(ht:∃ox,h'.get? x=some ox):CtxN x h':=by
 obtain ⟨ox,l,j,e,g⟩:=k;obtain ⟨b,a⟩:=ht;obtain ⟨c,d,i⟩:=(kd.at j a).f l e;exact ⟨b,c,a,d,i.trans g⟩
def J0(p:Option Addr)(x:Addr)(H':Hp)(h0 h:Heap):Prop:=(p=none->CtxN x h)/\∀n:Nat,p=some n->∃(ox:Obj) (d:Addr) (m:Str->Option Value),h.get? x=some ox/\ox.dict=some d/\h.Ns1 d m/\(∀g,RelO (([("at",V.int ((n/2:Nat):Int))]:List (Str×V)).lookup g) (m g))/\H' d=none/\h0.get? d=none/\d≠x/\(n%2=0->∃a:Array Value,ox.data=.fields a/\a[2]?=some .none)
def J0.no{x:Addr}(k:CtxN x h):J0 none x H' h0 h:=⟨λ_=>k,λ_ z=>by cases z⟩
def qD{h h':Heap}(x:h.UpToSlots h')(hn:h.Ns1 a m):h'.Ns1 a m:=by
 obtain ⟨o,c,f,e,b,r⟩:=hn;obtain ⟨g,d⟩:=x a o e λi q=>by rw [b] at q;cases q
 exact ⟨_,c,f,d,b,r⟩
def J0.on{x:Addr}(k:J0 p x H' h0 h)(kd:KD h h')(sm:h.UpToSlots h')(ht:∃ox,h'.get? x=some ox)(h01:∀b o,h1.get? b=some o->∃o',h0.get? b=some o'):J0 p x H' h1 h':=⟨λe=>(k.1 e).on kd ht,λn e=>by
 obtain ⟨ox,d,m,i,y,t,s,j,C,r,u⟩:=k.2 n e;obtain ⟨g,a⟩:=ht;refine ⟨g,d,m,a,(kd.at i a).d.trans y,qD sm t,s,j,?_,r,λz=>?_⟩
 rotate_left
 .obtain ⟨v,B,l⟩:=u z;obtain ⟨c,w,A⟩:=(kd.at i a).f v B;exact ⟨c,w,A.trans l⟩
 cases q:h1.get? d with
 | none=>rfl
 | some o=>
  obtain ⟨o',z⟩:=h01 d o q
  rw [C] at z;cases z⟩
def CXR(P:Program)(w:World):CXT:=λa H s E e d=>∃x b p c,e=.ref x/\Fly P w a H c s d x b/\J0 p x c s.heap d.heap/\E b p c
section
variable {qual:Str} {scope:Scope} {f:Addr} {cd:Value} {outer:List Env} {s₀:Shared} {H₀:Hp} {E:XK}
def CW:Ea (CXR P w) (cxOf (CXR P w) P w K mg base N qual scope f cd A outer s₀ H₀ E) E:=by
 intro k Y H s e m I h;obtain ⟨x,d,p,r,rfl,F,t,q⟩:=h;obtain ⟨B,n,j,i⟩:=F.ex;refine Cg (aF (W7 _ _) (wpAny_leaves_onW (Q:=λ_ l=>∃c,l={ m with heap:=c }/\Heap.FlyingW B outer x d n c/\m.heap.UpToSlots c) I.ok.frames rfl j λc a g=>⟨c,rfl,a,g⟩)) (λ_ l z=>?_) λ_ _ z=>z.1
 obtain ⟨⟨c,rfl,a,g⟩,u⟩:=z;exact ⟨x,d,p,r,rfl,I.flyOut rfl F j i a g,t.on u g (let ⟨o,e,_⟩:=a.there;⟨o,e⟩) (λb o e=>I.base.there b o e (λz=>nomatch z)),q⟩
end
abbrev J9:List Value:=[.type "ValueError",.type "Exception",.type "BaseException",.type "object"]
def yo(X:K.In h₀)(m:mg x=some (.ref C))(q:W.excIn K C bmB newId=true):OwnCls x C bmB newId mg h₀:=by
 refine ⟨m,?_⟩;unfold W.excIn at q;split at q
 .rename_i dd cd sl ho;split at q
  .rename_i C' bm k0 k1 k2 k3 n k5 hm hs;simp only [Hg,Ih,Bool.not_eq_true'] at q;obtain ⟨⟨⟨⟨⟨rfl,rfl⟩,b⟩,r⟩,a⟩,e⟩:=q;obtain ⟨t,i,k,s,p,g,o,d,h,f,j⟩:=cd;subst hm b;have c:sl=#[k0,k1,k2,k3,some (.builtin n),k5]:=by
    obtain ⟨l⟩:=sl;simp only at hs;rw [hs]
   subst c;exact ⟨bm,s,t,p,i,g,o,d,h,f,dd,k0,k1,k2,k3,k5,_,X _ _ ho,.of_isNs (W.isNs_of_in X a),W.nsMap_none_of_in X a e,W.tail_of_in X r⟩
  .cases q
 .cases q
section
def Inv.flyMade(I:Inv X pins Y H s)(hex:X.ex=[])(hst:X.stack=X.env::X.outer)(hfr:X.env.frame=some X.env.locals){x:Addr}{s1:Shared}(e1:s1={ s with heap:=h1,toks:=s1.toks })(hx:Heap.MadeExcOf s.heap h1 x cls args)(k:∀s2,Fly X.prog X.w X.outer X.H₀ H X.s₀ s2 x cls->CtxN x s2.heap->Q () s2):wX X (leaving X.env (.ref x)) Q E s1:=by
 have g:∀env∈X.stack,∀b,env.frame=some b->b∈frs X.stack:=λenv i b d=>QV.mpr ⟨env,i,d⟩;have c:s1.heap=h1:=by rw [e1]
 refine Cg (aF (W7 _ _) (wpAny_leaves_madeW (Q:=λ_ s2=>∃a t,s2={ s1 with heap:=a }/\Heap.FlyingW (W.hideAll s.heap (frs X.stack)) X.outer x cls (.ref t) a/\s1.heap.UpToSlots a) (by rw [<-hst];exact I.ok.frames) hfr (λb o q=>W.of_hideAll _ q) (by rw [<-hst];exact W.funFrames_hide I.stack g) (by rw [c];exact hx) λa t f _ _ h=>⟨a,t,rfl,f,h⟩)) (λ_ s2 z=>?_) λ_ _ z=>z.1
 obtain ⟨⟨a,t,rfl,f,h⟩,j⟩:=z;refine k _ ?_ (CtxN.on (by rw [c];exact let ⟨t,e,_⟩:=hx.there;⟨_,_,e,rfl,rfl⟩) j (let ⟨o,e,_⟩:=f.there;⟨o,e⟩));have F:Fly X.prog X.w X.outer X.H₀ H X.s₀ { s with heap:=a } x cls:=by
  refine Xb I.os I.bare (I.unStack hex I.sub) I.hok I.stkFree (λb d=>(I.stack.mem d).2) (λb o e _ d=>W.hideAll_get _ e d) I.sub (λb h1 a=>?_) f ((Heap.UpToSlots.of_keeps hx.keeps).trans (by rw [<-c];exact h)) (I.hok.free hx.new);rcases Al.mp (I.stkSub b h1) with e | e
  .rw [e];exact Heap.get?_none_of_le I.ok.above
  .exact aB e a
 refine ⟨?_,?_,F.un,F.hok,F.frf,F.free,F.ex⟩
 .rw [e1];exact I.os
 .rw [e1];exact I.bare
end
section
variable {qual:Str} {scope:Scope} {f:Addr} {cd:Value} {outer:List Env} {s₀:Shared} {H₀:Hp} {E:XK}
def b8(E:XK)(C:Addr)(te:TA):TS:=λ_ Y H=>te Y H λa b=>a.length<=1000/\E (.ref C) none b
def kW(hg:Gl (cxOf (CXR P w) P w K mg base N qual scope f cd A outer s₀ H₀ E) x)(hm:mg x=some (.ref C))(hq:W.excIn K C J9 "ValueError.__new__"=true)(ha:PA (cxOf (CXR P w) P w K mg base N qual scope f cd A outer s₀ H₀ E) (e::es) t)(hd:ND x:=by decide)(he:starEach (e::es) (cxOf (CXR P w) P w K mg base N qual scope f cd A outer s₀ H₀ E).env=(false,eval e (cxOf (CXR P w) P w K mg base N qual scope f cd A outer s₀ H₀ E).env)::starEach es (cxOf (CXR P w) P w K mg base N qual scope f cd A outer s₀ H₀ E).env:=by rfl)(hpl:(backTo cpos (starEach es (cxOf (CXR P w) P w K mg base N qual scope f cd A outer s₀ H₀ E).env)).any (·.1)=false:=by rfl) :
  PS (cxOf (CXR P w) P w K mg base N qual scope f cd A outer s₀ H₀ E) (.Raise (some (.Call (.Name x np) (e::es) [] cpos)) none pos) (b8 E C t):=by
 intro a s Y H D I h;obtain ⟨B,j,nm,q,bs,hdct,sn,sub,ab,col,dd,k0,k1,k2,k3,k5,u,g,m,c,T⟩:=(yo I.mod.kin hm hq).obj;refine wpAny_Raise_call_subU (nm:=nm) (q:=q) (N:=j) (bs:=bs) (hdct:=hdct) (sn:=sn) (sub:=sub) (ab:=ab) (col:=col) (dd:=dd) (k0:=k0) (k1:=k1) (k2:=k2) (k3:=k3) (k5:=k5)
  PySem.F.excBase_ValueError (by decide +kernel) PySem.F.excBase_ValueError (T.hasType PySem.F.excBase_ValueError.hasBase) (I.ok.hd rfl) (by rw [he];show (false||(backTo cpos (starEach es _)).any (·.1))=false;rw [hpl];rfl) c (Pb I hg hm ⟨rfl,?_⟩ hd)
 have d:=ha cpos a s Y H _ I h;rw [he] at d ⊢;refine Calls.evalArgs_plain (Cg d (λp r z=>?_) λ_ _ y=>y);obtain ⟨G,o,b,k,n,l⟩:=z;refine ⟨rfl,by rw [<-k.length];exact Hx (sO n),b.bk _ _ g,m.keeps b.bk,T.keeps b.bk,λh' ex hx=>?_⟩;exact b.flyMade rfl rfl rfl rfl hx λv F i=>⟨ex,.ref C,none,o,rfl,F,.no i,l⟩
end
def ExcAt(a:Addr)(C:Value)(h:Heap):Prop:=∃b,h.get? a=some b/\b.cls=C
def exO(a:Addr)(C:Value):HO:=.ext (ExcAt a C)
end L2
namespace L2
open PySem.Calls
section
open PySem.Builtin PySem.Builtin.ObjectAttr PySem.Builtin.Getset_descriptor PySem.W
variable{prog:Program} {E:Value->Shared->Prop} {x D:Addr} {name:Str} {M:Model} {h:Heap}
end
def yJ(a:Addr)(C:Value)(d:Addr)(h:Heap):Prop:=∃b,h.get? a=some b/\b.cls=C/\b.dict=some d/\∃c,b.data=.fields c
def exC(a:Addr)(C:Value)(d:Addr):HO:=.ext (yJ a C d)
end L2
namespace L2
def xF(l)(items)(n)(sl)(b)(items2)(n2)(sl2)(hc0:items.size+items2.size<=sizeLine) :
  Meets (Builtin.«list.__add__» ⟨[.ref l,.ref b],[]⟩) (λ_ R s=>s.heap.get? l=some { cls:=.type "list",dict:=none,data:=.seq items n,slots:=sl }/\s.heap.get? b=some { cls:=.type "list",dict:=none,data:=.seq items2 n2,slots:=sl2 }/\R (.ok (.ret (Value.ref s.heap.objs.size))) { s with heap:=s.heap.push { cls:=Value.type "list",data:=Data.seq (items++items2) },toks:=s.toks }) :=
 .of_wp λa w A R s h=>by obtain ⟨k,g,d,o,p⟩:=s;obtain ⟨c,e,h⟩:=h;have f:=AutoSeq1.idx_int;have m:=AutoSeq1.sub_tuple_tuple;have j:=AutoSeq1.sub_list_list;have i:=AutoSeq1.sub_tuple_list;have q:=AutoSeq1.sub_list_tuple;wp_walk using AutoSeq1.wpAny_loadPart' c,AutoSeq1.wpAny_loadPart' e;exact ⟨_,rfl,h⟩
section
def o6(I:Inv X pins Y H s)(hH:SqL X.K H l xs)(hB:SqL X.K H b zs)(hz:xs.length+zs.length<=sizeLine)(q:∀p,H p=none->Q (.ref p) (upd H p (.lst (xs++zs)))) :
  wX X (binaryOp .Add (.ref l) (.ref b)) (EP X pins Y Q) X.xe s:=by
 obtain ⟨c,r,⟨⟨G,y,D,f⟩,n,e,k,i,t⟩,z⟩:=I.list hH;obtain ⟨a,h,⟨⟨x,C,B,d⟩,v,o,j,g,m⟩,E⟩:=I.list hB;simp only at k i t j g m;subst k i t j g m;refine concat_meets ⟨_,e,rfl⟩ ⟨_,o,rfl⟩ noFill_list_add seq_list_add F.slot_list_add F.entry_list_add (F.args_list_add_2 _ _) (xF l c.toArray n f b a.toArray v d (by rw [Be,Be,<-r.length,<-h.length];exact hz)) ⟨e,o,?_⟩;have u:c.toArray++a.toArray=(c++a).toArray:=by simp
 rw [u];exact ⟨.ref _,_,I.lnew (r.append h) (by rw [BJ];exact hz),rfl,q _ I.fresh⟩
def ZnR(I:Inv X pins Y H s)(ha:SqT X.K H a xs)(hb:SqT X.K H b ys)(hz:xs.length+ys.length<=sizeLine)(q0:xs=[]->Q (.ref b) H)(q1:xs≠[]->ys=[]->Q (.ref a) H)(q2:xs≠[]->ys≠[]->∀p,H p=none->Q (.ref p) (upd H p (.tup (xs++ys)))) :
  wX X (binaryOp .Add (.ref a) (.ref b)) (EP X pins Y Q) X.xe s:=by
 by_cases hx:xs=[]
 .obtain ⟨t,q,y,_⟩:=I.tuple ha;obtain ⟨e,C,z,_⟩:=I.tuple hb;have r:=q.nil_iff.mpr hx;subst r;obtain ⟨⟨x,B,o,u⟩,l,m,n,j⟩:=id y;obtain ⟨⟨k,g,i,h⟩,d,f,v,c⟩:=id z;simp only at m j f c;subst m j f c;exact concat_meets ⟨_,l,rfl⟩ ⟨_,d,rfl⟩ noFill_tuple_add seq_tuple_add PySem.F.slot_tuple_add PySem.F.entry_tuple_add (PySem.F.args_tuple_add_2 _ _)
   (tuple_addW0 a b ([]:List Value).toArray e.toArray n v B g u h rfl) ⟨l,d,⟨.ref b,H,I,rfl,q0 hx⟩⟩
 .exact xq pins s Y H (.ref a) (.ref b) _ _ Q I rfl rfl ⟨a,b,xs,ys,rfl,rfl,ha,hb,hx,hz,q1 hx,q2 hx⟩
end
end L2
namespace HT
section
variable{prog:Program} {E:Value->Shared->Prop}
def zf{t sl:Addr}{items:Array Value}{vl vu:Value}{lo hi:Option Int}{Q:Value->Shared->Prop}(ht:IsTup s.heap t items)(hs:s.heap.IsSliceOf sl vl vu .none)(pl:IsPart vl lo)(pu:IsPart vu hi)(hw:sIx items.size 0 lo=0/\sIx items.size items.size hi=items.size)(h:Q (.ref t) s):wpAny (model prog w) A (getItem (.ref t) (.ref sl)) Q E s:=by
 obtain ⟨e,b,d,f⟩:=id hs;have c:s.TypeIs (.ref sl) "slice":=⟨e,b,d⟩;unfold getItem
 try with_reducible refine Cp ?_
 first | refine Ac (Ae ?_) | skip
 refine Ac (wpAny_sequenceKey ht.typeIs (by decide) ?_)
 refine Ac (Ju ht.typeIs Qy
  (JG Qy ht.typeIs entry_tuple_getitem ?_ (args_tuple_getitem _ _)))
 show wpAny _ _ (Builtin.Tuple.tupleItemsOf (.ref t) >>= _) _ _ s;refine Ac (tupleItemsOf_ ht ?_);refine Ac (J5 c ?_);rw [iP (by decide)];refine Ac (Zj hs pl pu ?_);have a:(((sIx items.size 0 lo:Nat):Int)==0&&(1:Int)==1&&(sIx items.size items.size hi - sIx items.size 0 lo)==items.size)=true:=by
  rw [hw.1,hw.2];simp
 show wpAny _ _ (if (((sIx items.size 0 lo:Nat):Int)==0&&(1:Int)==1&&(sIx items.size items.size hi - sIx items.size 0 lo)==items.size)=true then _ else _) _ _ s
 rw [iP a]
 first
  | exact Ac (Ac (J5 ht.typeIs (Ae (by rw [iP (by decide)];exact Ac (wpAny_rule (Ae ⟨_,rfl,Ae h⟩))))))
  | (refine Ac (Ac (J5 ht.typeIs (Ae ?_)))
     rw [iP (by decide)]
     trace_state
     exact Ac (wpAny_rule (Ae ⟨_,rfl,Ae h⟩)))
end
end HT
namespace L2
section
def Inv.turnNew{fp:List Addr}{T:Addr}{o:HO}{h':Heap}{t':Nat}(I:Inv X pins Y H s)(k:∀b u,b∉fp->s.heap.get? b=some u->h'.get? b=some u)(hf:∀b∈fp,FpOk X pins H b)(hT:s.heap.objs.size<=T)(new:Dt X.prog X.w (upd H T o) h' T o) :
  Inv X pins Y (upd H T o) { s with heap:=h',toks:=t' }:=by
 have f:=I.hok.fresh hT;have a:∀b u,H b=some u->b∉fp:=λb u e z=>by rw [(hf b z).1] at e;cases e
 refine I.call ⟨λb u q _ _ d=>k b u d q,λb u q _ _ d=>⟨u.slots,k b u d q⟩,λb u q n _=>?_,λb u q d=>⟨u,k b u d q⟩,λb h q=>?_,λb u h q=>?_,λb p q=>?_⟩ (λb u e=>?_) I.bare (λb g=>?_)
 .rw [Ag (BR (Bv (BK q) hT))];exact n
 .rw [Ag (Ay q f)];exact q
 .rw [Ag (Ay q f)];exact q
 .exact ⟨#[],by rw [Ag (Ay q f),q];simp⟩
 .by_cases g:b=T
  .subst g;rw [An] at e;cases e;exact new
  .rw [Ag g] at e;refine (I.hok b u e).stay (λc v hc q=>k c v ?_ q) (λc q=>by rw [Ag (Ay q f)];exact q) λc h q=>by rw [Ag (Ay q f)];exact q
   rcases hc with rfl | hc
   .exact a c u e
   .exact a c _ hc
 .obtain ⟨_,j,_,i,l,m⟩:=hf b g;exact ⟨i,j,l,m⟩
def Inv.turnedL{fp:List Addr}{h':Heap}{t':Nat}(I:Inv X pins Y H s)(k:∀b u,b∉fp->s.heap.get? b=some u->h'.get? b=some u)(hf:∀b∈fp,FpOk X pins H b):Inv X pins Y H { s with heap:=h',toks:=t' }:=by
 have a:∀b u,H b=some u->b∉fp:=λb u e z=>by rw [(hf b z).1] at e;cases e
 refine I.call ⟨λb u q _ _ d=>k b u d q,λb u q _ _ d=>⟨u.slots,k b u d q⟩,λb u q n _=>n,λb u q d=>⟨u,k b u d q⟩,λb f q=>q,λb u f q=>q,λb m q=>⟨#[],by rw [q];simp⟩⟩ (λb u e=>?_) I.bare (λb j=>?_)
 .refine (I.hok b u e).stay (λc v hc q=>k c v ?_ q) (λc q=>q) λc f q=>q;rcases hc with rfl | hc
  .exact a c u e
  .exact a c _ hc
 .obtain ⟨_,h,_,g,i,l⟩:=hf b j;exact ⟨g,h,i,l⟩
end
def Ite(K:W.Frag)(a:Addr):It :=
 ⟨λi H=>∃b x,SqL K H a b/\b[i]?=some x,λi H x c=>∃T p,H T=none/\x=.ref T/\c=upd H T (.tup [.int i,p])/\∀b,SqL K H a b->b[i]?=some p,λi H=>∃b,SqL K H a b/\b.length<=i⟩
def jk{elts:List Expr}{x1:Nat}{a e it:Addr}(hei:e≠it):Turn P w K (.Tuple elts x1 pos) (Ite K a) [e,it] e (λi h=>(∃old,IsEnum h e it (i:Nat) old)/\h.IsListIter it a i) where
 mem:=by simp
 obj:=λi h f b hb=>by
  obtain ⟨⟨old,n⟩,o,Z,c,d⟩:=f;rcases Al.mp hb with rfl | hb
  .exact ⟨_,n,λv z=>by cases z⟩
  .have z:b=it:=by simpa using hb
   subst z;exact ⟨o,Z,λv z=>by rw [d] at z;cases z⟩
 keep:=λi h h' f k=>⟨⟨f.1.choose,k e (by simp) _ f.1.choose_spec⟩,f.2.at λo q=>k it (by simp) o q⟩
 item:=by
  intro X Q R N W i l s Y H E I B f O;subst Q R N;obtain ⟨⟨old,n⟩,j⟩:=f;obtain ⟨xs,x,A,D⟩:=O;obtain ⟨L,T,p,hz⟩:=I.list A;obtain ⟨u,hu,ru⟩:=T.get D;refine wpAny_pyNext_enum_item n j p.isList (by simpa using hu) hei λh1 M t J hz1 F=>⟨_,rfl,?_⟩;refine wpAny_letOwnedTupleGo_enum M λh2 G C=>?_;have y:∀{c:Addr} {m:Obj},s.heap.get? c=some m->c≠s.heap.objs.size:=λq=>BR (BK q);have V:=y n;have iT:it≠s.heap.objs.size:=by obtain ⟨_,q,_⟩:=id j;exact y q
  have g:=C;have hT:=I.hok.fresh (Am _);have I2:Inv X l Y (upd H s.heap.objs.size (.tup [.int i,x])) { s with heap:=h2,toks:=s.toks+1 }:=by
   refine I.turnNew (λb m hb q=>?_) B (Am _) ?_
   .have r:b≠e:=λz=>hb (by simp [z]);have S:b≠it:=λz=>hb (by simp [z]);exact g.extBut b m r (F b m r S q)
   .have U:(2:Nat)<=sizeLine:=by decide
    exact ⟨U,[.int i s.toks,u],.cons ⟨_,rfl⟩ (.cons ru .nil),⟨_,g.extBut _ _ (Ne.symm V) J,rfl,_,rfl⟩⟩
  refine ⟨.ref s.heap.objs.size,_,I2,rfl,⟨_,x,hT,rfl,rfl,λys hy=>by rw [I.list_inj hy A];exact D⟩,⟨⟨_,G⟩,t.extBut g.extBut (Ne.symm hei)⟩,λb hb=>?_⟩;have nb:b≠s.heap.objs.size:=by
   rcases Al.mp hb with rfl | hb
   .exact V
   .have z:b=it:=by simpa using hb
    subst z;exact iT
  rw [Ag nb];exact (B b hb).1
 done:=by
  intro X Q R N W i l s Y H E I B f O;subst Q R N;obtain ⟨⟨old,n⟩,j⟩:=f;obtain ⟨xs,A,D⟩:=O;obtain ⟨L,T,p,hz⟩:=I.list A;have hl:=T.length;refine wpAny_pyNext_enum_end (I.ok.hd W) n j p.isList (by simp;omega) λh' eb=>⟨rfl,?_⟩;exact I.turnedL (λb m hb q=>eb b m (λz=>hb (by simp [z])) q) B
 self:=λ_ _ _ _ _ f h=>wpAny_pyIter_enum f.1.choose_spec h
def Yu(K:W.Frag)(ta:TA):TI:=λY H R=>ta Y H λd b=>∃a,d=[.ref a]/\(∃c,SqL K b a c)/\R (Ite K a) b
def pZ(hg:Gl X "enumerate")(hm:X.mg "enumerate"=none)(ha:PA X [a] ta)(hs:starEach [a] X.env=[(false,eval a X.env)]:=by rfl):PI X (.Tuple elts x1 tpos) (.Call (.Name "enumerate" p) [a] [] pos) (Yu X.K ta):=by
 intro f s Y H R I h;refine Call_ (Gu I hg hm uz (Ht (thn (ha pos f s Y H _ I h) λC c zq=>?_) hs rfl));obtain ⟨D,o,g,k,x⟩:=zq;obtain ⟨l,e,⟨B,w⟩,q⟩:=x;subst e;cases k with
 | cons r rr=>
  cases rr;cases r;obtain ⟨n,A,m,E⟩:=g.list w;refine call_enumerate_list m.isList λy j i u v=>?_;have t:=g.kept (t':=c.toks) v;refine wpAny_pyIter_enum j ?_;refine ⟨c.heap.objs.size+1,[c.heap.objs.size+1,c.heap.objs.size],_,Ite X.K l,o,rfl,t,jk (Nat.succ_ne_self _),⟨⟨_,j⟩,i⟩,λb hb=>?_,q⟩;have d:c.heap.objs.size<=b:=by
   rcases Al.mp hb with rfl | hb
   .exact Ir _
   .have z:b=c.heap.objs.size:=by simpa using hb
    exact Nat.le_of_eq z.symm
  exact g.fpOk d (g.hok.fresh d)
section
variable{prog:Program} {E:Value->Shared->Prop}
def dh(hne:t≠it):∀n i s Q,s.heap.IsListIter it t i->s.heap.IsList t items->i+n<=items.size ->
  (∀h',h'.IsListIter it t (i+n)->Heap.SameBut it s.heap h'->Q ((items.toList.drop i).take n) { s with heap:=h' })->wpAny (model prog w) A (draw (.ref it) n) Q E s
 | 0,i,s,Q,hit,_,_,hQ=>by
  exact Ae (by simpa using hQ s.heap hit (Heap.SameBut.refl ..))
 | n+1,i,s,Q,hit,ht,hle,hQ=>by
  have d:i<items.size:=by omega
  refine Ac (wpAny_pyNext_list_item hit ht (x:=items[i]) (by simp [d]) λg b a=>?_);refine Ac (Cp (dh hne n (i+1) _ _ b (ht.extBut a.extBut hne) (by omega) λf e c=>Ae ?_));have h:items.toList.drop i=items[i]::items.toList.drop (i+1):=by simp [Hs,d]
  have:=hQ f (by rw [show i+(n+1)=i+1+n by omega];exact e) (a.trans c);rw [h,List.take_succ_cons] at this;exact this
def rY(hh:A.handled=none)(ht:s.heap.IsList t items)(hQ:∀h',Heap.ExtBut s.heap.objs.size s.heap h'->Q items.toList { s with heap:=h' }):wpAny (model prog w) A (unpackItems (.ref t) items.size none) Q E s:=by
 have g:t≠s.heap.objs.size:=by obtain ⟨o,l,_⟩:=ht;exact BR (BK l)
 unfold unpackItems;refine Ac ?_
 .unfold notIterableAtAll;refine Ac (wpAny_specialOf ht.typeIs F.slot_list_iter.lookup ?_);refine Ae ?_;simp only [DR,CV];refine Ac (Cp (NZ ht ?_));refine Ac (Cp (dh g items.size 0 _ _ ⟨_,CQ _ rfl,rfl,rfl⟩ (ht.push _) (by omega) λj c a=>?_));have i:List.take items.size (List.drop 0 items.toList)=items.toList:=by
   rw [Ln];exact HB (by simp)
  rw [i];rw [iN (by simp)];have d:=(ht.push _).extBut a.extBut g;refine Ac (Cp (wpAny_pyNext_list_end hh c d (by simp) λh f=>?_));simp only [Option.isSome_none,DR,CV];refine Ae (hQ h λb o k e=>f b o k (a.extBut b o k (Bf _ e)))
def qg{x1}(hh:A.handled=none)(ht:s.heap.IsList t items)(hn:(assignEach elts env).length=items.size)(hstar:(assignEach elts env).findIdx? (·.1)=none)(h:∀h',Heap.ExtBut s.heap.objs.size s.heap h'->wpAny (model prog w) A (assignInOrder ((assignEach elts env).map (·.2)) items.toList) Q E { s with heap:=h' }) :
  wpAny (model prog w) A (assign (.Tuple elts x1 pos) env (.ref t)) Q E s:=by
 rw [assign_Tuple];refine Ac (wpAny_standAt ?_);unfold unpack;rw [hn,hstar];exact Ac (Cp (rY hh ht h))
end
def ItK:Bool->Heap->Addr->Addr->Nat->Prop
 | false,h,a,l,i=>h.IsListIter a l i
 | true,h,a,l,i=>h.IsTupleIter a l i
def SqK:Bool->Heap->Addr->Array Value->Prop
 | false,h,a,xs=>h.IsList a xs
 | true,h,a,xs=>h.IsTuple a xs
def Ia(p:Bool)(l:Addr):Obj:={ cls:=.type (if p then "tuple_iterator" else "list_iterator"),data:=.fields #[.ref l,.int 0 0] }
def ItK.extBut(x:ItK p h a l i)(hs:Heap.ExtBut b h h')(hab:a≠b):ItK p h' a l i:=by
 cases p
 .exact Heap.IsListIter.extBut x hs hab
 .exact Heap.IsTupleIter.extBut x hs hab
def ItK.at(x:ItK p h a l i)(k:∀o,h.get? a=some o->h'.get? a=some o):ItK p h' a l i:=by
 cases p
 .obtain ⟨o,e,r⟩:=(show h.IsListIter a l i from x);exact ⟨o,k o e,r⟩
 .obtain ⟨o,e,r⟩:=(show h.IsTupleIter a l i from x);exact ⟨o,k o e,r⟩
def ItK.flds(x:ItK p h a l i):∃o vs,h.get? a=some o/\o.data=.fields vs:=by
 cases p
 .obtain ⟨o,e,_,d⟩:=(show h.IsListIter a l i from x);exact ⟨o,_,e,d⟩
 .obtain ⟨o,e,_,d⟩:=(show h.IsTupleIter a l i from x);exact ⟨o,_,e,d⟩
def ItK.new(e:h.get? a=some (Ia p l)):ItK p h a l 0:=by
 cases p
 .exact ⟨_,e,rfl,rfl⟩
 .exact ⟨_,e,rfl,rfl⟩
def SqK.extBut{xs:Array Value}(x:SqK p h a xs)(hs:Heap.ExtBut b h h')(hab:a≠b):SqK p h' a xs:=by
 cases p
 .exact Heap.IsList.extBut x hs hab
 .exact Heap.IsTuple.extBut x hs hab
def SqK.push{xs:Array Value}(x:SqK p h a xs)(o):SqK p (h.push o) a xs:=by
 cases p
 .exact Heap.IsList.push x o
 .exact Heap.IsTuple.push x o
section
variable{prog:Program} {E:Value->Shared->Prop}
def Sd{xs:Array Value}(x:SqK p s.heap l xs)(h:Q (.ref s.heap.objs.size) { s with heap:=s.heap.push (Ia p l) }):wpAny (model prog w) A (pyIter (.ref l)) Q E s:=by
 cases p
 .exact NZ x h
 .exact wpAny_pyIter_tuple x h
def yO{zs}{x:Value}(ki:s.heap.IsTupleIter ia la i)(kl:s.heap.IsTuple la zs)(kx:zs[i]?=some x)(kQ:∀h',h'.IsTupleIter ia la (i+1)->Heap.SameBut ia s.heap h'->Q x { s with heap:=h' }) :
  wpAny (model prog w) A (Builtin.SmallTypes.nextOf (.ref ia)) Q E s:=by
 obtain ⟨h,b,e,a⟩:=id ki;obtain ⟨g,d,_,f,c⟩:=kl;unfold Builtin.SmallTypes.nextOf
 refine Ac (Ju (name:=Str.ofString "__next__") ki.typeIs RT
  (JG RT ki.typeIs F.entry_tuple_iterator_next ?_ (F.args_tuple_iterator_next_1 _)))
 show wpAny _ _ (field (.ref ia) 0 >>= _) _ _ s;refine Ac (Em b a (x:=.ref la) rfl ?_);show wpAny _ _ (if (Value.ref la==Value.none)=true then _ else _) _ _ s
 rw [iN (show ¬((Value.ref la==Value.none)=true) from DX)];show wpAny _ _ (field (.ref ia) 1 >>= _) _ _ s;refine Ac (Em b a (x:=.int i 0) rfl ?_);show wpAny _ _ (seqItems? (.ref la) >>= _) _ _ s;refine Ac (Fd d c ?_);simp only [Do,kx];refine Ac (wpAny_setField b a (by simp) (Ae ⟨x,rfl,Ae (kQ _ ?_ (Og ..))⟩))
 exact ⟨_,Ku _ b (Obj.isFreed_of_fields (Obj.data_mapFields a _)),(Obj.cls_mapFields ..).trans e,by
  rw [Obj.data_mapFields a];simp [rawInt]⟩
def fj{zs}(kh:A.handled=none)(ki:s.heap.IsTupleIter ia la i)(kl:s.heap.IsTuple la zs)(kx:zs[i]?=none)(kE:∀h' e,Heap.ExtBut ia s.heap h'->(∃ob,h'.get? e=some ob/\ob.cls=.type "StopIteration")->E (.ref e) { s with heap:=h' }) :
  wpAny (model prog w) A (Builtin.SmallTypes.nextOf (.ref ia)) Q E s:=by
 obtain ⟨ob,b,j,f⟩:=id ki;obtain ⟨h,d,_,g,c⟩:=kl;unfold Builtin.SmallTypes.nextOf
 refine Ac (Ju (name:=Str.ofString "__next__") ki.typeIs RT
  (JG RT ki.typeIs F.entry_tuple_iterator_next ?_ (F.args_tuple_iterator_next_1 _)))
 show wpAny _ _ (field (.ref ia) 0 >>= _) _ _ s;refine Ac (Em b f (x:=.ref la) rfl ?_);show wpAny _ _ (if (Value.ref la==Value.none)=true then _ else _) _ _ s
 rw [iN (show ¬((Value.ref la==Value.none)=true) from DX)];show wpAny _ _ (field (.ref ia) 1 >>= _) _ _ s;refine Ac (Em b f (x:=.int i 0) rfl ?_);show wpAny _ _ (seqItems? (.ref la) >>= _) _ _ s;refine Ac (Fd d c ?_);simp only [Do,kx];refine Ac (wpAny_rule (Ac (wpAny_setField b f (by simp) ?_)));show wpAny _ _ (newExc (.type "StopIteration") [] >>= _) _ _ _;refine Ac ?_;simp only [newExc,newTuple];refine Ac (Jc ?_ (by size_fits));refine Ac (m:=firstArgMember _ _) (wpAny_of_eq (a:=Value.none) (by first | rfl | (simp only [firstArgMember];rfl)) ?_)
 refine Jc ?_ (by size_fits);simp only [raiseNew];refine Ac (wpAny_handled ?_)
 first | rw [show A.in1.handled=none from kh] | rw [kh]
 refine Ac (Ae (wpAny_throw ?_));exact kE _ _ (((Og ..).extBut.push _).push _) ⟨_,CQ _ rfl,rfl⟩
def G3{x:Value}(ki:ItK p s.heap ia la i)(kl:SqK p s.heap la zs)(kx:zs[i]?=some x)(kQ:∀h',ItK p h' ia la (i+1)->Heap.SameBut ia s.heap h'->Q x { s with heap:=h' }):wpAny (model prog w) A (Builtin.SmallTypes.nextOf (.ref ia)) Q E s:=by
 cases p
 .exact wpAny_nextOf_list_item ki kl kx kQ
 .exact yO ki kl kx kQ
def Jy(kh:A.handled=none)(ki:ItK p s.heap ia la i)(kl:SqK p s.heap la zs)(kx:zs[i]?=none)(kE:∀h' e,Heap.ExtBut ia s.heap h'->(∃o,h'.get? e=some o/\o.cls=.type "StopIteration")->E (.ref e) { s with heap:=h' }):wpAny (model prog w) A (Builtin.SmallTypes.nextOf (.ref ia)) Q E s:=by
 cases p
 .exact wpAny_nextOf_list_end kh ki kl kx kE
 .exact fj kh ki kl kx kE
end
def SqB(K:W.Frag):Bool->Hp->Addr->List V->Prop
 | false,H,a,xs=>SqL K H a xs
 | true,H,a,xs=>SqT K H a xs
def SqK.here{xs:Array Value}(x:SqK p h a xs):∃o,h.get? a=some o:=by
 cases p
 .obtain ⟨o,e,_⟩:=(show h.IsList a xs from x);exact ⟨o,e⟩
 .obtain ⟨o,e,_⟩:=(show h.IsTuple a xs from x);exact ⟨o,e⟩
def Inv.seqB(I:Inv X pins Y H s)(h:SqB X.K p H a xs):∃its,Vals xs its/\SqK p s.heap a its.toArray/\xs.length<=sizeLine:=by
 cases p
 .obtain ⟨its,c,b,d⟩:=I.list h;exact ⟨its,c,b.isList,d⟩
 .obtain ⟨its,c,b,d⟩:=I.tuple h;exact ⟨its,c,b,d⟩
end L2
namespace Dl
inductive D where
 | non | bl (b:Bool) | int (i:Int) | str (x:Str) | ty (n:String) | cls (c:Str)
 | tup (xs:List D) | lst (xs:List D) | exc (c:Str) | ins (c:Str) (ns:List Str) (vs:List D)
def pay(c:Str):Option Nat:=match c.cps.toList with
 | k::_=>if 0x110000<=k then some (k - 0x110000) else none
 | []=>none
def clsOf(c:Str):Str:=match c.cps.toList with
 | k::r=>if 0x110000<=k then ⟨r.toArray⟩ else c
 | []=>c
inductive Res(α:Type) where
 | ok (a:α) | ex (c:Str) | bad
noncomputable def Res.bind:Res α->(α->Res β)->Res β
 | .ok a,f=>f a
 | .ex c,_=>.ex c
 | .bad,_=>.bad
def Hj(a:α)(f:α->Res β):(Res.ok a).bind f=f a:=rfl
inductive Cl where
 | no | im (d:D) | ow (ds:List D)
abbrev Ev:=List Cl
abbrev ME:=Ev->Res D
abbrev MB:=Ev->Res Bool
abbrev MA:=Ev->Res (List D)
def getC:Option Cl->Res D
 | some (.im d)=>.ok d
 | _=>.bad
def v(i:Nat):ME:=λZ=>getC Z[i]?
def c(d:D):ME:=λ_=>.ok d
def o1(f:D->Res D)(a:ME):ME:=λZ=>(a Z).bind f
def o2(f:D->D->Res D)(a b:ME):ME:=λZ=>(a Z).bind λx=>(b Z).bind λy=>f x y
def Ab:MA:=λ_=>.ok []
def Aa(a:ME)(r:MA):MA:=λZ=>(a Z).bind λx=>(r Z).bind λb=>.ok (x::b)
def on(f:List D->Res D)(a:MA):ME:=λZ=>(a Z).bind f
def mtp(a:MA):ME:=λZ=>(a Z).bind λb=>.ok (.tup b)
def mls(a:MA):ME:=λZ=>(a Z).bind λb=>.ok (.lst b)
def tru:D->Res Bool
 | .bl b=>.ok b
 | _=>.bad
def trb(a:ME):MB:=λZ=>(a Z).bind tru
def bAnd(a b:MB):MB:=λZ=>(a Z).bind λx=>if x=true then b Z else .ok false
def bOr(a b:MB):MB:=λZ=>(a Z).bind λx=>if x=true then .ok true else b Z
def bNot(a:MB):MB:=λZ=>(a Z).bind λx=>.ok (!x)
def eAnd(a b:ME):ME:=λZ=>(trb a Z).bind λx=>if x=true then b Z else .ok (.bl false)
def eNot(a:ME):ME:=λZ=>(trb a Z).bind λx=>.ok (.bl (!x))
def ife(t:MB)(a b:ME):ME:=λZ=>(t Z).bind λx=>if x=true then a Z else b Z
def Bl(a b:Int):Bool:=decide (a.natAbs<2^64)||decide (b.natAbs<2^64)||decide (a.natAbs.log2+b.natAbs.log2<100000000)
def LIM:Nat:=1000000
def Ah:D->D->Res D
 | .int a,.int b=>.ok (.int (a+b))
 | .lst a,.lst b=>if a.length+b.length<=LIM then .ok (.lst (a++b)) else .bad
 | .tup a,.tup b=>if a.length+b.length<=LIM then .ok (.tup (a++b)) else .bad
 | .str a,.str b=>if a.length+b.length<=LIM then .ok (.str (a++b)) else .bad
 | _,_=>.bad
def ii(f:Int->Int->Res D):D->D->Res D
 | .int a,.int b=>f a b
 | _,_=>.bad
def iSub(a b:Int):Res D:=.ok (.int (a - b))
def iMul(a b:Int):Res D:=if Bl a b=true then .ok (.int (a*b)) else .bad
def iMod(a b:Int):Res D:=if 0<b then .ok (.int (a%b)) else if b=0 then .bad else .ok (.int (a.fmod b))
def iDiv(a b:Int):Res D:=if b.natAbs.log2<9000 then (if 0<b then .ok (.int (a/b)) else if b=0 then .bad else .ok (.int (a.fdiv b))) else .bad
def iPow(a b:Int):Res D:=if 0<=b/\b<=1000000/\a.natAbs<2^64 then .ok (.int (a^b.toNat)) else .bad
def iShl(a b:Int):Res D:=if 0<=b/\b<=1000000/\a.natAbs<2^64 then .ok (.int (a*2^b.toNat)) else .bad
def iShr(a b:Int):Res D:=if 0<=b then .ok (.int (a/2^b.toNat)) else .bad
def iLt(a b:Int):Res D:=.ok (.bl (decide (a<b)))
def iLe(a b:Int):Res D:=.ok (.bl (decide (a<=b)))
def iGt(a b:Int):Res D:=.ok (.bl (decide (b<a)))
def iGe(a b:Int):Res D:=.ok (.bl (decide (b<=a)))
abbrev dSub:=ii iSub
abbrev Ao:=ii iMul
abbrev Aj:=ii iMod
abbrev Aq:=ii iDiv
abbrev dPow:=ii iPow
abbrev dShl:=ii iShl
abbrev dShr:=ii iShr
abbrev dLt:=ii iLt
abbrev dLe:=ii iLe
abbrev dGt:=ii iGt
abbrev dGe:=ii iGe
def dNeg:D->Res D
 | .int a=>.ok (.int (-a))
 | _=>.bad
mutual
def eqD:D->D->Bool
 | .non,.non=>true
 | .bl a,.bl b=>a==b
 | .bl a,.int j=>(if a then 1 else 0)==j
 | .int i,.bl b=>i==(if b then 1 else 0)
 | .int i,.int j=>i==j
 | .str x,.str y=>x==y
 | .lst xs,.lst ys=>eqDs xs ys
 | .tup xs,.tup ys=>eqDs xs ys
 | _,_=>false
def eqDs:List D->List D->Bool
 | [],[]=>true
 | x::xs,y::ys=>eqD x y&&eqDs xs ys
 | _,_=>false
end
mutual
def plain:Nat->D->Bool
 | _,.non=>true
 | _,.bl _=>true
 | _,.int _=>true
 | _,.str x=>x.cps.all (·<0x110000)
 | k+1,.tup xs=>BX k xs
 | k+1,.lst xs=>BX k xs
 | _,_=>false
def BX:Nat->List D->Bool
 | _,[]=>true
 | k,x::xs=>plain k x&&BX k xs
end
def dEq(x y:D):Res D:=if plain 50 x&&plain 50 y then .ok (.bl (eqD x y)) else .bad
def dNe(x y:D):Res D:=if plain 50 x&&plain 50 y then .ok (.bl (!eqD x y)) else .bad
def inD(x:D)(ys:List D):Bool:=ys.any λy=>eqD y x
def seqD:D->Res (List D)
 | .lst ys=>.ok ys
 | .tup ys=>.ok ys
 | _=>.bad
def dIn(x y:D):Res D:=(seqD y).bind λa=>if plain 50 x&&BX 50 a then .ok (.bl (inD x a)) else .bad
def dNin(x y:D):Res D:=(seqD y).bind λa=>if plain 50 x&&BX 50 a then .ok (.bl (!inD x a)) else .bad
def Gk:D->Bool
 | .non=>true
 | _=>false
def dIsN(x:D):Res D:=.ok (.bl (Gk x))
def Ey(x:D):Res D:=.ok (.bl (!Gk x))
def at_(xs:List α)(i:Int):Option α:=if 0<=i then xs[i.toNat]? else if -(xs.length:Int)<=i then xs[(i+xs.length).toNat]? else none
def ofO:Option α->Res α
 | some a=>.ok a
 | none=>.bad
def dIx:D->D->Res D
 | .lst xs,.int i=>ofO (at_ xs i)
 | .tup xs,.int i=>ofO (at_ xs i)
 | _,_=>.bad
def cutAt(n d:Nat):Option Int->Nat
 | none=>d
 | some i=>if i<0 then (i+n).toNat else min i.toNat n
def cutL(xs:List D)(lo hi:Option Int):List D:=(xs.drop (cutAt xs.length 0 lo)).take (cutAt xs.length xs.length hi - cutAt xs.length 0 lo)
def dCut(x:D)(lo hi:Option Int):Res D:=match x with
 | .lst xs=>.ok (.lst (cutL xs lo hi))
 | .tup xs=>.ok (.tup (cutL xs lo hi))
 | _=>.bad
def pno:Ev->Res (Option Int):=λ_=>.ok none
def optI:D->Res (Option Int)
 | .int i=>.ok (some i)
 | _=>.bad
def pso(a:ME):Ev->Res (Option Int):=λZ=>(a Z).bind optI
def cut(a:ME)(lo hi:Ev->Res (Option Int)):ME:=λZ=>(a Z).bind λx=>(lo Z).bind λl=>(hi Z).bind λh=>dCut x l h
def bLen:List D->Res D
 | [.lst xs]=>.ok (.int xs.length)
 | [.tup xs]=>.ok (.int xs.length)
 | _=>.bad
def bAbs:List D->Res D
 | [.int i]=>.ok (.int (if i<0 then -i else i))
 | _=>.bad
def bMin:List D->Res D
 | [.int i,.int j]=>.ok (.int (if j<i then j else i))
 | _=>.bad
def bInt:List D->Res D
 | [.int i]=>.ok (.int i)
 | [.bl k]=>.ok (.int (if k then 1 else 0))
 | _=>.bad
def bTup:List D->Res D
 | [.lst xs]=>.ok (.tup xs)
 | [.tup xs]=>.ok (.tup xs)
 | _=>.bad
def bLst:List D->Res D
 | [.lst xs]=>.ok (.lst xs)
 | [.tup xs]=>.ok (.lst xs)
 | _=>.bad
def Pq:D->Option String
 | .non=>some "NoneType"
 | .bl _=>some "bool"
 | .int _=>some "int"
 | .str _=>some "str"
 | .tup _=>some "tuple"
 | .lst _=>some "list"
 | _=>none
def isTy(t n:String):Bool:=t==n||(t == "bool"&&n == "int")
def Ot:List String:=["int","bool","str","tuple","list","dict"]
def bIsi:List D->Res D
 | [x,.ty n]=>if Ot.contains n=true then (ofO (Pq x)).bind λt=>.ok (.bl (isTy t n)) else .bad
 | _=>.bad
def bools:List D->Res (List Bool)
 | []=>.ok []
 | d::r=>match d with
  | .bl b=>(bools r).bind λa=>.ok (b::a)
  | _=>.bad
def bAll:List D->Res D
 | [d]=>match d with
  | .lst xs=>(bools xs).bind λa=>.ok (.bl (a.all id))
  | _=>.bad
 | _=>.bad
def Fw:List D->Res (List Int)
 | []=>.ok []
 | d::r=>match d with
  | .int n=>(Fw r).bind λa=>.ok (n::a)
  | _=>.bad
abbrev MI:=Ev->Res (List D)
def items:D->Res (List D)
 | .lst xs=>.ok xs
 | .tup xs=>.ok xs
 | _=>.bad
def iv(a:ME):MI:=λZ=>(a Z).bind items
def numbered:Nat->List D->List D
 | _,[]=>[]
 | k,x::xs=>.tup [.int k,x]::numbered (k+1) xs
def PP:List D->Res (List D)
 | [x]=>match x with
  | .lst xs=>.ok (numbered 0 xs)
  | _=>.bad
 | _=>.bad
def JC(a:MA):MI:=λZ=>(a Z).bind PP
def CN(lo:Int)(n:Nat):List D:=(List.range n).map λ(k:Nat)=>D.int (lo+(k:Int))
def rng1:List D->Res (List D)
 | [.int j]=>if -1000000000<=j/\j<=1000000000 then .ok (CN 0 j.toNat) else .bad
 | _=>.bad
def r1(a:MA):MI:=λZ=>(a Z).bind rng1
def rng2:List D->Res (List D)
 | [.int i,.int j]=>if (-1000000000<=i/\i<=1000000000)/\(-1000000000<=j/\j<=1000000000) then .ok (CN i (j - i).toNat) else .bad
 | _=>.bad
def r2(a:MA):MI:=λZ=>(a Z).bind rng2
abbrev MG:=D->Ev->Res Ev
abbrev MGs:=List D->Ev->Res Ev
def gN(i:Nat):MG:=λd Z=>.ok (Z.set i (.im d))
def gs0:MGs:=λa Z=>match a with
 | []=>.ok Z
 | _=>.bad
def gs1(g:MG)(r:MGs):MGs:=λa Z=>match a with
 | d::a=>(g d Z).bind λb=>r a b
 | []=>.bad
def gU(n:Nat)(g:MGs):MG:=λd Z=>(items d).bind λa=>if a.length=n then g a Z else .bad
def imOf:Option Cl->Cl
 | some (.im d)=>.im d
 | _=>.no
def Bm(Z:Ev):List Nat->Ev
 | []=>[]
 | j::r=>imOf Z[j]?::Bm Z r
def noA:Nat->Ev->Ev
 | 0,e=>e
 | k+1,e=>.no::noA k e
def Bc(g:MG)(t:MB)(e:ME)(Z0:Ev):List D->Res (List D)
 | []=>.ok []
 | x::r=>(g x Z0).bind λa=>(t a).bind λb=>if b=true then (e a).bind λy=>(Bc g t e Z0 r).bind λc=>.ok (y::c) else Bc g t e Z0 r
def yes:MB:=λ_=>.ok true
def noEx:Res α->Res α
 | .ex _=>.bad
 | r=>r
def comp(it:MI)(own:Nat)(cap:List Nat)(g:MG)(t:MB)(e:ME):ME:=λZ=>(it Z).bind λa=>
 if a.length<=LIM then (noEx (Bc g t e (noA own (Bm Z cap)) a)).bind λb=>.ok (.lst b) else .bad
inductive Fl where
 | nx (Z:Ev) | rt (d:D) | bk (Z:Ev) | ct (Z:Ev)
abbrev MS:=Ev->Res Fl
def nop:MS:=λZ=>.ok (.nx Z)
def goOn(b:MS):Fl->Res Fl
 | .nx Z=>b Z
 | f=>.ok f
def sq(a b:MS):MS:=λZ=>(a Z).bind (goOn b)
def st(i:Nat)(e:ME):MS:=λZ=>(e Z).bind λd=>.ok (.nx (Z.set i (.im d)))
def lstO:D->Res (List D)
 | .lst xs=>.ok xs
 | _=>.bad
def stO(i:Nat)(e:ME):MS:=λZ=>(e Z).bind λd=>(lstO d).bind λa=>.ok (.nx (Z.set i (.ow a)))
def getO:Option Cl->Res (List D)
 | some (.ow xs)=>.ok xs
 | _=>.bad
def frz(i:Nat)(m:MS):MS:=λZ=>(getO Z[i]?).bind λa=>m (Z.set i (.im (.lst a)))
def app(i:Nat)(e:ME):MS:=λZ=>(getO Z[i]?).bind λa=>(e Z).bind λd=>if a.length<LIM then .ok (.nx (Z.set i (.ow (a++[d])))) else .bad
def asg(g:MG)(e:ME):MS:=λZ=>(e Z).bind λd=>(g d Z).bind λa=>.ok (.nx a)
def drp(e:ME):MS:=λZ=>(e Z).bind λ_=>.ok (.nx Z)
def ret(e:ME):MS:=λZ=>(e Z).bind λd=>.ok (.rt d)
def ifs(t:MB)(a b:MS):MS:=λZ=>(t Z).bind λx=>if x=true then a Z else b Z
def cnt:MS:=λZ=>.ok (.ct Z)
def rse(c:Str)(a:MA):MS:=λZ=>(a Z).bind λ_=>.ex c
def Hu:D->Res D
 | .non=>.ok .non
 | .bl b=>.ok (.bl b)
 | .int i=>.ok (.int i)
 | .str x=>.ok (.str x)
 | _=>.bad
def pk(i:Nat)(m:ME):ME:=λZ=>(getO Z[i]?).bind λa=>(m (Z.set i (.im (.lst a)))).bind Hu
def pkB(i:Nat)(m:MB):MB:=λZ=>(getO Z[i]?).bind λa=>m (Z.set i (.im (.lst a)))
def turn(k:MS):Fl->Res Fl
 | .nx Z=>k Z
 | .ct Z=>k Z
 | .bk Z=>.ok (.nx Z)
 | .rt d=>.ok (.rt d)
def BP(g:MG)(b:MS):List D->MS
 | [],Z=>.ok (.nx Z)
 | x::r,Z=>(g x Z).bind λa=>(b a).bind (turn (BP g b r))
def for_(it:MI)(g:MG)(b:MS):MS:=λZ=>(it Z).bind λa=>BP g b a Z
def whGo(t:MB)(b:MS):Nat->MS
 | 0,_=>.bad
 | n+1,Z=>(t Z).bind λx=>if x=true then (b Z).bind (turn (whGo t b n)) else .ok (.nx Z)
def absC:Cl->Nat
 | .im (.int i)=>i.natAbs
 | _=>0
def fuel(Z:Ev):Nat:=(Z.map absC).sum+1
def whl(n:Ev->Nat)(t:MB)(b:MS):MS:=λZ=>whGo t b (n Z) Z
def evF:List D->Nat->Ev
 | [],k=>noA k []
 | d::r,k=>.im d::evF r (k - 1)
def ev0(n:Nat)(ds:List D):Ev:=evF ds n
def Oq:∀k e,noA k e=List.replicate k .no++e
 | 0,_=>rfl
 | k+1,e=>by rw [noA,Oq k e,Gn,List.cons_append]
def UG(Z):∀cap,Bm Z cap=cap.map λj=>imOf Z[j]?
 | []=>rfl
 | j::r=>by rw [Bm,UG Z r,Bb]
def MJ:∀ds n,ev0 n ds=ds.map .im++List.replicate (n - ds.length) .no
 | [],n=>by show noA n []=_;rw [Oq];simp
 | d::r,n=>by
  have ih:=MJ r (n - 1);show .im d::ev0 (n - 1) r=_;rw [ih,Bb,List.cons_append,By,Nat.sub_sub,JV 1]
def endOf:Fl->Res D
 | .rt d=>.ok d
 | .nx _=>.ok .non
 | _=>.bad
def fn(n:Nat)(b:MS)(ds:List D):Res D:=(b (ev0 n ds)).bind endOf
end Dl
variable{H' F0 H0 F':L2.Hp}{E:L2.XK}{Z:Dl.Ev}{ds:List Dl.D}{me:Dl.ME}{d:Dl.D}
namespace L2.Ds
open Dl
def XcO(H:Hp)(a:Addr)(cls:Value)(d:Addr)(p:Option Addr):Prop:=match p with
 | none=>H a=some (exO a cls)
 | some n=>H a=some (exC a cls d)/\H d=some (.xd [("at",.int (((n)/2:Nat):Int))])
def XcO.same{d:Addr}(h:XcO H a cls d p)(e:∀b o,H b=some o->(∀xs,o≠.lst xs)->H' b=some o):XcO H' a cls d p:=by
 cases p with
 | none=>exact e _ _ h λ_ z=>by cases z
 | some n=>exact ⟨e _ _ h.1 (λ_ z=>by cases z),e _ _ h.2 (λ_ z=>by cases z)⟩
mutual
inductive Rp(K:W.Frag)(mg:Str->Option Value)(H:Hp):V->D->Prop
 | non:Rp K mg H .non .non
 | bl (b:Bool):Rp K mg H (.bl b) (.bl b)
 | int (i:Int):Rp K mg H (.int i) (.int i)
 | str (x:Str):Rp K mg H (.str x) (.str x)
 | ty (n:String):Rp K mg H (.ty n) (.ty n)
 | cls {c:Str} {C:Addr} (h:mg c=some (.ref C)):Rp K mg H (.ref C) (.cls c)
 | tup {a:Addr} {xs:List V} {ds:List D} (h:SqT K H a xs) (r:Rps K mg H xs ds):Rp K mg H (.ref a) (.tup ds)
 | lst {a:Addr} {xs:List V} {ds:List D} (h:SqL K H a xs) (r:Rps K mg H xs ds):Rp K mg H (.ref a) (.lst ds)
 | exc {c:Str} {C a d:Addr} (m:mg (clsOf c)=some (.ref C)) (h:XcO H a (.ref C) d (pay c)):Rp K mg H (.ref a) (.exc c)
 | ins {c:Str} {C a dx:Addr} {fs:List (Str×V)} {xs:List V} {vs:List D} (m:mg c=some (.ref C)) (h:H a=some (.ins C dx fs)) (o:H dx=some (.own a)) (e:fs.map (·.2)=xs) (r:Rps K mg H xs vs):Rp K mg H (.ref a) (.ins c (fs.map (·.1)) vs)
inductive Rps(K:W.Frag)(mg:Str->Option Value)(H:Hp):List V->List D->Prop
 | nil:Rps K mg H [] []
 | cons {x:V} {xs:List V} {d:D} {ds:List D} (h:Rp K mg H x d) (r:Rps K mg H xs ds):Rps K mg H (x::xs) (d::ds)
end
section
def Ec(e:Same H H')(h:SqT K H a xs):SqT K H' a xs:=by
 rcases h with (h | ⟨o,h⟩) | h
 .exact .inl (.inl (e _ _ h))
 .exact .inl (.inr ⟨o,e _ _ h⟩)
 .exact .inr h
mutual
def Rp.same(e:Same H H'){x:V}{d:D}(h:Rp K mg H x d):Rp K mg H' x d:=by
 cases h with
 | non=>exact .non
 | bl b=>exact .bl b
 | int i=>exact .int i
 | str x=>exact .str x
 | ty n=>exact .ty n
 | cls h=>exact .cls h
 | tup h r=>exact .tup (Ec e h) (Rps.same e r)
 | lst h r=>exact .lst (e.seq h) (Rps.same e r)
 | exc m h=>exact .exc m (h.same λb o z _=>e b o z)
 | ins m h o q r=>exact .ins m (e _ _ h) (e _ _ o) q (Rps.same e r)
def Rps.same(e:Same H H'){xs:List V}{ds:List D}(h:Rps K mg H xs ds):Rps K mg H' xs ds:=by
 cases h with
 | nil=>exact .nil
 | cons h r=>exact .cons (Rp.same e h) (Rps.same e r)
end
def Rps.length:∀{xs:List V} {ds:List D},Rps K mg H xs ds->xs.length=ds.length
 | _,_,.nil=>rfl
 | _,_,.cons _ r=>Bw (·+1) (Rps.length r)
def Rps.get:∀{xs:List V} {ds:List D} {i:Nat} {d:D},Rps K mg H xs ds->ds[i]?=some d->∃x,xs[i]?=some x/\Rp K mg H x d
 | _,_,_,_,.nil,e=>by simp at e
 | _,_,0,_,.cons h _,e=>by simp at e;subst e;exact ⟨_,rfl,h⟩
 | _,_,i+1,_,.cons _ r,e=>by
  obtain ⟨x,b,a⟩:=Rps.get r (by simpa using e);exact ⟨x,by simpa using b,a⟩
def Rps.app{es:List D}(q:Rps K mg H ys es):∀{xs:List V} {ds:List D},Rps K mg H xs ds->Rps K mg H (xs++ys) (ds++es)
 | _,_,.nil=>q
 | _,_,.cons h r=>.cons h (Rps.app q r)
def Rps.drop:∀{xs:List V} {ds:List D} (n:Nat),Rps K mg H xs ds->Rps K mg H (xs.drop n) (ds.drop n)
 | _,_,0,r=>r
 | _,_,_+1,.nil=>.nil
 | _,_,n+1,.cons _ r=>Rps.drop n r
def Rps.take:∀{xs:List V} {ds:List D} (n:Nat),Rps K mg H xs ds->Rps K mg H (xs.take n) (ds.take n)
 | _,_,0,_=>.nil
 | _,_,_+1,.nil=>.nil
 | _,_,n+1,.cons h r=>.cons h (Rps.take n r)
def Rps.one{xs:List V}{d:D}(h:Rps K mg H xs [d]):∃x,xs=[x]/\Rp K mg H x d:=by
 cases h with | cons h r=>cases r;exact ⟨_,rfl,h⟩
def Rps.two{xs:List V}{d e:D}(h:Rps K mg H xs [d,e]):∃x y,xs=[x,y]/\Rp K mg H x d/\Rp K mg H y e:=by
 cases h with | cons h r=>obtain ⟨_,rfl,g⟩:=Rps.one r;exact ⟨_,_,rfl,h,g⟩
end
structure Gr(F H F' H':Hp):Prop where
 f:Same F F'
 s:Same F' H'
 o:∀a o,F a=none->H a=some o->F' a=none/\H' a=some o
 z:∀a o u,F' a=some (.frz o u)->F a=some (.frz o u)
def Gr.refl{F:Hp}(s:Same F H):Gr F H F H:=⟨Same.refl _,s,λ_ _ b a=>⟨b,a⟩,λ_ _ _ h=>h⟩
def Gr.trans{F:Hp}(g:Gr F H F1 H1)(h:Gr F1 H1 F2 H2):Gr F H F2 H2:=⟨g.f.trans h.f,h.s,λa o c b=>let ⟨q1,q2⟩:=g.o a o c b;h.o a o q1 q2,λa o u e=>g.z a o u (h.z a o u e)⟩
def Zn7{F:Hp}(s:Same F H):Same (upd F p o) (upd H p o):=λb u e=>by
 by_cases hb:b=p
 .subst hb;rw [An] at e ⊢;exact e
 .rw [Ag hb] at e ⊢;exact s b u e
def Iw{F:Hp}(nz:∀o' u,o≠.frz o' u)(e:upd F p o a=some (.frz o' u)):F a=some (.frz o' u):=by
 by_cases ne:a=p
 .subst ne;rw [An] at e;exact aB (Br e) (nz o' u)
 .rw [Ag ne] at e;exact e
def Gr.new{F:Hp}(s:Same F H)(h:H p=none)(o)(nz:∀o' u,o≠.frz o' u:=by intro _ _ z;cases z):Gr F H (upd F p o) (upd H p o) :=
 ⟨DP (s.free h) o,Zn7 s,λa u d c=>by
  have b:=Ay c h;rw [Ag b,Ag b];exact ⟨d,c⟩,λa o' u e=>by
  by_cases b:a=p
  .subst b;rw [An] at e;exact aB (Br e) (nz o' u)
  .rw [Ag b] at e;exact e⟩
structure Rep(K:W.Frag)(mg:Str->Option Value)(F0 H0 F H:Hp)(Y:St)(Z:Ev):Prop where
 g:Gr F0 H0 F H
 len:Y.length=Z.length
 im:∀(i:Nat) (d:D),Z[i]?=some (.im d)->∃x,Y[i]?=some (some x)/\Rp K mg F x d
 ow:∀(i:Nat) (ds:List D),Z[i]?=some (.ow ds)->∃a xs,Y[i]?=some (some (.ref a))/\H0 a=none/\F a=none/\H a=some (.lst xs)/\Rps K mg F xs ds
 ne:∀(i j:Nat) (ds es:List D) (a:Addr),Z[i]?=some (.ow ds)->Z[j]?=some (.ow es)->Y[i]?=some (some (.ref a))->Y[j]?=some (some (.ref a))->i=j
section
variable {F:Hp}
def Rep.gr(r:Rep K mg F0 H0 F H Y Z)(g:Gr F H F' H'):Rep K mg F0 H0 F' H' Y Z:=by
 refine ⟨r.g.trans g,r.len,λi d e=>?_,λi j e=>?_,r.ne⟩
 .obtain ⟨x,c,b⟩:=r.im i d e;exact ⟨x,c,b.same g.f⟩
 .obtain ⟨a,h,c,b,m,k,p⟩:=r.ow i j e;obtain ⟨n,l⟩:=g.o a _ m k;exact ⟨a,h,c,b,n,l,p.same g.f⟩
def Av{l:List α}{x:α}(h:(l.set i x)[j]?=some y):(i=j/\y=x/\i<l.length)\/(i≠j/\l[j]?=some y):=by
 rw [List.getElem?_set] at h;by_cases e:i=j
 .rw [iP e] at h;split at h
  .exact .inl ⟨e,(Br h).symm,by assumption⟩
  .cases h
 .rw [iN e] at h;exact .inr ⟨e,h⟩
def J6{l:List α}{x:α}(h:i<l.length):(l.set i x)[i]?=some x:=by
 rw [List.getElem?_set,iP rfl,iP h]
def Cq{l:List α}{x:α}(h:i≠j):(l.set i x)[j]?=l[j]?:=by
 rw [List.getElem?_set,iN h]
def Rep.set{x:V}(r:Rep K mg F0 H0 F H Y Z)(i:Nat)(h:Rp K mg F x d):Rep K mg F0 H0 F H (Y.set i (some x)) (Z.set i (.im d)):=by
 refine ⟨r.g,by rw [De,De];exact r.len,λj e q=>?_,λj c q=>?_,λj k c o a f b m n=>?_⟩
 .rcases Av q with ⟨rfl,z,l⟩ | ⟨hij,q⟩
  .cases z;exact ⟨x,J6 (by rw [r.len];exact l),h⟩
  .rw [Cq hij];exact r.im j e q
 .rcases Av q with ⟨_,z,_⟩ | ⟨hij,q⟩
  .cases z
  .rw [Cq hij];exact r.ow j c q
 .rcases Av f with ⟨_,z,_⟩ | ⟨h1,f⟩
  .cases z
  .rcases Av b with ⟨_,z,_⟩ | ⟨h2,b⟩
   .cases z
   .rw [Cq h1] at m;rw [Cq h2] at n;exact r.ne j k c o a f b m n
def Rep.own(r:Rep K mg F0 H0 F H Y Z)(i:Nat)(hn:H a=none)(h:Rps K mg F xs ds):Rep K mg F0 H0 F (upd H a (.lst xs)) (Y.set i (some (.ref a))) (Z.set i (.ow ds)):=by
 have y:=r.g.s.free hn;have w:H0 a=none:=by
  cases q:H0 a with
  | none=>rfl
  | some o=>
   cases c:F0 a with
   | none=>rw [(r.g.o a o c q).2] at hn;cases hn
   | some u=>rw [r.g.f a u c] at y;cases y
 have x:∀{j:Nat} {m:List D} {b:Addr},Z[j]?=some (.ow m)->Y[j]?=some (some (.ref b))->b≠a:=λ{j m b} t c=>by
  obtain ⟨M,L,d,_,_,A,_⟩:=r.ow j m t;rw [c] at d;cases d;exact Ay A hn
 refine ⟨⟨r.g.f,λb o e=>?_,λb o J B=>?_,r.g.z⟩,by rw [De,De];exact r.len,λj e q=>?_,λj m q=>?_,λj k m C b t c n p=>?_⟩
 .rw [Ag (Ay e y)];exact r.g.s b o e
 .rw [Ag (Ay B w)];exact r.g.o b o J B
 .rcases Av q with ⟨_,z,_⟩ | ⟨hij,q⟩
  .cases z
  .rw [Cq hij];exact r.im j e q
 .rcases Av q with ⟨rfl,z,l⟩ | ⟨hij,q⟩
  .cases z;exact ⟨a,xs,J6 (by rw [r.len];exact l),w,y,An,h⟩
  .rw [Cq hij];obtain ⟨b,G,d,v,E,A,I⟩:=r.ow j m q;exact ⟨b,G,d,v,E,by rw [Ag (Ay A hn)];exact A,I⟩
 .rcases Av t with ⟨rfl,_,l1⟩ | ⟨d,t⟩
  .rcases Av c with ⟨rfl,_,_⟩ | ⟨v,c⟩
   .rfl
   .rw [J6 (by rw [r.len];exact l1)] at n;rw [Cq v] at p;cases n;exact aB rfl (x c p)
  .rcases Av c with ⟨rfl,_,l2⟩ | ⟨v,c⟩
   .rw [J6 (by rw [r.len];exact l2)] at p;rw [Cq d] at n;cases p;exact aB rfl (x t n)
   .rw [Cq d] at n;rw [Cq v] at p;exact r.ne j k m C b t c n p
def Rep.app{x:V}(r:Rep K mg F0 H0 F H Y Z)(e:Z[i]?=some (.ow ds))(e2:Y[i]?=some (some (.ref a)))(e3:H a=some (.lst xs))(e4:H0 a=none)(e5:F a=none)(hr:Rps K mg F xs ds)(h:Rp K mg F x d) :
  Rep K mg F0 H0 F (upd H a (.lst (xs++[x]))) Y (Z.set i (.ow (ds++[d]))):=by
 refine ⟨⟨r.g.f,λb o q=>?_,λb o v m=>?_,r.g.z⟩,by rw [De];exact r.len,λj u q=>?_,λj p q=>?_,λj k p J b v m D I=>?_⟩
 .rw [Ag (Ay q e5)];exact r.g.s b o q
 .rw [Ag (Ay m e4)];exact r.g.o b o v m
 .rcases Av q with ⟨_,z,_⟩ | ⟨_,q⟩
  .cases z
  .exact r.im j u q
 .rcases Av q with ⟨rfl,z,l⟩ | ⟨hij,q⟩
  .cases z;exact ⟨a,_,e2,e4,e5,An,Rps.app (.cons h .nil) hr⟩
  .obtain ⟨b,B,w,y,A,E,C⟩:=r.ow j p q;have G:b≠a:=by
    rintro rfl;exact hij (r.ne i j ds p b e q e2 w)
   exact ⟨b,B,w,y,A,by rw [Ag G];exact E,C⟩
 .have t:∃c,Z[j]?=some (.ow c):=by
   rcases Av v with ⟨rfl,_,_⟩ | ⟨_,q⟩
   .exact ⟨_,e⟩
   .exact ⟨_,q⟩
  have n:∃c,Z[k]?=some (.ow c):=by
   rcases Av m with ⟨rfl,_,_⟩ | ⟨_,q⟩
   .exact ⟨_,e⟩
   .exact ⟨_,q⟩
  obtain ⟨_,t⟩:=t;obtain ⟨_,n⟩:=n;exact r.ne j k _ _ b t n D I
def Rep.frz{i:Nat}{ds:List D}(r:Rep K mg F0 H0 F H Y Z)(e:Z[i]?=some (.ow ds)):∃F',Same F F'/\Rep K mg F0 H0 F' H Y (Z.set i (.im (.lst ds))):=by
 obtain ⟨a,p,t,y,v,A,G⟩:=r.ow i ds e;have d:Same F (upd F a (.lst p)):=DP v _;refine ⟨upd F a (.lst p),d,⟨r.g.f.trans d,λb o q=>?_,λb o h c=>?_,λb o u q=>r.g.z b o u (Iw (λ_ _ z=>by cases z) q)⟩,by rw [De];exact r.len,λj u q=>?_,λj l q=>?_,λj k l w b h c I M=>?_⟩
 .by_cases hb:b=a
  .subst hb;rw [An] at q;cases q;exact A
  .rw [Ag hb] at q;exact r.g.s b o q
 .rw [Ag (Ay c y)];exact r.g.o b o h c
 .rcases Av q with ⟨rfl,z,_⟩ | ⟨_,q⟩
  .cases z;exact ⟨.ref a,t,.lst (SqL.of An) (G.same d)⟩
  .obtain ⟨x,m,n⟩:=r.im j u q;exact ⟨x,m,n.same d⟩
 .rcases Av q with ⟨_,z,_⟩ | ⟨hij,q⟩
  .cases z
  .obtain ⟨b,C,m,n,B,J,E⟩:=r.ow j l q;have L:b≠a:=by
    rintro rfl;exact hij (r.ne i j ds l b e q t m)
   exact ⟨b,C,m,n,by rw [Ag L];exact B,J,E.same d⟩
 .rcases Av h with ⟨_,z,_⟩ | ⟨_,h⟩
  .cases z
  .rcases Av c with ⟨_,z,_⟩ | ⟨_,c⟩
   .cases z
   .exact r.ne j k l w b h c I M
end
def Ans(mg:Str->Option Value)(E:XK)(R:Hp->β->α->Prop)(F H:Hp)(r:Res α)(w:(β->Hp->Prop)->Prop):Prop :=
 match r with
 | .ok a=>∀Q,(∀e d b,Gr F H e d->R e b a->Q b d)->w Q
 | .ex c=>∀Q,(∀e d C,Gr F H e d->mg (clsOf c)=some (.ref C)->E (.ref C) (pay c) d)->w Q
 | .bad=>True
section
variable{α β γ δ:Type} {R:Hp->β->α->Prop} {R':Hp->δ->γ->Prop} {F:Hp}
def Ans.ret{w:(β->Hp->Prop)->Prop}(s:Same F H)(r:R F b a)(h:∀Q,Q b H->w Q):Ans mg E R F H (.ok a) w:=λQ q=>h Q (q F H b (.refl s) r)
def Ans.bindE{r:Res α}{w:(β->Hp->Prop)->Prop}{k:α->Res γ}{w':β->Hp->(δ->Hp->Prop)->Prop}(h1:Ans mg E R F H r w)(h2:∀a,r=.ok a->∀F1 H1 b,Gr F H F1 H1->R F1 b a->Ans mg E R' F1 H1 (k a) (w' b H1)) :
  Ans mg E R' F H (r.bind k) (λQ=>w λb H1=>w' b H1 Q):=by
 cases r with
 | ok a=>
  show Ans mg E R' F H (k a) _;have f:=h2 a rfl;generalize k a=r2 at f;cases r2 with
  | ok d=>exact λQ q=>h1 _ λF1 H1 b g l=>f F1 H1 b g l Q λj i e h m=>q j i e (g.trans h) m
  | ex c=>exact λQ q=>h1 _ λF1 H1 b g l=>f F1 H1 b g l Q λj i C h n=>q j i C (g.trans h) n
  | bad=>trivial
 | ex c=>exact λQ q=>h1 _ q
 | bad=>trivial
def Ans.bind{r:Res α}{w:(β->Hp->Prop)->Prop}{k:α->Res γ}{w':β->Hp->(δ->Hp->Prop)->Prop}(h1:Ans mg E R F H r w)(h2:∀F1 H1 b a,Gr F H F1 H1->R F1 b a->Ans mg E R' F1 H1 (k a) (w' b H1)) :
  Ans mg E R' F H (r.bind k) (λQ=>w λb H1=>w' b H1 Q):=h1.bindE λa _ F1 H1 b g q=>h2 F1 H1 b a g q
end
def AnsS(K:W.Frag)(mg:Str->Option Value)(E:XK)(F0 H0 F:Hp)(r:Res Fl)(w:Ends->Prop):Prop :=
 match r with
 | .ok (.nx Z)=>∀D,(∀b a e,Same F b->Rep K mg F0 H0 b a e Z->D.nx e a)->w D
 | .ok (.bk Z)=>∀D,(∀b a e,Same F b->Rep K mg F0 H0 b a e Z->D.bk e a)->w D
 | .ok (.ct Z)=>∀D,(∀b a e,Same F b->Rep K mg F0 H0 b a e Z->D.ct e a)->w D
 | .ok (.rt d)=>∀D,(∀b a x,Gr F0 H0 b a->Rp K mg b x d->D.rt x a)->w D
 | .ex c=>∀D,(∀b a C,Gr F0 H0 b a->mg (clsOf c)=some (.ref C)->E (.ref C) (pay c) a)->w D
 | .bad=>True
abbrev RB:Hp->Bool->Bool->Prop:=λ_ b b'=>b=b'
abbrev RO:Hp->Option Int->Option Int->Prop:=λ_ b b'=>b=b'
def SE(K:W.Frag)(mg:Str->Option Value)(E:XK)(t:TE)(m:ME):Prop:=∀a b F H Y Z,Rep K mg a b F H Y Z->Ans mg E (Rp K mg) F H (m Z) (t Y H)
def STt(K:W.Frag)(mg:Str->Option Value)(E:XK)(t:TT)(m:MB):Prop:=∀a b F H Y Z,Rep K mg a b F H Y Z->Ans mg E RB F H (m Z) (t Y H)
def SA(K:W.Frag)(mg:Str->Option Value)(E:XK)(t:TA)(m:MA):Prop:=∀a b F H Y Z,Rep K mg a b F H Y Z->Ans mg E (Rps K mg) F H (m Z) (t Y H)
def SO(K:W.Frag)(mg:Str->Option Value)(E:XK)(t:TO)(m:Ev->Res (Option Int)):Prop:=∀a b F H Y Z,Rep K mg a b F H Y Z->Ans mg E RO F H (m Z) (t Y H)
def SS(K:W.Frag)(mg:Str->Option Value)(E:XK)(t:TS)(m:MS):Prop:=∀a b F H Y Z,Rep K mg a b F H Y Z->AnsS K mg E a b F (m Z) (λD=>t D Y H)
def AnsG(K:W.Frag)(mg:Str->Option Value)(F0 H0 F:Hp)(n:Nat)(Y:St)(r:Res Ev)(w:(St->Hp->Prop)->Prop):Prop :=
 match r with
 | .ok Z'=>∀Q,(∀b c a,Same F b->Rep K mg F0 H0 b c a Z'->a.drop n=Y.drop n->Q a c)->w Q
 | _=>True
def SG(K:W.Frag)(mg:Str->Option Value)(n:Nat)(t:TG)(g:MG):Prop:=∀a b F H Y Z x d,Rep K mg a b F H Y Z->Rp K mg F x d->AnsG K mg a b F n Y (g d Z) (t x Y H)
def SGs(K:W.Frag)(mg:Str->Option Value)(n:Nat)(t:TGs)(g:MGs):Prop:=∀c d F H Y Z a b,Rep K mg c d F H Y Z->Rps K mg F a b->AnsG K mg c d F n Y (g b Z) (t a Y H)
def ItOk(K:W.Frag)(mg:Str->Option Value)(F:Hp)(J:It)(ds:List D):Prop:=∀e a,Same F e->Same e a->∀i,
 (∀d,ds[i]?=some d->J.go i a/\∀x b,J.yld i a x b->∃c,Gr e a c b/\Rp K mg c x d)/\(ds.length<=i->J.stop i a)
def SI(K:W.Frag)(mg:Str->Option Value)(E:XK)(t:TI)(m:MI):Prop:=∀a b F H Y Z,Rep K mg a b F H Y Z->Ans mg E (ItOk K mg) F H (m Z) (t Y H)
def OpD(K:W.Frag)(mg:Str->Option Value)(r:R2)(f:D->D->Res D):Prop:=∀E F H x y a b,Same F H->Rp K mg F x a->Rp K mg F y b->Ans mg E (Rp K mg) F H (f a b) (r x y H)
def UnD(K:W.Frag)(mg:Str->Option Value)(r:V->Hp->VK->Prop)(f:D->Res D):Prop:=∀E F H x a,Same F H->Rp K mg F x a->Ans mg E (Rp K mg) F H (f a) (r x H)
def CallD(K:W.Frag)(mg:Str->Option Value)(r:List V->Hp->VK->Prop)(f:List D->Res D):Prop:=∀E F H a b,Same F H->Rps K mg F a b->Ans mg E (Rp K mg) F H (f b) (r a H)
section
variable {ta tb tc:TE} {ma mb mc:ME} {sa sb:TT} {na nb:MB}
def Rep.ss{F:Hp}(r:Rep K mg F0 H0 F H Y Z):Same F H:=r.g.s
def se_v(i):SE K mg E (tVar i) (v i):=by
 intro c e F H Y Z r;unfold v getC;split
 .next d h=>
  obtain ⟨x,b,a⟩:=r.im i d h;exact .ret r.ss a λQ q=>⟨x,b,q⟩
 .trivial
def se_c{x:V}(h:∀F,Rp K mg F x d):SE K mg E (tC x) (c d):=λ_ _ F _ _ _ r=>.ret r.ss (h F) λ_ q=>q
def N7(hf:OpD K mg r f)(ha:SE K mg E ta ma)(hb:SE K mg E tb mb):SE K mg E (tOp r ta tb) (o2 f ma mb):=by
 intro c b F H Y Z d;refine (ha c b F H Y Z d).bind λg h x k i j=>?_;refine (hb c b g h Y Z (d.gr i)).bind λm l y n a e=>?_;exact hf E m l x y k n a.s (j.same a.f) e
def Yv(hf:UnD K mg r f)(ha:SE K mg E ta ma):SE K mg E (tUn r ta) (o1 f ma):=by
 intro g i F H Y Z a;exact (ha g i F H Y Z a).bind λd e x c h b=>hf E d e x c h.s b
def U8:SA K mg E tNil Ab:=λ_ _ _ _ _ _ r=>.ret r.ss .nil λ_ q=>q
def Zsk(ha:SE K mg E ta ma)(hr:SA K mg E t m):SA K mg E (Bg ta t) (Aa ma m):=by
 intro c b F H Y Z d;refine (ha c b F H Y Z d).bind λe g x n h i=>?_;refine (hr c b e g Y Z (d.gr h)).bind λp o k l a j=>?_;exact .ret a.s (.cons (i.same a.f) j) λ_ q=>q
def Z9(hf:CallD K mg r f)(ha:SA K mg E t m):SE K mg E (tCB r t) (on f m):=by
 intro g i F H Y Z a;exact (ha g i F H Y Z a).bind λd e x c h b=>hf E d e x c h.s b
def Ip{F:Hp}{w:VK->Prop}(s:Same F H)(hr:∀p,H p=none->R (upd F p o) (.ref p) a)(h:∀Q,(∀p,H p=none->Q (.ref p) (upd H p o))->w Q)(nz:∀o' u,o≠.frz o' u:=by intro _ _ z;cases z):Ans mg E R F H (.ok a) w :=
 λQ q=>h Q λp b=>q (upd F p o) (upd H p o) (.ref p) (.new s b o nz) (hr p b)
def SAn(n:Nat)(m:MA):Prop:=∀Z a,m Z=.ok a->a.length=n
def WP:SAn 0 Ab:=λZ a h=>by cases h;rfl
def oW(h:SAn n m):SAn (n+1) (Aa ma m):=λZ d e=>by
 unfold Aa at e;cases ea:ma Z with
 | ok x=>
  rw [ea] at e;cases em:m Z with
  | ok xs=>
   have a:=e;rw [em] at a;have b:=a;cases b;exact Bw (·+1) (h Z xs em)
  | ex c=>
   have a:=e;rw [em] at a;cases a
  | bad=>
   have a:=e;rw [em] at a;cases a
 | ex c=>rw [ea] at e;cases e
 | bad=>rw [ea] at e;cases e
def gw(ha:SA K mg E t m)(hl:SAn n m)(hn:n<=sizeLine):SE K mg E (tTup t) (mtp m):=by
 intro f d F H Y Z i;have h:=ha f d F H Y Z i;unfold mtp;cases e:m Z with
 | ok ds=>
  rw [e] at h;exact λQ q=>h _ λl j k g b=>⟨by rw [b.length,hl Z ds e];exact hn,λp a=>q _ _ _ (g.trans (.new g.s a _)) (.tup (SqT.of An) (b.same (DP (g.s.free a) _)))⟩
 | ex c=>
  rw [e] at h;exact λQ q=>h _ q
 | bad=>trivial
def mz(ha:SA K mg E t m)(hl:SAn n m)(hn:n<=sizeLine):SE K mg E (tLst t) (mls m):=by
 intro f d F H Y Z i;have h:=ha f d F H Y Z i;unfold mls;cases e:m Z with
 | ok ds=>
  rw [e] at h;exact λQ q=>h _ λl j k g b=>⟨by rw [b.length,hl Z ds e];exact hn,λp a=>q _ _ _ (g.trans (.new g.s a _)) (.lst (SqL.of An) (b.same (DP (g.s.free a) _)))⟩
 | ex c=>
  rw [e] at h;exact λQ q=>h _ q
 | bad=>trivial
def st_b(ha:SE K mg E ta ma):STt K mg E (L2.tB ta) (trb ma):=by
 intro e g F H Y Z a;refine (ha e g F H Y Z a).bind λh i x d f c=>?_;cases d with
 | bl b=>cases c;exact .ret f.s rfl λQ q=>⟨b,rfl,q⟩
 | _=>trivial
def Tv(ha:SE K mg E ta ma):STt K mg E (FW ta) (trb ma):=st_b ha
def lR(ha:STt K mg E sa na)(hb:STt K mg E sb nb):STt K mg E (tAnd sa sb) (bAnd na nb):=by
 intro b d F H Y Z a;refine (ha b d F H Y Z a).bind λf g x h c e=>?_;cases (e);cases x with
 | true=>
  have z:=hb b d f g Y Z (a.gr c);simp only [Dj];exact z
 | false=>
  exact Ans.ret c.s rfl λQ q=>q
def ZwC(ha:STt K mg E sa na)(hb:STt K mg E sb nb):STt K mg E (tOr sa sb) (bOr na nb):=by
 intro b d F H Y Z a;refine (ha b d F H Y Z a).bind λf g x h c e=>?_;cases (e);cases x with
 | true=>
  exact Ans.ret c.s rfl λQ q=>q
 | false=>
  have z:=hb b d f g Y Z (a.gr c);simp only [DR,CV];exact z
def o9(ha:STt K mg E sa na):STt K mg E (tNot sa) (bNot na):=by
 intro c e F H Y Z a;refine (ha c e F H Y Z a).bind λg h x f d b=>?_;cases (b);exact Ans.ret d.s rfl λQ q=>q
def wO(ha:SE K mg E ta ma)(hb:SE K mg E tb mb):SE K mg E (Ur ta tb) (eAnd ma mb):=by
 intro d f F H Y Z b;have z:=(st_b ha d f F H Y Z b).bind (k:=λx=>if x=true then mb Z else .ok (D.bl false)) (w':=λc a Q=>if c=true then tb Y a Q else Q (V.bl false) a) λh a x i e g=>by
  cases (g);cases x with
  | true=>
   have z:=hb d f h a Y Z (b.gr e);simp only [Dj];exact z
  | false=>
   exact Ans.ret e.s (.bl false) λQ q=>q
 exact z
def eG(ha:SE K mg E ta ma):SE K mg E (Vn ta) (eNot ma):=by
 intro c e F H Y Z a;exact (st_b ha c e F H Y Z a).bind λg h x f d b=>by
  cases (b);exact Ans.ret d.s (.bl _) λQ q=>q
def nZ(hc:STt K mg E sa na)(ha:SE K mg E ta ma)(hb:SE K mg E tb mb):SE K mg E (tIf sa ta tb) (ife na ma mb):=by
 intro b c F H Y Z a;refine (hc b c F H Y Z a).bind λd e x h f g=>?_;cases (g);cases x with
 | true=>
  have z:=ha b c d e Y Z (a.gr f);simp only [Dj];exact z
 | false=>
  have z:=hb b c d e Y Z (a.gr f);simp only [DR,CV];exact z
end
section
def W8(h:∀E F H a b,Same F H->Ans mg E (Rp K mg) F H (f a b) (r (.int a) (.int b) H)):OpD K mg r (ii f):=by
 intro E F H x y e g s d c;unfold ii;split
 .cases d;cases c;exact h E F H _ _ s
 .trivial
def Jv(h:∀a b,(∃d,f a b=.ok d/\C a b/\∀F,Rp K mg F (g a b) d)\/f a b=.bad):OpD K mg (rI C g) (ii f):=by
 refine W8 λE F H a b s=>?_;rcases h a b with ⟨d,e,hc,hr⟩ | e
 .rw [e];exact .ret s (hr F) λQ q=>⟨a,b,rfl,rfl,hc,q⟩
 .rw [e];trivial
def Nr(h:∀a b,(∃d,f a b=.ok d/\∀F,Rp K mg F (g a b) d)\/f a b=.bad):OpD K mg (rI0 g) (ii f):=by
 refine W8 λE F H a b s=>?_;rcases h a b with ⟨d,e,hr⟩ | e
 .rw [e];exact .ret s (hr F) λQ q=>⟨a,b,rfl,rfl,q⟩
 .rw [e];trivial
def ZrD:OpD K mg (rI0 λi j=>.int (i - j)) dSub:=Nr λ_ _=>.inl ⟨_,rfl,λ_=>.int _⟩
def dK:OpD K mg (rI0 λi j=>.bl (decide (i<j))) dLt:=Nr λ_ _=>.inl ⟨_,rfl,λ_=>.bl _⟩
def XS:OpD K mg (rI0 λi j=>.bl (decide (i<=j))) dLe:=Nr λ_ _=>.inl ⟨_,rfl,λ_=>.bl _⟩
def jL:OpD K mg (rI0 λi j=>.bl (decide (j<i))) dGt:=Nr λ_ _=>.inl ⟨_,rfl,λ_=>.bl _⟩
def V7:OpD K mg (rI0 λi j=>.bl (decide (j<=i))) dGe:=Nr λ_ _=>.inl ⟨_,rfl,λ_=>.bl _⟩
def lG:OpD K mg (rI (λ_ j=>j≠0) λi j=>.int (i.fmod j)) Aj:=Jv λa b=>by
 unfold iMod;by_cases h1:0<b
 .rw [iP h1];exact .inl ⟨_,rfl,by omega,λ_=>by rw [Int.fmod_eq_emod_of_nonneg a (by omega)];exact .int _⟩
 .rw [iN h1];by_cases h2:b=0
  .rw [iP h2];exact .inr rfl
  .rw [iN h2];exact .inl ⟨_,rfl,h2,λ_=>.int _⟩
def ZsM:OpD K mg (rI VJ λi j=>.int (i.fdiv j)) Aq:=Jv λa b=>by
 unfold iDiv;by_cases h0:b.natAbs.log2<9000
 .rw [iP h0];by_cases h1:0<b
  .rw [iP h1];exact .inl ⟨_,rfl,⟨by omega,h0⟩,λ_=>by rw [QJ a (by omega)];exact .int _⟩
  .rw [iN h1];by_cases h2:b=0
   .rw [iP h2];exact .inr rfl
   .rw [iN h2];exact .inl ⟨_,rfl,⟨h2,h0⟩,λ_=>.int _⟩
 .rw [iN h0];exact .inr rfl
def fU:OpD K mg (rI CPow λi j=>.int (i^j.toNat)) dPow:=Jv λa b=>by
 unfold iPow;by_cases h:0<=b/\b<=1000000/\a.natAbs<2^64
 .rw [iP h];exact .inl ⟨_,rfl,h,λ_=>.int _⟩
 .rw [iN h];exact .inr rfl
def pB:OpD K mg (rI CPow λi j=>.int (i*2^j.toNat)) dShl:=Jv λa b=>by
 unfold iShl;by_cases h:0<=b/\b<=1000000/\a.natAbs<2^64
 .rw [iP h];exact .inl ⟨_,rfl,h,λ_=>.int _⟩
 .rw [iN h];exact .inr rfl
def fM:OpD K mg (rI (λ_ j=>0<=j) λi j=>.int (i/2^j.toNat)) dShr:=Jv λa b=>by
 unfold iShr;by_cases h:0<=b
 .rw [iP h];exact .inl ⟨_,rfl,h,λ_=>.int _⟩
 .rw [iN h];exact .inr rfl
def vh(h:∀i H Q,Q (.int (-i)) H->r (.int i) H Q):UnD K mg r dNeg:=by
 intro E F H x b s a;unfold dNeg;split
 .cases a;exact .ret s (.int _) λQ q=>h _ _ _ q
 .trivial
def ZX(K:W.Frag):R2:=λx y H Q=>∃l b a c,x=.ref l/\y=.ref b/\SqL K H l a/\SqL K H b c/\a.length+c.length<=sizeLine/\∀p,H p=none->Q (.ref p) (upd H p (.lst (a++c)))
def dJ(K:W.Frag):R2:=λx y H Q=>∃a b c d,x=.ref a/\y=.ref b/\SqT K H a c/\SqT K H b d/\c.length+d.length<=sizeLine /\
 (c=[]->Q (.ref b) H)/\(c≠[]->d=[]->Q (.ref a) H)/\(c≠[]->d≠[]->∀p,H p=none->Q (.ref p) (upd H p (.tup (c++d))))
def rC:R2:=λx y H Q=>∃i j,x=.str i/\y=.str j/\i.length+j.length<=sizeLine/\Q (.str (i++j)) H
def R8(K:W.Frag):R2:=λx y H Q=>rI0 (λi j=>.int (i+j)) x y H Q\/ZX K x y H Q\/dJ K x y H Q\/rC x y H Q
def JW(h:n<=LIM):n<=sizeLine:=CJ h (by decide)
def o7:OpD K mg (R8 K) Ah:=by
 intro E F H x y k l s f c;unfold Ah;split
 .cases f;cases c;exact .ret s (.int _) λQ q=>.inl ⟨_,_,rfl,rfl,q⟩
 .next i g=>
  by_cases h:i.length+g.length<=LIM
  .rw [iP h];cases f with
   | lst ha ra=>
    cases c with
    | lst hb rb=>
     refine Ip s (λp d=>.lst (SqL.of An) ((Rps.app rb ra).same (DP (s.free d) _))) λQ q=>.inr (.inl ⟨_,_,_,_,rfl,rfl,s.seq ha,s.seq hb,?_,q⟩);rw [ra.length,rb.length];exact JW h
  .rw [iN h];trivial
 .next i g=>
  by_cases h:i.length+g.length<=LIM
  .rw [iP h];cases f with
   | tup ha ra=>
    cases c with
    | tup hb rb=>
     rename_i a xs b ys;have j:xs.length+ys.length<=sizeLine:=by rw [ra.length,rb.length];exact JW h
     intro Q q;refine .inr (.inr (.inl ⟨a,b,xs,ys,rfl,rfl,Ec s ha,Ec s hb,j,λe=>?_,λ_ e=>?_,λ_ _ p d=>?_⟩))
     .subst e;cases ra;exact q F H _ (.refl s) (.tup hb rb)
     .subst e;cases rb;rw [Bp] at q;exact q F H _ (.refl s) (.tup ha ra)
     .exact q _ _ _ (.new s d _) (.tup (SqT.of An) ((Rps.app rb ra).same (DP (s.free d) _)))
  .rw [iN h];trivial
 .next a b=>
  by_cases h:a.length+b.length<=LIM
  .rw [iP h];cases f;cases c;exact .ret s (.str _) λQ q=>.inr (.inr (.inr ⟨_,_,rfl,rfl,JW h,q⟩))
  .rw [iN h];trivial
 .trivial
def zZ(ha:SE K mg E ta ma):SE K mg E (tOp (λx y H Q=>y=.non/\Q (.bl (decide (x=.non))) H) ta (tC .non)) (o1 dIsN ma):=by
 intro d g F H Y Z a;refine (ha d g F H Y Z a).bind λh i x c f b=>?_;have e:decide (x=V.non)=Gk c:=by cases b<;>rfl
 exact .ret f.s (.bl _) λQ q=>⟨rfl,by rw [e];exact q⟩
def jF(ha:SE K mg E ta ma):SE K mg E (tOp (λx y H Q=>y=.non/\Q (.bl (!decide (x=.non))) H) ta (tC .non)) (o1 Ey ma):=by
 intro d g F H Y Z a;refine (ha d g F H Y Z a).bind λh i x c f b=>?_;have e:decide (x=V.non)=Gk c:=by cases b<;>rfl
 exact .ret f.s (.bl _) λQ q=>⟨rfl,by rw [e];exact q⟩
def Xp{F:Hp}{i:Int}(r:Rps K mg F xs ds)(h:at_ ds i=some d):∃x,atI xs i=some x/\Rp K mg F x d:=by
 have b:=r.length;unfold at_ at h;unfold atI ixN;by_cases h0:0<=i
 .rw [iP h0] at h;obtain ⟨x,e,a⟩:=r.get h;have c:=(Cd.mp e).1;exact ⟨x,by rw [iP h0,iP (by omega)];exact e,a⟩
 .rw [iN h0] at h;by_cases h1:-(ds.length:Int)<=i
  .rw [iP h1] at h;obtain ⟨x,e,a⟩:=r.get h;exact ⟨x,by rw [iN h0,iP (by omega),b];exact e,a⟩
  .rw [iN h1] at h;cases h
def rIxD(K:W.Frag):R2:=λx y H Q=>rIxL K x y H Q\/rIxT K x y H Q
def yU:OpD K mg (rIxD K) dIx:=by
 intro E F H x y h j s g f;unfold dIx;split
 .next a i=>
  cases e:at_ a i with
  | none=>trivial
  | some d=>
   cases g with
   | lst ha ra=>
    cases f;obtain ⟨z,c,b⟩:=Xp ra e;exact Ans.ret s b λQ q=>.inl ⟨_,_,_,_,rfl,rfl,s.seq ha,c,q⟩
 .next a i=>
  cases e:at_ a i with
  | none=>trivial
  | some d=>
   cases g with
   | tup ha ra=>
    cases f;obtain ⟨z,c,b⟩:=Xp ra e;exact Ans.ret s b λQ q=>.inr ⟨_,_,_,_,rfl,rfl,Ec s ha,c,q⟩
 .trivial
def Zq(n d)(o):cutAt n d o=HT.sIx n d o:=by cases o<;>rfl
def Wc{F:Hp}(r:Rps K mg F xs ds)(lo hi):Rps K mg F (cutV xs lo hi) (cutL ds lo hi):=by
 unfold cutV cutL;simp only [Zq,r.length];exact (r.drop _).take _
def rSlU(K:W.Frag):V->Option Int->Option Int->Hp->VK->Prop:=λx d c H Q=>∃a b,x=.ref a/\SqT K H a b /\
 ((HT.sIx b.length 0 d=0/\HT.sIx b.length b.length c=b.length)->Q (.ref a) H)/\(¬(HT.sIx b.length 0 d=0/\HT.sIx b.length b.length c=b.length)->∀p,H p=none->Q (.ref p) (upd H p (.tup (cutV b d c))))
def rSlD(K:W.Frag):V->Option Int->Option Int->Hp->VK->Prop:=λx b a H Q=>rSlL K x b a H Q\/rSlU K x b a H Q
def ZvD(ha:SE K mg E ta ma)(hl:SO K mg E tl ml)(hh:SO K mg E th mh):SE K mg E (tSl (rSlD K) ta tl th) (cut ma ml mh):=by
 intro i g F H Y Z j;refine (ha i g F H Y Z j).bind λo u x G m w=>?_;refine (hl i g o u Y Z (j.gr m)).bind λz y l D k A=>?_;cases (A);refine (hh i g z y Y Z ((j.gr m).gr k)).bind λn B h C b t=>?_;cases (t);have c:=w.same (k.f.trans b.f);unfold dCut;split
 .cases c with
  | lst hx r=>
   refine Ip b.s (λp d=>.lst (SqL.of An) ((Wc r l h).same (DP (b.s.free d) _))) λQ q=>.inl ⟨_,_,rfl,b.s.seq hx,q⟩
 .cases c with
  | tup hx r=>
   rename_i ds a xs;intro Q q;refine .inr ⟨a,xs,rfl,Ec b.s hx,λe=>?_,λ_ p d=>q _ _ _ (.new b.s d _) (.tup (SqT.of An) ((Wc r l h).same (DP (b.s.free d) _)))⟩;have v:cutL ds l h=ds:=by
    unfold cutL;simp only [Zq,<-r.length,e.1,e.2];rw [Ln,Nat.sub_zero,r.length,List.take_length]
   rw [v] at q;exact q n B _ (.refl b.s) (.tup hx r)
 .trivial
def Ks:SO K mg E Ut pno:=λ_ _ _ _ _ _ r=>Ans.ret (R:=RO) r.ss rfl λ_ q=>q
def K1(ha:SE K mg E ta ma):SO K mg E (VV ta) (pso ma):=by
 intro d f F H Y Z a;refine (ha d f F H Y Z a).bind λg h x c e b=>?_;cases c with
 | int i=>cases b;exact Ans.ret e.s rfl λQ q=>⟨i,rfl,q⟩
 | _=>trivial
def V9:CallD K mg (λxs H Q=>∃p ys,xs=[.ref p]/\(SqL K H p ys\/SqT K H p ys)/\Q (.int ys.length) H) bLen:=by
 intro E F H xs b s r;unfold bLen;split
 .obtain ⟨x,rfl,a⟩:=r.one;cases a with
  | lst h q=>rw [<-q.length];exact .ret s (.int _) λQ q=>⟨_,_,rfl,.inl (s.seq h),q⟩
 .obtain ⟨x,rfl,a⟩:=r.one;cases a with
  | tup h q=>rw [<-q.length];exact .ret s (.int _) λQ q=>⟨_,_,rfl,.inr (Ec s h),q⟩
 .trivial
def t6:CallD K mg (λxs H Q=>∃i,xs=[.int i]/\Q (.int (if i<0 then -i else i)) H) bAbs:=by
 intro E F H xs b s r;unfold bAbs;split
 .obtain ⟨x,rfl,a⟩:=r.one;cases a;exact .ret s (.int _) λQ q=>⟨_,rfl,q⟩
 .trivial
def wy:CallD K mg (λxs H Q=>∃i j,xs=[.int i,.int j]/\Q (.int (if j<i then j else i)) H) bMin:=by
 intro E F H xs c s r;unfold bMin;split
 .obtain ⟨x,y,rfl,b,a⟩:=r.two;cases b;cases a;exact .ret s (.int _) λQ q=>⟨_,_,rfl,q⟩
 .trivial
def rJ:CallD K mg (λxs H Q=>(∃i,xs=[.int i]/\Q (.int i) H)\/∃k,xs=[.bl k]/\Q (.int (if k then 1 else 0)) H) bInt:=by
 intro E F H xs b s r;unfold bInt;split
 .obtain ⟨x,rfl,a⟩:=r.one;cases a;exact .ret s (.int _) λQ q=>.inl ⟨_,rfl,q⟩
 .obtain ⟨x,rfl,a⟩:=r.one;cases a;exact .ret s (.int _) λQ q=>.inr ⟨_,rfl,q⟩
 .trivial
def xO:CallD K mg (λxs H Q=>∃p ys,xs=[.ref p]/\((SqL K H p ys/\∀l,H l=none->Q (.ref l) (upd H l (.tup ys)))\/(SqT K H p ys/\Q (.ref p) H))) bTup:=by
 intro E F H xs c s r;unfold bTup;split
 .obtain ⟨x,rfl,a⟩:=r.one;cases a with
  | lst h q=>exact Ip s (λp b=>.tup (SqT.of An) (q.same (DP (s.free b) _))) λQ z=>⟨_,_,rfl,.inl ⟨s.seq h,z⟩⟩
 .obtain ⟨x,rfl,a⟩:=r.one;cases a with
  | tup h q=>exact .ret s (.tup h q) λQ z=>⟨_,_,rfl,.inr ⟨Ec s h,z⟩⟩
 .trivial
def rT:CallD K mg (λxs H Q=>∃p ys,xs=[.ref p]/\(SqL K H p ys\/SqT K H p ys)/\∀l,H l=none->Q (.ref l) (upd H l (.lst ys))) bLst:=by
 intro E F H xs c s r;unfold bLst;split
 .obtain ⟨x,rfl,a⟩:=r.one;cases a with
  | lst h q=>exact Ip s (λp b=>.lst (SqL.of An) (q.same (DP (s.free b) _))) λQ z=>⟨_,_,rfl,.inl (s.seq h),z⟩
 .obtain ⟨x,rfl,a⟩:=r.one;cases a with
  | tup h q=>exact Ip s (λp b=>.lst (SqL.of An) (q.same (DP (s.free b) _))) λQ z=>⟨_,_,rfl,.inr (Ec s h),z⟩
 .trivial
def spD(K:W.Frag)(mg:Str->Option Value)(n:Nat)(m:List D->Res D):Sp:=λf H Q E=>f.length=n/\∃F b,Same F H/\Rps K mg F f b/\m b≠.bad /\
 (∀d,m b=.ok d->∀e a x,Gr F H e a->Rp K mg e x d->Q x a)/\(∀c,m b=.ex c->∀e a C,Gr F H e a->mg (clsOf c)=some (.ref C)->E (.ref C) (pay c) a)
def Xq{F:Hp}(s:Same F H)(r:Rps K mg F vs ds)(hl:ds.length=n):Ans mg E (Rp K mg) F H (m ds) (λQ=>spD K mg n m vs H Q E):=by
 have b:=r.length.trans hl;cases e:m ds with
 | ok d=>
  intro Q q;refine ⟨b,F,ds,s,r,λz=>?_,λf a=>?_,λc a=>?_⟩
  .rw [e] at z;cases z
  .rw [e] at a;cases a;exact q
  .rw [e] at a;cases a
 | ex c=>
  intro Q q;refine ⟨b,F,ds,s,r,λz=>?_,λf a=>?_,λc a=>?_⟩
  .rw [e] at z;cases z
  .rw [e] at a;cases a
  .rw [e] at a;cases a;exact q
 | bad=>trivial
def rZ(ha:SA K mg E t ma)(hl:SAn n ma):SE K mg E (Gv (spD K mg n m) [] E t) (on m ma):=by
 intro d g F H Y Z a;refine (ha d g F H Y Z a).bindE λb e h i j f c=>?_;have z:=Xq (E:=E) (m:=m) f.s c (hl Z b e);simp only [Bp];exact z
end
section
variable {ta:TE} {ma:ME} {F:Hp}
def AnsS.mono{w:Ends->Prop}(s:Same F F1)(h:AnsS K mg E F0 H0 F1 r w):AnsS K mg E F0 H0 F r w:=by
 cases r with
 | ok f=>
  cases f with
  | nx Z=>exact λD q=>h D λb a g i e=>q b a g (s.trans i) e
  | bk Z=>exact λD q=>h D λb a g i e=>q b a g (s.trans i) e
  | ct Z=>exact λD q=>h D λb a g i e=>q b a g (s.trans i) e
  | rt d=>exact h
 | ex c=>exact h
 | bad=>trivial
def Ans.stm{α β:Type}{R:Hp->β->α->Prop}{r:Res α}{w:(β->Hp->Prop)->Prop}{k:α->Res Fl}{w':β->Hp->Ends->Prop}(h1:Ans mg E R F H r w)(g0:Gr F0 H0 F H)(h2:∀a,r=.ok a->∀F1 H1 b,Gr F H F1 H1->R F1 b a->AnsS K mg E F0 H0 F1 (k a) (w' b H1)) :
  AnsS K mg E F0 H0 F (r.bind k) (λD=>w λb H1=>w' b H1 D):=by
 cases r with
 | ok a=>
  show AnsS K mg E F0 H0 F (k a) _;have e:=λF1 H1 b (g:Gr F H F1 H1) q=>(h2 a rfl F1 H1 b g q).mono g.f;generalize k a=r2 at e;cases r2 with
  | ok f=>
   cases f with
   | nx Z=>exact λD q=>h1 _ λF1 H1 b g h=>e F1 H1 b g h D q
   | bk Z=>exact λD q=>h1 _ λF1 H1 b g h=>e F1 H1 b g h D q
   | ct Z=>exact λD q=>h1 _ λF1 H1 b g h=>e F1 H1 b g h D q
   | rt d=>exact λD q=>h1 _ λF1 H1 b g h=>e F1 H1 b g h D q
  | ex c=>exact λD q=>h1 _ λF1 H1 b g h=>e F1 H1 b g h D q
  | bad=>trivial
 | ex c=>exact λD q=>h1 _ λF1 H1 C g i=>q F1 H1 C (g0.trans g) i
 | bad=>trivial
def cX:SS K mg E Gi nop:=λ_ _ _ _ _ _ r D q=>q _ _ _ (Same.refl _) r
def wR{n:MS}(h1:SS K mg E t m)(h2:SS K mg E u n):SS K mg E (tSeq t u) (sq m n):=by
 intro k l F H Y Z o;have h:=h1 k l F H Y Z o;unfold sq;cases e:m Z with
 | ok f=>
  rw [e] at h;cases f with
  | nx Z'=>
   show AnsS K mg E k l F (n Z') _;have a:=λb j i (s:Same F b) g=>(h2 k l b j i Z' g).mono s;generalize n Z'=r2 at a;cases r2 with
   | ok f=>
    cases f with
    | nx Z=>exact λD q=>h _ λb j i s g=>a b j i s g D q
    | bk Z=>exact λD q=>h _ λb j i s g=>a b j i s g D q
    | ct Z=>exact λD q=>h _ λb j i s g=>a b j i s g D q
    | rt d=>exact λD q=>h _ λb j i s g=>a b j i s g D q
   | ex c=>exact λD q=>h _ λb j i s g=>a b j i s g D q
   | bad=>trivial
  | bk Z'=>exact λD q=>h _ q
  | ct Z'=>exact λD q=>h _ q
  | rt d=>exact λD q=>h _ q
 | ex c=>rw [e] at h;exact λD q=>h _ q
 | bad=>trivial
def uG(ha:SE K mg E ta ma):SS K mg E (CG ta) (drp ma):=by
 intro e h F H Y Z a;exact (ha e h F H Y Z a).stm a.g λd _ b c x f i=>λD q=>q b c Y (Same.refl _) (a.gr f)
def m6(ha:SE K mg E ta ma):SS K mg E (tRet ta) (ret ma):=by
 intro f i F H Y Z a;exact (ha f i F H Y Z a).stm a.g λd _ c e x h b=>λD q=>q c e x (a.g.trans h) b
def zx:SS K mg E Kg cnt:=λ_ _ _ _ _ _ r D q=>q _ _ _ (Same.refl _) r
def zA{n:MS}(hc:STt K mg E sc nc)(h1:SS K mg E t m)(h2:SS K mg E u n):SS K mg E (tIfS sc t u) (ifs nc m n):=by
 intro c d F H Y Z a;refine (hc c d F H Y Z a).stm a.g λb _ e f x h i=>?_;cases (i);cases b with
 | true=>
  have z:=h1 c d e f Y Z (a.gr h);simp only [Dj];exact z
 | false=>
  have z:=h2 c d e f Y Z (a.gr h);simp only [DR,CV];exact z
def yj{l:List α}{x:α}(h:i<n):(l.set i x).drop n=l.drop n:=by
 rw [List.drop_set,iP h]
def qm(h:i<n):SG K mg n (Bt i) (gN i):=λ_ _ _ _ _ _ _ _ r a _ q=>q _ _ _ (Same.refl _) (r.set i a) (yj h)
def sX:SGs K mg n gNil gs0:=by
 intro d e F H Y Z b c r a;unfold gs0;split
 .cases a;exact λQ q=>⟨rfl,q _ _ _ (Same.refl _) r rfl⟩
 .trivial
def tY(h1:SG K mg n t g)(h2:SGs K mg n u gs):SGs K mg n (RN t u) (gs1 g gs):=by
 intro i f F H Y Z j b r k;cases k with
 | nil=>trivial
 | cons rx k=>
  rename_i x j d b;have h:=h1 i f F H Y Z x d r rx;show AnsG K mg i f F n Y ((g d Z).bind λa=>gs b a) _;cases e:g d Z with
  | ok a=>
   rw [e] at h;show AnsG K mg i f F n Y (gs b a) _;cases e2:gs b a with
   | ok Z''=>
    refine λQ q=>⟨x,j,rfl,h _ λs w v l o y=>?_⟩;have m:=h2 i f s w v a j b o (k.same l);rw [e2] at m;exact m _ λB A C z p D=>q B A C (l.trans z) p (D.trans y)
   | ex c=>trivial
   | bad=>trivial
  | ex c=>trivial
  | bad=>trivial
def gLst(K:W.Frag)(n:Nat)(t:TGs):TG:=λv Y H Q=>∃a b,v=.ref a/\SqL K H a b/\b.length=n/\t b Y H Q
def gSeq(K:W.Frag)(n:Nat)(t:TGs):TG:=λv Y H Q=>gTup K n t v Y H Q\/gLst K n t v Y H Q
def m8(h:SGs K mg n t g):SG K mg n (gSeq K k t) (gU k g):=by
 intro f i F H Y Z x d r j;unfold gU items;split
 .next a=>
  show AnsG K mg f i F n Y (if a.length=k then g a Z else .bad) _
  by_cases hl:a.length=k
  .rw [iP hl];cases j with
   | lst ha ra=>
    have b:=h f i F H Y Z _ _ r ra;cases e:g a Z with
    | ok Z'=>
     rw [e] at b;exact λQ q=>.inr ⟨_,_,rfl,r.ss.seq ha,ra.length.trans hl,b Q q⟩
    | ex c=>trivial
    | bad=>trivial
  .rw [iN hl];trivial
 .next a=>
  show AnsG K mg f i F n Y (if a.length=k then g a Z else .bad) _
  by_cases hl:a.length=k
  .rw [iP hl];cases j with
   | tup ha ra=>
    have b:=h f i F H Y Z _ _ r ra;cases e:g a Z with
    | ok Z'=>
     rw [e] at b;exact λQ q=>.inl ⟨_,_,rfl,Ec r.ss ha,ra.length.trans hl,b Q q⟩
    | ex c=>trivial
    | bad=>trivial
  .rw [iN hl];trivial
 .trivial
def mO{t:TG}{g:MG}(ha:SE K mg E ta ma)(hg:SG K mg n t g)(hx:∀d Z c,g d Z≠.ex c):SS K mg E (tAsg ta t) (asg g ma):=by
 intro f b F H Y Z a;refine (ha f b F H Y Z a).stm a.g λd _ k l x m o=>?_;have h:=hg f b k l Y Z x d (a.gr m) o;cases e:g d Z with
 | ok Z'=>
  rw [e] at h;exact λD q=>h _ λp i r s j _=>q p i r s j
 | ex c=>exact aB e (hx d Z c)
 | bad=>trivial
def cC(ha:SE K mg E ta ma):SS K mg E (tAsg ta (Bt i)) (st i ma):=by
 intro f j F H Y Z a;exact (ha f j F H Y Z a).stm a.g λd _ c e x h b=>λD q=>q c e _ (Same.refl _) ((a.gr h).set i b)
def jg(h:SS K mg E t m):SS K mg E t (frz i m):=by
 intro d f F H Y Z a;unfold frz getO;split
 .next g e=>
  obtain ⟨b,s,c⟩:=a.frz e;exact (h d f b H Y _ c).mono s
 .trivial
def vM(ha:SE K mg E ta ma)(hty:∀H a xs,H a=some (.lst xs)->tyV K "list" (.ref a) H):SS K mg E (CG (tBM K "list" FZ (tVar i) (Bg ta tNil))) (app i ma):=by
 intro t r F H Y Z l;unfold app getO;split
 .next j e=>
  show AnsS K mg E t r F ((ma Z).bind λd=>if j.length<LIM then .ok (.nx (Z.set i (.ow (j++[d])))) else .bad) _
  obtain ⟨a,xs,s,A,G,v,w⟩:=l.ow i j e;have J:=w.length;have h:=(ha t r F H Y Z l).stm (K:=K) (k:=λd=>if j.length<LIM then .ok (.nx (Z.set i (.ow (j++[d])))) else .bad) (w':=λx p D=>FZ (.ref a) [x] p λ_ m=>D.nx Y m) l.g λd _ I L x n B=>?_
  .generalize ((ma Z).bind λd=>if j.length<LIM then Res.ok (Fl.nx (Z.set i (.ow (j++[d])))) else .bad)=res at h
   have b:∀D:Ends,(ta Y H λx p=>FZ (.ref a) [x] p λ_ m=>D.nx Y m)->CG (tBM K "list" FZ (tVar i) (Bg ta tNil)) D Y H:=λD z=>⟨.ref a,s,hty H a xs v,z⟩;cases res with
   | ok f=>
    cases f with
    | nx Z=>exact λD q=>b D (h D q)
    | bk Z=>exact λD q=>b D (h D q)
    | ct Z=>exact λD q=>b D (h D q)
    | rt d=>exact λD q=>b D (h D q)
   | ex c=>exact λD q=>b D (h D q)
   | bad=>trivial
  .by_cases hlim:j.length<LIM
   .simp only [hlim,Dj];have y:=l.gr n;obtain ⟨C,u⟩:=n.o a _ G v;exact λD q=>⟨a,xs,x,rfl,rfl,u,by rw [J];exact Bv hlim (by decide),q I _ Y (Same.refl _) (y.app e s u A C (w.same n.f) B)⟩
   .simp only [hlim,CV];trivial
 .trivial
def iSeq(K:W.Frag)(tl:TE):TI:=λY H R=>tl Y H λx b=>∃a,x=.ref a/\(((∃c,SqL K b a c)/\R (Itl K a) b)\/((∃c,SqT K b a c)/\R (Itt K a) b))
def wF(h:SqL K F a xs)(r:Rps K mg F xs ds):ItOk K mg F (Itl K a) ds:=by
 intro m o c f i;have b:=(c.trans f).seq h;refine ⟨λd e=>?_,λk=>⟨xs,b,by rw [r.length];exact k⟩⟩;obtain ⟨x,j,l⟩:=r.get e;refine ⟨⟨xs,x,b,j⟩,λy n q=>?_⟩;obtain ⟨rfl,q⟩:=q;have g:=q xs b;rw [j] at g;cases g;exact ⟨m,.refl f,l.same c⟩
def Zvc(h:SqT K F a xs)(r:Rps K mg F xs ds):ItOk K mg F (Itt K a) ds:=by
 intro m o c f i;have b:=Ec (c.trans f) h;refine ⟨λd e=>?_,λk=>⟨xs,b,by rw [r.length];exact k⟩⟩;obtain ⟨x,j,l⟩:=r.get e;refine ⟨⟨xs,x,b,j⟩,λy n q=>?_⟩;obtain ⟨rfl,q⟩:=q;have g:=q xs b;rw [j] at g;cases g;exact ⟨m,.refl f,l.same c⟩
def Yp(lo)(n):ItOk K mg F (Itr lo n) (CN lo n):=by
 intro f j h c i;unfold CN;refine ⟨λd e=>?_,λb=>?_⟩
 .rw [Ca] at e;have a:i<n:=by
   rcases Nat.lt_or_ge i n with z | z
   .exact z
   .rw [List.getElem?_eq_none (by rw [Bx];exact z)] at e;cases e
  rw [QQ a] at e;cases e;refine ⟨a,λy g q=>?_⟩;obtain ⟨rfl,rfl⟩:=q;exact ⟨f,.refl c,.int _⟩
 .rw [Ad,Bx] at b;exact b
def lq(ha:SE K mg E ta ma):SI K mg E (iSeq K ta) (iv ma):=by
 intro e f F H Y Z c;refine (ha e f F H Y Z c).bind λg i x d a b=>?_;cases d with
 | lst ds=>
  cases b with
  | lst h r=>exact Ans.ret a.s (wF h r) λQ q=>⟨_,rfl,.inl ⟨⟨_,a.s.seq h⟩,q⟩⟩
 | tup ds=>
  cases b with
  | tup h r=>exact Ans.ret a.s (Zvc h r) λQ q=>⟨_,rfl,.inr ⟨⟨_,Ec a.s h⟩,q⟩⟩
 | _=>trivial
def xM(ha:SA K mg E t m):SI K mg E (Tu t) (r1 m):=by
 intro d f F H Y Z a;refine (ha d f F H Y Z a).bind λk l g i e c=>?_;unfold rng1;split
 .next j=>
  by_cases h:-1000000000<=j/\j<=1000000000
  .rw [iP h];obtain ⟨x,rfl,b⟩:=c.one;cases b;exact Ans.ret e.s (Yp 0 _) λQ q=>⟨j,rfl,by omega,by omega,q⟩
  .rw [iN h];trivial
 .trivial
def pA(ha:SA K mg E t m):SI K mg E (TF t) (r2 m):=by
 intro f c F H Y Z g;refine (ha f c F H Y Z g).bind λn o k l b e=>?_;unfold rng2;split
 .next i j=>
  by_cases h:(-1000000000<=i/\i<=1000000000)/\(-1000000000<=j/\j<=1000000000)
  .rw [iP h];obtain ⟨x,y,rfl,d,a⟩:=e.two;cases d;cases a;exact Ans.ret b.s (Yp i _) λQ q=>⟨i,j,rfl,by omega,q⟩
  .rw [iN h];trivial
 .trivial
def Zve{wi:TI}{mi:MI}{t:TG}{g:MG}{u:TS}{m:MS}(hi:SI K mg E wi mi)(hg:SG K mg n t g)(hx:∀d Z c,g d Z≠.ex c)(hb:SS K mg E u m):SS K mg E (tFor wi t u) (for_ mi g m):=by
 intro w v F H Y Z rr
 refine (hi w v F H Y Z rr).stm (w':=λJ H1 D=>∃W:Nat->Nat->St->Hp->Prop,(∃m,W 0 m Y H1)/\∀i m Y H,W i m Y H ->
  (J.stop i H/\D.nx Y H)\/(J.go i H/\∃N:St->Hp->Prop,(∀j a,N j a->∃R,R<m/\W (i+1) R j a)/\∀x a,J.yld i H x a->t x Y a λM B=>u { D with nx:=N,ct:=N,bk:=D.nx } M B)) rr.g λo _ P H1 J g1 jo=>?_
 have r1:=rr.gr g1;have s:∀(D:Ends) (b:Res Fl),b≠.bad->(∀l,b=.ok (.nx l)->∀h a j,Same P h->Rep K mg w v h a j l->D.nx j a)->(∀l,b=.ok (.bk l)->∀h a j,Same P h->Rep K mg w v h a j l->D.bk j a) ->
   (∀l,b=.ok (.ct l)->∀h a j,Same P h->Rep K mg w v h a j l->D.ct j a)->(∀d,b=.ok (.rt d)->∀h a x,Gr w v h a->Rp K mg h x d->D.rt x a) ->
   (∀c,b=.ex c->∀h a C,Gr w v h a->mg (clsOf c)=some (.ref C)->E (.ref C) (pay c) a)->BP g m o Z=b ->
   ∃W:Nat->Nat->St->Hp->Prop,(∃m,W 0 m Y H1)/\∀i m Y H,W i m Y H ->
    (J.stop i H/\D.nx Y H)\/(J.go i H/\∃N:St->Hp->Prop,(∀j a,N j a->∃R,R<m/\W (i+1) R j a)/\∀x a,J.yld i H x a->t x Y a λM B=>u { D with nx:=N,ct:=N,bk:=D.nx } M B):=by
  intro D b G qn qb qc qr qe e0;refine ⟨λi k j a=>k=o.length - i/\i<=o.length/\∃l h,Same P h/\Rep K mg w v h a j l/\BP g m (o.drop i) l=b,⟨o.length,by simp,DQ _,Z,P,Same.refl _,r1,e0⟩,?_⟩;rintro i k j a ⟨rfl,hi',l,h,U,V,e⟩;by_cases hlt:i<o.length
  .refine .inr ?_;have hd:=Aw hlt;obtain ⟨go,yl⟩:=(jo h a U V.ss i).1 _ hd;rw [Hs hlt] at e;refine ⟨go,λM B=>∃p O,Same P O/\Rep K mg w v O B M p/\BP g m (o.drop (i+1)) p=b,λM B zq=>by obtain ⟨p,O,s2,r2,r⟩:=zq;exact ⟨o.length - (i+1),by omega,rfl,hlt,p,O,s2,r2,r⟩,λx B y=>?_⟩;obtain ⟨O,g2,rx⟩:=yl x B y;have r2:=V.gr g2;have hG:=hg w v O B j l x _ r2 rx;have X:(g o[i] l).bind (λS=>(m S).bind (turn (BP g m (o.drop (i+1)))))=b:=e;cases eg:g o[i] l with
   | ok S=>
    rw [eg] at X hG;refine hG _ λF3 H3 Y3 s3 r3 _=>?_;have I:=hb w v F3 H3 Y3 S r3;have sF:=U.trans (g2.f.trans s3);have r:(m S).bind (turn (BP g m (o.drop (i+1))))=b:=X;cases em:m S with
    | ok f=>
     rw [em] at r I;cases f with
     | nx p=>exact I _ λA L Y4 T Q=>⟨p,A,sF.trans T,Q,r⟩
     | ct p=>exact I _ λA L Y4 T Q=>⟨p,A,sF.trans T,Q,r⟩
     | bk p=>exact I _ λA L Y4 T Q=>qn p r.symm A L Y4 (sF.trans T) Q
     | rt d=>exact I _ λA L y g4 ry=>qr d r.symm A L y g4 ry
    | ex c=>
     rw [em] at r I;exact I _ λA L C g4 hc=>qe c r.symm A L C g4 hc
    | bad=>rw [em] at r;exact aB r.symm G
   | ex c=>exact aB eg (hx _ _ c)
   | bad=>rw [eg] at X;exact aB X.symm G
  .have hi2:i=o.length:=by omega
   subst hi2;rw [Jh (Am _)] at e;exact .inl ⟨(jo h a U V.ss _).2 (Am _),qn l e.symm h a j U V⟩
 cases e:BP g m o Z with
 | ok f=>
  cases f with
  | nx p=>exact λD q=>s D _ (λz=>by cases z) (λ_ z=>by cases z;exact q) (λ_ z=>by cases z) (λ_ z=>by cases z) (λ_ z=>by cases z) (λ_ z=>by cases z) e
  | bk p=>exact λD q=>s D _ (λz=>by cases z) (λ_ z=>by cases z) (λ_ z=>by cases z;exact q) (λ_ z=>by cases z) (λ_ z=>by cases z) (λ_ z=>by cases z) e
  | ct p=>exact λD q=>s D _ (λz=>by cases z) (λ_ z=>by cases z) (λ_ z=>by cases z) (λ_ z=>by cases z;exact q) (λ_ z=>by cases z) (λ_ z=>by cases z) e
  | rt d=>exact λD q=>s D _ (λz=>by cases z) (λ_ z=>by cases z) (λ_ z=>by cases z) (λ_ z=>by cases z) (λ_ z=>by cases z;exact q) (λ_ z=>by cases z) e
 | ex c=>exact λD q=>s D _ (λz=>by cases z) (λ_ z=>by cases z) (λ_ z=>by cases z) (λ_ z=>by cases z) (λ_ z=>by cases z) (λ_ z=>by cases z;exact q) e
 | bad=>trivial
def q9{n:Ev->Nat}(hc:STt K mg E sc nc)(hb:SS K mg E u m):SS K mg E (Qs sc u) (whl n nc m):=by
 intro A w F H Y Z rr;have s:∀D a,a≠.bad->(∀i,a=.ok (.nx i)->∀j l o,Same F j->Rep K mg A w j l o i->D.nx o l)->(∀i,a=.ok (.bk i)->∀j l o,Same F j->Rep K mg A w j l o i->D.bk o l) ->
   (∀i,a=.ok (.ct i)->∀j l o,Same F j->Rep K mg A w j l o i->D.ct o l)->(∀d,a=.ok (.rt d)->∀j l x,Gr A w j l->Rp K mg j x d->D.rt x l) ->
   (∀c,a=.ex c->∀j l C,Gr A w j l->mg (clsOf c)=some (.ref C)->E (.ref C) (pay c) l)->whGo nc m (n Z) Z=a->Qs sc u D Y H:=by
  intro D a r T qb qc qr U e0;refine ⟨λk o l=>∃i j,Same F j/\Rep K mg A w j l o i/\whGo nc m k i=a,⟨n Z,Z,F,Same.refl _,rr,e0⟩,?_⟩;rintro k o l ⟨i,j,S,P,e⟩;cases k with
  | zero=>exact aB e.symm r
  | succ k=>
   have G:(nc i).bind (λx=>if x=true then (m i).bind (turn (whGo nc m k)) else .ok (.nx i))=a:=e
   have N:=hc A w j l o i P;cases ec:nc i with
   | ok b=>
    rw [ec] at G N;refine N _ λX H2 b' O eb=>?_;cases (eb);have W:=P.gr O;cases b with
    | true=>
     have B:=hb A w X H2 o i W;have p:=G;refine ⟨λY3 V=>∃J F3,Same F F3/\Rep K mg A w F3 V Y3 J/\whGo nc m k J=a,λY3 V h=>⟨k,G9 _,h⟩,?_⟩;have R:=S.trans O.f;cases em:m i with
     | ok f=>
      rw [em] at p B;cases f with
      | nx Z2=>exact B _ λt v Q M L=>⟨Z2,t,R.trans M,L,p⟩
      | ct Z2=>exact B _ λt v Q M L=>⟨Z2,t,R.trans M,L,p⟩
      | bk Z2=>exact B _ λt v Q M L=>T Z2 p.symm t v Q (R.trans M) L
      | rt d=>exact B _ λt v y I ry=>qr d p.symm t v y I ry
     | ex c=>
      rw [em] at p B;exact B _ λt v C I hc=>U c p.symm t v C I hc
     | bad=>rw [em] at p;exact aB p.symm r
    | false=>
     have p:=G;exact T i p.symm X H2 o (S.trans O.f) W
   | ex c=>
    rw [ec] at G N;exact N _ λt v C I hc=>U c G.symm t v C (P.g.trans I) hc
   | bad=>rw [ec] at G;exact aB G.symm r
 unfold whl;cases e:whGo nc m (n Z) Z with
 | ok f=>
  cases f with
  | nx Z2=>exact λD q=>s D _ (λz=>by cases z) (λ_ z=>by cases z;exact q) (λ_ z=>by cases z) (λ_ z=>by cases z) (λ_ z=>by cases z) (λ_ z=>by cases z) e
  | bk Z2=>exact λD q=>s D _ (λz=>by cases z) (λ_ z=>by cases z) (λ_ z=>by cases z;exact q) (λ_ z=>by cases z) (λ_ z=>by cases z) (λ_ z=>by cases z) e
  | ct Z2=>exact λD q=>s D _ (λz=>by cases z) (λ_ z=>by cases z) (λ_ z=>by cases z) (λ_ z=>by cases z;exact q) (λ_ z=>by cases z) (λ_ z=>by cases z) e
  | rt d=>exact λD q=>s D _ (λz=>by cases z) (λ_ z=>by cases z) (λ_ z=>by cases z) (λ_ z=>by cases z) (λ_ z=>by cases z;exact q) (λ_ z=>by cases z) e
 | ex c=>exact λD q=>s D _ (λz=>by cases z) (λ_ z=>by cases z) (λ_ z=>by cases z) (λ_ z=>by cases z) (λ_ z=>by cases z) (λ_ z=>by cases z;exact q) e
 | bad=>trivial
end
section
variable {F:Hp}
def Rep.inner{own:List Str}{cap:List (Str×Nat)}(r:Rep K mg F0 H0 F H Y Z)(gb:Gr Fb Hb F H):Rep K mg Fb Hb F H (st0 own Y cap) (noA own.length (Bm Z (cap.map (·.2)))):=by
 have b:∀i c,(noA own.length (Bm Z (cap.map (·.2))))[i]?=some c->c=.no\/∃j p d,i=own.length+j/\cap[j]?=some p/\Z[p.2]?=some (.im d)/\c=.im d:=by
  intro i c e;rw [Oq,UG] at e;by_cases hi:i<own.length
  .rw [Eo (by simpa using hi),JS,iP hi] at e;cases e;exact .inl rfl
  .rw [Fp (by simpa using hi),JL] at e;rw [Dz,Ca] at e;cases q:cap[i - own.length]? with
   | none=>rw [q] at e;cases e
   | some p=>
    rw [q] at e;have f:imOf Z[p.2]?=c:=Br e;unfold imOf at f;split at f
    .next d h=>exact .inr ⟨i - own.length,p,d,by omega,q,h,f.symm⟩
    .exact .inl f.symm
 refine ⟨gb,?_,λi d e=>?_,λi k e=>?_,λi j k m a e=>?_⟩
 .rw [Oq,UG];unfold st0 capt;simp
 .rcases b i _ e with z | ⟨j,p,d',rfl,hp,hρ,z⟩
  .cases z
  .cases z;obtain ⟨x,l,g⟩:=r.im p.2 d hρ;refine ⟨x,?_,g⟩;unfold st0 capt;rw [Fp (by simp),JL,Nat.add_sub_cancel_left,Ca,hp];show some ((Y[p.2]?).join)=_;rw [l];rfl
 .rcases b i _ e with z | ⟨j,p,d',rfl,hp,hρ,z⟩<;>cases z
 .rcases b i _ e with z | ⟨j,p,d',rfl,hp,hρ,z⟩<;>cases z
def Y7:(st0 own Y cap).drop own.length=capt Y cap:=by
 unfold st0;rw [List.drop_append_of_le_length (by simp),List.drop_of_length_le (by simp)];rfl
def W3{own:List Str}{cap:List (Str×Nat)}(r:Rep K mg F0 H0 F H Y Z)(jo:ItOk K mg F J ds)(hg:SG K mg own.length t g)(ht:STt K mg E tt nt)(he:SE K mg E te me)(hl:ds.length<=LIM)(e0:Dl.Bc g nt me (noA own.length (Bm Z (cap.map (·.2)))) ds=.ok ys)(Q)(q:∀F' H' xs,Gr F H F' H'->Rps K mg F' xs ys->xs.length<=sizeLine->∀p,H' p=none->Q (.ref p) (upd H' p (.lst xs))) :
  Lz J t tt te own cap Y Q H:=by
 refine ⟨λi k a H'=>k=ds.length - i/\i<=ds.length/\a.length<=i/\∃F' v l,Gr F H F' H'/\Rps K mg F' a v/\Dl.Bc g nt me (noA own.length (Bm Z (cap.map (·.2)))) (ds.drop i)=.ok l/\v++l=ys,
  ⟨ds.length,by simp,DQ _,Am _,F,[],ys,.refl r.ss,.nil,e0,rfl⟩,?_⟩
 rintro i k a H' ⟨rfl,T,ha,F',v,l,j,C,z,w⟩;have G:=CJ ha (CJ T hl);refine ⟨JW G,?_⟩;by_cases hlt:i<ds.length
 .refine .inr ?_;have hd:=Aw hlt;obtain ⟨U,yl⟩:=(jo F' H' j.f j.s i).1 _ hd;rw [Hs hlt] at z;refine ⟨U,λx R y=>?_⟩;obtain ⟨F2,B,W⟩:=yl x R y;have rr:=(r.gr (j.trans B)).inner (own:=own) (cap:=cap) (j.trans B);have P:=hg F H F2 R _ _ x _ rr W;have m:(g ds[i] (noA own.length (Bm Z (cap.map (·.2))))).bind (λd=>(nt d).bind λb=>if b=true then (me d).bind λy=>(Dl.Bc g nt me (noA own.length (Bm Z (cap.map (·.2)))) (ds.drop (i+1))).bind λys=>.ok (y::ys) else Dl.Bc g nt me (noA own.length (Bm Z (cap.map (·.2)))) (ds.drop (i+1)))=.ok l:=z
  cases eg:g ds[i] (noA own.length (Bm Z (cap.map (·.2)))) with
  | ok d=>
   rw [eg] at m P;refine P _ λF3 H3 S s3 A d3=>⟨d3.trans Y7,?_⟩;have M:=ht F H F3 H3 S d A;have L:=B.f.trans s3;have h:(nt d).bind (λb=>if b=true then (me d).bind λy=>(Dl.Bc g nt me (noA own.length (Bm Z (cap.map (·.2)))) (ds.drop (i+1))).bind λys=>.ok (y::ys) else Dl.Bc g nt me (noA own.length (Bm Z (cap.map (·.2)))) (ds.drop (i+1)))=.ok l:=m
   cases et:nt d with
   | ok b=>
    rw [et] at h M;refine M _ λN X b' o V=>?_;cases (V);cases b with
    | true=>
     have e:=h;have O:=he F H N X S d (A.gr o);cases em:me d with
     | ok y'=>
      rw [em] at e O;refine O _ λF5 H5 u I ru=>⟨Hr G (by decide),ds.length - (i+1),by omega,rfl,hlt,by rw [BJ];show a.length+1<=i+1;omega,?_⟩;have n:=e;cases ec:Dl.Bc g nt me (noA own.length (Bm Z (cap.map (·.2)))) (ds.drop (i+1)) with
      | ok rs'=>
       rw [ec] at n;have e6:=n;cases e6;exact ⟨F5,v++[y'],rs',A.g.trans (o.trans I),Rps.app (.cons ru .nil) (C.same (L.trans (o.f.trans I.f))),rfl,by rw [Dr];exact w⟩
      | ex c=>rw [ec] at n;cases n
      | bad=>rw [ec] at n;cases n
     | ex c=>rw [em] at e;cases e
     | bad=>rw [em] at e;cases e
    | false=>
     have e:=h;exact ⟨ds.length - (i+1),by omega,rfl,hlt,by omega,N,v,l,A.g.trans o,C.same (L.trans o.f),e,w⟩
   | ex c=>rw [et] at h;cases h
   | bad=>rw [et] at h;cases h
  | ex c=>rw [eg] at m;cases m
  | bad=>rw [eg] at m;cases m
 .have D:i=ds.length:=by omega
  subst D;rw [Jh (Am _)] at z;cases z;rw [Bp] at w;subst w;exact .inl ⟨(jo F' H' j.f j.s _).2 (Am _),q F' H' a j C (JW G)⟩
def aW{te:Fam TE}(hi:SI K mg E wi mi)(hg:∀C s H fp pn,SG K mg own.length (t C s H fp pn) g)(ht:∀C s H fp pn,STt K mg E0 (tt C s H fp pn) nt)(he:∀C s H fp pn,SE K mg E0 (te C s H fp pn) me) :
  SE K mg E (GJ wi t tt te own cap) (comp mi own.length (cap.map (·.2)) g nt me):=by
 intro m k F H Y Z h;refine (hi m k F H Y Z h).bind λr u J f i j=>?_;by_cases hl:f.length<=LIM
 .rw [iP hl];cases e:Dl.Bc g nt me (noA own.length (Bm Z (cap.map (·.2)))) f with
  | ok ys=>exact λQ q C s b fp pn=>W3 (h.gr i) j (hg C s b fp pn) (ht C s b fp pn) (he C s b fp pn) hl e Q λv n o a l _ p d=>q _ _ _ (a.trans (.new a.s d _)) (.lst (SqL.of An) (l.same (DP (a.s.free d) _)))
  | ex c=>trivial
  | bad=>trivial
 .rw [iN hl];trivial
end
structure DE(X:Cx)(E:XK)(e:Expr)(t:TE)(m:ME):Prop where
 p:PE X e t
 s:SE X.K X.mg E t m
structure DT(X:Cx)(E:XK)(e:Expr)(t:TT)(m:MB):Prop where
 p:PT X e t
 s:STt X.K X.mg E t m
structure DW(X:Cx)(E:XK)(e:Expr)(t:TT)(m:MB):Prop where
 p:PW X e t
 s:STt X.K X.mg E t m
structure DA(X:Cx)(E:XK)(n:Nat)(es:List Expr)(t:TA)(m:MA):Prop where
 p:PA X es t
 s:SA X.K X.mg E t m
 n:SAn n m
structure DO(X:Cx)(E:XK)(e:Option Expr)(t:TO)(m:Ev->Res (Option Int)):Prop where
 p:PO X e t
 s:SO X.K X.mg E t m
structure DS(X:Cx)(E:XK)(st:Stmt)(t:TS)(m:MS):Prop where
 p:PS X st t
 s:SS X.K X.mg E t m
structure DSs(X:Cx)(E:XK)(st:List Stmt)(t:TS)(m:MS):Prop where
 p:PSs X st t
 s:SS X.K X.mg E t m
structure DG(X:Cx)(n:Nat)(e:Expr)(t:TG)(g:MG):Prop where
 p:PG X e t
 s:SG X.K X.mg n t g
 x:∀d Z c,g d Z≠.ex c
structure DGs(X:Cx)(n:Nat)(es:List Expr)(t:TGs)(g:MGs):Prop where
 p:PGs X es t
 s:SGs X.K X.mg n t g
 x:∀d Z c,g d Z≠.ex c
structure DI(X:Cx)(E:XK)(tg e:Expr)(t:TI)(m:MI):Prop where
 p:PI X tg e t
 s:SI X.K X.mg E t m
section
variable {a b c':Expr} {ta tb tc:TE} {ma mb mc:ME} {sa sb:TT} {na nb:MB} {t:TA} {m:MA}
def d_v(i)(hN:X.N[i]?=some x:=by rfl)(hv:Dd X.env.scope x:=by first | exact Or.inl rfl | exact Or.inr (Or.inl rfl) | exact Or.inr (Or.inr rfl))(hd:ND x:=by decide)(hcd:NE x:=by decide):DE X E (.Name x pos) (tVar i) (v i):=⟨Dq hN hv hd hcd,se_v i⟩
def Ew{i j}:DE X E (.Constant (.int i) j pos) (tC (.int i)) (c (.int i)):=⟨Sv,se_c λ_=>.int _⟩
def JN{i j}:DE X E (.Constant (.bool i) j pos) (tC (.bl i)) (c (.bl i)):=⟨ZwG,se_c λ_=>.bl _⟩
def Ph{j}:DE X E (.Constant .none j pos) (tC .non) (c .non):=⟨Vl,se_c λ_=>.non⟩
def vY{i j}:DE X E (.Constant (.str i) j pos) (tC (.str i)) (c (.str i)):=⟨eU,se_c λ_=>.str _⟩
def QH{k:String}(hg:Gl X x)(hm:X.mg x=none)(hv:bootBuiltins x=some (.type k))(hn:x ≠ "__name__":=by decide)(hd:ND x:=by decide):DE X E (.Name x pos) (tC (.ty k)) (c (.ty k)) :=
 ⟨gQ hg hm hv hn hd,se_c λ_=>.ty _⟩
def M5{i:Int}(hg:Gl X x)(hm:X.mg x=some (.int i tk))(hd:ND x:=by decide):DE X E (.Name x pos) (tC (.int i)) (c (.int i)):=⟨T7 hg hm ⟨_,rfl⟩ hd,se_c λ_=>.int _⟩
def Ie(ho:OpR X (binaryOp op) r)(hf:OpD X.K X.mg r f)(ha:DE X E a ta ma)(hb:DE X E b tb mb):DE X E (.BinOp a op b pos) (tOp r ta tb) (o2 f ma mb):=⟨aD ho ha.p hb.p,N7 hf ha.s hb.s⟩
def Qw(ho:OpR X (compareOp op) r)(hf:OpD X.K X.mg r f)(ha:DE X E a ta ma)(hb:DE X E b tb mb)(hm:behindInMarks op b=false):DE X E (.Compare a [op] [b] pos) (tOp r ta tb) (o2 f ma mb):=⟨iQ ho ha.p hb.p hm,N7 hf ha.s hb.s⟩
def HW(ho:OpR X (compareOp op) r)(hf:OpD X.K X.mg r f)(ha:DE X E a ta ma)(hb:DE X E b tb mb)(hm:behindInMarks op b=false):DT X E (.Compare a [op] [b] pos) (FW (tOp r ta tb)) (trb (o2 f ma mb)):=⟨S6 ho ha.p hb.p hm,Tv (N7 hf ha.s hb.s)⟩
def OpR.or(h:OpR X f r)(h':OpR X f r'):OpR X f (λx y H Q=>r x y H Q\/r' x y H Q):=by
 intro a s Y H x y v u Q I c b q;rcases q with q | q
 .exact h a s Y H x y v u Q I c b q
 .exact h' a s Y H x y v u Q I c b q
def yC:OpR X (binaryOp .Add) (ZX X.K):=by
 intro a s Y H x y v u Q I f c h;obtain ⟨l,b,i,j,rfl,rfl,d,e,g,q⟩:=h;cases f;cases c;exact o6 I d e g q
def Zp6:OpR X (binaryOp .Add) (dJ X.K):=by
 intro c s Y H x y v u Q I g d h;obtain ⟨a,b,m,n,rfl,rfl,i,j,l,f,k,e⟩:=h;cases g;cases d;exact ZnR I i j l f k e
def Zsn:OpR X (binaryOp .Add) (R8 X.K):=OpR.or qW (OpR.or yC (OpR.or Zp6 n8))
def X7(ha:DE X E a ta ma)(hb:DE X E b tb mb):DE X E (.BinOp a .Add b pos) (tOp (R8 X.K) ta tb) (o2 Ah ma mb):=Ie Zsn o7 ha hb
def jV(ha:DE X E a ta ma)(hb:DE X E b tb mb):DE X E (.BinOp a .Sub b pos) (tOp (rI0 λi j=>V.int (i - j)) ta tb) (o2 dSub ma mb):=Ie zR ZrD ha hb
def xn{a b:Int}(h:Bl a b=true):IntMulOk a b:=by
 have h':(a.natAbs<2^64\/b.natAbs<2^64)\/a.natAbs.log2+b.natAbs.log2<100000000:=by simpa [Bl] using h
 rcases h' with (h' | h') | h'
 .exact .of_left (intBits_le_iff.mpr h')
 .exact .of_right (intBits_le_iff.mpr h')
 .have d:a.natAbs<2^(a.natAbs.log2+1):=Nat.lt_log2_self;have c:b.natAbs<2^(b.natAbs.log2+1):=Nat.lt_log2_self;exact IntMulOk.of_le (intBits_le_iff.mpr d) (intBits_le_iff.mpr c) (by omega)
def sE:OpD K mg (rI IntMulOk λi j=>.int (i*j)) Ao:=Jv λa b=>by
 unfold iMul;by_cases h:Bl a b=true
 .rw [iP h];exact .inl ⟨_,rfl,xn h,λ_=>.int _⟩
 .rw [iN h];exact .inr rfl
def zH(ha:DE X E a ta ma)(hb:DE X E b tb mb):DE X E (.BinOp a .Mult b pos) (tOp (rI IntMulOk λi j=>V.int (i*j)) ta tb) (o2 Ao ma mb):=Ie jU sE ha hb
def gj(ha:DE X E a ta ma)(hb:DE X E b tb mb):DE X E (.BinOp a .Mod b pos) (tOp (rI (λ_ j=>j≠0) λi j=>V.int (i.fmod j)) ta tb) (o2 Aj ma mb):=Ie ZsO lG ha hb
def uJ(ha:DE X E a ta ma)(hb:DE X E b tb mb):DE X E (.BinOp a .FloorDiv b pos) (tOp (rI VJ λi j=>V.int (i.fdiv j)) ta tb) (o2 Aq ma mb):=Ie zU ZsM ha hb
def lW(ha:DE X E a ta ma)(hb:DE X E b tb mb):DE X E (.BinOp a .Pow b pos) (tOp (rI CPow λi j=>V.int (i^j.toNat)) ta tb) (o2 dPow ma mb):=Ie n6 fU ha hb
def zu(ha:DE X E a ta ma)(hb:DE X E b tb mb):DE X E (.BinOp a .LShift b pos) (tOp (rI CPow λi j=>V.int (i*2^j.toNat)) ta tb) (o2 dShl ma mb):=Ie t7 pB ha hb
def Zwc(ha:DE X E a ta ma)(hb:DE X E b tb mb):DE X E (.BinOp a .RShift b pos) (tOp (rI (λ_ j=>0<=j) λi j=>V.int (i/2^j.toNat)) ta tb) (o2 dShr ma mb):=Ie lB fM ha hb
def pJ(ha:DE X E a ta ma):DE X E (.UnaryOp .USub a pos) (tUn (rU λi=>V.int (-i)) ta) (o1 dNeg ma):=⟨Zwy zy ha.p,Yv (vh λ_ _ _ q=>⟨_,rfl,q⟩) ha.s⟩
def kj(ha:DE X E a ta ma)(hb:DE X E b tb mb):DE X E (.Compare a [.Lt] [b] pos) (tOp (rI0 λi j=>V.bl (decide (i<j))) ta tb) (o2 dLt ma mb):=Qw XF dK ha hb (Fe _)
def vZ(ha:DE X E a ta ma)(hb:DE X E b tb mb):DE X E (.Compare a [.LtE] [b] pos) (tOp (rI0 λi j=>V.bl (decide (i<=j))) ta tb) (o2 dLe ma mb):=Qw ZD XS ha hb (Fe _)
def ik(ha:DE X E a ta ma)(hb:DE X E b tb mb):DE X E (.Compare a [.GtE] [b] pos) (tOp (rI0 λi j=>V.bl (decide (j<=i))) ta tb) (o2 dGe ma mb):=Qw X3 V7 ha hb (Fe _)
def z8(ha:DE X E a ta ma)(hb:DE X E b tb mb):DT X E (.Compare a [.Lt] [b] pos) (FW (tOp (rI0 λi j=>V.bl (decide (i<j))) ta tb)) (trb (o2 dLt ma mb)):=HW XF dK ha hb (Fe _)
def yG(ha:DE X E a ta ma)(hb:DE X E b tb mb):DT X E (.Compare a [.LtE] [b] pos) (FW (tOp (rI0 λi j=>V.bl (decide (i<=j))) ta tb)) (trb (o2 dLe ma mb)):=HW ZD XS ha hb (Fe _)
def Tj(ha:DE X E a ta ma)(hb:DE X E b tb mb):DT X E (.Compare a [.Gt] [b] pos) (FW (tOp (rI0 λi j=>V.bl (decide (j<i))) ta tb)) (trb (o2 dGt ma mb)):=HW lF jL ha hb (Fe _)
def vL(ha:DE X E a ta ma)(hb:DE X E b tb mb):DT X E (.Compare a [.GtE] [b] pos) (FW (tOp (rI0 λi j=>V.bl (decide (j<=i))) ta tb)) (trb (o2 dGe ma mb)):=HW X3 V7 ha hb (Fe _)
mutual
def pyD:D->PyData
 | .non=>.none
 | .bl b=>.bool b
 | .int i=>.int i
 | .str x=>.str x
 | .tup xs=>.tuple (pyDs xs)
 | .lst xs=>.list (pyDs xs)
 | _=>.none
def pyDs:List D->List PyData
 | []=>[]
 | x::r=>pyD x::pyDs r
end
mutual
def QK:∀x y,∀k l,Dl.plain k x=true->Dl.plain l y=true->eqD x y=PyData.eqv (pyD x) (pyD y)
 | .non,y,_,_,_,hy=>by cases y<;>first | rfl | (simp [Dl.plain] at hy)
 | .bl _,y,_,_,_,hy=>by cases y<;>first | rfl | (simp [Dl.plain] at hy)
 | .int _,y,_,_,_,hy=>by cases y<;>first | rfl | (simp [Dl.plain] at hy)
 | .str _,y,_,_,_,hy=>by cases y<;>first | rfl | (simp [Dl.plain] at hy)
 | .tup xs,y,k,l,hx,hy=>by
  cases y<;>first | rfl | (simp [Dl.plain] at hy;done) | skip
  rename_i ys;cases k with
  | zero=>simp [Dl.plain] at hx
  | succ k=>
   cases l with
   | zero=>simp [Dl.plain] at hy
   | succ l=>exact T6 xs ys k l (by simpa [Dl.plain] using hx) (by simpa [Dl.plain] using hy)
 | .lst xs,y,k,l,hx,hy=>by
  cases y<;>first | rfl | (simp [Dl.plain] at hy;done) | skip
  rename_i ys;cases k with
  | zero=>simp [Dl.plain] at hx
  | succ k=>
   cases l with
   | zero=>simp [Dl.plain] at hy
   | succ l=>exact T6 xs ys k l (by simpa [Dl.plain] using hx) (by simpa [Dl.plain] using hy)
 | .ty _,_,k,_,hx,_=>by cases k<;>simp [Dl.plain] at hx
 | .cls _,_,k,_,hx,_=>by cases k<;>simp [Dl.plain] at hx
 | .exc _,_,k,_,hx,_=>by cases k<;>simp [Dl.plain] at hx
 | .ins _ _ _,_,k,_,hx,_=>by cases k<;>simp [Dl.plain] at hx
def T6:∀xs ys,∀k l,Dl.BX k xs=true->Dl.BX l ys=true->eqDs xs ys=PyData.eqvAll (pyDs xs) (pyDs ys)
 | [],[],_,_,_,_=>rfl
 | [],_::_,_,_,_,_=>rfl
 | _::_,[],_,_,_,_=>rfl
 | x::xs,y::ys,k,l,hx,hy=>by
  have b:Dl.plain k x=true/\Dl.BX k xs=true:=by simpa [Dl.BX] using hx
  have a:Dl.plain l y=true/\Dl.BX l ys=true:=by simpa [Dl.BX] using hy
  show (eqD x y&&eqDs xs ys)=(PyData.eqv (pyD x) (pyD y)&&PyData.eqvAll (pyDs xs) (pyDs ys));rw [QK x y k l b.1 a.1,T6 xs ys k l b.2 a.2]
end
mutual
def KH:∀x k,Dl.plain k x=true->(pyD x).canLay0=true/\(pyD x).depth<=k
 | .non,_,_=>⟨rfl,DQ _⟩
 | .bl _,_,_=>⟨rfl,DQ _⟩
 | .int _,_,_=>⟨rfl,DQ _⟩
 | .str x,_,h=>⟨by simpa [Dl.plain,pyD,PyData.canLay0,PyData.strOk] using h,DQ _⟩
 | .tup xs,0,h=>by simp [Dl.plain] at h
 | .lst xs,0,h=>by simp [Dl.plain] at h
 | .tup xs,k+1,h=>by
  obtain ⟨b,a⟩:=Q3 xs k (by simpa [Dl.plain] using h);exact ⟨b,Nat.succ_le_succ a⟩
 | .lst xs,k+1,h=>by
  obtain ⟨b,a⟩:=Q3 xs k (by simpa [Dl.plain] using h);exact ⟨b,Nat.succ_le_succ a⟩
 | .ty _,k,h=>by cases k<;>simp [Dl.plain] at h
 | .cls _,k,h=>by cases k<;>simp [Dl.plain] at h
 | .exc _,k,h=>by cases k<;>simp [Dl.plain] at h
 | .ins _ _ _,k,h=>by cases k<;>simp [Dl.plain] at h
def Q3:∀xs k,Dl.BX k xs=true->PyData.canLayAll0 (pyDs xs)=true/\PyData.depthAll (pyDs xs)<=k
 | [],_,_=>⟨rfl,DQ _⟩
 | x::xs,k,h=>by
  have a:Dl.plain k x=true/\Dl.BX k xs=true:=by simpa [Dl.BX] using h
  obtain ⟨c,b⟩:=KH x k a.1;obtain ⟨e,d⟩:=Q3 xs k a.2;refine ⟨?_,Nat.max_le.mpr ⟨b,d⟩⟩;show (PyData.canLay0 (pyD x)&&PyData.canLayAll0 (pyDs xs))=true;rw [c,e];rfl
end
mutual
def J4{K:W.Frag}{mg:Str->Option Value}{F:Hp}{x:V}{d:D}{k:Nat}(h:Rp K mg F x d)(p:Dl.plain k d=true):DV K F x (pyD d):=by
 cases h with
 | non=>exact .non
 | bl b=>exact .bl b
 | int b=>exact .int b
 | str b=>exact .str b
 | tup h r=>
  cases k with
  | zero=>simp [Dl.plain] at p
  | succ k=>exact .tup h (PL r (by simpa [Dl.plain] using p))
 | lst h r=>
  cases k with
  | zero=>simp [Dl.plain] at p
  | succ k=>exact .lst h (PL r (by simpa [Dl.plain] using p))
 | ty _=>cases k<;>simp [Dl.plain] at p
 | cls _=>cases k<;>simp [Dl.plain] at p
 | exc _ _=>cases k<;>simp [Dl.plain] at p
 | ins _ _ _ _ _=>cases k<;>simp [Dl.plain] at p
def PL{K:W.Frag}{mg:Str->Option Value}{F:Hp}{xs:List V}{ds:List D}{k:Nat}(h:Rps K mg F xs ds)(p:Dl.BX k ds=true):DVs K F xs (pyDs ds):=by
 cases h with
 | nil=>exact .nil
 | cons h r=>
  have a:=(by simpa [Dl.BX] using p);exact .cons (J4 h a.1) (PL r a.2)
end
mutual
def Km{K:W.Frag}{F H:Hp}(s:Same F H){x:V}{d:PyData}(h:DV K F x d):DV K H x d:=by
 cases h with
 | non=>exact .non
 | bl b=>exact .bl b
 | int b=>exact .int b
 | str b=>exact .str b
 | tup h r=>exact .tup (Ec s h) (RW s r)
 | lst h r=>exact .lst (s.seq h) (RW s r)
def RW{K:W.Frag}{F H:Hp}(s:Same F H){xs:List V}{ds:List PyData}(h:DVs K F xs ds):DVs K H xs ds:=by
 cases h with
 | nil=>exact .nil
 | cons h r=>exact .cons (Km s h) (RW s r)
end
def Y8:OpD K mg (rEqD K id) dEq:=by
 intro E F H x y b c s f d;unfold dEq;by_cases h:(Dl.plain 50 b&&Dl.plain 50 c)=true
 .rw [iP h];have a:Dl.plain 50 b=true/\Dl.plain 50 c=true:=by simpa using h
  obtain ⟨g,e⟩:=KH b 50 a.1;obtain ⟨i,j⟩:=KH c 50 a.2;exact .ret s (.bl _) λQ q=>⟨_,_,Km s (J4 f a.1),Km s (J4 d a.2),g,i,CJ e (by decide),by rw [<-QK b c 50 50 a.1 a.2];exact q⟩
 .rw [iN h];trivial
def yH:OpD K mg (rEqD K not) dNe:=by
 intro E F H x y b c s f d;unfold dNe;by_cases h:(Dl.plain 50 b&&Dl.plain 50 c)=true
 .rw [iP h];have a:Dl.plain 50 b=true/\Dl.plain 50 c=true:=by simpa using h
  obtain ⟨g,e⟩:=KH b 50 a.1;obtain ⟨i,j⟩:=KH c 50 a.2;exact .ret s (.bl _) λQ q=>⟨_,_,Km s (J4 f a.1),Km s (J4 d a.2),g,i,CJ e (by decide),by rw [<-QK b c 50 50 a.1 a.2];exact q⟩
 .rw [iN h];trivial
def tM(hr:Room k X.A)(ha:DE X E a ta ma)(hb:DE X E b tb mb):DE X E (.Compare a [.Eq] [b] pos) (tOp (rEqD X.K id) ta tb) (o2 dEq ma mb):=Qw (V1 hr.units) Y8 ha hb (Fe _)
def fK(hr:Room k X.A)(ha:DE X E a ta ma)(hb:DE X E b tb mb):DT X E (.Compare a [.Eq] [b] pos) (FW (tOp (rEqD X.K id) ta tb)) (trb (o2 dEq ma mb)):=HW (V1 hr.units) Y8 ha hb (Fe _)
def QF(hr:Room k X.A)(ha:DE X E a ta ma)(hb:DE X E b tb mb):DT X E (.Compare a [.NotEq] [b] pos) (FW (tOp (rEqD X.K not) ta tb)) (trb (o2 dNe ma mb)):=HW (sU hr.units) yH ha hb (Fe _)
def Ua{j pos'}(ha:DE X E a ta ma):DT X E (.Compare a [.Is] [.Constant .none j pos'] pos) (FW (tOp (λx y H Q=>y=V.non/\Q (V.bl (decide (x=V.non))) H) ta (tC .non))) (trb (o1 dIsN ma)):=⟨S6 qj ha.p Vl (Fe _),Tv (zZ ha.s)⟩
def XQ{j pos'}(ha:DE X E a ta ma):DT X E (.Compare a [.IsNot] [.Constant .none j pos'] pos) (FW (tOp (λx y H Q=>y=V.non/\Q (V.bl (!decide (x=V.non))) H) ta (tC .non))) (trb (o1 Ey ma)):=⟨S6 uf ha.p Vl (Fe _),Tv (jF ha.s)⟩
def G8(ha:DE X E a ta ma)(hb:DE X E b tb mb)(hs:RL b:=by exact λ_ _=>rfl):DE X E (.Subscript a b pos) (tOp (rIxD X.K) ta tb) (o2 dIx ma mb):=⟨Q9 (IxR.or RZ Rg) ha.p hb.p hs,N7 yU ha.s hb.s⟩
def Gj(ha:DE X E a ta ma)(he:∀whole,isTrue a X.env whole=(do let v <-whole;standAt a.pos;holding [v] (truthy v)):=by intro _;rfl):DT X E a (L2.tB ta) (trb ma):=⟨ux ha.p he,st_b ha.s⟩
def iI(ha:DT X E a sa na):DW X E (.BoolOp .And [a] pos) sa na:=⟨qu ha.p,ha.s⟩
def Mj(ha:DT X E a sa na):DW X E (.BoolOp .Or [a] pos) sa na:=⟨vK ha.p,ha.s⟩
def YT{rest:List Expr}(ha:DT X E a sa na)(hb:DW X E (.BoolOp .And (b::rest) pos) sb nb):DW X E (.BoolOp .And (a::b::rest) pos) (tAnd sa sb) (bAnd na nb):=⟨uU ha.p hb.p,lR ha.s hb.s⟩
def Kd{rest:List Expr}(ha:DT X E a sa na)(hb:DW X E (.BoolOp .Or (b::rest) pos) sb nb):DW X E (.BoolOp .Or (a::b::rest) pos) (tOr sa sb) (bOr na nb):=⟨zP ha.p hb.p,ZwC ha.s hb.s⟩
def DW.dt(h:DW X E a sa na):DT X E a sa na:=⟨h.p.pt,h.s⟩
def HY(ha:DT X E a sa na):DT X E (.UnaryOp .Not a pos) (tNot sa) (bNot na):=⟨yd ha.p,o9 ha.s⟩
def z6{op}(ha:DE X E a ta ma):DE X E (.BoolOp op [a] pos) ta ma:=⟨uE ha.p,ha.s⟩
def nW{rest:List Expr}(ha:DE X E a ta ma)(hb:DE X E (.BoolOp .And (b::rest) pos) tb mb):DE X E (.BoolOp .And (a::b::rest) pos) (Ur ta tb) (eAnd ma mb):=⟨fP ha.p hb.p,wO ha.s hb.s⟩
def yL(ha:DE X E a ta ma):DE X E (.UnaryOp .Not a pos) (Vn ta) (eNot ma):=⟨vz ha.p,eG ha.s⟩
def jz(hc:DT X E c' sa na)(ha:DE X E a ta ma)(hb:DE X E b tb mb):DE X E (.IfExp c' a b pos) (tIf sa ta tb) (ife na ma mb):=⟨oH hc.p ha.p hb.p,nZ hc.s ha.s hb.s⟩
def CT:DA X E 0 [] tNil Ab:=⟨GK,U8,WP⟩
def Bu(ha:DE X E e te me)(hr:DA X E n es t m)(hs:starEach (e::es) X.env=(false,eval e X.env)::starEach es X.env:=by rfl):DA X E (n+1) (e::es) (Bg te t) (Aa me m):=⟨Dy ha.p hr.p hs,Zsk ha.s hr.s,oW hr.n⟩
def Zm{x1}(h:DA X E n es t m)(hn:n<=sizeLine:=by decide):DE X E (.Tuple es x1 pos) (tTup t) (mtp m):=⟨XM h.p,gw h.s h.n hn⟩
def W9(h:DA X E n es t m)(hn:n<=sizeLine:=by decide):DE X E (.List es pos) (tLst t) (mls m):=⟨P0 h.p,mz h.s h.n hn⟩
def Ge{id:String}{r:List V->Hp->VK->Prop}{f:List D->Res D}{p:Pos}(hc:Et X (.builtin id) r)(hf:CallD X.K X.mg r f)(hg:Gl X x)(hm:X.mg x=none)(hv:bootBuiltins x=some (.builtin id))(ha:DA X E n (e::es) t m)(hn:x ≠ "__name__":=by decide)(hdb:ND x:=by decide)(he:starEach (e::es) X.env=(false,eval e X.env)::starEach es X.env:=by rfl)(hpl:(backTo pos (starEach es X.env)).any (·.1)=false:=by rfl):DE X E (.Call (.Name x p) (e::es) [] pos) (tCB r t) (on f m):=⟨ZW hc hg hm hv ha.p hn hdb he hpl,Z9 hf ha.s⟩
def TQ(hc:Et X (.type T) r)(hf:CallD X.K X.mg r f)(hg:Gl X x)(hm:X.mg x=none)(hv:bootBuiltins x=some (.type T))(ha:DA X E n (e::es) t m)(hn:x ≠ "__name__":=by decide)(hdb:ND x:=by decide)(he:starEach (e::es) X.env=(false,eval e X.env)::starEach es X.env:=by rfl)(hpl:(backTo pos (starEach es X.env)).any (·.1)=false:=by rfl):DE X E (.Call (.Name x p) (e::es) [] pos) (tCB r t) (on f m):=⟨WT hc hg hm hv ha.p hn hdb he hpl,Z9 hf ha.s⟩
structure Cal(P:Program)(w:World)(K:W.Frag)(mg:Str->Option Value)(base:Heap)(n:Nat)(x:Str)(ps:List Str)(m:List D->Res D):Prop where
 ex:∃(f:Addr) (fd:FuncData),FnOk P w K mg base (CXR P w) n f fd ps (spD K mg ps.length m)/\Binds K fd ps []/\W.keepIn K (.ref f)=true/\mg x=some (.ref f)
def Hq(C:Cal X.prog X.w X.K X.mg X.base k x ps f)(hr:Room l X.A)(hn:k<=l)(hg:Gl X x)(hx:Ea (CXR X.prog X.w) X E)(ha:DA X E n (e::es) t m)(hps:ps.length=n:=by rfl)(hdb:ND x:=by decide)(he:starEach (e::es) X.env=(false,eval e X.env)::starEach es X.env:=by rfl)(hpl:(backTo pos (starEach es X.env)).any (·.1)=false:=by rfl) :
  DE X E (.Call (.Name x p) (e::es) [] pos) (Gv (spD X.K X.mg ps.length f) [] E t) (on f m):=by
 obtain ⟨g,d,F,b,c,a⟩:=C.ex;exact ⟨U6 F (hr.mono hn) hg a c b .nil hx ha.p hdb he hpl,by rw [hps];exact rZ ha.s ha.n⟩
def ZuW:Ea (CXR X.prog X.w) (BZ X N scope cl C s H fp pn) E0:=by
 intro a Y H s e b I h;obtain ⟨_,_,_,_,_,_,_,q⟩:=h;exact q.elim
end
section
variable {a b c' tg:Expr} {ta tb tc:TE} {ma mb mc:ME} {sa sb:TT} {na nb:MB} {t:TA} {m:MA}
def fY:SlR X (rSlU X.K):=by
 intro c s Y H x v q o n f t Q I l m g i h;obtain ⟨a,b,rfl,k,u,p⟩:=h;by_cases hw:HT.sIx b.length 0 n=0/\HT.sIx b.length b.length f=b.length
 .cases l;obtain ⟨e,r,j,w⟩:=I.tuple k;have d:e.toArray.size=b.length:=by rw [Be];exact r.length.symm
  exact ⟨"tuple",_,PyProof.Rows.slot_tuple_getitem.lookup,j.typeIs,HT.zf j m g i (by rw [d];exact hw) ⟨.ref a,H,I,rfl,u hw⟩⟩
 .exact xR c s Y H (.ref a) v q o n f t Q I l m g i ⟨a,b,rfl,k,hw,p hw⟩
def uh:DO X E none Ut pno:=⟨uV,Ks⟩
def pY(h:DE X E a ta ma):DO X E (some a) (VV ta) (pso ma):=⟨oF h.p,K1 h.s⟩
def ir{lo hi:Option Expr}{tl th:TO}{ml mh:Ev->Res (Option Int)}{p2:Pos}(ha:DE X E a ta ma)(hl:DO X E lo tl ml)(hh:DO X E hi th mh):DE X E (.Subscript a (.Slice lo hi none p2) pos) (tSl (rSlD X.K) ta tl th) (cut ma ml mh) :=
 ⟨wU (SlR.or lu fY) ha.p hl.p hh.p,ZvD ha.s hl.s hh.s⟩
def zB{n:String}(ht:Pq d=some tn)(hn:Ot.contains n=true):W.kitOne K (.type tn) (.type n)=some (isTy tn n):=by
 have b:n = "int"\/n = "bool"\/n = "str"\/n = "tuple"\/n = "list"\/n = "dict":=by
  simpa [Ot] using hn
 have a:tn = "NoneType"\/tn = "bool"\/tn = "int"\/tn = "str"\/tn = "tuple"\/tn = "list":=by
  cases d<;>simp [Pq] at ht<;>subst ht<;>simp
 rcases a with rfl | rfl | rfl | rfl | rfl | rfl<;>rcases b with rfl | rfl | rfl | rfl | rfl | rfl <;>
  first
  | exact jM K _
  | exact zj K (by decide +kernel) (by decide +kernel) (by decide +kernel)
def rIsi(K:W.Frag):List V->Hp->VK->Prop:=λd H Q=>∃x n c b,d=[x,.ty n]/\W.kitOne K (.type c) (.type n)=some b/\Q (.bl b) H /\
 ((x=.non/\c = "NoneType")\/(∃y,x=.bl y/\c = "bool")\/(∃y,x=.int y/\c = "int")\/(∃y,x=.str y/\c = "str")\/(∃a d,x=.ref a/\SqT K H a d/\c = "tuple")\/(∃a d,x=.ref a/\SqL K H a d/\c = "list"))
def xY:Et X (.builtin "isinstance") (rIsi X.K):=by
 intro d s Y H j p Q I r h;obtain ⟨x,n,v,l,rfl,e,q,h⟩:=h;obtain ⟨u,t,rfl,c,m⟩:=vals2 r;cases m;have b:∀k,EP X d Y Q (.bool l) { s with toks:=k }:=λk=>⟨.bl l,H,I.tok _,rfl,q⟩
 rcases h with ⟨rfl,rfl⟩ | ⟨y,rfl,rfl⟩ | ⟨y,rfl,rfl⟩ | ⟨y,rfl,rfl⟩ | ⟨a,j,rfl,hq,rfl⟩ | ⟨a,j,rfl,hq,rfl⟩
 .exact Qi I c .non e b
 .exact Qi I c (.bl y) e b
 .exact Qi I c (.int y) e b
 .exact Qi I c (.str y) e b
 .cases c;obtain ⟨g,_,⟨o,i,f,_⟩,_⟩:=I.tuple hq;exact G6 W.kitx_tuple I.kIn ⟨o,i,f⟩ e (λz=>nomatch z) b
 .cases c;obtain ⟨g,_,⟨o,_,i,f,_⟩,_⟩:=I.list hq;exact G6 W.kitx_list I.kIn ⟨o,i,f⟩ e (λz=>nomatch z) b
def fO:CallD K mg (rIsi K) bIsi:=by
 intro E F H f g s r;unfold bIsi;split
 .next d a=>
  obtain ⟨x,y,rfl,c,b⟩:=r.two;cases b;by_cases hn:Ot.contains a=true
  .rw [iP hn];cases e:Pq d with
   | none=>trivial
   | some tn=>
    have k:=zB (K:=K) e hn;refine .ret s (.bl _) λQ q=>⟨x,a,tn,_,rfl,k,q,?_⟩;cases c with
    | non=>cases e;exact .inl ⟨rfl,rfl⟩
    | bl y=>cases e;exact .inr (.inl ⟨y,rfl,rfl⟩)
    | int y=>cases e;exact .inr (.inr (.inl ⟨y,rfl,rfl⟩))
    | str y=>cases e;exact .inr (.inr (.inr (.inl ⟨y,rfl,rfl⟩)))
    | ty y=>cases e
    | cls y=>cases e
    | exc y h=>cases e
    | ins m h o q r=>cases e
    | tup h r=>cases e;exact .inr (.inr (.inr (.inr (.inl ⟨_,_,rfl,Ec s h,rfl⟩))))
    | lst h r=>cases e;exact .inr (.inr (.inr (.inr (.inr ⟨_,_,rfl,s.seq h,rfl⟩))))
  .rw [iN hn];trivial
 .trivial
def Qq(hN:X.N.Nodup)(hi:X.N[i]?=some x)(hx:Loc X.env.scope x)(hl:i<n)(hf:X.fn x=true\/X.env.scope.names.lookup x=some .local:=by first | exact .inl rfl | exact .inr rfl | assumption):DG X n (.Name x pos) (Bt i) (gN i) :=
 ⟨bR hN hi hx hf,qm hl,λ_ _ _ h=>by cases h⟩
def YQ:DGs X n [] gNil gs0:=⟨gY,sX,λd Z c h=>by
 unfold gs0 at h
 split at h<;>cases h⟩
def Ss{t:TG}{u:TGs}{g:MG}{gs:MGs}(h1:DG X n e t g)(h2:DGs X n es u gs)(hs:(assignEach (e::es) X.env).map (·.2)=assign e X.env::(assignEach es X.env).map (·.2):=by rfl):DGs X n (e::es) (RN t u) (gs1 g gs) :=
 ⟨tK h1.p h2.p hs,tY h1.s h2.s,λd Z c h=>by
  unfold gs1 at h;split at h
  .next a b=>
   cases eg:g a Z with
   | ok Z'=>
    rw [eg] at h;exact h2.x b Z' c h
   | ex c'=>exact h1.x a Z c' eg
   | bad=>rw [eg] at h;cases h
  .cases h⟩
def dZ(hc:X.calm=true)(h:DGs X n es u g)(hn:(assignEach es X.env).length=j:=by rfl)(hst:(assignEach es X.env).findIdx? (·.1)=none:=by rfl):DG X n (.Tuple es k pos) (gSeq X.K j u) (gU j g):=by
 refine ⟨?_,m8 h.s,λd Z c m=>?_⟩
 .intro f s Y H v w Q I r hw;rcases hw with hw | hw
  .exact nG hc h.p hn hst f s Y H v w Q I r hw
  .obtain ⟨a,l,C,B,A,hw⟩:=hw;subst C;cases r;obtain ⟨y,q,t,F⟩:=I.list B;refine qg (I.ok.hd hc) t.isList (by simp [hn,<-A,q.length]) hst λE z=>?_;have D:=I.kept (t':=s.toks) λb o e=>z b o (BR (BK e)) e;exact h.p f _ Y H l _ Q D (by simpa using q) hw
 .unfold gU at m;cases ei:items d with
  | ok l=>
   rw [ei] at m;have i:(if l.length=j then g l Z else .bad)=.ex c:=m
   split at i
   .exact h.x l Z c i
   .cases i
  | ex c'=>unfold items at ei;split at ei<;>cases ei
  | bad=>rw [ei] at m;cases m
def Cu(h:DE X E a ta ma):DI X E tg a (iSeq X.K ta) (iv ma):=by
 refine ⟨?_,lq h.s⟩;intro f s Y H R I m;refine thn (h.p f s Y H _ I m) λv d zq=>?_;obtain ⟨x,l,c,n,k⟩:=zq;obtain ⟨p,rfl,k⟩:=k;cases n;rcases k with ⟨⟨xs,hq⟩,q⟩ | ⟨⟨xs,hq⟩,q⟩
 .obtain ⟨i,r,g,t⟩:=c.list hq;refine NZ g.isList ?_;refine ⟨d.heap.objs.size,[d.heap.objs.size],_,_,l,rfl,c.kept λb o e=>Bf _ e,ie p _,⟨_,CQ _ rfl,rfl,rfl⟩,λb j=>?_,q⟩;have e:b=d.heap.objs.size:=by simpa using j
  subst e;exact c.fpOk (Am _) (c.hok.fresh (Am _))
 .obtain ⟨i,r,g,t⟩:=c.tuple hq;refine wpAny_pyIter_tuple (g) ?_;refine ⟨d.heap.objs.size,[d.heap.objs.size],_,_,l,rfl,c.kept λb o e=>Bf _ e,iD p _,⟨_,CQ _ rfl,rfl,rfl⟩,λb j=>?_,q⟩;have e:b=d.heap.objs.size:=by simpa using j
  subst e;exact c.fpOk (Am _) (c.hok.fresh (Am _))
def ZwN(hg:Gl X "range")(hm:X.mg "range"=none)(ha:DA X E n [a] t m)(hs:starEach [a] X.env=[(false,eval a X.env)]:=by rfl):DI X E tg (.Call (.Name "range" p) [a] [] pos) (Tu t) (r1 m):=⟨pM hg hm ha.p hs,xM ha.s⟩
def ZP(hg:Gl X "range")(hm:X.mg "range"=none)(ha:DA X E n [a,b] t m)(hs:starEach [a,b] X.env=[(false,eval a X.env),(false,eval b X.env)]:=by rfl)(hs2:starEach [b] X.env=[(false,eval b X.env)]:=by rfl) :
  DI X E tg (.Call (.Name "range" p) [a,b] [] pos) (TF t) (r2 m):=⟨qX hg hm ha.p hs hs2,pA ha.s⟩
def Wh:∀(ds:List D) (k i:Nat) (d:D),(Dl.numbered k ds)[i]?=some d->∃x,ds[i]?=some x/\d=.tup [.int (k+i:Nat),x]
 | [],_,_,_,h=>by simp [Dl.numbered] at h
 | x::r,k,0,d,h=>by simp [Dl.numbered] at h;exact ⟨x,rfl,h.symm⟩
 | x::r,k,i+1,d,h=>by
  obtain ⟨y,b,a⟩:=Wh r (k+1) i d (by simpa [Dl.numbered] using h);exact ⟨y,by simpa using b,by rw [a,Nat.add_right_comm,Nat.add_assoc]⟩
def cz:∀ds k,(Dl.numbered k ds).length=ds.length
 | [],_=>rfl
 | _::r,k=>Bw (·+1) (cz r (k+1))
def wD{F:Hp}{a:Addr}(h:SqL K F a xs)(r:Rps K mg F xs ds):ItOk K mg F (Ite K a) (Dl.numbered 0 ds):=by
 intro v u g b i;have c:=(g.trans b).seq h;refine ⟨λd e=>?_,λj=>⟨xs,c,by rw [r.length];rw [cz] at j;exact j⟩⟩;obtain ⟨t,o,rfl⟩:=Wh ds 0 i d e;obtain ⟨x,l,n⟩:=r.get o;refine ⟨⟨xs,x,c,l⟩,λy s q=>?_⟩;obtain ⟨T,p,f,rfl,rfl,m⟩:=q;have k:=m xs c;rw [l] at k;cases k;refine ⟨_,.new b f _,.tup (SqT.of An) (.cons ?_ (.cons ((n.same g).same (DP (b.free f) _)) .nil))⟩;rw [Nat.zero_add];exact .int _
def Tp{p:Bool}{a:Addr}(e:Same H H')(h:SqB K p H a xs):SqB K p H' a xs:=by
 cases p
 .exact e.seq h
 .exact Ec e h
def Te{F:Hp}{x:V}(r:Rp K mg F x d)(e:seqD d=.ok ds):∃p a xs,x=.ref a/\SqB K p F a xs/\Rps K mg F xs ds:=by
 cases r with
 | tup h q=>cases e;exact ⟨true,_,_,rfl,h,q⟩
 | lst h q=>cases e;exact ⟨false,_,_,rfl,h,q⟩
 | _=>cases e
def Ti{c:Str}:seqD d≠.ex c:=by cases d<;>intro h<;>cases h
def Ni(hg:Gl X "enumerate")(hm:X.mg "enumerate"=none)(ha:DA X E n [a] t m)(hs:starEach [a] X.env=[(false,eval a X.env)]:=by rfl):DI X E (.Tuple elts x1 tpos) (.Call (.Name "enumerate" p) [a] [] pos) (Yu X.K t) (JC m):=by
 refine ⟨pZ hg hm ha.p hs,?_⟩;intro i j F H Y Z e;refine (ha.s i j F H Y Z e).bind λl o k b c g=>?_;unfold PP;split
 .next d=>
  obtain ⟨x,rfl,f⟩:=g.one;cases d with
  | lst b=>
   cases f with
   | lst h r=>exact Ans.ret c.s (wD h r) λQ q=>⟨_,rfl,⟨_,c.s.seq h⟩,q⟩
  | tup b=>trivial
  | _=>trivial
 .trivial
end
structure DTs(X:Cx)(E:XK)(ts:List Expr)(t:TT)(m:MB):Prop where
 p:PTs X ts t
 s:STt X.K X.mg E t m
section
variable {a b c' tg iter elt:Expr} {ts:List Expr} {ta tb tc:TE} {ma mb mc:ME} {sa sb:TT} {na nb:MB} {t:TA} {m:MA} {y:Str}
def jW:STt K mg E tYes yes:=λ_ _ _ _ _ _ r=>Ans.ret (R:=RB) r.ss rfl λ_ q=>q
def mZ:DTs X E [] tYes yes:=⟨m5,jW⟩
def aJ(h:DT X E a sa na):DTs X E [a] sa na:=⟨tV h.p,h.s⟩
def Dm(hi:DI X E tg iter wi mi)(O:Fi X own cap scope cl)(hc:X.calm=true)(hg:∀C s H fp pn,DG (BZ X (own++cap.map (·.1)) scope cl C s H fp pn) own.length tg (g C s H fp pn) gm)(ht:∀C s H fp pn,DTs (BZ X (own++cap.map (·.1)) scope cl C s H fp pn) E0 ts (tt C s H fp pn) na)(he:∀C s H fp pn,DE (BZ X (own++cap.map (·.1)) scope cl C s H fp pn) E0 elt (tf C s H fp pn) me)(hts:ts.length<=1:=by decide)(hs:∀x,foldedSetIterable iter X.env x=pure x:=by intro _;rfl) :
  DE X E (.ListComp elt [⟨tg,iter,ts,0⟩] scope pos) (GJ wi g tt tf own cap) (comp mi own.length (cap.map (·.2)) gm na me) :=
 ⟨mD hi.p O hc (λC s H fp pn=>(hg C s H fp pn).p) (λC s H fp pn=>(ht C s H fp pn).p) (λC s H fp pn=>(he C s H fp pn).p) hts hs,
  aW hi.s (λC s H fp pn=>(hg C s H fp pn).s) (λC s H fp pn=>(ht C s H fp pn).s) (λC s H fp pn=>(he C s H fp pn).s)⟩
def Wx(hN:X.N.Nodup)(hix:X.N[i]?=some x)(hx:Loc X.env.scope x)(hi:DI X E tg iter wi mi)(O:Fi X own cap scope cl)(hc:X.calm=true)(hg:∀C s H fp pn,DG (BZ X (own++cap.map (·.1)) scope cl C s H fp pn) own.length tg (g C s H fp pn) gm)(ht:∀C s H fp pn,DTs (BZ X (own++cap.map (·.1)) scope cl C s H fp pn) E0 ts (tt C s H fp pn) na)(he:∀C s H fp pn,DE (BZ X (own++cap.map (·.1)) scope cl C s H fp pn) E0 elt (tf C s H fp pn) me)(hts:ts.length<=1:=by decide)(hsw:swapsWith (.ListComp elt [⟨tg,iter,ts,0⟩] scope pos) (some (.Name x pos')) spos.line X.env=pure true:=by rfl)(hs:∀x,foldedSetIterable iter X.env x=pure x:=by intro _;rfl)(hf:X.fn x=true\/X.env.scope.names.lookup x=some .local:=by first | exact .inl rfl | exact .inr rfl | assumption) :
  DS X E (.Assign [.Name x pos'] (.ListComp elt [⟨tg,iter,ts,0⟩] scope pos) spos) (tAsg (GJ wi g tt tf own cap) (Bt i)) (st i (comp mi own.length (cap.map (·.2)) gm na me)) :=
 ⟨RK hN hix hx hi.p O hc (λC s H fp pn=>(hg C s H fp pn).p) (λC s H fp pn=>(ht C s H fp pn).p) (λC s H fp pn=>(he C s H fp pn).p) hts hsw hs hf,
  cC (aW hi.s (λC s H fp pn=>(hg C s H fp pn).s) (λC s H fp pn=>(ht C s H fp pn).s) (λC s H fp pn=>(he C s H fp pn).s))⟩
def JQ(hN:X.N.Nodup)(hi:X.N[i]?=some x)(hx:Loc X.env.scope x)(he:DE X E e te me)(hs:swapsWith e (some (.Name x pos')) spos.line X.env=pure false:=by rfl)(hf:X.fn x=true\/X.env.scope.names.lookup x=some .local:=by first | exact .inl rfl | exact .inr rfl | assumption) :
  DS X E (.Assign [.Name x pos'] e spos) (tAsg te (Bt i)) (st i me):=⟨Nb hN hi hx he.p hs hf,cC he.s⟩
def qJ(he:DE X E e te me)(hg:DG X 1000 tg g gm)(hs:swapsWithSole [tg] e spos.line X.env=pure false:=by rfl)(hw:swappedStores [tg] e X.env=pure none:=by rfl)(h1:(assignEach [tg] X.env).map (·.2)=[assign tg X.env]:=by rfl):DS X E (.Assign [tg] e spos) (tAsg te g) (asg gm me):=⟨Oh he.p hg.p hs hw h1,mO he.s hg.s hg.x⟩
def ZtK(he:DE X E e te me)(hs:swapsWith e none spos.line X.env=pure false:=by rfl):DS X E (.Expr e spos) (CG te) (drp me):=⟨Gp he.p hs,uG he.s⟩
def Eg(he:DE X E e te me):DS X E (.Return (some e) spos) (tRet te) (ret me):=⟨ao he.p,m6 he.s⟩
def Uz:DS X E (.Continue spos) Kg cnt:=⟨jh,zx⟩
def Uk{st:Stmt}{u:TS}{k:MS}(h:DS X E st u k):DS X E st u (frz i k):=⟨h.p,jg h.s⟩
def Cj:DSs X E [] Gi nop:=⟨K8,cX⟩
def Ba{st:Stmt}{u:TS}{k:MS}(h:DS X E st u k):DSs X E [st] u k:=⟨Uq h.p,h.s⟩
def Ai{st:Stmt}{rest:List Stmt}{u u':TS}{k k':MS}(h:DS X E st u k)(h':DSs X E rest u' k'):DSs X E (st::rest) (tSeq u u') (sq k k'):=⟨Ga h.p h'.p,wR h.s h'.s⟩
def Cm{k:MS}(hc:DT X E c' sa na)(ha:DSs X E as u k)(hb:DSs X E bs u' k'):DS X E (.If c' as bs spos) (tIfS sa u u') (ifs na k k'):=⟨Ob hc.p ha.p hb.p,zA hc.s ha.s hb.s⟩
def Eu{k:MS}(hp:PassesOwn (model X.prog X.w) X.A X.env X.xe)(hc:X.calm=true)(hi:DI X E tg iter wi mi)(hg:DG X 1000 tg g gm)(hb:DSs X E body u k)(hs:∀x,foldedSetIterable iter X.env x=pure x:=by intro _;rfl):DS X E (.For tg iter body [] spos) (tFor wi g u) (for_ mi gm k):=⟨Sw hp hc hi.p hg.p hb.p hs,Zve hi.s hg.s hg.x hb.s⟩
def W4{k:MS}(hp:PassesOwn (model X.prog X.w) X.A X.env X.xe)(hc:DT X E c' sa na)(hb:DSs X E body u k):DS X E (.While c' body [] spos) (Qs sa u) (whl fu na k):=⟨yq hp hc.p hb.p,q9 hc.s hb.s⟩
end
section
variable {qual:Str} {scope:Scope} {f:Addr} {cd:Value} {outer:List Env} {s₀:Shared} {H₀:Hp} {t:TA} {m:MA}
def RP(hg:Gl (cxOf (CXR P w) P w K mg base N qual scope f cd A outer s₀ H₀ E) x)(hm:mg x=some (.ref C))(hq:W.excIn K C J9 "ValueError.__new__"=true)(ha:DA (cxOf (CXR P w) P w K mg base N qual scope f cd A outer s₀ H₀ E) E n (e::es) t m)(hn:n<=1000:=by decide)(hd:ND x:=by decide)(he:starEach (e::es) (cxOf (CXR P w) P w K mg base N qual scope f cd A outer s₀ H₀ E).env=(false,eval e (cxOf (CXR P w) P w K mg base N qual scope f cd A outer s₀ H₀ E).env)::starEach es (cxOf (CXR P w) P w K mg base N qual scope f cd A outer s₀ H₀ E).env:=by rfl)(hpl:(backTo cpos (starEach es (cxOf (CXR P w) P w K mg base N qual scope f cd A outer s₀ H₀ E).env)).any (·.1)=false:=by rfl)(hcx:clsOf x=x:=by decide +kernel)(hpx:pay x=none:=by decide +kernel) :
  DS (cxOf (CXR P w) P w K mg base N qual scope f cd A outer s₀ H₀ E) E (.Raise (some (.Call (.Name x np) (e::es) [] cpos)) none pos) (b8 E C t) (rse x m):=by
 refine ⟨kW hg hm hq ha.p hd he hpl,?_⟩;intro j l F H Y Z a;refine (ha.s j l F H Y Z a).stm a.g λb c d h o k i=>?_
 exact λD q=>⟨by rw [i.length,ha.n Z b c];exact hn,by
  have z:=q d h C (a.g.trans k) (by rw [hcx];exact hm);rw [hpx] at z
  exact z⟩
def Vd{F:Hp}(s:Same F H)(r:Rps K mg F vs ds):Rep K mg F H F H (start N vs) (ev0 N.length ds):=by
 have k:=r.length;have b:∀(i:Nat) (c:Cl),(ev0 N.length ds)[i]?=some c->c=.no\/∃d,ds[i]?=some d/\c=.im d:=by
  intro i c e;rw [MJ] at e;by_cases f:i<ds.length
  .rw [Eo (by simpa using f),Ca,Aw f] at e;exact .inr ⟨ds[i],Aw f,(Br e).symm⟩
  .rw [Fp (by simpa using f),JS] at e;split at e
   .exact .inl (Br e).symm
   .cases e
 refine ⟨.refl s,?_,λi d e=>?_,λi g e=>?_,λi j g l a e=>?_⟩
 .rw [MJ];unfold start;simp [k]
 .rcases b i _ e with z | ⟨d',e1,z⟩
  .cases z
  .cases z;obtain ⟨v,h,m⟩:=r.get e1;refine ⟨v,?_,m⟩;have f:=(Cd.mp h).1;unfold start;rw [Eo (by simpa using f),Ca,h];rfl
 .rcases b i _ e with z | ⟨d',e1,z⟩<;>cases z
 .rcases b i _ e with z | ⟨d',e1,z⟩<;>cases z
def okD{st:Stmt}{mb:MS}(F:Fun K x x st f fd)(S:Ci N ps (Ax st))(h:∀(cdv:Value) (A:Around) (outer:List Env) (s:Shared) (H:Hp) (E:XK),Room k (A.deeper (envOfC x (Ax st) s.heap.objs.size f cdv))->∃t,DSs (cxOf (CXR P w) P w K mg base N x (Ax st) f cdv A outer s H E) E (Dv st) t mb) :
  FnOk P w K mg base (CXR P w) (k+1) f fd ps (spD K mg ps.length (fn N.length mb)):=by
 obtain ⟨V,Y,T,R,U,W,cdv,ct,M,rfl,G,m⟩:=F.ex;refine M7 G m S (λy H Q E q=>q.1) λA outer s H y Q E L n=>?_;obtain ⟨t,r⟩:=h cdv A outer s H E L;refine ⟨t,r.p,?_⟩;obtain ⟨_,o,u,I,O,i,a,b⟩:=n;have z:=r.s o H o H (start N y) (ev0 N.length u) (Vd I O);unfold fn at i a b;cases e:mb (ev0 N.length u) with
 | ok fl=>
  rw [e] at z i a b;cases fl with
  | nx Z=>exact z _ λj l X _ B=>a .non rfl j l .non B.g .non
  | rt d=>exact z _ λj l v g J=>a d rfl j l v g J
  | bk Z=>exact aB rfl i
  | ct Z=>exact aB rfl i
 | ex c=>
  rw [e] at z b;exact z _ λj l C g D=>b c rfl j l C g D
 | bad=>rw [e] at i;exact aB rfl i
def _root_.L2.Def.cal{st:Stmt}{mb:MS}(D:Def K mg x st ps)(S:Ci N ps (Ax st))(h:∀(f:Addr) (cdv:Value) (A:Around) (outer:List Env) (s:Shared) (H:Hp) (E:XK),Room k (A.deeper (envOfC x (Ax st) s.heap.objs.size f cdv))->∃t,DSs (cxOf (CXR P w) P w K mg base N x (Ax st) f cdv A outer s H E) E (Dv st) t mb) :
  Cal P w K mg base (k+1) x ps (fn N.length mb):=by
 obtain ⟨f,a,F,b,c⟩:=D.ex;exact ⟨f,a,okD F S (h f),b,F.kp,c⟩
end
def rB{e:Value}(h:CXR P w l H s (λ_ _ _=>False) e s'):False:=by
 obtain ⟨_,_,_,_,_,_,_,q⟩:=h;exact q
def Qm(K:W.Frag):Sp:=λc H Q _=>∃(a:Addr) (ns:List Int),c=[.ref a]/\SqL K H a (ns.map V.int)/\ns.length<=63/\∀b,Q (.bl true) b
def Wf:∀ns:List Int,Rps K mg H (ns.map V.int) (ns.map D.int)
 | []=>.nil
 | n::r=>.cons (.int n) (Wf r)
def jc(h:∀ns:List Int,ns.length<=63->m [.lst (ns.map .int)]=.ok (.bl true)):∀vs H Q E,Qm K vs H Q E->spD K mg 1 m vs H Q E:=by
 rintro vs H Q E ⟨a,ns,rfl,f,i,q⟩;have e:=h ns i;refine ⟨rfl,H,_,Same.refl _,.cons (.lst f (Wf ns)) .nil,λz=>?_,λd b=>?_,λc b=>?_⟩
 .rw [e] at z;cases z
 .rw [e] at b;cases b;intro k g x _ j;cases j;exact q g
 .rw [e] at b;cases b
def ni(C:Cal X.prog X.w X.K X.mg X.base k x ps f)(hr:Room l X.A)(hn:k<=l)(hg:Gl (BZ X N scope cl C' s H fp pn) x)(ha:DA (BZ X N scope cl C' s H fp pn) E0 n (e::es) t m)(hps:ps.length=n:=by rfl)(hdb:ND x:=by decide)(he:starEach (e::es) (BZ X N scope cl C' s H fp pn).env=(false,eval e (BZ X N scope cl C' s H fp pn).env)::starEach es (BZ X N scope cl C' s H fp pn).env:=by rfl)(hpl:(backTo pos (starEach es (BZ X N scope cl C' s H fp pn).env)).any (·.1)=false:=by rfl) :
  DE (BZ X N scope cl C' s H fp pn) E0 (.Call (.Name x p) (e::es) [] pos) (Gv (spD X.K X.mg ps.length f) [] E0 t) (on f m) :=
 Hq C hr hn hg ZuW ha hps hdb he hpl
section
def all_range:∀bs:List Bool,((List.range bs.length).all λi=>bs.getD i true)=bs.all id
 | []=>rfl
 | b::r=>by
  rw [By,Qx,List.all_cons,List.all_map,List.all_cons,<-all_range r];rfl
def cT:∀(bs:List Bool) (its:List Value),Vals (bs.map V.bl) its->its=bs.map Value.bool
 | [],_,.nil=>rfl
 | b::r,_,.cons h t=>by
  cases h;rw [Bb,cT r _ t]
def rAll(K:W.Frag):List V->Hp->VK->Prop:=λb H Q=>∃(a:Addr) (bs:List Bool),b=[.ref a]/\SqL K H a (bs.map V.bl)/\Q (.bl (bs.all id)) H
def NP(hc:X.calm=true):Et X (.builtin "all") (rAll X.K):=by
 intro j s Y H x y Q I r h;obtain ⟨a,c,rfl,p,q⟩:=h;obtain ⟨u,rfl,l⟩:=vals1 r;cases l;obtain ⟨g,w,f,D⟩:=I.list p;obtain rfl:=cT c g w;have t:a<s.heap.objs.size:=by
  obtain ⟨o,_,m,_⟩:=f;exact BK m
 refine call_all_walk (NZ f.isList ?_);refine ⟨s.heap.objs.size,_,_,_,_,_,λi=>c.getD i true,rfl,Walks.list (A:=X.A.in1) (I.ok.hd hc) s.heap.objs.size a (BR t) (c.map Value.bool).toArray,⟨⟨_,CQ _ rfl,rfl,rfl⟩,?_⟩,?_,λE B k=>?_⟩
 .exact f.isList.at λo e=>Bf _ e
 .intro i v C F G d n;have e:v=.bool (c.getD i true):=by
   rw [List.getElem?_toArray,Ca] at d;cases q:c[i]? with
   | none=>rw [q] at d;cases d
   | some b=>
    rw [q] at d;cases d;rw [List.getD_eq_getElem?_getD,q];rfl
  subst e;exact Ae n
 .have e:(List.range (c.map Value.bool).toArray.size).all (λi=>c.getD i true)=c.all id:=by
   rw [Be,Ad];exact all_range c
  rw [e];exact ⟨.bl (c.all id),H,I.kept λb o z=>k b o (by simp;exact BR (BK z)) (Bf _ z),rfl,q⟩
def YZ{F:Hp}:∀{xs:List V} {ds:List D} {bs:List Bool},Rps K mg F xs ds->bools ds=.ok bs->xs=bs.map V.bl
 | _,_,_,.nil,e=>by cases e;rfl
 | _,_,bs,.cons (d:=d) (ds:=ds) h r,e=>by
  unfold bools at e;cases d with
  | bl b=>
   cases q:bools ds with
   | ok bs'=>
    simp only [q,Res.bind] at e;cases e;cases h;rw [Bb,YZ r q]
   | ex c=>simp only [q,Res.bind] at e;cases e
   | bad=>simp only [q,Res.bind] at e;cases e
  | _=>cases e
def dH{c:Str}:∀ds:List D,bools ds≠.ex c
 | [],h=>by cases h
 | d::r,h=>by
  unfold bools at h;cases d with
  | bl b=>
   cases q:bools r with
   | ok bs'=>simp only [q,Res.bind] at h;cases h
   | ex c'=>exact dH r q
   | bad=>simp only [q,Res.bind] at h;cases h
  | _=>cases h
def Ld:CallD K mg (rAll K) bAll:=by
 intro E F H f g s r;unfold bAll;split
 .next d=>
  obtain ⟨x,rfl,b⟩:=r.one;cases d with
  | lst es=>
   cases b with
   | lst h rs=>
    show Ans mg E (Rp K mg) F H ((bools es).bind λa=>.ok (.bl (a.all id))) _;cases q:bools es with
    | ok a=>
     have e:=YZ rs q;subst e;exact Ans.ret s (.bl _) λQ z=>⟨_,a,rfl,s.seq h,z⟩
    | ex c=>exact aB q (dH es)
    | bad=>trivial
  | _=>trivial
 .trivial
def Rps.three{K:W.Frag}{mg:Str->Option Value}{H:Hp}{xs:List V}{d e f:D}(h:Rps K mg H xs [d,e,f]):∃x y z,xs=[x,y,z]/\Rp K mg H x d/\Rp K mg H y e/\Rp K mg H z f:=by
 cases h with | cons h r=>obtain ⟨_,_,rfl,g⟩:=Rps.two r;exact ⟨_,_,_,rfl,h,g⟩
end
section
def WM{F:Hp}:∀{xs:List V} {ds:List D} {ns:List Int},Rps K mg F xs ds->Fw ds=.ok ns->xs=ns.map V.int
 | _,_,_,.nil,e=>by cases e;rfl
 | _,_,ns,.cons (d:=d) (ds:=ds) h r,e=>by
  unfold Fw at e;cases d with
  | int b=>
   cases q:Fw ds with
   | ok bs'=>
    simp only [q,Res.bind] at e;cases e;cases h;rw [Bb,WM r q]
   | ex c=>simp only [q,Res.bind] at e;cases e
   | bad=>simp only [q,Res.bind] at e;cases e
  | _=>cases e
def V8{c:Str}:∀ds:List D,Fw ds≠.ex c
 | [],h=>by cases h
 | d::r,h=>by
  unfold Fw at h;cases d with
  | int b=>
   cases q:Fw r with
   | ok bs'=>simp only [q,Res.bind] at h;cases h
   | ex c'=>exact V8 r q
   | bad=>simp only [q,Res.bind] at h;cases h
  | _=>cases h
end
section
def iU(ha:SA K mg E t m)(hl:SAn n m)(hn:n<=sizeLine):SS K mg E (tAsg (tLst t) (Bt i)) (stO i (mls m)):=by
 intro r o F H Y Z b;have h:=ha r o F H Y Z b;unfold stO mls;cases e:m Z with
 | ok ds=>
  rw [e] at h;exact λD q=>h _ λa d s g j=>⟨by rw [j.length,hl Z ds e];exact hn,λp k=>q a _ _ g.f ((b.gr g).own i k j)⟩
 | ex c=>
  rw [e] at h;exact λD q=>h _ λa d C g l=>q a d C (b.g.trans g) l
 | bad=>trivial
def my{te:Fam TE}(hi:SI K mg E wi mi)(hg:∀C s H fp pn,SG K mg own.length (t C s H fp pn) g)(ht:∀C s H fp pn,STt K mg E0 (tt C s H fp pn) nt)(he:∀C s H fp pn,SE K mg E0 (te C s H fp pn) me) :
  SS K mg E (tAsg (GJ wi t tt te own cap) (Bt i)) (stO i (comp mi own.length (cap.map (·.2)) g nt me)):=by
 intro u r F H Y Z a;have h:=hi u r F H Y Z a;unfold stO comp;cases e:mi Z with
 | ok ds=>
  rw [e] at h;show AnsS K mg E u r F ((if ds.length<=LIM then (noEx (Dl.Bc g nt me (noA own.length (Bm Z (cap.map (·.2)))) ds)).bind λo=>.ok (.lst o) else .bad).bind λd=>(lstO d).bind λm=>.ok (.nx (Z.set i (.ow m)))) _
  by_cases hl:ds.length<=LIM
  .rw [iP hl];cases e2:Dl.Bc g nt me (noA own.length (Bm Z (cap.map (·.2)))) ds with
   | ok o=>exact λD q=>h _ λz A J b x=>λC s j fp pn=>W3 (a.gr b) x (hg C s j fp pn) (ht C s j fp pn) (he C s j fp pn) hl e2 _ λk n m l y _ p v=>q k _ _ (b.f.trans l.f) (((a.gr b).gr l).own i v y)
   | ex c=>trivial
   | bad=>trivial
  .rw [iN hl];trivial
 | ex c=>
  rw [e] at h;exact λD q=>h _ λk n C g w=>q k n C (a.g.trans g) w
 | bad=>trivial
end
section
variable {a b c' tg iter elt:Expr} {ts:List Expr} {ta tb tc:TE} {ma mb mc:ME} {sa sb:TT} {na nb:MB} {t:TA} {m:MA} {y:Str}
def rA(hN:X.N.Nodup)(hi:X.N[i]?=some x)(hx:Loc X.env.scope x)(ha:DA X E n es t m)(hn:n<=sizeLine:=by decide)(hs:swapsWith (.List es pos) (some (.Name x pos')) spos.line X.env=pure false:=by rfl)(hf:X.fn x=true\/X.env.scope.names.lookup x=some .local:=by first | exact .inl rfl | exact .inr rfl | assumption) :
  DS X E (.Assign [.Name x pos'] (.List es pos) spos) (tAsg (tLst t) (Bt i)) (stO i (mls m)):=⟨Nb hN hi hx (P0 ha.p) hs hf,iU ha.s ha.n hn⟩
def XR(hN:X.N.Nodup)(hix:X.N[i]?=some x)(hx:Loc X.env.scope x)(hi:DI X E tg iter wi mi)(O:Fi X own cap scope cl)(hc:X.calm=true)(hg:∀C s H fp pn,DG (BZ X (own++cap.map (·.1)) scope cl C s H fp pn) own.length tg (g C s H fp pn) gm)(ht:∀C s H fp pn,DTs (BZ X (own++cap.map (·.1)) scope cl C s H fp pn) E0 ts (tt C s H fp pn) na)(he:∀C s H fp pn,DE (BZ X (own++cap.map (·.1)) scope cl C s H fp pn) E0 elt (tf C s H fp pn) me)(hts:ts.length<=1:=by decide)(hsw:swapsWith (.ListComp elt [⟨tg,iter,ts,0⟩] scope pos) (some (.Name x pos')) spos.line X.env=pure true:=by rfl)(hs:∀x,foldedSetIterable iter X.env x=pure x:=by intro _;rfl)(hf:X.fn x=true\/X.env.scope.names.lookup x=some .local:=by first | exact .inl rfl | exact .inr rfl | assumption) :
  DS X E (.Assign [.Name x pos'] (.ListComp elt [⟨tg,iter,ts,0⟩] scope pos) spos) (tAsg (GJ wi g tt tf own cap) (Bt i)) (stO i (comp mi own.length (cap.map (·.2)) gm na me)) :=
 ⟨RK hN hix hx hi.p O hc (λC s H fp pn=>(hg C s H fp pn).p) (λC s H fp pn=>(ht C s H fp pn).p) (λC s H fp pn=>(he C s H fp pn).p) hts hsw hs hf,
  my hi.s (λC s H fp pn=>(hg C s H fp pn).s) (λC s H fp pn=>(ht C s H fp pn).s) (λC s H fp pn=>(he C s H fp pn).s)⟩
def jw(i)(he:DE X E e te me)(hN:X.N[i]?=some x:=by rfl)(hv:Dd X.env.scope x:=by first | exact Or.inl rfl | exact Or.inr (Or.inl rfl) | exact Or.inr (Or.inr rfl))(hd:ND x:=by decide)(hcd:NE x:=by decide)(hbase:attributeBase (.Name x np) "append" X.env (eval (.Name x np) X.env)=eval (.Name x np) X.env:=by rfl) (hfew:((backTo cpos (starEach [e] X.env)).all (λx=>!x.1)&&(backToKw cpos (keywordEach [] X.env)).all (λx=>x.1.isSome)
   && decide ([e].length+([]:List Keyword).length+(if ([]:List Keyword).isEmpty then 0 else 1)<30))=true:=by rfl) (hline:(apos.endLine==cpos.line)=true:=by rfl) (hs:starEach [e] X.env=(false,eval e X.env)::starEach [] X.env:=by rfl) (hplain:(backTo cpos (starEach [] X.env)).any (·.1)=false:=by rfl) (hsw:swapsWith (.Call (.Attribute (.Name x np) "append" apos) [e] [] cpos) none spos.line X.env=pure false:=by rfl) :
  DS X E (.Expr (.Call (.Attribute (.Name x np) "append" apos) [e] [] cpos) spos) (CG (tBM X.K "list" FZ (tVar i) (Bg te tNil))) (app i me) :=
 ⟨Gp (JH Jk RJ Ox PJ (Dq hN hv hd hcd) (Dy he.p GK hs) hbase hfew hline hs hplain) hsw,
  vM he.s λH a b h=>.inl ⟨rfl,b,SqL.of h⟩⟩
end
end L2.Ds
namespace L2.Ds
open Dl
section
def del(F:Hp)(a:Addr):Hp:=λb=>if b=a then none else F b
def HD{F:Hp}:del F a a=none:=iP rfl
def FP{F:Hp}(h:b≠a):del F a b=F b:=iN h
def XH{F:Hp}(h:del F a b=some o):F b=some o:=by
 by_cases hb:b=a
 .subst hb;rw [HD] at h;cases h
 .rw [FP hb] at h;exact h
def Rep.look{F:Hp}(r:Rep K mg F0 H0 F H Y Z)(e:Z[i]?=some (.ow ds)) :
  ∃F',Rep K mg F0 H0 F' H Y (Z.set i (.im (.lst ds)))/\∀F1 H1,Gr F' H F1 H1->∃F2,Gr F H F2 H1:=by
 obtain ⟨a,t,w,A,p,v,E⟩:=r.ow i ds e;have h:Same F (upd F a (.lst t)):=DP p _;refine ⟨upd F a (.lst t),⟨⟨r.g.f.trans h,λb o q=>?_,λb o d c=>?_,λb o u q=>r.g.z b o u (Iw (λ_ _ z=>by cases z) q)⟩,by rw [De];exact r.len,λj u q=>?_,λj l q=>?_,λj k l y b d c G L=>?_⟩,λF1 H1 g=>⟨del F1 a,⟨λb o q=>?_,λb o q=>?_,λb o d c=>?_,λb o u q=>Iw (λ_ _ z=>by cases z) (g.z b o u (XH q))⟩⟩⟩
 .by_cases hb:b=a
  .subst hb;rw [An] at q;cases q;exact v
  .rw [Ag hb] at q;exact r.g.s b o q
 .rw [Ag (Ay c A)];exact r.g.o b o d c
 .rcases Av q with ⟨rfl,z,_⟩ | ⟨_,q⟩
  .cases z;exact ⟨.ref a,w,.lst (SqL.of An) (E.same h)⟩
  .obtain ⟨x,m,n⟩:=r.im j u q;exact ⟨x,m,n.same h⟩
 .rcases Av q with ⟨_,z,_⟩ | ⟨hij,q⟩
  .cases z
  .obtain ⟨b,C,m,n,B,I,D⟩:=r.ow j l q;have J:b≠a:=by
    rintro rfl;exact hij (r.ne i j ds l b e q w m)
   exact ⟨b,C,m,n,by rw [Ag J];exact B,I,D.same h⟩
 .rcases Av d with ⟨_,z,_⟩ | ⟨_,d⟩
  .cases z
  .rcases Av c with ⟨_,z,_⟩ | ⟨_,c⟩
   .cases z
   .exact r.ne j k l y b d c G L
 .rw [FP (Ay q p)];exact g.f b o (h b o q)
 .by_cases hb:b=a
  .subst hb;rw [HD] at q;cases q
  .rw [FP hb] at q;exact g.s b o q
 .by_cases hb:b=a
  .subst hb;rw [v] at c;cases c;exact ⟨HD,g.s _ _ (g.f _ _ An)⟩
  .rw [FP hb];exact g.o b o (by rw [Ag hb];exact d) c
def ZrM{F:Hp}{x:V}(r:Rp K mg F x d)(e:Hu d=.ok d'):Rp K mg F' x d':=by
 cases r with
 | non=>cases e;exact .non
 | bl b=>cases e;exact .bl b
 | int b=>cases e;exact .int b
 | str b=>cases e;exact .str b
 | _=>cases e
def wJ{c:Str}:Hu d≠.ex c:=by cases d<;>intro h<;>cases h
def Zw5(i)(h:SE K mg E t m):SE K mg E t (pk i m):=by
 intro v s F H Y Z w;unfold pk getO;split
 .next n e=>
  obtain ⟨u,p,a⟩:=w.look e;have z:=h v s u H Y _ p;show Ans mg E (Rp K mg) F H ((m (Z.set i (.im (.lst n)))).bind Hu) _;cases em:m (Z.set i (.im (.lst n))) with
  | ok d=>
   rw [em] at z;show Ans mg E (Rp K mg) F H (Hu d) _;cases es:Hu d with
   | ok d'=>
    exact λQ q=>z Q λj f b k o=>by
     obtain ⟨l,g⟩:=a j f k;exact q l f b g (ZrM o es)
   | ex c=>exact aB es wJ
   | bad=>trivial
  | ex c=>
   rw [em] at z;exact λQ q=>z Q λj f C k r=>by
    obtain ⟨l,g⟩:=a j f k;exact q l f C g r
  | bad=>trivial
 .trivial
def uC(i)(h:STt K mg E t m):STt K mg E t (pkB i m):=by
 intro v s F H Y Z w;unfold pkB getO;split
 .next n e=>
  obtain ⟨u,p,a⟩:=w.look e;have z:=h v s u H Y _ p;show Ans mg E RB F H (m (Z.set i (.im (.lst n)))) _;cases em:m (Z.set i (.im (.lst n))) with
  | ok d=>
   rw [em] at z;exact λQ q=>z Q λj f b k o=>by
    obtain ⟨l,g⟩:=a j f k;exact q l f b g o
  | ex c=>
   rw [em] at z;exact λQ q=>z Q λj f C k r=>by
    obtain ⟨l,g⟩:=a j f k;exact q l f C g r
  | bad=>trivial
 .trivial
end
section
variable {l:Nat} {y:Str} {Cy:Addr} {f:List D->Res D} {t:TA} {m:MA} {u:Addr->TS} {b:MS} {p yp epos hpos:Pos} {b₀:Stmt} {suite:List Stmt} {hits:List Str} {tt:TT} {mt:MB}
def Yj(i)(h:DE X E e te me):DE X E e te (pk i me):=⟨h.p,Zw5 i h.s⟩
def Ri(i)(h:DT X E e tt mt):DT X E e tt (pkB i mt):=⟨h.p,uC i h.s⟩
end
section
mutual
def Ze(I:Inv X pins Y H s){x:V}{d d':PyData}(h:DV X.K H x d)(h':DV X.K H x d'):d=d':=by
 cases h with
 | non=>cases h';rfl
 | bl _=>cases h';rfl
 | int _=>cases h';rfl
 | str _=>cases h';rfl
 | tup h q=>
  cases h' with
  | tup h' q'=>
   have e:=I.tuple_inj h h';subst e;rw [R4 I q q']
  | lst h' q'=>
   obtain ⟨_,_,⟨o,f,c,_⟩,_⟩:=I.tuple h;obtain ⟨_,_,⟨g,_,a,b,_⟩,_⟩:=I.list h';rw [f] at a;cases a;rw [c] at b;simp at b
 | lst h q=>
  cases h' with
  | lst h' q'=>
   have e:=I.list_inj h h';subst e;rw [R4 I q q']
  | tup h' q'=>
   obtain ⟨_,_,⟨o,f,c,_⟩,_⟩:=I.tuple h';obtain ⟨_,_,⟨g,_,a,b,_⟩,_⟩:=I.list h;rw [f] at a;cases a;rw [c] at b;simp at b
def R4(I:Inv X pins Y H s){xs:List V}{ds ds':List PyData}(h:DVs X.K H xs ds)(h':DVs X.K H xs ds'):ds=ds':=by
 cases h with
 | nil=>cases h';rfl
 | cons h r=>
  cases h' with
  | cons h' r'=>rw [Ze I h h',R4 I r r']
end
def hitE(X:Cx)(H:Hp)(dx:PyData)(u:Value):Bool:=@decide (∃y d,RelV y u/\DV X.K H y d/\PyData.eqv d dx=true) (Classical.propDecidable _)
def Tz(I:Inv X pins Y H s){d:PyData}(r:RelV y u)(h:DV X.K H y d):hitE X H dx u=PyData.eqv d dx:=by
 unfold hitE;cases e:PyData.eqv d dx with
 | true=>exact @Dp _ (Classical.propDecidable _) ⟨y,d,r,h,e⟩
 | false=>
  refine @Fz _ (Classical.propDecidable _) ?_;rintro ⟨i,g,f,a,b⟩;have c:=r.inj f;subst c;rw [Ze I h a,b] at e;cases e
def Mg(I:Inv X pins Y H s):∀{ys:List V} {its:List Value} {ds:List PyData},Vals ys its->DVs X.K H ys ds->its.any (hitE X H dx)=ds.any λd=>PyData.eqv d dx
 | _,_,_,.nil,.nil=>rfl
 | _,_,_,.cons r1 r2,.cons h1 h2=>by rw [List.any_cons,List.any_cons,Mg I r2 h2,Tz I r1 h1]
def TJ(I:Inv X pins Y H s):∀{ys:List V} {its:List Value} {ds:List PyData} {u:Value},Vals ys its->DVs X.K H ys ds->PyData.canLayAll0 ds=true->u∈its->∃y d,RelV y u/\DV X.K H y d/\d.canLay0=true
 | _,_,_,_,.nil,.nil,_,hu=>by cases hu
 | _,_,_,u,.cons r1 r2,.cons h1 h2,hc,hu=>by
  have a:=(by simpa [PyData.canLayAll0] using hc);rcases Al.mp hu with rfl | hu
  .exact ⟨_,_,r1,h1,a.1⟩
  .exact TJ I r2 h2 a.2 hu
def rInD(K:W.Frag)(f:Bool->Bool):R2:=λx y H Q=>∃a e c b,y=.ref a/\(SqL K H a e\/SqT K H a e)/\DV K H x c/\DVs K H e b/\c.canLay0=true/\PyData.canLayAll0 b=true/\c.depth<=50/\Q (.bl (f (b.any λd=>PyData.eqv d c))) H
end
section
def dj(hu:X.A.units+64<cLine):OpR X (compareOp .In) (rInD X.K id):=by
 intro m s Y H x y v u Q I t z h;obtain ⟨a,p,c,g,rfl,hq,D,j,J,F,N,q⟩:=h;cases z;obtain ⟨G,B⟩:=D.reads I t;have n:∀{b:List Value},Vals p b->∀u,u∈b.toArray->PySem.SeqAt.EqAt X.A.in1 s u v (hitE X H c u):=λ{b} f u r=>by
  obtain ⟨M,E,k,l,C⟩:=TJ I f j F (by simpa using r);obtain ⟨L,o⟩:=l.reads I k;rw [Tz I k l];exact PySem.SeqAt.eqAt_reads E c X.A.in1 s u v L G o B C J (by show X.A.units+1+_<_;omega)
 rcases hq with hq | hq
 .obtain ⟨b,f,i,w⟩:=I.list hq;refine PySem.SeqAt.in_listAt (hitE X H c) i.isList (n f) ?_;have e:b.toArray.any (hitE X H c)=g.any λd=>PyData.eqv d c:=by rw [List.any_toArray];exact Mg I f j
  rw [e];exact ⟨.bl _,H,I,rfl,q⟩
 .obtain ⟨b,f,i,w⟩:=I.tuple hq;refine PySem.SeqAt.in_tupleAt (hitE X H c) (i) (n f) ?_;have e:b.toArray.any (hitE X H c)=g.any λd=>PyData.eqv d c:=by rw [List.any_toArray];exact Mg I f j
  rw [e];exact ⟨.bl _,H,I,rfl,q⟩
def mJ(hu:X.A.units+64<cLine):OpR X (compareOp .NotIn) (rInD X.K not):=by
 intro m s Y H x y v u Q I t z h;obtain ⟨a,p,c,g,rfl,hq,D,j,J,F,N,q⟩:=h;cases z;obtain ⟨G,B⟩:=D.reads I t;have n:∀{b:List Value},Vals p b->∀u,u∈b.toArray->PySem.SeqAt.EqAt X.A.in1 s u v (hitE X H c u):=λ{b} f u r=>by
  obtain ⟨M,E,k,l,C⟩:=TJ I f j F (by simpa using r);obtain ⟨L,o⟩:=l.reads I k;rw [Tz I k l];exact PySem.SeqAt.eqAt_reads E c X.A.in1 s u v L G o B C J (by show X.A.units+1+_<_;omega)
 rcases hq with hq | hq
 .obtain ⟨b,f,i,w⟩:=I.list hq;refine PySem.SeqAt.notIn_listAt (hitE X H c) i.isList (n f) ?_;have e:b.toArray.any (hitE X H c)=g.any λd=>PyData.eqv d c:=by rw [List.any_toArray];exact Mg I f j
  rw [e];exact ⟨.bl _,H,I,rfl,q⟩
 .obtain ⟨b,f,i,w⟩:=I.tuple hq;refine PySem.SeqAt.notIn_tupleAt (hitE X H c) (i) (n f) ?_;have e:b.toArray.any (hitE X H c)=g.any λd=>PyData.eqv d c:=by rw [List.any_toArray];exact Mg I f j
  rw [e];exact ⟨.bl _,H,I,rfl,q⟩
def Wj(x)(k)(hx:Dl.plain k x=true):∀ys l,Dl.BX l ys=true->((pyDs ys).any λd=>PyData.eqv d (pyD x))=inD x ys
 | [],_,_=>rfl
 | y::r,l,h=>by
  have a:Dl.plain l y=true/\Dl.BX l r=true:=by simpa [Dl.BX] using h
  show (PyData.eqv (pyD y) (pyD x)||(pyDs r).any _)=(eqD y x||inD x r);rw [Wj x k hx r l a.2,<-QK y x l k a.1 hx]
def Yz{F:Hp}{x:V}(s:Same F H)(rx:Rp K mg F x dx)(ry:Rp K mg F y dy) :
  Ans mg E (Rp K mg) F H ((seqD dy).bind λys=>if Dl.plain 50 dx&&Dl.BX 50 ys then .ok (.bl (f (inD dx ys))) else .bad) (rInD K f x y H):=by
 have c:∀a b ys,y=.ref a->(SqL K H a b\/SqT K H a b)->Rps K mg F b ys->Ans mg E (Rp K mg) F H (if Dl.plain 50 dx&&Dl.BX 50 ys then .ok (.bl (f (inD dx ys))) else .bad) (rInD K f x y H):=by
  rintro a b ys rfl e i;by_cases hp:(Dl.plain 50 dx&&Dl.BX 50 ys)=true
  .rw [iP hp];rw [Hg] at hp;obtain ⟨d,g⟩:=KH dx 50 hp.1;obtain ⟨j,_⟩:=Q3 ys 50 hp.2;refine Ans.ret s (.bl _) λQ q=>⟨a,b,pyD dx,pyDs ys,rfl,e,Km s (J4 rx hp.1),RW s (PL i hp.2),d,j,g,?_⟩;rw [Wj dx 50 hp.1 ys 50 hp.2];exact q
  .rw [iN hp];trivial
 cases dy with
 | lst ys=>
  cases ry with
  | lst h r=>exact c _ _ ys rfl (.inl (s.seq h)) r
 | tup ys=>
  cases ry with
  | tup h r=>exact c _ _ ys rfl (.inr (Ec s h)) r
 | _=>trivial
def qt:OpD K mg (rInD K id) dIn:=λ_ _ _ _ _ _ _ s b a=>Yz (f:=id) s b a
def uA:OpD K mg (rInD K not) dNin:=λ_ _ _ _ _ _ _ s b a=>Yz (f:=not) s b a
variable{a b:Expr}{ta tb:TE}{ma mb:ME}
def vq(hr:Room k X.A)(ha:DE X E a ta ma)(hb:DE X E b tb mb)(hm:behindInMarks .In b=false:=by rfl):DT X E (.Compare a [.In] [b] pos) (FW (tOp (rInD X.K id) ta tb)) (trb (o2 dIn ma mb)):=HW (dj hr.units) qt ha hb hm
def Yn(hr:Room k X.A)(ha:DE X E a ta ma)(hb:DE X E b tb mb)(hm:behindInMarks .NotIn b=false:=by rfl):DT X E (.Compare a [.NotIn] [b] pos) (FW (tOp (rInD X.K not) ta tb)) (trb (o2 dNin ma mb)):=HW (mJ hr.units) uA ha hb hm
end
end L2.Ds
namespace Dl
def ixP(n:Nat)(i:Int):Option Nat:=if 0<=i then (if i<n then some i.toNat else none) else if -(n:Int)<=i then some (i+n).toNat else none
def intO:D->Res Int
 | .int i=>.ok i
 | _=>.bad
def seti(i:Nat)(k e:ME):MS:=λZ=>(e Z).bind λd=>(getO Z[i]?).bind λa=>(k Z).bind λu=>(intO u).bind λj=>(ofO (ixP a.length j)).bind λm=>.ok (.nx (Z.set i (.ow (a.set m d))))
def ext(i:Nat)(e:ME):MS:=λZ=>(getO Z[i]?).bind λa=>(e Z).bind λd=>(lstO d).bind λb=>if a.length+b.length<=LIM then .ok (.nx (Z.set i (.ow (a++b)))) else .bad
def trips:List D->List D->List D->List D
 | x::xs,y::ys,z::zs=>.tup [x,y,z]::trips xs ys zs
 | _,_,_=>[]
def zip3:List D->Res (List D)
 | [x,y,z]=>(seqD x).bind λa=>(seqD y).bind λc=>(seqD z).bind λb=>.ok (trips a c b)
 | _=>.bad
def lz3(ds:List D):Res D:=(zip3 ds).bind λa=>.ok (.lst a)
end Dl
namespace L2.Ds
open Dl
section
def lJ(ad)(arr)(cap)(bd)(brr)(bcap)(bsl)(short:¬(!arr.isEmpty&&Builtin.List.listTooLong (arr.size+brr.size))=true)(le1:arr.size<=sizeLine)(le2:arr.size+brr.size<=sizeLine+1) :
  Meets (Builtin.«list.extend» ⟨[.ref ad,.ref bd],[]⟩) (λ_ R s=>s.heap.get? ad=some { cls:=.type "list",dict:=none,data:=.seq arr cap,slots:=#[] }/\s.heap.get? bd=some { cls:=.type "list",dict:=none,data:=.seq brr bcap,slots:=bsl }/\R (.ok (.ret Value.none)) { s with heap:=s.heap.update ad (Obj.mapSeq λzs=>zs++brr),toks:=s.toks }) :=
 .of_wp λe w A R s h=>by
  obtain ⟨n,k,g,i,m⟩:=s;obtain ⟨a,d,c⟩:=h;have f:=PySem.AutoSeq1.idx_int;have l:=PySem.AutoSeq1.sub_tuple_tuple;have o:=PySem.AutoSeq1.sub_list_list;have j:=PySem.AutoSeq1.sub_tuple_list;have p:=PySem.AutoSeq1.sub_list_tuple;have b:(arr++brr).size<=sizeLine+1:=by rw [Array.size_append];exact le2
  wp_walk using (J7 a rfl (hz:=le1) (_hz':=b)),wpAny_loadPart' a,wpAny_loadPart' d
  exact ⟨_,rfl,c⟩
def KQ(K:W.Frag):V->List V->Hp->VK->Prop:=λx d H Q=>∃l b a c,x=.ref l/\d=[.ref b]/\H l=some (.lst a)/\SqL K H b c/\a.length+c.length<=sizeLine/\Q .non (upd H l (.lst (a++c)))
def iJ:MtR X "list.extend" (KQ X.K):=by
 intro j s Y H x R v L Q I w B h;obtain ⟨l,b,J,P,rfl,rfl,g,t,O,q⟩:=h;cases w;obtain ⟨u,rfl,p⟩:=B.one;cases p;obtain ⟨z,c,n,r,S,e⟩:=I.lstM g;obtain ⟨a,i,⟨o,D,y,C,E,A⟩,M⟩:=I.list t;obtain ⟨N,T,G,m⟩:=o;cases C;cases E;cases A;have k:=i.length;have f:c.toArray.size+a.toArray.size<=sizeLine:=by rw [Be,Be];omega
 have d:¬(!c.toArray.isEmpty&&Builtin.List.listTooLong (c.toArray.size+a.toArray.size))=true:=by
  rw [Wo f,Bool.and_false];exact DX
 refine call_meets PySem.F.slot_list_extend ⟨_,e,rfl⟩ PySem.F.entry_list_extend (PySem.F.args_list_extend_2 _ _) (lJ l c.toArray n b a.toArray D m d (by rw [Be];omega) (by omega)) ⟨e,y,?_⟩;refine ⟨.non,_,I.lset (its':=c++a) g e (by simp) (r.append i) ?_,rfl,q⟩;rw [BJ];omega
end
section
variable {ta tb:TE} {ma mb:ME} {F:Hp}
def Rep.put{es:List D}(r:Rep K mg F0 H0 F H Y Z)(e:Z[i]?=some (.ow ds))(e2:Y[i]?=some (some (.ref a)))(e3:H a=some (.lst xs))(e4:H0 a=none)(e5:F a=none)(hr:Rps K mg F ys es) :
  Rep K mg F0 H0 F (upd H a (.lst ys)) Y (Z.set i (.ow es)):=by
 refine ⟨⟨r.g.f,λb o q=>?_,λb o n d=>?_,r.g.z⟩,by rw [De];exact r.len,λj u q=>?_,λj es q=>?_,λj k es C b n d x B=>?_⟩
 .rw [Ag (Ay q e5)];exact r.g.s b o q
 .rw [Ag (Ay d e4)];exact r.g.o b o n d
 .rcases Av q with ⟨_,z,_⟩ | ⟨_,q⟩
  .cases z
  .exact r.im j u q
 .rcases Av q with ⟨rfl,z,l⟩ | ⟨hij,q⟩
  .cases z;exact ⟨a,_,e2,e4,e5,An,hr⟩
  .obtain ⟨b,ys,p,t,v,y,w⟩:=r.ow j es q;have A:b≠a:=by
    rintro rfl;exact hij (r.ne i j ds es b e q e2 p)
   exact ⟨b,ys,p,t,v,by rw [Ag A];exact y,w⟩
 .have m:∃c,Z[j]?=some (.ow c):=by
   rcases Av n with ⟨rfl,_,_⟩ | ⟨_,q⟩
   .exact ⟨_,e⟩
   .exact ⟨_,q⟩
  have h:∃c,Z[k]?=some (.ow c):=by
   rcases Av d with ⟨rfl,_,_⟩ | ⟨_,q⟩
   .exact ⟨_,e⟩
   .exact ⟨_,q⟩
  obtain ⟨_,m⟩:=m;obtain ⟨_,h⟩:=h;exact r.ne j k _ _ b m h x B
def Rps.eraseIdx:∀{xs:List V} {ds:List D} (j:Nat),Rps K mg F xs ds->Rps K mg F (xs.eraseIdx j) (ds.eraseIdx j)
 | _,_,_,.nil=>by simp;exact .nil
 | _,_,0,.cons _ r=>r
 | _,_,j+1,.cons h r=>.cons h (Rps.eraseIdx j r)
def Rps.setAt(hy:Rp K mg F y d):∀{xs:List V} {ds:List D} (j:Nat),Rps K mg F xs ds->Rps K mg F (xs.set j y) (ds.set j d)
 | _,_,_,.nil=>by simp;exact .nil
 | _,_,0,.cons _ r=>.cons hy r
 | _,_,j+1,.cons h r=>.cons h (Rps.setAt hy j r)
def gJ(ha:SE K mg E ta ma):SS K mg E (CG (tBM K "list" (KQ K) (tVar i) (Bg ta tNil))) (ext i ma):=by
 intro v r F H Y Z n;unfold ext getO;split
 .next l e=>
  obtain ⟨a,w,G,L,J,A,C⟩:=n.ow i l e;have h:=(ha v r F H Y Z n).stm (K:=K) (k:=λd=>(lstO d).bind λb=>if l.length+b.length<=LIM then Res.ok (Fl.nx (Z.set i (.ow (l++b)))) else .bad) (w':=λx t D=>KQ K (.ref a) [x] t λ_ u=>D.nx Y u) n.g λd _ B O x m M=>?_
  .have j:∀D,(ta Y H λx t=>KQ K (.ref a) [x] t λ_ u=>D.nx Y u)->CG (tBM K "list" (KQ K) (tVar i) (Bg ta tNil)) D Y H:=λD z=>⟨.ref a,G,.inl ⟨rfl,w,SqL.of A⟩,z⟩;show AnsS K mg E v r F ((ma Z).bind λd=>(lstO d).bind λb=>if l.length+b.length<=LIM then Res.ok (Fl.nx (Z.set i (.ow (l++b)))) else .bad) _
   generalize ((ma Z).bind λd=>(lstO d).bind λb=>if l.length+b.length<=LIM then Res.ok (Fl.nx (Z.set i (.ow (l++b)))) else .bad)=res at h
   cases res with
   | ok f=>
    cases f with
    | nx Z=>exact λD q=>j D (h D q)
    | bk Z=>exact λD q=>j D (h D q)
    | ct Z=>exact λD q=>j D (h D q)
    | rt d=>exact λD q=>j D (h D q)
   | ex c=>exact λD q=>j D (h D q)
   | bad=>trivial
  .cases d with
   | lst b=>
    cases M with
    | lst hb rb=>
     show AnsS K mg E v r B (if l.length+b.length<=LIM then Res.ok (Fl.nx (Z.set i (.ow (l++b)))) else .bad) _
     by_cases hl:l.length+b.length<=LIM
     .rw [iP hl];have I:=n.gr m;obtain ⟨N,y⟩:=m.o a _ J A;have p:=C.same m.f;exact λD q=>⟨a,_,w,_,rfl,rfl,y,m.s.seq hb,by rw [C.length,rb.length];exact CJ hl (by decide),q B _ Y (Same.refl _) (I.put e G y L N (Rps.app rb p))⟩
     .rw [iN hl];trivial
   | _=>trivial
 .trivial
def oG:Dl.ixP=L2.ixN:=rfl
def ZqO(ha:SE K mg E ta ma)(hb:SE K mg E tb mb):SS K mg E (tAsg ta (gSub (tVar i) tb GZ)) (seti i mb ma):=by
 intro s v F H Y Z B;refine (ha s v F H Y Z B).stm (w':=λx n D=>gSub (tVar i) tb GZ x Y n D.nx) B.g λd _ I n x U O=>?_;have r:=B.gr U;unfold getO;split
 .next l e=>
  obtain ⟨a,M,C,N,R,T,J⟩:=r.ow i l e;have h:=(hb s v I n Y Z r).stm (K:=K) (k:=λu=>(intO u).bind λj=>(ofO (Dl.ixP l.length j)).bind λm=>Res.ok (Fl.nx (Z.set i (.ow (l.set m d))))) (w':=λy t D=>GZ (.ref a) y x t λA=>D.nx Y A) r.g λu _ L t y p Q=>?_
  .have b:∀D:Ends,(tb Y n λy t=>GZ (.ref a) y x t λA=>D.nx Y A)->gSub (tVar i) tb GZ x Y n D.nx:=λD z=>⟨.ref a,C,z⟩;show AnsS K mg E s v I ((mb Z).bind λu=>(intO u).bind λj=>(ofO (Dl.ixP l.length j)).bind λm=>Res.ok (Fl.nx (Z.set i (.ow (l.set m d))))) _;generalize ((mb Z).bind λu=>(intO u).bind λj=>(ofO (Dl.ixP l.length j)).bind λm=>Res.ok (Fl.nx (Z.set i (.ow (l.set m d)))))=res at h;cases res with
   | ok f=>
    cases f with
    | nx Z=>exact λD q=>b D (h D q)
    | bk Z=>exact λD q=>b D (h D q)
    | ct Z=>exact λD q=>b D (h D q)
    | rt d=>exact λD q=>b D (h D q)
   | ex c=>exact λD q=>b D (h D q)
   | bad=>trivial
  .cases u with
   | int k=>
    cases Q;show AnsS K mg E s v L ((ofO (Dl.ixP l.length k)).bind λm=>Res.ok (Fl.nx (Z.set i (.ow (l.set m d))))) _;cases ek:Dl.ixP l.length k with
    | none=>trivial
    | some m=>
     have S:=r.gr p;obtain ⟨P,G⟩:=p.o a _ R T;have w:=J.same p.f;exact λD q=>⟨a,M,k,m,rfl,rfl,G,by rw [J.length,<-oG];exact ek,q L _ Y (Same.refl _) (S.put e C G N P (Rps.setAt (O.same p.f) m w))⟩
   | _=>trivial
 .trivial
end
section
variable {o k' a b c' d':Expr} {to tk ta tb tc td:TE} {mo mk ma mb mc md:ME} {np apos spos':Pos}
def V5(i)(he:DE X E e te me)(hN:X.N[i]?=some x:=by rfl)(hv:Dd X.env.scope x:=by first | exact Or.inl rfl | exact Or.inr (Or.inl rfl) | exact Or.inr (Or.inr rfl))(hd:ND x:=by decide)(hcd:NE x:=by decide)(hbase:attributeBase (.Name x np) "extend" X.env (eval (.Name x np) X.env)=eval (.Name x np) X.env:=by rfl) (hfew:((backTo cpos (starEach [e] X.env)).all (λx=>!x.1)&&(backToKw cpos (keywordEach [] X.env)).all (λx=>x.1.isSome)
   && decide ([e].length+([]:List Keyword).length+(if ([]:List Keyword).isEmpty then 0 else 1)<30))=true:=by rfl) (hline:(apos.endLine==cpos.line)=true:=by rfl) (hs:starEach [e] X.env=(false,eval e X.env)::starEach [] X.env:=by rfl) (hplain:(backTo cpos (starEach [] X.env)).any (·.1)=false:=by rfl) (hsw:swapsWith (.Call (.Attribute (.Name x np) "extend" apos) [e] [] cpos) none spos.line X.env=pure false:=by rfl) :
  DS X E (.Expr (.Call (.Attribute (.Name x np) "extend" apos) [e] [] cpos) spos) (CG (tBM X.K "list" (KQ X.K) (tVar i) (Bg te tNil))) (ext i me) :=
 ⟨Gp (JH Jk PySem.F.slot_list_extend PySem.F.type_list_extend iJ (Dq hN hv hd hcd) (Dy he.p GK hs) hbase hfew hline hs hplain) hsw,gJ he.s⟩
def dD(i)(hk:DE X E k' tk mk)(he:DE X E e te me)(hN:X.N[i]?=some x:=by rfl)(hv:Dd X.env.scope x:=by first | exact Or.inl rfl | exact Or.inr (Or.inl rfl) | exact Or.inr (Or.inr rfl))(hd:ND x:=by decide)(hcd:NE x:=by decide) (ha:∀v,assign (.Subscript (.Name x np) k' pos) X.env v=(do
   let ov <-holding [v] (eval (.Name x np) X.env)
   let iv <-holding [v,ov] (eval k' X.env)
   standAt pos
   holding [v,ov,iv] (setItem ov iv v)
   release [v,ov,iv] []):=by intro _;rfl) (hs:swapsWithSole [.Subscript (.Name x np) k' pos] e spos.line X.env=pure false:=by rfl) (hw:swappedStores [.Subscript (.Name x np) k' pos] e X.env=pure none:=by rfl) :
  DS X E (.Assign [.Subscript (.Name x np) k' pos] e spos) (tAsg te (gSub (tVar i) tk GZ)) (seti i mk me) :=
 ⟨Oh he.p (Rr (Dq hN hv hd hcd) hk.p set_list ha) hs hw,ZqO he.s hk.s⟩
end
end L2.Ds
namespace L2
abbrev Z3(h:Heap)(z TI TO:Addr)(f0 f1:Value):Prop:=h.get? z=some { cls:=.type "zip",dict:=none,data:=.fields #[f0,f1,.bool false,.ref TI,.ref TO],slots:=#[] }
abbrev Tr(h:Heap)(T:Addr)(a b c:Value):Prop:=h.get? T=some { cls:=.type "tuple",data:=.seq #[a,b,c] }
def Mk3(f0:Value):Prop:=f0=.none\/∃T,f0=rawInt T
structure Ap3(z TI TO i1 i2 i3 l1 l2 l3:Addr):Prop where
 o1:@LT.lt Nat _ i1 i2
 o2:@LT.lt Nat _ i2 i3
 o3:@LT.lt Nat _ i3 TI
 o4:@LT.lt Nat _ TI TO
 o5:@LT.lt Nat _ TO z
 a1:@LT.lt Nat _ l1 i1
 a2:@LT.lt Nat _ l2 i1
 a3:@LT.lt Nat _ l3 i1
def Ny{a b:Nat}(h:a<b\/b<a):a≠b:=by omega
local macro_rules | `(tactic| walk_at "nl")=>`(tactic| first | exact Gm (by assumption) | exact BR (by assumption))
section
variable{prog:Program} {E:Value->Shared->Prop}
def M4{x:Value}(kT:Tr s.heap T a b c)(h:∀h',h'.get? T=some { cls:=.type "tuple",data:=.seq ((#[a,b,c]:Array Value).setIfInBounds k x) }->Heap.SameBut T s.heap h'->Q () { s with heap:=h' }) :
  wpAny (model prog w) A (updateSeq T (·.setIfInBounds k x)) Q E s:=by
 refine J7 kT rfl (h _ ?_ (Og ..));rw [Ku _ kT rfl];simp [Obj.mapSeq]
def jH(h:Q (s.heap.get? a) s):wpAny (model prog w) A (loadIfAlive a) Q E s:=λΓ p _=>by
 show PySem.Sem.wp _ Γ (Sem.loadIfAlive a λx=>.pure x) _ _ p s;rw [PySem.Sem.wp_loadIfAlive];exact h
def cU{z TI TO:Addr}{f0 f1:Value}{Q:Bool->Shared->Prop}(kz:Z3 s.heap z TI TO f0 f1)(kf:Mk3 f0)(h1:Q true s)(h2:∀h' f,Z3 h' z TI TO f0 f->Heap.SameBut z s.heap h'->Q false { s with heap:=h' }) :
  wpAny (model prog w) A (Builtin.SmallTypes.ownedTupleIsFree (.ref z)) Q E s:=by
 unfold Builtin.SmallTypes.ownedTupleIsFree;refine Ac (Em kz rfl (x:=f0) rfl ?_);rcases kf with rfl | ⟨T,rfl⟩
 .exact Ae h1
 .refine Ac (jH ?_);split
  .exact Ae h1
  .refine Ac (Em kz rfl (x:=f1) rfl ?_);split
   .refine Ac (Hv kz (by simp) λg a b=>Ae (h2 g _ a b))
   .exact Ae (h2 s.heap f1 kz (Heap.SameBut.refl ..))
def gO{p q r:Bool}{z TI TO i1 i2 i3 l1 l2 l3:Addr}{us vs ws:Array Value}{x y u a b c f0 f1:Value}{Q:Value->Shared->Prop}(D:Ap3 z TI TO i1 i2 i3 l1 l2 l3)(kz:Z3 s.heap z TI TO f0 f1)(kf:Mk3 f0)(kTI:Tr s.heap TI (.ref i1) (.ref i2) (.ref i3))(kTO:Tr s.heap TO a b c)(m1:ItK p s.heap i1 l1 k)(m2:ItK q s.heap i2 l2 k)(m3:ItK r s.heap i3 l3 k)(n1:SqK p s.heap l1 us)(n2:SqK q s.heap l2 vs)(n3:SqK r s.heap l3 ws)(kx:us[k]?=some x)(ky:vs[k]?=some y)(ku:ws[k]?=some u) (kQ:∀h' f0' f1',Z3 h' z TI TO f0' f1'->Mk3 f0'->(∃a b c,Tr h' TO a b c)->ItK p h' i1 l1 (k+1)->ItK q h' i2 l2 (k+1)->ItK r h' i3 l3 (k+1)->Tr h' s.heap.objs.size x y u ->
   (∀c o,c≠z->c≠TO->c≠i1->c≠i2->c≠i3->s.heap.get? c=some o->h'.get? c=some o)->Q (.ref s.heap.objs.size) { s with heap:=h' }) :
  wpAny (model prog w) A (Builtin.«zip.__next__» ⟨[.ref z],[]⟩) (λfin s'=>∃v,fin=.done (.ret v)/\Q v s') E s:=by
 obtain ⟨o1,o2,o3,o4,o5,a1,a2,a3⟩:=D;have x1:=Az o1 o2;have x2:=Az o3 o4;have x3:=Az o2 x2;have x4:=Az o1 x3;have y1:=Az x2 o5;have y2:=Az x3 o5;have y3:=Az x4 o5;have b1:=Az a1 o1;have C:=Az a1 x1;have d1:=Az a1 x4;have e1:=Az a1 y3;have b2:=Az a2 o1;have K:=Az a2 x1;have d2:=Az a2 x4;have e2:=Az a2 y3;have b3:=Az a3 o1;have O:=Az a3 x1;have d3:=Az a3 x4;have e3:=Az a3 y3;show wpAny _ _ (field (.ref z) 2 >>= _) _ _ _;refine Ac (Em kz rfl (x:=.bool false) rfl ?_);show wpAny _ _ (field (.ref z) 3 >>= _) _ _ _;refine Ac (Em kz rfl (x:=.ref TI) rfl ?_);refine Ac (Fd kTI rfl ?_);show wpAny _ _ (Builtin.SmallTypes.ownedTupleIsFree (.ref z) >>= _) _ _ _;refine Ac (cU kz kf ?_ λM f H g=>?_)
 .simp only [Dj];refine Ac (wpAny_rule ?_);refine Ac (Em kz rfl (x:=.ref TO) rfl ?_);refine Ac (Hv kz (by simp) λM H g=>?_);replace H:Z3 M z TI TO .ellipsis f1:=H;refine Ac ?_;simp only [List.zipIdx_cons,List.zipIdx_nil,NT,List.forIn_nil];refine Ac (Ac (Ka ?_));show wpAny _ _ (Builtin.SmallTypes.nextOf (.ref i1) >>= _) _ _ _;refine Ac (G3 (m1.extBut g.extBut (by walk_at "nl")) (n1.extBut g.extBut (by walk_at "nl")) kx λN U h=>Ae ?_);have kT2:Tr N TO a b c:=h.extBut _ _ (by walk_at "nl") (g.extBut _ _ (by walk_at "nl") kTO);refine Ac (Fd kT2 rfl ?_);refine Ac (M4 kT2 λL R i=>?_);replace R:Tr L TO x b c:=R;refine Ac (wpAny_letGo (Ae ?_));refine Ac (Ac (Ka ?_));show wpAny _ _ (Builtin.SmallTypes.nextOf (.ref i2) >>= _) _ _ _;refine Ac (G3 (((m2.extBut g.extBut (by walk_at "nl")).extBut h.extBut (by walk_at "nl")).extBut i.extBut (by walk_at "nl")) (((n2.extBut g.extBut (by walk_at "nl")).extBut h.extBut (by walk_at "nl")).extBut i.extBut (by walk_at "nl")) ky λd m24 j=>Ae ?_);have I:Tr d TO x b c:=j.extBut _ _ (by walk_at "nl") R;refine Ac (Fd I rfl ?_);refine Ac (M4 I λg₅ W m=>?_);replace W:Tr g₅ TO x y c:=W;refine Ac (wpAny_letGo (Ae ?_));refine Ac (Ac (Ka ?_));show wpAny _ _ (Builtin.SmallTypes.nextOf (.ref i3) >>= _) _ _ _;refine Ac (G3 (((((m3.extBut g.extBut (by walk_at "nl")).extBut h.extBut (by walk_at "nl")).extBut i.extBut (by walk_at "nl")).extBut j.extBut (by walk_at "nl")).extBut m.extBut (by walk_at "nl")) (((((n3.extBut g.extBut (by walk_at "nl")).extBut h.extBut (by walk_at "nl")).extBut i.extBut (by walk_at "nl")).extBut j.extBut (by walk_at "nl")).extBut m.extBut (by walk_at "nl")) ku λX m36 t=>Ae ?_);have kT6:Tr X TO x y c:=t.extBut _ _ (by walk_at "nl") W;refine Ac (Fd kT6 rfl ?_);refine Ac (M4 kT6 λl J n=>?_);replace J:Tr l TO x y u:=J;refine Ac (wpAny_letGo (Ae (Ae ?_)));refine Ac (Fd J rfl ?_);refine Ac (wpAny_newTuple ?_);have sz:l.objs.size=s.heap.objs.size:=by rw [n.1,t.1,m.1,j.1,i.1,h.1,g.1]
  have Y:Z3 l z TI TO .ellipsis f1:=n.extBut _ _ (by walk_at "nl") (t.extBut _ _ (by walk_at "nl") (m.extBut _ _ (by walk_at "nl") (j.extBut _ _ (by walk_at "nl") (i.extBut _ _ (by walk_at "nl") (h.extBut _ _ (by walk_at "nl") H)))));have F:∀c o,c≠z->c≠TO->c≠i1->c≠i2->c≠i3->s.heap.get? c=some o->l.get? c=some o:=λc o C K O P V e=>
   n.extBut _ _ K (t.extBut _ _ V (m.extBut _ _ K (j.extBut _ _ P (i.extBut _ _ K (h.extBut _ _ O (g.extBut _ _ C e))))))
  have q1:ItK p l i1 l1 (k+1):=((((U.extBut i.extBut (by walk_at "nl")).extBut j.extBut (by walk_at "nl")).extBut m.extBut (by walk_at "nl")).extBut t.extBut (by walk_at "nl")).extBut n.extBut (by walk_at "nl");have q2:ItK q l i2 l2 (k+1):=((m24.extBut m.extBut (by walk_at "nl")).extBut t.extBut (by walk_at "nl")).extBut n.extBut (by walk_at "nl");have q3:ItK r l i3 l3 (k+1):=m36.extBut n.extBut (by walk_at "nl");have zlt:z<l.objs.size:=BK Y;show wpAny _ _ (Builtin.SmallTypes.ownedTupleHandOut (.ref z) (.ref l.objs.size) >>= _) _ _ _;refine Ac ?_;unfold Builtin.SmallTypes.ownedTupleHandOut;have kz8:Z3 (l.push { cls:=.type "tuple",data:=.seq #[x,y,u] }) z TI TO .ellipsis f1:=Bf _ Y;refine Ac (Hv kz8 (by simp) λg9 T ks9=>?_);replace T:Z3 g9 z TI TO (rawInt l.objs.size) f1:=T;refine Hv T (by simp) λgA S Z=>?_;replace S:Z3 gA z TI TO (rawInt l.objs.size) (.bool false):=S;have B:∀c o,c≠z->l.get? c=some o->gA.get? c=some o:=λc o C e=>Z.extBut _ _ C (ks9.extBut _ _ C (Bf _ e));have G:Tr gA l.objs.size x y u:=Z.extBut _ _ (Gm zlt) (ks9.extBut _ _ (Gm zlt) (CQ _ rfl));rw [sz] at G;refine Ae ⟨_,rfl,?_⟩;show Q (.ref l.objs.size) _;rw [sz];exact kQ gA _ _ S (.inr ⟨_,rfl⟩) ⟨_,_,_,B _ _ (by walk_at "nl") J⟩ (q1.at λo e=>B _ o (by walk_at "nl") e) (q2.at λo e=>B _ o (by walk_at "nl") e) (q3.at λo e=>B _ o (by walk_at "nl") e) G λc o C K O P V e=>B c o C (F c o C K O P V e)
 .simp only [DR,CV];rw [<-Oi];simp only [NT,List.forIn_nil];refine Ac (Ac (Ac (Cp ?_)));show wpAny _ _ (Builtin.SmallTypes.nextOf (.ref i1) >>= _) _ _ _;refine Ac (G3 (m1.extBut g.extBut (by walk_at "nl")) (n1.extBut g.extBut (by walk_at "nl")) kx λN U h=>Ae (Ae ?_));refine Ac (Ac (Cp ?_));show wpAny _ _ (Builtin.SmallTypes.nextOf (.ref i2) >>= _) _ _ _;refine Ac (G3 ((m2.extBut g.extBut (by walk_at "nl")).extBut h.extBut (by walk_at "nl")) ((n2.extBut g.extBut (by walk_at "nl")).extBut h.extBut (by walk_at "nl")) ky λL m23 i=>Ae (Ae ?_));refine Ac (Ac (Cp ?_));show wpAny _ _ (Builtin.SmallTypes.nextOf (.ref i3) >>= _) _ _ _;refine Ac (G3 (((m3.extBut g.extBut (by walk_at "nl")).extBut h.extBut (by walk_at "nl")).extBut i.extBut (by walk_at "nl")) (((n3.extBut g.extBut (by walk_at "nl")).extBut h.extBut (by walk_at "nl")).extBut i.extBut (by walk_at "nl")) ku λd m34 j=>Ae (Ae (Ae ?_)));refine Ac (wpAny_newTuple (hsz:=show (3:Nat)<=sizeLine by decide) (Ae ⟨_,rfl,?_⟩));have sz:d.objs.size=s.heap.objs.size:=by rw [j.1,i.1,h.1,g.1]
  have F:∀c o,c≠z->c≠TO->c≠i1->c≠i2->c≠i3->s.heap.get? c=some o->d.get? c=some o:=λc o C _ O P V e=>j.extBut _ _ V (i.extBut _ _ P (h.extBut _ _ O (g.extBut _ _ C e)));have kz4:Z3 d z TI TO f0 f:=j.extBut _ _ (by walk_at "nl") (i.extBut _ _ (by walk_at "nl") (h.extBut _ _ (by walk_at "nl") H));have I:Tr d TO a b c:=j.extBut _ _ (by walk_at "nl") (i.extBut _ _ (by walk_at "nl") (h.extBut _ _ (by walk_at "nl") (g.extBut _ _ (by walk_at "nl") kTO)));have q1:ItK p d i1 l1 (k+1):=(U.extBut i.extBut (by walk_at "nl")).extBut j.extBut (by walk_at "nl");have q2:ItK q d i2 l2 (k+1):=m23.extBut j.extBut (by walk_at "nl");have B:∀c o,d.get? c=some o->(d.push { cls:=.type "tuple",data:=.seq #[x,y,u] }).get? c=some o:=λc o e=>Bf _ e;have G:Tr (d.push { cls:=.type "tuple",data:=.seq #[x,y,u] }) d.objs.size x y u:=CQ _ rfl;rw [sz] at G;show Q (.ref d.objs.size) _;rw [sz];exact kQ _ _ _ (B _ _ kz4) kf ⟨_,_,_,B _ _ I⟩ (q1.at λo e=>B _ o e) (q2.at λo e=>B _ o e) (m34.at λo e=>B _ o e) G λc o C K O P V e=>B c o (F c o C K O P V e)
def xH{p q r:Bool}{z TI TO i1 i2 i3 l1 l2 l3:Addr}{us vs ws:Array Value}{a b c f0 f1:Value}{Q:Fin->Shared->Prop}(kh:A.handled=none)(D:Ap3 z TI TO i1 i2 i3 l1 l2 l3)(kz:Z3 s.heap z TI TO f0 f1)(kf:Mk3 f0)(kTI:Tr s.heap TI (.ref i1) (.ref i2) (.ref i3))(kTO:Tr s.heap TO a b c)(m1:ItK p s.heap i1 l1 k)(m2:ItK q s.heap i2 l2 k)(m3:ItK r s.heap i3 l3 k)(n1:SqK p s.heap l1 us)(n2:SqK q s.heap l2 vs)(n3:SqK r s.heap l3 ws)(kend:us[k]?=none\/vs[k]?=none\/ws[k]?=none)(kE:∀h' e,(∀c o,c≠z->c≠TO->c≠i1->c≠i2->c≠i3->s.heap.get? c=some o->h'.get? c=some o)->(∃o,h'.get? e=some o/\o.cls=.type "StopIteration")->E (.ref e) { s with heap:=h' }) :
  wpAny (model prog w) A (Builtin.«zip.__next__» ⟨[.ref z],[]⟩) Q E s:=by
 obtain ⟨Y,o2,o3,o4,o5,a1,a2,a3⟩:=D;have x1:=Az Y o2;have x2:=Az o3 o4;have x3:=Az o2 x2;have x4:=Az Y x3;have y1:=Az x2 o5;have y2:=Az x3 o5;have y3:=Az x4 o5;have b1:=Az a1 Y;have B:=Az a1 x1;have d1:=Az a1 x4;have e1:=Az a1 y3;have b2:=Az a2 Y;have P:=Az a2 x1;have d2:=Az a2 x4;have e2:=Az a2 y3;have b3:=Az a3 Y;have F:=Az a3 x1;have d3:=Az a3 x4;have e3:=Az a3 y3;show wpAny _ _ (field (.ref z) 2 >>= _) _ _ _;refine Ac (Em kz rfl (x:=.bool false) rfl ?_);show wpAny _ _ (field (.ref z) 3 >>= _) _ _ _;refine Ac (Em kz rfl (x:=.ref TI) rfl ?_);refine Ac (Fd kTI rfl ?_);show wpAny _ _ (Builtin.SmallTypes.ownedTupleIsFree (.ref z) >>= _) _ _ _;refine Ac (cU kz kf ?_ λM f K d=>?_)
 .simp only [Dj];refine Ac (wpAny_rule ?_);refine Ac (Em kz rfl (x:=.ref TO) rfl ?_);refine Ac (Hv kz (by simp) λM K d=>?_);replace K:Z3 M z TI TO .ellipsis f1:=K;refine Ac ?_;simp only [List.zipIdx_cons,List.zipIdx_nil,NT,List.forIn_nil];refine Ac (Ac (Ka ?_));show wpAny _ _ (Builtin.SmallTypes.nextOf (.ref i1) >>= _) _ _ _;cases kx:us[k]? with
  | none=>
   refine Ac (Jy kh (m1.extBut d.extBut (by walk_at "nl")) (n1.extBut d.extBut (by walk_at "nl")) kx λn e g I=>?_);obtain ⟨U,l,t⟩:=I;have V:Z3 n z TI TO .ellipsis f1:=g _ _ (by walk_at "nl") K;have H:e≠z:=λx=>by subst x;rw [V] at l;cases l;simp at t
   exact Hv V (by simp) λj _ i=>kE j e (λc o B _ F _ _ x=>i.extBut _ _ B (g _ _ F (d.extBut _ _ B x))) ⟨U,i.extBut _ _ H l,t⟩
  | some x=>
   refine Ac (G3 (m1.extBut d.extBut (by walk_at "nl")) (n1.extBut d.extBut (by walk_at "nl")) kx λn m12 g=>Ae ?_);have Z:Tr n TO a b c:=g.extBut _ _ (by walk_at "nl") (d.extBut _ _ (by walk_at "nl") kTO);refine Ac (Fd Z rfl ?_);refine Ac (M4 Z λj O i=>?_);replace O:Tr j TO x b c:=O;refine Ac (wpAny_letGo (Ae ?_));refine Ac (Ac (Ka ?_));show wpAny _ _ (Builtin.SmallTypes.nextOf (.ref i2) >>= _) _ _ _;have J:=((m2.extBut d.extBut (by walk_at "nl")).extBut g.extBut (by walk_at "nl")).extBut i.extBut (by walk_at "nl");have G:=((n2.extBut d.extBut (by walk_at "nl")).extBut g.extBut (by walk_at "nl")).extBut i.extBut (by walk_at "nl");have kz3:Z3 j z TI TO .ellipsis f1:=i.extBut _ _ (by walk_at "nl") (g.extBut _ _ (by walk_at "nl") K);have v:∀c o,c≠z->c≠TO->c≠i1->c≠i2->c≠i3->s.heap.get? c=some o->j.get? c=some o:=λc o B P F _ _ x=>i.extBut _ _ P (g.extBut _ _ F (d.extBut _ _ B x));cases ky:vs[k]? with
   | none=>
    refine Ac (Jy kh J G ky λu e m I=>?_);obtain ⟨U,l,t⟩:=I;have X:Z3 u z TI TO .ellipsis f1:=m _ _ (by walk_at "nl") kz3;have H:e≠z:=λx=>by subst x;rw [X] at l;cases l;simp at t
    exact Hv X (by simp) λN _ C=>kE N e (λc o B P F L R x=>C.extBut _ _ B (m _ _ L (v c o B P F L R x))) ⟨U,C.extBut _ _ H l,t⟩
   | some y=>
    have ku:ws[k]?=none:=by
     rcases kend with h | h | h
     .rw [kx] at h;cases h
     .rw [ky] at h;cases h
     .exact h
    refine Ac (G3 J G ky λu m24 m=>Ae ?_);have kT4:Tr u TO x b c:=m.extBut _ _ (by walk_at "nl") O;refine Ac (Fd kT4 rfl ?_);refine Ac (M4 kT4 λN kT5 C=>?_);refine Ac (wpAny_letGo (Ae ?_));refine Ac (Ac (Ka ?_));show wpAny _ _ (Builtin.SmallTypes.nextOf (.ref i3) >>= _) _ _ _;refine Ac (Jy kh (((((m3.extBut d.extBut (by walk_at "nl")).extBut g.extBut (by walk_at "nl")).extBut i.extBut (by walk_at "nl")).extBut m.extBut (by walk_at "nl")).extBut C.extBut (by walk_at "nl")) (((((n3.extBut d.extBut (by walk_at "nl")).extBut g.extBut (by walk_at "nl")).extBut i.extBut (by walk_at "nl")).extBut m.extBut (by walk_at "nl")).extBut C.extBut (by walk_at "nl")) ku λS e W I=>?_);obtain ⟨U,l,t⟩:=I;have kz6:Z3 S z TI TO .ellipsis f1:=W _ _ (by walk_at "nl") (C.extBut _ _ (by walk_at "nl") (m.extBut _ _ (by walk_at "nl") kz3));have H:e≠z:=λx=>by subst x;rw [kz6] at l;cases l;simp at t
    exact Hv kz6 (by simp) λg7 _ T=>kE g7 e (λc o B P F L R x=>T.extBut _ _ B (W _ _ R (C.extBut _ _ P (m.extBut _ _ L (v c o B P F L R x))))) ⟨U,T.extBut _ _ H l,t⟩
 .simp only [DR,CV];rw [<-Oi];simp only [NT,List.forIn_nil];refine Ac (Ac (Ac (Cp ?_)));show wpAny _ _ (Builtin.SmallTypes.nextOf (.ref i1) >>= _) _ _ _;cases kx:us[k]? with
  | none=>
   refine Ac (Jy kh (m1.extBut d.extBut (by walk_at "nl")) (n1.extBut d.extBut (by walk_at "nl")) kx λn e g I=>?_);exact kE n e (λc o B _ F _ _ x=>g _ _ F (d.extBut _ _ B x)) I
  | some x=>
   refine Ac (G3 (m1.extBut d.extBut (by walk_at "nl")) (n1.extBut d.extBut (by walk_at "nl")) kx λn m12 g=>Ae (Ae ?_));refine Ac (Ac (Cp ?_));show wpAny _ _ (Builtin.SmallTypes.nextOf (.ref i2) >>= _) _ _ _;have J:=(m2.extBut d.extBut (by walk_at "nl")).extBut g.extBut (by walk_at "nl");have G:=(n2.extBut d.extBut (by walk_at "nl")).extBut g.extBut (by walk_at "nl");cases ky:vs[k]? with
   | none=>
    refine Ac (Jy kh J G ky λj e i I=>?_);exact kE j e (λc o B _ F L _ x=>i _ _ L (g.extBut _ _ F (d.extBut _ _ B x))) I
   | some y=>
    have ku:ws[k]?=none:=by
     rcases kend with h | h | h
     .rw [kx] at h;cases h
     .rw [ky] at h;cases h
     .exact h
    refine Ac (G3 J G ky λj m23 i=>Ae (Ae ?_));refine Ac (Ac (Cp ?_));show wpAny _ _ (Builtin.SmallTypes.nextOf (.ref i3) >>= _) _ _ _;refine Ac (Jy kh (((m3.extBut d.extBut (by walk_at "nl")).extBut g.extBut (by walk_at "nl")).extBut i.extBut (by walk_at "nl")) (((n3.extBut d.extBut (by walk_at "nl")).extBut g.extBut (by walk_at "nl")).extBut i.extBut (by walk_at "nl")) ku λu e m I=>?_);exact kE u e (λc o B _ F L R x=>m _ _ R (i.extBut _ _ L (g.extBut _ _ F (d.extBut _ _ B x)))) I
def gR{p q r:Bool}{z TI TO i1 i2 i3 l1 l2 l3:Addr}{us vs ws:Array Value}{x y u a b c f0 f1:Value}{Q:Option Value->Shared->Prop}(D:Ap3 z TI TO i1 i2 i3 l1 l2 l3)(kz:Z3 s.heap z TI TO f0 f1)(kf:Mk3 f0)(kTI:Tr s.heap TI (.ref i1) (.ref i2) (.ref i3))(kTO:Tr s.heap TO a b c)(m1:ItK p s.heap i1 l1 k)(m2:ItK q s.heap i2 l2 k)(m3:ItK r s.heap i3 l3 k)(n1:SqK p s.heap l1 us)(n2:SqK q s.heap l2 vs)(n3:SqK r s.heap l3 ws)(kx:us[k]?=some x)(ky:vs[k]?=some y)(ku:ws[k]?=some u) (kQ:∀h' f0' f1',Z3 h' z TI TO f0' f1'->Mk3 f0'->(∃a b c,Tr h' TO a b c)->ItK p h' i1 l1 (k+1)->ItK q h' i2 l2 (k+1)->ItK r h' i3 l3 (k+1)->Tr h' s.heap.objs.size x y u ->
   (∀c o,c≠z->c≠TO->c≠i1->c≠i2->c≠i3->s.heap.get? c=some o->h'.get? c=some o)->Q (some (.ref s.heap.objs.size)) { s with heap:=h' }) :
  wpAny (model prog w) A (pyNext (.ref z)) Q E s:=by
 have d:s.TypeIs (.ref z) "zip":=⟨_,kz,rfl⟩;unfold pyNext
 exact Ac (wpAny_attempt (Ju (name:=Str.ofString "__next__") d F.slot_zip_next
  (JG F.slot_zip_next d F.entry_zip_next
   (gO D kz kf kTI kTO m1 m2 m3 n1 n2 n3 kx ky ku λh' f0' f1' j h e l m i f g=>Ae (kQ h' f0' f1' j h e l m i f g)) (F.args_zip_next_1 _))))
def jD{p q r:Bool}{z TI TO i1 i2 i3 l1 l2 l3:Addr}{us vs ws:Array Value}{a b c f0 f1:Value}{Q:Option Value->Shared->Prop}(kh:A.handled=none)(D:Ap3 z TI TO i1 i2 i3 l1 l2 l3)(kz:Z3 s.heap z TI TO f0 f1)(kf:Mk3 f0)(kTI:Tr s.heap TI (.ref i1) (.ref i2) (.ref i3))(kTO:Tr s.heap TO a b c)(m1:ItK p s.heap i1 l1 k)(m2:ItK q s.heap i2 l2 k)(m3:ItK r s.heap i3 l3 k)(n1:SqK p s.heap l1 us)(n2:SqK q s.heap l2 vs)(n3:SqK r s.heap l3 ws)(kend:us[k]?=none\/vs[k]?=none\/ws[k]?=none)(kQ:∀h',(∀c o,c≠z->c≠TO->c≠i1->c≠i2->c≠i3->s.heap.get? c=some o->h'.get? c=some o)->Q none { s with heap:=h' }):wpAny (model prog w) A (pyNext (.ref z)) Q E s:=by
 have d:s.TypeIs (.ref z) "zip":=⟨_,kz,rfl⟩;unfold pyNext
 refine Ac (wpAny_attempt (Ju (name:=Str.ofString "__next__") d F.slot_zip_next
  (JG F.slot_zip_next d F.entry_zip_next (xH kh D kz kf kTI kTO m1 m2 m3 n1 n2 n3 kend λh' e h f=>?_) (F.args_zip_next_1 _))))
 obtain ⟨o,g,i⟩:=f;refine Ac (wpAny_isInstance (T:="StopIteration") (b:=true) ⟨o,g,i⟩ isSubtype_stop ?_);exact Ae (kQ _ h)
def ji{z TI TO:Addr}{f0 f1:Value}{Q:Value->Shared->Prop}(kz:Z3 s.heap z TI TO f0 f1)(h:Q (.ref z) s):wpAny (model prog w) A (pyIter (.ref z)) Q E s:=by
 have a:s.TypeIs (.ref z) "zip":=⟨_,kz,rfl⟩;refine wpAny_pyIter_slot a F.slot_zip_iter (JG F.slot_zip_iter a F.entry_zip_iter ?_ (F.args_zip_iter_1 _));show wpAny _ _ (ret (.ref z)) _ _ s;exact Ae ⟨_,rfl,"zip",_,a,F.slot_zip_next.lookup,h⟩
end
def yx(a b c):checkTypeCall "zip" ⟨[a,b,c],[]⟩=pure ():=by kernel_rfl
def xT(a b c):checkBuiltinCall "zip.__new__" ⟨[.type "zip",a,b,c],[]⟩=pure ():=by kernel_rfl
def oi_4(a b c d):argsOk "object.__init__" ⟨[a,b,c,d],[]⟩:=by
 have e:=signature?_of (id:="object.__init__") (o:=['t','c','e','j','b','o']) (n:=['_','_','t','i','n','i','_','_']) (by kernel_rfl) PySem.F.owner_object;unfold argsOk;rw [e]
 kernel_rfl
abbrev j1(p:Bool)(h:Heap)(l1:Addr):Heap:=h.push (Ia p l1)
abbrev j2(p q:Bool)(h:Heap)(l1 l2:Addr):Heap:=(j1 p h l1).push (Ia q l2)
abbrev j3(p q r:Bool)(h:Heap)(l1 l2 l3:Addr):Heap:=(j2 p q h l1 l2).push (Ia r l3)
abbrev j4(p q r:Bool)(h:Heap)(l1 l2 l3:Addr):Heap:=(j3 p q r h l1 l2 l3).push { cls:=.type "tuple",data:=.seq #[.ref h.objs.size,.ref (j1 p h l1).objs.size,.ref (j2 p q h l1 l2).objs.size] }
abbrev j5(p q r:Bool)(h:Heap)(l1 l2 l3:Addr):Heap:=(j4 p q r h l1 l2 l3).push { cls:=.type "tuple",data:=.seq #[.none,.none,.none] }
abbrev j6(p q r:Bool)(h:Heap)(l1 l2 l3:Addr):Heap:=(j5 p q r h l1 l2 l3).push { cls:=.type "zip",data:=.fields #[.none,.bool false,.bool false,.ref (j3 p q r h l1 l2 l3).objs.size,.ref (j4 p q r h l1 l2 l3).objs.size] }
def oA(p q r)(l1 l2 l3)(us vs ws) :
  Meets (Builtin.«zip.__new__» ⟨[.type "zip",.ref l1,.ref l2,.ref l3],[]⟩) (λ_ R s=>SqK p s.heap l1 us/\SqK q s.heap l2 vs/\SqK r s.heap l3 ws /\
   R (.ok (.ret (.ref (j5 p q r s.heap l1 l2 l3).objs.size))) { s with heap:=j6 p q r s.heap l1 l2 l3 }) :=
 .of_wp λe w A R s h=>by
  obtain ⟨a,g,d,b,c⟩:=s;obtain ⟨m,l,i,h⟩:=h;have f:=sub_zip;have k:SqK p (Shared.heap ⟨a,g,d,b,c⟩) l1 us:=m;have j:SqK q (Shared.heap ⟨a.push (Ia p l1),g,d,b,c⟩) l2 vs:=SqK.push l _;have n:SqK r (Shared.heap ⟨(a.push (Ia p l1)).push (Ia q l2),g,d,b,c⟩) l3 ws:=SqK.push (SqK.push i _) _
  wp_walk using Sd k,Sd j,Sd n
  exact ⟨_,rfl,h⟩
section
variable{prog:Program} {E:Value->Shared->Prop}
def wC{us:Array Value}(n1:SqK p s.heap l1 us)(n2:SqK q s.heap l2 vs)(n3:SqK r s.heap l3 ws) (h:∀h',Z3 h' (s.heap.objs.size+5) (s.heap.objs.size+3) (s.heap.objs.size+4) .none (.bool false)->Tr h' (s.heap.objs.size+3) (.ref s.heap.objs.size) (.ref (s.heap.objs.size+1)) (.ref (s.heap.objs.size+2)) ->
   Tr h' (s.heap.objs.size+4) .none .none .none->ItK p h' s.heap.objs.size l1 0->ItK q h' (s.heap.objs.size+1) l2 0->ItK r h' (s.heap.objs.size+2) l3 0->h'.objs.size=s.heap.objs.size+6 ->
   (∀c o,s.heap.get? c=some o->h'.get? c=some o)->Q (.ref (s.heap.objs.size+5)) { s with heap:=h' }) :
  wpAny (model prog w) A (call (.type "zip") [.ref l1,.ref l2,.ref l3]) Q E s:=by
 refine callType_new F.called_zip (by decide) (yx _ _ _) (xT _ _ _) (λt=>oi_4 t _ _ _) F.entry_zip_new (oA p q r l1 l2 l3 us vs ws) ⟨n1,n2,n3,?_⟩;have l:(j1 p s.heap l1).objs.size=s.heap.objs.size+1:=Du ..;have j:(j2 p q s.heap l1 l2).objs.size=s.heap.objs.size+2:=by rw [Du,l]
 have k:(j3 p q r s.heap l1 l2 l3).objs.size=s.heap.objs.size+3:=by rw [Du,j]
 have n:(j4 p q r s.heap l1 l2 l3).objs.size=s.heap.objs.size+4:=by rw [Du,k]
 have i:(j5 p q r s.heap l1 l2 l3).objs.size=s.heap.objs.size+5:=by rw [Du,n]
 have B:(j6 p q r s.heap l1 l2 l3).objs.size=s.heap.objs.size+6:=by rw [Du,i]
 have f:∀{c:Addr} {o:Obj},(j5 p q r s.heap l1 l2 l3).get? c=some o->(j6 p q r s.heap l1 l2 l3).get? c=some o:=λe=>Bf _ e;have b:∀{c:Addr} {o:Obj},(j4 p q r s.heap l1 l2 l3).get? c=some o->(j6 p q r s.heap l1 l2 l3).get? c=some o:=λe=>f (Bf _ e);have g:∀{c:Addr} {o:Obj},(j3 p q r s.heap l1 l2 l3).get? c=some o->(j6 p q r s.heap l1 l2 l3).get? c=some o:=λe=>b (Bf _ e);have a:∀{c:Addr} {o:Obj},(j2 p q s.heap l1 l2).get? c=some o->(j6 p q r s.heap l1 l2 l3).get? c=some o:=λe=>g (Bf _ e);have d:∀{c:Addr} {o:Obj},(j1 p s.heap l1).get? c=some o->(j6 p q r s.heap l1 l2 l3).get? c=some o:=λe=>a (Bf _ e);have m:(j6 p q r s.heap l1 l2 l3).get? (j5 p q r s.heap l1 l2 l3).objs.size=some _:=CQ _ rfl;have y:(j6 p q r s.heap l1 l2 l3).get? (j4 p q r s.heap l1 l2 l3).objs.size=some _:=f (CQ _ rfl);have v:(j6 p q r s.heap l1 l2 l3).get? (j3 p q r s.heap l1 l2 l3).objs.size=some _:=b (CQ _ rfl);have z:(j6 p q r s.heap l1 l2 l3).get? (j2 p q s.heap l1 l2).objs.size=some _:=g (CQ _ rfl);have u:(j6 p q r s.heap l1 l2 l3).get? (j1 p s.heap l1).objs.size=some _:=a (CQ _ rfl);have C:(j6 p q r s.heap l1 l2 l3).get? s.heap.objs.size=some _:=d (CQ _ rfl);show _/\_;rw [k,n,i] at m;rw [l,j,k] at v;rw [n] at y;rw [j] at z;rw [l] at u;rw [i];exact ⟨⟨_,m,rfl⟩,h _ m v y (ItK.new C) (ItK.new u) (ItK.new z) B λc o x=>d (Bf _ x)⟩
end
def At3(p q r:Bool)(z TI TO i1 i2 i3 a b c:Addr)(i:Nat)(h:Heap):Prop :=
 ∃d e u v w,Z3 h z TI TO d e/\Mk3 d/\Tr h TI (.ref i1) (.ref i2) (.ref i3)/\Tr h TO u v w/\ItK p h i1 a i/\ItK q h i2 b i/\ItK r h i3 c i
def At3.obj{p q r:Bool}{z TI TO i1 i2 i3 a b c:Addr}{h:Heap}(st:At3 p q r z TI TO i1 i2 i3 a b c i h){x:Addr}(hx:x∈[z,TI,TO,i1,i2,i3]):∃o,h.get? x=some o/\∀v,o.data≠.cell v:=by
 obtain ⟨E,C,u,v,w,k,D,e,d,f,l,s⟩:=st;obtain ⟨F,_,t,g⟩:=f.flds;obtain ⟨A,_,n,y⟩:=l.flds;obtain ⟨B,_,j,m⟩:=s.flds;simp only [Al,CK,Ej] at hx;rcases hx with rfl | rfl | rfl | rfl | rfl | rfl
 .exact ⟨_,k,λv z=>by cases z⟩
 .exact ⟨_,e,λv z=>by cases z⟩
 .exact ⟨_,d,λv z=>by cases z⟩
 .exact ⟨_,t,λv z=>by rw [g] at z;cases z⟩
 .exact ⟨_,n,λv z=>by rw [y] at z;cases z⟩
 .exact ⟨_,j,λv z=>by rw [m] at z;cases z⟩
def At3.keep{p q r:Bool}{z TI TO i1 i2 i3 a b c:Addr}{h h':Heap}(st:At3 p q r z TI TO i1 i2 i3 a b c i h)(k:∀x∈[z,TI,TO,i1,i2,i3],∀o,h.get? x=some o->h'.get? x=some o):At3 p q r z TI TO i1 i2 i3 a b c i h':=by
 obtain ⟨n,g,u,v,w,s,m,f,d,j,t,l⟩:=st;exact ⟨n,g,u,v,w,k z (by simp) _ s,m,k TI (by simp) _ f,k TO (by simp) _ d,j.at λo e=>k i1 (by simp) o e,t.at λo e=>k i2 (by simp) o e,l.at λo e=>k i3 (by simp) o e⟩
section
variable {B:Around} {p q r:Bool} {z TI TO i1 i2 i3 a b c:Addr}
def xJ{E:Value->Shared->Prop}{x:V}(D:Ap3 z TI TO i1 i2 i3 a b c)(I:Inv X pins Y H s)(hf:∀d∈[z,TI,TO,i1,i2,i3],FpOk X pins H d)(st:At3 p q r z TI TO i1 i2 i3 a b c i s.heap)(hqa:SqB X.K p H a xs)(hqb:SqB X.K q H b ys)(hqc:SqB X.K r H c zs)(hx:xs[i]?=some x)(hy:ys[i]?=some y)(hu:zs[i]?=some u)(kQ:∀h' T,T=s.heap.objs.size->H T=none->Inv X pins Y (upd H T (.tup [x,y,u])) { s with heap:=h' }->At3 p q r z TI TO i1 i2 i3 a b c (i+1) h'->(∀d o,d∉[z,TI,TO,i1,i2,i3]->s.heap.get? d=some o->h'.get? d=some o)->Q (some (.ref T)) { s with heap:=h' }) :
  wpAny (model X.prog X.w) B (pyNext (.ref z)) Q E s:=by
 obtain ⟨f0,f1,u0,v0,w0,kz,kf,f,j,m1,Z,m3⟩:=st;obtain ⟨its,rv,pa,za⟩:=I.seqB hqa;obtain ⟨N,n,pb,zb⟩:=I.seqB hqb;obtain ⟨O,C,pc,zc⟩:=I.seqB hqc;obtain ⟨P,e1,U⟩:=rv.get hx;obtain ⟨J,e2,r2⟩:=n.get hy;obtain ⟨L,e3,r3⟩:=C.get hu;refine gR D kz kf f j m1 Z m3 pa pb pc (x:=P) (y:=J) (u:=L) (by simpa using e1) (by simpa using e2) (by simpa using e3) λh' k l b1 b2 t b4 b5 b6 S M=>?_;have R:H s.heap.objs.size=none:=I.hok.fresh (Am _);have G:∀d o,d∉[z,TI,TO,i1,i2,i3]->s.heap.get? d=some o->h'.get? d=some o:=λd o g e=>M d o (λq=>g (by simp [q])) (λq=>g (by simp [q])) (λq=>g (by simp [q])) (λq=>g (by simp [q])) (λq=>g (by simp [q])) e;have h:Tr h' TI (.ref i1) (.ref i2) (.ref i3):=by
  obtain ⟨o1,o2,o3,o4,o5,a1,a2,a3⟩:=D;exact M TI _ (Ny (by omega)) (Ny (by omega)) (Ny (by omega)) (Ny (by omega)) (Ny (by omega)) f
 obtain ⟨m,F,v,t⟩:=t;refine kQ h' _ rfl R ?_ ⟨k,l,m,F,v,b1,b2,h,t,b4,b5,b6⟩ G;refine I.turnNew (fp:=[z,TI,TO,i1,i2,i3]) (t':=s.toks) (λd W hb e=>G d W hb e) hf (Am _) ?_;have A:(3:Nat)<=sizeLine:=by decide
 exact ⟨A,[P,J,L],.cons U (.cons r2 (.cons r3 .nil)),⟨_,S,rfl,_,rfl⟩⟩
def wA{E:Value->Shared->Prop}(hc:B.handled=none)(D:Ap3 z TI TO i1 i2 i3 a b c)(I:Inv X pins Y H s)(hf:∀d∈[z,TI,TO,i1,i2,i3],FpOk X pins H d)(st:At3 p q r z TI TO i1 i2 i3 a b c i s.heap)(hqa:SqB X.K p H a xs)(hqb:SqB X.K q H b ys)(hqc:SqB X.K r H c zs)(hx:xs.length<=i\/ys.length<=i\/zs.length<=i)(kQ:∀h',Inv X pins Y H { s with heap:=h' }->(∀d o,d∉[z,TI,TO,i1,i2,i3]->s.heap.get? d=some o->h'.get? d=some o)->Q none { s with heap:=h' }) :
  wpAny (model X.prog X.w) B (pyNext (.ref z)) Q E s:=by
 obtain ⟨V,P,T,Z,R,C,L,k,h,u,F,G⟩:=st;obtain ⟨y,v,x,U⟩:=I.seqB hqa;obtain ⟨m,g,A,W⟩:=I.seqB hqb;obtain ⟨n,j,J,O⟩:=I.seqB hqc;have S:=v.length;have t:=g.length;have N:=j.length;refine jD hc D C L k h u F G x A J (hx.imp (λq=>by simp;omega) (λq=>q.imp (λq=>by simp;omega) (λq=>by simp;omega))) λh' M=>?_;have l:∀d o,d∉[z,TI,TO,i1,i2,i3]->s.heap.get? d=some o->h'.get? d=some o:=λd o f e=>M d o (λq=>f (by simp [q])) (λq=>f (by simp [q])) (λq=>f (by simp [q])) (λq=>f (by simp [q])) (λq=>f (by simp [q])) e;exact kQ h' (I.turnedL (fp:=[z,TI,TO,i1,i2,i3]) (t':=s.toks) l hf) l
end
def eX{n:Addr}(h1:@LT.lt Nat _ a n)(h2:@LT.lt Nat _ b n)(h3:@LT.lt Nat _ c n):Ap3 (n+5) (n+3) (n+4) n (n+1) (n+2) a b c:=⟨G9 _,G9 _,G9 _,G9 _,G9 _,h1,h2,h3⟩
def eV{E:Value->Shared->Prop}(I:Inv X pins Y H s)(hqa:SqB X.K p H a xs)(hqb:SqB X.K q H b ys)(hqc:SqB X.K r H c zs)(k:∀h' z TI TO i1 i2 i3,Ap3 z TI TO i1 i2 i3 a b c->Inv X pins Y H { s with heap:=h' }->At3 p q r z TI TO i1 i2 i3 a b c 0 h'->(∀d∈[z,TI,TO,i1,i2,i3],FpOk X pins H d)->(∀d∈[z,TI,TO,i1,i2,i3],@LT.lt Nat _ d h'.objs.size)->Q (.ref z) { s with heap:=h' }):wX X (call (.type "zip") [.ref a,.ref b,.ref c]) Q E s:=by
 obtain ⟨x,P,j,R⟩:=I.seqB hqa;obtain ⟨n,t,l,u⟩:=I.seqB hqb;obtain ⟨o,L,m,M⟩:=I.seqB hqc;have N:a<s.heap.objs.size:=by obtain ⟨_,e⟩:=j.here;exact BK e
 have F:b<s.heap.objs.size:=by obtain ⟨_,e⟩:=l.here;exact BK e
 have G:c<s.heap.objs.size:=by obtain ⟨_,e⟩:=m.here;exact BK e
 refine wC j l m λh' B i h C v J D O=>?_;have y:Inv X pins Y H { s with heap:=h' }:=I.kept (t':=s.toks) O
 refine k h' _ _ _ _ _ _ (eX N F G) y ⟨_,_,_,_,_,B,.inl rfl,i,h,C,v,J⟩ (λd f=>?_) (λd f=>?_)
 .have g:s.heap.objs.size<=d:=by
   simp only [Al,CK,Ej] at f;rcases f with rfl | rfl | rfl | rfl | rfl | rfl<;>omega
  exact I.fpOk g (I.hok.fresh g)
 .rw [D];simp only [Al,CK,Ej] at f;rcases f with rfl | rfl | rfl | rfl | rfl | rfl<;>omega
def Bh:List V->List V->List V->List (V×V×V)
 | x::xs,y::ys,u::us=>(x,y,u)::Bh xs ys us
 | _,_,_=>[]
def cu:∀{xs ys us:List V} {i:Nat} {x y u:V},(Bh xs ys us)[i]?=some (x,y,u)->xs[i]?=some x/\ys[i]?=some y/\us[i]?=some u
 | [],_,_,_,_,_,_,h=>by simp [Bh] at h
 | _::_,[],_,_,_,_,_,h=>by simp [Bh] at h
 | _::_,_::_,[],_,_,_,_,h=>by simp [Bh] at h
 | _::_,_::_,_::_,0,_,_,_,h=>by simp [Bh] at h;obtain ⟨rfl,rfl,rfl⟩:=h;simp
 | _::xs,_::ys,_::us,i+1,_,_,_,h=>by
  have:=cu (xs:=xs) (ys:=ys) (us:=us) (i:=i) (by simpa [Bh] using h);simpa using this
def Vu:∀xs ys us,xs.length<=(Bh xs ys us).length\/ys.length<=(Bh xs ys us).length\/us.length<=(Bh xs ys us).length
 | [],_,_=>.inl (by simp)
 | _::_,[],_=>.inr (.inl (by simp))
 | _::_,_::_,[]=>.inr (.inr (by simp))
 | _::xs,_::ys,_::us=>by
  have:=Vu xs ys us;simp [Bh];exact this
def aC:∀xs ys us,(Bh xs ys us).length<=xs.length
 | [],_,_=>by simp [Bh]
 | _::_,[],_=>by simp [Bh]
 | _::_,_::_,[]=>by simp [Bh]
 | _::xs,_::ys,_::us=>by
  have:=aC xs ys us;simp [Bh];exact this
inductive Lay3(H:Hp):List (V×V×V)->List Addr->Hp->Prop
 | nil:Lay3 H [] [] H
 | snoc {ts:List (V×V×V)} {as:List Addr} {H':Hp} {T:Addr} {x y u:V} (h:Lay3 H ts as H') (hT:H' T=none):Lay3 H (ts++[(x,y,u)]) (as++[T]) (upd H' T (.tup [x,y,u]))
def Lay3.same(h:Lay3 H ts as H'):Same H H':=by
 induction h with
 | nil=>exact λ_ _ e=>e
 | snoc h hT ih=>exact λb o e=>(by
   have a:=ih b o e;rw [Ag (λq=>by subst q;rw [hT] at a;cases a)]
   exact a)
def o8(h:S≠T):upd (upd H S o) T o'=upd (upd H T o') S o:=by
 funext b;by_cases h1:b=S
 .subst h1;rw [Ag h,An,An]
 .by_cases h2:b=T
  .subst h2;rw [An,Ag h1,An]
  .rw [Ag h2,Ag h1,Ag h1,Ag h2]
def Pn:upd (upd H S o) S o'=upd H S o':=by
 funext b;by_cases h1:b=S
 .subst h1;rw [An,An]
 .rw [Ag h1,Ag h1,Ag h1]
def JP(e:Same H H')(h:SqB K p H a xs):SqB K p H' a xs:=by
 cases p
 .exact Same.seq e h
 .rcases (show SqT K H a xs from h) with (h | ⟨o,h⟩) | h
  .exact .inl (.inl (e _ _ h))
  .exact .inl (.inr ⟨o,e _ _ h⟩)
  .exact .inr h
def Zb(h:H S=none):Same H (upd H S o):=λb u e=>by
 rw [Ag (λq=>by subst q;rw [h] at e;cases e)];exact e
section
variable {p q r:Bool} {z TI TO i1 i2 i3 a b c S:Addr} {ys us:List V}
def gK{B:Around}{R:Result->Shared->Prop}(kh:B.in1.handled=none)(D:Ap3 z TI TO i1 i2 i3 a b c)(hqa:SqB X.K p H a xs)(hqb:SqB X.K q H b ys)(hqc:SqB X.K r H c us)(hS:S∉[z,TI,TO,i1,i2,i3])(kR:∀s' as H',Inv X pins Y (upd H' S (.lst (as.map V.ref))) s'->H' S=none->Lay3 H (Bh xs ys us) as H'->R (.ok (.ret .none)) s') :
  ∀(k i:Nat) (s:Shared) (H':Hp) (as:List Addr),i+k=(Bh xs ys us).length->Inv X pins Y (upd H' S (.lst (as.map V.ref))) s->H' S=none->Lay3 H ((Bh xs ys us).take i) as H'->At3 p q r z TI TO i1 i2 i3 a b c i s.heap->as.length=i->(∀d∈[z,TI,TO,i1,i2,i3],FpOk X pins (upd H' S (.lst (as.map V.ref))) d) ->
   codeAny (model X.prog X.w) B (.builtin "list.extend.loop" ⟨[.ref S,.ref z,.none],[]⟩) R s:=by
 intro k
 induction k with
 | zero=>
  intro i s H' as hk I g L C U E;have j:Same H (upd H' S (.lst (as.map V.ref))):=λb o e=>Zb g b o (L.same b o e);refine Lq F.entry_extend_loop ?_;rw [Qj QT _];show wpAny _ B.in1 (pyNext (.ref z) >>= _) _ _ s;refine Ac (wA kh D I E C (JP j hqa) (JP j hqb) (JP j hqc) (by have:=Vu xs ys us;omega) λh' I' _=>?_);refine Ae (kR _ as H' I' g ?_);rw [show i=(Bh xs ys us).length by omega,List.take_length] at L;exact L
 | succ k ih=>
  intro i s H' as hk I g L C U E;have j:Same H (upd H' S (.lst (as.map V.ref))):=λb o e=>Zb g b o (L.same b o e);have hi:i<(Bh xs ys us).length:=by omega
  obtain ⟨⟨x,y,u⟩,Z⟩ : ∃t,(Bh xs ys us)[i]?=some t:=⟨_,Aw hi⟩;obtain ⟨e1,e2,e3⟩:=cu Z;refine Lq F.entry_extend_loop ?_;rw [Qj QT _];show wpAny _ B.in1 (pyNext (.ref z) >>= _) _ _ s;refine Ac (xJ D I E C (JP j hqa) (JP j hqb) (JP j hqc) e1 e2 e3 λh' T eT A O N kp=>?_);have hl:as.length<sizeLine:=by
   obtain ⟨_,_,_,hz⟩:=I.seqB (JP j hqa);have:=aC xs ys us;omega
  have J:S≠T:=λq=>by subst q;rw [An] at A;cases A
  have M:H' T=none:=by rw [Ag (Ne.symm J)] at A;exact A
  rw [o8 J] at O;have Q:(upd (upd H' T (.tup [x,y,u])) S (.lst (as.map V.ref))) S=some (.lst (as.map V.ref)):=An;obtain ⟨zz,l,n,rr,m,e⟩:=O.lstM Q;have G:l.length=as.length:=by rw [<-m,Ad]
  show wpAny _ B.in1 (updateSeq S (·.push (.ref T)) >>= _) _ _ _;refine Ac ?_;refine J7 e rfl (Ae ⟨plainId_quiet QT _,?_⟩) (by rw [Be];omega) (by show (l.toArray.push _).size<=sizeLine+1;rw [Array.size_push,Be];omega);have I3:=O.lset (f:=(·.push (.ref T))) (t':=s.toks) (ys:=as.map V.ref++[.ref T]) (its':=l++[.ref T]) Q e (by simp) (rr.append (.cons (show RelV (.ref T) (.ref T) from rfl) .nil)) (by rw [BJ,Ad,HS];omega);rw [Pn] at I3;refine ih (i+1) _ (upd H' T (.tup [x,y,u])) (as++[T]) (by omega) ?_ ?_ ?_ ?_ ?_ ?_
  .rw [Cz];exact I3
  .rw [Ag J];exact g
  .rw [List.take_add_one,Z];exact .snoc L M
  .exact N.keep λd v o e=>(Ke _ _ (λh=>hS (by rw [h];exact v))).trans e
  .rw [BJ,U];rfl
  .intro d v;have P:d≠S:=λq=>hS (by rw [<-q];exact v);have dT:d≠T:=by
    obtain ⟨o,ho,_⟩:=C.obj v;rw [eT];exact BR (BK ho)
   have z:=E d v;refine ⟨?_,z.2⟩;rw [Ag P,Ag dT];have W:=z.1;rw [Ag P] at W;exact W
def nP:typeLookup (.type "zip") "__len__"=pure none:=by rw [typeLookup_type,builtinLookup_eq_fast];kernel_rfl
def qU:typeLookup (.type "zip") "__length_hint__"=pure none:=by rw [typeLookup_type,builtinLookup_eq_fast];kernel_rfl
def jO{E:Value->Shared->Prop}(hc:X.calm=true)(D:Ap3 z TI TO i1 i2 i3 a b c)(I:Inv X pins Y H s)(st:At3 p q r z TI TO i1 i2 i3 a b c 0 s.heap)(hf:∀d∈[z,TI,TO,i1,i2,i3],FpOk X pins H d)(hqa:SqB X.K p H a xs)(hqb:SqB X.K q H b ys)(hqc:SqB X.K r H c us)(kQ:∀s' S as H',Inv X pins Y (upd H' S (.lst (as.map V.ref))) s'->H' S=none->Lay3 H (Bh xs ys us) as H'->Q (.ref S) s'):wX X (call (.type "list") [.ref z]) Q E s:=by
 have l:∀d∈[z,TI,TO,i1,i2,i3],d≠s.heap.objs.size:=λd i=>by
  obtain ⟨o,R,_⟩:=st.obj i;exact BR (BK R)
 have J:z∈[z,TI,TO,i1,i2,i3]:=by simp
 refine callType_codes (Q₁:=λu j=>u=.ref s.heap.objs.size/\j={ s with heap:=s.heap.push { cls:=.type "list",data:=.seq #[] } }) F.called_list (F.typeCall_list_1 _) F.entry_list_init
  (code_list_new _ ⟨rfl,rfl⟩) λu j U=>?_
 obtain ⟨rfl,rfl⟩:=U;have x:H s.heap.objs.size=none:=I.fresh;have W:Inv X pins Y (upd H s.heap.objs.size (.lst [])) { s with heap:=s.heap.push { cls:=.type "list",data:=.seq #[] } }:=I.lnew (its:=[]) (t':=s.toks) .nil (DQ _)
 have y:At3 p q r z TI TO i1 i2 i3 a b c 0 (s.heap.push { cls:=.type "list",data:=.seq #[] }):=st.keep λd _ o e=>Bf _ e;generalize hsz:s.heap.objs.size=S at *;have v:(s.heap.push { cls:=.type "list",data:=.seq #[] }).get? S=some { cls:=.type "list",data:=.seq #[] }:=by rw [<-hsz];exact CQ _ rfl
 generalize s.heap.push { cls:=.type "list",data:=.seq #[] }=g at *;refine ⟨⟨_,v,rfl⟩,F.args_list_init_2 _ _,?_⟩;show wpAny _ X.A.in1.in1 (do let old <-Builtin.List.listItems (.ref S);Builtin.List.listUpdate (.ref S) (λ_=>#[]);letGo old.toList.reverse;Builtin.List.listExtendWith (.ref S) (.ref z) .none) _ _ _
 refine Ac ?_;unfold Builtin.List.listItems;refine Ac (Fd v rfl (Ae ?_));show wpAny _ X.A.in1.in1 (updateSeq S (λ_=>#[]) >>= λ_=>letGo (#[]:Array Value).toList.reverse >>= λ_=>Builtin.List.listExtendWith (.ref S) (.ref z) .none) _ _ _;refine Ac (J7 v rfl ?_);have O:=W.lset (f:=λ_=>#[]) (t':=s.toks) (its:=[]) (its':=[]) (ys:=[]) (n:=0) An v rfl .nil (DQ _);rw [Pn] at O;have t:At3 p q r z TI TO i1 i2 i3 a b c 0 (g.update S (Obj.mapSeq λ_=>#[])):=y.keep λd i o e=>(Ke _ _ (λh=>l d i h.symm)).trans e;have k:=Ku (Obj.mapSeq (λ_=>(#[]:Array Value))) v rfl;generalize g.update S (Obj.mapSeq λ_=>#[])=g2 at *;refine Ac (wpAny_letGo ?_);unfold Builtin.List.listExtendWith;obtain ⟨f0,f1,u0,v0,w0,N,_⟩:=id t;have G:(Shared.TypeIs { s with heap:=g2 } (.ref z) "zip"):=⟨_,N,rfl⟩
 refine Ac (J5 G ?_);have zS:S≠z:=λh=>l z J h.symm;have h1:Builtin.List.listSameRef (.ref S) (.ref z)=false:=by simp [Builtin.List.listSameRef,zS]
 have Z:(Value.type "zip"==Value.type "list")=false:=by decide
 have h3:(Value.type "zip"==Value.type "tuple")=false:=by decide
 simp only [h1,Z,h3,Bool.or_false,DR,CV];refine Ac (ji N ?_);refine Ac (Cp ?_);unfold Builtin.List.listLengthHint;refine Ac (wpAny_specialOf G nP ?_);show wpAny _ X.A.in1.in1 (specialOf (Value.ref z) (Str.ofString "__length_hint__") >>= _) _ _ _;refine Ac (wpAny_specialOf G qU ?_);refine Ae ?_;show wpAny _ X.A.in1.in1 (rule "list.extend.makes-room" >>= λ_=>Builtin.List.listTouch (.ref S) >>= λ_=>again (.builtin "list.extend.loop" ⟨[.ref S,.ref z,.none],[]⟩)) _ _ _;refine Ac (wpAny_rule ?_);refine Ac ?_;show wpAny _ X.A.in1.in1 (updateSeq S (·.push .none) >>= λ_=>updateSeq S (·.pop)) _ _ _;refine Ac (J7 k rfl ?_);have m:=Ku (Obj.mapSeq (·.push Value.none)) k rfl;refine J7 (hz:=by seq_fits) m rfl ?_;have P:=O.lset (f:=(·.push Value.none)) (t':=s.toks) (its:=[]) (its':=[.none]) (ys:=[.non]) An k rfl (.cons (show RelV .non .none from rfl) .nil) (by show (1:Nat)<=sizeLine;decide);rw [Pn] at P;have M:=P.lset (f:=(·.pop)) (t':=s.toks) (its:=[.none]) (its':=[]) (ys:=[]) An m rfl .nil (DQ _);rw [Pn] at M;have C:At3 p q r z TI TO i1 i2 i3 a b c 0 ((g2.update S (Obj.mapSeq (·.push Value.none))).update S (Obj.mapSeq (·.pop))):=t.keep λd i o e=>(Ke _ _ (λh=>l d i h.symm)).trans ((Ke _ _ (λh=>l d i h.symm)).trans e);refine Ae ⟨plainId_quiet QT _,?_⟩;refine gK (B:=X.A.in1) (I.ok.hd hc) D hqa hqb hqc (λh=>l S h rfl) (λs' as H' T e L=>⟨rfl,kQ s' S as H' T e L⟩) (Bh xs ys us).length 0 _ H [] (by omega) M x .nil C rfl λd i=>?_;have z:=hf d i;exact ⟨by rw [Ag (l d i)];exact z.1,z.2⟩
end
section
def tLZ(K:W.Frag)(ta:TA):TE:=λY H Q=>ta Y H λj d=>∃p q r a b c f h g,j=[.ref a,.ref b,.ref c]/\SqB K p d a f/\SqB K q d b h/\SqB K r d c g/\∀S i e,e S=none->Lay3 d (Bh f h g) i e->Q (.ref S) (upd e S (.lst (i.map V.ref)))
def pQ(hc:X.calm=true)(hg:Gl X "zip")(hm:X.mg "zip"=none)(hgl:Gl X "list")(hml:X.mg "list"=none)(ha:PA X [a,b,c] ta)(hs:starEach [a,b,c] X.env=[(false,eval a X.env),(false,eval b X.env),(false,eval c X.env)]:=by rfl)(hs2:starEach [b,c] X.env=[(false,eval b X.env),(false,eval c X.env)]:=by rfl)(hs3:starEach [.Call (.Name "zip" np) [a,b,c] [] pos] X.env=(false,eval (.Call (.Name "zip" np) [a,b,c] [] pos) X.env)::starEach [] X.env:=by rfl) :
  PE X (.Call (.Name "list" lp) [.Call (.Name "zip" np) [a,b,c] [] pos] [] pos') (tLZ X.K ta):=by
 intro g s Y H Q I h;refine Call_ (Gu I hgl hml Oj (Ht ?_ hs3 rfl));rw [hs3];show wpAny _ _ (spliced ((false,eval (.Call (.Name "zip" np) [a,b,c] [] pos) X.env)::backTo pos' (starEach [] X.env))) _ _ s;refine Calls.spliced_cons ?_;refine Call_ (Gu I hg hm lO (Ht (thn (ha pos g s Y H _ I h) λk A zq=>?_) (by rw [hs,hs2]) (by rw [hs2];rfl)));obtain ⟨N,E,v,o,u⟩:=zq;obtain ⟨κ,μ,ν,l,m,n,B,F,C,e,d,f,i,q⟩:=u;subst e;cases o with
 | cons r rr=>
  cases rr with
  | cons r' rr=>
   cases rr with
   | cons r'' rr=>
    cases rr;cases r;cases r';cases r'';refine eV v d f i λJ z M R G P O D x p j _=>?_;refine Calls.spliced_nil ?_;exact jO hc D x p j d f i λT S y w t e L=>⟨.ref S,_,t,rfl,q S y w e L⟩
end
end L2
namespace L2.Ds
open Dl
section
variable {F:Hp}
def p7{us:List D}(r:Rps K mg F xs ds)(e:zip3 ds=.ok us):∃p q t a b c as bs cs d1 d2 d3,xs=[.ref a,.ref b,.ref c]/\SqB K p F a as/\SqB K q F b bs/\SqB K t F c cs/\Rps K mg F as d1/\Rps K mg F bs d2/\Rps K mg F cs d3/\us=trips d1 d2 d3:=by
 unfold zip3 at e;split at e
 .next x y z=>
  obtain ⟨B,A,w,rfl,s,i,n⟩:=r.three;cases e1:seqD x with
  | ok d1=>
   rw [e1] at e;cases e2:seqD y with
   | ok d2=>
    cases e3:seqD z with
    | ok d3=>
     have g:((seqD y).bind λh=>(seqD z).bind λf=>Res.ok (trips d1 h f))=.ok us:=e;rw [e2] at g;have d:((seqD z).bind λf=>Res.ok (trips d1 d2 f))=.ok us:=g;rw [e3] at d;have l:Res.ok (trips d1 d2 d3)=.ok us:=d;cases l;obtain ⟨p,a,as,rfl,u,k⟩:=Te s e1;obtain ⟨q,b,bs,rfl,v,j⟩:=Te i e2;obtain ⟨t,c,cs,rfl,o,m⟩:=Te n e3;exact ⟨p,q,t,a,b,c,as,bs,cs,d1,d2,d3,rfl,u,v,o,k,j,m,rfl⟩
    | ex c=>
     have g:((seqD y).bind λh=>(seqD z).bind λf=>Res.ok (trips d1 h f))=.ok us:=e;rw [e2] at g;have d:((seqD z).bind λf=>Res.ok (trips d1 d2 f))=.ok us:=g;rw [e3] at d;cases d
    | bad=>
     have g:((seqD y).bind λh=>(seqD z).bind λf=>Res.ok (trips d1 h f))=.ok us:=e;rw [e2] at g;have d:((seqD z).bind λf=>Res.ok (trips d1 d2 f))=.ok us:=g;rw [e3] at d;cases d
   | ex c=>
    have g:((seqD y).bind λh=>(seqD z).bind λf=>Res.ok (trips d1 h f))=.ok us:=e;rw [e2] at g;cases g
   | bad=>
    have g:((seqD y).bind λh=>(seqD z).bind λf=>Res.ok (trips d1 h f))=.ok us:=e;rw [e2] at g;cases g
  | ex c=>rw [e1] at e;cases e
  | bad=>rw [e1] at e;cases e
 .cases e
def Zr4{c:Str}:zip3 ds≠.ex c:=by
 intro e;unfold zip3 at e;split at e
 .next x y z=>
  cases e1:seqD x with
  | ok d1=>
   rw [e1] at e;have b:((seqD y).bind λf=>(seqD z).bind λd=>Res.ok (trips d1 f d))=.ex c:=e;cases e2:seqD y with
   | ok d2=>
    rw [e2] at b;have a:((seqD z).bind λd=>Res.ok (trips d1 d2 d))=.ex c:=b;cases e3:seqD z with
    | ok d3=>rw [e3] at a;cases a
    | ex c'=>exact aB e3 Ti
    | bad=>rw [e3] at a;cases a
   | ex c'=>exact aB e2 Ti
   | bad=>rw [e2] at b;cases b
  | ex c'=>exact aB e1 Ti
  | bad=>rw [e1] at e;cases e
 .cases e
def wY:∀{H H':Hp} {ts:List (V×V×V)} {as:List Addr},Lay3 H ts as H'->∀{F:Hp},Same F H->∀{us:List D},us.length=ts.length->(∀(i:Nat) x y z d,ts[i]?=some (x,y,z)->us[i]?=some d->∃a b c,d=.tup [a,b,c]/\Rp K mg F x a/\Rp K mg F y b/\Rp K mg F z c)->∃F',Gr F H F' H'/\Rps K mg F' (as.map V.ref) us:=by
 intro H H' ts as L
 induction L with
 | nil=>
  intro F s us m _;have:us=[]:=Jz.mp m;subst this;exact ⟨F,.refl s,.nil⟩
 | @snoc ts as H1 T x y u L hT ih=>
  intro F s us m n;have k:us.length=ts.length+1:=by rw [m,BJ];rfl
  obtain ⟨d,p⟩ : ∃d,us[ts.length]?=some d:=⟨_,Aw (by omega)⟩;obtain ⟨g,rfl⟩ : ∃g,us=g++[d]:=by
   refine ⟨us.take ts.length,?_⟩;have:=List.take_append_drop ts.length us;rw [Hs (by omega),Jh (by omega)] at this;have e:us[ts.length]=d:=by
    have:=Aw (show ts.length<us.length by omega);rw [p] at this;exact (Br this).symm
   rw [e] at this;exact this.symm
  have l:g.length=ts.length:=by rw [BJ] at k;simpa using k
  obtain ⟨w,j,r⟩:=ih s l λi x y z e q o=>n i x y z e (by rw [Eo ((Cd.mp q).1)];exact q) (by rw [Eo ((Cd.mp o).1)];exact o);obtain ⟨a,b,c,rfl,v,t,A⟩:=n ts.length x y u d (by simp) p;have h:Gr w H1 _ _:=.new j.s hT (.tup [x,y,u]);refine ⟨_,j.trans h,?_⟩;rw [Cz];refine Rps.app (.cons (.tup (SqT.of An) (.cons ((v.same j.f).same h.f) (.cons ((t.same j.f).same h.f) (.cons ((A.same j.f).same h.f) .nil)))) .nil) (r.same h.f)
def Vv:∀{xs ys zs:List V} {ds es fs:List D},Rps K mg F xs ds->Rps K mg F ys es->Rps K mg F zs fs->(trips ds es fs).length=(Bh xs ys zs).length/\∀(i:Nat) x y z d,(Bh xs ys zs)[i]?=some (x,y,z)->(trips ds es fs)[i]?=some d->∃a b c,d=.tup [a,b,c]/\Rp K mg F x a/\Rp K mg F y b/\Rp K mg F z c
 | _,_,_,_,_,_,.nil,_,_=>⟨by simp [trips,Bh],λi x y z d h=>by simp [Bh] at h⟩
 | _,_,_,_,_,_,.cons _ _,.nil,_=>⟨by simp [trips,Bh],λi x y z d h=>by simp [Bh] at h⟩
 | _,_,_,_,_,_,.cons _ _,.cons _ _,.nil=>⟨by simp [trips,Bh],λi x y z d h=>by simp [Bh] at h⟩
 | _,_,_,_,_,_,.cons h1 r1,.cons h2 r2,.cons h3 r3=>by
  obtain ⟨l,q⟩:=Vv r1 r2 r3;refine ⟨by simp [trips,Bh,l],λi x y z d f e=>?_⟩;cases i with
  | zero=>
   simp [Bh] at f;obtain ⟨rfl,rfl,rfl⟩:=f;simp [trips] at e;subst e;exact ⟨_,_,_,rfl,h1,h2,h3⟩
  | succ i=>exact q i x y z d (by simpa [Bh] using f) (by simpa [trips] using e)
end
section
variable {a b c:Expr} {t:TA} {m:MA} {lp p:Pos}
def pH(hcm:X.calm=true)(hg:Gl X "zip")(hm:X.mg "zip"=none)(hgl:Gl X "list")(hml:X.mg "list"=none)(ha:DA X E n [a,b,c] t m)(hs:starEach [a,b,c] X.env=[(false,eval a X.env),(false,eval b X.env),(false,eval c X.env)]:=by rfl)(hs2:starEach [b,c] X.env=[(false,eval b X.env),(false,eval c X.env)]:=by rfl)(hs3:starEach [.Call (.Name "zip" p) [a,b,c] [] pos] X.env=(false,eval (.Call (.Name "zip" p) [a,b,c] [] pos) X.env)::starEach [] X.env:=by rfl) :
  DE X E (.Call (.Name "list" lp) [.Call (.Name "zip" p) [a,b,c] [] pos] [] pos') (tLZ X.K t) (on lz3 m):=by
 refine ⟨pQ hcm hg hm hgl hml ha.p hs hs2 hs3,?_⟩;intro D C F H Y Z W;refine (ha.s D C F H Y Z W).bind (w':=λN d Q=>∃p q r a b c j v k,N=[V.ref a,V.ref b,V.ref c]/\SqB X.K p d a j/\SqB X.K q d b v/\SqB X.K r d c k/\∀S i g,g S=none->Lay3 d (Bh j v k) i g->Q (V.ref S) (upd g S (.lst (i.map V.ref)))) λF1 d j M h U=>?_;unfold lz3;cases e:zip3 M with
 | ok k=>
  obtain ⟨p,q,t,a,b,c,i,R,B,d1,d2,d3,rfl,ha,T,A,x,J,y,rfl⟩:=p7 U e;obtain ⟨l,z⟩:=Vv x J y;refine λQ O=>⟨p,q,t,a,b,c,i,R,B,rfl,Tp h.s ha,Tp h.s T,Tp h.s A,λS o g G L=>?_⟩;obtain ⟨P,u,I⟩:=wY L h.s l z;have w:Gr P g _ _:=.new u.s G (.lst (o.map V.ref));exact O _ _ _ (u.trans w) (.lst (SqL.of An) (I.same w.f))
 | ex c'=>exact aB e Zr4
 | bad=>trivial
end
end L2.Ds
namespace Dl
def repL(ds:List D):D->Res D
 | .int k=>if (0<=k/\k<=1000000)/\ds.length*k.toNat<=1000000 then .ok (.lst (List.replicate k.toNat ds).flatten) else .bad
 | _=>.bad
def repD(m:MA)(e:ME):ME:=λZ=>(m Z).bind λa=>(e Z).bind λy=>repL a y
end Dl
namespace L2.Ds
open PySem.Calls Dl
section
variable {F:Hp}
def aU:∀{xs ys:List V} {ds es:List D},Rps K mg F xs ds->Rps K mg F ys es->Rps K mg F (xs++ys) (ds++es)
 | _,_,_,_,.nil,h=>h
 | _,_,_,_,.cons h r,h'=>.cons h (aU r h')
def bF(h:Rps K mg F xs ds):∀k,Rps K mg F (List.replicate k xs).flatten (List.replicate k ds).flatten
 | 0=>.nil
 | k+1=>by
  rw [Gn,Gn,Jf,Jf];exact aU h (bF h k)
def yz{R:Hp->Hp->V->D->Prop}{t:TA}{m:MA}{tb:TE}{mb:ME}(hR:∀F F' p zs es,F p=none->F' p=some (.lst zs)->Rps K mg F' zs es->R F F' (.ref p) (.lst es))(ha:SA K mg E t m)(hl:SAn n m)(hn:n<=sizeLine)(hb:SE K mg E tb mb):∀F0 H0 F H Y Z,Rep K mg F0 H0 F H Y Z->Ans mg E (R F) F H (repD m mb Z) (tOp rRep (tLst t) tb Y H):=by
 intro F0 H0 F H Y Z x;have h:=ha F0 H0 F H Y Z x;unfold repD;cases e:m Z with
 | bad=>trivial
 | ex c=>
  rw [e] at h;exact λQ q=>h _ q
 | ok ds=>
  rw [e] at h;show Ans mg E (R F) F H ((mb Z).bind λy=>repL ds y) _;have r:=λF' j (g:Gr F H F' j)=>hb F0 H0 F' j Y Z (x.gr g);cases eb:mb Z with
  | bad=>trivial
  | ex c=>
   rw [eb] at r;exact λQ q=>h _ λF' j b g i=>⟨by rw [i.length,hl Z ds e];exact hn,λp l=>r _ _ (g.trans (.new g.s l _)) _ λu v C a A=>q u v C ((g.trans (.new g.s l _)).trans a) A⟩
  | ok y=>
   rw [eb] at r;show Ans mg E (R F) F H (repL ds y) _;unfold repL;split
   .next k=>
    by_cases hk:(0<=k/\k<=1000000)/\ds.length*k.toNat<=1000000
    .rw [iP hk];refine λQ q=>h _ λF' j b g i=>⟨by rw [i.length,hl Z ds e];exact hn,λp l=>?_⟩;have o:=Gr.new g.s l (.lst b);refine r _ _ (g.trans o) _ λu v G a z=>?_;cases z;have B:u p=some (.lst b):=a.f p _ An;refine ⟨p,k,b,rfl,rfl,a.s p _ B,by omega,by omega,?_,λI d=>?_⟩
     .rw [i.length];exact CJ hk.2 (by decide)
     .have w:=Gr.new a.s d (.lst (List.replicate k.toNat b).flatten);exact q _ _ _ (((g.trans o).trans a).trans w) (hR _ _ _ _ _ ((g.trans (o.trans a)).f.free (a.s.free d)) An (bF (((i.same o.f).same a.f).same w.f) k.toNat))
    .rw [iN hk];trivial
   .trivial
end
def GTup(K:W.Frag)(mg:Str->Option Value)(x:Str)(ns:List Int):Prop:=∃a o b n,mg x=some (.ref a)/\K.lookup a=some o/\o.cls=.type "tuple"/\o.data=.seq b n/\b.size<=sizeLine/\Vals (ns.map V.int) b.toList
def dU{F:Hp}:∀ns:List Int,Rps K mg F (ns.map V.int) (ns.map D.int)
 | []=>.nil
 | n::r=>.cons (.int n) (dU r)
section
variable {a b c tg:Expr} {t:TA} {m:MA} {tb:TE} {mb:ME} {p lpos:Pos}
def ZuN{ns:List Int}{A:Addr}{o:Obj}{its:Array Value}(hg:Gl X x)(hm:X.mg x=some (.ref A))(h1:X.K.lookup A=some o)(h2:o.cls=.type "tuple")(h3:o.data=.seq its n)(h4:its.size<=sizeLine)(h5:Vals (ns.map V.int) its.toList)(hd:ND x:=by decide) :
  DE X E (.Name x pos) (tC (.ref A)) (Dl.c (.tup (ns.map .int))):=⟨T7 hg hm rfl hd,se_c λ_=>.tup (.inr ⟨o,its,n,h1,h2,h3,h4,h5⟩) (dU ns)⟩
end
end L2.Ds
namespace Dl
def Ve(i:Nat)(ds:List D):Fl->Res Fl
 | .nx Z=>.ok (.nx (Z.set i (.ow ds)))
 | .rt d=>.ok (.rt d)
 | _=>.bad
end Dl
namespace L2.Ds
open PySem.Calls Dl
def AnsK(i:Nat)(Y:St)(K:W.Frag)(mg:Str->Option Value)(E:XK)(F0 H0 F:Hp)(r:Res Fl)(w:Ends->Prop):Prop :=
 match r with
 | .ok (.nx Z)=>∀D,(∀b a e,Same F b->Rep K mg F0 H0 b a e Z->e[i]?=Y[i]?->D.nx e a)->w D
 | .ok (.bk Z)=>∀D,(∀b a e,Same F b->Rep K mg F0 H0 b a e Z->e[i]?=Y[i]?->D.bk e a)->w D
 | .ok (.ct Z)=>∀D,(∀b a e,Same F b->Rep K mg F0 H0 b a e Z->e[i]?=Y[i]?->D.ct e a)->w D
 | .ok (.rt d)=>∀D,(∀b a x,Gr F0 H0 b a->Rp K mg b x d->D.rt x a)->w D
 | .ex c=>∀D,(∀b a C,Gr F0 H0 b a->mg (clsOf c)=some (.ref C)->E (.ref C) (pay c) a)->w D
 | .bad=>True
def SSk(i:Nat)(K:W.Frag)(mg:Str->Option Value)(E:XK)(t:TS)(m:MS):Prop:=∀a b F H Y Z,Rep K mg a b F H Y Z->AnsK i Y K mg E a b F (m Z) (λD=>t D Y H)
section
variable {F:Hp} {ta:TE} {ma:ME}
def AnsK.mono{w:Ends->Prop}(s:Same F F1)(h:AnsK i Y K mg E F0 H0 F1 r w):AnsK i Y K mg E F0 H0 F r w:=by
 cases r with
 | ok f=>
  cases f with
  | nx Z=>exact λD q=>h D λb a g j e=>q b a g (s.trans j) e
  | bk Z=>exact λD q=>h D λb a g j e=>q b a g (s.trans j) e
  | ct Z=>exact λD q=>h D λb a g j e=>q b a g (s.trans j) e
  | rt d=>exact h
 | ex c=>exact h
 | bad=>trivial
def Ans.stmK{α β:Type}{R:Hp->β->α->Prop}{r:Res α}{w:(β->Hp->Prop)->Prop}{k:α->Res Fl}{w':β->Hp->Ends->Prop}(h1:Ans mg E R F H r w)(g0:Gr F0 H0 F H)(h2:∀a,r=.ok a->∀F1 H1 b,Gr F H F1 H1->R F1 b a->AnsK i Y K mg E F0 H0 F1 (k a) (w' b H1)) :
  AnsK i Y K mg E F0 H0 F (r.bind k) (λD=>w λb H1=>w' b H1 D):=by
 cases r with
 | ok a=>
  show AnsK i Y K mg E F0 H0 F (k a) _;have e:=λF1 H1 b (g:Gr F H F1 H1) q=>(h2 a rfl F1 H1 b g q).mono g.f;generalize k a=r2 at e;cases r2 with
  | ok f=>
   cases f with
   | nx Z=>exact λD q=>h1 _ λF1 H1 b g h=>e F1 H1 b g h D q
   | bk Z=>exact λD q=>h1 _ λF1 H1 b g h=>e F1 H1 b g h D q
   | ct Z=>exact λD q=>h1 _ λF1 H1 b g h=>e F1 H1 b g h D q
   | rt d=>exact λD q=>h1 _ λF1 H1 b g h=>e F1 H1 b g h D q
  | ex c=>exact λD q=>h1 _ λF1 H1 b g h=>e F1 H1 b g h D q
  | bad=>trivial
 | ex c=>exact λD q=>h1 _ λF1 H1 C g j=>q F1 H1 C (g0.trans g) j
 | bad=>trivial
def qT:SSk i K mg E Gi nop:=λ_ _ _ _ _ _ r D q=>q _ _ _ (Same.refl _) r rfl
def wG(hj:j≠i)(ha:SE K mg E ta ma):SSk i K mg E (tAsg ta (Bt j)) (st j ma):=by
 intro f k F H Y Z a;exact (ha f k F H Y Z a).stmK a.g λd _ c e x h b=>λD q=>q c e _ (Same.refl _) ((a.gr h).set j b) (Cq hj)
def yr{n:MS}(hc:STt K mg E sc nc)(h1:SSk i K mg E t m)(h2:SSk i K mg E u n):SSk i K mg E (tIfS sc t u) (ifs nc m n):=by
 intro c d F H Y Z a;refine (hc c d F H Y Z a).stmK a.g λb _ e f x h j=>?_;cases (j);cases b with
 | true=>
  have z:=h1 c d e f Y Z (a.gr h);simp only [Dj];exact z
 | false=>
  have z:=h2 c d e f Y Z (a.gr h);simp only [DR,CV];exact z
end
structure DSk(X:Cx)(i:Nat)(E:XK)(st:Stmt)(t:TS)(m:MS):Prop where
 p:PS X st t
 s:SSk i X.K X.mg E t m
structure DSsk(X:Cx)(i:Nat)(E:XK)(st:List Stmt)(t:TS)(m:MS):Prop where
 p:PSs X st t
 s:SSk i X.K X.mg E t m
section
variable {c' tg:Expr} {sa:TT} {na:MB} {y:Str} {ipos tpos:Pos}
def je(hN:X.N.Nodup)(hi:X.N[j]?=some x)(hx:Loc X.env.scope x)(hj:j≠i)(he:DE X E e te me)(hs:swapsWith e (some (.Name x pos')) spos.line X.env=pure false:=by rfl)(hf:X.fn x=true\/X.env.scope.names.lookup x=some .local:=by first | exact .inl rfl | exact .inr rfl | assumption) :
  DSk X i E (.Assign [.Name x pos'] e spos) (tAsg te (Bt j)) (st j me):=⟨Nb hN hi hx he.p hs hf,wG hj he.s⟩
def wK:DSsk X i E [] Gi nop:=⟨K8,qT⟩
def V3{st:Stmt}{u:TS}{k:MS}(h:DSk X i E st u k):DSsk X i E [st] u k:=⟨Uq h.p,h.s⟩
def wM{k:MS}(hc:DT X E c' sa na)(ha:DSsk X i E as u k)(hb:DSsk X i E bs u' k'):DSk X i E (.If c' as bs spos) (tIfS sa u u') (ifs na k k'):=⟨Ob hc.p ha.p hb.p,yr hc.s ha.s hb.s⟩
end
end L2.Ds
namespace Dl
def Uu:Res Fl->Res Fl
 | .ok (.rt d)=>.ok (.rt d)
 | _=>.bad
end Dl
namespace L2.Ds
open Dl
section
variable {F:Hp}
def Rep.letgo{x:Option V}(r:Rep K mg F0 H0 F H Y Z)(g:Gr F H F3 H3)(ag:∀b o,H3 b=some o->(F3 b=none\/∃u,F b=some u)->H4 b=some o):Rep K mg F0 H0 F H4 (Y.set i x) (Z.set i .no):=by
 refine ⟨⟨r.g.f,λb u e=>ag b u (g.s b u (g.f b u e)) (.inr ⟨u,e⟩),λb u J G=>?_,r.g.z⟩,by rw [De,De];exact r.len,λj d q=>?_,λj m q=>?_,λj k m D a p h y A=>?_⟩
 .obtain ⟨w,E⟩:=r.g.o b u J G;obtain ⟨c,t⟩:=g.o b u w E;exact ⟨w,ag b u t (.inl c)⟩
 .rcases Av q with ⟨_,z,_⟩ | ⟨hij,q⟩
  .cases z
  .rw [Cq hij];exact r.im j d q
 .rcases Av q with ⟨_,z,_⟩ | ⟨hij,q⟩
  .cases z
  .rw [Cq hij];obtain ⟨a,B,n,l,v,I,C⟩:=r.ow j m q;obtain ⟨c,t⟩:=g.o a _ v I;exact ⟨a,B,n,l,v,ag a _ t (.inl c),C⟩
 .rcases Av p with ⟨_,z,_⟩ | ⟨n,p⟩
  .cases z
  .rcases Av h with ⟨_,z,_⟩ | ⟨l,h⟩
   .cases z
   .rw [Cq n] at y;rw [Cq l] at A;exact r.ne j k m D a p h y A
end
end L2.Ds
namespace Dl
def dFld(cs:List Str)(f:Str):D->Res D
 | .ins c ns vs=>if cs.contains c=true then ofO ((ns.zip vs).lookup f) else .bad
 | _=>.bad
def badS:MS:=λ_=>.bad
end Dl
namespace L2.Ds
open Dl
def FJ(K:W.Frag)(mg:Str->Option Value)(cs:List Str)(f:Str):Prop:=∀c,cs.contains c=true->∀C,mg c=some (.ref C)->Cls K C/\Ha K C f
def rFld(K:W.Frag)(f:Str):V->Hp->VK->Prop:=λx H Q=>∃a C c b v,x=.ref a/\H a=some (.ins C c b)/\Cls K C/\Ha K C f/\b.lookup f=some v/\Q v H
section
def WK{F:Hp}:∀{fs:List (Str×V)} {vs:List D},Rps K mg F (fs.map (·.2)) vs->((fs.map (·.1)).zip vs).lookup f=some d->∃v,fs.lookup f=some v/\Rp K mg F v d
 | [],_,_,e=>by simp at e
 | (n,x)::r,[],q,_=>nomatch q
 | (n,x)::r,d0::vs,.cons h q,e=>by
  rw [Bb,List.zip_cons_cons,Io] at e;rw [Io];cases z:f==n with
  | true=>
   rw [show (f==(n,x).fst)=true from z] at e;cases e;exact ⟨x,rfl,h⟩
  | false=>
   rw [show (f==(n,x).fst)=false from z] at e;exact WK q e
def iC(T:FJ K mg cs f):UnD K mg (rFld K f) (dFld cs f):=by
 intro E F H x b s g;cases b with
 | ins c ns vs=>
  show Ans mg E (Rp K mg) F H (if cs.contains c=true then ofO ((ns.zip vs).lookup f) else .bad) _
  by_cases hc:cs.contains c=true
  .rw [iP hc];cases g with
   | @ins _ C a b fs xs _ m h o e r=>
    subst e;cases q:((fs.map (·.1)).zip vs).lookup f with
    | none=>trivial
    | some d=>
     obtain ⟨v,l,j⟩:=WK r q;obtain ⟨i,k⟩:=T c hc C m;exact .ret s j λQ z=>⟨a,C,b,fs,v,rfl,s _ _ h,i,k,l,z⟩
  .rw [iN hc];trivial
 | _=>trivial
end
def Ov(T:FJ X.K X.mg cs f)(he:DE X E e te me)(hb:attributeBase e f X.env (eval e X.env)=eval e X.env:=by rfl) :
  DE X E (.Attribute e f pos) (tFld X.K te f) (o1 (dFld cs f) me):=⟨iy he.p hb,Yv (iC T) he.s⟩
def q7:DSs X E sts (λ_ _ _=>False) badS:=⟨λ_ _ _ _ _ _ h=>h.elim,λ_ _ _ _ _ _ _=>trivial⟩
end L2.Ds
namespace Dl
mutual
def noL:D->Bool
 | .lst _=>false
 | .ins _ _ _=>false
 | .tup xs=>noLs xs
 | _=>true
def noLs:List D->Bool
 | []=>true
 | x::r=>noL x&&noLs r
end
end Dl
namespace L2.Ds
open Dl
section
variable {F:Hp}
mutual
def Wg{F:Hp}(k:∀b o,F b=some o->(∀xs,o≠.lst xs)->F3 b=some o):∀{x:V} {d:D},Rp K mg F x d->noL d=true->Rp K mg F3 x d
 | _,_,.non,_=>.non
 | _,_,.bl b,_=>.bl b
 | _,_,.int i,_=>.int i
 | _,_,.str x,_=>.str x
 | _,_,.ty n,_=>.ty n
 | _,_,.cls h,_=>.cls h
 | _,_,.tup h r,p=>by
  refine .tup ?_ (Sq k r (by simpa [noL] using p));rcases h with (h | ⟨o,h⟩) | h
  .exact .inl (.inl (k _ _ h λ_ z=>by cases z))
  .exact .inl (.inr ⟨o,k _ _ h λ_ z=>by cases z⟩)
  .exact .inr h
 | _,_,.lst h r,p=>by simp [noL] at p
 | _,_,.exc m h,_=>.exc m (h.same k)
 | _,_,.ins m h o q r,p=>by simp [noL] at p
def Sq{F:Hp}(k:∀b o,F b=some o->(∀xs,o≠.lst xs)->F3 b=some o):∀{xs:List V} {ds:List D},Rps K mg F xs ds->noLs ds=true->Rps K mg F3 xs ds
 | _,_,.nil,_=>.nil
 | _,_,.cons h r,p=>by
  rw [noLs,Hg] at p;exact .cons (Wg k h p.1) (Sq k r p.2)
end
def RowR(K:W.Frag)(mg:Str->Option Value)(Fb F':Hp)(x:V)(d:D):Prop:=∃q b a,x=.ref q/\d=.lst a/\Fb q=none/\F' q=some (.lst b)/\Rps K mg F' b a
def RowR.up{x:V}(h:RowR K mg Fb F' x d)(s:Same F' F''):RowR K mg Fb F'' x d:=by
 obtain ⟨q,e,f,g,a,i,b,c⟩:=h;exact ⟨q,e,f,g,a,i,s _ _ b,c.same s⟩
def SEl(K:W.Frag)(mg:Str->Option Value)(E:XK)(t:TE)(m:ME):Prop:=∀a b F H Y Z,Rep K mg a b F H Y Z->Ans mg E (RowR K mg F) F H (m Z) (t Y H)
def tW{own:List Str}{cap:List (Str×Nat)}{ys:List D}(r:Rep K mg F0 H0 F H Y Z)(jo:ItOk K mg F J ds)(hg:SG K mg own.length t g)(ht:STt K mg E0 tt nt)(he:SEl K mg E0 te me)(hl:ds.length<=LIM)(e0:Dl.Bc g nt me (noA own.length (Bm Z (cap.map (·.2)))) ds=.ok ys)(Q)(q:∀F' H' xs,Gr F H F' H'->Rps K mg F' xs ys->(∀(k:Nat) (y:V) (d:D),xs[k]?=some y->ys[k]?=some d->RowR K mg F F' y d)->xs.Nodup->xs.length<=sizeLine->∀p,H' p=none->Q (.ref p) (upd H' p (.lst xs))) :
  Lz J t tt te own cap Y Q H:=by
 refine ⟨λi k a H'=>k=ds.length - i/\i<=ds.length/\a.length<=i/\∃F' B C,Gr F H F' H'/\Rps K mg F' a B/\(∀(k:Nat) (y:V) (d:D),a[k]?=some y->B[k]?=some d->RowR K mg F F' y d)/\a.Nodup/\Dl.Bc g nt me (noA own.length (Bm Z (cap.map (·.2)))) (ds.drop i)=.ok C/\B++C=ys,
  ⟨ds.length,by simp,DQ _,Am _,F,[],ys,.refl r.ss,.nil,(λk y d hy=>by simp at hy),List.nodup_nil,e0,rfl⟩,?_⟩
 rintro i k a H' ⟨rfl,hi,ha,F',B,C,A,N,P,m,S,O⟩;have la:=CJ ha (CJ hi hl);refine ⟨JW la,?_⟩;by_cases hlt:i<ds.length
 .refine .inr ?_;have v:=Aw hlt;obtain ⟨go,yl⟩:=(jo F' H' A.f A.s i).1 _ v;rw [Hs hlt] at S;refine ⟨go,λx H2 y=>?_⟩;obtain ⟨F2,T,rx⟩:=yl x H2 y;have rr:=(r.gr (A.trans T)).inner (own:=own) (cap:=cap) (A.trans T);have hG:=hg F H F2 H2 _ _ x _ rr rx;have E:(g ds[i] (noA own.length (Bm Z (cap.map (·.2))))).bind (λe=>(nt e).bind λb=>if b=true then (me e).bind λy=>(Dl.Bc g nt me (noA own.length (Bm Z (cap.map (·.2)))) (ds.drop (i+1))).bind λys=>.ok (y::ys) else Dl.Bc g nt me (noA own.length (Bm Z (cap.map (·.2)))) (ds.drop (i+1)))=.ok C:=S
  cases eg:g ds[i] (noA own.length (Bm Z (cap.map (·.2)))) with
  | ok e=>
   rw [eg] at E hG;refine hG _ λF3 H3 Y3 s3 M d3=>⟨d3.trans Y7,?_⟩;have hT:=ht F H F3 H3 Y3 e M;have R:=T.f.trans s3;have n:(nt e).bind (λb=>if b=true then (me e).bind λy=>(Dl.Bc g nt me (noA own.length (Bm Z (cap.map (·.2)))) (ds.drop (i+1))).bind λys=>.ok (y::ys) else Dl.Bc g nt me (noA own.length (Bm Z (cap.map (·.2)))) (ds.drop (i+1)))=.ok C:=E
   cases et:nt e with
   | ok b=>
    rw [et] at n hT;refine hT _ λF4 H4 b' h eb=>?_;cases (eb);cases b with
    | true=>
     rw [iP rfl];have j:=n;have hE:=he F H F4 H4 Y3 e (M.gr h);cases em:me e with
     | ok y'=>
      rw [em] at j hE;refine hE _ λF5 H5 u g5 ru=>⟨Hr la (by decide),ds.length - (i+1),by omega,rfl,hlt,by rw [BJ];show a.length+1<=i+1;omega,?_⟩;have G:=j;have I:=R.trans (h.f.trans g5.f);cases ec:Dl.Bc g nt me (noA own.length (Bm Z (cap.map (·.2)))) (ds.drop (i+1)) with
      | ok rs'=>
       rw [ec] at G;have e6:=G;cases e6;obtain ⟨q,qs,cs,rfl,rfl,o,L,rq⟩:=ru;have fq:=(M.g.f.trans h.f).free o;have lz:=N.length;refine ⟨F5,B++[.lst cs],rs',M.g.trans (h.trans g5),Rps.app (.cons (.lst (SqL.of L) rq) .nil) (N.same I),λk z d l v=>?_,?_,rfl,by rw [Dr];exact O⟩
       .by_cases U:k<a.length
        .rw [Eo U] at l;rw [Eo (by omega)] at v;exact (P k z d l v).up I
        .rw [Fp (by omega)] at l;rw [Fp (by omega)] at v;have X:k - a.length=0:=by
          have:=(Cd.mp l).1;simp at this;omega
         rw [X] at l;rw [show k - B.length=0 by omega] at v;cases l;cases v;exact ⟨q,qs,cs,rfl,rfl,fq,L,rq⟩
       .refine List.nodup_append.mpr ⟨m,by simp,λz l w hw=>?_⟩;have hw':w=.ref q:=by simpa using hw
        subst hw';obtain ⟨k,U,rfl⟩:=Ii.mp l;obtain ⟨q',_,_,ez,_,_,f',_⟩:=P k _ _ (Aw U) (Aw (by omega));rw [ez];intro z2;cases z2;rw [(R.trans h.f) _ _ f'] at o;cases o
      | ex c=>rw [ec] at G;cases G
      | bad=>rw [ec] at G;cases G
     | ex c=>rw [em] at j;cases j
     | bad=>rw [em] at j;cases j
    | false=>
     rw [iN DX];have j:=n;exact ⟨ds.length - (i+1),by omega,rfl,hlt,by omega,F4,B,C,M.g.trans h,N.same (R.trans h.f),(λk z d h1 h2=>(P k z d h1 h2).up (R.trans h.f)),m,j,O⟩
   | ex c=>rw [et] at n;cases n
   | bad=>rw [et] at n;cases n
  | ex c=>rw [eg] at E;cases E
  | bad=>rw [eg] at E;cases E
 .have W:i=ds.length:=by omega
  subst W;rw [Jh (Am _)] at S;cases S;rw [Bp] at O;subst O;exact .inl ⟨(jo F' H' A.f A.s _).2 (Am _),q F' H' a A N P m (JW la)⟩
def cP:∀{xs:List V} {ds:List D} {G:Hp},xs.length=ds.length->(∀(k:Nat) (x:V) (d:D),xs[k]?=some x->ds[k]?=some d->Rp K mg G x d)->Rps K mg G xs ds
 | [],[],_,_,_=>.nil
 | [],_::_,_,l,_=>by cases l
 | _::_,[],_,l,_=>by cases l
 | x::xs,d::ds,G,l,h=>.cons (h 0 x d rfl rfl) (cP (by simpa using l) λk y e b a=>h (k+1) y e (by simpa using b) (by simpa using a))
end
structure DEl(X:Cx)(E:XK)(e:Expr)(t:TE)(m:ME):Prop where
 p:PE X e t
 s:SEl X.K X.mg E t m
end L2.Ds
namespace Dl
abbrev Fs:=List (Str×D)
abbrev MSi:=Ev->Fs->Res Fs
def iEnd:MSi:=λ_ a=>.ok a
def iDrp(e:ME)(k:MSi):MSi:=λZ a=>(e Z).bind λ_=>k Z a
def iSet(f:Str)(e:ME)(k:MSi):MSi:=λZ a=>(e Z).bind λd=>if (a.map (·.1)).contains f=true\/100<=a.length then .bad else k Z (a++[(f,d)])
def iSup(g:List D->Fs->Res Fs)(a:MA)(k:MSi):MSi:=λZ c=>(a Z).bind λd=>(g d c).bind λb=>k Z b
def fnI(n:Nat)(k:MSi):List D->Fs->Res Fs:=λb a=>k (.no::ev0 (n - 1) b) a
def make(c:Str)(g:List D->Fs->Res Fs)(a:MA):ME:=λZ=>(a Z).bind λd=>(g d []).bind λb=>.ok (.ins c (b.map (·.1)) (b.map (·.2)))
def meth(tab:List (Str×(List D->Res D)))(m:Str)(o:ME)(a:MA):ME:=λZ=>(o Z).bind λd=>match d with
 | .ins c ns vs=>if ns.contains m=true then .bad else match tab.lookup c with
  | some f=>(a Z).bind λb=>f (.ins c ns vs::b)
  | none=>.bad
 | _=>.bad
end Dl
namespace L2.Ds
open Dl
def Ans.imp{F:Hp}{w:(β->Hp->Prop)->Prop}(h:Ans mg E R F H r w)(hw:∀Q,w Q->w' Q):Ans mg E R F H r w':=by
 cases r with
 | ok a=>exact λQ q=>hw Q (h Q q)
 | ex c=>exact λQ q=>hw Q (h Q q)
 | bad=>trivial
def Nq(P:Program)(w:World)(K:W.Frag)(mg:Str->Option Value)(base:Heap)(k:Nat)(m:Str)(E:XK)(ta:TE)(t:TA):TE:=λY H Q=>ta Y H λx c=>∃a C i d g f b e,x=.ref a/\c a=some (.ins C i d)/\d.lookup m=none /\
 Cls K C/\Meth K C m g/\FnOk P w K mg base (CXR P w) k g f b e/\Binds K f b []/\t Y c λh j=>e (x::h) j Q E
section
variable {m:Str} {o:Expr} {ta:TE} {t:TA} {apos:Pos} {pl:Sem Bool}
def iG(he:PE X o ta)(hr:Room k X.A)(hx:Ea (CXR X.prog X.w) X E)(ha:PA X (e::es) t)(hst:starEach (e::es) X.env=(false,eval e X.env)::starEach es X.env:=by rfl)(hpl:(backTo pos (starEach es X.env)).any (·.1)=false:=by rfl) (ht:eval (.Call (.Attribute o m apos) (e::es) [] pos) X.env=(do
   let ov <-eval o X.env
   standAt apos.atName
   let (f,first) <-holding [ov] (getMethod ov m pl)
   callWith pos f first (backTo pos (starEach (e::es) X.env)) (backToKw pos (keywordEach [] X.env))):=by rfl) :
  PE X (.Call (.Attribute o m apos) (e::es) [] pos) (Nq X.prog X.w X.K X.mg X.base k m E ta t):=by
 intro b s Y H Q I h;refine W.methodCall_KW (thn (he b s Y H _ I h) λu i n=>?_) ht;obtain ⟨x,H1,I1,rx,a,C,dx,fs,g,fd,ps,sp,ex,ea,l,c,hm,F,hb,q⟩:=n;subst ex;obtain rfl:u=Value.ref a:=rx;refine dG I1 ea c hm l ?_;refine W.callWith_K I.ok.mod.kin hm.kp (thn (ha pos b i Y H1 _ I1 q) λy p zq=>?_) hst hpl;obtain ⟨vs,v,d,r,j⟩:=zq;refine ⟨d.kIn,?_⟩;exact Pk (vs:=.ref a::vs) F hr hb .nil hx d (.cons rfl r) (by rw [Bp];exact j)
def nU(he:PE X o ta)(hr:Room k X.A)(hx:Ea (CXR X.prog X.w) X E) (ht:eval (.Call (.Attribute o m apos) [] [] pos) X.env=(do
   let ov <-eval o X.env
   standAt apos.atName
   let (f,first) <-holding [ov] (getMethod ov m pl)
   callWith pos f first (backTo pos (starEach [] X.env)) (backToKw pos (keywordEach [] X.env))):=by rfl) :
  PE X (.Call (.Attribute o m apos) [] [] pos) (Nq X.prog X.w X.K X.mg X.base k m E ta tNil):=by
 intro b s Y H Q I h;refine W.methodCall_KW (thn (he b s Y H _ I h) λu e d=>?_) ht;obtain ⟨x,H1,I1,rx,a,C,dx,fs,g,fd,ps,sp,ex,ea,l,c,hm,F,hb,q⟩:=d;subst ex;obtain rfl:u=Value.ref a:=rx;refine dG I1 ea c hm l ?_;exact W.callWith_K0 I1.kIn hm.kp (Pk (vs:=[.ref a]) F hr hb .nil hx I1 (.cons rfl .nil) q)
end
def Fx(P:Program)(w:World)(K:W.Frag)(mg:Str->Option Value)(base:Heap)(k n:Nat)(m:Str)(tab:List (Str×(List D->Res D))):Prop:=∀c f,tab.lookup c=some f->∀C,mg c=some (.ref C) ->
 Cls K C/\∃g b a,Meth K C m g/\FnOk P w K mg base (CXR P w) k g b a (spD K mg a.length f)/\Binds K b a []/\a.length=n+1
def Fx.nil:Fx P w K mg base k n m []:=λ_ _ e=>by cases e
def Fx.cons{P:Program}{w:World}{K:W.Frag}{mg:Str->Option Value}{base:Heap}{k n:Nat}{m c:Str}{f:List D->Res D}{tab:List (Str×(List D->Res D))}(h:∀C,mg c=some (.ref C)->Cls K C/\∃g fd ps,Meth K C m g/\FnOk P w K mg base (CXR P w) k g fd ps (spD K mg ps.length f)/\Binds K fd ps []/\ps.length=n+1)(r:Fx P w K mg base k n m tab):Fx P w K mg base k n m ((c,f)::tab):=by
 intro a b e;rw [Io] at e;split at e
 .next q=>
  cases e;rw [eq_of_beq q];exact h
 .exact r a b e
def bA:∀{fs:List (Str×V)},¬(fs.map (·.1)).contains m=true->fs.lookup m=none
 | [],_=>rfl
 | (n,x)::r,h=>by
  rw [Bb,List.contains_cons] at h;rw [Io];cases z:m==n with
  | true=>exact aB (by rw [show (m==(n,x).fst)=true from z];rfl) h
  | false=>exact bA λq=>h (by rw [q,Bool.or_true])
section
variable {m:Str} {tab:List (Str×(List D->Res D))} {ta:TE} {mo:ME} {t:TA} {ma:MA}
def bC(T:Fx P w K mg base k n m tab)(ho:SE K mg E ta mo)(ha:SA K mg E t ma)(hl:SAn n ma):SE K mg E (Nq P w K mg base k m E ta t) (meth tab m mo ma):=by
 intro B A F H Y Z D;refine (ho B A F H Y Z D).bind λp u x d v y=>?_;cases d with
 | ins c ns vs=>
  show Ans mg E (Rp K mg) p u (if ns.contains m=true then .bad else match tab.lookup c with
   | some f=>(ma Z).bind λi=>f (.ins c ns vs::i)
   | none=>.bad) _
  by_cases hc:ns.contains m=true
  .rw [iP hc];trivial
  rw [iN hc];cases e:tab.lookup c with
  | none=>trivial
  | some f=>
   have b:=y;cases y with
   | @ins _ C a dx fs xs _ hm h o q r=>
    obtain ⟨O,g,R,l,I,M,N,G⟩:=T c f e C hm;refine Ans.imp ((ha B A p u Y Z (D.gr v)).bindE λi J V U L j S=>?_) λQ z=>⟨a,C,dx,fs,g,R,l,spD K mg l.length f,rfl,v.s _ _ h,bA hc,O,I,M,N,z⟩;exact Xq j.s (.cons (b.same j.f) S) (by rw [By,hl Z i J,G])
 | _=>trivial
end
section
variable {l:Nat} {m:Str} {o:Expr} {ta:TE} {mo:ME} {t:TA} {ma:MA} {apos:Pos} {pl:Sem Bool} {tab:List (Str×(List D->Res D))}
def iM(T:Fx X.prog X.w X.K X.mg X.base k n m tab)(hr:Room l X.A)(hn:k<=l)(hx:Ea (CXR X.prog X.w) X E)(ho:DE X E o ta mo)(ha:DA X E n (e::es) t ma)(hst:starEach (e::es) X.env=(false,eval e X.env)::starEach es X.env:=by rfl)(hpl:(backTo pos (starEach es X.env)).any (·.1)=false:=by rfl) (ht:eval (.Call (.Attribute o m apos) (e::es) [] pos) X.env=(do
   let ov <-eval o X.env
   standAt apos.atName
   let (f,first) <-holding [ov] (getMethod ov m pl)
   callWith pos f first (backTo pos (starEach (e::es) X.env)) (backToKw pos (keywordEach [] X.env))):=by rfl) :
  DE X E (.Call (.Attribute o m apos) (e::es) [] pos) (Nq X.prog X.w X.K X.mg X.base k m E ta t) (meth tab m mo ma):=⟨iG ho.p (hr.mono hn) hx ha.p hst hpl ht,bC T ho.s ha.s ha.n⟩
def Qt(T:Fx X.prog X.w X.K X.mg X.base k 0 m tab)(hr:Room l X.A)(hn:k<=l)(hx:Ea (CXR X.prog X.w) X E)(ho:DE X E o ta mo) (ht:eval (.Call (.Attribute o m apos) [] [] pos) X.env=(do
   let ov <-eval o X.env
   standAt apos.atName
   let (f,first) <-holding [ov] (getMethod ov m pl)
   callWith pos f first (backTo pos (starEach [] X.env)) (backToKw pos (keywordEach [] X.env))):=by rfl) :
  DE X E (.Call (.Attribute o m apos) [] [] pos) (Nq X.prog X.w X.K X.mg X.base k m E ta tNil) (meth tab m mo Ab):=⟨nU ho.p (hr.mono hn) hx ht,bC T ho.s U8 WP⟩
end
def FJ.nil:FJ K mg [] f:=λ_ h=>by cases h
def FJ.cons{K:W.Frag}{mg:Str->Option Value}{c f:Str}{cs:List Str}(h:∀C,mg c=some (.ref C)->Cls K C/\Ha K C f)(r:FJ K mg cs f):FJ K mg (c::cs) f:=λb a=>by
 rw [List.contains_cons] at a;cases z:b==c with
 | true=>rw [eq_of_beq z];exact h
 | false=>
  rw [z,Bool.false_or] at a;exact r b a
structure FR(K:W.Frag)(mg:Str->Option Value)(F:Hp)(fs:List (Str×V))(fl:Fs):Prop where
 nm:fs.map (·.1)=fl.map (·.1)
 rv:Rps K mg F (fs.map (·.2)) (fl.map (·.2))
def FR.same{F:Hp}(h:FR K mg F fs fl)(s:Same F F'):FR K mg F' fs fl:=⟨h.nm,h.rv.same s⟩
def FR.len{F:Hp}(h:FR K mg F fs fl):fs.length=fl.length:=by
 have:=Bw List.length h.nm;rwa [Ad,Ad] at this
def aV:∀{fs:List (Str×V)},¬(fs.map (·.1)).contains f=true->putF f y fs=fs++[(f,y)]
 | [],_=>rfl
 | (g,x)::r,h=>by
  rw [Bb,List.contains_cons] at h;have a:g≠f:=by
   rintro rfl;exact h (by rw [show ((g,x).fst==g)=true from beq_self_eq_true g];rfl)
  show (if g=f then (g,y)::r else (g,x)::putF f y r)=_
  rw [iN a,aV λq=>h (by rw [q,Bool.or_true])];rfl
def FR.put{F:Hp}(h:FR K mg F fs fl)(hn:¬(fl.map (·.1)).contains f=true)(ry:Rp K mg F y d):FR K mg F (putF f y fs) (fl++[(f,d)]):=by
 rw [aV (by rw [h.nm];exact hn)];refine ⟨by rw [Cz,Cz,h.nm];rfl,?_⟩;rw [Cz,Cz];exact Rps.app (.cons ry .nil) h.rv
def spI(K:W.Frag)(mg:Str->Option Value)(n:Nat)(cs:List Str)(m:List D->Fs->Res Fs):Sp:=λk H Q E=>k.length=n+1/\∃x i C c j l F h g,
 k=.ref x::j/\cs.contains c=true/\mg c=some (.ref C)/\H x=some (.ins C i l)/\F x=none/\Same F H/\Rps K mg F j h/\FR K mg F l g/\m h g≠.bad /\
 (∀f,m h g=.ok f->∀d b a,Gr F (del H x) d b->d x=none->b x=some (.ins C i a)->FR K mg d a f->Q .non b) /\
 (∀e,m h g=.ex e->∀d b a o,Gr F (del H x) d b->d x=none->b x=some (.ins C i a)->mg (clsOf e)=some (.ref o)->E (.ref o) (pay e) b)
structure RepI(K:W.Frag)(mg:Str->Option Value)(x dx C:Addr)(F0 H0 F H:Hp)(Y:St)(Z:Ev)(fs:List (Str×V))(fl:Fs):Prop where
 rep:Rep K mg F0 H0 F H Y Z
 h0:H0 x=none
 self:Y[0]?=some (some (.ref x))
 fx:F x=none
 hx:H x=some (.ins C dx fs)
 fr:FR K mg F fs fl
section
variable {x dx C:Addr} {F:Hp} {fs fs':List (Str×V)} {fl fl':Fs}
def RepI.gr(r:RepI K mg x dx C F0 H0 F H Y Z fs fl)(g:Gr F H F' H'):RepI K mg x dx C F0 H0 F' H' Y Z fs fl:=by
 obtain ⟨a,b⟩:=g.o x _ r.fx r.hx;exact ⟨r.rep.gr g,r.h0,r.self,a,b,r.fr.same g.f⟩
def RepI.go(r:RepI K mg x dx C F0 H0 F H Y Z fs fl)(g:Gr F (del H x) F' H')(fx:F' x=none)(hx:H' x=some (.ins C dx fs'))(fr:FR K mg F' fs' fl'):RepI K mg x dx C F0 H0 F' H' Y Z fs' fl':=by
 refine ⟨⟨⟨r.rep.g.f.trans g.f,g.s,λa o c b=>?_,λa o u e=>r.rep.g.z a o u (g.z a o u e)⟩,r.rep.len,λi d e=>?_,λi m e=>?_,r.rep.ne⟩,r.h0,r.self,fx,hx,fr⟩
 .obtain ⟨k,h⟩:=r.rep.g.o a o c b;exact g.o a o k (by rw [FP (Ay b r.h0)];exact h)
 .obtain ⟨y,c,b⟩:=r.rep.im i d e;exact ⟨y,c,b.same g.f⟩
 .obtain ⟨a,l,c,b,q,j,n⟩:=r.rep.ow i m e;have p:a≠x:=by
   rintro rfl;rw [r.hx] at j;cases j
  obtain ⟨k,h⟩:=g.o a _ q (by rw [FP p];exact j);exact ⟨a,l,c,b,k,h,n.same g.f⟩
def RepI.set(r:RepI K mg x dx C F0 H0 F H Y Z fs fl)(hn:¬(fl.map (·.1)).contains f=true)(ry:Rp K mg F y d):RepI K mg x dx C F0 H0 F (upd H x (.ins C dx (putF f y fs))) Y Z (putF f y fs) (fl++[(f,d)]):=by
 refine r.go ⟨Same.refl _,λa o e=>?_,λa o h b=>⟨h,?_⟩,λ_ _ _ e=>e⟩ r.fx An (r.fr.put hn ry)
 .rw [Ag (Ay e r.fx)];exact r.rep.g.s a o e
 .have c:a≠x:=by
   rintro rfl;rw [HD] at b;cases b
  rw [FP c] at b;rw [Ag c];exact b
end
def AnsI(K:W.Frag)(mg:Str->Option Value)(E:XK)(x dx C:Addr)(F0 H0:Hp)(r:Res Fs)(w:Ends->Prop):Prop :=
 match r with
 | .ok fl=>∀D,(∀b a f d,Gr F0 H0 b a->b x=none->a x=some (.ins C dx d)->FR K mg b d fl->D.nx f a)->w D
 | .ex c=>∀D,(∀b a d e,Gr F0 H0 b a->b x=none->a x=some (.ins C dx d)->mg (clsOf c)=some (.ref e)->E (.ref e) (pay c) a)->w D
 | .bad=>True
def SSi(K:W.Frag)(mg:Str->Option Value)(E:XK)(cs:List Str)(t:TS)(m:MSi):Prop:=∀x a C c d e F H Y Z f b,cs.contains c=true->mg c=some (.ref C)->RepI K mg x a C d e F H Y Z f b->AnsI K mg E x a C d e (m Z b) (λD=>t D Y H)
structure DSi(X:Cx)(E:XK)(cs:List Str)(sts:List Stmt)(t:TS)(m:MSi):Prop where
 p:PSs X sts t
 s:SSi X.K X.mg E cs t m
section
variable {x dx C:Addr} {F:Hp} {α β:Type} {R:Hp->β->α->Prop} {fs:List (Str×V)} {fl:Fs}
def U9{r:Res α}{w:(β->Hp->Prop)->Prop}{k:α->Res Fs}{w':β->Hp->Ends->Prop}(rr:RepI K mg x dx C F0 H0 F H Y Z fs fl)(h1:Ans mg E R F H r w)(h2:∀a,r=.ok a->∀F1 H1 b,Gr F H F1 H1->R F1 b a->AnsI K mg E x dx C F0 H0 (k a) (w' b H1)) :
  AnsI K mg E x dx C F0 H0 (r.bind k) (λD=>w λb H1=>w' b H1 D):=by
 cases r with
 | ok a=>
  show AnsI K mg E x dx C F0 H0 (k a) _;have e:=h2 a rfl;generalize k a=r2 at e;cases r2 with
  | ok d=>exact λD q=>h1 _ λF1 H1 b g f=>e F1 H1 b g f D q
  | ex c=>exact λD q=>h1 _ λF1 H1 b g f=>e F1 H1 b g f D q
  | bad=>trivial
 | ex c=>exact λD q=>h1 _ λF1 H1 h g i=>let r2:=rr.gr g;q F1 H1 fs h r2.rep.g r2.fx r2.hx i
 | bad=>trivial
end
section
variable {cs cs':List Str} {rest:List Stmt} {u:TS} {k:MSi} {o:Expr} {t:TA} {ma:MA} {apos p p':Pos} {f y m:Str} {l:Nat}
def La:DSi X E cs [] Gi iEnd:=⟨K8,λx b C c e f F H Y Z a d _ _ r=>λD q=>q F H Y a r.rep.g r.fx r.hx r.fr⟩
def Ho(he:DE X E e te me)(h:DSi X E cs rest u k)(hs:swapsWith e none spos.line X.env=pure false:=by rfl):DSi X E cs (.Expr e spos::rest) (tSeq (CG te) u) (iDrp me k):=by
 refine ⟨Ga (Gp he.p hs) h.p,?_⟩;intro x q C c f d F H Y Z o n m l r;exact U9 r (he.s f d F H Y Z r.rep) λa _ i j b g _=>h.s x q C c f d i j Y Z o n m l (r.gr g)
def Mp(T:FJ X.K X.mg cs f)(he:DE X E e te me)(h:DSi X E cs rest u k)(hN:X.N[0]?=some x:=by rfl)(hv:Dd X.env.scope x:=by first | exact Or.inl rfl | exact Or.inr (Or.inl rfl) | exact Or.inr (Or.inr rfl))(hd:ND x:=by decide)(hcd:NE x:=by decide)(hs:swapsWith e (some (.Attribute (.Name x p) f p')) spos.line X.env=pure false:=by rfl) :
  DSi X E cs (.Assign [.Attribute (.Name x p) f p'] e spos::rest) (tSeq (sFld X.K (tVar 0) te f) u) (iSet f me k):=by
 refine ⟨Ga (dm (Dq hN hv hd hcd) he.p hs) h.p,?_⟩;intro x j C c w o F H Y Z i b n m r;refine U9 r (he.s w o F H Y Z r.rep) λd _ G I y g A=>?_;have a:=r.gr g;by_cases hb:(b.map (·.1)).contains f=true\/100<=b.length
 .rw [iP hb];trivial
 rw [iN hb];obtain ⟨t,l⟩:=T c n C m;have B:=a.set (λz=>hb (.inl z)) A;have z:=h.s x j C c w o G _ Y Z _ _ n m B;have v:i.length<1000:=by have:=r.fr.len;have:¬100<=b.length:=λz=>hb (.inr z);omega
 generalize k Z (b++[(f,d)])=q0 at z;cases q0 with
 | ok fl'=>exact λD q=>⟨_,a.self,x,C,j,i,rfl,a.hx,t,l,v,z D q⟩
 | ex c=>exact λD q=>⟨_,a.self,x,C,j,i,rfl,a.hx,t,l,v,z D q⟩
 | bad=>trivial
end
structure ClsM(K:W.Frag)(C:Addr)(m:Str)(f:Addr):Prop where
 sg:W.specialIn K (.ref C) "__getattribute__"=some (some (.builtin "type.__getattribute__"))
 rd:∃mc,W.readsIn K C mc=true/\W.findCls K (.ref C) mc m=some (.val (.ref f))
 hh:W.handedIn (.ref f)=true
 kp:W.keepIn K (.ref f)=true
section
variable {y m:Str} {C f:Addr} {sp:Sp} {t:TA} {p apos:Pos} {pl:Sem Bool}
def Zqv(hg:Gl X y)(hy:X.mg y=some (.ref C))(c:ClsM X.K C m f)(F:FnOk X.prog X.w X.K X.mg X.base (CXR X.prog X.w) k f fd ps sp)(hr:Room k X.A)(hb:Binds X.K fd ps [])(hx:Ea (CXR X.prog X.w) X E)(ha:PA X (e::es) t)(hd:ND y:=by decide)(hst:starEach (e::es) X.env=(false,eval e X.env)::starEach es X.env:=by rfl)(hpl:(backTo pos (starEach es X.env)).any (·.1)=false:=by rfl) (ht:eval (.Call (.Attribute (.Name y p) m apos) (e::es) [] pos) X.env=(do
   let ov <-eval (.Name y p) X.env
   standAt apos.atName
   let (f,first) <-holding [ov] (getMethod ov m pl)
   callWith pos f first (backTo pos (starEach (e::es) X.env)) (backToKw pos (keywordEach [] X.env))):=by rfl) :
  PE X (.Call (.Attribute (.Name y p) m apos) (e::es) [] pos) (Gv sp [] E t):=by
 intro a s Y H Q I h;refine W.methodCall_KW (thn (T7 (v:=.ref C) hg hy rfl hd a s Y H (λv b=>v=.ref C/\b=H) I ⟨rfl,rfl⟩) λu s1 zq=>?_) ht;obtain ⟨x,b,I1,rx,ex,eh⟩:=zq;subst ex eh;obtain rfl:u=Value.ref C:=rx;obtain ⟨n,g,i⟩:=c.rd;refine W.method_cls I1.kIn c.sg (W.cls_value I1.kIn g i c.hh ?_);have l:=I1.tok (s1.toks+1);refine W.callWith_K I.ok.mod.kin c.kp (thn (ha pos a _ Y b _ l h) λo z zq=>?_) hst hpl;obtain ⟨q,B,d,r,j⟩:=zq;refine ⟨d.kIn,?_⟩;exact Pk F hr hb .nil hx d r j
end
structure CalS(P:Program)(w:World)(K:W.Frag)(mg:Str->Option Value)(base:Heap)(k:Nat)(y m:Str)(n:Nat)(cs:List Str)(g:List D->Fs->Res Fs):Prop where
 ex:∃(C f:Addr) (fd:FuncData) (ps:List Str),mg y=some (.ref C)/\ClsM K C m f/\FnOk P w K mg base (CXR P w) k f fd ps (spI K mg n cs g)/\Binds K fd ps []
section
variable {cs cs':List Str} {rest:List Stmt} {u:TS} {k:MSi} {t:TA} {ma:MA} {apos p p':Pos} {y m:Str} {l:Nat} {g:List D->Fs->Res Fs} {pl:Sem Bool}
def Oo(S:CalS X.prog X.w X.K X.mg X.base j y m n cs' g)(hr:Room l X.A)(hn:j<=l)(hg:Gl X y)(hx:Ea (CXR X.prog X.w) X E)(hcs:∀c,cs.contains c=true->cs'.contains c=true)(ha:DA X E n es t ma)(h:DSi X E cs rest u k)(hN:X.N[0]?=some x:=by rfl)(hv:Dd X.env.scope x:=by first | exact Or.inl rfl | exact Or.inr (Or.inl rfl) | exact Or.inr (Or.inr rfl))(hd:ND x:=by decide)(hcd:NE x:=by decide)(hdy:ND y:=by decide)(hst:starEach (.Name x p'::es) X.env=(false,eval (.Name x p') X.env)::starEach es X.env:=by rfl)(hpl:(backTo pos (starEach es X.env)).any (·.1)=false:=by rfl) (ht:eval (.Call (.Attribute (.Name y p) m apos) (.Name x p'::es) [] pos) X.env=(do
   let ov <-eval (.Name y p) X.env
   standAt apos.atName
   let (f,first) <-holding [ov] (getMethod ov m pl)
   callWith pos f first (backTo pos (starEach (.Name x p'::es) X.env)) (backToKw pos (keywordEach [] X.env))):=by rfl) (hs:swapsWith (.Call (.Attribute (.Name y p) m apos) (.Name x p'::es) [] pos) none spos.line X.env=pure false:=by rfl) :
  DSi X E cs (.Expr (.Call (.Attribute (.Name y p) m apos) (.Name x p'::es) [] pos) spos::rest) (tSeq (CG (Gv (spI X.K X.mg n cs' g) [] E (Bg (tVar 0) t))) u) (iSup g ma k):=by
 obtain ⟨C0,f,fd,ps,hy,cm,F,hb⟩:=S.ex;refine ⟨Ga (Gp (Zqv hg hy cm F (hr.mono hn) hb hx (Dy (Dq hN hv hd hcd) ha.p hst) hdy hst hpl ht) hs) h.p,?_⟩;intro x Q C c T V F H Y Z fs B hc hm r;have A:=ha.s T V F H Y Z r.rep;have L:=ha.n Z;show AnsI X.K X.mg E x Q C T V ((ma Z).bind λi=>(g i B).bind λfl'=>k Z fl') (λD=>∃v,Y[0]?=some (some v)/\t Y H λP W=>spI X.K X.mg n cs' g (v::P++[]) W (λ_ H2=>u D Y H2) E);have J:AnsI X.K X.mg E x Q C T V ((ma Z).bind λi=>(g i B).bind λfl'=>k Z fl') (λD=>t Y H λP W=>spI X.K X.mg n cs' g (.ref x::P) W (λ_ H2=>u D Y H2) E):=by
  refine U9 r A λi eds F1 W P g1 rs=>?_;have b:=r.gr g1;have hl:=rs.length.trans (L i eds);cases eg:g i B with
  | bad=>trivial
  | ex ec=>
   intro D q;refine ⟨by rw [By,hl],x,Q,C,c,P,fs,F1,i,B,rfl,hcs c hc,hm,b.hx,b.fx,b.rep.g.s,rs,b.fr,(by rw [eg];intro z;cases z),(λfl' e=>by rw [eg] at e;cases e),λe' G M O fs' Ce d I hx hce=>?_⟩;rw [eg] at G;cases G;have r2:=b.go (fl':=B) (fs':=fs) d I;refine q M O fs' Ce ?_ I hx hce;refine ⟨b.rep.g.f.trans d.f,d.s,λa o h1 h2=>?_,λa o u e=>b.rep.g.z a o u (d.z a o u e)⟩;obtain ⟨q1,q2⟩:=b.rep.g.o a o h1 h2;exact d.o a o q1 (by rw [FP (Ay h2 r.h0)];exact q2)
  | ok fl'=>
   show AnsI X.K X.mg E x Q C T V (k Z fl') _;have nx:=λM O fs' d I hx R=>h.s x Q C c T V M O Y Z fs' fl' hc hm (b.go d I hx R);generalize k Z fl'=q0 at nx;cases q0 with
   | bad=>trivial
   | ok fl2=>
    intro D q;refine ⟨by rw [By,hl],x,Q,C,c,P,fs,F1,i,B,rfl,hcs c hc,hm,b.hx,b.fx,b.rep.g.s,rs,b.fr,(by rw [eg];intro z;cases z),(λU e M O fs' d I hx R=>?_),λe' G=>by rw [eg] at G;cases G⟩;rw [eg] at e;cases e;exact nx M O fs' d I hx R D q
   | ex c2=>
    intro D q;refine ⟨by rw [By,hl],x,Q,C,c,P,fs,F1,i,B,rfl,hcs c hc,hm,b.hx,b.fx,b.rep.g.s,rs,b.fr,(by rw [eg];intro z;cases z),(λU e M O fs' d I hx R=>?_),λe' G=>by rw [eg] at G;cases G⟩;rw [eg] at e;cases e;exact nx M O fs' d I hx R D q
 generalize ((ma Z).bind λi=>(g i B).bind λfl'=>k Z fl')=q0 at J;cases q0 with
 | bad=>trivial
 | ok fl'=>exact λD q=>⟨.ref x,r.self,by simpa using J D q⟩
 | ex c'=>exact λD q=>⟨.ref x,r.self,by simpa using J D q⟩
end
section
variable {qual:Str} {f:Addr} {cs:List Str}
def xW{F:Hp}(s:Same F H)(fa:F a=none)(r:Rps K mg F vs ds)(hN:1<=N.length):Rep K mg F (del H a) F H (start N (z::vs)) (.no::ev0 (N.length - 1) ds):=by
 have t:=r.length;have m:∀(i:Nat) (c:Cl),(ev0 (N.length - 1) ds)[i]?=some c->c=.no\/∃d,ds[i]?=some d/\c=.im d:=by
  intro i c e;rw [MJ] at e;by_cases g:i<ds.length
  .rw [Eo (by simpa using g),Ca,Aw g] at e;exact .inr ⟨ds[i],Aw g,(Br e).symm⟩
  .rw [Fp (by simpa using g),JS] at e;split at e
   .exact .inl (Br e).symm
   .cases e
 have f:∀(i:Nat) (c:Cl),(Cl.no::ev0 (N.length - 1) ds)[i]?=some c->c=.no\/∃d j,i=j+1/\ds[j]?=some d/\c=.im d:=by
  intro i c e;cases i with
  | zero=>exact .inl (Br e).symm
  | succ j=>
   rcases m j c (by simpa using e) with q | ⟨d,e1,k⟩
   .exact .inl q
   .exact .inr ⟨d,j,rfl,e1,k⟩
 refine ⟨⟨Same.refl _,s,λb o p h=>⟨p,?_⟩,λ_ _ _ e=>e⟩,?_,λi d e=>?_,λi l e=>?_,λi j l u a e=>?_⟩
 .by_cases hb:b=a
  .subst hb;rw [HD] at h;cases h
  .rw [FP hb] at h;exact h
 .rw [MJ];unfold start;simp [t];omega
 .rcases f i _ e with q | ⟨d',j,rfl,e1,q⟩
  .cases q
  .cases q;obtain ⟨v,k,n⟩:=r.get e1;refine ⟨v,?_,n⟩;have g:=(Cd.mp k).1;unfold start;rw [Bb,List.cons_append,List.getElem?_cons_succ,Eo (by simpa using g),Ca,k];rfl
 .rcases f i _ e with q | ⟨d',j,_,e1,q⟩<;>cases q
 .rcases f i _ e with q | ⟨d',j,_,e1,q⟩<;>cases q
def okI{st:Stmt}{mb:MSi}(F:Fun K x qual st f fd)(S:Ci N ps (Ax st))(hN:1<=N.length)(hp:ps.length=n+1)(h:∀(cdv:Value) (A:Around) (outer:List Env) (s:Shared) (H:Hp) (E:XK),Room k (A.deeper (envOfC qual (Ax st) s.heap.objs.size f cdv))->∃t,DSi (cxOf (CXR P w) P w K mg base N qual (Ax st) f cdv A outer s H E) E cs (Dv st) t mb) :
  FnOk P w K mg base (CXR P w) (k+1) f fd ps (spI K mg n cs (fnI N.length mb)):=by
 obtain ⟨oc,od,kV,doc,pm,an,cdv,ct,W,rfl,T,i⟩:=F.ex;refine M7 T i S (λX H Q E q=>q.1.trans hp.symm) λA outer s H X Q E V v=>?_;obtain ⟨t,G⟩:=h cdv A outer s H E V;refine ⟨t,G.p,?_⟩;obtain ⟨_,x,Z,C,c,O,Y,D,I,y,rfl,R,M,L,B,U,rs,J,hb,l,o⟩:=v;have z:=G.s x Z C c D (del H x) D H (start N (.ref x::O)) (.no::ev0 (N.length - 1) I) Y y R M ⟨xW U B rs hN,HD,rfl,B,L,J⟩;cases e:mb (.no::ev0 (N.length - 1) I) y with
 | ok fl'=>
  rw [e] at z;exact z _ λj m Y' b g a d u=>l fl' e j m b g a d u
 | ex c'=>
  rw [e] at z;exact z _ λj m b Ce g a d r=>o c' e j m b Ce g a d r
 | bad=>exact aB e hb
def okM{st:Stmt}{mb:MS}(F:Fun K x qual st f fd)(S:Ci N ps (Ax st))(h:∀(cdv:Value) (A:Around) (outer:List Env) (s:Shared) (H:Hp) (E:XK),Room k (A.deeper (envOfC qual (Ax st) s.heap.objs.size f cdv))->∃t,DSs (cxOf (CXR P w) P w K mg base N qual (Ax st) f cdv A outer s H E) E (Dv st) t mb) :
  FnOk P w K mg base (CXR P w) (k+1) f fd ps (spD K mg ps.length (fn N.length mb)):=by
 obtain ⟨V,Y,T,R,U,W,cdv,ct,M,rfl,G,m⟩:=F.ex;refine M7 G m S (λy H Q E q=>q.1) λA outer s H y Q E L n=>?_;obtain ⟨t,r⟩:=h cdv A outer s H E L;refine ⟨t,r.p,?_⟩;obtain ⟨_,o,u,I,O,i,a,b⟩:=n;have z:=r.s o H o H (start N y) (ev0 N.length u) (Vd I O);unfold fn at i a b;cases e:mb (ev0 N.length u) with
 | ok fl=>
  rw [e] at z i a b;cases fl with
  | nx Z=>exact z _ λj l X _ B=>a .non rfl j l .non B.g .non
  | rt d=>exact z _ λj l v g J=>a d rfl j l v g J
  | bk Z=>exact aB rfl i
  | ct Z=>exact aB rfl i
 | ex c=>
  rw [e] at z b;exact z _ λj l C g D=>b c rfl j l C g D
 | bad=>rw [e] at i;exact aB rfl i
end
structure CalI(P:Program)(w:World)(K:W.Frag)(mg:Str->Option Value)(base:Heap)(k:Nat)(c:Str)(n:Nat)(cs:List Str)(g:List D->Fs->Res Fs):Prop where
 ex:∃(C f:Addr) (fd:FuncData) (ps:List Str),mg c=some (.ref C)/\Mk K C f/\FnOk P w K mg base (CXR P w) k f fd ps (spI K mg n cs g)/\Binds K fd ps []/\cs.contains c=true
def WX(K:W.Frag)(mg:Str->Option Value)(c:Str)(n:Nat)(cs:List Str)(g:List D->Fs->Res Fs)(E:XK)(t:TA):TE:=λY H Q=>∃C,mg c=some (.ref C)/\XX C (spI K mg n cs g) [] E t Y H Q
section
variable {c:Str} {cs:List Str} {g:List D->Fs->Res Fs} {t:TA} {ma:MA}
def xV(hm:mg c=some (.ref C))(hc:cs.contains c=true)(ha:SA K mg E t ma)(hl:SAn n ma):SE K mg E (WX K mg c n cs g E t) (make c g ma):=by
 intro F0 H0 F H Y Z rr;refine Ans.imp ?_ λQ q=>⟨C,hm,q⟩;refine (ha F0 H0 F H Y Z rr).bindE λD G B v X N S=>?_;have y:=S.length.trans (hl Z D G);have m:∀x b,v x=none->v b=none->b≠x->B x=none/\B b=none/\Same B (upd (upd v b (.own x)) x (.ins C b []))/\del (upd (upd v b (.own x)) x (.ins C b [])) x=upd v b (.own x):=by
  intro x b l d i;refine ⟨N.s.free l,N.s.free d,λa o e=>?_,?_⟩
  .have z:=N.s a o e;rw [Ag (Ay z l),Ag (Ay z d)];exact z
  .funext a;by_cases h:a=x
   .subst h;rw [HD,Ag (Ne.symm i)];exact l.symm
   .rw [FP h,Ag h]
 cases eg:g D [] with
 | bad=>trivial
 | ex ec=>
  intro Q q x b l d i;obtain ⟨P,f2,I,T⟩:=m x b l d i;refine ⟨by simp [y],x,b,C,c,X,[],B,D,[],by simp,hc,hm,An,P,I,S,⟨rfl,.nil⟩,(by rw [eg];intro z;cases z),(λJ e=>by rw [eg] at e;cases e),λe' w p M k Ce j L A O=>?_⟩;rw [eg] at w;cases w;rw [T] at j;refine q p M Ce ⟨j.f,j.s,λa o R r=>?_,j.z⟩ O;exact j.o a o R (by rw [Ag (Ay r d)];exact r)
 | ok fl=>
  intro Q q x b l d i;obtain ⟨P,f2,I,T⟩:=m x b l d i;refine ⟨by simp [y],x,b,C,c,X,[],B,D,[],by simp,hc,hm,An,P,I,S,⟨rfl,.nil⟩,(by rw [eg];intro z;cases z),(λJ e p M k j L A U=>?_),λe' w=>by rw [eg] at w;cases w⟩;rw [eg] at e;cases e;rw [T] at j;obtain ⟨V,d2⟩:=j.o b _ f2 An;refine ⟨rfl,q (upd (upd p b (.own x)) x (.ins C b k)) M (.ref x) ⟨?_,?_,λa o R r=>?_,λa o u e=>j.z a o u (Iw (λ_ _ z=>by cases z) (Iw (λ_ _ z=>by cases z) e))⟩ ?_⟩
  .refine (j.f.trans (DP V _)).trans (DP ?_ _);rw [Ag (Ne.symm i)];exact L
  .intro a o e;by_cases ha:a=x
   .subst ha;rw [An] at e;cases e;exact A
   .rw [Ag ha] at e;by_cases hb:a=b
    .subst hb;rw [An] at e;cases e;exact d2
    .rw [Ag hb] at e;exact j.s a o e
  .have n1:a≠x:=Ay r l;have W:=Ay r d;obtain ⟨q1,q2⟩:=j.o a o R (by rw [Ag W];exact r);rw [Ag n1,Ag W];exact ⟨q1,q2⟩
  .have sF:Same p (upd (upd p b (.own x)) x (.ins C b k)):=(DP V _).trans (DP (by rw [Ag (Ne.symm i)];exact L) _);have z:Rp K mg (upd (upd p b (.own x)) x (.ins C b k)) (.ref x) (.ins c (k.map (·.1)) (fl.map (·.2))):=.ins hm An (by rw [Ag i,An]) rfl (U.rv.same sF);rw [U.nm] at z;exact z
end
section
variable {l:Nat} {c:Str} {cs:List Str} {g:List D->Fs->Res Fs} {t:TA} {ma:MA} {p:Pos}
def Kl(M:CalI X.prog X.w X.K X.mg X.base k c n cs g)(hr:Room l X.A)(hn:k+1<=l)(hg:Gl X c)(hx:Ea (CXR X.prog X.w) X E)(ha:DA X E n (e::es) t ma)(hdb:ND c:=by decide)(he:starEach (e::es) X.env=(false,eval e X.env)::starEach es X.env:=by rfl)(hpl:(backTo pos (starEach es X.env)).any (·.1)=false:=by rfl) :
  DE X E (.Call (.Name c p) (e::es) [] pos) (WX X.K X.mg c n cs g E t) (make c g ma):=by
 obtain ⟨C,f,r,q,b,i,F,j,m⟩:=M.ex;refine ⟨?_,xV b m ha.s ha.n⟩;intro a s Y H Q I ⟨o,d,h⟩;rw [b] at d;cases d;exact Zri i F (hr.mono hn) hg b j .nil hx ha.p hdb he hpl a s Y H Q I h
end
end L2.Ds
namespace Dl
def insO(i:Nat)(k e:ME):MS:=λZ=>(getO Z[i]?).bind λa=>(k Z).bind λu=>match u with
 | .int j=>(e Z).bind λd=>if (0<=j/\j<=a.length)/\a.length<LIM then .ok (.nx (Z.set i (.ow (a.take j.toNat++d::a.drop j.toNat)))) else .bad
 | _=>.bad
end Dl
namespace L2
def Iz:V->List V->Hp->VK->Prop:=λx b H Q=>∃l a j y,x=.ref l/\b=[.int j,y]/\H l=some (.lst a)/\(0<=j/\j<=a.length)/\a.length<sizeLine/\Q .non (upd H l (.lst (a.take j.toNat++y::a.drop j.toNat)))
def Vals.takeN:∀{xs:List V} {us:List Value} (n:Nat),Vals xs us->Vals (xs.take n) (us.take n)
 | _,_,0,_=>.nil
 | _,_,_+1,.nil=>.nil
 | _,_,n+1,.cons h r=>.cons h (Vals.takeN n r)
def Vals.dropN:∀{xs:List V} {us:List Value} (n:Nat),Vals xs us->Vals (xs.drop n) (us.drop n)
 | _,_,0,r=>r
 | _,_,_+1,.nil=>.nil
 | _,_,n+1,.cons _ r=>Vals.dropN n r
def vR:MtR X "list.insert" Iz:=by
 intro d s Y H x o v m Q I i b h;obtain ⟨l,k,j,y,rfl,rfl,c,p,B,q⟩:=h;cases i;cases b with
 | @cons _ u0 _ us0 r1 b=>
  have b:Vals [y] us0:=b;obtain ⟨u,rfl,g⟩:=b.one;obtain ⟨t,rfl⟩:=r1;obtain ⟨z,a,n,r,w,e⟩:=I.lstM c;have A:sizeLine<2^63:=by decide
  refine call_meets F.slot_list_insert ⟨_,e,rfl⟩ F.entry_list_insert (F.args_list_insert_3 _ _ _) (PySem.AutoSeq1.list_insert_list_int_val_1 l a.toArray n j t u (by rw [fitsIndex_both (by omega) (by omega)];exact DX) (by rw [Be];omega)) ⟨e,?_⟩;refine ⟨.non,_,I.lset (its':=a.take j.toNat++u::a.drop j.toNat) c e ?_ ((r.takeN j.toNat).append (.cons g (r.dropN j.toNat))) ?_,rfl,q⟩
  .have f:(if j<0 then (j+(a.toArray.size:Int)).toNat else min j.toNat a.toArray.size)=j.toNat:=by
    rw [iN (by omega),Be];omega
   show (a.toArray.extract 0 (if j<0 then (j+(a.toArray.size:Int)).toNat else min j.toNat a.toArray.size)).push u++a.toArray.extract (if j<0 then (j+(a.toArray.size:Int)).toNat else min j.toNat a.toArray.size)=_
   rw [f];apply Array.toList_inj.mp;simp
   try rw [HB (by simp)]
  .rw [BJ,By,CZ,GX];omega
end L2
namespace L2.Ds
open Dl
section
variable {tk:TE} {mk:ME}
def Zuu(hk:SE K mg E tk mk)(ha:SE K mg E te me):SS K mg E (CG (tBM K "list" Iz (tVar i) (Bg tk (Bg te tNil)))) (insO i mk me):=by
 intro B A F H Y Z s;unfold insO getO;split
 .next b e=>
  obtain ⟨a,w,I,O,S,J,L⟩:=s.ow i b e;have M:w.length=b.length:=L.length;have C:tyV K "list" (.ref a) H:=.inl ⟨rfl,w,SqL.of J⟩
  have h:=(hk B A F H Y Z s).stm (K:=K) (k:=λu=>match u with
   | .int j=>(me Z).bind λd=>if (0<=j/\j<=b.length)/\b.length<LIM then .ok (.nx (Z.set i (.ow (b.take j.toNat++d::b.drop j.toNat)))) else .bad
   | _=>.bad) (w':=λx n D=>te Y n λy m=>Iz (.ref a) [x,y] m λ_ p=>D.nx Y p) s.g λu _ V n x G P=>?_
  .show AnsS K mg E B A F ((mk Z).bind λu=>match u with
    | .int j=>(me Z).bind λd=>if (0<=j/\j<=b.length)/\b.length<LIM then .ok (.nx (Z.set i (.ow (b.take j.toNat++d::b.drop j.toNat)))) else .bad
    | _=>.bad) _
   have l:∀D,(tk Y H λx n=>te Y n λy m=>Iz (.ref a) [x,y] m λ_ p=>D.nx Y p)->CG (tBM K "list" Iz (tVar i) (Bg tk (Bg te tNil))) D Y H:=λD z=>⟨.ref a,I,C,z⟩
   generalize ((mk Z).bind λu=>match u with
    | .int j=>(me Z).bind λd=>if (0<=j/\j<=b.length)/\b.length<LIM then Res.ok (Fl.nx (Z.set i (.ow (b.take j.toNat++d::b.drop j.toNat)))) else .bad
    | _=>.bad)=res at h
   cases res with
   | ok f=>
    cases f with
    | nx Z=>exact λD q=>l D (h D q)
    | bk Z=>exact λD q=>l D (h D q)
    | ct Z=>exact λD q=>l D (h D q)
    | rt d=>exact λD q=>l D (h D q)
   | ex c=>exact λD q=>l D (h D q)
   | bad=>trivial
  .cases u with
   | int j=>
    cases P;have v:=s.gr G;obtain ⟨Q,U⟩:=G.o a _ S J;refine (ha B A V n Y Z v).stm (w':=λy m D=>Iz (.ref a) [.int j,y] m λ_ p=>D.nx Y p) v.g λd _ X m y t R=>?_;have T:=v.gr t;obtain ⟨W,N⟩:=t.o a _ Q U;have r:=(L.same G.f).same t.f;by_cases hc:(0<=j/\j<=b.length)/\b.length<LIM
    .rw [iP hc];exact λD q=>⟨a,w,j,y,rfl,rfl,N,by rw [M];exact hc.1,by rw [M];exact Bv hc.2 (by decide),q X _ Y (Same.refl _) (T.put e I N O W (Rps.app (.cons R (r.drop j.toNat)) (r.take j.toNat)))⟩
    .rw [iN hc];trivial
   | _=>trivial
 .trivial
end
section
variable {k':Expr} {tk:TE} {mk:ME} {np apos:Pos}
def zm(i)(hk:DE X E k' tk mk)(he:DE X E e te me)(hN:X.N[i]?=some x:=by rfl)(hv:Dd X.env.scope x:=by first | exact Or.inl rfl | exact Or.inr (Or.inl rfl) | exact Or.inr (Or.inr rfl))(hd:ND x:=by decide)(hcd:NE x:=by decide)(hbase:attributeBase (.Name x np) "insert" X.env (eval (.Name x np) X.env)=eval (.Name x np) X.env:=by rfl) (hfew:((backTo cpos (starEach [k',e] X.env)).all (λx=>!x.1)&&(backToKw cpos (keywordEach [] X.env)).all (λx=>x.1.isSome)
   && decide ([k',e].length+([]:List Keyword).length+(if ([]:List Keyword).isEmpty then 0 else 1)<30))=true:=by rfl) (hline:(apos.endLine==cpos.line)=true:=by rfl) (hs:starEach [k',e] X.env=(false,eval k' X.env)::starEach [e] X.env:=by rfl) (hs2:starEach [e] X.env=(false,eval e X.env)::starEach [] X.env:=by rfl) (hplain:(backTo cpos (starEach [e] X.env)).any (·.1)=false:=by rfl) (hsw:swapsWith (.Call (.Attribute (.Name x np) "insert" apos) [k',e] [] cpos) none spos.line X.env=pure false:=by rfl) :
  DS X E (.Expr (.Call (.Attribute (.Name x np) "insert" apos) [k',e] [] cpos) spos) (CG (tBM X.K "list" Iz (tVar i) (Bg tk (Bg te tNil)))) (insO i mk me) :=
 ⟨Gp (JH Jk PySem.F.slot_list_insert PySem.F.type_list_insert vR (Dq hN hv hd hcd) (Dy hk.p (Dy he.p GK hs2) hs) hbase hfew hline hs hplain) hsw,Zuu hk.s he.s⟩
end
end L2.Ds
namespace Dl
def QX:D->D->Res D
 | .lst xs,.lst []=>.ok (.bl (!xs.isEmpty))
 | _,_=>.bad
end Dl
namespace L2
def VL(K:W.Frag):R2:=λx y H Q=>∃l b a,x=.ref l/\y=.ref b/\SqL K H l a/\SqL K H b []/\Q (.bl (!a.isEmpty)) H
def qP(hu:X.A.units+64<cLine):OpR X (compareOp .NotEq) (VL X.K):=by
 intro a s Y H x y v u Q I m t h;obtain ⟨l,b,O,rfl,rfl,k,C,q⟩:=h;cases m;cases t;obtain ⟨d,r,⟨G,o,F,L,M,D⟩,N⟩:=I.list k;obtain ⟨c,z,⟨i,J,n,B,R,p⟩,P⟩:=I.list C;have f:s.heap.IsList l d.toArray:=⟨G,F,L,o,D⟩;have g:s.heap.IsList b c.toArray:=⟨i,n,B,J,p⟩;cases z;cases r with
 | nil=>
  refine (PySem.SeqAt.RcNeAt.lists (e:=λ_=>true) f g rfl (by omega) λj E _=>aB E (by simp)) X.prog X.w X.xe (EP X a Y Q) ?_;exact ⟨.bl false,H,I,rfl,q⟩
 | cons h r=>
  refine (PySem.SeqAt.RcNeAt.lists_lengths f g (by simp) (by omega)) X.prog X.w X.xe (EP X a Y Q) ?_;exact ⟨.bl true,H,I,rfl,q⟩
end L2
namespace L2.Ds
open PySem.Calls Dl
def rK:OpD K mg (VL K) QX:=by
 intro E F H x y c d s b a;unfold QX;split
 .cases b with
  | lst ha ra=>
   cases a with
   | lst hb rb=>
    cases rb;refine .ret s (.bl _) λQ q=>⟨_,_,_,rfl,rfl,s.seq ha,s.seq hb,?_⟩;cases ra<;>exact q
 .trivial
section
variable {a b:Expr} {ta tb:TE} {ma mb:ME}
def vV(hr:Room k X.A)(ha:DE X E a ta ma)(hb:DE X E b tb mb):DT X E (.Compare a [.NotEq] [b] pos) (FW (tOp (VL X.K) ta tb)) (trb (o2 QX ma mb)):=HW (qP hr.units) rK ha hb (Fe _)
end
end L2.Ds
namespace Dl
def fnR(n:Nat)(m:ME):List D->Res D:=λa=>m (ev0 n a)
end Dl
namespace Dl
def soR(k:MS)(m:ME):ME:=λZ=>(k Z).bind λf=>match f with
 | .nx Z'=>m Z'
 | _=>.bad
end Dl
namespace L2.Ds
open Dl
section
variable {G Gb F:Hp} {x:V}
def Rep.lookA(r:Rep K mg F0 H0 F H Y Z)(e:Z[i]?=some (.ow ds))(e2:Y[i]?=some (some (.ref a)))(e4:H0 a=none)(e5:F a=none)(e3:H a=some (.lst xs))(hr:Rps K mg F xs ds) :
  Rep K mg F0 H0 (upd F a (.lst xs)) H Y (Z.set i (.im (.lst ds)))/\∀F1 H1,Gr (upd F a (.lst xs)) H F1 H1->Gr F H (del F1 a) H1:=by
 have h:Same F (upd F a (.lst xs)):=DP e5 _;refine ⟨⟨⟨r.g.f.trans h,λb o q=>?_,λb o d c=>?_,λb o u q=>r.g.z b o u (Iw (λ_ _ z=>by cases z) q)⟩,by rw [De];exact r.len,λj u q=>?_,λj l q=>?_,λj k l p b d c y C=>?_⟩,λF1 H1 g=>⟨λb o q=>?_,λb o q=>?_,λb o d c=>?_,λb o u q=>Iw (λ_ _ z=>by cases z) (g.z b o u (XH q))⟩⟩
 .by_cases hb:b=a
  .subst hb;rw [An] at q;cases q;exact e3
  .rw [Ag hb] at q;exact r.g.s b o q
 .rw [Ag (Ay c e4)];exact r.g.o b o d c
 .rcases Av q with ⟨rfl,z,_⟩ | ⟨_,q⟩
  .cases z;exact ⟨.ref a,e2,.lst (SqL.of An) (hr.same h)⟩
  .obtain ⟨x,m,n⟩:=r.im j u q;exact ⟨x,m,n.same h⟩
 .rcases Av q with ⟨_,z,_⟩ | ⟨hij,q⟩
  .cases z
  .obtain ⟨b,v,m,n,t,A,w⟩:=r.ow j l q;have B:b≠a:=by
    rintro rfl;exact hij (r.ne i j ds l b e q e2 m)
   exact ⟨b,v,m,n,by rw [Ag B];exact t,A,w.same h⟩
 .rcases Av d with ⟨_,z,_⟩ | ⟨_,d⟩
  .cases z
  .rcases Av c with ⟨_,z,_⟩ | ⟨_,c⟩
   .cases z
   .exact r.ne j k l p b d c y C
 .rw [FP (Ay q e5)];exact g.f b o (h b o q)
 .by_cases hb:b=a
  .subst hb;rw [HD] at q;cases q
  .rw [FP hb] at q;exact g.s b o q
 .by_cases hb:b=a
  .subst hb;rw [e3] at c;cases c;exact ⟨HD,g.s _ _ (g.f _ _ An)⟩
  .rw [FP hb];exact g.o b o (by rw [Ag hb];exact d) c
end
end L2.Ds
namespace L2.Ds
open Dl
section
variable {F:Hp}
def oR(g:Gr F0 H0 F H)(h:H b=none):H0 b=none:=by
 cases q:H0 b with
 | none=>rfl
 | some o=>
  cases q2:F0 b with
  | none=>rw [(g.o b o q2 q).2] at h;cases h
  | some u=>rw [g.s _ _ (g.f b u q2)] at h;cases h
end
section
variable {G Gb F:Hp} {x:V}
def TwoR(K:W.Frag)(mg:Str->Option Value)(Fb F':Hp)(x:V)(d:D):Prop:=∃p a b c f g e,x=.ref p/\d=.tup [.lst g,.lst e]/\F' p=some (.tup [.ref a,.ref b])/\a≠b/\Fb a=none/\Fb b=none/\F' a=some (.lst c)/\F' b=some (.lst f)/\Rps K mg F' c g/\Rps K mg F' f e
def TwoR.down(h:TwoR K mg G F' x d)(s:Same Gb G):TwoR K mg Gb F' x d:=by
 obtain ⟨p,g,m,b,k,l,e,i,a,o,f,j,c,n⟩:=h;exact ⟨p,g,m,b,k,l,e,i,a,o,f,s.free j,s.free c,n⟩
def TwoR.rp(h:TwoR K mg G F x d):Rp K mg F x d:=by
 obtain ⟨p,l,q,g,n,o,j,rfl,rfl,f,k,m,i,e,c,b,a⟩:=h;exact .tup (SqT.of f) (.cons (.lst (SqL.of e) b) (.cons (.lst (SqL.of c) a) .nil))
def spT(K:W.Frag)(mg:Str->Option Value)(k:Nat)(f:List D->Res D):Sp:=λg H Q E=>g.length=k/\∃F b,Same F H/\Rps K mg F g b/\f b≠.bad /\
 (∀d,f b=.ok d->∀e a x,Gr F H e a->TwoR K mg F e x d->Q x a)/\(∀c,f b=.ex c->∀e a C,Gr F H e a->mg (clsOf c)=some (.ref C)->E (.ref C) (pay c) a)
def AnsT(K:W.Frag)(mg:Str->Option Value)(E:XK)(F0 H0:Hp)(r:Res D)(w:Ends->Prop):Prop :=
 match r with
 | .ok d=>∀D,(∀b a x,Gr F0 H0 b a->TwoR K mg F0 b x d->D.rt x a)->w D
 | .ex c=>∀D,(∀b a C,Gr F0 H0 b a->mg (clsOf c)=some (.ref C)->E (.ref C) (pay c) a)->w D
 | .bad=>True
def SEt(K:W.Frag)(mg:Str->Option Value)(E:XK)(t:TE)(m:ME):Prop:=∀a b c F H Y Z,Rep K mg b c F H Y Z->Same a F->Ans mg E (TwoR K mg a) F H (m Z) (t Y H)
def jn(ha:SA K mg E t m)(hl:SAn n m)(hn:n<=sizeLine):SEl K mg E (tLst t) (mls m):=by
 intro j i F H Y Z k;have h:=ha j i F H Y Z k;unfold mls;cases e:m Z with
 | ok ds=>
  rw [e] at h;exact λQ q=>h _ λo l d g b=>⟨by rw [b.length,hl Z ds e];exact hn,λp a=>q _ _ _ (g.trans (.new g.s a _)) ⟨p,d,ds,rfl,rfl,g.f.free (g.s.free a),An,b.same (DP (g.s.free a) _)⟩⟩
 | ex c=>
  rw [e] at h;exact λQ q=>h _ q
 | bad=>trivial
end
structure DEt(X:Cx)(E:XK)(e:Expr)(t:TE)(m:ME):Prop where
 p:PE X e t
 s:SEt X.K X.mg E t m
structure CalT(P:Program)(w:World)(K:W.Frag)(mg:Str->Option Value)(base:Heap)(k:Nat)(x:Str)(ps:List Str)(m:List D->Res D):Prop where
 ex:∃(f:Addr) (fd:FuncData),FnOk P w K mg base (CXR P w) k f fd ps (spT K mg ps.length m)/\Binds K fd ps []/\W.keepIn K (.ref f)=true/\mg x=some (.ref f)
structure DSt2(X:Cx)(E:XK)(sts:List Stmt)(t:TS)(m:ME):Prop where
 p:PSs X sts t
 s:∀F0 H0 F H Y Z,Rep X.K X.mg F0 H0 F H Y Z->AnsT X.K X.mg E F0 H0 (m Z) (λD=>t D Y H)
section
variable {l nn:Nat} {y:Str} {f:List D->Res D} {t:TA} {m:MA} {p:Pos}
def Mi{st:Stmt}{rest:List Stmt}{u u':TS}{k:MS}{k':ME}(h:DS X E st u k)(h':DSt2 X E rest u' k'):DSt2 X E (st::rest) (tSeq u u') (soR k k'):=by
 refine ⟨Ga h.p h'.p,λl m F H Y Z n=>?_⟩;have z:=h.s l m F H Y Z n;unfold soR;cases e:k Z with
 | ok f=>
  rw [e] at z;cases f with
  | nx Z'=>
   show AnsT X.K X.mg E l m (k' Z') _;have j:=λb i g a=>h'.s l m b i g Z' a;generalize k' Z'=r2 at j;cases r2 with
   | ok ds=>exact λD q=>z _ λb i g _ a=>j b i g a D q
   | ex c=>exact λD q=>z _ λb i g _ a=>j b i g a D q
   | bad=>trivial
  | bk Z'=>trivial
  | ct Z'=>trivial
  | rt d=>trivial
 | ex c=>rw [e] at z;exact λD q=>z _ q
 | bad=>trivial
def nY(ha:DA X E n es t m)(hn:n<=sizeLine:=by decide):DEl X E (.List es pos) (tLst t) (mls m):=⟨P0 ha.p,jn ha.s ha.n hn⟩
end
end L2.Ds
namespace L2
open PySem.W
def objX(a:Addr)(o:Obj):HO:=.ext λh=>h.get? a=some o
def pR{P:Program}{w:World}{H:Hp}{h:Heap}{a:Addr}{o:Obj}(e:h.get? a=some o):Dt P w H h a (objX a o):=⟨e,⟨o,e⟩,λ_ _ x k=>k o x⟩
def jx{P:Program}{w:World}{H:Hp}{h:Heap}{a:Addr}{o:Obj}(x:HOk P w H h)(e:H a=some (objX a o)):h.get? a=some o:=(show _/\_ from x a _ e).1
end L2
namespace Dl
def firsts(kf:Nat->List Int):Nat->List (List Int)
 | 0=>[]
 | i+1=>if kf i∈firsts kf i then firsts kf i else firsts kf i++[kf i]
def intsOf:List D->Option (List Int)
 | []=>some []
 | .int n::r=>(intsOf r).map (n::·)
 | _::_=>none
def keysOf:List D->Option (List (List Int))
 | []=>some []
 | .tup ds::r=>(intsOf ds).bind λk=>(keysOf r).map (k::·)
 | _::_=>none
def Up:D->Res D
 | .lst ds=>match keysOf ds with
  | some ks=>if ds.length<=4 then .ok (.int ((firsts (λi=>ks.getD i []) ds.length).length:Nat)) else .bad
  | none=>.bad
 | _=>.bad
end Dl
namespace L2.Sx
open PySem.SetTable
def adv(m:Nat)(p:Probe):Probe :=
 if p.more>0 then { p with j:=p.j+1,more:=p.more - 1 } else
 { p with j:=(leap m p.i p.perturb).1,more:=runEnd m (leap m p.i p.perturb).1 - (leap m p.i p.perturb).1,i:=(leap m p.i p.perturb).1,perturb:=(leap m p.i p.perturb).2 }
def Yw(t:SetTable)(p:Probe):t.advance p=adv t.mask p:=rfl
def run(m i pt:Nat):Probe:={ j:=i,more:=runEnd m i - i,i,perturb:=pt,dummy:=none }
inductive Rch(m:Nat)(occ:Nat->Prop):Probe->Nat->Prop
 | here (p:Probe):Rch m occ p p.j
 | next {p:Probe} {j:Nat}:occ p.j->Rch m occ (adv m p) j->Rch m occ p j
def Rch.mono(h:∀j,occ j->occ' j)(r:Rch m occ p j):Rch m occ' p j:=by
 induction r with
 | here p=>exact .here p
 | next o _ ih=>exact .next (h _ o) ih
def Ep(m:Nat)(occ:Nat->Prop):Nat->Probe->Prop
 | 0,p=>¬occ p.j
 | n+1,p=>¬occ p.j\/Ep m occ n (adv m p)
def advs(m:Nat):Nat->Probe->Probe
 | 0,p=>p
 | n+1,p=>advs m n (adv m p)
def Ep.of:∀{n:Nat} {p:Probe},¬occ (advs m n p).j->Ep m occ n p
 | 0,_,h=>h
 | _+1,_,h=>.inr (Ep.of h)
def Ep.mono:∀{n n':Nat} {p:Probe},n<=n'->Ep m occ n p->Ep m occ n' p
 | 0,0,_,_,h=>h
 | 0,_+1,_,_,h=>.inl h
 | n+1,0,_,hl,_=>by omega
 | n+1,n'+1,_,hl,h=>h.elim .inl λh=>.inr (Ep.mono (by omega) h)
def OJ(m):∀a b p,advs m (a+b) p=advs m b (advs m a p)
 | 0,b,p=>by rw [Nat.zero_add];rfl
 | a+1,b,p=>by rw [Nat.add_right_comm];exact OJ m a b (adv m p)
def aq(m i pt):∀k,k<=runEnd m i - i->advs m k (run m i pt)={ j:=i+k,more:=runEnd m i - i - k,i,perturb:=pt,dummy:=none }
 | 0,_=>rfl
 | k+1,h=>by
  rw [OJ m k 1,aq m i pt k (by omega)];show adv m _=_;unfold adv;rw [iP (show runEnd m i - i - k>0 by omega)];simp only [Probe.mk.injEq,and_true];omega
def oE(m i pt):advs m (runEnd m i - i+1) (run m i pt)=run m (leap m i pt).1 (leap m i pt).2:=by
 rw [OJ m (runEnd m i - i) 1,aq m i pt _ (Am _)];show adv m _=_;unfold adv;rw [iN (by simp)];rfl
def fZ(m i):runEnd m i - i+1<=10:=by
 unfold runEnd;split<;>omega
def Dh(m:Nat):Nat->Nat×Nat->Nat×Nat
 | 0,p=>p
 | n+1,p=>Dh m n (leap m p.1 p.2)
def Xh(m):∀a b p,Dh m (a+b) p=Dh m b (Dh m a p)
 | 0,b,p=>by rw [Nat.zero_add];rfl
 | a+1,b,p=>by rw [Nat.add_right_comm];exact Xh m a b _
def aO(m):∀n i pt,∃k,k<=10*n/\advs m k (run m i pt)=run m (Dh m n (i,pt)).1 (Dh m n (i,pt)).2
 | 0,i,pt=>⟨0,Am _,rfl⟩
 | n+1,i,pt=>by
  obtain ⟨k,a,e⟩:=aO m n (leap m i pt).1 (leap m i pt).2;refine ⟨(runEnd m i - i+1)+k,?_,?_⟩
  .have:=fZ m i;omega
  .rw [OJ,oE,e];rfl
def aX(m):∀n i pt,(Dh m n (i,pt)).2=pt/32^n
 | 0,i,pt=>by rw [Nat.pow_zero,Nat.div_one];rfl
 | n+1,i,pt=>by
  show (Dh m n (leap m i pt)).2=_;have e:=aX m n (leap m i pt).1 (leap m i pt).2;have z:Dh m n (leap m i pt)=Dh m n ((leap m i pt).1,(leap m i pt).2):=rfl;rw [z,e];show pt/32/32^n=pt/32^(n+1);rw [Nat.div_div_eq_div_mul,Nat.pow_succ,Nat.mul_comm]
def WQ(m):∀n i pt,i<=m->(Dh m n (i,pt)).1<=m
 | 0,i,pt,h=>h
 | n+1,i,pt,h=>by
  show (Dh m n ((leap m i pt).1,(leap m i pt).2)).1<=m;exact WQ m n _ _ (by unfold leap;have:=Nat.mod_lt (i*5+1+pt/32) (show 0<m+1 by omega);simp only [];omega)
def Zrd(h):bits h<2^64:=by
 unfold bits;have b:=Gq h (show ((2:Int)^64)≠0 by decide);have a:=G4 h (show (0:Int)<2^64 by decide);omega
def cyc7:∀i≤7,∀e≤7,∃k≤7,(Dh 7 k (i,0)).1=e:=by decide +kernel
def nj:∀i≤31,∀e≤31,∃k≤31,(Dh 31 k (i,0)).1=e:=by decide +kernel
def Mk(m:Nat):Prop:=m=7\/m=31
def cyc(hm:Mk m):∀i≤m,∀e≤m,∃k≤m,(Dh m k (i,0)).1=e:=by
 rcases hm with rfl | rfl
 .exact cyc7
 .exact nj
def cover(hm:Mk m){e:Nat}(hi:i<=m)(hp:pt<2^64)(he:e<=m):∃n,n<=13+m/\(Dh m n (i,pt)).1=e:=by
 have a:(Dh m 13 (i,pt)).2=0:=by
  rw [aX];exact Nat.div_eq_of_lt (Bv hp (by decide))
 obtain ⟨k,c,b⟩:=cyc hm _ (WQ m 13 i pt hi) e he;refine ⟨13+k,by omega,?_⟩;rw [Xh];have z:Dh m 13 (i,pt)=((Dh m 13 (i,pt)).1,0):=by rw [<-a]
 rw [z];exact b
def ends(hm:Mk m){e:Nat}(hi:i<=m)(hp:pt<2^64)(he:e<=m)(ho:¬occ e):Ep m occ (10*(13+m)) (run m i pt):=by
 obtain ⟨n,c,b⟩:=cover hm hi hp he;obtain ⟨k,d,a⟩:=aO m n i pt;refine Ep.mono (n:=k) (by omega) (Ep.of ?_);rw [a];rw [b];exact ho
def Rx(xs:Array Nat)(j:Nat)(h:xs.toList.Pairwise (· < ·)):∀fuel lo hi,lo<=hi->hi<=xs.size->hi - lo<=fuel->(∀i q,i<lo->xs[i]<j)->(∀i q,hi<=i->¬xs[i]<j) ->
  below.go xs j fuel lo hi<=xs.size/\∀i q,xs[i]<j↔i<below.go xs j fuel lo hi
 | 0,lo,hi,h1,h2,h3,h4,h5=>by
  have e:lo=hi:=by omega
  subst e;exact ⟨h2,λi hi=>⟨λz=>Nat.lt_of_not_le λq=>h5 i hi q z,λz=>h4 i hi z⟩⟩
 | fuel+1,lo,hi,h1,h2,h3,h4,h5=>by
  unfold below.go;by_cases hl:lo<hi
  .rw [iP hl];simp only [];have f:(lo+hi)/2<xs.size:=by omega
   have g:∀a b (k:a<xs.size) (l:b<xs.size),a<b->xs[a]<xs[b]:=λa b k l d=>by
    have:=Ow.mp h a b (by simpa using k) (by simpa using l) d;simpa using this
   have m:xs.getD ((lo+hi)/2) j=xs[(lo+hi)/2]:=by simp [Array.getD,f]
   rw [m];by_cases hc:xs[(lo+hi)/2]<j
   .rw [iP hc];refine Rx xs j h fuel ((lo+hi)/2+1) hi (by omega) h2 (by omega) (λi c z=>?_) h5;by_cases hz:i<(lo+hi)/2
    .exact Az (g i _ c f hz) hc
    .have:i=(lo+hi)/2:=by omega
     subst this;exact hc
   .rw [iN hc];refine Rx xs j h fuel lo ((lo+hi)/2) (by omega) (by omega) (by omega) h4 λi c z=>?_;by_cases hz:(lo+hi)/2<i
    .have:=g _ i f c hz;omega
    .have:i=(lo+hi)/2:=by omega
     subst this;exact hc
  .rw [iN hl];have e:lo=hi:=by omega
   subst e;exact ⟨h2,λi hi=>⟨λz=>Nat.lt_of_not_le λq=>h5 i hi q z,λz=>h4 i hi z⟩⟩
def cW{xs:Array Nat}(j)(h:xs.toList.Pairwise (· < ·)):below xs j<=xs.size/\∀i hi,xs[i]<j↔i<below xs j :=
 Rx xs j h xs.size 0 xs.size (DQ _) (Am _) (by omega) (λ_ _ z=>by omega) λi hi z=>by omega
abbrev En:Type:=Nat×Int×Value
def Occ(l:List En)(j:Nat):Prop:=∃e∈l,e.1=j
abbrev st0(m:Nat)(h:Int):Probe:=run m (bits h%(m+1)) (bits h)
structure Tb(t:SetTable)(es:Array (Int×Value))(l:List En):Prop where
 ms:Mk t.mask
 pl:t.place.toList=l.map (·.1)
 el:es.toList=l.map (·.2)
 du:t.dummies=#[]
 up:l.Pairwise λa b=>a.1<b.1
 le:∀e∈l,e.1<=t.mask
 rc:∀e∈l,Rch t.mask (Occ l) (st0 t.mask e.2.1) e.1
section
variable{t:SetTable}{es:Array (Int×Value)}{l:List En}
def Tb.plP(T:Tb t es l):t.place.toList.Pairwise (· < ·):=by rw [T.pl,List.pairwise_map];exact T.up
def Tb.size(T:Tb t es l):t.place.size=l.length:=by rw [<-Kr,T.pl,Ad]
def Tb.esize(T:Tb t es l):es.size=l.length:=by rw [<-Kr,T.el,Ad]
def Tb.at(T:Tb t es l)(hi:i<t.place.size):t.place[i]=(l[i]'(by rw [<-T.size];exact hi)).1:=by
 have e:t.place.toList[i]'(by simpa using hi)=(l.map (·.1))[i]'(by rw [Ad,<-T.size];exact hi):=by
  congr 1;exact T.pl
 simpa using e
def Tb.live(T:Tb t es l){e:En}(h:l[i]?=some e):t.slot e.1=.live i:=by
 obtain ⟨c,rfl⟩:=Cd.mp h;have a:i<t.place.size:=by rw [T.size];exact c
 obtain ⟨j,d⟩:=cW l[i].1 T.plP;have f:=Ow.mp T.up;have g:below t.place l[i].1=i:=by
  rcases Nat.lt_trichotomy (below t.place l[i].1) i with z | z | z
  .have b:below t.place l[i].1<t.place.size:=by omega
   have:=f _ i (by rw [<-T.size];exact b) c z;have q:=(d _ b).mp (by rw [T.at b];exact this);omega
  .exact z
  .have q:=(d i a).mpr z;rw [T.at a] at q;omega
 unfold slot;simp only [];rw [g,iP];rw [Array.getElem?_eq_getElem a,T.at a];simp
def Tb.noDummy(T:Tb t es l)(j):has t.dummies j=false:=by
 rw [T.du];unfold has;simp
def Tb.empty(T:Tb t es l)(h:¬Occ l j):t.slot j=.empty:=by
 unfold slot;simp only [];rw [iN,T.noDummy,iN DX];intro z;have z:=eq_of_beq z;obtain ⟨a,e⟩:=Array.getElem?_eq_some_iff.mp z;rw [T.at a] at e;exact h ⟨_,Iv _,e⟩
def Tb.occ(T:Tb t es l)(h:Occ l j):∃i e,l[i]?=some e/\e.1=j/\t.slot j=.live i:=by
 obtain ⟨e,b,rfl⟩:=h;obtain ⟨i,a,rfl⟩:=Ii.mp b;exact ⟨i,_,Aw a,rfl,T.live (Aw a)⟩
def Xi(xs:Array α)(p:Nat)(x:α)(hp:p<=xs.size):(insertAt xs p x).toList=xs.toList.take p++x::xs.toList.drop p:=by
 unfold insertAt;simp [Array.toList_extract,List.extract_eq_drop_take];exact HB (by simp)
def Tb.put(T:Tb t es l){x:Value}(hj:j<=t.mask)(ho:¬Occ l j)(hr:Rch t.mask (Occ l) (st0 t.mask h) j) :
  ∃l',List.Perm l' ((j,h,x)::l)/\Tb (t.put j).1 (insertAt es (t.put j).2 (h,x)) l':=by
 obtain ⟨s,p⟩:=cW j T.plP;have u:(t.put j).2=below t.place j:=rfl;have v:(t.put j).1={ t with place:=insertAt t.place (below t.place j) j,dummies:=t.dummies }:=by
  unfold SetTable.put;simp only [];rw [T.noDummy,iN DX]
 have n:List.Perm (l.take (below t.place j)++(j,h,x)::l.drop (below t.place j)) ((j,h,x)::l):=by
  refine List.perm_middle.trans ?_;rw [List.take_append_drop]
 have d:∀k,Occ l k->Occ (l.take (below t.place j)++(j,h,x)::l.drop (below t.place j)) k:=λk ⟨e,he,q⟩=>⟨e,n.mem_iff.mpr (BW _ he),q⟩;refine ⟨l.take (below t.place j)++(j,h,x)::l.drop (below t.place j),n,?_⟩;rw [u,v];refine ⟨T.ms,?_,?_,T.du,?_,λe he=>?_,λe he=>?_⟩
 .show (insertAt t.place (below t.place j) j).toList=_;rw [Xi _ _ _ s,T.pl];simp [HH,KJ]
 .rw [Xi _ _ _ (by rw [T.esize,<-T.size];exact s),T.el];simp [HH,KJ]
 .have f:∀e∈l.take (below t.place j),e.1<j:=λe he=>by
   obtain ⟨i,o,rfl⟩:=Ii.mp he;have m:i<below t.place j/\i<l.length:=by rw [CZ] at o;omega
   have g:i<t.place.size:=by rw [T.size];exact m.2
   have:=(p i g).mpr m.1;rw [T.at g] at this;simpa using this
  have c:∀e∈l.drop (below t.place j),j<e.1:=λe he=>by
   obtain ⟨i,o,rfl⟩:=Ii.mp he;rw [GX] at o;have g:below t.place j+i<t.place.size:=by rw [T.size];omega
   have w:=λz=>by have:=(p _ g).mp z;omega
   rw [T.at g] at w;have y:(l[below t.place j+i]'(by rw [<-T.size];exact g)).1≠j:=λz=>ho ⟨_,Iv _,z⟩;rw [List.getElem_drop];omega
  rw [List.pairwise_append];refine ⟨T.up.sublist (List.take_sublist _ _),?_,λa r b hb=>?_⟩
  .rw [Fq];exact ⟨λb hb=>c b hb,T.up.sublist (List.drop_sublist _ _)⟩
  .rcases Al.mp hb with rfl | hb
   .exact f a r
   .exact Az (f a r) (c b hb)
 .rcases Al.mp (n.mem_iff.mp he) with rfl | he
  .exact hj
  .exact T.le e he
 .rcases Al.mp (n.mem_iff.mp he) with rfl | he
  .exact hr.mono d
  .exact (T.rc e he).mono d
end
section
variable{t:SetTable}{es:Array (Int×Value)}{l:List En}{h:Int}{ha:Nat->Int}
def HAt(l:List En)(ha:Nat->Int):Prop:=∀i e,l[i]?=some e->ha i=e.2.1
def WY(T:Tb t es l)(hh:HAt l ha):∀n fuel p,p.dummy=none->Ep t.mask (Occ l) n p->n<fuel ->
  (∃j,probe.go t ha h fuel p=some (.empty j none)/\¬Occ l j/\Rch t.mask (Occ l) p j/\∀e∈l,e.2.1=h->¬Rch t.mask (Occ l) p e.1) \/
  (∃i e p' n',probe.go t ha h fuel p=some (.candidate e.1 i (adv t.mask p'))/\l[i]?=some e/\e.2.1=h/\p'.j=e.1/\p'.dummy=none/\n'<n/\Ep t.mask (Occ l) n' (adv t.mask p')/\(∀j,Rch t.mask (Occ l) (adv t.mask p') j->Rch t.mask (Occ l) p j)/\∀e'∈l,e'.2.1=h->e'≠e->Rch t.mask (Occ l) p e'.1->Rch t.mask (Occ l) (adv t.mask p') e'.1)
 | n,0,p,_,_,hf=>by omega
 | n,fuel+1,p,hd,hE,hf=>by
  by_cases ho:Occ l p.j
  .obtain ⟨i,e,w,f,B⟩:=T.occ ho;cases n with
   | zero=>exact aB ho hE
   | succ n=>
    have u:=hE.resolve_left λz=>z ho;have g:(adv t.mask p).dummy=none:=by unfold adv;split<;>exact hd
    unfold probe.go;rw [B];simp only [];have d:∀e'∈l,e'.1=e.1->e'=e:=λe' b q=>by
     obtain ⟨a,m,rfl⟩:=Ii.mp b;obtain ⟨A,rfl⟩:=Cd.mp w;have y:=Ow.mp T.up;rcases Nat.lt_trichotomy a i with z | z | z
     .have:=y a i m A z;omega
     .subst z;rfl
     .have:=y i a A m z;omega
    have x:∀{j:Nat},Rch t.mask (Occ l) p j->j≠p.j->Rch t.mask (Occ l) (adv t.mask p) j:=λ{j} r v=>by
     cases r with
     | here=>exact aB rfl v
     | next _ r=>exact r
    by_cases hq:ha i=h
    .rw [iP (by rw [hq];exact beq_self_eq_true h)];right;refine ⟨i,e,p,n,by rw [Yw,f],w,by rw [<-hh i e w];exact hq,f.symm,hd,by omega,u,λj r=>.next ho r,λe' b _ v r=>x r λz=>v (d e' b (by rw [z,f]))⟩
    .rw [iN (by intro z;exact hq (eq_of_beq z)),Yw];have k:e.2.1≠h:=by rw [<-hh i e w];exact hq
     rcases WY T hh n fuel (adv t.mask p) g u (by omega) with ⟨j,e1,e2,e3,e4⟩ | ⟨i',e',p',n',e1,e2,e3,e4,e5,e6,e7,e8,e9⟩
     .left;refine ⟨j,e1,e2,.next ho e3,λe' b q r=>e4 e' b q (x r λz=>?_)⟩;have:=d e' b (by rw [z,f]);subst this;exact k q
     .right;refine ⟨i',e',p',n',e1,e2,e3,e4,e5,by omega,e7,λj r=>.next ho (e8 j r),λs c q v r=>e9 s c q v (x r λz=>?_)⟩;have:=d s c (by rw [z,f]);subst this;exact k q
  .left;unfold probe.go;rw [T.empty ho];simp only [];refine ⟨p.j,by rw [hd],ho,.here p,λe f _ r=>?_⟩;generalize hz:e.1=z at r;cases r with
   | here=>exact ho ⟨e,f,hz⟩
   | next o _=>exact ho o
end
def Yr:∀{xs ys:List α},xs.Nodup->(∀x∈xs,x∈ys)->xs.length<=ys.length
 | [],_,_,_=>DQ _
 | x::r,ys,hn,hs=>by
  obtain ⟨a,b,rfl⟩:=List.append_of_mem (hs x BL);rw [Hk] at hn;have:=Yr (ys:=a++b) hn.2 λy c=>by
   rcases Ek.mp (hs y (BW _ c)) with z | z
   .exact GP _ z
   .rcases Al.mp z with rfl | z
    .exact aB c hn.1
    .exact Dc _ z
  simp at this ⊢;omega
def fC{js:List Nat}(h:js.length<=m):∃e,e<=m/\e∉js:=by
 refine Classical.byContradiction λz=>?_;have:=Yr (xs:=List.range (m+1)) List.nodup_range λx a=>Classical.byContradiction λq=>z ⟨x,by have:=DN.mp a;omega,q⟩;rw [Bx] at this;omega
def Zz(h:i<=m):i<=runEnd m i/\runEnd m i<=m:=by
 unfold runEnd;split<;>omega
section
variable{prog:Program} {E:Value->Shared->Prop}
def items_int(h:ItemsAre (intKind prog w) ks vs):∀v∈vs,∃i t,v=Value.int i t:=by
 induction h with
 | nil=>exact λ_ h=>(CK h).elim
 | @cons k v ks vs h1 _ ih=>
  intro u hu;rcases Al.mp hu with rfl | hu
  .cases u with
   | int i t=>exact ⟨i,t,rfl⟩
   | _=>exact aB h1 (by intro z;exact Bool.noConfusion z)
  .exact ih u hu
def Vz(hk:IsTupleKey (intKind prog w) s.heap ks a)(h:Q false s):wpAny (model prog w) A (ofAClassStatement 8 (.ref a)) Q E s:=by
 obtain ⟨o,g,n,k,q,p,m⟩:=hk;have l:s.TypeIs (.ref a) "tuple":=⟨o,k,q⟩;have d:=items_int m;unfold ofAClassStatement;refine Ac (J5 l ?_);dsimp only;rw [iP (by decide)];refine Ac (Ae ?_);simp only [Bool.not_true,DR,CV];refine Ac (Fd k p ?_);refine Ac ?_;rw [<-Oi];refine wpAny_forIn_list _ (λc r j=>r.1=none/\j=s/\∀v∈c,∃i t,v=Value.int i t) _ ?_ ?_ _ _ ⟨rfl,rfl,d⟩
 .rintro v c r j ⟨f,rfl,b⟩;obtain ⟨i,t,rfl⟩:=b v BL;refine Ac (Ae ?_);simp only [DR,CV];exact Ae ⟨rfl,rfl,λu e=>b u (BW _ e)⟩
 .rintro ⟨x,y⟩ j ⟨f,rfl,_⟩;simp only at f;subst f;exact Ae h
def mq{x:Addr}{ks:List Int}{stored:List Value}{Q:Bool->Shared->Prop}(hx:IsTupleKey (intKind prog w) s.heap ks x)(hs:∀y∈stored,∃b ks',y=Value.ref b/\IsTupleKey (intKind prog w) s.heap ks' b)(h:Q false s) :
  wpAny (model prog w) A (searchCouldBeSeen (.ref x) stored) Q E s:=by
 unfold searchCouldBeSeen;refine Ac ?_;refine wpAny_forIn_list _ (λc r f=>r.1=none/\f=s/\∀v∈c,∃b ks',v=Value.ref b/\IsTupleKey (intKind prog w) s.heap ks' b) _ ?_ ?_ _ _ ⟨rfl,rfl,hs⟩
 .rintro v c r f ⟨e,rfl,a⟩;obtain ⟨b,ks',rfl,g⟩:=a v BL;dsimp only;split
  .exact Ae ⟨rfl,rfl,λu d=>a u (BW _ d)⟩
  .refine Ac (wpAny_eqIsQuiet_tuple hx ?_);simp only [Bool.not_true,DR,CV];refine Ac (wpAny_eqIsQuiet_tuple g ?_);simp only [Bool.not_true,DR,CV];refine Ac (Vz hx ?_);simp only [DR,CV];refine Ac (Vz g ?_);simp only [DR,CV];exact Ae ⟨rfl,rfl,λu d=>a u (BW _ d)⟩
 .rintro ⟨i,j⟩ f ⟨e,rfl,_⟩;simp only at e;subst e;exact Ae h
def ZkR(hk:IsTupleKey (intKind prog w) s.heap ks a)(h:Q true s):wpAny (model prog w) A (hashByValue 8 (.ref a)) Q E s:=by
 have k:=hk.typeIs;obtain ⟨o,f,n,p,y,m,l⟩:=hk;have d:=items_int l;unfold hashByValue;refine Ac (wpAny_specialOf k F.slot_tuple_hash.lookup ?_);refine Ac (Fd p m ?_);refine Ac ?_;rw [<-Oi];refine wpAny_forIn_list _ (λc r j=>r.1=none/\j=s/\∀v∈c,∃i t,v=Value.int i t) _ ?_ ?_ _ _ ⟨rfl,rfl,d⟩
 .rintro v c r j ⟨e,rfl,b⟩;obtain ⟨i,t,rfl⟩:=b v BL;refine Ac (Ae ?_);simp only [Bool.not_true,DR,CV];exact Ae ⟨rfl,rfl,λu g=>b u (BW _ g)⟩
 .rintro ⟨q,x⟩ j ⟨e,rfl,_⟩;simp only at e;subst e;exact Ae h
end
section
variable{prog:Program} {E:Value->Shared->Prop}
def El(prog:Program)(w:World)(h:Heap)(p:Int×Value)(ks:List Int):Prop:=∃x,p.2=.ref x/\IsTupleKey (intKind prog w) h ks x/\p.1=tupleKeyHash (intKind prog w) ks
def El.inj{h:Heap}{p:Int×Value}{a b:List Int}(ha:El prog w h p a)(hb:El prog w h p b):a=b:=by
 obtain ⟨x,e,f,_⟩:=ha;obtain ⟨y,c,d,_⟩:=hb;rw [e] at c;cases c;exact f.inj d
def Tb.fits{es:Array (Int×Value)}(T:Tb t es l)(hl:l.length<=t.mask):t.fits es.size=true:=by
 unfold SetTable.fits SetTable.fill;rw [T.du,T.size,T.esize];simp;exact hl
def Tb.odd{es:Array (Int×Value)}(T:Tb t es l):t.gaveWay=false:=by
 unfold SetTable.gaveWay;rcases T.ms with e | e<;>rw [e]<;>rfl
def dz{es:Array (Int×Value)}(T:Tb t es l):HAt l (λi=>(es[i]?.map (·.1)).getD 0):=λi e h=>by
 show ((es[i]?.map (·.1)).getD 0)=_;rw [<-Rm,T.el,Ca,h];rfl
def lM{x:Addr}{es:Array (Int×Value)}(hu:A.units<cLine)(ho:s.heap.get? a=some o)(hd:o.data=.set es ep t)(T:Tb t es l)(hl:l.length<=t.mask)(hel:∀e∈l,∃ks',El prog w s.heap e.2 ks')(hx:IsTupleKey (intKind prog w) s.heap ks x) :
  ∀n fuel stand,n<fuel->n<=10*(13+t.mask)->(stand.getD (t.probeStart (tupleKeyHash (intKind prog w) ks))).dummy=none->Ep t.mask (Occ l) n (stand.getD (t.probeStart (tupleKeyHash (intKind prog w) ks))) ->
   ((∃e∈l,El prog w s.heap e.2 ks/\Rch t.mask (Occ l) (stand.getD (t.probeStart (tupleKeyHash (intKind prog w) ks))) e.1)/\R (.there none) s)\/((∀e∈l,¬El prog w s.heap e.2 ks)/\∀j,¬Occ l j->Rch t.mask (Occ l) (stand.getD (t.probeStart (tupleKeyHash (intKind prog w) ks))) j->R (.free j false) s) ->
   wpAny (model prog w) A (setSearchFrom a (.ref x) (tupleKeyHash (intKind prog w) ks) true fuel stand) R E s:=by
 intro n
 induction n using Nat.strongRecOn with
 | ind n ih=>
  intro fuel stand W X K Q B;obtain ⟨fuel,rfl⟩ : ∃k,fuel=k+1:=⟨fuel - 1,by omega⟩;unfold setSearchFrom;refine Ac (Nt ho hd (T.fits hl) ?_);dsimp only;rw [T.odd];simp only [DR,CV];generalize hp:stand.getD (t.probeStart (tupleKeyHash (intKind prog w) ks))=p at *;rcases WY T (dz T) n (10*turns t.mask) p K Q (by unfold turns;omega) with ⟨j,e1,e2,e3,e4⟩ | ⟨i,e,p',n',e1,e2,e3,e4,e5,e6,e7,e8,e9⟩
  .generalize hm:t.probe _ (tupleKeyHash (intKind prog w) ks) p=met;have C:=hm.symm.trans e1;subst C;refine Ae ?_;rcases B with ⟨⟨e,he,hel',H⟩,_⟩ | ⟨_,B⟩
   .obtain ⟨_,_,_,P⟩:=hel';exact aB H (e4 e he P)
   .exact B j e2 e3
  .generalize hm:t.probe _ (tupleKeyHash (intKind prog w) ks) p=met;have C:=hm.symm.trans e1;subst C;dsimp only;have v:=GF e2;obtain ⟨ks',y,M,D,F⟩:=hel e v;have L:es[i]?=some e.2:=by rw [<-Rm,T.el,Ca,e2];rfl
   have h:es[i]?=some (e.2.1,Value.ref y):=by rw [L,<-M]
   have f:∀c,c.getD (t.probeStart (tupleKeyHash (intKind prog w) ks))=adv t.mask p'->¬ks'=ks->wpAny (model prog w) A (setSearchFrom a (.ref x) (tupleKeyHash (intKind prog w) ks) true fuel c) R E s:=λc g J=>by
    refine ih n' e6 fuel c (by omega) (by omega) ?_ ?_ ?_
    .rw [g];unfold adv;split<;>exact e5
    .rw [g];exact e7
    .rw [g];rcases B with ⟨⟨I,r,hel',H⟩,u⟩ | ⟨hno,B⟩
     .left;refine ⟨⟨I,r,hel',e9 I r hel'.choose_spec.2.2 (λz=>?_) H⟩,u⟩;subst z;exact J (El.inj ⟨y,M,D,F⟩ hel')
     .exact .inr ⟨hno,λj O H=>B j O (e8 j H)⟩
   have d:ks'=ks->R (.there none) s:=λm=>by
    subst m;rcases B with ⟨_,u⟩ | ⟨hno,_⟩
    .exact u
    .exact aB ⟨y,M,D,F⟩ (hno e v)
   rw [h];have g:∀y∈List.map (λx=>x.2) (Array.filter (λx=>x.1==tupleKeyHash (intKind prog w) ks) es).toList,∃b ks',y=Value.ref b/\IsTupleKey (intKind prog w) s.heap ks' b:=λy D=>by
    obtain ⟨q,u,rfl⟩:=Bk.mp D;rw [Array.toList_filter] at u;have u:=(Jm.mp u).1;rw [T.el] at u;obtain ⟨I,r,rfl⟩:=Bk.mp u;obtain ⟨S,N,V,U,_⟩:=hel I r;exact ⟨N,S,V,U⟩
   have G:t.sameMemory t.moves t.mask=some true:=by unfold SetTable.sameMemory;simp
   cases hled:t.led
   all_goals simp only [Bool.not_false,Bool.not_true,DR,CV,Dj]
   .refine Ac (mq hx g ?_);simp only [DR,CV];refine Ac (Cp (wpAny_eqBool_tuple hu D hx ?_));refine Ac (Nt ho hd (T.fits hl) ?_);by_cases m:ks'=ks
    .rw [Dp m];simp only [Bool.and_true,Dj];exact Ae (d m)
    .rw [Fz m];simp only [Bool.and_false,DR,CV];rw [G];simp only [Dj];rw [T.live e2];dsimp only;rw [h];refine wpAny_bind (wpAny_of_eq (show isSame (.ref y) (.ref y)=pure true by unfold isSame;simp) ?_);refine Ac (Ae ?_);exact f (some _) rfl m
   .refine Ac (Cp (wpAny_eqBool_tuple hu D hx ?_));refine Ac (Nt ho hd (T.fits hl) ?_);by_cases m:ks'=ks
    .rw [Dp m];simp only [Bool.and_true,Dj];exact Ae (d m)
    .rw [Fz m];simp only [Bool.and_false,DR,CV];rw [G];simp only [Dj];rw [T.live e2];dsimp only;rw [h];refine wpAny_bind (wpAny_of_eq (show isSame (.ref y) (.ref y)=pure true by unfold isSame;simp) ?_);refine Ac (Ae ?_);exact f (some _) rfl m
end
section
variable{prog:Program} {E:Value->Shared->Prop}
def SetT(prog:Program)(w:World)(h:Heap)(a:Addr)(kss:List (List Int)):Prop:=∃o c d t l,h.get? a=some o/\o.ExactSet/\o.data=.set c d t/\Tb t c l/\t.mask=7/\l.length<=4 /\
 (∀e∈l,∃b∈kss,El prog w h e.2 b)/\(∀b∈kss,∃e∈l,El prog w h e.2 b)/\l.length=kss.length
def El.keeps{es:Array (Int×Value)}(x:El prog w h p ks)(ho:h.get? a=some o)(hd:o.data=.set es ep t)(hs:Heap.SameBut a h h'):El prog w h' p ks:=by
 obtain ⟨x,e,⟨g,b,n,d,k,c,i⟩,j⟩:=x;have f:x≠a:=by
  rintro rfl;obtain rfl:g=o:=Br (d.symm.trans ho);rw [hd] at c;exact nomatch c
 exact ⟨x,e,⟨g,b,n,(hs.2 x f).trans d,k,c,i⟩,j⟩
def j0(r:Rch m occ p j):p.j+p.more<=m->j<=m:=by
 induction r with
 | here p=>exact λh=>by omega
 | @next p j _ _ ih=>
  intro h;refine ih ?_;unfold adv;split
  .simp only [];omega
  .have a:(leap m p.i p.perturb).1<=m:=by
    unfold leap;have:=Hy (p.i*5+1+p.perturb/32) (show 0<m+1 by omega);omega
   have:=Zz a;simp only [];omega
def nT(t:SetTable)(j:Nat):(t.put j).1.mask=t.mask/\(t.put j).1.plain=t.plain:=⟨rfl,rfl⟩
def ZtS{x:Addr}(hu:A.units<cLine)(hS:SetT prog w s.heap a kss)(hx:IsTupleKey (intKind prog w) s.heap ks x)(hn:kss.length+1<=4)(h:∀b h',Heap.SameBut a s.heap h'->SetT prog w h' a (if ks∈kss then kss else kss++[ks])->Q b { s with heap:=h' }) :
  wpAny (model prog w) A (setAddHashed a (.ref x) (tupleKeyHash (intKind prog w) ks)) Q E s:=by
 obtain ⟨o,J,H,t,l,g,C,d,T,L,K,i,v,u⟩:=hS;have m:l.length<=t.mask:=by rcases T.ms with e | e<;>rw [e]<;>omega
 refine Cp (Ac (Nt g d (T.fits m) ?_));obtain ⟨e,he,hf⟩:=fC (js:=l.map (·.1)) (by rw [Ad];exact m);have Y:Ep t.mask (Occ l) (10*(13+t.mask)) (t.probeStart (tupleKeyHash (intKind prog w) ks)):=by
  exact ends T.ms (by have:=Hy (bits (tupleKeyHash (intKind prog w) ks)) (show 0<t.mask+1 by omega);omega) (Zrd _) he λ⟨e',I,q⟩=>hf (Bk.mpr ⟨e',I,q⟩)
 have hb:10*(13+t.mask)<100000:=by rcases T.ms with e | e<;>rw [e]<;>decide
 refine Ac (lM hu g d T m (λe he=>let ⟨k,_,q⟩:=i e he;⟨k,q⟩) hx (10*(13+t.mask)) 100000 none hb (Am _) rfl Y ?_);by_cases hk:ks∈kss
 .left;obtain ⟨e,he,f⟩:=v ks hk;refine ⟨⟨e,he,f,?_⟩,?_⟩
  .have:=T.rc e he;rw [f.choose_spec.2.2] at this;exact this
  .refine Ae ?_;have:=h false s.heap (Heap.SameBut.refl a s.heap) (by rw [iP hk];exact ⟨o,J,H,t,l,g,C,d,T,L,K,i,v,u⟩);exact this
 .right;refine ⟨λe he f=>?_,λj X S=>?_⟩
  .obtain ⟨ks',hk',q⟩:=i e he;have:=El.inj f q;subst this;exact hk hk'
  .dsimp only;refine Ac (Nt g d (T.fits m) ?_);have P:j<=t.mask:=by
    have U:bits (tupleKeyHash (intKind prog w) ks)%(t.mask+1)<=t.mask:=by
     have:=Hy (bits (tupleKeyHash (intKind prog w) ks)) (show 0<t.mask+1 by omega);omega
    refine j0 S ?_;show bits (tupleKeyHash (intKind prog w) ks)%(t.mask+1)+(runEnd t.mask (bits (tupleKeyHash (intKind prog w) ks)%(t.mask+1)) - bits (tupleKeyHash (intKind prog w) ks)%(t.mask+1))<=t.mask;have:=Zz U;omega
   obtain ⟨z,G,B⟩:=T.put P X S;obtain ⟨F,N⟩:=nT t j;generalize ht':(t.put j).1=t' at B F N ⊢;generalize hes':insertAt J (t.put j).2 (tupleKeyHash (intKind prog w) ks,Value.ref x)=es' at B ⊢;have p:z.length=l.length+1:=by rw [G.length_eq];rfl
   have R:z.length<=t'.mask:=by rw [F,p];rcases T.ms with e | e<;>rw [e]<;>omega
   have r:wpAny (model prog w) A (do
     storeSet a es' t'
     if (!false&&t'.tooFull)=true then do
      setRelay a (grown (J.size+1))
      pure true
     else pure true) Q E s:=by
    have W:(s.heap.update a (Obj.putSet es' t')).get? a=some { o with data:=.set es' (H+1) t' }:=by
     have:=Ku (Obj.putSet es' t') g (by rw [putSet_of es' t' d];rfl);rw [putSet_of es' t' d] at this;exact this
    have n:=Og s.heap a (Obj.putSet es' t');have D:El prog w (s.heap.update a (Obj.putSet es' t')) (tupleKeyHash (intKind prog w) ks,Value.ref x) ks:=El.keeps ⟨x,rfl,hx,rfl⟩ g d n;have g1:∀e∈z,∃k∈kss++[ks],El prog w (s.heap.update a (Obj.putSet es' t')) e.2 k:=λe he=>by
     rcases Al.mp (G.mem_iff.mp he) with rfl | he
     .exact ⟨ks,by simp,D⟩
     .obtain ⟨k,O,M⟩:=i e he;exact ⟨k,GP _ O,M.keeps g d n⟩
    have V:∀k∈kss++[ks],∃e∈z,El prog w (s.heap.update a (Obj.putSet es' t')) e.2 k:=λk hk'=>by
     rcases Ek.mp hk' with hk' | hk'
     .obtain ⟨e,O,M⟩:=v k hk';exact ⟨e,G.mem_iff.mpr (BW _ O),M.keeps g d n⟩
     .rw [Jl] at hk';subst hk';exact ⟨_,G.mem_iff.mpr BL,D⟩
    have Z:es'.size<=sizeLine:=by rw [B.esize,p,sizeLine_eq];omega
    refine Ac (wpAny_storeSet_of g d ?_ Z);have y:t'.fill=z.length:=by unfold SetTable.fill;rw [B.du,B.size];rfl
    by_cases c:t'.tooFull=true
    .unfold SetTable.tooFull at c;rw [y,F,p,L] at c;have c:=of_decide_eq_true c;omega
    .rw [Bool.eq_false_iff.mpr c];refine Ae (h true _ n ?_);rw [iN hk];refine ⟨_,es',H+1,t',z,W,C,rfl,B,F.trans L,by omega,g1,V,by rw [p,u];simp⟩
   split
   .refine Ac (ZkR hx ?_);exact r
   .refine Ac (Ae ?_);exact r
end
end L2.Sx
namespace L2.Sx
open PySem.SetTable
open Dl (firsts)
def Nu(kf):∀i,(firsts kf i).length<=i
 | 0=>Am _
 | i+1=>by
  have:=Nu kf i;unfold firsts;split
  .omega
  .simp;omega
section
variable{prog:Program} {R:Result->Shared->Prop} {I:Addr} {fp wr:List Addr} {G:Array GenState->Array GenState->Prop} {P:Nat->Value->Prop} {St:Nat->Shared->Prop}
def SetT.keep(hS:SetT prog w h a kss)(ha:∀o,h.get? a=some o->h'.get? a=some o)(hk:∀b o,h.get? b=some o->o.cls=.type "tuple"->h'.get? b=some o):SetT prog w h' a kss:=by
 obtain ⟨o,E,C,t,l,B,m,A,T,z,i,q,g,d⟩:=hS;have v:∀{e p},El prog w h e p->El prog w h' e p:=λ{e p} j=>by
  obtain ⟨x,G,⟨u,c,n,f,y,r⟩,F⟩:=j;exact ⟨x,G,⟨u,c,n,hk x u f y,y,r⟩,F⟩
 exact ⟨o,E,C,t,l,ha o B,m,A,T,z,i,λe D=>let ⟨k,h1,h2⟩:=q e D;⟨k,h1,v h2⟩,λk s=>let ⟨e,h1,h2⟩:=g k s;⟨e,h1,v h2⟩,d⟩
def SetT.cls(hS:SetT prog w h a kss):∀o,h.get? a=some o->o.cls≠.type "tuple":=λg b d=>by
 obtain ⟨o,f,i,t,l,e,c,_⟩:=hS;rw [e] at b;cases b;rw [c.1] at d;exact aB d (by decide)
def vD(W:WalksS prog w A.in1 I fp wr G n P St)(S)(hSf:S∉fp)(hwr:∀i s,St i s->∀b∈wr,∀o,s.heap.get? b=some o->o.cls≠.type "tuple")(kf)(hu:A.in1.units<cLine)(h0)(hval:∀i v,P i v->∃x,v=.ref x/\IsTupleKey (intKind prog w) h0 (kf i) x)(hb:n<=4) :
  ∀k i s,n - i=k->i<=n->St i s->SetT prog w s.heap S (firsts kf i)->(∀b o,h0.get? b=some o->o.cls=.type "tuple"->s.heap.get? b=some o) ->
   (∀s',Moved (S::wr) G s s'->SetT prog w s'.heap S (firsts kf n)->R (.ok (.ret .none)) s')->codeAny (model prog w) A (.builtin "set.update.loop" ⟨[.ref S,.ref I],[]⟩) R s:=by
 have u:=λh=>hSf (W.sub _ h);have f:∀b∈wr,b∈S::wr:=λb hb=>BW _ hb;have M:∀{i s s'},St i s->Moved wr G s s'->∀b o,s.heap.get? b=some o->o.cls=.type "tuple"->s'.heap.get? b=some o:=λ{i s s'} Q m b o e c=>m.heap b o (λz=>hwr i s Q b z o e c) e;intro k
 induction k with
 | zero=>
  intro i s X O a L _ K;obtain rfl:i=n:=by omega
  refine Lq F.entry_set_update_loop ?_;rw [Qj F.plain_set_update_loop _];refine Ac (W.done s _ _ a λs' d=>?_);exact Ae (K s' (d.mono f) (L.keep (λo e=>d.heap S o u e) (M a d)))
 | succ k ih=>
  intro i s X O a L H K;have y:i<n:=by omega
  refine Lq F.entry_set_update_loop ?_;rw [Qj F.plain_set_update_loop _];refine Ac (W.item i s _ _ y a λv s' V q d=>?_);obtain ⟨x,rfl,J⟩:=hval i v V;have t:=L.keep (λo e=>d.heap S o u e) (M a d);have g:=λb o e c=>M a d b o (H b o e c) c;have N:IsTupleKey (intKind prog w) s'.heap (kf i) x:=by
   obtain ⟨o,j,m,T,c,r⟩:=J;exact ⟨o,j,m,g x o T c,c,r⟩
  refine Ac (Cp ?_);unfold setAdd;refine Cp ?_;refine Ac (wpAny_pyHash_tuple hu N ?_);refine ZtS hu t N (by have:=Nu kf i;omega) λb Y p D=>?_;have U:∀b o,s'.heap.get? b=some o->o.cls=.type "tuple"->Y.get? b=some o:=λb o e c=>by
   rw [p.2 b (λz:b=S=>by subst z;exact t.cls o e c)];exact e
  refine Ae ⟨plainId_quiet F.plain_set_update_loop _,ih (i+1) _ (by omega) y (W.frame _ s' _ _ q (Nat.le_add_right _ _) λb l o e=>?_) D (λb o e c=>U b o (g b o e c) c) λE C B=>?_⟩
  .rw [p.2 b (λz:b=S=>hSf (by rw [<-z];exact l))];exact e
  .refine K E (Moved.trans W.gtrans ((d.mono f).then_heap (Nat.le_add_right _ _) λb o l e=>?_) C) B;rw [p.2 b (λz:b=S=>l (by rw [z];exact BL))];exact e
end
open Dl (firsts)
section
variable{prog:Program} {E:Value->Shared->Prop}
abbrev Gw(led:Bool):Obj:={ cls:=.type "set",dict:=none,data:=.set #[] 0 (.fresh 0 0 led) }
def oh{h:Heap}{a:Addr}{led:Bool}(ho:h.get? a=some (Gw led)):SetT prog w h a [] :=
 ⟨_,#[],0,.fresh 0 0 led,[],ho,⟨rfl,rfl,rfl⟩,rfl,⟨.inl rfl,rfl,rfl,rfl,.nil,λ_ h=>(CK h).elim,λ_ h=>(CK h).elim⟩,rfl,by decide,λ_ h=>(CK h).elim,λ_ h=>(CK h).elim,rfl⟩
set_option maxHeartbeats 8000000 in
def call_set(hh:A.handled=none)(hu:A.units+20<cLine)(hl:s.heap.IsList l items)(hi:∀i v,items[i]?=some v->∃x,v=.ref x/\IsTupleKey (intKind prog w) s.heap (kf i) x)(hb:items.size<=4)(h:∀(h':Heap) (tk:Nat),SetT prog w h' s.heap.objs.size (firsts kf items.size)->(∀b o,b<s.heap.objs.size->s.heap.get? b=some o->h'.get? b=some o)->Q (.ref s.heap.objs.size) { s with heap:=h',toks:=tk }) :
  wpAny (model prog w) A (call (.type "set") [.ref l]) Q E s:=by
 obtain ⟨c,tl,X⟩:=F.called_set.mro;have T:=F.called_set.made;have hsub:=F.called_set.sub;refine wpAny_call (codeAny_of_tree ?_);refine Ae ⟨Code.quiet_builtin _ (by decide +kernel),Lq F.entry_type_call ?_⟩;rw [Around.under_plain (weight_type_call_type "set" [.ref l] []) rfl];have h1:=F.called_set.notType;have h2:=F.called_set.canCreate;have hct:=F.typeCall_set_1 (.ref l)
 repeat (any_goals (first | assumption | wp_step))
 refine KY (code_set_new_1 (.ref l) (E:=E) (Q₁:=λz j=>∃a,z=.ref s.heap.objs.size/\j={ s with heap:=s.heap.push (Gw a) }) λa=>⟨a,rfl,rfl⟩) λr j G=>?_
 cases r with
 | error e=>exact G
 | ok fl=>
  cases fl with
  | next=>exact G.elim
  | brk=>exact G.elim
  | cont=>exact G.elim
  | ret z=>
   obtain ⟨a,rfl,rfl⟩:=G;have W:(s.heap.push (Gw a)).get? s.heap.objs.size=some (Gw a):=CQ _ rfl;have hT:Shared.TypeIs { s with heap:=s.heap.push (Gw a) } (.ref s.heap.objs.size) "set":=⟨_,W,rfl⟩
   have hli:=F.called_set.init.lookup;have hbi:=F.called_set.init.bind (.ref s.heap.objs.size)
   repeat (any_goals (first | assumption | wp_step))
   refine KY (codeAny_call_builtin (R:=wants (λr k=>r=.none/\∃h' tk,k={ s with heap:=h',toks:=tk }/\SetT prog w h' s.heap.objs.size (firsts kf items.size) /\
     (∀b o,b<s.heap.objs.size->s.heap.get? b=some o->h'.get? b=some o)) E) F.called_set.init.plain F.entry_set_init (check_set_init_1 hT ?_)) λD k d=>?_
   .obtain ⟨ol,q,B,nl,t⟩:=hl;obtain ⟨Z,n,L,g⟩:=ol;simp only at B t;subst B;subst t;have u:(s.heap.push (Gw a)).get? l=some { cls:=.type "list",dict:=n,data:=.seq items nl,slots:=g }:=Bf _ q;have V:=F.sub_list_set;have hslf:=F.sub_list_frozenset;have C:(s.heap.push (Gw a)).IsList l items:=⟨_,u,rfl,nl,rfl⟩;unfold Builtin.«set.__init__» noKeywords Builtin.Frozenset.updateFrom;generalize hPI:pyIter=PI
    wp_walk
    subst hPI;refine NZ C ?_;refine Ac (wpAny_runValue ?_);have p:l<s.heap.objs.size:=BK q;have K:A.in1.in1.in1.handled=none:=by simp [hh]
    have y:l≠(s.heap.push (Gw a)).objs.size:=by
     rw [Du];exact BR (G7 p)
    have I:s.heap.objs.size∉[(s.heap.push (Gw a)).objs.size,l]:=by
     rw [Du];simp only [Al,Jl,CK,Ej,not_or];exact ⟨BR (G9 _),Gm p⟩
    refine vD ((Walks.list K _ l y items).toS) s.heap.objs.size I ?hw kf (by show A.units+1+1+1<cLine;omega) s.heap hi hb (items.size - 0) 0 _ (by omega) (DQ _)
     ⟨⟨_,CQ _ rfl,rfl,rfl⟩,(C.push _)⟩ ?hS0 ?hT0 ?hR
    case hw=>
     rintro i Y ⟨⟨o',M,P,_⟩,_⟩ b f o'' e' hc;rw [Jl] at f;subst f;rw [M] at e';cases e';rw [P] at hc;exact aB hc (by decide)
    case hS0=>exact oh (Bf _ W)
    case hT0=>exact λb o e _=>Bf _ (Bf _ e)
    case hR=>
     intro Y H m;obtain ⟨h',g',d',N,S⟩:=Y;have eg:g'=s.gens:=H.gens;have ed:d'=s.drawn:=H.drawn;have eo:S=s.os:=H.os;subst eg;subst ed;subst eo;refine Ae ?_;refine Ae ⟨rfl,h',N,rfl,m,λb o f e=>?_⟩;have J:=BR f;have O:b≠(s.heap.push (Gw a)).objs.size:=by
      rw [Du];exact BR (G7 f)
     exact H.heap b o (by simp only [Al,Jl,CK,Ej,not_or];exact ⟨J,O⟩) (Bf _ (Bf _ e))
   .cases D with
    | error e=>exact d
    | ok fl₂=>
     cases fl₂ with
     | next=>exact d.elim
     | brk=>exact d.elim
     | cont=>exact d.elim
     | ret r=>
      obtain ⟨rfl,h',tk,rfl,m,U⟩:=d
      repeat (any_goals (first | assumption | wp_step))
      exact h _ _ m U
end
end L2.Sx
namespace L2
def jq:bootBuiltins "set"=some (.type "set"):=by decide +kernel
def SetN(o:Obj)(n:Nat):Prop:=o.ExactSet/\n<=4/\∃a b t,o.data=.set a b t/\t.fits a.size=true/\a.size=n
def Xn(K:W.Frag)(H:Hp)(xs:List V)(kss:List (List Int)):Prop:=∀i x,xs[i]?=some x->∃a,x=.ref a/\SqT K H a ((kss.getD i []).map V.int)
def rSet(K:W.Frag):List V->Hp->VK->Prop:=λd H Q=>∃l c b,d=[.ref l]/\SqL K H l c/\Xn K H c b/\c.length<=4/\∀a o,H a=none->SetN o (Dl.firsts (λi=>b.getD i []) c.length).length->Q (.ref a) (upd H a (objX a o))
def Zo:List V->Hp->VK->Prop:=λb H Q=>∃a o n,b=[.ref a]/\H a=some (objX a o)/\SetN o n/\Q (.int (n:Nat)) H
section
def cA:∀{ns:List Int} {its:List Value},Vals (ns.map V.int) its->ItemsAre (intKind prog w) ns its
 | [],_,.nil=>.nil
 | n::r,_,.cons h t=>by
  obtain ⟨a,rfl⟩:=h;exact .cons (intKind_is _ _ _ _) (cA t)
def Y5:∀{xs:List V} {us:List Value},Vals xs us->∀{i:Nat} {u:Value},us[i]?=some u->∃x,xs[i]?=some x/\RelV x u
 | _,_,.cons h _,0,_,e=>⟨_,rfl,by cases e;exact h⟩
 | _,_,.cons _ t,i+1,_,e=>Y5 t (by simpa using e)
 | _,_,.nil,i,_,e=>by simp at e
def Yq:∀{xs:List V} {us:List Value},Vals xs us->us.length=xs.length
 | _,_,.nil=>rfl
 | _,_,.cons _ t=>by simp [Yq t]
def xQ(hr:Room k X.A):Et X (.type "set") (rSet X.K):=by
 intro w s Y H vs us Q I Z ⟨l,xs,j,e,hl,R,p,N⟩;subst e;cases Z with
 | cons r1 rr=>
  cases rr;cases r1;obtain ⟨its,r,⟨o,n,e1,O,_,e3⟩,_⟩:=I.list hl;have c:=Yq r;refine L2.Sx.call_set (kf:=λi=>j.getD i []) hr.hd (by have:=hr.un;omega) ⟨o,e1,O,n,e3⟩ (λi v P=>?_) (by simpa [c] using p) λV D U d=>?_
  .obtain ⟨x,E,M⟩:=Y5 r (by simpa using P);obtain ⟨a,rfl,z⟩:=R i x E;cases M;obtain ⟨J,ri,⟨g,p1,p2,m,S⟩,_⟩:=I.tuple z;exact ⟨a,rfl,g,J.toArray,m,p1,p2,S,by simpa using cA ri⟩
  .have kk:∀b u,s.heap.get? b=some u->V.get? b=some u:=λb u e=>d b u (BK e) e;obtain ⟨g,L,F,t,B,C,q,W,T,h7,y,_,_,f⟩:=U;have h:B.length<=t.mask:=by rcases T.ms with e | e<;>rw [e]<;>omega
   have G:=I.laid (t':=D) kk (Am _) (pR C);refine ⟨.ref s.heap.objs.size,_,G,rfl,N _ g (I.hok.fresh (Am _)) ⟨q,?_,L,F,t,W,T.fits h,?_⟩⟩
   .rw [<-c];have e:=f;rw [Be] at e;omega
   .rw [T.esize,f,<-c];simp
def lX:Et X (.builtin "len") Zo:=by
 intro c s Y H r l Q I g ⟨a,o,n,e,j,⟨b,d,p,m,t,f,i,k⟩,q⟩;subst e;cases g with
 | cons r1 rr=>
  cases rr;cases r1;have h:=jx I.hok j;refine call_len_set h b f i (by omega) ?_;rw [k];exact ⟨.int (n:Nat),H,I.tok _,⟨_,rfl⟩,q⟩
end
end L2
namespace L2.Ds
open Dl
section
def Wv{F:Hp}{xs:List V}{ds:List D}{ns:List Int}(h:Rps K mg F xs ds)(e:intsOf ds=some ns):xs=ns.map V.int:=by
 cases h with
 | nil=>cases e;rfl
 | @cons x xs d ds h r=>
  cases d with
  | int n=>
   cases q:intsOf ds with
   | none=>unfold intsOf at e;rw [q] at e;cases e
   | some ms=>
    unfold intsOf at e;rw [q] at e;cases e;cases h;rw [Wv r q];rfl
  | _=>cases e
def bO{F H:Hp}(s:Same F H){xs:List V}{ds:List D}{ks:List (List Int)}(h:Rps K mg F xs ds)(e:keysOf ds=some ks):Xn K H xs ks:=by
 cases h with
 | nil=>intro i x h;simp at h
 | @cons x xs d ds h r=>
  cases d with
  | tup es=>
   cases q:intsOf es with
   | none=>unfold keysOf at e;rw [q] at e;cases e
   | some k=>
    cases q2:keysOf ds with
    | none=>unfold keysOf at e;rw [q,q2] at e;cases e
    | some kr=>
     unfold keysOf at e;rw [q,q2] at e;cases e;intro i x a;cases i with
     | zero=>
      cases a;cases h with
      | tup ht rt=>
       rw [Wv rt q] at ht;exact ⟨_,rfl,Ec s ht⟩
     | succ i=>exact bO s r q2 i x (by simpa using a)
  | _=>cases e
end
section
variable {p p1 q p2:Pos}
def kZ(hr:Room k X.A)(hgl:Gl X "len")(hml:X.mg "len"=none)(hgs:Gl X "set")(hms:X.mg "set"=none)(he:DE X E e te me)(h1:starEach [e] X.env=[(false,eval e X.env)]:=by rfl)(h2:starEach [Expr.Call (.Name "set" q) [e] [] p2] X.env=[(false,eval (.Call (.Name "set" q) [e] [] p2) X.env)]:=by rfl) :
  DE X E (.Call (.Name "len" p) [.Call (.Name "set" q) [e] [] p2] [] p1) (tCB Zo (Bg (tCB (rSet X.K) (Bg te tNil)) tNil)) (o1 Up me):=by
 refine ⟨ZW lX hgl hml T9 (Dy (WT (xQ hr) hgs hms jq (Dy he.p GK h1) (by decide) (by decide) h1 rfl) GK h2) (by decide) (by decide) h2 rfl,?_⟩;intro m j F H Y Z n;refine (he.s m j F H Y Z n).bind λb c x h d g=>?_;cases h with
 | lst ds=>
  cases g with
  | lst hl rl=>
   rename_i l xs;show Ans X.mg E (Rp X.K X.mg) b c (match keysOf ds with | some ks=>if ds.length<=4 then .ok (.int ((firsts (λi=>ks.getD i []) ds.length).length:Nat)) else .bad | none=>.bad) _
   cases hk:keysOf ds with
   | none=>trivial
   | some ks=>
    by_cases h16:ds.length<=4
    .show Ans X.mg E (Rp X.K X.mg) b c (if ds.length<=4 then .ok (.int ((firsts (λi=>ks.getD i []) ds.length).length:Nat)) else .bad) _
     rw [iP h16];intro Q q;refine ⟨_,_,ks,rfl,d.s.seq hl,bO d.s rl hk,by rw [rl.length];exact h16,λa o r f=>⟨a,o,_,rfl,An,f,?_⟩⟩;rw [rl.length];exact q _ _ _ (.new d.s r _) (.int _)
    .show Ans X.mg E (Rp X.K X.mg) b c (if ds.length<=4 then .ok (.int ((firsts (λi=>ks.getD i []) ds.length).length:Nat)) else .bad) _
     rw [iN h16];trivial
 | _=>trivial
end
end L2.Ds
namespace Dl
def Oa(ix:List (Option Nat))(zs:List D):List D:=ix.map λo=>match o with
 | some i=>zs.getD i .non
 | none=>.non
def onK(f:List D->Res D)(ix:List (Option Nat))(a k:MA):ME:=λZ=>(a Z).bind λb=>(k Z).bind λc=>f (b++Oa ix c)
end Dl
namespace L2
structure FunD(K:W.Frag)(x qual:Str)(st:Stmt)(dV:Value)(f:Addr)(fd:FuncData):Prop where
 ex:∃(oc:Value) (od:Option Addr) (kV doc pm:Value) (an:Option Addr) (cdv ct:Value) (osl:Array (Option Value)),
  fd=W.fnOf x qual (Gz st) (Dv st) (Ax st) dV kV doc pm an cdv ct/\K.lookup f=some ⟨oc,od,.func fd,osl⟩/\W.codeIn K cdv qual=true
def Mf(ix:List (Option Nat))(ws:List Value):List Value:=ix.map λo=>match o with
 | some i=>ws.getD i .none
 | none=>.none
def Ja(ix:List (Option Nat))(zs:List V):List V:=ix.map λo=>match o with
 | some i=>zs.getD i .non
 | none=>.non
def dR:∀{zs:List V} {ws:List Value},Vals zs ws->∀i,RelV (zs.getD i .non) (ws.getD i .none)
 | _,_,.nil,i=>by simp;rfl
 | _,_,.cons h _,0=>h
 | _,_,.cons _ t,i+1=>by simpa using dR t i
def Ux(r:Vals zs ws):∀ix,Vals (Ja ix zs) (Mf ix ws)
 | []=>.nil
 | some i::rest=>.cons (dR r i) (Ux r rest)
 | none::rest=>.cons rfl (Ux r rest)
def DfB(K:W.Frag)(fd:FuncData)(ps ks:List Str)(ix:List (Option Nat)):Prop:=∀s a b,K.In s.heap->(a++Mf ix b).length=ps.length->BindsTo s fd ⟨a,ks.zip b⟩ (ps.zip (a++Mf ix b))
end L2
namespace L2.Ds
open Dl
section
variable {f:Addr} {dV:Value}
def Wq{F:Hp}:∀{zs:List V} {ds:List D},Rps K mg F zs ds->∀i,Rp K mg F (zs.getD i .non) (ds.getD i .non)
 | _,_,.nil,i=>by simp;exact .non
 | _,_,.cons h _,0=>h
 | _,_,.cons _ t,i+1=>by simpa using Wq t i
def TV{F:Hp}(r:Rps K mg F zs ds):∀ix,Rps K mg F (Ja ix zs) (Oa ix ds)
 | []=>.nil
 | some i::rest=>.cons (Wq r i) (TV r rest)
 | none::rest=>.cons .non (TV r rest)
def zO(ix)(zs):(Oa ix zs).length=ix.length:=Ad _
end
end L2.Ds
namespace Dl
abbrev MY:=Ev->List (List D)->Res (Fl×List (List D))
def lft(m:MS):MY:=λZ a=>(m Z).bind λf=>.ok (f,a)
def goY(n:MY):Fl×List (List D)->Res (Fl×List (List D))
 | (.nx Z,dss)=>n Z dss
 | p=>.ok p
def sqY(m n:MY):MY:=λZ a=>(m Z a).bind (goY n)
def ifY(t:MB)(m n:MY):MY:=λZ a=>(t Z).bind λb=>if b=true then m Z a else n Z a
def Ml(n:MY):Fl×List (List D)->Res (Fl×List (List D))
 | (.nx Z,dss)=>n Z dss
 | (.ct Z,dss)=>n Z dss
 | (.bk Z,dss)=>.ok (.nx Z,dss)
 | (.rt _,_)=>.bad
def DK(g:MG)(b:MY):List D->MY
 | [],Z,dss=>.ok (.nx Z,dss)
 | x::r,Z,dss=>(g x Z).bind λa=>(b a dss).bind (Ml (DK g b r))
def forY(it:MI)(g:MG)(b:MY):MY:=λZ a=>(it Z).bind λc=>DK g b c Z a
def optY(Z:Ev):Option (List (List D))->Res (Fl×List (List D))
 | some d=>.ok (.nx Z,d)
 | none=>.bad
def intY:D->Option Int
 | .int k=>some k
 | _=>none
def appR(dss:List (List D))(w:D)(k:Int):Option (List (List D)):=(ixP dss.length k).bind λr=>(dss[r]?).bind λa=>if a.length<10000 then some (dss.set r (a++[w])) else none
def appY(me mv:ME):MY:=λZ a=>(noEx (me Z)).bind λd=>(noEx (mv Z)).bind λw=>optY Z ((intY d).bind (appR a w))
def setR(dss:List (List D))(w:D)(u k:Int):Option (List (List D)):=(ixP dss.length u).bind λr=>(dss[r]?).bind λa=>(ixP a.length k).bind λc=>some (dss.set r (a.set c w))
def Il(mv ma mb:ME):MY:=λZ a=>(noEx (mv Z)).bind λw=>(noEx (ma Z)).bind λb=>(noEx (mb Z)).bind λc=>optY Z ((intY b).bind λu=>(intY c).bind λk=>setR a w u k)
def setO(i:Nat)(mv mb:ME):MS:=λZ=>(getO Z[i]?).bind λa=>(noEx (mv Z)).bind λw=>(noEx (mb Z)).bind λb=>match (intY b).bind λk=>ixP a.length k with
 | some c=>.ok (.nx (Z.set i (.ow (a.set c w))))
 | none=>.bad
def noLD(d:D):Res D:=if noL d=true then .ok d else .bad
def pkN(i:Nat)(m:ME):ME:=λZ=>(getO Z[i]?).bind λa=>(noEx (m (Z.set i (.im (.lst a))))).bind noLD
def mixO(J:List Nat):Nat->Ev->Ev->Ev
 | k,.ow _::r,c::r'=>(if J.contains k=true then c else .no)::mixO J (k+1) r r'
 | k,.no::r,_::r'=>.no::mixO J (k+1) r r'
 | k,.im d::r,_::r'=>.im d::mixO J (k+1) r r'
 | _,[],_=>[]
 | _,_::_,[]=>[]
abbrev FY:=Ev->List (List D)->Res (Ev×List (List D))
def endY(J:List Nat)(Z:Ev):Fl×List (List D)->Res (Ev×List (List D))
 | (.nx Z',dss)=>if Z.length<=Z'.length then .ok (mixO J 0 Z Z',dss) else .bad
 | _=>.bad
def fnY(n:Nat)(J:List Nat)(k:MY):FY:=λZ a=>(k (Z++List.replicate (n - Z.length) .no) a).bind (endY J Z)
abbrev MR:=Ev->Res Ev
def rNil:MR:=λ_=>.ok []
def rIm(m:ME)(r:MR):MR:=λZ=>(noEx (m Z)).bind λd=>(r Z).bind λq=>.ok (.im d::q)
def rRg(r:MR):MR:=λZ=>(r Z).bind λq=>.ok (.no::q)
def rOw(l:Nat)(r:MR):MR:=λZ=>(getO Z[l]?).bind λa=>(r Z).bind λq=>.ok (.ow a::q)
def outY(Z:Ev)(l:Nat)(lc:Option Nat):Ev×List (List D)->Res (Fl×List (List D))
 | (q,dss)=>match lc with
  | none=>.ok (.nx Z,dss)
  | some k=>match q[k]? with
   | some c=>.ok (.nx (Z.set l c),dss)
   | none=>.bad
def Gd(f:FY)(l:Nat)(lc:Option Nat)(m:MR):MY:=λZ a=>(m Z).bind λq=>(noEx (f q a)).bind (outY Z l lc)
def retY(j:Nat):MY:=λZ a=>(getO Z[j]?).bind λb=>.ok (.rt (.tup [.lst (a.map .lst),.lst b]),a)
def Fj:List D->Option (List (List D))
 | []=>some []
 | .lst cs::r=>if noLs cs=true then (Fj r).bind λq=>some (cs::q) else none
 | _::_=>none
def fstY:Fl×List (List D)->Res Fl
 | (.rt d,_)=>.ok (.rt d)
 | _=>.bad
def regY(i:Nat)(me:ME)(k:MY):MS:=λZ=>(me Z).bind λd=>(lstO d).bind λa=>match Fj a with
 | some dss=>if i<Z.length then (noEx (k (Z.set i .no) dss)).bind fstY else .bad
 | none=>.bad
def rtD:Res Fl->Res D
 | .ok (.rt d)=>.ok d
 | .ok _=>.bad
 | .ex c=>.ex c
 | .bad=>.bad
def regT(i:Nat)(me:ME)(k:MY):ME:=λZ=>rtD (regY i me k Z)
def J8:D->Bool
 | .tup [.lst _,.lst bs]=>decide (bs.length<10000)
 | _=>false
def Jx(i:Nat)(e:ME)(t:MB)(k l:MS):MS:=λZ=>(e Z).bind λd=>if (J8 d&&decide (i<Z.length))=true then (t (Z.set i (.im d))).bind λb=>if b=true then Uu (k (Z.set i (.im d))) else l (Z.set i .no) else .bad
def popP(i j:Nat)(Z:Ev)(xs ys:List D)(c:Nat):Res Fl:=match ys[c]? with
 | some v=>if xs.length<10000 then .ok (.nx ((Z.set j (.ow (ys.eraseIdx c))).set i (.ow (xs++[v])))) else .bad
 | none=>.bad
def appP(i j:Nat)(me:ME):MS:=λZ=>(getO Z[i]?).bind λb=>(getO Z[j]?).bind λa=>(noEx (me Z)).bind λd=>match (intY d).bind λk=>if 0<=k/\k<a.length/\k<10000 then some k.toNat else none with
 | some c=>popP i j Z b a c
 | none=>.bad
def forP(i j:Nat)(k:MS):MS:=λZ=>(getO Z[i]?).bind λa=>(BP (gN j) k a (Z.set i .no)).bind (Ve i a)
end Dl
namespace L2.Ds
open Dl
structure Reg(K:W.Frag)(mg:Str->Option Value)(F H:Hp)(a:Addr)(rows:List Addr)(dss:List (List D)):Prop where
 ha:H a=some (.lst (rows.map .ref))
 fa:F a=none
 nd:rows.Nodup
 na:a∉rows
 len:rows.length=dss.length
 row:∀(k:Nat) (r:Addr) (ds:List D),rows[k]?=some r->dss[k]?=some ds->F r=none/\∃ys,H r=some (.lst ys)/\Rps K mg F ys ds
def Off(Y:St)(Z:Ev)(a:Addr)(rows:List Addr):Prop:=∀(j:Nat) (ds:List D) (b:Addr),Z[j]?=some (.ow ds)->Y[j]?=some (some (.ref b))->b≠a/\b∉rows
section
variable {F:Hp} {Y':St} {Z':Ev} {a:Addr} {rows:List Addr} {dss:List (List D)}
def RQ{r:Res α}(h:r.bind f=.ok b):∃a,r=.ok a/\f a=.ok b:=by
 cases r with
 | ok a=>exact ⟨a,rfl,h⟩
 | ex c=>cases h
 | bad=>cases h
def Reg.gr(R:Reg K mg F H a rows dss)(g:Gr F H F' H'):Reg K mg F' H' a rows dss:=by
 obtain ⟨m,h⟩:=g.o a _ R.fa R.ha;refine ⟨h,m,R.nd,R.na,R.len,λk r i n e=>?_⟩;obtain ⟨b,l,p,c⟩:=R.row k r i n e;obtain ⟨d,j⟩:=g.o r _ b p;exact ⟨d,l,j,c.same g.f⟩
open Classical in
def Dn(Y:St)(Z:Ev)(H:Hp):Hp:=λb=>if ∃(j:Nat) (ds:List D),Z[j]?=some (.ow ds)/\Y[j]?=some (some (.ref b)) then none else H b
def fL(e1:Z[j]?=some (.ow ds))(e2:Y[j]?=some (some (.ref b))):Dn Y Z H b=none:=by
 unfold Dn;rw [iP ⟨j,ds,e1,e2⟩]
def JM(h:H b=some o)(n:∀(j:Nat) (ds:List D),Z[j]?=some (.ow ds)->Y[j]?≠some (some (.ref b))):Dn Y Z H b=some o:=by
 unfold Dn;rw [iN λ⟨j,ds,c,a⟩=>n j ds c a];exact h
def uW(h:Dn Y Z H b=some o):H b=some o:=by
 unfold Dn at h;split at h
 .cases h
 .exact h
def Rep.rebase(r:Rep K mg F0 H0 F H Y Z):Rep K mg F (Dn Y Z H) F H Y Z:=by
 refine ⟨⟨Same.refl _,r.g.s,λb o f h=>⟨f,uW h⟩,λ_ _ _ h=>h⟩,r.len,r.im,λi d e=>?_,r.ne⟩;obtain ⟨b,c,a,_,f,h,q⟩:=r.ow i d e;exact ⟨b,c,a,fL e a,f,h,q⟩
def Rep.back(r:Rep K mg F0 H0 F H Y Z)(q:Rep K mg F (Dn Y Z H) F' H' Y' Z'):Rep K mg F0 H0 F' H' Y' Z':=by
 have a:∀b o,F0 b=none->H0 b=some o->F b=none/\Dn Y Z H b=some o:=λb o f h=>by
  obtain ⟨m,d⟩:=r.g.o b o f h;refine ⟨m,JM d λj k x l=>?_⟩;obtain ⟨c,p,n,v,_⟩:=r.ow j k x;rw [l] at n;cases n;rw [h] at v;cases v
 refine ⟨⟨r.g.f.trans q.g.f,q.g.s,λb o f h=>?_,λb o u e=>r.g.z b o u (q.g.z b o u e)⟩,q.len,q.im,λi k e=>?_,q.ne⟩
 .obtain ⟨m,d⟩:=a b o f h;exact q.g.o b o m d
 .obtain ⟨b,p,l,t,f,h,w⟩:=q.ow i k e;refine ⟨b,p,l,?_,f,h,w⟩;cases z:H0 b with
  | none=>rfl
  | some o=>
   cases z0:F0 b with
   | none=>rw [(a b o z0 z).2] at t;cases t
   | some u=>rw [q.g.f b u (r.g.f b u z0)] at f;cases f
def Gr.back(r:Rep K mg F0 H0 F H Y Z)(q:Gr F (Dn Y Z H) F' H'):Gr F0 H0 F' H':=by
 refine ⟨r.g.f.trans q.f,q.s,λb o f h=>?_,λb o u e=>r.g.z b o u (q.z b o u e)⟩;obtain ⟨m,i⟩:=r.g.o b o f h;refine q.o b o m (JM i λj l n k=>?_);obtain ⟨c,p,a,d,_⟩:=r.ow j l n;rw [k] at a;cases a;rw [h] at d;cases d
def Reg.off(R:Reg K mg F H a rows dss)(o:Off Y Z a rows)(g:Gr F (Dn Y Z H) F' H'):Reg K mg F' H' a rows dss:=by
 obtain ⟨t,p⟩:=g.o a _ R.fa (JM R.ha λj d b c=>(o j d a b c).1 rfl);refine ⟨p,t,R.nd,R.na,R.len,λk r d b c=>?_⟩;obtain ⟨e,s,u,l⟩:=R.row k r d b c;obtain ⟨m,q⟩:=g.o r _ e (JM u λj h n i=>(o j h r n i).2 (GF b));exact ⟨m,s,q,l.same g.f⟩
def Off.next(R:Reg K mg F H a rows dss)(o:Off Y Z a rows)(q:Rep K mg F (Dn Y Z H) F' H' Y' Z'):Off Y' Z' a rows:=by
 intro j g b e h;obtain ⟨c,u,i,f,_⟩:=q.ow j g e;rw [h] at i;cases i;refine ⟨λz=>?_,λz=>?_⟩
 .rw [z,JM R.ha λj g e h=>(o j g a e h).1 rfl] at f;cases f
 .obtain ⟨k,l,s⟩:=List.getElem_of_mem z;have e:rows[k]?=some b:=by rw [Aw l,s]
  obtain ⟨d,m⟩ : ∃d,dss[k]?=some d:=⟨_,Aw (by rw [<-R.len];exact l)⟩;obtain ⟨_,v,n,_⟩:=R.row k b d e m;rw [JM n λj p t r=>(o j p b t r).2 z] at f;cases f
end
structure At(K:W.Frag)(mg:Str->Option Value)(i:Nat)(H0 F H:Hp)(Y:St)(Z:Ev)(a:Addr)(rows:List Addr)(dss:List (List D)):Prop where
 R:Reg K mg F H a rows dss
 o:Off Y Z a rows
 s:Y[i]?=some (some (.ref a))
 h0:H0 a=none/\∀r∈rows,H0 r=none
def agr(J:List Nat)(Y Y':St):Prop:=∀j∈J,Y'[j]?=Y[j]?
def agr.refl:agr J Y Y:=λ_ _=>rfl
def agr.trans(h:agr J Y Y1)(h2:agr J Y1 Y2):agr J Y Y2:=λj m=>(h2 j m).trans (h j m)
def agr.set{x:Option V}(h:j∉J):agr J Y (Y.set j x):=λk m=>Cq λe=>h (e▸m)
def EndY(K:W.Frag)(mg:Str->Option Value)(i:Nat)(J:List Nat)(F0 H0 F:Hp)(Y:St)(a:Addr)(rows:List Addr)(dss:List (List D))(D:Ends):Fl->Prop
 | .nx Z=>∀c b e,Same F c->Rep K mg F0 H0 c b e Z->At K mg i H0 c b e Z a rows dss->agr J Y e->D.nx e b
 | .ct Z=>∀c b e,Same F c->Rep K mg F0 H0 c b e Z->At K mg i H0 c b e Z a rows dss->agr J Y e->D.ct e b
 | .bk Z=>∀c b e,Same F c->Rep K mg F0 H0 c b e Z->At K mg i H0 c b e Z a rows dss->agr J Y e->D.bk e b
 | .rt d=>∀c b x,Gr F0 H0 c b->TwoR K mg F0 c x d->D.rt x b
def AnsY(K:W.Frag)(mg:Str->Option Value)(i:Nat)(J:List Nat)(F0 H0 F:Hp)(Y:St)(a:Addr)(rows:List Addr)(r:Res (Fl×List (List D)))(w:Ends->Prop):Prop :=
 match r with
 | .ok (f,dss)=>∀D,EndY K mg i J F0 H0 F Y a rows dss D f->w D
 | _=>True
def SY(K:W.Frag)(mg:Str->Option Value)(i:Nat)(J:List Nat)(t:TS)(m:MY):Prop:=∀e d F H Y Z a b c,Rep K mg e d F H Y Z->At K mg i d F H Y Z a b c->AnsY K mg i J e d F Y a b (m Z c) λD=>t D Y H
def agD(J:List Nat)(Y:St)(D:Ends):Ends:=⟨λa b=>agr J Y a->D.nx a b,λ_ _=>True,λa b=>agr J Y a->D.bk a b,λa b=>agr J Y a->D.ct a b⟩
def Kpt(J:List Nat)(t:TS):Prop:=∀D Y H,t (agD J Y D) Y H->t D Y H
def uq:Kpt J (CG te):=λD Y H h=>by
 have e:(λ(_:V) a=>(agD J Y D).nx Y a)=λ_ a=>D.nx Y a:=by funext _ a;exact propext ⟨λh=>h agr.refl,λh _=>h⟩
 unfold CG at h ⊢;rw [e] at h;exact h
def gG(hj:j∉J):Kpt J (tAsg te (Bt j)):=λD Y H h=>by
 have e:(λ(x:V) a=>Bt j x Y a (agD J Y D).nx)=λx a=>Bt j x Y a D.nx:=by funext x a;exact propext ⟨λh=>h (agr.set hj),λh _=>h⟩
 unfold tAsg at h ⊢;rw [e] at h;exact h
def Zp8:Kpt J (tAsg te (gSub to ti ts)):=λD Y H h=>by
 have e:(λa=>(agD J Y D).nx Y a)=λa=>D.nx Y a:=by funext a;exact propext ⟨λh=>h agr.refl,λh _=>h⟩
 unfold tAsg gSub at h ⊢;rw [e] at h;exact h
def tZ:Kpt J Kg:=λD Y H h=>h agr.refl
def Zo7:Kpt J Gi:=λD Y H h=>h agr.refl
section
variable {J:List Nat}
def Lp(h:SS K mg E t m)(kp:Kpt J t)(hi:i∈J):SY K mg i J t (lft m):=by
 intro B y F H Y Z a p v z A;have q:=h F (Dn Y Z H) F H Y Z z.rebase;unfold lft;cases em:m Z with
 | bad=>trivial
 | ex c=>trivial
 | ok f=>
  rw [em] at q;have b:∀{l k:Hp} {n:St} {u:Ev},Rep K mg F (Dn Y Z H) l k n u->agr J Y n->Rep K mg B y l k n u/\At K mg i y l k n u a p v:=λ{l k n u} j e=>⟨z.back j,A.R.off A.o j.g,A.o.next A.R j,(e i hi).trans A.s,A.h0⟩;cases f with
  | nx Z2=>exact λD w=>kp D Y H (q _ λl k n r j e=>w l k n r (b j e).1 (b j e).2 e)
  | ct Z2=>exact λD w=>kp D Y H (q _ λl k n r j e=>w l k n r (b j e).1 (b j e).2 e)
  | bk Z2=>exact λD w=>kp D Y H (q _ λl k n r j e=>w l k n r (b j e).1 (b j e).2 e)
  | rt d=>exact λD w=>kp D Y H (q _ λl k x g C=>trivial)
def EndY.mono{F F1:Hp}{Y1:St}{a:Addr}{rows:List Addr}{dss:List (List D)}{D:Ends}{f:Fl}(s:Same F F1)(g:agr J Y Y1)(h:EndY K mg i J F0 H0 F Y a rows dss D f):EndY K mg i J F0 H0 F1 Y1 a rows dss D f:=by
 cases f with
 | nx Z=>exact λc b e j r A k=>h c b e (s.trans j) r A (g.trans k)
 | ct Z=>exact λc b e j r A k=>h c b e (s.trans j) r A (g.trans k)
 | bk Z=>exact λc b e j r A k=>h c b e (s.trans j) r A (g.trans k)
 | rt d=>exact h
def zY{n:MY}(h1:SY K mg i J t m)(h2:SY K mg i J u n):SY K mg i J (tSeq t u) (sqY m n):=by
 intro y x F H Y Z a b j B A;have h:=h1 y x F H Y Z a b j B A;unfold sqY;cases e:m Z j with
 | bad=>trivial
 | ex c=>trivial
 | ok p=>
  obtain ⟨f,o⟩:=p;rw [e] at h;cases f with
  | nx Z'=>
   show AnsY K mg i J y x F Y a b (n Z' o) _;have g:=λr w v l k=>h2 y x r w v Z' a b o l k;cases e2:n Z' o with
   | bad=>trivial
   | ex c=>trivial
   | ok p2=>
    obtain ⟨C,E⟩:=p2;rw [e2] at g;exact λD q=>h { D with nx:=u D } λr w v s l k z=>g r w v l k D (q.mono s z)
  | ct Z'=>exact λD q=>h { D with nx:=u D } q
  | bk Z'=>exact λD q=>h { D with nx:=u D } q
  | rt d=>exact λD q=>h { D with nx:=u D } q
def mQ{n:MY}(hc:STt K mg E sc nc)(h1:SY K mg i J t m)(h2:SY K mg i J u n):SY K mg i J (tIfS sc t u) (ifY nc m n):=by
 intro v r F H Y Z a k d B A;have h:=hc v r F H Y Z B;unfold ifY;cases e:nc Z with
 | bad=>trivial
 | ex c=>trivial
 | ok b=>
  rw [e] at h;show AnsY K mg i J v r F Y a k (if b=true then m Z d else n Z d) _
  have y:∀{t:TS} {m:MY},SY K mg i J t m->AnsY K mg i J v r F Y a k (m Z d) λD=>∀l j,Gr F H l j->t D Y j:=by
   intro t m C;have z:=λl j (g:Gr F H l j)=>C v r l j Y Z a k d (B.gr g) ⟨A.R.gr g,A.o,A.s,A.h0⟩;cases e2:m Z d with
   | bad=>trivial
   | ex c=>trivial
   | ok p=>
    obtain ⟨f,G⟩:=p;rw [e2] at z;exact λD q l j g=>z l j g D (q.mono g.f agr.refl)
  cases b with
  | true=>
   rw [iP rfl];have z:=y h1;cases e2:m Z d with
   | bad=>trivial
   | ex c=>trivial
   | ok p=>
    rw [e2] at z;exact λD q=>h _ λl j x g w=>by cases (show x=true from w);rw [iP rfl];exact z D q l j g
  | false=>
   rw [iN DX];have z:=y h2;cases e2:n Z d with
   | bad=>trivial
   | ex c=>trivial
   | ok p=>
    rw [e2] at z;exact λD q=>h _ λl j x g w=>by cases (show x=false from w);rw [iN DX];exact z D q l j g
def KpG(J:List Nat)(t:TG):Prop:=∀x d Y H P b,agr J d Y->(∀a c,agr J d a->P a c->b a c)->t x Y H P->t x Y H b
def KpGs(J:List Nat)(t:TGs):Prop:=∀x d Y H P b,agr J d Y->(∀a c,agr J d a->P a c->b a c)->t x Y H P->t x Y H b
def JF(hj:j∉J):KpG J (Bt j):=λ_ _ _ _ _ _ a w h=>w _ _ (a.trans (agr.set hj)) h
def U7:KpGs J gNil:=λ_ _ _ _ _ _ a w h=>⟨h.1,w _ _ a h.2⟩
def Js(h1:KpG J t)(h2:KpGs J u):KpGs J (RN t u):=λx b Y H P d a w h=>by
 obtain ⟨v,r,e,z⟩:=h;exact ⟨v,r,e,h1 v b Y H _ _ a (λg f c q=>h2 r b g f P d c w q) z⟩
def Uh(h1:KpGs J t):KpG J (gSeq K n t):=λx d Y H P c a w h=>by
 rcases h with ⟨b,xs,e1,e2,e3,z⟩ | ⟨b,xs,e1,e2,e3,z⟩
 .exact .inl ⟨b,xs,e1,e2,e3,h1 xs d Y H P c a w z⟩
 .exact .inr ⟨b,xs,e1,e2,e3,h1 xs d Y H P c a w z⟩
def sH(hi:SI K mg E wi mi)(hg:SG K mg n t g)(kg:KpG J t)(hJ:i∈J)(hb:SY K mg i J u m):SY K mg i J (tFor wi t u) (forY mi g m):=by
 intro F0 I F H Y Z a j Q rr A;have h:=hi F0 I F H Y Z rr;unfold forY;cases e:mi Z with
 | bad=>trivial
 | ex c=>trivial
 | ok ds=>
  rw [e] at h;show AnsY K mg i J F0 I F Y a j (DK g m ds Z Q) _;cases e1:DK g m ds Z Q with
  | bad=>trivial
  | ex c=>trivial
  | ok p=>
   obtain ⟨f,d2⟩:=p;have fnx:∀{l:List D} {v:Ev} {b:List (List D)},DK g m l v b=.ok (f,d2)->∃B,f=.nx B:=by
    intro l
    induction l with
    | nil=>intro v b e;cases e;exact ⟨_,rfl⟩
    | cons x l ih=>
     intro v b e;unfold DK at e;obtain ⟨Z1,_,e⟩:=RQ e;obtain ⟨⟨f3,d3⟩,_,e⟩:=RQ e;cases f3 with
     | nx _=>exact ih e
     | ct _=>exact ih e
     | bk _=>cases e;exact ⟨_,rfl⟩
     | rt _=>cases e
   obtain ⟨M,rfl⟩:=fnx e1;intro D q;refine h _ λF1 H1 jt g1 jo=>?_;refine ⟨λk n w T=>n=ds.length - k/\k<=ds.length/\agr J Y w/\∃v P b,Same F1 P/\Rep K mg F0 I P T w v/\At K mg i I P T w v a j b/\DK g m (ds.drop k) v b=.ok (.nx M,d2),⟨ds.length,by simp,DQ _,agr.refl,Z,F1,Q,Same.refl _,rr.gr g1,⟨A.R.gr g1,A.o,A.s,A.h0⟩,by simpa using e1⟩,?_⟩;rintro k n w T ⟨rfl,hk,ag,v,P,b,s1,r',V,r⟩;by_cases hlt:k<ds.length
   .refine .inr ?_;have hd:ds[k]?=some ds[k]:=Aw hlt;obtain ⟨go,yl⟩:=(jo P T s1 r'.ss k).1 _ hd;rw [Hs hlt] at r;refine ⟨go,λY2 C=>agr J Y Y2/\∃B G ds2,Same F1 G/\Rep K mg F0 I G C Y2 B/\At K mg i I G C Y2 B a j ds2/\DK g m (ds.drop (k+1)) B ds2=.ok (.nx M,d2),λY2 C z=>⟨ds.length - (k+1),by omega,rfl,hlt,z⟩,λx C y=>?_⟩;obtain ⟨G,g2,rx⟩:=yl x C y;have r2:=r'.gr g2;have S:At K mg i I G C w v a j b:=⟨V.R.gr g2,V.o,V.s,V.h0⟩;unfold DK at r;obtain ⟨Z1,eg,r⟩:=RQ r;have hG:=hg G (Dn w v C) G C w v x ds[k] r2.rebase rx;rw [eg] at hG;have hG2:t x w C _:=hG (λY3 U=>∃L,Same G L/\Rep K mg G (Dn w v C) L U Y3 Z1) λL U Y3 s3 r3 _=>⟨L,s3,r3⟩;refine kg x w w C _ _ agr.refl (λY3 U a3 zq=>?_) hG2;obtain ⟨L,s3,r3⟩:=zq;have O:=r2.back r3;have N:At K mg i I L U Y3 Z1 a j b:=⟨S.R.off S.o r3.g,S.o.next S.R r3,(a3 i hJ).trans S.s,S.h0⟩;have hB:=hb F0 I L U Y3 Z1 a j b O N;have sF:Same F1 L:=(s1.trans g2.f).trans s3;have a4:=ag.trans a3;cases em:m Z1 b with
    | bad=>rw [em] at r;cases r
    | ex c=>rw [em] at r;cases r
    | ok p3=>
     obtain ⟨f3,d3⟩:=p3;rw [em] at r hB;cases f3 with
     | nx B=>exact hB _ λW H4 Y4 s4 O N X=>⟨a4.trans X,B,W,d3,sF.trans s4,O,N,r⟩
     | ct B=>exact hB _ λW H4 Y4 s4 O N X=>⟨a4.trans X,B,W,d3,sF.trans s4,O,N,r⟩
     | bk B=>
      have e3:Res.ok (Fl.nx B,d3)=.ok (.nx M,d2):=r;cases e3;exact hB _ λW H4 Y4 s4 O N X=>q W H4 Y4 (g1.f.trans (sF.trans s4)) O N (a4.trans X)
     | rt d=>cases r
   .have hk2:k=ds.length:=by omega
    subst hk2;rw [Jh (Am _)] at r;cases r;exact .inl ⟨(jo P T s1 r'.ss _).2 (Am _),q P T w (g1.f.trans s1) r' V ag⟩
end
section
variable {J:List Nat} {F:Hp} {a:Addr} {rows:List Addr} {dss:List (List D)}
def Mv:∀{l:List Addr} {j k:Nat},l.Nodup->(hj:j<l.length)->(hk:k<l.length)->l[j]=l[k]->j=k
 | _::_,0,0,_,_,_,_=>rfl
 | x::l,0,k+1,n,_,hk,e=>aB (show x∈l from by
   have e:x=l[k]'(by simpa using hk):=e
   rw [e];exact Iv _) (Hk.mp n).1
 | x::l,j+1,0,n,hj,_,e=>aB (show x∈l from by
   have e:l[j]'(by simpa using hj)=x:=e
   rw [<-e];exact Iv _) (Hk.mp n).1
 | x::l,j+1,k+1,n,hj,hk,e=>Bw (·+1) (Mv (Hk.mp n).2 (by simpa using hj) (by simpa using hk) e)
def Rep.pokeY(r:Rep K mg F0 H0 F H Y Z)(h0:H0 q=none)(f:F q=none)(n:∀(j:Nat) (ds:List D),Z[j]?=some (.ow ds)->Y[j]?≠some (some (.ref q))):Rep K mg F0 H0 F (upd H q o) Y Z:=by
 refine ⟨⟨r.g.f,λc u e=>?_,λc u w a=>?_,r.g.z⟩,r.len,r.im,λk ds e=>?_,r.ne⟩
 .rw [Ag (Ay e f)];exact r.g.s c u e
 .obtain ⟨v,h⟩:=r.g.o c u w a;exact ⟨v,by rw [Ag (Ay a h0)];exact h⟩
 .obtain ⟨b,i,a,m,d,p,t⟩:=r.ow k ds e
  exact ⟨b,i,a,m,d,by
   have l:b≠q:=by
    rintro rfl;exact n k ds e a
   rw [Ag l];exact p,t⟩
def At.poke(A:At K mg i H0 F H Y Z a rows dss)(e:rows[k]?=some q)(r:Rps K mg F ys cs):At K mg i H0 F (upd H q (.lst ys)) Y Z a rows (dss.set k cs):=by
 have j:q∈rows:=GF e;have d:k<rows.length:=(Cd.mp e).1;have f:a≠q:=λz=>A.R.na (z▸j);refine ⟨⟨by rw [Ag f];exact A.R.ha,A.R.fa,A.R.nd,A.R.na,by rw [De];exact A.R.len,λm p n b l=>?_⟩,A.o,A.s,A.h0⟩;rcases Av l with ⟨rfl,rfl,_⟩ | ⟨ne,e3⟩
 .rw [e] at b;cases b;obtain ⟨c,_⟩:=A.R.row k q _ e (Aw (by rw [<-A.R.len];exact d));exact ⟨c,ys,An,r⟩
 .obtain ⟨c,u,t,h⟩:=A.R.row m p n b e3;refine ⟨c,u,?_,h⟩;rw [Ag]
  .exact t
  .rintro rfl;have g:m<rows.length:=(Cd.mp b).1;rw [Aw d] at e;rw [Aw g] at b;exact ne (Mv A.R.nd d g ((Br e).trans (Br b).symm))
def At.pokeR{q:Addr}{o:HO}(A:At K mg i H0 F H Y Z a rows dss)(rr:Rep K mg F0 H0 F H Y Z)(e:rows[k]?=some q):Rep K mg F0 H0 F (upd H q o) Y Z:=by
 have b:q∈rows:=GF e;have c:k<rows.length:=(Cd.mp e).1;exact rr.pokeY (A.h0.2 q b) (A.R.row k q _ e (Aw (by rw [<-A.R.len];exact c))).1 λj g f d=>(A.o j g q f d).2 b
def At.gr(A:At K mg i H0 F H Y Z a rows dss)(g:Gr F H F' H'):At K mg i H0 F' H' Y Z a rows dss:=⟨A.R.gr g,A.o,A.s,A.h0⟩
def Rps.set{x:V}(h:Rp K mg F x d):∀{xs:List V} {ds:List D} (c:Nat),Rps K mg F xs ds->Rps K mg F (xs.set c x) (ds.set c d)
 | _,_,_,.nil=>.nil
 | _,_,0,.cons _ r=>.cons h r
 | _,_,c+1,.cons q r=>.cons q (Rps.set h c r)
def At.at{n:Int}(A:At K mg i H0 F H Y Z a rows dss)(e:ixP dss.length n=some r)(e2:dss[r]?=some cs):∃q ys,rows[r]?=some q/\atI (rows.map V.ref) n=some (.ref q)/\H q=some (.lst ys)/\F q=none/\Rps K mg F ys cs:=by
 have b:r<rows.length:=by rw [A.R.len];exact (Cd.mp e2).1
 obtain ⟨f,ys,h,c⟩:=A.R.row r _ cs (Aw b) e2;refine ⟨rows[r],ys,Aw b,?_,h,f,c⟩;show (ixN (rows.map V.ref).length n).bind _=_;rw [Ad,A.R.len,show ixN dss.length n=some r from e];show (rows.map V.ref)[r]?=_;rw [Ca,Aw b];rfl
def iW(he:SE K mg E te me)(hv:SE K mg E tv mv):SY K mg i J (CG (tBM K "list" FZ (tOp (rIxD K) (tVar i) te) (Bg tv tNil))) (appY me mv):=by
 intro m l F H Y Z a h e y A;have G:=he m l F H Y Z y;unfold appY;cases e1:me Z with
 | bad=>trivial
 | ex c=>trivial
 | ok d=>
 rw [e1] at G;have O:=λB u P=>hv m l B u Y Z P;show AnsY K mg i J m l F Y a h ((noEx (mv Z)).bind λw=>optY Z ((intY d).bind (appR e w))) _;cases e2:mv Z with
 | bad=>trivial
 | ex c=>trivial
 | ok w=>
 rw [e2] at O;show AnsY K mg i J m l F Y a h (optY Z ((intY d).bind (appR e w))) _;cases g:(intY d).bind (appR e w) with
 | none=>trivial
 | some ds'=>
 cases d with
 | int n=>
  have g:appR e w n=some ds':=g;unfold appR at g;cases e4:ixP e.length n with
  | none=>rw [e4] at g;cases g
  | some r=>
  rw [e4] at g;have g:(e[r]?).bind (λj=>if j.length<10000 then some (e.set r (j++[w])) else none)=some ds':=g
  cases e5:e[r]? with
  | none=>rw [e5] at g;cases g
  | some j=>
  rw [e5] at g;have g:(if j.length<10000 then some (e.set r (j++[w])) else none)=some ds':=g
  by_cases hl:j.length<10000
  case neg=>rw [iN hl] at g;cases g
  rw [iP hl] at g;cases g;intro D q;refine ⟨.ref a,A.s,G _ λB u x p Q=>?_⟩;cases Q;have t:=A.gr p;obtain ⟨b,L,M,V,I,S,N⟩:=t.at e4 e5;refine .inl ⟨a,_,n,.ref b,rfl,rfl,SqL.of t.R.ha,V,.inl ⟨rfl,L,SqL.of I⟩,O B u (y.gr p) _ λT X v k W=>?_⟩;have C:=t.gr k;obtain ⟨U,z⟩:=k.o b _ S I;refine ⟨b,L,v,rfl,rfl,z,Bv (by rw [N.length];exact hl) (by decide),?_⟩;exact q T _ Y (p.f.trans k.f) (C.pokeR ((y.gr p).gr k) M) (C.poke M (Rps.app (.cons W .nil) (N.same k.f))) agr.refl
 | _=>cases g
def lN(hv:SE K mg E tv mv)(ha:SE K mg E ta ma)(hb:SE K mg E tb mb):SY K mg i J (tAsg tv (gSub (tOp (rIxD K) (tVar i) ta) tb GZ)) (Il mv ma mb):=by
 intro m t F H Y Z a g d I A;have T:=hv m t F H Y Z I;unfold Il;cases e1:mv Z with
 | bad=>trivial
 | ex c=>trivial
 | ok w=>
 rw [e1] at T;have S:=λC B L=>ha m t C B Y Z L;show AnsY K mg i J m t F Y a g ((noEx (ma Z)).bind λl=>(noEx (mb Z)).bind λj=>optY Z ((intY l).bind λu=>(intY j).bind λk=>setR d w u k)) _;cases e2:ma Z with
 | bad=>trivial
 | ex c=>trivial
 | ok l=>
 rw [e2] at S;have U:=λC B L=>hb m t C B Y Z L;show AnsY K mg i J m t F Y a g ((noEx (mb Z)).bind λj=>optY Z ((intY l).bind λu=>(intY j).bind λk=>setR d w u k)) _;cases e3:mb Z with
 | bad=>trivial
 | ex c=>trivial
 | ok j=>
 rw [e3] at U;show AnsY K mg i J m t F Y a g (optY Z ((intY l).bind λu=>(intY j).bind λk=>setR d w u k)) _;cases e:(intY l).bind λu=>(intY j).bind λk=>setR d w u k with
 | none=>trivial
 | some ds'=>
 cases l with
 | int n=>
  cases j with
  | int k=>
   have e:setR d w n k=some ds':=e;unfold setR at e;cases e5:ixP d.length n with
   | none=>rw [e5] at e;cases e
   | some r=>
   rw [e5] at e;have e:(d[r]?).bind (λh=>(ixP h.length k).bind λc=>some (d.set r (h.set c w)))=some ds':=e;cases e6:d[r]? with
   | none=>rw [e6] at e;cases e
   | some h=>
   rw [e6] at e;have e:(ixP h.length k).bind (λc=>some (d.set r (h.set c w)))=some ds':=e;cases e7:ixP h.length k with
   | none=>rw [e7] at e;cases e
   | some c=>
   rw [e7] at e;have e:some (d.set r (h.set c w))=some ds':=e;cases e;intro D q;refine T _ λC B v G rv=>⟨.ref a,A.s,S C B (I.gr G) _ λF2 H2 x z rx=>?_⟩;cases rx;have M:=(A.gr G).gr z;obtain ⟨b,X,O,V,hb,fb,Q⟩:=M.at e5 e6;refine .inl ⟨a,_,n,.ref b,rfl,rfl,SqL.of M.R.ha,V,U F2 H2 ((I.gr G).gr z) _ λW H3 y p ry=>?_⟩;cases ry;have P:=M.gr p;obtain ⟨fb3,N⟩:=p.o b _ fb hb;refine ⟨b,X,k,c,rfl,rfl,N,by rw [Q.length];exact e7,?_⟩;exact q W _ Y (G.f.trans (z.f.trans p.f)) (P.pokeR (((I.gr G).gr z).gr p) O) (P.poke O (Rps.set (rv.same (z.f.trans p.f)) c (Q.same p.f))) agr.refl
  | _=>cases e
 | _=>cases e
end
section
variable {F:Hp} {Y':St} {Z2:Ev} {a:Addr} {rows:List Addr} {dss:List (List D)} {l:Nat} {J:List Nat}
def qM(i)(h:SE K mg E t m):SE K mg E t (pkN i m):=by
 intro x v F H Y Z p;unfold pkN getO;split
 .next j e=>
  obtain ⟨a,G,w,s,y,C,D⟩:=p.ow i j e;obtain ⟨r,g⟩:=p.lookA e w s y C D;have z:=h x v _ H Y _ r;show Ans mg E (Rp K mg) F H ((noEx (m (Z.set i (.im (.lst j))))).bind noLD) _;cases em:m (Z.set i (.im (.lst j))) with
  | ok d=>
   rw [em] at z;show Ans mg E (Rp K mg) F H (noLD d) _;unfold noLD;by_cases hd:noL d=true
   .rw [iP hd]
    exact λQ q=>z Q λB l b n A=>q _ l b (g B l n) (Wg (λc o k u=>by
     rw [FP]
     .exact k
     .rintro rfl;rw [n.f _ _ An] at k;cases k
      exact u _ rfl) A hd)
   .rw [iN hd];trivial
  | ex c=>trivial
  | bad=>trivial
 .trivial
def xj(hv:SE K mg E tv mv)(hb:SE K mg E tb mb):SS K mg E (tAsg tv (gSub (tVar i) tb GZ)) (setO i mv mb):=by
 intro g m F H Y Z n;unfold setO getO;split
 .next b e=>
  obtain ⟨a,B,t,C,J,L,v⟩:=n.ow i b e;have z:=hv g m F H Y Z n
  show AnsS K mg E g m F ((noEx (mv Z)).bind λw=>(noEx (mb Z)).bind λl=>match (intY l).bind λk=>ixP b.length k with
   | some c=>Res.ok (Fl.nx (Z.set i (.ow (b.set c w))))
   | none=>.bad) _
  cases q1:mv Z with
  | bad=>trivial
  | ex c=>trivial
  | ok w=>
  rw [q1] at z;have u:=λs p A=>hb g m s p Y Z A
  show AnsS K mg E g m F ((noEx (mb Z)).bind λl=>match (intY l).bind λk=>ixP b.length k with
   | some c=>Res.ok (Fl.nx (Z.set i (.ow (b.set c w))))
   | none=>.bad) _
  cases q2:mb Z with
  | bad=>trivial
  | ex c=>trivial
  | ok l=>
   rw [q2] at u;cases l with
   | int k=>
    show AnsS K mg E g m F (match ixP b.length k with
     | some c=>Res.ok (Fl.nx (Z.set i (.ow (b.set c w))))
     | none=>.bad) _
    cases q3:ixP b.length k with
    | none=>trivial
    | some c=>
     exact λD q=>z _ λs p x j G=>⟨.ref a,t,u s p (n.gr j) _ λN P y d I=>by
      cases I;obtain ⟨M,r⟩:=j.o a _ J L;obtain ⟨O,h⟩:=d.o a _ M r
      exact ⟨a,B,k,c,rfl,rfl,h,by rw [v.length];exact q3,q N _ Y (j.f.trans d.f) (((n.gr j).gr d).put e t h C O (Rps.set (G.same d.f) c (v.same (j.f.trans d.f))))⟩⟩
   | _=>trivial
 .trivial
inductive ArgY(K:W.Frag)(mg:Str->Option Value)(F:Hp)(Y:St)(Z:Ev)(i l:Nat):List Nat->List V->Ev->Prop
 | nil:ArgY K mg F Y Z i l [] [] []
 | im {sh:List Nat} {v:V} {vs:List V} {d:D} {q:Ev} (h:Rp K mg F v d) (r:ArgY K mg F Y Z i l sh vs q):ArgY K mg F Y Z i l (0::sh) (v::vs) (.im d::q)
 | rg {sh:List Nat} {v:V} {vs:List V} {q:Ev} (h:Y[i]?=some (some v)) (r:ArgY K mg F Y Z i l sh vs q):ArgY K mg F Y Z i l (1::sh) (v::vs) (.no::q)
 | ow {sh:List Nat} {v:V} {vs:List V} {ds:List D} {q:Ev} (h:Y[l]?=some (some v)) (e:Z[l]?=some (.ow ds)) (r:ArgY K mg F Y Z i l sh vs q):ArgY K mg F Y Z i l (2::sh) (v::vs) (.ow ds::q)
def ArgY.len{sh:List Nat}{vs:List V}{q:Ev}(h:ArgY K mg F Y Z i l sh vs q):vs.length=q.length/\sh.length=q.length:=by
 induction h with
 | nil=>exact ⟨rfl,rfl⟩
 | im _ _ r=>exact ⟨Bw (·+1) r.1,Bw (·+1) r.2⟩
 | rg _ _ r=>exact ⟨Bw (·+1) r.1,Bw (·+1) r.2⟩
 | ow _ _ _ r=>exact ⟨Bw (·+1) r.1,Bw (·+1) r.2⟩
def ArgY.get{sh:List Nat}{vs:List V}{q:Ev}{k:Nat}{c:Cl}(r:ArgY K mg F Y Z i l sh vs q)(e:q[k]?=some c):∃v,vs[k]?=some v/\((∃d,c=.im d/\Rp K mg F v d)\/(c=.no/\sh[k]?=some 1/\Y[i]?=some (some v))\/∃ds,c=.ow ds/\sh[k]?=some 2/\Y[l]?=some (some v)/\Z[l]?=some (.ow ds)):=by
 induction r generalizing k with
 | nil=>simp at e
 | im h _ r=>
  cases k with
  | zero=>cases e;exact ⟨_,rfl,.inl ⟨_,rfl,h⟩⟩
  | succ k=>exact r (k:=k) e
 | rg h _ r=>
  cases k with
  | zero=>cases e;exact ⟨_,rfl,.inr (.inl ⟨rfl,rfl,h⟩)⟩
  | succ k=>exact r (k:=k) e
 | ow h z _ r=>
  cases k with
  | zero=>cases e;exact ⟨_,rfl,.inr (.inr ⟨_,rfl,rfl,h,z⟩)⟩
  | succ k=>exact r (k:=k) e
def ArgY.rgAt{sh:List Nat}{vs:List V}(r:ArgY K mg F Y Z i l sh vs q)(e:sh[k]?=some 1):∃v,vs[k]?=some v/\Y[i]?=some (some v):=by
 induction r generalizing k with
 | nil=>cases e
 | im _ _ ih=>
  cases k with
  | zero=>cases e
  | succ k=>exact ih e
 | rg h _ ih=>
  cases k with
  | zero=>exact ⟨_,rfl,h⟩
  | succ k=>exact ih e
 | ow _ _ _ ih=>
  cases k with
  | zero=>cases e
  | succ k=>exact ih e
def ArgY.owAt{sh:List Nat}{vs:List V}(r:ArgY K mg F Y Z i l sh vs q)(e:sh[k]?=some 2):∃v ds,vs[k]?=some v/\Y[l]?=some (some v)/\Z[l]?=some (.ow ds):=by
 induction r generalizing k with
 | nil=>cases e
 | im _ _ ih=>
  cases k with
  | zero=>cases e
  | succ k=>exact ih e
 | rg _ _ ih=>
  cases k with
  | zero=>cases e
  | succ k=>exact ih e
 | ow h z _ ih=>
  cases k with
  | zero=>exact ⟨_,_,rfl,h,z⟩
  | succ k=>exact ih e
def SAy(K:W.Frag)(mg:Str->Option Value)(i l:Nat)(sh:List Nat)(t:TA)(m:MR):Prop:=∀d e F H Y Z v,Rep K mg d e F H Y Z->Y[i]?=some (some v)->match m Z with
 | .ok q=>∀Q,(∀a b c,Gr F H a b->ArgY K mg a Y Z i l sh c q->Q c b)->t Y H Q
 | _=>True
def rm:SAy K mg i l [] tNil rNil:=λb c F H Y Z v a _ Q q=>q F H [] (.refl a.ss) .nil
def oX(he:SE K mg E te me)(h:SAy K mg i l sh t m):SAy K mg i l (0::sh) (Bg te t) (rIm me m):=by
 intro n k F H Y Z v o A;have z:=he n k F H Y Z o;have j:=λa b p=>h n k a b Y Z v p A;unfold rIm;cases e1:me Z with
 | bad=>trivial
 | ex c=>trivial
 | ok d=>
 rw [e1] at z;cases e2:m Z with
 | bad=>trivial
 | ex c=>trivial
 | ok q=>
 rw [e2] at j;exact λQ w=>z _ λa b x g r=>j a b (o.gr g) _ λu s B e y=>w u s _ (g.trans e) (.im (r.same e.f) y)
def vG(h:SAy K mg i l sh t m):SAy K mg i l (1::sh) (Bg (tVar i) t) (rRg m):=by
 intro k n F H Y Z v d a;have b:=h k n F H Y Z v d a;unfold rRg;cases e2:m Z with
 | bad=>trivial
 | ex c=>trivial
 | ok q=>
 rw [e2] at b;exact λQ w=>⟨v,a,b _ λg f o e j=>w g f _ e (.rg a j)⟩
def vA(h:SAy K mg i l sh t m):SAy K mg i l (2::sh) (Bg (tVar l) t) (rOw l m):=by
 intro p j F H Y Z v f r;have a:=h p j F H Y Z v f r;unfold rOw;cases ec:Z[l]? with
 | none=>trivial
 | some c=>
 cases c with
 | no=>trivial
 | im d=>trivial
 | ow ds=>
 obtain ⟨b,s,e,_⟩:=f.ow l ds ec;cases e3:m Z with
 | bad=>trivial
 | ex c=>trivial
 | ok q=>
 rw [e3] at a;exact λQ w=>⟨.ref b,e,a _ λn k u g o=>w n k _ g (.ow e ec o)⟩
def spY(K:W.Frag)(mg:Str->Option Value)(n i:Nat)(f:FY):Sp:=λd H Q _=>d.length=n/\∃F g Z a c e,Rep K mg F g F H (d.map some) Z/\At K mg i g F H (d.map some) Z a c e /\
 ∃j b,f Z e=.ok (j,b)/\∀k h,Rep K mg F g k h (d.map some) j->At K mg i g k h (d.map some) j a c b->Q .non h
def Kw{vs:List V}{v:V}(e:vs[k]?=some v):(vs.map some)[k]?=some (some v):=by rw [Ca,e];rfl
def zN{sh:List Nat}(hs:SAy K mg i l sh t m)(hic:sh[ic]?=some 1)(hl1:∀k,sh[k]?=some 2->lc=some k)(hl2:∀k,lc=some k->sh[k]?=some 2)(hn:sh.length=n) :
  SY K mg i J (CG (Gv (spY K mg n ic f) [] E t)) (Gd f l lc m):=by
 intro F0 H0 F H Y Z a C dss rr A;have z:=hs F0 H0 F H Y Z _ rr A.s;unfold Gd;cases em:m Z with
 | bad=>trivial
 | ex c=>trivial
 | ok q=>
 rw [em] at z;show AnsY K mg i J F0 H0 F Y a C ((noEx (f q dss)).bind (outY Z l lc)) _;cases ef:f q dss with
 | bad=>trivial
 | ex c=>trivial
 | ok p=>
 obtain ⟨q',d'⟩:=p;show AnsY K mg i J F0 H0 F Y a C (outY Z l lc (q',d')) _;have key:∀(Z':Ev) (D:Ends),EndY K mg i J F0 H0 F Y a C d' D (.nx Z')->((lc=none/\Z'=Z)\/∃k c,lc=some k/\q'[k]?=some c/\Z'=Z.set l c)->CG (Gv (spY K mg n ic f) [] E t) D Y H:=by
  intro Z' D w hρ;refine z _ λF1 H1 vs g1 ay=>?_;have I:=rr.gr g1;have A1:=A.gr g1;have hand:∃P:Addr->Prop,∀b,P b↔b=a\/b∈C\/((∃k,lc=some k)/\Y[l]?=some (some (.ref b))):=⟨_,λ_=>Iff.rfl⟩;obtain ⟨P,hP⟩:=hand;obtain ⟨Hc,c1,c2⟩ : ∃Hc:Hp,(∀b,P b->Hc b=none)/\∀b,¬P b->Hc b=H1 b:=by
   classical
   exact ⟨λb=>if P b then none else H1 b,λb h=>iP h,λb h=>iN h⟩
  have c3:∀b o,Hc b=some o->H1 b=some o/\¬P b:=λb o h=>by
   by_cases hb:P b
   .rw [c1 b hb] at h;cases h
   .rw [c2 b hb] at h;exact ⟨h,hb⟩
  have O:∀(k:Nat) (y:List Dl.D),q[k]?=some (.ow y)->∃b L,vs[k]?=some (.ref b)/\Y[l]?=some (some (.ref b))/\Z[l]?=some (.ow y)/\lc=some k/\F1 b=none/\H1 b=some (.lst L)/\Rps K mg F1 L y:=λk y e=>by
   obtain ⟨v,S,hc⟩:=ay.get e;rcases hc with ⟨d,z,_⟩ | ⟨z,_⟩ | ⟨ds',z,s2,N,M⟩
   .cases z
   .cases z
   .cases z;obtain ⟨b,L,B,_,e5,X,hr⟩:=I.ow l y M;rw [N] at B;cases B;exact ⟨b,L,S,N,M,hl1 k s2,e5,X,hr⟩
  obtain ⟨va,eva,esa⟩:=ay.rgAt hic;rw [A.s] at esa;cases esa;rw [Bp];refine ⟨by rw [ay.len.1,<-ay.len.2];exact hn,F1,Hc,q,a,C,dss,⟨⟨Same.refl _,I.ss,λb o f h=>⟨f,(c3 b o h).1⟩,λ_ _ _ h=>h⟩,by rw [Ad];exact ay.len.1,λk d e=>?_,λk y e=>?_,λj k y Q b G B _ _=>?_⟩,⟨A1.R,λk y b G B=>?_,Kw eva,c1 a ((hP a).mpr (.inl rfl)),λr hr=>c1 r ((hP r).mpr (.inr (.inl hr)))⟩,q',d',ef,λF' H' T A'=>?_⟩
  .obtain ⟨v,S,hc⟩:=ay.get e;rcases hc with ⟨d',z,rd⟩ | ⟨z,_⟩ | ⟨ds',z,_⟩
   .cases z;exact ⟨v,Kw S,rd⟩
   .cases z
   .cases z
  .obtain ⟨b,L,S,N,M,U,e5,X,hr⟩:=O k y e;exact ⟨b,L,Kw S,c1 b ((hP b).mpr (.inr (.inr ⟨⟨k,U⟩,N⟩))),e5,X,hr⟩
  .obtain ⟨_,_,_,_,_,l1,_⟩:=O j y G;obtain ⟨_,_,_,_,_,l2,_⟩:=O k Q B;rw [l1] at l2;exact Br l2
  .obtain ⟨b',L,S,N,M,U,e5,X,hr⟩:=O k y G;rw [Kw S] at B;cases B;exact A.o l y b M N
  have V:∀k,lc=some k->∃b y,vs[k]?=some (.ref b)/\Y[l]?=some (some (.ref b))/\Z[l]?=some (.ow y):=λk e=>by
   obtain ⟨v,y,S,N,M⟩:=ay.owAt (hl2 k e);obtain ⟨b,L,B,_⟩:=I.ow l y M;rw [N] at B;cases B;exact ⟨b,y,S,N,M⟩
  have notP:∀(j:Nat) (y:List Dl.D) (b:Addr),Z[j]?=some (.ow y)->Y[j]?=some (some (.ref b))->(lc=none\/j≠l)->¬P b:=λj y b G B hj hb=>by
   rcases (hP b).mp hb with z | z | ⟨⟨k,z1⟩,z2⟩
   .exact (A.o j y b G B).1 z
   .exact (A.o j y b G B).2 z
   .obtain ⟨b2,ds2,_,N,M⟩:=V k z1;rcases hj with hj | hj
    .rw [z1] at hj;cases hj
    .exact hj (rr.ne j l y ds2 b G M B z2)
  have gC:Gr F0 H0 F' H':=by
   refine ⟨I.g.f.trans T.g.f,T.g.s,λb o f h=>?_,λb o u e=>I.g.z b o u (T.g.z b o u e)⟩;obtain ⟨f1,h1⟩:=I.g.o b o f h;refine T.g.o b o f1 ?_;rw [c2 b λhb=>?_]
   .exact h1
   .rcases (hP b).mp hb with z | z | ⟨⟨k,z1⟩,z2⟩
    .rw [z,A.h0.1] at h;cases h
    .rw [A.h0.2 b z] at h;cases h
    .obtain ⟨b2,ds2,_,N,M⟩:=V k z1;obtain ⟨b3,L,B,e4,_⟩:=rr.ow l ds2 M;rw [z2] at B;cases B;rw [e4] at h;cases h
  have imC:∀(j:Nat) (d:Dl.D),Z[j]?=some (.im d)->∃x,Y[j]?=some (some x)/\Rp K mg F' x d:=λj d e=>by
   obtain ⟨x,G,B⟩:=I.im j d e;exact ⟨x,G,B.same T.g.f⟩
  have owC:∀(j:Nat) (y:List Dl.D),Z[j]?=some (.ow y)->(lc=none\/j≠l)->∃b L,Y[j]?=some (some (.ref b))/\H0 b=none/\F' b=none/\H' b=some (.lst L)/\Rps K mg F' L y:=λj y e hj=>by
   obtain ⟨b,L,B,e4,e5,X,hr⟩:=I.ow j y e;obtain ⟨q1,q2⟩:=T.g.o b _ e5 (by rw [c2 b (notP j y b e B hj)];exact X);exact ⟨b,L,B,e4,q1,q2,hr.same T.g.f⟩
  rcases hρ with ⟨hl,rfl⟩ | ⟨k,c,hl,hc,rfl⟩
  .exact w F' H' Y (g1.f.trans T.g.f) ⟨gC,rr.len,imC,λj y e=>owC j y e (.inl hl),rr.ne⟩ ⟨A'.R,A.o,A.s,A.h0⟩ agr.refl
  .obtain ⟨b,y,S,N,M⟩:=V k hl;have ll:l<Z.length:=(Cd.mp M).1;have W:∀(j:Nat) (Q:List Dl.D),(Z.set l c)[j]?=some (.ow Q)->∃es':List Dl.D,Z[j]?=some (.ow es'):=λj Q e=>by
    rcases Av e with ⟨rfl,_,_⟩ | ⟨_,e⟩
    .exact ⟨y,M⟩
    .exact ⟨Q,e⟩
   refine w F' H' Y (g1.f.trans T.g.f) ⟨gC,by rw [De];exact rr.len,λj d e=>?_,λj Q e=>?_,λj j' Q es' b' G B X e4=>?_⟩ ⟨A'.R,λj Q b' G B=>?_,A.s,A.h0⟩ agr.refl
   .rcases Av e with ⟨rfl,rfl,_⟩ | ⟨_,e⟩
    .obtain ⟨x,G,B⟩:=T.im k d hc;rw [Kw S] at G;cases G;exact ⟨_,N,B⟩
    .exact imC j d e
   .rcases Av e with ⟨rfl,rfl,_⟩ | ⟨hj,e⟩
    .obtain ⟨b2,L,G,e4,e5,X,hr⟩:=T.ow k Q hc;rw [Kw S] at G;cases G;obtain ⟨b3,_,e6,e7,_⟩:=rr.ow l y M;rw [N] at e6;cases e6;exact ⟨_,L,N,e7,e5,X,hr⟩
    .exact owC j Q e (.inr (Ne.symm hj))
   .obtain ⟨_,o1⟩:=W j Q G;obtain ⟨_,o2⟩:=W j' es' B;exact rr.ne j j' _ _ b' o1 o2 X e4
   .obtain ⟨_,o1⟩:=W j Q G;exact A.o j _ b' o1 B
 cases U:lc with
 | none=>exact λD w=>key Z D w (.inl ⟨U,rfl⟩)
 | some k=>
  show AnsY K mg i J F0 H0 F Y a C (match q'[k]? with
   | some c=>Res.ok (Fl.nx (Z.set l c),d')
   | none=>.bad) _
  cases ek:q'[k]? with
  | none=>trivial
  | some c=>exact λD w=>key (Z.set l c) D w (.inr ⟨k,c,U,ek,rfl⟩)
def zK(r:Rep K mg F0 H0 F H Y Z):Rep K mg F0 H0 F H (Y++List.replicate n none) (Z++List.replicate n .no):=by
 have b:∀(j:Nat) (c:Cl),(Z++List.replicate n Cl.no)[j]?=some c->c=.no\/(Z[j]?=some c/\(Y++List.replicate n none)[j]?=Y[j]?):=λj c e=>by
  by_cases hj:j<Z.length
  .rw [Eo hj] at e;exact .inr ⟨e,Eo (by rw [r.len];exact hj)⟩
  .rw [Fp (by omega),JS] at e;split at e
   .exact .inl (Br e).symm
   .cases e
 refine ⟨r.g,by rw [BJ,BJ,r.len,JL,JL],λj d e=>?_,λj f e=>?_,λj k f l a o m i h=>?_⟩
 .rcases b j _ e with z | ⟨z,z2⟩
  .cases z
  .rw [z2];exact r.im j d z
 .rcases b j _ e with z | ⟨z,z2⟩
  .cases z
  .rw [z2];exact r.ow j f z
 .rcases b j _ o with z | ⟨z,z2⟩
  .cases z
  .rcases b k _ m with y | ⟨y,y2⟩
   .cases y
   .rw [z2] at i;rw [y2] at h;exact r.ne j k f l a z y i h
def O9:∀{k:Nat} {Z Z2:Ev} {j:Nat} {c:Cl},(mixO J k Z Z2)[j]?=some c->c=.no\/(Z[j]?=some c/\∃d,c=.im d)\/(Z2[j]?=some c/\k+j∈J)
 | k,.ow _::r,c'::r',0,c,e=>by
  have e:(if J.contains k=true then c' else .no)=c:=Br e
  by_cases h:J.contains k=true
  .rw [iP h] at e;exact .inr (.inr ⟨Bw some e,by simpa using h⟩)
  .rw [iN h] at e;exact .inl e.symm
 | k,.no::r,c'::r',0,c,e=>.inl (Br e).symm
 | k,.im d::r,c'::r',0,c,e=>.inr (.inl ⟨e,d,(Br e).symm⟩)
 | k,.ow _::r,c'::r',j+1,c,e=>by
  have z:=O9 (k:=k+1) (Z:=r) (Z2:=r') (j:=j) e;rw [show k+1+j=k+(j+1) by omega] at z;exact z
 | k,.no::r,c'::r',j+1,c,e=>by
  have z:=O9 (k:=k+1) (Z:=r) (Z2:=r') (j:=j) e;rw [show k+1+j=k+(j+1) by omega] at z;exact z
 | k,.im _::r,c'::r',j+1,c,e=>by
  have z:=O9 (k:=k+1) (Z:=r) (Z2:=r') (j:=j) e;rw [show k+1+j=k+(j+1) by omega] at z;exact z
 | _,[],_,_,_,e=>by unfold mixO at e;simp at e
 | _,_::_,[],_,_,e=>by unfold mixO at e;simp at e
def O2:∀{k:Nat} {Z Z2:Ev},Z.length<=Z2.length->(mixO J k Z Z2).length=Z.length
 | _,[],_,_=>by unfold mixO;rfl
 | _,_::_,[],h=>by simp at h
 | k,.ow _::r,_::r',h=>Bw (·+1) (O2 (k:=k+1) (Nat.le_of_succ_le_succ h))
 | k,.no::r,_::r',h=>Bw (·+1) (O2 (k:=k+1) (Nat.le_of_succ_le_succ h))
 | k,.im _::r,_::r',h=>Bw (·+1) (O2 (k:=k+1) (Nat.le_of_succ_le_succ h))
end
structure CalY(P:Program)(w:World)(K:W.Frag)(mg:Str->Option Value)(base:Heap)(k:Nat)(x:Str)(ps:List Str)(i:Nat)(m:FY):Prop where
 ex:∃(f:Addr) (fd:FuncData),FnOk P w K mg base (CXR P w) k f fd ps (spY K mg ps.length i m)/\Binds K fd ps []/\W.keepIn K (.ref f)=true/\mg x=some (.ref f)
structure DYs(X:Cx)(i:Nat)(J:List Nat)(sts:List Stmt)(t:TS)(m:MY):Prop where
 p:PSs X sts t
 s:SY X.K X.mg i J t m
structure DY(X:Cx)(i:Nat)(J:List Nat)(st:Stmt)(t:TS)(m:MY):Prop where
 p:PS X st t
 s:SY X.K X.mg i J t m
section
def _root_.L2.Def.calY{st:Stmt}{J:List Nat}{mb:MY}(Df:Def K mg x st ps)(S:Ci N ps (Ax st))(hps:ps.length<=N.length)(h:∀(f:Addr) (cdv:Value) (A:Around) (outer:List Env) (s:Shared) (H:Hp) (E:XK),Room k (A.deeper (envOfC x (Ax st) s.heap.objs.size f cdv))->∃t,DYs (cxOf (CXR P w) P w K mg base N x (Ax st) f cdv A outer s H E) i J (Dv st) t mb) :
  CalY P w K mg base (k+1) x ps i (fnY N.length J mb):=by
 obtain ⟨f,fd,F,b,hm⟩:=Df.ex;refine ⟨⟨f,fd,?_,b,F.kp,hm⟩⟩;obtain ⟨oc,od,kV,doc,pm,an,cdv,ct,osl,rfl,lk,hcd⟩:=F.ex;refine M7 lk hcd S (λu H Q E q=>q.1) λA outer s H u Q E hr Y=>?_;obtain ⟨t,hd⟩:=h f cdv A outer s H E hr;refine ⟨t,hd.p,?_⟩;obtain ⟨hlen,O,H0,Z,a,G,U,W,m,Z',T,ef,hq⟩:=Y;have lr:u.length=Z.length:=by have:=W.len;rwa [Ad] at this
 have L:start N u=u.map some++List.replicate (N.length - Z.length) none:=by unfold start;rw [lr]
 have X:∀(j:Nat),j<Z.length->(start N u)[j]?=(u.map some)[j]?:=λj I=>by rw [L];exact Eo (by rw [Ad,lr];exact I)
 have r0:Rep K mg O H0 O H (start N u) (Z++List.replicate (N.length - Z.length) .no):=by rw [L];exact zK W
 have ia:i<Z.length:=by
  have:=(Cd.mp m.s).1;rwa [Ad,lr] at this
 have A0:At K mg i H0 O H (start N u) (Z++List.replicate (N.length - Z.length) .no) a G U:=by
  refine ⟨m.R,λj n b r l=>?_,by rw [X i ia];exact m.s,m.h0⟩;by_cases I:j<Z.length
  .rw [Eo I] at r;rw [X j I] at l;exact m.o j n b r l
  .rw [Fp (by omega),JS] at r;split at r
   .cases r
   .cases r
 have z:=hd.s O H0 O H (start N u) _ a G U r0 A0;unfold fnY at ef;obtain ⟨⟨fl,d2⟩,r,l⟩:=RQ ef;rw [r] at z;cases fl with
 | nx Z2=>
  have l:(if Z.length<=Z2.length then Res.ok (mixO J 0 Z Z2,d2) else .bad)=.ok (Z',T):=l
  by_cases l2:Z.length<=Z2.length
  case neg=>rw [iN l2] at l;cases l
  rw [iP l2] at l;cases l;refine z _ λF' H' Y' s' V A' ag=>?_;have ml:(mixO J 0 Z Z2).length=Z.length:=O2 l2;have M:∀(j:Nat) (c:Cl),(mixO J 0 Z Z2)[j]?=some c->c=.no\/(Z[j]?=some c/\∃d,c=.im d)\/(Z2[j]?=some c/\Y'[j]?=(u.map some)[j]?):=λj c e=>by
   rcases O9 e with q | q | ⟨B,v⟩
   .exact .inl q
   .exact .inr (.inl q)
   .have I:j<Z.length:=by rw [<-ml];exact (Cd.mp e).1
    rw [Nat.zero_add] at v;exact .inr (.inr ⟨B,by rw [ag j v,X j I]⟩)
  have C:∀(j:Nat) (n:List D),(mixO J 0 Z Z2)[j]?=some (.ow n)->Z2[j]?=some (.ow n)/\Y'[j]?=(u.map some)[j]?:=λj n e=>by
   rcases M j _ e with q | ⟨_,d,q⟩ | q
   .cases q
   .cases q
   .exact q
  refine hq F' H' ⟨V.g,by rw [ml];exact W.len,λj d e=>?_,λj n e=>?_,λj k n L b r l e3 e4=>?_⟩ ⟨A'.R,λj n b r l=>?_,m.s,m.h0⟩
  .rcases M j _ e with q | ⟨q,_⟩ | ⟨B,v⟩
   .cases q
   .obtain ⟨y,h1,h2⟩:=W.im j d q;exact ⟨y,h1,h2.same s'⟩
   .rw [<-v];exact V.im j d B
  .obtain ⟨B,v⟩:=C j n e;rw [<-v];exact V.ow j n B
  .obtain ⟨B,v⟩:=C j n r;obtain ⟨q3,q4⟩:=C k L l;rw [<-v] at e3;rw [<-q4] at e4;exact V.ne j k n L b B q3 e3 e4
  .obtain ⟨B,v⟩:=C j n r;rw [<-v] at l;exact A'.o j n b B l
 | rt d=>cases l
 | bk Z2=>cases l
 | ct Z2=>cases l
end
section
variable {F:Hp} {Y':St} {Z2:Ev} {a:Addr} {rows:List Addr} {dss:List (List D)} {l:Nat} {J:List Nat}
def u6:SY K mg i J (tRet (tTup (Bg (tVar i) (Bg (tVar j) tNil)))) (retY j):=by
 intro F0 W F H Y Z a l L w A;unfold retY;cases ec:Z[j]? with
 | none=>trivial
 | some c=>
 cases c with
 | no=>trivial
 | im d=>trivial
 | ow ds=>
 obtain ⟨b,Q,S,e4,T,V,O⟩:=w.ow j ds ec;intro D q;refine ⟨.ref a,A.s,.ref b,S,(show 2<=sizeLine by decide),λp U=>?_⟩;obtain ⟨n,I,M⟩ : ∃n:Hp,(∀c,(c=a\/c∈l\/c=b)->n c=H c)/\∀c,¬(c=a\/c∈l\/c=b)->n c=F c:=by
  classical
  exact ⟨λc=>if c=a\/c∈l\/c=b then H c else F c,λc h=>iP h,λc h=>iN h⟩
 have E:∀r∈l,F r=none/\∃m,H r=some (.lst m):=λr O=>by
  obtain ⟨k,v,rfl⟩:=List.getElem_of_mem O;obtain ⟨f,m,h,_⟩:=A.R.row k _ _ (Aw v) (Aw (by rw [<-A.R.len];exact v));exact ⟨f,m,h⟩
 have t:∀c,(c=a\/c∈l\/c=b)->F c=none/\W c=none/\∃m,H c=some (.lst m):=λc h=>by
  rcases h with h | h | h
  .rw [h];exact ⟨A.R.fa,A.h0.1,_,A.R.ha⟩
  .obtain ⟨f,m,C⟩:=E c h;exact ⟨f,A.h0.2 c h,m,C⟩
  .rw [h];exact ⟨T,e4,Q,V⟩
 have P:Same F n:=λc o e=>by
  by_cases h:c=a\/c∈l\/c=b
  .rw [(t c h).1] at e;cases e
  .rw [M c h];exact e
 have N:Same n H:=λc o e=>by
  by_cases h:c=a\/c∈l\/c=b
  .rw [I c h] at e;exact e
  .rw [M c h] at e;exact w.g.s c o e
 have g1:Gr F0 W n H:=⟨w.g.f.trans P,N,λc o f h=>by
  obtain ⟨q1,q2⟩:=w.g.o c o f h;refine ⟨?_,q2⟩;rw [M c λz=>by rw [(t c z).2.1] at h;cases h];exact q1,λc o u e=>by
  by_cases h:c=a\/c∈l\/c=b
  .rw [I c h] at e;obtain ⟨_,_,m,C⟩:=t c h;rw [C] at e;cases e
  .rw [M c h] at e;exact w.g.z c o u e⟩
 have X:=g1.trans (.new N U (.tup [.ref a,.ref b]));have fp:n p=none:=N.free U;have x:Same n (upd n p (.tup [.ref a,.ref b])):=DP fp _;refine q _ _ (.ref p) X ⟨p,a,b,l.map .ref,Q,L.map .lst,ds,rfl,rfl,An,λz=>(A.o j ds b ec S).1 z.symm,w.g.f.free A.R.fa,w.g.f.free T,x _ _ (by rw [I a (.inl rfl)];exact A.R.ha),x _ _ (by rw [I b (.inr (.inr rfl))];exact V),?_,O.same (P.trans x)⟩
 .refine cP (by rw [Ad,Ad];exact A.R.len) λk y d G B=>?_;rw [Ca] at G B;cases v:l[k]? with
  | none=>rw [v] at G;cases G
  | some r=>
  cases hd:L[k]? with
  | none=>rw [hd] at B;cases B
  | some cs=>
  rw [v] at G;rw [hd] at B;cases G;cases B;obtain ⟨f,m,C,ry⟩:=A.R.row k r cs v hd;exact .lst (SqL.of (x _ _ (by rw [I r (.inr (.inl (GF v)))];exact C))) (ry.same (P.trans x))
def qN{x:Option V}(r:Rep K mg F0 H0 F H Y Z)(i):Rep K mg F0 H0 F H (Y.set i x) (Z.set i .no):=by
 refine ⟨r.g,by rw [De,De];exact r.len,λj d q=>?_,λj c q=>?_,λj k c m a e b f l=>?_⟩
 .rcases Av q with ⟨_,z,_⟩ | ⟨h,q⟩
  .cases z
  .rw [Cq h];exact r.im j d q
 .rcases Av q with ⟨_,z,_⟩ | ⟨h,q⟩
  .cases z
  .rw [Cq h];exact r.ow j c q
 .rcases Av e with ⟨_,z,_⟩ | ⟨h1,e⟩
  .cases z
  .rcases Av b with ⟨_,z,_⟩ | ⟨h2,b⟩
   .cases z
   .rw [Cq h1] at f;rw [Cq h2] at l;exact r.ne j k c m a e b f l
def cH:∀{xs:List V},(∀(k:Nat) (x:V),xs[k]?=some x->∃q,x=.ref q)->∃rws:List Addr,xs=rws.map .ref
 | [],_=>⟨[],rfl⟩
 | x::xs,h=>by
  obtain ⟨q,rfl⟩:=h 0 x rfl;obtain ⟨r,rfl⟩:=cH (xs:=xs) λk y e=>h (k+1) y e;exact ⟨q::r,rfl⟩
def YD:∀{ds:List D} {dss:List (List D)},Fj ds=some dss->ds=dss.map .lst/\∀cs∈dss,noLs cs=true
 | [],_,e=>by cases e;exact ⟨rfl,λ_ h=>aB h CK⟩
 | d::r,dss,e=>by
  cases d with
  | lst cs=>
   have e:(if noLs cs=true then (Fj r).bind λq=>some (cs::q) else none)=some dss:=e
   by_cases h:noLs cs=true
   .rw [iP h] at e;cases er:Fj r with
    | none=>rw [er] at e;cases e
    | some q=>
     rw [er] at e;have e:some (cs::q)=some dss:=e;cases e;obtain ⟨b,a⟩:=YD er;refine ⟨by rw [b];rfl,λc hc=>?_⟩;rcases Al.mp hc with rfl | hc
     .exact h
     .exact a c hc
   .rw [iN h] at e;cases e
  | _=>cases e
def Lr(K:W.Frag)(mg:Str->Option Value)(E:XK)(F0 H0:Hp)(r:Res Fl)(w:Ends->Prop):Prop :=
 match r with
 | .ok (.rt d)=>∀D:Ends,(∀b a x,Gr F0 H0 b a->TwoR K mg F0 b x d->D.rt x a)->w D
 | .ok _=>False
 | .ex c=>∀D:Ends,(∀b a C,Gr F0 H0 b a->mg (clsOf c)=some (.ref C)->E (.ref C) (pay c) a)->w D
 | .bad=>True
def Zi{wi:TI}{mi:MI}{t:Fam TG}{g:MG}{tt:Fam TT}{nt:MB}{te:Fam TE}{me:ME}{own:List Str}{cap:List (Str×Nat)}{ur:TS}{kr:MY}(hi:SI K mg E wi mi)(hg:∀C s H fp pn,SG K mg own.length (t C s H fp pn) g)(ht:∀C s H fp pn,STt K mg E0 (tt C s H fp pn) nt)(he:∀C s H fp pn,SEl K mg E0 (te C s H fp pn) me)(hr:SY K mg i J ur kr) :
  ∀F0 H0 F H Y Z,Rep K mg F0 H0 F H Y Z->Lr K mg E F0 H0 (regY i (comp mi own.length (cap.map (·.2)) g nt me) kr Z) (λD=>(tSeq (tAsg (GJ wi t tt te own cap) (Bt i)) ur) D Y H):=by
 intro F0 H0 F H Y Z I;have h:=hi F0 H0 F H Y Z I;unfold regY comp;cases e:mi Z with
 | bad=>trivial
 | ex c=>rw [e] at h;exact λD q=>h _ λB H' C g hC=>q B H' C (I.g.trans g) hC
 | ok ds=>
 rw [e] at h;by_cases hl:ds.length<=LIM
 case neg=>
  show Lr K mg E F0 H0 ((if ds.length<=LIM then _ else Res.bad).bind _) _
  rw [iN hl];trivial
 show Lr K mg E F0 H0 ((if ds.length<=LIM then (noEx (Dl.Bc g nt me (noA own.length (Bm Z (cap.map (·.2)))) ds)).bind _ else Res.bad).bind _) _
 rw [iP hl];cases e2:Dl.Bc g nt me (noA own.length (Bm Z (cap.map (·.2)))) ds with
 | bad=>trivial
 | ex c=>trivial
 | ok rs0=>
 show Lr K mg E F0 H0 (match Fj rs0 with
  | some dss=>if i<Z.length then (noEx (kr (Z.set i .no) dss)).bind fstY else .bad
  | none=>.bad) _
 cases e3:Fj rs0 with
 | none=>trivial
 | some dss=>
 show Lr K mg E F0 H0 (if i<Z.length then (noEx (kr (Z.set i .no) dss)).bind fstY else .bad) _
 by_cases li:i<Z.length
 case neg=>rw [iN li];trivial
 rw [iP li];cases e4:kr (Z.set i .no) dss with
 | bad=>trivial
 | ex c=>trivial
 | ok p0=>
 obtain ⟨fl,d2⟩:=p0;cases fl with
 | nx _=>trivial
 | bk _=>trivial
 | ct _=>trivial
 | rt d=>
 obtain ⟨er,hno⟩:=YD e3;intro D q;refine h _ λF1 H1 J1 L jo=>λC s H2 fp pn=>tW (I.gr L) jo (hg C s H2 fp pn) (ht C s H2 fp pn) (he C s H2 fp pn) hl e2 _ λB H' xs y rs U nd _ p R=>?_;have lx:xs.length=dss.length:=by rw [rs.length,er,Ad]
 obtain ⟨a,rfl⟩:=cH (xs:=xs) λk x ex=>by
  have lk:k<dss.length:=by rw [<-lx];exact (Cd.mp ex).1
  obtain ⟨q0,_,_,z,_⟩:=U k x (.lst dss[k]) ex (by rw [er,Ca,Aw lk];rfl);exact ⟨q0,z⟩
 rw [Ad] at lx;have row:∀(k:Nat) (r:Addr) (M:List Dl.D),a[k]?=some r->dss[k]?=some M->F1 r=none/\∃v,B r=some (.lst v)/\Rps K mg B v M:=λk r M G P=>by
  obtain ⟨q0,v,cs',n,m,T,S,Q⟩:=U k (.ref r) (.lst M) (by rw [Ca,G];rfl) (by rw [er,Ca,P];rfl);cases n;cases m;exact ⟨T,v,S,Q⟩
 have l:∀r∈a,F1 r=none/\∃v,B r=some (.lst v):=λr hr=>by
  obtain ⟨k,hk,rfl⟩:=List.getElem_of_mem hr;obtain ⟨n,v,m,_⟩:=row k _ _ (Aw hk) (Aw (by rw [<-lx];exact hk));exact ⟨n,v,m⟩
 obtain ⟨N,c1,W⟩ : ∃N:Hp,(∀c,c∈a->N c=none)/\∀c,c∉a->N c=B c:=by
  classical
  exact ⟨λc=>if c∈a then none else B c,λc h=>iP h,λc h=>iN h⟩
 have c3:∀c o,N c=some o->B c=some o:=λc o z=>by
  by_cases O:c∈a
  .rw [c1 c O] at z;cases z
  .rw [W c O] at z;exact z
 have X:B p=none:=y.s.free R;have np:p∉a:=λz=>by
  obtain ⟨_,v,m⟩:=l p z;rw [X] at m;cases m
 have gN:Gr F H N (upd H' p (.lst (a.map .ref))):=by
  refine ⟨λc o z=>?_,λc o z=>?_,λc o n m=>?_,λc o u z=>L.z c o u (y.z c o u (c3 c _ z))⟩
  .rw [W c λO=>aB (l c O).1 (by rw [L.f c o z];intro w;cases w)];exact y.f c o (L.f c o z)
  .have z':=y.s c o (c3 c o z);rw [Ag (Ay z' R)];exact z'
  .obtain ⟨a1,a2⟩:=L.o c o n m;obtain ⟨b1,b2⟩:=y.o c o a1 a2;refine ⟨?_,by rw [Ag (Ay b2 R)];exact b2⟩;by_cases O:c∈a
   .exact c1 c O
   .rw [W c O];exact b1
 have rN:=qN (x:=some (.ref p)) (I.gr gN) i;have h0r:∀r∈a,H0 r=none:=λr hr=>by
  obtain ⟨n,v,m⟩:=l r hr;cases q0:H0 r with
  | none=>rfl
  | some o=>
   have gg:=I.g.trans L;cases q1:F0 r with
   | some u=>rw [gg.f r u q1] at n;cases n
   | none=>
    obtain ⟨a1,a2⟩:=gg.o r o q1 q0;rw [(y.o r o a1 a2).1] at m;cases m
 have A:At K mg i H0 N (upd H' p (.lst (a.map .ref))) (Y.set i (some (.ref p))) (Z.set i .no) p a dss:=by
  refine ⟨⟨An,by rw [W p np];exact X,?_,np,lx,λk r M G P=>?_⟩,λj es b G P=>?_,J6 (by rw [I.len];exact li),oR ((I.g.trans L).trans y) R,h0r⟩
  .exact (List.pairwise_map.mp nd).imp λh z=>h (Bw V.ref z)
  .obtain ⟨n,v,m,T⟩:=row k r M G P;have mr:r∈a:=GF G;have S:=y.s _ _ m;refine ⟨c1 r mr,v,by rw [Ag (Ay S R)];exact S,Sq (λb o e5 e6=>?_) T (hno M (GF P))⟩;rw [W b λhb=>?_]
   .exact e5
   .obtain ⟨_,zs,Q⟩:=l b hb;rw [Q] at e5;cases e5;exact e6 _ rfl
  .rcases Av G with ⟨_,z,_⟩ | ⟨hj,G⟩
   .cases z
   .rw [Cq hj] at P;obtain ⟨b',xs',n,_,T,S,_⟩:=I.ow j es G;rw [P] at n;cases n;obtain ⟨a1,a2⟩:=L.o b _ T S;obtain ⟨b1,b2⟩:=y.o b _ a1 a2
    exact ⟨Ay b2 R,λhb=>by
     obtain ⟨_,zs,Q⟩:=l b hb
     rw [b1] at Q;cases Q⟩
 have z:=hr F0 H0 N _ _ _ p a dss rN A;rw [e4] at z;exact z D q
def nF{te:Fam TE}{own:List Str}{cap:List (Str×Nat)}(hi:SI K mg E wi mi)(hg:∀C s H fp pn,SG K mg own.length (t C s H fp pn) g)(ht:∀C s H fp pn,STt K mg E0 (tt C s H fp pn) nt)(he:∀C s H fp pn,SEl K mg E0 (te C s H fp pn) me)(hr:SY K mg i J ur kr) :
  SS K mg E (tSeq (tAsg (GJ wi t tt te own cap) (Bt i)) ur) (regY i (comp mi own.length (cap.map (·.2)) g nt me) kr):=by
 intro h j F H Y Z a;have z:=Zi (E:=E) (cap:=cap) hi hg ht he hr h j F H Y Z a;generalize regY i (comp mi own.length (cap.map (·.2)) g nt me) kr Z=r at z
 match r,z with
 | .ok (.rt d),z=>exact λD q=>z D λf e x g b=>q f e x g b.rp
 | .ex c,z=>exact z
 | .bad,_=>trivial
def jX{wi:TI}{mi:MI}{t:Fam TG}{g:MG}{tt:Fam TT}{nt:MB}{te:Fam TE}{me:ME}{own:List Str}{cap:List (Str×Nat)}{ur:TS}{kr:MY}(hi:SI K mg E wi mi)(hg:∀C s H fp pn,SG K mg own.length (t C s H fp pn) g)(ht:∀C s H fp pn,STt K mg E0 (tt C s H fp pn) nt)(he:∀C s H fp pn,SEl K mg E0 (te C s H fp pn) me)(hr:SY K mg i J ur kr) :
  ∀F0 H0 F H Y Z,Rep K mg F0 H0 F H Y Z->AnsT K mg E F0 H0 (rtD (regY i (comp mi own.length (cap.map (·.2)) g nt me) kr Z)) (λD=>(tSeq (tAsg (GJ wi t tt te own cap) (Bt i)) ur) D Y H):=by
 intro F0 H0 F H Y Z a;have z:=Zi (E:=E) (cap:=cap) hi hg ht he hr F0 H0 F H Y Z a;generalize regY i (comp mi own.length (cap.map (·.2)) g nt me) kr Z=r at z
 match r,z with
 | .ok (.rt d),z=>exact z
 | .ex c,z=>exact z
 | .bad,_=>trivial
end
section
variable {l:Nat} {J:List Nat} {st:Stmt} {sts rest:List Stmt} {tv ta tb to ti:TE} {ts:TSet} {t u u':TS} {m:MS} {k k':MY} {mv ma mb:ME} {sa:TT} {na:MB} {ev ea eb c' tg iter elt:Expr} {y:Str} {np ip ip2 apos p:Pos}
def bQ(h:DS X E st (CG te) m)(hi:i∈J:=by decide):DY X i J st (CG te) (lft m):=⟨h.p,Lp h.s uq hi⟩
def Gs(h:DS X E st (tAsg te (Bt j)) m)(hj:j∉J:=by decide)(hi:i∈J:=by decide):DY X i J st (tAsg te (Bt j)) (lft m):=⟨h.p,Lp h.s (gG hj) hi⟩
def Zvt(h:DS X E st (tAsg te (gSub to ti ts)) m)(hi:i∈J:=by decide):DY X i J st (tAsg te (gSub to ti ts)) (lft m):=⟨h.p,Lp h.s Zp8 hi⟩
def Zqx(h:DS X E st Kg m)(hi:i∈J:=by decide):DY X i J st Kg (lft m):=⟨h.p,Lp h.s tZ hi⟩
def bG(hi:i∈J:=by decide):DYs X i J [] Gi (lft nop):=⟨K8,Lp (E:=E0) cX Zo7 hi⟩
def Ft(h:DY X i J st t k):DYs X i J [st] t k:=⟨Uq h.p,h.s⟩
def Eh(h:DY X i J st t k)(h':DYs X i J rest u k'):DYs X i J (st::rest) (tSeq t u) (sqY k k'):=⟨Ga h.p h'.p,zY h.s h'.s⟩
def Uc(hc:DT X E c' sa na)(ha:DYs X i J as u k)(hb:DYs X i J bs u' k'):DY X i J (.If c' as bs spos) (tIfS sa u u') (ifY na k k'):=⟨Ob hc.p ha.p hb.p,mQ hc.s ha.s hb.s⟩
def Rh(hp:PassesOwn (model X.prog X.w) X.A X.env X.xe)(hc:X.calm=true)(hi:DI X E tg iter wi mi)(hg:DG X 1000 tg g gm)(kg:KpG J g)(hb:DYs X i J body u k)(hs:∀x,foldedSetIterable iter X.env x=pure x:=by intro _;rfl)(hJ:i∈J:=by decide):DY X i J (.For tg iter body [] spos) (tFor wi g u) (forY mi gm k):=⟨Sw hp hc hi.p hg.p hb.p hs,sH hi.s hg.s kg hJ hb.s⟩
def yc(he:DE X E e te me)(hw:DE X E ev tv mv)(hi:X.N[i]?=some y:=by rfl)(hv:Dd X.env.scope y:=by first | exact Or.inl rfl | exact Or.inr (Or.inl rfl) | exact Or.inr (Or.inr rfl))(hd:ND y:=by decide)(hcd:NE y:=by decide)(hpi:RL e:=by exact λ_ _=>rfl)(hbase:attributeBase (.Subscript (.Name y np) e ip) "append" X.env (eval (.Subscript (.Name y np) e ip) X.env)=eval (.Subscript (.Name y np) e ip) X.env:=by rfl)(hse:starEach [ev] X.env=(false,eval ev X.env)::starEach [] X.env:=by rfl) (hfew:((backTo cpos (starEach [ev] X.env)).all (λx=>!x.1)&&(backToKw cpos (keywordEach [] X.env)).all (λx=>x.1.isSome)
   && decide (([ev]:List Expr).length+([]:List Keyword).length+(if ([]:List Keyword).isEmpty then 0 else 1)<30))=true:=by rfl) (hline:(apos.endLine==cpos.line)=true:=by rfl) (hplain:(backTo cpos (starEach [] X.env)).any (·.1)=false:=by rfl) (hsw:swapsWith (.Call (.Attribute (.Subscript (.Name y np) e ip) "append" apos) [ev] [] cpos) none spos.line X.env=pure false:=by rfl) :
  DY X i J (.Expr (.Call (.Attribute (.Subscript (.Name y np) e ip) "append" apos) [ev] [] cpos) spos) (CG (tBM X.K "list" FZ (tOp (rIxD X.K) (tVar i) te) (Bg tv tNil))) (appY me mv) :=
 ⟨Gp (JH Jk RJ Ox PJ (Q9 (IxR.or RZ Rg) (Dq hi hv hd hcd) he.p hpi) (Dy hw.p GK hse) hbase hfew hline hse hplain) hsw,iW he.s hw.s⟩
def ZqQ(hw:DE X E e tv mv)(ha:DE X E ea ta ma)(hb:DE X E eb tb mb)(hi:X.N[i]?=some y:=by rfl)(hv:Dd X.env.scope y:=by first | exact Or.inl rfl | exact Or.inr (Or.inl rfl) | exact Or.inr (Or.inr rfl))(hd:ND y:=by decide)(hcd:NE y:=by decide)(hpi:RL ea:=by exact λ_ _=>rfl) (has:∀v,assign (.Subscript (.Subscript (.Name y np) ea ip) eb ip2) X.env v=(do
   let ov <-holding [v] (eval (.Subscript (.Name y np) ea ip) X.env)
   let iv <-holding [v,ov] (eval eb X.env)
   standAt ip2
   holding [v,ov,iv] (setItem ov iv v)
   release [v,ov,iv] []):=by intro _;rfl) (hs2:swapsWithSole [.Subscript (.Subscript (.Name y np) ea ip) eb ip2] e spos.line X.env=pure false:=by rfl) (hw2:swappedStores [.Subscript (.Subscript (.Name y np) ea ip) eb ip2] e X.env=pure none:=by rfl) :
  DY X i J (.Assign [.Subscript (.Subscript (.Name y np) ea ip) eb ip2] e spos) (tAsg tv (gSub (tOp (rIxD X.K) (tVar i) ta) tb GZ)) (Il mv ma mb) :=
 ⟨Oh hw.p (Rr (Q9 (IxR.or RZ Rg) (Dq hi hv hd hcd) ha.p hpi) hb.p set_list has) hs2 hw2,lN hw.s ha.s hb.s⟩
def nA(hw:DE X E e tv mv)(hb:DE X E eb tb mb)(hi:X.N[i]?=some y:=by rfl)(hv:Dd X.env.scope y:=by first | exact Or.inl rfl | exact Or.inr (Or.inl rfl) | exact Or.inr (Or.inr rfl))(hd:ND y:=by decide)(hcd:NE y:=by decide) (has:∀v,assign (.Subscript (.Name y np) eb ip2) X.env v=(do
   let ov <-holding [v] (eval (.Name y np) X.env)
   let iv <-holding [v,ov] (eval eb X.env)
   standAt ip2
   holding [v,ov,iv] (setItem ov iv v)
   release [v,ov,iv] []):=by intro _;rfl) (hs2:swapsWithSole [.Subscript (.Name y np) eb ip2] e spos.line X.env=pure false:=by rfl) (hw2:swappedStores [.Subscript (.Name y np) eb ip2] e X.env=pure none:=by rfl) :
  DS X E (.Assign [.Subscript (.Name y np) eb ip2] e spos) (tAsg tv (gSub (tVar i) tb GZ)) (setO i mv mb) :=
 ⟨Oh hw.p (Rr (Dq hi hv hd hcd) hb.p set_list has) hs2 hw2,xj hw.s hb.s⟩
def Vq(i)(h:DE X E e te me):DE X E e te (pkN i me):=⟨h.p,qM i h.s⟩
def Yc{j1:Nat}{q1 q2:Pos}(hi:X.N[i]?=some x)(hj:X.N[j]?=some y)(vx:Dd X.env.scope x:=by first | exact Or.inl rfl | exact Or.inr (Or.inl rfl) | exact Or.inr (Or.inr rfl))(vy:Dd X.env.scope y:=by first | exact Or.inl rfl | exact Or.inr (Or.inl rfl) | exact Or.inr (Or.inr rfl))(d1:ND x:=by decide)(d2:NE x:=by decide)(d3:ND y:=by decide)(d4:NE y:=by decide)(s1:starEach [.Name x q1,.Name y q2] X.env=(false,eval (.Name x q1) X.env)::starEach [.Name y q2] X.env:=by rfl)(s2:starEach [.Name y q2] X.env=(false,eval (.Name y q2) X.env)::starEach [] X.env:=by rfl) :
  DY X i J (.Return (some (.Tuple [.Name x q1,.Name y q2] j1 pos)) spos) (tRet (tTup (Bg (tVar i) (Bg (tVar j) tNil)))) (retY j) :=
 ⟨ao (XM (Dy (Dq hi vx d1 d2) (Dy (Dq hj vy d3 d4) GK s2) s1)),u6⟩
structure DAy(X:Cx)(E:XK)(i l:Nat)(sh:List Nat)(es:List Expr)(t:TA)(m:MR):Prop where
 p:PA X es t
 s:SAy X.K X.mg i l sh t m
def X5:DAy X E i l [] [] tNil rNil:=⟨GK,rm⟩
def MT{sh:List Nat}{t:TA}{m:MR}(h:DE X E e te me)(r:DAy X E i l sh es t m)(hs:starEach (e::es) X.env=(false,eval e X.env)::starEach es X.env:=by rfl):DAy X E i l (0::sh) (e::es) (Bg te t) (rIm me m):=⟨Dy h.p r.p hs,oX h.s r.s⟩
def cG{sh:List Nat}{t:TA}{m:MR}(r:DAy X E i l sh es t m)(hi:X.N[i]?=some y:=by rfl)(hv:Dd X.env.scope y:=by first | exact Or.inl rfl | exact Or.inr (Or.inl rfl) | exact Or.inr (Or.inr rfl))(hd:ND y:=by decide)(hcd:NE y:=by decide)(hs:starEach (.Name y np::es) X.env=(false,eval (.Name y np) X.env)::starEach es X.env:=by rfl) :
  DAy X E i l (1::sh) (.Name y np::es) (Bg (tVar i) t) (rRg m):=⟨Dy (Dq hi hv hd hcd) r.p hs,vG r.s⟩
def jK{sh:List Nat}{t:TA}{m:MR}(r:DAy X E i l sh es t m)(hi:X.N[l]?=some y:=by rfl)(hv:Dd X.env.scope y:=by first | exact Or.inl rfl | exact Or.inr (Or.inl rfl) | exact Or.inr (Or.inr rfl))(hd:ND y:=by decide)(hcd:NE y:=by decide)(hs:starEach (.Name y np::es) X.env=(false,eval (.Name y np) X.env)::starEach es X.env:=by rfl) :
  DAy X E i l (2::sh) (.Name y np::es) (Bg (tVar l) t) (rOw l m):=⟨Dy (Dq hi hv hd hcd) r.p hs,vA r.s⟩
def Zg{sh:List Nat}(h:(List.range sh.length).all (λk=>(sh[k]?==some 2)==(lc==some k))=true)(h2:(match lc with | some k=>decide (k<sh.length) | none=>true)=true):(∀k,sh[k]?=some 2->lc=some k)/\∀k,lc=some k->sh[k]?=some 2:=by
 rw [List.all_eq_true] at h;refine ⟨λk e=>?_,λk e=>?_⟩
 .have z:=h k (DN.mpr (Cd.mp e).1);rw [e] at z;simpa using z
 .subst e;have z:=h k (DN.mpr (by simpa using h2));simpa using z
def Z7{kk ll ic:Nat}{lc:Option Nat}{sh:List Nat}{f:FY}{t:TA}{m:MR}(C:CalY X.prog X.w X.K X.mg X.base kk x ps ic f)(hr:Room ll X.A)(hn:kk<=ll)(hg:Gl X x)(hx:Ea (CXR X.prog X.w) X E)(ha:DAy X E i l sh (e::es) t m)(hps:sh.length=ps.length:=by rfl)(hic:sh[ic]?=some 1:=by rfl)(h1:(List.range sh.length).all (λk=>(sh[k]?==some 2)==(lc==some k))=true:=by rfl)(h2:(match lc with | some k=>decide (k<sh.length) | none=>true)=true:=by rfl)(hdb:ND x:=by decide)(he:starEach (e::es) X.env=(false,eval e X.env)::starEach es X.env:=by rfl)(hpl:(backTo pos (starEach es X.env)).any (·.1)=false:=by rfl)(hsw:swapsWith (.Call (.Name x p) (e::es) [] pos) none spos.line X.env=pure false:=by rfl) :
  DY X i J (.Expr (.Call (.Name x p) (e::es) [] pos) spos) (CG (Gv (spY X.K X.mg ps.length ic f) [] E t)) (Gd f l lc m):=by
 obtain ⟨g,d,F,b,c,a⟩:=C.ex;exact ⟨Gp (U6 F (hr.mono hn) hg a c b .nil hx ha.p hdb he hpl) hsw,zN ha.s hic (Zg h1 h2).1 (Zg h1 h2).2 hps⟩
def Zu0{t:TA}{m:MA}{lpos:Pos}(ha:DA X E n es t m)(hb:DE X E e tb mb)(hn:n<=sizeLine:=by decide):DEl X E (.BinOp (.List es lpos) .Mult e pos) (tOp rRep (tLst t) tb) (repD m mb):=⟨aD nH (P0 ha.p) hb.p,yz (R:=RowR X.K X.mg) (λ_ _ p a es f h r=>⟨p,a,es,rfl,rfl,f,h,r⟩) ha.s ha.n hn hb.s⟩
def Zqt(hN:X.N.Nodup)(hix:X.N[i]?=some x)(hx:Loc X.env.scope x)(hi:DI X E tg iter wi mi)(O:Fi X own cap scope cl)(hc:X.calm=true)(hg:∀C s H fp pn,DG (BZ X (own++cap.map (·.1)) scope cl C s H fp pn) own.length tg (g C s H fp pn) gm)(ht:∀C s H fp pn,DTs (BZ X (own++cap.map (·.1)) scope cl C s H fp pn) E0 tsx (tt C s H fp pn) na)(he:∀C s H fp pn,DEl (BZ X (own++cap.map (·.1)) scope cl C s H fp pn) E0 elt (tf C s H fp pn) me)(hr:DYs X i J rest u k)(hts:tsx.length<=1:=by decide)(hsw:swapsWith (.ListComp elt [⟨tg,iter,tsx,0⟩] scope pos) (some (.Name x pos')) spos.line X.env=pure true:=by rfl)(hs:∀x,foldedSetIterable iter X.env x=pure x:=by intro _;rfl)(hf:X.fn x=true\/X.env.scope.names.lookup x=some .local:=by first | exact .inl rfl | exact .inr rfl | assumption) :
  DSs X E (.Assign [.Name x pos'] (.ListComp elt [⟨tg,iter,tsx,0⟩] scope pos) spos::rest) (tSeq (tAsg (GJ wi g tt tf own cap) (Bt i)) u) (regY i (comp mi own.length (cap.map (·.2)) gm na me) k) :=
 ⟨Ga (RK hN hix hx hi.p O hc (λC s H fp pn=>(hg C s H fp pn).p) (λC s H fp pn=>(ht C s H fp pn).p) (λC s H fp pn=>(he C s H fp pn).p) hts hsw hs hf) hr.p,
  nF hi.s (λC s H fp pn=>(hg C s H fp pn).s) (λC s H fp pn=>(ht C s H fp pn).s) (λC s H fp pn=>(he C s H fp pn).s) hr.s⟩
end
section
def mG(he:SE K mg E te me)(hij:i≠j):SS K mg E (CG (tBM K "list" FZ (tVar i) (Bg (tBM K "list" S5 (tVar j) (Bg te tNil)) tNil))) (appP i j me):=by
 intro h g F H Y Z l;unfold appP;cases ei:Z[i]? with
 | none=>trivial
 | some c=>
 cases c with
 | no=>trivial
 | im d=>trivial
 | ow xs=>
 cases ej:Z[j]? with
 | none=>trivial
 | some c=>
 cases c with
 | no=>trivial
 | im d=>trivial
 | ow ys=>
 show AnsS K mg E h g F ((noEx (me Z)).bind λd=>match (intY d).bind λk=>if 0<=k/\k<ys.length/\k<10000 then some k.toNat else none with
  | some c=>popP i j Z xs ys c
  | none=>.bad) _
 have B:=he h g F H Y Z l;cases q1:me Z with
 | bad=>trivial
 | ex c=>trivial
 | ok d=>
 rw [q1] at B;cases d with
 | int k=>
  show AnsS K mg E h g F (match (if 0<=k/\k<ys.length/\k<10000 then some k.toNat else none) with
   | some c=>popP i j Z xs ys c
   | none=>.bad) _
  by_cases hk:0<=k/\k<(ys.length:Int)/\k<10000
  case neg=>rw [iN hk];trivial
  rw [iP hk];show AnsS K mg E h g F (popP i j Z xs ys k.toNat) _;have w:k.toNat<ys.length:=by omega
  unfold popP;rw [Aw w];show AnsS K mg E h g F (if xs.length<10000 then .ok (.nx ((Z.set j (.ow (ys.eraseIdx k.toNat))).set i (.ow (xs++[ys[k.toNat]])))) else .bad) _
  by_cases hx:xs.length<10000
  case neg=>rw [iN hx];trivial
  rw [iP hx];obtain ⟨a,s,m,N,I,x,u⟩:=l.ow i xs ei;obtain ⟨b,t,n,W,P,G,p⟩:=l.ow j ys ej
  exact λD q=>⟨.ref a,m,.inl ⟨rfl,s,SqL.of x⟩,.ref b,n,.inl ⟨rfl,t,SqL.of G⟩,B _ λT L y e Q=>by
   cases Q;obtain ⟨J,U⟩:=e.o a _ I x;obtain ⟨O,C⟩:=e.o b _ P G;have r:a≠b:=λz=>hij (l.ne i j xs ys a ei ej m (z▸n));obtain ⟨v,R,V⟩:=(p.same e.f).get (Aw w);have S:=(l.gr e).put ej n C W O (Rps.eraseIdx k.toNat (p.same e.f));have A:upd L b (.lst (t.eraseIdx k.toNat)) a=some (.lst s):=by rw [Ag r];exact U
   have M:(Z.set j (.ow (ys.eraseIdx k.toNat)))[i]?=some (.ow xs):=by rw [List.getElem?_set_ne (Ne.symm hij)];exact ei
   refine ⟨b,t,k,k.toNat,v,rfl,rfl,C,by omega,by omega,?_,R,a,s,v,rfl,rfl,A,?_,q T _ Y e.f (S.app M m A N J (u.same e.f) V)⟩
   .have z:¬k<0:=by omega
    simp [seqIndex?,p.length,z,hk.1,hk.2.1]
   .rw [u.length];exact Bv hx (by decide)⟩
 | _=>trivial
end
section
variable {J:List Nat} {y:Str}
def lD(i j)(he:DE X E e te me)(hij:i≠j:=by decide)(hN:X.N[i]?=some x:=by rfl)(hN2:X.N[j]?=some y:=by rfl)(hv:Dd X.env.scope x:=by first | exact Or.inl rfl | exact Or.inr (Or.inl rfl) | exact Or.inr (Or.inr rfl))(hd:ND x:=by decide)(hcd:NE x:=by decide)(hv2:Dd X.env.scope y:=by first | exact Or.inl rfl | exact Or.inr (Or.inl rfl) | exact Or.inr (Or.inr rfl))(hd2:ND y:=by decide)(hcd2:NE y:=by decide)(hbase:attributeBase (.Name x np) "append" X.env (eval (.Name x np) X.env)=eval (.Name x np) X.env:=by rfl) (hfew:((backTo cpos (starEach [.Call (.Attribute (.Name y np2) "pop" apos2) [e] [] cpos2] X.env)).all (λx=>!x.1)&&(backToKw cpos (keywordEach [] X.env)).all (λx=>x.1.isSome)
   && decide (([.Call (.Attribute (.Name y np2) "pop" apos2) [e] [] cpos2]:List Expr).length+([]:List Keyword).length+(if ([]:List Keyword).isEmpty then 0 else 1)<30))=true:=by rfl) (hline:(apos.endLine==cpos.line)=true:=by rfl) (hs:starEach [.Call (.Attribute (.Name y np2) "pop" apos2) [e] [] cpos2] X.env=(false,eval (.Call (.Attribute (.Name y np2) "pop" apos2) [e] [] cpos2) X.env)::starEach [] X.env:=by rfl) (hplain:(backTo cpos (starEach [] X.env)).any (·.1)=false:=by rfl) (hbase2:attributeBase (.Name y np2) "pop" X.env (eval (.Name y np2) X.env)=eval (.Name y np2) X.env:=by rfl) (hfew2:((backTo cpos2 (starEach [e] X.env)).all (λx=>!x.1)&&(backToKw cpos2 (keywordEach [] X.env)).all (λx=>x.1.isSome)
   && decide (([e]:List Expr).length+([]:List Keyword).length+(if ([]:List Keyword).isEmpty then 0 else 1)<30))=true:=by rfl) (hline2:(apos2.endLine==cpos2.line)=true:=by rfl) (hs2:starEach [e] X.env=(false,eval e X.env)::starEach [] X.env:=by rfl) (hplain2:(backTo cpos2 (starEach [] X.env)).any (·.1)=false:=by rfl) (hsw:swapsWith (.Call (.Attribute (.Name x np) "append" apos) [.Call (.Attribute (.Name y np2) "pop" apos2) [e] [] cpos2] [] cpos) none spos.line X.env=pure false:=by rfl) :
  DS X E (.Expr (.Call (.Attribute (.Name x np) "append" apos) [.Call (.Attribute (.Name y np2) "pop" apos2) [e] [] cpos2] [] cpos) spos) (CG (tBM X.K "list" FZ (tVar i) (Bg (tBM X.K "list" S5 (tVar j) (Bg te tNil)) tNil))) (appP i j me) :=
 ⟨Gp (JH Jk RJ Ox PJ (Dq hN hv hd hcd) (Dy (JH Jk PySem.F.slot_list_pop PySem.F.type_list_pop jl (Dq hN2 hv2 hd2 hcd2) (Dy he.p GK hs2) hbase2 hfew2 hline2 hs2 hplain2) GK hs) hbase hfew hline hs hplain) hsw,
  mG he.s hij⟩
def wQ{tsx:List Expr}{own:List Str}{cap:List (Str×Nat)}{scope:Scope}{cl:List (Str×Addr)}{wi:TI}{mi:MI}{g:Fam TG}{gm:MG}{tt:Fam TT}{tf:Fam TE}{na:MB}{k:MY}{u:TS}{tg iter elt:Expr}{rest:List Stmt}(hN:X.N.Nodup)(hix:X.N[i]?=some x)(hx:Loc X.env.scope x)(hi:DI X E tg iter wi mi)(O:Fi X own cap scope cl)(hc:X.calm=true)(hg:∀C s H fp pn,DG (BZ X (own++cap.map (·.1)) scope cl C s H fp pn) own.length tg (g C s H fp pn) gm)(ht:∀C s H fp pn,DTs (BZ X (own++cap.map (·.1)) scope cl C s H fp pn) E0 tsx (tt C s H fp pn) na)(he:∀C s H fp pn,DEl (BZ X (own++cap.map (·.1)) scope cl C s H fp pn) E0 elt (tf C s H fp pn) me)(hr:DYs X i J rest u k)(hts:tsx.length<=1:=by decide)(hsw:swapsWith (.ListComp elt [⟨tg,iter,tsx,0⟩] scope pos) (some (.Name x pos')) spos.line X.env=pure true:=by rfl)(hs:∀x,foldedSetIterable iter X.env x=pure x:=by intro _;rfl)(hf:X.fn x=true\/X.env.scope.names.lookup x=some .local:=by first | exact .inl rfl | exact .inr rfl | assumption) :
  DSt2 X E (.Assign [.Name x pos'] (.ListComp elt [⟨tg,iter,tsx,0⟩] scope pos) spos::rest) (tSeq (tAsg (GJ wi g tt tf own cap) (Bt i)) u) (regT i (comp mi own.length (cap.map (·.2)) gm na me) k) :=
 ⟨Ga (RK hN hix hx hi.p O hc (λC s H fp pn=>(hg C s H fp pn).p) (λC s H fp pn=>(ht C s H fp pn).p) (λC s H fp pn=>(he C s H fp pn).p) hts hsw hs hf) hr.p,
  jX hi.s (λC s H fp pn=>(hg C s H fp pn).s) (λC s H fp pn=>(ht C s H fp pn).s) (λC s H fp pn=>(he C s H fp pn).s) hr.s⟩
end
section
variable {c:Int} {y:Str} {c':Expr} {sa:TT} {na:MB} {kb kr:MS} {ub ur:TS} {body rest:List Stmt}
def qi(he:SEt K mg E te me)(ht:STt K mg E sa na)(hb:SS K mg E ub kb)(hr:SS K mg E ur kr) :
  SS K mg E (tSeq (tAsg te (Bt i)) (tSeq (tIfS sa ub Gi) (tSeq (CG (tBM K "list" FZ (tOp (rIxD K) (tVar i) (tC (.int 1))) (Bg (tC (.int c)) tNil))) ur))) (Jx i me na kb kr):=by
 intro v t F H Y Z A;have h:=he F v t F H Y Z A (Same.refl _);unfold Jx;cases em:me Z with
 | bad=>trivial
 | ex c=>rw [em] at h;exact λD q=>h _ λR U C g O=>q R U C (A.g.trans g) O
 | ok d=>
  rw [em] at h;show AnsS K mg E v t F (if (J8 d&&decide (i<Z.length))=true then (na (Z.set i (.im d))).bind (λb=>if b=true then Uu (kb (Z.set i (.im d))) else kr (Z.set i .no)) else .bad) _
  by_cases B:(J8 d&&decide (i<Z.length))=true
  case neg=>rw [iN B];trivial
  rw [iP B];rw [Hg,decide_eq_true_eq] at B;obtain ⟨B,T⟩:=B;have li:i<Y.length:=by rw [A.len];exact T
  have G:=λl m x (g:Gr F H l m) (n:Rp K mg l x d)=>ht v t l m _ _ ((A.gr g).set i n);cases et:na (Z.set i (.im d)) with
  | bad=>trivial
  | ex c=>
   rw [et] at G;exact λD q=>h _ λl m x w n=>G l m x w n.rp _ λR U C g O=>q R U C ((A.g.trans w).trans g) O
  | ok b=>
   rw [et] at G;cases b with
   | true=>
    show AnsS K mg E v t F (Uu (kb (Z.set i (.im d)))) _;have L:=λl m Y1 X=>hb v t l m Y1 (Z.set i (.im d)) X;generalize kb (Z.set i (.im d))=rb at L
    match rb,L with
    | .ok (.rt d'),L=>
     exact λD q=>h _ λl m x w n=>G l m x w n.rp _ λW M b r N=>by
      cases (show b=true from N);exact L W M _ (((A.gr w).set i n.rp).gr r) _ q
    | .ok (.nx _),_=>trivial
    | .ok (.bk _),_=>trivial
    | .ok (.ct _),_=>trivial
    | .ex _,_=>trivial
    | .bad,_=>trivial
   | false=>
    show AnsS K mg E v t F (kr (Z.set i .no)) _;have k:∀D,(∀a x,Rep K mg v t F a (Y.set i (some x)) (Z.set i .no)->ur D (Y.set i (some x)) a)->(tSeq (tAsg te (Bt i)) (tSeq (tIfS sa ub Gi) (tSeq (CG (tBM K "list" FZ (tOp (rIxD K) (tVar i) (tC (.int 1))) (Bg (tC (.int c)) tNil))) ur))) D Y H:=λD q=>h _ λl m x w n=>G l m x w n.rp _ λW M b r N=>by
     cases (show b=false from N);obtain ⟨p,q0,I,xs,Q,as,bs,rfl,rfl,fp,nq,n0,n1,f0,V,rs0,S⟩:=n;have lb:bs.length<10000:=by simpa [J8] using B
     have P:M p=some (.tup [.ref q0,.ref I]):=r.s _ _ (r.f _ _ fp);have J:M I=some (.lst Q):=r.s _ _ (r.f _ _ V);refine ⟨.ref p,J6 li,.inr ⟨p,_,1,.ref I,rfl,rfl,SqT.of P,(by simp [atI,ixN]),.inl ⟨rfl,Q,SqL.of J⟩,I,Q,.int c,rfl,rfl,J,Bv (by rw [S.length];exact lb) (by decide),?_⟩⟩;refine q _ _ (A.letgo (w.trans r) λb o hb y=>?_);have nb:b≠I:=λz=>by
      subst z;rcases y with y | ⟨u,y⟩
      .rw [r.f _ _ V] at y;cases y
      .rw [n1] at y;cases y
     rw [Ag nb];exact hb
    have e:=λa x j=>hr v t F a (Y.set i (some x)) (Z.set i .no) j;generalize kr (Z.set i .no)=r2 at e
    match r2,e with
    | .ok (.nx Z),e=>exact λD q=>k D λa x j=>e a x j D q
    | .ok (.bk Z),e=>exact λD q=>k D λa x j=>e a x j D q
    | .ok (.ct Z),e=>exact λD q=>k D λa x j=>e a x j D q
    | .ok (.rt d),e=>exact λD q=>k D λa x j=>e a x j D q
    | .ex c,e=>exact λD q=>k D λa x j=>e a x j D q
    | .bad,_=>trivial
def fH{spos' spos1 np ip zp apos vp:Pos}{v:Nat}(hN:X.N.Nodup)(hi:X.N[i]?=some y)(hy:Loc X.env.scope y)(he:DEt X E e te me)(ht:DT X E c' sa na)(hb:DSs X E body ub kb)(hr:DSs X E rest ur kr)(hv:Dd X.env.scope y:=by first | exact Or.inl rfl | exact Or.inr (Or.inl rfl) | exact Or.inr (Or.inr rfl))(hd:ND y:=by decide)(hcd:NE y:=by decide)(hs:swapsWith e (some (.Name y pos')) spos.line X.env=pure false:=by rfl)(hf:X.fn y=true\/X.env.scope.names.lookup y=some .local:=by first | exact .inl rfl | exact .inr rfl | assumption)(hbase:attributeBase (.Subscript (.Name y np) (.Constant (.int 1) j zp) ip) "append" X.env (eval (.Subscript (.Name y np) (.Constant (.int 1) j zp) ip) X.env)=eval (.Subscript (.Name y np) (.Constant (.int 1) j zp) ip) X.env:=by rfl)(hse:starEach [.Constant (.int c) v vp] X.env=(false,eval (.Constant (.int c) v vp) X.env)::starEach [] X.env:=by rfl) (hfew:((backTo cpos (starEach [.Constant (.int c) v vp] X.env)).all (λx=>!x.1)&&(backToKw cpos (keywordEach [] X.env)).all (λx=>x.1.isSome)
   && decide (([.Constant (.int c) v vp]:List Expr).length+([]:List Keyword).length+(if ([]:List Keyword).isEmpty then 0 else 1)<30))=true:=by rfl) (hline:(apos.endLine==cpos.line)=true:=by rfl) (hplain:(backTo cpos (starEach [] X.env)).any (·.1)=false:=by rfl) (hsw:swapsWith (.Call (.Attribute (.Subscript (.Name y np) (.Constant (.int 1) j zp) ip) "append" apos) [.Constant (.int c) v vp] [] cpos) none spos1.line X.env=pure false:=by rfl) :
  DSs X E (.Assign [.Name y pos'] e spos::.If c' body [] spos'::.Expr (.Call (.Attribute (.Subscript (.Name y np) (.Constant (.int 1) j zp) ip) "append" apos) [.Constant (.int c) v vp] [] cpos) spos1::rest)
   (tSeq (tAsg te (Bt i)) (tSeq (tIfS sa ub Gi) (tSeq (CG (tBM X.K "list" FZ (tOp (rIxD X.K) (tVar i) (tC (.int 1))) (Bg (tC (.int c)) tNil))) ur))) (Jx i me na kb kr) :=
 ⟨Ga (Nb hN hi hy he.p hs hf) (Ga (Ob ht.p hb.p K8) (Ga (Gp (JH Jk RJ Ox PJ (Q9 (IxR.or RZ Rg) (Dq hi hv hd hcd) Sv (λ_ _=>rfl)) (Dy Sv GK hse) hbase hfew hline hse hplain) hsw) hr.p)),
  qi he.s ht.s hb.s hr.s⟩
end
section
variable {f:Addr} {dV:Value}
def okTF{st:Stmt}{m:ME}(F:FunD K x x st dV f fd)(S:Ci N ps (Ax st))(h:∀(cdv:Value) (A:Around) (outer:List Env) (s:Shared) (H:Hp) (E:XK),Room k (A.deeper (envOfC x (Ax st) s.heap.objs.size f cdv))->∃t,DSt2 (cxOf (CXR P w) P w K mg base N x (Ax st) f cdv A outer s H E) E (Dv st) t m) :
  FnOk P w K mg base (CXR P w) (k+1) f fd ps (spT K mg ps.length (fnR N.length m)):=by
 obtain ⟨U,X,R,O,T,W,cdv,V,L,rfl,G,i⟩:=F.ex;refine M7 G i S (λv H Q E q=>q.1) λA outer s H v Q E J n=>?_;obtain ⟨t,r⟩:=h cdv A outer s H E J;refine ⟨t,r.p,?_⟩;obtain ⟨_,o,u,I,M,y,a,b⟩:=n;have z:=r.s o H o H (start N v) (ev0 N.length u) (Vd I M);unfold fnR at y a b;cases e:m (ev0 N.length u) with
 | ok d=>
  rw [e] at z;exact z _ λj l x g D=>a d e j l x g D
 | ex c=>
  rw [e] at z;exact z _ λj l C g B=>b c e j l C g B
 | bad=>exact aB e y
structure Rn(P:Program)(w:World)(K:W.Frag)(mg:Str->Option Value)(base:Heap)(n:Nat)(x:Str)(ps ks:List Str)(ix:List (Option Nat))(m:List D->Res D):Prop where
 ex:∃(f:Addr) (fd:FuncData),FnOk P w K mg base (CXR P w) n f fd ps (spT K mg ps.length m)/\DfB K fd ps ks ix/\W.keepIn K (.ref f)=true/\mg x=some (.ref f)
end
section
variable {l n':Nat} {ks:List Str} {ix:List (Option Nat)} {f:List D->Res D} {t tk:TA} {m mk:MA} {kws:List Keyword} {p:Pos}
def qI(ha:SA X.K X.mg E t m)(hl:SAn n m)(hk:SA X.K X.mg E tk mk)(hn:n+ix.length=n'):SEt X.K X.mg E (Ztj (spT X.K X.mg n' f) (λvs zs=>vs++Ja ix zs) E t tk) (onK f ix m mk):=by
 intro M l w F H Y Z o G;refine (ha l w F H Y Z o).bindE (w':=λvs j Q=>tk Y j λzs i=>spT X.K X.mg n' f (vs++Ja ix zs) i Q E) λr e J j vs u L=>?_;refine (hk l w J j Y Z (o.gr u)).bindE (w':=λzs i Q=>spT X.K X.mg n' f (vs++Ja ix zs) i Q E) λB N v i zs h A=>?_;have b:=Rps.app (TV A ix) (L.same h.f);have a:(vs++Ja ix zs).length=n':=by rw [b.length,BJ,zO,hl Z r e,hn]
 cases ef:f (r++Oa ix B) with
 | bad=>trivial
 | ex c=>exact λQ q=>⟨a,v,_,h.s,b,(by rw [ef];intro z;cases z),(λd z=>by rw [ef] at z;cases z),λI z k p C g y=>by
   rw [ef] at z;cases z
   exact q k p C g y⟩
 | ok d=>exact λQ q=>⟨a,v,_,h.s,b,(by rw [ef];intro z;cases z),(λO z k p x g D=>by
   rw [ef] at z;cases z
   exact q _ _ _ g (D.down (G.trans (u.f.trans h.f)))),λI z=>by rw [ef] at z;cases z⟩
def z9(C:Rn X.prog X.w X.K X.mg X.base k x ps [] ix f)(hr:Room l X.A)(hn:k<=l)(hg:Gl X x)(hx:Ea (CXR X.prog X.w) X E)(ha:DA X E n (e::es) t m)(hps:n+ix.length=ps.length:=by rfl)(hdb:ND x:=by decide)(he:starEach (e::es) X.env=(false,eval e X.env)::starEach es X.env:=by rfl)(hpl:(backTo pos (starEach es X.env)).any (·.1)=false:=by rfl) :
  DEt X E (.Call (.Name x p) (e::es) [] pos) (Gv (spT X.K X.mg ps.length f) (Ja ix []) E t) (onK f ix m Ab):=by
 obtain ⟨g,j,F,b,c,o⟩:=C.ex;have d:Binds X.K j ps (Mf ix []):=λs i h a=>b s i [] h a;refine ⟨U6 F (hr.mono hn) hg o c d (Ux .nil ix) hx ha.p hdb he hpl,?_⟩;exact qI (tk:=tNil) (mk:=Ab) ha.s ha.n U8 hps
end
section
variable {F:Hp}
def Rep.thaw2{Y':St}{Z':Ev}(r:Rep K mg F0 H0 F' H' Y' Z')(hi:Y'[i]?=some (some (.ref a)))(e4:H0 a=none)(e5:F' a=none)(e3:H' a=some (.lst xs))(hr:Rps K mg F' xs ds)(ne:∀(k:Nat) (es:List D),Z'[k]?=some (.ow es)->Y'[k]?≠some (some (.ref a))):Rep K mg F0 H0 F' H' Y' (Z'.set i (.ow ds)):=by
 refine ⟨r.g,by rw [De];exact r.len,λj d q=>?_,λj es q=>?_,λj k es l c h b e f=>?_⟩
 .rcases Av q with ⟨_,z,_⟩ | ⟨_,q⟩
  .cases z
  .exact r.im j d q
 .rcases Av q with ⟨rfl,z,_⟩ | ⟨_,q⟩
  .cases z;exact ⟨a,xs,hi,e4,e5,e3,hr⟩
  .exact r.ow j es q
 .rcases Av h with ⟨rfl,_,_⟩ | ⟨hij,h⟩
  .rcases Av b with ⟨rfl,_,_⟩ | ⟨hik,b⟩
   .rfl
   .rw [hi] at e;cases e;exact aB f (ne k l b)
  .rcases Av b with ⟨rfl,_,_⟩ | ⟨hik,b⟩
   .rw [hi] at f;cases f;exact aB e (ne j es h)
   .exact r.ne j k es l c h b e f
def rn(hj:j≠i)(hb:SSk i K mg E u m):SS K mg E (tFor (iSeq K (tVar i)) (Bt j) u) (forP i j m):=by
 intro F0 H0 F H Y Z N;unfold forP getO;split
 .next r e=>
  obtain ⟨a,S,V,e4,e5,e3,hr⟩:=N.ow i r e;show AnsS K mg E F0 H0 F ((BP (gN j) m r (Z.set i .no)).bind (Ve i r)) _
  have rN:Rep K mg F0 H0 F H Y (Z.set i .no):=⟨N.g,by rw [De];exact N.len,λk d q=>by
   rcases Av q with ⟨_,z,_⟩ | ⟨_,q⟩
   .cases z
   .exact N.im k d q,λk P q=>by
   rcases Av q with ⟨_,z,_⟩ | ⟨_,q⟩
   .cases z
   .exact N.ow k P q,λk l P fs c G M q3 q4=>by
   rcases Av G with ⟨_,z,_⟩ | ⟨_,G⟩
   .cases z
   rcases Av M with ⟨_,z,_⟩ | ⟨_,M⟩
   .cases z
   exact N.ne k l P fs c G M q3 q4⟩
  have eB:Dn Y (Z.set i .no) H a=some (.lst S):=JM e3 λk P G M=>by
   rcases Av G with ⟨_,z,_⟩ | ⟨hk,G⟩
   .cases z
   exact hk (N.ne i k r P a e G V M)
  have r0:=rN.rebase;generalize hB0:Dn Y (Z.set i .no) H=B at eB r0;have back:∀{b h:Hp} {t:St} {v:Ev},Rep K mg F B b h t v->t[i]?=Y[i]?->Rep K mg F0 H0 b h t (v.set i (.ow r)):=λ{b h t v} A k'=>by
   obtain ⟨f',h'⟩:=A.g.o a _ e5 eB;refine Rep.thaw2 (rN.back (hB0▸A)) (k'.trans V) e4 f' h' (hr.same A.g.f) λk P G M=>?_;obtain ⟨c,ys,w1,w2,_⟩:=A.ow k P G;rw [M] at w1;cases w1;rw [eB] at w2;cases w2
  have hl:=hr.length;have O:∀(D:Ends) (p:Res Fl),p≠.bad->(∀v,p=.ok (.nx v)->∀b h t,Same F b->Rep K mg F B b h t v->t[i]?=Y[i]?->D.nx t h)->(∀d,p=.ok (.rt d)->∀b h x,Gr F B b h->Rp K mg b x d->D.rt x h) ->
    (∀c,p=.ex c->∀b h C,Gr F B b h->mg (clsOf c)=some (.ref C)->E (.ref C) (pay c) h)->BP (gN j) m r (Z.set i .no)=p->tFor (iSeq K (tVar i)) (Bt j) u D Y H:=by
   intro D p Q qn qr qe e0;refine ⟨.ref a,V,a,rfl,.inl ⟨⟨S,SqL.of e3⟩,?_⟩⟩;refine ⟨λk n t h=>n=r.length - k/\k<=r.length/\t[i]?=Y[i]?/\∃v b,Same F b/\Rep K mg F B b h t v/\BP (gN j) m (r.drop k) v=p,⟨r.length,by simp,DQ _,rfl,Z.set i .no,F,Same.refl _,r0,e0⟩,?_⟩;rintro k n t h ⟨rfl,hk,hσ,v,b,U,A,e'⟩;have hA:=(A.g.o a _ e5 eB).2;by_cases hlt:k<r.length
   .refine .inr ?_;have hd:=Aw hlt;obtain ⟨x0,X,rx0⟩:=hr.get hd;rw [Hs hlt] at e';refine ⟨⟨S,x0,SqL.of hA,X⟩,λY2 H2=>Y2[i]?=Y[i]?/\∃w F2,Same F F2/\Rep K mg F B F2 H2 Y2 w/\BP (gN j) m (r.drop (k+1)) w=p,λY2 H2 zq=>by obtain ⟨h2,w,F2,s2,r2,V⟩:=zq;exact ⟨r.length - (k+1),by omega,rfl,hlt,h2,w,F2,s2,r2,V⟩,λx H2 y=>?_⟩;obtain ⟨rfl,hx⟩:=y;have W:=hx S (SqL.of hA);rw [X] at W;cases W;have r3:=A.set j (rx0.same U);have J:=hb F B b _ (t.set j (some x0)) (v.set j (.im r[k])) r3;have kk:(t.set j (some x0))[i]?=Y[i]?:=(Cq hj).trans hσ;have s:(m (v.set j (.im r[k]))).bind (turn (BP (gN j) m (r.drop (k+1))))=p:=e';cases em:m (v.set j (.im r[k])) with
    | ok f=>
     rw [em] at s J;cases f with
     | nx w=>exact J _ λI L Y4 s4 R T=>⟨T.trans kk,w,I,U.trans s4,R,s⟩
     | ct w=>exact J _ λI L Y4 s4 R T=>⟨T.trans kk,w,I,U.trans s4,R,s⟩
     | bk w=>exact J _ λI L Y4 s4 R T=>qn w s.symm I L Y4 (U.trans s4) R (T.trans kk)
     | rt d=>exact J _ λI L y g4 ry=>qr d s.symm I L y g4 ry
    | ex c=>
     rw [em] at s J;exact J _ λI L C g4 hc=>qe c s.symm I L C g4 hc
    | bad=>rw [em] at s;exact aB s.symm Q
   .have hk2:k=r.length:=by omega
    subst hk2;rw [Jh (Am _)] at e';exact .inl ⟨⟨S,SqL.of hA,by omega⟩,qn v e'.symm b h t U A hσ⟩
  cases e1:BP (gN j) m r (Z.set i .no) with
  | ok f=>
   cases f with
   | nx w=>exact λD q=>O D _ (λz=>by cases z) (λ_ z=>by cases z;exact λb h t s' A k'=>q b h t s' (back A k')) (λ_ z=>by cases z) (λ_ z=>by cases z) e1
   | rt d=>exact λD q=>O D _ (λz=>by cases z) (λ_ z=>by cases z) (λ_ z=>by cases z;exact λb h x g' rx=>q b h x (Gr.back rN (hB0▸g')) rx) (λ_ z=>by cases z) e1
   | bk w=>trivial
   | ct w=>trivial
  | ex c=>exact λD q=>O D _ (λz=>by cases z) (λ_ z=>by cases z) (λ_ z=>by cases z) (λ_ z=>by cases z;exact λb h C g' hC=>q b h C (Gr.back rN (hB0▸g')) hC) e1
  | bad=>trivial
 .trivial
end
section
variable {y:Str} {ipos tpos:Pos}
def rQ{k:MS}(i j)(hp:PassesOwn (model X.prog X.w) X.A X.env X.xe)(hc:X.calm=true)(hN:X.N.Nodup)(hi:X.N[j]?=some x)(hx:Loc X.env.scope x)(hj:j≠i)(hb:DSsk X i E body u k)(hNi:X.N[i]?=some y:=by rfl)(hv:Dd X.env.scope y:=by first | exact Or.inl rfl | exact Or.inr (Or.inl rfl) | exact Or.inr (Or.inr rfl))(hd:ND y:=by decide)(hcd:NE y:=by decide)(hf:X.fn x=true\/X.env.scope.names.lookup x=some .local:=by first | exact .inl rfl | exact .inr rfl | assumption)(hs:∀z,foldedSetIterable (.Name y ipos) X.env z=pure z:=by intro _;rfl):DS X E (.For (.Name x tpos) (.Name y ipos) body [] spos) (tFor (iSeq X.K (tVar i)) (Bt j) u) (forP i j k) :=
 ⟨Sw hp hc (Cu (E:=E) (d_v i hNi hv hd hcd)).p (bR hN hi hx hf) hb.p hs,rn hj hb.s⟩
end
end L2.Ds
namespace Dl
def insI(p:Int):List Int->List Int
 | []=>[p]
 | q::r=>if p<=q then p::q::r else q::insI p r
def sortI:List Int->List Int
 | []=>[]
 | p::r=>insI p (sortI r)
def Qz:List D->Res D
 | [.lst ds]=>(Fw ds).bind λa=>if ds.length<64 then .ok (.lst ((sortI a).map .int)) else .bad
 | _=>.bad
def bLR:List D->Res D
 | [.int n]=>if 0<=n/\n<=10000 then .ok (.lst ((List.range n.toNat).map λk:Nat=>D.int k)) else .bad
 | _=>.bad
def insI_perm(p):∀l,(insI p l).Perm (p::l)
 | []=>.refl _
 | q::r=>by
  unfold insI;split
  .exact .refl _
  .exact ((insI_perm p r).cons q).trans (.swap p q r)
def sortI_perm:∀l,(sortI l).Perm l
 | []=>.refl _
 | p::r=>(insI_perm p _).trans ((sortI_perm r).cons p)
def W2:∀{l:List Int},l.Pairwise (·<=·)->(insI p l).Pairwise (·<=·)
 | [],_=>List.pairwise_singleton _ _
 | q::r,h=>by
  have a:=Fq.mp h;unfold insI;split
  .next c=>
   refine Fq.mpr ⟨λx hx=>?_,h⟩;rcases Al.mp hx with rfl | hx
   .exact c
   .exact Int.le_trans c (a.1 x hx)
  .next c=>
   refine Fq.mpr ⟨λx hx=>?_,W2 a.2⟩;rcases Al.mp ((insI_perm p r).mem_iff.mp hx) with rfl | hx
   .omega
   .exact a.1 x hx
def Ro:∀l,(sortI l).Pairwise (·<=·)
 | []=>List.Pairwise.nil
 | _::r=>W2 (Ro r)
def Xo:∀{l m:List Int},l.Perm m->l.Pairwise (·<=·)->m.Pairwise (·<=·)->l=m
 | [],m,hp,_,_=>(List.Perm.eq_nil hp.symm).symm
 | a::r,[],hp,_,_=>aB hp.length_eq (by simp)
 | a::r,b::t,hp,h1,h2=>by
  have d:=Fq.mp h1;have c:=Fq.mp h2;have e:a=b:=by
   have ha:a∈b::t:=hp.mem_iff.mp BL;have f:b∈a::r:=hp.mem_iff.mpr BL;rcases Al.mp ha with e | ha
   .exact e
   .rcases Al.mp f with e | hb'
    .exact e.symm
    .have h:=d.1 b hb';have g:=c.1 a ha;omega
  subst e;rw [Xo (List.Perm.cons_inv hp) d.2 c.2]
end Dl
namespace L2
def We(K:W.Frag):List V->Hp->VK->Prop:=λb H Q=>∃l a,b=[.ref l]/\SqL K H l (a.map V.int)/\a.length<64/\∀D,H D=none->Q (.ref D) (upd H D (.lst ((Dl.sortI a).map V.int)))
def Zig:∃n,(sortedAll h vs out).get? (h.objs.size+1)=some { cls:=.type "list",data:=.seq out n }:=by
 have f:((h.push (seqObj "list" #[] 0)).update h.objs.size (Obj.mapSeq (·++vs.toArray))).objs.size=h.objs.size+1:=by
  rw [Jp,size_push']
 have b:(((h.push (seqObj "list" #[] 0)).update h.objs.size (Obj.mapSeq (·++vs.toArray))).push (seqObj "list" vs.toArray 0)).get? (h.objs.size+1)=some (seqObj "list" vs.toArray 0):=by
  rw [<-f];exact CQ _ rfl
 have i:=BK b;unfold sortedAll sortedHeap;generalize ((h.push (seqObj "list" #[] 0)).update h.objs.size (Obj.mapSeq (·++vs.toArray))).push (seqObj "list" vs.toArray 0)=g at *;generalize h.objs.size+1=a at *;obtain ⟨c,d⟩ : ∃c,(g.update a (Obj.mapSeq λ_=>#[])).get? a=some (seqObj "list" #[] c):=⟨_,get?_update_seq b (λ_=>#[])⟩;have e:(((g.update a (Obj.mapSeq λ_=>#[])).push (seqObj "tuple" vs.toArray 0)).push (seqObj "list" #[] 0)).get? a=some (seqObj "list" #[] c):=by
  rw [KZ _ _ _ (by rw [size_push',Jp];exact BR (G7 i)),KZ _ _ _ (by rw [Jp];exact BR i)];exact d
 exact ⟨_,get?_update_seq e (λ_=>out)⟩
def qC(q:h.get? b=some o):(sortedAll h vs out).get? b=some o:=by
 have c:=BK q;have a:((h.push (seqObj "list" #[] 0)).update h.objs.size (Obj.mapSeq (·++vs.toArray))).objs.size=h.objs.size+1:=by
  rw [Jp,size_push']
 have e:b≠h.objs.size:=BR c;have d:b≠h.objs.size+1:=BR (G7 c);unfold sortedAll sortedHeap;rw [Heap.get?_update_ne _ _ _ _ d,KZ _ _ _ (by rw [size_push',Jp,size_push',a];exact BR (G7 (G7 (G7 c)))),KZ _ _ _ (by rw [Jp,size_push',a];exact BR (G7 (G7 c))),Heap.get?_update_ne _ _ _ _ d,KZ _ _ _ (by rw [a];exact d),Heap.get?_update_ne _ _ _ _ e,KZ _ _ _ e];exact q
def Z5:∀{ns:List Int} {its:List Value},Vals (ns.map V.int) its->IntsAre its ns
 | [],_,.nil=>.nil
 | n::r,_,.cons h t=>by
  obtain ⟨a,rfl⟩:=h;exact .cons n a (Z5 t)
section
def m7:Et X (.builtin "sorted") (We X.K):=by
 intro p s Y H vs E Q I A ⟨l,f,e,C,F,w⟩;subst e;cases A with
 | cons r1 rr=>
  cases rr;cases r1;obtain ⟨d,r,⟨o,n,D,y,_,B⟩,_⟩:=I.list C;have k:d.length=f.length:=by have:=r.length;rw [Ad] at this;exact this.symm
  refine sorted_ints (vs:=d) ⟨o,D,y,n,B⟩ (Z5 r) (by omega) λout i q m x=>?_;have j:i=Dl.sortI f:=Dl.Xo (m.trans (Dl.sortI_perm f).symm) x (Dl.Ro f);subst j;obtain ⟨c,t⟩:=Zig (h:=s.heap) (vs:=d) (out:=out);have z:Vals ((Dl.sortI f).map V.int) out.toList:=Rq q;have g:((Dl.sortI f).map V.int).length<=sizeLine:=by rw [Ad,m.length_eq,sizeLine_eq];omega
  have v:=I.laid (a:=s.heap.objs.size+1) (t':=s.toks) (o:=.lst ((Dl.sortI f).map V.int)) (h':=sortedAll s.heap d out) (λb u e=>qC e) (Ir _) ⟨g,out.toList,c,z,by rw [Array.toArray_toList];exact t⟩;exact ⟨.ref (s.heap.objs.size+1),_,v,rfl,w _ (I.hok.fresh (Ir _))⟩
def tLR(ta:TA):TE:=λY H Q=>ta Y H λb a=>∃n:Nat,b=[.int n]/\n<=10000/\∀S,a S=none->Q (.ref S) (upd a S (.lst ((List.range n).map λk:Nat=>V.int k)))
def ZC(hc:X.calm=true)(hg:Gl X "range")(hm:X.mg "range"=none)(hgl:Gl X "list")(hml:X.mg "list"=none)(ha:PA X [a] ta)(hs:starEach [a] X.env=[(false,eval a X.env)]:=by rfl)(hs3:starEach [.Call (.Name "range" np) [a] [] pos] X.env=(false,eval (.Call (.Name "range" np) [a] [] pos) X.env)::starEach [] X.env:=by rfl) :
  PE X (.Call (.Name "list" lp) [.Call (.Name "range" np) [a] [] pos] [] pos') (tLR ta):=by
 intro d s Y H Q I h;refine Call_ (Gu I hgl hml Oj (Ht ?_ hs3 rfl));rw [hs3];show wpAny _ _ (spliced ((false,eval (.Call (.Name "range" np) [a] [] pos) X.env)::backTo pos' (starEach [] X.env))) _ _ s;refine Calls.spliced_cons ?_;refine Call_ (Gu I hg hm boot_range (Ht (thn (ha pos d s Y H _ I h) λN u zq=>?_) hs rfl));obtain ⟨P,B,J,A,E⟩:=zq;obtain ⟨n,e,M,q⟩:=E;subst e;cases A with
 | cons r rr=>
  cases rr;obtain ⟨t,rfl⟩:=r;refine call_range_1 ?_;refine Calls.spliced_nil ?_;have y:Inv X d Y B { u with heap:=u.heap.push { cls:=.type "range",data:=.fields #[.int 0 u.toks,.int n t,.int 1 (u.toks+1)] },toks:=u.toks+1+1 }:=J.kept λb o e=>Bf _ e
  refine call_list_range (n:=n) (y.ok.hd hc) (IsRange.new ..) (small_one (by omega) (by omega) (by omega) (by omega)) (by rw [rangeSize_one];split<;>omega) (CJ M (by decide)) λO C g c G K z=>?_;have p:Vals ((List.range n).map λk:Nat=>V.int k) g.toList:=by
   have x:∀(l:List Value) (j m:Nat),l.length=m->(∀(i:Nat) (v:Value),l[i]?=some v->∃t,v=Value.int ((j+i:Nat):Int) t)->Vals ((List.range' j m).map λk:Nat=>V.int k) l:=by
    intro l
    induction l with
    | nil=>intro j m e _;cases e;exact .nil
    | cons v l ih=>
     intro j m e p;cases e;obtain ⟨t,F⟩:=p 0 v rfl;refine .cons ⟨t,F⟩ (ih (j+1) _ rfl λi L w=>?_);obtain ⟨t',f⟩:=p (i+1) L w;exact ⟨t',by rw [f,show j+(i+1)=j+1+i by omega]⟩
   rw [List.range_eq_range'];refine x g.toList 0 n (by rw [Kr];exact z.1) λi v p=>?_;obtain ⟨t',f⟩:=z.2 i v (by rw [<-p,Rm]);exact ⟨t',by rw [f];congr 1;omega⟩
  have D:=y.laid (t':=C) (o:=.lst ((List.range n).map λk:Nat=>V.int k)) G (Am _) ⟨by rw [Ad,Bx,sizeLine_eq];omega,g.toList,c,p,by rw [Array.toArray_toList];exact K⟩;exact ⟨.ref _,_,D,rfl,q _ (y.hok.fresh (Am _))⟩
end
end L2
namespace L2.Ds
open Dl
section
variable {a:Expr} {t:TA} {m:MA} {lp p:Pos}
def Pg{F:Hp}:∀ns:List Int,Rps K mg F (ns.map V.int) (ns.map D.int)
 | []=>.nil
 | n::r=>.cons (.int n) (Pg r)
def ww:CallD K mg (We K) Qz:=by
 intro E F H g j s d;unfold Qz;split
 .next a=>
  obtain ⟨x,rfl,b⟩:=d.one;cases b with
  | @lst l zs _ h r=>
   cases e:Fw a with
   | bad=>trivial
   | ex c=>exact aB e (V8 a)
   | ok ns=>
    show Ans mg E (Rp K mg) F H (if a.length<64 then _ else _) _
    by_cases hl:a.length<64
    case neg=>rw [iN hl];trivial
    rw [iP hl];have f:=WM r e;subst f;have k:ns.length=a.length:=by have:=r.length;rwa [Ad] at this
    exact Ip s (λp i=>.lst (SqL.of An) (Pg _)) λQ q=>⟨l,ns,rfl,s.seq h,by omega,q⟩
 .trivial
def Yi(hcm:X.calm=true)(hg:Gl X "range")(hm:X.mg "range"=none)(hgl:Gl X "list")(hml:X.mg "list"=none)(ha:DA X E n [a] t m)(hs:starEach [a] X.env=[(false,eval a X.env)]:=by rfl)(hs3:starEach [.Call (.Name "range" p) [a] [] pos] X.env=(false,eval (.Call (.Name "range" p) [a] [] pos) X.env)::starEach [] X.env:=by rfl) :
  DE X E (.Call (.Name "list" lp) [.Call (.Name "range" p) [a] [] pos] [] pos') (tLR t) (on bLR m):=by
 refine ⟨ZC hcm hg hm hgl hml ha.p hs hs3,?_⟩;intro i f F H Y Z j;refine (ha.s i f F H Y Z j).bind (w':=λe b Q=>∃n:Nat,e=[V.int n]/\n<=10000/\∀S,b S=none->Q (V.ref S) (upd b S (.lst ((List.range n).map λk:Nat=>V.int k)))) λc b l u d h=>?_;unfold bLR;split
 .next z=>
  by_cases hz:0<=z/\z<=10000
  case neg=>rw [iN hz];trivial
  rw [iP hz];obtain ⟨x,rfl,g⟩:=h.one;cases g;refine Ip (o:=.lst ((List.range z.toNat).map λk:Nat=>V.int k)) d.s (λp r=>.lst (SqL.of An) ?_) λQ q=>⟨z.toNat,by rw [HX hz.1],by omega,q⟩;have:=Pg (K:=X.K) (mg:=X.mg) (F:=upd c p (.lst ((List.range z.toNat).map λk:Nat=>V.int k))) ((List.range z.toNat).map λk:Nat=>(k:Int));rw [Dz,Dz] at this;exact this
 .trivial
end
section
variable {a:Expr} {t:TA} {m:MA} {p lp np:Pos}
def rM(hN:X.N.Nodup)(hi:X.N[i]?=some x)(hx:Loc X.env.scope x)(hcm:X.calm=true)(hg:Gl X "range")(hm:X.mg "range"=none)(hgl:Gl X "list")(hml:X.mg "list"=none)(ha:DA X E n [a] t m)(hs1:starEach [a] X.env=[(false,eval a X.env)]:=by rfl)(hs3:starEach [.Call (.Name "range" p) [a] [] pos] X.env=(false,eval (.Call (.Name "range" p) [a] [] pos) X.env)::starEach [] X.env:=by rfl)(hs:swapsWith (.Call (.Name "list" lp) [.Call (.Name "range" p) [a] [] pos] [] pos') (some (.Name x np)) spos.line X.env=pure false:=by rfl)(hf:X.fn x=true\/X.env.scope.names.lookup x=some .local:=by first | exact .inl rfl | exact .inr rfl | assumption) :
  DS X E (.Assign [.Name x np] (.Call (.Name "list" lp) [.Call (.Name "range" p) [a] [] pos] [] pos') spos) (tAsg (tLR t) (Bt i)) (stO i (on bLR m)):=by
 refine ⟨Nb hN hi hx (ZC hcm hg hm hgl hml ha.p hs1 hs3) hs hf,λr o F H Y Z b=>?_⟩;have h:=ha.s r o F H Y Z b;unfold stO on;cases e:m Z with
 | bad=>trivial
 | ex c=>
  rw [e] at h;exact λD q=>h _ λG w C g B=>q G w C (b.g.trans g) B
 | ok ds=>
  rw [e] at h;show AnsS X.K X.mg E r o F ((bLR ds).bind λd=>(lstO d).bind λA=>.ok (.nx (Z.set i (.ow A)))) _;unfold bLR;split
  .next z=>
   by_cases hz:0<=z/\z<=10000
   case neg=>rw [iN hz];trivial
   rw [iP hz];refine λD q=>h _ λj J L l I=>?_;obtain ⟨y,rfl,u⟩:=I.one;cases u;refine ⟨z.toNat,by rw [HX hz.1],by omega,λS v=>q j _ _ l.f ((b.gr l).own i v ?_)⟩;have:=Pg (K:=X.K) (mg:=X.mg) (F:=j) ((List.range z.toNat).map λk:Nat=>(k:Int));rw [Dz,Dz] at this;exact this
  .trivial
end
end L2.Ds
namespace Dl
def Sm(k:Nat)(x:Int):Prop:=x.natAbs<2^k
def Sm.mono{k n:Nat}{x:Int}(h:Sm k x)(hn:k<=n):Sm n x:=Bv h (Nat.pow_le_pow_right (by decide) hn)
def Sm.mul{m n:Nat}{x y:Int}(h:Sm m x)(g:Sm n y):Sm (m+n) (x*y):=by
 unfold Sm at *;rw [Int.natAbs_mul,Nat.pow_add];rcases Nat.eq_zero_or_pos x.natAbs with z | z
 .rw [z,Nat.zero_mul];exact Nat.mul_pos (Nat.two_pow_pos _) (Nat.two_pow_pos _)
 .exact Hr (Nat.mul_le_mul_left _ (Hx g)) (Nat.mul_lt_mul_of_pos_right h (Nat.two_pow_pos _))
def Sm.add{m n:Nat}{x y:Int}(h:Sm m x)(g:Sm n y):Sm (max m n+1) (x+y):=by
 have b:=h.mono (Nat.le_max_left m n);have a:=g.mono (Nat.le_max_right m n);unfold Sm at *;rw [Nat.pow_succ];have:=Int.natAbs_add_le x y;omega
def Sm.neg{m:Nat}{x:Int}(h:Sm m x):Sm m (-x):=by
 unfold Sm at *;rw [Int.natAbs_neg];exact h
def Sm.sub{m n:Nat}{x y:Int}(h:Sm m x)(g:Sm n y):Sm (max m n+1) (x - y):=by
 rw [Int.sub_eq_add_neg];exact h.add g.neg
def Sm.le{m:Nat}{x y:Int}(h:Sm m x)(e:y.natAbs<=x.natAbs):Sm m y:=Hr e h
def Sm.of64{x:Int}(h1:-18446744073709551616<x)(h2:x<18446744073709551616):Sm 64 x:=by
 unfold Sm;have:(2:Nat)^64=18446744073709551616:=by decide
 omega
def R7{n k:Nat}(h:n<2^k)(hk:0<k):n.log2<k:=by
 rcases Nat.eq_zero_or_pos n with z | z
 .rw [z];simpa using hk
 .exact (Nat.log2_lt (Gm z)).mpr h
def Sm.log{m:Nat}{x:Int}(h:Sm m x)(hm:m<9000):x.natAbs.log2<9000:=R7 (h.mono (Hx hm)) (by decide)
def mK{a b:Int}(h:Sm 64 a):Bl a b=true:=by
 unfold Bl;rw [Dp (show a.natAbs<2^64 from h)];rfl
def jG{a b:Int}(h:Sm 64 b):Bl a b=true:=by
 unfold Bl;rw [Dp (show b.natAbs<2^64 from h)];simp
def Cw{a b:Int}{m n:Nat}(h:Sm m a)(g:Sm n b)(hk:m+n<99999990):Bl a b=true:=by
 have d:=R7 (h.mono (Ir m)) (Nat.succ_pos _);have c:=R7 (g.mono (Ir n)) (Nat.succ_pos _);unfold Bl;rw [Dp (show a.natAbs.log2+b.natAbs.log2<100000000 by omega)];simp
def fV{a b:Int}(h:Bl a b=true):iMul a b=.ok (.int (a*b)):=by unfold iMul;rw [iP h]
def pK{a b:Int}(h:0<b):iMod a b=.ok (.int (a%b)):=by unfold iMod;rw [iP h]
def iZ{a b:Int}(h:0<b)(hl:b.natAbs.log2<9000):iDiv a b=.ok (.int (a/b)):=by unfold iDiv;rw [iP hl,iP h]
def gn{a b:Int}(h:b<0)(hl:b.natAbs.log2<9000):iDiv a b=.ok (.int (a.fdiv b)):=by unfold iDiv;rw [iP hl,iN (by omega),iN (by omega)]
def sJ{a b:Int}(h0:0<=b)(h1:b<=1000000)(h2:a.natAbs<2^64):iPow a b=.ok (.int (a^b.toNat)):=by unfold iPow;rw [iP ⟨h0,h1,h2⟩]
def yX{a b:Int}(h0:0<=b)(h1:b<=1000000)(h2:a.natAbs<2^64):iShl a b=.ok (.int (a*2^b.toNat)):=by unfold iShl;rw [iP ⟨h0,h1,h2⟩]
def fJ{a b:Int}(h0:0<=b):iShr a b=.ok (.int (a/2^b.toNat)):=by unfold iShr;rw [iP h0]
def nM(a b:Int):dEq (.int a) (.int b)=.ok (.bl (decide (a=b))):=by
 show Res.ok (D.bl (a==b))=_;rw [Bool.beq_eq_decide_eq]
def Zq9(a b:Int):dNe (.int a) (.int b)=.ok (.bl (!decide (a=b))):=by
 show Res.ok (D.bl (!(a==b)))=_;rw [Bool.beq_eq_decide_eq]
def Zn6{a b:List D}(h:a.length+b.length<=1000000):Ah (.lst a) (.lst b)=.ok (.lst (a++b)):=by
 show (if a.length+b.length<=LIM then Res.ok (D.lst (a++b)) else .bad)=_
 rw [iP (show a.length+b.length<=LIM from h)]
def Qh(xs:List D)(i:Int):dIx (.lst xs) (.int i)=ofO (at_ xs i):=rfl
def zF(xs:List D):bLen [.lst xs]=.ok (.int xs.length):=rfl
def uT(xs:List D):bLen [.tup xs]=.ok (.int xs.length):=rfl
def j9(i:Int):bAbs [.int i]=.ok (.int i.natAbs):=by
 show Res.ok (D.int (if i<0 then -i else i))=_
 have:(if i<0 then -i else i)=(i.natAbs:Int):=by split<;>omega
 rw [this]
def tD(i j:Int):bMin [.int i,.int j]=.ok (.int (min i j)):=by
 show Res.ok (D.int (if j<i then j else i))=_
 have:(if j<i then j else i)=min i j:=by split<;>omega
 rw [this]
def qy{j:Int}(h0:-1000000000<=j)(h1:j<=1000000000):rng1 [.int j]=.ok (CN 0 j.toNat):=by
 show (if -1000000000<=j/\j<=1000000000 then Res.ok (CN 0 j.toNat) else .bad)=_
 rw [iP ⟨h0,h1⟩]
def aj{g:MG}{b:MS}(I:List D->Ev->Prop):∀(xs pre:List D),(∀p x r,xs=p++x::r->∀Z,I (pre++p) Z->∃Z1 Z2,g x Z=.ok Z1/\b Z1=.ok (.nx Z2)/\I (pre++p++[x]) Z2)->∀Z,I pre Z->∃Z',BP g b xs Z=.ok (.nx Z')/\I (pre++xs) Z'
 | [],pre,_,Z,i=>⟨Z,rfl,by rw [Bp];exact i⟩
 | x::r,pre,h,Z,i=>by
  obtain ⟨Z1,Z2,j,d,a⟩:=h [] x r rfl Z (by rw [Bp];exact i);rw [Bp] at a
  obtain ⟨Z',f,c⟩:=aj I r (pre++[x]) (λp y s e Z i=>by
   have z:=h (x::p) y s (by rw [e];rfl) Z (by simpa using i)
   simpa using z) Z2 a
  refine ⟨Z',?_,by simpa using c⟩;show (g x Z).bind (λZ1=>(b Z1).bind (turn (BP g b r)))=_;rw [j];show (b Z1).bind (turn (BP g b r))=_;rw [d];exact f
def Zlx(t:MB)(b:MS)(n:Nat)(Z:Ev):whGo t b (n+1) Z=(t Z).bind λx=>if x=true then (b Z).bind (turn (whGo t b n)) else .ok (.nx Z):=rfl
def Uo(g:MG)(t:MB)(e:ME)(Z:Ev)(x:D)(r:List D):Bc g t e Z (x::r)=(g x Z).bind λZ1=>(t Z1).bind λb=>if b=true then (e Z1).bind λy=>(Bc g t e Z r).bind λys=>.ok (y::ys) else Bc g t e Z r:=rfl
def Zy{g:MG}{e:ME}{Z:Ev}(P:D->D->Prop):∀xs:List D,(∀x∈xs,∃Z1 y,g x Z=.ok Z1/\e Z1=.ok y/\P x y)->∃ys,Bc g yes e Z xs=.ok ys/\ys.length=xs.length/\∀(i:Nat) x y,xs[i]?=some x->ys[i]?=some y->P x y
 | [],_=>⟨[],rfl,rfl,λi x y h=>by simp at h⟩
 | x::r,h=>by
  obtain ⟨Z1,y,m,k,j⟩:=h x BL;obtain ⟨ys,f,l,q⟩:=Zy P r λz n=>h z (BW _ n);refine ⟨y::ys,?_,Bw (·+1) l,λi a b c d=>?_⟩
  .rw [Uo,m,Hj];unfold yes at f ⊢;rw [Hj,iP rfl,k,Hj,f];rfl
  .cases i with
   | zero=>simp at c d;subst c d;exact j
   | succ i=>exact q i a b (by simpa using c) (by simpa using d)
def Tl{α:Type}(r:Res α)(U:α->Prop):Prop:=∃a,r=.ok a/\U a
section
variable{α β:Type}{U:α->Prop} {a b d:ME} {s t:MB}
def Af{r:Res α}{x:α}(e:r=.ok x)(h:U x):Tl r U:=⟨x,e,h⟩
def Ak{x:α}(h:U x):Tl (.ok x) U:=⟨x,rfl,h⟩
def Ar{r:Res β}{f:β->Res α}(h:Tl r λx=>Tl (f x) U):Tl (r.bind f) U:=by
 obtain ⟨x,rfl,y,e,q⟩:=h;exact ⟨y,e,q⟩
def Tl.mono{r:Res α}{Ψ:α->Prop}(h:Tl r Ψ)(k:∀x,Ψ x->U x):Tl r U:=by
 obtain ⟨x,e,q⟩:=h;exact ⟨x,e,k x q⟩
def Tl.eq{r:Res α}{x:α}(h:Tl r (·=x)):r=.ok x:=by
 obtain ⟨y,e,rfl⟩:=h;exact e
def SM{c:Bool}{A B:Res α}(hc:c=true)(h:Tl A U):Tl (if c=true then A else B) U:=by rw [iP hc];exact h
def SQ{c:Bool}{A B:Res α}(hc:c=false)(h:Tl B U):Tl (if c=true then A else B) U:=by rw [iN (by rw [hc];exact DX)];exact h
def w_dT{P:Prop} [Decidable P] {A B:Res α} (hc:P) (h:Tl A U):Tl (if decide P=true then A else B) U:=SM (Dp hc) h
def w_dF{P:Prop} [Decidable P] {A B:Res α} (hc:¬P) (h:Tl B U):Tl (if decide P=true then A else B) U:=SQ (Fz hc) h
def w_nT{P:Prop} [Decidable P] {A B:Res α} (hc:¬P) (h:Tl A U):Tl (if (!decide P)=true then A else B) U:=SM (by rw [Fz hc];rfl) h
def w_nF{P:Prop} [Decidable P] {A B:Res α} (hc:P) (h:Tl B U):Tl (if (!decide P)=true then A else B) U:=SQ (by rw [Dp hc];rfl) h
def CP{P:Prop} [Decidable P] {A B:Res α} (h1:P->Tl A U) (h2:¬P->Tl B U):Tl (if decide P=true then A else B) U:=by
 by_cases h:P
 .exact w_dT h (h1 h)
 .exact w_dF h (h2 h)
def Jw{P:Prop} [Decidable P] {A B:Res α} (h1:¬P->Tl A U) (h2:P->Tl B U):Tl (if (!decide P)=true then A else B) U:=by
 by_cases h:P
 .exact w_nF h (h2 h)
 .exact w_nT h (h1 h)
end
section
variable{U:D->Prop} {a b d:ME} {s t:MB} {m:MA}
def w_v{x:D}(e:Z[i]?=some (.im x))(h:U x):Tl (v i Z) U:=Af (by unfold v;rw [e];rfl) h
def w_v'(h:Tl (getC Z[i]?) U):Tl (v i Z) U:=h
def w_gC{o:Option Cl}{x:D}(e:o=some (.im x))(h:U x):Tl (getC o) U:=Af (by rw [e];rfl) h
def w_c{x:D}(h:U x):Tl (c x Z) U:=Ak h
def w_o1{f:D->Res D}(h:Tl (a Z) λx=>Tl (f x) U):Tl (o1 f a Z) U:=Ar h
def w_o2{f:D->D->Res D}(h:Tl (a Z) λx=>Tl (b Z) λy=>Tl (f x y) U):Tl (o2 f a b Z) U:=Ar (h.mono λ_ q=>Ar q)
def w_on{f:List D->Res D}(h:Tl (m Z) λxs=>Tl (f xs) U):Tl (on f m Z) U:=Ar h
def kY(h:Tl (m Z) λxs=>U (.tup xs)):Tl (mtp m Z) U:=Ar (h.mono λ_ q=>Ak q)
def RD(h:Tl (m Z) λxs=>U (.lst xs)):Tl (mls m Z) U:=Ar (h.mono λ_ q=>Ak q)
def jd(h:Tl (trb a Z) λx=>Tl (if x=true then b Z else .ok (.bl false)) U):Tl (eAnd a b Z) U:=Ar h
def eH(h:Tl (trb a Z) λx=>U (.bl (!x))):Tl (eNot a Z) U:=Ar (h.mono λ_ q=>Ak q)
def mL(h:Tl (t Z) λx=>Tl (if x=true then a Z else b Z) U):Tl (ife t a b Z) U:=Ar h
def ym{lo hi:Ev->Res (Option Int)}(h:Tl (a Z) λx=>Tl (lo Z) λl=>Tl (hi Z) λu=>Tl (dCut x l u) U):Tl (cut a lo hi Z) U:=Ar (h.mono λ_ q=>Ar (q.mono λ_ q=>Ar q))
def O5{it:MI}{own:Nat}{cap:List Nat}{g:MG}{e:ME}(h:Tl (it Z) λxs=>xs.length<=1000000/\Tl (Bc g t e (noA own (Bm Z cap)) xs) λys=>U (.lst ys)):Tl (comp it own cap g t e Z) U:=by
 refine Ar (h.mono λxs q=>?_);rw [iP (show xs.length<=LIM from q.1)];obtain ⟨ys,b,a⟩:=q.2;rw [b];exact Ak a
def w_fn{k:MS}{ds:List D}(h:Tl (k (ev0 n ds)) λf=>Tl (endOf f) U):Tl (fn n k ds) U:=Ar h
def Vp{x y:Int}(h:U (.int (x+y))):Tl (Ah (.int x) (.int y)) U:=Ak h
def Mq{x y:List D}(hl:x.length+y.length<=1000000)(h:U (.lst (x++y))):Tl (Ah (.lst x) (.lst y)) U:=Af (Zn6 hl) h
def w_sub{x y:Int}(h:U (.int (x - y))):Tl (dSub (.int x) (.int y)) U:=Ak h
def w_mul{x y:Int}(hm:Bl x y=true)(h:U (.int (x*y))):Tl (Ao (.int x) (.int y)) U:=Af (fV hm) h
def w_mod{x y:Int}(hy:0<y)(h:U (.int (x%y))):Tl (Aj (.int x) (.int y)) U:=Af (pK hy) h
def w_div{x y:Int}(hy:0<y)(hl:y.natAbs.log2<9000)(h:U (.int (x/y))):Tl (Aq (.int x) (.int y)) U:=Af (iZ hy hl) h
def w_divN{x y:Int}(hy:y<0)(hl:y.natAbs.log2<9000)(h:U (.int (x.fdiv y))):Tl (Aq (.int x) (.int y)) U:=Af (gn hy hl) h
def w_pow{x y:Int}(h0:0<=y)(h1:y<=1000000)(h2:x.natAbs<2^64)(h:U (.int (x^y.toNat))):Tl (dPow (.int x) (.int y)) U:=Af (sJ h0 h1 h2) h
def w_shl{x y:Int}(h0:0<=y)(h1:y<=1000000)(h2:x.natAbs<2^64)(h:U (.int (x*2^y.toNat))):Tl (dShl (.int x) (.int y)) U:=Af (yX h0 h1 h2) h
def w_shr{x y:Int}(h0:0<=y)(h:U (.int (x/2^y.toNat))):Tl (dShr (.int x) (.int y)) U:=Af (fJ h0) h
def qK{x:Int}(h:U (.int (-x))):Tl (dNeg (.int x)) U:=Ak h
def w_lt{x y:Int}(h:U (.bl (decide (x<y)))):Tl (dLt (.int x) (.int y)) U:=Ak h
def w_le{x y:Int}(h:U (.bl (decide (x<=y)))):Tl (dLe (.int x) (.int y)) U:=Ak h
def w_gt{x y:Int}(h:U (.bl (decide (y<x)))):Tl (dGt (.int x) (.int y)) U:=Ak h
def w_ge{x y:Int}(h:U (.bl (decide (y<=x)))):Tl (dGe (.int x) (.int y)) U:=Ak h
def xr{x y:Int}(h:U (.bl (decide (x=y)))):Tl (dEq (.int x) (.int y)) U:=Af (nM x y) h
def Zww{x y:Int}(h:U (.bl (!decide (x=y)))):Tl (dNe (.int x) (.int y)) U:=Af (Zq9 x y) h
def ZwI{x:D}(h:U (.bl (Gk x))):Tl (dIsN x) U:=Ak h
def ul{x:D}(h:U (.bl (!Gk x))):Tl (Ey x) U:=Ak h
def pC{xs:List D}(h:U (.int xs.length)):Tl (bLen [.lst xs]) U:=Ak h
def oN{xs:List D}(h:U (.int xs.length)):Tl (bLen [.tup xs]) U:=Ak h
def jY{ns:List Int}(h:U (.int ns.length)):Tl (bLen [.tup (ns.map .int)]) U:=Af (by rw [uT,Ad]) h
def Zrj{ns:List Int}(h:U (.int ns.length)):Tl (bLen [.lst (ns.map .int)]) U:=Af (by rw [zF,Ad]) h
def rW{x:Int}(h:U (.int x.natAbs)):Tl (bAbs [.int x]) U:=Af (j9 x) h
def mC{x y:Int}(h:U (.int (min x y))):Tl (bMin [.int x,.int y]) U:=Af (tD x y) h
def qG{xs:List D}(h:U (.tup xs)):Tl (bTup [.lst xs]) U:=Ak h
def iw{xs:List D}(h:U (.lst xs)):Tl (bLst [.lst xs]) U:=Ak h
def aY{xs:List D}{lo hi:Option Int}(h:U (.lst (cutL xs lo hi))):Tl (dCut (.lst xs) lo hi) U:=Ak h
def Zuw{xs:List D}{lo hi:Option Int}(h:U (.tup (cutL xs lo hi))):Tl (dCut (.tup xs) lo hi) U:=Ak h
end
section
variable{U:Bool->Prop} {a:ME} {s t:MB}
def jZ(h:Tl (a Z) λx=>Tl (tru x) U):Tl (trb a Z) U:=Ar h
def jf{b:Bool}(h:U b):Tl (tru (.bl b)) U:=Ak h
def zX(h:Tl (s Z) λx=>Tl (if x=true then t Z else .ok false) U):Tl (bAnd s t Z) U:=Ar h
def uF(h:Tl (s Z) λx=>Tl (if x=true then .ok true else t Z) U):Tl (bOr s t Z) U:=Ar h
def jP(h:Tl (s Z) λx=>U (!x)):Tl (bNot s Z) U:=Ar (h.mono λ_ q=>Ak q)
def jC(h:U true):Tl (yes Z) U:=Ak h
end
section
variable{U:List D->Prop} {a:ME} {m:MA}
def FT(h:U []):Tl (Ab Z) U:=Ak h
def Dg(h:Tl (a Z) λx=>Tl (m Z) λxs=>U (x::xs)):Tl (Aa a m Z) U:=Ar (h.mono λ_ q=>Ar (q.mono λ_ q=>Ak q))
def w_iv(h:Tl (a Z) λx=>Tl (items x) U):Tl (iv a Z) U:=Ar h
def Py{xs:List D}(h:U xs):Tl (items (.lst xs)) U:=Ak h
def nu{xs:List D}(h:U xs):Tl (items (.tup xs)) U:=Ak h
def w_r1(h:Tl (m Z) λxs=>Tl (rng1 xs) U):Tl (r1 m Z) U:=Ar h
def w_r2(h:Tl (m Z) λxs=>Tl (rng2 xs) U):Tl (r2 m Z) U:=Ar h
def YH{j:Int}(h0:-1000000000<=j/\j<=1000000000)(h:U (CN 0 j.toNat)):Tl (rng1 [.int j]) U:=Af (qy h0.1 h0.2) h
def sW(h:Tl (m Z) λxs=>Tl (PP xs) U):Tl (JC m Z) U:=Ar h
def gf{xs:List D}(h:U (numbered 0 xs)):Tl (PP [.lst xs]) U:=Ak h
def Qk{g:MG}{t:MB}{e:ME}(h:U []):Tl (Bc g t e Z []) U:=Ak h
def Fo{g:MG}{t:MB}{e:ME}{x:D}{r:List D}(h:Tl (g x Z) λZ1=>Tl (t Z1) λb=>Tl (if b=true then (e Z1).bind λy=>(Bc g t e Z r).bind λys=>.ok (y::ys) else Bc g t e Z r) U):Tl (Bc g t e Z (x::r)) U :=
 Ar (h.mono λ_ q=>Ar q)
end
section
variable{U:Option Int->Prop} {a:ME}
def Xw(h:U none):Tl (pno Z) U:=Ak h
def ZM(h:Tl (a Z) λx=>Tl (optI x) U):Tl (pso a Z) U:=Ar h
def aa{i:Int}(h:U (some i)):Tl (optI (.int i)) U:=Ak h
end
section
variable{U:Ev->Prop} {x:D}
def w_gN(h:U (Z.set i (.im x))):Tl (gN i x Z) U:=Ak h
def vO(h:U Z):Tl (gs0 [] Z) U:=Ak h
def Zw3{g:MG}{r:MGs}{ds:List D}(h:Tl (g x Z) λZ'=>Tl (r ds Z') U):Tl (gs1 g r (x::ds) Z) U:=Ar h
def mR{g:MGs}{xs:List D}(hl:xs.length=n)(h:Tl (g xs Z) U):Tl (gU n g (.lst xs) Z) U:=by
 show Tl (if xs.length=n then g xs Z else .bad) U
 rw [iP hl];exact h
def ZwQ{g:MGs}{xs:List D}(hl:xs.length=n)(h:Tl (g xs Z) U):Tl (gU n g (.tup xs) Z) U:=by
 show Tl (if xs.length=n then g xs Z else .bad) U
 rw [iP hl];exact h
end
section
variable{U:Fl->Prop} {a b:ME} {k l:MS} {t:MB}
def w_sq(h:Tl (k Z) λf=>Tl (goOn l f) U):Tl (sq k l Z) U:=Ar h
def w_gx(h:Tl (l Z) U):Tl (goOn l (.nx Z)) U:=h
def w_gr{x:D}(h:U (.rt x)):Tl (goOn l (.rt x)) U:=Ak h
def w_gc(h:U (.ct Z)):Tl (goOn l (.ct Z)) U:=Ak h
def w_st(h:Tl (a Z) λx=>U (.nx (Z.set i (.im x)))):Tl (st i a Z) U:=Ar (h.mono λ_ q=>Ak q)
def mY(h:Tl (a Z) λx=>U (.rt x)):Tl (ret a Z) U:=Ar (h.mono λ_ q=>Ak q)
def Rt(h:U (.nx Z)):Tl (nop Z) U:=Ak h
def iH(h:U (.ct Z)):Tl (cnt Z) U:=Ak h
def SN(h:Tl (a Z) λ_=>U (.nx Z)):Tl (drp a Z) U:=Ar (h.mono λ_ q=>Ak q)
def Zwv{g:MG}(h:Tl (a Z) λx=>Tl (g x Z) λZ'=>U (.nx Z')):Tl (asg g a Z) U:=Ar (h.mono λ_ q=>Ar (q.mono λ_ q=>Ak q))
def Jt(h:Tl (t Z) λx=>Tl (if x=true then k Z else l Z) U):Tl (ifs t k l Z) U:=Ar h
def R5{it:MI}{g:MG}(h:Tl (it Z) λxs=>Tl (BP g k xs Z) U):Tl (for_ it g k Z) U:=Ar h
def qx{fu:Ev->Nat}(h:Tl (whGo t k (fu Z) Z) U):Tl (whl fu t k Z) U:=h
def Nx(h:Tl (a Z) λx=>Tl (lstO x) λxs=>U (.nx (Z.set i (.ow xs)))):Tl (stO i a Z) U:=Ar (h.mono λ_ q=>Ar (q.mono λ_ q=>Ak q))
def K7{Ψ:List D->Prop}{xs:List D}(h:Ψ xs):Tl (lstO (.lst xs)) Ψ:=Ak h
def qd(h:Tl (getO Z[i]?) λxs=>Tl (k (Z.set i (.im (.lst xs)))) U):Tl (frz i k Z) U:=Ar h
def m9(h:Tl (getO Z[i]?) λxs=>Tl (a Z) λd=>xs.length<1000000/\U (.nx (Z.set i (.ow (xs++[d]))))):Tl (app i a Z) U:=by
 refine Ar (h.mono λxs q=>Ar (q.mono λd q=>?_));rw [iP (show xs.length<LIM from q.1)];exact Ak q.2
def w_gO{Ψ:List D->Prop}{o:Option Cl}{xs:List D}(e:o=some (.ow xs))(h:Ψ xs):Tl (getO o) Ψ:=Af (by rw [e];rfl) h
def w_eR{Ψ:D->Prop}{x:D}(h:Ψ x):Tl (endOf (.rt x)) Ψ:=Ak h
def w_eN{Ψ:D->Prop}(h:Ψ .non):Tl (endOf (.nx Z)) Ψ:=Ak h
def w_tx(h:Tl (k Z) U):Tl (turn k (.nx Z)) U:=h
def w_tr{x:D}(h:U (.rt x)):Tl (turn k (.rt x)) U:=Ak h
def w_f0{g:MG}(h:U (.nx Z)):Tl (BP g k [] Z) U:=Ak h
def w_f1{g:MG}{x:D}{r:List D}(h:Tl (g x Z) λZ1=>Tl (k Z1) λf=>Tl (turn (BP g k r) f) U):Tl (BP g k (x::r) Z) U:=Ar (h.mono λ_ q=>Ar q)
def Uv{g:MG}{xs:List D}(I:List D->Ev->Prop)(h0:I [] Z)(h:∀p x r,xs=p++x::r->∀Z,I p Z->Tl (g x Z) λZ1=>Tl (k Z1) λf=>∃Z2,f=.nx Z2/\I (p++[x]) Z2)(hd:∀Z,I xs Z->U (.nx Z)):Tl (BP g k xs Z) U:=by
 obtain ⟨d,e,i⟩:=aj (g:=g) (b:=k) I xs [] (λp x r l Z i=>by
  obtain ⟨Z1,j,f,c,Z2,rfl,a⟩:=h p x r l Z i
  exact ⟨Z1,Z2,j,c,a⟩) Z h0
 exact ⟨_,e,hd d i⟩
def w_wh{n:Nat}(I:Ev->Prop)(μ:Ev->Nat)(h0:I Z)(hm:μ Z<n)(h:∀Z,I Z->Tl (t Z) λb=>(b=true->Tl (k Z) λf=>∃Z2,f=.nx Z2/\I Z2/\μ Z2<μ Z)/\(b=false->U (.nx Z))):Tl (whGo t k n Z) U:=by
 induction n generalizing Z with
 | zero=>exact aB hm (Nat.not_lt_zero _)
 | succ n ih=>
  rw [Zlx];obtain ⟨b,e,q⟩:=h Z h0;rw [e];cases b with
  | true=>
   obtain ⟨f,c,Z2,rfl,a,d⟩:=q.1 rfl;show Tl ((k Z).bind (turn (whGo t k n))) U;rw [c];exact ih a (by omega)
  | false=>exact Ak (q.2 rfl)
def S8:∀{ns ms:List Int},ns.map D.int=ms.map D.int->ns=ms
 | [],[],_=>rfl
 | [],_::_,h=>by cases h
 | _::_,[],h=>by cases h
 | n::r,m::s,h=>by
  have a:D.int n=D.int m/\r.map D.int=s.map D.int:=by simpa using h
  rw [S8 a.2];cases a.1;rfl
end
def Ex{α:Type}{U:List D->Prop}{g:MG}{e:ME}{Z:Ev}{enc:α->D}(f:α->D):∀{l:List α},(∀a∈l,Tl (g (enc a) Z) λZ1=>Tl (e Z1) λy=>y=f a)->U (l.map f)->Tl (Bc g yes e Z (l.map enc)) U:=by
 intro l h q;have c:∀l:List α,(∀a∈l,Tl (g (enc a) Z) λZ1=>Tl (e Z1) λy=>y=f a)->Bc g yes e Z (l.map enc)=.ok (l.map f):=by
  intro l
  induction l with
  | nil=>exact λ_=>rfl
  | cons a r ih=>
   intro h;obtain ⟨Z1,j,y,d,rfl⟩:=h a BL;have z:=ih λb i=>h b (BW _ i);rw [Bb,Uo,j,Hj];unfold yes at z ⊢;rw [Hj,iP rfl,d,Hj,z];rfl
 exact Af (c l h) q
def w_all{U:List D->Prop}{g:MG}{e:ME}{Z:Ev}{xs:List D}(P:D->D->Prop)(h:∀x∈xs,Tl (g x Z) λZ1=>Tl (e Z1) λy=>P x y)(q:∀ys:List D,ys.length=xs.length->(∀(i:Nat) x y,xs[i]?=some x->ys[i]?=some y->P x y)->U ys):Tl (Bc g yes e Z xs) U:=by
 obtain ⟨ys,b,l,a⟩:=Zy (g:=g) (e:=e) (Z:=Z) P xs λx d=>by
  obtain ⟨Z1,b,y,c,a⟩:=h x d;exact ⟨Z1,y,b,c,a⟩
 exact ⟨ys,b,q ys l a⟩
section
variable{U:D->Prop}
def uN{x y:D}(h:Tl (dIx x y) U):Tl (dIx x y) U:=h
def uH{xs:List D}(h:Tl (bLen xs) U):Tl (bLen xs) U:=h
def ug{xs:List D}(h:Tl (bIsi xs) U):Tl (bIsi xs) U:=h
def Q0{α:Type}{xs:List α}{i:Nat}:at_ xs (i:Int)=xs[i]?:=by
 unfold at_;rw [iP (Int.natCast_nonneg i),Do]
def G5{xs:List D}{i:Int}(h:0<=i/\i<xs.length)(q:∀x∈xs,U x):Tl (dIx (.lst xs) (.int i)) U:=by
 obtain ⟨n,rfl⟩:=Int.eq_ofNat_of_zero_le h.1;have a:n<xs.length:=by omega
 rw [Qh,Q0,Aw a];exact Ak (q _ (Iv a))
def LC{ns:List Int}{i:Int}(h:-(ns.length:Int)<=i/\i<ns.length)(q:∀n∈ns,U (.int n)):Tl (dIx (.lst (ns.map .int)) (.int i)) U:=by
 rw [Qh];unfold at_;rw [Ad];by_cases h0:0<=i
 .have a:i.toNat<ns.length:=by omega
  rw [iP h0,Ca,Aw a];exact Ak (q _ (Iv a))
 .have a:(i+ns.length).toNat<ns.length:=by omega
  rw [iN h0,iP h.1,Ca,Aw a];exact Ak (q _ (Iv a))
end
mutual
def Yx:∀(x:D) (k:Nat),plain k x=true->eqD x x=true
 | .non,_,_=>rfl
 | .bl b,_,_=>by show (b==b)=true;simp
 | .int b,_,_=>by show (b==b)=true;simp
 | .str b,_,_=>by show (b==b)=true;simp
 | .tup xs,0,h=>by simp [plain] at h
 | .lst xs,0,h=>by simp [plain] at h
 | .tup xs,k+1,h=>UJ xs k (by simpa [plain] using h)
 | .lst xs,k+1,h=>UJ xs k (by simpa [plain] using h)
 | .ty _,k,h=>by cases k<;>simp [plain] at h
 | .cls _,k,h=>by cases k<;>simp [plain] at h
 | .exc _,k,h=>by cases k<;>simp [plain] at h
def UJ:∀(xs:List D) (k:Nat),BX k xs=true->eqDs xs xs=true
 | [],_,_=>rfl
 | x::xs,k,h=>by
  have a:plain k x=true/\BX k xs=true:=by simpa [BX] using h
  show (eqD x x&&eqDs xs xs)=true;rw [Yx x k a.1,UJ xs k a.2];rfl
end
def Hn(i:Nat)(Z:Ev):Nat:=((Z[i]?).map absC).getD 0
def VF:∀(Z:Ev) (i:Nat),Hn i Z<fuel Z
 | [],i=>by simp [Hn,fuel]
 | c::r,0=>by simp [Hn,fuel];omega
 | c::r,i+1=>by
  have:=VF r i;simp [Hn,fuel] at this ⊢;omega
def mem_range{n:Nat}{x:D}(h:x∈CN 0 n):∃k:Nat,k<n/\x=.int k:=by
 unfold CN at h;obtain ⟨k,a,rfl⟩:=Bk.mp h;exact ⟨k,DN.mp a,by rw [Int.zero_add]⟩
def Rz{U:D->Prop}{ys:List D}(h:∀y∈ys,y=.bl true)(q:U (.bl true)):Tl (bAll [.lst ys]) U:=by
 have d:∀ys:List D,(∀y∈ys,y=.bl true)->∃a,bools ys=.ok a/\a.all id=true:=by
  intro ys
  induction ys with
  | nil=>exact λ_=>⟨[],rfl,rfl⟩
  | cons y r ih=>
   intro h;obtain ⟨a,c,b⟩:=ih λz e=>h z (BW _ e);obtain rfl:=h y BL;exact ⟨true::a,by show (bools r).bind _=_;rw [c];rfl,by simpa using b⟩
 obtain ⟨a,c,b⟩:=d ys h;refine Af (x:=.bl true) ?_ q;show (bools ys).bind (λa=>Res.ok (D.bl (a.all id)))=_;rw [c];show Res.ok (D.bl (a.all id))=_;rw [b]
section
variable{U:D->Prop}
def w_pk{m:ME}(h:Tl (getO Z[i]?) λxs=>Tl (m (Z.set i (.im (.lst xs)))) λd=>Tl (Hu d) U):Tl (pk i m Z) U:=Ar (h.mono λ_ q=>Ar q)
def Ue{Ψ:Bool->Prop}{m:MB}(h:Tl (getO Z[i]?) λxs=>Tl (m (Z.set i (.im (.lst xs)))) Ψ):Tl (pkB i m Z) Ψ:=Ar h
def lU{n:Int}(h:U (.int n)):Tl (Hu (.int n)) U:=Ak h
def eF{x:D}{ys:List D}(h1:plain 50 x=true)(h2:BX 50 ys=true)(h:U (.bl (!inD x ys))):Tl (dNin x (.lst ys)) U:=by
 refine Af (x:=.bl (!inD x ys)) ?_ h;show (if (plain 50 x&&BX 50 ys)=true then Res.ok (D.bl (!inD x ys)) else .bad)=_
 rw [h1,h2];rfl
end
end Dl
namespace Dl
section
variable{U:D->Prop}
def w_p6(h:U (.int 1000000)):Tl (dPow (.int 10) (.int 6)) U:=Af rfl h
end
end Dl
namespace Dl
section
variable{Ψ:List D->Prop}{U:D->Prop} {m:MA} {xs ys zs:List D} {a b:ME}
def n7(h:U (.lst (trips xs ys zs))):Tl (lz3 [.tup xs,.tup ys,.tup zs]) U:=Ak h
end
end Dl
namespace Mt
def gcdL(g:Nat):List Int->Nat
 | []=>g
 | x::r=>gcdL (Nat.gcd g x.natAbs) r
def aZ(a b:Nat):Nat.gcd b (a%b)=Nat.gcd a b:=by
 rw [Nat.gcd_comm a b,Nat.gcd_rec b a,Nat.gcd_comm]
def dM(t b:Int):gcdL 0 [t,b]=Int.gcd t b:=by
 show Nat.gcd (Nat.gcd 0 t.natAbs) b.natAbs=_;rw [Nat.gcd_zero_left];rfl
def frT(t b:Int):Int:=if b<0 then t.fdiv (-(Int.gcd t b:Int)) else t.fdiv (Int.gcd t b:Int)
def frB(t b:Int):Int:=if b<0 then b.fdiv (-(Int.gcd t b:Int)) else b.fdiv (Int.gcd t b:Int)
def O8{t b:Int}(h:b≠0):0<Int.gcd t b:=Int.gcd_pos_of_ne_zero_right t h
def RC{a d q:Int}(h:a=d*q)(hd:d≠0):a.fdiv d=q:=by
 subst h;exact Int.mul_fdiv_cancel_left q hd
structure Fr(t b p q:Int):Prop where
 pos:1<=q
 low:Int.gcd p q=1
 same:p*b=t*q
 np:p.natAbs<=t.natAbs
 nq:q.natAbs<=b.natAbs
def ZL{t b:Int}(h:b≠0):Fr t b (frT t b) (frB t b):=by
 have l:=O8 (t:=t) h;obtain ⟨p,f⟩:=Int.gcd_dvd_left t b;obtain ⟨q,i⟩:=Int.gcd_dvd_right t b;have k:(0:Int)<(Int.gcd t b:Int):=Int.natCast_pos.mpr l;have c:Int.gcd p q=1:=by
  have e:Int.gcd ((Int.gcd t b:Int)*p) ((Int.gcd t b:Int)*q)=Int.gcd t b*Int.gcd p q:=by
   rw [Int.gcd_mul_left,Lh]
  rw [<-f,<-i] at e;have o:Int.gcd t b*Int.gcd p q=Int.gcd t b*1:=by rw [Nat.mul_one];exact e.symm
  exact Nat.eq_of_mul_eq_mul_left l o
 unfold frT frB;generalize Int.gcd t b=g at *;have a:∀{x y:Int},x=(g:Int)*y->y.natAbs<=x.natAbs:=λ{x y} e=>by
  rw [e,Int.natAbs_mul,Lh];exact Nat.le_mul_of_pos_left _ l
 have d:p*b=t*q:=by
  rw [i,f,Int.mul_left_comm,Int.mul_assoc]
 have j:-(g:Int)≠0:=by omega
 by_cases hb:b<0
 .rw [iP hb,iP hb,RC (q:=-p) (by rw [Int.neg_mul_neg];exact f) j,RC (q:=-q) (by rw [Int.neg_mul_neg];exact i) j];have m:q<0:=by
   rcases Int.lt_or_le q 0 with z | z
   .exact z
   .have n:0<=(g:Int)*q:=Int.mul_nonneg (Int.le_of_lt k) z;omega
  exact ⟨by omega,by rw [Int.gcd_neg,Int.neg_gcd];exact c,by rw [Int.neg_mul,Int.mul_neg,d],by rw [Int.natAbs_neg];exact a f,by rw [Int.natAbs_neg];exact a i⟩
 .rw [iN hb,iN hb,RC (q:=p) f (Int.ne_of_gt k),RC (q:=q) i (Int.ne_of_gt k)];have m:1<=q:=by
   rcases Int.lt_or_le 0 q with z | z
   .exact z
   .have n:(g:Int)*q<=0:=Int.mul_nonpos_of_nonneg_of_nonpos (Int.le_of_lt k) z;omega
  exact ⟨m,c,d,a f,a i⟩
def ZvE{p q r s:Int}(h1:1<=q)(h2:Int.gcd p q=1)(h3:1<=s)(h4:Int.gcd r s=1)(e:p*s=r*q):p=r/\q=s:=by
 have c:q∣s:=by
  have z:q∣p*s:=⟨r,by rw [e,Int.mul_comm]⟩;have a:q.natAbs∣p.natAbs*s.natAbs:=by rw [<-Int.natAbs_mul];exact Nv.mpr z
  exact Nv.mp (Nat.Coprime.dvd_of_dvd_mul_left (k:=q.natAbs) (m:=p.natAbs) (by show Nat.gcd _ _=1;rw [Nat.gcd_comm];exact h2) a)
 have d:s∣q:=by
  have z:s∣r*q:=⟨p,by rw [<-e,Int.mul_comm]⟩;have a:s.natAbs∣r.natAbs*q.natAbs:=by rw [<-Int.natAbs_mul];exact Nv.mpr z
  exact Nv.mp (Nat.Coprime.dvd_of_dvd_mul_left (k:=s.natAbs) (m:=r.natAbs) (by show Nat.gcd _ _=1;rw [Nat.gcd_comm];exact h4) a)
 have b:q=s:=Int.le_antisymm (Int.le_of_dvd (by omega) c) (Int.le_of_dvd (by omega) d);subst b;exact ⟨Int.eq_of_mul_eq_mul_right (by omega) e,rfl⟩
def T8{a d:Int}(h:0<d):(a.fdiv d).natAbs<=a.natAbs:=by
 rw [QJ a (Int.le_of_lt h)];have e:=Int.emod_add_mul_ediv a d;have i:=Gq a (Int.ne_of_gt h);have f:=G4 a h;rcases Int.lt_or_le a 0 with z | z
 .have c:a/d<0:=Int.ediv_neg_of_neg_of_pos z h;have:a<=a/d:=by
   have g:a=a%d+d*(a/d):=e.symm;have:d*(a/d)<=1*(a/d):=Int.mul_le_mul_of_nonpos_right (by omega) (by omega);rcases Int.lt_or_le a (a/d+1) with z | z
   .omega
   .exfalso;have b:(d - 1)*(a/d)<=(d - 1)*(-1):=Qu (by omega) (by omega);rw [Int.sub_mul] at b;omega
  omega
 .have c:0<=a/d:=Int.ediv_nonneg z (Int.le_of_lt h);have:a/d<=a:=Int.ediv_le_self d z;omega
end Mt
end
end
local macro_rules|`(tactic|ac_rfl)=>`(tactic|first|lia|omega)
local macro_rules | `(tactic| walk_at "sm")=>`(tactic| first | assumption | exact Dl.Sm.of64 (by ac_rfl) (by ac_rfl) | exact Dl.Sm.mul (by walk_at "sm") (by walk_at "sm") | exact Dl.Sm.add (by walk_at "sm") (by walk_at "sm") | exact Dl.Sm.sub (by walk_at "sm") (by walk_at "sm") | exact Dl.Sm.neg (by walk_at "sm") | exact Dl.Sm.min (by walk_at "sm") (by walk_at "sm") | exact Dl.Sm.max (by walk_at "sm") (by walk_at "sm"))
local macro_rules | `(tactic| walk_at "mo")=>`(tactic| first | assumption | exact Dl.mK (Dl.Sm.of64 (by ac_rfl) (by ac_rfl)) | exact Dl.jG (Dl.Sm.of64 (by ac_rfl) (by ac_rfl)) | exact Dl.Cw (by walk_at "sm") (by walk_at "sm") (by decide))
local macro_rules | `(tactic| walk_at "lg")=>`(tactic| first | assumption | decide | exact Dl.Sm.log (by walk_at "sm") (by decide))
local macro_rules | `(tactic| walk_at "w1")=>`(tactic| first
 | ((with_reducible refine Dl.w_v' ?_);refine Dl.w_gC rfl ?_) |(with_reducible first |refine Dl.w_o2 ?_ |refine Dl.w_c ?_ |refine Dl.w_on ?_ |refine Dl.Dg ?_ |refine Dl.FT ?_ |refine Dl.w_sq ?_ |refine Dl.w_gx ?_ |refine Dl.w_st ?_ |refine Dl.Jt ?_ |refine Dl.jZ ?_ |refine Dl.jf ?_) 
 | with_reducible refine Dl.Vp ?_ | with_reducible refine Dl.w_sub ?_ | ((with_reducible refine Dl.w_mul ?_ ?_);walk_at "mo") | ((with_reducible refine Dl.w_mod ?_ ?_);(first | decide | ac_rfl)) | ((with_reducible refine Dl.w_div ?_ ?_ ?_);(first | decide | ac_rfl);walk_at "lg")
 |(with_reducible first |refine Dl.w_lt ?_ |refine Dl.w_le ?_ |refine Dl.w_gt ?_ |refine Dl.w_ge ?_ |refine Dl.xr ?_ |refine Dl.Zww ?_ |refine Dl.zX ?_ |refine Dl.uF ?_ |refine Dl.jP ?_) 
 |(with_reducible first |refine Dl.mY ?_ |refine Dl.w_gr ?_ |refine Dl.w_eR ?_ |refine Dl.Rt ?_ |refine Dl.kY ?_ |refine Dl.RD ?_ |refine Dl.w_fn ?_ |refine Dl.w_o1 ?_ |refine Dl.jd ?_ |refine Dl.w_eOr ?_ |refine Dl.eH ?_ |refine Dl.mL ?_ |refine Dl.w_chain ?_) 
 |(with_reducible first |refine Dl.jY ?_ |refine Dl.Zrj ?_ |refine Dl.pC ?_ |refine Dl.oN ?_ |refine Dl.rW ?_ |refine Dl.w_max ?_ |refine Dl.mC ?_ |refine Dl.qG ?_ |refine Dl.w_tupT ?_ |refine Dl.iw ?_ |refine Dl.w_lstT ?_ |refine Dl.qK ?_) 
 |(with_reducible first |refine Dl.ym ?_ |refine Dl.Xw ?_ |refine Dl.ZM ?_ |refine Dl.aa ?_ |refine Dl.aY ?_ |refine Dl.Zuw ?_ |refine Dl.w_iv ?_ |refine Dl.Py ?_ |refine Dl.nu ?_ |refine Dl.w_r1 ?_) | ((with_reducible refine Dl.YH ?_ ?_);ac_rfl) |(with_reducible first |refine Dl.w_gN ?_ |refine Dl.vO ?_ |refine Dl.Zw3 ?_) 
 | ((with_reducible refine Dl.ZwQ ?_ ?_);exact rfl) | ((with_reducible refine Dl.mR ?_ ?_);exact rfl) |(with_reducible first |refine Dl.SN ?_ |refine Dl.Zwv ?_ |refine Dl.w_par ?_ |refine Dl.R5 ?_ |refine Dl.qx ?_ |refine Dl.w_zip ?_ |refine Dl.w_zip2 ?_ |refine Dl.w_zipTL ?_ |refine Dl.w_zipLT ?_ |refine Dl.w_zipTT ?_ |refine Dl.w_iz3 ?_ |refine Dl.w_zip3T ?_ |refine Dl.n7 ?_ |refine Dl.w_mLst ?_ |refine Dl.sW ?_ |refine Dl.gf ?_ |refine Dl.O5 ?_) 
 |(with_reducible first |refine Dl.w_retN ?_ |refine Dl.w_eN ?_ |refine Dl.w_brk ?_ |refine Dl.iH ?_ |refine Dl.w_gb ?_ |refine Dl.w_gc ?_ |refine Dl.ZwI ?_ |refine Dl.ul ?_ |refine Dl.w_p6 ?_ |refine Dl.w_p8 ?_ |refine Dl.w_p20 ?_) | ((with_reducible refine Dl.w_pow ?_ ?_ ?_ ?_);decide;decide;decide) | ((with_reducible refine Dl.w_shl ?_ ?_ ?_ ?_);decide;decide;decide) | ((with_reducible refine Dl.w_shr ?_ ?_);ac_rfl) | with_reducible refine Dl.jC ?_
 |(with_reducible first |refine Dl.w_tx ?_ |refine Dl.w_tc ?_ |refine Dl.w_tb ?_ |refine Dl.w_tr ?_ |refine Dl.w_max3 ?_ |refine Dl.w_sum ?_ |refine Dl.w_rev ?_) | ((with_reducible refine Dl.Ue ?_);refine Dl.w_gO rfl ?_) | ((with_reducible refine Dl.w_pk ?_);refine Dl.w_gO rfl ?_) |(with_reducible first |refine Dl.lU ?_ |refine Dl.w_scB ?_ |refine Dl.w_endT ?_ |refine Dl.Nx ?_ |refine Dl.K7 ?_) | ((with_reducible refine Dl.qd ?_);refine Dl.w_gO rfl ?_) | ((with_reducible refine Dl.m9 ?_);refine Dl.w_gO rfl ?_) | ((with_reducible refine Dl.uN ?_);refine Dl.Af rfl ?_) | ((with_reducible refine Dl.ug ?_);refine Dl.Af rfl ?_) | ((with_reducible refine Dl.uH ?_);refine Dl.Af rfl ?_) | with_reducible refine Dl.Ak ?_ | with_reducible refine Dl.Ar ?_)
local macro_rules | `(tactic| walk_at "wi")=>`(tactic| first | ((with_reducible refine Dl.SM ?_ ?_);exact rfl) | ((with_reducible refine Dl.SQ ?_ ?_);exact rfl) | ((with_reducible refine Dl.w_dT ?_ ?_);first | assumption | ac_rfl) | ((with_reducible refine Dl.w_dF ?_ ?_);first | assumption | ac_rfl) | ((with_reducible refine Dl.w_nT ?_ ?_);first | assumption | ac_rfl) | ((with_reducible refine Dl.w_nF ?_ ?_);first | assumption | ac_rfl))
local macro_rules | `(tactic| walk_at "wr")=>`(tactic| (refine Dl.Af rfl ?_))
local macro_rules | `(tactic| walk_at "w")=>`(tactic| (repeat (first | walk_at "w1" | walk_at "wi"));try dsimp only [List.set_cons_zero,List.set_cons_succ,Dl.ev0,Dl.evF,Dl.noA,Dl.Bm,Dl.imOf,List.getElem?_cons_zero,List.getElem?_cons_succ,Nat.reduceAdd,Nat.reduceSub])
local macro_rules | `(tactic| symm)=>`(tactic| walk_at "w")
namespace My
open PySem Dl
def objs:List Str:=["Plain","Shaded","Patterned","Glass"]
def Hi:List D->Res D:=fn 2
  (sq (ifs (trb (o2 dLt (v 1) (on bLen (Aa (v 0) Ab))))
  (ret (o2 dIx (v 0) (v 1)))
  nop)
  (ret (c (.int 0))))
def Ls:List D->Res D:=fn 8
  (sq (st 4 (o2 Aq (o2 dSub (o2 Ah (v 0) (v 2)) (c (.int 1))) (v 2)))
  (sq (stO 5 (mls Ab))
  (sq (for_ (r1 (Aa (v 1) Ab)) (gN 6)
  (for_ (r1 (Aa (v 0) Ab)) (gN 7)
  (ifs (trb (o2 dEq (o2 Ah (o2 Ao (o2 Aq (v 6) (v 2)) (v 4)) (o2 Aq (v 7) (v 2))) (v 3)))
  (app 5 (mtp (Aa (v 7) (Aa (v 6) Ab))))
  nop)))
  (frz 5 (ret (v 5))))))
def Jj:List D->Res D:=fn 2
  (for_ (iv (v 0)) (gN 1)
  (ifs (trb (o2 dLe (o2 dIx (v 1) (c (.int 2))) (c (.int 0))))
  (rse "BadTriangle" (Aa (c (.str "only corners with w above 0 are thrown onto the floor")) Ab))
  nop))
def Gg:List D->Res D:=fn 1
  (ret (eAnd (on bIsi (Aa (v 0) (Aa (c (.ty "int")) Ab))) (eNot (on bIsi (Aa (v 0) (Aa (c (.ty "bool")) Ab))))))
def PK:List D->Res D:=fn 1
  (sq (ifs (bOr (bNot (trb (on bIsi (Aa (v 0) (Aa (c (.ty "tuple")) Ab))))) (trb (o2 dGt (on bLen (Aa (v 0) Ab)) (c (.int 3)))))
  (ret (c (.bl false)))
  nop)
  (ret (on bAll (Aa (comp (iv (v 0)) 1 [] (gN 0) yes (on Gg (Aa (v 0) Ab))) Ab))))
def QZ:List D->Res D:=fn 1
  (sq (ifs (bOr (bNot (trb (on bIsi (Aa (v 0) (Aa (c (.ty "tuple")) Ab))))) (trb (o2 dNe (on bLen (Aa (v 0) Ab)) (c (.int 5)))))
  (ret (c (.bl false)))
  nop)
  (sq (ifs (bNot (trb (on bAll (Aa (comp (iv (cut (v 0) pno (pso (c (.int 4))))) 1 [] (gN 0) yes (on Gg (Aa (v 0) Ab))) Ab))))
  (ret (c (.bl false)))
  nop)
  (ret (eAnd (o2 dGe (o2 dIx (v 0) (c (.int 3))) (c (.int 1))) (on PK (Aa (o2 dIx (v 0) (c (.int 4))) Ab))))))
def O6:List D->Res D:=fn 2
  (sq (ifs (bOr (bNot (trb (on bIsi (Aa (v 0) (Aa (c (.ty "tuple")) Ab))))) (trb (o2 dNe (on bLen (Aa (v 0) Ab)) (c (.int 3)))))
  (rse "BadTriangle" (Aa (c (.str "a triangle is a tuple of three corners")) Ab))
  nop)
  (for_ (iv (v 0)) (gN 1)
  (sq (ifs (bNot (trb (on QZ (Aa (v 1) Ab))))
  (rse "BadTriangle" (Aa (c (.str "a corner is a tuple (x, y, w, h, values) of whole numbers, h from 1 on")) Ab))
  nop)
  (ifs (trb (o2 dNe (on bLen (Aa (o2 dIx (v 1) (c (.int 4))) Ab)) (on bLen (Aa (o2 dIx (o2 dIx (v 0) (c (.int 0))) (c (.int 4))) Ab))))
  (rse "BadTriangle" (Aa (c (.str "the corners of a triangle have as many values each")) Ab))
  nop))))
def Ik:List D->Fs->Res Fs:=fnI 2
  (iDrp (on O6 (Aa (v 1) Ab))
  (iDrp (on Jj (Aa (v 1) Ab))
  (iSet "triangle" (v 1)
  iEnd)))
def JD:List D->Res D:=fn 5
  (sq (st 1 (c (.int 0)))
  (sq (for_ (iv (v 0)) (gN 2)
  (sq (st 3 (on bAbs (Aa (v 2) Ab)))
  (whl fuel (trb (o2 dNe (v 3) (c (.int 0))))
  (sq (st 4 (o2 Aj (v 1) (v 3)))
  (sq (st 1 (v 3))
  (st 3 (v 4)))))))
  (ret (v 1))))
def KR:List D->Res D:=fn 1
  (sq (ifs (bOr (bNot (trb (on bIsi (Aa (v 0) (Aa (c (.ty "tuple")) Ab))))) (trb (o2 dNe (on bLen (Aa (v 0) Ab)) (c (.int 2)))))
  (ret (c (.bl false)))
  nop)
  (sq (ifs (bOr (bNot (trb (on Gg (Aa (o2 dIx (v 0) (c (.int 0))) Ab)))) (bNot (trb (on Gg (Aa (o2 dIx (v 0) (c (.int 1))) Ab)))))
  (ret (c (.bl false)))
  nop)
  (ret (eAnd (o2 dGe (o2 dIx (v 0) (c (.int 1))) (c (.int 1))) (o2 dEq (on JD (Aa (v 0) Ab)) (c (.int 1)))))))
def Ng:List D->Res D:=fn 1
  (ifs (bNot (trb (on KR (Aa (v 0) Ab))))
  (rse "BadThing" (Aa (c (.str "a colour is a fraction in lowest terms")) Ab))
  nop)
def QS:List D->Res D:=fn 1
  (ifs (bOr (bNot (trb (on KR (Aa (v 0) Ab)))) (bOr (trb (o2 dLt (o2 dIx (v 0) (c (.int 0))) (c (.int 0)))) (trb (o2 dGt (o2 dIx (v 0) (c (.int 0))) (o2 dIx (v 0) (c (.int 1)))))))
  (rse "BadThing" (Aa (c (.str "a part is a fraction in lowest terms, from 0 to 1")) Ab))
  nop)
def Jg:List D->Fs->Res Fs:=fnI 4
  (iSup Ik (Aa (v 1) Ab)
  (iDrp (on Ng (Aa (v 2) Ab))
  (iDrp (on QS (Aa (v 3) Ab))
  (iSet "colour" (v 2)
  (iSet "part" (v 3)
  iEnd)))))
def JB:List D->Fs->Res Fs:=fnI 3
  (iSup Ik (Aa (v 1) Ab)
  (iDrp (on Ng (Aa (v 2) Ab))
  (iSet "colour" (v 2)
  iEnd)))
def N5:List D->Res D:=fn 3
  (sq (st 1 (o2 dIx (mls (Aa (c (.int 1)) (Aa (c (.int 4)) (Aa (c (.int 9)) (Aa (c (.int 100)) Ab))))) (o2 Aj (v 0) (c (.int 4)))))
  (sq (stO 2 (mls (Aa (mtp (Aa (o1 dNeg (c (.int 20))) (Aa (o1 dNeg (c (.int 20))) (Aa (c (.int 2)) (Aa (v 1) (Aa (mtp (Aa (c (.int 1)) (Aa (c (.int 2)) Ab))) Ab)))))) (Aa (mtp (Aa (c (.int 60)) (Aa (o1 dNeg (c (.int 20))) (Aa (c (.int 2)) (Aa (v 1) (Aa (mtp (Aa (c (.int 3)) (Aa (c (.int 0)) Ab))) Ab)))))) (Aa (mtp (Aa (o1 dNeg (c (.int 20))) (Aa (c (.int 60)) (Aa (c (.int 2)) (Aa (v 1) (Aa (mtp (Aa (c (.int 0)) (Aa (c (.int 5)) Ab))) Ab)))))) Ab)))))
  (sq (ifs (trb (o2 dEq (o2 Aj (o2 Aq (v 0) (c (.int 4))) (c (.int 3))) (c (.int 0))))
  (seti 2 (c (.int 1)) (mtp (Aa (c (.int 60)) (Aa (o1 dNeg (c (.int 20))) (Aa (c (.int 2)) (Aa (o2 Ah (c (.int 1)) (o2 Aj (o2 Aq (v 0) (c (.int 16))) (c (.int 9)))) (Aa (mtp (Aa (c (.int 3)) (Aa (c (.int 0)) Ab))) Ab)))))))
  nop)
  (sq (ifs (trb (o2 dEq (o2 Aj (o2 Aq (v 0) (c (.int 64))) (c (.int 3))) (c (.int 0))))
  (frz 2 (ret (make "Glass" Jg (Aa (on bTup (Aa (v 2) Ab)) (Aa (mtp (Aa (c (.int 4)) (Aa (c (.int 1)) Ab))) (Aa (mtp (Aa (c (.int 1)) (Aa (c (.int 2)) Ab))) Ab))))))
  nop)
  (frz 2 (ret (make "Plain" JB (Aa (on bTup (Aa (v 2) Ab)) (Aa (mtp (Aa (o2 Aj (o2 Aq (v 0) (c (.int 256))) (c (.int 9))) (Aa (c (.int 1)) Ab))) Ab)))))))))
def K5:List D->Res D:=fn 3
  (sq (ifs (bAnd (trb (o2 dGe (v 0) (o2 dShl (c (.int 1)) (c (.int 90))))) (bAnd (trb (o2 dEq (o2 Aj (v 0) (c (.int 2))) (c (.int 1)))) (trb (o2 dGt (o2 dShr (v 0) (o2 Ah (c (.int 1)) (o2 Ao (c (.int 31)) (v 1)))) (c (.int 0))))))
  (ret (o2 Aj (o2 dShr (v 0) (o2 Ah (c (.int 1)) (o2 Ao (c (.int 31)) (v 1)))) (c (.int 2147483648))))
  nop)
  (sq (st 2 (o2 Aj (o2 Ao (o2 Ah (o2 Ah (v 0) (o2 Ao (c (.int 7919)) (v 1))) (c (.int 1))) (c (.int 48271))) (c (.int 2147483647))))
  (sq (st 2 (o2 Aj (o2 Ao (v 2) (o2 Ah (o2 Aq (v 2) (c (.int 1009))) (c (.int 69621)))) (c (.int 2147483647))))
  (ret (o2 Aj (o2 Ao (v 2) (o2 Ah (o2 Ah (o2 Aq (v 2) (c (.int 2003))) (c (.int 39373))) (v 1))) (c (.int 2147483629)))))))
def H9:List D->Res D:=fn 2
  (ret (comp (r1 (Aa (v 1) Ab)) 1 [0] (gN 0) yes (on K5 (Aa (v 1) (Aa (v 0) Ab)))))
def Qe:List D->Res D:=fn 5
  (sq (stO 2 (on bLR (Aa (v 1) Ab)))
  (sq (stO 3 (mls Ab))
  (sq (st 4 (c (.int 0)))
  (sq (whl fuel (pkB 2 (trb (o2 QX (v 2) (mls Ab))))
  (sq (appP 3 2 (pk 2 (o2 Aj (o2 Aq (o2 dIx (v 0) (o2 Aj (v 4) (c (.int 4)))) (o2 Ah (v 4) (c (.int 1)))) (on bLen (Aa (v 2) Ab)))))
  (st 4 (o2 Ah (v 4) (c (.int 1))))))
  (frz 3 (ret (v 3)))))))
def Oz:List D->Res D:=fn 5
  (sq (st 1 (on H9 (Aa (v 0) (Aa (c (.int 17)) Ab))))
  (sq (stO 2 (mls Ab))
  (sq (for_ (iv (cut (v 1) (pso (c (.int 1))) (pso (o2 Ah (c (.int 2)) (o2 dIx (mls (Aa (o2 Aj (o2 Aq (o2 dIx (v 1) (c (.int 0))) (c (.int 8))) (c (.int 3))) (Aa (o2 Aj (o2 Aq (o2 dIx (v 1) (c (.int 0))) (c (.int 8))) (c (.int 16))) Ab))) (on bInt (Aa (o2 dEq (o2 Aj (o2 dIx (v 1) (c (.int 0))) (c (.int 8))) (c (.int 7))) Ab))))))) (gN 3)
  (sq (st 4 (mtp (Aa (o2 Ah (c (.int 1)) (o2 Aj (v 3) (c (.int 7)))) (Aa (o2 Ah (c (.int 1)) (o2 Aj (o2 Aq (v 3) (c (.int 7))) (c (.int 7)))) Ab))))
  (sq (ifs (trb (o2 dEq (o2 Aj (o2 Aq (v 3) (c (.int 64))) (c (.int 3))) (c (.int 0))))
  (st 4 (mtp (Aa (c (.int 4)) (Aa (c (.int 4)) Ab))))
  nop)
  (ifs (pkB 2 (trb (o2 dNin (v 4) (v 2))))
  (app 2 (v 4))
  nop))))
  (frz 2 (ret (v 2))))))
def NK:List D->Res D:=fn 2
  (sq (ifs (bOr (bNot (trb (on bIsi (Aa (v 0) (Aa (c (.ty "list")) Ab))))) (trb (o2 dNin (on bLen (Aa (v 0) Ab)) (c (.tup [.int 1,.int 2,.int 4,.int 8,.int 16])))))
  (rse "BadPattern" (Aa (c (.str "a pattern is a list of 1, 2, 4, 8 or 16 rows")) Ab))
  nop)
  (for_ (iv (v 0)) (gN 1)
  (sq (ifs (bOr (bNot (trb (on bIsi (Aa (v 1) (Aa (c (.ty "list")) Ab))))) (trb (o2 dNin (on bLen (Aa (v 1) Ab)) (c (.tup [.int 1,.int 2,.int 4,.int 8,.int 16])))))
  (rse "BadPattern" (Aa (c (.str "a row of a pattern is a list of 1, 2, 4, 8 or 16 fractions")) Ab))
  nop)
  (sq (ifs (trb (o2 dNe (on bLen (Aa (v 1) Ab)) (on bLen (Aa (o2 dIx (v 0) (c (.int 0))) Ab))))
  (rse "BadPattern" (Aa (c (.str "the rows of a pattern have as many fractions each")) Ab))
  nop)
  (ifs (bNot (trb (on bAll (Aa (comp (iv (v 1)) 1 [] (gN 0) yes (on KR (Aa (v 0) Ab))) Ab))))
  (rse "BadPattern" (Aa (c (.str "what stands in a pattern is a fraction in lowest terms")) Ab))
  nop)))))
def Mz:List D->Res D:=fn 2
  (ifs (trb (o2 dLt (on bLen (Aa (o2 dIx (o2 dIx (v 0) (c (.int 0))) (c (.int 4))) Ab)) (v 1)))
  badS
  nop)
def LQ:List D->Res D:=fn 1
  (ret (comp (iv (v 0)) 1 [] (gN 0) yes (on bLst (Aa (v 0) Ab))))
def NQ:List D->Fs->Res Fs:=fnI 3
  (iSup Ik (Aa (v 1) Ab)
  (iDrp (on Mz (Aa (v 1) (Aa (c (.int 2)) Ab)))
  (iDrp (on NK (Aa (v 2) Ab))
  (iSet "pattern" (on LQ (Aa (v 2) Ab))
  iEnd))))
def Ms:List D->Fs->Res Fs:=fnI 2
  (iSup Ik (Aa (v 1) Ab)
  (iDrp (on Mz (Aa (v 1) (Aa (c (.int 1)) Ab)))
  iEnd))
def Ef:List D->Res D:=fn 3
  (sq (st 2 (on JD (Aa (mls (Aa (v 0) (Aa (v 1) Ab))) Ab)))
  (sq (ifs (trb (o2 dLt (v 1) (c (.int 0))))
  (st 2 (o1 dNeg (v 2)))
  nop)
  (ret (mtp (Aa (o2 Aq (v 0) (v 2)) (Aa (o2 Aq (v 1) (v 2)) Ab))))))
def Q8:List D->Res D:=fn 9
  (sq (st 2 (o2 dIx (mls (Aa (c (.int 1)) (Aa (c (.int 2)) (Aa (c (.int 4)) (Aa (c (.int 16)) Ab))))) (o2 Aj (v 0) (c (.int 4)))))
  (sq (st 3 (o2 dIx (mls (Aa (c (.int 1)) (Aa (c (.int 2)) (Aa (c (.int 8)) (Aa (c (.int 4)) Ab))))) (o2 Aj (o2 Aq (v 0) (c (.int 4))) (c (.int 4)))))
  (sq (stO 4 (mls Ab))
  (sq (for_ (r1 (Aa (v 2) Ab)) (gN 5)
  (sq (stO 6 (mls Ab))
  (sq (for_ (r1 (Aa (v 3) Ab)) (gN 7)
  (sq (st 8 (on K5 (Aa (v 1) (Aa (o2 Ah (o2 Ao (c (.int 20)) (v 5)) (v 7)) Ab))))
  (app 6 (o2 dIx (mls (Aa (mtp (Aa (o2 Aj (v 8) (c (.int 7))) (Aa (c (.int 1)) Ab))) (Aa (on Ef (Aa (o2 dSub (v 8) (o2 dPow (c (.int 10)) (c (.int 9)))) (Aa (o2 Ah (c (.int 1)) (o2 Aj (o2 Aq (v 8) (c (.int 9))) (c (.int 99)))) Ab))) Ab))) (o2 Aj (o2 Aq (v 0) (c (.int 16))) (c (.int 2)))))))
  (frz 6 (app 4 (v 6))))))
  (frz 4 (ret (v 4)))))))
def Qp:List D->Res D:=fn 10
  (sq (asg (gU 4 (gs1 (gN 2) (gs1 (gN 3) (gs1 (gN 4) (gs1 (gN 5) gs0))))) (v 0))
  (sq (st 6 (mls (Aa (mtp (Aa (o2 dSub (o2 Aj (o2 Aq (v 2) (c (.int 8))) (c (.int 9))) (c (.int 2))) (Aa (c (.int 1)) Ab))) (Aa (on Ef (Aa (o2 Ah (o2 Ao (c (.int 2)) (o2 Aj (o2 Aq (v 2) (c (.int 8))) (c (.int 9)))) (c (.int 1))) (Aa (c (.int 2)) Ab))) (Aa (on Ef (Aa (o2 dSub (v 3) (o2 dPow (c (.int 10)) (c (.int 9)))) (Aa (o2 Ah (c (.int 1)) (v 4)) Ab))) Ab)))))
  (sq (st 6 (o2 dIx (v 6) (o2 Aj (o2 Aq (v 2) (c (.int 128))) (c (.int 3)))))
  (sq (st 7 (o2 Aj (v 2) (c (.int 5))))
  (sq (ifs (trb (o2 dEq (v 7) (c (.int 0))))
  (sq (st 8 (o2 Ah (c (.int 1)) (o2 Aj (o2 Aq (v 2) (c (.int 8))) (c (.int 3)))))
  (ret (make "Shaded" Ms (Aa (on bTup (Aa (comp (iv (v 1)) 1 [8] (gN 0) yes (o2 Ah (cut (v 0) pno (pso (c (.int 4)))) (mtp (Aa (cut (o2 dIx (v 0) (c (.int 4))) pno (pso (v 1))) Ab)))) Ab)) Ab))))
  nop)
  (sq (ifs (trb (o2 dEq (v 7) (c (.int 1))))
  (ret (make "Patterned" NQ (Aa (v 1) (Aa (on Q8 (Aa (o2 Aq (v 2) (c (.int 512))) (Aa (v 5) Ab))) Ab))))
  nop)
  (sq (ifs (trb (o2 dEq (v 7) (c (.int 2))))
  (ret (make "Plain" JB (Aa (v 1) (Aa (v 6) Ab))))
  nop)
  (sq (st 9 (o2 dIx (mls (Aa (mtp (Aa (c (.int 0)) (Aa (c (.int 1)) Ab))) (Aa (mtp (Aa (c (.int 1)) (Aa (c (.int 2)) Ab))) (Aa (mtp (Aa (c (.int 1)) (Aa (c (.int 3)) Ab))) (Aa (mtp (Aa (c (.int 2)) (Aa (c (.int 3)) Ab))) (Aa (mtp (Aa (c (.int 1)) (Aa (c (.int 1)) Ab))) (Aa (on Ef (Aa (o2 Aj (v 5) (o2 Ah (c (.int 1)) (v 3))) (Aa (o2 Ah (c (.int 1)) (v 3)) Ab))) Ab))))))) (o2 Aj (o2 Aq (v 2) (c (.int 512))) (c (.int 6)))))
  (ret (make "Glass" Jg (Aa (v 1) (Aa (v 6) (Aa (v 9) Ab)))))))))))))
def LR:List D->Res D:=fn 11
  (sq (asg (gU 2 (gs1 (gN 2) (gs1 (gN 3) gs0))) (cut (v 0) pno (pso (c (.int 2)))))
  (sq (st 4 (o2 dIx (mls (Aa (c (.int 2)) (Aa (c (.int 8)) (Aa (c (.int 1)) (Aa (c (.int 2)) Ab))))) (o2 Aj (o2 Aq (v 2) (c (.int 4))) (c (.int 4)))))
  (sq (st 5 (o2 Ah (c (.int 1)) (o2 Aj (o2 Aq (v 2) (c (.int 16))) (c (.int 3)))))
  (sq (st 6 (o2 Ao (v 5) (o2 dSub (o2 Aj (o2 Aq (v 2) (c (.int 64))) (o2 Ah (o2 Ao (v 4) (c (.int 8))) (c (.int 1)))) (v 4))))
  (sq (st 7 (o2 Ao (v 5) (o2 dSub (o2 Aj (v 3) (o2 Ah (o2 Ao (v 4) (c (.int 8))) (c (.int 1)))) (v 4))))
  (sq (st 8 (o2 Ao (v 4) (v 5)))
  (sq (st 9 (o2 dIx (mls (Aa (c (.int 1)) (Aa (v 8) (Aa (o2 Ah (c (.int 1)) (o2 Aj (o2 Aq (v 3) (c (.int 512))) (c (.int 9)))) (Aa (v 8) Ab))))) (o2 Aj (o2 Aq (v 3) (c (.int 32))) (c (.int 4)))))
  (sq (st 10 (on bTup (Aa (comp (r1 (Aa (v 1) Ab)) 1 [0] (gN 0) yes (o2 dSub (o2 Aj (o2 dIx (v 1) (o2 Ah (c (.int 6)) (v 0))) (c (.int 41))) (c (.int 10)))) Ab)))
  (sq (ifs (trb (o2 dEq (o2 Aj (v 2) (c (.int 4))) (c (.int 3))))
  (sq (st 6 (o2 dSub (o2 Aj (o2 dIx (v 0) (c (.int 2))) (c (.int 2000001))) (o2 dPow (c (.int 10)) (c (.int 6)))))
  (sq (st 7 (o2 dSub (o2 Aj (o2 dIx (v 0) (c (.int 3))) (c (.int 2000001))) (o2 dPow (c (.int 10)) (c (.int 6)))))
  (sq (st 8 (o2 Ah (c (.int 1)) (o2 Aj (o2 dIx (v 0) (c (.int 4))) (o2 dPow (c (.int 10)) (c (.int 6))))))
  (sq (st 9 (o2 Ah (c (.int 1)) (o2 Aj (o2 dIx (v 0) (c (.int 5))) (o2 dPow (c (.int 10)) (c (.int 6))))))
  (st 10 (on bTup (Aa (comp (r1 (Aa (v 1) Ab)) 1 [0] (gN 0) yes (o2 dSub (o2 Aj (o2 dIx (v 1) (o2 Ah (c (.int 6)) (v 0))) (c (.int 2000001))) (o2 dPow (c (.int 10)) (c (.int 6))))) Ab)))))))
  nop)
  (sq (ifs (trb (o2 dEq (o2 Aj (v 2) (c (.int 4))) (c (.int 2))))
  (sq (st 8 (o2 Ah (c (.int 1)) (o2 Aj (o2 Aq (v 3) (c (.int 4096))) (c (.int 300)))))
  (st 6 (o2 dSub (o2 Aj (o2 dIx (v 0) (c (.int 2))) (c (.int 2001))) (c (.int 1000)))))
  nop)
  (ret (mtp (Aa (v 6) (Aa (v 7) (Aa (v 8) (Aa (v 9) (Aa (v 10) Ab)))))))))))))))))
def QR:List D->Res D:=fn 12
  (sq (st 4 (o2 Ah (c (.int 6)) (v 3)))
  (sq (st 5 (comp (r1 (Aa (c (.int 6)) Ab)) 1 [4,0,1] (gN 0) yes (on H9 (Aa (on Hi (Aa (v 2) (Aa (o2 Ah (v 3) (v 0)) Ab))) (Aa (o2 Ao (c (.int 3)) (v 1)) Ab)))))
  (sq (st 6 (comp (iv (v 5)) 1 [4,3] (gN 0) yes (on LR (Aa (cut (v 0) pno (pso (v 1))) (Aa (v 2) Ab)))))
  (sq (st 7 (on H9 (Aa (on Hi (Aa (v 0) (Aa (o2 Ah (v 1) (c (.int 6))) Ab))) (Aa (o2 Ah (v 2) (c (.int 1))) Ab))))
  (sq (stO 8 (mls Ab))
  (sq (for_ (r1 (Aa (o2 Aj (o2 dIx (v 7) (c (.int 0))) (o2 Ah (v 2) (c (.int 1)))) Ab)) (gN 9)
  (sq (st 10 (o2 dIx (v 7) (o2 Ah (c (.int 1)) (v 9))))
  (sq (st 11 (mls (Aa (o2 dIx (v 6) (o2 Aj (v 10) (c (.int 6)))) (Aa (o2 dIx (v 6) (o2 Aj (o2 Aq (v 10) (c (.int 6))) (c (.int 6)))) (Aa (o2 dIx (v 6) (o2 Aj (o2 Aq (v 10) (c (.int 36))) (c (.int 6)))) Ab)))))
  (sq (ifs (trb (o2 dEq (o2 Aj (o2 Aq (v 10) (c (.int 216))) (c (.int 4))) (c (.int 1))))
  (st 11 (comp (r1 (Aa (c (.int 3)) Ab)) 1 [4,5,3,9] (gN 0) yes (on LR (Aa (cut (o2 dIx (v 2) (v 4)) (pso (o2 Ao (v 1) (v 0))) (pso (o2 Ah (o2 Ao (v 1) (v 0)) (v 1)))) (Aa (v 3) Ab)))))
  nop)
  (app 8 (mtp (Aa (o2 dIx (v 11) (c (.int 0))) (Aa (o2 dIx (v 11) (c (.int 1))) (Aa (o2 dIx (v 11) (c (.int 2))) Ab)))))))))
  (frz 8 (ret (v 8)))))))))
def Qc:List D->Res D:=fn 8
  (sq (st 3 (on H9 (Aa (on Hi (Aa (v 0) (Aa (o2 Ah (v 1) (c (.int 7))) Ab))) (Aa (o2 Ao (c (.int 4)) (v 2)) Ab))))
  (sq (stO 4 (mls Ab))
  (sq (st 5 (o2 Ah (c (.int 2)) (o2 Aj (o2 Aq (on Hi (Aa (v 0) (Aa (o2 Ah (v 1) (c (.int 7))) Ab))) (c (.int 2))) (c (.int 2)))))
  (sq (for_ (JC (Aa (on QR (Aa (v 0) (Aa (v 1) (Aa (v 2) (Aa (v 5) Ab))))) Ab)) (gU 2 (gs1 (gN 6) (gs1 (gN 7) gs0)))
  (app 4 (on Qp (Aa (cut (v 3) (pso (o2 Ao (c (.int 4)) (v 6))) (pso (o2 Ah (o2 Ao (c (.int 4)) (v 6)) (c (.int 4))))) (Aa (v 7) Ab)))))
  (frz 4 (ret (v 4)))))))
def Tg:List D->Res D:=fn 1
  (ret (c (.bl true)))
def JZ:List D->Res D:=fn 1
  (ret (c (.bl false)))
def Ff:List (Str×(List D->Res D)):=[("Plain",JZ),("Shaded",JZ),("Patterned",JZ),("Glass",Tg)]
def Gx:List D->Res D:=fn 2
  (ret (o2 dLt (o2 Ao (o2 dIx (v 0) (c (.int 0))) (o2 dIx (v 1) (c (.int 1)))) (o2 Ao (o2 dIx (v 1) (c (.int 0))) (o2 dIx (v 0) (c (.int 1))))))
def Ez:List D->Res D:=fn 2
  (ret (o2 dLt (o2 Ao (o2 dIx (v 0) (c (.int 0))) (o2 dIx (v 1) (c (.int 1)))) (o2 Ao (o2 dIx (v 1) (c (.int 0))) (o2 dIx (v 0) (c (.int 1))))))
def LK:List D->Res D:=fn 3
  (sq (st 1 (o2 dIx (v 0) (c (.int 0))))
  (sq (for_ (iv (v 0)) (gN 2)
  (ifs (trb (on Ez (Aa (v 2) (Aa (v 1) Ab))))
  (st 1 (v 2))
  nop))
  (ret (v 1))))
def Gf:List D->Res D:=fn 1
  (ret (on LK (Aa (comp (iv (v 0)) 1 [] (gN 0) yes (on Ef (Aa (o2 dIx (v 0) (c (.int 2))) (Aa (o2 dIx (v 0) (c (.int 3))) Ab)))) Ab)))
def GD:List D->Res D:=fn 2
  (ret (o2 Ah (o2 Ah (o2 Ao (o2 dIx (v 0) (c (.int 0))) (o2 dIx (v 1) (c (.int 0)))) (o2 Ao (o2 dIx (v 0) (c (.int 1))) (o2 dIx (v 1) (c (.int 1))))) (o2 Ao (o2 dIx (v 0) (c (.int 2))) (o2 dIx (v 1) (c (.int 2))))))
def Pz:List D->Res D:=fn 2
  (ret (on GD (Aa (comp (iv (v 0)) 1 [] (gN 0) yes (o2 dIx (v 0) (c (.int 3)))) (Aa (v 1) Ab))))
def Ou:List D->Res D:=fn 5
  (sq (st 2 (on Pz (Aa (v 0) (Aa (v 1) Ab))))
  (sq (st 3 (on Ef (Aa (on GD (Aa (comp (iv (v 0)) 1 [] (gN 0) yes (o2 dIx (v 0) (c (.int 2)))) (Aa (v 1) Ab))) (Aa (v 2) Ab))))
  (sq (st 4 (on lz3 (Aa (o2 dIx (o2 dIx (v 0) (c (.int 0))) (c (.int 4))) (Aa (o2 dIx (o2 dIx (v 0) (c (.int 1))) (c (.int 4))) (Aa (o2 dIx (o2 dIx (v 0) (c (.int 2))) (c (.int 4))) Ab)))))
  (ret (mtp (Aa (v 3) (Aa (on bTup (Aa (comp (iv (v 4)) 1 [2,1] (gN 0) yes (on Ef (Aa (on GD (Aa (v 0) (Aa (v 2) Ab))) (Aa (v 1) Ab)))) Ab)) Ab)))))))
def Lj:List D->Res D:=fn 2
  (ret (mtp (Aa (o2 dSub (o2 Ao (o2 dIx (v 0) (c (.int 1))) (o2 dIx (v 1) (c (.int 2)))) (o2 Ao (o2 dIx (v 0) (c (.int 2))) (o2 dIx (v 1) (c (.int 1))))) (Aa (o2 dSub (o2 Ao (o2 dIx (v 0) (c (.int 2))) (o2 dIx (v 1) (c (.int 0)))) (o2 Ao (o2 dIx (v 0) (c (.int 0))) (o2 dIx (v 1) (c (.int 2))))) (Aa (o2 dSub (o2 Ao (o2 dIx (v 0) (c (.int 0))) (o2 dIx (v 1) (c (.int 1)))) (o2 Ao (o2 dIx (v 0) (c (.int 1))) (o2 dIx (v 1) (c (.int 0))))) Ab)))))
def Jo:List D->Res D:=fn 5
  (sq (st 3 (on Lj (Aa (v 0) (Aa (v 1) Ab))))
  (sq (for_ (iv (mtp (Aa (on GD (Aa (v 3) (Aa (v 2) Ab))) (Aa (o2 dIx (v 3) (c (.int 0))) (Aa (o2 dIx (v 3) (c (.int 1))) Ab))))) (gN 4)
  (ifs (trb (o2 dNe (v 4) (c (.int 0))))
  (ret (ife (trb (o2 dGt (v 4) (c (.int 0)))) (c (.int 1)) (o1 dNeg (c (.int 1)))))
  nop))
  (ret (c (.int 0)))))
def Pa:List D->Res D:=fn 3
  (sq (drp (on Jj (Aa (v 0) Ab)))
  (sq (st 2 (on Jo (Aa (o2 dIx (v 0) (c (.int 0))) (Aa (o2 dIx (v 0) (c (.int 1))) (Aa (v 1) Ab)))))
  (sq (ifs (bOr (trb (o2 dNe (on Jo (Aa (o2 dIx (v 0) (c (.int 1))) (Aa (o2 dIx (v 0) (c (.int 2))) (Aa (v 1) Ab)))) (v 2))) (trb (o2 dNe (on Jo (Aa (o2 dIx (v 0) (c (.int 2))) (Aa (o2 dIx (v 0) (c (.int 0))) (Aa (v 1) Ab)))) (v 2))))
  (ret (c (.int 0)))
  nop)
  (ret (v 2)))))
def Ky:List D->Res D:=fn 3
  (ret (on GD (Aa (on Lj (Aa (v 0) (Aa (v 1) Ab))) (Aa (v 2) Ab))))
def Q4:List D->Res D:=fn 2
  (ret (mtp (Aa (on Ky (Aa (o2 dIx (v 0) (c (.int 1))) (Aa (o2 dIx (v 0) (c (.int 2))) (Aa (v 1) Ab)))) (Aa (on Ky (Aa (o2 dIx (v 0) (c (.int 2))) (Aa (o2 dIx (v 0) (c (.int 0))) (Aa (v 1) Ab)))) (Aa (on Ky (Aa (o2 dIx (v 0) (c (.int 0))) (Aa (o2 dIx (v 0) (c (.int 1))) (Aa (v 1) Ab)))) Ab)))))
def Di:List D->Res D:=fn 2
  (sq (ifs (trb (o2 dEq (on Pa (Aa (v 0) (Aa (v 1) Ab))) (c (.int 0))))
  (ret (c .non))
  nop)
  (ret (on Ou (Aa (v 0) (Aa (on Q4 (Aa (v 0) (Aa (v 1) Ab))) Ab)))))
def NB:List D->Res D:=fn 12
  (sq (stO 3 (mls Ab))
  (sq (stO 4 (comp (iv (v 2)) 1 [] (gN 0) yes (c .non)))
  (sq (for_ (JC (Aa (v 0) Ab)) (gU 2 (gs1 (gN 5) (gs1 (gN 6) gs0)))
  (sq (st 7 (on Gf (Aa (o1 (dFld objs "triangle") (v 6)) Ab)))
  (sq (st 8 (c .non))
  (sq (ifs (pkB 4 (trb (o2 dNin (c .non) (v 4))))
  (sq (st 8 (pkN 4 (o2 dIx (v 4) (c (.int 0)))))
  (forP 4 9
  (ifs (trb (on Gx (Aa (v 8) (Aa (v 9) Ab))))
  (st 8 (v 9))
  nop)))
  nop)
  (ifs (bAnd (trb (o1 Ey (v 8))) (bNot (trb (on Gx (Aa (v 7) (Aa (v 8) Ab))))))
  (app 3 (mtp (Aa (v 1) (Aa (v 5) (Aa (v 7) (Aa (v 8) Ab))))))
  (ifs (bNot (trb (meth Ff "is_glass" (v 6) Ab)))
  (for_ (r1 (Aa (on bLen (Aa (v 2) Ab)) Ab)) (gN 10)
  (sq (st 11 (on Di (Aa (o1 (dFld objs "triangle") (v 6)) (Aa (o2 dIx (v 2) (v 10)) Ab))))
  (ifs (pkB 4 (bAnd (trb (o1 Ey (v 11))) (bOr (trb (o1 dIsN (o2 dIx (v 4) (v 10)))) (trb (on Gx (Aa (o2 dIx (v 11) (c (.int 0))) (Aa (o2 dIx (v 4) (v 10)) Ab)))))))
  (seti 4 (v 10) (o2 dIx (v 11) (c (.int 0))))
  nop)))
  nop))))))
  (frz 3 (ret (v 3))))))
def Hl:List D->Res D:=fn 3
  (ret (eAnd (on Gg (Aa (v 0) Ab)) (eAnd (o2 dGe (v 0) (v 1)) (o2 dLe (v 0) (v 2)))))
def Qd:List D->Res D:=fn 2
  (ifs (bOr (bNot (trb (on Hl (Aa (v 0) (Aa (c (.int 1)) (Aa (c (.int 64)) Ab)))))) (bNot (trb (on Hl (Aa (v 1) (Aa (c (.int 1)) (Aa (c (.int 64)) Ab)))))))
  (rse "BadFloor" (Aa (c (.str "a floor has 1 to 64 cells in a row, and 1 to 64 rows")) Ab))
  nop)
def QC:List D->Res D:=fn 1
  (ifs (bNot (trb (on Hl (Aa (v 0) (Aa (c (.int 1)) (Aa (c (.int 64)) Ab))))))
  (rse "BadFloor" (Aa (c (.str "a tile is 1 to 64 cells wide")) Ab))
  nop)
def ZJ:List D->Res D:=fn 1
  (ret (ife (trb (o1 dIsN (v 0))) (mtp (Aa (c (.int 0)) (Aa (c (.int 1)) Ab))) (v 0)))
def Rj:List D->Res D:=fn 3
  (sq (st 1 (o2 dIx (v 0) (c (.int 0))))
  (sq (for_ (iv (v 0)) (gN 2)
  (ifs (trb (on Ez (Aa (v 1) (Aa (v 2) Ab))))
  (st 1 (v 2))
  nop))
  (ret (v 1))))
def MF:List D->Res D:=fn 1
  (sq (ifs (trb (o2 dIn (c .non) (v 0)))
  (ret (c .non))
  nop)
  (ret (on Rj (Aa (v 0) Ab))))
def K4:List D->Res D:=fn 2
  (ret (ife (trb (o1 dIsN (v 0))) (v 1) (on LK (Aa (mls (Aa (v 0) (Aa (v 1) Ab))) Ab))))
def Iu:FY:=fnY 7 [2,3]
  (forY (JC (Aa (v 1) Ab)) (gU 2 (gs1 (gN 4) (gs1 (gN 5) gs0)))
  (sqY (lft (st 6 (on Di (Aa (o1 (dFld objs "triangle") (v 0)) (Aa (v 5) Ab)))))
  (sqY (ifY (trb (o1 dIsN (v 6)))
  (lft cnt)
  (lft nop))
  (sqY (appY (v 4) (mtp (Aa (v 0) (Aa (o2 dIx (v 6) (c (.int 0))) (Aa (o2 dIx (v 6) (c (.int 1))) Ab)))))
  (ifY (bNot (trb (meth Ff "is_glass" (v 0) Ab)))
  (lft (setO 3 (pkN 3 (on K4 (Aa (o2 dIx (v 3) (v 4)) (Aa (o2 dIx (v 6) (c (.int 0))) Ab)))) (v 4)))
  (lft nop))))))
def Li:List D->Res D:=fn 9
  (regY 2 (comp (iv (v 1)) 1 [] (gN 0) yes (mls Ab))
  (sqY (lft (stO 3 (comp (iv (v 1)) 1 [] (gN 0) yes (c .non))))
  (sqY (lft (stO 4 (mls Ab)))
  (sqY (forY (JC (Aa (v 0) Ab)) (gU 2 (gs1 (gN 5) (gs1 (gN 6) gs0)))
  (sqY (lft (st 7 (on Gf (Aa (o1 (dFld objs "triangle") (v 6)) Ab))))
  (sqY (lft (st 8 (pkN 3 (on MF (Aa (v 3) Ab)))))
  (ifY (bAnd (trb (o1 Ey (v 8))) (bNot (trb (on Ez (Aa (v 7) (Aa (v 8) Ab))))))
  (lft (app 4 (mtp (Aa (v 5) (Aa (v 7) (Aa (v 8) Ab))))))
  (Gd Iu 3 (some 3) (rIm (v 6) (rIm (v 1) (rRg (rOw 3 rNil)))))))))
  (retY 4)))))
def QM:List D->Res D:=fn 2
  (sq (ifs (trb (o1 dIsN (v 0)))
  (ret (on bLR (Aa (v 1) Ab)))
  nop)
  (sq (ifs (bOr (bNot (trb (on bIsi (Aa (v 0) (Aa (c (.ty "list")) Ab))))) (bNot (trb (on bAll (Aa (comp (iv (v 0)) 1 [] (gN 0) yes (on Gg (Aa (v 0) Ab))) Ab)))))
  (rse "BadFloor" (Aa (c (.str "an order is a list of whole numbers")) Ab))
  nop)
  (sq (ifs (trb (o2 dNe (on Qz (Aa (v 0) Ab)) (on bLR (Aa (v 1) Ab))))
  (rse "BadFloor" (Aa (c (.str "an order has the number of each tile once")) Ab))
  nop)
  (ret (v 0)))))
def bU:List D->Res D:=fn 2
  (ret (o1 (dFld objs "colour") (v 0)))
def Nz:List D->Res D:=fn 1
  (ret (o2 Aq (o2 dIx (v 0) (c (.int 0))) (o2 dIx (v 0) (c (.int 1)))))
def Pu:List D->Res D:=fn 4
  (sq (st 3 (o2 dIx (v 0) (o2 Aj (on Nz (Aa (v 2) Ab)) (on bLen (Aa (v 0) Ab)))))
  (ret (o2 dIx (v 3) (o2 Aj (on Nz (Aa (v 1) Ab)) (on bLen (Aa (v 3) Ab))))))
def J2:List D->Res D:=fn 2
  (ret (on Pu (Aa (o1 (dFld objs "pattern") (v 0)) (Aa (o2 dIx (v 1) (c (.int 0))) (Aa (o2 dIx (v 1) (c (.int 1))) Ab)))))
def Tt:List D->Res D:=fn 2
  (ret (o1 (dFld objs "colour") (v 0)))
def Vg:List D->Res D:=fn 2
  (ret (o2 dIx (v 1) (c (.int 0))))
def K9:List (Str×(List D->Res D)):=[("Plain",Tt),("Shaded",Vg),("Patterned",J2),("Glass",bU)]
def Lb:List D->Res D:=fn 2
  (ret (on Ef (Aa (o2 dSub (o2 Ao (o2 dIx (v 0) (c (.int 0))) (o2 dIx (v 1) (c (.int 1)))) (o2 Ao (o2 dIx (v 1) (c (.int 0))) (o2 dIx (v 0) (c (.int 1))))) (Aa (o2 Ao (o2 dIx (v 0) (c (.int 1))) (o2 dIx (v 1) (c (.int 1)))) Ab))))
def Jd:List D->Res D:=fn 2
  (ret (on Ef (Aa (o2 Ah (o2 Ao (o2 dIx (v 0) (c (.int 0))) (o2 dIx (v 1) (c (.int 1)))) (o2 Ao (o2 dIx (v 1) (c (.int 0))) (o2 dIx (v 0) (c (.int 1))))) (Aa (o2 Ao (o2 dIx (v 0) (c (.int 1))) (o2 dIx (v 1) (c (.int 1)))) Ab))))
def Nj:List D->Res D:=fn 2
  (ret (on Ef (Aa (o2 Ao (o2 dIx (v 0) (c (.int 0))) (o2 dIx (v 1) (c (.int 0)))) (Aa (o2 Ao (o2 dIx (v 0) (c (.int 1))) (o2 dIx (v 1) (c (.int 1)))) Ab))))
def N6:List D->Res D:=fn 3
  (sq (st 2 (on Lb (Aa (mtp (Aa (c (.int 1)) (Aa (c (.int 1)) Ab))) (Aa (o1 (dFld objs "part") (v 0)) Ab))))
  (ret (on Jd (Aa (on Nj (Aa (o1 (dFld objs "part") (v 0)) (Aa (o1 (dFld objs "colour") (v 0)) Ab))) (Aa (on Nj (Aa (v 2) (Aa (v 1) Ab))) Ab)))))
def MP:List D->Res D:=fn 5
  (sq (stO 2 (mls Ab))
  (sq (for_ (iv (v 1)) (gN 3)
  (ifs (bAnd (trb (meth Ff "is_glass" (o2 dIx (v 3) (c (.int 0))) Ab)) (bOr (trb (o1 dIsN (v 0))) (trb (on Ez (Aa (o2 dIx (v 3) (c (.int 1))) (Aa (o2 dIx (v 0) (c (.int 1))) Ab))))))
  (sq (st 4 (pk 2 (on bLen (Aa (comp (iv (v 2)) 1 [3] (gN 0) (trb (on Ez (Aa (o2 dIx (v 1) (c (.int 1))) (Aa (o2 dIx (v 0) (c (.int 1))) Ab)))) (v 0)) Ab))))
  (insO 2 (v 4) (v 3)))
  nop))
  (frz 2 (ret (v 2)))))
def Oe:List D->Res D:=fn 3
  (sq (st 1 (c .non))
  (sq (for_ (iv (v 0)) (gN 2)
  (sq (ifs (trb (meth Ff "is_glass" (o2 dIx (v 2) (c (.int 0))) Ab))
  cnt
  nop)
  (ifs (bOr (trb (o1 dIsN (v 1))) (trb (on Ez (Aa (o2 dIx (v 2) (c (.int 1))) (Aa (o2 dIx (v 1) (c (.int 1))) Ab)))))
  (st 1 (v 2))
  nop)))
  (ret (v 1))))
def Nh:List D->Res D:=fn 5
  (sq (st 2 (on Oe (Aa (v 0) Ab)))
  (sq (st 3 (v 1))
  (sq (ifs (trb (o1 Ey (v 2)))
  (st 3 (meth K9 "colour_at" (o2 dIx (v 2) (c (.int 0))) (Aa (o2 dIx (v 2) (c (.int 2))) Ab)))
  nop)
  (sq (for_ (iv (on MP (Aa (v 2) (Aa (v 0) Ab)))) (gN 4)
  (st 3 (on N6 (Aa (o2 dIx (v 4) (c (.int 0))) (Aa (v 3) Ab)))))
  (ret (v 3))))))
def Qo:List D->Res D:=fn 3
  (sq (st 1 (mtp (Aa (c (.int 0)) (Aa (c (.int 1)) Ab))))
  (sq (for_ (iv (v 0)) (gN 2)
  (st 1 (on Jd (Aa (v 1) (Aa (v 2) Ab)))))
  (ret (on Ef (Aa (o2 dIx (v 1) (c (.int 0))) (Aa (o2 Ao (o2 dIx (v 1) (c (.int 1))) (on bLen (Aa (v 0) Ab))) Ab))))))
def Lw:List D->Res D:=fn 2
  (ret (on Qo (Aa (comp (iv (v 0)) 1 [1] (gN 0) yes (on Nh (Aa (v 0) (Aa (v 1) Ab)))) Ab)))
def QG:FY:=fnY 8 [0]
  (sqY (lft (st 4 (o2 Aq (on bLen (Aa (v 2) Ab)) (on bLen (Aa (v 1) Ab)))))
  (forY (JC (Aa (v 1) Ab)) (gU 2 (gs1 (gN 5) (gs1 (gN 6) gs0)))
  (sqY (lft (st 7 (cut (v 2) (pso (o2 Ao (v 5) (v 4))) (pso (o2 Ao (o2 Ah (v 5) (c (.int 1))) (v 4))))))
  (Il (on Lw (Aa (v 7) (Aa (v 3) Ab))) (o2 dIx (v 6) (c (.int 1))) (o2 dIx (v 6) (c (.int 0)))))))
def Vo:List D->Res D:=fn 3
  (ret (mtp (Aa (o2 Ah (o2 Ao (c (.int 8)) (v 0)) (o2 dIx (v 2) (c (.int 0)))) (Aa (o2 Ah (o2 Ao (c (.int 8)) (v 1)) (o2 dIx (v 2) (c (.int 1)))) (Aa (c (.int 8)) Ab)))))
def Mw:List D->Res D:=fn 5
  (sq (stO 2 (mls Ab))
  (sq (for_ (iv (v 0)) (gU 2 (gs1 (gN 3) (gs1 (gN 4) gs0)))
  (ext 2 (comp (iv (v 1)) 1 [4,3] (gN 0) yes (on Vo (Aa (v 2) (Aa (v 1) (Aa (v 0) Ab)))))))
  (frz 2 (ret (v 2)))))
def QW:List D->Res D:=fn 1
  (sq (ifs (bOr (bNot (trb (on bIsi (Aa (v 0) (Aa (c (.ty "tuple")) Ab))))) (trb (o2 dNe (on bLen (Aa (v 0) Ab)) (c (.int 2)))))
  (ret (c (.bl false)))
  nop)
  (ret (eAnd (on Hl (Aa (o2 dIx (v 0) (c (.int 0))) (Aa (c (.int 1)) (Aa (c (.int 7)) Ab)))) (on Hl (Aa (o2 dIx (v 0) (c (.int 1))) (Aa (c (.int 1)) (Aa (c (.int 7)) Ab)))))))
def Ra:List D->Res D:=fn 1
  (sq (ifs (bOr (bNot (trb (on bIsi (Aa (v 0) (Aa (c (.ty "list")) Ab))))) (bOr (trb (o2 dLt (on bLen (Aa (v 0) Ab)) (c (.int 1)))) (trb (o2 dGt (on bLen (Aa (v 0) Ab)) (c (.int 16))))))
  (rse "BadFloor" (Aa (c (.str "spots are a list of 1 to 16 tuples")) Ab))
  nop)
  (sq (ifs (bNot (trb (on bAll (Aa (comp (iv (v 0)) 1 [] (gN 0) yes (on QW (Aa (v 0) Ab))) Ab))))
  (rse "BadFloor" (Aa (c (.str "a spot is a tuple of two whole numbers from 1 to 7")) Ab))
  nop)
  (ifs (trb (o2 dNe (o1 Up (v 0)) (on bLen (Aa (v 0) Ab))))
  (rse "BadFloor" (Aa (c (.str "the spots of a list are all unlike")) Ab))
  nop)))
def Ol:List D->Res D:=fn 1
  (sq (ifs (trb (o1 dIsN (v 0)))
  (ret (mls (Aa (mtp (Aa (c (.int 4)) (Aa (c (.int 4)) Ab))) Ab)))
  nop)
  (sq (drp (on Ra (Aa (v 0) Ab)))
  (ret (v 0))))
def JT:List D->Res D:=fn 2
  (ret (o2 Aq (o2 dSub (o2 Ah (v 0) (v 1)) (c (.int 1))) (v 1)))
def M3:List D->Res D:=fn 10
  (sq (st 4 (on JT (Aa (v 0) (Aa (v 2) Ab))))
  (sq (st 5 (o2 Ao (o2 Aj (v 3) (v 4)) (v 2)))
  (sq (st 6 (o2 Ao (o2 Aq (v 3) (v 4)) (v 2)))
  (sq (stO 7 (mls Ab))
  (sq (for_ (r2 (Aa (v 6) (Aa (on bMin (Aa (o2 Ah (v 6) (v 2)) (Aa (v 1) Ab))) Ab))) (gN 8)
  (for_ (r2 (Aa (v 5) (Aa (on bMin (Aa (o2 Ah (v 5) (v 2)) (Aa (v 0) Ab))) Ab))) (gN 9)
  (app 7 (mtp (Aa (v 9) (Aa (v 8) Ab))))))
  (frz 7 (ret (v 7))))))))
def H8:List D->Res D:=fnR 15
  (soR (drp (on Qd (Aa (v 1) (Aa (v 2) Ab))))
  (soR (drp (on QC (Aa (v 3) Ab)))
  (soR (st 7 (on QM (Aa (v 4) (Aa (o2 Ao (on JT (Aa (v 1) (Aa (v 3) Ab))) (on JT (Aa (v 2) (Aa (v 3) Ab)))) Ab))))
  (soR (st 8 (on Ol (Aa (v 5) Ab)))
  (soR (st 9 (on ZJ (Aa (v 6) Ab)))
  (regT 10 (comp (r1 (Aa (v 2) Ab)) 1 [1,9] (gN 0) yes (repD (Aa (v 2) Ab) (v 1)))
  (sqY (lft (stO 11 (mls Ab)))
  (sqY (forY (iv (v 7)) (gN 12)
  (sqY (lft (st 13 (on M3 (Aa (v 1) (Aa (v 2) (Aa (v 3) (Aa (v 12) Ab)))))))
  (sqY (lft (st 14 (on Li (Aa (v 0) (Aa (on Mw (Aa (v 13) (Aa (v 8) Ab))) Ab)))))
  (sqY (Gd QG 0 none (rRg (rIm (v 13) (rIm (o2 dIx (v 14) (c (.int 0))) (rIm (v 9) rNil)))))
  (lft (ext 11 (comp (iv (o2 dIx (v 14) (c (.int 1)))) 1 [12] (gN 0) yes (mtp (Aa (v 1) (Aa (o2 dIx (v 0) (c (.int 0))) (Aa (o2 dIx (v 0) (c (.int 1))) (Aa (o2 dIx (v 0) (c (.int 2))) Ab))))))))))))
  (retY 11)))))))))
def Ru:List D->Res D:=fn 18
  (sq (st 1 (on Qc (Aa (v 0) (Aa (c (.int 0)) (Aa (c (.int 4)) Ab)))))
  (sq (st 2 (on H9 (Aa (on Hi (Aa (v 0) (Aa (c (.int 8)) Ab))) (Aa (c (.int 7)) Ab))))
  (sq (ifs (trb (o2 dEq (o2 Aj (o2 dIx (v 2) (c (.int 4))) (c (.int 4))) (c (.int 1))))
  (st 1 (o2 Ah (v 1) (cut (v 1) pno (pso (c (.int 2))))))
  nop)
  (sq (ifs (trb (o2 dEq (o2 Aj (o2 dIx (v 2) (c (.int 0))) (c (.int 3))) (c (.int 0))))
  (sq (st 3 (o2 Aj (o2 Aq (o2 dIx (v 2) (c (.int 0))) (c (.int 3))) (o2 Ah (on bLen (Aa (v 1) Ab)) (c (.int 1)))))
  (sq (st 4 (cut (mls (Aa (on N5 (Aa (o2 dIx (v 2) (c (.int 1))) Ab)) (Aa (on N5 (Aa (o2 dIx (v 2) (c (.int 2))) Ab)) Ab))) pno (pso (o2 Ah (c (.int 1)) (o2 Aj (o2 Aq (o2 dIx (v 2) (c (.int 0))) (c (.int 64))) (c (.int 2)))))))
  (st 1 (o2 Ah (o2 Ah (cut (v 1) pno (pso (v 3))) (v 4)) (cut (v 1) (pso (v 3)) pno)))))
  nop)
  (sq (st 5 (o2 Ah (c (.int 1)) (o2 Aj (o2 dIx (v 2) (c (.int 3))) (c (.int 5)))))
  (sq (st 6 (o2 Ah (c (.int 1)) (o2 Aj (o2 Aq (o2 dIx (v 2) (c (.int 3))) (c (.int 8))) (c (.int 4)))))
  (sq (st 7 (o2 Ah (c (.int 1)) (o2 Aj (o2 Aq (o2 dIx (v 2) (c (.int 3))) (c (.int 64))) (c (.int 5)))))
  (sq (st 8 (cut (on Oz (Aa (on Hi (Aa (v 0) (Aa (c (.int 9)) Ab))) Ab)) pno (pso (c (.int 2)))))
  (sq (st 9 (o2 Ao (o2 Aq (o2 dSub (o2 Ah (v 5) (v 7)) (c (.int 1))) (v 7)) (o2 Aq (o2 dSub (o2 Ah (v 6) (v 7)) (c (.int 1))) (v 7))))
  (sq (st 10 (on Qe (Aa (cut (v 2) (pso (c (.int 3))) (pso (c (.int 7)))) (Aa (v 9) Ab))))
  (sq (st 11 (mls Ab))
  (sq (for_ (iv (v 10)) (gN 12)
  (sq (st 13 (mls Ab))
  (sq (for_ (iv (on Ls (Aa (v 5) (Aa (v 6) (Aa (v 7) (Aa (v 12) Ab)))))) (gU 2 (gs1 (gN 14) (gs1 (gN 15) gs0)))
  (st 13 (o2 Ah (v 13) (comp (iv (v 8)) 2 [15,14] (gU 2 (gs1 (gN 0) (gs1 (gN 1) gs0))) yes (mtp (Aa (o2 Ah (o2 Ao (c (.int 8)) (v 3)) (v 0)) (Aa (o2 Ah (o2 Ao (c (.int 8)) (v 2)) (v 1)) (Aa (c (.int 8)) Ab))))))))
  (st 11 (o2 Ah (v 11) (on NB (Aa (v 1) (Aa (v 12) (Aa (v 13) Ab)))))))))
  (sq (for_ (r1 (Aa (c (.int 2)) Ab)) (gN 16)
  (Jx 17 (onK H8 [none] (Aa (v 1) (Aa (v 5) (Aa (v 6) (Aa (v 7) (Aa (v 10) (Aa (v 8) Ab)))))) Ab) (bOr (bNot (trb (on bIsi (Aa (v 17) (Aa (c (.ty "tuple")) Ab))))) (bOr (bNot (trb (on bIsi (Aa (o2 dIx (v 17) (c (.int 1))) (Aa (c (.ty "list")) Ab))))) (trb (o2 dNe (o2 dIx (v 17) (c (.int 1))) (v 11)))))
  (ret (c (.bl false)))
  nop))
  (ret (c (.bl true))))))))))))))))
variable{U:Dl.D->Prop}{Z:Dl.Ev}{t w:List Nat}{Ψ:Dl.Fl->Prop}{ns:List Int}{cs:List (List Int)}{e:Dl.ME}{k i:Nat}
def Xd{k:Int}(hk:0<=k/\k<=1000)(h:∀r,0<=r/\r<2147483648->U (.int r)):Tl (K5 [.int cc,.int k]) U:=by
 unfold K5;symm;refine CP (λ_=>?_) (λ_=>?_)
 .symm;refine CP (λ_=>?_) (λ_=>?_)
  .symm;refine CP (λ_=>?_) (λ_=>?_)
   .symm;exact h _ (by ac_rfl)
   .symm;exact h _ (by ac_rfl)
  .symm;exact h _ (by ac_rfl)
 .symm;exact h _ (by ac_rfl)
def cor(x y w h:Int)(vs:List Int):D:=.tup [.int x,.int y,.int w,.int h,.tup (vs.map .int)]
def Bd(x:Int):Prop:=-1000000<=x/\x<=1000000
def j8{ys:List D}{n:Nat}(hl:ys.length=n)(h:∀y∈ys,∃v:Int,y=.int v/\Bd v):∃vs:List Int,ys=vs.map .int/\vs.length=n/\∀v∈vs,Bd v:=by
 induction ys generalizing n with
 | nil=>exact ⟨[],rfl,hl,λ_ h=>(CK h).elim⟩
 | cons y r ih=>
  obtain ⟨v,rfl,c⟩:=h y BL;obtain ⟨vs,rfl,l,a⟩:=ih (n:=r.length) rfl λz b=>h z (BW _ b);refine ⟨v::vs,rfl,by simpa using hl,λu hu=>?_⟩;rcases Al.mp hu with rfl | hu
  .exact c
  .exact a u hu
def Xl{U:List D->Prop}{g:MG}{e:ME}{Z:Ev}{n:Nat}(h:∀k:Nat,k<n->Tl (g (.int k) Z) λZ1=>Tl (e Z1) λy=>∃v:Int,y=.int v/\Bd v)(q:∀vs:List Int,vs.length=n->(∀v∈vs,Bd v)->U (vs.map .int)):Tl (Bc g yes e Z (CN 0 n)) U:=by
 have a:(CN 0 n).length=n:=by unfold CN;simp
 refine w_all (λ_ y=>∃v:Int,y=.int v/\Bd v) (λx m=>?_) λp l c=>?_
 .obtain ⟨k,o,rfl⟩:=mem_range m;exact h k o
 .obtain ⟨vs,rfl,f,d⟩:=j8 (n:=n) (l.trans a) λy j=>by
   obtain ⟨i,b,rfl⟩:=Ii.mp j;exact c i _ _ (Aw (by ac_rfl)) (Aw b)
  exact q vs f d
def Jq{k:Int}(hk:0<=k)(h:∀n,U (.int n)):Tl (Hi [.lst (ns.map .int),.int k]) U:=by
 unfold Hi;symm;refine CP (λa=>?_) (λ_=>?_)
 .symm;refine LC (by ac_rfl) λn _=>?_;symm;exact h n
 .symm;exact h 0
end My
namespace My
open PySem Dl
variable{U:Dl.D->Prop}{Z:Dl.Ev}{t w:List Nat}{Ψ:Dl.Fl->Prop}{ns:List Int}{cs:List (List Int)}{e:Dl.ME}{k i:Nat}
def vo(h:U (.int (Mt.gcdL 0 ns))):Tl (JD [.lst (ns.map .int)]) U:=by
 unfold JD;symm;refine Uv (λp Z=>∃(a:List Int) (c i b:Cl),p=a.map .int/\Z=[.im (.lst (ns.map .int)),.im (.int (Mt.gcdL 0 a)),c,i,b]) ⟨[],_,_,_,rfl,rfl⟩ ?_ ?_
 .rintro p x r q Z ⟨a,c,i,b,rfl,rfl⟩;obtain ⟨n,rfl⟩ : ∃n:Int,x=.int n:=by
   have:x∈ns.map .int:=by rw [q];simp
   obtain ⟨n,_,rfl⟩:=Bk.mp this;exact ⟨n,rfl⟩
  symm;refine w_wh (λZ=>∃(f m:Nat) (b:Cl),Z=[.im (.lst (ns.map .int)),.im (.int f),.im (.int n),.im (.int m),b]/\Nat.gcd f m=Nat.gcd (Mt.gcdL 0 a) n.natAbs) (Hn 3) ⟨_,_,_,rfl,rfl⟩ (VF _ _) ?_;rintro Z ⟨f,m,b,rfl,e⟩;symm;refine ⟨λk=>?_,λk=>?_⟩
  .have d:m≠0:=by simpa using k
   symm;refine ⟨_,rfl,⟨m,f%m,_,rfl,?_⟩,?_⟩
   .rw [<-e,Mt.aZ]
   .have:=Hy f (Nat.pos_of_ne_zero d);simp [Hn,absC];ac_rfl
  .have d:m=0:=by simpa using k
   subst d;rw [Nat.gcd_zero_right] at e;have s:Mt.gcdL 0 (a++[n])=Nat.gcd (Mt.gcdL 0 a) n.natAbs:=by
    have j:∀(l:List Int) (g:Nat),Mt.gcdL g (l++[n])=Nat.gcd (Mt.gcdL g l) n.natAbs:=by
     intro l
     induction l with
     | nil=>exact λg=>rfl
     | cons y l ih=>exact λg=>ih _
    exact j a 0
   exact ⟨_,rfl,a++[n],.im (.int n),.im (.int ((0:Nat):Int)),b,by simp,by rw [s,<-e]⟩
 .rintro Z ⟨a,c,i,b,o,rfl⟩;symm;have:ns=a:=S8 o;rw [<-this];exact h
def pN(h:U (.int (Mt.gcdL 0 ns))):Tl (JD [.tup (ns.map .int)]) U:=by
 unfold JD;symm;refine Uv (λp Z=>∃(a:List Int) (c i b:Cl),p=a.map .int/\Z=[.im (.tup (ns.map .int)),.im (.int (Mt.gcdL 0 a)),c,i,b]) ⟨[],_,_,_,rfl,rfl⟩ ?_ ?_
 .rintro p x r q Z ⟨a,c,i,b,rfl,rfl⟩;obtain ⟨n,rfl⟩ : ∃n:Int,x=.int n:=by
   have:x∈ns.map .int:=by rw [q];simp
   obtain ⟨n,_,rfl⟩:=Bk.mp this;exact ⟨n,rfl⟩
  symm;refine w_wh (λZ=>∃(f m:Nat) (b:Cl),Z=[.im (.tup (ns.map .int)),.im (.int f),.im (.int n),.im (.int m),b]/\Nat.gcd f m=Nat.gcd (Mt.gcdL 0 a) n.natAbs) (Hn 3) ⟨_,_,_,rfl,rfl⟩ (VF _ _) ?_;rintro Z ⟨f,m,b,rfl,e⟩;symm;refine ⟨λk=>?_,λk=>?_⟩
  .have d:m≠0:=by simpa using k
   symm;refine ⟨_,rfl,⟨m,f%m,_,rfl,?_⟩,?_⟩
   .rw [<-e,Mt.aZ]
   .have:=Hy f (Nat.pos_of_ne_zero d);simp [Hn,absC];ac_rfl
  .have d:m=0:=by simpa using k
   subst d;rw [Nat.gcd_zero_right] at e;have s:Mt.gcdL 0 (a++[n])=Nat.gcd (Mt.gcdL 0 a) n.natAbs:=by
    have j:∀(l:List Int) (g:Nat),Mt.gcdL g (l++[n])=Nat.gcd (Mt.gcdL g l) n.natAbs:=by
     intro l
     induction l with
     | nil=>exact λg=>rfl
     | cons y l ih=>exact λg=>ih _
    exact j a 0
   exact ⟨_,rfl,a++[n],.im (.int n),.im (.int ((0:Nat):Int)),b,by simp,by rw [s,<-e]⟩
 .rintro Z ⟨a,c,i,b,o,rfl⟩;symm;have:ns=a:=S8 o;rw [<-this];exact h
def fra(t b:Int):D:=.tup [.int (Mt.frT t b),.int (Mt.frB t b)]
def z7{t b:Int}(h:b≠0):Int.gcd t b<=b.natAbs:=Nat.le_of_dvd (by ac_rfl) (Nv.mpr (Int.gcd_dvd_right t b) |> λy=>by simpa using y)
def Zk{U:D->Prop}{x y:Int}{k:Nat}(hy:0<y)(s:Sm k y)(hk:k<=8900)(h:U (.int (x.fdiv y))):Tl (Aq (.int x) (.int y)) U:=by
 refine w_div hy (s.log (by ac_rfl)) ?_;rw [<-QJ _ (by ac_rfl)];exact h
def WW{U:D->Prop}{x y:Int}{k:Nat}(hy:y<0)(s:Sm k y)(hk:k<=8900)(h:U (.int (x.fdiv y))):Tl (Aq (.int x) (.int y)) U:=w_divN hy (s.log (by ac_rfl)) h
def RV{U:D->Prop}{t b:Int}{k:Nat}(hb:b≠0)(sb:Sm k b)(hk:k<=8900)(h:U (fra t b)):Tl (Ef [.int t,.int b]) U:=by
 have d:=Mt.O8 (t:=t) hb;have c:Sm k (Int.gcd t b:Int):=sb.le (by rw [Lh];exact z7 hb);unfold Ef;symm;refine vo (ns:=[t,b]) ?_;rw [Mt.dM];symm;unfold fra Mt.frT Mt.frB at h;refine CP (λa=>?_) (λa=>?_)
 .symm;rw [iP a,iP a] at h;refine WW (by ac_rfl) c.neg hk ?_;symm;refine WW (by ac_rfl) c.neg hk ?_;symm;exact h
 .symm;rw [iN a,iN a] at h;refine Zk (by ac_rfl) c hk ?_;symm;refine Zk (by ac_rfl) c hk ?_;symm;exact h
abbrev dot(x y z e f g:Int):Int:=x*e+y*f+z*g
def Rk{x y z e f g:Int}{k n:Nat}(hx:Sm k x)(hy:Sm k y)(hz:Sm k z)(he:Sm n e)(hf:Sm n f)(hg:Sm n g):Sm (k+n+2) (dot x y z e f g):=(((hx.mul he).add (hy.mul hf)).add (hz.mul hg)).mono (by ac_rfl)
def dN{U:D->Prop}{x y z e f g:Int}{k n:Nat}(hx:Sm k x)(hy:Sm k y)(hz:Sm k z)(he:Sm n e)(hf:Sm n f)(hg:Sm n g)(hk:k+n<=8000)(q:U (.int (dot x y z e f g))):Tl (GD [.lst [.int x,.int y,.int z],.tup [.int e,.int f,.int g]]) U:=by
 have a:Bl x e=true:=Cw hx he (by ac_rfl);have c:Bl y f=true:=Cw hy hf (by ac_rfl);have b:Bl z g=true:=Cw hz hg (by ac_rfl);unfold GD;symm;exact q
def zG{U:D->Prop}{x y z e f g:Int}{k n:Nat}(hx:Sm k x)(hy:Sm k y)(hz:Sm k z)(he:Sm n e)(hf:Sm n f)(hg:Sm n g)(hk:k+n<=8000)(q:U (.int (dot x y z e f g))):Tl (GD [.tup [.int x,.int y,.int z],.tup [.int e,.int f,.int g]]) U:=by
 have a:Bl x e=true:=Cw hx he (by ac_rfl);have c:Bl y f=true:=Cw hy hf (by ac_rfl);have b:Bl z g=true:=Cw hz hg (by ac_rfl);unfold GD;symm;exact q
structure Cv(k:Nat)(x y w h:Int)(vs:List Int):Prop where
 fx:Sm k x
 fy:Sm k y
 fw:Sm k w
 fh:Sm k h
 fv:∀v∈vs,Sm k v
 f1:1<=h
def pX{U:D->Prop}{ax ay aw ah bx bY bw bh cx cy cw ch e f g:Int}{av bv cv:List Int}{k n:Nat}(a:Cv k ax ay aw ah av)(b:Cv k bx bY bw bh bv)(c:Cv k cx cy cw ch cv)(he:Sm n e)(hf:Sm n f)(hg:Sm n g)(hk:k+n<=8000)(q:U (.int (dot ah bh ch e f g))):Tl (Pz [.tup [cor ax ay aw ah av,cor bx bY bw bh bv,cor cx cy cw ch cv],.tup [.int e,.int f,.int g]]) U:=by
 unfold Pz cor;symm;refine ⟨by show (3:Nat)<=_;ac_rfl,?_⟩;refine Fo ?_;symm;refine Fo ?_;symm;refine Fo ?_;symm;refine Qk ?_;symm;refine dN a.fh b.fh c.fh he hf hg hk ?_;symm;exact q
def Z4:∀(xs ys zs:List Int),trips (xs.map .int) (ys.map .int) (zs.map .int)=(xs.zip (ys.zip zs)).map λt=>.tup [.int t.1,.int t.2.1,.int t.2.2]
 | [],_,_=>by simp [trips]
 | _::_,[],_=>by simp [trips]
 | _::_,_::_,[]=>by simp [trips]
 | x::xs,y::ys,z::zs=>by simp [trips,Z4 xs ys zs]
def vls(av bv cv:List Int)(e f g B:Int):List D:=(av.zip (bv.zip cv)).map λt=>fra (dot t.1 t.2.1 t.2.2 e f g) B
def V4{av bv cv:List Int}{t:Int×Int×Int}(h:t∈av.zip (bv.zip cv)):t.1∈av/\t.2.1∈bv/\t.2.2∈cv:=by
 obtain ⟨x,y,z⟩:=t;have b:=Mu h;have a:=Mu b.2;exact ⟨b.1,a.1,a.2⟩
def nJ{U:D->Prop}{ax ay aw ah bx bY bw bh cx cy cw ch e f g:Int}{av bv cv:List Int}{k n:Nat}(a:Cv k ax ay aw ah av)(b:Cv k bx bY bw bh bv)(c:Cv k cx cy cw ch cv)(he:Sm n e)(hf:Sm n f)(hg:Sm n g)(hk:k+n<=7000)(hl:av.length<=1000)(h0:dot ah bh ch e f g≠0)
  (q:U (.tup [fra (dot aw bw cw e f g) (dot ah bh ch e f g),.tup (vls av bv cv e f g (dot ah bh ch e f g))])):Tl (Ou [.tup [cor ax ay aw ah av,cor bx bY bw bh bv,cor cx cy cw ch cv],.tup [.int e,.int f,.int g]]) U:=by
 have d:=Rk a.fh b.fh c.fh he hf hg;unfold Ou;symm;refine pX a b c he hf hg (by ac_rfl) ?_;generalize dot ah bh ch e f g=B at *;unfold cor;symm;refine ⟨by show (3:Nat)<=_;ac_rfl,?_⟩;refine Fo ?_;symm;refine Fo ?_;symm;refine Fo ?_;symm;refine Qk ?_;symm;refine dN a.fw b.fw c.fw he hf hg (by ac_rfl) ?_;symm;refine RV h0 d (by ac_rfl) ?_;symm;rw [Z4];refine ⟨by rw [Ad,List.length_zip];ac_rfl,?_⟩;refine Ex (λt=>fra (dot t.1 t.2.1 t.2.2 e f g) B) (λt l=>?_) ?_
 .obtain ⟨h,i,j⟩:=V4 l;symm;refine zG (a.fv _ h) (b.fv _ i) (c.fv _ j) he hf hg (by ac_rfl) ?_;symm;exact RV h0 d (by ac_rfl) rfl
 symm;exact q
abbrev ow(ax ay aw bx bY bw cx cy cw:Int):Int:=(ay*bw - aw*bY)*cx+(aw*bx - ax*bw)*cy+(ax*bY - ay*bx)*cw
def sm6{x:Int}(h:-100000000<=x/\x<=100000000):Sm 64 x:=Sm.of64 (by ac_rfl) (by ac_rfl)
structure Cr(x y w:Int):Prop where
 x:Sm 64 x
 y:Sm 64 y
 w:Sm 64 w
def Cr.n{ax ay aw bx bY bw:Int}(a:Cr ax ay aw)(b:Cr bx bY bw):Sm 129 (ay*bw - aw*bY)/\Sm 129 (aw*bx - ax*bw)/\Sm 129 (ax*bY - ay*bx) :=
 ⟨(a.y.mul b.w).sub (a.w.mul b.y),(a.w.mul b.x).sub (a.x.mul b.w),(a.x.mul b.y).sub (a.y.mul b.x)⟩
def Cr.ow{ax ay aw bx bY bw cx cy cw:Int}(a:Cr ax ay aw)(b:Cr bx bY bw)(c:Cr cx cy cw):Sm 200 (ow ax ay aw bx bY bw cx cy cw):=by
 obtain ⟨f,e,d⟩:=a.n b;exact (((f.mul c.x).add (e.mul c.y)).add (d.mul c.w)).mono (by decide)
def Bd.s{x:Int}(h:Bd x):Sm 64 x:=sm6 ⟨by have:=h.1;ac_rfl,by have:=h.2;ac_rfl⟩
def ZK{U:D->Prop}{ax ay aw ah bx bY bw bh:Int}{av bv:List Int}(a:Cr ax ay aw)(b:Cr bx bY bw)(h:U (.tup [.int (ay*bw - aw*bY),.int (aw*bx - ax*bw),.int (ax*bY - ay*bx)])):Tl (Lj [cor ax ay aw ah av,cor bx bY bw bh bv]) U:=by
 obtain ⟨d,c,f⟩:=a;obtain ⟨g,e,i⟩:=b;unfold Lj cor;symm;exact h
def az{U:D->Prop}{l m n px py ps:Int}(hl:Sm 129 l)(hm:Sm 129 m)(hn:Sm 129 n)(p:Cr px py ps)(h:U (.int (l*px+m*py+n*ps))):Tl (GD [.tup [.int l,.int m,.int n],.tup [.int px,.int py,.int ps]]) U:=by
 obtain ⟨a,b,c⟩:=p;unfold GD;symm;exact h
def sg(x:Int):Int:=if 0<x then 1 else if x<0 then -1 else 0
def sd3(s m n:Int):Int:=if s=0 then (if m=0 then sg n else sg m) else sg s
def Um{x:Int}(h:0<x):sg x=1:=iP h
def Vj{x:Int}(h:x<0):sg x=-1:=by unfold sg;rw [iN (by ac_rfl),iP h]
def tR:sg 0=0:=rfl
def VN(x:Int):sg (-x)=- sg x:=by unfold sg;split<;>split<;>(try split)<;>(try split)<;>ac_rfl
def Zsu(s m n:Int):sd3 (-s) (-m) (-n)=- sd3 s m n:=by
 unfold sd3;rw [VN,VN,VN];split<;>split<;>(try split)<;>(try split)<;>ac_rfl
def R9{x:Int}:sg x=1/\0<x\/sg x=0/\x=0\/sg x=-1/\x<0:=by
 unfold sg;split<;>(try split)<;>ac_rfl
def Su(x:Int):sg x=1\/sg x=0\/sg x=-1:=by
 rcases R9 (x:=x) with h | h | h
 .exact .inl h.1
 .exact .inr (.inl h.1)
 .exact .inr (.inr h.1)
def zQ(s m n:Int):sd3 s m n=1\/sd3 s m n=0\/sd3 s m n=-1:=by
 unfold sd3;by_cases h:s=0
 .rw [iP h];by_cases h':m=0
  .rw [iP h'];exact Su n
  .rw [iN h'];exact Su m
 .rw [iN h];exact Su s
def Wm{s m n e:Int}{P Q R:Prop}(h1:sg s=e↔P)(h2:sg m=e↔Q)(h3:sg n=e↔R):sd3 s m n=e↔(¬s=0/\P)\/(s=0/\((¬m=0/\Q)\/(m=0/\R))):=by
 unfold sd3;by_cases h:s=0
 .rw [iP h];by_cases h':m=0
  .rw [iP h',h3];simp [h,h']
  .rw [iN h',h2];simp [h,h']
 .rw [iN h,h1];simp [h]
def T3{x:Int}:sg x=1↔0<x:=by rcases R9 (x:=x) with h | h | h<;>ac_rfl
def Uj{x:Int}:sg x=-1↔x<0:=by rcases R9 (x:=x) with h | h | h<;>ac_rfl
abbrev sdE(ax ay aw bx bY bw px py ps:Int):Int:=sd3 (ow ax ay aw bx bY bw px py ps) (ay*bw - aw*bY) (aw*bx - ax*bw)
def Ui(ax ay aw bx bY bw px py ps:Int):sdE bx bY bw ax ay aw px py ps=- sdE ax ay aw bx bY bw px py ps:=by
 unfold sdE;rw [<-Zsu];congr 1
 .unfold ow;grind
 .grind
 .grind
def w_side{U:D->Prop}{ax ay aw ah bx bY bw bh px py ps:Int}{av bv:List Int}(a:Cr ax ay aw)(b:Cr bx bY bw)(p:Cr px py ps)(h:U (.int (sdE ax ay aw bx bY bw px py ps))):Tl (Jo [cor ax ay aw ah av,cor bx bY bw bh bv,.tup [.int px,.int py,.int ps]]) U:=by
 unfold Jo;symm;refine ZK a b ?_;symm;obtain ⟨g,f,e⟩:=a.n b;refine az g f e p ?_;symm;unfold sdE sd3 at h;change U (.int (if ow ax ay aw bx bY bw px py ps=0 then _ else _)) at h
 show Tl (BP _ _ [.int (ow ax ay aw bx bY bw px py ps),.int _,.int _] _) _;generalize ow ax ay aw bx bY bw px py ps=s at *;generalize ay*bw - aw*bY=m at *;generalize aw*bx - ax*bw=n at *;refine w_f1 ?_;symm;refine Jw (λc=>?_) (λc=>?_)
 .rw [iN c] at h;symm;refine CP (λd=>?_) (λd=>?_)
  .symm;rw [Um d] at h;exact h
  .symm;rw [Vj (by ac_rfl)] at h;exact h
 rw [iP c] at h;symm;refine w_f1 ?_;symm;refine Jw (λc=>?_) (λc=>?_)
 .rw [iN c] at h;symm;refine CP (λd=>?_) (λd=>?_)
  .symm;rw [Um d] at h;exact h
  .symm;rw [Vj (by ac_rfl)] at h;exact h
 rw [iP c] at h;symm;refine w_f1 ?_;symm;refine Jw (λc=>?_) (λc=>?_)
 .symm;refine CP (λd=>?_) (λd=>?_)
  .symm;rw [Um d] at h;exact h
  .symm;rw [Vj (by ac_rfl)] at h;exact h
 symm;refine w_f0 ?_;symm;rw [c,tR] at h;exact h
def jA{U:D->Prop}{ax ay aw ah bx bY bw bh cx cy cw ch:Int}{av bv cv:List Int}(ha:1<=aw)(hb:1<=bw)(hc:1<=cw)(h:U .non):Tl (Jj [.tup [cor ax ay aw ah av,cor bx bY bw bh bv,cor cx cy cw ch cv]]) U:=by
 unfold Jj cor;symm;refine w_f1 ?_;symm;refine w_f1 ?_;symm;refine w_f1 ?_;symm;refine w_f0 ?_;symm;exact h
def hd3(ab bc ca:Int):Int:=if ab=bc/\bc=ca then ab else 0
def Vy{U:D->Prop}{ax ay aw ah bx bY bw bh cx cy cw ch px py ps:Int}{av bv cv:List Int}(ha:1<=aw)(hb:1<=bw)(hc:1<=cw)(a:Cr ax ay aw)(b:Cr bx bY bw)(c:Cr cx cy cw)(p:Cr px py ps)(h:U (.int (hd3 (sdE ax ay aw bx bY bw px py ps) (sdE bx bY bw cx cy cw px py ps) (sdE cx cy cw ax ay aw px py ps)))):Tl (Pa [.tup [cor ax ay aw ah av,cor bx bY bw bh bv,cor cx cy cw ch cv],.tup [.int px,.int py,.int ps]]) U:=by
 unfold Pa;symm;refine jA ha hb hc ?_;symm;refine w_side a b p ?_;symm;refine w_side b c p ?_;symm;unfold hd3 at h;refine Jw (λd=>?_) (λd=>?_)
 .symm;rw [iN (by ac_rfl)] at h;exact h
 symm;refine w_side c a p ?_;symm;refine Jw (λe=>?_) (λe=>?_)
 .symm;rw [iN (by ac_rfl)] at h;exact h
 symm;rw [iP (by ac_rfl)] at h;exact h
def SJ{U:D->Prop}{ax ay aw ah bx bY bw bh px py ps:Int}{av bv:List Int}(a:Cr ax ay aw)(b:Cr bx bY bw)(p:Cr px py ps)(h:U (.int (ow ax ay aw bx bY bw px py ps))):Tl (Ky [cor ax ay aw ah av,cor bx bY bw bh bv,.tup [.int px,.int py,.int ps]]) U:=by
 unfold Ky;symm;refine ZK a b ?_;symm;obtain ⟨e,d,c⟩:=a.n b;refine az e d c p ?_;symm;exact h
def lE{U:D->Prop}{ax ay aw ah bx bY bw bh cx cy cw ch px py ps:Int}{av bv cv:List Int}(a:Cr ax ay aw)(b:Cr bx bY bw)(c:Cr cx cy cw)(p:Cr px py ps)
  (h:U (.tup [.int (ow bx bY bw cx cy cw px py ps),.int (ow cx cy cw ax ay aw px py ps),.int (ow ax ay aw bx bY bw px py ps)])):Tl (Q4 [.tup [cor ax ay aw ah av,cor bx bY bw bh bv,cor cx cy cw ch cv],.tup [.int px,.int py,.int ps]]) U:=by
 unfold Q4;symm;refine SJ b c p ?_;symm;refine SJ c a p ?_;symm;refine SJ a b p ?_;symm;exact h
def aR{s m n:Int}:sd3 s m n=1↔0<s\/(s=0/\(0<m\/(m=0/\0<n))):=by
 rw [Wm T3 T3 T3];ac_rfl
def eY{s m n:Int}:sd3 s m n=-1↔s<0\/(s=0/\(m<0\/(m=0/\n<0))):=by
 rw [Wm Uj Uj Uj];ac_rfl
def mul0{a b:Int}(ha:0<a)(hb:0<=b):0<=a*b:=Int.mul_nonneg (Int.le_of_lt ha) hb
def Vs{a b c x y z:Int}(ha:0<a)(hb:0<b)(hc:0<c)(hx:0<=x)(hy:0<=y)(hz:0<=z)(h:a*x+b*y+c*z<=0):x=0/\y=0/\z=0:=by
 have f:=mul0 ha hx;have e:=mul0 hb hy;have d:=mul0 hc hz;refine ⟨?_,?_,?_⟩
 .rcases Int.mul_eq_zero.mp (show a*x=0 by ac_rfl) with h | h<;>ac_rfl
 .rcases Int.mul_eq_zero.mp (show b*y=0 by ac_rfl) with h | h<;>ac_rfl
 .rcases Int.mul_eq_zero.mp (show c*z=0 by ac_rfl) with h | h<;>ac_rfl
def dX{ax ay aw bx bY bw cx cy cw px py ps:Int}(ha:0<aw)(hb:0<bw)(hc:0<cw)(hp:0<ps)(h1:sdE ax ay aw bx bY bw px py ps=1)(h2:sdE bx bY bw cx cy cw px py ps=1)(h3:sdE cx cy cw ax ay aw px py ps=1):0<ow ax ay aw bx bY bw cx cy cw:=by
 unfold sdE at h1 h2 h3;rw [aR] at h1 h2 h3;have j:aw*ow bx bY bw cx cy cw px py ps+bw*ow cx cy cw ax ay aw px py ps+cw*ow ax ay aw bx bY bw px py ps=ow ax ay aw bx bY bw cx cy cw*ps:=by unfold ow;grind
 have q:aw*(bY*cw - bw*cy)+bw*(cy*aw - cw*ay)+cw*(ay*bw - aw*bY)=0:=by grind
 have c:aw*(bw*cx - bx*cw)+bw*(cw*ax - cx*aw)+cw*(aw*bx - ax*bw)=0:=by grind
 generalize ow bx bY bw cx cy cw px py ps=e at *;generalize ow cx cy cw ax ay aw px py ps=f at *;generalize ow ax ay aw bx bY bw px py ps=g at *;generalize ow ax ay aw bx bY bw cx cy cw=o at *;by_cases ho:0<o
 .exact ho
 exfalso;have a:o*ps<=0:=by
  have:=Int.mul_nonneg (show 0<=-o by ac_rfl) (show 0<=ps by ac_rfl);rw [Int.neg_mul] at this;ac_rfl
 obtain ⟨n,b,h⟩:=Vs ha hb hc (x:=e) (y:=f) (z:=g) (by ac_rfl) (by ac_rfl) (by ac_rfl) (by ac_rfl);obtain ⟨d,i,m⟩:=Vs ha hb hc (x:=bY*cw - bw*cy) (y:=cy*aw - cw*ay) (z:=ay*bw - aw*bY) (by ac_rfl) (by ac_rfl) (by ac_rfl) (by ac_rfl);obtain ⟨p,k,l⟩:=Vs ha hb hc (x:=bw*cx - bx*cw) (y:=cw*ax - cx*aw) (z:=aw*bx - ax*bw) (by ac_rfl) (by ac_rfl) (by ac_rfl) (by ac_rfl);ac_rfl
def eO{ax ay aw bx bY bw cx cy cw px py ps:Int}(ha:0<aw)(hb:0<bw)(hc:0<cw)(hp:0<ps)(h1:sdE ax ay aw bx bY bw px py ps=-1)(h2:sdE bx bY bw cx cy cw px py ps=-1)(h3:sdE cx cy cw ax ay aw px py ps=-1):ow ax ay aw bx bY bw cx cy cw<0:=by
 have z:=dX hc hb ha hp (by rw [Ui bx bY bw cx cy cw,h2];rfl) (by rw [Ui ax ay aw bx bY bw,h1];rfl) (by rw [Ui cx cy cw ax ay aw,h3];rfl);have e:ow cx cy cw bx bY bw ax ay aw=- ow ax ay aw bx bY bw cx cy cw:=by unfold ow;grind
 ac_rfl
abbrev hdE(ax ay aw bx bY bw cx cy cw px py ps:Int):Int:=hd3 (sdE ax ay aw bx bY bw px py ps) (sdE bx bY bw cx cy cw px py ps) (sdE cx cy cw ax ay aw px py ps)
def kJ{x y z:Int}(hx:x=1\/x=0\/x=-1)(h:hd3 x y z≠0):∃e,(e=1\/e=-1)/\x=e/\y=e/\z=e:=by
 unfold hd3 at h;split at h
 .exact ⟨x,by ac_rfl,rfl,by ac_rfl,by ac_rfl⟩
 .exact aB rfl h
def HR{U:Fl->Prop}{g:MG}{k:MS}{Z:Ev}{enc:Nat->D}{n:Nat}(I:Nat->Ev->Prop)(h0:I 0 Z)(h:∀j,j<n->∀Z,I j Z->Tl (g (enc j) Z) λZ1=>Tl (k Z1) λf=>∃Z2,f=.nx Z2/\I (j+1) Z2)(hd:∀Z,I n Z->U (.nx Z)):Tl (BP g k ((List.range n).map enc) Z) U:=by
 refine Uv (λp Z=>I p.length Z) h0 (λp x r e Z i=>?_) λZ i=>?_
 .have l:p.length<n:=by
   have:=Bw List.length e;simp at this;ac_rfl
  have ex:x=enc p.length:=by
   have z:=Bw (λl=>l[p.length]?) e;simp [l] at z;exact z.symm
  subst ex;obtain ⟨Z1,c,f,b,Z2,rfl,a⟩:=h _ l Z i;refine ⟨Z1,c,_,b,Z2,rfl,?_⟩;simpa using a
 .simp at i;exact hd Z i
def JX(n:Nat):CN 0 n=(List.range n).map λ(k:Nat)=>D.int k:=by
 unfold CN;simp
def Wt(e f g:Int):Prop:=(0<=e/\0<=f/\0<=g/\0<e+f+g)\/(e<=0/\f<=0/\g<=0/\e+f+g<0)
def Ws{ax ay aw bx bY bw cx cy cw px py ps:Int}(ha:0<aw)(hb:0<bw)(hc:0<cw)(hp:0<ps)(h:hdE ax ay aw bx bY bw cx cy cw px py ps≠0):Wt (ow bx bY bw cx cy cw px py ps) (ow cx cy cw ax ay aw px py ps) (ow ax ay aw bx bY bw px py ps):=by
 obtain ⟨s,j,b,c,a⟩:=kJ (zQ _ _ _) h;have g:aw*ow bx bY bw cx cy cw px py ps+bw*ow cx cy cw ax ay aw px py ps+cw*ow ax ay aw bx bY bw px py ps=ow ax ay aw bx bY bw cx cy cw*ps:=by unfold ow;grind
 rcases j with rfl | rfl
 .have o:=dX ha hb hc hp b c a;have i:=Hw o hp;rw [aR] at b c a;left;refine ⟨by ac_rfl,by ac_rfl,by ac_rfl,?_⟩;by_cases z:0<ow bx bY bw cx cy cw px py ps+ow cx cy cw ax ay aw px py ps+ow ax ay aw bx bY bw px py ps
  .exact z
  .exfalso;have f:ow bx bY bw cx cy cw px py ps=0:=by ac_rfl
   have e:ow cx cy cw ax ay aw px py ps=0:=by ac_rfl
   have d:ow ax ay aw bx bY bw px py ps=0:=by ac_rfl
   rw [f,e,d] at g;ac_rfl
 .have o:=eO ha hb hc hp b c a;have i:=Hw (show 0 < - ow ax ay aw bx bY bw cx cy cw by ac_rfl) hp;rw [Int.neg_mul] at i;rw [eY] at b c a;right;refine ⟨by ac_rfl,by ac_rfl,by ac_rfl,?_⟩;by_cases z:ow bx bY bw cx cy cw px py ps+ow cx cy cw ax ay aw px py ps+ow ax ay aw bx bY bw px py ps<0
  .exact z
  .exfalso;have f:ow bx bY bw cx cy cw px py ps=0:=by ac_rfl
   have e:ow cx cy cw ax ay aw px py ps=0:=by ac_rfl
   have d:ow ax ay aw bx bY bw px py ps=0:=by ac_rfl
   rw [f,e,d] at g;ac_rfl
def R0{a x:Int}(ha:1<=a)(hx:0<=x):x<=a*x:=by
 have:=Ud ha hx;ac_rfl
def Ug{a x:Int}(ha:1<=a)(hx:x<=0):a*x<=x:=by
 have:=Ud ha (show 0<=-x by ac_rfl);rw [Int.mul_neg,Int.mul_neg,Int.one_mul] at this;ac_rfl
def u9{x y z e f g:Int}(hx:1<=x)(hy:1<=y)(hz:1<=z)(w:Wt e f g):(0<e+f+g/\0<dot x y z e f g)\/(e+f+g<0/\dot x y z e f g<0):=by
 unfold dot;rcases w with ⟨h1,h2,h3,h4⟩ | ⟨h1,h2,h3,h4⟩
 .have:=R0 hx h1;have:=R0 hy h2;have:=R0 hz h3;left;ac_rfl
 .have:=Ug hx h1;have:=Ug hy h2;have:=Ug hz h3;right;ac_rfl
def Xv{x y z e f g:Int}(hx:1<=x)(hy:1<=y)(hz:1<=z)(w:Wt e f g):dot x y z e f g≠0:=by
 rcases u9 hx hy hz w with h | h<;>ac_rfl
def tH{U:D->Prop}{ax ay aw ah bx bY bw bh cx cy cw ch px py ps:Int}{av bv cv:List Int}(ha:1<=aw)(hb:1<=bw)(hc:1<=cw)(a:Cr ax ay aw)(b:Cr bx bY bw)(c:Cr cx cy cw)(p:Cr px py ps)(h0:hdE ax ay aw bx bY bw cx cy cw px py ps=0)(q:U .non):Tl (Di [.tup [cor ax ay aw ah av,cor bx bY bw bh bv,cor cx cy cw ch cv],.tup [.int px,.int py,.int ps]]) U:=by
 unfold Di;symm;refine Vy ha hb hc a b c p ?_;unfold hdE at h0;rw [h0];symm;exact q
def xg{U:D->Prop}{ax ay aw ah bx bY bw bh cx cy cw ch px py ps:Int}{av bv cv:List Int}(ha:1<=aw)(hb:1<=bw)(hc:1<=cw)(hp:1<=ps)(a:Cr ax ay aw)(b:Cr bx bY bw)(c:Cr cx cy cw)(p:Cr px py ps)(va:Cv 64 ax ay aw ah av)(vb:Cv 64 bx bY bw bh bv)(vc:Cv 64 cx cy cw ch cv)(hl:av.length<=1000)(h0:hdE ax ay aw bx bY bw cx cy cw px py ps≠0){e f g B:Int}(e1:e=ow bx bY bw cx cy cw px py ps)(e2:f=ow cx cy cw ax ay aw px py ps)(e3:g=ow ax ay aw bx bY bw px py ps)(e4:B=dot ah bh ch e f g)
  (q:U (.tup [fra (dot aw bw cw e f g) B,.tup (vls av bv cv e f g B)])):Tl (Di [.tup [cor ax ay aw ah av,cor bx bY bw bh bv,cor cx cy cw ch cv],.tup [.int px,.int py,.int ps]]) U:=by
 have W:=Ws (by ac_rfl) (by ac_rfl) (by ac_rfl) (by ac_rfl) h0;subst e4 e1 e2 e3;unfold Di;symm;refine Vy ha hb hc a b c p ?_;symm;refine lE a b c p ?_;symm;refine nJ va vb vc (b.ow c p) (c.ow a p) (a.ow b p) (by decide) hl (Xv va.f1 vb.f1 vc.f1 W) ?_;symm;exact q
def Dw(r:Int):Prop:=0<=r/\r<2147483648
def Ly{U:D->Prop}{cc:Int}{n:Nat}(hn:n<=900)(q:∀rs:List Int,rs.length=n->(∀r∈rs,Dw r)->U (.lst (rs.map .int))):Tl (H9 [.int cc,.int n]) U:=by
 unfold H9;symm;refine ⟨by simp [CN];ac_rfl,?_⟩;rw [JX,Do];refine w_all (λ_ y=>∃r:Int,y=.int r/\Dw r) (λx m=>?_) λc f e=>?_
 .obtain ⟨k,g,rfl⟩:=Bk.mp m;have g:=DN.mp g;symm;exact Xd (by ac_rfl) λr d=>⟨r,rfl,d⟩
 .have l:c.length=n:=by simpa using f
  have b:∀y∈c,∃r:Int,y=.int r/\Dw r:=λy o=>by
   obtain ⟨i,j,rfl⟩:=Ii.mp o;exact e i _ _ (Aw (by ac_rfl)) (Aw j)
  obtain ⟨rs,rfl,a⟩ : ∃rs:List Int,c=rs.map .int/\∀r∈rs,Dw r:=by
   clear l e f q
   induction c with
   | nil=>exact ⟨[],rfl,λ_ h=>(CK h).elim⟩
   | cons y t ih=>
    obtain ⟨r,rfl,d⟩:=b y BL;obtain ⟨rs,rfl,a⟩:=ih λz p=>b z (BW _ p);refine ⟨r::rs,rfl,λu hu=>?_⟩;rcases Al.mp hu with rfl | hu
    .exact d
    .exact a u hu
  symm;exact q rs (by simpa using l) a
structure Ck(x y w h:Int):Prop where
 x:Bd x
 y:Bd y
 w:1<=w/\w<=1000000
 h:1<=h/\h<=1000000
def Ck.cr{x y w h:Int}(c:Ck x y w h):Cr x y w:=⟨c.x.s,c.y.s,sm6 ⟨by have:=c.w;ac_rfl,by have:=c.w;ac_rfl⟩⟩
def cut2(a b:D)(r:List D):cutL (a::b::r) none (some 2)=[a,b]:=by
 unfold cutL cutAt;have:min (2:Int).toNat (a::b::r).length=2:=by simp
 simp only [];rw [iN (by decide),this];rfl
def six{rs:List Int}(h:6<=rs.length):∃n0 n1 n2 n3 n4 n5 t,rs=n0::n1::n2::n3::n4::n5::t:=by
 rcases rs with _ | ⟨n0,_ | ⟨n1,_ | ⟨n2,_ | ⟨n3,_ | ⟨n4,_ | ⟨n5,t⟩⟩⟩⟩⟩⟩<;>first | exact ⟨_,_,_,_,_,_,_,rfl⟩ | (exfalso;simp at h)
def cV{s t e:Int}(hs:1<=s/\s<=8)(ht:1<=t/\t<=3)(he:0<=e/\e<=s*8):Bd (t*(e - s)):=by
 have b:t*(-8)<=t*(e - s):=Qu (by ac_rfl) (by ac_rfl);have a:t*(e - s)<=t*64:=Qu (by ac_rfl) (by ac_rfl);exact ⟨by ac_rfl,by ac_rfl⟩
def Zx{U:D->Prop}{rs:List Int}{many:Nat}(hm:many<=3)(hl:rs.length=6+many)(hr:∀r∈rs,Dw r)(q:∀(x y w h:Int) (vs:List Int),Ck x y w h->vs.length=many->(∀v∈vs,Bd v)->U (cor x y w h vs)):Tl (LR [.lst (rs.map .int),.int many]) U:=by
 obtain ⟨a,b,m,i,j,n,t,rfl⟩:=six (rs:=rs) (by ac_rfl);have O:t.length=many:=by simp at hl;ac_rfl
 have J:=hr a (by simp);have A:=hr b (by simp);have H:=hr m (by simp);have E:=hr i (by simp);have K:=hr j (by simp);have C:=hr n (by simp);unfold Dw at J A H E K C;unfold LR;symm;rw [show cutL ((a::b::m::i::j::n::t).map D.int) none (some 2)=[.int a,.int b] from cut2 _ _ _];symm;refine G5 (by simp;ac_rfl) λd l=>?_;have c:∃s:Int,d=.int s/\1<=s/\s<=8:=by
  simp only [Al,CK,Ej] at l;rcases l with rfl | rfl | rfl | rfl
  .exact ⟨_,rfl,by decide⟩
  .exact ⟨_,rfl,by decide⟩
  .exact ⟨_,rfl,by decide⟩
  .exact ⟨_,rfl,by decide⟩
 obtain ⟨s,rfl,p⟩:=c;symm;have z:1<=1+a/16%3/\1+a/16%3<=3:=by ac_rfl
 generalize 1+a/16%3=tm at *
 have B:Bd (tm*(a/64%(s*8+1) - s)):=cV p z (by
  have:=Gq (a/64) (show s*8+1≠0 by ac_rfl);have:=G4 (a/64) (show 0<s*8+1 by ac_rfl)
  ac_rfl)
 have L:Bd (tm*(b%(s*8+1) - s)):=cV p z (by
  have:=Gq b (show s*8+1≠0 by ac_rfl);have:=G4 b (show 0<s*8+1 by ac_rfl)
  ac_rfl)
 have I:1<=s*tm/\s*tm<=1000000:=by
  have P:0<s*tm:=Hw (by ac_rfl) (by ac_rfl);have N:s*tm<=s*3:=Qu (by ac_rfl) (by ac_rfl);ac_rfl
 generalize tm*(a/64%(s*8+1) - s)=x at *;generalize tm*(b%(s*8+1) - s)=y at *;generalize s*tm=w at *;refine G5 (by simp;ac_rfl) λd l=>?_;have c:∃h:Int,d=.int h/\1<=h/\h<=1000000:=by
  simp only [Al,CK,Ej] at l;rcases l with rfl | rfl | rfl | rfl
  .exact ⟨_,rfl,by decide⟩
  .exact ⟨_,rfl,by ac_rfl⟩
  .exact ⟨_,rfl,by ac_rfl⟩
  .exact ⟨_,rfl,by ac_rfl⟩
 obtain ⟨h,rfl,F⟩:=c;symm;refine ⟨by simp [CN];ac_rfl,?_⟩;rw [Do];refine Xl (λk G=>?_) λvs e g=>?_
 .symm;show Tl (dIx (.lst ((a::b::m::i::j::n::t).map .int)) _) _;refine LC (by rw [hl];ac_rfl) λu M=>?_;symm;exact ⟨_,rfl,by ac_rfl,by ac_rfl⟩
 symm;refine Tl.mono (Ψ:=λf=>∃(x y w h:Int) (vs:List Int),Ck x y w h/\vs.length=many/\(∀v∈vs,Bd v)/\f=Fl.nx [.im (.lst ((a::b::m::i::j::n::t).map .int)),.im (.int many),.im (.int a),.im (.int b),.im (.int s),.im (.int tm),.im (.int x),.im (.int y),.im (.int w),.im (.int h),.im (.tup (vs.map .int))]) ?_ ?_
 .refine CP (λ_=>?_) (λ_=>?_)
  .symm;refine ⟨by simp [CN];ac_rfl,?_⟩;rw [Do];refine Xl (λk G=>?_) λvs e g=>?_
   .symm;show Tl (dIx (.lst ((a::b::m::i::j::n::t).map .int)) _) _;refine LC (by rw [hl];ac_rfl) λu M=>?_;symm;exact ⟨_,rfl,by ac_rfl,by ac_rfl⟩
   symm;exact ⟨_,_,_,_,vs,⟨⟨by ac_rfl,by ac_rfl⟩,⟨by ac_rfl,by ac_rfl⟩,by ac_rfl,by ac_rfl⟩,e,g,rfl⟩
  .symm;exact ⟨_,_,_,_,vs,⟨B,L,I,F⟩,e,g,rfl⟩
 rintro f ⟨x,y,w,h,vs,o,e,g,rfl⟩;symm;refine CP (λ_=>?_) (λ_=>?_)
 .symm;exact q _ _ _ _ vs ⟨⟨by ac_rfl,by ac_rfl⟩,o.y,by ac_rfl,o.h⟩ e g
 .symm;exact q _ _ _ _ vs o e g
def nQ{rs:List Int}{k:Nat}(h:k<=rs.length):cutL (rs.map .int) none (some (k:Int))=(rs.take k).map .int:=by
 unfold cutL cutAt;rw [Ad];simp only [];rw [iN (by ac_rfl),Do,Kf h,Ln,Nat.sub_zero,HH]
def Th{rs:List Int}{i k:Nat}(h0:i<=k)(h:k<=rs.length):cutL (rs.map .int) (some (i:Int)) (some (k:Int))=((rs.drop i).take (k - i)).map .int:=by
 unfold cutL cutAt;rw [Ad];simp only [];rw [iN (by ac_rfl),iN (by ac_rfl),Do,Do,Kf h,Kf (CJ h0 h),HH,KJ]
def isC(k:Nat)(d:D):Prop:=∃(x y w h:Int) (vs:List Int),d=cor x y w h vs/\Ck x y w h/\vs.length=k/\∀v∈vs,Bd v
def isT(k:Nat)(d:D):Prop:=∃a b c:D,d=.tup [a,b,c]/\isC k a/\isC k b/\isC k c
def isR(n:Nat)(d:D):Prop:=∃a:List Int,d=.lst (a.map .int)/\a.length=n/\∀r∈a,Dw r
def Qn{U:D->Prop}{xs:List D}{i:Int}{P:D->Prop}(h:0<=i/\i<xs.length)(hp:∀x∈xs,P x)(q:∀x,P x->U x):Tl (dIx (.lst xs) (.int i)) U:=G5 h λx a=>q x (hp x a)
def Vb{xs ys:List D}{P:D->Prop}(ly:ys.length=xs.length)(hy:∀(i:Nat) x y,xs[i]?=some x->ys[i]?=some y->P y):∀y∈ys,P y:=λy b=>by
 obtain ⟨i,a,rfl⟩:=Ii.mp b;exact hy i _ _ (Aw (by ac_rfl)) (Aw a)
def gk{U:D->Prop}{ns:List Int}{first:Int}{most many:Nat}(hf:0<=first/\first<=100)(hmo:most<=6)(hm:many<=3)(q:∀ts:List D,ts.length<=most->(∀t∈ts,isT many t)->U (.lst ts)):Tl (QR [.lst (ns.map .int),.int first,.int most,.int many]) U:=by
 unfold QR;symm;refine ⟨by simp [CN],?_⟩;refine w_all (λ_ y=>isR (3*(6+many)) y) (λx g=>?_) λz d s=>?_
 .obtain ⟨k,W,rfl⟩:=mem_range g;symm;refine Jq (by ac_rfl) λcc=>?_;symm;rw [show (3*(6+(many:Int)))=((3*(6+many):Nat):Int) by ac_rfl];exact Ly (by ac_rfl) λR I n=>⟨R,rfl,I,n⟩
 have s:=Vb d s;have d:z.length=6:=d;symm;refine ⟨by rw [d];decide,?_⟩;refine w_all (λ_ y=>isC many y) (λx g=>?_) λN e l=>?_
 .obtain ⟨R,rfl,I,n⟩:=s x g;symm;rw [show (6+(many:Int))=((6+many:Nat):Int) by ac_rfl,nQ (by ac_rfl)];exact Zx hm (by rw [CZ];ac_rfl) (λr h=>n r (GC h)) λx y w h O K G Q=>⟨x,y,w,h,O,rfl,K,G,Q⟩
 have l:=Vb e l;have e:N.length=6:=e.trans d;symm;refine Jq (by ac_rfl) λcc=>?_;symm;rw [show ((most:Int)+1)=((most+1:Nat):Int) by ac_rfl];refine Ly (by ac_rfl) λY T X=>?_;symm;refine LC (by rw [T];ac_rfl) λc H=>?_;have S:Dw c:=X c H;unfold Dw at S;symm;have hn:0<=c%((most:Int)+1)/\c%((most:Int)+1)<=most:=by
  have:=Gq c (show (most:Int)+1≠0 by ac_rfl);have:=G4 c (show (0:Int)<(most:Int)+1 by ac_rfl);ac_rfl
 generalize c%((most:Int)+1)=m at hn ⊢;symm;rw [JX];refine HR (λj Z=>∃(ts:List D) (M a b:Cl),ts.length=j/\(∀t∈ts,isT many t)/\Z=[.im (.lst (ns.map .int)),.im (.int first),.im (.int most),.im (.int many),.im (.int (6+(many:Int))),.im (.lst z),.im (.lst N),.im (.lst (Y.map .int)),.ow ts,M,a,b]) ⟨[],_,_,_,rfl,λ_ h=>(CK h).elim,rfl⟩ ?_ ?_
 .rintro j hj Z ⟨ts,M,a,b,lt,J,rfl⟩;symm;refine LC (by rw [T];ac_rfl) λP u=>?_;have E:Dw P:=X P u;unfold Dw at E;symm;refine Qn (by rw [e];ac_rfl) l λA L=>?_;symm;refine Qn (by rw [e];ac_rfl) l λB F=>?_;symm;refine Qn (by rw [e];ac_rfl) l λC v=>?_;symm;refine Tl.mono (Ψ:=λf=>∃A B C:D,isC many A/\isC many B/\isC many C/\f=Fl.nx [.im (.lst (ns.map .int)),.im (.int first),.im (.int most),.im (.int many),.im (.int (6+(many:Int))),.im (.lst z),.im (.lst N),.im (.lst (Y.map .int)),.ow ts,.im (.int j),.im (.int P),.im (.lst [A,B,C])]) ?_ ?_
  .refine CP (λ_=>?_) (λ_=>?_)
   .symm;refine ⟨by simp [CN],?_⟩;refine w_all (λ_ y=>isC many y) (λx g=>?_) λV p o=>?_
    .obtain ⟨k,W,rfl⟩:=mem_range g;symm;refine Qn (by rw [d];ac_rfl) s λrow i=>?_;obtain ⟨R,rfl,I,n⟩:=i;have k3:k<3:=W;have ka:(6+many)*k<=(6+many)*2:=Nat.mul_le_mul_left _ (by ac_rfl);symm;rw [show (6+(many:Int))*(k:Int)=(((6+many)*k:Nat):Int) by rw [Ig];rfl,show (((6+many)*k:Nat):Int)+(6+(many:Int))=(((6+many)*k+(6+many):Nat):Int) by ac_rfl,Th (by ac_rfl) (by ac_rfl)];exact Zx hm (by rw [CZ,GX];ac_rfl) (λr h=>n r (Mx (GC h))) λx y w h O K G Q=>⟨x,y,w,h,O,rfl,K,G,Q⟩
    have o:=Vb p o;have p:V.length=3:=p;symm
    match V,p with
    | [A,B,C],_=>exact ⟨A,B,C,o A (by simp),o B (by simp),o C (by simp),rfl⟩
   .symm;exact ⟨A,B,C,L,F,v,rfl⟩
  rintro f ⟨A,B,C,L,F,v,rfl⟩;symm;refine ⟨by ac_rfl,_,rfl,ts++[.tup [A,B,C]],_,_,_,by simp [lt],λt h=>?_,rfl⟩;rcases Ek.mp h with h | h
  .exact J t h
  .simp only [Al,CK,Ej] at h;subst h;exact ⟨A,B,C,rfl,L,F,v⟩
 .rintro Z ⟨ts,M,a,b,lt,J,rfl⟩;symm;exact q ts (by ac_rfl) J
def frD(q:Rat):D:=.tup [.int q.num,.int (q.den:Int)]
def JR{t b:Int}(hb:b≠0):fra t b=frD (Rat.divInt t b):=by
 have F:=Mt.ZL (t:=t) hb;have c:((Rat.divInt t b).den:Int)≠0:=by have:=(Rat.divInt t b).den_nz;ac_rfl
 have e:=(Rat.divInt_eq_divInt_iff c hb).mp (Je (Rat.divInt t b));have r:=(Rat.divInt t b).reduced;have p:=(Rat.divInt t b).den_pos;generalize Rat.divInt t b=q at *;have a:Int.gcd q.num (q.den:Int)=1:=by
  show Nat.gcd q.num.natAbs (q.den:Int).natAbs=1;rw [Lh];exact r
 have s:=F.same
 obtain ⟨f,d⟩:=Mt.ZvE F.pos F.low (show 1<=(q.den:Int) by ac_rfl) a (by
  generalize Mt.frT t b=T at *;generalize Mt.frB t b=B at *;refine Int.eq_of_mul_eq_mul_left hb ?_
  calc b*(T*q.den)=(T*b)*q.den:=by grind
   _=(t*q.den)*B:=by rw [s];grind
   _=b*(q.num*B):=by rw [<-e];grind)
 unfold fra frD;rw [f,d]
structure Bq(k:Nat)(q:Rat):Prop where
 n:Sm k q.num
 d:Sm k (q.den:Int)
def Bq.mono(h:Bq k q)(hk:k<=m):Bq m q:=⟨h.n.mono hk,h.d.mono hk⟩
def Jr{t b:Int}{k:Nat}(hb:0<b)(st:Sm k t)(sb:Sm k b):Bq k (Rat.divInt t b):=by
 have e:=JR (t:=t) (b:=b) (by ac_rfl);unfold fra frD Mt.frT Mt.frB at e;rw [iN (by ac_rfl),iN (by ac_rfl)] at e;have a:0<(Int.gcd t b:Int):=by have:=Mt.O8 (t:=t) (b:=b) (by ac_rfl);ac_rfl
 injection e with e
 injection e with e1 e2
 injection e1 with e1
 injection e2 with e2 _
 injection e2 with e2
 refine ⟨st.le ?_,sb.le ?_⟩
 .rw [<-e1];exact Mt.T8 a
 .rw [<-e2];exact Mt.T8 a
def Gy{U:D->Prop}{t b:Int}{k:Nat}(hb:0<b)(st:Sm k t)(sb:Sm k b)(hk:k<=8000)(h:Bq k (Rat.divInt t b)->U (frD (Rat.divInt t b))):Tl (Ef [.int t,.int b]) U:=by
 refine RV (by ac_rfl) sb (by ac_rfl) ?_;rw [JR (by ac_rfl)];exact h (Jr hb st sb)
def den1(q:Rat):0<(q.den:Int):=by have:=q.den_pos;ac_rfl
def Rf(p q:Rat):Rat.divInt (p.num*q.den+q.num*p.den) (p.den*q.den)=p+q:=by
 have a:=den1 p;have b:=den1 q;rw [<-Rat.divInt_add_divInt p.num q.num (by ac_rfl) (by ac_rfl),Je,Je]
def vN(p q:Rat):Rat.divInt (p.num*q.num) (p.den*q.den)=p*q:=by
 rw [<-Rat.divInt_mul_divInt,Je,Je]
def ZqK{U:D->Prop}{p q:Rat}{a b:Nat}(hp:Bq a p)(hq:Bq b q)(hab:a+b<=4000)(h:Bq (a+b+1) (p+q)->U (frD (p+q))):Tl (Jd [frD p,frD q]) U:=by
 have i:Bl p.num q.den=true:=Cw hp.n hq.d (by ac_rfl);have k:Bl q.num p.den=true:=Cw hq.n hp.d (by ac_rfl);have j:Bl p.den q.den=true:=Cw hp.d hq.d (by ac_rfl);have f:Sm (a+b+1) (p.num*q.den+q.num*p.den):=((hp.n.mul hq.d).add (show Sm (a+b) _ from JV b a▸hq.n.mul hp.d)).mono (by ac_rfl);have e:Sm (a+b+1) ((p.den:Int)*q.den):=(hp.d.mul hq.d).mono (by ac_rfl);have g:0<(p.den:Int)*q.den:=Hw (den1 p) (den1 q);unfold Jd frD;symm;refine Gy g f e (by ac_rfl) ?_;rw [Rf];intro c;symm;exact h c
def Wn{U:D->Prop}{p q:Rat}{a b:Nat}(hp:Bq a p)(hq:Bq b q)(hab:a+b<=4000)(h:Bq (a+b) (p*q)->U (frD (p*q))):Tl (Nj [frD p,frD q]) U:=by
 have f:Bl p.num q.num=true:=Cw hp.n hq.n (by ac_rfl);have g:Bl p.den q.den=true:=Cw hp.d hq.d (by ac_rfl);have e:0<(p.den:Int)*q.den:=Hw (den1 p) (den1 q);unfold Nj frD;symm;refine Gy e (hp.n.mul hq.n) (hp.d.mul hq.d) (by ac_rfl) ?_;rw [vN];intro c;symm;exact h c
def Lg{U:D->Prop}{xs:List D}{i:Nat}{d:D}(h:xs[i]?=some d)(q:U d):Tl (dIx (.lst xs) (.int i)) U:=by
 show Tl (ofO (at_ xs (i:Int))) U;rw [Q0,h];exact Ak q
def Gh{α:Type}{U:Fl->Prop}{g:MG}{k:MS}{Z:Ev}{enc:α->D}{l:List α}(I:List α->Ev->Prop)(h0:I [] Z)(h:∀p a r,p++a::r=l->∀Z,I p Z->Tl (g (enc a) Z) λZ1=>Tl (k Z1) λf=>∃Z2,f=.nx Z2/\I (p++[a]) Z2)(hd:∀Z,I l Z->U (.nx Z)):Tl (BP g k (l.map enc) Z) U:=by
 have b:∀(r p:List α),p++r=l->∀Z,I p Z->Tl (BP g k (r.map enc) Z) U:=by
  intro r
  induction r with
  | nil=>
   intro p e Z i;rw [Bp] at e;exact w_f0 (hd Z (e▸i))
  | cons a r ih=>
   intro p e Z i;rw [Bb];refine w_f1 ((h p a r e Z i).mono λZ1 t=>t.mono λf zq=>?_);obtain ⟨Z2,d,c⟩:=zq;subst d;exact ih (p++[a]) (by rw [Dr];exact e) Z2 c
 exact b l [] rfl Z h0
def vW{α:Type}{U:Fl->Prop}{g:MG}{k:MS}{Z:Ev}{enc:α->D}{l:List α}(I:List α->Ev->Prop)(h0:I [] Z)(h:∀p a r,p++a::r=l->∀Z,I p Z->Tl (g (enc a) Z) λZ1=>Tl (k Z1) λf=>∃Z2,(f=.nx Z2\/f=.ct Z2)/\I (p++[a]) Z2)(hd:∀Z,I l Z->U (.nx Z)):Tl (BP g k (l.map enc) Z) U:=by
 have b:∀(r p:List α),p++r=l->∀Z,I p Z->Tl (BP g k (r.map enc) Z) U:=by
  intro r
  induction r with
  | nil=>
   intro p e Z i;rw [Bp] at e;exact w_f0 (hd Z (e▸i))
  | cons a r ih=>
   intro p e Z i;rw [Bb];refine w_f1 ((h p a r e Z i).mono λZ1 t=>t.mono λf zq=>?_);obtain ⟨Z2,d,c⟩:=zq;rcases d with rfl | rfl
   .exact ih (p++[a]) (by rw [Dr];exact e) Z2 c
   .exact ih (p++[a]) (by rw [Dr];exact e) Z2 c
 exact b l [] rfl Z h0
structure Sg where
 d:D
 gl:Bool
 q:Rat
 v:D
 own:Rat
 part:Rat
 col:Rat
 k:Int
def insR(acc:List Sg)(s:Sg):List Sg:=acc.takeWhile (λr=>!decide (s.q<r.q))++s::acc.dropWhile (λr=>!decide (s.q<r.q))
def insL(acc:List Sg)(s:Sg):List Sg:=acc.take (acc.filter λl=>decide (s.q<l.q)).length++s::acc.drop (acc.filter λl=>decide (s.q<l.q)).length
def Asc(l:List Sg):Prop:=l.Pairwise λa b=>a.q<=b.q
def UW(s:Sg):insR [] s=[s]:=rfl
def K6{a:Sg}{r:List Sg}{s:Sg}(h:s.q<a.q):insR (a::r) s=s::a::r:=by
 unfold insR;rw [List.takeWhile_cons,List.dropWhile_cons,Dp h];rfl
def Mm{a:Sg}{r:List Sg}{s:Sg}(h:¬s.q<a.q):insR (a::r) s=a::insR r s:=by
 unfold insR;rw [List.takeWhile_cons,List.dropWhile_cons,Fz h];rfl
def S7{x s:Sg}:∀{l:List Sg},x∈insR l s↔x=s\/x∈l
 | []=>by simp [UW]
 | a::r=>by
  by_cases h:s.q<a.q
  .rw [K6 h,Al]
  .rw [Mm h,Al,S7 (l:=r),Al];constructor
   .rintro (z | z | z)<;>simp [z]
   .rintro (z | z | z)<;>simp [z]
def Zt{s:Sg}:∀{l:List Sg},Asc l->Asc (insR l s)
 | [],_=>by rw [UW];exact List.pairwise_singleton _ _
 | a::r,h=>by
  have b:=Fq.mp h;by_cases c:s.q<a.q
  .rw [K6 c];refine Fq.mpr ⟨λx hx=>?_,h⟩;rcases Al.mp hx with rfl | hx
   .exact Rat.le_of_lt c
   .exact Rat.le_trans (Rat.le_of_lt c) (b.1 x hx)
  .rw [Mm c];refine Fq.mpr ⟨λx hx=>?_,Zt b.2⟩;rcases S7.mp hx with rfl | hx
   .exact Rat.not_lt.mp c
   .exact b.1 x hx
def Xg(P:Sg->Bool){s:Sg}:∀{l:List Sg},Asc l->(insR l s).filter P=if P s then insR (l.filter P) s else l.filter P
 | [],_=>by rw [UW,Fv];rfl
 | a::r,h=>by
  have e:=Fq.mp h;by_cases c:s.q<a.q
  .rw [K6 c,Fv];by_cases hs:P s=true
   .rw [iP hs,iP hs];have d:∀m:List Sg,(∀x∈m,s.q<x.q)->insR m s=s::m:=by
     intro m f;cases m with
     | nil=>rfl
     | cons b t=>exact K6 (f b BL)
    rw [d];intro x hx;have hx:=(Jm.mp hx).1;rcases Al.mp hx with rfl | hx
    .exact c
    .exact Std.lt_of_lt_of_le c (e.1 x hx)
   .rw [iN hs,iN hs]
  .rw [Mm c,Fv,Xg P e.2,Fv];by_cases ha:P a=true
   .rw [iP ha,iP ha];by_cases hs:P s=true
    .rw [iP hs,iP hs,Mm c]
    .rw [iN hs,iN hs]
   .rw [iN ha,iN ha]
def FQ(l:List Sg):List Sg:=l.foldl insR []
def MK(l:List Sg)(s:Sg):FQ (l++[s])=insR (FQ l) s:=by unfold FQ;rw [List.foldl_append];rfl
def snoc_ind{α:Type}{M:List α->Prop}(h0:M [])(h1:∀l a,M l->M (l++[a])):∀l,M l:=by
 intro l;have b:∀r:List α,M r.reverse:=by
  intro r
  induction r with
  | nil=>exact h0
  | cons a r ih=>rw [List.reverse_cons];exact h1 _ _ ih
 have:=b l.reverse;rwa [List.reverse_reverse] at this
def ig(l:List Sg):Asc (FQ l):=by
 refine snoc_ind (M:=λl=>Asc (FQ l)) List.Pairwise.nil (λl a ih=>?_) l;rw [MK];exact Zt ih
def Yo(P:Sg->Bool)(l:List Sg):(FQ l).filter P=FQ (l.filter P):=by
 refine snoc_ind (M:=λl=>(FQ l).filter P=FQ (l.filter P)) rfl (λl a ih=>?_) l;rw [MK,Xg P (ig l),ih,Ji];by_cases ha:P a=true
 .rw [iP ha,Fv,iP ha,IV,MK]
 .rw [iN ha,Fv,iN ha,IV,Bp]
def PQ(l:List Sg):List Sg:=l.foldl insL []
def Zkl(l:List Sg)(s:Sg):PQ (l++[s])=insL (PQ l) s:=by unfold PQ;rw [List.foldl_append];rfl
def GQ(n:Option Sg)(s:Sg):Option Sg:=if s.gl=true then n else match n with
  | none=>some s
  | some m=>if s.q<m.q then some s else some m
def near(l:List Sg):Option Sg:=l.foldl GQ none
def Wl(l:List Sg)(s:Sg):near (l++[s])=GQ (near l) s:=by unfold near;rw [List.foldl_append];rfl
def tO{l:List Sg}{s:Sg}:(insR l s).head?=some (match l.head? with
  | none=>s
  | some m=>if s.q<m.q then s else m):=by
 cases l with
 | nil=>rfl
 | cons a r=>
  by_cases h:s.q<a.q
  .rw [K6 h];show some s=some (if s.q<a.q then s else a);rw [iP h]
  .rw [Mm h];show some a=some (if s.q<a.q then s else a);rw [iN h]
def rD(l:List Sg):near l=((FQ l).filter λs=>!s.gl).head?:=by
 rw [Yo];refine snoc_ind (M:=λl=>near l=(FQ (l.filter λs=>!s.gl)).head?) rfl (λl s ih=>?_) l;rw [Wl,Ji];unfold GQ;cases hs:s.gl with
 | true=>
  rw [iP rfl,Fv,iN (by rw [hs];decide),IV,Bp];exact ih
 | false=>
  rw [iN DX,Fv,iP (by rw [hs];rfl),IV,MK,tO,<-ih];cases near l with
  | none=>rfl
  | some m=>
   show (if s.q<m.q then some s else some m)=some (if s.q<m.q then s else m)
   by_cases c:s.q<m.q
   .rw [iP c,iP c]
   .rw [iN c,iN c]
structure GS(s:Sg):Prop where
 ob:∃(c:Str) (ns:List Str) (vs:List D),s.d=.ins c ns vs/\ns.contains "is_glass"=false/\ns.contains "colour_at"=false/\(∃f,Ff.lookup c=some f/\f [s.d]=.ok (.bl s.gl))/\(s.gl=false->∃f,K9.lookup c=some f/\f [s.d,s.v]=.ok (frD s.own))
 pt:s.gl=true->dFld objs "part" s.d=.ok (frD s.part)/\dFld objs "colour" s.d=.ok (frD s.col)
 bq:Bq 300 s.q
 bo:Bq 300 s.own
 bp:Bq 32 s.part
 bc:Bq 32 s.col
def seeD:Option Sg->D
 | none=>.non
 | some s=>.tup [frD s.q,s.v]
structure Seen(p d:D)(o:Option Sg):Prop where
 tri:∃T,dFld objs "triangle" d=.ok T/\Di [T,p]=.ok (seeD o)
 ok:∀s,o=some s->s.d=d/\GS s
abbrev encS(s:Sg):D:=.tup [s.d,frD s.q,s.v]
def Sy{U:D->Prop}{tab:List (Str×(List D->Res D))}{m:Str}{o:ME}{a:MA}{Z:Ev}(h:Tl (o Z) λd=>∃(c:Str) (ns:List Str) (vs:List D) (f:List D->Res D),d=.ins c ns vs/\ns.contains m=false/\tab.lookup c=some f/\Tl (a Z) λds=>Tl (f (.ins c ns vs::ds)) U):Tl (meth tab m o a Z) U:=by
 obtain ⟨d,i,c,ns,vs,f,rfl,b,e,ds,g,q⟩:=h;unfold meth;rw [i]
 show Tl (if ns.contains m=true then .bad else match tab.lookup c with
  | some f=>(a Z).bind λds=>f (.ins c ns vs::ds)
  | none=>.bad) U
 rw [b,iN DX,e];show Tl ((a Z).bind λds=>f (.ins c ns vs::ds)) U;rw [g];exact q
def bT{U:D->Prop}{s:Sg}{o:ME}{Z:Ev}(g:GS s)(ho:o Z=.ok s.d)(q:U (.bl s.gl)):Tl (meth Ff "is_glass" o Ab Z) U:=by
 obtain ⟨c,h,j,e,b,k,⟨f,i,a⟩,_⟩:=g.ob;refine Sy ⟨_,ho,c,h,j,f,e,b,i,?_⟩;refine Af (x:=[]) rfl ?_;rw [<-e];exact Af a q
def Zwg{U:D->Prop}{s:Sg}{o:ME}{a:MA}{Z:Ev}(g:GS s)(h:s.gl=false)(ho:o Z=.ok s.d)(ha:a Z=.ok [s.v])(q:U (frD s.own)):Tl (meth K9 "colour_at" o a Z) U:=by
 obtain ⟨c,j,l,e,m,i,_,z⟩:=g.ob;obtain ⟨f,k,b⟩:=z h;refine Sy ⟨_,ho,c,j,l,f,e,i,k,?_⟩;refine Af ha ?_;rw [<-e];exact Af b q
def Ib{U:D->Prop}{a b:Rat}(ha:Bq 300 a)(hb:Bq 300 b)(h:U (.bl (decide (a<b)))):Tl (Ez [frD a,frD b]) U:=by
 have c:Bl a.num b.den=true:=Cw ha.n hb.d (by decide);have f:Bl b.num a.den=true:=Cw hb.n ha.d (by decide);unfold Ez frD;symm;have e:decide (a.num*(b.den:Int)<b.num*(a.den:Int))=decide (a<b):=decide_eq_decide.mpr (Rat.lt_iff a b).symm;rw [e];exact h
def optS:Option Sg->D
 | none=>.non
 | some s=>encS s
def eZ{U:D->Prop}{l:List Sg}(hl:∀s∈l,GS s)(q:U (optS (near l))):Tl (Oe [.lst (l.map encS)]) U:=by
 unfold Oe;symm;refine vW (enc:=encS) (λa Z=>∃i:Cl,(∀s,near a=some s->s∈a)/\Z=[.im (.lst (l.map encS)),.im (optS (near a)),i]) ⟨.no,(λs h=>by cases h),rfl⟩ ?_ ?_
 .rintro a s r e Z ⟨i,g,rfl⟩;have k:s∈l:=by rw [<-e];simp
  have j:=hl s k;have n:=j.bq;have b:∀t,GQ (near a) s=some t->t∈a++[s]:=by
   intro t d;unfold GQ at d;by_cases hg:s.gl=true
   .rw [iP hg] at d;exact GP _ (g t d)
   .rw [iN hg] at d;cases hn:near a with
    | none=>rw [hn] at d;cases d;simp
    | some m=>
     rw [hn] at d;have d:(if s.q<m.q then some s else some m)=some t:=d
     by_cases c:s.q<m.q
     .rw [iP c] at d;cases d;simp
     .rw [iN c] at d;cases d;exact GP _ (g _ hn)
  rw [Wl];symm;refine bT j rfl ?_;symm;cases hg:s.gl with
  | true=>
   symm;have f:GQ (near a) s=near a:=by unfold GQ;rw [iP hg]
   rw [f] at b ⊢;exact ⟨_,.inr rfl,_,b,rfl⟩
  | false=>
   symm;cases hn:near a with
   | none=>
    have f:GQ none s=some s:=by unfold GQ;rw [iN (by rw [hg];exact Bool.false_ne_true)]
    rw [hn,f] at b;rw [f];show Tl _ _;unfold optS;symm;exact ⟨_,.inl rfl,_,b,rfl⟩
   | some m=>
    have o:=hl m (by rw [<-e];exact GP _ (g _ hn));rw [hn] at b;have f:GQ (some m) s=if s.q<m.q then some s else some m:=by unfold GQ;rw [iN (by rw [hg];exact Bool.false_ne_true)]
    unfold optS;symm;refine Ib n o.bq ?_;symm;refine CP (λc=>?_) (λc=>?_)
    .rw [f,iP c] at b ⊢;symm;exact ⟨_,.inl rfl,_,b,rfl⟩
    .rw [f,iN c] at b ⊢;symm;exact ⟨_,.inl rfl,_,b,rfl⟩
 .rintro Z ⟨i,g,rfl⟩;symm;exact q
def Xa{U:Fl->Prop}{i:Nat}{k e:ME}{Z:Ev}{xs:List D}(hx:Z[i]?=some (.ow xs))(h:Tl (k Z) λu=>∃j:Nat,u=.int j/\j<=xs.length/\xs.length<1000000/\Tl (e Z) λd=>U (.nx (Z.set i (.ow (xs.take j++d::xs.drop j))))):Tl (insO i k e Z) U:=by
 obtain ⟨u,c,j,rfl,f,b,d,a,q⟩:=h;unfold insO;rw [hx];show Tl ((k Z).bind _) U;rw [c];show Tl ((e Z).bind λd=>if (0<=(j:Int)/\(j:Int)<=xs.length)/\xs.length<LIM then .ok (.nx (Z.set i (.ow (xs.take (j:Int).toNat++d::xs.drop (j:Int).toNat)))) else .bad) U
 rw [a];show Tl (if (0<=(j:Int)/\(j:Int)<=xs.length)/\xs.length<LIM then .ok (.nx (Z.set i (.ow (xs.take (j:Int).toNat++d::xs.drop (j:Int).toNat)))) else .bad) U
 rw [iP ⟨by ac_rfl,b⟩,Do];exact Ak q
def dC{α:Type}{U:List D->Prop}{g:MG}{t:MB}{e:ME}{Z:Ev}{enc:α->D}(P:α->Bool):∀{l:List α},(∀a∈l,Tl (g (enc a) Z) λZ1=>Tl (t Z1) λb=>b=P a/\Tl (e Z1) λy=>y=enc a)->U ((l.filter P).map enc)->Tl (Bc g t e Z (l.map enc)) U:=by
 intro l h q;have d:∀l:List α,(∀a∈l,Tl (g (enc a) Z) λZ1=>Tl (t Z1) λb=>b=P a/\Tl (e Z1) λy=>y=enc a)->Bc g t e Z (l.map enc)=.ok ((l.filter P).map enc):=by
  intro l
  induction l with
  | nil=>exact λ_=>rfl
  | cons a r ih=>
   intro h;obtain ⟨Z1,k,b,i,f,y,j,rfl⟩:=h a BL;have z:=ih λc m=>h c (BW _ m);rw [Bb,Uo,k,Hj,i,Hj,Fv];by_cases c:P a=true
   .rw [f,iP c,iP c,j,Hj,z];rfl
   .rw [f,iN c,iN c,z]
 exact Af (d l h) q
def EY(n:Option Sg)(s:Sg):Bool:=s.gl&&(match n with
 | none=>true
 | some m=>decide (s.q<m.q))
def lay(n:Option Sg)(l:List Sg):List Sg:=PQ (l.filter (EY n))
def M8(n:Option Sg)(l:List Sg)(s:Sg):lay n (l++[s])=if EY n s=true then insL (lay n l) s else lay n l:=by
 unfold lay;rw [Ji,Fv,IV];by_cases h:EY n s=true
 .rw [iP h,iP h,Zkl]
 .rw [iN h,iN h,Bp]
def lH{x s:Sg}{l:List Sg}(h:x∈insL l s):x=s\/x∈l:=by
 unfold insL at h;rcases Ek.mp h with h | h
 .exact .inr (GC h)
 .rcases Al.mp h with h | h
  .exact .inl h
  .exact .inr (Mx h)
def cR{n:Option Sg}{x:Sg}{l:List Sg}:x∈lay n l->x∈l/\EY n x=true:=by
 refine snoc_ind (M:=λl=>x∈lay n l->x∈l/\EY n x=true) (λh=>by cases h) (λl s ih h=>?_) l;rw [M8] at h;by_cases c:EY n s=true
 .rw [iP c] at h;rcases lH h with rfl | h
  .exact ⟨by simp,c⟩
  .exact ⟨GP _ (ih h).1,(ih h).2⟩
 .rw [iN c] at h;exact ⟨GP _ (ih h).1,(ih h).2⟩
def ph(l:List Sg)(s:Sg):(insL l s).length=l.length+1:=by
 unfold insL;have:=Nk (λt:Sg=>decide (s.q<t.q)) l;simp;ac_rfl
def ZQ(n:Option Sg)(l:List Sg):(lay n l).length<=l.length:=by
 refine snoc_ind (M:=λl=>(lay n l).length<=l.length) (Am _) (λl s ih=>?_) l;rw [M8,BJ,HS];by_cases c:EY n s=true
 .rw [iP c,ph];ac_rfl
 .rw [iN c];ac_rfl
def eQ{U:D->Prop}{n:Option Sg}{l:List Sg}(hn:∀m,n=some m->GS m)(hl:∀s∈l,GS s)(hs:l.length<=1000)(q:U (.lst ((lay n l).map encS))):Tl (MP [optS n,.lst (l.map encS)]) U:=by
 unfold MP;symm;refine Gh (enc:=encS) (λa Z=>∃g b:Cl,Z=[.im (optS n),.im (.lst (l.map encS)),.ow ((lay n a).map encS),g,b]) ⟨_,_,rfl⟩ ?_ ?_
 .rintro a s r e Z ⟨g,b,rfl⟩;have w:s∈l:=by rw [<-e];simp
  have p:a.length<l.length:=by rw [<-e];simp
  have k:=hl s w;have u:∀x∈lay n a,GS x:=λx y=>hl x (by rw [<-e];exact GP _ (cR y).1);have z:=ZQ n a;have j:EY n s=true->∀b:Cl,Tl ((sq (st 4 (pk 2 (on bLen (Aa (comp (iv (v 2)) 1 [3] (gN 0) (trb (on Ez (Aa (o2 dIx (v 1) (c (.int 1))) (Aa (o2 dIx (v 0) (c (.int 1))) Ab)))) (v 0)) Ab)))) (insO 2 (v 4) (v 3))) [.im (optS n),.im (.lst (l.map encS)),.ow ((lay n a).map encS),.im (encS s),b]) λf=>∃h,f=.nx h/\∃g b:Cl,h=[.im (optS n),.im (.lst (l.map encS)),.ow ((lay n (a++[s])).map encS),g,b]:=by
   intro i b;rw [M8,iP i];symm;refine ⟨by rw [Ad];ac_rfl,?_⟩;refine dC (λt:Sg=>decide (s.q<t.q)) (λt o=>?_) ?_
   .symm;refine Ib k.bq (u t o).bq ?_;symm;exact ⟨rfl,by symm⟩
   symm;refine Xa rfl ?_;symm;have:=Nk (λt:Sg=>decide (s.q<t.q)) (lay n a);refine ⟨((lay n a).filter λt=>decide (s.q<t.q)).length,by rw [Ad],by rw [Ad];exact this,by rw [Ad];ac_rfl,?_⟩;symm;rw [<-HH,<-KJ,<-Bb,<-Cz];exact ⟨_,rfl,_,_,rfl⟩
  have d:EY n s=false->∃h,Fl.nx [.im (optS n),.im (.lst (l.map encS)),.ow ((lay n a).map encS),.im (encS s),b]=.nx h/\∃g b:Cl,h=[.im (optS n),.im (.lst (l.map encS)),.ow ((lay n (a++[s])).map encS),g,b]:=λi=>by
   rw [M8,i,iN DX];exact ⟨_,rfl,_,_,rfl⟩
  symm;refine bT k rfl ?_;symm;cases hg:s.gl with
  | false=>
   symm;exact d (by unfold EY;rw [hg];rfl)
  | true=>
   cases n with
   | none=>
    unfold optS;symm;have i:EY none s=true:=by unfold EY;rw [hg];rfl
    rw [M8,iP i];refine ⟨by rw [Ad];ac_rfl,?_⟩;refine dC (λt:Sg=>decide (s.q<t.q)) (λt o=>?_) ?_
    .symm;refine Ib k.bq (u t o).bq ?_;symm;exact ⟨rfl,by symm⟩
    symm;refine Xa rfl ?_;symm;have:=Nk (λt:Sg=>decide (s.q<t.q)) (lay none a);refine ⟨((lay none a).filter λt=>decide (s.q<t.q)).length,by rw [Ad],by rw [Ad];exact this,by rw [Ad];ac_rfl,?_⟩;symm;rw [<-HH,<-KJ,<-Bb,<-Cz];exact ⟨_,rfl,_,_,rfl⟩
   | some m=>
    unfold optS;symm;refine Ib k.bq (hn m rfl).bq ?_;symm;refine CP (λc=>?_) (λc=>?_)
    .exact j (by unfold EY;rw [hg];simp [c]) _
    .symm;exact d (by unfold EY;rw [hg];simp [c])
 .rintro Z ⟨g,b,rfl⟩;symm;exact q
def pL(p q:Rat):Rat.divInt (p.num*q.den - q.num*p.den) (p.den*q.den)=p - q:=by
 have a:=den1 p;have b:=den1 q;rw [Rat.sub_eq_add_neg,<-Rf p (-q),Rat.neg_num,Rat.neg_den];congr 1
 grind
def eN{U:D->Prop}{p q:Rat}{a b:Nat}(hp:Bq a p)(hq:Bq b q)(hab:a+b<=4000)(h:Bq (a+b+1) (p - q)->U (frD (p - q))):Tl (Lb [frD p,frD q]) U:=by
 have j:Bl p.num q.den=true:=Cw hp.n hq.d (by ac_rfl);have l:Bl q.num p.den=true:=Cw hq.n hp.d (by ac_rfl);have k:Bl p.den q.den=true:=Cw hp.d hq.d (by ac_rfl);have i:Sm (a+b) (q.num*p.den):=JV b a▸hq.n.mul hp.d;have e:Sm (a+b+1) (p.num*q.den - q.num*p.den):=by
  have z:=((hp.n.mul hq.d).add i.neg).mono (show max (a+b) (a+b)+1<=a+b+1 by ac_rfl);rw [<-Int.sub_eq_add_neg] at z;exact z
 have f:Sm (a+b+1) ((p.den:Int)*q.den):=(hp.d.mul hq.d).mono (by ac_rfl);have g:0<(p.den:Int)*q.den:=Hw (den1 p) (den1 q);unfold Lb frD;symm;refine Gy g e f (by ac_rfl) ?_;rw [pL];intro c;symm;exact h c
def mixQ(s:Sg)(c:Rat):Rat:=s.part*s.col+(1 - s.part)*c
def gW:Bq 1 (1:Rat):=⟨by show (1:Int).natAbs<2^1;decide,by show (1:Int).natAbs<2^1;decide⟩
def tE{U:D->Prop}{s:Sg}{c:Rat}{B:Nat}(g:GS s)(hg:s.gl=true)(hc:Bq B c)(hB:B<=3000)(q:Bq (B+170) (mixQ s c)->U (frD (mixQ s c))):Tl (N6 [s.d,frD c]) U:=by
 obtain ⟨a,b⟩:=g.pt hg;unfold N6;symm;refine Af a ?_;symm;show Tl (Lb [frD 1,frD s.part]) _;refine eN gW g.bp (by decide) λf=>?_;symm;refine Af a ?_;symm;refine Af b ?_;symm;refine Wn g.bp g.bc (by decide) λe=>?_;symm;refine Wn f hc (by ac_rfl) λi=>?_;symm;refine ZqK e i (by ac_rfl) λh=>?_;symm;exact q (h.mono (by ac_rfl))
def Hm(g:Rat):Option Sg->Rat
 | none=>g
 | some m=>m.own
def layQ(l:List Sg)(c:Rat):Rat:=l.foldl (λc s=>mixQ s c) c
def colQ(g:Rat)(l:List Sg):Rat:=layQ (lay (near l) l) (Hm g (near l))
def U4{l:List Sg}{m:Sg}(h:near l=some m):m∈l/\m.gl=false:=by
 rw [rD] at h;have z:=List.mem_of_mem_head? (by rw [h];rfl:m∈((FQ l).filter λs=>!s.gl).head?);rw [Yo] at z;have a:∀k:List Sg,m∈FQ k->m∈k:=by
  intro k;refine snoc_ind (M:=λk=>m∈FQ k->m∈k) (λh=>h) (λk s ih h=>?_) k;rw [MK] at h;rcases S7.mp h with rfl | h
  .simp
  .exact GP _ (ih h)
 have y:=Jm.mp (a _ z);exact ⟨y.1,by simpa using y.2⟩
def Zp4{n:Option Sg}{s:Sg}(h:EY n s=true):s.gl=true:=by
 unfold EY at h;rw [Hg] at h;exact h.1
def rowD(w:Nat)(R:Nat->Rat):D:=.lst ((List.range w).map λj=>frD (R j))
def patD(h w:Nat)(P:Nat->Nat->Rat):D:=.lst ((List.range h).map λi=>rowD w (P i))
def Ct(n:Nat):Prop:=n=1\/n=2\/n=4\/n=8\/n=16
def Ct.le{n:Nat}(h:Ct n):1<=n/\n<=16:=by unfold Ct at h;ac_rfl
def cQ{U:D->Prop}{n:Nat}(hn:Ct n)(h:U (.bl false)):Tl (dNin (.int n) (.tup [.int 1,.int 2,.int 4,.int 8,.int 16])) U:=by
 refine Af ?_ h;rcases hn with rfl | rfl | rfl | rfl | rfl<;>rfl
def Rc{U:D->Prop}{n:Int}(h:U (.bl true)):Tl (Gg [.int n]) U:=by
 unfold Gg;symm;exact h
def Vr{U:D->Prop}{q:Rat}(h:U (.bl true)):Tl (KR [frD q]) U:=by
 have d:=den1 q;unfold KR frD;symm;refine Rc ?_;symm;refine Rc ?_;symm;refine pN (ns:=[q.num,(q.den:Int)]) ?_;rw [Mt.dM,show Int.gcd q.num (q.den:Int)=1 by show Nat.gcd q.num.natAbs (q.den:Int).natAbs=1;rw [Lh];exact q.reduced];symm;exact h
def jJ{U:D->Prop}{h w:Nat}{P:Nat->Nat->Rat}(hh:Ct h)(hw:Ct w)(q:U .non):Tl (NK [patD h w P]) U:=by
 have g:=hh.le;have e:=hw.le;have b:patD h w P=.lst (rowD w (P 0)::((List.range (h - 1)).map λi=>rowD w (P (i+1)))):=by
  unfold patD;obtain ⟨k,rfl⟩ : ∃k,h=k+1:=⟨h - 1,by ac_rfl⟩;rw [Qx,Bb,Dz];rfl
 unfold NK;unfold patD;symm;rw [Ad,Bx];refine cQ hh ?_;symm;refine HR (λj Z=>∃a:Cl,Z=[.im (patD h w P),a]) ⟨_,rfl⟩ ?_ ?_
 .rintro j d Z ⟨a,rfl⟩;unfold rowD;symm;rw [Ad,Bx];refine cQ hw ?_;symm;rw [b];symm;unfold rowD;symm;rw [Ad,Bx,Ad,Bx];symm;refine ⟨by rw [Ad,Bx];ac_rfl,?_⟩;refine Ex (λ_:Nat=>D.bl true) (λk f=>?_) ?_
  .symm;exact Vr rfl
  symm;refine Rz (λy c=>?_) ?_
  .obtain ⟨_,_,rfl⟩:=Bk.mp c;rfl
  symm;exact ⟨_,rfl,_,rfl⟩
 .rintro Z ⟨a,rfl⟩;symm;exact q
def rG{U:D->Prop}{h w:Nat}{P:Nat->Nat->Rat}{i:Nat}(hi:i<h)(q:U (rowD w (P i))):Tl (dIx (patD h w P) (.int i)) U:=by
 unfold patD;rw [Qh,Q0,Ca,QQ hi];exact Ak q
def ZsU{U:D->Prop}{w:Nat}{R:Nat->Rat}{i:Nat}(hi:i<w)(q:U (frD (R i))):Tl (dIx (rowD w R) (.int i)) U:=by
 unfold rowD;rw [Qh,Q0,Ca,QQ hi];exact Ak q
def Zhm{U:D->Prop}{vs:List Int}(hl:vs.length<=3)(h:U (.bl true)):Tl (PK [.tup (vs.map .int)]) U:=by
 unfold PK;symm;rw [Ad];symm;refine ⟨by ac_rfl,?_⟩;refine Ex (λ_:Int=>D.bl true) (λk b=>?_) ?_
 .symm;exact Rc rfl
 symm;refine Rz (λy a=>?_) ?_
 .obtain ⟨_,_,rfl⟩:=Bk.mp a;rfl
 symm;exact h
def UL{U:D->Prop}{x y w h:Int}{vs:List Int}(hh:1<=h)(hl:vs.length<=3)(q:U (.bl true)):Tl (QZ [cor x y w h vs]) U:=by
 unfold QZ cor;symm;rw [show cutL [D.int x,D.int y,D.int w,D.int h,D.tup (List.map D.int vs)] none (some 4)=[x,y,w,h].map D.int from rfl];refine ⟨by show (4:Nat)<=_;ac_rfl,?_⟩;refine Ex (λ_:Int=>D.bl true) (λk b=>?_) ?_
 .symm;exact Rc rfl
 symm;refine Rz (λy a=>?_) ?_
 .obtain ⟨_,_,rfl⟩:=Bk.mp a;rfl
 symm;refine Zhm hl ?_;symm;exact q
structure Tr(k:Nat)(T:D):Prop where
 ex:∃(ax ay aw ah bx bY bw bh cx cy cw ch:Int) (av bv cv:List Int),T=.tup [cor ax ay aw ah av,cor bx bY bw bh bv,cor cx cy cw ch cv]/\Ck ax ay aw ah/\Ck bx bY bw bh/\Ck cx cy cw ch /\
  av.length=k/\bv.length=k/\cv.length=k/\(∀v∈av,Bd v)/\(∀v∈bv,Bd v)/\(∀v∈cv,Bd v)
def jb{k:Nat}{T:D}(hk:k<=3)(h:Tr k T):O6 [T]=.ok .non:=by
 obtain ⟨n,m,g,r,j,l,f,s,t,w,u,o,v,q,d,rfl,c,a,b,p,e,i,_⟩:=h;refine Tl.eq ?_;unfold O6;symm;refine w_f1 ?_;symm;refine UL c.h.1 (by ac_rfl) ?_;unfold cor;symm;refine w_f1 ?_;symm;refine UL a.h.1 (by ac_rfl) ?_;symm;refine w_f1 ?_;symm;refine UL b.h.1 (by ac_rfl) ?_;symm;refine w_f0 ?_;symm
def wk{k:Nat}{T:D}(h:Tr k T):Jj [T]=.ok .non:=by
 obtain ⟨p,o,i,t,m,n,g,u,v,A,x,q,z,s,d,rfl,c,a,b,r,e,l,_⟩:=h;have j:=c.w.1;have f:=a.w.1;have y:=b.w.1;refine Tl.eq ?_;unfold Jj cor;symm;refine w_f1 ?_;symm;refine w_f1 ?_;symm;refine w_f1 ?_;symm;refine w_f0 ?_;symm
def ZR(q:Rat):Ng [frD q]=.ok .non:=by
 refine Tl.eq ?_;unfold Ng;symm;refine Vr ?_;symm
def xU{q:Rat}(h0:0<=q.num)(h1:q.num<=q.den):QS [frD q]=.ok .non:=by
 refine Tl.eq ?_;unfold QS;symm;refine Vr ?_;unfold frD;symm
def Yb{k:Nat}{T:D}{n:Int}(h:Tr k T)(hn:n<=k):Mz [T,.int n]=.ok .non:=by
 obtain ⟨o,m,g,s,j,l,f,t,u,x,v,p,w,r,a,rfl,e,c,d,q,b,i,_⟩:=h;refine Tl.eq ?_;unfold Mz cor;symm
def Nm{f:Str}{d:D}{k:MSi}{Z:Ev}{fl:Fs}{e:ME}(he:e Z=.ok d)(hn:(fl.map (·.1)).contains f=false)(hl:fl.length<100):iSet f e k Z fl=k Z (fl++[(f,d)]):=by
 unfold iSet;rw [he];show (if (fl.map (·.1)).contains f=true\/100<=fl.length then Res.bad else k Z (fl++[(f,d)]))=_
 rw [iN];rintro (z | z)
 .rw [hn] at z;cases z
 .ac_rfl
def IK{d:D}{k:MSi}{Z:Ev}{fl:Fs}{e:ME}(he:e Z=.ok d):iDrp e k Z fl=k Z fl:=by
 unfold iDrp;rw [he];rfl
def Q6{g:List D->Fs->Res Fs}{a:MA}{ds:List D}{k:MSi}{Z:Ev}{fl fl':Fs}(ha:a Z=.ok ds)(hg:g ds fl=.ok fl'):iSup g a k Z fl=k Z fl':=by
 unfold iSup;rw [ha];show (g ds fl).bind _=_;rw [hg];rfl
def no_c:([("triangle" : Str)]:List Str).contains "colour"=false:=by decide +kernel
def tu:([("triangle" : Str)]:List Str).contains "pattern"=false:=by decide +kernel
def qL:([("triangle" : Str),"colour"]:List Str).contains "part"=false:=by decide +kernel
abbrev fsT(T:D):Fs:=[(("triangle" : Str),T)]
def Q5{k:Nat}{T:D}(hk:k<=3)(h:Tr k T):Ik [T] []=.ok (fsT T):=by
 unfold Ik fnI;rw [IK (d:=.non) (jb hk h),IK (d:=.non) (wk h),Nm (d:=T) rfl rfl (by decide)];rfl
def Xe{k:Nat}{T:D}{q:Rat}(hk:k<=3)(h:Tr k T):JB [T,frD q] []=.ok [(("triangle" : Str),T),(("colour" : Str),frD q)]:=by
 unfold JB fnI;rw [Q6 (ds:=[T]) rfl (Q5 hk h),IK (d:=.non) (ZR q),Nm (d:=frD q) rfl no_c (by show (1:Nat)<100;decide)];rfl
def gD{k:Nat}{T:D}(hk:k<=3)(h:Tr k T)(h1:1<=k):Ms [T] []=.ok (fsT T):=by
 unfold Ms fnI;rw [Q6 (ds:=[T]) rfl (Q5 hk h),IK (d:=.non) (Yb h (by ac_rfl))];rfl
def ZF{k:Nat}{T:D}{q r:Rat}(hk:k<=3)(h:Tr k T)(h0:0<=r.num)(h1:r.num<=r.den):Jg [T,frD q,frD r] []=.ok [(("triangle" : Str),T),(("colour" : Str),frD q),(("part" : Str),frD r)]:=by
 unfold Jg fnI;rw [Q6 (ds:=[T]) rfl (Q5 hk h),IK (d:=.non) (ZR q),IK (d:=.non) (xU h0 h1),Nm (d:=frD q) rfl no_c (by show (1:Nat)<100;decide),Nm (d:=frD r) rfl qL (by show (2:Nat)<100;decide)];rfl
def q8{U:D->Prop}{h w:Nat}{P:Nat->Nat->Rat}(hh:h<=100)(q:U (patD h w P)):Tl (LQ [patD h w P]) U:=by
 unfold LQ patD;symm;refine ⟨by rw [Ad,Bx];ac_rfl,?_⟩;refine Ex (λi:Nat=>rowD w (P i)) (λi a=>?_) ?_
 .unfold rowD;symm
 symm;exact q
def jr{k h w:Nat}{T:D}{P:Nat->Nat->Rat}(hk:k<=3)(ht:Tr k T)(h2:2<=k)(hh:Ct h)(hw:Ct w):NQ [T,patD h w P] []=.ok [(("triangle" : Str),T),(("pattern" : Str),patD h w P)]:=by
 have c:=hh.le;have a:NK [patD h w P]=.ok .non:=Tl.eq (jJ hh hw rfl);have b:LQ [patD h w P]=.ok (patD h w P):=Tl.eq (q8 (by ac_rfl) rfl);unfold NQ fnI;rw [Q6 (ds:=[T]) rfl (Q5 hk ht),IK (d:=.non) (Yb ht (by ac_rfl)),IK (d:=.non) a,Nm (d:=patD h w P) b tu (by show (1:Nat)<100;decide)];rfl
inductive Thg:D->Prop
 | plain {k:Nat} {T:D} {q:Rat}:Tr k T->k<=3->Bq 32 q->Thg (.ins "Plain" ["triangle","colour"] [T,frD q])
 | shaded {k:Nat} {T:D}:Tr k T->k<=3->1<=k->Thg (.ins "Shaded" ["triangle"] [T])
 | patt {k h w:Nat} {T:D} {P:Nat->Nat->Rat}:Tr k T->k<=3->2<=k->Ct h->Ct w->(∀i,i<h->∀j,j<w->Bq 32 (P i j))->Thg (.ins "Patterned" ["triangle","pattern"] [T,patD h w P])
 | glass {k:Nat} {T:D} {q r:Rat}:Tr k T->k<=3->Bq 32 q->Bq 32 r->0<=r.num->r.num<=r.den->Thg (.ins "Glass" ["triangle","colour","part"] [T,frD q,frD r])
def fT1(T q:D):dFld objs "triangle" (.ins "Plain" ["triangle","colour"] [T,q])=.ok T:=rfl
def fT2(T:D):dFld objs "triangle" (.ins "Shaded" ["triangle"] [T])=.ok T:=rfl
def fT3(T q:D):dFld objs "triangle" (.ins "Patterned" ["triangle","pattern"] [T,q])=.ok T:=rfl
def fT4(T q r:D):dFld objs "triangle" (.ins "Glass" ["triangle","colour","part"] [T,q,r])=.ok T:=rfl
def fC4(T q r:D):dFld objs "colour" (.ins "Glass" ["triangle","colour","part"] [T,q,r])=.ok q:=rfl
def fP4(T q r:D):dFld objs "part" (.ins "Glass" ["triangle","colour","part"] [T,q,r])=.ok r:=rfl
def fN3(T q:D):dFld objs "pattern" (.ins "Patterned" ["triangle","pattern"] [T,q])=.ok q:=rfl
def dg{x:Int}{n:Nat}(h:1<=n):∃i:Nat,x%(n:Int)=(i:Int)/\i<n:=by
 have a:=Gq x (show (n:Int)≠0 by ac_rfl);have b:=G4 x (show (0:Int)<n by ac_rfl);exact ⟨(x%(n:Int)).toNat,by ac_rfl,by ac_rfl⟩
def ZG{U:D->Prop}{q:Rat}{k:Nat}(hb:Bq k q)(hk:k<=8000)(h:U (.int (q.num/(q.den:Int)))):Tl (Nz [frD q]) U:=by
 have d:=den1 q;have l:=hb.d.log (show k<9000 by ac_rfl);unfold Nz frD;generalize q.num=n at *;generalize (q.den:Int)=m at *;symm;exact h
def gq{U:D->Prop}{h w:Nat}{P:Nat->Nat->Rat}{u v:Rat}(hh:Ct h)(hw:Ct w)(bu:Bq 300 u)(bv:Bq 300 v)(q:∀i j,i<h->j<w->U (frD (P i j))):∃i j,i<h/\j<w/\Pu [patD h w P,frD u,frD v]=.ok (frD (P i j)):=by
 have f:=hh.le;have c:=hw.le;obtain ⟨i,e,b⟩:=dg (x:=v.num/(v.den:Int)) f.1;obtain ⟨j,d,a⟩:=dg (x:=u.num/(u.den:Int)) c.1;refine ⟨i,j,b,a,Tl.eq ?_⟩;unfold Pu;symm;refine ZG bv (by decide) ?_;symm;rw [Ad,Bx];symm;rw [e];refine rG b ?_;symm;refine ZG bu (by decide) ?_;symm;rw [Ad,Bx];symm;rw [d];refine ZsU a ?_;symm
def Xk{t b:Int}{k:Nat}(hb:b≠0)(st:Sm k t)(sb:Sm k b):Bq k (Rat.divInt t b):=by
 have F:=Mt.ZL (t:=t) hb;have e:=JR (t:=t) (b:=b) hb;unfold fra frD at e;injection e with e
 injection e with e1 e2
 injection e1 with e1
 injection e2 with e2 _
 injection e2 with e2
 exact ⟨e1▸st.le F.np,e2▸sb.le F.nq⟩
def Pr{k:Nat}{T:D}{px py ps:Int}(h:Tr k T)(hk:k<=3)(cp:Cr px py ps)(hp:1<=ps):Di [T,.tup [.int px,.int py,.int ps]]=.ok .non \/
  ∃(q:Rat) (vs:List Rat),vs.length=k/\Bq 300 q/\(∀v∈vs,Bq 300 v)/\Di [T,.tup [.int px,.int py,.int ps]]=.ok (.tup [frD q,.tup (vs.map frD)]):=by
 obtain ⟨r,p,g,N,m,o,f,O,u,C,i,K,L,M,I,rfl,a,b,c,la,lb,lc,Z,Q,X⟩:=h;have H:∀{n:Int},1<=n/\n<=1000000->Sm 64 n:=λh=>Sm.of64 (by ac_rfl) (by ac_rfl);have j:Cv 64 r p g N L:=⟨a.cr.x,a.cr.y,a.cr.w,H a.h,λv d=>(Z v d).s,a.h.1⟩;have z:Cv 64 m o f O M:=⟨b.cr.x,b.cr.y,b.cr.w,H b.h,λv d=>(Q v d).s,b.h.1⟩;have l:Cv 64 u C i K I:=⟨c.cr.x,c.cr.y,c.cr.w,H c.h,λv d=>(X v d).s,c.h.1⟩;by_cases h0:hdE r p g m o f u C i px py ps=0
 .left;exact Tl.eq (tH a.w.1 b.w.1 c.w.1 a.cr b.cr c.cr cp h0 rfl)
 .right;have W:=Ws (by have:=a.w;ac_rfl) (by have:=b.w;ac_rfl) (by have:=c.w;ac_rfl) (by ac_rfl) h0;have G:=b.cr.ow c.cr cp;have E:=c.cr.ow a.cr cp;have F:=a.cr.ow b.cr cp;have A:=Xv a.h.1 b.h.1 c.h.1 W;have e:=Tl.eq (xg (U:=λx=>x=_) a.w.1 b.w.1 c.w.1 hp a.cr b.cr c.cr cp j z l (by ac_rfl) h0 rfl rfl rfl rfl rfl);have J:=Rk j.fh z.fh l.fh G E F;have R:=Rk j.fw z.fw l.fw G E F;generalize ow m o f u C i px py ps=e1 at *;generalize ow u C i r p g px py ps=e2 at *;generalize ow r p g m o f px py ps=e3 at *;generalize hB:dot N O K e1 e2 e3=B at *;refine ⟨Rat.divInt (dot g f i e1 e2 e3) B,(L.zip (M.zip I)).map λt=>Rat.divInt (dot t.1 t.2.1 t.2.2 e1 e2 e3) B,?_,(Xk A R J).mono (by decide),λv d=>?_,?_⟩
  .rw [Ad,List.length_zip,List.length_zip];ac_rfl
  .obtain ⟨t,S,rfl⟩:=Bk.mp d;obtain ⟨Y,V,P⟩:=V4 S;exact (Xk A (Rk (j.fv _ Y) (z.fv _ V) (l.fv _ P) G E F) J).mono (by decide)
  .rw [e,JR A];unfold vls;rw [Dz];congr 3;congr 1;congr 1;exact Le λt _=>JR A
def Vx{α β:Type}(f:α->β)(R:Nat->α)(x:α)(n:Nat):(List.range n).map (λi=>f (R i))++[f x]=(List.range (n+1)).map λi=>f ((λi=>if i=n then x else R i) i):=by
 rw [HJ,Cz];show _=_++[f (if n=n then x else R n)]
 rw [iP rfl,show (List.range n).map (λi=>f ((λi=>if i=n then x else R i) i))=(List.range n).map (λi=>f (R i)) from Le λi a=>by
  show f (if i=n then x else R i)=_
  rw [iN (by have:=DN.mp a;ac_rfl)]]
def bB{α:Type}{Q:α->Prop}{R:Nat->α}{x:α}{n:Nat}(h:∀i,i<n->Q (R i))(hx:Q x):∀i,i<n+1->Q ((λi=>if i=n then x else R i) i):=λi a=>by
 show Q (if i=n then x else R i)
 by_cases c:i=n
 .rw [iP c];exact hx
 .rw [iN c];exact h i (by ac_rfl)
def VM(a:Int):D.tup [.int a,.int 1]=frD (a:Rat):=rfl
def Tw{a:Int}{k:Nat}(h:Sm k a)(hk:1<=k):Bq k (a:Rat):=⟨h,by
 show (1:Int).natAbs<2^k
 exact Nat.one_lt_two_pow (by ac_rfl)⟩
def uy{U:D->Prop}{n more:Int}(hn:0<=n)(q:∀(h w:Nat) (P:Nat->Nat->Rat),Ct h->Ct w->(∀i,i<h->∀j,j<w->Bq 32 (P i j))->U (patD h w P)):Tl (Q8 [.int n,.int more]) U:=by
 unfold Q8;symm;refine G5 ⟨by ac_rfl,by show _<((4:Nat):Int);ac_rfl⟩ λd a=>?_;obtain ⟨h,rfl,o⟩ : ∃n:Nat,d=.int n/\Ct n:=by
  simp only [Al,CK,Ej] at a;rcases a with rfl | rfl | rfl | rfl
  .exact ⟨1,rfl,by unfold Ct;ac_rfl⟩
  .exact ⟨2,rfl,by unfold Ct;ac_rfl⟩
  .exact ⟨4,rfl,by unfold Ct;ac_rfl⟩
  .exact ⟨16,rfl,by unfold Ct;ac_rfl⟩
 symm;refine G5 ⟨by ac_rfl,by show _<((4:Nat):Int);ac_rfl⟩ λd a=>?_;obtain ⟨w,rfl,p⟩ : ∃n:Nat,d=.int n/\Ct n:=by
  simp only [Al,CK,Ej] at a;rcases a with rfl | rfl | rfl | rfl
  .exact ⟨1,rfl,by unfold Ct;ac_rfl⟩
  .exact ⟨2,rfl,by unfold Ct;ac_rfl⟩
  .exact ⟨8,rfl,by unfold Ct;ac_rfl⟩
  .exact ⟨4,rfl,by unfold Ct;ac_rfl⟩
 have B:=o.le;have z:=p.le;symm;rw [JX,Do];refine HR (λj Z=>∃(P:Nat->Nat->Rat) (l m c b:Cl),(∀i,i<j->∀t,t<w->Bq 32 (P i t))/\Z=[.im (.int n),.im (.int more),.im (.int h),.im (.int w),.ow ((List.range j).map λi=>rowD w (P i)),l,m,c,b]) ⟨λ_ _=>0,_,_,_,_,(λi e=>aB e (Nat.not_lt_zero i)),rfl⟩ ?_ ?_
 .rintro j v Z ⟨P,l,m,c,b,g,rfl⟩;symm;rw [JX,Do];refine HR (λt Z=>∃(R:Nat->Rat) (c b:Cl),(∀i,i<t->Bq 32 (R i))/\Z=[.im (.int n),.im (.int more),.im (.int h),.im (.int w),.ow ((List.range j).map λi=>rowD w (P i)),.im (.int j),.ow ((List.range t).map λi=>frD (R i)),c,b]) ⟨λ_=>0,_,_,(λi e=>aB e (Nat.not_lt_zero i)),rfl⟩ ?_ ?_
  .rintro t y Z ⟨R,c,b,f,rfl⟩;symm;refine Xd (by ac_rfl) λr A=>?_;symm;refine Gy (k:=32) (by ac_rfl) (by show (r - 10^9).natAbs<2^32;ac_rfl) (by show (1+r/9%99).natAbs<2^32;ac_rfl) (by decide) λu=>?_;symm;rw [VM];refine G5 ⟨by ac_rfl,by show _<((2:Nat):Int);ac_rfl⟩ λd a=>?_;obtain ⟨x,rfl,s⟩ : ∃x:Rat,d=frD x/\Bq 32 x:=by
    simp only [Al,CK,Ej] at a;rcases a with rfl | rfl
    .exact ⟨_,rfl,Tw (by show (r%7).natAbs<2^32;ac_rfl) (by decide)⟩
    .exact ⟨_,rfl,u⟩
   refine ⟨by rw [Ad,Bx];ac_rfl,?_⟩;rw [Vx frD R x t];exact ⟨_,rfl,_,_,_,bB f s,rfl⟩
  .rintro Z ⟨R,c,b,f,rfl⟩;symm;refine ⟨by rw [Ad,Bx];ac_rfl,?_⟩;rw [show D.lst ((List.range w).map λi=>frD (R i))=rowD w R from rfl,Vx (rowD w) P R j];exact ⟨_,rfl,_,_,_,_,_,bB (Q:=λS:Nat->Rat=>∀t,t<w->Bq 32 (S t)) g f,rfl⟩
 .rintro Z ⟨P,l,m,c,b,g,rfl⟩;symm;exact q h w P o p g
def KC{U:D->Prop}{c:Str}{g:List D->Fs->Res Fs}{a:MA}{Z:Ev}(h:Tl (a Z) λds=>∃fl,g ds []=.ok fl/\U (.ins c (fl.map (·.1)) (fl.map (·.2)))):Tl (make c g a Z) U:=by
 obtain ⟨ds,d,fl,b,q⟩:=h;refine Af ?_ q;unfold make;rw [d];show (g ds []).bind _=_;rw [b];rfl
def j7{rs:List Int}{k:Nat}:cutL (rs.map .int) none (some (k:Int))=(rs.take k).map .int:=by
 unfold cutL cutAt;rw [Ad];simp only [];rw [iN (by ac_rfl),Do,Ln,Nat.sub_zero,HH];by_cases h:k<=rs.length
 .rw [Kf h]
 .rw [Nat.min_eq_right (by ac_rfl),HB (by simp),HB (by simp;ac_rfl)]
def J3{k:Nat}{d:D}(h:isT k d):Tr k d:=by
 obtain ⟨a,b,c,rfl,⟨t,s,n,y,C,rfl,m,v,j⟩,⟨q,r,l,z,x,rfl,g,f,w⟩,⟨A,E,B,u,e,rfl,i,p,o⟩⟩:=h;exact ⟨t,s,n,y,q,r,l,z,A,E,B,u,C,x,e,rfl,m,g,i,v,f,p,j,w,o⟩
def um{x y w h:Int}{vs:List Int}{f:Nat}:∃d1,dCut (cor x y w h vs) none (some 4)=.ok d1/\Ah d1 (.tup [.tup (cutL (vs.map .int) none (some (f:Int)))])=.ok (cor x y w h (vs.take f)):=by
 refine ⟨.tup [.int x,.int y,.int w,.int h],rfl,?_⟩;rw [j7];rfl
def mV{U:D->Prop}{k:Nat}{T:D}{n0 n1 n2 n3:Int}(d0:Dw n0)(d1:Dw n1)(d2:Dw n2)(d3:Dw n3)(hk:2<=k/\k<=3)(ht:isT k T)(q:∀d,Thg d->U d):Tl (Qp [.lst [.int n0,.int n1,.int n2,.int n3],T]) U:=by
 unfold Dw at d0 d1 d2 d3;unfold Qp;symm;refine Gy (k:=32) (by ac_rfl) (by show (2*(n0/8%9)+1).natAbs<2^32;ac_rfl) (by show (2:Int).natAbs<2^32;decide) (by decide) λN=>?_;symm;refine Gy (k:=32) (by ac_rfl) (by show (n1 - 10^9).natAbs<2^32;ac_rfl) (by show (1+n2).natAbs<2^32;ac_rfl) (by decide) λs=>?_;symm;rw [VM];refine G5 ⟨by ac_rfl,by show _<((3:Nat):Int);ac_rfl⟩ λd j=>?_;obtain ⟨cq,rfl,hc⟩ : ∃x:Rat,d=frD x/\Bq 32 x:=by
  simp only [Al,CK,Ej] at j;rcases j with rfl | rfl | rfl
  .exact ⟨_,rfl,Tw (by show (n0/8%9 - 2).natAbs<2^32;ac_rfl) (by decide)⟩
  .exact ⟨_,rfl,N⟩
  .exact ⟨_,rfl,s⟩
 clear j;symm;refine CP (λw0=>?_) (λw0=>?_)
 .obtain ⟨a,b,c,rfl,⟨C,S,z,L,av,rfl,ca,la,ba⟩,⟨A,B,u,M,bv,rfl,cb,lb,bb⟩,⟨F,Q,W,E,cv,rfl,cc,lc,bc⟩⟩:=ht;obtain ⟨f,hf⟩ : ∃f:Nat,1+n0/8%3=(f:Int):=⟨(1+n0/8%3).toNat,by ac_rfl⟩;symm;refine KC ?_;symm;refine ⟨by show (3:Nat)<=_;ac_rfl,?_⟩;rw [hf];have i:=λ(x y w h:Int) (vs:List Int)=>um (x:=x) (y:=y) (w:=w) (h:=h) (vs:=vs) (f:=f);obtain ⟨a1,X,G⟩:=i C S z L av;obtain ⟨b1,H,O⟩:=i A B u M bv;obtain ⟨c1,R,I⟩:=i F Q W E cv;have Y:Tr (min f k) (.tup [cor C S z L (av.take f),cor A B u M (bv.take f),cor F Q W E (cv.take f)]):=⟨C,S,z,L,A,B,u,M,F,Q,W,E,_,_,_,rfl,ca,cb,cc,by rw [CZ,la],by rw [CZ,lb],by rw [CZ,lc],λv l=>ba v (GC l),λv l=>bb v (GC l),λv l=>bc v (GC l)⟩;refine Fo ?_;symm;refine Af X ?_;symm;refine Af G ?_;symm;refine Fo ?_;symm;refine Af H ?_;symm;refine Af O ?_;symm;refine Fo ?_;symm;refine Af R ?_;symm;refine Af I ?_;symm;refine Qk ?_;symm;exact ⟨_,gD (by ac_rfl) Y (by ac_rfl),by symm; exact q _ (.shaded Y (by ac_rfl) (by ac_rfl))⟩
 symm;refine CP (λw1=>?_) (λw1=>?_)
 .symm;refine KC ?_;symm;refine uy (by ac_rfl) λh w P Z hw hP=>?_;symm;exact ⟨_,jr hk.2 (J3 ht) hk.1 Z hw,by symm; exact q _ (.patt (J3 ht) hk.2 hk.1 Z hw hP)⟩
 symm;refine CP (λw2=>?_) (λw2=>?_)
 .symm;refine KC ?_;symm;exact ⟨_,Xe hk.2 (J3 ht),by symm; exact q _ (.plain (J3 ht) hk.2 hc)⟩
 symm;refine Gy (k:=32) (t:=n3%(1+n1)) (by ac_rfl) (by have:=Gq n3 (show 1+n1≠0 by ac_rfl);have:=G4 n3 (show 0<1+n1 by ac_rfl);show (n3%(1+n1)).natAbs<2^32;ac_rfl) (by show (1+n1).natAbs<2^32;ac_rfl) (by decide) λK=>?_;symm;have r0:=Gq n3 (show 1+n1≠0 by ac_rfl);have r1:=G4 n3 (show 0<1+n1 by ac_rfl);have lo:∀{t b:Int},0<=t->t<=b->0<b->0<=(Rat.divInt t b).num/\(Rat.divInt t b).num<=(Rat.divInt t b).den:=by
  intro t b V J o;have d0:=den1 (Rat.divInt t b);have e:=(Rat.divInt_eq_divInt_iff (by ac_rfl) (by ac_rfl)).mp (Je (Rat.divInt t b));generalize (Rat.divInt t b).num=p at *;generalize ((Rat.divInt t b).den:Int)=m at *;have g0:0<=t*m:=Int.mul_nonneg V (by ac_rfl);have g1:t*m<=b*m:=Ud J (by ac_rfl);constructor
  .by_cases c:0<=p
   .exact c
   .exfalso;have:=Int.mul_lt_mul_of_pos_right (show p<0 by ac_rfl) o;ac_rfl
  .by_cases c:p<=m
   .exact c
   .exfalso;have:=Int.mul_lt_mul_of_pos_right (show m<p by ac_rfl) o;have c2:m*b=b*m:=Int.mul_comm _ _;ac_rfl
 refine G5 ⟨by ac_rfl,by show _<((6:Nat):Int);ac_rfl⟩ λd j=>?_;obtain ⟨pq,rfl,hp,r,n⟩ : ∃x:Rat,d=frD x/\Bq 32 x/\0<=x.num/\x.num<=x.den:=by
  have g:∀{t b:Int},D.tup [.int t,.int b]=frD (Rat.divInt t b)->0<=t->t<=b->0<b->b<2^30->∃x:Rat,D.tup [.int t,.int b]=frD x/\Bq 32 x/\0<=x.num/\x.num<=x.den:=λ{t b} e V J o h2=>⟨_,e,Jr o (by show t.natAbs<2^32;ac_rfl) (by show b.natAbs<2^32;ac_rfl),lo V J o⟩;simp only [Al,CK,Ej] at j;rcases j with rfl | rfl | rfl | rfl | rfl | rfl
  .exact g (t:=0) (b:=1) (by unfold frD;rw [show (Rat.divInt 0 1).num=0 by decide +kernel,show (Rat.divInt 0 1).den=1 by decide +kernel];rfl) (by decide) (by decide) (by decide) (by decide)
  .exact g (t:=1) (b:=2) (by unfold frD;rw [show (Rat.divInt 1 2).num=1 by decide +kernel,show (Rat.divInt 1 2).den=2 by decide +kernel];rfl) (by decide) (by decide) (by decide) (by decide)
  .exact g (t:=1) (b:=3) (by unfold frD;rw [show (Rat.divInt 1 3).num=1 by decide +kernel,show (Rat.divInt 1 3).den=3 by decide +kernel];rfl) (by decide) (by decide) (by decide) (by decide)
  .exact g (t:=2) (b:=3) (by unfold frD;rw [show (Rat.divInt 2 3).num=2 by decide +kernel,show (Rat.divInt 2 3).den=3 by decide +kernel];rfl) (by decide) (by decide) (by decide) (by decide)
  .exact g (t:=1) (b:=1) (by unfold frD;rw [show (Rat.divInt 1 1).num=1 by decide +kernel,show (Rat.divInt 1 1).den=1 by decide +kernel];rfl) (by decide) (by decide) (by decide) (by decide)
  .exact ⟨_,rfl,K,lo r0 (by ac_rfl) (by ac_rfl)⟩
 symm;refine KC ?_;symm;exact ⟨_,ZF hk.2 (J3 ht) r n,by symm; exact q _ (.glass (J3 ht) hk.2 hc hp r n)⟩
def wN{U:D->Prop}{ns:List Int}(q:∀ts:List D,ts.length<=4->(∀t∈ts,Thg t)->U (.lst ts)):Tl (Qc [.lst (ns.map .int),.int 0,.int 4]) U:=by
 unfold Qc;symm;refine Jq (by ac_rfl) λX=>?_;symm;refine Ly (n:=16) (by decide) λs W B=>?_;symm;refine Jq (by ac_rfl) λI=>?_;symm;obtain ⟨k,O⟩ : ∃k:Nat,2+I/2%2=(k:Int):=⟨(2+I/2%2).toNat,by ac_rfl⟩;rw [O];refine gk (first:=0) (most:=4) (many:=k) (by ac_rfl) (by decide) (by ac_rfl) λg S N=>?_
 symm;have V:Dl.numbered 0 g=g.zipIdx.map λy=>D.tup [.int (y.2:Int),y.1]:=by
  have w:∀(l:List D) (k:Nat),Dl.numbered k l=(l.zipIdx k).map λy=>D.tup [.int (y.2:Int),y.1]:=by
   intro l
   induction l with
   | nil=>intro k;rfl
   | cons a r ih=>
    intro k;rw [List.zipIdx_cons,Bb,<-ih (k+1)];rfl
  exact w g 0
 rw [V];refine Gh (enc:=λy:D×Nat=>D.tup [.int (y.2:Int),y.1]) (λf Z=>∃(ts:List D) (F A:Cl),ts.length=f.length/\(∀t∈ts,Thg t)/\Z=[.im (.lst (ns.map .int)),.im (.int 0),.im (.int 4),.im (.lst (s.map .int)),.ow ts,.im (.int k),F,A]) ⟨[],_,_,rfl,(λ_ h=>(CK h).elim),rfl⟩ ?_ ?_
 .rintro f ⟨T,i⟩ r e Z ⟨ts,F,A,o,j,rfl⟩;have m:g.zipIdx[f.length]?=some (T,i):=by rw [<-e];simp
  have v:g[f.length]?=some T/\i=f.length:=by
   rw [List.getElem?_zipIdx] at m;cases eL:g[f.length]? with
   | none=>rw [eL] at m;cases m
   | some y'=>
    rw [eL] at m;simp at m;exact ⟨by rw [m.1],m.2.symm⟩
  obtain ⟨G,rfl⟩:=v;have H:f.length<g.length:=by
   have:=Bw List.length e;simp at this;ac_rfl
  obtain ⟨E,z,C,u,J,Q,K,P,M⟩ : ∃E z C u:Int,(s.drop (4*f.length)).take 4=[E,z,C,u]/\Dw E/\Dw z/\Dw C/\Dw u:=by
   have p:∀x∈(s.drop (4*f.length)).take 4,Dw x:=λx L=>B x (Mx (GC L));have R:((s.drop (4*f.length)).take 4).length=4:=by rw [CZ,GX];ac_rfl
   generalize (s.drop (4*f.length)).take 4=l at *
   match l,R,p with
   | [a,b,c,d],_,h=>exact ⟨a,b,c,d,rfl,h a (by simp),h b (by simp),h c (by simp),h d (by simp)⟩
  symm;rw [show (4*(f.length:Int))=((4*f.length:Nat):Int) by ac_rfl,show (((4*f.length:Nat):Int)+4)=((4*f.length+4:Nat):Int) by ac_rfl,Th (by ac_rfl) (by ac_rfl),show 4*f.length+4 - 4*f.length=4 by ac_rfl,J];refine mV Q K P M (by ac_rfl) (N T (GF G)) λd B=>?_;refine ⟨by ac_rfl,_,rfl,ts++[d],_,_,by rw [BJ,BJ,o];rfl,λt h=>?_,rfl⟩;rcases Ek.mp h with h | h
  .exact j t h
  .have:t=d:=by simpa using h
   subst this;exact B
 .rintro Z ⟨ts,F,A,o,j,rfl⟩;symm;exact q ts (by rw [o,List.length_zipIdx];exact S) j
def OD(kf:Nat->List Int):∀(n:Nat) (k:List Int),k∈firsts kf n↔∃i,i<n/\kf i=k
 | 0,k=>by simp [firsts]
 | n+1,k=>by
  have ih:=OD kf n k;unfold firsts;split
  .next h=>
   rw [ih];constructor
   .rintro ⟨i,a,e⟩;exact ⟨i,by ac_rfl,e⟩
   .rintro ⟨i,a,e⟩;by_cases z:i=n
    .subst z;obtain ⟨j,b,c⟩:=(OD kf i (kf i)).mp h;exact ⟨j,b,c.trans e⟩
    .exact ⟨i,by ac_rfl,e⟩
  .rw [Ek,ih,Jl];constructor
   .rintro (⟨i,a,e⟩ | e)
    .exact ⟨i,by ac_rfl,e⟩
    .exact ⟨n,by ac_rfl,e.symm⟩
   .rintro ⟨i,a,e⟩;by_cases z:i=n
    .subst z;exact .inr e.symm
    .exact .inl ⟨i,by ac_rfl,e⟩
def Nu(kf:Nat->List Int):∀n,(firsts kf n).length<=n
 | 0=>Am _
 | n+1=>by
  have:=Nu kf n;unfold firsts;split
  .ac_rfl
  .simp;ac_rfl
def Wr(kf:Nat->List Int):∀n,(firsts kf n).length=n↔∀i j,i<j->j<n->kf i≠kf j
 | 0=>by simp [firsts]
 | n+1=>by
  have ih:=Wr kf n;have g:=Nu kf n;unfold firsts;split
  .next h=>
   obtain ⟨i,b,e⟩:=(OD kf n (kf n)).mp h;constructor
   .intro z;ac_rfl
   .intro z;exact aB e (z i n b (by ac_rfl))
  .next h=>
   have d:∀i,i<n->kf i≠kf n:=λi b e=>h ((OD kf n (kf n)).mpr ⟨i,b,e⟩);rw [BJ,HS];constructor
   .intro z i j a c;have f:=ih.mp (by ac_rfl);by_cases q:j=n
    .subst q;exact d i a
    .exact f i j a (by ac_rfl)
   .intro z;have:=ih.mpr λi j a c=>z i j a (by ac_rfl);ac_rfl
def Wy{α:Type}{enc:α->D}{key:α->List Int}(h:∀a,∃ds,enc a=.tup ds/\intsOf ds=some (key a)):∀l:List α,keysOf (l.map enc)=some (l.map key)
 | []=>rfl
 | a::r=>by
  obtain ⟨ds,c,b⟩:=h a;rw [Bb,c];unfold keysOf;rw [b,Wy h r];rfl
def Zq3{α:Type} [DecidableEq α] {enc:α->D} {key:α->List Int} (h:∀a,∃ds,enc a=.tup ds/\intsOf ds=some (key a)) (inj:∀a b,key a=key b->a=b) {l:List α} (hl:l.length<=4) :
  ∃n:Nat,Up (.lst (l.map enc))=.ok (.int n)/\(n=l.length↔l.Nodup):=by
 refine ⟨(firsts (λi=>(l.map key).getD i []) (l.map enc).length).length,?_,?_⟩
 .show (match keysOf (l.map enc) with | some ks=>if (l.map enc).length<=4 then Res.ok (D.int ((firsts (λi=>ks.getD i []) (l.map enc).length).length:Nat)) else Res.bad | none=>Res.bad)=_
  rw [Wy h];show (if _ then _ else _)=_
  rw [iP (by rw [Ad];exact hl)]
 .rw [Ad,Wr];unfold List.Nodup;rw [Ow];have c:∀i (g:i<l.length),(l.map key).getD i []=key l[i]:=λi g=>by simp [List.getD,g]
  constructor
  .intro z i j g f d e;exact z i j d f (by rw [c i g,c j f,e])
  .intro z i j d f e;rw [c i (by ac_rfl),c j f] at e;exact z i j (by ac_rfl) f d (inj _ _ e)
def sY{α:Type}{U:Fl->Prop}{g:MG}{k:MS}{enc:α->D}{ts:List α}(I:List α->Ev->Prop)(h:∀us t vs,ts=us++t::vs->∀Z,I us Z->Tl (g (enc t) Z) λZ1=>Tl (k Z1) λf=>(∃Z2,f=.nx Z2/\I (us++[t]) Z2)\/∃d,f=.rt d/\U (.rt d))(hd:∀Z,I ts Z->U (.nx Z)){Z:Ev}(h0:I [] Z):Tl (BP g k (ts.map enc) Z) U:=by
 have a:∀(vs us:List α) (Z:Ev),ts=us++vs->I us Z->Tl (BP g k (vs.map enc) Z) U:=by
  intro vs
  induction vs with
  | nil=>
   intro us Z e i;rw [Bp] at e;subst e;exact w_f0 (hd Z i)
  | cons t vs ih=>
   intro us Z e i;obtain ⟨Z1,c,f,b,q⟩:=h us t vs e Z i;rw [Bb];refine w_f1 ⟨Z1,c,_,b,?_⟩;rcases q with ⟨Z2,rfl,i2⟩ | ⟨d,rfl,q⟩
   .exact ih (us++[t]) Z2 (by rw [e];simp) i2
   .exact Ak q
 exact a ts [] Z rfl h0
abbrev encP(d:Int×Int):D:=.tup [.int d.1,.int d.2]
def Zc{U:D->Prop}{x:Int}(q:U (.bl true)):Tl (Gg [.int x]) U:=by
 unfold Gg;symm;exact q
def Mr{U:D->Prop}{x a b:Int}(h:a<=x/\x<=b)(q:U (.bl true)):Tl (Hl [.int x,.int a,.int b]) U:=by
 unfold Hl;symm;refine Zc ?_;symm;rw [Dp h.2];exact q
def ue{U:D->Prop}{w h:Nat}(hw:1<=w/\w<=64)(hh:1<=h/\h<=64)(q:U .non):Tl (Qd [.int w,.int h]) U:=by
 unfold Qd;symm;refine Mr (by ac_rfl) ?_;symm;refine Mr (by ac_rfl) ?_;symm;exact q
def XD{α:Type}(f:α->Bool):∀l:List α,bools (l.map λa=>D.bl (f a))=.ok (l.map f)
 | []=>rfl
 | a::r=>by
  rw [Bb];show (bools (r.map λa=>D.bl (f a))).bind _=_;rw [XD f r];rfl
def lL{U:D->Prop}{d:Int×Int}(hd:(1<=d.1/\d.1<=7)/\1<=d.2/\d.2<=7)(q:U (.bl true)):Tl (QW [encP d]) U:=by
 unfold QW;symm;refine Mr hd.1 ?_;symm;refine Mr hd.2 ?_;symm;exact q
def Vt{α:Type}{U:D->Prop}{f:α->Bool}{l:List α}(h:∀a∈l,f a=true)(q:U (.bl true)):Tl (bAll [.lst (l.map λa=>D.bl (f a))]) U:=by
 refine Af ?_ q;show (bools (l.map λa=>D.bl (f a))).bind _=_;rw [XD f l];show Res.ok (D.bl ((l.map f).all id))=_;rw [List.all_map,List.all_eq_true.mpr λa b=>(show (id ∘ f) a=true from h a b)]
def p6{U:D->Prop}{dots:List (Int×Int)}(h1:1<=dots.length/\dots.length<=4)(hd:∀d∈dots,(1<=d.1/\d.1<=7)/\1<=d.2/\d.2<=7)(hnd:dots.Nodup)(q:U .non):Tl (Ra [.lst (dots.map encP)]) U:=by
 unfold Ra;symm;rw [Ad];refine CP (λz=>by ac_rfl) (λ_=>?_);symm;rw [Ad];rw [Fz (by ac_rfl)];symm;refine ⟨by rw [Ad];ac_rfl,?_⟩;refine Ex (enc:=encP) (λd:Int×Int=>D.bl ((λ_=>true) d)) (λd c=>?_) ?_
 .symm;exact lL (hd d c) rfl
 symm;refine Vt (f:=λ_:Int×Int=>true) (λ_ _=>rfl) ?_;symm
 obtain ⟨n,e,g⟩:=Zq3 (enc:=encP) (key:=λd:Int×Int=>[d.1,d.2]) (λa=>⟨_,rfl,rfl⟩) (λa b h=>by
  injection h with h1 h2
  injection h2 with h2 _
  exact Prod.ext h1 h2) h1.2
 refine Af e ?_;symm;rw [g.mpr hnd,Ad];symm;exact q
def xP{dots:List (Int×Int)}(h1:1<=dots.length/\dots.length<=4)(hd:∀d∈dots,(1<=d.1/\d.1<=7)/\1<=d.2/\d.2<=7)(hnd:dots.Nodup):Ol [.lst (dots.map encP)]=.ok (.lst (dots.map encP)):=by
 refine Tl.eq ?_;unfold Ol;symm;refine p6 h1 hd hnd ?_;symm
def dw(a b:Int×Int):eqD (encP a) (encP b)=decide (a=b):=by
 unfold eqD eqDs eqDs eqDs;show ((a.1==b.1)&&((a.2==b.2)&&true))=_;rw [Bool.and_true,Bool.eq_iff_iff,Hg,Ih,Ih,decide_eq_true_eq];constructor
 .rintro ⟨d,c⟩;exact Prod.ext d c
 .rintro rfl;exact ⟨rfl,rfl⟩
def cj(q:Int×Int):∀qs:List (Int×Int),inD (encP q) (qs.map encP)=decide (q∈qs)
 | []=>rfl
 | a::r=>by
  have ih:=cj q r;unfold inD at ih ⊢;rw [Bb,List.any_cons,ih,dw,<-Bool.decide_or,decide_eq_decide,Al];constructor
  .rintro (rfl | h)
   .exact .inl rfl
   .exact .inr h
  .rintro (rfl | h)
   .exact .inl rfl
   .exact .inr h
def Zf(k:Nat):∀qs:List (Int×Int),BX (k+1) (qs.map encP)=true
 | []=>rfl
 | a::r=>by
  rw [Bb];show (plain (k+1) (encP a)&&BX (k+1) (r.map encP))=true;rw [Zf k r];rfl
def Dots(dots:List (Int×Int)):Prop:=(∀d∈dots,(1<=d.1/\d.1<=7)/\1<=d.2/\d.2<=7)/\dots.Nodup
def fB{U:D->Prop}{cc:Int}(q:∀dots:List (Int×Int),1<=dots.length->dots.length<=16->Dots dots->U (.lst (dots.map encP))):Tl (Oz [.int cc]) U:=by
 unfold Oz;symm;refine Ly (n:=17) (by decide) λB l G=>?_;obtain ⟨c,i,rfl⟩ : ∃c i,B=c::i:=by
  cases B with
  | nil=>simp at l
  | cons a r=>exact ⟨a,r,rfl⟩
 have E:Dw c:=G c BL;unfold Dw at E;have K:i.length=16:=by simpa using l
 symm;have J:Tl (bInt [.bl (decide (c%8=7))]) λy=>Tl (dIx (.lst [.int (c/8%3),.int (c/8%16)]) y) λx=>∃n:Nat,x=.int n/\n<=15:=by
  by_cases z:c%8=7
  .rw [Dp z];exact Af rfl (Af rfl ⟨(c/8%16).toNat,by rw [HX (by ac_rfl)],by ac_rfl⟩)
  .rw [Fz z];exact Af rfl (Af rfl ⟨(c/8%3).toNat,by rw [HX (by ac_rfl)],by ac_rfl⟩)
 obtain ⟨y,A,x,w,n,rfl,M⟩:=J;refine Af A (Af w ?_);clear A w y;symm;rw [show (2+(n:Int))=((2+n:Nat):Int) by ac_rfl,show (some (1:Int))=some (((1:Nat):Int)) from rfl,Th (by ac_rfl) (by rw [l];ac_rfl)];have s:((c::i).drop 1).take (2+n - 1)≠[]:=by
  intro z;have:=Bw List.length z;rw [CZ,GX,l,List.length_nil] at this;ac_rfl
 have C:(((c::i).drop 1).take (2+n - 1)).length<=16:=by simp;ac_rfl
 generalize ((c::i).drop 1).take (2+n - 1)=us at *;refine sY (enc:=D.int) (λg Z=>∃(dots:List (Int×Int)) (u o:Cl),(g≠[]->1<=dots.length)/\dots.length<=g.length/\Dots dots/\Z=[.im (.int cc),.im (.lst ((c::i).map .int)),.ow (dots.map encP),u,o]) ?_ ?_ ⟨[],_,_,λz=>aB rfl z,Am _,⟨λ_ h=>(CK h).elim,List.nodup_nil⟩,rfl⟩
 .rintro g x L e Z ⟨dots,u,o,k,m,j,rfl⟩;have F:g.length<us.length:=by rw [e];simp
  symm;refine Tl.mono (Ψ:=λf=>∃p:Int×Int,((1<=p.1/\p.1<=7)/\1<=p.2/\p.2<=7)/\f=Fl.nx [.im (.int cc),.im (.lst ((c::i).map .int)),.ow (dots.map encP),.im (.int x),.im (encP p)]) ?_ ?_
  .refine CP (λ_=>?_) (λ_=>?_)
   .symm;exact ⟨(4,4),by decide,rfl⟩
   .symm;exact ⟨(1+x%7,1+x/7%7),⟨⟨by show 1<=1+x%7;ac_rfl,by show 1+x%7<=7;ac_rfl⟩,by show 1<=1+x/7%7;ac_rfl,by show 1+x/7%7<=7;ac_rfl⟩,rfl⟩
  rintro f ⟨p,H,rfl⟩;symm;refine eF rfl (Zf _ _) ?_;rw [cj];symm;refine Jw (λz=>?_) (λz=>?_)
  .symm;refine ⟨by rw [Ad];ac_rfl,?_⟩;left;refine ⟨_,rfl,dots++[p],_,_,λ_=>by simp,by simp;ac_rfl,⟨λd t=>?_,?_⟩,by rw [Cz];rfl⟩
   .rcases Ek.mp t with h | h
    .exact j.1 d h
    .have:d=p:=by simpa using h
     subst this;exact H
   .rw [List.nodup_append];refine ⟨j.2,by simp,λa I b v=>?_⟩;have v:b=p:=by simpa using v
    rintro rfl;subst v;exact z I
  .symm;left;refine ⟨_,rfl,dots,_,_,λ_=>?_,by simp;ac_rfl,j,rfl⟩;have:=List.length_pos_of_mem z;ac_rfl
 .rintro Z ⟨dots,u,o,k,m,j,rfl⟩;symm;exact q dots (k s) (by ac_rfl) j
def Wa{x:D}(h:plain 50 x=true):dNe x x=.ok (.bl false):=by
 unfold dNe;rw [h,Yx x 50 h];rfl
def val:Res D->D
 | .ok d=>d
 | _=>.non
def unF:D->Rat
 | .tup [.int n,.int d]=>Rat.divInt n d
 | _=>0
def Ij(q:Rat):unF (frD q)=q:=Je q
def ownOf(c:Str)(d v:D):Rat:=match K9.lookup c with
 | some f=>unF (val (f [d,v]))
 | none=>0
def mkS(c:Str)(ns:List Str)(vs:List D)(q:Rat)(v:D):Sg :=
 { d:=.ins c ns vs,gl:=c == "Glass",q:=q,v:=v,own:=if (c == "Glass")=true then 0 else ownOf c (.ins c ns vs) v,part:=unF (val (dFld objs "part" (.ins c ns vs))),col:=unF (val (dFld objs "colour" (.ins c ns vs))),k:=0 }
def so(p d:D):Option Sg:=match d with
 | .ins c ns (T::r)=>match Di [T,p] with
  | .ok (.tup [q,v])=>some (mkS c ns (T::r) (unF q) v)
  | _=>none
 | _=>none
def Ks{c:Str}{ns:List Str}{T p:D}{r:List D}(e:Di [T,p]=.ok .non):so p (.ins c ns (T::r))=none:=by
 show (match Di [T,p] with
  | .ok (.tup [q,v])=>some (mkS c ns (T::r) (unF q) v)
  | _=>none)=none
 rw [e]
def K1{c:Str}{ns:List Str}{T p v:D}{r:List D}{q:Rat}(e:Di [T,p]=.ok (.tup [frD q,v])):so p (.ins c ns (T::r))=some (mkS c ns (T::r) q v):=by
 show (match Di [T,p] with
  | .ok (.tup [q,v])=>some (mkS c ns (T::r) (unF q) v)
  | _=>none)=_
 rw [e];show some (mkS c ns (T::r) (unF (frD q)) v)=_;rw [Ij]
def b0:Bq 32 (0:Rat):=⟨by show (0:Int).natAbs<2^32;decide,by show (1:Int).natAbs<2^32;decide⟩
def O4{p d:D}{T:D}(e1:dFld objs "triangle" d=.ok T)(e2:Di [T,p]=.ok .non)(e3:so p d=none):Seen p d (so p d):=by
 rw [e3];exact ⟨⟨T,e1,e2⟩,λs h=>by cases h⟩
def Q7{p d v:D}{T:D}{q:Rat}{s:Sg}(e1:dFld objs "triangle" d=.ok T)(e2:Di [T,p]=.ok (.tup [frD q,v]))(e3:so p d=some s)(hq:s.q=q)(hv:s.v=v)(hd:s.d=d)(g:GS s):Seen p d (so p d):=by
 rw [e3];refine ⟨⟨T,e1,?_⟩,λt h=>?_⟩
 .rw [e2];show _=Res.ok (D.tup [frD s.q,s.v]);rw [hq,hv]
 .cases h;exact ⟨hd,g⟩
def iu{d:D}{px py ps:Int}(h:Thg d)(cp:Cr px py ps)(hp:1<=ps):Seen (.tup [.int px,.int py,.int ps]) d (so (.tup [.int px,.int py,.int ps]) d):=by
 cases h with
 | @plain k T q ht hk hq=>
  rcases Pr ht hk cp hp with e | ⟨z,vs,lv,bz,bv,e⟩
  .exact O4 (fT1 _ _) e (Ks e)
  .have a:(mkS "Plain" ["triangle","colour"] [T,frD q] z (.tup (vs.map frD))).own=q:=Ij q;have b:(mkS "Plain" ["triangle","colour"] [T,frD q] z (.tup (vs.map frD))).col=q:=Ij q;have c:(mkS "Plain" ["triangle","colour"] [T,frD q] z (.tup (vs.map frD))).part=0:=rfl;refine Q7 (fT1 _ _) e (K1 e) rfl rfl rfl ⟨⟨_,_,_,rfl,by decide +kernel,by decide +kernel,⟨JZ,by rfl,rfl⟩,λ_=>⟨Tt,by rfl,?_⟩⟩,(λh=>by cases h),bz,?_,?_,?_⟩
   .rw [a];rfl
   .rw [a];exact hq.mono (by decide)
   .rw [c];exact b0
   .rw [b];exact hq
 | @shaded k T ht hk h1=>
  rcases Pr ht hk cp hp with e | ⟨z,vs,lv,bz,bv,e⟩
  .exact O4 (fT2 _) e (Ks e)
  .cases vs with
   | nil=>simp at lv;ac_rfl
   | cons u vs=>
    have a:(mkS "Shaded" ["triangle"] [T] z (.tup ((u::vs).map frD))).own=u:=Ij u;refine Q7 (fT2 _) e (K1 e) rfl rfl rfl ⟨⟨_,_,_,rfl,by decide +kernel,by decide +kernel,⟨JZ,by rfl,rfl⟩,λ_=>⟨Vg,by rfl,?_⟩⟩,(λh=>by cases h),bz,?_,b0,b0⟩
    .rw [a];rfl
    .rw [a];exact bv u BL
 | @patt k h w T P ht hk h2 hh hw hP=>
  rcases Pr ht hk cp hp with e | ⟨z,vs,lv,bz,bv,e⟩
  .exact O4 (fT3 _ _) e (Ks e)
  .match vs,lv,bv,e with
   | [],lv,_,_=>simp at lv;ac_rfl
   | [_],lv,_,_=>simp at lv;ac_rfl
   | u::v::vs,lv,bv,e=>
    obtain ⟨i,j,l,g,m⟩:=gq (U:=λ_=>True) (P:=P) hh hw (bv u BL) (bv v (BW _ BL)) (λ_ _ _ _=>trivial);have f:J2 [.ins "Patterned" ["triangle","pattern"] [T,patD h w P],.tup ((u::v::vs).map frD)]=.ok (frD (P i j)):=by
     refine Tl.eq ?_;unfold J2;symm;refine Af (fN3 _ _) ?_;symm;refine Af m ?_;symm
    have a:(mkS "Patterned" ["triangle","pattern"] [T,patD h w P] z (.tup ((u::v::vs).map frD))).own=P i j:=by
     show unF (val (J2 [.ins "Patterned" ["triangle","pattern"] [T,patD h w P],.tup ((u::v::vs).map frD)]))=_;rw [f];exact Ij _
    refine Q7 (fT3 _ _) e (K1 e) rfl rfl rfl ⟨⟨_,_,_,rfl,by decide +kernel,by decide +kernel,⟨JZ,by rfl,rfl⟩,λ_=>⟨J2,by rfl,?_⟩⟩,(λh=>by cases h),bz,?_,b0,b0⟩
    .rw [a];exact f
    .rw [a];exact (hP i l j g).mono (by decide)
 | @glass k T q r ht hk hq hr h0 h1=>
  rcases Pr ht hk cp hp with e | ⟨z,vs,lv,bz,bv,e⟩
  .exact O4 (fT4 _ _ _) e (Ks e)
  .have b:(mkS "Glass" ["triangle","colour","part"] [T,frD q,frD r] z (.tup (vs.map frD))).col=q:=Ij q;have c:(mkS "Glass" ["triangle","colour","part"] [T,frD q,frD r] z (.tup (vs.map frD))).part=r:=Ij r;refine Q7 (fT4 _ _ _) e (K1 e) rfl rfl rfl ⟨⟨_,_,_,rfl,by decide +kernel,by decide +kernel,⟨Tg,by rfl,rfl⟩,λh=>by cases h⟩,λ_=>⟨?_,?_⟩,bz,b0.mono (by decide),?_,?_⟩
   .rw [c];exact fP4 _ _ _
   .rw [b];exact fC4 _ _ _
   .rw [c];exact hr
   .rw [b];exact hq
abbrev pt8(x y:Int):D:=.tup [.int x,.int y,.int 8]
def oV{t b:Int}{k:Nat}(hb:0<b)(sb:Sm k b):Sm k ((Rat.divInt t b).den:Int):=by
 have e:=JR (t:=t) (b:=b) (by ac_rfl);unfold fra frD Mt.frT Mt.frB at e;rw [iN (by ac_rfl),iN (by ac_rfl)] at e;have a:0<(Int.gcd t b:Int):=by have:=Mt.O8 (t:=t) (b:=b) (by ac_rfl);ac_rfl
 injection e with e
 injection e with e1 e2
 injection e2 with e2 _
 injection e2 with e2
 refine sb.le ?_;rw [<-e2];exact Mt.T8 a
def ZS{U:D->Prop}{t b:Int}{k:Nat}(hb:0<b)(sb:Sm k b)(hk:k<=8900)(h:U (frD (Rat.divInt t b))):Tl (Ef [.int t,.int b]) U:=by
 refine RV (by ac_rfl) sb (by ac_rfl) ?_;rw [JR (by ac_rfl)];exact h
def iY{U:D->Prop}{p q:Rat}{a b da db:Nat}(hp:Bq a p)(hq:Bq b q)(dp:Sm da (p.den:Int))(dq:Sm db (q.den:Int))(hab:a+b<=10000000)(hd:da+db<=8900)(h:Bq (a+b+1) (p+q)->Sm (da+db) ((p+q).den:Int)->U (frD (p+q))):Tl (Jd [frD p,frD q]) U:=by
 have j:Bl p.num q.den=true:=Cw hp.n hq.d (by ac_rfl);have l:Bl q.num p.den=true:=Cw hq.n hp.d (by ac_rfl);have k:Bl p.den q.den=true:=Cw hp.d hq.d (by ac_rfl);have i:Sm (a+b+1) (p.num*q.den+q.num*p.den):=((hp.n.mul hq.d).add (show Sm (a+b) _ from JV b a▸hq.n.mul hp.d)).mono (by ac_rfl);have g:Sm (a+b+1) ((p.den:Int)*q.den):=(hp.d.mul hq.d).mono (by ac_rfl);have c:0<(p.den:Int)*q.den:=Hw (den1 p) (den1 q);have f:=Jr c i g;have e:=oV (t:=p.num*q.den+q.num*p.den) c (dp.mul dq);rw [Rf] at f e;unfold Jd frD;symm;refine ZS c (dp.mul dq) hd ?_;rw [Rf];symm;exact h f e
def sumQ(l:List Rat):Rat:=l.foldl (·+·) 0
def d7(l:List Rat)(q:Rat):sumQ (l++[q])=sumQ l+q:=by unfold sumQ;rw [List.foldl_append];rfl
def VG(l:List Rat):Rat:=Rat.divInt (sumQ l).num ((sumQ l).den*(l.length:Int))
def Zsf{U:D->Prop}{qs:List Rat}{K k:Nat}(hK:∀q∈qs,Bq K q)(hd:∀q∈qs,Sm k (q.den:Int))(h1:1<=qs.length)(hn:qs.length<=16)(hK':K<=100000)(hk:qs.length*k+10<=8900)(h:U (frD (VG qs))):Tl (Qo [.lst (qs.map frD)]) U:=by
 unfold Qo;symm;show Tl (BP _ _ (qs.map frD) [.im (.lst (qs.map frD)),.im (frD 0),.no]) _;refine Gh (enc:=frD) (λa Z=>∃c:Cl,Bq (a.length*(K+1)+1) (sumQ a)/\Sm (a.length*k+1) ((sumQ a).den:Int)/\Z=[.im (.lst (qs.map frD)),.im (frD (sumQ a)),c]) ⟨.no,?_,?_,rfl⟩ ?_ ?_
 .exact ⟨by show (0:Int).natAbs<_;exact Nat.two_pow_pos _,by show (1:Int).natAbs<2^(0*_+1);rw [Nat.zero_mul];decide⟩
 .show (1:Int).natAbs<2^(0*_+1);rw [Nat.zero_mul];decide
 .rintro a q r e Z ⟨c,B,S,rfl⟩;have f:q∈qs:=by rw [<-e];simp
  have b:a.length<qs.length:=by rw [<-e];simp
  have n:(a.length+1)*k<=qs.length*k:=QL k b;have g:(a.length+1)*(K+1)<=16*(K+1):=QL (K+1) (by ac_rfl);rw [FN] at n g;symm;refine iY B (hK q f) S (hd q f) (by ac_rfl) (by ac_rfl) λl j=>?_;rw [d7];refine ⟨_,rfl,_,l.mono ?_,j.mono ?_,rfl⟩
  .rw [BJ,HS,FN];ac_rfl
  .rw [BJ,HS,FN];ac_rfl
 .rintro Z ⟨c,B,S,rfl⟩;have g:qs.length*(K+1)<=16*(K+1):=QL (K+1) hn;have i:Sm 5 (qs.length:Int):=by show (qs.length:Int).natAbs<2^5;ac_rfl
  have o:Bl (sumQ qs).den (qs.length:Int)=true:=Cw B.d i (by ac_rfl);have m:0<((sumQ qs).den:Int)*(qs.length:Int):=Hw (den1 _) (by ac_rfl);unfold VG at h;generalize sumQ qs=t at *;unfold frD;symm;rw [Ad];symm;refine ZS m (S.mul i) (by ac_rfl) ?_;symm;exact h
def nO{U:D->Prop}{g:Rat}{l:List Sg}{n:Nat}(hg:Bq 300 g)(hl:∀s∈l,GS s)(hs:l.length<=n)(hn:n<=12)(q:Bq (300+170*n) (colQ g l)->U (frD (colQ g l))):Tl (Nh [.lst (l.map encS),frD g]) U:=by
 have p:Bq 300 (Hm g (near l)):=by
  cases e:near l with
  | none=>exact hg
  | some m=>exact (hl m (U4 e).1).bo
 have t:=ZQ (near l) l;unfold Nh;symm;refine eZ hl ?_
 have h:∀b:Cl,Tl ((sq (for_ (iv (on MP (Aa (v 2) (Aa (v 0) Ab)))) (gN 4)
  (st 3 (on N6 (Aa (o2 dIx (v 4) (c (.int 0))) (Aa (v 3) Ab)))))
  (ret (v 3))) [.im (.lst (l.map encS)),.im (frD g),.im (optS (near l)),.im (frD (Hm g (near l))),b]) λf=>Tl (endOf f) U:=by
  intro b;symm;refine eQ (λm e=>hl m (U4 e).1) hl (by ac_rfl) ?_;symm;refine Gh (enc:=encS) (λa Z=>∃b:Cl,Bq (300+170*a.length) (layQ a (Hm g (near l)))/\Z=[.im (.lst (l.map encS)),.im (frD g),.im (optS (near l)),.im (frD (layQ a (Hm g (near l)))),b]) ⟨_,p,rfl⟩ ?_ ?_
  .rintro a s r e Z ⟨b,B,rfl⟩;have i:s∈lay (near l) l:=by rw [<-e];simp
   have j:a.length<(lay (near l) l).length:=by rw [<-e];simp
   have d:=cR i;symm;refine tE (hl s d.1) (Zp4 d.2) B (by ac_rfl) λo=>?_;have k:layQ (a++[s]) (Hm g (near l))=mixQ s (layQ a (Hm g (near l))):=by unfold layQ;rw [List.foldl_append];rfl
   rw [k];refine ⟨_,rfl,_,o.mono ?_,rfl⟩;rw [BJ,HS];ac_rfl
  .rintro Z ⟨b,B,rfl⟩;symm;exact q (B.mono (by ac_rfl))
 symm;refine Tl.mono (Ψ:=λf=>f=Fl.nx [.im (.lst (l.map encS)),.im (frD g),.im (optS (near l)),.im (frD (Hm g (near l))),.no]) ?_ ?_
 .cases hn:near l with
  | none=>
   show Tl (if (false:Bool)=true then _ else _) _
   symm;rfl
  | some m=>
   have i:=U4 hn;show Tl (if (true:Bool)=true then _ else _) _
   symm;refine Zwg (s:=m) (hl m i.1) i.2 rfl rfl ?_;rfl
 .rintro f rfl;exact h .no
def sm6'{x:Int}(h:-1000000<=x/\x<=1000000):Sm 64 x:=Sm.of64 (by ac_rfl) (by ac_rfl)
def cr8{px py:Int}(hx:0<=px/\px<=1000)(hy:0<=py/\py<=1000):Cr px py 8:=⟨sm6' (by ac_rfl),sm6' (by ac_rfl),sm6' (by decide)⟩
section
variable{ts:List D}{dots:List (Int×Int)}
def uX{U:D->Prop}{g:Rat}{n:Nat}{ls:List (List Sg)}(hg:Bq 300 g)(hl:∀l∈ls,(∀s∈l,GS s)/\l.length<=n)(hn:n<=12)(h1:1<=ls.length)(h16:ls.length<=16)(hk:ls.length*(300+170*n)+10<=8900)(q:U (frD (VG (ls.map λl=>colQ g l)))):Tl (Lw [.lst (ls.map λl=>D.lst (l.map encS)),frD g]) U:=by
 have b:∀l∈ls,Bq (300+170*n) (colQ g l)/\Nh [.lst (l.map encS),frD g]=.ok (frD (colQ g l)):=λl a=>by
  obtain ⟨x,e,h⟩:=nO (U:=λx=>Bq (300+170*n) (colQ g l)/\x=frD (colQ g l)) hg (hl l a).1 (hl l a).2 hn (λB=>⟨B,rfl⟩);exact ⟨h.1,h.2▸e⟩
 unfold Lw;symm;refine ⟨by rw [Ad];ac_rfl,?_⟩;refine Ex (λl:List Sg=>frD (colQ g l)) (λl a=>?_) ?_
 .symm;exact Af (b l a).2 rfl
 symm;rw [show List.map (λl:List Sg=>frD (colQ g l)) ls=(ls.map λl=>colQ g l).map frD by rw [Dz];rfl];refine Zsf (K:=300+170*n) (k:=300+170*n) (λx c=>?_) (λx c=>?_) (by rw [Ad];exact h1) (by rw [Ad];exact h16) (by ac_rfl) (by rw [Ad];exact hk) ?_
 .obtain ⟨l,a,rfl⟩:=Bk.mp c;exact (b l a).1
 .obtain ⟨l,a,rfl⟩:=Bk.mp c;exact (b l a).1.d
 .symm;exact q
end
def minQ(m q:Rat):Rat:=if q<m then q else m
def maxQ(m q:Rat):Rat:=if m<q then q else m
def dY(hm:Bq 300 m)(hq:Bq 300 q):Bq 300 (minQ m q):=by unfold minQ;split<;>assumption
def Rw(hm:Bq 300 m)(hq:Bq 300 q):Bq 300 (maxQ m q):=by unfold maxQ;split<;>assumption
def Wz(h0:Bq 300 q0)(hq:∀q∈qs,Bq 300 q)(h:Bq 300 ((q0::qs).foldl minQ q0)->U (frD ((q0::qs).foldl minQ q0))):Tl (LK [.lst ((q0::qs).map frD)]) U:=by
 unfold LK;symm;refine Gh (enc:=frD) (λa Z=>∃f,Bq 300 (a.foldl minQ q0)/\Z=[.im (.lst ((q0::qs).map frD)),.im (frD (a.foldl minQ q0)),f]) ⟨.no,h0,rfl⟩ ?_ ?_
 .rintro a q r e Z ⟨f,d,rfl⟩;have g:Bq 300 q:=by
   have:q∈q0::qs:=by rw [<-e];simp
   rcases Al.mp this with rfl | hm
   .exact h0
   .exact hq q hm
  rw [Tc];have b:=dY d g;generalize a.foldl minQ q0=m at d b ⊢;symm;refine Ib g d ?_;symm;refine CP (λc=>?_) (λc=>?_)
  .symm;exact ⟨_,rfl,_,b,by show _=[_,Cl.im (frD (minQ m q)),_];unfold minQ;rw [iP c]⟩
  .symm;exact ⟨_,rfl,_,b,by show _=[_,Cl.im (frD (minQ m q)),_];unfold minQ;rw [iN c]⟩
 .rintro Z ⟨f,d,rfl⟩;symm;exact h d
def km(h0:Bq 300 q0)(hq:∀q∈qs,Bq 300 q)(h:Bq 300 ((q0::qs).foldl maxQ q0)->U (frD ((q0::qs).foldl maxQ q0))):Tl (Rj [.lst ((q0::qs).map frD)]) U:=by
 unfold Rj;symm;refine Gh (enc:=frD) (λa Z=>∃f,Bq 300 (a.foldl maxQ q0)/\Z=[.im (.lst ((q0::qs).map frD)),.im (frD (a.foldl maxQ q0)),f]) ⟨.no,h0,rfl⟩ ?_ ?_
 .rintro a q r e Z ⟨f,d,rfl⟩;have g:Bq 300 q:=by
   have:q∈q0::qs:=by rw [<-e];simp
   rcases Al.mp this with rfl | hm
   .exact h0
   .exact hq q hm
  rw [Tc];have b:=Rw d g;generalize a.foldl maxQ q0=m at d b ⊢;symm;refine Ib d g ?_;symm;refine CP (λc=>?_) (λc=>?_)
  .symm;exact ⟨_,rfl,_,b,by show _=[_,Cl.im (frD (maxQ m q)),_];unfold maxQ;rw [iP c]⟩
  .symm;exact ⟨_,rfl,_,b,by show _=[_,Cl.im (frD (maxQ m q)),_];unfold maxQ;rw [iN c]⟩
 .rintro Z ⟨f,d,rfl⟩;symm;exact h d
def zW(h:Tr k T):∃q,Bq 300 q/\Gf [T]=.ok (frD q):=by
 obtain ⟨F,N,g,l,D,E,f,m,G,K,A,i,H,J,L,rfl,C,P,I,_⟩:=h;have a:∀{x y w h:Int},Ck x y w h->0<h/\Sm 64 w/\Sm 64 h:=λc=>by
  have R:=c.w;have Q:=c.h;exact ⟨by ac_rfl,sm6' (by ac_rfl),sm6' (by ac_rfl)⟩
 obtain ⟨v,p,r⟩:=a C;obtain ⟨n,s,o⟩:=a P;obtain ⟨u,j,t⟩:=a I;have B:=(Jr v p r).mono (show 64<=300 by decide);have O:=(Jr n s o).mono (show 64<=300 by decide);have M:=(Jr u j t).mono (show 64<=300 by decide);have z:Tl (Gf [.tup [cor F N g l H,cor D E f m J,cor G K A i L]]) λd=>∃q,Bq 300 q/\d=frD q:=by
  unfold Gf cor;symm;refine ⟨by simp,?_⟩;refine Fo ?_;symm;refine Gy v p r (by decide) λ_=>?_;refine Ar ?_;refine Fo ?_;symm;refine Gy n s o (by decide) λ_=>?_;refine Ar ?_;refine Fo ?_;symm;refine Gy u j t (by decide) λ_=>?_;refine Ar ?_;refine Qk (Ak (Ak (Ak ?_)));symm;refine Wz (q0:=Rat.divInt g l) (qs:=[Rat.divInt f m,Rat.divInt A i]) B (λq hq=>?_) λb=>?_
  .rcases Al.mp hq with rfl | hq
   .exact O
   .rcases Al.mp hq with rfl | hq
    .exact M
    .cases hq
  .symm;exact ⟨_,b,rfl⟩
 obtain ⟨d,e,q,b,rfl⟩:=z;exact ⟨q,b,e⟩
def dO:Option Rat->D
 | none=>.non
 | some q=>frD q
def farO(L:List (Option Rat)):Option Rat:=if L.all Option.isSome=true then some ((L.filterMap id).foldl maxQ ((L.filterMap id).headD 0)) else none
def all_some:∀{L:List (Option Rat)},L.all Option.isSome=true->L=(L.filterMap id).map some
 | [],_=>rfl
 | none::r,h=>by simp at h
 | some q::r,h=>by
  have:=all_some (L:=r) (by simpa using h);rw [Px];show _=some q::(r.filterMap id).map some;rw [<-this]
def Vk:∀L:List (Option Rat),BX 50 (L.map dO)=true
 | []=>rfl
 | a::r=>by
  show (plain 50 (dO a)&&BX 50 (r.map dO))=true;rw [Vk r,Bool.and_true];cases a<;>rfl
def Ul:∀L:List (Option Rat),inD .non (L.map dO)=!L.all Option.isSome
 | []=>rfl
 | a::r=>by
  show (eqD (dO a) .non||inD .non (r.map dO))=!(a.isSome&&r.all Option.isSome);rw [Ul r];cases a with
  | none=>rfl
  | some q=>show (false||_)=_;rw [Bool.false_or];rfl
def mX(L:List (Option Rat)):dIn .non (.lst (L.map dO))=.ok (.bl (!L.all Option.isSome)):=by
 show (if (plain 50 D.non&&BX 50 (L.map dO))=true then Res.ok (D.bl (inD .non (L.map dO))) else .bad)=_
 rw [Vk,Ul];rfl
def yu(L:List (Option Rat)):dNin .non (.lst (L.map dO))=.ok (.bl (L.all Option.isSome)):=by
 show (if (plain 50 D.non&&BX 50 (L.map dO))=true then Res.ok (D.bl (!inD .non (L.map dO))) else .bad)=_
 rw [Vk,Ul,Bool.not_not];rfl
def Bs(L:List (Option Rat)):Prop:=∀q,some q∈L->Bq 300 q
def Bs.fm(h:Bs L):∀q∈L.filterMap id,Bq 300 q:=λq b=>by
 obtain ⟨a,c,e⟩:=QV.mp b;cases (show a=some q from e);exact h q c
def YS(hf:∀m q,Bq 300 m->Bq 300 q->Bq 300 (f m q)):∀(l:List Rat) (m:Rat),Bq 300 m->(∀q∈l,Bq 300 q)->Bq 300 (l.foldl f m)
 | [],_,h,_=>h
 | q::r,m,h,hl=>YS hf r (f m q) (hf m q h (hl q (BL ..))) λx a=>hl x (BW _ a)
def Xr(h:Bs L)(hL:L≠[])(e:farO L=some q):Bq 300 q:=by
 unfold farO at e;split at e
 .next c=>
  cases e;have z:=all_some c;have b:=h.fm;generalize L.filterMap id=qs at z b ⊢;cases qs with
  | nil=>exact aB z hL
  | cons a r=>exact YS (λ_ _=>Rw) _ _ (b a (BL ..)) b
 .cases e
def fc{L:List (Option Rat)}(hL:L≠[])(h:Bs L)(q:U (dO (farO L))):Tl (MF [.lst (L.map dO)]) U:=by
 have e:=mX L;unfold farO at q;unfold MF;symm;refine Af e ?_;symm;by_cases ha:L.all Option.isSome=true
 .rw [iP ha] at q;rw [ha];symm;have z:=all_some ha;have b:=h.fm;have d:L.map dO=(L.filterMap id).map frD:=by
   rw [z,Dz,<-z];exact Le λ_ _=>rfl
  rw [d];generalize L.filterMap id=qs at z b q ⊢;cases qs with
  | nil=>exact aB z hL
  | cons a r=>
   refine km (b a (BL ..)) (λx c=>b x (BW _ c)) λ_=>?_;symm;exact q
 .rw [iN ha] at q;rw [Bool.eq_false_iff.mpr ha];symm;exact q
def lesO:Option Rat->Rat->Rat
 | none,q=>q
 | some m,q=>minQ m q
def jQ(h:∀m,o=some m->Bq 300 m)(hq:Bq 300 q):Bq 300 (lesO o q):=by
 cases o with
 | none=>exact hq
 | some m=>exact dY (h m rfl) hq
def nR(h:∀m,o=some m->Bq 300 m)(hq:Bq 300 q)(r:U (frD (lesO o q))):Tl (K4 [dO o,frD q]) U:=by
 unfold K4;cases o with
 | none=>
  show Tl (fn 2 _ [D.non,frD q]) U;symm;exact r
 | some m=>
  show Tl (fn 2 _ [frD m,frD q]) U;have b:Gk (frD m)=false:=rfl;symm;refine Wz (q0:=m) (qs:=[q]) (h m rfl) (λx a=>?_) λ_=>?_
  .cases Jl.mp a;exact hq
  .symm;have e:[m,q].foldl minQ m=minQ m q:=by
    show minQ (minQ m m) q=_;rw [show minQ m m=m by unfold minQ;split<;>rfl]
   rw [e];exact r
section
variable{U:Fl×List (List D)->Prop}{Z:Ev}{dss:List (List D)}{m:MS}{k l:MY}
def Es(h:Tl (k Z dss) λp=>Tl (goY l p) U):Tl (sqY k l Z dss) U:=Ar h
def Er(h:Tl (l Z dss) U):Tl (goY l (.nx Z,dss)) U:=h
def xZ(h:U (.ct Z,dss)):Tl (goY l (.ct Z,dss)) U:=Ak h
def Ei(h:Tl (m Z) λf=>U (f,dss)):Tl (lft m Z dss) U:=Ar (h.mono λ_ q=>Ak q)
def K3{t:MB}(h:Tl (t Z) λb=>Tl (if b=true then k Z dss else l Z dss) U):Tl (ifY t k l Z dss) U:=Ar h
def MN{n k:Nat}(h:k<n):ixP n (k:Int)=some k:=by
 unfold ixP;rw [iP (by ac_rfl),iP (by ac_rfl)];rfl
def tX{me mv:ME}{i:Nat}{cs:List D}(h1:me Z=.ok (.int i))(hk:dss[i]?=some cs)(hc:cs.length<10000)(h:Tl (mv Z) λw=>U (.nx Z,dss.set i (cs++[w]))):Tl (appY me mv Z dss) U:=by
 obtain ⟨w,e,q⟩:=h;refine Af ?_ q;unfold appY;rw [h1,e];show optY Z (appR dss w (i:Int))=_;unfold appR;rw [MN (Cd.mp hk).1];show optY Z ((dss[i]?).bind _)=_;rw [hk];show optY Z (if cs.length<10000 then _ else _)=_
 rw [iP hc];rfl
end
def vm{U:Fl->Prop}{Z:Ev}{i:Nat}{mv mb:ME}{ds:List D}(e:Z[i]?=some (.ow ds))(h:Tl (mv Z) λw=>Tl (mb Z) λb=>∃k:Nat,b=.int k/\k<ds.length/\U (.nx (Z.set i (.ow (ds.set k w))))):Tl (setO i mv mb Z) U:=by
 obtain ⟨w,f,b,a,k,rfl,d,q⟩:=h;refine Af ?_ q;unfold setO;rw [e,f,a]
 show (match ixP ds.length (k:Int) with
  | some c=>Res.ok (Fl.nx (Z.set i (.ow (ds.set c w))))
  | none=>.bad)=_
 rw [MN d]
def T4(e:Z[i]?=some (.ow ds))(h:Tl (m (Z.set i (.im (.lst ds)))) λd=>noL d=true/\U d):Tl (pkN i m Z) U:=by
 obtain ⟨d,b,a,q⟩:=h;refine Af ?_ q;unfold pkN;rw [e];show (noEx (m (Z.set i (.im (.lst ds))))).bind noLD=_;rw [b];show noLD d=_;unfold noLD;rw [iP a]
def yK{U:Fl->Prop}{k:MS}(e:Z[i]?=some (.ow ds))(h:Tl (BP (gN j) k ds (Z.set i .no)) λf=>∃Z',f=.nx Z'/\U (.nx (Z'.set i (.ow ds)))):Tl (forP i j k Z) U:=by
 obtain ⟨f,a,Z',rfl,q⟩:=h;refine Af ?_ q;unfold forP;rw [e];show (BP (gN j) k ds (Z.set i .no)).bind (Ve i ds)=_;rw [a];rfl
def Ub(A:List α)(b x:α)(C:List α):(A++b::C).set A.length x=A++x::C:=by
 induction A with
 | nil=>rfl
 | cons a A ih=>show a::(A++b::C).set A.length x=_;rw [ih];rfl
def Qf(A:List α)(b:α)(C:List α):(A++b::C)[A.length]?=some b:=by
 rw [Fp (Am _),Nat.sub_self];rfl
def glD:D->Bool
 | .ins c _ _=>c == "Glass"
 | _=>false
def bV(h:Thg d):∃c ns vs,d=.ins c ns vs/\ns.contains "is_glass"=false/\∃f,Ff.lookup c=some f/\f [d]=.ok (.bl (glD d)):=by
 cases h with
 | plain=>exact ⟨_,_,_,rfl,rfl,_,rfl,rfl⟩
 | shaded=>exact ⟨_,_,_,rfl,rfl,_,rfl,rfl⟩
 | patt=>exact ⟨_,_,_,rfl,rfl,_,rfl,rfl⟩
 | glass=>exact ⟨_,_,_,rfl,rfl,_,rfl,rfl⟩
def Wk(h:Thg d)(ho:o Z=.ok d)(q:U (.bl (glD d))):Tl (meth Ff "is_glass" o Ab Z) U:=by
 obtain ⟨c,b,i,rfl,g,f,a,e⟩:=bV h;exact Sy (Af ho ⟨c,b,i,f,rfl,g,a,Ak (Af e q)⟩)
def Va(h:Thg d):∃k T,Tr k T/\dFld objs "triangle" d=.ok T:=by
 cases h with
 | plain t=>exact ⟨_,_,t,rfl⟩
 | shaded t=>exact ⟨_,_,t,rfl⟩
 | patt t=>exact ⟨_,_,t,rfl⟩
 | glass t=>exact ⟨_,_,t,rfl⟩
def BV(d:D):Rat:=match dFld objs "triangle" d with
 | .ok T=>unF (val (Gf [T]))
 | _=>0
def Wb(h:Thg d)(e:dFld objs "triangle" d=.ok T):Bq 300 (BV d)/\Gf [T]=.ok (frD (BV d)):=by
 obtain ⟨k,f,t,b⟩:=Va h;rw [e] at b;cases b;obtain ⟨q,c,a⟩:=zW t;have:BV d=q:=by
  unfold BV;rw [e];show unF (val (Gf [T]))=q;rw [a];exact Ij q
 rw [this];exact ⟨c,a⟩
def PtD(p:D):Prop:=∃x y,p=pt8 x y/\(0<=x/\x<=1000)/\0<=y/\y<=1000
def N8(h:Thg d)(hp:PtD p):Seen p d (so p d):=by
 obtain ⟨x,y,rfl,b,a⟩:=hp;exact iu h (cr8 b a) (by decide)
def ye(h:Thg d)(S:Seen p d (so p d))(e:so p d=some s):s.gl=glD d:=by
 obtain ⟨l,g⟩:=S.ok s e;obtain ⟨c,t,u,j,_,_,⟨f,n,k⟩,_⟩:=g.ob;obtain ⟨q,m,o,i,_,r,a,b⟩:=bV h;rw [l] at j k;rw [i] at j;cases j;rw [n] at a;cases a;rw [k] at b;exact D.bl.inj (Res.ok.inj b)
def upd1(g:Bool)(o:Option Sg)(l:Option Rat):Option Rat:=match o with
 | none=>l
 | some s=>if g=true then l else some (lesO l s.q)
def updL(g:Bool)(os:List (Option Sg))(L:List (Option Rat)):List (Option Rat):=List.zipWith (upd1 g) os L
def row1(o:Option Sg)(cs:List D):List D:=match o with
 | none=>cs
 | some s=>cs++[encS s]
def Kv(os:List (Option Sg))(dss:List (List D)):List (List D):=List.zipWith row1 os dss
def KN:MY:=sqY (lft (st 6 (on Di (Aa (o1 (dFld objs "triangle") (v 0)) (Aa (v 5) Ab)))))
  (sqY (ifY (trb (o1 dIsN (v 6)))
  (lft cnt)
  (lft nop))
  (sqY (appY (v 4) (mtp (Aa (v 0) (Aa (o2 dIx (v 6) (c (.int 0))) (Aa (o2 dIx (v 6) (c (.int 1))) Ab)))))
  (ifY (bNot (trb (meth Ff "is_glass" (v 0) Ab)))
  (lft (setO 3 (pkN 3 (on K4 (Aa (o2 dIx (v 3) (v 4)) (Aa (o2 dIx (v 6) (c (.int 0))) Ab)))) (v 4)))
  (lft nop))))
def zJ(h:Thg d)(hp:PtD p)(hb:∀q,l=some q->Bq 300 q)(hr:r.length<10000)(hn:R1.length=L1.length) :
  Tl (KN [.im d,.im pts,.no,.ow ((L1++l::L2).map dO),.im (.int (L1.length:Int)),.im p,v6] (R1++r::R2)) λx=>∃v6' f,x=(f,R1++row1 (so p d) r::R2)/\(f=.nx [.im d,.im pts,.no,.ow ((L1++upd1 (glD d) (so p d) l::L2).map dO),.im (.int (L1.length:Int)),.im p,v6']\/f=.ct [.im d,.im pts,.no,.ow ((L1++upd1 (glD d) (so p d) l::L2).map dO),.im (.int (L1.length:Int)),.im p,v6']):=by
 have S:=N8 h hp;obtain ⟨T,m,c⟩:=S.tri;unfold KN;refine Es (Ei ?_);symm;refine Af m ?_;symm;refine Af c ?_;cases eo:so p d with
 | none=>
  show Tl (goY _ (.nx [.im d,.im pts,.no,.ow ((L1++l::L2).map dO),.im (.int (L1.length:Int)),.im p,.im .non],_)) _;refine Er (Es (K3 ?_));symm;refine Ei ?_;symm;exact xZ ⟨_,_,rfl,.inr rfl⟩
 | some s=>
  have g:=(S.ok s eo).2;have e:=(S.ok s eo).1;have n:=ye h S eo;have a:=g.bq;show Tl (goY _ (.nx [.im d,.im pts,.no,.ow ((L1++l::L2).map dO),.im (.int (L1.length:Int)),.im p,.im (.tup [frD s.q,s.v])],_)) _;refine Er (Es (K3 ?_));symm;refine Ei ?_;symm;refine Er (Es (tX (i:=L1.length) rfl (by rw [<-hn];exact Qf _ _ _) hr ?_));symm;refine Er (K3 ?_);symm;refine Wk h rfl ?_;symm;have k:(R1++r::R2).set L1.length (r++[.tup [d,frD s.q,s.v]])=R1++row1 (some s) r::R2:=by
   rw [<-hn,Ub];show _=R1++(r++[encS s])::R2;unfold encS;rw [e]
  rw [k];unfold upd1;cases hgl:glD d with
  | true=>
   show Tl (if (!true)=true then _ else _) _
   symm;refine Ei ?_;symm;exact ⟨_,_,rfl,.inl rfl⟩
  | false=>
   show Tl (if (!false)=true then _ else _) _
   symm;refine Ei (vm rfl (T4 rfl ?_));have j:((L1++l::L2).map dO)[L1.length]?=some (dO l):=by
    rw [Cz,Bb];have:=Qf (L1.map dO) (dO l) (L2.map dO);rwa [Ad] at this
   symm;refine Lg j ?_;symm;refine nR hb a ?_;refine ⟨rfl,?_⟩;symm;refine ⟨L1.length,rfl,by simp,.im (.tup [frD s.q,s.v]),_,rfl,.inl ?_⟩;have b:((L1++l::L2).map dO).set L1.length (frD (lesO l s.q))=(L1++some (lesO l s.q)::L2).map dO:=by
    rw [Cz,Bb];have:=Ub (L1.map dO) (dO l) (frD (lesO l s.q)) (L2.map dO);rw [Ad] at this;rw [this,Cz,Bb];rfl
   show Fl.nx [_,_,_,Cl.ow (((L1++l::L2).map dO).set L1.length (frD (lesO l s.q))),_,_,_]=_;rw [b];rfl
def oY(h:Thg d):∀ps L1 L2 R1 R2 v4 v5 v6,(∀p∈ps,PtD p)->L2.length=ps.length->R2.length=ps.length->R1.length=L1.length->Bs L2->(∀cs∈R2,cs.length<10000) ->
  ∃w4 w5 w6,DK (gU 2 (gs1 (gN 4) (gs1 (gN 5) gs0))) KN (numbered L1.length ps) [.im d,.im pts,.no,.ow ((L1++L2).map dO),v4,v5,v6] (R1++R2)=.ok (.nx [.im d,.im pts,.no,.ow ((L1++updL (glD d) (ps.map (so · d)) L2).map dO),w4,w5,w6],R1++Kv (ps.map (so · d)) R2):=by
 intro ps
 induction ps with
 | nil=>
  intro L1 L2 R1 R2 v4 v5 v6 _ c b _ _ _;cases Jz.mp c;cases Jz.mp b;exact ⟨v4,v5,v6,rfl⟩
 | cons p ps ih=>
  intro L1 L2 R1 R2 v4 v5 v6 g c b j k i;cases L2 with
  | nil=>cases c
  | cons l L2=>
  cases R2 with
  | nil=>cases b
  | cons r R2=>
  obtain ⟨x,ex,v6',f,rfl,hf⟩:=zJ (pts:=pts) (l:=l) (L1:=L1) (L2:=L2) (R1:=R1) (R2:=R2) (r:=r) (v6:=v6) h (g p (BL ..)) (λq e=>k q (by rw [e];exact BL ..)) (i r (BL ..)) j;obtain ⟨w4,w5,w6,e⟩:=ih (L1++[upd1 (glD d) (so p d) l]) L2 (R1++[row1 (so p d) r]) R2 (.im (.int (L1.length:Int))) (.im p) v6' (λq a=>g q (BW _ a)) (by simpa using c) (by simpa using b) (by simp [j]) (λq a=>k q (BW _ a)) (λq a=>i q (BW _ a));refine ⟨w4,w5,w6,?_⟩;show (KN [.im d,.im pts,.no,.ow ((L1++l::L2).map dO),.im (.int (L1.length:Int)),.im p,v6] (R1++r::R2)).bind (Ml (DK _ KN (numbered (L1.length+1) ps)))=_;rw [ex];rw [BJ,HS,Dr,Dr,Dr,Dr] at e;rcases hf with rfl | rfl<;>exact e
def fD(h:Thg d)(hp:∀p∈ps,PtD p)(hl:L.length=ps.length)(hd:dss.length=ps.length)(hb:Bs L)(hc:∀cs∈dss,cs.length<10000) :
  Iu [.im d,.im (.lst ps),.no,.ow (L.map dO)] dss=.ok ([.im d,.im (.lst ps),.no,.ow ((updL (glD d) (ps.map (so · d)) L).map dO)],Kv (ps.map (so · d)) dss):=by
 obtain ⟨c,b,a,e⟩:=oY (pts:=.lst ps) h ps [] L [] dss .no .no .no hp hl hd rfl hb hc;show (DK (gU 2 (gs1 (gN 4) (gs1 (gN 5) gs0))) KN (numbered 0 ps) [.im d,.im (.lst ps),.no,.ow (L.map dO),.no,.no,.no] dss).bind (endY [2,3] _)=_;rw [show numbered 0 ps=numbered ([]:List (Option Rat)).length ps from rfl,show L.map dO=(([]:List (Option Rat))++L).map dO from rfl,show dss=[]++dss from rfl,e];rfl
def Bj(ps:List D):Nat->List (Option Rat)->List D->List (Nat×Rat×Rat)
 | _,_,[]=>[]
 | n,L,d::r=>match farO L with
  | some f=>if BV d<f then Bj ps (n+1) (updL (glD d) (ps.map (so · d)) L) r else (n,BV d,f)::Bj ps (n+1) L r
  | none=>Bj ps (n+1) (updL (glD d) (ps.map (so · d)) L) r
def encG(t:Nat×Rat×Rat):D:=.tup [.int (t.1:Int),frD t.2.1,frD t.2.2]
def Uw:∀{as:List α} {bs:List β} {c:γ},c∈List.zipWith f as bs->∃a∈as,∃b∈bs,c=f a b
 | [],_,_,h=>by simp at h
 | _::_,[],_,h=>by simp at h
 | a::as,b::bs,c,h=>by
  rw [List.zipWith_cons_cons] at h;rcases Al.mp h with rfl | h
  .exact ⟨a,BL ..,b,BL ..,rfl⟩
  .obtain ⟨g,d,i,j,e⟩:=Uw h;exact ⟨g,BW _ d,i,BW _ j,e⟩
def RM{g:Bool}{os:List (Option Sg)}{L:List (Option Rat)}(h:Bs L)(ho:∀s,some s∈os->GS s):Bs (updL g os L):=λq c=>by
 obtain ⟨o,b,l,a,e⟩:=Uw c;unfold upd1 at e;cases o with
 | none=>exact h q (by rw [show some q=l from e];exact a)
 | some s=>
  have e:some q=if g=true then l else some (lesO l s.q):=e
  split at e
  .exact h q (by rw [e];exact a)
  .cases e;exact jQ (λm b=>h m (by rw [<-b];exact a)) (ho s b).bq
def rowS(os:List (Option Sg))(ls:List (List Sg)):List (List Sg):=List.zipWith (λo l=>l++o.toList) os ls
def dF:∀(os:List (Option Sg)) (ls:List (List Sg)),Kv os (ls.map λl=>l.map encS)=(rowS os ls).map λl=>l.map encS
 | [],_=>by simp [Kv,rowS]
 | _::_,[]=>by simp [Kv,rowS]
 | o::os,l::ls=>by
  have ih:=dF os ls;unfold Kv rowS at ih ⊢;rw [Bb,List.zipWith_cons_cons,List.zipWith_cons_cons,Bb,ih];cases o with
  | none=>simp [row1]
  | some s=>simp [row1]
def lkB:MY:=sqY (lft (st 7 (on Gf (Aa (o1 (dFld objs "triangle") (v 6)) Ab))))
  (sqY (lft (st 8 (pkN 3 (on MF (Aa (v 3) Ab)))))
  (ifY (bAnd (trb (o1 Ey (v 8))) (bNot (trb (on Ez (Aa (v 7) (Aa (v 8) Ab))))))
  (lft (app 4 (mtp (Aa (v 5) (Aa (v 7) (Aa (v 8) Ab))))))
  (Gd Iu 3 (some 3) (rIm (v 6) (rIm (v 1) (rRg (rOw 3 rNil)))))))
def gB(o):noL (dO o)=true:=by cases o<;>rfl
def t8{ps:List D}{L:List (Option Rat)}{out:List (Nat×Rat×Rat)}{ls:List (List Sg)}(hp:∀p∈ps,PtD p)(hne:ps≠[])(h:Thg d)(hl:L.length=ps.length)(hb:Bs L)(hs:ls.length=ps.length)(hg:∀l∈ls,(∀s∈l,GS s)/\l.length<=n)(hn:n<=9000)(ho:out.length<=n) :
  ∃(L':List (Option Rat)) (ls':List (List Sg)) (out':List (Nat×Rat×Rat)) (w7 w8:Cl),lkB [.im T,.im (.lst ps),.no,.ow (L.map dO),.ow (out.map encG),.im (.int n),.im d,v7,v8] (ls.map λl=>l.map encS)=.ok (.nx [.im T,.im (.lst ps),.no,.ow (L'.map dO),.ow (out'.map encG),.im (.int n),.im d,w7,w8],ls'.map λl=>l.map encS) /\
   L'.length=ps.length/\Bs L'/\ls'.length=ps.length/\(∀l∈ls',(∀s∈l,GS s)/\l.length<=n+1)/\out'.length<=n+1/\∀r,out++Bj ps n L (d::r)=out'++Bj ps (n+1) L' r:=by
 obtain ⟨k,Q,t,y⟩:=Va h;obtain ⟨B,G⟩:=Wb h y;have j:L≠[]:=λz=>hne (Jz.mp (by rw [<-hl,z];rfl));have m:∀s,some s∈ps.map (so · d)->GS s:=λs C=>by
  obtain ⟨p,u,e⟩:=Bk.mp C;exact ((N8 h (hp p u)).ok s e).2
 have b:∀{U:Fl×List (List D)->Prop},Tl (ifY (bAnd (trb (o1 Ey (v 8))) (bNot (trb (on Ez (Aa (v 7) (Aa (v 8) Ab)))))) (lft (app 4 (mtp (Aa (v 5) (Aa (v 7) (Aa (v 8) Ab)))))) (Gd Iu 3 (some 3) (rIm (v 6) (rIm (v 1) (rRg (rOw 3 rNil))))) [.im T,.im (.lst ps),.no,.ow (L.map dO),.ow (out.map encG),.im (.int n),.im d,.im (frD (BV d)),.im (dO (farO L))] (ls.map λl=>l.map encS)) U->Tl (lkB [.im T,.im (.lst ps),.no,.ow (L.map dO),.ow (out.map encG),.im (.int n),.im d,v7,v8] (ls.map λl=>l.map encS)) U:=λ{U} q=>by
  unfold lkB;refine Es (Ei ?_);symm;refine Af y ?_;symm;refine Af G ?_;refine Er (Es (Ei (w_st (T4 rfl ?_))));symm;refine fc j hb ?_;exact ⟨gB _,Er q⟩
 have i:∀{w7 w8:Cl},Gd Iu 3 (some 3) (rIm (v 6) (rIm (v 1) (rRg (rOw 3 rNil)))) [.im T,.im (.lst ps),.no,.ow (L.map dO),.ow (out.map encG),.im (.int n),.im d,w7,w8] (ls.map λl=>l.map encS)=.ok (.nx [.im T,.im (.lst ps),.no,.ow ((updL (glD d) (ps.map (so · d)) L).map dO),.ow (out.map encG),.im (.int n),.im d,w7,w8],(rowS (ps.map (so · d)) ls).map λl=>l.map encS):=λ{w7 w8}=>by
  have e:=fD h hp hl (dss:=ls.map λl=>l.map encS) (by rw [Ad];exact hs) hb (λP E=>by
   obtain ⟨l,a,rfl⟩:=Bk.mp E;rw [Ad];have:=(hg l a).2
   ac_rfl)
  show (noEx (Iu [.im d,.im (.lst ps),.no,.ow (L.map dO)] (ls.map λl=>l.map encS))).bind _=_;rw [e,dF];rfl
 have w:(updL (glD d) (ps.map (so · d)) L).length=ps.length:=by unfold updL;rw [List.length_zipWith,List.length_map,hl];ac_rfl
 have A:(rowS (ps.map (so · d)) ls).length=ps.length:=by unfold rowS;rw [List.length_zipWith,List.length_map,hs];ac_rfl
 have x:∀l∈rowS (ps.map (so · d)) ls,(∀s∈l,GS s)/\l.length<=n+1:=λl a=>by
  obtain ⟨o,J,I,F,rfl⟩:=Uw a;obtain ⟨K,O⟩:=hg I F;refine ⟨λs hs'=>?_,?_⟩
  .rcases Ek.mp hs' with hs' | hs'
   .exact K s hs'
   .cases o with
    | none=>cases hs'
    | some s'=>
     cases Jl.mp (show s∈[s'] from hs');exact m s J
  .rw [BJ];cases o with
   | none=>simp;ac_rfl
   | some s'=>simp;ac_rfl
 cases ef:farO L with
 | none=>
  refine ⟨updL (glD d) (ps.map (so · d)) L,rowS (ps.map (so · d)) ls,out,.im (frD (BV d)),.im (dO (farO L)),Tl.eq (b ?_),w,RM hb m,A,x,by ac_rfl,λr=>?_⟩
  .rw [ef];show Tl (ifY _ _ _ [.im T,.im (.lst ps),.no,.ow (L.map dO),.ow (out.map encG),.im (.int n),.im d,.im (frD (BV d)),.im .non] _) _;refine K3 ?_;symm;exact Af i rfl
  .show out++(match farO L with | some f=>_ | none=>Bj ps (n+1) (updL (glD d) (ps.map (so · d)) L) r)=_
   rw [ef]
 | some f=>
  have H:=Xr hb j ef;have g:∀{Ψ:Bool->Prop},Ψ (!decide (BV d<f))->Tl (bAnd (trb (o1 Ey (v 8))) (bNot (trb (on Ez (Aa (v 7) (Aa (v 8) Ab))))) [.im T,.im (.lst ps),.no,.ow (L.map dO),.ow (out.map encG),.im (.int n),.im d,.im (frD (BV d)),.im (frD f)]) Ψ:=λ{Ψ} q=>by
   have M:Gk (frD f)=false:=rfl;symm;refine Ib B H ?_;symm;exact q
  by_cases c:BV d<f
  .refine ⟨updL (glD d) (ps.map (so · d)) L,rowS (ps.map (so · d)) ls,out,.im (frD (BV d)),.im (dO (farO L)),Tl.eq (b ?_),w,RM hb m,A,x,by ac_rfl,λr=>?_⟩
   .rw [ef];refine K3 (g ?_);rw [Dp c];exact Af i rfl
   .show out++(match farO L with | some f=>if BV d<f then Bj ps (n+1) (updL (glD d) (ps.map (so · d)) L) r else _ | none=>_)=_
    rw [ef];show out++(if BV d<f then _ else _)=_
    rw [iP c]
  .refine ⟨L,ls,out++[(n,BV d,f)],.im (frD (BV d)),.im (dO (farO L)),Tl.eq (b ?_),hl,hb,hs,λl a=>⟨(hg l a).1,Nat.le_succ_of_le (hg l a).2⟩,by simp;ac_rfl,λr=>?_⟩
   .rw [ef];refine K3 (g ?_);rw [Fz c];show Tl (lft _ _ _) _;refine Ei ?_;have N:(out.map encG).length<1000000:=by rw [Ad];ac_rfl
    symm;refine ⟨N,?_⟩;rw [Cz];rfl
   .show out++(match farO L with | some f=>if BV d<f then _ else (n,BV d,f)::Bj ps (n+1) L r | none=>_)=_
    rw [ef];show out++(if BV d<f then _ else (n,BV d,f)::Bj ps (n+1) L r)=_
    rw [iN c,Dr];rfl
def ZwV{ps:List D}(hp:∀p∈ps,PtD p)(hne:ps≠[]):∀(ts:List D) (n:Nat) (L:List (Option Rat)) (out:List (Nat×Rat×Rat)) (ls:List (List Sg)) (v5 v6 v7 v8:Cl),(∀t∈ts,Thg t)->L.length=ps.length->Bs L->ls.length=ps.length->(∀l∈ls,(∀s∈l,GS s)/\l.length<=n)->n+ts.length<=9000->out.length<=n ->
  ∃(L':List (Option Rat)) (ls':List (List Sg)) (w5 w6 w7 w8:Cl),DK (gU 2 (gs1 (gN 5) (gs1 (gN 6) gs0))) lkB (numbered n ts) [.im T,.im (.lst ps),.no,.ow (L.map dO),.ow (out.map encG),v5,v6,v7,v8] (ls.map λl=>l.map encS)=.ok (.nx [.im T,.im (.lst ps),.no,.ow (L'.map dO),.ow ((out++Bj ps n L ts).map encG),w5,w6,w7,w8],ls'.map λl=>l.map encS)/\ls'.length=ps.length/\∀l∈ls',(∀s∈l,GS s)/\l.length<=n+ts.length:=by
 intro ts
 induction ts with
 | nil=>
  intro n L out ls v5 v6 v7 v8 _ _ _ f c _ _;refine ⟨L,ls,v5,v6,v7,v8,?_,f,c⟩;show Res.ok _=_;rw [show Bj ps n L []=[] from rfl,Bp]
 | cons d ts ih=>
  intro n L out ls v5 v6 v7 v8 j A C f c E o;rw [By] at E;obtain ⟨L',ls',b,w7,w8,e,m,y,F,q,k,G⟩:=t8 (T:=T) (v7:=v7) (v8:=v8) hp hne (j d (BL ..)) A C f c (by ac_rfl) o;obtain ⟨B,g,z,u,x,r,w,v,i⟩:=ih (n+1) L' b ls' (.im (.int n)) (.im d) w7 w8 (λt h=>j t (BW _ h)) m y F q (by ac_rfl) k;refine ⟨B,g,z,u,x,r,?_,v,λl a=>⟨(i l a).1,by have:=(i l a).2;rw [By];ac_rfl⟩⟩;rw [G ts];show (lkB [.im T,.im (.lst ps),.no,.ow (L.map dO),.ow (out.map encG),.im (.int n),.im d,v7,v8] (ls.map λl=>l.map encS)).bind (Ml (DK _ lkB (numbered (n+1) ts)))=_;rw [e];exact w
def aA{U:Fl->Prop}{k:MY}(h1:me Z=.ok (.lst ds))(h2:Fj ds=some dss)(hi:i<Z.length)(h:Tl (k (Z.set i .no) dss) λp=>∃x,p.1=.rt x/\U (.rt x)):Tl (regY i me k Z) U:=by
 obtain ⟨⟨f,r⟩,e,x,rfl,q⟩:=h;refine Af ?_ q;unfold regY;rw [h1];show (match Fj ds with | some dss=>if i<Z.length then (noEx (k (Z.set i .no) dss)).bind fstY else .bad | none=>.bad)=_
 rw [h2];show (if i<Z.length then (noEx (k (Z.set i .no) dss)).bind fstY else .bad)=_
 rw [iP hi,e];rfl
def Yg:∀ps:List α,Fj (ps.map λ_=>D.lst [])=some (ps.map λ_=>[])
 | []=>rfl
 | _::r=>by
  show (if noLs []=true then (Fj (r.map λ_=>D.lst [])).bind λq=>some ([]::q) else none)=_
  rw [Yg r];rfl
def uB{ts ps:List D}(hp:∀p∈ps,PtD p)(hne:ps≠[])(hps:ps.length<=100000)(ht:∀t∈ts,Thg t)(hn:ts.length<=9000) :
  ∃ls:List (List Sg),ls.length=ps.length/\(∀l∈ls,(∀s∈l,GS s)/\l.length<=ts.length)/\Li [.lst ts,.lst ps]=.ok (.tup [.lst (ls.map λl=>D.lst (l.map encS)),.lst ((Bj ps 0 (ps.map λ_=>none) ts).map encG)]):=by
 obtain ⟨w,ls,f,m,j,o,e,s,g⟩:=ZwV (T:=.lst ts) hp hne ts 0 (ps.map λ_=>none) [] (ps.map λ_=>[]) .no .no .no .no ht (by rw [Ad]) (λq n=>by
  obtain ⟨_,_,z⟩:=Bk.mp n
  cases z) (by rw [Ad]) (λl a=>by
  obtain ⟨_,_,rfl⟩:=Bk.mp a
  exact ⟨λs r=>(CK r).elim,DQ _⟩) (by ac_rfl) (Am _)
 refine ⟨ls,s,λl a=>⟨(g l a).1,by have:=(g l a).2;ac_rfl⟩,Tl.eq ?_⟩
 have d:∀{Z:Ev} {e:ME} {x:D},Z[1]?=some (.im (.lst ps))->(∀p∈ps,e [.im p]=.ok x)->comp (iv (v 1)) 1 [] (gN 0) yes e Z=.ok (.lst (ps.map λ_=>x)):=λ{Z e x} k h=>Tl.eq (O5 (w_iv (w_v k (Py ⟨by ac_rfl,by
  have:=Ex (U:=λi=>D.lst i=.lst (ps.map λ_=>x)) (g:=gN 0) (e:=e) (Z:=noA 1 (Bm Z [])) (enc:=λp:D=>p) (λ_=>x) (l:=ps) (λp c=>w_gN (Af (h p c) rfl)) rfl
  rwa [List.map_id'] at this⟩))))
 unfold Li;refine w_fn (aA (d rfl λp _=>rfl) (Yg ps) (by show 2<9;decide) ?_);refine Es (Ei (Nx (Af (d rfl λp _=>rfl) (K7 ?_))));refine Er (Es (Ei ?_));symm;refine Er (Es (Af (x:=(.nx [.im (.lst ts),.im (.lst ps),.no,.ow (w.map dO),.ow ((Bj ps 0 (ps.map λ_=>none) ts).map encG),f,m,j,o],ls.map λl=>l.map encS)) ?_ ?_))
 .show DK _ lkB (numbered 0 ts) _ _=_;have u:((ps.map λ_=>([]:List Sg)).map λl=>l.map encS)=ps.map λ_=>[]:=by rw [Dz];rfl
  have b:(ps.map λ_=>(none:Option Rat)).map dO=ps.map λ_=>D.non:=by rw [Dz];rfl
  rw [u,b] at e;exact e
 .refine Er ?_;refine Af (x:=(.rt (.tup [.lst ((ls.map λl=>l.map encS).map .lst),.lst ((Bj ps 0 (ps.map λ_=>none) ts).map encG)]),ls.map λl=>l.map encS)) rfl ⟨_,rfl,?_⟩;refine w_eR ?_;rw [Dz];rfl
def YB{U:Fl->Prop}{Z:Ev}{i:Nat}{k e:ME}(h:Tl (e Z) λd=>Tl (getO Z[i]?) λxs=>Tl (k Z) λu=>∃(j:Int) (m:Nat),u=.int j/\ixP xs.length j=some m/\U (.nx (Z.set i (.ow (xs.set m d))))):Tl (seti i k e Z) U:=by
 obtain ⟨d,f,xs,a,u,c,j,m,rfl,b,q⟩:=h;refine Af ?_ q;unfold seti;rw [f];show (getO Z[i]?).bind _=_;rw [a];show (k Z).bind _=_;rw [c];show (ofO (ixP xs.length j)).bind _=_;rw [b];rfl
def Vi(ha:Bq 300 a)(hb:Bq 300 b)(h:U (.bl (decide (a<b)))):Tl (Gx [frD a,frD b]) U:=by
 show Tl (Ez [frD a,frD b]) U;exact Ib ha hb h
def rO(e:p++a::r=List.range n):a=p.length/\p.length<n:=by
 have c:=Bw List.length e;rw [BJ,By,Bx] at c;have b:=Qf p a r;rw [e,QQ (by ac_rfl)] at b;exact ⟨(Br b).symm,by ac_rfl⟩
def lwI:MS:=sq (st 11 (on Di (Aa (o1 (dFld objs "triangle") (v 6)) (Aa (o2 dIx (v 2) (v 10)) Ab))))
  (ifs (pkB 4 (bAnd (trb (o1 Ey (v 11))) (bOr (trb (o1 dIsN (o2 dIx (v 4) (v 10)))) (trb (on Gx (Aa (o2 dIx (v 11) (c (.int 0))) (Aa (o2 dIx (v 4) (v 10)) Ab)))))))
  (seti 4 (v 10) (o2 dIx (v 11) (c (.int 0))))
  nop)
def uo(h:Thg d)(hp:PtD p)(ep:ps[A.length]?=some p)(hb:∀q,l=some q->Bq 300 q) :
  Tl (lwI [.im ts,.im tl,.im (.lst ps),.ow out,.ow ((A++l::B).map dO),.im x5,.im d,v7,v8,v9,.im (.int (A.length:Int)),v11]) λf=>∃v11',f=.nx [.im ts,.im tl,.im (.lst ps),.ow out,.ow ((A++upd1 false (so p d) l::B).map dO),.im x5,.im d,v7,v8,v9,.im (.int (A.length:Int)),v11']:=by
 have S:=N8 h hp;obtain ⟨T,t,n⟩:=S.tri;have e:((A++l::B).map dO)[A.length]?=some (dO l):=by
  rw [Cz,Bb];have:=Qf (A.map dO) (dO l) (B.map dO);rwa [Ad] at this
 unfold lwI;symm;refine Af t ?_;symm;refine Lg ep ?_;symm;refine Af n ?_;cases eo:so p d with
 | none=>
  show Tl (goOn _ (.nx [.im ts,.im tl,.im (.lst ps),.ow out,.ow ((A++l::B).map dO),.im x5,.im d,v7,v8,v9,.im (.int (A.length:Int)),.im .non])) _;symm;exact ⟨_,rfl⟩
 | some s=>
  have o:=(S.ok s eo).2;have i:=o.bq;have r:Gk (.tup [frD s.q,s.v])=false:=rfl;show Tl (goOn _ (.nx [.im ts,.im tl,.im (.lst ps),.ow out,.ow ((A++l::B).map dO),.im x5,.im d,v7,v8,v9,.im (.int (A.length:Int)),.im (.tup [frD s.q,s.v])])) _;have a:Tl (seti 4 (v 10) (o2 dIx (v 11) (c (.int 0))) [.im ts,.im tl,.im (.lst ps),.ow out,.ow ((A++l::B).map dO),.im x5,.im d,v7,v8,v9,.im (.int (A.length:Int)),.im (.tup [frD s.q,s.v])]) λf=>f=.nx [.im ts,.im tl,.im (.lst ps),.ow out,.ow ((A++some s.q::B).map dO),.im x5,.im d,v7,v8,v9,.im (.int (A.length:Int)),.im (.tup [frD s.q,s.v])]:=by
   refine YB ?_;symm;refine w_gO rfl ?_;symm;refine ⟨_,A.length,rfl,MN (by simp),?_⟩;have k:((A++l::B).map dO).set A.length (frD s.q)=(A++some s.q::B).map dO:=by
    rw [Cz,Bb];have:=Ub (A.map dO) (dO l) (frD s.q) (B.map dO);rw [Ad] at this;rw [this,Cz,Bb];rfl
   show Fl.nx [_,_,_,_,Cl.ow (((A++l::B).map dO).set A.length (frD s.q)),_,_,_,_,_,_,_]=_;rw [k]
  refine w_gx (Jt (Ue (w_gO rfl ?_)));symm;refine Lg e ?_;cases l with
  | none=>
   show Tl (dIsN .non) _;symm;exact a.mono λf b=>⟨_,b⟩
  | some m=>
   have g:=hb m rfl;have j:Gk (frD m)=false:=rfl;show Tl (dIsN (frD m)) _;symm;refine Lg e ?_;symm;refine Vi i g ?_;symm;refine CP (λc=>?_) (λc=>?_)
   .refine a.mono λf b=>⟨.im (.tup [frD s.q,s.v]),?_⟩;rw [b];show _=Fl.nx [_,_,_,_,Cl.ow ((A++some (if s.q<m then s.q else m)::B).map dO),_,_,_,_,_,_,_]
    rw [iP c]
   .symm;refine ⟨.im (.tup [frD s.q,s.v]),?_⟩;show _=Fl.nx [_,_,_,_,Cl.ow ((A++some (if s.q<m then s.q else m)::B).map dO),_,_,_,_,_,_,_]
    rw [iN c]
def rH{ps:List D}{L:List (Option Rat)}(hl:L.length=ps.length)(ep:ps[k]?=some p)(el:L[k]?=some l):updL g ((ps.take (k+1)).map (so · d)) (L.take (k+1))=updL g ((ps.take k).map (so · d)) (L.take k)++[upd1 g (so p d) l]:=by
 have a:=(Cd.mp ep).1;rw [List.take_add_one,List.take_add_one,ep,el,Cz];unfold updL;rw [List.zipWith_append (by rw [Ad,CZ,CZ];ac_rfl)];rfl
def oO{ps:List D}{L:List (Option Rat)}(hl:L.length=ps.length)(hk:k<=ps.length):(updL g ((ps.take k).map (so · d)) (L.take k)).length=k:=by
 unfold updL;rw [d8,Ad,CZ,CZ];ac_rfl
def yS{U:Fl->Prop}{d ts x5 tl:D}{out:List D}{ps:List D}{L:List (Option Rat)}{v7 v8 v9 v10 v11:Cl}(h:Thg d)(hp:∀p∈ps,PtD p)(hl:L.length=ps.length)(hb:Bs L)(hn:ps.length<=100000)
  (q:∀w10 w11:Cl,U (.nx [.im ts,.im tl,.im (.lst ps),.ow out,.ow ((updL false (ps.map (so · d)) L).map dO),.im x5,.im d,v7,v8,v9,w10,w11])) :
  Tl (for_ (r1 (Aa (on bLen (Aa (v 2) Ab)) Ab)) (gN 10) lwI [.im ts,.im tl,.im (.lst ps),.ow out,.ow (L.map dO),.im x5,.im d,v7,v8,v9,v10,v11]) U:=by
 symm;rw [show ((ps.length:Int)).toNat=ps.length from rfl];unfold CN;refine Gh (enc:=λk:Nat=>D.int (0+(k:Int))) (λb Z=>∃w10 w11:Cl,Z=[.im ts,.im tl,.im (.lst ps),.ow out,.ow ((updL false ((ps.take b.length).map (so · d)) (L.take b.length)++L.drop b.length).map dO),.im x5,.im d,v7,v8,v9,w10,w11]) ⟨v10,v11,rfl⟩ ?_ ?_
 .rintro b a r e Z ⟨w10,w11,rfl⟩;obtain ⟨rfl,n⟩:=rO e;obtain ⟨p,i⟩ : ∃p,ps[b.length]?=some p:=⟨_,Aw n⟩;obtain ⟨l,c⟩ : ∃l,L[b.length]?=some l:=⟨_,Aw (by ac_rfl)⟩;have s:L.drop b.length=l::L.drop (b.length+1):=by
   rw [Hs (by ac_rfl)];rw [Aw (by ac_rfl)] at c;rw [Br c]
  have j:=oO (g:=false) (d:=d) hl (Hx n);have o:=rH (g:=false) (d:=d) hl i c;rw [BJ,HS,o,Dr,s];generalize updL false ((ps.take b.length).map (so · d)) (L.take b.length)=A at j ⊢;generalize L.drop (b.length+1)=B;symm;rw [Int.zero_add,<-j];obtain ⟨f,u,m,rfl⟩:=uo (ts:=ts) (tl:=tl) (x5:=x5) (out:=out) (B:=B) (v7:=v7) (v8:=v8) (v9:=v9) (v11:=w11) h (hp p (GF i)) (by rw [j];exact i) (λq t=>hb q (by rw [<-t];exact GF c));exact Af u ⟨_,rfl,_,_,rfl⟩
 .rintro Z ⟨w10,w11,rfl⟩;rw [Bx,List.take_length,HB (by ac_rfl),Jh (by ac_rfl),Bp];exact q _ _
def encT(tile:Int)(t:Nat×Rat×Rat):D:=.tup [.int tile,.int (t.1:Int),frD t.2.1,frD t.2.2]
def yZ(h:L=(a::r).map some):farO L=some ((a::r).foldl maxQ a):=by
 have e:∀l:List Rat,(l.map some).filterMap id=l:=λl=>by
  induction l with
  | nil=>rfl
  | cons x l ih=>rw [Bb,Px];show x::_=_;rw [ih]
 have c:∀l:List Rat,(l.map some).all Option.isSome=true:=λl=>by
  rw [List.all_eq_true];intro x b;obtain ⟨_,_,rfl⟩:=Bk.mp b;rfl
 subst h;unfold farO;rw [iP (c _),e];rfl
def lwF:MS:=ifs (pkB 4 (trb (o2 dNin (c .non) (v 4))))
  (sq (st 8 (pkN 4 (o2 dIx (v 4) (c (.int 0)))))
  (forP 4 9
  (ifs (trb (on Gx (Aa (v 8) (Aa (v 9) Ab))))
  (st 8 (v 9))
  nop)))
  nop
def ou{U:Fl->Prop}(hL:L≠[])(hb:Bs L)(q:∀w9,U (.nx [.im ts,.im tl,.im pD,.ow out,.ow (L.map dO),c5,c6,c7,.im (dO (farO L)),w9,c10,c11])) :
  Tl (lwF [.im ts,.im tl,.im pD,.ow out,.ow (L.map dO),c5,c6,c7,.im .non,c9,c10,c11]) U:=by
 unfold lwF;refine Jt (Ue (w_gO rfl ?_));symm;refine Af (yu L) ?_;symm;by_cases ha:L.all Option.isSome=true
 case neg=>
  rw [Bool.eq_false_iff.mpr ha];symm;have:=q c9;rwa [show farO L=none by unfold farO;rw [iN ha]] at this
 rw [ha];symm;have z:=all_some ha;have g:=hb.fm;have i:L.map dO=(L.filterMap id).map frD:=by
  rw [z,Dz,<-z];exact Le λ_ _=>rfl
 generalize L.filterMap id=qs at z g i;cases qs with
 | nil=>exact aB z hL
 | cons a r=>
  rw [yZ z] at q;rw [i] at q ⊢;have j:=g a (BL ..);refine T4 rfl ?_;symm;refine ⟨rfl,?_⟩;refine w_gx (yK rfl ?_);show Tl (BP _ _ ((a::r).map frD) [.im ts,.im tl,.im pD,.ow out,.no,c5,c6,c7,.im (frD a),c9,c10,c11]) _;refine Gh (enc:=frD) (λb Z=>∃w9,Bq 300 (b.foldl maxQ a)/\Z=[.im ts,.im tl,.im pD,.ow out,.no,c5,c6,c7,.im (frD (b.foldl maxQ a)),w9,c10,c11]) ⟨c9,j,rfl⟩ ?_ ?_
  .rintro b x s e Z ⟨w9,f,rfl⟩;have h:Bq 300 x:=g x (by rw [<-e];simp);rw [Tc];have d:=Rw f h;generalize b.foldl maxQ a=m at f d ⊢;symm;refine Vi f h ?_;symm;refine CP (λc=>?_) (λc=>?_)
   .symm;exact ⟨_,rfl,_,d,by show _=[_,_,_,_,_,_,_,_,Cl.im (frD (maxQ m x)),_,_,_];unfold maxQ;rw [iP c]⟩
   .symm;exact ⟨_,rfl,_,d,by show _=[_,_,_,_,_,_,_,_,Cl.im (frD (maxQ m x)),_,_,_];unfold maxQ;rw [iN c]⟩
  .rintro Z ⟨w9,f,rfl⟩;exact ⟨_,rfl,q w9⟩
def lwB:MS:=sq (st 7 (on Gf (Aa (o1 (dFld objs "triangle") (v 6)) Ab)))
  (sq (st 8 (c .non))
  (sq lwF
  (ifs (bAnd (trb (o1 Ey (v 8))) (bNot (trb (on Gx (Aa (v 7) (Aa (v 8) Ab))))))
  (app 3 (mtp (Aa (v 1) (Aa (v 5) (Aa (v 7) (Aa (v 8) Ab))))))
  (ifs (bNot (trb (meth Ff "is_glass" (v 6) Ab)))
  (for_ (r1 (Aa (on bLen (Aa (v 2) Ab)) Ab)) (gN 10) lwI)
  nop))))
def updT{os:List (Option Sg)}:∀{L:List (Option Rat)},L.length=os.length->updL true os L=L:=by
 induction os with
 | nil=>intro L h;cases Jz.mp h;rfl
 | cons o os ih=>
  intro L h;cases L with
  | nil=>cases h
  | cons l L=>
   show upd1 true o l::updL true os L=_;rw [ih (by simpa using h)];cases o<;>rfl
def ZsA{ps:List D}{L:List (Option Rat)}{out:List (Nat×Rat×Rat)}(hp:∀p∈ps,PtD p)(hne:ps≠[])(hps:ps.length<=100000)(h:Thg d)(hl:L.length=ps.length)(hb:Bs L)(hn:n<=9000)(ho:out.length<=n) :
  ∃L' out' w7 w8 w9 w10 w11,lwB [.im T,.im (.int tile),.im (.lst ps),.ow (out.map (encT tile)),.ow (L.map dO),.im (.int n),.im d,c7,c8,c9,c10,c11]=.ok (.nx [.im T,.im (.int tile),.im (.lst ps),.ow (out'.map (encT tile)),.ow (L'.map dO),.im (.int n),.im d,w7,w8,w9,w10,w11]) /\
   L'.length=ps.length/\Bs L'/\out'.length<=n+1/\∀r,out++Bj ps n L (d::r)=out'++Bj ps (n+1) L' r:=by
 obtain ⟨k,K,t,u⟩:=Va h;obtain ⟨w,A⟩:=Wb h u;have j:L≠[]:=λz=>hne (Jz.mp (by rw [<-hl,z];rfl));have o:∀s,some s∈ps.map (so · d)->GS s:=λs y=>by
  obtain ⟨p,l,e⟩:=Bk.mp y;exact ((N8 h (hp p l)).ok s e).2
 have m:(updL (glD d) (ps.map (so · d)) L).length=ps.length:=by unfold updL;rw [List.length_zipWith,List.length_map,hl];ac_rfl
 have a:∀{U:Fl->Prop},(∀w9,Tl (ifs (bAnd (trb (o1 Ey (v 8))) (bNot (trb (on Gx (Aa (v 7) (Aa (v 8) Ab)))))) (app 3 (mtp (Aa (v 1) (Aa (v 5) (Aa (v 7) (Aa (v 8) Ab)))))) (ifs (bNot (trb (meth Ff "is_glass" (v 6) Ab))) (for_ (r1 (Aa (on bLen (Aa (v 2) Ab)) Ab)) (gN 10) lwI) nop) [.im T,.im (.int tile),.im (.lst ps),.ow (out.map (encT tile)),.ow (L.map dO),.im (.int n),.im d,.im (frD (BV d)),.im (dO (farO L)),w9,c10,c11]) U)->Tl (lwB [.im T,.im (.int tile),.im (.lst ps),.ow (out.map (encT tile)),.ow (L.map dO),.im (.int n),.im d,c7,c8,c9,c10,c11]) U:=λ{U} q=>by
  unfold lwB;symm;refine Af u ?_;symm;refine Af A ?_;symm;refine ou j hb λw9=>?_;exact w_gx (q w9)
 have g:∀{w8 w9:Cl},Tl (ifs (bNot (trb (meth Ff "is_glass" (v 6) Ab))) (for_ (r1 (Aa (on bLen (Aa (v 2) Ab)) Ab)) (gN 10) lwI) nop [.im T,.im (.int tile),.im (.lst ps),.ow (out.map (encT tile)),.ow (L.map dO),.im (.int n),.im d,.im (frD (BV d)),w8,w9,c10,c11]) λf=>∃w10 w11,f=.nx [.im T,.im (.int tile),.im (.lst ps),.ow (out.map (encT tile)),.ow ((updL (glD d) (ps.map (so · d)) L).map dO),.im (.int n),.im d,.im (frD (BV d)),w8,w9,w10,w11]:=λ{w8 w9}=>by
  symm;refine Wk h rfl ?_;symm;cases hg:glD d with
  | true=>
   show Tl (if (!true)=true then _ else _) _
   symm;rw [updT (by rw [Ad];exact hl)];exact ⟨_,_,rfl⟩
  | false=>
   show Tl (if (!false)=true then _ else _) _
   exact yS h hp hl hb hps λw10 w11=>⟨w10,w11,rfl⟩
 have i:∀{r:Res Fl} {L':List (Option Rat)} {out':List (Nat×Rat×Rat)},(Tl r λf=>∃w7 w8 w9 w10 w11,f=.nx [.im T,.im (.int tile),.im (.lst ps),.ow (out'.map (encT tile)),.ow (L'.map dO),.im (.int n),.im d,w7,w8,w9,w10,w11])->L'.length=ps.length->Bs L'->out'.length<=n+1->(∀r,out++Bj ps n L (d::r)=out'++Bj ps (n+1) L' r)->∃L' out' w7 w8 w9 w10 w11,r=.ok (.nx [.im T,.im (.int tile),.im (.lst ps),.ow (out'.map (encT tile)),.ow (L'.map dO),.im (.int n),.im d,w7,w8,w9,w10,w11]) /\
   L'.length=ps.length/\Bs L'/\out'.length<=n+1/\∀r,out++Bj ps n L (d::r)=out'++Bj ps (n+1) L' r:=λ{r L' out'} F C H G E=>by
  obtain ⟨f,e,w7,w8,w9,w10,w11,rfl⟩:=F;exact ⟨L',out',w7,w8,w9,w10,w11,e,C,H,G,E⟩
 cases ef:farO L with
 | none=>
  refine i (L':=updL (glD d) (ps.map (so · d)) L) (out':=out) (a λw9=>?_) m (RM hb o) (by ac_rfl) λr=>?_
  .rw [ef];show Tl (ifs _ _ _ [.im T,.im (.int tile),.im (.lst ps),.ow (out.map (encT tile)),.ow (L.map dO),.im (.int n),.im d,.im (frD (BV d)),.im .non,w9,c10,c11]) _;refine Jt (Af (x:=false) rfl ?_);exact g.mono λf ⟨w10,w11,e⟩=>⟨_,_,_,_,_,e⟩
  .show out++(match farO L with | some f=>_ | none=>Bj ps (n+1) (updL (glD d) (ps.map (so · d)) L) r)=_
   rw [ef]
 | some f=>
  have B:=Xr hb j ef;have b:∀{Ψ:Bool->Prop} {w9:Cl},Ψ (!decide (BV d<f))->Tl (bAnd (trb (o1 Ey (v 8))) (bNot (trb (on Gx (Aa (v 7) (Aa (v 8) Ab))))) [.im T,.im (.int tile),.im (.lst ps),.ow (out.map (encT tile)),.ow (L.map dO),.im (.int n),.im d,.im (frD (BV d)),.im (frD f),w9,c10,c11]) Ψ:=λ{Ψ w9} q=>by
   have I:Gk (frD f)=false:=rfl;symm;refine Vi w B ?_;symm;exact q
  by_cases c:BV d<f
  .refine i (L':=updL (glD d) (ps.map (so · d)) L) (out':=out) (a λw9=>?_) m (RM hb o) (by ac_rfl) λr=>?_
   .rw [ef];refine Jt (b ?_);rw [Dp c];exact g.mono λf ⟨w10,w11,e⟩=>⟨_,_,_,_,_,e⟩
   .show out++(match farO L with | some f=>if BV d<f then Bj ps (n+1) (updL (glD d) (ps.map (so · d)) L) r else _ | none=>_)=_
    rw [ef];show out++(if BV d<f then _ else _)=_
    rw [iP c]
  .refine i (L':=L) (out':=out++[(n,BV d,f)]) (a λw9=>?_) hl hb (by simp;ac_rfl) λr=>?_
   .rw [ef];refine Jt (b ?_);rw [Fz c];show Tl (app _ _ _) _;have J:(out.map (encT tile)).length<1000000:=by rw [Ad];ac_rfl
    symm;refine ⟨J,?_⟩;rw [Cz];exact ⟨_,_,_,_,_,rfl⟩
   .show out++(match farO L with | some f=>if BV d<f then _ else (n,BV d,f)::Bj ps (n+1) L r | none=>_)=_
    rw [ef];show out++(if BV d<f then _ else (n,BV d,f)::Bj ps (n+1) L r)=_
    rw [iN c,Dr];rfl
def qz{ps:List D}(hp:∀p∈ps,PtD p)(hne:ps≠[])(hps:ps.length<=100000):∀(ts:List D) (n:Nat) (L:List (Option Rat)) (out:List (Nat×Rat×Rat)) (c5 c6 c7 c8 c9 c10 c11:Cl),(∀t∈ts,Thg t)->L.length=ps.length->Bs L->n+ts.length<=9000->out.length<=n ->
  ∃(L':List (Option Rat)) (w5 w6 w7 w8 w9 w10 w11:Cl),BP (gU 2 (gs1 (gN 5) (gs1 (gN 6) gs0))) lwB (numbered n ts) [.im T,.im (.int tile),.im (.lst ps),.ow (out.map (encT tile)),.ow (L.map dO),c5,c6,c7,c8,c9,c10,c11]=.ok (.nx [.im T,.im (.int tile),.im (.lst ps),.ow ((out++Bj ps n L ts).map (encT tile)),.ow (L'.map dO),w5,w6,w7,w8,w9,w10,w11]):=by
 intro ts
 induction ts with
 | nil=>
  intro n L out c5 c6 c7 c8 c9 c10 c11 _ _ _ _ _;refine ⟨L,c5,c6,c7,c8,c9,c10,c11,?_⟩;show Res.ok _=_;rw [show Bj ps n L []=[] from rfl,Bp]
 | cons d ts ih=>
  intro n L out c5 c6 c7 c8 c9 c10 c11 f u w x j;rw [By] at x;obtain ⟨L',a,w7,w8,w9,w10,w11,e,i,q,g,y⟩:=ZsA (T:=T) (tile:=tile) (c7:=c7) (c8:=c8) (c9:=c9) (c10:=c10) (c11:=c11) hp hne hps (f d (BL ..)) u w (by ac_rfl) j;obtain ⟨v,r,l,o,k,s,c,b,m⟩:=ih (n+1) L' a (.im (.int n)) (.im d) w7 w8 w9 w10 w11 (λt h=>f t (BW _ h)) i q (by ac_rfl) g;refine ⟨v,r,l,o,k,s,c,b,?_⟩;rw [y ts];show (lwB [.im T,.im (.int tile),.im (.lst ps),.ow (out.map (encT tile)),.ow (L.map dO),.im (.int n),.im d,c7,c8,c9,c10,c11]).bind (turn (BP _ lwB (numbered (n+1) ts)))=_;rw [e];exact m
def oZ{ts ps:List D}(hp:∀p∈ps,PtD p)(hne:ps≠[])(hps:ps.length<=100000)(ht:∀t∈ts,Thg t)(hn:ts.length<=9000) :
  NB [.lst ts,.int tile,.lst ps]=.ok (.lst ((Bj ps 0 (ps.map λ_=>none) ts).map (encT tile))):=by
 obtain ⟨s,m,o,n,r,u,j,k,e⟩:=qz (T:=.lst ts) (tile:=tile) hp hne hps ts 0 (ps.map λ_=>none) [] .no .no .no .no .no .no .no ht (by rw [Ad]) (λq i=>by
  obtain ⟨_,_,z⟩:=Bk.mp i
  cases z) (by ac_rfl) (Am _)
 refine Tl.eq ?_
 have f:∀{Z:Ev},Z[2]?=some (.im (.lst ps))->comp (iv (v 2)) 1 [] (gN 0) yes (c .non) Z=.ok (.lst (ps.map λ_=>.non)):=λ{Z} h=>Tl.eq (O5 (w_iv (w_v h (Py ⟨by ac_rfl,by
  have:=Ex (U:=λd=>D.lst d=.lst (ps.map λ_=>.non)) (g:=gN 0) (e:=c .non) (Z:=noA 1 (Bm Z [])) (enc:=λp:D=>p) (λ_=>.non) (l:=ps) (λp b=>w_gN (Af rfl rfl)) rfl
  rwa [List.map_id'] at this⟩))))
 unfold NB;refine w_fn (w_sq (Nx (RD (FT (K7 (w_gx (w_sq (Nx (Af (f (by rfl)) (K7 (w_gx (w_sq (R5 (Af (x:=numbered 0 ts) rfl ?_))))))))))))));have a:(ps.map λ_=>(none:Option Rat)).map dO=ps.map λ_=>D.non:=by rw [Dz];rfl
 rw [a] at e;show Tl (BP _ lwB (numbered 0 ts) [.im (.lst ts),.im (.int tile),.im (.lst ps),.ow [],.ow (ps.map λ_=>D.non),.no,.no,.no,.no,.no,.no,.no]) _;refine Af e ?_;symm;rfl
def Ww{U:List D->Prop}{i:Int}(h0:(-1000000000<=i/\i<=1000000000)/\(-1000000000<=j/\j<=1000000000))(h:U (CN i (j - i).toNat)):Tl (rng2 [.int i,.int j]) U:=by
 refine Af ?_ h;show (if (-1000000000<=i/\i<=1000000000)/\(-1000000000<=j/\j<=1000000000) then Res.ok (CN i (j - i).toNat) else .bad)=_
 rw [iP h0]
abbrev cel(c r:Nat):Int×Int:=((c:Int),(r:Int))
abbrev acr(W S:Nat):Nat:=(W+S - 1)/S
def Bo(W H S t:Nat):List (Int×Int):=(List.range (min (t/acr W S*S+S) H - t/acr W S*S)).flatMap λi=>(List.range (min (t%acr W S*S+S) W - t%acr W S*S)).map λj=>cel (t%acr W S*S+j) (t/acr W S*S+i)
def numT(W S c r:Nat):Nat:=r/S*acr W S+c/S
def HQ(W S t r:Nat):List (Int×Int):=((List.range W).filter λc=>decide (numT W S c r=t)).map λc=>cel c r
def lawL(W H S t:Nat):List (Int×Int):=(List.range H).flatMap (HQ W S t)
def au{c S q:Nat}(hS:0<S):c/S=q↔q*S<=c/\c<q*S+S:=by
 have d:=Nat.div_add_mod c S;have e:=Hy c hS;rw [Nat.mul_comm] at d;constructor
 .rintro rfl;ac_rfl
 .rintro ⟨a,b⟩;exact Nat.div_eq_of_lt_le (by ac_rfl) (by rw [FN];ac_rfl)
def Tf{W S c:Nat}(hS:0<S)(h:c<W):c/S<acr W S:=by
 have z:(c+S)/S<=(W+S - 1)/S:=Nat.div_le_div_right (by ac_rfl);rw [Nat.add_div_right c hS] at z;exact z
def qF{W S c r t:Nat}(hS:0<S)(hc:c<W):numT W S c r=t↔(t/acr W S*S<=r/\r<t/acr W S*S+S)/\t%acr W S*S<=c/\c<t%acr W S*S+S:=by
 have a:=Tf hS hc;rw [<-au hS,<-au hS];unfold numT;constructor
 .rintro rfl;have d:(r/S*acr W S+c/S)/acr W S=r/S:=by
   rw [JV,Nat.add_mul_div_right _ _ (Hr (DQ _) a),Nat.div_eq_of_lt a,Nat.zero_add]
  have b:(r/S*acr W S+c/S)%acr W S=c/S:=by
   rw [JV,Nat.add_mul_mod_self_right,Nat.mod_eq_of_lt a]
  rw [d,b];exact ⟨rfl,rfl⟩
 .rintro ⟨d,b⟩;rw [d,b,Nat.mul_comm];exact Nat.div_add_mod t (acr W S)
def xG(h:l+n<=W)(hp:∀c,c<W->(p c=true↔l<=c/\c<l+n)):(List.range W).filter p=(List.range n).map (l+·):=by
 obtain ⟨m,rfl⟩ : ∃m,W=l+n+m:=⟨W - (l+n),by ac_rfl⟩;rw [List.range_add,List.range_add,Ji,Ji];have f:(List.range l).filter p=[]:=List.filter_eq_nil_iff.mpr λc a=>by
  have:=DN.mp a;rw [hp c (by ac_rfl)];ac_rfl
 have d:((List.range n).map (l+·)).filter p=(List.range n).map (l+·):=List.filter_eq_self.mpr λc a=>by
  obtain ⟨j,b,rfl⟩:=Bk.mp a;have:=DN.mp b;rw [hp _ (by ac_rfl)];ac_rfl
 have e:((List.range m).map (l+n+·)).filter p=[]:=List.filter_eq_nil_iff.mpr λc a=>by
  obtain ⟨j,b,rfl⟩:=Bk.mp a;have:=DN.mp b;rw [hp _ (by ac_rfl)];ac_rfl
 rw [f,d,e,List.nil_append,Bp]
def Vh:∀{l:List Nat},(∀x∈l,f x=[])->l.flatMap f=[]
 | [],_=>rfl
 | x::r,h=>by
  rw [Fy,h x BL,List.nil_append];exact Vh λy a=>h y (BW _ a)
def Xz:∀{l:List Nat},(∀x∈l,f x=g x)->l.flatMap f=l.flatMap g
 | [],_=>rfl
 | x::r,h=>by
  rw [Fy,Fy,h x BL,Xz λy a=>h y (BW _ a)]
def jm(h:l+n<=H)(hf:∀r,r<H->¬(l<=r/\r<l+n)->f r=[]):(List.range H).flatMap f=(List.range n).flatMap λi=>f (l+i):=by
 obtain ⟨m,rfl⟩ : ∃m,H=l+n+m:=⟨H - (l+n),by ac_rfl⟩
 rw [List.range_add,List.range_add,Hf,Hf,Vh (l:=List.range l) λr a=>hf r (by have:=DN.mp a;ac_rfl) (by have:=DN.mp a;ac_rfl),Vh (l:=(List.range m).map _) λr a=>by
  obtain ⟨j,b,rfl⟩:=Bk.mp a;have:=DN.mp b
  exact hf _ (by ac_rfl) (by ac_rfl)]
 rw [List.nil_append,Bp,List.flatMap_map]
def Vm{t:Nat}(hS:0<S)(hW:0<W)(hH:0<H)(ht:t<acr W S*acr H S):t%acr W S*S<W/\t/acr W S*S<H:=by
 have a:∀{W q:Nat},0<W->q<acr W S->q*S<W:=λ{W q} c h=>by
  have:=(Nat.le_div_iff_mul_le hS).mp (show q+1<=(W+S - 1)/S from h);rw [FN] at this;ac_rfl
 have b:0<acr W S:=Hr (DQ _) (Tf hS hW);exact ⟨a hW (Hy t b),a hH (Nat.div_lt_of_lt_mul ht)⟩
def Zn{t:Nat}(hS:0<S)(hW:0<W)(hH:0<H)(ht:t<acr W S*acr H S):lawL W H S t=Bo W H S t:=by
 obtain ⟨f,g⟩:=Vm hS hW hH ht;unfold lawL Bo;have d:=@qF W S;rw [jm (l:=t/acr W S*S) (n:=min (t/acr W S*S+S) H - t/acr W S*S) (by ac_rfl) λr e h=>?_]
 .refine Xz λi b=>?_;have b:=DN.mp b;unfold HQ;rw [xG (l:=t%acr W S*S) (n:=min (t%acr W S*S+S) W - t%acr W S*S) (by ac_rfl) λc a=>?_,Dz]
  .rfl
  .rw [decide_eq_true_eq,d hS a];ac_rfl
 .unfold HQ;rw [List.filter_eq_nil_iff.mpr λc a=>?_]
  .rfl
  .have a:=DN.mp a;rw [decide_eq_true_eq,d hS a];ac_rfl
def yw{t:Nat}(hS:0<S)(hW:0<W)(hH:0<H)(ht:t<acr W S*acr H S):∃p r,Bo W H S t=p::r:=by
 obtain ⟨c,d⟩:=Vm hS hW hH ht;unfold Bo;obtain ⟨n,b⟩ : ∃n,min (t/acr W S*S+S) H - t/acr W S*S=n+1:=⟨min (t/acr W S*S+S) H - t/acr W S*S - 1,by ac_rfl⟩;obtain ⟨m,a⟩ : ∃m,min (t%acr W S*S+S) W - t%acr W S*S=m+1:=⟨min (t%acr W S*S+S) W - t%acr W S*S - 1,by ac_rfl⟩;rw [b,a,Qx,Qx,Fy,Bb,List.cons_append];exact ⟨_,_,rfl⟩
def Zsd{t:Nat}:p∈lawL W H S t↔∃c r,c<W/\r<H/\numT W S c r=t/\p=cel c r:=by
 unfold lawL HQ;rw [List.mem_flatMap];constructor
 .rintro ⟨r,b,h⟩;obtain ⟨c,a,rfl⟩:=Bk.mp h;obtain ⟨f,e⟩:=Jm.mp a;exact ⟨c,r,DN.mp f,DN.mp b,of_decide_eq_true e,rfl⟩
 .rintro ⟨c,r,a,b,d,rfl⟩;exact ⟨r,DN.mpr b,Bk.mpr ⟨c,Jm.mpr ⟨DN.mpr a,Dp d⟩,rfl⟩⟩
def lg64{n:Nat}(h:n<=1000000):((n:Int)).natAbs.log2<9000:=Sm.log (m:=64) (Sm.of64 (by ac_rfl) (by ac_rfl)) (by decide)
def mo64{a b:Nat}(ha:a<=1000000)(hb:b<=1000000):Bl (a:Int) (b:Int)=true:=Cw (m:=64) (n:=64) (Sm.of64 (by ac_rfl) (by ac_rfl)) (Sm.of64 (by ac_rfl) (by ac_rfl)) (by decide)
def Im(hS:0<S)(hW:0<W):1<=acr W S/\acr W S<=W:=by
 refine ⟨Hr (DQ _) (Tf hS hW),?_⟩
 have:(W+S - 1)/S<W+1:=(Nat.div_lt_iff_lt_mul hS).mpr (by
  have:S<=(W+1)*S - W*S:=by rw [FN];ac_rfl
  have:W<=W*S:=Nat.le_mul_of_pos_right W hS;rw [FN]
  ac_rfl)
 show (W+S - 1)/S<=W;ac_rfl
def M6{W S:Nat}(hS:0<S)(hW:0<W):((W:Int)+(S:Int) - 1)/(S:Int)=((acr W S:Nat):Int):=by
 rw [show ((W:Int)+(S:Int) - 1)=((W+S - 1:Nat):Int) by ac_rfl];exact (Int.natCast_ediv _ _).symm
structure Sz(W H S:Nat):Prop where
 w:1<=W/\W<=64
 h:1<=H/\H<=64
 s:1<=S/\S<=64
def jE{W H S t:Nat}(z:Sz W H S)(ht:t<acr W S*acr H S)(q:U (.lst ((Bo W H S t).map encP))):Tl (M3 [.int W,.int H,.int S,.int t]) U:=by
 obtain ⟨w,h,s⟩:=z;have c:0<S:=by ac_rfl
 have l:=Im c (show 0<W by ac_rfl);have y:=Im c (show 0<H by ac_rfl);have u:acr W S*acr H S<=64*64:=GR (by ac_rfl) (by ac_rfl);obtain ⟨x,p⟩:=Vm c (show 0<W by ac_rfl) (show 0<H by ac_rfl) ht;unfold Bo at q;generalize ea:acr W S=a at *;have g:=lg64 (show S<=1000000 by ac_rfl);have f:=lg64 (show a<=1000000 by ac_rfl);unfold M3;symm;unfold JT;symm;rw [M6 c (by ac_rfl),ea];symm;rw [<-Int.natCast_emod];have A:t%a<=64:=by have:=Hy t (show 0<a by ac_rfl);ac_rfl
 have r:=mo64 (show t%a<=1000000 by ac_rfl) (show S<=1000000 by ac_rfl);symm;rw [<-Ig];symm;rw [<-Int.natCast_ediv];have o:t/a<=4096:=by have:=Nat.div_le_self t a;ac_rfl
 have k:=mo64 (show t/a<=1000000 by ac_rfl) (show S<=1000000 by ac_rfl);symm;rw [<-Ig];generalize t%a*S=left at *;generalize t/a*S=top at *;symm;symm;refine w_r2 ?_;symm;refine Ww (by ac_rfl) ?_;symm;rw [show (min ((top:Int)+(S:Int)) (H:Int) - (top:Int)).toNat=min (top+S) H - top by ac_rfl];unfold CN;refine HR (λi Z=>∃d b:Cl,Z=[.im (.int W),.im (.int H),.im (.int S),.im (.int t),.im (.int a),.im (.int left),.im (.int top),.ow (((List.range i).flatMap λi=>(List.range (min (left+S) W - left)).map λj=>cel (left+j) (top+i)).map encP),d,b]) ⟨_,_,rfl⟩ ?_ ?_
 .rintro i e Z ⟨d,b,rfl⟩;have v:((List.range i).flatMap λi=>(List.range (min (left+S) W - left)).map λj=>cel (left+j) (top+i)).length<=i*64:=by
   clear e
   induction i with
   | zero=>simp
   | succ n ih=>
    rw [HJ,Hf,BJ,Fy,Jb,Bp,Ad,Bx];ac_rfl
  symm;refine w_r2 ?_;symm;refine Ww (by ac_rfl) ?_;symm;rw [show (min ((left:Int)+(S:Int)) (W:Int) - (left:Int)).toNat=min (left+S) W - left by ac_rfl];unfold CN;refine HR (λj Z=>∃b:Cl,Z=[.im (.int W),.im (.int H),.im (.int S),.im (.int t),.im (.int a),.im (.int left),.im (.int top),.ow ((((List.range i).flatMap λi=>(List.range (min (left+S) W - left)).map λj=>cel (left+j) (top+i))++(List.range j).map λj=>cel (left+j) (top+i)).map encP),.im (.int ((top:Int)+(i:Int))),b]) ⟨_,by rw [List.range_zero,List.map_nil,Bp]⟩ ?_ ?_
  .rintro j m Z ⟨b,rfl⟩;symm;refine ⟨by rw [Ad,BJ,Ad,Bx];ac_rfl,?_⟩;refine ⟨_,rfl,.im (.int ((left:Int)+(j:Int))),?_⟩;rw [HJ];simp only [Cz,Dr,Bb,List.map_nil];rfl
  .rintro Z ⟨b,rfl⟩;refine ⟨_,rfl,.im (.int ((top:Int)+(i:Int))),b,?_⟩;rw [HJ,Hf,Fy,Jb,Bp]
 .rintro Z ⟨d,b,rfl⟩;symm;exact q
def su{W H S t:Nat}(z:Sz W H S)(ht:t<=4096)(q:U (.lst ((lawL W H S t).map encP))):Tl (Ls [.int W,.int H,.int S,.int t]) U:=by
 obtain ⟨w,h,s⟩:=z;have e:0<S:=by ac_rfl
 have u:=Im e (show 0<W by ac_rfl);have l:=lg64 (show S<=1000000 by ac_rfl);have b:∀r,(HQ W S t r).length<=64:=λr=>by
  unfold HQ;rw [Ad];exact CJ (Nk _ _) (by rw [Bx];ac_rfl)
 unfold Ls;symm;rw [M6 e (by ac_rfl),JX,Do];refine HR (λi Z=>∃d a:Cl,Z=[.im (.int W),.im (.int H),.im (.int S),.im (.int t),.im (.int ((acr W S:Nat):Int)),.ow (((List.range i).flatMap (HQ W S t)).map encP),d,a]) ⟨_,_,rfl⟩ ?_ ?_
 .rintro r k Z ⟨d,a,rfl⟩;have m:((List.range r).flatMap (HQ W S t)).length<=r*64:=by
   clear k
   induction r with
   | zero=>simp
   | succ n ih=>
    rw [HJ,Hf,BJ,Fy,Jb,Bp];have:=b n;ac_rfl
  symm;rw [JX,Do];refine HR (λj Z=>∃a:Cl,Z=[.im (.int W),.im (.int H),.im (.int S),.im (.int t),.im (.int ((acr W S:Nat):Int)),.ow (((List.range r).flatMap (HQ W S t)++((List.range j).filter λc=>decide (numT W S c r=t)).map λc=>cel c r).map encP),.im (.int r),a]) ⟨_,by rw [List.range_zero,IV,List.map_nil,Bp]⟩ ?_ ?_
  .rintro c p Z ⟨a,rfl⟩;have o:((List.range c).filter λc=>decide (numT W S c r=t)).length<=64:=CJ (Nk _ _) (by rw [Bx];ac_rfl);have f:Bl ((r/S:Nat):Int) ((acr W S:Nat):Int)=true:=mo64 (by have:=Nat.div_le_self r S;ac_rfl) (by ac_rfl);rw [Int.natCast_ediv] at f;symm;rw [show ((r:Int)/(S:Int)*((acr W S:Nat):Int)+(c:Int)/(S:Int))=((numT W S c r:Nat):Int) by unfold numT;simp only [Int.natCast_add,Int.natCast_mul,Int.natCast_ediv]];have g:decide (((numT W S c r:Nat):Int)=(t:Int))=decide (numT W S c r=t):=by rw [decide_eq_decide];ac_rfl
   rw [g];refine CP (λy=>?_) (λy=>?_)
   .symm;refine ⟨by rw [Ad,BJ,Ad];ac_rfl,?_⟩;refine ⟨_,rfl,.im (.int c),?_⟩;rw [HJ,Ji,Fv,iP (Dp y),IV];simp only [Cz,Dr,Bb,List.map_nil]
   .symm;refine ⟨_,rfl,.im (.int c),?_⟩;rw [HJ,Ji,Fv,iN (by rw [Fz y];exact DX),IV,Bp]
  .rintro Z ⟨a,rfl⟩;refine ⟨_,rfl,.im (.int r),a,?_⟩;rw [HJ,Hf,Fy,Jb,Bp];rfl
 .rintro Z ⟨d,a,rfl⟩;symm;exact q
def YM{U:Fl->Prop}(e:Z[i]?=some (.ow xs))(h:Tl (a Z) λd=>Tl (lstO d) λys=>xs.length+ys.length<=LIM/\U (.nx (Z.set i (.ow (xs++ys))))):Tl (ext i a Z) U:=by
 obtain ⟨d,f,ys,c,b,q⟩:=h;refine Af ?_ q;unfold ext;rw [e];show (a Z).bind _=_;rw [f];show (lstO d).bind _=_;rw [c];show (if xs.length+ys.length<=LIM then _ else _)=_
 rw [iP b]
abbrev ptC(c d:Int×Int):D:=pt8 (8*c.1+d.1) (8*c.2+d.2)
def ptsL(cells dots:List (Int×Int)):List D:=cells.flatMap λc=>dots.map (ptC c)
def RG(cells dots):(ptsL cells dots).length=cells.length*dots.length:=by
 unfold ptsL
 induction cells with
 | nil=>simp
 | cons c r ih=>rw [Fy,BJ,Ad,ih,By,FN];ac_rfl
def dI(cells dots)(c):ptsL (cells++[c]) dots=ptsL cells dots++dots.map (ptC c):=by
 unfold ptsL;rw [Hf,Fy,Jb,Bp]
def PB(cells:List (Int×Int)):Prop:=∀c∈cells,(0<=c.1/\c.1<=64)/\0<=c.2/\c.2<=64
def YW(hc:PB cells)(hd:∀d∈dots,(1<=d.1/\d.1<=7)/\1<=d.2/\d.2<=7):∀p∈ptsL cells dots,PtD p:=λp b=>by
 obtain ⟨c,e,b⟩:=List.mem_flatMap.mp b;obtain ⟨d,a,rfl⟩:=Bk.mp b;have g:=hc c e;have f:=hd d a;exact ⟨_,_,rfl,by ac_rfl,by ac_rfl⟩
def xm(hc:PB cells)(h1:cells.length<=4096)(h2:dots.length<=16)(q:U (.lst (ptsL cells dots))):Tl (Mw [.lst (cells.map encP),.lst (dots.map encP)]) U:=by
 unfold Mw;symm;refine Gh (enc:=encP) (λa Z=>∃f b,Z=[.im (.lst (cells.map encP)),.im (.lst (dots.map encP)),.ow (ptsL a dots),f,b]) ⟨_,_,rfl⟩ ?_ ?_
 .rintro a c r e Z ⟨f,b,rfl⟩;have h:=hc c (by rw [<-e];simp);have g:a.length<=4096:=by
   have:=Bw List.length e;rw [BJ] at this;ac_rfl
  rw [dI];unfold encP;symm;refine YM rfl ?_;symm;refine ⟨by rw [Ad];ac_rfl,?_⟩;refine Ex (ptC c) (λd i=>?_) ?_
  .symm;unfold Vo;symm
  .symm;have:a.length*dots.length<=4096*16:=GR g h2;exact ⟨by rw [RG,Ad];show _<=1000000;ac_rfl,_,rfl,_,_,rfl⟩
 .rintro Z ⟨f,b,rfl⟩;symm;exact q
def iK(xs:List D)(ha:a<=b)(hb:b<=xs.length):cutL xs (some (a:Int)) (some (b:Int))=(xs.drop a).take (b - a):=by
 unfold cutL cutAt;have d:¬((a:Int)<0):=by ac_rfl
 have c:¬((b:Int)<0):=by ac_rfl
 simp only [d,c,CV];rw [show min (a:Int).toNat xs.length=a by ac_rfl,show min (b:Int).toNat xs.length=b by ac_rfl]
structure Shp(W H:Nat)(dss:List (List D)):Prop where
 h:dss.length=H
 w:∀cs∈dss,cs.length=W
def Shp.set{cs:List D}(S:Shp W H dss)(h:cs.length=W):Shp W H (dss.set r cs):=by
 refine ⟨by rw [De];exact S.h,λx a=>?_⟩;rcases List.mem_or_eq_of_mem_set a with a | rfl
 .exact S.w x a
 .exact h
def Zq6{U:Fl×List (List D)->Prop}{cs:List D}(h:Tl (mv Z) λw=>U (.nx Z,dss.set r (cs.set k w)))(h2:ma Z=.ok (.int r))(h3:mb Z=.ok (.int k))(hr:dss[r]?=some cs)(hk:k<cs.length):Tl (Il mv ma mb Z dss) U:=by
 obtain ⟨w,e,q⟩:=h;refine Af ?_ q;unfold Il;rw [e,h2,h3];show optY Z (setR dss w (r:Int) (k:Int))=_;unfold setR;rw [MN (Cd.mp hr).1];show optY Z ((dss[r]?).bind _)=_;rw [hr];show optY Z ((ixP cs.length (k:Int)).bind _)=_;rw [MN hk];rfl
def pcB:MY:=sqY (lft (st 7 (cut (v 2) (pso (o2 Ao (v 5) (v 4))) (pso (o2 Ao (o2 Ah (v 5) (c (.int 1))) (v 4))))))
  (Il (on Lw (Aa (v 7) (Aa (v 3) Ab))) (o2 dIx (v 6) (c (.int 1))) (o2 dIx (v 6) (c (.int 0))))
def fW{W H n N:Nat}{g:Rat}{ls:List (List Sg)}{cD:D}(hW:W<=64)(hH:H<=64)(hg:Bq 300 g)(hl:∀l∈ls,(∀s∈l,GS s)/\l.length<=n)(hn:n<=12)(h1:1<=k)(h16:k<=16)(hk:k*(300+170*n)+10<=8900)(hN:ls.length=N*k)(hN2:N<=4096) :
  ∀(cs:List (Int×Int)) (j:Nat) (dss:List (List D)) (v5 v6 v7:Cl),(∀c∈cs,(0<=c.1/\c.1<(W:Int))/\0<=c.2/\c.2<(H:Int))->j+cs.length=N->Shp W H dss ->
   ∃(dss':List (List D)) (w5 w6 w7:Cl),DK (gU 2 (gs1 (gN 5) (gs1 (gN 6) gs0))) pcB (numbered j (cs.map encP)) [.no,.im cD,.im (.lst (ls.map λl=>D.lst (l.map encS))),.im (frD g),.im (.int k),v5,v6,v7] dss=.ok (.nx [.no,.im cD,.im (.lst (ls.map λl=>D.lst (l.map encS))),.im (frD g),.im (.int k),w5,w6,w7],dss')/\Shp W H dss':=by
 intro cs
 induction cs with
 | nil=>exact λj dss v5 v6 v7 _ _ S=>⟨dss,v5,v6,v7,rfl,S⟩
 | cons c cs ih=>
  intro j dss v5 v6 v7 m q S;rw [By] at q;have d:=m c (BL ..);have A:j*k+k<=N*k:=by
   have:=QL k (show j+1<=N by ac_rfl);rwa [FN] at this
  have E:j*k<=4096*16:=GR (by ac_rfl) h16;have G:=mo64 (show j<=1000000 by ac_rfl) (show k<=1000000 by ac_rfl);have F:=mo64 (show j+1<=1000000 by ac_rfl) (show k<=1000000 by ac_rfl);obtain ⟨a,o⟩ : ∃r,dss[c.2.toNat]?=some r:=⟨_,Aw (by rw [S.h];ac_rfl)⟩;have u:=S.w a (GF o);have f:∃w:D,pcB [.no,.im cD,.im (.lst (ls.map λl=>D.lst (l.map encS))),.im (frD g),.im (.int k),.im (.int j),.im (encP c),v7] dss=.ok (.nx [.no,.im cD,.im (.lst (ls.map λl=>D.lst (l.map encS))),.im (frD g),.im (.int k),.im (.int j),.im (encP c),.im (.lst (((ls.drop (j*k)).take k).map λl=>D.lst (l.map encS)))],dss.set c.2.toNat (a.set c.1.toNat w)):=by
   have z:Tl (pcB [.no,.im cD,.im (.lst (ls.map λl=>D.lst (l.map encS))),.im (frD g),.im (.int k),.im (.int j),.im (encP c),v7] dss) λx=>∃w:D,x=(.nx [.no,.im cD,.im (.lst (ls.map λl=>D.lst (l.map encS))),.im (frD g),.im (.int k),.im (.int j),.im (encP c),.im (.lst (((ls.drop (j*k)).take k).map λl=>D.lst (l.map encS)))],dss.set c.2.toNat (a.set c.1.toNat w)):=by
    unfold pcB;refine Es (Ei ?_);symm;rw [<-Ig,show (j:Int)+1=((j+1:Nat):Int) by ac_rfl,<-Ig];rw [iK _ (show j*k<=(j+1)*k by rw [FN];ac_rfl) (by rw [Ad,hN,FN];exact A)];rw [show (j+1)*k - j*k=k by rw [FN];ac_rfl,<-KJ,<-HH];have b:∀l∈(ls.drop (j*k)).take k,l∈ls:=λl h=>Mx (GC h);have i:((ls.drop (j*k)).take k).length=k:=by rw [CZ,GX,hN];ac_rfl
    generalize (ls.drop (j*k)).take k=L at b i ⊢;refine Er (Zq6 (r:=c.2.toNat) (k:=c.1.toNat) (cs:=a) ?_ ?_ ?_ o (by ac_rfl))
    .symm;refine uX (n:=n) hg (λl h=>hl l (b l h)) hn (by ac_rfl) (by ac_rfl) (by rw [i];exact hk) ?_;exact ⟨_,rfl⟩
    .show Res.ok (D.int c.2)=_;rw [HX d.2.1]
    .show Res.ok (D.int c.1)=_;rw [HX d.1.1]
   obtain ⟨x,e,w,rfl⟩:=z;exact ⟨w,e⟩
  obtain ⟨w,e⟩:=f;obtain ⟨dss',C,t,y,v,B⟩:=ih (j+1) (dss.set c.2.toNat (a.set c.1.toNat w)) (.im (.int j)) (.im (encP c)) (.im (.lst (((ls.drop (j*k)).take k).map λl=>D.lst (l.map encS)))) (λx p=>m x (BW _ p)) (by ac_rfl) (S.set (by rw [De];exact u));refine ⟨dss',C,t,y,?_,B⟩;show (pcB [.no,.im cD,.im (.lst (ls.map λl=>D.lst (l.map encS))),.im (frD g),.im (.int k),.im (.int j),.im (encP c),v7] dss).bind (Ml (DK _ pcB (numbered (j+1) (cs.map encP))))=_;rw [e];exact v
def vP{W H n:Nat}{g:Rat}{ls:List (List Sg)}{cells:List (Int×Int)}{dss:List (List D)}(hW:W<=64)(hH:H<=64)(hg:Bq 300 g)(hl:∀l∈ls,(∀s∈l,GS s)/\l.length<=n)(hn:n<=12)(h1:1<=k)(h16:k<=16)(hk:k*(300+170*n)+10<=8900)(hN:ls.length=cells.length*k)(hN2:cells.length<=4096)(hne:cells≠[])(hc:∀c∈cells,(0<=c.1/\c.1<(W:Int))/\0<=c.2/\c.2<(H:Int))(S:Shp W H dss) :
  ∃(q:Ev) (dss':List (List D)),QG [.no,.im (.lst (cells.map encP)),.im (.lst (ls.map λl=>D.lst (l.map encS))),.im (frD g)] dss=.ok (q,dss')/\Shp W H dss':=by
 obtain ⟨dss',h,j,i,e,f⟩:=fW (cD:=.lst (cells.map encP)) hW hH hg hl hn h1 h16 hk hN hN2 cells 0 dss .no .no .no hc (by ac_rfl) S;have a:0<cells.length:=List.length_pos_iff.mpr hne;have b:=lg64 (show cells.length<=1000000 by ac_rfl);have d:o2 Aq (on bLen (Aa (v 2) Ab)) (on bLen (Aa (v 1) Ab)) [.no,.im (.lst (cells.map encP)),.im (.lst (ls.map λl=>D.lst (l.map encS))),.im (frD g),.no,.no,.no,.no]=.ok (.int k):=by
  refine Tl.eq ?_;show Tl (Aq (.int ((ls.map λl=>D.lst (l.map encS)).length:Int)) (.int ((cells.map encP).length:Int))) _;rw [Ad,Ad,hN];refine w_div (by ac_rfl) b ?_;rw [Ig,Int.mul_ediv_cancel_left _ (by ac_rfl)]
 refine ⟨[.no,.im (.lst (cells.map encP)),.im (.lst (ls.map λl=>D.lst (l.map encS))),.im (frD g)],dss',?_,f⟩;show ((lft (st 4 (o2 Aq (on bLen (Aa (v 2) Ab)) (on bLen (Aa (v 1) Ab)))) [.no,.im (.lst (cells.map encP)),.im (.lst (ls.map λl=>D.lst (l.map encS))),.im (frD g),.no,.no,.no,.no] dss).bind (goY (forY _ _ pcB))).bind (endY [0] _)=_
 rw [show lft (st 4 (o2 Aq (on bLen (Aa (v 2) Ab)) (on bLen (Aa (v 1) Ab)))) [.no,.im (.lst (cells.map encP)),.im (.lst (ls.map λl=>D.lst (l.map encS))),.im (frD g),.no,.no,.no,.no] dss=.ok (.nx [.no,.im (.lst (cells.map encP)),.im (.lst (ls.map λl=>D.lst (l.map encS))),.im (frD g),.im (.int k),.no,.no,.no],dss) by
  unfold lft st;rw [d]
  rfl]
 show (DK _ pcB (numbered 0 (cells.map encP)) [.no,.im (.lst (cells.map encP)),.im (.lst (ls.map λl=>D.lst (l.map encS))),.im (frD g),.im (.int k),.no,.no,.no] dss).bind (endY [0] _)=_;rw [e];rfl
def Wu:∀{l m:List Int},l.Perm m->l.Pairwise (·<=·)->m.Pairwise (·<=·)->l=m
 | [],_,h,_,_=>h.nil_eq
 | _::_,[],h,_,_=>aB h.symm.nil_eq (by simp)
 | a::l,b::m,h,h1,h2=>by
  have c:=Fq.mp h1;have d:=Fq.mp h2;have e:a=b:=by
   have ha:a∈b::m:=h.mem_iff.mp (BL ..);have hb:b∈a::l:=h.mem_iff.mpr (BL ..);rcases Al.mp ha with e | ha
   .exact e
   .rcases Al.mp hb with e | hb
    .exact e.symm
    .have:=c.1 b hb;have:=d.1 a ha;ac_rfl
  subst e;rw [Wu (List.Perm.cons_inv h) c.2 d.2]
abbrev rgI(m:Nat):List Int:=(List.range m).map λk:Nat=>(k:Int)
def gM(m):(rgI m).Pairwise (·<=·):=by
 rw [List.pairwise_map];exact List.pairwise_lt_range.imp λh=>by ac_rfl
def XJ{m:Nat}(h:m<=10000):bLR [.int m]=.ok (.lst ((rgI m).map .int)):=by
 show (if 0<=(m:Int)/\(m:Int)<=10000 then Res.ok (D.lst ((List.range (m:Int).toNat).map λk:Nat=>D.int k)) else .bad)=_
 rw [iP ⟨by ac_rfl,by ac_rfl⟩,Dz];rfl
def bD:∀ns,Fw (ns.map .int)=.ok ns
 | []=>rfl
 | n::r=>by
  show (Fw (r.map .int)).bind _=_;rw [bD r];rfl
def jR{m:Nat}{os:List Int}(h:os.Perm (rgI m))(hm:m<=60):Qz [.lst (os.map .int)]=.ok (.lst ((rgI m).map .int)):=by
 show (Fw (os.map .int)).bind _=_;rw [bD];have a:(os.map D.int).length<64:=by
  have:=h.length_eq;rw [Ad,Bx] at this;rw [Ad];ac_rfl
 show (if (os.map D.int).length<64 then Res.ok (D.lst ((sortI os).map .int)) else .bad)=_
 rw [iP a,Wu ((sortI_perm os).trans h) (Ro os) (gM m)]
def yP{U:Fl->Prop}(e1:Z[i]?=some (.ow xs))(e2:Z[j]?=some (.ow ys))(hx:xs.length<10000)(h:Tl (me Z) λd=>∃k v,d=.int k/\k<10000/\ys[k]?=some v/\U (.nx ((Z.set j (.ow (ys.eraseIdx k))).set i (.ow (xs++[v]))))):Tl (appP i j me Z) U:=by
 obtain ⟨d,b,k,v,rfl,f,a,q⟩:=h;refine Af ?_ q;have e:=(Cd.mp a).1;unfold appP;rw [e1,e2,b]
 show (match (if 0<=(k:Int)/\(k:Int)<ys.length/\(k:Int)<10000 then some (k:Int).toNat else none) with
  | some c=>popP i j Z xs ys c
  | none=>.bad)=_
 rw [iP ⟨by ac_rfl,by ac_rfl,by ac_rfl⟩];show popP i j Z xs ys k=_;unfold popP;rw [a];show (if xs.length<10000 then _ else _)=_
 rw [iP hx]
def ZZ(f:α->β):∀(l:List α) (k:Nat),(l.map f).eraseIdx k=(l.eraseIdx k).map f
 | [],_=>rfl
 | _::_,0=>rfl
 | a::r,k+1=>by show f a::(r.map f).eraseIdx k=_;rw [ZZ f r k];rfl
def aM:∀{l:List α} {k:Nat} (h:k<l.length),(l[k]::l.eraseIdx k).Perm l
 | _::_,0,_=>.refl _
 | a::r,k+1,h=>((List.Perm.swap a _ _).trans ((aM (l:=r) (k:=k) (by simpa using h)).cons a))
def jy{U:D->Prop}{ds:List Int}{m:Nat}(hl:ds.length=4)(hm:m<=60)(q:∀os:List Int,os.Perm (rgI m)->U (.lst (os.map .int))):Tl (Qe [.lst (ds.map .int),.int m]) U:=by
 unfold Qe;symm;refine Af (XJ (by ac_rfl)) ?_;symm;refine w_wh (λZ=>∃(L F:List Int) (k:Nat),(F++L).Perm (rgI m)/\k+L.length=m/\Z=[.im (.lst (ds.map .int)),.im (.int m),.ow (L.map .int),.ow (F.map .int),.im (.int k)]) (λZ:Ev=>match Z[2]? with | some (Cl.ow xs)=>xs.length | _=>0) ⟨rgI m,[],0,.refl _,by simp,rfl⟩ ?_ ?_
 .show ((rgI m).map D.int).length<_+1;rw [Ad,Ad,Bx];show m<([absC _,(m:Int).natAbs,_,_,_]:List Nat).sum+1;simp;ac_rfl
 .rintro Z ⟨L,F,k,b,h,rfl⟩;symm;cases L with
  | nil=>
   refine Af (x:=.bl false) rfl ?_;symm;refine ⟨λz=>(DX z).elim,λ_=>?_⟩;symm;exact q F (by rwa [Bp] at b)
  | cons x L=>
   refine Af (x:=.bl true) rfl ?_;symm;refine ⟨λ_=>?_,λz=>(DX z.symm).elim⟩;rw [By] at h;have f:((k:Int)+1).natAbs.log2<9000:=lg64 (show k+1<=1000000 by ac_rfl);have e:(F.map D.int).length<10000:=by
    have:=b.length_eq;rw [BJ,Ad,Bx] at this;rw [Ad];ac_rfl
   refine w_sq (yP rfl rfl e ?_);symm;refine G5 (by rw [Ad,hl];ac_rfl) λz g=>?_;obtain ⟨y,i,rfl⟩:=Bk.mp g;symm;refine w_mod (by rw [By];ac_rfl) ?_;have c:0<=y/((k:Int)+1)%((x::L).length:Int)/\y/((k:Int)+1)%((x::L).length:Int)<(x::L).length:=⟨Gq _ (by rw [By];ac_rfl),G4 _ (by rw [By];ac_rfl)⟩;generalize y/((k:Int)+1)%((x::L).length:Int)=z at c ⊢;have a:z.toNat<(x::L).length:=by ac_rfl
   rw [By] at c;refine Af (x:=.int z) rfl ⟨z.toNat,.int (x::L)[z.toNat],by rw [HX c.1],by ac_rfl,?_,?_⟩
   .rw [Ca,Aw a];rfl
   .show Tl (goOn _ (.nx [.im (.lst (ds.map .int)),.im (.int m),.ow (((x::L).map D.int).eraseIdx z.toNat),.ow (F.map D.int++[.int (x::L)[z.toNat]]),.im (.int k)])) _;symm;have d:((x::L).map D.int).eraseIdx z.toNat=((x::L).eraseIdx z.toNat).map D.int:=ZZ _ _ _;refine ⟨_,rfl,⟨(x::L).eraseIdx z.toNat,F++[(x::L)[z.toNat]],k+1,?_,?_,?_⟩,?_⟩
    .rw [Dr];exact (List.Perm.append_left F (aM a)).trans b
    .rw [List.length_eraseIdx_of_lt a,By];ac_rfl
    .rw [d,Cz];rfl
    .show (((x::L).map D.int).eraseIdx z.toNat).length<((x::L).map D.int).length;rw [d,Ad,Ad,List.length_eraseIdx_of_lt a,By];ac_rfl
def vX{U:D->Prop}{os:List Int}{m:Nat}(h:os.Perm (rgI m))(hm:m<=60)(q:U (.lst (os.map .int))):Tl (QM [.lst (os.map .int),.int m]) U:=by
 have b:os.length<=60:=by
  have:=h.length_eq;rw [Ad,Bx] at this;ac_rfl
 unfold QM;symm;refine ⟨by rw [Ad];ac_rfl,?_⟩;refine Ex (λ_:Int=>D.bl true) (λx _=>?_) ?_
 .symm;refine Zc ?_;rfl
 symm;refine Vt (λ_ _=>rfl) ?_;symm;refine Af (jR h hm) ?_;symm;refine Af (XJ (by ac_rfl)) ?_;symm;refine Af (Wa ?_) ?_
 .have:∀l:List Int,BX 49 (l.map .int)=true:=λl=>by
   induction l with
   | nil=>rfl
   | cons a r ih=>show (plain 49 (.int a)&&BX 49 (r.map .int))=true;rw [ih];rfl
  exact this _
 symm;exact q
def cvR:MS:=sq (ifs (trb (o2 dEq (o2 Aj (o2 Aq (v 0) (c (.int 64))) (c (.int 3))) (c (.int 0))))
  (frz 2 (ret (make "Glass" Jg (Aa (on bTup (Aa (v 2) Ab)) (Aa (mtp (Aa (c (.int 4)) (Aa (c (.int 1)) Ab))) (Aa (mtp (Aa (c (.int 1)) (Aa (c (.int 2)) Ab))) Ab))))))
  nop)
  (frz 2 (ret (make "Plain" JB (Aa (on bTup (Aa (v 2) Ab)) (Aa (mtp (Aa (o2 Aj (o2 Aq (v 0) (c (.int 256))) (c (.int 9))) (Aa (c (.int 1)) Ab))) Ab)))))
def Xy{e:D}(d0:Dw n)(t:Tr 2 (.tup [a,b,e]))(q:∀d,Thg d->U d):Tl (cvR [.im (.int n),.im x,.ow [a,b,e]]) λf=>Tl (endOf f) U:=by
 unfold Dw at d0;have m:D.tup [.int 4,.int 1]=frD (4:Rat):=rfl;have h:((1:Rat)/2).num=1:=by decide +kernel
 have g:((1:Rat)/2).den=2:=by decide +kernel
 have j:D.tup [.int 1,.int 2]=frD ((1:Rat)/2):=by unfold frD;rw [h,g];rfl
 have l:Bq 32 (4:Rat):=⟨by show (4:Int).natAbs<2^32;decide,by show (1:Int).natAbs<2^32;decide⟩;have k:Bq 32 ((1:Rat)/2):=by
  exact ⟨by rw [h];show (1:Int).natAbs<2^32;decide,by rw [g];show (2:Int).natAbs<2^32;decide⟩
 have c:0<=((1:Rat)/2).num/\((1:Rat)/2).num<=((1:Rat)/2).den:=by decide +kernel
 unfold cvR;symm;refine CP (λi=>?_) (λi=>?_)
 .symm;refine KC ?_;symm;rw [m,j];exact ⟨_,ZF (by decide) t c.1 c.2,by symm; exact q _ (.glass t (by decide) l k c.1 c.2)⟩
 .symm;refine KC ?_;symm;rw [VM];exact ⟨_,Xe (by decide) t,by symm; exact q _ (.plain t (by decide) (Tw (by show (n/256%9).natAbs<2^32;ac_rfl) (by decide)))⟩
def Ym(d0:Dw n)(q:∀d,Thg d->U d):Tl (N5 [.int n]) U:=by
 have o:=d0;unfold Dw at o;unfold N5;symm;refine G5 ⟨by ac_rfl,by show _<((4:Nat):Int);ac_rfl⟩ λd f=>?_;obtain ⟨h,rfl,i⟩ : ∃h:Int,d=.int h/\1<=h/\h<=100:=by
  simp only [Al,CK,Ej] at f;rcases f with rfl | rfl | rfl | rfl<;>exact ⟨_,rfl,by decide,by decide⟩
 clear f;have a:Bd (-20):=⟨by decide,by decide⟩;have e:Bd 60:=⟨by decide,by decide⟩;have b:∀l:List Int,(∀x∈l,0<=x/\x<=9)->∀x∈l,Bd x:=λl m x j=>by
  have:=m x j;exact ⟨by ac_rfl,by ac_rfl⟩
 have g:∀c:Int,1<=c->c<=100->Tr 2 (.tup [.tup [.int (-20),.int (-20),.int 2,.int h,.tup [.int 1,.int 2]],.tup [.int 60,.int (-20),.int 2,.int c,.tup [.int 3,.int 0]],.tup [.int (-20),.int 60,.int 2,.int h,.tup [.int 0,.int 5]]]):=λc p r=>
  ⟨-20,-20,2,h,60,-20,2,c,-20,60,2,h,[1,2],[3,0],[0,5],rfl,⟨a,a,by decide,by ac_rfl⟩,⟨e,a,by decide,by ac_rfl⟩,⟨a,e,by decide,by ac_rfl⟩,rfl,rfl,rfl,b _ (by decide),b _ (by decide),b _ (by decide)⟩
 symm;refine CP (λk=>?_) (λk=>?_)
 .refine YB ?_;symm;refine w_gO rfl ?_;symm;refine ⟨_,1,rfl,rfl,w_gx ?_⟩;exact Xy d0 (g _ (by ac_rfl) (by ac_rfl)) q
 .refine Rt (w_gx ?_);exact Xy d0 (g _ i.1 i.2) q
def wZ(h:Tl (m (ev0 n ds)) U):Tl (fnR n m ds) U:=h
def Lk{k:MS}(h:Tl (k Z) λf=>∃Z',f=.nx Z'/\Tl (m Z') U):Tl (soR k m Z) U:=Ar (h.mono λf ⟨_,e,q⟩=>e▸q)
def YG(f:Nat->Nat->α):∀i,((List.range i).flatMap λi=>(List.range n).map (f i)).length=i*n
 | 0=>by simp
 | i+1=>by
  rw [HJ,Hf,BJ,YG f i,Fy,Jb,Bp,Ad,Bx,FN]
structure R6(W H:Nat)(cells:List (Int×Int)):Prop where
 ne:cells≠[]
 len:cells.length<=4096
 ok:∀c∈cells,(0<=c.1/\c.1<(W:Int))/\0<=c.2/\c.2<(H:Int)
def W5{t:Nat}(z:Sz W H S)(ht:t<acr W S*acr H S):R6 W H (Bo W H S t):=by
 obtain ⟨w,h,s⟩:=z;refine ⟨λe=>?_,?_,λc f=>?_⟩
 .obtain ⟨p,r,d⟩:=yw (by ac_rfl) (by ac_rfl) (by ac_rfl) ht;rw [e] at d;cases d
 .unfold Bo;rw [YG λi j=>cel (t%acr W S*S+j) (t/acr W S*S+i)];exact GR (show _<=64 by ac_rfl) (show _<=64 by ac_rfl)
 .rw [<-Zn (by ac_rfl) (by ac_rfl) (by ac_rfl) ht] at f;obtain ⟨a,b,k,g,_,rfl⟩:=Zsd.mp f;show (0<=(a:Int)/\(a:Int)<W)/\0<=(b:Int)/\(b:Int)<H;exact ⟨⟨by ac_rfl,by ac_rfl⟩,by ac_rfl,by ac_rfl⟩
def R6.cel(h:R6 W H cells)(hW:W<=64)(hH:H<=64):PB cells:=λc a=>by
 have:=h.ok c a;exact ⟨by ac_rfl,by ac_rfl⟩
def dueT(ts:List D)(cells dots:List (Int×Int))(tile:Int):List D:=(Bj (ptsL cells dots) 0 ((ptsL cells dots).map λ_=>none) ts).map (encT tile)
def O7(ps):∀ts n L,(Bj ps n L ts).length<=ts.length
 | [],_,_=>Am _
 | d::r,n,L=>by
  show (match farO L with | some f=>if BV d<f then Bj ps (n+1) (updL (glD d) (ps.map (so · d)) L) r else (n,BV d,f)::Bj ps (n+1) L r | none=>Bj ps (n+1) (updL (glD d) (ps.map (so · d)) L) r).length<=r.length+1
  have a:=O7 ps r (n+1) (updL (glD d) (ps.map (so · d)) L);have b:=O7 ps r (n+1) L;cases farO L with
  | none=>exact Nat.le_succ_of_le a
  | some f=>
   show (if BV d<f then Bj ps (n+1) (updL (glD d) (ps.map (so · d)) L) r else (n,BV d,f)::Bj ps (n+1) L r).length<=_
   split
   .exact Nat.le_succ_of_le a
   .rw [By];ac_rfl
def TX:(dueT ts cells dots tile).length<=ts.length:=by
 unfold dueT;rw [Ad];exact O7 _ _ _ _
def qp{U:Fl×List (List D)->Prop}(h1:m Z=.ok q)(h2:f q dss=.ok (q',dss'))(h:U (.nx Z,dss')):Tl (Gd f l none m Z dss) U:=by
 refine Af ?_ h;unfold Gd;rw [h1];show (noEx (f q dss)).bind (outY Z l none)=_;rw [h2];rfl
def ptB:MY:=sqY (lft (st 13 (on M3 (Aa (v 1) (Aa (v 2) (Aa (v 3) (Aa (v 12) Ab)))))))
  (sqY (lft (st 14 (on Li (Aa (v 0) (Aa (on Mw (Aa (v 13) (Aa (v 8) Ab))) Ab)))))
  (sqY (Gd QG 0 none (rRg (rIm (v 13) (rIm (o2 dIx (v 14) (c (.int 0))) (rIm (v 9) rNil)))))
  (lft (ext 11 (comp (iv (o2 dIx (v 14) (c (.int 1)))) 1 [12] (gN 0) yes (mtp (Aa (v 1) (Aa (o2 dIx (v 0) (c (.int 0))) (Aa (o2 dIx (v 0) (c (.int 1))) (Aa (o2 dIx (v 0) (c (.int 2))) Ab))))))))))
section
variable{ts:List D}{dots:List (Int×Int)}{W H S:Nat}{a4 a5 a6 a7:D}
def yf{t:Nat}(hts:∀t∈ts,Thg t)(hn:ts.length<=12)(hd:∀d∈dots,(1<=d.1/\d.1<=7)/\1<=d.2/\d.2<=7)(h1:1<=dots.length)(h2:dots.length<=2)(z:Sz W H S)(ht:t<acr W S*acr H S)(ho:out.length<=100000)(Sh:Shp W H dss) :
  ∃dss' w13 w14,ptB [.im (.lst ts),.im (.int W),.im (.int H),.im (.int S),.im a4,.im a5,.im a6,.im a7,.im (.lst (dots.map encP)),.im (frD 0),.no,.ow out,.im (.int t),v13,v14] dss=.ok (.nx [.im (.lst ts),.im (.int W),.im (.int H),.im (.int S),.im a4,.im a5,.im a6,.im a7,.im (.lst (dots.map encP)),.im (frD 0),.no,.ow (out++dueT ts (Bo W H S t) dots (t:Int)),.im (.int t),w13,w14],dss')/\Shp W H dss':=by
 have T:=W5 z ht;have i:=T.cel z.w.2 z.h.2;have o:=YW i hd;have a:=RG (Bo W H S t) dots;have u:ptsL (Bo W H S t) dots≠[]:=λe=>by
  rw [e] at a;have:=List.length_pos_iff.mpr T.ne;have:=GR this h1;simp only [List.length_nil] at a;ac_rfl
 have A:(ptsL (Bo W H S t) dots).length<=8192:=by
  rw [a];exact GR T.len h2
 obtain ⟨ls,q,j,r⟩:=uB o u (by ac_rfl) hts (by ac_rfl);have m:Bq 300 (0:Rat):=My.b0.mono (by decide)
 obtain ⟨B,dss',s,b⟩:=vP (W:=W) (H:=H) (k:=dots.length) (n:=ts.length) (g:=0) (ls:=ls) (cells:=Bo W H S t) z.w.2 z.h.2 m j hn h1 (by ac_rfl) (by
  have:dots.length*(300+170*ts.length)<=2*(300+170*12):=GR h2 (by ac_rfl)
  ac_rfl) (by rw [q,a]) T.len T.ne T.ok Sh
 have f:Tl (ptB [.im (.lst ts),.im (.int W),.im (.int H),.im (.int S),.im a4,.im a5,.im a6,.im a7,.im (.lst (dots.map encP)),.im (frD 0),.no,.ow out,.im (.int t),v13,v14] dss) λx=>∃w13 w14,x=(.nx [.im (.lst ts),.im (.int W),.im (.int H),.im (.int S),.im a4,.im a5,.im a6,.im a7,.im (.lst (dots.map encP)),.im (frD 0),.no,.ow (out++dueT ts (Bo W H S t) dots (t:Int)),.im (.int t),w13,w14],dss'):=by
  unfold ptB;refine Es (Ei ?_);symm;refine jE z ht ?_;refine Er (Es (Ei ?_));symm;refine xm i T.len (by ac_rfl) ?_;symm;refine Af r ?_;refine Er (Es ?_);have p:rRg (rIm (v 13) (rIm (o2 dIx (v 14) (c (.int 0))) (rIm (v 9) rNil))) [.im (.lst ts),.im (.int W),.im (.int H),.im (.int S),.im a4,.im a5,.im a6,.im a7,.im (.lst (dots.map encP)),.im (frD 0),.no,.ow out,.im (.int t),.im (.lst ((Bo W H S t).map encP)),.im (.tup [.lst (ls.map λl=>D.lst (l.map encS)),.lst ((Bj (ptsL (Bo W H S t) dots) 0 ((ptsL (Bo W H S t) dots).map λ_=>none) ts).map encG)])]=.ok [.no,.im (.lst ((Bo W H S t).map encP)),.im (.lst (ls.map λl=>D.lst (l.map encS))),.im (frD 0)]:=rfl;refine qp p s ?_;refine Er (Ei (YM rfl ?_));have y:=O7 (ptsL (Bo W H S t) dots) ts 0 ((ptsL (Bo W H S t) dots).map λ_=>none);symm;refine ⟨by rw [Ad];ac_rfl,?_⟩;refine Ex (enc:=encG) (encT (t:Int)) (λg _=>?_) ?_
  .unfold encG;symm;rfl
  .symm;exact ⟨by rw [Ad];show _<=1000000;ac_rfl,_,_,rfl⟩
 obtain ⟨x,e,w13,w14,rfl⟩:=f;exact ⟨dss',w13,w14,e,b⟩
def dueA(ts:List D)(dots:List (Int×Int))(W H S:Nat)(os:List Int):List D:=os.flatMap λo=>dueT ts (Bo W H S o.toNat) dots o
def vQ(hts:∀t∈ts,Thg t)(hn:ts.length<=12)(hd:∀d∈dots,(1<=d.1/\d.1<=7)/\1<=d.2/\d.2<=7)(h1:1<=dots.length)(h2:dots.length<=2)(z:Sz W H S) :
  ∀os out dss v12 v13 v14,(∀o∈os,0<=o/\o.toNat<acr W S*acr H S)->out.length+os.length*12<=100000->Shp W H dss ->
   ∃dss' w12 w13 w14,DK (gN 12) ptB (os.map .int) [.im (.lst ts),.im (.int W),.im (.int H),.im (.int S),.im a4,.im a5,.im a6,.im a7,.im (.lst (dots.map encP)),.im (frD 0),.no,.ow out,v12,v13,v14] dss=.ok (.nx [.im (.lst ts),.im (.int W),.im (.int H),.im (.int S),.im a4,.im a5,.im a6,.im a7,.im (.lst (dots.map encP)),.im (frD 0),.no,.ow (out++dueA ts dots W H S os),w12,w13,w14],dss')/\Shp W H dss':=by
 intro os
 induction os with
 | nil=>
  intro out dss v12 v13 v14 _ _ h;refine ⟨dss,v12,v13,v14,?_,h⟩;show Res.ok _=_;rw [show dueA ts dots W H S []=[] from rfl,Bp]
 | cons o os ih=>
  intro out dss v12 v13 v14 b k h;obtain ⟨n,j⟩:=b o (BL ..);rw [By] at k;have r:=TX (ts:=ts) (cells:=Bo W H S o.toNat) (dots:=dots) (tile:=o);obtain ⟨a,w13,w14,e,m⟩:=yf (a4:=a4) (a5:=a5) (a6:=a6) (a7:=a7) (out:=out) (v13:=v13) (v14:=v14) hts hn hd h1 h2 z j (by ac_rfl) h;rw [HX n] at e;obtain ⟨c,g,i,f,q,p⟩:=ih (out++dueT ts (Bo W H S o.toNat) dots o) a (.im (.int o)) w13 w14 (λx l=>b x (BW _ l)) (by rw [BJ];ac_rfl) m;refine ⟨c,g,i,f,?_,p⟩;show (ptB [.im (.lst ts),.im (.int W),.im (.int H),.im (.int S),.im a4,.im a5,.im a6,.im a7,.im (.lst (dots.map encP)),.im (frD 0),.no,.ow out,.im (.int o),v13,v14] dss).bind (Ml (DK _ ptB (os.map .int)))=_;rw [e];show DK _ ptB (os.map .int) _ a=_;rw [q,Dr];rfl
end
def Zni{w:Nat}(hw:1<=w/\w<=64)(q:U .non):Tl (QC [.int w]) U:=by
 unfold QC;symm;refine Mr (by ac_rfl) ?_;symm;exact q
def Yl(hW:1<=W)(hS:1<=S/\S<=64)(q:U (.int ((acr W S:Nat):Int))):Tl (JT [.int W,.int S]) U:=by
 have a:=lg64 (show S<=1000000 by ac_rfl);unfold JT;symm;rw [M6 (by ac_rfl) (by ac_rfl)];exact q
def yD{k:MY}(h:Tl (regY i me k Z) λf=>∃d,f=.rt d/\U d):Tl (regT i me k Z) U:=by
 obtain ⟨f,e,d,rfl,q⟩:=h;refine Af ?_ q;unfold regT;rw [e];rfl
def dB(h:noLs row=true):∀l:List α,Fj (l.map λ_=>D.lst row)=some (l.map λ_=>row)
 | []=>rfl
 | _::r=>by
  show (if noLs row=true then (Fj (r.map λ_=>D.lst row)).bind λq=>some (row::q) else none)=_
  rw [iP h,dB h r];rfl
def cJ(x:D):∀n,(List.replicate n [x]).flatten=List.replicate n x
 | 0=>rfl
 | n+1=>by rw [Gn,Jf,cJ x n];rfl
def uw(n):noLs (List.replicate n (frD 0))=true:=by
 induction n with
 | zero=>rfl
 | succ n ih=>rw [Gn];show (noL (frD 0)&&noLs _)=true;rw [ih];rfl
def Znw{ts:List D}{dots:List (Int×Int)}{W H S:Nat}{os:List Int}(hts:∀t∈ts,Thg t)(hn:ts.length<=12)(hd:Dots dots)(h1:1<=dots.length)(h2:dots.length<=2)(z:Sz W H S)(hp:os.Perm (rgI (acr W S*acr H S)))(hm:acr W S*acr H S<=60) :
  ∃pic:List (List D),H8 [.lst ts,.int W,.int H,.int S,.lst (os.map .int),.lst (dots.map encP),.non]=.ok (.tup [.lst (pic.map .lst),.lst (dueA ts dots W H S os)]):=by
 have r:os.length<=60:=by
  have:=hp.length_eq;rw [Ad,Bx] at this;ac_rfl
 have g:∀o∈os,0<=o/\o.toNat<acr W S*acr H S:=λo f=>by
  obtain ⟨k,m,rfl⟩:=Bk.mp (hp.mem_iff.mp f);exact ⟨by ac_rfl,by have:=DN.mp m;ac_rfl⟩
 have q:=Im (show 0<S by have:=z.s;ac_rfl) (show 0<W by have:=z.w;ac_rfl);have y:=Im (show 0<S by have:=z.s;ac_rfl) (show 0<H by have:=z.h;ac_rfl);have l:=mo64 (show acr W S<=1000000 by have:=z.w;ac_rfl) (show acr H S<=1000000 by have:=z.h;ac_rfl)
 have i:Shp W H ((List.range H).map λ_=>List.replicate W (frD 0)):=⟨by rw [Ad,Bx],λp j=>by
  obtain ⟨_,_,rfl⟩:=Bk.mp j
  exact JL⟩
 obtain ⟨pic,b,c,d,e,_⟩:=vQ (a4:=.lst (os.map .int)) (a5:=.lst (dots.map encP)) (a6:=.non) (a7:=.lst (os.map .int)) hts hn hd.1 h1 h2 z os [] _ .no .no .no g (by rw [List.length_nil];ac_rfl) i;refine ⟨pic,Tl.eq ?_⟩;unfold H8;refine wZ (Lk (SN (w_on (Dg (w_v rfl (Dg (w_v rfl (FT (ue z.w z.h ⟨_,rfl,?_⟩)))))))));refine Lk (SN (w_on (Dg (w_v rfl (FT (Zni z.s ⟨_,rfl,?_⟩))))));refine Lk (w_st (w_on (Dg (w_v rfl (Dg (w_o2 (w_on (Dg (w_v rfl (Dg (w_v rfl (FT (Yl z.w.1 z.s (w_on (Dg (w_v rfl (Dg (w_v rfl (FT (Yl z.h.1 z.s (w_mul l ?_)))))))))))))) )))))));rw [<-Ig];refine FT (vX hp hm ⟨_,rfl,?_⟩);refine Lk (w_st (w_on (Dg (w_v rfl (FT (Af (xP ⟨h1,by ac_rfl⟩ hd.1 hd.2) ⟨_,rfl,?_⟩))))));refine Lk (w_st (w_on (Dg (w_v rfl (FT (Af (x:=frD 0) rfl ⟨_,rfl,?_⟩))))));have a:comp (r1 (Aa (v 2) Ab)) 1 [1,9] (gN 0) yes (repD (Aa (v 2) Ab) (v 1)) [.im (.lst ts),.im (.int W),.im (.int H),.im (.int S),.im (.lst (os.map .int)),.im (.lst (dots.map encP)),.im .non,.im (.lst (os.map .int)),.im (.lst (dots.map encP)),.im (frD 0),.no,.no,.no,.no,.no]=.ok (.lst ((List.range H).map λ_=>D.lst (List.replicate W (frD 0)))):=by
  have n:=z.w;have u:=z.h;refine Tl.eq (O5 (w_r1 (Dg (w_v rfl (FT (YH (by ac_rfl) ⟨?_,?_⟩))))))
  .unfold CN;rw [Ad,Bx];ac_rfl
  .unfold CN;refine Ex (enc:=λk:Nat=>D.int (0+(k:Int))) (λ_=>D.lst (List.replicate W (frD 0))) (λk _=>w_gN (Af (x:=.lst (List.replicate W (frD 0))) ?_ rfl)) rfl;show repL [frD 0] (.int W)=_;show (if (0<=(W:Int)/\(W:Int)<=1000000)/\[frD 0].length*(W:Int).toNat<=1000000 then Res.ok (D.lst (List.replicate (W:Int).toNat [frD 0]).flatten) else .bad)=_
   rw [iP ⟨⟨by ac_rfl,by ac_rfl⟩,by simp;ac_rfl⟩,cJ];rfl
 refine yD (aA a (dB (uw W) _) (by show 10<15;decide) ?_);refine Es (Ei (Nx (RD (FT (K7 (Er (Es (Af (x:=(.nx [.im (.lst ts),.im (.int W),.im (.int H),.im (.int S),.im (.lst (os.map .int)),.im (.lst (dots.map encP)),.im .non,.im (.lst (os.map .int)),.im (.lst (dots.map encP)),.im (frD 0),.no,.ow (dueA ts dots W H S os),b,c,d],pic)) e (Er (Af (x:=(.rt (.tup [.lst (pic.map .lst),.lst (dueA ts dots W H S os)]),pic)) rfl ⟨_,rfl,_,rfl,rfl⟩))))))))))
def Om(xs:List D)(k:Nat):cutL xs none (some (k:Int))=xs.take k:=by
 unfold cutL cutAt;simp only [];rw [iN (by ac_rfl),Ln,Nat.sub_zero,Do];by_cases h:k<=xs.length
 .rw [Kf h]
 .rw [Nat.min_eq_right (by ac_rfl),HB (Am _),HB (by ac_rfl)]
def xK(xs)(h:k<=xs.length):cutL xs (some (k:Int)) none=xs.drop k:=by
 unfold cutL cutAt;simp only [];rw [iN (by ac_rfl),Do,Kf h];exact HB (by rw [GX];exact Am _)
def g8{U:Fl->Prop}{t:MB}{k:MS}(he:e Z=.ok (.tup [.lst x,.lst y]))(hy:y.length<10000)(hi:i<Z.length)(ht:t (Z.set i (.im (.tup [.lst x,.lst y])))=.ok false)(h:Tl (l (Z.set i .no)) U):Tl (Jx i e t k l Z) U:=by
 obtain ⟨f,b,q⟩:=h;refine Af ?_ q;unfold Jx;rw [he];show (if (J8 (.tup [.lst x,.lst y])&&decide (i<Z.length))=true then _ else _)=_
 have a:J8 (.tup [.lst x,.lst y])=true:=Dp hy;rw [a,Dp hi];show (t (Z.set i (.im (.tup [.lst x,.lst y])))).bind _=_;rw [ht];exact b
def zL(ha:a Z=.ok ds):onK f [none] a Ab Z=f (ds++[.non]):=by
 unfold onK;rw [ha];rfl
def s8(ts:List D)(dots:List (Int×Int))(W H S:Nat)(os:List Int):plain 50 (.lst (dueA ts dots W H S os))=true:=by
 show BX 49 (dueA ts dots W H S os)=true;have b:∀l:List D,(∀x∈l,∃(o:Int) (g:Nat×Rat×Rat),x=encT o g)->BX 49 l=true:=λl=>by
  induction l with
  | nil=>exact λ_=>rfl
  | cons x r ih=>
   intro h;obtain ⟨o,g,rfl⟩:=h x (BL ..);show (plain 49 (encT o g)&&BX 49 r)=true;rw [ih λy c=>h y (BW _ c)];rfl
 refine b _ λx a=>?_;obtain ⟨o,_,a⟩:=List.mem_flatMap.mp a;obtain ⟨g,_,rfl⟩:=Bk.mp a;exact ⟨o,g,rfl⟩
def UT(hn:ts.length<=12):∀os,(dueA ts dots W H S os).length<=os.length*12
 | []=>Am _
 | o::os=>by
  show (dueT ts (Bo W H S o.toNat) dots o++dueA ts dots W H S os).length<=_;have b:=TX (ts:=ts) (cells:=Bo W H S o.toNat) (dots:=dots) (tile:=o);have a:=UT (ts:=ts) (dots:=dots) (W:=W) (H:=H) (S:=S) hn os;rw [BJ,By];ac_rfl
def sS(ts:List D)(dots:List (Int×Int))(W H S:Nat)(os:List Int)(o:Int):dueA ts dots W H S (os++[o])=dueA ts dots W H S os++dueT ts (Bo W H S o.toNat) dots o:=by
 unfold dueA;rw [Hf,Fy,Jb,Bp]
def lpB:MS:=st 13 (o2 Ah (v 13) (comp (iv (v 8)) 2 [15,14] (gU 2 (gs1 (gN 0) (gs1 (gN 1) gs0))) yes (mtp (Aa (o2 Ah (o2 Ao (c (.int 8)) (v 3)) (v 0)) (Aa (o2 Ah (o2 Ao (c (.int 8)) (v 2)) (v 1)) (Aa (c (.int 8)) Ab))))))
def w_lp{U:Fl->Prop}(hc:PB cells)(h1:cells.length<=4096)(h2:dots.length<=16)(q:∀w14 w15,U (.nx [.im x0,.im x1,.im x2,c3,c4,.im x5,.im x6,.im x7,.im (.lst (dots.map encP)),.im x9,.im x10,.im x11,.im x12,.im (.lst (ptsL cells dots)),w14,w15,c16,c17])) :
  Tl (BP (gU 2 (gs1 (gN 14) (gs1 (gN 15) gs0))) lpB (cells.map encP) [.im x0,.im x1,.im x2,c3,c4,.im x5,.im x6,.im x7,.im (.lst (dots.map encP)),.im x9,.im x10,.im x11,.im x12,.im (.lst []),c14,c15,c16,c17]) U:=by
 refine Gh (enc:=encP) (λa Z=>∃w14 w15,Z=[.im x0,.im x1,.im x2,c3,c4,.im x5,.im x6,.im x7,.im (.lst (dots.map encP)),.im x9,.im x10,.im x11,.im x12,.im (.lst (ptsL a dots)),w14,w15,c16,c17]) ⟨_,_,rfl⟩ ?_ ?_
 .rintro a c r e Z ⟨w14,w15,rfl⟩;have f:=hc c (by rw [<-e];simp);have b:a.length<=4096:=by
   have:=Bw List.length e;rw [BJ] at this;ac_rfl
  rw [dI];unfold encP lpB;symm;refine ⟨by rw [Ad];ac_rfl,?_⟩;refine Ex (ptC c) (λd g=>?_) ?_
  .symm
  .symm;have:a.length*dots.length<=4096*16:=GR b h2;refine Mq (by rw [RG,Ad];ac_rfl) ?_;exact ⟨_,rfl,_,_,rfl⟩
 .rintro Z ⟨w14,w15,rfl⟩;exact q _ _
def ldB:MS:=sq (st 13 (mls Ab))
  (sq (for_ (iv (on Ls (Aa (v 5) (Aa (v 6) (Aa (v 7) (Aa (v 12) Ab)))))) (gU 2 (gs1 (gN 14) (gs1 (gN 15) gs0))) lpB)
  (st 11 (o2 Ah (v 11) (on NB (Aa (v 1) (Aa (v 12) (Aa (v 13) Ab)))))))
def w_ld{U:Fl->Prop}{ts:List D}{dots:List (Int×Int)}{W H S:Nat}{os:List Int}{x0 x2 x9 x10:D}{c3 c4 c12 c13 c14 c15 c16 c17:Cl}(hts:∀t∈ts,Thg t)(hn:ts.length<=12)(hd:Dots dots)(h1:1<=dots.length)(h2:dots.length<=2)(z:Sz W H S)(hm:acr W S*acr H S<=60)(om:∀o∈os,0<=o/\o.toNat<acr W S*acr H S)(ol:os.length<=60)
  (q:∀w12 w13 w14 w15:Cl,U (.nx [.im x0,.im (.lst ts),.im x2,c3,c4,.im (.int W),.im (.int H),.im (.int S),.im (.lst (dots.map encP)),.im x9,.im x10,.im (.lst (dueA ts dots W H S os)),w12,w13,w14,w15,c16,c17])) :
  Tl (BP (gN 12) ldB (os.map .int) [.im x0,.im (.lst ts),.im x2,c3,c4,.im (.int W),.im (.int H),.im (.int S),.im (.lst (dots.map encP)),.im x9,.im x10,.im (.lst []),c12,c13,c14,c15,c16,c17]) U:=by
 refine Gh (enc:=D.int) (λa Z=>∃w12 w13 w14 w15:Cl,Z=[.im x0,.im (.lst ts),.im x2,c3,c4,.im (.int W),.im (.int H),.im (.int S),.im (.lst (dots.map encP)),.im x9,.im x10,.im (.lst (dueA ts dots W H S a)),w12,w13,w14,w15,c16,c17]) ⟨_,_,_,_,rfl⟩ ?_ ?_
 .rintro a o r e Z ⟨w12,w13,w14,w15,rfl⟩;obtain ⟨j,b⟩:=om o (by rw [<-e];simp);have n:a.length<=60:=by
   have:=Bw List.length e;rw [BJ] at this;ac_rfl
  obtain ⟨t,rfl⟩ : ∃t:Nat,o=(t:Int):=⟨o.toNat,(HX j).symm⟩;rw [Do] at b;have T:=W5 z b;have d:=T.cel z.w.2 z.h.2;have i:=YW d hd.1;have c:=RG (Bo W H S t) dots;have l:ptsL (Bo W H S t) dots≠[]:=λe=>by
   rw [e] at c;have:=List.length_pos_iff.mpr T.ne;have:=GR this h1;simp only [List.length_nil] at c;ac_rfl
  have m:(ptsL (Bo W H S t) dots).length<=8192:=by
   rw [c];exact GR T.len h2
  rw [sS];have p:=UT (ts:=ts) (dots:=dots) (W:=W) (H:=H) (S:=S) hn a;have k:=TX (ts:=ts) (cells:=Bo W H S t) (dots:=dots) (tile:=(t:Int));unfold ldB;refine w_gN (w_sq (w_st (RD (FT (w_gx (w_sq (R5 (w_iv (w_on (Dg (w_v rfl (Dg (w_v rfl (Dg (w_v rfl (Dg (w_v rfl (FT (su z (by ac_rfl) ?_)))))))))))))))))));rw [Zn (by have:=z.s;ac_rfl) (by have:=z.w;ac_rfl) (by have:=z.h;ac_rfl) b];refine Py (w_lp d T.len (by ac_rfl) λf g=>?_);refine w_gx (w_st (w_o2 (w_v rfl (w_on (Dg (w_v rfl (Dg (w_v rfl (Dg (w_v rfl (FT (Af (oZ i l (by ac_rfl) hts (by ac_rfl)) ?_))))))))))) );refine Mq (by rw [show (Bj (ptsL (Bo W H S t) dots) 0 ((ptsL (Bo W H S t) dots).map λ_=>none) ts).map (encT (t:Int))=dueT ts (Bo W H S t) dots (t:Int) from rfl];ac_rfl) ?_;exact ⟨_,rfl,_,_,_,_,rfl⟩
 .rintro Z ⟨w12,w13,w14,w15,rfl⟩;exact q _ _ _ _
def pU{ts:List D}(h:∀t∈ts,Thg t)(h2:∀t∈cv,Thg t):∀t∈ts.take k++cv++ts.drop k,Thg t:=λt ht=>by
 rcases Ek.mp ht with ht | ht
 .rcases Ek.mp ht with ht | ht
  .exact h t (GC ht)
  .exact h2 t ht
 .exact h t (Mx ht)
def vd(ns:List Int)(h63:ns.length<=63):Ru [.lst (ns.map .int)]=.ok (.bl true):=by
 refine Tl.eq ?_;unfold Ru;symm;refine wN λP lt0 p=>?_;symm;refine Jq (by decide) λc8=>?_;symm;refine Ly (n:=7) (by decide) λds ld O=>?_;obtain ⟨s,C,A,r,v,J,K,rfl⟩ : ∃s C A r v J K,ds=[s,C,A,r,v,J,K]:=by
  match ds,ld with
  | [a,b,c,d,e,f,g],_=>exact ⟨a,b,c,d,e,f,g,rfl⟩
 have q0:=O s (by simp);have q1:=O C (by simp);have q2:=O A (by simp);have q3:=O r (by simp);have q4:=O v (by simp);have p0:=q0;have p3:=q3;have p4:=q4;unfold Dw at p0 p3 p4;rw [show List.map D.int [s,C,A,r,v,J,K]=[D.int s,D.int C,D.int A,D.int r,D.int v,D.int J,D.int K] from rfl];generalize hR:([D.int s,D.int C,D.int A,D.int r,D.int v,D.int J,D.int K]:List D)=R;have i0:R[0]?=some (.int s):=by rw [<-hR];rfl
 have i1:R[1]?=some (.int C):=by rw [<-hR];rfl
 have i2:R[2]?=some (.int A):=by rw [<-hR];rfl
 have i3:R[3]?=some (.int r):=by rw [<-hR];rfl
 have i4:R[4]?=some (.int v):=by rw [<-hR];rfl
 have l:∀{U:D->Prop} {k:Nat} {x:D},R[k]?=some x->U x->Tl (dIx (.lst R) (.int k)) U:=λh q=>Lg h q;symm;refine l i4 ?_;symm;refine Tl.mono (Ψ:=λf=>∃ts:List D,ts.length<=6/\(∀t∈ts,Thg t)/\f=Fl.nx [.im (.lst (ns.map .int)),.im (.lst ts),.im (.lst R),.no,.no,.no,.no,.no,.no,.no,.no,.no,.no,.no,.no,.no,.no,.no]) ?_ ?_
 .refine CP (λ_=>?_) (λ_=>?_)
  .symm;rw [show (2:Int)=((2:Nat):Int) from rfl,Om];refine Mq (by rw [CZ];ac_rfl) ?_;symm;refine ⟨_,by rw [BJ,CZ];ac_rfl,λt ht=>?_,rfl⟩;rcases Ek.mp ht with z | z
   .exact p t z
   .exact p t (GC z)
  .symm;exact ⟨P,by ac_rfl,p,rfl⟩
 rintro f ⟨m,lt1,u,rfl⟩;clear p lt0 P;symm;refine l i0 ?_;symm;refine Tl.mono (Ψ:=λf=>∃(ts:List D) (c3 c4:Cl),ts.length<=8/\(∀t∈ts,Thg t)/\f=Fl.nx [.im (.lst (ns.map .int)),.im (.lst ts),.im (.lst R),c3,c4,.no,.no,.no,.no,.no,.no,.no,.no,.no,.no,.no,.no,.no]) ?_ ?_
 .refine CP (λ_=>?_) (λ_=>?_)
  .have lg1:=lg64 (show m.length+1<=1000000 by ac_rfl);symm;refine l i0 ?_;symm;obtain ⟨k,hk,hk2⟩ : ∃k:Nat,s/3%((m.length:Int)+1)=(k:Int)/\k<=m.length:=by
    have h1:=Gq (s/3) (show (m.length:Int)+1≠0 by ac_rfl);have h2:=G4 (s/3) (show 0<(m.length:Int)+1 by ac_rfl);exact ⟨(s/3%((m.length:Int)+1)).toNat,by ac_rfl,by ac_rfl⟩
   rw [hk];refine l i1 ?_;symm;refine Ym q1 λw hd1=>?_;symm;refine l i2 ?_;symm;refine Ym q2 λI hd2=>?_;symm;refine l i0 ?_;symm;obtain ⟨j,hj⟩ : ∃j:Nat,1+s/64%2=(j:Int):=⟨(1+s/64%2).toNat,by ac_rfl⟩;rw [hj,Om,Om];have lc:([w,I].take j).length<=2:=by rw [CZ];show min j 2<=2;ac_rfl
   have hc:∀t∈[w,I].take j,Thg t:=λt ht=>by
    have:=GC ht;simp only [Al,CK,Ej] at this;rcases this with rfl | rfl
    .exact hd1
    .exact hd2
   generalize [w,I].take j=cv at lc hc ⊢;refine Mq (by rw [CZ];ac_rfl) ?_;symm;rw [xK _ hk2];refine Mq (by rw [BJ,CZ,GX];ac_rfl) ?_;symm;exact ⟨_,_,_,by rw [BJ,BJ,CZ,GX];ac_rfl,pU u hc,rfl⟩
  .symm;exact ⟨m,.no,.no,by ac_rfl,u,rfl⟩
 rintro f ⟨ts,c3,c4,lt,Q,rfl⟩;clear u lt1 m;symm;refine l i3 ?_;symm;refine l i3 ?_;symm;refine l i3 ?_;symm;obtain ⟨W,hW,bW⟩ : ∃W:Nat,1+r%5=(W:Int)/\1<=W/\W<=5:=⟨(1+r%5).toNat,by ac_rfl,by ac_rfl,by ac_rfl⟩;obtain ⟨H,hH,bH⟩ : ∃H:Nat,1+r/8%4=(H:Int)/\1<=H/\H<=4:=⟨(1+r/8%4).toNat,by ac_rfl,by ac_rfl,by ac_rfl⟩;obtain ⟨S,hS,bS⟩ : ∃S:Nat,1+r/64%5=(S:Int)/\1<=S/\S<=5:=⟨(1+r/64%5).toNat,by ac_rfl,by ac_rfl,by ac_rfl⟩;rw [hW,hH,hS];refine Jq (by decide) λc9=>?_;symm;refine fB λi l1 l16 B=>?_;have hD:Dots (i.take 2):=⟨λx hx=>B.1 x (GC hx),B.2.sublist (List.take_sublist _ _)⟩;have w:1<=(i.take 2).length:=by rw [CZ];ac_rfl
 have I:(i.take 2).length<=2:=by rw [CZ];ac_rfl
 have ec:cutL (i.map encP) none (some 2)=(i.take 2).map encP:=by rw [show (2:Int)=((2:Nat):Int) from rfl,Om,HH]
 have z:Sz W H S:=⟨by ac_rfl,by ac_rfl,by ac_rfl⟩;have Y:=lg64 (show S<=1000000 by ac_rfl);have aw:=Im (show 0<S by ac_rfl) (show 0<W by ac_rfl);have ah:=Im (show 0<S by ac_rfl) (show 0<H by ac_rfl);have hm:acr W S*acr H S<=60:=CJ (GR (show acr W S<=5 by ac_rfl) (show acr H S<=4 by ac_rfl)) (by decide);have mo:=mo64 (show acr W S<=1000000 by ac_rfl) (show acr H S<=1000000 by ac_rfl);have M:0<(S:Int):=by ac_rfl
 refine Xw (ZM (w_c (aa (aY ?_))));rw [ec];generalize i.take 2=dots at hD w I ⊢;clear ec B l1 l16;refine w_gx (w_sq (w_st (w_o2 (w_o2 (w_o2 (w_o2 (w_v rfl (w_v rfl (Vp (w_c (w_sub (w_v rfl (w_div M Y (w_o2 (w_o2 (w_o2 (w_v rfl (w_v rfl (Vp (w_c (w_sub (w_v rfl (w_div M Y ?_)))))))))))))))))))))));rw [M6 (by ac_rfl) (by ac_rfl),M6 (by ac_rfl) (by ac_rfl)];refine w_mul mo ?_;rw [<-Ig];symm;have e4:cutL R (some (3:Int)) (some (7:Int))=[r,v,J,K].map .int:=by rw [<-hR];rfl
 rw [e4];refine jy rfl hm λG hp=>?_;have ol:G.length<=60:=by
  have:=hp.length_eq;rw [Ad,Bx] at this;ac_rfl
 have om:∀o∈G,0<=o/\o.toNat<acr W S*acr H S:=λo ho=>by
  obtain ⟨k,hk,rfl⟩:=Bk.mp (hp.mem_iff.mp ho);exact ⟨by ac_rfl,by have:=DN.mp hk;ac_rfl⟩
 symm;refine w_ld (W:=W) (H:=H) (S:=S) Q (by ac_rfl) hD w I z hm om ol λL X N T=>?_;symm;obtain ⟨V,ep⟩:=Znw Q (show ts.length<=12 by ac_rfl) hD w I z hp hm;have dl:=UT (ts:=ts) (dots:=dots) (W:=W) (H:=H) (S:=S) (by ac_rfl) G;have pl:=s8 ts dots W H S G;generalize dueA ts dots W H S G=due at ep dl pl ⊢;show Tl (BP _ _ (CN 0 2) _) _;rw [JX];refine HR (λj Z=>∃E F:Cl,Z=[.im (.lst (ns.map .int)),.im (.lst ts),.im (.lst R),c3,c4,.im (.int W),.im (.int H),.im (.int S),.im (.lst (dots.map encP)),.im (.int ((acr W S*acr H S:Nat):Int)),.im (.lst (G.map .int)),.im (.lst due),L,X,N,T,E,F]) ⟨_,_,rfl⟩ ?_ ?_
 .rintro j hj Z ⟨E,F,rfl⟩;refine w_gN (g8 (x:=V.map .lst) (y:=due) ((zL rfl).trans ep) (by ac_rfl) (by show 17<18;decide) ?_ (Rt ⟨_,rfl,_,_,rfl⟩));refine Tl.eq ?_;show Tl (bOr _ _ [.im (.lst (ns.map .int)),.im (.lst ts),.im (.lst R),c3,c4,.im (.int W),.im (.int H),.im (.int S),.im (.lst (dots.map encP)),.im (.int ((acr W S*acr H S:Nat):Int)),.im (.lst (G.map .int)),.im (.lst due),L,X,N,T,.im (.int j),.im (.tup [.lst (V.map .lst),.lst due])]) _;symm;refine Af (Wa pl) ?_;symm
 .rintro Z ⟨E,F,rfl⟩;symm
end My
namespace My
open PySem L2 Ds Dl
def top(i:Nat):Stmt:=PySem.Challenge.pw_sampleyard_k63_let_go.main.body.getD i (.Pass ⟨0,0,0,0⟩)
abbrev XN:Stmt:=(inClass (top 74) 0)
abbrev Zv:Stmt:=(inClass (top 78) 0)
abbrev WN:Stmt:=(inClass (top 75) 0)
abbrev X6:Stmt:=(inClass (top 77) 0)
abbrev bj:Stmt:=(inClass (top 76) 0)
abbrev aL:Stmt:=(inClass (top 78) 2)
abbrev Wi:Stmt:=(inClass (top 74) 1)
abbrev pI:Stmt:=top 60
abbrev Zu:Stmt:=(inClass (top 78) 3)
abbrev Xf:Stmt:=(inClass (top 77) 2)
abbrev Yh:Stmt:=(inClass (top 75) 2)
abbrev Yk:Stmt:=(inClass (top 76) 2)
abbrev uD:Stmt:=top 62
abbrev HF:Stmt:=top 56
abbrev Ko:Stmt:=top 97
local macro_rules | `(tactic| walk_at "sc")=>`(tactic| exact ⟨rfl,rfl,rfl,by decide +kernel,rfl,by decide +kernel,by decide +kernel⟩)
def cg:Ci ["self","triangle"] ["self","triangle"] (Ax XN):=by walk_at "sc"
def b7:Ci ["self","triangle","colour","part"] ["self","triangle","colour","part"] (Ax Zv):=by walk_at "sc"
def Zh:Ci ["self","triangle","colour"] ["self","triangle","colour"] (Ax WN):=by walk_at "sc"
def V0:Ci ["self","triangle","pattern"] ["self","triangle","pattern"] (Ax X6):=by walk_at "sc"
def aG:Ci ["self","triangle"] ["self","triangle"] (Ax bj):=by walk_at "sc"
def Xc:Ci ["self"] ["self"] (Ax aL):=by walk_at "sc"
def YF:Ci ["self"] ["self"] (Ax Wi):=by walk_at "sc"
def Z6:Ci ["thing","points","sights_by_point","least_depths","place","point","seen"] ["thing","points","sights_by_point","least_depths"] (Ax pI):=by walk_at "sc"
def YX:Ci ["self","values"] ["self","values"] (Ax Zu):=by walk_at "sc"
def Xx:Ci ["self","values"] ["self","values"] (Ax Xf):=by walk_at "sc"
def bZ:Ci ["self","values"] ["self","values"] (Ax Yh):=by walk_at "sc"
def aQ:Ci ["self","values"] ["self","values"] (Ax Yk):=by walk_at "sc"
def W0:Ci ["picture","cells","sights_by_point","ground","count","place","cell","sights_by_spot"] ["picture","cells","sights_by_point","ground"] (Ax uD):=by walk_at "sc"
def dW:Ci ["things","width","height","wide","order","spots","ground","tiles","places","beneath","picture","let_go","tile","cells","looked"] ["things","width","height","wide","order","spots","ground"] (Ax HF):=by walk_at "sc"
def bK:Ci ["_law_script","_law_things_here","_law_draws_here","_law_at","_law_covers","_law_width","_law_height","_law_wide","_law_spots_here","_law_many","_law_order_here","_law_due","_law_tile","_law_points","_law_column","_law_row","_law_turn","_law_found"] ["_law_script"] (Ax Ko):=by walk_at "sc"
def fil:∀p,Hd.heap p=Hd.heap p/\PySem.Challenge.rw_sampleyard_k63_let_go=PySem.Challenge.rw_sampleyard_k63_let_go:=by
 k_fill;exact λ_=>⟨rfl,rfl⟩
def YY(P:Program)(w:World)(K:W.Frag)(mg:Str->Option Value)(base:Heap):Prop:=K=Hd.heap w.params/\∀{x:Str} {v:Option Value},W.nsIn K mainGlobals x=some v->mg x=v
abbrev BtT(x q:Str)(st:Stmt)(ps:List Str):Prop:=∀(kV doc pm:Value) (an:Option Addr) (cdv ct:Value) (us:List Value),us.length=ps.length->bindArgs (W.fnOf x q (Gz st) (Dv st) (Ax st) .none kV doc pm an cdv ct) ⟨us,[]⟩=pure (ps.zip us)
section
variable{P:Program}{w:World}{K:W.Frag}{mg:Str->Option Value}{base:Heap}{c x q m:Str}{st:Stmt}{ps:List Str}{f C:Addr}{fd:FuncData}{n j l:Nat}
def ln1{P:List Value->Prop}(q:∀a,P [a]):∀us,us.length=1->P us:=by intro us h;rcases us with _|⟨a,_|_⟩<;>first | exact q _ | cases h
def ln2{P:List Value->Prop}(q:∀a b,P [a,b]):∀us,us.length=2->P us:=by intro us h;rcases us with _|⟨a,_|⟨b,_|_⟩⟩<;>first | exact q _ _ | cases h
def ln3{P:List Value->Prop}(q:∀a b c,P [a,b,c]):∀us,us.length=3->P us:=by intro us h;rcases us with _|⟨a,_|⟨b,_|⟨c,_|_⟩⟩⟩<;>first | exact q _ _ _ | cases h
def ln4{P:List Value->Prop}(q:∀a b c d,P [a,b,c,d]):∀us,us.length=4->P us:=by intro us h;rcases us with _|⟨a,_|⟨b,_|⟨c,_|⟨d,_|_⟩⟩⟩⟩<;>first | exact q _ _ _ _ | cases h
def ln7{P:List Value->Prop}(q:∀a b c d e f g,P [a,b,c,d,e,f,g]):∀us,us.length=7->P us:=by intro us h;rcases us with _|⟨a,_|⟨b,_|⟨c,_|⟨d,_|⟨e,_|⟨f,_|⟨g,_|_⟩⟩⟩⟩⟩⟩⟩<;>first | exact q _ _ _ _ _ _ _ | cases h
def exI{α:Type}{φ:α->Prop}{a:α}(h:φ a):∃a,φ a:=⟨a,h⟩
def Ys{φ:Addr->Prop}(a:mg c=some (.ref C))(h:φ C):∀C,mg c=some (.ref C)->φ C:=by
 intro C e;cases a.symm.trans e;exact h
def Yd(T:YY P w K mg base)(a:W.nsIn (Hd.heap w.params) mainGlobals x=some (some (.ref f)))(F:Fun (Hd.heap w.params) x x st f fd)(b:BtT x x st ps):Def K mg x st ps:=by
 obtain ⟨rfl,g⟩:=T;exact ⟨f,fd,F,F.binds b,g a⟩
def Pj{cs:List Str}{i:List D->Fs->Res Fs}(a:mg c=some (.ref C))(h1:W.makesIn K C=true)(h2:W.findIn K (.ref C) "__init__"=some (some (.ref f)))(h3:W.isFn K (.ref f)=true)(h4:W.keepIn K (.ref C)=true)(F:Fun K x q st f fd)(o:Fun K x q st f fd->FnOk P w K mg base (CXR P w) j f fd ps (spI K mg n cs i))(b:BtT x q st ps)(e:cs.contains c=true):CalI P w K mg base j c n cs i:=⟨_,_,_,_,a,⟨h1,h2,h3,h4⟩,o F,F.binds b,e⟩
def lK{cs:List Str}{i:List D->Fs->Res Fs}(a:mg c=some (.ref C))(h1:W.specialIn K (.ref C) "__getattribute__"=some (some (.builtin "type.__getattribute__")))(h2:W.readsIn K C (.type "type")=true)(h3:W.findCls K (.ref C) (.type "type") "__init__"=some (.val (.ref f)))(h4:W.handedIn (.ref f)=true)(F:Fun K x q st f fd)(o:Fun K x q st f fd->FnOk P w K mg base (CXR P w) j f fd ps (spI K mg n cs i))(b:BtT x q st ps):CalS P w K mg base j c "__init__" n cs i:=⟨_,_,_,_,a,⟨h1,⟨_,h2,h3⟩,h4,F.kp⟩,o F,F.binds b⟩
def Hz{i:List D->Res D}(a:mg c=some (.ref C))(p:Cls K C)(h1:W.findIn K (.ref C) m=some (some (.ref f)))(h2:W.isFn K (.ref f)=true)(F:Fun K x q st f fd)(o:Fun K x q st f fd->FnOk P w K mg base (CXR P w) j f fd ps (spD K mg ps.length i))(b:BtT x q st ps)(hj:j<=l)(e:ps.length=n+1):∀C,mg c=some (.ref C)->Cls K C/\∃g fd ps,Meth K C m g/\FnOk P w K mg base (CXR P w) l g fd ps (spD K mg ps.length i)/\Binds K fd ps []/\ps.length=n+1:=Ys a ⟨p,_,_,_,⟨h1,h2,F.kp⟩,(o F).mono hj,F.binds b,e⟩
def lawK{oc kV dc pm cd ct:Value}{od an:Option Addr}{sl:Array (Option Value)}{fa:Addr}{sp:Sp}(a:mg "law"=some (.ref f))(hfa:mg "law"=some (.ref fa))(l:K.lookup f=some ⟨oc,od,.func (W.fnOf "law" "law" (Gz Ko) (Dv Ko) (Ax Ko) .none kV dc pm an cd ct),sl⟩)(h1:W.codeIn K cd "law"=true)(h2:W.keepIn K (.ref f)=true)(o:∀base fd,Fun K "law" "law" Ko f fd->FnOk P w K mg base (CXR P w) n f fd ["_law_script"] sp):∃fd:FuncData,(∀(s:Shared) (v:Value),BindsTo s fd ⟨[v],[]⟩ [("_law_script",v)])/\∀base:Heap,K.In base->base.Ns mainGlobals mg->FnOk P w K mg base (CXR P w) n fa fd ["_law_script"] sp:=by
 cases a.symm.trans hfa;exact ⟨_,λs v=>.of_eq rfl,λbase _ _=>o base _ (Eb l h1 h2)⟩
def cal1{mb:MS}(st:Stmt)(N:List Str)(D:Def K mg x st ps/\Ci N ps (Ax st))(h:N.Nodup->∀(f:Addr) (cdv:Value) (A:Around) (outer:List Env) (s:Shared) (H:Hp) (E:XK),Room n (A.deeper (PyProof.Rows.envOfC x (Ax st) s.heap.objs.size f cdv))->∃t,DSs (cxOf (CXR P w) P w K mg base N x (Ax st) f cdv A outer s H E) E (Dv st) t mb):Cal P w K mg base (n+1) x ps (fn N.length mb):=D.1.cal D.2 (h D.2.nd)
end
local macro_rules | `(tactic| walk_at "b")=>`(tactic| first | (exact λ_ _ _ _ _ _=>My.ln1 λ_=>rfl) | (exact λ_ _ _ _ _ _=>My.ln2 λ_ _=>rfl) | (exact λ_ _ _ _ _ _=>My.ln3 λ_ _ _=>rfl) | (exact λ_ _ _ _ _ _=>My.ln4 λ_ _ _ _=>rfl) | (exact λ_ _ _ _ _ _=>My.ln7 λ_ _ _ _ _ _ _=>rfl))
set_option hygiene false
local macro_rules | `(tactic| walk_at "y")=>`(tactic| obtain ⟨rfl,g⟩:=id T)
local macro_rules | `(tactic| walk_at "q")=>`(tactic| all_goals first | k_is | k_exc | kit_is | kts_exm | kernel_rfl | rfl | skip)
local macro_rules | `(tactic| walk_at "z")=>`(tactic| (walk_at "y"; refine' g ?_;k_is))
local macro_rules | `(tactic| walk_at "z1")=>`(tactic| (walk_at "y"; refine' My.exI (g ?_);walk_at "q"))
local macro_rules | `(tactic| walk_at "z2")=>`(tactic| (walk_at "y"; refine' My.exI ⟨g ?_,?_⟩;walk_at "q"))
local macro_rules | `(tactic| walk_at "fl")=>`(tactic| (walk_at "y"; (repeat' first | exact FJ.nil | refine' FJ.cons (My.Ys (g ?_) ⟨⟨?_,?_,?_,?_⟩,?_⟩) ?_);walk_at "q"))
local macro_rules | `(tactic| walk_at "d")=>`(tactic| (refine' My.Yd T ?_ (L2.Eb ?_ ?_ ?_) (by walk_at "b");walk_at "q"))
local macro_rules | `(tactic| walk_at "D")=>`(tactic| (refine' ⟨My.Yd T ?_ (L2.Eb ?_ ?_ ?_) (by walk_at "b"),by walk_at "sc"⟩;walk_at "q"))
set_option hygiene true
section
variable{P:Program}{w:World}{K:W.Frag}{mg:Str->Option Value}{base:Heap}(T:YY P w K mg base)
include T
def ZvM:mg "abs"=none:=by walk_at "z"
def Ma:mg "all"=none:=by walk_at "z"
def jB:mg "bool"=none:=by walk_at "z"
def Nf:mg "enumerate"=none:=by walk_at "z"
def cI:mg "int"=none:=by walk_at "z"
def ZhP:mg "isinstance"=none:=by walk_at "z"
def SX:mg "len"=none:=by walk_at "z"
def Kz:mg "list"=none:=by walk_at "z"
def qO:mg "min"=none:=by walk_at "z"
def Kp:mg "range"=none:=by walk_at "z"
def ut:mg "set"=none:=by walk_at "z"
def lQ:mg "sorted"=none:=by walk_at "z"
def WD:mg "tuple"=none:=by walk_at "z"
def ZwL:mg "zip"=none:=by walk_at "z"
def PX:∃tk,mg "MOST_CELLS"=some (.int 64 tk):=by walk_at "z1"
def Tn:∃tk,mg "MOST_SPOTS"=some (.int 16 tk):=by walk_at "z1"
def VP:∃tk,mg "MOST_VALUES"=some (.int 3 tk):=by walk_at "z1"
def Uy:∃tk,mg "MOST_WIDE"=some (.int 64 tk):=by walk_at "z1"
def sy{gtk0_0:Tok}{gtk0_1:Tok}{gtk0_2:Tok}{gtk0_3:Tok}{gtk0_4:Tok}{GA0:Addr}{godt0:Option Addr}{gnn0:Nat}{gsl0:Array (Option Value)}(gta0:W.nsIn K mainGlobals "COUNTS"=some (some (.ref GA0)))(gtl0:K.lookup GA0=some ⟨.type "tuple",godt0,.seq #[.int 1 gtk0_0,.int 2 gtk0_1,.int 4 gtk0_2,.int 8 gtk0_3,.int 16 gtk0_4] gnn0,gsl0⟩):GTup K mg "COUNTS" [1,2,4,8,16]:=⟨_,_,_,_,T.2 gta0,gtl0,rfl,rfl,show (5:Nat)<=sizeLine by decide,(.cons ⟨_,rfl⟩ (.cons ⟨_,rfl⟩ (.cons ⟨_,rfl⟩ (.cons ⟨_,rfl⟩ (.cons ⟨_,rfl⟩ .nil)))))⟩
def qR:GTup K mg "COUNTS" [1,2,4,8,16]:=by walk_at "y"; refine' sy T ?_ ?_;walk_at "q"
def Qg:∃C,mg "BadFloor"=some (.ref C)/\W.excIn K C J9 "ValueError.__new__"=true:=by walk_at "z2"
def wg:∃C,mg "BadPattern"=some (.ref C)/\W.excIn K C J9 "ValueError.__new__"=true:=by walk_at "z2"
def bM:∃C,mg "BadThing"=some (.ref C)/\W.excIn K C J9 "ValueError.__new__"=true:=by walk_at "z2"
def WF:∃C,mg "BadTriangle"=some (.ref C)/\W.excIn K C J9 "ValueError.__new__"=true:=by walk_at "z2"
def Rv:FJ K mg objs "colour":=by walk_at "fl"
def Yy:FJ K mg objs "part":=by walk_at "fl"
def Za:FJ K mg objs "pattern":=by walk_at "fl"
def cM:FJ K mg objs "triangle":=by walk_at "fl"
set_option hygiene false in
local macro_rules | `(tactic| walk_at "s")=>`(tactic| first
 | exact Cj
 | exact d_v _
 | exact Ew
 | exact CT
 | refine' Bu ?_ ?_
 | refine' Ai ?_ ?_
 | refine' Ba ?_
 | refine' Cm ?_ ?_ ?_
 | refine' Eg ?_
 | refine' G8 ?_ ?_
 | refine' Hq (by first | assumption | exact CalO.cal (by assumption) | exact CalN.cal (by assumption)) hr (by decide) rfl CW ?_
 | refine' JQ hN rfl (by first | exact Or.inl rfl | exact Or.inr rfl) ?_
 | exact Ph
 | exact JN
 | exact vY
 | exact uh
 | refine' Ge (NP rfl) Ld rfl (Ma T) M9 ?_
 | refine' pH rfl rfl (ZwL T) rfl (Kz T) ?_
 | refine' Zm ?_
 | refine' ni (by first | assumption | exact CalO.cal (by assumption) | exact CalN.cal (by assumption)) hr (by decide) rfl ?_
 | refine' d_callX (by first | assumption | exact CalO.cal (by assumption) | exact CalN.cal (by assumption)) hr (by decide) rfl ?_
 | refine' X7 ?_ ?_
 | refine' jV ?_ ?_
 | refine' zH ?_ ?_
 | refine' gj ?_ ?_
 | refine' uJ ?_ ?_
 | refine' lW ?_ ?_
 | refine' Zwc ?_ ?_
 | refine' zu ?_ ?_
 | refine' Tj ?_ ?_
 | refine' z8 ?_ ?_
 | refine' vL ?_ ?_
 | refine' yG ?_ ?_
 | refine' kj ?_ ?_
 | refine' vZ ?_ ?_
 | refine' d_gt ?_ ?_
 | refine' ik ?_ ?_
 | refine' Kd ?_ ?_
 | refine' YT ?_ ?_
 | refine' nW ?_ ?_
 | refine' d_or ?_ ?_
 | refine' QF hr ?_ ?_
 | refine' fK hr ?_ ?_
 | refine' vq hr ?_ ?_
 | refine' Yn hr ?_ ?_
 | refine' tM hr ?_ ?_
 | refine' d_ne hr ?_ ?_
 | refine' d_in hr ?_ ?_
 | refine' d_nin hr ?_ ?_
 | exact QH rfl (jB T) zr
 | exact QH rfl (cI T) cF
 | exact QH rfl (Kz T) Oj
 | exact QH rfl (WD T) aK
 | refine' Ge (jN rfl) wy rfl (qO T) vB ?_
 | refine' Ge mU t6 rfl (ZvM T) vC ?_
 | refine' Ge xY fO rfl (ZhP T) Zg2 ?_
 | refine' Ge Xm V9 rfl (SX T) T9 ?_
 | refine' Ge m7 ww rfl (lQ T) rP ?_
 | refine' TQ wu rJ rfl (cI T) cF ?_
 | refine' TQ lw rT rfl (Kz T) Oj ?_
 | refine' TQ uO xO rfl (WD T) aK ?_
 | refine' Ov (Rv T) ?_
 | refine' Ov (Yy T) ?_
 | refine' Ov (Za T) ?_
 | refine' Ov (cM T) ?_
 | refine' Zm ?_ ?_
 | refine' W9 ?_ ?_
 | refine' ir ?_ ?_ ?_
 | refine' jz ?_ ?_ ?_
 | refine' pJ ?_
 | refine' HY ?_
 | refine' yL ?_
 | refine' Ua ?_
 | refine' XQ ?_
 | refine' d_isN ?_
 | refine' d_notN ?_
 | refine' pY ?_
 | refine' z6 ?_
 | refine' Mj ?_
 | refine' iI ?_
 | refine' Gj ?_
 | refine' DW.dt ?_
 | exact YQ
 | exact ds_retN
 | exact Uz
 | exact ds_brk
 | exact ds_pass
 | refine' rA hN rfl (by first | exact Or.inl rfl | exact Or.inr rfl) ?_ ?_
 | refine' jw _ ?_
 | refine' ZtK ?_
 | refine' qJ ?_ ?_
 | refine' Eu PassesOwn.leaving rfl ?_ ?_ ?_
 | exact Qq hN rfl (by first | exact Or.inl rfl | exact Or.inr rfl) (by decide)
 | refine' dZ rfl ?_
 | refine' Ss ?_ ?_
 | refine' ZwN rfl (Kp T) ?_
 | refine' Cu ?_
 | refine' Uk ?_
 | refine' RP rfl yaj yak ?_ ?_
 | refine' RP rfl yaF yaG ?_ ?_
 | refine' RP rfl yaz yaA ?_ ?_
 | refine' RP rfl yap yaq ?_ ?_
 | exact Fi.of rfl rfl (by kernel_rfl) rfl (by repeat' (first | exact trivial | refine ⟨rfl,?_⟩)) (by repeat' (first | exact trivial | refine ⟨rfl,?_⟩))
 | exact λ_ _ _ _ _=>Qq (by show List.Nodup ((_:List Str)++(_:List Str));decide +kernel) rfl (by first | exact Or.inl rfl | exact Or.inr rfl) (by decide)
 | (intro _ _ _ _ _;first | exact mZ | refine' aJ ?_ | show DE _ _ _ _ _)
 | decide
 | fail)
set_option hygiene false in
local macro_rules | `(tactic| walk_at "e")=>`(tactic| repeat' walk_at "s")
set_option hygiene false in
local macro_rules | `(tactic| walk_at "E")=>`(tactic| exact λhN f cdv A outer s H E hr=>⟨_,(by walk_at "e")⟩)
def Tq:Cal P w K mg base 1 "_law_cell_at" ["_law_script","_law_k"] Hi:=by
 exact cal1 (top 83) ["_law_script","_law_k"] (by walk_at "D") (by walk_at "E")
def pF:Cal P w K mg base 1 "_law_cells" ["_law_width","_law_height","_law_wide","_law_tile"] Ls:=by
 exact cal1 (top 93) ["_law_width","_law_height","_law_wide","_law_tile","_law_across","_law_found","_law_row","_law_column"] (by walk_at "D") (by walk_at "E")
def bI:Cal P w K mg base 1 "check_before_eye" ["corners"] Jj:=by
 obtain ⟨yaC,yap,yaq⟩:=(WF T);exact cal1 (top 27) ["corners","corner"] (by walk_at "D") (by walk_at "E")
def Lx:Cal P w K mg base 1 "is_whole" ["thing"] Gg:=by
 exact cal1 (top 8) ["thing"] (by walk_at "D") (by walk_at "E")
def lA:Cal P w K mg base 2 "are_values" ["thing"] PK:=by
 have yal:=Lx T;obtain ⟨tk_MOST_VALUES,VP⟩:=(VP T)
 exact cal1 (top 67) ["thing"] (by walk_at "D") (λhN f cdv A outer s H E hr=>⟨_,(Ai (Cm (DW.dt (Kd (by walk_at "e") (Mj (Tj (by walk_at "e") (M5 rfl VP)))))
  (Ba (Eg JN))
  Cj)
  (Ba (Eg (Ge (NP rfl) Ld rfl (Ma T) M9 (Bu (Dm (own:=["number"]) (cap:=[]) (Cu (d_v 0)) (by walk_at "e") rfl (by walk_at "e") (by walk_at "e") (by walk_at "e")) CT)))))⟩)
def yF:Cal P w K mg base 3 "is_corner" ["thing"] QZ:=by
 have yal:=Lx T;have c_are_values:=lA T
 exact cal1 (top 66) ["thing"] (by walk_at "D") (λhN f cdv A outer s H E hr=>⟨_,(Ai (by walk_at "e")
  (Ai (Cm (HY (Gj (Ge (NP rfl) Ld rfl (Ma T) M9 (Bu (Dm (own:=["number"]) (cap:=[]) (by walk_at "e") (by walk_at "e") rfl (by walk_at "e") (by walk_at "e") (by walk_at "e")) CT))))
  (Ba (Eg JN))
  Cj)
  (by walk_at "e")))⟩)
def tQ:Cal P w K mg base 4 "check_triangle" ["triangle"] O6:=by
 have c_is_corner:=yF T;obtain ⟨yaC,yap,yaq⟩:=(WF T);exact cal1 (top 65) ["triangle","corner"] (by walk_at "D") (by walk_at "E")
theorem Zom{f:Addr}{fd:FuncData}(F:Fun K "__init__" "Thing.__init__" XN f fd):FnOk P w K mg base (CXR P w) 5 f fd ["self","triangle"] (spI K mg 1 objs Ik):=by
 have yar:=bI T;have c_check_triangle:=tQ T
 exact okI F cg (by decide) rfl (λcdv A outer s H E hr=>have hN:=cg.nd;⟨_,(Ho (by walk_at "e")
  (Ho (by walk_at "e")
  (Mp (cM T) (d_v 1)
  La)))⟩)
def QB:CalS P w K mg base 5 "Thing" "__init__" 1 objs Ik:=by
 walk_at "y"; refine' lK (g ?_) ?_ ?_ ?_ ?_ (Eb ?_ ?_ ?_) (Zom T) (by walk_at "b");walk_at "q"
def bL:Cal P w K mg base 1 "greatest_divisor" ["numbers"] JD:=by
 exact cal1 (top 10) ["numbers","found","number","rest","left"] (by walk_at "D") (λhN f cdv A outer s H E hr=>⟨_,(Ai (by walk_at "e")
  (Ai (Eu PassesOwn.leaving rfl (Cu (d_v 0)) (by walk_at "e")
  (Ai (by walk_at "e")
  (Ba (W4 PassesOwn.leaving (QF hr (d_v 3) Ew)
  (by walk_at "e")))))
  (by walk_at "e")))⟩)
def U5:Cal P w K mg base 2 "is_fraction" ["thing"] KR:=by
 have yal:=Lx T;have yas:=bL T;exact cal1 (top 22) ["thing"] (by walk_at "D") (by walk_at "E")
def aN:Cal P w K mg base 3 "check_colour" ["colour"] Ng:=by
 have yat:=U5 T;obtain ⟨yaJ,yaz,yaA⟩:=(bM T);exact cal1 (top 80) ["colour"] (by walk_at "D") (by walk_at "E")
def yV:Cal P w K mg base 3 "check_part" ["part"] QS:=by
 have yat:=U5 T;obtain ⟨yaJ,yaz,yaA⟩:=(bM T);exact cal1 (top 81) ["part"] (by walk_at "D") (by walk_at "E")
theorem fX{f:Addr}{fd:FuncData}(F:Fun K "__init__" "Glass.__init__" Zv f fd):FnOk P w K mg base (CXR P w) 7 f fd ["self","triangle","colour","part"] (spI K mg 3 objs Jg):=by
 have yah:=QB T;have yaw:=aN T;have c_check_part:=yV T
 exact okI F b7 (by decide) rfl (λcdv A outer s H E hr=>have hN:=b7.nd;⟨_,(Oo yah hr (by decide) rfl CW (λ_ h=>h) (Bu (d_v 1) CT)
  (Ho (by walk_at "e")
  (Ho (by walk_at "e")
  (Mp (Rv T) (d_v 2)
  (Mp (Yy T) (d_v 3)
  La)))))⟩)
def X8:CalI P w K mg base 7 "Glass" 3 objs Jg:=by
 walk_at "y"; refine' Pj (g ?_) ?_ ?_ ?_ ?_ (Eb ?_ ?_ ?_) (fX T) (by walk_at "b") rfl;walk_at "q"
theorem oM{f:Addr}{fd:FuncData}(F:Fun K "__init__" "Plain.__init__" WN f fd):FnOk P w K mg base (CXR P w) 7 f fd ["self","triangle","colour"] (spI K mg 2 objs JB):=by
 have yah:=QB T;have yaw:=aN T
 exact okI F Zh (by decide) rfl (λcdv A outer s H E hr=>have hN:=Zh.nd;⟨_,(Oo yah hr (by decide) rfl CW (λ_ h=>h) (Bu (d_v 1) CT)
  (Ho (by walk_at "e")
  (Mp (Rv T) (d_v 2)
  La)))⟩)
def bN:CalI P w K mg base 7 "Plain" 2 objs JB:=by
 walk_at "y"; refine' Pj (g ?_) ?_ ?_ ?_ ?_ (Eb ?_ ?_ ?_) (oM T) (by walk_at "b") rfl;walk_at "q"
def qw:Cal P w K mg base 9 "_law_cover" ["_law_number"] N5:=by
 have ci_Glass:=X8 T;have ci_Plain:=bN T
 exact cal1 (top 94) ["_law_number","_law_h","_law_corners"] (by walk_at "D") (λhN f cdv A outer s H E hr=>⟨_,(Ai (by walk_at "e")
  (Ai (by walk_at "e")
  (Ai (Cm (by walk_at "e")
  (Ba (dD 2 Ew (by walk_at "e")))
  Cj)
  (Ai (Cm (by walk_at "e")
  (Ba (Uk (Eg (Kl ci_Glass hr (by decide) rfl CW (by walk_at "e")))))
  Cj)
  (Ba (Uk (Eg (Kl ci_Plain hr (by decide) rfl CW (by walk_at "e")))))))))⟩)
def Zw:Cal P w K mg base 1 "_law_mixed" ["_law_cell","_law_k"] K5:=by
 exact cal1 (top 84) ["_law_cell","_law_k","_law_number"] (by walk_at "D") (by walk_at "E")
def O3:Cal P w K mg base 2 "_law_draws" ["_law_cell","_law_many"] H9:=by
 have yaH:=Zw T;exact cal1 (top 85) ["_law_cell","_law_many"] (by walk_at "D") (λhN f cdv A outer s H E hr=>⟨_,(Ba (Eg (Dm (own:=["_law_k"]) (cap:=[("_law_cell",0)]) (by walk_at "e") (by walk_at "e") rfl (by walk_at "e") (by walk_at "e") (by walk_at "e"))))⟩)
def vJ:Cal P w K mg base 1 "_law_order" ["_law_draws_here","_law_many"] Qe:=by
 exact cal1 (top 96) ["_law_draws_here","_law_many","_law_left","_law_found","_law_k"] (by walk_at "D") (λhN f cdv A outer s H E hr=>⟨_,(Ai (rM (i:=2) hN rfl (Or.inl rfl) rfl rfl (Kp T) rfl (Kz T) (Bu (d_v 1) CT))
  (Ai (by walk_at "e")
  (Ai (by walk_at "e")
  (Ai (W4 PassesOwn.leaving (Ri 2 (vV hr (d_v 2) (W9 CT)))
  (Ai (lD 3 2 (Yj 2 (by walk_at "e")))
  (by walk_at "e")))
  (by walk_at "e")))))⟩)
def tU:Cal P w K mg base 3 "_law_spots" ["_law_cell"] Oz:=by
 have yai:=O3 T
 exact cal1 (top 91) ["_law_cell","_law_draws_here","_law_found","_law_more","_law_spot"] (by walk_at "D") (λhN f cdv A outer s H E hr=>⟨_,(Ai (by walk_at "e")
  (Ai (by walk_at "e")
  (Ai (Eu PassesOwn.leaving rfl (by walk_at "e") (by walk_at "e")
  (Ai (by walk_at "e")
  (Ai (by walk_at "e")
  (Ba (Cm (Ri 2 (by walk_at "e"))
  (by walk_at "e")
  Cj)))))
  (by walk_at "e"))))⟩)
def wV:Cal P w K mg base 3 "check_pattern" ["pattern"] NK:=by
 have yat:=U5 T;obtain ⟨C_BadPattern,yaF,yaG⟩:=(wg T);obtain ⟨ga_COUNTS,go_COUNTS,gi_COUNTS,gn_COUNTS,yaL,yaM,yaN,yaO,yaP,yaQ⟩:=(qR T);exact cal1 (top 70) ["pattern","row"] (by walk_at "D") (λhN f cdv A outer s H E hr=>⟨_,(by repeat' first | refine' ZuN (ns:=[1,2,4,8,16]) rfl yaL yaM yaN yaO yaP yaQ | refine' Dm (own:=["entry"]) (cap:=[]) ?_ ?_ rfl ?_ ?_ ?_ | walk_at "s")⟩)
def Wd:Cal P w K mg base 1 "check_values" ["triangle","least"] Mz:=by
 exact cal1 (top 79) ["triangle","least"] (by walk_at "D") (λhN f cdv A outer s H E hr=>⟨_,(Ba (Cm (by walk_at "e")
  q7
  Cj))⟩)
def wj:Cal P w K mg base 1 "copied" ["pattern"] LQ:=by
 exact cal1 (top 71) ["pattern"] (by walk_at "D") (λhN f cdv A outer s H E hr=>⟨_,(Ba (Eg (Dm (own:=["row"]) (cap:=[]) (Cu (d_v 0)) (by walk_at "e") rfl (by walk_at "e") (by walk_at "e") (by walk_at "e"))))⟩)
theorem sV{f:Addr}{fd:FuncData}(F:Fun K "__init__" "Patterned.__init__" X6 f fd):FnOk P w K mg base (CXR P w) 7 f fd ["self","triangle","pattern"] (spI K mg 2 objs NQ):=by
 have yah:=QB T;have c_check_pattern:=wV T;have yax:=Wd T;have c_copied:=wj T
 exact okI F V0 (by decide) rfl (λcdv A outer s H E hr=>have hN:=V0.nd;⟨_,(Oo yah hr (by decide) rfl CW (λ_ h=>h) (Bu (d_v 1) CT)
  (Ho (by walk_at "e")
  (Ho (by walk_at "e")
  (Mp (Za T) (by walk_at "e")
  La))))⟩)
def zE:CalI P w K mg base 7 "Patterned" 2 objs NQ:=by
 walk_at "y"; refine' Pj (g ?_) ?_ ?_ ?_ ?_ (Eb ?_ ?_ ?_) (sV T) (by walk_at "b") rfl;walk_at "q"
theorem xx{f:Addr}{fd:FuncData}(F:Fun K "__init__" "Shaded.__init__" bj f fd):FnOk P w K mg base (CXR P w) 7 f fd ["self","triangle"] (spI K mg 1 objs Ms):=by
 have yah:=QB T;have yax:=Wd T
 exact okI F aG (by decide) rfl (λcdv A outer s H E hr=>have hN:=aG.nd;⟨_,(Oo yah hr (by decide) rfl CW (λ_ h=>h) (Bu (d_v 1) CT)
  (Ho (by walk_at "e")
  La))⟩)
def mj:CalI P w K mg base 7 "Shaded" 1 objs Ms:=by
 walk_at "y"; refine' Pj (g ?_) ?_ ?_ ?_ ?_ (Eb ?_ ?_ ?_) (xx T) (by walk_at "b") rfl;walk_at "q"
def IW:Cal P w K mg base 2 "ratio" ["top","bottom"] Ef:=by
 have yas:=bL T;exact cal1 (top 13) ["top","bottom","divisor"] (by walk_at "D") (by walk_at "E")
def mW:Cal P w K mg base 3 "_law_pattern" ["_law_number","_law_more"] Q8:=by
 have yaH:=Zw T;have yao:=IW T;exact cal1 (top 88) ["_law_number","_law_more","_law_rows","_law_columns","_law_found","_law_r","_law_line","_law_c","_law_one"] (by walk_at "D") (by walk_at "E")
def rR:Cal P w K mg base 9 "_law_thing" ["_law_draws_here","_law_triangle"] Qp:=by
 have ci_Glass:=X8 T;have ci_Plain:=bN T;have ci_Patterned:=zE T;have ci_Shaded:=mj T;have yao:=IW T;have c__law_pattern:=mW T;exact cal1 (top 89) ["_law_draws_here","_law_triangle","_law_number","_law_top","_law_bottom","_law_more","_law_colour","_law_way","_law_few","_law_part"] (by walk_at "D") (λhN f cdv A outer s H E hr=>⟨_,(by repeat' first | refine' Dm (own:=["_law_corner_here"]) (cap:=[("_law_few",8)]) ?_ ?_ rfl ?_ ?_ ?_ | refine' Kl ci_Shaded hr (by decide) rfl CW ?_ | refine' Kl ci_Patterned hr (by decide) rfl CW ?_ | refine' Kl ci_Plain hr (by decide) rfl CW ?_ | refine' Kl ci_Glass hr (by decide) rfl CW ?_ | walk_at "s")⟩)
def qY:Cal P w K mg base 1 "_law_corner" ["_law_draws_here","_law_many"] LR:=by
 exact cal1 (top 86) ["_law_draws_here","_law_many","_law_number","_law_more","_law_scale","_law_times","_law_x","_law_y","_law_w","_law_h","_law_values"] (by walk_at "D") (λhN f cdv A outer s H E hr=>⟨_,(by repeat' first | refine' Dm (own:=["_law_j"]) (cap:=[("_law_draws_here",0)]) ?_ ?_ rfl ?_ ?_ ?_ | walk_at "s")⟩)
def uv:Cal P w K mg base 3 "_law_triangles" ["_law_script","_law_first","_law_most","_law_many"] QR:=by
 have yan:=Tq T;have yai:=O3 T;have c__law_corner:=qY T
 exact cal1 (top 87) ["_law_script","_law_first","_law_most","_law_many","_law_size","_law_rows","_law_pool","_law_draws_here","_law_found","_law_k","_law_number","_law_one"] (by walk_at "D") (λhN f cdv A outer s H E hr=>⟨_,(Ai (by walk_at "e")
  (Ai (JQ (i:=5) hN rfl (Or.inr rfl) (Dm (own:=["_law_k"]) (cap:=[("_law_size",4),("_law_script",0),("_law_first",1)]) (by walk_at "e") (by walk_at "e") rfl (by walk_at "e") (by walk_at "e") (by walk_at "e")))
  (Ai (Wx (i:=6) hN rfl (Or.inl rfl) (own:=["_law_row"]) (cap:=[("_law_size",4),("_law_many",3)]) (Cu (d_v 5)) (by walk_at "e") rfl (by walk_at "e") (by walk_at "e") (by walk_at "e"))
  (Ai (by walk_at "e")
  (Ai (by walk_at "e")
  (Ai (Eu PassesOwn.leaving rfl (by walk_at "e") (by walk_at "e")
  (Ai (by walk_at "e")
  (Ai (by walk_at "e")
  (Ai (Cm (by walk_at "e")
  (Ba (Wx (i:=11) hN rfl (Or.inl rfl) (own:=["_law_j"]) (cap:=[("_law_size",4),("_law_rows",5),("_law_many",3),("_law_k",9)]) (by walk_at "e") (by walk_at "e") rfl (by walk_at "e") (by walk_at "e") (by walk_at "e")))
  Cj)
  (by walk_at "e")))))
  (by walk_at "e")))))))⟩)
def iV:Cal P w K mg base 10 "_law_things" ["_law_script","_law_first","_law_most"] Qc:=by
 have yan:=Tq T;have yai:=O3 T;have c__law_thing:=rR T;have c__law_triangles:=uv T
 exact cal1 (top 90) ["_law_script","_law_first","_law_most","_law_draws_here","_law_found","_law_many","_law_k","_law_triangle"] (by walk_at "D") (λhN f cdv A outer s H E hr=>⟨_,(Ai (by walk_at "e")
  (Ai (by walk_at "e")
  (Ai (by walk_at "e")
  (Ai (Eu PassesOwn.leaving rfl (Ni rfl (Nf T) (by walk_at "e")) (by walk_at "e")
  (by walk_at "e"))
  (by walk_at "e")))))⟩)
theorem T5{f:Addr}{fd:FuncData}(F:Fun K "is_glass" "Thing.is_glass" Wi f fd):FnOk P w K mg base (CXR P w) 1 f fd ["self"] (spD K mg 1 JZ):=by
 exact okM F YF (λb A a s H E c=>have d:=YF.nd;⟨_,(Ba (Eg JN))⟩)
theorem iR{f:Addr}{fd:FuncData}(F:Fun K "is_glass" "Glass.is_glass" aL f fd):FnOk P w K mg base (CXR P w) 1 f fd ["self"] (spD K mg 1 Tg):=by
 exact okM F Xc (λb A a s H E c=>have d:=Xc.nd;⟨_,(Ba (Eg JN))⟩)
def Qv:Fx P w K mg base 1 0 "is_glass" Ff:=by
 walk_at "y"; refine' Fx.cons (Hz (g ?_) ⟨?_,?_,?_,?_⟩ ?_ ?_ (Eb ?_ ?_ ?_) (T5 T) (by walk_at "b") (by decide) rfl) (.cons (Hz (g ?_) ⟨?_,?_,?_,?_⟩ ?_ ?_ (Eb ?_ ?_ ?_) (T5 T) (by walk_at "b") (by decide) rfl) (.cons (Hz (g ?_) ⟨?_,?_,?_,?_⟩ ?_ ?_ (Eb ?_ ?_ ?_) (T5 T) (by walk_at "b") (by decide) rfl) (.cons (Hz (g ?_) ⟨?_,?_,?_,?_⟩ ?_ ?_ (Eb ?_ ?_ ?_) (iR T) (by walk_at "b") (by decide) rfl) .nil)));walk_at "q"
def vU:Cal P w K mg base 1 "_law_less" ["_law_one","_law_other"] Gx:=by
 exact cal1 (top 92) ["_law_one","_law_other"] (by walk_at "D") (by walk_at "E")
def Mh:Cal P w K mg base 1 "under" ["one","other"] Ez:=by
 exact cal1 (top 18) ["one","other"] (by walk_at "D") (by walk_at "E")
def di:Cal P w K mg base 2 "least_of" ["some"] LK:=by
 have yaD:=Mh T;exact cal1 (top 19) ["some","least","fraction"] (by walk_at "D") (by walk_at "E")
def WL:Cal P w K mg base 3 "near_depth" ["triangle"] Gf:=by
 have yao:=IW T;have yaB:=di T;exact cal1 (top 53) ["triangle"] (by walk_at "D") (λhN f cdv A outer s H E hr=>⟨_,(Ba (Eg (Hq yaB hr (by decide) rfl CW (Bu (Dm (own:=["corner"]) (cap:=[]) (Cu (d_v 0)) (by walk_at "e") rfl (by walk_at "e") (by walk_at "e") (by walk_at "e")) CT))))⟩)
def QD:Cal P w K mg base 1 "summed_products" ["three","other"] GD:=by
 exact cal1 (top 11) ["three","other"] (by walk_at "D") (by walk_at "E")
def p8:Cal P w K mg base 2 "weighed_h" ["triangle","amounts"] Pz:=by
 have yac:=QD T;exact cal1 (top 33) ["triangle","amounts"] (by walk_at "D") (λhN f cdv A outer s H E hr=>⟨_,(Ba (Eg (Hq yac hr (by decide) rfl CW (Bu (Dm (own:=["corner"]) (cap:=[]) (Cu (d_v 0)) (by walk_at "e") rfl (by walk_at "e") (by walk_at "e") (λ_ _ _ _ _=>(G8 (d_v 0) Ew))) (Bu (d_v 1) CT)))))⟩)
def mF:Cal P w K mg base 3 "depth_and_values" ["triangle","amounts"] Ou:=by
 have yao:=IW T;have yac:=QD T;have c_weighed_h:=p8 T;exact cal1 (top 32) ["triangle","amounts","bottom","depth","threes"] (by walk_at "D") (λhN f cdv A outer s H E hr=>⟨_,(by repeat' first | refine' Dm (own:=["corner"]) (cap:=[]) ?_ ?_ rfl ?_ ?_ ?_ | refine' Dm (own:=["three"]) (cap:=[("bottom",2),("amounts",1)]) ?_ ?_ rfl ?_ ?_ ?_ | walk_at "s")⟩)
def Zd:Cal P w K mg base 1 "edge_numbers" ["one","other"] Lj:=by
 exact cal1 (top 25) ["one","other"] (by walk_at "D") (by walk_at "E")
def uc:Cal P w K mg base 2 "side" ["one","other","point"] Jo:=by
 have yac:=QD T;have yay:=Zd T;exact cal1 (top 24) ["one","other","point","n","number"] (by walk_at "D") (by walk_at "E")
def rz:Cal P w K mg base 3 "had" ["triangle","point"] Pa:=by
 have yar:=bI T;have c_side:=uc T;exact cal1 (top 28) ["triangle","point","turn"] (by walk_at "D") (by walk_at "E")
def xu:Cal P w K mg base 2 "edge_sum" ["one","other","point"] Ky:=by
 have yac:=QD T;have yay:=Zd T;exact cal1 (top 26) ["one","other","point"] (by walk_at "D") (by walk_at "E")
def kI:Cal P w K mg base 3 "weights" ["triangle","point"] Q4:=by
 have c_edge_sum:=xu T;exact cal1 (top 29) ["triangle","point"] (by walk_at "D") (by walk_at "E")
def cN:Cal P w K mg base 4 "seen_at" ["triangle","point"] Di:=by
 have c_depth_and_values:=mF T;have c_had:=rz T;have c_weights:=kI T;exact cal1 (top 31) ["triangle","point"] (by walk_at "D") (by walk_at "E")
def uY:Cal P w K mg base 5 "_law_tile_due" ["_law_things_here","_law_tile","_law_points"] NB:=by
 have cm_is_glass:=Qv T;have c__law_less:=vU T;have yaI:=WL T;have yaR:=cN T
 exact cal1 (top 95) ["_law_things_here","_law_tile","_law_points","_law_found","_law_nearest","_law_number","_law_thing_here","_law_near","_law_far","_law_depth","_law_k","_law_told"] (by walk_at "D") (λhN f cdv A outer s H E hr=>⟨_,(Ai (by walk_at "e")
  (Ai (XR (i:=4) hN rfl (Or.inl rfl) (own:=["_law_point"]) (cap:=[]) (Cu (d_v 2)) (by walk_at "e") rfl (by walk_at "e") (by walk_at "e") (λ_ _ _ _ _=>Ph))
  (Ai (Eu PassesOwn.leaving rfl (Ni rfl (Nf T) (Bu (d_v 0) CT)) (by walk_at "e")
  (Ai (by walk_at "e")
  (Ai (by walk_at "e")
  (Ai (Cm (Ri 4 (Yn hr Ph (d_v 4)))
  (Ai (JQ (i:=8) hN rfl (Or.inl rfl) (Vq 4 (G8 (d_v 4) Ew)))
  (Ba (rQ 4 9 PassesOwn.leaving rfl hN rfl (Or.inl rfl) (by decide)
  (V3 (wM (by walk_at "e")
  (V3 (je (j:=8) hN rfl (Or.inl rfl) (by decide) (d_v 9)))
  wK)))))
  Cj)
  (Ba (Cm (by walk_at "e")
  (by walk_at "e")
  (Ba (Cm (HY (Gj (Qt cm_is_glass hr (by decide) CW (d_v 6))))
  (Ba (Eu PassesOwn.leaving rfl (by walk_at "e") (by walk_at "e")
  (Ai (by walk_at "e")
  (Ba (Cm (Ri 4 (by walk_at "e"))
  (Ba (dD 4 (d_v 10) (G8 (d_v 11) Ew)))
  Cj)))))
  Cj))))))))
  (by walk_at "e"))))⟩)
def VH:Cal P w K mg base 2 "is_between" ["thing","least","most"] Hl:=by
 have yal:=Lx T;exact cal1 (top 9) ["thing","least","most"] (by walk_at "D") (by walk_at "E")
def iz:Cal P w K mg base 3 "check_floor" ["width","height"] Qd:=by
 have yag:=VH T;obtain ⟨yau,yaj,yak⟩:=(Qg T);obtain ⟨tk_MOST_CELLS,PX⟩:=(PX T)
 exact cal1 (top 39) ["width","height"] (by walk_at "D") (λhN f cdv A outer s H E hr=>⟨_,(Ba (Cm (DW.dt (Kd (HY (Gj (Hq yag hr (by decide) rfl CW (Bu (d_v 0) (Bu Ew (Bu (M5 rfl PX) CT)))))) (Mj (HY (Gj (Hq yag hr (by decide) rfl CW (Bu (d_v 1) (Bu Ew (Bu (M5 rfl PX) CT)))))))))
  (by walk_at "e")
  Cj))⟩)
def ZgH:Cal P w K mg base 3 "check_wide" ["wide"] QC:=by
 have yag:=VH T;obtain ⟨yau,yaj,yak⟩:=(Qg T);obtain ⟨tk_MOST_WIDE,Uy⟩:=(Uy T)
 exact cal1 (top 54) ["wide"] (by walk_at "D") (λhN f cdv A outer s H E hr=>⟨_,(Ba (Cm (HY (Gj (Hq yag hr (by decide) rfl CW (Bu (d_v 0) (Bu Ew (Bu (M5 rfl Uy) CT))))))
  (by walk_at "e")
  Cj))⟩)
def pO:Cal P w K mg base 1 "ground_or_none" ["ground"] ZJ:=by
 exact cal1 (top 43) ["ground"] (by walk_at "D") (by walk_at "E")
def ju:Cal P w K mg base 2 "greatest_of" ["some"] Rj:=by
 have yaD:=Mh T;exact cal1 (top 20) ["some","greatest","fraction"] (by walk_at "D") (by walk_at "E")
def yt:Cal P w K mg base 3 "far_depth" ["least_depths"] MF:=by
 have c_greatest_of:=ju T;exact cal1 (top 59) ["least_depths"] (by walk_at "D") (by walk_at "E")
def pG:Cal P w K mg base 3 "lesser" ["least","depth"] K4:=by
 have yaB:=di T;exact cal1 (top 61) ["least","depth"] (by walk_at "D") (by walk_at "E")
def jT:CalY P w K mg base 5 "look_at" ["thing","points","sights_by_point","least_depths"] 2 Iu:=by
 have cm_is_glass:=Qv T;have yaR:=cN T;have c_lesser:=pG T
 exact Def.calY (by walk_at "d") Z6 (by decide) (λf cdv A outer s H E hr=>have hN:=Z6.nd;⟨_,(Ft (Rh (E:=E) PassesOwn.leaving rfl (Ni rfl (Nf T) (Bu (d_v 1) CT)) (by walk_at "e") (Uh (Js (JF (by decide)) (Js (JF (by decide)) U7)))
  (Eh (Gs (E:=E) (by walk_at "e"))
  (Eh (Uc (E:=E) (Ua (d_v 6))
  (Ft (Zqx (E:=E) Uz))
  bG)
  (Eh (yc (E:=E) (d_v 4) (by walk_at "e"))
  (Ft (Uc (E:=E) (HY (Gj (Qt cm_is_glass hr (by decide) CW (d_v 0))))
  (Ft (Zvt (E:=E) (nA (i:=3) (Vq 3 (by walk_at "e")) (d_v 4))))
  bG)))))))⟩)
def ZhB:Cal P w K mg base 6 "looked_at" ["things","points"] Li:=by
 have yaD:=Mh T;have yaI:=WL T;have c_far_depth:=yt T;have cy_look_at:=jT T
 exact cal1 (top 58) ["things","points","sights_by_point","least_depths","let_go","number","thing","near","far"] (by walk_at "D") (λhN f cdv A outer s H E hr=>⟨_,(Zqt (i:=2) (J:=[2]) hN rfl (Or.inl rfl) (own:=["point"]) (cap:=[]) (Cu (d_v 1)) (by walk_at "e") rfl (by walk_at "e") (by walk_at "e") (λ_ _ _ _ _=>(nY CT))
  (Eh (Gs (E:=E) (XR (i:=3) hN rfl (Or.inl rfl) (own:=["point"]) (cap:=[]) (Cu (d_v 1)) (by walk_at "e") rfl (by walk_at "e") (by walk_at "e") (λ_ _ _ _ _=>Ph)))
  (Eh (Gs (E:=E) (by walk_at "e"))
  (Eh (Rh (E:=E) PassesOwn.leaving rfl (Ni rfl (Nf T) (Bu (d_v 0) CT)) (by walk_at "e") (Uh (Js (JF (by decide)) (Js (JF (by decide)) U7)))
  (Eh (Gs (E:=E) (by walk_at "e"))
  (Eh (Gs (E:=E) (JQ (i:=8) hN rfl (Or.inl rfl) (Vq 3 (by walk_at "e"))))
  (Ft (Uc (E:=E) (by walk_at "e")
  (Ft (bQ (E:=E) (by walk_at "e")))
  (Ft (Z7 (E:=E) (l:=3) (lc:=(some 3)) cy_look_at hr (by decide) rfl CW (MT (d_v 6) (MT (d_v 1) (cG (jK X5)))))))))))
  (Ft (Yc (j:=4) rfl rfl))))))⟩)
def uR:Cal P w K mg base 2 "order_or_rising" ["order","count"] QM:=by
 have yal:=Lx T;obtain ⟨yau,yaj,yak⟩:=(Qg T)
 exact cal1 (top 55) ["order","count"] (by walk_at "D") (λhN f cdv A outer s H E hr=>⟨_,(Ai (Cm (Ua (d_v 0))
  (Ba (Eg (Yi rfl rfl (Kp T) rfl (Kz T) (Bu (d_v 1) CT))))
  Cj)
  (Ai (Cm (DW.dt (Kd (by walk_at "e") (Mj (HY (Gj (Ge (NP rfl) Ld rfl (Ma T) M9 (Bu (Dm (own:=["tile"]) (cap:=[]) (Cu (d_v 0)) (by walk_at "e") rfl (by walk_at "e") (by walk_at "e") (by walk_at "e")) CT)))))))
  (by walk_at "e")
  Cj)
  (Ai (Cm (QF hr (by walk_at "e") (Yi rfl rfl (Kp T) rfl (Kz T) (Bu (d_v 1) CT)))
  (by walk_at "e")
  Cj)
  (by walk_at "e"))))⟩)
theorem ud{f:Addr}{fd:FuncData}(F:Fun K "colour_at" "Plain.colour_at" Yh f fd):FnOk P w K mg base (CXR P w) 1 f fd ["self","values"] (spD K mg 2 Tt):=by
 exact okM F bZ (λcdv A outer s H E hr=>have hN:=bZ.nd;⟨_,(by walk_at "e")⟩)
theorem il{f:Addr}{fd:FuncData}(F:Fun K "colour_at" "Shaded.colour_at" Yk f fd):FnOk P w K mg base (CXR P w) 1 f fd ["self","values"] (spD K mg 2 Vg):=by
 exact okM F aQ (λcdv A outer s H E hr=>have hN:=aQ.nd;⟨_,(by walk_at "e")⟩)
def iB:Cal P w K mg base 1 "down" ["one"] Nz:=by
 exact cal1 (top 21) ["one"] (by walk_at "D") (by walk_at "E")
def gP:Cal P w K mg base 2 "entry_at" ["pattern","u","v"] Pu:=by
 have c_down:=iB T;exact cal1 (top 72) ["pattern","u","v","row"] (by walk_at "D") (by walk_at "E")
theorem d9{f:Addr}{fd:FuncData}(F:Fun K "colour_at" "Patterned.colour_at" Xf f fd):FnOk P w K mg base (CXR P w) 3 f fd ["self","values"] (spD K mg 2 J2):=by
 have c_entry_at:=gP T;exact okM F Xx (λcdv A outer s H E hr=>have hN:=Xx.nd;⟨_,(by walk_at "e")⟩)
theorem ZdH{f:Addr}{fd:FuncData}(F:Fun K "colour_at" "Glass.colour_at" Zu f fd):FnOk P w K mg base (CXR P w) 1 f fd ["self","values"] (spD K mg 2 bU):=by
 exact okM F YX (λcdv A outer s H E hr=>have hN:=YX.nd;⟨_,(by walk_at "e")⟩)
def vI:Fx P w K mg base 3 1 "colour_at" K9:=by
 walk_at "y"; refine' Fx.cons (Hz (g ?_) ⟨?_,?_,?_,?_⟩ ?_ ?_ (Eb ?_ ?_ ?_) (ud T) (by walk_at "b") (by decide) rfl) (.cons (Hz (g ?_) ⟨?_,?_,?_,?_⟩ ?_ ?_ (Eb ?_ ?_ ?_) (il T) (by walk_at "b") (by decide) rfl) (.cons (Hz (g ?_) ⟨?_,?_,?_,?_⟩ ?_ ?_ (Eb ?_ ?_ ?_) (d9 T) (by walk_at "b") (by decide) rfl) (.cons (Hz (g ?_) ⟨?_,?_,?_,?_⟩ ?_ ?_ (Eb ?_ ?_ ?_) (ZdH T) (by walk_at "b") (by decide) rfl) .nil)));walk_at "q"
def pW:Cal P w K mg base 3 "minus" ["one","other"] Lb:=by
 have yao:=IW T;exact cal1 (top 15) ["one","other"] (by walk_at "D") (by walk_at "E")
def aP:Cal P w K mg base 3 "plus" ["one","other"] Jd:=by
 have yao:=IW T;exact cal1 (top 14) ["one","other"] (by walk_at "D") (by walk_at "E")
def yE:Cal P w K mg base 3 "product" ["one","other"] Nj:=by
 have yao:=IW T;exact cal1 (top 16) ["one","other"] (by walk_at "D") (by walk_at "E")
def ZhZ:Cal P w K mg base 4 "laid_over" ["glass","colour"] N6:=by
 have c_minus:=pW T;have yaW:=aP T;have c_product:=yE T;exact cal1 (top 47) ["glass","colour","left"] (by walk_at "D") (by walk_at "E")
def ZfW:Cal P w K mg base 2 "layers_over" ["nearest","sights"] MP:=by
 have cm_is_glass:=Qv T;have yaD:=Mh T
 exact cal1 (top 46) ["nearest","sights","layers","sight","place"] (by walk_at "D") (λhN f cdv A outer s H E hr=>⟨_,(Ai (by walk_at "e")
  (Ai (Eu PassesOwn.leaving rfl (Cu (d_v 1)) (by walk_at "e")
  (Ba (Cm (DW.dt (YT (Gj (Qt cm_is_glass hr (by decide) CW (G8 (d_v 3) Ew))) (by walk_at "e")))
  (Ai (JQ (i:=4) hN rfl (Or.inl rfl) (Yj 2 (Ge Xm V9 rfl (SX T) T9 (Bu (Dm (own:=["layer"]) (cap:=[("sight",3)]) (Cu (d_v 2)) (by walk_at "e") rfl (by walk_at "e") (λ_ _ _ _ _=>aJ (by walk_at "e")) (λ_ _ _ _ _=>(d_v 0))) CT))))
  (Ba (zm 2 (d_v 4) (d_v 3))))
  Cj)))
  (by walk_at "e")))⟩)
def wW:Cal P w K mg base 2 "nearest_of" ["sights"] Oe:=by
 have cm_is_glass:=Qv T;have yaD:=Mh T
 exact cal1 (top 45) ["sights","nearest","sight"] (by walk_at "D") (λhN f cdv A outer s H E hr=>⟨_,(Ai (by walk_at "e")
  (Ai (Eu PassesOwn.leaving rfl (Cu (d_v 0)) (by walk_at "e")
  (Ai (Cm (Gj (Qt cm_is_glass hr (by decide) CW (G8 (d_v 2) Ew)))
  (Ba Uz)
  Cj)
  (by walk_at "e")))
  (by walk_at "e")))⟩)
def ZhL:Cal P w K mg base 5 "colour_of" ["sights","ground"] Nh:=by
 have cm_colour_at:=vI T;have c_laid_over:=ZhZ T;have c_layers_over:=ZfW T;have c_nearest_of:=wW T
 exact cal1 (top 44) ["sights","ground","nearest","colour","sight"] (by walk_at "D") (λhN f cdv A outer s H E hr=>⟨_,(Ai (by walk_at "e")
  (Ai (by walk_at "e")
  (Ai (Cm (XQ (d_v 2))
  (Ba (JQ (i:=3) hN rfl (Or.inl rfl) (iM cm_colour_at hr (by decide) CW (G8 (d_v 2) Ew) (by walk_at "e"))))
  Cj)
  (by walk_at "e"))))⟩)
def ZkN:Cal P w K mg base 4 "mean_of" ["some"] Qo:=by
 have yao:=IW T;have yaW:=aP T;exact cal1 (top 17) ["some","total","fraction"] (by walk_at "D") (by walk_at "E")
def ql:Cal P w K mg base 6 "cell_colour" ["sights_by_spot","ground"] Lw:=by
 have c_colour_of:=ZhL T;have yaS:=ZkN T;exact cal1 (top 48) ["sights_by_spot","ground"] (by walk_at "D") (λhN f cdv A outer s H E hr=>⟨_,(Ba (Eg (Hq yaS hr (by decide) rfl CW (Bu (Dm (own:=["sights"]) (cap:=[("ground",1)]) (Cu (d_v 0)) (by walk_at "e") rfl (by walk_at "e") (by walk_at "e") (by walk_at "e")) CT))))⟩)
def uP:CalY P w K mg base 7 "paint_cells" ["picture","cells","sights_by_point","ground"] 0 QG:=by
 have c_cell_colour:=ql T
 exact Def.calY (by walk_at "d") W0 (by decide) (λf cdv A outer s H E hr=>have hN:=W0.nd;⟨_,(Eh (Gs (E:=E) (by walk_at "e"))
  (Ft (Rh (E:=E) PassesOwn.leaving rfl (Ni rfl (Nf T) (Bu (d_v 1) CT)) (by walk_at "e") (Uh (Js (JF (by decide)) (Js (JF (by decide)) U7)))
  (Eh (Gs (E:=E) (by walk_at "e"))
  (Ft (ZqQ (E:=E) (by walk_at "e") (G8 (d_v 6) Ew) (G8 (d_v 6) Ew)))))))⟩)
def yW:Cal P w K mg base 1 "spot_at" ["column","row","spot"] Vo:=by
 exact cal1 (top 35) ["column","row","spot"] (by walk_at "D") (by walk_at "E")
def rE:Cal P w K mg base 2 "points_in" ["cells","spots"] Mw:=by
 have c_spot_at:=yW T
 exact cal1 (top 57) ["cells","spots","points","column","row"] (by walk_at "D") (λhN f cdv A outer s H E hr=>⟨_,(Ai (by walk_at "e")
  (Ai (Eu PassesOwn.leaving rfl (Cu (d_v 0)) (by walk_at "e")
  (Ba (V5 2 (Dm (own:=["spot"]) (cap:=[("row",4),("column",3)]) (Cu (d_v 1)) (by walk_at "e") rfl (by walk_at "e") (by walk_at "e") (by walk_at "e")))))
  (by walk_at "e")))⟩)
def tL:Cal P w K mg base 3 "is_spot" ["thing"] QW:=by
 have yag:=VH T;exact cal1 (top 41) ["thing"] (by walk_at "D") (by walk_at "E")
def gH:Cal P w K mg base 4 "check_spots" ["spots"] Ra:=by
 have c_is_spot:=tL T;obtain ⟨yau,yaj,yak⟩:=(Qg T);obtain ⟨tk_MOST_SPOTS,Tn⟩:=(Tn T)
 exact cal1 (top 40) ["spots"] (by walk_at "D") (λhN f cdv A outer s H E hr=>⟨_,(Ai (Cm (DW.dt (Kd (by walk_at "e") (Kd (by walk_at "e") (Mj (Tj (by walk_at "e") (M5 rfl Tn))))))
  (by walk_at "e")
  Cj)
  (Ai (Cm (HY (Gj (Ge (NP rfl) Ld rfl (Ma T) M9 (Bu (Dm (own:=["spot"]) (cap:=[]) (Cu (d_v 0)) (by walk_at "e") rfl (by walk_at "e") (by walk_at "e") (by walk_at "e")) CT))))
  (by walk_at "e")
  Cj)
  (Ba (Cm (QF hr (kZ hr rfl (SX T) rfl (ut T) (d_v 0)) (by walk_at "e"))
  (by walk_at "e")
  Cj))))⟩)
def gZ:Cal P w K mg base 5 "spots_or_middle" ["spots"] Ol:=by
 have c_check_spots:=gH T;exact cal1 (top 42) ["spots"] (by walk_at "D") (by walk_at "E")
def aH:Cal P w K mg base 1 "tiles_along" ["length","wide"] JT:=by
 exact cal1 (top 51) ["length","wide"] (by walk_at "D") (by walk_at "E")
def uL:Cal P w K mg base 2 "tile_cells" ["width","height","wide","tile"] M3:=by
 have yaE:=aH T
 exact cal1 (top 52) ["width","height","wide","tile","across","left","top","cells","row","column"] (by walk_at "D") (λhN f cdv A outer s H E hr=>⟨_,(Ai (by walk_at "e")
  (Ai (by walk_at "e")
  (Ai (by walk_at "e")
  (Ai (by walk_at "e")
  (Ai (Eu PassesOwn.leaving rfl (ZP rfl (Kp T) (by walk_at "e")) (by walk_at "e")
  (Ba (Eu PassesOwn.leaving rfl (ZP rfl (Kp T) (by walk_at "e")) (by walk_at "e")
  (by walk_at "e"))))
  (by walk_at "e"))))))⟩)
theorem ZfO{f:Addr}{fd:FuncData}{dV:Value}(F:FunD K "paint_tiles" "paint_tiles" HF dV f fd):FnOk P w K mg base (CXR P w) 8 f fd ["things","width","height","wide","order","spots","ground"] (spT K mg 7 H8):=by
 have c_check_floor:=iz T;have c_check_wide:=ZgH T;have c_ground_or_none:=pO T;have c_looked_at:=ZhB T;have c_order_or_rising:=uR T;have cy_paint_cells:=uP T;have c_points_in:=rE T;have c_spots_or_middle:=gZ T;have yaE:=aH T;have c_tile_cells:=uL T
 exact okTF F dW (λcdv A outer s H E hr=>have hN:=dW.nd;⟨_,(Mi (by walk_at "e")
  (Mi (by walk_at "e")
  (Mi (by walk_at "e")
  (Mi (by walk_at "e")
  (Mi (by walk_at "e")
  (wQ (i:=10) (J:=[10]) hN rfl (Or.inl rfl) (own:=["row"]) (cap:=[("width",1),("beneath",9)]) (by walk_at "e") (by walk_at "e") rfl (by walk_at "e") (by walk_at "e") (λ_ _ _ _ _=>(Zu0 (Bu (d_v 2) CT) (d_v 1)))
  (Eh (Gs (E:=E) (by walk_at "e"))
  (Eh (Rh (E:=E) PassesOwn.leaving rfl (Cu (d_v 7)) (by walk_at "e") (JF (by decide))
  (Eh (Gs (E:=E) (by walk_at "e"))
  (Eh (Gs (E:=E) (by walk_at "e"))
  (Eh (Z7 (E:=E) (l:=0) (lc:=none) cy_paint_cells hr (by decide) rfl CW (cG (MT (d_v 13) (MT (G8 (d_v 14) Ew) (MT (d_v 9) X5)))))
  (Ft (bQ (E:=E) (V5 11 (Dm (own:=["gone"]) (cap:=[("tile",12)]) (by walk_at "e") (by walk_at "e") rfl (by walk_at "e") (by walk_at "e") (by walk_at "e")))))))))
  (Ft (Yc (j:=11) rfl rfl))))))))))⟩)
def uM{f80:Addr}{od80:Option Addr}{an80:Option Addr}{sl80:Array (Option Value)}{oc80:Value}{kV80:Value}{dc80:Value}{pm80:Value}{cd80:Value}{ct80:Value}{dT80:Addr}{dc_80:Value}{dd_80:Option Addr}{dn_80:Nat}{ds_80:Array (Option Value)}(a80:W.nsIn K mainGlobals "paint_tiles"=some (some (.ref f80)))(l80:K.lookup f80=some ⟨oc80,od80,.func (W.fnOf "paint_tiles" "paint_tiles" (Gz HF) (Dv HF) (Ax HF) (.ref dT80) kV80 dc80 pm80 an80 cd80 ct80),sl80⟩)(c80:W.codeIn K cd80 "paint_tiles"=true)(k80:W.keepIn K (.ref f80)=true)(dl80:K.lookup dT80=some ⟨dc_80,dd_80,.seq #[.none,.none,.none] dn_80,ds_80⟩):CalT P w K mg base 8 "paint_tiles" ["things","width","height","wide","order","spots","ground"] H8/\Rn P w K mg base 8 "paint_tiles" ["things","width","height","wide","order","spots","ground"] [] [none] H8:=by
 have e:FunD K "paint_tiles" "paint_tiles" HF (.ref dT80) f80 _:=⟨_,_,_,_,_,_,_,_,_,rfl,l80,c80⟩;have a:=ZfO T e;have b:Binds K (W.fnOf "paint_tiles" "paint_tiles" (Gz HF) (Dv HF) (Ax HF) (.ref dT80) kV80 dc80 pm80 an80 cd80 ct80) ["things","width","height","wide","order","spots","ground"] []:=λs c X d=>My.ln7 (P:=λc=>BindsTo s _ {pos:=c} (List.zip (["things","width","height","wide","order","spots","ground"]:List Str) (c++[]))) (λ_ _ _ _ _ _ _=>BindsTo.of_defaults rfl (X _ _ dl80) rfl rfl rfl) c (by simpa using d)
 exact ⟨⟨_,_,a,b,k80,T.2 a80⟩,⟨_,_,a,λs c h X d=>by
  have g:c.length=6:=by have f:=d;simp [Mf] at f;ac_rfl
  match c,g with
  | [_,_,_,_,_,_],_=>
   exact BindsTo.of_defaults rfl (X _ _ dl80) rfl rfl rfl,k80,T.2 a80⟩⟩
def cY:CalT P w K mg base 8 "paint_tiles" ["things","width","height","wide","order","spots","ground"] H8/\Rn P w K mg base 8 "paint_tiles" ["things","width","height","wide","order","spots","ground"] [] [none] H8:=by
 walk_at "y"; refine' uM T ?_ ?_ ?_ ?_ ?_;walk_at "q"
theorem oJ{f:Addr}{fd:FuncData}(F:Fun K "law" "law" Ko f fd):FnOk P w K mg base (CXR P w) 11 f fd ["_law_script"] (spD K mg 1 Ru):=by
 have yan:=Tq T;have c__law_cells:=pF T;have c__law_cover:=qw T;have yai:=O3 T;have c__law_order:=vJ T;have c__law_spots:=tU T;have c__law_things:=iV T;have c__law_tile_due:=uY T;have ct_paint_tiles:=(cY T).1;have yav:=(cY T).2
 exact okD F bK (λcdv A outer s H E hr=>have hN:=bK.nd;⟨_,(Ai (by walk_at "e")
  (Ai (by walk_at "e")
  (Ai (by walk_at "e")
  (Ai (by walk_at "e")
  (Ai (by walk_at "e")
  (Ai (by walk_at "e")
  (Ai (by walk_at "e")
  (Ai (by walk_at "e")
  (Ai (by walk_at "e")
  (Ai (by walk_at "e")
  (Ai (by walk_at "e")
  (Ai (Eu PassesOwn.leaving rfl (Cu (d_v 10)) (by walk_at "e")
  (Ai (by walk_at "e")
  (Ai (Eu PassesOwn.leaving rfl (by walk_at "e") (by walk_at "e")
  (Ba (JQ (i:=13) hN rfl (Or.inl rfl) (X7 (d_v 13) (Dm (own:=["_law_dx","_law_dy"]) (cap:=[("_law_row",15),("_law_column",14)]) (Cu (d_v 8)) (by walk_at "e") rfl (λ_ _ _ _ _=>(dZ rfl (Ss (Qq (i:=0) (show List.Nodup (["_law_dx","_law_dy","_law_row","_law_column"]:List Str) by decide +kernel) rfl (Or.inl rfl) (by decide)) (Ss (Qq (i:=1) (show List.Nodup (["_law_dx","_law_dy","_law_row","_law_column"]:List Str) by decide +kernel) rfl (Or.inl rfl) (by decide)) YQ)))) (by walk_at "e") (by walk_at "e"))))))
  (by walk_at "e"))))
  (Ai (Eu PassesOwn.leaving rfl (by walk_at "e") (by walk_at "e")
  (fH (i:=17) hN rfl (Or.inl rfl) (z9 yav hr (by decide) rfl CW (by walk_at "e")) (by walk_at "e")
  (Ba (Eg JN))
  Cj))
  (Ba (Eg JN)))))))))))))))⟩)
end
def mH{w:World}{h:Heap}{mg:Str->Option Value}{fa:Addr}(X:(Hd.heap w.params).In h)(G:h.Ns mainGlobals mg)(hfa:mg "law"=some (.ref fa)):∃fd:FuncData,(∀(s:Shared) (v:Value),BindsTo s fd ⟨[v],[]⟩ [("_law_script",v)])/\∀base:Heap,(Hd.heap w.params).In base->base.Ns mainGlobals mg->FnOk PySem.Challenge.rw_sampleyard_k63_let_go.prog w (Hd.heap w.params) mg base (CXR PySem.Challenge.rw_sampleyard_k63_let_go.prog w) 11 fa fd ["_law_script"] (Qm (Hd.heap w.params)):=by
 have g:∀{x:Str} {v:Option Value},W.nsIn (Hd.heap w.params) mainGlobals x=some v->mg x=v:=λ{x v} e=>by
  cases v with
  | none=>exact W.mg_none_of X G e
  | some u=>exact W.mg_of X G e
 refine' lawK (g ?_) hfa ?_ ?_ ?_ λbase fd F=>(oJ ⟨rfl,g⟩ F).imp (jc vd);walk_at "q"
def walk{l:W.OpenLaw}{q:Program}{loose:List Str}{XP:(Str->Option Value)->Heap->Prop}{YP:World->Heap->Prop}{d:DefRec}{K:Params->W.Frag}(hn:l.most=some 63)(hdf:d.params.defaults=[])
  (hY:∀(w:World) (h:Heap),YP w h->(K w.params).In h)
  (F:∀(w:World) (mg:Str->Option Value) (fa:Addr) (h:Heap),(K w.params).In h->h.Ns mainGlobals mg->mg d.name=some (.ref fa) ->
   ∃fd:FuncData,(∀(s:Shared) (u:Value),BindsTo s fd ⟨[u],[]⟩ [("_law_script",u)])/\∀base:Heap,(K w.params).In base->base.Ns mainGlobals mg->FnOk l.prog w (K w.params) mg base (CXR l.prog w) 11 fa fd ["_law_script"] (Qm (K w.params))) :
  W.WalkO q loose XP YP l.row.toRowW d [] (λf vs=>PySem.call f vs) :=
 L2.yh (n:=63) (k:=11) (x:="_law_script") (CX:=λw=>CXR l.prog w) (sp:=λw=>Qm (K w.params)) hn (by decide) hdf ⟨rfl,by decide,by decide⟩ hY F (λ_ _ a e c _ b=>⟨a,e,rfl,b,c,λ_=>rfl⟩) λ_ _ _ _ _ z=>rB z
end My
open PySem PySem.W PyProof.Rows
set_option maxRecDepth 100000 in
set_option maxHeartbeats 0 in
theorem PySem.Challenge.cw_sampleyard_k63_let_go_holds : PySem.Challenge.rw_sampleyard_k63_let_go.Holds := by
 w_on;refine holds_law Hd.said λsaid=>?_
 refine holds_open (r:=PySem.Challenge.rw_sampleyard_k63_let_go.row) (q:=Hd.view) (loose:=["paint_tiles"]) (Xt:=(λs=>xlAt Hd.view [] s&&recOk (RowW.records PySem.Challenge.rw_sampleyard_k63_let_go.row.toRowW) s)) (XP:=XL Hd.view []) (Yf:=Hook.obs (kHook Hd.heap Hd.addrs Hd.Kc)) (Ya:=Hook.val (kHook Hd.heap Hd.addrs Hd.Kc)) (YP:=Hook.says (kHook Hd.heap Hd.addrs Hd.Kc)) (N:=Hd.most) Hd.left (Hook.of (kHook Hd.heap Hd.addrs Hd.Kc)) (Hook.keeps (kHook Hd.heap Hd.addrs Hd.Kc)) (λs e=>xl_of s (Bool.and_eq_true_iff.mp e).1) XL.keeps (by rfl) (by rfl) (by rfl) (λs e=>recFacts_of (Bool.and_eq_true_iff.mp e).2) (by rfl) (by assumption) Hd.okO Hd.bar ?hw ?hc
 case hw=>w_witness2
 exact My.walk (l:=PySem.Challenge.rw_sampleyard_k63_let_go) rfl rfl (λw h Y0=>W.kIn_of Y0) λw mg fa h KX G hmg=>My.mH KX G hmg
