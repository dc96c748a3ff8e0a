import PyProof.Rows.All
import Wide.All
import OpenK.AllK
import Wide.FinOn
import Lean
import KE.KSortTup
import KE.KLam
import KE.KNestM
import PyProof.EqAt
import PyProof.EqKinds
import PyProof.TupleCall
import PyProof.P3Eq
import PyProof.NeData
import PySem.Challenge.RW_sampleyard_k92_whole_floors_shifted
set_option Elab.async false
set_option linter.all false
set_option maxRecDepth 100000
set_option compiler.extract_closed false
noncomputable section
abbrev iP:=@if_pos
abbrev iN:=@if_neg
abbrev aB:=@absurd
def Hd.said:PySem.W.OpenLaw.wellSaid PySem.Challenge.rw_sampleyard_k92_whole_floors_shifted=true:=by kernel_rfl
abbrev Fp:=@List.map_congr_left
abbrev Bt:=@Option.some.inj
abbrev HQ:=@decide_eq_false
abbrev Ru:=@beq_eq_false_iff_ne
abbrev Aq:=@PySem.Heap.lt_size
abbrev Bu:=@Nat.lt_of_lt_of_le
abbrev Gu:=@Nat.lt_irrefl
abbrev BK:=@Nat.ne_of_lt
abbrev Jy:=@PySem.W.hideAll_get
abbrev JX:=@List.mem_filter
abbrev G4:=@PySem.W.of_hideAll
abbrev CN:=@List.mem_range
abbrev CK:=@Nat.le_trans
abbrev JT:=@Nat.le_of_lt
abbrev Jd:=@List.filterMap_cons
abbrev BR:=@List.mem_cons_self
abbrev BP:=@List.mem_cons_of_mem
abbrev Ij:=@PySem.Heap.get?_none_of_le
abbrev Aj:=@List.mem_cons
abbrev HH:=@List.mem_append
abbrev GP:=@List.mem_append_left
abbrev Cm:=@List.getElem?_eq_some_iff
abbrev CP:=@PySem.wpAny_mono
abbrev Kq:=@Array.length_toList
abbrev CV:=@congrArg
abbrev Ac:=@PySem.wpAny_bind
abbrev Cz:=@PySem.wpAny_holding
abbrev Js:=@PySem.wpAny_standAt
abbrev Ad:=@PySem.wpAny_pure
abbrev Hx:=@PySem.wpAny_newObj_type
abbrev Ao:=@PySem.Heap.get?_push_of_some
abbrev G6:=@PySem.wpAny_rule
abbrev JB:=@PySem.wpAny_passesOwn
abbrev Dp:=@Bool.false_ne_true
abbrev FN:=@Nat.ne_of_gt
abbrev Bp:=@PySem.Heap.get?_push_size
abbrev Al:=@Nat.le_refl
abbrev G3:=@PyProof.Rows.callWith_type1
abbrev LQ:=@List.mem_filterMap
abbrev DQ:=@List.mem_append_right
abbrev Qa:=@Int.fdiv_eq_ediv_of_nonneg
abbrev CW:=@List.length_cons
abbrev Ba:=@List.map_cons
abbrev Af:=@List.length_map
abbrev Ck:=@PySem.Heap.size_push
abbrev Gh:=@Nat.lt_succ_self
abbrev DR:=@Nat.zero_le
abbrev Gg:=@PySem.W.kia_one
abbrev Bl:=@List.append_nil
abbrev Jw:=@PySem.codeAny_mono
abbrev Ov:=@PySem.wpAny_Call_Name_kw
abbrev Ja:=@Nat.le_succ
abbrev Ht:=@List.nodup_cons
abbrev Ml:=@List.of_mem_zip
abbrev Ie:=@List.length_take
abbrev EY:=@PySem.mem_of_lookup
abbrev Fo:=@List.getElem?_append_right
abbrev Ib:=@List.getElem?_replicate
abbrev Ea:=@List.getElem?_append_left
abbrev By:=@List.getElem?_map
abbrev G5:=@List.mem_of_getElem?
abbrev Bo:=@List.length_append
abbrev Jq:=@List.length_replicate
abbrev Bg:=@List.size_toArray
abbrev CJ:=@if_false
abbrev Dd:=@if_true
abbrev Bx:=@PySem.wpAny_field
abbrev MK:=@List.length_drop
abbrev Hq:=@PySem.wpAny_callSpecial?_slot
abbrev O1:=@PyProof.Rows.slot_tuple_getitem
abbrev Gz:=@PySem.wpAny_call_entry
abbrev Kh:=@PySem.wpAny_typeOf
abbrev Iz:=@Bool.and_eq_true
abbrev Ih:=@PySem.Heap.get?_update_self
abbrev G9:=@PySem.Heap.get?_update_other
abbrev Eu:=@List.length_set
abbrev Gk:=@List.replicate_succ
abbrev Ir:=@List.flatten_cons
abbrev Do:=@List.append_assoc
abbrev Hn:=@List.length_singleton
abbrev Q8:=@Array.getElem?_toList
abbrev Dz:=@Nat.succ_mul
abbrev Gi:=@Nat.add_comm
abbrev Ew:=@decide_eq_true
abbrev G7:=@Nat.lt_of_le_of_lt
abbrev JZ:=@List.forIn_cons
abbrev Gf:=@Nat.lt_succ_of_lt
abbrev JK:=@List.lookup_cons
abbrev BJ:=@Nat.lt_trans
abbrev Bf:=@List.mem_map
abbrev JC:=@Array.getElem?_eq_some_iff
abbrev JD:=@List.drop_eq_getElem_cons
abbrev Dg:=@Bool.false_eq_true
abbrev Mp:=@PySem.wpAny_pyIter_list
abbrev Mg:=@List.take_of_length_le
abbrev RN:=@PySem.F.slot_tuple_iterator_next
abbrev Dn:=@PySem.wpAny_seqItems
abbrev HS:=@Int.toNat_natCast
abbrev Lx:=@PySem.wpAny_setField
abbrev Q5:=@PySem.Heap.SameBut.update
abbrev Ou:=@PySem.Obj.data_mapFields
abbrev Er:=@PySem.wpAny_setField_rec
abbrev J8:=@List.forIn_nil
abbrev Gm:=@PySem.wpAny_onRaise
abbrev HB:=@PySem.wpAny_letGo
abbrev HY:=@PySem.F.slot_zip_next
abbrev CZ:=@List.not_mem_nil
abbrev Gq:=@or_false
abbrev Bv:=@List.length_range
abbrev QT:=@List.getElem?_range
abbrev BX:=@List.getElem?_eq_getElem
abbrev J7:=@List.drop_eq_nil_of_le
abbrev DN:=@List.map_map
abbrev KQ:=@Nat.zero_add
abbrev J9:=@PySem.F.plainAttrs_list
abbrev Kz:=@PySem.wpAny_updateSeq
abbrev RJ:=@Array.forIn_toList
abbrev Nm:=@PySem.codeAny_builtin
abbrev Pu:=@PySem.Around.under_plainId
abbrev QZ:=@PySem.F.plain_extend_loop
abbrev Du:=@List.map_append
abbrev Lf:=@List.length_eq_zero_iff
abbrev Hz:=@List.mem_singleton
abbrev KC:=@List.mem_iff_getElem
abbrev Hk:=@Nat.mod_lt
abbrev IK:=@Int.emod_nonneg
abbrev Iv:=@Int.emod_lt_of_pos
abbrev Qw:=@List.pairwise_iff_getElem
abbrev Jg:=@List.getElem_mem
abbrev Je:=@List.map_take
abbrev Ji:=@List.map_drop
abbrev FQ:=@List.pairwise_cons
abbrev La:=@PySem.wpAny_setState_of
abbrev J0:=@PySem.Heap.size_update
abbrev Jm:=@PySem.Heap.get?_push_ne
abbrev IW:=@Int.toNat_of_nonneg
abbrev Kc:=@Int.natAbs_natCast
abbrev Nf:=@Int.natAbs_dvd_natAbs
abbrev Ii:=@Int.mul_pos
abbrev Ik:=@Int.mul_le_mul_of_nonneg_right
abbrev JS:=@Rat.num_divInt_den
abbrev HF:=@Rat.le_trans
abbrev Gj:=@List.filter_cons
abbrev dH:=@List.foldl_append
abbrev KN:=@List.filter_append
abbrev NT:=@List.filter_nil
abbrev Qc:=@List.filter_eq_nil_iff
abbrev Km:=@Nat.mul_le_mul_right
abbrev Lg:=@List.zipWith_cons_cons
abbrev Lb:=@List.range_add
abbrev Ga:=@List.flatMap_cons
abbrev K3:=@List.flatMap_append
abbrev Hm:=@Nat.mul_le_mul
abbrev Iu:=@Int.natCast_mul
namespace L2
open PySem
def inClass(s:Stmt)(j:Nat):Stmt:=match s with
 | .ClassDef _ _ _ body _ _ _ _ _ _ _=>body.getD j (.Pass ⟨0,0,0,0⟩)
 | _=>.Pass ⟨0,0,0,0⟩
def Fd(s:Stmt):Arguments:=match s with
 | .FunctionDef _ a _ _ _ _ _ _ _ _=>a
 | _=>{ posonlyargs:=[],args:=[],vararg:=none,kwonlyargs:=[],kw_defaults:=[],kwarg:=none,defaults:=[] }
def DX(s:Stmt):List Stmt:=match s with
 | .FunctionDef _ _ b _ _ _ _ _ _ _=>b
 | _=>[]
def Av(s:Stmt):Scope:=match s with
 | .FunctionDef _ _ _ _ _ _ sc _ _ _=>sc
 | _=>{ kind:=.function,names:=[],isGenerator:=false,isCoroutine:=false }
end L2
namespace Hd
open PySem PySem.W L2
abbrev top(i:Nat):Stmt:=PySem.Challenge.pw_sampleyard_k92_whole_floors_shifted.main.body.getD i (.Pass ⟨0,0,0,0⟩)
noncomputable def view:Program:={ PySem.Challenge.pw_sampleyard_k92_whole_floors_shifted with main:={ PySem.Challenge.pw_sampleyard_k92_whole_floors_shifted.main with body:=[top 0,top 2,top 3,top 4,top 5,top 7,top 8,top 9,top 10,top 12,top 13,top 14,top 15,top 16,top 17,top 18,top 19,top 20,top 22,top 23,top 24,top 25,top 26,top 27,top 29,top 30,top 31,top 33,top 35,top 36,top 37,top 38,top 39,top 40,top 41,top 42,top 43,top 44,top 45,top 46,top 48,top 49,top 50,top 52,top 53,top 54,top 55,top 57,top 58,top 59,top 60,top 61,top 62,top 63,top 65,top 66,top 67,top 68,top 69,top 70,top 72,top 73,top 74,top 75,top 76,top 77,top 79,top 80,top 81,top 82,top 83,top 84,top 85,top 86,top 87,top 88] } }
abbrev S(x:String):Str:=Str.ofString x
abbrev st(x:String)(t:Nat):Value:=.str (Str.ofString x) t
abbrev en(P:Params)(x:String)(t:Nat)(v:Value):DictEntry:=⟨PyData.keyHash P (Str.ofString x),.str (Str.ofString x) t,v⟩
abbrev fd(s:Stmt)(n q:String)(an:Option Addr)(d k c e m t:Value):Data:=.func { name:=Str.ofString n,qualname:=Str.ofString q,params:=Fd s,body:=.stmts (DX s),scope:=Av s,globals:=mainGlobals,closure:=[],defaults:=d,kwdefaults:=k,doc:=e,pyModule:=m,annotations:=an,code:=c,closureTuple:=t,builtins:=builtinsNs }
abbrev T(xs:Array Value):Obj:=⟨.type "tuple",none,.seq xs 0,#[]⟩
abbrev F(s:Stmt)(n q:String)(an:Option Addr)(d k c e m t:Value):Obj:=⟨.type "function",none,fd s n q an d k c e m t,#[]⟩
abbrev G(i:Nat)(n:String)(c:Nat)(m:String)(t:Nat):Obj:=F (top i) n n none .none .none (.ref c) .none (st m t) .none
abbrev D(es:List DictEntry)(n:Nat):Obj:=⟨.type "dict",none,.dict (List.toArray es) n,#[]⟩
abbrev C(n:String)(a:Nat)(q:String)(b c:Nat)(d e f g h:Int)(i:Value)(j:Bool)(k:Int)(l m o p r:Value)(s t:Int)(u:Nat):Obj:=⟨.type "code",none,.fields #[st n a,st q b,st "/claim/cut.py" c,.int d 0,.int e 0,.int f 0,.int g 0,.int h 0,i,.bool j,.int k 0,l,m,o,p,r,.int s 0,.int t 0,st "/claim/cut.py" u],#[]⟩
abbrev B(n:String)(a b c:Nat)(d e:Int)(i l o p r:Nat)(s:Int)(u:Nat):Obj:=C n a n b c d e 0 0 3 (.ref i) true 181 (.ref l) .none (.ref o) (.ref p) (.ref r) s d u
abbrev E(n:String)(a b c:Nat)(d e:Int)(i l r:Nat)(s:Int)(u:Nat):Obj:=C n a n b c d e 0 0 3 (.ref i) true 181 (.ref l) .none .none .none (.ref r) s d u
abbrev L(n:String)(b m:List Value)(a:Addr)(s:List Value)(sl:Array (Option Value)):Obj:=⟨.type "type",none,.cls { name:=Str.ofString n,bases:=b,mro:=m,ns:=a,qualname:=Str.ofString n,hasDict:=true,slotNames:=[],subclasses:=s,abstract:=false,collection:=none,hasDel:=false },sl⟩
abbrev B1(n:String)(a:Nat)(d e:Int)(i s:Nat):Obj:=B n a (a+1) (a+2) d e i (i+1) (i+2) (i+3) (i+4) (Int.ofNat s) (s+1)
abbrev E1(n:String)(a:Nat)(d e:Int)(i s:Nat):Obj:=E n a (a+1) (a+2) d e i (i+1) (i+2) (Int.ofNat s) (s+1)
abbrev G1(i:Nat)(n:String)(c:Nat)(m:Value):Obj:=F (top i) n n none .none .none (.ref c) .none m .none
abbrev o0_:Value:=st "__main__" 164
abbrev o1_:Value:=st "sampleyard.whole" 262
abbrev o2_:Value:=st "sampleyard.fractions" 299
abbrev o3_:Value:=st "sampleyard.edges" 376
abbrev o4_:Value:=st "sampleyard.seen" 431
abbrev o5_:Value:=st "sampleyard.spots" 453
abbrev o6_:Value:=st "sampleyard.paint" 464
abbrev o7_:Value:=st "sampleyard.corners" 575
abbrev o8_:Value:=st "sampleyard.things" 599
abbrev o9_:Value:=st "sampleyard.tiles" 813
abbrev o10_:Value:=st "law_sampleyard_k92_whole_floors_shifted" 920
noncomputable def heap:Params->Frag:=λP=>
  (nat_lit 2,⟨.none,none,(.dict (List.toArray []) 0),#[]⟩)::
(nat_lit 3,D [(en P "__name__" 165 (st "law_sampleyard_k92_whole_floors_shifted" 920)),(en P "__doc__" 166 .none),(en P "__package__" 167 .none),(en P "__loader__" 168 (.builtin "__main__.__loader__#opaque")),(en P "__spec__" 169 .none),(en P "__annotations__" 170 (.ref 6)),(en P "__builtins__" 171 (.ref 4)),(en P "__file__" 173 (st "/claim/cut.py" 172)),(en P "__cached__" 174 .none),(en P "_wall" 193 (.ref 21)),(en P "YardError" 213 (.ref 31)),(en P "BadTriangle" 229 (.ref 44)),(en P "BadThing" 245 (.ref 56)),(en P "BadFloor" 261 (.ref 68)),(en P "is_whole" 270 (.ref 77)),(en P "is_between" 279 (.ref 84)),(en P "greatest_divisor" 290 (.ref 91)),(en P "summed_products" 298 (.ref 98)),(en P "ratio" 309 (.ref 105)),(en P "plus" 317 (.ref 112)),(en P "minus" 325 (.ref 119)),(en P "product" 333 (.ref 126)),(en P "mean_of" 342 (.ref 133)),(en P "under" 350 (.ref 140)),(en P "least_of" 359 (.ref 147)),(en P "greatest_of" 368 (.ref 154)),(en P "is_fraction" 375 (.ref 161)),(en P "side" 388 (.ref 168)),(en P "edge_numbers" 396 (.ref 175)),(en P "edge_sum" 405 (.ref 182)),(en P "check_before_eye" 413 (.ref 189)),(en P "had" 422 (.ref 196)),(en P "weights" 430 (.ref 203)),(en P "seen_at" 440 (.ref 210)),(en P "depth_and_values" 446 (.ref 215)),(en P "weighed_h" 452 (.ref 220)),(en P "spot_at" 463 (.ref 227)),(en P "MOST_CELLS" 467 (.int (64) 466)),(en P "MOST_SPOTS" 469 (.int (16) 468)),(en P "check_floor" 477 (.ref 234)),(en P "check_spots" 483 (.ref 239)),(en P "is_spot" 490 (.ref 246)),(en P "spots_or_middle" 497 (.ref 253)),(en P "ground_or_none" 504 (.ref 260)),(en P "sights_at" 515 (.ref 267)),(en P "colour_of" 526 (.ref 274)),(en P "nearest_of" 535 (.ref 281)),(en P "layers_over" 541 (.ref 286)),(en P "laid_over" 550 (.ref 293)),(en P "paint" 556 (.ref 299)),(en P "painted_row" 562 (.ref 304)),(en P "sights_in" 568 (.ref 309)),(en P "cell_colour" 574 (.ref 314)),(en P "MOST_VALUES" 578 (.int (3) 577)),(en P "check_triangle" 586 (.ref 321)),(en P "is_corner" 592 (.ref 326)),(en P "are_values" 598 (.ref 331)),(en P "Thing" 636 (.ref 355)),(en P "Plain" 685 (.ref 397)),(en P "Shaded" 732 (.ref 437)),(en P "Glass" 790 (.ref 484)),(en P "check_values" 798 (.ref 493)),(en P "check_colour" 805 (.ref 500)),(en P "check_part" 812 (.ref 507)),(en P "MOST_WIDE" 816 (.int (64) 815)),(en P "tiles_along" 824 (.ref 514)),(en P "tile_cells" 840 (.ref 521)),(en P "near_depth" 846 (.ref 526)),(en P "check_wide" 853 (.ref 533)),(en P "order_or_rising" 859 (.ref 538)),(en P "paint_tiles" 865 (.ref 544)),(en P "points_in" 871 (.ref 549)),(en P "looked_at" 877 (.ref 554)),(en P "far_depth" 884 (.ref 561)),(en P "look_at" 897 (.ref 568)),(en P "lesser" 905 (.ref 575)),(en P "paint_cells" 919 (.ref 582)),(en P "_law_cell_at" 929 (.ref 589)),(en P "_law_mixed" 938 (.ref 596)),(en P "_law_corner" 944 (.ref 601)),(en P "_law_shifted" 958 (.ref 608)),(en P "_law_lowest" 968 (.ref 615)),(en P "_law_thing" 974 (.ref 620)),(en P "_law_things" 980 (.ref 625)),(en P "_law_part" 986 (.ref 630)),(en P "_law_order" 997 (.ref 637)),(en P "law" 1003 (.ref 642))] 87)::
(nat_lit 20,B1 "_wall" 187 1 1 15 191)::
(nat_lit 21,G1 0 "_wall" 20 o0_)::
(nat_lit 22,T #[(.type "ValueError")])::
(nat_lit 30,D [(en P "__module__" 203 (st "sampleyard.errors" 194)),(en P "__firstlineno__" 207 (.int (5) 206)),(en P "__static_attributes__" 208 (.ref 29)),(en P "__weakref__" 210 (.ref 32)),(en P "__doc__" 211 .none)] 3)::
(nat_lit 31,L "YardError" [(.type "ValueError")] [(.ref 31),(.type "ValueError"),(.type "Exception"),(.type "BaseException"),(.type "object")] 30 [(.ref 44),(.ref 56),(.ref 68)] #[(some (.ref 22)),none,(some (st "YardError" 196)),(some (st "YardError" 204)),(some (.builtin "ValueError.__new__")),(some (.bool true))])::
(nat_lit 32,⟨(.type "getset_descriptor"),none,(.fields #[(st "__weakref__" 209),(.ref 31),(.builtin "ExceptionGroup.__weakref__"),.none]),#[]⟩)::
(nat_lit 35,T #[(.ref 31)])::
(nat_lit 43,D [(en P "__module__" 221 (st "sampleyard.errors" 194)),(en P "__firstlineno__" 225 (.int (7) 224)),(en P "__static_attributes__" 226 (.ref 42)),(en P "__doc__" 227 .none)] 2)::
(nat_lit 44,L "BadTriangle" [(.ref 31)] [(.ref 44),(.ref 31),(.type "ValueError"),(.type "Exception"),(.type "BaseException"),(.type "object")] 43 [] #[(some (.ref 35)),none,(some (st "BadTriangle" 214)),(some (st "BadTriangle" 222)),(some (.builtin "ValueError.__new__")),(some (.bool true))])::
(nat_lit 47,T #[(.ref 31)])::
(nat_lit 55,D [(en P "__module__" 237 (st "sampleyard.errors" 194)),(en P "__firstlineno__" 241 (.int (9) 240)),(en P "__static_attributes__" 242 (.ref 54)),(en P "__doc__" 243 .none)] 2)::
(nat_lit 56,L "BadThing" [(.ref 31)] [(.ref 56),(.ref 31),(.type "ValueError"),(.type "Exception"),(.type "BaseException"),(.type "object")] 55 [] #[(some (.ref 47)),none,(some (st "BadThing" 230)),(some (st "BadThing" 238)),(some (.builtin "ValueError.__new__")),(some (.bool true))])::
(nat_lit 59,T #[(.ref 31)])::
(nat_lit 67,D [(en P "__module__" 253 (st "sampleyard.errors" 194)),(en P "__firstlineno__" 257 (.int (11) 256)),(en P "__static_attributes__" 258 (.ref 66)),(en P "__doc__" 259 .none)] 2)::
(nat_lit 68,L "BadFloor" [(.ref 31)] [(.ref 68),(.ref 31),(.type "ValueError"),(.type "Exception"),(.type "BaseException"),(.type "object")] 67 [] #[(some (.ref 59)),none,(some (st "BadFloor" 246)),(some (st "BadFloor" 254)),(some (.builtin "ValueError.__new__")),(some (.bool true))])::
(nat_lit 76,B1 "is_whole" 264 14 1 71 268)::
(nat_lit 77,G1 7 "is_whole" 76 o1_)::
(nat_lit 83,B1 "is_between" 271 16 3 78 277)::
(nat_lit 84,G1 8 "is_between" 83 o1_)::
(nat_lit 90,B1 "greatest_divisor" 280 18 1 85 288)::
(nat_lit 91,G1 9 "greatest_divisor" 90 o1_)::
(nat_lit 97,B1 "summed_products" 291 27 2 92 296)::
(nat_lit 98,G1 10 "summed_products" 97 o1_)::
(nat_lit 104,B1 "ratio" 301 30 2 99 307)::
(nat_lit 105,G1 12 "ratio" 104 o2_)::
(nat_lit 111,B1 "plus" 310 35 2 106 315)::
(nat_lit 112,G1 13 "plus" 111 o2_)::
(nat_lit 118,B1 "minus" 318 37 2 113 323)::
(nat_lit 119,G1 14 "minus" 118 o2_)::
(nat_lit 125,B1 "product" 326 39 2 120 331)::
(nat_lit 126,G1 15 "product" 125 o2_)::
(nat_lit 132,B1 "mean_of" 334 41 1 127 340)::
(nat_lit 133,G1 16 "mean_of" 132 o2_)::
(nat_lit 139,B1 "under" 343 46 2 134 348)::
(nat_lit 140,G1 17 "under" 139 o2_)::
(nat_lit 146,B1 "least_of" 351 48 1 141 357)::
(nat_lit 147,G1 18 "least_of" 146 o2_)::
(nat_lit 153,B1 "greatest_of" 360 54 1 148 366)::
(nat_lit 154,G1 19 "greatest_of" 153 o2_)::
(nat_lit 160,B1 "is_fraction" 369 60 1 155 373)::
(nat_lit 161,G1 20 "is_fraction" 160 o2_)::
(nat_lit 167,B1 "side" 378 67 3 162 386)::
(nat_lit 168,G1 22 "side" 167 o3_)::
(nat_lit 174,B1 "edge_numbers" 389 73 2 169 394)::
(nat_lit 175,G1 23 "edge_numbers" 174 o3_)::
(nat_lit 181,B1 "edge_sum" 397 75 3 176 403)::
(nat_lit 182,G1 24 "edge_sum" 181 o3_)::
(nat_lit 188,B1 "check_before_eye" 406 77 1 183 411)::
(nat_lit 189,G1 25 "check_before_eye" 188 o3_)::
(nat_lit 195,B1 "had" 414 81 2 190 420)::
(nat_lit 196,G1 26 "had" 195 o3_)::
(nat_lit 202,B1 "weights" 423 87 2 197 428)::
(nat_lit 203,G1 27 "weights" 202 o3_)::
(nat_lit 209,B1 "seen_at" 433 90 2 204 438)::
(nat_lit 210,G1 29 "seen_at" 209 o4_)::
(nat_lit 214,E1 "depth_and_values" 441 94 2 211 444)::
(nat_lit 215,G1 30 "depth_and_values" 214 o4_)::
(nat_lit 219,E1 "weighed_h" 447 99 2 216 450)::
(nat_lit 220,G1 31 "weighed_h" 219 o4_)::
(nat_lit 226,B1 "spot_at" 455 102 3 221 461)::
(nat_lit 227,G1 33 "spot_at" 226 o5_)::
(nat_lit 233,B1 "check_floor" 470 107 2 228 475)::
(nat_lit 234,G1 37 "check_floor" 233 o6_)::
(nat_lit 238,E1 "check_spots" 478 110 1 235 481)::
(nat_lit 239,G1 38 "check_spots" 238 o6_)::
(nat_lit 245,B1 "is_spot" 484 117 1 240 488)::
(nat_lit 246,G1 39 "is_spot" 245 o6_)::
(nat_lit 252,B1 "spots_or_middle" 491 121 1 247 495)::
(nat_lit 253,G1 40 "spots_or_middle" 252 o6_)::
(nat_lit 259,B1 "ground_or_none" 498 126 1 254 502)::
(nat_lit 260,G1 41 "ground_or_none" 259 o6_)::
(nat_lit 266,B1 "sights_at" 505 128 2 261 513)::
(nat_lit 267,G1 42 "sights_at" 266 o6_)::
(nat_lit 273,B1 "colour_of" 516 135 2 268 524)::
(nat_lit 274,G1 43 "colour_of" 273 o6_)::
(nat_lit 280,B1 "nearest_of" 527 143 1 275 533)::
(nat_lit 281,G1 44 "nearest_of" 280 o6_)::
(nat_lit 285,E1 "layers_over" 536 151 2 282 539)::
(nat_lit 286,G1 45 "layers_over" 285 o6_)::
(nat_lit 292,B1 "laid_over" 542 158 2 287 548)::
(nat_lit 293,G1 46 "laid_over" 292 o6_)::
(nat_lit 294,T #[.none,.none])::
(nat_lit 298,E1 "paint" 551 161 5 295 554)::
(nat_lit 299,F (top 47) "paint" "paint" none (.ref 294) .none (.ref 298) .none (st "sampleyard.paint" 464) .none)::
(nat_lit 303,E1 "painted_row" 557 166 5 300 560)::
(nat_lit 304,G1 48 "painted_row" 303 o6_)::
(nat_lit 308,E1 "sights_in" 563 168 4 305 566)::
(nat_lit 309,G1 49 "sights_in" 308 o6_)::
(nat_lit 313,E1 "cell_colour" 569 170 2 310 572)::
(nat_lit 314,G1 50 "cell_colour" 313 o6_)::
(nat_lit 320,B1 "check_triangle" 579 174 1 315 584)::
(nat_lit 321,G1 53 "check_triangle" 320 o7_)::
(nat_lit 325,E1 "is_corner" 587 182 1 322 590)::
(nat_lit 326,G1 54 "is_corner" 325 o7_)::
(nat_lit 330,E1 "are_values" 593 188 1 327 596)::
(nat_lit 331,G1 55 "are_values" 330 o7_)::
(nat_lit 344,C "__init__" 613 "Thing.__init__" 614 615 195 2 0 0 3 (.ref 339) true 181 (.ref 340) .none (.ref 341) (.ref 342) (.ref 343) 618 195 619)::
(nat_lit 345,F (inClass (top 57) 0) "__init__" "Thing.__init__" none .none .none (.ref 344) .none (st "sampleyard.things" 599) .none)::
(nat_lit 351,C "is_glass" 621 "Thing.is_glass" 622 623 200 1 0 0 3 (.ref 346) true 181 (.ref 347) .none (.ref 348) (.ref 349) (.ref 350) 625 200 626)::
(nat_lit 352,F (inClass (top 57) 1) "is_glass" "Thing.is_glass" none .none .none (.ref 351) .none (st "sampleyard.things" 599) .none)::
(nat_lit 354,D [(en P "__module__" 608 (st "sampleyard.things" 599)),(en P "__firstlineno__" 612 (.int (193) 611)),(en P "__init__" 620 (.ref 345)),(en P "is_glass" 627 (.ref 352)),(en P "__static_attributes__" 629 (.ref 353)),(en P "__dict__" 631 (.ref 356)),(en P "__weakref__" 633 (.ref 357)),(en P "__doc__" 634 .none)] 4)::
(nat_lit 355,L "Thing" [(.type "object")] [(.ref 355),(.type "object")] 354 [(.ref 397),(.ref 437),(.ref 484)] #[none,none,(some (st "Thing" 601)),(some (st "Thing" 609)),(some (.builtin "object.__new__")),(some (.bool true))])::
(nat_lit 356,⟨(.type "getset_descriptor"),none,(.fields #[(st "__dict__" 630),(.ref 355),(.builtin "function.__dict__"),(.builtin "function.__dict__#set")]),#[]⟩)::
(nat_lit 357,⟨(.type "getset_descriptor"),none,(.fields #[(st "__weakref__" 632),(.ref 355),(.builtin "ExceptionGroup.__weakref__"),.none]),#[]⟩)::
(nat_lit 360,T #[(.ref 355)])::
(nat_lit 372,C "__init__" 649 "Plain.__init__" 650 651 204 3 0 0 3 (.ref 367) true 181 (.ref 368) .none (.ref 369) (.ref 370) (.ref 371) 655 204 656)::
(nat_lit 373,F (inClass (top 58) 0) "__init__" "Plain.__init__" none .none .none (.ref 372) .none (st "sampleyard.things" 599) .none)::
(nat_lit 379,C "word" 658 "Plain.word" 659 660 209 1 0 0 3 (.ref 374) true 181 (.ref 375) .none (.ref 376) (.ref 377) (.ref 378) 662 209 663)::
(nat_lit 380,F (inClass (top 58) 1) "word" "Plain.word" none .none .none (.ref 379) .none (st "sampleyard.things" 599) .none)::
(nat_lit 386,C "colour_at" 665 "Plain.colour_at" 666 667 212 2 0 0 3 (.ref 381) true 181 (.ref 382) .none (.ref 383) (.ref 384) (.ref 385) 670 212 671)::
(nat_lit 387,F (inClass (top 58) 2) "colour_at" "Plain.colour_at" none .none .none (.ref 386) .none (st "sampleyard.things" 599) .none)::
(nat_lit 393,C "like" 673 "Plain.like" 674 675 215 2 0 0 3 (.ref 388) true 181 (.ref 389) .none (.ref 390) (.ref 391) (.ref 392) 678 215 679)::
(nat_lit 394,F (inClass (top 58) 3) "like" "Plain.like" none .none .none (.ref 393) .none (st "sampleyard.things" 599) .none)::
(nat_lit 396,D [(en P "__module__" 644 (st "sampleyard.things" 599)),(en P "__firstlineno__" 648 (.int (202) 647)),(en P "__init__" 657 (.ref 373)),(en P "word" 664 (.ref 380)),(en P "colour_at" 672 (.ref 387)),(en P "like" 680 (.ref 394)),(en P "__static_attributes__" 682 (.ref 395)),(en P "__doc__" 683 .none)] 2)::
(nat_lit 397,L "Plain" [(.ref 355)] [(.ref 397),(.ref 355),(.type "object")] 396 [] #[(some (.ref 360)),none,(some (st "Plain" 637)),(some (st "Plain" 645)),(some (.builtin "object.__new__")),(some (.bool true))])::
(nat_lit 400,T #[(.ref 355)])::
(nat_lit 412,C "__init__" 698 "Shaded.__init__" 699 700 219 2 0 0 3 (.ref 407) true 181 (.ref 408) .none (.ref 409) (.ref 410) (.ref 411) 703 219 704)::
(nat_lit 413,F (inClass (top 59) 0) "__init__" "Shaded.__init__" none .none .none (.ref 412) .none (st "sampleyard.things" 599) .none)::
(nat_lit 419,C "word" 706 "Shaded.word" 707 708 223 1 0 0 3 (.ref 414) true 181 (.ref 415) .none (.ref 416) (.ref 417) (.ref 418) 710 223 711)::
(nat_lit 420,F (inClass (top 59) 1) "word" "Shaded.word" none .none .none (.ref 419) .none (st "sampleyard.things" 599) .none)::
(nat_lit 426,C "colour_at" 713 "Shaded.colour_at" 714 715 226 2 0 0 3 (.ref 421) true 181 (.ref 422) .none (.ref 423) (.ref 424) (.ref 425) 718 226 719)::
(nat_lit 427,F (inClass (top 59) 2) "colour_at" "Shaded.colour_at" none .none .none (.ref 426) .none (st "sampleyard.things" 599) .none)::
(nat_lit 433,C "like" 721 "Shaded.like" 722 723 229 2 0 0 3 (.ref 428) true 181 (.ref 429) .none (.ref 430) (.ref 431) (.ref 432) 726 229 727)::
(nat_lit 434,F (inClass (top 59) 3) "like" "Shaded.like" none .none .none (.ref 433) .none (st "sampleyard.things" 599) .none)::
(nat_lit 436,D [(en P "__module__" 693 (st "sampleyard.things" 599)),(en P "__firstlineno__" 697 (.int (217) 696)),(en P "__init__" 705 (.ref 413)),(en P "word" 712 (.ref 420)),(en P "colour_at" 720 (.ref 427)),(en P "like" 728 (.ref 434)),(en P "__static_attributes__" 729 (.ref 435)),(en P "__doc__" 730 .none)] 2)::
(nat_lit 437,L "Shaded" [(.ref 355)] [(.ref 437),(.ref 355),(.type "object")] 436 [] #[(some (.ref 400)),none,(some (st "Shaded" 686)),(some (st "Shaded" 694)),(some (.builtin "object.__new__")),(some (.bool true))])::
(nat_lit 440,T #[(.ref 355)])::
(nat_lit 452,C "__init__" 745 "Glass.__init__" 746 747 233 4 0 0 3 (.ref 447) true 181 (.ref 448) .none (.ref 449) (.ref 450) (.ref 451) 752 233 753)::
(nat_lit 453,F (inClass (top 60) 0) "__init__" "Glass.__init__" none .none .none (.ref 452) .none (st "sampleyard.things" 599) .none)::
(nat_lit 459,C "word" 755 "Glass.word" 756 757 240 1 0 0 3 (.ref 454) true 181 (.ref 455) .none (.ref 456) (.ref 457) (.ref 458) 759 240 760)::
(nat_lit 460,F (inClass (top 60) 1) "word" "Glass.word" none .none .none (.ref 459) .none (st "sampleyard.things" 599) .none)::
(nat_lit 466,C "is_glass" 762 "Glass.is_glass" 763 764 243 1 0 0 3 (.ref 461) true 181 (.ref 462) .none (.ref 463) (.ref 464) (.ref 465) 766 243 767)::
(nat_lit 467,F (inClass (top 60) 2) "is_glass" "Glass.is_glass" none .none .none (.ref 466) .none (st "sampleyard.things" 599) .none)::
(nat_lit 473,C "colour_at" 769 "Glass.colour_at" 770 771 246 2 0 0 3 (.ref 468) true 181 (.ref 469) .none (.ref 470) (.ref 471) (.ref 472) 774 246 775)::
(nat_lit 474,F (inClass (top 60) 3) "colour_at" "Glass.colour_at" none .none .none (.ref 473) .none (st "sampleyard.things" 599) .none)::
(nat_lit 480,C "like" 777 "Glass.like" 778 779 249 2 0 0 3 (.ref 475) true 181 (.ref 476) .none (.ref 477) (.ref 478) (.ref 479) 782 249 783)::
(nat_lit 481,F (inClass (top 60) 4) "like" "Glass.like" none .none .none (.ref 480) .none (st "sampleyard.things" 599) .none)::
(nat_lit 483,D [(en P "__module__" 740 (st "sampleyard.things" 599)),(en P "__firstlineno__" 744 (.int (231) 743)),(en P "__init__" 754 (.ref 453)),(en P "word" 761 (.ref 460)),(en P "is_glass" 768 (.ref 467)),(en P "colour_at" 776 (.ref 474)),(en P "like" 784 (.ref 481)),(en P "__static_attributes__" 787 (.ref 482)),(en P "__doc__" 788 .none)] 2)::
(nat_lit 484,L "Glass" [(.ref 355)] [(.ref 484),(.ref 355),(.type "object")] 483 [] #[(some (.ref 440)),none,(some (st "Glass" 733)),(some (st "Glass" 741)),(some (.builtin "object.__new__")),(some (.bool true))])::
(nat_lit 492,B1 "check_values" 791 251 2 487 796)::
(nat_lit 493,G1 61 "check_values" 492 o8_)::
(nat_lit 499,B1 "check_colour" 799 254 1 494 803)::
(nat_lit 500,G1 62 "check_colour" 499 o8_)::
(nat_lit 506,B1 "check_part" 806 257 1 501 810)::
(nat_lit 507,G1 63 "check_part" 506 o8_)::
(nat_lit 513,B1 "tiles_along" 817 262 2 508 822)::
(nat_lit 514,G1 66 "tiles_along" 513 o9_)::
(nat_lit 520,B1 "tile_cells" 825 264 4 515 838)::
(nat_lit 521,G1 67 "tile_cells" 520 o9_)::
(nat_lit 525,E1 "near_depth" 841 273 1 522 844)::
(nat_lit 526,G1 68 "near_depth" 525 o9_)::
(nat_lit 532,B1 "check_wide" 847 275 1 527 851)::
(nat_lit 533,G1 69 "check_wide" 532 o9_)::
(nat_lit 537,E1 "order_or_rising" 854 278 2 534 857)::
(nat_lit 538,G1 70 "order_or_rising" 537 o9_)::
(nat_lit 539,T #[.none,.none,.none])::
(nat_lit 543,E1 "paint_tiles" 860 286 7 540 863)::
(nat_lit 544,F (top 71) "paint_tiles" "paint_tiles" none (.ref 539) .none (.ref 543) .none (st "sampleyard.tiles" 813) .none)::
(nat_lit 548,E1 "points_in" 866 300 2 545 869)::
(nat_lit 549,G1 72 "points_in" 548 o9_)::
(nat_lit 553,E1 "looked_at" 872 305 2 550 875)::
(nat_lit 554,G1 73 "looked_at" 553 o9_)::
(nat_lit 560,B1 "far_depth" 878 317 1 555 882)::
(nat_lit 561,G1 74 "far_depth" 560 o9_)::
(nat_lit 567,B1 "look_at" 885 321 4 562 895)::
(nat_lit 568,G1 75 "look_at" 567 o9_)::
(nat_lit 574,B1 "lesser" 898 329 2 569 903)::
(nat_lit 575,G1 76 "lesser" 574 o9_)::
(nat_lit 581,B1 "paint_cells" 906 331 4 576 917)::
(nat_lit 582,G1 77 "paint_cells" 581 o9_)::
(nat_lit 588,B1 "_law_cell_at" 922 337 2 583 927)::
(nat_lit 589,G1 79 "_law_cell_at" 588 o10_)::
(nat_lit 595,B1 "_law_mixed" 930 341 2 590 936)::
(nat_lit 596,G1 80 "_law_mixed" 595 o10_)::
(nat_lit 600,E1 "_law_corner" 939 347 3 597 942)::
(nat_lit 601,G1 81 "_law_corner" 600 o10_)::
(nat_lit 607,B1 "_law_shifted" 945 362 3 602 956)::
(nat_lit 608,G1 82 "_law_shifted" 607 o10_)::
(nat_lit 614,B1 "_law_lowest" 959 369 2 609 966)::
(nat_lit 615,G1 83 "_law_lowest" 614 o10_)::
(nat_lit 619,E1 "_law_thing" 969 375 3 616 972)::
(nat_lit 620,G1 84 "_law_thing" 619 o10_)::
(nat_lit 624,E1 "_law_things" 975 386 3 621 978)::
(nat_lit 625,G1 85 "_law_things" 624 o10_)::
(nat_lit 629,E1 "_law_part" 981 388 6 626 984)::
(nat_lit 630,G1 86 "_law_part" 629 o10_)::
(nat_lit 636,B1 "_law_order" 987 392 2 631 995)::
(nat_lit 637,G1 87 "_law_order" 636 o10_)::
(nat_lit 641,E1 "law" 998 398 1 638 1001)::
(nat_lit 642,G1 88 "law" 641 o10_)::
[]
noncomputable abbrev addrs:List Addr:=[2,3,20,21,22,30,31,32,35,43,44,47,55,56,59,67,68,76,77,83,84,90,91,97,98,104,105,111,112,118,119,125,126,132,133,139,140,146,147,153,154,160,161,167,168,174,175,181,182,188,189,195,196,202,203,209,210,214,215,219,220,226,227,233,234,238,239,245,246,252,253,259,260,266,267,273,274,280,281,285,286,292,293,294,298,299,303,304,308,309,313,314,320,321,325,326,330,331,344,345,351,352,354,355,356,357,360,372,373,379,380,386,387,393,394,396,397,400,412,413,419,420,426,427,433,434,436,437,440,452,453,459,460,466,467,473,474,480,481,483,484,492,493,499,500,506,507,513,514,520,521,525,526,532,533,537,538,539,543,544,548,549,553,554,560,561,567,568,574,575,581,582,588,589,595,596,600,601,607,608,614,615,619,620,624,625,629,630,636,637,641,642]
abbrev most:Nat:=8550
def K9(P:Params):addrs=(heap P).map (·.1):=rfl
abbrev hook:Hook:=kHook heap addrs K9
end Hd
namespace Hd
open PySem PySem.W PyProof.Rows
def Mu(tb:String->Option Builtin)(p:Program)(w:World)(n₀:Nat)(ann:Option Value):Nat->SharedT->Thread->Option SharedT
 | 0,_,_=>none
 | n+1,s,t=>match through t with
  | true=>some s
  | false=>match stepOk n₀ ann t with
   | false=>none
   | true=>match stepT (denote tb) p w s t with
    | some (s',t')=>Mu tb p w n₀ ann n s' t'
    | none=>none
def Yl{tb:String->Option Builtin}{p:Program}{w:World}{n₀:Nat}{ann:Option Value}:∀{n:Nat} {s s':SharedT} {t:Thread},Mu tb p w n₀ ann n s t=some s'->topRun tb p w n₀ ann n s.abs t=some s'.abs
 | 0,_,_,_,h=>by cases h
 | n+1,s,s',t,h=>by
  unfold Mu at h;unfold topRun;cases he:through t with
  | true=>rw [he] at h;cases h;rfl
  | false=>
   rw [he] at h;cases hk:stepOk n₀ ann t with
   | false=>rw [hk] at h;cases h
   | true=>
    rw [hk] at h;cases hs:stepT (denote tb) p w s t with
    | none=>rw [hs] at h;cases h
    | some r=>obtain ⟨s₂,t₂⟩:=r;rw [hs] at h;rw [stepT_spec hs];exact Yl h
def RC(p:Program)(w:World)(n₀:Nat)(ann:Option Value):Nat->SharedT->Thread->Option SharedT
 | 0,_,_=>none
 | n+1,s,t=>match through t with
  | true=>some s
  | false=>match Fast.tw6613529449190102663 n₀ ann t with
   | false=>none
   | true=>match Fast.tw10156331382660048174 (Fast.tw11892475500146522536 Fast.tw14364793385576792824) p w s t with
    | some (s',t')=>RC p w n₀ ann n s' t'
    | none=>none
def aK(p:Program)(w:World)(n₀:Nat)(ann:Option Value):∀(n:Nat) (s:SharedT) (t:Thread),Mu treeTable p w n₀ ann n s t=RC p w n₀ ann n s t
 | 0,_,_=>rfl
 | n+1,s,t=>by
  unfold Mu RC;rw [Fast.te6613529449190102663,Fast.te10156331382660048174,Fast.te11892475500146522536,Fast.te14364793385576792824];cases through t with
  | true=>rfl
  | false=>
   cases Fast.tw6613529449190102663 n₀ ann t with
   | false=>rfl
   | true=>
    cases Fast.tw10156331382660048174 (Fast.tw11892475500146522536 Fast.tw14364793385576792824) p w s t with
    | none=>rfl
    | some r=>
     obtain ⟨a,b⟩:=r;have:=aK p w n₀ ann n a b;rw [Fast.te14364793385576792824] at this;exact this
def WD(i:Nat)(t:BT):List Obj->BT
 | []=>t
 | o::r=>WD (i+1) (t.ins i o) r
def eU(w:World)(os:OsState):SharedT:=⟨WD 0 .nil (boot_heap w.params).objs.toList,(boot_heap w.params).objs.size,(boot_heap w.params).life,Array.mk [],boot_drawn,boot_toks,os⟩
def lW(w:World)(os:OsState):(eU w os).abs=⟨boot_heap w.params,Array.mk [],boot_drawn,boot_toks,os⟩:=by kernel_rfl
def obsT(as:List Addr)(s:SharedT):List (Option Obj):=as.map λa=>match Nat.blt a s.n with
 | true=>alive ((s.tree.get a).getD default)
 | false=>none
def tR(as:List Addr)(s:SharedT):as.map s.abs.heap.get?=obsT as s:=by
 unfold obsT;refine Fp λa _=>?_;show (absHeap s.tree s.n s.life).get? a=_;unfold Heap.get?;rw [absHeap_at];by_cases h:a<s.n
 .rw [iP h,show Nat.blt a s.n=true from Nat.ble_eq.mpr h];generalize (s.tree.get a).getD default=o;obtain ⟨c,d,b,e⟩:=o;cases b<;>rfl
 .rw [iN h,show Nat.blt a s.n=false from Bool.eq_false_iff.mpr λz=>h (Nat.le_of_ble_eq_true z)]
abbrev U0{α:Type}(p:Program)(N m₀:Nat)(ann:Option Value)(f:SharedT->α)(d:α)(w:World)(os:OsState):Prop:=(RC p w m₀ ann N (eU w os) (topStub p)).map f=some d
abbrev U1{α:Type}(p q:Program)(loose:List Str)(Xt:Shared->Bool)(N m₀:Nat)(ann:Option Value)(g0:Bool)(Yt:SharedT->α)(Ya:World->α):Prop:=∀w os,U0 p N m₀ ann (λs=>((staticsOk (importedModules p.main.body) (boot_heap w.params) s.abs.heap&&namesBound p s.abs.heap&&gensDone s.abs&&laidKept (boot_heap w.params) s.abs.heap),Yt s,(Fast.tw4187177175401517315 q loose (importedModules p.main.body) Xt g0 s.abs).1)) (true,Ya w,expectedOf q) w os
abbrev U2(p q:Program)(loose:List Str)(Xt:Shared->Bool)(N m₀:Nat)(ann:Option Value)(g0:Bool):Prop:=∀w os,U0 p N m₀ ann (λs=>((Fast.tw4187177175401517315 q loose (importedModules p.main.body) Xt g0 s.abs).2.1,(Fast.tw4187177175401517315 q loose (importedModules p.main.body) Xt g0 s.abs).2.2.1,(Fast.tw4187177175401517315 q loose (importedModules p.main.body) Xt g0 s.abs).2.2.2.1)) (bltViewBooted,true,true) w os
abbrev U3(p q:Program)(loose:List Str)(Xt:Shared->Bool)(N m₀:Nat)(ann:Option Value)(g0:Bool):Prop:=∀w os,U0 p N m₀ ann (λs=>(Fast.tw4187177175401517315 q loose (importedModules p.main.body) Xt g0 s.abs).2.2.2.2) (pinGoodD (drecsOf q),plainGoodE q (looseW q loose),plainGoodD q loose,wideGood q,clsGoodW q loose) w os
def xV{p q:Program}{loose:List Str}{Xt:Shared->Bool}{α:Type}{Yf:Shared->α}{Yt:SharedT->α}{Ya:World->α}{N m₀:Nat}{ann:Option Value}{g0:Bool}(hY:∀s,Yf s.abs=Yt s)
  (e:opening p=plainProg p.main.scope.names) (hN:Nat.ble 600 N=true) (f:∀s,fenceModules? p s=some s)
  (hz:∀w:World,((boot_heap w.params).isNs mainGlobals,(boot_heap w.params).objs.size,(boot_heap w.params).nsMap mainGlobals "__annotations__")=(true,m₀,ann))
  (h:U1 p q loose Xt N m₀ ann g0 Yt Ya) (hh:U2 p q loose Xt N m₀ ann g0) (hj:U3 p q loose Xt N m₀ ann g0) :
  LeftO p q loose Xt Yf Ya N g0:=λw=>by
 obtain ⟨s,m,n⟩:=Option.map_eq_some_iff.mp (boot_open e hN f w);unfold openEnds;rw [m];obtain ⟨v,g,d,k,b⟩:=s;obtain ⟨rfl,rfl,rfl,rfl⟩ : v=boot_heap w.params/\g=Array.mk []/\d=boot_drawn/\k=boot_toks:=by simpa using n
 obtain ⟨a,c,l⟩:=Option.map_eq_some_iff.mp (h w b);have j:(_:Option _).map _=_:=hh w b;have i:(_:Option _).map _=_:=hj w b;rw [c] at j i;rw [<-aK] at c;rw [<-Fast.te4187177175401517315] at l j i;have r:=Yl c;rw [lW] at r;obtain ⟨t,z,y⟩ : _/\_/\_:=by simpa only [Prod.mk.injEq] using hz w
 obtain ⟨A,u,o⟩ : _/\_/\_:=by simpa only [Prod.mk.injEq] using l
 obtain ⟨x,B,C⟩ : _/\_/\_:=by simpa only [Prod.mk.injEq] using Bt j
 have D:openSeen q loose (importedModules p.main.body) Xt g0 a.abs=openGood q loose:=Prod.ext o (Prod.ext x (Prod.ext B (Prod.ext C (Bt i))));show (topFrom treeTable p w N ⟨boot_heap w.params,Array.mk [],boot_drawn,boot_toks,b⟩).map _=_;unfold topFrom;dsimp only;rw [t]
 show (((topRun treeTable p w (boot_heap w.params).objs.size ((boot_heap w.params).nsMap mainGlobals "__annotations__") N ⟨boot_heap w.params,Array.mk [],boot_drawn,boot_toks,b⟩ (topStub p)).bind λa=>match staticsOk (importedModules p.main.body) (boot_heap w.params) a.heap&&namesBound p a.heap&&gensDone a&&laidKept (boot_heap w.params) a.heap with
   | true=>some a
   | false=>none).map _)=_
 rw [z,y,r]
 show ((match staticsOk (importedModules p.main.body) (boot_heap w.params) a.abs.heap&&namesBound p a.abs.heap&&gensDone a.abs&&laidKept (boot_heap w.params) a.abs.heap with
   | true=>some a.abs
   | false=>none).map _)=_
 rw [A];show some (openSeen q loose (importedModules p.main.body) Xt g0 a.abs,Yf a.abs)=_;rw [D,hY,u]
set_option maxRecDepth 100000 in
set_option maxHeartbeats 0 in
def l1:U1 PySem.Challenge.pw_sampleyard_k92_whole_floors_shifted view ["paint","paint_tiles"] (λs=>xlAt view [] s&&recOk (RowW.records PySem.Challenge.rw_sampleyard_k92_whole_floors_shifted.row.toRowW) s) most 11 (some (.ref 6)) true (obsT addrs) (Hook.val hook):=λw a=>by kernel_rfl
set_option maxRecDepth 100000 in
set_option maxHeartbeats 0 in
def l2:U2 PySem.Challenge.pw_sampleyard_k92_whole_floors_shifted view ["paint","paint_tiles"] (λs=>xlAt view [] s&&recOk (RowW.records PySem.Challenge.rw_sampleyard_k92_whole_floors_shifted.row.toRowW) s) most 11 (some (.ref 6)) true:=λw a=>by kernel_rfl
set_option maxRecDepth 100000 in
set_option maxHeartbeats 0 in
def l3:U3 PySem.Challenge.pw_sampleyard_k92_whole_floors_shifted view ["paint","paint_tiles"] (λs=>xlAt view [] s&&recOk (RowW.records PySem.Challenge.rw_sampleyard_k92_whole_floors_shifted.row.toRowW) s) most 11 (some (.ref 6)) true:=λw a=>by kernel_rfl
def left:LeftO PySem.Challenge.pw_sampleyard_k92_whole_floors_shifted view ["paint","paint_tiles"] (λs=>xlAt view [] s&&recOk (RowW.records PySem.Challenge.rw_sampleyard_k92_whole_floors_shifted.row.toRowW) s) (Hook.obs hook) (Hook.val hook) most :=
 xV (tR addrs) (by kernel_rfl) (by decide) (λs=>by kernel_rfl) (λw=>by kernel_rfl) l1 l2 l3
def okO:(chainsOk view&&opensWell PySem.Challenge.rw_sampleyard_k92_whole_floors_shifted.row.prog&&(frees PySem.Challenge.rw_sampleyard_k92_whole_floors_shifted.row.toRowW&&PySem.Challenge.rw_sampleyard_k92_whole_floors_shifted.row.within.isEmpty))=true:=by decide +kernel
def bar:PySem.Challenge.rw_sampleyard_k92_whole_floors_shifted.row.prog.bare:=⟨rfl,rfl,rfl,rfl,rfl,by decide +kernel⟩
end Hd
set_option maxHeartbeats 4000000
section
open PySem PySem.Spec PyProof.Rows
abbrev ND(x:PySem.Str):=(x==("__debug__" : PySem.Str))=false
abbrev NE(x:PySem.Str):=(x==("__classdict__" : PySem.Str))=false
namespace L2
inductive V where
 | non | bl (b:Bool) | int (i:Int) | str (x:Str) | ref (a:Addr) | ty (n:String)
 deriving DecidableEq
def RelV:V->Value->Prop
 | .non,u=>u=Value.none
 | .bl b,u=>u=Value.bool b
 | .int i,u=>∃t,u=Value.int i t
 | .str x,u=>∃t,u=Value.str x t
 | .ref a,u=>u=Value.ref a
 | .ty n,u=>u=Value.type n
abbrev Vals:List V->List Value->Prop:=Paired RelV
def Vals.length(r:Vals xs us):xs.length=us.length:=Paired.length r
def Vals.get:∀{xs:List V} {us:List Value} {i:Nat} {x:V},Vals xs us->xs[i]?=some x->∃u,us[i]?=some u/\RelV x u
 | _,_,_,_,.nil,e=>by simp at e
 | _,_,0,_,.cons r _,e=>by simp at e;subst e;exact ⟨_,rfl,r⟩
 | _,_,i+1,x,.cons _ t,e=>by
  obtain ⟨u,a,b⟩:=Vals.get t (by simpa using e);exact ⟨u,by simpa using a,b⟩
def Vals.set(r:RelV x u):∀{xs:List V} {us:List Value} (i:Nat),Vals xs us->Vals (xs.set i x) (us.set i u)
 | _,_,_,.nil=>.nil
 | _,_,0,.cons _ t=>.cons r t
 | _,_,i+1,.cons q t=>.cons q (Vals.set r i t)
def Vals.append:∀{xs ys:List V} {us ws:List Value},Vals xs us->Vals ys ws->Vals (xs++ys) (us++ws)
 | _,_,_,_,.nil,s=>s
 | _,_,_,_,.cons r t,s=>.cons r (Vals.append t s)
def Vals.take:∀{xs:List V} {us:List Value} (n:Nat),Vals xs us->Vals (xs.take n) (us.take n)
 | _,_,0,_=>.nil
 | _,_,_+1,.nil=>.nil
 | _,_,n+1,.cons r t=>.cons r (Vals.take n t)
def Vals.drop:∀{xs:List V} {us:List Value} (n:Nat),Vals xs us->Vals (xs.drop n) (us.drop n)
 | _,_,0,r=>r
 | _,_,_+1,.nil=>.nil
 | _,_,n+1,.cons _ t=>Vals.drop n t
def RelO:Option V->Option Value->Prop
 | some v,some u=>RelV v u
 | none,none=>True
 | _,_=>False
inductive HO where
 | lst (xs:List V)
 | tup (xs:List V)
 | ins (C dx:Addr) (fs:List (Str×V))
 | own (x:Addr)
 | xd (fs:List (Str×V))
 | frz (o:Obj) (u:HO)
 | tbl (ps:Array Value)
 | ext (φ:Heap->Prop)
abbrev Hp:=Addr->Option HO
def upd(H:Hp)(a:Addr)(o:HO):Hp:=λb=>if b=a then some o else H b
def Ak:upd H a o a=some o:=by unfold upd;rw [iP rfl]
def Ag(h:b≠a):upd H a o b=H b:=by unfold upd;rw [iN h]
def Ay{H:Hp}{a b:Addr}{o:HO}(h:H a=some o)(h':H b=none):a≠b:=by
 intro e;subst e;rw [h] at h';cases h'
section
variable(P:Program)(w:World)
def Dy(P:Program)(w:World)(H:Hp)(h:Heap)(a:Addr):HO->Prop
 | .lst c=>c.length<=sizeLine/\∃b n,Vals c b/\h.get? a=some { cls:=.type "list",data:=.seq b.toArray n }
 | .tup c=>c.length<=sizeLine/\∃b,Vals c b/\IsTup h a b.toArray
 | .ins C dx fs=>H dx=some (.own a)/\fs.length<=1000/\dx≠a/\h.get? a=some (W.instObj C dx) /\
   ∃d,h.Ns1 dx d/\(∀f,RelO (fs.lookup f) (d f))/\PySem.Within d (fs.map (·.1))
 | .own _=>∃o,h.get? a=some o
 | .xd fs=>∃d,h.Ns1 a d/\∀f,RelO (fs.lookup f) (d f)
 | .frz o u=>h.get? a=some o/\Dy P w H h a u
 | .tbl ps=>h.get? a=some { cls:=.none,data:=.fields ps }
 | .ext φ=>φ h/\(∃o,h.get? a=some o)/\∀e g,φ e->(∀o,e.get? a=some o->g.get? a=some o)->φ g
def HOk(H:Hp)(h:Heap):Prop:=∀a o,H a=some o->Dy P w H h a o
end
section
variable{P:Program}{w:World}{H H':Hp}{h h':Heap}{a:Addr}{o:HO}
def Dy.lt(x:Dy P w H h a o):a<h.objs.size:=by
 cases o with
 | lst xs=>obtain ⟨_,_,_,_,e⟩:=x;exact Aq e
 | tup xs=>obtain ⟨_,_,_,p⟩:=x;exact p.lt
 | ins C dx fs=>obtain ⟨_,_,_,e,_⟩:=x;exact Aq e
 | own y=>obtain ⟨_,e⟩:=x;exact Aq e
 | xd fs=>obtain ⟨_,⟨_,_,_,e,_⟩,_⟩:=x;exact Aq e
 | frz ob u=>obtain ⟨e,_⟩:=x;exact Aq e
 | tbl ps=>exact Aq (x)
 | ext φ=>obtain ⟨_,⟨_,e⟩,_⟩:=x;exact Aq e
def Dy.stay(x:Dy P w H h a o)(k:∀b u,(b=a\/H b=some (.own a))->h.get? b=some u->h'.get? b=some u)(ho:∀b,H b=some (.own a)->H' b=some (.own a))(ht:∀b xs,H b=some (.tup xs)->H' b=some (.tup xs)):Dy P w H' h' a o:=by
 induction o with
 | lst xs=>obtain ⟨z,its,n,r,e⟩:=x;exact ⟨z,its,n,r,k _ _ (.inl rfl) e⟩
 | tup xs=>obtain ⟨z,its,r,g,e,c⟩:=x;exact ⟨z,its,r,g,k _ _ (.inl rfl) e,c⟩
 | ins C dx fs=>
  obtain ⟨d,z,s,e,m,⟨l,i,j,A,c⟩,r⟩:=x;exact ⟨ho _ d,z,s,k _ _ (.inl rfl) e,m,⟨l,i,j,k _ _ (.inr d) A,c⟩,r⟩
 | own y=>obtain ⟨g,e⟩:=x;exact ⟨g,k _ _ (.inl rfl) e⟩
 | xd fs=>obtain ⟨m,⟨l,i,j,e,c⟩,r⟩:=x;exact ⟨m,⟨l,i,j,k _ _ (.inl rfl) e,c⟩,r⟩
 | frz g u ih=>obtain ⟨e,q⟩:=x;exact ⟨k _ _ (.inl rfl) e,ih q⟩
 | tbl ps=>
  have e:=x;exact k a _ (.inl rfl) e
 | ext φ=>obtain ⟨p,⟨o,e⟩,st⟩:=x;exact ⟨st _ _ p λo q=>k _ _ (.inl rfl) q,⟨o,k _ _ (.inl rfl) e⟩,st⟩
def HOk.lt(x:HOk P w H h)(e:H a=some o):a<h.objs.size:=(x a o e).lt
def HOk.fresh(x:HOk P w H h)(e:h.objs.size<=a):H a=none:=by
 cases q:H a with
 | none=>rfl
 | some u=>exact aB (Bu (x.lt q) e) (Gu _)
def HOk.kept(x:HOk P w H h)(k:∀b u,h.get? b=some u->h'.get? b=some u):HOk P w H h':=λa o e=>
 (x a o e).stay (λb u _ q=>k b u q) (λ_ q=>q) λ_ _ q=>q
def HOk.laid(x:HOk P w H h)(k:∀b u,h.get? b=some u->h'.get? b=some u)(hp:h.objs.size<=a)(new:Dy P w (upd H a o) h' a o):HOk P w (upd H a o) h':=λb u e=>by
 have d:=x.fresh hp;by_cases hb:b=a
 .subst hb;rw [Ak] at e;cases e;exact new
 .rw [Ag hb] at e;exact (x b u e).stay (λc v _ q=>k c v q) (λc q=>by rw [Ag (Ay q d)];exact q) λc f q=>by rw [Ag (Ay q d)];exact q
end
def Rd(H:Hp)(a:Addr)(u:HO):Prop:=H a=some u\/∃o,H a=some (.frz o u)
def Rd.ok(r:Rd H a u)(x:HOk P w H h):Dy P w H h a u:=by
 rcases r with r | ⟨o,r⟩
 .exact x a u r
 .obtain ⟨_,q⟩:=x a _ r;exact q
def Mut:Option HO->Prop
 | some (.lst _)=>True
 | some (.ins _ _ _)=>True
 | some (.ext _)=>True
 | _=>False
section
variable{P:Program}{w:World}{H:Hp}{h h':Heap}{x e:Addr}{o':HO}
def HOk.write(ok:HOk P w H h)(mu:Mut (H x))(he:e=x\/H e=some (.own x))(k:∀b u,b≠e->h.get? b=some u->h'.get? b=some u)(heo:∃u,h'.get? e=some u)(new:Dy P w (upd H x o') h' x o'):HOk P w (upd H x o') h':=λb u q=>by
 have a:∀c y,H c=some (.own y)->c≠x:=λc y r z=>by subst z;rw [r] at mu;exact mu
 have d:∀c f,H c=some (.tup f)->c≠x:=λc f r z=>by subst z;rw [r] at mu;exact mu
 by_cases hb:b=x
 .subst hb;rw [Ak] at q;cases q;exact new
 .rw [Ag hb] at q;by_cases hbe:b=e
  .have g:H b=some (.own x):=by
    rcases he with z | z
    .exact aB (hbe.trans z) hb
    .rw [hbe];exact z
   rw [q] at g;cases g;obtain ⟨v,i⟩:=heo;exact ⟨v,by rw [hbe];exact i⟩
  .refine (ok b u q).stay (λc v hc r=>k c v ?_ r) (λc r=>by rw [Ag (a c b r)];exact r) λc f r=>by rw [Ag (d c f r)];exact r
   rcases hc with rfl | hc
   .exact hbe
   .rintro rfl;rcases he with z | z
    .exact a c b hc z
    .rw [hc] at z;cases z;exact hb rfl
end
structure Un(fs ex:List Addr)(H H':Hp)(h h':Heap):Prop where
 keep:∀b o,h.get? b=some o->H b=none->b∉fs->b∉ex->h'.get? b=some o
 slot:∀b o,h.get? b=some o->H b=none->b∈fs->b∉ex->∃sl,h'.get? b=some { o with slots:=sl }
 free:∀b o,h.get? b=some o->H b=none->b∉ex->H' b=none
 there:∀b o,h.get? b=some o->b∉ex->∃o',h'.get? b=some o'
 tups:∀b xs,H b=some (.tup xs)->H' b=some (.tup xs)
 frzs:∀b o u,H b=some (.frz o u)->H' b=some (.frz o u)
 tbls:∀b ps,H b=some (.tbl ps)->∃more,H' b=some (.tbl (ps++more))
section
variable{fs fs' ex ex':List Addr}{H H1 H2:Hp}{h h1 h2 h':Heap}{a x e:Addr}{o:HO}
def Un.any(u:Un fs ex H H1 h h1)(q:h.get? b=some ob)(n:H b=none)(hx:b∉ex):∃sl,h1.get? b=some { ob with slots:=sl }:=by
 by_cases hb:b∈fs
 .exact u.slot b ob q n hb hx
 .exact ⟨ob.slots,u.keep b ob q n hb hx⟩
def Un.trans(a:Un fs ex H H1 h h1)(b:Un fs ex H1 H2 h1 h2):Un fs ex H H2 h h2 where
 keep:=λc e q n g d=>b.keep c e (a.keep c e q n g d) (a.free c e q n d) g d
 slot:=λc e q n g d=>by
  obtain ⟨r,f⟩:=a.slot c e q n g d;obtain ⟨l,j⟩:=b.slot c _ f (a.free c e q n d) g d;exact ⟨l,j⟩
 free:=λc e q n d=>by
  obtain ⟨k,f⟩:=a.there c e q d;exact b.free c k f (a.free c e q n d) d
 there:=λc e q d=>by
  obtain ⟨k,f⟩:=a.there c e q d;exact b.there c k f d
 tups:=λc i q=>b.tups c i (a.tups c i q)
 frzs:=λc e i q=>b.frzs c e i (a.frzs c e i q)
 tbls:=λc o q=>by
  obtain ⟨m,f⟩:=a.tbls c o q;obtain ⟨p,j⟩:=b.tbls c _ f;exact ⟨m++p,by rw [j,Array.append_assoc]⟩
def Un.kept(k:∀b u,h.get? b=some u->h'.get? b=some u):Un fs ex H H h h' :=
 ⟨λb a q _ _ _=>k b a q,λb a q _ _ _=>⟨a.slots,k b a q⟩,λ_ _ _ n _=>n,λb a q _=>⟨a,k b a q⟩,λ_ _ q=>q,λ_ _ _ q=>q,λ_ c q=>⟨#[],by rw [q];simp⟩⟩
def Un.refl:Un fs ex H H h h:=Un.kept λ_ _ q=>q
def Un.laid(k:∀b u,h.get? b=some u->h'.get? b=some u)(hp:h.objs.size<=a)(hn:H a=none):Un fs ex H (upd H a o) h h' where
 keep:=λb u q _ _ _=>k b u q
 slot:=λb u q _ _ _=>⟨u.slots,k b u q⟩
 free:=λb u q n _=>by rw [Ag (BK (Bu (Aq q) hp))];exact n
 there:=λb u q _=>⟨u,k b u q⟩
 tups:=λb c q=>by rw [Ag (Ay q hn)];exact q
 frzs:=λb u c q=>by rw [Ag (Ay q hn)];exact q
 tbls:=λb d q=>⟨#[],by rw [Ag (Ay q hn),q];simp⟩
def Un.write(mu:Mut (H x))(he:e=x\/H e=some (.own x))(k:∀b u,b≠e->h.get? b=some u->h'.get? b=some u)(heo:∃u,h'.get? e=some u):Un fs ex H (upd H x o) h h':=by
 have c:∀b,H b=none->b≠x:=λb n z=>by subst z;rw [n] at mu;exact mu
 have d:∀b,H b=none->b≠e:=λb n z=>by
  subst z;rcases he with r | r
  .exact c b n r
  .rw [n] at r;cases r
 have a:∀b u,H b=some u->¬Mut (some u)->b≠x:=λb u q f z=>by subst z;rw [q] at mu;exact f mu
 refine ⟨λb u q n _ _=>k b u (d b n) q,λb u q n _ _=>⟨u.slots,k b u (d b n) q⟩,λb u q n _=>by rw [Ag (c b n)];exact n,λb u q _=>?_,
  λb g q=>by rw [Ag (a b _ q λz=>z)];exact q,λb u g q=>by rw [Ag (a b _ q λz=>z)];exact q,λb i q=>⟨#[],by rw [Ag (a b _ q λz=>z),q];simp⟩⟩
 by_cases hbe:b=e
 .subst hbe;exact heo
 .exact ⟨u,k b u hbe q⟩
def Un.mono(u:Un fs ex H H1 h h1)(hs:∀b∈fs,b∈fs')(hx:∀b∈ex,b∈ex'):Un fs' ex' H H1 h h1 :=
 ⟨λb c q n d a=>u.keep b c q n (λz=>d (hs b z)) λz=>a (hx b z),λ_ _ q n _ a=>u.any q n λz=>a (hx _ z),λb c q n a=>u.free b c q n λz=>a (hx b z),λb c q a=>u.there b c q λz=>a (hx b z),u.tups,u.frzs,u.tbls⟩
end
def trk(h:Heap)(H:Hp):List Addr:=(List.range h.objs.size).filter λa=>(H a).isSome
def hidT(h:Heap)(H:Hp):Heap:=W.hideAll h (trk h H)
def mF(h)(H):(hidT h H).objs.size=h.objs.size:=W.hideAll_size _ _
def uW(e:h.get? b=some o)(n:H b=none):(hidT h H).get? b=some o :=
 Jy _ e λa=>by
  have q:=(JX.mp a).2;rw [n] at q;simp at q
def wV(e:(hidT h H).get? b=some o):h.get? b=some o/\H b=none:=by
 have a:=G4 (trk h H) e;refine ⟨a,?_⟩;cases q:H b with
 | none=>rfl
 | some x=>
  have c:b∈trk h H:=JX.mpr ⟨CN.mpr (Aq a),by simp [q]⟩;have z:(hidT h H).get? b=none:=W.hideAll_none (trk h H) c;rw [z] at e;cases e
structure Mod(K:W.Frag)(mg:Str->Option Value)(base:Heap):Prop where
 kin:K.In base
 glob:base.Ns mainGlobals mg
 blt:∃mb,base.Ns builtinsNs mb/\∀x:Str,x ≠ "__name__"->mb x=bootBuiltins x
 nolimit:base.NoLimit
structure Cx where
 prog:Program
 w:World
 K:W.Frag
 mg:Str->Option Value
 base:Heap
 A:Around
 N:List Str
 s₀:Shared
 H₀:Hp
 env:Env
 outer:List Env
 stack:List Env
 ex:List Addr
 fn:Str->Bool
 calm:Bool
 pn:List (Addr×Obj)
 xe:Value->Shared->Prop
def frs(l:List Env):List Addr:=l.filterMap (·.frame)
abbrev Cx.fs(X:Cx):List Addr:=frs X.outer
def Dv(sc:Scope)(x:Str):Prop:=sc.names.lookup x=some .local\/sc.names.lookup x=some .cell\/sc.names.lookup x=some .free
def Loc(sc:Scope)(x:Str):Prop:=sc.names.lookup x=some .local\/sc.names.lookup x=some .cell
def Look(env:Env)(h:Heap)(m:Str->Option Value)(x:Str)(u:Value):Prop :=
 (env.kindOf x=some .local/\m x=some u)\/((env.kindOf x=some .cell\/env.kindOf x=some .free)/\∃c,env.cells.lookup x=some c/\h.IsCell c (some u))
structure Cx.Ok(X:Cx):Prop where
 mod:Mod X.K X.mg X.base
 kind:X.env.scope.kind=.function
 glob:X.env.globals=mainGlobals
 blt:X.env.builtins=builtinsNs
 above:X.s₀.heap.objs.size<=X.env.locals
 inj:∀x y c,X.env.cells.lookup x=some c->X.env.cells.lookup y=some c->x=y
 has:∀x,(X.env.kindOf x=some .cell\/X.env.kindOf x=some .free)->∃c,X.env.cells.lookup x=some c
 cab:∀x c,X.fn x=true->X.env.cells.lookup x=some c->X.s₀.heap.objs.size<=c
 hd:X.calm=true->X.A.handled=none
 frames:X.A.frames=some X.stack
 stk:X.stack=X.outer\/(X.stack=X.env::X.outer/\X.env.frame=some X.env.locals)
 exf:∀b∈X.ex,b≠X.env.locals/\∀x c,X.env.cells.lookup x=some c->c≠b
 bs:∀b o,X.base.get? b=some o->X.s₀.heap.get? b=some o/\X.H₀ b=none
 bsz:X.base.objs.size<=X.s₀.heap.objs.size
 noex:∀b o,X.base.get? b=some o->b∉X.ex
 exfs:∀b∈X.ex,b∉X.fs
 funs:X.s₀.heap.FunFrames X.base X.outer
 frf:∀b∈X.fs,X.H₀ b=none
structure Inv(X:Cx)(pins:List (Addr×Obj))(Y:List (Option V))(H:Hp)(s:Shared):Prop where
 ok:X.Ok
 os:s.os=X.s₀.os
 bare:AllBare s.gens
 base:Un X.fs X.ex X.H₀ H X.s₀.heap s.heap
 loc:∃m,s.heap.Ns X.env.locals m/\∀(i:Nat) (x:Str) (v:V),X.N[i]?=some x->Y[i]?=some (some v)->Dv X.env.scope x->∃u,RelV v u/\Look X.env s.heap m x u
 cell:∀x c,X.env.cells.lookup x=some c->∃v,s.heap.IsCell c v
 free:H X.env.locals=none
 freeC:∀x c,X.env.cells.lookup x=some c->H c=none
 pin:∀p∈X.pn++pins,s.heap.get? p.1=some p.2/\H p.1=none/\p.1≠X.env.locals/\p.1∉X.fs/\∀v,p.2.data≠.cell v
 hok:HOk X.prog X.w H s.heap
 len:Y.length=X.N.length
section
variable{X:Cx}{pins:List (Addr×Obj)}{Y:List (Option V)}{H H':Hp}{s:Shared}{h':Heap}
def Cx.Ok.nofr(ok:X.Ok)(e:X.base.get? b=some o):b∉X.fs:=λa=>by
 have:=(ok.funs.mem a).1;rw [e] at this;cases this
def Inv.bs(I:Inv X pins Y H s):∀b o,X.base.get? b=some o->s.heap.get? b=some o/\H b=none:=λb o e=>
 ⟨I.base.keep b o (I.ok.bs b o e).1 (I.ok.bs b o e).2 (I.ok.nofr e) (I.ok.noex b o e),I.base.free b o (I.ok.bs b o e).1 (I.ok.bs b o e).2 (I.ok.noex b o e)⟩
def Inv.bk(I:Inv X pins Y H s):∀b o,X.base.get? b=some o->s.heap.get? b=some o:=λb o e=>(I.bs b o e).1
def Inv.mod(I:Inv X pins Y H s):Mod X.K X.mg X.base:=I.ok.mod
def Inv.kIn(I:Inv X pins Y H s):X.K.In s.heap:=I.ok.mod.kin.keeps I.bk
def Inv.lt(I:Inv X pins Y H s):X.env.locals<s.heap.objs.size:=let ⟨_,hn,_⟩:=I.loc;hn.lt
def Inv.sz(I:Inv X pins Y H s):X.s₀.heap.objs.size<=s.heap.objs.size:=CK I.ok.above (JT I.lt)
def Inv.nofs(I:Inv X pins Y H s)(h:s.heap.objs.size<=a):a∉X.fs:=λc=>by
 obtain ⟨_,o,b,_⟩:=I.ok.funs.mem c;exact aB (Bu (Aq b) (CK I.sz h)) (Gu _)
def Inv.cne(I:Inv X pins Y H s):∀x c,X.env.cells.lookup x=some c->c≠X.env.locals:=λx c e z=>by
 obtain ⟨v,o,f,d⟩:=I.cell x c e;obtain ⟨m,⟨g,i,h,a,b,_⟩,_⟩:=I.loc;rw [z,a] at f;cases f;rw [b] at d;cases d
def Inv.funs(I:Inv X pins Y H s):s.heap.FunFrames X.base X.outer:=by
 have d:∀l,(∀b∈frs l,b∈X.fs)->X.s₀.heap.FunFrames X.base l->s.heap.FunFrames X.base l:=by
  intro l
  induction l with
  | nil=>intro _ _;trivial
  | cons env r ih=>
   intro g k;obtain ⟨i,⟨L,o,a,h,m,j⟩,n⟩:=k;have c:=g L (by unfold frs;rw [List.filterMap_cons,a];exact List.mem_cons_self);obtain ⟨p,e⟩:=I.base.slot L o m (I.ok.frf L c) c λz=>I.ok.exfs L z c;exact ⟨i,⟨L,_,a,h,e,j⟩,ih (λb f=>g b (by unfold frs;rw [List.filterMap_cons,a];exact List.mem_cons_of_mem _ f)) n⟩
 exact d X.outer (λ_ f=>f) I.ok.funs
def Inv.stack(I:Inv X pins Y H s):s.heap.FunFrames X.base X.stack:=by
 rcases I.ok.stk with e | ⟨e,hf⟩
 .rw [e];exact I.funs
 .rw [e];obtain ⟨m,a,_⟩:=I.loc;refine .cons (by rw [I.ok.kind];decide) hf a ?_ I.funs;exact Ij (CK I.ok.bsz I.ok.above)
def Inv.stkSub(I:Inv X pins Y H s):∀b∈frs X.stack,b∈X.env.locals::X.fs:=λb a=>by
 rcases I.ok.stk with e | ⟨e,hf⟩
 .rw [e] at a;exact BP _ a
 .rw [e] at a;unfold frs at a;rw [Jd,hf] at a;exact a
def Inv.stkFree(I:Inv X pins Y H s):∀b∈frs X.stack,H b=none:=λb hb=>by
 rcases Aj.mp (I.stkSub b hb) with e | hb
 .rw [e];exact I.free
 .obtain ⟨_,o,a,_⟩:=I.ok.funs.mem hb;exact I.base.free b o a (I.ok.frf b hb) λz=>I.ok.exfs b z hb
def Inv.step{g':Array GenState}{t':Nat}{d':Drawn}{ch:List Addr}(I:Inv X pins Y H s)(hch:∀b∈ch,(b∈X.ex\/X.s₀.heap.objs.size<=b)/\b≠X.env.locals/\(∀x c,X.env.cells.lookup x=some c->c≠b)/\∀p∈X.pn++pins,p.1≠b)(keep:∀b o,b≠X.env.locals->b∉X.fs->b∉ch->s.heap.get? b=some o->H b=none->h'.get? b=some o)(slot:∀b o,b≠X.env.locals->b∈X.fs->b∉ch->s.heap.get? b=some o->H b=none->∃sl,h'.get? b=some { o with slots:=sl })(free:∀b o,b∉ch->s.heap.get? b=some o->H b=none->H' b=none)(there:∀b o,b∉ch->s.heap.get? b=some o->∃o',h'.get? b=some o')(tups:∀b xs,H b=some (.tup xs)->H' b=some (.tup xs))(frzs:∀b o u,H b=some (.frz o u)->H' b=some (.frz o u))(tbls:∀b ps,H b=some (.tbl ps)->∃more,H' b=some (.tbl (ps++more)))(ns:∀m,s.heap.Ns X.env.locals m->h'.Ns X.env.locals m)(hok:HOk X.prog X.w H' h')(hg:AllBare g') :
  Inv X pins Y H' { s with heap:=h',gens:=g',drawn:=d',toks:=t' }:=by
 have B:∀b o,X.s₀.heap.get? b=some o->b≠X.env.locals:=λb o e=>BK (Bu (Aq e) I.ok.above);have h:∀b o,X.s₀.heap.get? b=some o->b∉X.ex->b∉ch:=λb o e a t=>by
  rcases (hch b t).1 with z | z
  .exact a z
  .exact aB (Bu (Aq e) z) (Gu _)
 have f:∀x c,X.env.cells.lookup x=some c->∀v,s.heap.IsCell c v->h'.IsCell c v:=λx c e v ⟨o,y,D⟩=>by
  have g:=λz=>(hch c z).2.2.1 x c e rfl;by_cases hc:c∈X.fs
  .obtain ⟨sl,q⟩:=slot c o (I.cne x c e) hc g y (I.freeC x c e);exact ⟨_,q,D⟩
  .exact ⟨o,keep c o (I.cne x c e) hc g y (I.freeC x c e),D⟩
 refine ⟨I.ok,I.os,hg,⟨λb o e n t a=>?_,λb o e n t a=>?_,λb o e n a=>?_,λb o e a=>?_,λb xs e=>tups b xs (I.base.tups b xs e),λb o xs e=>frzs b o xs (I.base.frzs b o xs e),λb ps e=>?_⟩,?_,λx c e=>?_,?_,λx c e=>?_,λp E=>?_,hok,I.len⟩
 .exact keep b o (B b o e) t (h b o e a) (I.base.keep b o e n t a) (I.base.free b o e n a)
 .obtain ⟨sl,j⟩:=I.base.slot b o e n t a;obtain ⟨C,A⟩:=slot b _ (B b o e) t (h b o e a) j (I.base.free b o e n a);exact ⟨C,A⟩
 .obtain ⟨o',j⟩:=I.base.there b o e a;exact free b o' (h b o e a) j (I.base.free b o e n a)
 .obtain ⟨o',j⟩:=I.base.there b o e a;exact there b o' (h b o e a) j
 .obtain ⟨K,j⟩:=I.base.tbls b ps e;obtain ⟨N,A⟩:=tbls b _ j;exact ⟨K++N,by rw [A,Array.append_assoc]⟩
 .obtain ⟨m,J,L⟩:=I.loc;refine ⟨m,ns m J,λi x v j A M=>?_⟩;obtain ⟨u,r,l⟩:=L i x v j A M;refine ⟨u,r,?_⟩;rcases l with l | ⟨k,c,e,z⟩
  .exact .inl l
  .exact .inr ⟨k,c,e,f x c e _ z⟩
 .obtain ⟨v,z⟩:=I.cell x c e;exact ⟨v,f x c e v z⟩
 .obtain ⟨m,⟨o,_,_,y,_⟩,_⟩:=I.loc;exact free _ o (λz=>(hch _ z).2.1 rfl) y I.free
 .obtain ⟨v,o,y,D⟩:=I.cell x c e;exact free c o (λz=>(hch c z).2.2.1 x c e rfl) y (I.freeC x c e)
 .obtain ⟨e,n,G,F,d⟩:=I.pin p E;have g:=λz=>(hch p.1 z).2.2.2 p E rfl;exact ⟨keep p.1 p.2 G F g e n,free p.1 p.2 g e n,G,F,d⟩
def Inv.un{t':Nat}(I:Inv X pins Y H s)(u:Un X.fs [] H H' s.heap h')(hok:HOk X.prog X.w H' h'):Inv X pins Y H' { s with heap:=h',toks:=t' }:=by
 obtain ⟨m,⟨o,p,t,g,r⟩,_⟩:=id I.loc;obtain ⟨q,h⟩:=u.any g I.free (by simp)
 exact I.step (ch:=[]) (λ_ z=>nomatch z) (λb o _ f _ e n=>u.keep b o e n f (by simp)) (λb o _ f _ e n=>u.slot b o e n f (by simp)) (λb o _ e n=>u.free b o e n (by simp)) (λb o _ e=>u.there b o e (by simp)) u.tups u.frzs u.tbls (λl j=>by
  obtain ⟨k,d,c,a,i⟩:=j;rw [g] at a;cases a
  exact ⟨_,d,c,h,i⟩) hok I.bare
def Inv.call{g':Array GenState}{t':Nat}{d':Drawn}{ch:List Addr}(I:Inv X pins Y H s)(u:Un (frs X.stack) ch H H' s.heap h')(hok:HOk X.prog X.w H' h')(hg:AllBare g')(hch:∀b∈ch,(b∈X.ex\/X.s₀.heap.objs.size<=b)/\b≠X.env.locals/\(∀x c,X.env.cells.lookup x=some c->c≠b)/\∀p∈X.pn++pins,p.1≠b) :
  Inv X pins Y H' { s with heap:=h',gens:=g',drawn:=d',toks:=t' }:=by
 obtain ⟨m,⟨o,v,A,i,r⟩,_⟩:=id I.loc;obtain ⟨y,h⟩:=u.any i I.free λz=>(hch _ z).2.1 rfl
 exact I.step hch (λb o h k a e n=>u.keep b o e n (λz=>(Aj.mp (I.stkSub b z)).elim h k) a) (λb o _ _ a e n=>u.any e n a) (λb o a e n=>u.free b o e n a) (λb o a e=>u.there b o e a) u.tups u.frzs u.tbls (λt l=>by
  obtain ⟨q,g,f,d,j⟩:=l;rw [i] at d;cases d
  exact ⟨_,g,f,h,j⟩) hok hg
def Inv.turned{t':Nat}{it:Addr}(I:Inv X pins Y H s)(k:∀b o,b≠it->s.heap.get? b=some o->h'.get? b=some o)(hn:H it=none)(hL:it≠X.env.locals)(h1:it∈X.ex\/X.s₀.heap.objs.size<=it)(h2:∀x c,X.env.cells.lookup x=some c->c≠it)(h3:∀p∈X.pn++pins,p.1≠it):Inv X pins Y H { s with heap:=h',toks:=t' }:=by
 have d:∀b u,H b=some u->b≠it:=λb u e z=>by rw [z,hn] at e;cases e
 refine I.step (ch:=[it]) (λb h=>?_) (λb o _ _ a e _=>k b o (λz=>a (by simp [z])) e) (λb o _ _ a e _=>⟨o.slots,k b o (λz=>a (by simp [z])) e⟩) (λ_ _ _ _ n=>n)
  (λb o a e=>⟨o,k b o (λz=>a (by simp [z])) e⟩) (λ_ _ e=>e) (λ_ _ _ e=>e) (λb l e=>⟨#[],by rw [e];simp⟩) (λm j=>?_) (λb u e=>?_) I.bare
 .have e:b=it:=by simpa using h
  subst e;exact ⟨h1,hL,h2,h3⟩
 .obtain ⟨o,f,g,i,r⟩:=j;exact ⟨o,f,g,k _ o (Ne.symm hL) i,r⟩
 .refine (I.hok b u e).stay (λc v a q=>k c v ?_ q) (λ_ q=>q) λ_ _ q=>q;rcases a with z | z
  .rw [z];exact d b u e
  .exact d c _ z
def Inv.tok(I:Inv X pins Y H s)(t):Inv X pins Y H { s with toks:=t }:=I.un (h':=s.heap) (t':=t) Un.refl I.hok
def Inv.kept(I:Inv X pins Y H s)(k:∀b u,s.heap.get? b=some u->h'.get? b=some u):Inv X pins Y H { s with heap:=h',toks:=t' }:=I.un (Un.kept k) (I.hok.kept k)
def Inv.laid(I:Inv X pins Y H s)(k:∀b u,s.heap.get? b=some u->h'.get? b=some u)(hp:s.heap.objs.size<=a)(new:Dy X.prog X.w (upd H a o) h' a o) :
  Inv X pins Y (upd H a o) { s with heap:=h',toks:=t' }:=I.un (Un.laid k hp (I.hok.fresh hp)) (I.hok.laid k hp new)
def Inv.write(I:Inv X pins Y H s)(mu:Mut (H x))(he:e=x\/H e=some (.own x))(k:∀b u,b≠e->s.heap.get? b=some u->h'.get? b=some u)(heo:∃u,h'.get? e=some u)(new:Dy X.prog X.w (upd H x o) h' x o):Inv X pins Y (upd H x o) { s with heap:=h',toks:=t' }:=I.un (Un.write mu he k heo) (I.hok.write mu he k heo new)
def Inv.weak{Y':List (Option V)}(I:Inv X pins Y H s)(hl:Y'.length=Y.length)(w:∀(i:Nat) v,Y'[i]?=some (some v)->Y[i]?=some (some v)):Inv X pins Y' H s :=
 ⟨I.ok,I.os,I.bare,I.base,let ⟨m,hn,hl'⟩:=I.loc;⟨m,hn,λi x v b a c=>hl' i x v b (w i v a) c⟩,I.cell,I.free,I.freeC,I.pin,I.hok,hl.trans I.len⟩
def Inv.pins_of(I:Inv X pins Y H s)(h:∀p∈pins',s.heap.get? p.1=some p.2/\H p.1=none/\p.1≠X.env.locals/\p.1∉X.fs/\∀v,p.2.data≠.cell v):Inv X pins' Y H s :=
 ⟨I.ok,I.os,I.bare,I.base,I.loc,I.cell,I.free,I.freeC,λp a=>(HH.mp a).elim (λz=>I.pin p (GP _ z)) (h p),I.hok,I.len⟩
def MN{N:List Str}(hN:N.Nodup){i j:Nat}{x:Str}(a:N[i]?=some x)(b:N[j]?=some x):i=j:=by
 obtain ⟨f,c⟩:=Cm.mp a;obtain ⟨e,d⟩:=Cm.mp b;exact (List.getElem_inj hN).mp (c.trans d.symm)
def ZkZ(I:Inv X pins Y H s)(hN:X.N.Nodup)(hi:X.N[i]?=some x)(hx:Loc X.env.scope x)(r:RelV v u)(h:∀s',Inv X pins (Y.set i (some v)) H s'->(∃a,Heap.SameBut a s.heap s'.heap/\(a=X.env.locals\/X.env.cells.lookup x=some a))->Q () s')(hf:X.fn x=true\/X.env.scope.names.lookup x=some .local:=by first | exact .inl rfl | exact .inr rfl | assumption):wpAny M A (storeName X.env x u) Q E s:=by
 obtain ⟨m,V,hl⟩:=id I.loc;have P:(X.env.scope.kind==.class||(X.env.scope.kind==.module&&X.env.locals != X.env.globals))=false:=by rw [I.ok.kind];rfl
 have C:i<Y.length:=by rw [I.len];exact (Cm.mp hi).1
 have D:=I.cne;have g:∀{a:Addr} {J:Heap},(∃o,s.heap.get? a=some o/\H a=none)->Heap.SameBut a s.heap J->HOk X.prog X.w H J:=λ{a J} ha f b ob e=>by
  obtain ⟨_,_,t⟩:=ha;refine (I.hok b ob e).stay (λc R hc q=>(f.2 c ?_).trans q) (λ_ q=>q) λ_ _ q=>q;rintro rfl;rcases hc with rfl | hc
  .rw [t] at e;cases e
  .rw [t] at hc;cases hc
 rcases hx with hk | hk
 .refine wpAny_storeName_local hk V (λJ hn' f=>?_) P;obtain ⟨oL,_,_,W,_⟩:=id V;refine h _ ⟨I.ok,I.os,I.bare,⟨λb o e n F hx=>?_,λb o e n F hx=>?_,I.base.free,λb o e hx=>?_,I.base.tups,I.base.frzs,I.base.tbls⟩,⟨_,hn',λj y v' l B e3=>?_⟩,λy c e=>?_,I.free,I.freeC,λp hp=>?_,g ⟨oL,W,I.free⟩ f,by simpa using I.len⟩ ⟨_,f,.inl rfl⟩
  .exact (f.2 b (BK (Bu (Aq e) I.ok.above))).trans (I.base.keep b o e n F hx)
  .obtain ⟨sl,l⟩:=I.base.slot b o e n F hx;exact ⟨sl,(f.2 b (BK (Bu (Aq e) I.ok.above))).trans l⟩
  .obtain ⟨U,l⟩:=I.base.there b o e hx;exact ⟨U,(f.2 b (BK (Bu (Aq e) I.ok.above))).trans l⟩
  .by_cases hj:j=i
   .subst hj;rw [hi] at l;cases l;rw [List.getElem?_set_self C] at B;cases B;exact ⟨u,r,.inl ⟨hk,by simp⟩⟩
   .rw [List.getElem?_set_ne (Ne.symm hj)] at B;obtain ⟨Z,r',q⟩:=hl j y v' l B e3;refine ⟨Z,r',?_⟩;rcases q with ⟨k,e⟩ | ⟨k,c,e,z⟩
    .refine .inl ⟨k,?_⟩;have:y≠x:=λe=>hj (MN hN l (e▸hi));simp [this,e]
    .exact .inr ⟨k,c,e,z.sameBut f (D y c e)⟩
  .obtain ⟨R,z⟩:=I.cell y c e;exact ⟨R,z.sameBut f (D y c e)⟩
  .obtain ⟨e,n,S,nf,d⟩:=I.pin p hp;exact ⟨(f.2 p.1 S).trans e,n,S,nf,d⟩
 .have G:X.fn x=true:=by
   rcases hf with z | z
   .exact z
   .rw [z] at hk;cases hk
  obtain ⟨c,hc⟩:=I.ok.has x (.inl hk);obtain ⟨R,z⟩:=I.cell x c hc;refine wpAny_storeName_cell I.ok.kind hk hc z (λJ L f=>?_);obtain ⟨oc,K,O⟩:=id z;refine h { s with heap:=J } ⟨I.ok,I.os,I.bare,⟨λb o e n F hx=>?_,λb o e n F hx=>?_,I.base.free,λb o e hx=>?_,I.base.tups,I.base.frzs,I.base.tbls⟩,⟨m,V.sameBut f (Ne.symm (D x c hc)),λj y v' l B e3=>?_⟩,λy T e=>?_,I.free,I.freeC,λp hp=>?_,g ⟨oc,K,I.freeC x c hc⟩ f,by simpa using I.len⟩ ⟨c,f,.inr hc⟩
  .exact (f.2 b (BK (Bu (Aq e) (I.ok.cab x c G hc)))).trans (I.base.keep b o e n F hx)
  .obtain ⟨sl,l⟩:=I.base.slot b o e n F hx;exact ⟨sl,(f.2 b (BK (Bu (Aq e) (I.ok.cab x c G hc)))).trans l⟩
  .obtain ⟨U,l⟩:=I.base.there b o e hx;exact ⟨U,(f.2 b (BK (Bu (Aq e) (I.ok.cab x c G hc)))).trans l⟩
  .by_cases hj:j=i
   .subst hj;rw [hi] at l;cases l;rw [List.getElem?_set_self C] at B;cases B;exact ⟨u,r,.inr ⟨.inl hk,c,hc,L⟩⟩
   .rw [List.getElem?_set_ne (Ne.symm hj)] at B;obtain ⟨Z,r',q⟩:=hl j y v' l B e3;refine ⟨Z,r',?_⟩;rcases q with q | ⟨k,T,e,z'⟩
    .exact .inl q
    .refine .inr ⟨k,T,e,z'.sameBut f ?_⟩;rintro rfl;exact hj (MN hN l (I.ok.inj _ _ _ e hc▸hi))
  .by_cases hcc:T=c
   .subst hcc;exact ⟨_,L⟩
   .obtain ⟨w2,z2⟩:=I.cell y T e;exact ⟨w2,z2.sameBut f hcc⟩
  .obtain ⟨e,n,S,nf,d⟩:=I.pin p hp;refine ⟨(f.2 p.1 ?_).trans e,n,S,nf,d⟩;intro q;rw [q,K] at e;have q':=Bt e;exact d R (by rw [<-q'];exact O)
def Nh(I:Inv X pins Y H s)(hN:X.N.Nodup)(hi:X.N[i]?=some x)(hx:Loc X.env.scope x)(r:RelV v u)(h:∀s',Inv X pins (Y.set i (some v)) H s'->Q () s')(hf:X.fn x=true\/X.env.scope.names.lookup x=some .local:=by first | exact .inl rfl | exact .inr rfl | assumption):wpAny M A (storeName X.env x u) Q E s :=
 ZkZ I hN hi hx r (λs' a _=>h s' a) hf
def Inv.call'(I:Inv X pins Y H s)(ho:s'.os=s.os)(u:Un (frs X.stack) ch H H' s.heap s'.heap)(hok:HOk X.prog X.w H' s'.heap)(hg:AllBare s'.gens)(hch:∀b∈ch,(b∈X.ex\/X.s₀.heap.objs.size<=b)/\b≠X.env.locals/\(∀x c,X.env.cells.lookup x=some c->c≠b)/\∀p∈X.pn++pins,p.1≠b):Inv X pins Y H' s':=by
 obtain ⟨f,a,g,h,d⟩:=s';have e:=ho;subst e;exact I.call u hok hg hch
end
abbrev XK:=Value->Option Addr->Hp->Prop
abbrev St:=List (Option V)
abbrev VK:=V->Hp->Prop
abbrev TE:=St->Hp->VK->Prop
abbrev TT:=St->Hp->(Bool->Hp->Prop)->Prop
abbrev TA:=St->Hp->(List V->Hp->Prop)->Prop
structure Ends where
 nx:St->Hp->Prop
 rt:VK
 bk:St->Hp->Prop:=λ_ _=>False
 ct:St->Hp->Prop:=λ_ _=>False
abbrev TS:=Ends->St->Hp->Prop
def EP(X:Cx)(pins:List (Addr×Obj))(Y:St)(Q:VK)(u:Value)(s':Shared):Prop:=∃v a,Inv X pins Y a s'/\RelV v u/\Q v a
def TP(X:Cx)(pins:List (Addr×Obj))(Y:St)(Q:Bool->Hp->Prop)(b:Bool)(s':Shared):Prop:=∃a,Inv X pins Y a s'/\Q b a
def AP(X:Cx)(pins:List (Addr×Obj))(Y:St)(Q:List V->Hp->Prop)(us:List Value)(s':Shared):Prop:=∃b a,Inv X pins Y a s'/\Vals b us/\Q b a
def SP(X:Cx)(pins:List (Addr×Obj))(D:Ends)(f:Flow)(s':Shared):Prop :=
 match f with
 | .next=>∃b a,Inv X pins b a s'/\D.nx b a
 | .brk=>∃b a,Inv X pins b a s'/\D.bk b a
 | .cont=>∃b a,Inv X pins b a s'/\D.ct b a
 | .ret u=>∃v b a,Inv X pins b a s'/\RelV v u/\D.rt v a
abbrev wX{α}(X:Cx):=@wpAny α (model X.prog X.w) X.A
def PE(X:Cx)(e:Expr)(t:TE):Prop :=
 ∀a s Y H Q,Inv X a Y H s->t Y H Q->wX X (eval e X.env) (EP X a Y Q) X.xe s
def PT(X:Cx)(e:Expr)(t:TT):Prop :=
 ∀a s Y H Q,Inv X a Y H s->t Y H Q->wX X (isTrue e X.env (eval e X.env)) (TP X a Y Q) X.xe s
def PW(X:Cx)(e:Expr)(t:TT):Prop :=
 ∀b a s Y H Q,Inv X a Y H s->t Y H Q->wX X (isTrue e X.env b) (TP X a Y Q) X.xe s
def PW.pt(h:PW X e t):PT X e t:=h _
def PA(X:Cx)(es:List Expr)(t:TA):Prop :=
 ∀b a s Y H Q,Inv X a Y H s->t Y H Q->wX X (spliced (backTo b (starEach es X.env))) (AP X a Y Q) X.xe s
def PS(X:Cx)(st:Stmt)(t:TS):Prop :=
 ∀a s Y H D,Inv X a Y H s->t D Y H->wX X (exec st X.env) (SP X a D) X.xe s
def PSs(X:Cx)(st:List Stmt)(t:TS):Prop :=
 ∀a s Y H D,Inv X a Y H s->t D Y H->wX X (execs st X.env) (SP X a D) X.xe s
def thn(h:wpAny M A t Q E s)(hQ:∀a s,Q a s->Q' a s):wpAny M A t Q' E s:=CP h hQ λ_ _ x=>x
section
variable{X:Cx}
def tVar(i:Nat):TE:=λY H Q=>∃v,Y[i]?=some (some v)/\Q v H
def tC(v:V):TE:=λ_ H Q=>Q v H
def Ej(hN:X.N[i]?=some x)(hv:Dv X.env.scope x)(hd:ND x:=by decide)(hcd:NE x:=by decide):PE X (.Name x pos) (tVar i):=by
 intro b s Y H Q I h;obtain ⟨v,e,h⟩:=h;obtain ⟨m,f,d⟩:=I.loc;obtain ⟨u,r,l⟩:=d i x v hN e hv;have a:EP X b Y Q u s:=⟨v,H,I,r,h⟩;rcases l with ⟨hk,hm⟩ | ⟨hk,c,hc,hcell⟩
 .exact wpAny_Name (wpAny_loadName_local I.ok.kind hk f hm a) hd
 .rcases hk with hk | hk
  .exact wpAny_Name (wpAny_loadName_cell I.ok.kind hk hc hcell a) hd
  .exact wpAny_Name (wpAny_loadName_free I.ok.kind hk hc hcell a hcd) hd
def vp{i j pos}:PE X (.Constant (.int i) j pos) (tC (.int i)):=λ_ _ _ H _ I h=>wpAny_Constant_int ⟨.int i,H,I.tok _,⟨_,rfl⟩,h⟩
def Zxp{b j pos}:PE X (.Constant (.bool b) j pos) (tC (.bl b)):=λ_ _ _ H _ I h=>Constant_bool ⟨.bl b,H,I,rfl,h⟩
def Sq{j pos}:PE X (.Constant .none j pos) (tC .non):=λ_ _ _ H _ I h=>Constant_none ⟨.non,H,I,rfl,h⟩
def yF{x j pos}:PE X (.Constant (.str x) j pos) (tC (.str x)):=λ_ _ _ H _ I h=>Calls.Constant_str ⟨.str x,H,I.tok _,⟨_,rfl⟩,h⟩
def Gl(X:Cx)(x:Str):Prop:=X.env.kindOf x=some .globalImplicit
def QV(I:Inv X pins Y H s)(hg:Gl X x)(hm:X.mg x=some u)(h:Q u s)(hd:ND x:=by decide):wX X (eval (.Name x pos) X.env) Q E s :=
 Calls.Name_function_global I.ok.kind hg (Calls.loadGlobal_global (by rw [I.ok.glob];exact I.mod.glob.keeps I.bk) hm h) hd
def GZ(I:Inv X pins Y H s)(hg:Gl X x)(hm:X.mg x=none)(hv:bootBuiltins x=some u)(h:Q u s)(hn:x ≠ "__name__":=by decide)(hd:ND x:=by decide):wX X (eval (.Name x pos) X.env) Q E s:=by
 obtain ⟨c,b,a⟩:=I.mod.blt;exact Calls.Name_function_global I.ok.kind hg (Calls.loadGlobal_builtin (by rw [I.ok.glob];exact I.mod.glob.keeps I.bk) hm (by rw [I.ok.blt];exact b.keeps I.bk) ((a x hn).trans hv) h) hd
def Xf(hg:Gl X x)(hm:X.mg x=some u)(r:RelV v u)(hd:ND x:=by decide):PE X (.Name x pos) (tC v) :=
 λ_ _ _ H _ I h=>QV I hg hm ⟨v,H,I,r,h⟩ hd
def mV(hg:Gl X x)(hm:X.mg x=none)(hv:bootBuiltins x=some u)(r:RelV v u)(hn:x ≠ "__name__":=by decide)(hd:ND x:=by decide):PE X (.Name x pos) (tC v) :=
 λ_ _ _ H _ I h=>GZ I hg hm hv ⟨v,H,I,r,h⟩ hn hd
variable{a b:Expr}{ta tb:TE}{pos:Pos}
def tB(t:TE):TT:=λY H Q=>t Y H λx a=>∃c,x=.bl c/\Q c a
def iZ(h:PE X e t)(he:∀whole,isTrue e X.env whole=(do let v <-whole;standAt e.pos;holding [v] (truthy v)):=by intro _;rfl):PT X e (tB t):=by
 intro a s Y H Q I f;refine isTrue_plain (thn (h a s Y H _ I f) λv j zq=>?_) (he _);obtain ⟨x,g,b,i,c⟩:=zq;obtain ⟨d,rfl,q⟩:=c;cases i;exact wpAny_truthy_bool ⟨g,b,q⟩
variable{tA tB':TT}{rest:List Expr}
def tAnd(t u:TT):TT:=λY H Q=>t Y H λc a=>if c=true then u Y a Q else Q false a
def tOr(t u:TT):TT:=λY H Q=>t Y H λc a=>if c=true then Q true a else u Y a Q
def tNot(t:TT):TT:=λY H Q=>t Y H λc a=>Q (!c) a
def yt(ha:PT X a tA):PW X (.BoolOp .And [a] pos) tA:=by
 intro d b s Y H Q I h;refine isTrue_and (thn (ha b s Y H Q I h) λc f e=>?_);cases c with
 | true=>exact isTrue_and_nil e
 | false=>exact e
def fj(ha:PT X a tA):PW X (.BoolOp .Or [a] pos) tA:=by
 intro d b s Y H Q I h;refine isTrue_or (thn (ha b s Y H Q I h) λc f e=>?_);cases c with
 | false=>exact isTrue_or_nil e
 | true=>exact e
def jQ(ha:PT X a tA)(hb:PW X (.BoolOp .And (b::rest) pos) tB'):PW X (.BoolOp .And (a::b::rest) pos) (tAnd tA tB'):=by
 intro i d s Y H Q I h;refine isTrue_and (thn (ha d s Y H _ I h) λc j zq=>?_);obtain ⟨g,e,f⟩:=zq;cases c with
 | true=>exact hb i d j Y g Q e f
 | false=>exact ⟨g,e,f⟩
def oK(ha:PT X a tA)(hb:PW X (.BoolOp .Or (b::rest) pos) tB'):PW X (.BoolOp .Or (a::b::rest) pos) (tOr tA tB'):=by
 intro i d s Y H Q I h;refine isTrue_or (thn (ha d s Y H _ I h) λc j zq=>?_);obtain ⟨g,e,f⟩:=zq;cases c with
 | true=>exact ⟨g,e,f⟩
 | false=>exact hb i d j Y g Q e f
def sW(ha:PT X a tA):PT X (.UnaryOp .Not a pos) (tNot tA):=by
 intro b s Y H Q I h;exact isTrue_not (ha b s Y H (λc d=>Q (!c) d) I h)
def Vi(ta tb:TE):TE:=λY H Q=>ta Y H λx a=>∃c,x=.bl c/\if c=true then tb Y a Q else Q (.bl false) a
def Rv(ta:TE):TE:=λY H Q=>ta Y H λx a=>∃c,x=.bl c/\Q (.bl (!c)) a
def gk{op}(h:PE X a t):PE X (.BoolOp op [a] pos) t:=λb s Y H Q I c=>BoolOp_one (h b s Y H Q I c)
def tV(ha:PE X a ta)(hb:PE X (.BoolOp .And (b::rest) pos) tb):PE X (.BoolOp .And (a::b::rest) pos) (Vi ta tb):=by
 intro d s Y H Q I h;refine BoolOp_and (thn (ha d s Y H _ I h) λv i zq=>?_);obtain ⟨x,g,f,j,e⟩:=zq;obtain ⟨c,rfl,e⟩:=e;cases j;refine wpAny_truthy_bool ?_;cases c with
 | true=>exact hb d i Y g Q f e
 | false=>exact ⟨.bl false,g,f,rfl,e⟩
def m6(ha:PE X a ta):PE X (.UnaryOp .Not a pos) (Rv ta):=by
 intro b s Y H Q I h;refine UnaryOp_ (thn (ha b s Y H _ I h) λv i zq=>?_);obtain ⟨x,f,e,g,d⟩:=zq;obtain ⟨c,rfl,d⟩:=d;cases g;exact not_of (wpAny_truthy_bool ⟨.bl (!c),f,e,rfl,d⟩)
def tIf(t:TT)(ta tb:TE):TE:=λY H Q=>t Y H λc a=>if c=true then ta Y a Q else tb Y a Q
def qu(hc:PT X c tA)(ha:PE X a ta)(hb:PE X b tb):PE X (.IfExp c a b pos) (tIf tA ta tb):=by
 intro e s Y H Q I h;refine wpAny_IfExp (thn (hc e s Y H _ I h) λd f zq=>?_);obtain ⟨j,g,i⟩:=zq;cases d with
 | true=>exact ha e f Y j Q g i
 | false=>exact hb e f Y j Q g i
end
def SqL(K:W.Frag)(H:Hp)(a:Addr)(xs:List V):Prop :=
 Rd H a (.lst xs) \/
  ∃o b n,K.lookup a=some o/\o.cls=.type "list"/\o.dict=none/\o.data=.seq b n/\b.size<=sizeLine/\Vals xs b.toList
def SqT(K:W.Frag)(H:Hp)(a:Addr)(xs:List V):Prop :=
 Rd H a (.tup xs) \/
  ∃o b n,K.lookup a=some o/\o.cls=.type "tuple"/\o.data=.seq b n/\b.size<=sizeLine/\Vals xs b.toList
def absV:Value->Option V
 | .none=>some .non
 | .bool b=>some (.bl b)
 | .int i _=>some (.int i)
 | .str x _=>some (.str x)
 | .ref a=>some (.ref a)
 | .type n=>some (.ty n)
 | _=>none
def RelV.abs(r:RelV x u):absV u=some x:=by
 cases x with
 | non=>cases r;rfl
 | bl _=>cases r;rfl
 | int _=>obtain ⟨t,rfl⟩:=r;rfl
 | str _=>obtain ⟨t,rfl⟩:=r;rfl
 | ref _=>cases r;rfl
 | ty _=>cases r;rfl
def RelV.inj(r:RelV x u)(q:RelV y u):x=y:=Bt (r.abs.symm.trans q.abs)
def Vals.inj:∀{xs ys:List V} {us:List Value},Vals xs us->Vals ys us->xs=ys
 | _,_,_,.nil,.nil=>rfl
 | _,_,_,.cons r t,.cons r' t'=>by rw [r.inj r',Vals.inj t t']
section
variable{X:Cx}{pins:List (Addr×Obj)}{Y:St}{H:Hp}{s:Shared}{a:Addr}{xs ys:List V}
def SqL.of{K:W.Frag}(h:H a=some (.lst xs)):SqL K H a xs:=.inl (.inl h)
def SqT.of{K:W.Frag}(h:H a=some (.tup xs)):SqT K H a xs:=.inl (.inl h)
def Inv.list(I:Inv X pins Y H s)(h:SqL X.K H a xs):∃its,Vals xs its/\PlainL s.heap a its.toArray/\xs.length<=sizeLine:=by
 rcases h with h | ⟨o,its,n,hk,hc,hd,hs,hz,r⟩
 .obtain ⟨z,its,n,r,e⟩:=h.ok I.hok;exact ⟨its,r,⟨_,n,e,rfl,rfl,rfl⟩,z⟩
 .refine ⟨its.toList,r,⟨o,n,I.kIn a o hk,hc,hd,by simpa using hs⟩,?_⟩;have e:=r.length;simp only [Kq] at e;omega
def Inv.tuple(I:Inv X pins Y H s)(h:SqT X.K H a xs):∃its,Vals xs its/\IsTup s.heap a its.toArray/\xs.length<=sizeLine:=by
 rcases h with h | ⟨o,its,n,hk,hc,hs,hz,r⟩
 .obtain ⟨z,its,r,p⟩:=h.ok I.hok;exact ⟨its,r,p,z⟩
 .refine ⟨its.toList,r,⟨o,I.kIn a o hk,hc,n,by simpa using hs⟩,?_⟩;have e:=r.length;simp only [Kq] at e;omega
def Inv.list_inj(I:Inv X pins Y H s)(h:SqL X.K H a xs)(h':SqL X.K H a ys):xs=ys:=by
 obtain ⟨c,r,⟨o,n,e,_,_,d⟩,_⟩:=I.list h;obtain ⟨b,i,⟨j,k,g,_,_,f⟩,_⟩:=I.list h';rw [e] at g;cases g;rw [d] at f;injection f with d1 _
 have:c=b:=by simpa using CV Array.toList d1
 subst this;exact r.inj i
def Inv.tuple_inj(I:Inv X pins Y H s)(h:SqT X.K H a xs)(h':SqT X.K H a ys):xs=ys:=by
 obtain ⟨c,r,⟨o,e,_,n,d⟩,_⟩:=I.tuple h;obtain ⟨b,i,⟨j,g,_,k,f⟩,_⟩:=I.tuple h';rw [e] at g;cases g;rw [d] at f;injection f with d1 _
 have:c=b:=by simpa using CV Array.toList d1
 subst this;exact r.inj i
end
section
variable{X:Cx}{st:Stmt}{rest:List Stmt}{t u:TS}{e:Expr}{te:TE}{pos:Pos}
def Kl:TS:=λD Y H=>D.nx Y H
def tSeq(t u:TS):TS:=λD Y H=>t { D with nx:=u D } Y H
def R9:PSs X [] Kl:=λ_ _ Y H _ I h=>wpAny_execs_nil ⟨Y,H,I,h⟩
def Hv(h1:PS X st t)(h2:PSs X rest u):PSs X (st::rest) (tSeq t u):=by
 intro a s Y H D I h;refine wpAny_execs_cons (thn (h1 a s Y H { D with nx:=u D } I h) λf d q=>?_)
 cases f with
 | next=>
  obtain ⟨e,c,b,q⟩:=q;exact h2 a d e c D b q
 | ret v=>exact q
 | brk=>exact q
 | cont=>exact q
def YM(h1:PS X st t):PSs X [st] t:=by
 intro a s Y H D I h;refine wpAny_execs_cons (thn (h1 a s Y H D I h) λf b q=>?_);cases f with
 | next=>exact wpAny_execs_nil q
 | ret v=>exact q
 | brk=>exact q
 | cont=>exact q
def J6:TS:=λD Y H=>D.ct Y H
def ww:PS X (.Continue pos) J6:=λ_ _ Y H _ I h=>wpAny_Continue ⟨Y,H,I,h⟩
def Inv.quiet(I:Inv X pins Y H s):interactive X.env=false:=by simp [interactive,I.ok.kind]
def CQ(te:TE):TS:=λD Y H=>te Y H λ_ a=>D.nx Y a
def HJ(he:PE X e te)(hs:swapsWith e none pos.line X.env=pure false:=by rfl):PS X (.Expr e pos) (CQ te):=by
 intro a s Y H D I h;exact wpAny_Expr_any (thn (he a s Y H _ I h) λv f zq=>by obtain ⟨x,d,b,g,c⟩:=zq;exact ⟨Y,d,b,c⟩) I.quiet hs
def tRet(te:TE):TS:=λD Y H=>te Y H D.rt
def ZJ(he:PE X e te):PS X (.Return (some e) pos) (tRet te):=by
 intro a s Y H D I h;exact wpAny_Return_some (thn (he a s Y H _ I h) λv g zq=>by obtain ⟨x,d,b,f,c⟩:=zq;exact ⟨x,Y,d,b,f,c⟩)
def tIfS(c:TT)(t u:TS):TS:=λD Y H=>c Y H λb a=>if b=true then t D Y a else u D Y a
def XH(hc:PT X c tc)(ha:PSs X a t)(hb:PSs X b u):PS X (.If c a b pos) (tIfS tc t u):=by
 intro e s Y H D I h;refine wpAny_If (thn (hc e s Y H _ I h) λd f zq=>?_);obtain ⟨j,g,i⟩:=zq;cases d with
 | true=>exact ha e f Y j D g i
 | false=>exact hb e f Y j D g i
end
abbrev TG:=V->St->Hp->(St->Hp->Prop)->Prop
abbrev TGs:=List V->St->Hp->(St->Hp->Prop)->Prop
def PG(X:Cx)(target:Expr)(t:TG):Prop :=
 ∀a s Y H v u Q,Inv X a Y H s->RelV v u->t v Y H Q ->
  wX X (assign target X.env u) (λ_ d=>∃b c,Inv X a b c d/\Q b c) X.xe s
def PGs(X:Cx)(ts:List Expr)(t:TGs):Prop :=
 ∀a s Y H e d Q,Inv X a Y H s->Vals e d->t e Y H Q ->
  wX X (assignInOrder ((assignEach ts X.env).map (·.2)) d) (λ_ f=>∃b c,Inv X a b c f/\Q b c) X.xe s
abbrev TSet:=V->V->V->Hp->(Hp->Prop)->Prop
def PSet(X:Cx)(t:TSet):Prop :=
 ∀a s Y H o i v b d u Q,Inv X a Y H s->RelV o b->RelV i d->RelV v u->t o i v H Q ->
  wX X (setItem b d u) (λ_ e=>∃c,Inv X a Y c e/\Q c) X.xe s
section
variable{X:Cx}{pos:Pos}
def Ci(i:Nat):TG:=λv Y H Q=>Q (Y.set i (some v)) H
def tL(hN:X.N.Nodup)(hi:X.N[i]?=some x)(hx:Loc X.env.scope x)(hf:X.fn x=true\/X.env.scope.names.lookup x=some .local:=by first | exact .inl rfl | exact .inr rfl | assumption):PG X (.Name x pos) (Ci i):=by
 intro a s Y H v u Q I r h;exact wpAny_assign_Name (Nh I hN hi hx r (λc b=>⟨_,H,b,h⟩) hf)
def gNil:TGs:=λa Y H Q=>a=[]/\Q Y H
def Q0(t:TG)(u:TGs):TGs:=λc Y H Q=>∃v r,c=v::r/\t v Y H λb a=>u r b a Q
def ZqL:PGs X [] gNil:=by
 intro a s Y H c b Q I r h;obtain ⟨e,h⟩:=h;subst e;cases r;exact assignInOrder_nil ⟨Y,H,I,h⟩
def ux(h1:PG X e t)(h2:PGs X es u)(hs:(assignEach (e::es) X.env).map (·.2)=assign e X.env::(assignEach es X.env).map (·.2):=by rfl):PGs X (e::es) (Q0 t u):=by
 intro a s Y H j l Q I r h;obtain ⟨v,k,i,h⟩:=h;subst i;cases r with
 | cons r rr=>
  rw [hs];refine assignInOrder_cons (thn (h1 a s Y H _ _ _ I r h) λ_ c zq=>?_);obtain ⟨b,f,d,g⟩:=zq;exact h2 a c b f _ _ Q d rr g
def gTup(K:W.Frag)(n:Nat)(t:TGs):TG:=λv Y H Q=>∃a b,v=.ref a/\SqT K H a b/\b.length=n/\t b Y H Q
def ZvE(hc:X.calm=true)(h:PGs X es t)(hn:(assignEach es X.env).length=n:=by rfl)(hst:(assignEach es X.env).findIdx? (·.1)=none:=by rfl):PG X (.Tuple es k pos) (gTup X.K n t):=by
 intro c s Y H v u Q I r d;obtain ⟨a,l,w,j,p,d⟩:=d;subst w;cases r;obtain ⟨q,f,m,x⟩:=I.tuple j;refine assign_Tuple_tuple (I.ok.hd hc) m (by simp [hn,<-p,f.length]) hst λy i=>?_;have g:=I.kept (t':=s.toks) λb o e=>i b o (BK (Aq e)) e;exact h c _ Y H l _ Q g (by simpa using f) d
def gSub(to ti:TE)(t:TSet):TG:=λv Y H Q=>to Y H λo c=>ti Y c λi b=>t o i v b λa=>Q Y a
def cW(ho:PE X o to)(hi:PE X i ti)(hs:PSet X t) (ha:∀v,assign (.Subscript o i pos) X.env v=(do
   let ov <-holding [v] (eval o X.env)
   let iv <-holding [v,ov] (eval i X.env)
   standAt pos
   holding [v,ov,iv] (setItem ov iv v)
   release [v,ov,iv] []):=by intro _;rfl):PG X (.Subscript o i pos) (gSub to ti t):=by
 intro a s Y H v u Q I r h;rw [ha];refine Ac (Cz (thn (ho a s Y H _ I h) λov c zq=>?_));obtain ⟨x,f,e,g,m⟩:=zq;refine Ac (Cz (thn (hi a c Y f _ e m) λiv q zq=>?_));obtain ⟨y,d,k,b,n⟩:=zq;refine Ac (Js (Ac (Cz (thn (hs a q Y d x y v ov iv u _ k g b r n) λ_ w zq=>?_))));obtain ⟨l,p,j⟩:=zq;exact wpAny_release ⟨Y,l,p,j⟩
def tAsg(te:TE)(g:TG):TS:=λD Y H=>te Y H λx a=>g x Y a D.nx
def S6(he:PE X e te)(hg:PG X tg g)(hs:swapsWithSole [tg] e pos.line X.env=pure false:=by rfl)(hw:swappedStores [tg] e X.env=pure none:=by rfl)(h1:(assignEach [tg] X.env).map (·.2)=[assign tg X.env]:=by rfl):PS X (.Assign [tg] e pos) (tAsg te g):=by
 intro a s Y H D I h;refine wpAny_Assign_stores (thn (he a s Y H _ I h) λv b zq=>?_) hs hw;obtain ⟨x,f,c,i,d⟩:=zq;rw [h1];exact thn (hg a b Y f x v _ c i d) λ_ j q=>q
def Ra(hN:X.N.Nodup)(hi:X.N[i]?=some x)(hx:Loc X.env.scope x)(he:PE X e te)(hs:swapsWith e (some (.Name x pos')) pos.line X.env=pure false:=by rfl)(hf:X.fn x=true\/X.env.scope.names.lookup x=some .local:=by first | exact .inl rfl | exact .inr rfl | assumption) :
  PS X (.Assign [.Name x pos'] e pos) (tAsg te (Ci i)):=by
 intro a s Y H D I h;refine wpAny_Assign_Name (thn (he a s Y H _ I h) λv j zq=>?_) hs;obtain ⟨y,f,c,g,d⟩:=zq;exact Nh c hN hi hx g (λk b=>⟨_,f,b,d⟩) hf
def tPar(i j:Nat)(ta:TA):TS:=λD Y H=>ta Y H λa b=>∃v w,a=[v,w]/\D.nx ((Y.set i (some v)).set j (some w)) b
def oZ{kt k2 pt2}(hc:X.calm=true)(hN:X.N.Nodup)(hi:X.N[i]?=some x)(hj:X.N[j]?=some y)(hij:i≠j)(hx:X.env.scope.names.lookup x=some .local)(hy:X.env.scope.names.lookup y=some .local)(ha:PA X [a,b] ta)(hw:swappedStores [.Tuple [.Name x px,.Name y py] kt pt] (.Tuple [a,b] k2 pt2) X.env=pure (some [x,y]))(hs:swapsWithSole [.Tuple [.Name x px,.Name y py] kt pt] (.Tuple [a,b] k2 pt2) pos.line X.env=pure false:=by rfl) :
  PS X (.Assign [.Tuple [.Name x px,.Name y py] kt pt] (.Tuple [a,b] k2 pt2) pos) (tPar i j ta):=by
 intro c s Y H D I h;rw [exec_Assign_arm];refine Ac (Js ?_);rw [hs];refine Ac (Ad ?_);rw [iN (by decide)];refine Ac (Tuple_ (thn (ha _ c s Y H _ I h) λE g zq=>?_));obtain ⟨J,n,u,z,l⟩:=zq;obtain ⟨v,w,F,l⟩:=l;subst F;obtain ⟨d,f,rfl,t,m⟩ : ∃d f,E=[d,f]/\RelV v d/\RelV w f:=by
  cases z with
  | cons p q=>
   cases q with
   | cons p' q'=>
    cases q';exact ⟨_,_,rfl,p,p'⟩
 refine Hx ?_ (by show 2<=sizeLine;decide);have B:Inv X c Y n { g with heap:=g.heap.push { cls:=.type "tuple",data:=.seq [d,f].toArray } }:=u.kept λb o e=>Ao _ e
 rw [hw];refine Ac (Ad ?_);refine Ac (G6 (Ac (unpackItems_tuple (items:=#[d,f]) (I.ok.hd hc) (IsTup.new g.heap _) λK k=>?_)));have C:=B.kept (t':=g.toks) λb o e=>k b o (BK (Aq e)) e;refine Ac (assignInOrder_cons (wpAny_bindName (Nh C hN hj (.inl hy) m (λL A=>?_) (.inr hy))));refine assignInOrder_cons (wpAny_bindName (Nh A hN hi (.inl hx) t (λG r=>assignInOrder_nil (Ad ?_)) (.inr hx)));rw [List.set_comm _ _ (Ne.symm hij)] at r;exact ⟨_,n,r,l⟩
end
section
variable{X:Cx}{pos:Pos}
def Qt(c:TT)(tb:TS):TS:=λD Y H=>∃W:Nat->St->Hp->Prop,(∃m,W m Y H)/\∀m Y H,W m Y H ->
 c Y H λb f=>if b=true then ∃N:St->Hp->Prop,(∀a d,N a d->∃e,e<m/\W e a d)/\tb { D with nx:=N,ct:=N,bk:=D.nx } Y f else D.nx Y f
def ZnR(hp:PassesOwn (model X.prog X.w) X.A X.env X.xe)(hc:PT X c tc)(hb:PSs X body tb):PS X (.While c body [] pos) (Qt tc tb):=by
 intro a s Y H D I h;obtain ⟨W,⟨E,J⟩,g⟩:=h;refine wpAny_While (codeAny_whileLoop (λn F=>∃x r,Inv X a x r F/\W n x r) ?_ E ⟨Y,H,I,J⟩);rintro n B ⟨i,y,C,G⟩;refine JB hp (thn (hc a B i y _ C (g n i y G)) λb K zq=>?_);obtain ⟨t,u,k⟩:=zq;cases b with
 | true=>
  obtain ⟨N,z,k⟩:=k;rw [iP rfl];refine JB hp (thn (hb a K i t _ u k) λf L j=>?_);cases f with
  | next=>
   obtain ⟨d,e,q,o⟩:=j;obtain ⟨l,p,m⟩:=z d e o;exact ⟨l,p,d,e,q,m⟩
  | cont=>
   obtain ⟨d,e,q,o⟩:=j;obtain ⟨l,p,m⟩:=z d e o;exact ⟨l,p,d,e,q,m⟩
  | brk=>exact j
  | ret v=>exact j
 | false=>
  rw [iN Dp];exact wpAny_execs_nil ⟨i,t,u,k⟩
end
structure It where
 go:Nat->Hp->Prop
 yld:Nat->Hp->V->Hp->Prop
 stop:Nat->Hp->Prop
def FpOk(X:Cx)(pins:List (Addr×Obj))(H:Hp)(b:Addr):Prop :=
 H b=none/\b≠X.env.locals/\b∉X.fs/\(b∈X.ex\/X.s₀.heap.objs.size<=b)/\(∀x c,X.env.cells.lookup x=some c->c≠b)/\∀p∈X.pn++pins,p.1≠b
def Inv.fpOk(I:Inv X pins Y H s)(hb:s.heap.objs.size<=b)(hn:H' b=none):FpOk X pins H' b:=by
 refine ⟨hn,FN (Bu I.lt hb),I.nofs hb,.inr (CK I.sz hb),λx c e z=>?_,λp a z=>?_⟩
 .obtain ⟨v,q⟩:=I.cell x c e;exact aB (Bu q.lt (by rw [z];exact hb)) (Gu _)
 .exact aB (Bu (Aq (I.pin p a).1) (by rw [z];exact hb)) (Gu _)
structure Turn(P:Program)(w:World)(K:W.Frag)(tg:Expr)(J:It)(fp:List Addr)(it:Addr)(tn:Nat->Heap->Prop):Prop where
 mem:it∈fp
 obj:∀i h,tn i h->∀b∈fp,∃o,h.get? b=some o/\∀v,o.data≠.cell v
 keep:∀i h h',tn i h->(∀b∈fp,∀o,h.get? b=some o->h'.get? b=some o)->tn i h'
 item:∀(X:Cx),X.prog=P->X.w=w->X.K=K->X.calm=true->∀(i:Nat) (pins:List (Addr×Obj)) (s:Shared) (Y:St) (H:Hp) (E:Value->Shared->Prop),Inv X pins Y H s->(∀b∈fp,FpOk X pins H b)->tn i s.heap->J.go i H ->
  wpAny (model P w) X.A (pyNext (.ref it)) (λr s1=>∃u,r=some u /\
   wpAny (model P w) X.A (letOwnedTupleGo tg (.ref it) u) (λ_ s2=>∃x H',Inv X pins Y H' s2/\RelV x u/\J.yld i H x H'/\tn (i+1) s2.heap/\∀b∈fp,H' b=none) E s1) E s
 done:∀(X:Cx),X.prog=P->X.w=w->X.K=K->X.calm=true->∀(i:Nat) (pins:List (Addr×Obj)) (s:Shared) (Y:St) (H:Hp) (E:Value->Shared->Prop),Inv X pins Y H s->(∀b∈fp,FpOk X pins H b)->tn i s.heap->J.stop i H ->
  wpAny (model P w) X.A (pyNext (.ref it)) (λr s1=>r=none/\Inv X pins Y H s1) E s
 self:∀(A:Around) (i:Nat) (s:Shared) (Q:Value->Shared->Prop) (E:Value->Shared->Prop),tn i s.heap->Q (.ref it) s->wpAny (model P w) A (pyIter (.ref it)) Q E s
abbrev TI:=St->Hp->(It->Hp->Prop)->Prop
def PIE(X:Cx)(pins:List (Addr×Obj))(Y:St)(tg:Expr)(R:It->Hp->Prop)(itv:Value)(s2:Shared):Prop :=
 ∃c e d J a,itv=.ref c/\Inv X pins Y a s2/\Turn X.prog X.w X.K tg J e c d/\d 0 s2.heap/\(∀b∈e,FpOk X pins a b)/\R J a
def PI(X:Cx)(tg iter:Expr)(wi:TI):Prop :=
 ∀a s Y H R,Inv X a Y H s->wi Y H R ->
  wX X (eval iter X.env) (λv b=>wX X (pyIter v) (PIE X a Y tg R) X.xe b) X.xe s
def R0(ho:s.heap.get? it=some o)(hc:o.cls=.type n)(hd:o.data=.fields vs)(hn:["enumerate","zip","dict_itemiterator","dict_reverseitemiterator","odict_iterator","itertools.zip_longest","itertools.pairwise"].contains n=false)(hQ:Q () s):wpAny M A (letOwnedTupleGo tg (.ref it) u) Q E s:=by
 unfold letOwnedTupleGo;cases tg<;>first
  | exact Ad hQ
  | (cases u<;>first
    | exact Ad hQ
    | (refine Ac (wpAny_load ho ?_)
       rw [hc,hd];show wpAny M A (if (["enumerate","zip","dict_itemiterator","dict_reverseitemiterator","odict_iterator","itertools.zip_longest","itertools.pairwise"].contains n&&vs[0]?==some (rawInt _))=true then _ else _) Q E s
       rw [iN (by intro h;rw [hn,Bool.false_and] at h;cases h)]
       exact Ad hQ))
def Itl(K:W.Frag)(a:Addr):It :=
 ⟨λi H=>∃b x,SqL K H a b/\b[i]?=some x,λi H x c=>c=H/\∀b,SqL K H a b->b[i]?=some x,λi H=>∃b,SqL K H a b/\b.length<=i⟩
def Itt(K:W.Frag)(a:Addr):It :=
 ⟨λi H=>∃b x,SqT K H a b/\b[i]?=some x,λi H x c=>c=H/\∀b,SqT K H a b->b[i]?=some x,λi H=>∃b,SqT K H a b/\b.length<=i⟩
def Itr(lo:Int)(n:Nat):It:=⟨λi _=>i<n,λi H x a=>a=H/\x=.int (lo+i),λi _=>n<=i⟩
def qI{P:Program}{w:World}{K:W.Frag}{tg:Expr}(a it):Turn P w K tg (Itl K a) [it] it (λi h=>h.IsListIter it a i) where
 mem:=by simp
 obj:=λi h f b g=>by
  have e:b=it:=by simpa using g
  subst e;obtain ⟨o,e,c,d⟩:=f;exact ⟨o,e,λv z=>by rw [d] at z;cases z⟩
 keep:=λi h N f k=>f.at λo e=>k it (by simp) o e
 item:=by
  intro X G B y M i l s Y H E I m f F;subst G B y;obtain ⟨U,x,n,r⟩:=F;obtain ⟨A,q,p,V⟩:=I.list n;obtain ⟨u,S,T⟩:=q.get r;obtain ⟨L,t,f2,D,J,C⟩:=m it (by simp);refine wpAny_pyNext_list_item f p.isList (by simpa using S) λN j Q=>?_;have O:=I.turned (t':=s.toks) (λb o g e=>(Q.2 b g).trans e) L t D J C;obtain ⟨o,e,c,d⟩:=id j;exact ⟨u,rfl,R0 e c d (by decide) ⟨x,H,O,T,⟨rfl,λys R=>by rw [I.list_inj R n];exact r⟩,j,λb g=>(m b g).1⟩⟩
 done:=by
  intro X G B y M i l s Y H E I m f F;subst G B y;obtain ⟨U,n,r⟩:=F;obtain ⟨A,q,p,V⟩:=I.list n;obtain ⟨L,t,f2,D,J,C⟩:=m it (by simp);have hl:=q.length;exact wpAny_pyNext_list_end (I.ok.hd M) f p.isList (by simp;omega) λN Z=>⟨rfl,I.turned (λb o g e=>Z b o g e) L t D J C⟩
 self:=λ_ _ _ _ _ f h=>wpAny_pyIter_listiter f h
def mj{P:Program}{w:World}{K:W.Frag}{tg:Expr}(a it):Turn P w K tg (Itt K a) [it] it (λi h=>h.IsTupleIter it a i) where
 mem:=by simp
 obj:=λi h f b g=>by
  have e:b=it:=by simpa using g
  subst e;obtain ⟨o,e,c,d⟩:=f;exact ⟨o,e,λv z=>by rw [d] at z;cases z⟩
 keep:=λi h N f k=>f.at λo e=>k it (by simp) o e
 item:=by
  intro X G B y M i l s Y H E I m f F;subst G B y;obtain ⟨U,x,n,r⟩:=F;obtain ⟨A,q,p,V⟩:=I.tuple n;obtain ⟨u,S,T⟩:=q.get r;obtain ⟨L,t,f2,D,J,C⟩:=m it (by simp);refine wpAny_pyNext_tuple_item f (p) (by simpa using S) λN j Q=>?_;have O:=I.turned (t':=s.toks) (λb o g e=>(Q.2 b g).trans e) L t D J C;obtain ⟨o,e,c,d⟩:=id j;exact ⟨u,rfl,R0 e c d (by decide) ⟨x,H,O,T,⟨rfl,λys R=>by rw [I.tuple_inj R n];exact r⟩,j,λb g=>(m b g).1⟩⟩
 done:=by
  intro X G B y M i l s Y H E I m f F;subst G B y;obtain ⟨U,n,r⟩:=F;obtain ⟨A,q,p,V⟩:=I.tuple n;obtain ⟨L,t,f2,D,J,C⟩:=m it (by simp);have hl:=q.length;exact wpAny_pyNext_tuple_end (I.ok.hd M) f (p) (by simp;omega) λN Z=>⟨rfl,I.turned (λb o g e=>Z b o g e) L t D J C⟩
 self:=λ_ _ _ _ _ f h=>wpAny_pyIter_tupleiter f h
def rF{P:Program}{w:World}{K:W.Frag}{tg:Expr}(it)(lo)(n):Turn P w K tg (Itr lo n) [it] it (λi h=>IsRangeIter h it (lo+(i:Nat)*1) ((n:Int) - (i:Nat)) 1) where
 mem:=by simp
 obj:=λi h a b d=>by
  have e:b=it:=by simpa using d
  subst e
  exact ⟨_,a,λv z=>by
   have G:Data.fields _=Data.cell v:=z
   cases G⟩
 keep:=λi h p a k=>k it (by simp) _ a
 item:=by
  intro X y q m j i c s Y H E I g a x;subst y q m;obtain ⟨B,l,M,u,A,r⟩:=g it (by simp);have W:=Walks.range (prog:=X.prog) (w:=X.w) (I.ok.hd j) it lo 1 n;refine W.item i s _ _ x a λv p C F f L=>?_;obtain ⟨t,rfl⟩:=F;have D:Inv X c Y H { s with heap:=p,toks:=C }:=I.turned (λb o d e=>L b o (by simpa using d) e) B l u A r
  refine ⟨_,rfl,R0 f rfl rfl (by decide) ⟨.int (lo+i),H,D,⟨t,?_⟩,⟨rfl,rfl⟩,f,λb d=>(g b d).1⟩⟩;rw [Int.mul_one]
 done:=by
  intro X y q m j i c s Y H E I g a x;subst y q m;obtain ⟨B,l,M,u,A,r⟩:=g it (by simp);exact wpAny_pyNext_range_end (I.ok.hd j) a (by have:n<=i:=x;omega) λp J=>⟨rfl,I.turned (λb o d e=>J b o d e) B l u A r⟩
 self:=λ_ _ _ _ _ a h=>wpAny_pyIter_rangeiter a h
section
variable{X:Cx}{tg:Expr}
def W0{pins:List (Addr×Obj)}{Y:St}{H:Hp}{s:Shared}{R:It->Hp->Prop}{E:Value->Shared->Prop}{lo hi:Int}{t u v:Tok}{tk:Nat}(I:Inv X pins Y H s)(h1:-(2^62)<=lo)(h2:lo<2^62)(h3:-(2^62)<=hi)(h4:hi<2^62)(q:R (Itr lo (hi - lo).toNat) H):wX X (pyIter (.ref s.heap.objs.size)) (PIE X pins Y tg R) E { s with heap:=s.heap.push { cls:=.type "range",data:=.fields #[.int lo t,.int hi u,.int 1 v] },toks:=tk }:=by
 refine wpAny_pyIter_range (IsRange.new ..) (small_one h1 h2 h3 h4) ?_;have a:Inv X pins Y H { s with heap:=s.heap.push { cls:=.type "range",data:=.fields #[.int lo t,.int hi u,.int 1 v] },toks:=tk }:=I.kept λb o e=>Ao _ e
 refine ⟨(s.heap.push { cls:=.type "range",data:=.fields #[.int lo t,.int hi u,.int 1 v] }).objs.size,[(s.heap.push { cls:=.type "range",data:=.fields #[.int lo t,.int hi u,.int 1 v] }).objs.size],_,_,H,rfl,
  a.kept λb o e=>Ao _ e,rF _ lo (hi - lo).toNat,?_,λb c=>?_,q⟩
 .have f:lo+((0:Nat):Int)*1=lo:=by simp
  have d:(((hi - lo).toNat:Nat):Int) - ((0:Nat):Int)=Builtin.Range.rangeSize lo hi 1:=by rw [rangeSize_one];split<;>omega
  rw [f,d];exact Bp _ rfl
 .have e:b=(s.heap.push { cls:=.type "range",data:=.fields #[.int lo t,.int hi u,.int 1 v] }).objs.size:=by simpa using c
  subst e;exact a.fpOk (Al _) (a.hok.fresh (Al _))
def Tq(ta:TA):TI:=λY H R=>ta Y H λa b=>∃j,a=[.int j]/\-(2^62)<=j/\j<2^62/\R (Itr 0 j.toNat) b
def VB(ta:TA):TI:=λY H R=>ta Y H λa b=>∃i j,a=[.int i,.int j]/\(-(2^62)<=i/\i<2^62/\-(2^62)<=j/\j<2^62)/\R (Itr i (j - i).toNat) b
def mU{a:Expr}{ta:TA}{p pos:Pos}(hg:Gl X "range")(hm:X.mg "range"=none)(ha:PA X [a] ta)(hs:starEach [a] X.env=[(false,eval a X.env)]:=by rfl):PI X tg (.Call (.Name "range" p) [a] [] pos) (Tq ta):=by
 intro b s Y H R I h;refine Call_ (GZ I hg hm boot_range (G3 (thn (ha pos b s Y H _ I h) λm i zq=>?_) hs rfl));obtain ⟨k,l,d,f,c⟩:=zq;obtain ⟨j,e,c,g,q⟩:=c;subst e;cases f with
 | cons r rr=>
  cases rr;obtain ⟨t,rfl⟩:=r;exact call_range_1 (W0 d (by omega) (by omega) c g (by simpa using q))
def yG(hg:Gl X "range")(hm:X.mg "range"=none)(ha:PA X [a,b] ta)(hs:starEach [a,b] X.env=[(false,eval a X.env),(false,eval b X.env)]:=by rfl)(hs2:starEach [b] X.env=[(false,eval b X.env)]:=by rfl) :
  PI X tg (.Call (.Name "range" p) [a,b] [] pos) (VB ta):=by
 intro c s Y H R I h;refine Call_ (GZ I hg hm boot_range (G3 (thn (ha pos c s Y H _ I h) λw n zq=>?_) (by rw [hs,hs2]) (by rw [hs2];rfl)));obtain ⟨u,v,f,g,d⟩:=zq;obtain ⟨i,j,e,⟨d,m,k,l⟩,q⟩:=d;subst e;cases g with
 | cons r rr=>
  cases rr with
  | cons r' rr=>
   cases rr;obtain ⟨t,rfl⟩:=r;obtain ⟨o,rfl⟩:=r';exact call_range_2 (W0 f d m k l q)
def tFor(wi:TI)(g:TG)(tb:TS):TS:=λD Y H=>wi Y H λJ f=>∃W:Nat->Nat->St->Hp->Prop,(∃m,W 0 m Y f)/\∀i m Y H,W i m Y H ->
 (J.stop i H/\D.nx Y H)\/(J.go i H/\∃N:St->Hp->Prop,(∀b a,N b a->∃c,c<m/\W (i+1) c b a)/\∀x a,J.yld i H x a->g x Y a λe d=>tb { D with nx:=N,ct:=N,bk:=D.nx } e d)
def QJ(fp:List Addr)(h:Heap):List (Addr×Obj):=fp.filterMap λb=>(h.get? b).map λo=>(b,o)
def LC(hb:b∈fp)(e:h.get? b=some o):(b,o)∈QJ fp h:=LQ.mpr ⟨b,hb,by rw [e];rfl⟩
def wR(hp:p∈QJ fp h):p.1∈fp/\h.get? p.1=some p.2:=by
 obtain ⟨b,c,e⟩:=LQ.mp hp;cases q:h.get? b with
 | none=>rw [q] at e;cases e
 | some o=>
  rw [q] at e;have a:=Bt e;subst a;exact ⟨c,q⟩
def Inv.pinned(I:Inv X pins Y H s)(hf:∀b∈fp,FpOk X pins H b)(ho:∀b∈fp,∃o,s.heap.get? b=some o/\∀v,o.data≠.cell v):Inv X (pins++QJ fp s.heap) Y H s :=
 I.pins_of λp f=>(HH.mp f).elim (λz=>I.pin p (DQ _ z)) λz=>by
  obtain ⟨a,e⟩:=wR z;obtain ⟨h,i,g,_⟩:=hf p.1 a;obtain ⟨o,c,d⟩:=ho p.1 a;rw [e] at c;cases c;exact ⟨e,h,i,g,d⟩
def Inv.unpinned(I:Inv X (pins++pl) Y H s):Inv X pins Y H s:=I.pins_of λp a=>I.pin p (DQ _ (GP _ a))
def XS(hp:PassesOwn (model X.prog X.w) X.A X.env X.xe)(hc:X.calm=true)(hi:PI X tg iter wi)(hg:PG X tg g)(hb:PSs X body tb)(hs:∀x,foldedSetIterable iter X.env x=pure x:=by intro _;rfl):PS X (.For tg iter body [] pos) (tFor wi g tb):=by
 intro a s Y H D I h;refine wpAny_For (thn (hi a s Y H _ I h) λv s1 h1=>thn h1 λitv s2 h2=>?_) hs;obtain ⟨it,F,U,J,H2,e,I2,T,P,f2,W,⟨m0,w0⟩,B⟩:=h2;subst e;have j:∀{q:Hp},(∀b∈F,q b=none)->∀b∈F,FpOk X a q b:=λhn b hb=>⟨hn b hb,(f2 b hb).2⟩;refine codeAny_forLoop_any (λn s'=>∃i G q,Inv X a G q s'/\U i s'.heap/\(∀b∈F,q b=none)/\W i n G q) ?_ m0 ⟨0,Y,H2,I2,P,λb hb=>(f2 b hb).1,w0⟩;rintro n V ⟨i,C,L,I3,K,z,w3⟩;rcases B i n C L w3 with ⟨stop,qn⟩ | ⟨go,N,hN,step⟩
 .refine JB hp (thn (T.done X rfl rfl rfl hc i a V C L X.xe I3 (j z) K stop) λr s4 ⟨R,I4⟩=>?_);subst R;exact wpAny_execs_nil ⟨C,L,I4,qn⟩
 .refine JB hp (thn (T.item X rfl rfl rfl hc i a V C L X.xe I3 (j z) K go) λr s4 zq=>?_);obtain ⟨u,R,h4⟩:=zq;subst R;refine JB hp (thn h4 λ_ S zq=>?_);obtain ⟨x,Z,I5,r5,y5,y,M⟩:=zq;have O:=I5.pinned (j M) (T.obj _ _ y);refine JB hp (thn (hg _ S C Z x u _ O r5 (step x Z y5)) λ_ s6 zq=>?_);obtain ⟨Y6,H6,I6,q6⟩:=zq;refine JB hp (thn (hb _ s6 Y6 H6 _ I6 q6) λf Q t=>?_);have l:∀{k:St} {p:Hp},Inv X (a++QJ F S.heap) k p Q->N k p->∃m,m<n/\∃i G q,Inv X a G q Q/\U i Q.heap/\(∀b∈F,q b=none)/\W i m G q:=λ{k p} c E=>by
   obtain ⟨m',hm,w7⟩:=hN k p E;refine ⟨m',hm,i+1,k,p,c.unpinned,T.keep _ _ _ y λb hb o e=>(c.pin (b,o) (DQ _ (DQ _ (LC hb e)))).1,λb hb=>?_,w7⟩;obtain ⟨o,e,d⟩:=T.obj _ _ y b hb;exact (c.pin (b,o) (DQ _ (DQ _ (LC hb e)))).2.1
  cases f with
  | next=>obtain ⟨k,p,c,E⟩:=t;exact l c E
  | cont=>obtain ⟨k,p,c,E⟩:=t;exact l c E
  | brk=>obtain ⟨k,p,c,t⟩:=t;exact ⟨k,p,c.unpinned,t⟩
  | ret v=>obtain ⟨x7,k,p,c,r7,t⟩:=t;exact ⟨x7,k,p,c.unpinned,r7,t⟩
end
abbrev R2:=V->V->Hp->VK->Prop
def OpR(X:Cx)(f:Value->Value->Sem Value)(r:R2):Prop :=
 ∀a s Y H x y v u Q,Inv X a Y H s->RelV x v->RelV y u->r x y H Q ->
  wX X (f v u) (EP X a Y Q) X.xe s
def UnR(X:Cx)(f:Value->Sem Value)(r:V->Hp->VK->Prop):Prop :=
 ∀a s Y H x v Q,Inv X a Y H s->RelV x v->r x H Q ->
  wX X (f v) (EP X a Y Q) X.xe s
def Ey(X:Cx)(f:Value)(r:List V->Hp->VK->Prop):Prop :=
 ∀a s Y H c b Q,Inv X a Y H s->Vals c b->r c H Q ->
  wX X (call f b) (EP X a Y Q) X.xe s
def tOp(r:R2)(ta tb:TE):TE:=λY H Q=>ta Y H λx b=>tb Y b λy a=>r x y a Q
def tUn(r:V->Hp->VK->Prop)(ta:TE):TE:=λY H Q=>ta Y H λx a=>r x a Q
def rI(C:Int->Int->Prop)(g:Int->Int->V):R2:=λx y H Q=>∃i j,x=.int i/\y=.int j/\C i j/\Q (g i j) H
def rI0(g:Int->Int->V):R2:=λx y H Q=>∃i j,x=.int i/\y=.int j/\Q (g i j) H
def rU(g:Int->V):V->Hp->VK->Prop:=λx H Q=>∃i,x=.int i/\Q (g i) H
section
variable{X:Cx}{a b c:Expr}{ta tb tc:TE}{pos:Pos}
def binT(ha:PE X a ta)(hb:PE X b tb){pins:List (Addr×Obj)}{s:Shared}{Y:St}{H:Hp}{R:V->V->Hp->Prop}(I:Inv X pins Y H s)(h:ta Y H λx H1=>tb Y H1 λy H2=>R x y H2){Q:Value->Shared->Prop}{f:Value->Value->Sem Value}(hf:∀v u s2 x y H2,Inv X pins Y H2 s2->RelV x v->RelV y u->R x y H2->wX X (f v u) Q X.xe s2) :
  wX X (eval a X.env) (λv s₁=>wX X (eval b X.env) (λu s₂=>wX X (f v u) Q X.xe s₂) X.xe s₁) X.xe s:=by
 refine thn (ha pins s Y H _ I h) λv e zq=>?_;obtain ⟨x,H1,g,k,i⟩:=zq;refine thn (hb pins e Y H1 _ g i) λu s2 zq=>?_;obtain ⟨y,H2,d,c,j⟩:=zq;exact hf v u s2 x y H2 d k c j
def Yj(ho:OpR X (binaryOp op) r)(ha:PE X a ta)(hb:PE X b tb):PE X (.BinOp a op b pos) (tOp r ta tb):=by
 intro c s Y H Q I h;exact wpAny_BinOp (binT ha hb I h λv u i x y e g f d q=>ho c i Y e x y v u Q g f d q)
def uP(ho:UnR X (unaryOp op) r)(ha:PE X a ta):PE X (.UnaryOp op a pos) (tUn r ta):=by
 intro b s Y H Q I h;exact UnaryOp_ (thn (ha b s Y H _ I h) λv c zq=>by obtain ⟨x,f,d,g,e⟩:=zq;exact ho b c Y f x v Q d g e)
def opI{f:Value->Value->Sem Value}{C:Int->Int->Prop}{g:Int->Int->Int}(rule:∀(i j:Int) (t u:Tok) (s:Shared) (Q:Value->Shared->Prop) (E:Value->Shared->Prop),C i j->Q (.int (g i j) s.toks) { s with toks:=s.toks+1 }->wX X (f (.int i t) (.int j u)) Q E s) :
  OpR X f (rI C λi j=>.int (g i j)):=by
 intro a s Y H x y v u Q I e c h;obtain ⟨i,j,rfl,rfl,b,q⟩:=h;obtain ⟨t,rfl⟩:=e;obtain ⟨d,rfl⟩:=c;exact rule i j t d s _ _ b ⟨.int (g i j),H,I.tok _,⟨_,rfl⟩,q⟩
def opI0{f:Value->Value->Sem Value}{g:Int->Int->Int}(rule:∀(i j:Int) (t u:Tok) (s:Shared) (Q:Value->Shared->Prop) (E:Value->Shared->Prop),Q (.int (g i j) s.toks) { s with toks:=s.toks+1 }->wX X (f (.int i t) (.int j u)) Q E s) :
  OpR X f (rI0 λi j=>.int (g i j)):=by
 intro a s Y H x y v u Q I d b h;obtain ⟨i,j,rfl,rfl,q⟩:=h;obtain ⟨t,rfl⟩:=d;obtain ⟨c,rfl⟩:=b;exact rule i j t c s _ _ ⟨.int (g i j),H,I.tok _,⟨_,rfl⟩,q⟩
def opB0{f:Value->Value->Sem Value}{g:Int->Int->Bool}(rule:∀(i j:Int) (t u:Tok) (s:Shared) (Q:Value->Shared->Prop) (E:Value->Shared->Prop),Q (.bool (g i j)) s->wX X (f (.int i t) (.int j u)) Q E s) :
  OpR X f (rI0 λi j=>.bl (g i j)):=by
 intro a s Y H x y v u Q I d b h;obtain ⟨i,j,rfl,rfl,q⟩:=h;obtain ⟨t,rfl⟩:=d;obtain ⟨c,rfl⟩:=b;exact rule i j t c s _ _ ⟨.bl (g i j),H,I,rfl,q⟩
def CPow(i j:Int):Prop:=0<=j/\j<=1000000/\i.natAbs<2^64
def mG(k):(0:Int)<=2^k:=by
 rw [two_pow_cast];exact Int.natCast_nonneg _
def vH:OpR X (binaryOp .Add) (rI0 λi j=>.int (i+j)):=opI0 λ_ _ _ _ _ _ _ q=>add_int q
def jM:OpR X (binaryOp .Sub) (rI0 λi j=>.int (i - j)):=opI0 λ_ _ _ _ _ _ _ q=>sub_int q
def zA:OpR X (binaryOp .Mod) (rI (λ_ j=>j≠0) λi j=>.int (i.fmod j)):=opI λ_ _ _ _ _ _ _ a q=>mod_int' a q
def ym:OpR X (binaryOp .Pow) (rI CPow λi j=>.int (i^j.toNat)):=opI λ_ _ _ _ _ _ _ a q=>pow_int_small a.1 a.2.1 a.2.2 q
def Ztd:OpR X (binaryOp .LShift) (rI CPow λi j=>.int (i*2^j.toNat)):=opI λ_ _ _ _ _ _ _ a q=>lshift_int_small a.1 a.2.1 a.2.2 q
def nU:OpR X (binaryOp .RShift) (rI (λ_ j=>0<=j) λi j=>.int (i/2^j.toNat)):=opI λi j _ _ _ _ _ a q=>
 rshift_int a (by rw [Qa i (mG _)];exact q)
def unI{f:Value->Sem Value}{g:Int->Int}(rule:∀(i:Int) (t:Tok) (s:Shared) (Q:Value->Shared->Prop) (E:Value->Shared->Prop),Q (.int (g i) s.toks) { s with toks:=s.toks+1 }->wX X (f (.int i t)) Q E s) :
  UnR X f (rU λi=>.int (g i)):=by
 intro a s Y H x v Q I b h;obtain ⟨i,rfl,q⟩:=h;obtain ⟨t,rfl⟩:=b;exact rule i t s _ _ ⟨.int (g i),H,I.tok _,⟨_,rfl⟩,q⟩
def pO:UnR X (unaryOp .USub) (rU λi=>.int (-i)):=unI λ_ _ _ _ _ q=>neg_int q
end
section
variable{X:Cx}{a b c:Expr}{ta tb tc:TE}{pos:Pos}
def Qk(I:Inv X pins Y H s)(q:Q (.bl k) H)(e:k=k'):EP X pins Y Q (.bool k') s:=by
 subst e;exact ⟨.bl k,H,I,rfl,q⟩
def aG:OpR X (compareOp .Lt) (rI0 λi j=>.bl (decide (i<j))):=opB0 λ_ _ _ _ _ _ _ q=>lt_int q
def dZ:OpR X (compareOp .LtE) (rI0 λi j=>.bl (decide (i<=j))):=opB0 λ_ _ _ _ _ _ _ q=>le_int q
def qJ:OpR X (compareOp .Gt) (rI0 λi j=>.bl (decide (j<i))):=opB0 λ_ _ _ _ _ _ _ q=>gt_int q
def Xu:OpR X (compareOp .GtE) (rI0 λi j=>.bl (decide (j<=i))):=opB0 λ_ _ _ _ _ _ _ q=>ge_int q
def jA:OpR X (compareOp .Is) (λx y H Q=>y=.non/\Q (.bl (decide (x=.non))) H):=by
 intro a s Y H x y v u Q I b c h;obtain ⟨rfl,q⟩:=h;cases c;refine is_none_gen (Qk I q ?_);cases x<;>first
  | (cases b;rfl)
  | (obtain ⟨t,rfl⟩:=b;rfl)
def xH:OpR X (compareOp .IsNot) (λx y H Q=>y=.non/\Q (.bl (!decide (x=.non))) H):=by
 intro a s Y H x y v u Q I b c h;obtain ⟨rfl,q⟩:=h;cases c;refine isnot_none_gen (Qk I q ?_);cases x<;>first
  | (cases b;rfl)
  | (obtain ⟨t,rfl⟩:=b;rfl)
def Fg(b)(h:op≠.In:=by decide)(h2:op≠.NotIn:=by decide):behindInMarks op b=false:=by
 have a:(op==CmpOp.In)=false:=by cases op<;>first | rfl | exact aB rfl h
 have c:(op==CmpOp.NotIn)=false:=by cases op<;>first | rfl | exact aB rfl h2
 cases b<;>simp [behindInMarks,a,c]
def gf(ho:OpR X (compareOp op) r)(ha:PE X a ta)(hb:PE X b tb)(hm:behindInMarks op b=false):PE X (.Compare a [op] [b] pos) (tOp r ta tb):=by
 intro c s Y H Q I h;exact wpAny_Compare1 (binT ha hb I h λv u i x y e g f d q=>ho c i Y e x y v u Q g f d q) hm
def Ft(t:TE):TT:=λY H Q=>t Y H λx a=>∃k,x=.bl k/\Q k a
def RV(ho:OpR X (compareOp op) r)(ha:PE X a ta)(hb:PE X b tb)(hm:behindInMarks op b=false):PT X (.Compare a [op] [b] pos) (Ft (tOp r ta tb)):=by
 intro d s Y H Q I h
 refine wpAny_isTrue_Compare1 (thn (ha d s Y H _ I h) λv g zq=>?_) hm;obtain ⟨x,m,j,n,t⟩:=zq;refine thn (hb d g Y m _ j t) λu B zq=>?_;obtain ⟨y,i,p,f,w⟩:=zq;refine thn (ho d B Y i x y v u _ p n f w) λc C zq=>?_;obtain ⟨z,q,A,l,k,e,o⟩:=zq
 subst e;cases l;exact wpAny_truthy_bool ⟨q,A,o⟩
def Qv:(sizeLine:Nat)<2^63:=by rw [sizeLine_eq];decide
def zW:OpR X (binaryOp .Add) (λx y H Q=>∃i j,x=.str i/\y=.str j/\i.length+j.length<=sizeLine/\Q (.str (i++j)) H):=by
 intro a s Y H x y v u Q I d b h;obtain ⟨i,j,rfl,rfl,e,q⟩:=h;obtain ⟨t,rfl⟩:=d;obtain ⟨c,rfl⟩:=b;exact add_str (λc f=>⟨.str (i++j),H,I.tok _,⟨_,rfl⟩,q⟩) e
def vals1(r:Vals [x] us):∃u,us=[u]/\RelV x u:=by
 cases r with
 | cons r1 r2=>cases r2;exact ⟨_,rfl,r1⟩
def vals2(r:Vals [x,y] us):∃u w',us=[u,w']/\RelV x u/\RelV y w':=by
 cases r with
 | cons r1 r2=>
  cases r2 with
  | cons r3 r4=>cases r4;exact ⟨_,_,rfl,r1,r3⟩
def lM:Ey X (.builtin "abs") (λxs H Q=>∃i,xs=[.int i]/\Q (.int (if i<0 then -i else i)) H):=by
 intro a s Y H xs c Q I r h;obtain ⟨i,rfl,q⟩:=h;obtain ⟨u,rfl,t,rfl⟩:=vals1 r;exact call_abs_int λu b=>⟨.int (if i<0 then -i else i),H,I.tok _,⟨_,rfl⟩,q⟩
def fU(hc:X.calm=true):Ey X (.builtin "min") (λxs H Q=>∃i j,xs=[.int i,.int j]/\Q (.int (if j<i then j else i)) H):=by
 intro a s Y H xs f Q I r h;obtain ⟨i,j,rfl,q⟩:=h;obtain ⟨u,e,rfl,⟨t,rfl⟩,⟨c,rfl⟩⟩:=vals2 r;refine min_two_ints (I.ok.hd hc) λd b k=>⟨_,H,I.kept k,?_,q⟩;by_cases hj:j<i
 .rw [iP hj,iP hj];exact ⟨_,rfl⟩
 .rw [iN hj,iN hj];exact ⟨_,rfl⟩
end
structure ObjM(h:Heap)(x dx C:Addr)(mA:Str->Option Value):Prop where
 obj:h.get? x=some (W.instObj C dx)
 ns:h.Ns1 dx mA
 ne:dx≠x
def lZ{h:Heap}(n:h.Ns1 dx mA):∃od,h.get? dx=some od/\∀name,W.lookIn name od=some (mA name):=by
 obtain ⟨o,c,l,j,d,g,_,k⟩:=n;refine ⟨o,j,λname=>?_⟩;have e:=k name;unfold nsFind findBy at e;rw [<-Array.find?_toList] at e;unfold W.lookIn;rw [d];dsimp only;split
 .rename_i y q;rw [q] at e;exact CV some e
 .rename_i q;rw [q] at e;have a:c.toList.any (·.refKey)=false:=by
   rw [List.any_eq_false];intro y i;obtain ⟨z,t,b⟩:=g y (Array.mem_toList_iff.mp i);simp [DictEntry.refKey,b]
  have f:¬c.toList.any (·.refKey)=true:=by rw [a];exact Dp
  rw [iN f];exact CV some e
def ObjM.look(I:ObjM h x dx C mA):∃od,W.InstAt h x (W.instObj C dx) C (some od)/\∀name,W.lookIn name od=some (mA name) :=
 let ⟨od,ho,hl⟩:=lZ I.ns
 ⟨od,⟨I.obj,rfl,rfl,ho⟩,hl⟩
section
variable{prog:Program}{w:World}{A:Around}{E:Value->Shared->Prop}{s:Shared}{K:W.Frag}{x dx C f:Addr}{mA:Str->Option Value}{name:Str}{v:Value}
def gZ(X:K.In s.heap)(I:ObjM s.heap x dx C mA)(hg:W.plainGet K C name=true)(hh:W.hasDictIn K C=true)(ha:W.findIn K (.ref C) name=some none)(hv:mA name=some v)(hv':W.handedIn v=true)(h:Q v { s with toks:=s.toks+1 }) :
  wpAny (model prog w) A (getAttr (.ref x) name expr) Q E s:=by
 obtain ⟨b,J,a⟩:=I.look;exact W.get_value X J (W.plainGet_of hg).1 (W.findObj_own hh ha rfl (by rw [a,hv])) hv' h
def vf(X:K.In s.heap)(I:ObjM s.heap x dx C mA)(hg:W.plainGet K C name=true)(hf:W.findIn K (.ref C) name=some (some (.ref f)))(ht:W.isFn K (.ref f)=true)(hv:mA name=none)(h:Q (.ref f,[.ref x]) s) :
  wpAny (model prog w) A (getMethod (.ref x) name pl) Q E s:=by
 obtain ⟨a,J,b⟩:=I.look;exact W.method_fn X J (W.plainGet_of hg).1 (W.plainGet_of hg).2 hf (beq_iff_eq.mp ht) (by show (W.lookIn name a).map (·.isSome)=some false;rw [b,hv];rfl) h
def v9(X:K.In s.heap)(I:ObjM s.heap x dx C mA)(hs:W.findIn K (.ref C) "__setattr__"=some (some (.builtin "object.__setattr__")))(hp:W.plainOver K C=true)(ht:W.takerIn K C name=some none)(hh:W.hasDictIn K C=true)(hw:PySem.Within mA ns)(hsz:ns.length<=sizeLine)(h:∀h',ObjM h' x dx C (λy=>if y=name then some v else mA y)->Heap.SameBut dx s.heap h'->Q () { s with heap:=h',toks:=s.toks+2 }) :
  wpAny (model prog w) A (setAttr (.ref x) name v) Q E s:=by
 obtain ⟨o,J,n⟩:=I.look;refine W.set_plain X J hs (W.osa_open X J hp ht λb=>?_);obtain ⟨m,i,f⟩:=W.any_some hh;have j:=I.obj;refine Ac (Ad (Ac (Ac (wpAny_loadPart j (Ac (W.Looks.here (W.looks_clsIn X i) ?_))))));rw [f];refine Ad (Ac (Ad (Ac ?_)));refine wpAny_nsSet1 I.ns λh' c a=>?_;obtain ⟨p,k,l,e,g,d⟩:=c.count (PySem.Within.cons name v hw);refine Ac (wpAny_lookBehind e (by rw [g];exact pastItsLine_dict (CK d (by rw [CW];omega))) ?_);exact Ad (h _ ⟨(a.2 _ (Ne.symm I.ne)).trans I.obj,c,I.ne⟩ a)
def gq(X:K.In s.heap)(hm:W.makesIn K C=true)(hi:W.findIn K (.ref C) "__init__"=some (some (.ref f)))(hf:W.typeIn K (.ref f)=some (.type "function")) (h:codeAny (model prog w) (A.under (.builtin "type.__call__" ⟨.ref C::vs,kw⟩)) (.call (.ref f) ⟨.ref (s.heap.objs.size+1)::vs,kw⟩) (W.InitBack (s.heap.objs.size+1) R)
   { s with heap:=(s.heap.push W.emptyDict).push (W.instObj C s.heap.objs.size) }) :
  codeAny (model prog w) A (.call (.ref C) ⟨vs,kw⟩) R s:=by
 obtain ⟨c,g,d,t,b⟩:=s;exact W.make_core (W.makes_of X hm) (W.looks_findIn X hi) (λa=>W.bind_fn X a hf) (.inl rfl) h
end
def putF(f:Str)(v:V):List (Str×V)->List (Str×V)
 | []=>[(f,v)]
 | (g,x)::r=>if g=f then (g,v)::r else (g,x)::putF f v r
def eX(f g)(v):∀fs,(putF f v fs).lookup g=if g=f then some v else fs.lookup g
 | []=>by
  show List.lookup g [(f,v)]=_;by_cases h:g=f
  .have a:(g==f)=true:=beq_iff_eq.mpr h;simp only [List.lookup,a,iP h]
  .have a:(g==f)=false:=Ru.mpr h;simp only [List.lookup,a,iN h]
 | (k,x)::r=>by
  have ih:=eX f g v r;rw [show putF f v ((k,x)::r)=(if k=f then (k,v)::r else (k,x)::putF f v r) from rfl]
  by_cases hk:k=f
  .rw [iP hk];by_cases h:g=k
   .have a:(g==k)=true:=beq_iff_eq.mpr h;simp only [List.lookup,a,iP (h.trans hk)]
   .have a:(g==k)=false:=Ru.mpr h;simp only [List.lookup,a,iN (λe:g=f=>h (e.trans hk.symm))]
  .rw [iN hk];by_cases h:g=k
   .have a:(g==k)=true:=beq_iff_eq.mpr h;simp only [List.lookup,a,iN (λe:g=f=>hk (h.symm.trans e))]
   .have a:(g==k)=false:=Ru.mpr h;simp only [List.lookup,a];exact ih
def Vg(f)(v):∀fs,f∈(putF f v fs).map (·.1)/\∀g,g∈fs.map (·.1)->g∈(putF f v fs).map (·.1)
 | []=>⟨by simp [putF],λg h=>by simp at h⟩
 | (k,x)::r=>by
  obtain ⟨a,b⟩:=Vg f v r;rw [show putF f v ((k,x)::r)=(if k=f then (k,v)::r else (k,x)::putF f v r) from rfl]
  by_cases hk:k=f
  .rw [iP hk];subst hk;exact ⟨by simp,λg h=>by simpa using h⟩
  .rw [iN hk];refine ⟨?_,λg h=>?_⟩
   .rw [Ba];exact BP _ a
   .rw [Ba] at h ⊢;rcases Aj.mp h with e | e
    .exact Aj.mpr (.inl e)
    .exact BP _ (b g e)
def XN(f)(v):∀fs,(putF f v fs).length<=fs.length+1
 | []=>by simp [putF]
 | (k,x)::r=>by
  have ih:=XN f v r;rw [show putF f v ((k,x)::r)=(if k=f then (k,v)::r else (k,x)::putF f v r) from rfl]
  by_cases hk:k=f
  .rw [iP hk,CW,CW];omega
  .rw [iN hk,CW,CW];omega
def RelO.some_of(r:RelO (some v) o):∃u,o=some u/\RelV v u:=by
 cases o with
 | none=>exact (r).elim
 | some u=>exact ⟨u,rfl,r⟩
def RelO.none_of(r:RelO none o):o=none:=by
 cases o with
 | none=>rfl
 | some u=>exact (r).elim
def uy(r:RelV v u):W.handedIn u=true:=by
 cases v with
 | non=>cases (r);rfl
 | bl b=>cases (r);rfl
 | int i=>obtain ⟨t,e⟩:=(r);cases e;rfl
 | str x=>obtain ⟨t,e⟩:=(r);cases e;rfl
 | ref a=>cases (r);rfl
 | ty n=>cases (r);rfl
section
variable{P:Program}{w:World}{H H':Hp}{h h':Heap}{a C dx:Addr}{fs fs':List (Str×V)}
def RD(hok:HOk P w H h)(e:H a=some (.ins C dx fs)):∃mA,ObjM h a dx C mA/\(∀f,RelO (fs.lookup f) (mA f))/\PySem.Within mA (fs.map (·.1))/\fs.length<=1000/\H dx=some (.own a):=by
 obtain ⟨d,z,b,c,mA,n,r,q⟩:=(hok a _ e);exact ⟨mA,⟨c,n,b⟩,r,q,z,d⟩
end
structure Cls(K:W.Frag)(C:Addr):Prop where
 pg:W.plainGet K C Str.empty=true
 hd:W.hasDictIn K C=true
 po:W.plainOver K C=true
 sa:W.findIn K (.ref C) "__setattr__"=some (some (.builtin "object.__setattr__"))
def Cls.get{K:W.Frag}{C:Addr}(c:Cls K C)(f):W.plainGet K C f=true:=c.pg
def HW(K:W.Frag)(C:Addr)(f:Str):Prop:=W.findIn K (.ref C) f=some none
def HW.taker{K:W.Frag}{C:Addr}{f:Str}(n:HW K C f):W.takerIn K C f=some none:=by
 unfold W.takerIn;rw [show W.findIn K (.ref C) f=some none from n];rfl
structure Meth(K:W.Frag)(C:Addr)(m:Str)(f:Addr):Prop where
 at_:W.findIn K (.ref C) m=some (some (.ref f))
 fn:W.isFn K (.ref f)=true
 kp:W.keepIn K (.ref f)=true
section
variable{X:Cx}{pins:List (Addr×Obj)}{Y:St}{H:Hp}{s:Shared}{a C dx:Addr}{fs:List (Str×V)}{f:Str}{v:V}{A:Around}{E:Value->Shared->Prop}
def ZjZ(I:Inv X pins Y H s)(e:H a=some (.ins C dx fs))(c:Cls X.K C)(n:HW X.K C f)(l:fs.lookup f=some v)(h:∀u s',Inv X pins Y H s'->RelV v u->Q u s'):wpAny (model X.prog X.w) A (getAttr (.ref a) f b) Q E s:=by
 obtain ⟨i,O,r,_,_,_⟩:=RD I.hok e;obtain ⟨u,g,d⟩:=RelO.some_of (by rw [<-l];exact r f);exact gZ I.kIn O (c.get f) c.hd n g (uy d) (h u _ (I.tok _) d)
def W8(I:Inv X pins Y H s)(e:H a=some (.ins C dx fs))(c:Cls X.K C)(k:Meth X.K C m g)(l:fs.lookup m=none)(h:Q (.ref g,[.ref a]) s):wpAny (model X.prog X.w) A (getMethod (.ref a) m pl) Q E s:=by
 obtain ⟨d,O,r,_,_,_⟩:=RD I.hok e;have b:=RelO.none_of (by rw [<-l];exact r m);exact vf I.kIn O (c.get m) k.at_ k.fn b h
def zL(I:Inv X pins Y H s)(e:H a=some (.ins C dx fs))(c:Cls X.K C)(n:HW X.K C f)(hl:fs.length<1000)(ry:RelV y u)(h:∀s',Inv X pins Y (upd H a (.ins C dx (putF f y fs))) s'->Q () s'):wpAny (model X.prog X.w) A (setAttr (.ref a) f u) Q E s:=by
 obtain ⟨j,O,r,i,_,k⟩:=RD I.hok e;have t:(fs.map (·.1)).length<=sizeLine:=by rw [Af,sizeLine_eq];omega
 refine v9 I.kIn O c.sa c.po n.taker c.hd i t λv d m=>h _ ?_;have p:∃o,v.get? dx=some o:=let ⟨o,_,_,e',_⟩:=d.ns;⟨o,e'⟩;refine I.write (by rw [e];exact True.intro) (.inr k) (λb q x z=>(m.2 b x).trans z) p ?_;refine ⟨by rw [Ag O.ne];exact k,?_,O.ne,d.obj,_,d.ns,λg=>?_,λg l=>?_⟩
 .have:=XN f y fs;omega
 .show RelO ((putF f y fs).lookup g) (if g=f then some u else j g)
  rw [eX];by_cases q:g=f
  .rw [iP q,iP q];exact ry
  .rw [iN q,iN q];exact r g
 .by_cases q:g=f
  .rw [q];exact (Vg f y fs).1
  .refine (Vg f y fs).2 g (i g λz=>l ?_);show (if g=f then some u else j g)=none
   rw [iN q];exact z
def Inv.made(I:Inv X pins Y H s):Inv X pins Y (upd (upd H s.heap.objs.size (.own (s.heap.objs.size+1))) (s.heap.objs.size+1) (.ins C s.heap.objs.size []))
  { s with heap:=(s.heap.push W.emptyDict).push (W.instObj C s.heap.objs.size) }:=by
 have c:(s.heap.push W.emptyDict).get? s.heap.objs.size=some W.emptyDict:=Bp s.heap rfl;have f:((s.heap.push W.emptyDict).push (W.instObj C s.heap.objs.size)).get? (s.heap.objs.size+1)=some (W.instObj C s.heap.objs.size):=by
  have:=Bp (s.heap.push W.emptyDict) (o:=W.instObj C s.heap.objs.size) rfl;rwa [Ck] at this
 have h:(s.heap.push W.emptyDict).Ns s.heap.objs.size (λ_=>none):=⟨W.emptyDict,#[],_,c,rfl,(λe d=>aB d (by simp)),λ_=>rfl⟩;have g:=I.laid (o:=.own (s.heap.objs.size+1)) (t':=s.toks) (λb u q=>Ao _ q) (Al _) ⟨_,c⟩;refine g.laid (λb u q=>Ao _ q) (Nat.le_of_eq (Ck _ _)) ?_;have a:s.heap.objs.size≠s.heap.objs.size+1:=BK (Gh _);refine ⟨by rw [Ag a,Ak],DR _,a,f,λ_=>none,(Heap.Ns1.of_empty h).at λo q=>Ao _ q,λ_=>True.intro,λy i=>aB rfl i⟩
def zB(hb:attributeBase e f env (eval e env)=eval e env)(h:wpAny (model prog w) A (eval e env) (λo s₁=>wpAny (model prog w) A (getAttr o f true) Q E s₁) E s):wpAny (model prog w) A (eval (.Attribute e f pos) env) Q E s :=
 Attribute_any_ h (by rw [arm_eval_Attribute,hb])
end
def tFld(K:W.Frag)(ta:TE)(f:Str):TE:=λY H Q=>ta Y H λx b=>∃a C d c v,x=.ref a/\b a=some (.ins C d c)/\Cls K C/\HW K C f/\c.lookup f=some v/\Q v b
def sFld(K:W.Frag)(ta tv:TE)(f:Str):TS:=λD Y H=>tv Y H λy e=>ta Y e λx d=>∃a C c b,x=.ref a/\d a=some (.ins C c b)/\Cls K C/\HW K C f/\b.length<1000 /\
 D.nx Y (upd d a (.ins C c (putF f y b)))
section
variable{X:Cx}{o e value:Expr}{f:Str}{pos pos' tpos:Pos}{ta tv:TE}
def rP(he:PE X e ta)(hb:attributeBase e f X.env (eval e X.env)=eval e X.env):PE X (.Attribute e f pos) (tFld X.K ta f):=by
 intro b s Y H Q I h;refine zB hb (thn (he b s Y H _ I h) λu s1 zq=>?_);obtain ⟨x,H1,I1,rx,a,C,dx,fs,v,ex,ea,c,n,l,q⟩:=zq;subst ex;obtain rfl:u=Value.ref a:=rx;exact ZjZ I1 ea c n l λi j d g=>⟨v,H1,d,g,q⟩
def uR(ha:PE X o ta)(hv:PE X value tv)(hs:swapsWith value (some (.Attribute o f pos')) pos.line X.env=pure false):PS X (.Assign [.Attribute o f pos'] value pos) (sFld X.K ta tv f):=by
 intro b s Y H D I h;refine plainObj_wpAny_Assign_Attribute (thn (hv b s Y H _ I h) λu e zq=>?_) hs;obtain ⟨y,i,g,d,q⟩:=zq;refine thn (ha b e Y i _ g q) λov s2 zq=>?_;obtain ⟨x,H2,I2,rx,a,C,dx,fs,ex,ea,c,n,l,q2⟩:=zq;subst ex;obtain rfl:ov=Value.ref a:=rx;exact zL I2 ea c n l d λk j=>⟨Y,_,j,q2⟩
end
section
variable{X:Cx}{pins:List (Addr×Obj)}{Y:St}{H:Hp}{s:Shared}{A:Around}{E:Value->Shared->Prop}{Q:Value->Shared->Prop}{c:Value}{b:Bool}
inductive TyOf(K:W.Frag)(H:Hp):V->Value->Prop where
 | non:TyOf K H .non (.type "NoneType")
 | bl (x:Bool):TyOf K H (.bl x) (.type "bool")
 | int (i:Int):TyOf K H (.int i) (.type "int")
 | str (x:Str):TyOf K H (.str x) (.type "str")
 | lst {a:Addr} {xs:List V} (e:H a=some (.lst xs)):TyOf K H (.ref a) (.type "list")
 | frz {a:Addr} {o:Obj} {xs:List V} (e:H a=some (.frz o (.lst xs))):TyOf K H (.ref a) (.type "list")
 | tup {a:Addr} {xs:List V} (e:H a=some (.tup xs)):TyOf K H (.ref a) (.type "tuple")
 | ins {a C dx:Addr} {fs:List (Str×V)} (e:H a=some (.ins C dx fs)) (cl:Cls K C) (ha:W.findIn K (.ref C) "__class__"=some (some (.builtin "object.__class__")))
   (hn:W.specialIn K (.builtin "object.__class__") "__get__"=some (some (.builtin "getset_descriptor.__get__"))) (htk:W.takesIn K (.builtin "object.__class__")=some true)
   (hm:W.mroIn K C (.type "object")=some true):TyOf K H (.ref a) (.ref C)
def Ol(I:Inv X pins Y H s)(rx:RelV x u)(ty:TyOf X.K H x t)(e:W.kitOne X.K t c=some b)(h:∀tk,Q (.bool b) { s with toks:=tk }) :
  wpAny (model X.prog X.w) A (call (.builtin "isinstance") [u,c]) Q E s:=by
 cases ty with
 | non=>cases (show u=Value.none from rx);exact Gg W.kitx_none I.kIn True.intro e (λz=>nomatch z) h
 | bl y=>cases (rx);exact Gg W.kitx_bool I.kIn True.intro e (λz=>nomatch z) h
 | int i=>obtain ⟨t,q⟩:=(rx);cases q;exact Gg W.kitx_int I.kIn True.intro e (λz=>nomatch z) h
 | str y=>obtain ⟨t,q⟩:=(rx);cases q;exact Gg W.kitx_str I.kIn True.intro e (λz=>nomatch z) h
 | @lst a g ea=>
  cases (rx);obtain ⟨_,_,n,_,d⟩:=(I.hok a _ ea);exact Gg W.kitx_list I.kIn ⟨_,d,rfl⟩ e (λz=>nomatch z) h
 | @frz a ob g ea=>
  cases (rx);obtain ⟨_,_,_,n,_,d⟩:=(I.hok a _ ea);exact Gg W.kitx_list I.kIn ⟨_,d,rfl⟩ e (λz=>nomatch z) h
 | @tup a g ea=>
  cases (rx);obtain ⟨_,_,_,p⟩:=(I.hok a _ ea);obtain ⟨o,d,f,_⟩:=p;exact Gg W.kitx_tuple I.kIn ⟨o,d,f⟩ e (λz=>nomatch z) h
 | @ins a C dx fs ea cl ha hn htk hm=>
  cases (show u=Value.ref a from rx);obtain ⟨l,O,_⟩:=RD I.hok ea;obtain ⟨m,J,_⟩:=O.look;exact Gg (W.kitx_own (cl.get _) cl.hd ha hn htk hm) I.kIn J e (λz=>nomatch z) h
end
structure Room(k:Nat)(A:Around):Prop where
 hd:A.handled=none
 dp:A.depth+3*k+5<recursionLimit
 un:A.units+16*k+200<cLine
def Room.mono(r:Room k A)(h:j<=k):Room j A:=⟨r.hd,by have:=r.dp;omega,by have:=r.un;omega⟩
def Room.deeper(r:Room (k+1) A)(env):Room k (A.deeper env) :=
 ⟨r.hd,by have:=r.dp;show A.depth+1+3*k+5<_;omega,by have:=r.un;show A.units+3+16*k+200<_;omega⟩
def ZjS{A:Around}:(A.under (.builtin "type.__call__" ⟨.ref C::us,kw⟩)).depth=A.depth+1:=by
 first | rfl | simp [Around.under,Code.weight,Code.isCreation,Code.isGuard,Code.isCaller,Code.frames,Code.isFrame,guardIds]
def xP{A:Around}:(A.under (.builtin "type.__call__" ⟨.ref C::us,kw⟩)).units=A.units+1:=by
 first | rfl | simp [Around.under,Code.cUnits,Code.frames,Code.isFrame]
def Room.make(r:Room (k+1) A)(C)(us)(kw):Room k (A.under (.builtin "type.__call__" ⟨.ref C::us,kw⟩)) :=
 ⟨r.hd,by have:=r.dp;rw [ZjS];omega,by have:=r.un;rw [xP];omega⟩
def Room.depth(r:Room k A):A.depth<recursionLimit:=by have:=r.dp;omega
def Room.units(r:Room k A):A.units+64<cLine:=by have:=r.un;omega
def tNil:TA:=λ_ H Q=>Q [] H
def BW(ta:TE)(tr:TA):TA:=λY H Q=>ta Y H λx c=>tr Y c λb a=>Q (x::b) a
section
variable{X:Cx}{e:Expr}{es:List Expr}{te:TE}{t:TA}{pos:Pos}
def Fw:PA X [] tNil:=λ_ _ _ _ H Q I h=>Calls.spliced_nil ⟨[],H,I,.nil,h⟩
def Dt(ha:PE X e te)(hr:PA X es t)(hs:starEach (e::es) X.env=(false,eval e X.env)::starEach es X.env:=by rfl):PA X (e::es) (BW te t):=by
 intro b a s Y H Q I h;rw [hs];refine Calls.spliced_cons (thn (ha a s Y H _ I h) λu d zq=>?_);obtain ⟨x,j,g,k,m⟩:=zq;exact thn (hr b a d Y j _ g m) λo p ⟨i,f,l,c,n⟩=>⟨x::i,f,l,.cons k c,n⟩
def tTup(t:TA):TE:=λY H Q=>t Y H λa b=>a.length<=sizeLine/\∀p,b p=none->Q (.ref p) (upd b p (.tup a))
def tLst(t:TA):TE:=λY H Q=>t Y H λa b=>a.length<=sizeLine/\∀p,b p=none->Q (.ref p) (upd b p (.lst a))
def Wu{x1}(h:PA X es t):PE X (.Tuple es x1 pos) (tTup t):=by
 intro a s Y H Q I g;refine wpAny_Tuple_spliced (thn (h pos a s Y H _ I g) λk c zq=>?_);obtain ⟨i,j,d,r,z,q⟩:=zq;refine ⟨by rw [<-r.length];exact z,?_⟩;have f:=d.hok.fresh (Al _);refine ⟨.ref c.heap.objs.size,upd j c.heap.objs.size (.tup i),d.laid (λb u e=>Ao _ e) (Al _) ?_,rfl,q _ f⟩;exact ⟨z,k,r,⟨_,Bp _ rfl,rfl,_,rfl⟩⟩
def O8(h:PA X es t):PE X (.List es pos) (tLst t):=by
 intro a s Y H Q I g;refine wpAny_List_spliced (thn (h pos a s Y H _ I g) λk c zq=>?_);obtain ⟨i,j,d,r,z,q⟩:=zq;refine ⟨by rw [<-r.length];exact z,?_⟩;have f:=d.hok.fresh (Al _);refine ⟨.ref c.heap.objs.size,upd j c.heap.objs.size (.lst i),d.laid (λb u e=>Ao _ e) (Al _) ?_,rfl,q _ f⟩;exact ⟨z,k,0,r,Bp _ rfl⟩
end
abbrev Sp:=List V->Hp->VK->XK->Prop
abbrev CXT:=List Env->Hp->Shared->XK->Value->Shared->Prop
structure Env0(P:Program)(w:World)(K:W.Frag)(mg:Str->Option Value)(base:Heap)(A:Around)(outer:List Env)(s:Shared)(H:Hp):Prop where
 frames:A.frames=some outer
 mod:Mod K mg base
 bs:∀b o,base.get? b=some o->s.heap.get? b=some o/\H b=none
 bsz:base.objs.size<=s.heap.objs.size
 funs:s.heap.FunFrames base outer
 frf:∀b∈frs outer,H b=none
 hok:HOk P w H s.heap
 bare:AllBare s.gens
def CE(outer:List Env)(P:Program)(w:World)(H:Hp)(s:Shared)(Q:VK)(u:Value)(s':Shared):Prop :=
 ∃v a,s'.os=s.os/\AllBare s'.gens/\Un (frs outer) [] H a s.heap s'.heap/\HOk P w a s'.heap/\RelV v u/\Q v a
def CR(CX:CXT)(outer:List Env)(P:Program)(w:World)(H:Hp)(s:Shared)(Q:VK)(E:XK)(r:Result)(s':Shared):Prop :=
 match r with
 | .ok (.ret u)=>CE outer P w H s Q u s'
 | .ok _=>False
 | .error e=>CX outer H s E e s'
structure FnOk(P:Program)(w:World)(K:W.Frag)(mg:Str->Option Value)(base:Heap)(CX:CXT)(k:Nat)(f:Addr)(fd:FuncData)(ps:List Str)(sp:Sp):Prop where
 len:∀vs H Q E,sp vs H Q E->vs.length=ps.length
 run:∀(A:Around) (outer:List Env) (s:Shared) (H:Hp) (args:Args) (us:List Value) (vs:List V) (Q:VK) (E:XK),Room k A->Env0 P w K mg base A outer s H->BindsTo s fd args (ps.zip us)->Vals vs us->sp vs H Q E ->
  codeAny (model P w) A (.call (.ref f) args) (CR CX outer P w H s Q E) s
def FnOk.mono{P:Program}{w:World}{K:W.Frag}{mg:Str->Option Value}{base:Heap}{CX:CXT}{j k:Nat}{f:Addr}{fd:FuncData}{ps:List Str}{sp:Sp}(F:FnOk P w K mg base CX j f fd ps sp)(h:j<=k) :
  FnOk P w K mg base CX k f fd ps sp:=⟨F.len,λA a s H b c d Q E e=>F.run A a s H b c d Q E (e.mono h)⟩
def FnOk.imp{P:Program}{w:World}{K:W.Frag}{mg:Str->Option Value}{base:Heap}{CX:CXT}{k:Nat}{f:Addr}{fd:FuncData}{ps:List Str}{sp sp':Sp}(F:FnOk P w K mg base CX k f fd ps sp)(h:∀vs H Q E,sp' vs H Q E->sp vs H Q E):FnOk P w K mg base CX k f fd ps sp' :=
 ⟨λvs H Q E q=>F.len vs H Q E (h _ _ _ _ q),λA a s H b g vs Q E j e i d c=>F.run A a s H b g vs Q E j e i d (h _ _ _ _ c)⟩
def Env0.make{P:Program}{w:World}{K:W.Frag}{mg:Str->Option Value}{base:Heap}{A:Around}{outer:List Env}{s:Shared}{H:Hp}(e:Env0 P w K mg base A outer s H)(C)(us)(kw) :
  Env0 P w K mg base (A.under (.builtin "type.__call__" ⟨.ref C::us,kw⟩)) outer s H:=⟨by first | exact e.frames | (simpa [Around.under,Code.envs,Code.isFrame,pushEnvs] using e.frames),e.mod,e.bs,e.bsz,e.funs,e.frf,e.hok,e.bare⟩
section
variable{X:Cx}{pins:List (Addr×Obj)}{Y:St}{H:Hp}{s s':Shared}
def Inv.env0(I:Inv X pins Y H s):Env0 X.prog X.w X.K X.mg X.base X.A X.stack s H :=
 ⟨I.ok.frames,I.ok.mod,I.bs,CK I.ok.bsz I.sz,I.stack,I.stkFree,I.hok,I.bare⟩
def Inv.after(I:Inv X pins Y H s)(h:CE X.stack X.prog X.w H s Q u s'):EP X pins Y Q u s':=by
 obtain ⟨v,f,i,a,j,e,r,q⟩:=h;obtain ⟨k,g,d,t,c⟩:=s';obtain rfl:c=s.os:=i;exact ⟨v,f,I.call j e a (λb z=>aB z (by simp)),r,q⟩
end
def Fe(sp:Sp)(dvs:List V)(E:XK)(t:TA):TE:=λY H Q=>t Y H λa b=>sp (a++dvs) b Q E
def Wv(C:Addr)(sp:Sp)(dvs:List V)(E:XK)(t:TA):TE:=λY H Q=>t Y H λd b=>∀x a,b x=none->b a=none->a≠x ->
 sp (.ref x::(d++dvs)) (upd (upd b a (.own x)) x (.ins C a [])) (λv c=>v=.non/\Q (.ref x) c) E
def Binds(K:W.Frag)(fd:FuncData)(ps:List Str)(ds:List Value):Prop :=
 ∀s a,K.In s.heap->(a++ds).length=ps.length->BindsTo s fd ⟨a,[]⟩ (ps.zip (a++ds))
def Binds.all{K:W.Frag}{fd:FuncData}{ps:List Str}(h:∀us:List Value,us.length=ps.length->bindArgs fd ⟨us,[]⟩=pure (ps.zip us)):Binds K fd ps []:=λs us _ a=>by
 rw [Bl] at a ⊢;exact .of_eq (h us a)
def Dr(CX:CXT)(X:Cx)(E:XK):Prop:=∀a Y H s e b,Inv X a Y H s->CX X.stack H s E e b->X.xe e b
section
variable{X:Cx}{CX:CXT}{k:Nat}{f C:Addr}{fd:FuncData}{ps:List Str}{sp:Sp}{dvs:List V}{ds:List Value}{E:XK}{x m:Str}{p pos apos:Pos}{e o:Expr}{es:List Expr}{ta:TE}{t:TA}
def Ql(F:FnOk X.prog X.w X.K X.mg X.base CX k f fd ps sp)(hr:Room k X.A)(hb:Binds X.K fd ps ds)(hd:Vals dvs ds)(hx:Dr CX X E)(I:Inv X pins Y H s)(r:Vals vs us)(h:sp (vs++dvs) H Q E):wX X (call (.ref f) us) (EP X pins Y Q) X.xe s:=by
 have b:=r.append hd;have c:(us++ds).length=ps.length:=by rw [<-b.length];exact F.len _ _ _ _ h
 refine wpAny_call (Jw (F.run X.A X.stack s H ⟨us,[]⟩ (us++ds) (vs++dvs) Q E hr I.env0 (hb s us I.kIn c) b h) λr d a=>?_);cases r with
 | error e=>exact hx pins Y H s e d I a
 | ok fl=>
  cases fl with
  | ret u=>exact I.after a
  | next=>exact False.elim a
  | brk=>exact False.elim a
  | cont=>exact False.elim a
def Oh(F:FnOk X.prog X.w X.K X.mg X.base CX k f fd ps sp)(hr:Room k X.A)(hg:Gl X x)(hm:X.mg x=some (.ref f))(hk:W.keepIn X.K (.ref f)=true)(hb:Binds X.K fd ps ds)(hd:Vals dvs ds)(hx:Dr CX X E)(ha:PA X (e::es) t)(hdb:ND x:=by decide)(he:starEach (e::es) X.env=(false,eval e X.env)::starEach es X.env:=by rfl)(hpl:(backTo pos (starEach es X.env)).any (·.1)=false:=by rfl) :
  PE X (.Call (.Name x p) (e::es) [] pos) (Fe sp dvs E t):=by
 intro a s Y H Q I h;refine Ov (QV I hg hm ?_ hdb);refine W.callWith_K I.ok.mod.kin hk (thn (ha pos a s Y H _ I h) λd c zq=>?_) he hpl;obtain ⟨g,i,b,r,q⟩:=zq;refine ⟨b.kIn,?_⟩;exact Ql F hr hb hd hx b r q
structure Mk(K:W.Frag)(C f:Addr):Prop where
 makes:W.makesIn K C=true
 init:W.findIn K (.ref C) "__init__"=some (some (.ref f))
 fn:W.isFn K (.ref f)=true
 kp:W.keepIn K (.ref C)=true
def tU(M:Mk X.K C f)(F:FnOk X.prog X.w X.K X.mg X.base CX k f fd ps sp)(hr:Room (k+1) X.A)(hb:Binds X.K fd ps ds)(hd:Vals dvs ds)(hx:Dr CX X E)(I:Inv X pins Y H s)(r:Vals vs us)(h:∀x dx,H x=none->H dx=none->dx≠x->sp (.ref x::(vs++dvs)) (upd (upd H dx (.own x)) x (.ins C dx [])) (λv H2=>v=.non/\Q (.ref x) H2) E) :
  wX X (call (.ref C) us) (EP X pins Y Q) X.xe s:=by
 have d:=h (s.heap.objs.size+1) s.heap.objs.size (I.hok.fresh (Ja _)) (I.hok.fresh (Al _)) (BK (Gh _));have b:=Inv.made (C:=C) I;have c:Vals (V.ref (s.heap.objs.size+1)::(vs++dvs)) (Value.ref (s.heap.objs.size+1)::(us++ds)):=.cons rfl (r.append hd);have j:(Value.ref (s.heap.objs.size+1)::us++ds).length=ps.length:=by
  have e:=c.length;rw [F.len _ _ _ _ d] at e;exact e.symm
 refine wpAny_call (gq I.kIn M.makes M.init (beq_iff_eq.mp M.fn) (Jw (F.run _ X.stack _ _ ⟨Value.ref (s.heap.objs.size+1)::us,[]⟩ (Value.ref (s.heap.objs.size+1)::(us++ds)) _ _ E (hr.make C us [])
  (b.env0.make C us []) (hb _ (Value.ref (s.heap.objs.size+1)::us) b.kIn j) c d) λr m a=>?_))
 cases r with
 | error e=>exact hx pins Y _ _ e m b a
 | ok fl=>
  cases fl with
  | ret u=>
   obtain ⟨v,i,n,l,g,o⟩:=b.after a;subst g;exact ⟨l,⟨V.ref (s.heap.objs.size+1),i,n,rfl,o⟩⟩
  | next=>exact False.elim a
  | brk=>exact False.elim a
  | cont=>exact False.elim a
def rC(M:Mk X.K C f)(F:FnOk X.prog X.w X.K X.mg X.base CX k f fd ps sp)(hr:Room (k+1) X.A)(hg:Gl X x)(hm:X.mg x=some (.ref C))(hb:Binds X.K fd ps ds)(hd:Vals dvs ds)(hx:Dr CX X E)(ha:PA X (e::es) t)(hdb:ND x:=by decide)(he:starEach (e::es) X.env=(false,eval e X.env)::starEach es X.env:=by rfl)(hpl:(backTo pos (starEach es X.env)).any (·.1)=false:=by rfl) :
  PE X (.Call (.Name x p) (e::es) [] pos) (Wv C sp dvs E t):=by
 intro a s Y H Q I h;refine Ov (QV I hg hm ?_ hdb);refine W.callWith_K I.ok.mod.kin M.kp (thn (ha pos a s Y H _ I h) λd c zq=>?_) he hpl;obtain ⟨g,i,b,r,q⟩:=zq;refine ⟨b.kIn,?_⟩;exact tU M F hr hb hd hx b r q
end
section
variable{X:Cx}{CX:CXT}{k:Nat}{f C:Addr}{fd:FuncData}{ps ks:List Str}{sp:Sp}{E:XK}{x m:Str}{p pos apos kpos:Pos}{e o:Expr}{es:List Expr}{kws:List Keyword}{te ta:TE}{t tk:TA}{nm:Option Str}
def cT(sp:Sp)(gV:List V->List V->List V)(E:XK)(t tk:TA):TE:=λY H Q=>t Y H λa c=>tk Y c λd b=>sp (gV a d) b Q E
variable{g:List Value->List Value->List Value}{gV:List V->List V->List V}
end
structure Ca(N P:List Str)(sc:Scope):Prop where
 kind:sc.kind=.function
 co:sc.isCoroutine=false
 gen:sc.isGenerator=false
 nd:N.Nodup
 pre:N.take P.length=P
 par:∀x∈P,sc.names.lookup x=some .local\/sc.names.lookup x=some .cell
 nofree:∀y∈sc.names,y.2≠.free
def eO{kindOf:Str->Option NameKind}{x:Str}:∀{binds:List (Str×Value)} {m:Str->Option Value},(∀v,(x,v)∉binds)->bindL kindOf binds m x=m x
 | [],_,_=>rfl
 | (n,v)::r,m,h=>by
  unfold bindL;rw [eO λw a=>h w (BP _ a)];split
  .have:x≠n:=by rintro rfl;exact h v BR
   simp [this]
  .rfl
def Xm{kindOf:Str->Option NameKind}{x:Str}:∀{binds:List (Str×Value)} {m:Str->Option Value},(∀v,(x,v)∉binds)->bindC kindOf binds m x=m x
 | [],_,_=>rfl
 | (n,v)::r,m,h=>by
  unfold bindC;rw [Xm λw a=>h w (BP _ a)];split
  .rfl
  .have:x≠n:=by rintro rfl;exact h v BR
   simp [this]
def Xc{kindOf:Str->Option NameKind}{x:Str}{v:Value}:∀{P:List Str} {vs:List Value} {i:Nat} {m:Str->Option Value},P.Nodup->P[i]?=some x->vs[i]?=some v->kindOf x=some .local ->
  bindL kindOf (P.zip vs) m x=some v
 | [],_,_,_,_,h,_,_=>by simp at h
 | _::_,[],_,_,_,_,h,_=>by simp at h
 | p::P,w::vs,0,m,nd,h1,h2,hk=>by
  simp at h1 h2;subst h1;subst h2;show bindL kindOf ((p,w)::P.zip vs) m p=_;unfold bindL;rw [eO λv a=>(Ht.mp nd).1 (Ml a).1,iP hk];simp
 | p::P,w::vs,i+1,m,nd,h1,h2,hk=>by
  show bindL kindOf ((p,w)::P.zip vs) m x=_;unfold bindL;exact Xc (i:=i) (Ht.mp nd).2 (by simpa using h1) (by simpa using h2) hk
def Wh{kindOf:Str->Option NameKind}{x:Str}{v:Value}:∀{P:List Str} {vs:List Value} {i:Nat} {m:Str->Option Value},P.Nodup->P[i]?=some x->vs[i]?=some v->kindOf x≠some .local ->
  bindC kindOf (P.zip vs) m x=some v
 | [],_,_,_,_,h,_,_=>by simp at h
 | _::_,[],_,_,_,_,h,_=>by simp at h
 | p::P,w::vs,0,m,nd,h1,h2,hk=>by
  simp at h1 h2;subst h1;subst h2;show bindC kindOf ((p,w)::P.zip vs) m p=_;unfold bindC;rw [Xm λv a=>(Ht.mp nd).1 (Ml a).1,iN hk];simp
 | p::P,w::vs,i+1,m,nd,h1,h2,hk=>by
  show bindC kindOf ((p,w)::P.zip vs) m x=_;unfold bindC;exact Wh (i:=i) (Ht.mp nd).2 (by simpa using h1) (by simpa using h2) hk
def start(N:List Str)(vs:List V):St:=vs.map some++List.replicate (N.length - vs.length) none
def cxOf(CX:CXT)(P:Program)(w:World)(K:W.Frag)(mg:Str->Option Value)(base:Heap)(N:List Str)(qual:Str)(scope:Scope)(f:Addr)(cd:Value)(A:Around)(outer:List Env)(s:Shared)(H:Hp)(E:XK):Cx where
 prog:=P
 w:=w
 K:=K
 mg:=mg
 base:=base
 A:=A.deeper (envOfC qual scope s.heap.objs.size f cd)
 N:=N
 s₀:=s
 H₀:=H
 env:=envOfC qual scope s.heap.objs.size f cd
 outer:=outer
 stack:=envOfC qual scope s.heap.objs.size f cd::outer
 ex:=[]
 calm:=true
 fn:=λ_=>true
 pn:=[]
 xe:=λe c=>wpAny (model P w) (A.deeper (envOfC qual scope s.heap.objs.size f cd)) (leaving (envOfC qual scope s.heap.objs.size f cd) e) (λ_ a=>CX outer H s E e a) (λb a=>CX outer H s E b a) c
def Wn{sc:Scope}(h:sc.names.lookup x=some .cell):∃c,(cellsFrom n sc.names []).lookup x=some c:=by
 have q:=W.cellsFrom_some sc.names n [] (.inl h);exact Option.isSome_iff_exists.mp q
def gD{CX:CXT}{P:Program}{w:World}{K:W.Frag}{mg:Str->Option Value}{base:Heap}{N ps:List Str}{qual:Str}{scope:Scope}{f:Addr}{cd:Value}{A:Around}{outer:List Env}{s s1:Shared}{H:Hp}{E:XK}{us:List Value}{vs:List V}(S:Ca N ps scope)(hd:A.handled=none)(e0:Env0 P w K mg base A outer s H)(hl:vs.length=ps.length)(r:Vals vs us)(x:InCallC s s.heap.objs.size (bindL (envOfC qual scope s.heap.objs.size f cd).kindOf (ps.zip us) λ_=>none) (cellsFrom (s.heap.objs.size+1) scope.names []) (bindC (envOfC qual scope s.heap.objs.size f cd).kindOf (ps.zip us) λ_=>none) s1) :
  Inv (cxOf CX P w K mg base N qual scope f cd A outer s H E) [] (start N vs) H s1:=by
 have D:ps.length<=N.length:=by have:=CV List.length S.pre;rw [Ie] at this;omega
 obtain ⟨m,F,rfl,t⟩:=x.done;have g:∀b:Addr,b∉(cxOf CX P w K mg base N qual scope f cd A outer s H E).ex:=λb z=>aB (show b∈([]:List Addr) from z) (by simp)
 refine ⟨⟨e0.mod,S.kind,rfl,rfl,Al _,λy z c m d=>?_,λy hy=>?_,λy c _ h=>?_,λ_=>hd,Around.frames_deeper e0.frames,.inr ⟨rfl,rfl⟩,λb z=>aB z (g b),e0.bs,e0.bsz,λb _ _=>g b,λb z=>aB z (g b),e0.funs,e0.frf⟩,
  rfl,e0.bare,Un.kept t,⟨_,x.toInCall.ns,λi y v m d G=>?_⟩,λy c h=>⟨_,x.cell y c h⟩,e0.hok.fresh (Al _),λy c h=>?_,λp l=>aB (show p∈([]:List (Addr×Obj)) from l) (by simp),e0.hok.kept t,?_⟩
 .exact name_of_addr x.apart (EY m) (EY d)
 .have hy:scope.names.lookup y=some .cell\/scope.names.lookup y=some .free:=hy;rcases hy with hy | hy
  .exact Wn hy
  .exact aB rfl (S.nofree _ (EY hy))
 .exact JT (x.above y c (EY h))
 .have n:i<vs.length:=by
   unfold start at d;by_cases n:i<vs.length
   .exact n
   .rw [Fo (by simpa using n)] at d;rw [Ib] at d;split at d<;>cases d
  have C:vs[i]?=some v:=by
   unfold start at d;rw [Ea (by simpa using n),By] at d;cases e:vs[i]? with
   | none=>rw [e] at d;cases d
   | some a=>rw [e] at d;cases d;rfl
  obtain ⟨u,o,B⟩:=r.get C;have l:ps[i]?=some y:=by
   rw [<-S.pre,List.getElem?_take_of_lt (by omega)];exact m
  have j:ps.Nodup:=by rw [<-S.pre];exact S.nd.sublist (List.take_sublist _ _)
  refine ⟨u,B,?_⟩;rcases S.par y (G5 l) with k | k
  .exact .inl ⟨k,Xc j l o k⟩
  .obtain ⟨c,e⟩:=Wn k;refine .inr ⟨.inl k,c,e,?_⟩;have q:=x.cell y c e;rw [Wh j l o (by show scope.names.lookup y≠_;rw [k];decide)] at q;exact q
 .exact e0.hok.fresh (JT (x.above y c (EY h)))
 .unfold start;show _=N.length;rw [Bo,Af,Jq];omega
def K6{CX:CXT}{P:Program}{w:World}{K:W.Frag}{mg:Str->Option Value}{base:Heap}{k:Nat}{f:Addr}{name qual:Str}{params:Arguments}{body:List Stmt}{scope:Scope}{dV kV doc pm cdv ct oc:Value}{an od:Option Addr}{osl:Array (Option Value)}{N ps:List Str}{sp:Sp}(lk:K.lookup f=some ⟨oc,od,.func (W.fnOf name qual params body scope dV kV doc pm an cdv ct),osl⟩)(hcd:W.codeIn K cdv qual=true)(S:Ca N ps scope)(len:∀vs H Q E,sp vs H Q E->vs.length=ps.length) (hbody:∀(A:Around) (outer:List Env) (s:Shared) (H:Hp) (vs:List V) (Q:VK) (E:XK),Room k (A.deeper (envOfC qual scope s.heap.objs.size f cdv))->sp vs H Q E ->
   ∃t,PSs (cxOf CX P w K mg base N qual scope f cdv A outer s H E) body t/\t { nx:=λ_ H'=>Q .non H',rt:=Q } (start N vs) H) :
  FnOk P w K mg base CX (k+1) f (W.fnOf name qual params body scope dV kV doc pm an cdv ct) ps sp:=by
 refine ⟨len,λA outer s H B U vs Q E p g M r h=>?_⟩;have G:=len _ _ _ _ h;have C:=g.mod.kin.keeps λb o e=>(g.bs b o e).1;have l:=g.mod.nolimit.keeps λb o e=>(g.bs b o e).1;have a:∀y∈ps.zip U,scope.names.lookup y.1=some .local\/(scope.names.lookup y.1=some .cell/\((cellsFrom (s.heap.objs.size+1) scope.names []).lookup y.1).isSome=true):=λ⟨n,v⟩ L=>by
  rcases S.par n (Ml L).1 with q | q
  .exact .inl q
  .exact .inr ⟨q,W.cellsFrom_some _ _ _ (.inl q)⟩
 refine codeAny_call_function p.depth (C _ _ lk) rfl S.co S.gen rfl (W.codeRec_of C hcd) (M _ _ _ _ ?_);refine wpAny_newFunctionEnv_cells S.kind a λR T z x=>?_;subst T;refine ⟨l.keeps x.toInCall.keep,codeAny_func ?_⟩;obtain ⟨t,F,D⟩:=hbody A outer s H vs Q E (p.deeper _) h;have I:Inv (cxOf CX P w K mg base N qual scope f cdv A outer s H E) [] (start N vs) H z:=gD S p.hd g G r x;refine CP (F [] z (start N vs) H _ I D) (λO m c=>?_) λe m c=>c;have d:∀{i:St} {H':Hp} {v:V} {u:Value},Inv (cxOf CX P w K mg base N qual scope f cdv A outer s H E) [] i H' m->RelV v u->Q v H'->CE outer P w H s Q u m :=
  λ{i H' v u} J j q=>⟨v,H',J.os,J.bare,J.base,J.hok,j,q⟩
 cases O with
 | ret u=>
  obtain ⟨v,i,H',J,j,q⟩:=c;exact d J j q
 | next=>
  obtain ⟨i,H',J,q⟩:=c;exact d (v:=V.non) J rfl q
 | brk=>
  obtain ⟨_,_,_,q⟩:=c;exact False.elim q
 | cont=>
  obtain ⟨_,_,_,q⟩:=c;exact False.elim q
section
variable{X:Cx}{x:Str}{p pos:Pos}{e:Expr}{es:List Expr}{t:TA}{id T:String}{r:List V->Hp->VK->Prop}
def tCB(r:List V->Hp->VK->Prop)(t:TA):TE:=λY H Q=>t Y H λa b=>r a b Q
def Vm(hc:Ey X (.builtin id) r)(hg:Gl X x)(hm:X.mg x=none)(hv:bootBuiltins x=some (.builtin id))(ha:PA X (e::es) t)(hn:x ≠ "__name__":=by decide)(hdb:ND x:=by decide)(he:starEach (e::es) X.env=(false,eval e X.env)::starEach es X.env:=by rfl)(hpl:(backTo pos (starEach es X.env)).any (·.1)=false:=by rfl):PE X (.Call (.Name x p) (e::es) [] pos) (tCB r t):=by
 intro a s Y H Q I h;refine Ov (GZ I hg hm hv ?_ hn hdb);exact PyProof.Rows.callWith_builtin1 (thn (ha pos a s Y H _ I h) λf b zq=>by obtain ⟨g,i,c,j,d⟩:=zq;exact hc a b Y i g f Q c j d) he hpl
def ZS(hc:Ey X (.type T) r)(hg:Gl X x)(hm:X.mg x=none)(hv:bootBuiltins x=some (.type T))(ha:PA X (e::es) t)(hn:x ≠ "__name__":=by decide)(hdb:ND x:=by decide)(he:starEach (e::es) X.env=(false,eval e X.env)::starEach es X.env:=by rfl)(hpl:(backTo pos (starEach es X.env)).any (·.1)=false:=by rfl):PE X (.Call (.Name x p) (e::es) [] pos) (tCB r t):=by
 intro a s Y H Q I h;refine Ov (GZ I hg hm hv ?_ hn hdb);exact G3 (thn (ha pos a s Y H _ I h) λf b zq=>by obtain ⟨g,i,c,j,d⟩:=zq;exact hc a b Y i g f Q c j d) he hpl
end
end L2
namespace HT
section
open PySem.SeqAt
open PySem.AutoSeq1 (wpAny_loadPart')
open PySem.MeetsSeq PySem.MeetsSeq2 PySem.MeetsSeq3
end
section
variable{prog:Program}{w:World}{A:Around}{E:Value->Shared->Prop}{s:Shared}
def ZrP(ht:IsTup s.heap t vs.toArray)(hb:IsTup s.heap b ws.toArray)(hv:vs≠[])(h1:ws=[]->Q (.ref t) s)(h2:ws≠[]->Q (.ref s.heap.objs.size) { s with heap:=s.heap.push { cls:=.type "tuple",data:=.seq (vs++ws).toArray } })(hsz:vs.length+ws.length<=sizeLine):wpAny (model prog w) A (binaryOp .Add (.ref t) (.ref b)) Q E s:=by
 obtain ⟨⟨cls,p,data,l⟩,h,j,n,k⟩:=id ht;obtain ⟨⟨o,c,i,d⟩,a,f,m,g⟩:=id hb;simp only at j k f g;subst j k f g;have e:vs.toArray++ws.toArray=(vs++ws).toArray:=by simp
 by_cases hw:ws=[]
 .exact concat_meets ⟨_,h,rfl⟩ ⟨_,a,rfl⟩ noFill_tuple_add seq_tuple_add PySem.F.slot_tuple_add PySem.F.entry_tuple_add (PySem.F.args_tuple_add_2 _ _)
   (tuple_addW1 t b vs.toArray ws.toArray n m p c l d (by simpa using hv) (by simp [hw])) ⟨h,a,h1 hw⟩
 .refine concat_meets ⟨_,h,rfl⟩ ⟨_,a,rfl⟩ noFill_tuple_add seq_tuple_add PySem.F.slot_tuple_add PySem.F.entry_tuple_add (PySem.F.args_tuple_add_2 _ _)
   (tuple_addW2 t b vs.toArray ws.toArray n m p c l d (by simpa using hv) (by simpa using hw) (by rw [Bg,Bg];exact hsz)) ⟨h,a,?_⟩
  rw [e];exact h2 hw
def sIx(n d:Nat):Option Int->Nat
 | none=>d
 | some v=>if v<0 then (v+(n:Int)).toNat else min v.toNat n
def dJ(v:Int)(n d:Nat):(if v<0 then max (v+(n:Int)) 0 else min v (n:Int))=((sIx n d (some v):Nat):Int):=by
 show (if v<0 then max (v+(n:Int)) 0 else min v (n:Int))=(((if v<0 then (v+(n:Int)).toNat else min v.toNat n):Nat):Int)
 by_cases hv:v<0
 .simp only [iP hv];omega
 .simp only [iN hv];omega
def qL(lo hi:Option Int)(n:Nat):Builtin.Slice.sliceAdjust lo hi 1 (n:Int)=(((sIx n 0 lo:Nat):Int),((sIx n n hi:Nat):Int)):=by
 have a:¬((1:Int)<0):=by omega
 unfold Builtin.Slice.sliceAdjust;simp only [a,CJ];refine Prod.ext ?_ ?_
 .cases lo with
  | none=>rfl
  | some v=>exact dJ v n 0
 .cases hi with
  | none=>rfl
  | some v=>exact dJ v n n
def ZjU(i j:Nat):Builtin.Slice.slicePlaces (i:Int) (j:Int) 1=j - i:=by
 unfold Builtin.Slice.slicePlaces;have a:(1:Int)>0:=by omega
 simp only [a,Dd,Int.ediv_one];split<;>omega
def WP(p:IsPart v o)(h:Q o s):wpAny (model prog w) A (Builtin.Slice.slicePartIndex v) Q E s:=by
 cases p with
 | none=>exact slicePart_none h
 | int i t=>exact slicePart_int h
def Xl{sl:Addr}{vl vu:Value}{lo hi:Option Int}{n:Nat}{Q:Int×Int×Nat->Shared->Prop}(hs:s.heap.IsSliceOf sl vl vu .none)(pl:IsPart vl lo)(pu:IsPart vu hi)(h:Q (((sIx n 0 lo:Nat):Int),1,sIx n n hi - sIx n 0 lo) s):wpAny (model prog w) A (Builtin.Slice.sliceApplied (.ref sl) (pure (n:Int))) Q E s:=by
 obtain ⟨d,b,c,a⟩:=id hs;unfold Builtin.Slice.sliceApplied Builtin.Slice.sliceFields;refine Ac (Ac (Bx b a rfl (Ac (Bx b a rfl (Ac (Bx b a rfl (Ad ?_)))))));refine Ac (slicePart_none ?_);rw [iN (by decide)];refine Ac (WP pl (Ac (WP pu (Ac (Ad ?_)))));show wpAny _ _ (match Builtin.Slice.sliceAdjust lo hi 1 (n:Int) with | (lo,hi)=>pure (lo,(1:Int),Builtin.Slice.slicePlaces lo hi 1)) _ _ s
 rw [qL lo hi n];show wpAny _ _ (pure (((sIx n 0 lo:Nat):Int),(1:Int),Builtin.Slice.slicePlaces ((sIx n 0 lo:Nat):Int) ((sIx n n hi:Nat):Int) 1)) _ _ s;rw [ZjU];exact Ad h
def jU(xs:Array Value)(i k:Nat):((List.range k).filterMap λ(m:Nat)=>xs[((i:Int)+(m:Int)*1).toNat]?).toArray=((xs.toList.drop i).take k).toArray:=by
 have e:(λ(m:Nat)=>xs[((i:Int)+(m:Int)*1).toNat]?)=λm=>xs[i+m]?:=by
  funext m;have:((i:Int)+(m:Int)*1).toNat=i+m:=by omega
  rw [this]
 rw [e];have:=pick_run xs i k;rw [List.filterMap_map] at this;have a:((λx=>xs[x]?) ∘ λx=>i+x)=λm=>xs[i+m]?:=rfl;rw [a] at this;rw [this]
def uF{t sl:Addr}{items:Array Value}{vl vu:Value}{lo hi:Option Int}{Q:Value->Shared->Prop}(ht:IsTup s.heap t items)(hs:s.heap.IsSliceOf sl vl vu .none)(pl:IsPart vl lo)(pu:IsPart vu hi)(hw:¬(sIx items.size 0 lo=0/\sIx items.size items.size hi=items.size))(h:Q (.ref s.heap.objs.size) { s with heap:=s.heap.push { cls:=.type "tuple",data:=.seq ((items.toList.drop (sIx items.size 0 lo)).take (sIx items.size items.size hi - sIx items.size 0 lo)).toArray } })(hsz:items.size<=sizeLine):wpAny (model prog w) A (getItem (.ref t) (.ref sl)) Q E s:=by
 have a:sizeOk (.seq ((items.toList.drop (sIx items.size 0 lo)).take (sIx items.size items.size hi - sIx items.size 0 lo)).toArray):=by
  show ((items.toList.drop (sIx items.size 0 lo)).take (sIx items.size items.size hi - sIx items.size 0 lo)).toArray.size<=sizeLine;rw [Bg,Ie,MK,Kq];omega
 obtain ⟨g,e,b,f⟩:=id hs;have c:s.TypeIs (.ref sl) "slice":=⟨g,e,b⟩;unfold getItem
 try with_reducible refine Cz ?_
 first | refine Ac (Ad ?_) | skip
 refine Ac (wpAny_sequenceKey ht.typeIs (by decide) ?_)
 refine Ac (Hq ht.typeIs O1
  (Gz O1 ht.typeIs entry_tuple_getitem ?_ (args_tuple_getitem _ _)))
 show wpAny _ _ (Builtin.Tuple.tupleItemsOf (.ref t) >>= _) _ _ s;refine Ac (tupleItemsOf_ ht ?_);refine Ac (Kh c ?_);rw [iP (by decide)];refine Ac (Xl hs pl pu ?_);have d:¬((((sIx items.size 0 lo:Nat):Int)==0&&(1:Int)==1&&(sIx items.size items.size hi - sIx items.size 0 lo)==items.size)=true):=by
  intro q;rw [Iz,Iz] at q;have i:=eq_of_beq q.1.1;have j:=eq_of_beq q.2;exact hw ⟨by omega,by omega⟩
 show wpAny _ _ (if (((sIx items.size 0 lo:Nat):Int)==0&&(1:Int)==1&&(sIx items.size items.size hi - sIx items.size 0 lo)==items.size)=true then _ else _) _ _ s
 rw [iN d,jU]
 first
  | exact Ac (Hx (Ad ⟨_,rfl,Ad h⟩) a)
  | exact Ac (Hx (Ac (Ad (Ad ⟨_,rfl,Ad h⟩))) a)
  | exact Ac (Ac (Hx (Ad (Ad ⟨_,rfl,Ad h⟩)) a))
  | exact Ac (Ac (Hx (Ad ⟨_,rfl,Ad h⟩) a))
end
end HT
namespace L2
abbrev TO:=St->Hp->(Option Int->Hp->Prop)->Prop
def PO(X:Cx)(e:Option Expr)(t:TO):Prop :=
 ∀a s Y H Q,Inv X a Y H s->t Y H Q ->
  wX X (evalPart e X.env) (λu c=>∃o b,Inv X a Y b c/\IsPart u o/\Q o b) X.xe s
def Rc:TO:=λ_ H Q=>Q none H
def Tt(t:TE):TO:=λY H Q=>t Y H λx a=>∃i,x=.int i/\Q (some i) a
section
variable{X:Cx}{e:Expr}{te:TE}{lo hi:Option Expr}{tl th:TO}{pos p2:Pos}
def nj:PO X none Rc:=by
 intro a s Y H Q I h;rw [evalPart_none];exact Ad ⟨none,H,I,.none,h⟩
def zr(h:PE X e te):PO X (some e) (Tt te):=by
 intro a s Y H Q I d;rw [evalPart_some];refine thn (h a s Y H _ I d) λu j zq=>?_;obtain ⟨x,f,b,g,c⟩:=zq;obtain ⟨i,rfl,q⟩:=c;obtain ⟨t,rfl⟩:=g;exact ⟨some i,f,b,.int i t,q⟩
def SlR(X:Cx)(r:V->Option Int->Option Int->Hp->VK->Prop):Prop :=
 ∀a s Y H x v e f b d c Q,Inv X a Y H s->RelV x v->s.heap.IsSliceOf c e f .none->IsPart e b->IsPart f d->r x b d H Q ->
  ∃T g,typeLookup (.type T) "__getitem__"=pure (some (.builtin g))/\s.TypeIs v T/\wX X (getItem v (.ref c)) (EP X a Y Q) X.xe s
def SlR.or(h:SlR X r)(h':SlR X r'):SlR X (λx lo hi H Q=>r x lo hi H Q\/r' x lo hi H Q):=by
 intro a s Y H x v d e lo hi i Q I c b g f q;rcases q with q | q
 .exact h a s Y H x v d e lo hi i Q I c b g f q
 .exact h' a s Y H x v d e lo hi i Q I c b g f q
def tSl(r:V->Option Int->Option Int->Hp->VK->Prop)(te:TE)(tl th:TO):TE:=λY H Q=>te Y H λx c=>tl Y c λl b=>th Y b λu a=>r x l u a Q
def wW(hr:SlR X r)(he:PE X e te)(hl:PO X lo tl)(hu:PO X hi th):PE X (.Subscript e (.Slice lo hi none p2) pos) (tSl r te tl th):=by
 intro a s Y H Q I h;refine Subscript_ (thn (he a s Y H _ I h) λv j zq=>?_);obtain ⟨x,n,m,o,B⟩:=zq;refine wpAny_Slice (thn (hl a j Y n _ m B) λd E zq=>?_);obtain ⟨l,k,z,y,C⟩:=zq;refine thn (hu a E Y k _ z C) λf c zq=>?_;obtain ⟨u,g,D,t,p⟩:=zq;rw [evalPart_none];refine Ad ?_;have w:Inv X a Y g { c with heap:=c.heap.push { cls:=.type "slice",data:=.fields #[d,f,.none] } }:=D.kept λb G q=>Ao _ q
 obtain ⟨T,J,F,A,i⟩:=hr a { c with heap:=c.heap.push { cls:=.type "slice",data:=.fields #[d,f,.none] } } Y g x v d f l u c.heap.objs.size Q w o (Heap.IsSliceOf.new ..) y t p;exact tail_any A F i (by with_unfolding_all rfl)
def cutV(xs:List V)(lo hi:Option Int):List V:=(xs.drop (HT.sIx xs.length 0 lo)).take (HT.sIx xs.length xs.length hi - HT.sIx xs.length 0 lo)
def Yg(xs)(lo hi):(cutV xs lo hi).length<=xs.length:=by
 unfold cutV;rw [Ie,MK];omega
def rSlT(K:W.Frag):V->Option Int->Option Int->Hp->VK->Prop:=λx c d H Q=>∃a b,x=.ref a/\SqT K H a b /\
 ¬(HT.sIx b.length 0 c=0/\HT.sIx b.length b.length d=b.length)/\∀p,H p=none->Q (.ref p) (upd H p (.tup (cutV b c d)))
def xX:SlR X (rSlT X.K):=by
 intro j s Y H x v w y e g z Q I n l p o h;obtain ⟨a,d,rfl,m,t,q⟩:=h;cases n;obtain ⟨f,r,i,k⟩:=I.tuple m;have c:f.toArray.size=d.length:=by rw [Bg];exact r.length.symm
 refine ⟨"tuple",_,PyProof.Rows.slot_tuple_getitem.lookup,i.typeIs,?_⟩;refine HT.uF i l p o (by rw [c];exact t) ?_ (by rw [c];exact k);rw [c];refine ⟨.ref s.heap.objs.size,_,I.laid (λb u q=>Ao _ q) (Al _) ?_,rfl,q _ (I.hok.fresh (Al _))⟩;exact ⟨CK (Yg d e g) k,_,(r.drop (HT.sIx d.length 0 e)).take (HT.sIx d.length d.length g - HT.sIx d.length 0 e),IsTup.new _ _⟩
def vG(K:W.Frag):R2:=λx y H Q=>∃a b d c,x=.ref a/\y=.ref b/\SqT K H a d/\SqT K H b c/\d≠[]/\d.length+c.length<=sizeLine /\
 (c=[]->Q (.ref a) H)/\(c≠[]->∀p,H p=none->Q (.ref p) (upd H p (.tup (d++c))))
def Vals.nil_iff(r:Vals xs us):us=[]↔xs=[]:=by
 cases r with
 | nil=>simp
 | cons _ _=>simp
def m5:OpR X (binaryOp .Add) (vG X.K):=by
 intro f s Y H x y v u Q I l i h;obtain ⟨a,b,B,A,rfl,rfl,m,r,j,g,o,t⟩:=h;cases l;cases i;obtain ⟨p,d,n,_⟩:=I.tuple m;obtain ⟨e,c,k,_⟩:=I.tuple r;refine HT.ZrP n k (λz=>j (d.nil_iff.mp z)) (λz=>⟨.ref a,H,I,rfl,o (c.nil_iff.mp z)⟩) (λz=>?_) (by rw [<-d.length,<-c.length];exact g);refine ⟨.ref s.heap.objs.size,_,I.laid (λb C q=>Ao _ q) (Al _) ?_,rfl,t (λw=>z (c.nil_iff.mpr w)) _ (I.hok.fresh (Al _))⟩;exact ⟨by rw [Bo];exact g,_,d.append c,IsTup.new _ _⟩
end
def ixN(n:Nat)(i:Int):Option Nat:=if 0<=i then (if i<n then some i.toNat else none) else if -(n:Int)<=i then some (i+n).toNat else none
def atI(xs:List α)(i:Int):Option α:=(ixN xs.length i).bind λj=>xs[j]?
def ZL(h:ixN n i=some j):seqIndex? i n=some j/\j<n/\-(n:Int)<=i/\i<n:=by
 unfold ixN at h;by_cases h0:0<=i
 .rw [iP h0] at h;by_cases h1:i<n
  .rw [iP h1] at h;have e:=Bt h;exact ⟨by rw [seqIndex_of h0 h1,e],by omega,by omega,h1⟩
  .rw [iN h1] at h;cases h
 .rw [iN h0] at h;by_cases h1:-(n:Int)<=i
  .rw [iP h1] at h;have e:=Bt h;exact ⟨by rw [seqIndex_neg (by omega) h1,e],by omega,h1,by omega⟩
  .rw [iN h1] at h;cases h
def YS(h:atI xs i=some v):∃j,seqIndex? i xs.length=some j/\xs[j]?=some v/\j<xs.length/\-(xs.length:Int)<=i/\i<xs.length:=by
 unfold atI at h;cases e:ixN xs.length i with
 | none=>rw [e] at h;cases h
 | some j=>
  rw [e] at h;obtain ⟨b,c,a,d⟩:=ZL e;exact ⟨j,b,h,c,a,d⟩
def RP(b:Expr):Prop:=∀o i,subscripted b false o i=operate [o,i] (getItem o i)
def IxR(X:Cx)(r:R2):Prop :=
 ∀c a b s Y H x y v u Q,Inv X b Y H s->RelV x v->RelV y u->r x y H Q ->
  subscripted a false v u=operate [v,u] (getItem v u)->wX X (subscriptTail c a v u) (EP X b Y Q) X.xe s
def MtR(X:Cx)(id:String)(r:V->List V->Hp->VK->Prop):Prop :=
 ∀a s Y H x c v b Q,Inv X a Y H s->RelV x v->Vals c b->r x c H Q ->
  wX X (call (.builtin id) (v::b)) (EP X a Y Q) X.xe s
section
variable{X:Cx}{a b:Expr}{ta tb:TE}{pos:Pos}
def IxR.or(h:IxR X r)(h':IxR X r'):IxR X (λx y H Q=>r x y H Q\/r' x y H Q):=by
 intro b a c s Y H x y v u Q I f e q d;rcases q with q | q
 .exact h b a c s Y H x y v u Q I f e q d
 .exact h' b a c s Y H x y v u Q I f e q d
def TY(hr:IxR X r)(ha:PE X a ta)(hb:PE X b tb)(hs:RP b):PE X (.Subscript a b pos) (tOp r ta tb):=by
 intro c s Y H Q I h;exact Subscript_ (binT ha hb I h λv u i x y e g f d q=>hr a b c i Y e x y v u Q g f d q (hs _ _))
def rIxL(K:W.Frag):R2:=λx y H Q=>∃p a i v,x=.ref p/\y=.int i/\SqL K H p a/\atI a i=some v/\Q v H
def rIxT(K:W.Frag):R2:=λx y H Q=>∃p a i v,x=.ref p/\y=.int i/\SqT K H p a/\atI a i=some v/\Q v H
def R3:IxR X (rIxL X.K):=by
 intro l e b s Y H x y v u Q I F E h n;obtain ⟨p,L,i,z,rfl,rfl,C,G,q⟩:=h;cases F;obtain ⟨t,rfl⟩:=E;obtain ⟨f,r,d,N⟩:=I.list C;obtain ⟨j,c,B,M,o,A⟩:=YS G;obtain ⟨w,m,g⟩:=r.get B;have D:=r.length;have J:=Qv;have a:EP X b Y Q w s:=⟨z,H,I,g,q⟩;by_cases h0:0<=i
 .have k:i.toNat=j:=by
   rw [seqIndex_of h0 A] at c;exact Bt c
  exact item_listR d.isList h0 (by omega) (by rw [k];simpa using m) a n
 .have k:(i+(f.toArray.size:Int)).toNat=j:=by
   rw [seqIndex_neg (by omega) o] at c;rw [Bg,<-D];exact Bt c
  exact subscriptTail_builtinR d.isList.typeIs slot_list_getitem.lookup
   (wpAny_getItem_list_neg d.isList (by omega) (by rw [Bg]<;>omega) (by omega) (by rw [k];simpa using m) ⟨rfl,a⟩) n
def TJ:IxR X (rIxT X.K):=by
 intro e b a s Y H x y v u Q I C B h k;obtain ⟨p,J,i,z,rfl,rfl,n,D,q⟩:=h;cases C;obtain ⟨t,rfl⟩:=B;obtain ⟨A,r,f,M⟩:=I.tuple n;obtain ⟨j,l,m,L,F,G⟩:=YS D;obtain ⟨w,g,d⟩:=r.get m;have o:=r.length;have E:=Qv;have c:EP X a Y Q w s:=⟨z,H,I,d,q⟩;exact subscriptTail_builtinR f.typeIs slot_tuple_getitem.lookup
  (getItem_tuple f (by omega) (by omega) (by rw [Bg,<-o];exact l) (by simpa using g) ⟨rfl,c⟩) k
def Zki(its:List Value)(n j:Nat)(u:Value):Obj.mapSeq (·.setIfInBounds j u) { cls:=.type "list",data:=.seq its.toArray n }={ cls:=.type "list",data:=.seq (its.set j u).toArray n }:=by
 simp [Obj.mapSeq]
def Inv.lst{pins:List (Addr×Obj)}{Y:St}{H:Hp}{s:Shared}{p:Addr}{xs:List V}(I:Inv X pins Y H s)(h:H p=some (.lst xs)) :
  ∃its n,Vals xs its/\s.heap.get? p=some { cls:=.type "list",data:=.seq its.toArray n }/\xs.length<=sizeLine:=by
 obtain ⟨z,its,n,r,e⟩:=I.hok p _ h;exact ⟨its,n,r,e,z⟩
def Inv.lstUpd{s:Shared}{ys:List V}{its its':List Value}(I:Inv X pins Y H s)(h:H p=some (.lst xs))(ho:s.heap.get? p=some { cls:=.type "list",data:=.seq its.toArray n })(hf:f { cls:=.type "list",data:=.seq its.toArray n }={ cls:=.type "list",data:=.seq its'.toArray n' })(r:Vals ys its')(hz:ys.length<=sizeLine)(t) :
  Inv X pins Y (upd H p (.lst ys)) { s with heap:=s.heap.update p f,toks:=t }:=by
 have e:(s.heap.update p f).get? p=some { cls:=.type "list",data:=.seq its'.toArray n' }:=by
  rw [Ih f ho (by rw [hf]<;>rfl),hf]
 refine I.write (by rw [h];trivial) (.inl rfl) (λb u a q=>(G9 _ _ (Ne.symm a)).trans q) ⟨_,e⟩ ?_;exact ⟨hz,its',n',r,e⟩
def Nk:V->V->V->Hp->(Hp->Prop)->Prop:=λo i v H Q=>∃p a k j,o=.ref p/\i=.int k/\H p=some (.lst a)/\ixN a.length k=some j/\Q (upd H p (.lst (a.set j v)))
def set_list:PSet X Nk:=by
 intro b s Y H o i v F G u Q I z C x h;obtain ⟨p,y,k,j,rfl,rfl,g,B,q⟩:=h;cases z;obtain ⟨t,rfl⟩:=C;obtain ⟨a,n,r,f,A⟩:=I.lst g;obtain ⟨c,E,m,w⟩:=ZL B;have e:=r.length;have D:=Qv;have l:Inv X b Y (upd H p (.lst (y.set j v))) { s with heap:=s.heap.update p (Obj.mapSeq (·.setIfInBounds j u)) } :=
  I.lstUpd g f (Zki a n j u) (r.set x j) (by rw [Eu];exact A) s.toks
 by_cases h0:0<=k
 .have d:k.toNat=j:=by
   rw [seqIndex_of h0 w] at c;exact Bt c
  exact W.ki_setAt f h0 (by omega) (by rw [Bg,<-e];exact w) (by rw [d];exact ⟨_,l,q⟩)
 .have d:(k+(a.toArray.size:Int)).toNat=j:=by
   rw [seqIndex_neg (by omega) m] at c;rw [Bg,<-e];exact Bt c
  exact W.ki_setBack f (by omega) (by rw [Bg,<-e];exact m) (by omega) (by rw [d];exact ⟨_,l,q⟩)
def yd(lo hi)(n):(sliceBounds lo hi none n).1=((HT.sIx n 0 lo:Nat):Int)/\(sliceBounds lo hi none n).2.1=((HT.sIx n n hi:Nat):Int)/\(sliceBounds lo hi none n).2.2=1:=by
 refine ⟨?_,?_,rfl⟩
 .cases lo with
  | none=>simp [sliceBounds,HT.sIx]
  | some i=>
   simp only [sliceBounds,HT.sIx,Option.getD_none,show (1:Int)>0 by decide,Dd];by_cases h:i<0
   .simp only [h,Dd]<;>omega
   .simp only [h,CJ]<;>omega
 .cases hi with
  | none=>simp [sliceBounds,HT.sIx]
  | some i=>
   simp only [sliceBounds,HT.sIx,Option.getD_none,show (1:Int)>0 by decide,Dd];by_cases h:i<0
   .simp only [h,Dd]<;>omega
   .simp only [h,CJ]<;>omega
def yu(its:List Value)(lo hi:Option Int):slicePick its.toArray lo hi none=((its.drop (HT.sIx its.length 0 lo)).take (HT.sIx its.length its.length hi - HT.sIx its.length 0 lo)).toArray:=by
 obtain ⟨b,c,a⟩:=yd lo hi its.toArray.size;unfold slicePick;rw [b,c,a];simp only [sliceRange_one,pick_run,Bg]<;>rfl
def rSlL(K:W.Frag):V->Option Int->Option Int->Hp->VK->Prop:=λx c d H Q=>∃a b,x=.ref a/\SqL K H a b/\∀p,H p=none->Q (.ref p) (upd H p (.lst (cutV b c d)))
def tX:SlR X (rSlL X.K):=by
 intro i s Y H x v u w e f y Q I l j n m h;obtain ⟨a,d,rfl,k,q⟩:=h;cases l;obtain ⟨o,r,g,p⟩:=I.list k;have c:=r.length;refine ⟨"list",_,slot_list_getitem.lookup,g.isList.typeIs,?_⟩;refine wpAny_getItem_list_slice g.isList j n m .none (by simp) ?_ (by rw [Bg]<;>omega);rw [yu,<-c];refine ⟨.ref s.heap.objs.size,_,I.laid (λb t q=>Ao _ q) (Al _) ?_,rfl,q _ (I.hok.fresh (Al _))⟩;exact ⟨CK (Yg d e f) p,_,0,(r.drop (HT.sIx d.length 0 e)).take (HT.sIx d.length d.length f - HT.sIx d.length 0 e),Bp _ rfl⟩
def ZG:Ey X (.builtin "len") (λxs H Q=>∃p ys,xs=[.ref p]/\(SqL X.K H p ys\/SqT X.K H p ys)/\Q (.int ys.length) H):=by
 intro e s Y H xs j Q I r h;obtain ⟨p,ys,rfl,hq,q⟩:=h;obtain ⟨u,rfl,f⟩:=vals1 r;cases f;have i:=Qv;rcases hq with hq | hq
 .obtain ⟨c,d,b,g⟩:=I.list hq;have a:=d.length;exact Calls.call_len_list b.isList (by simp only [Bg]<;>omega) ⟨.int ys.length,H,I.tok _,⟨s.toks+1,by rw [Bg,a]⟩,q⟩
 .obtain ⟨c,d,b,g⟩:=I.tuple hq;have a:=d.length;exact len_tuple b (by simp only [Bg]<;>omega) ⟨.int ys.length,H,I.tok _,⟨s.toks+1,by rw [Bg,a]⟩,q⟩
def Ph:Ey X (.type "tuple") (λxs H Q=>∃p ys,xs=[.ref p]/\((SqL X.K H p ys/\∀l,H l=none->Q (.ref l) (upd H l (.tup ys)))\/(SqT X.K H p ys/\Q (.ref p) H))):=by
 intro c s Y H xs v Q I r h;obtain ⟨p,ys,rfl,h⟩:=h;obtain ⟨u,rfl,t⟩:=vals1 r;cases t;rcases h with ⟨hq,q⟩ | ⟨hq,q⟩
 .obtain ⟨a,f,d,k⟩:=I.list hq;have j:=f.length;refine call_tuple_list d.isList (λg n=>?_) (by simp only [Bg]<;>omega);have i:=I.kept (t':=s.toks) n;have m:Inv X c Y (upd H g.objs.size (.tup ys)) { s with heap:=g.push { cls:=.type "tuple",data:=.seq a.toArray } } :=
   i.laid (λb o e=>Ao _ e) (Al _) (⟨k,a,f,IsTup.new _ _⟩)
  exact ⟨.ref g.objs.size,_,m,rfl,q _ (i.hok.fresh (Al _))⟩
 .obtain ⟨a,f,d,k⟩:=I.tuple hq;exact call_tuple_same d ⟨.ref p,H,I,rfl,q⟩
def tyV(K:W.Frag)(T:String)(x:V)(H:Hp):Prop:=match x with
 | .str _=>T = "str"
 | .int _=>T = "int"
 | .ref p=>(T = "list"/\∃b,SqL K H p b)\/(T = "tuple"/\∃o,K.lookup p=some o/\o.cls=.type "tuple"/\o.dict=none) \/False
 | _=>False
def mK(I:Inv X pins Y H s)(r:RelV x v)(ty:tyV X.K T x H) :
  s.TypeIs v T/\∀a,v=.ref a->∃ob,s.heap.get? a=some ob/\ob.dict=none:=by
 cases x with
 | str z=>
  obtain ⟨t,rfl⟩:=r;cases (ty);exact ⟨typeIs_str s z t,λ_ e=>nomatch e⟩
 | int i=>
  obtain ⟨t,rfl⟩:=r;cases (ty);exact ⟨typeIs_int s i t,λ_ e=>nomatch e⟩
 | ref p=>
  cases r;rcases ty with ⟨rfl,xs,hq⟩ | ⟨rfl,o,hk,hc,b⟩ | c
  .obtain ⟨g,_,f,_⟩:=I.list hq;refine ⟨f.isList.typeIs,λa e=>?_⟩;cases e;obtain ⟨o,n,e,c,b,_⟩:=f;exact ⟨o,e,b⟩
  .refine ⟨⟨o,I.kIn p o hk,hc⟩,λa e=>?_⟩;cases e;exact ⟨o,I.kIn _ o hk,b⟩
  .exact c.elim
 | _=>exact False.elim ty
def tBM(K:W.Frag)(T:String)(r:V->List V->Hp->VK->Prop)(to:TE)(t:TA):TE:=λY H Q=>to Y H λx a=>tyV K T x a/\t Y a λc b=>r x c b Q
variable{o e:Expr}{es:List Expr}{to:TE}{t:TA}{name:Str}{apos cpos:Pos}{T id:String}{r:V->List V->Hp->VK->Prop}
def KR(pa:PlainAttrs T)(slot:Slot T name id)(hty:typeOf (.builtin id)=pure (.type "method_descriptor"))(hm:MtR X id r)(ho:PE X o to)(ha:PA X (e::es) t)(hbase:attributeBase o name X.env (eval o X.env)=eval o X.env:=by rfl) (hfew:((backTo cpos (starEach (e::es) X.env)).all (λx=>!x.1)&&(backToKw cpos (keywordEach [] X.env)).all (λx=>x.1.isSome)
   && decide ((e::es).length+([]:List Keyword).length+(if ([]:List Keyword).isEmpty then 0 else 1)<30))=true:=by rfl) (hline:(apos.endLine==cpos.line)=true:=by rfl) (hs:starEach (e::es) X.env=(false,eval e X.env)::starEach es X.env:=by rfl) (hplain:(backTo cpos (starEach es X.env)).any (·.1)=false:=by rfl) :
  PE X (.Call (.Attribute o name apos) (e::es) [] cpos) (tBM X.K T r to t):=by
 intro a s Y H Q I h;refine wpAny_Call_method_late hbase hfew hline rfl (thn (ho a s Y H _ I h) λv g zq=>?_);obtain ⟨x,m,b,c,w,p⟩:=zq;obtain ⟨j,k⟩:=mK b c w;refine ⟨T,id,pa,slot,hty,j,k,?_⟩;have d:=ha cpos a g Y m _ b p;rw [hs] at d ⊢;refine Calls.callWith_builtin (by show (false||(backTo cpos (starEach es X.env)).any (·.1))=false;rw [hplain]<;>rfl) (Calls.evalArgs_plain ?_);exact thn d λq y ⟨l,i,n,f,u⟩=>hm a y Y i x l v q Q n c f u
end
def MtM(X:Cx)(id:String)(r:V->List V->Hp->VK->Prop):Prop :=
 ∀a s Y H x c v b Q,Inv X a Y H s->RelV x v->Vals c b->r x c H Q ->
  wX X (call (.builtin id) (v::b)) (EP X a Y Q) X.xe s
def Vals.one:∀{x:V} {us:List Value},Vals [x] us->∃u,us=[u]/\RelV x u
 | _,_,.cons r .nil=>⟨_,rfl,r⟩
def Vals.eraseIdx:∀{xs:List V} {us:List Value} (i:Nat),Vals xs us->Vals (xs.eraseIdx i) (us.eraseIdx i)
 | _,_,_,.nil=>.nil
 | _,_,0,.cons _ t=>t
 | _,_,i+1,.cons r t=>.cons r (Vals.eraseIdx i t)
def Vals.rep(h:Vals xs us):∀k,Vals (List.replicate k xs).flatten (List.replicate k us).flatten
 | 0=>.nil
 | k+1=>by
  rw [Gk,Gk,Ir,Ir];exact Vals.append h (Vals.rep h k)
def V6:∀(l:List α) (i:Nat),(l.eraseIdx i).length<=l.length
 | [],_=>Al _
 | _::_,0=>Ja _
 | _::r,i+1=>Nat.succ_le_succ (V6 r i)
def foldl_rep(its:List Value):∀k acc,
  List.foldl (λx1 x2=>x1++x2) acc.toArray (List.replicate k its.toArray)=(acc++(List.replicate k its).flatten).toArray
 | 0,acc=>by simp
 | k+1,acc=>by
  have e:acc.toArray++its.toArray=(acc++its).toArray:=by simp
  have a:(acc++its)++(List.replicate k its).flatten=acc++(List.replicate (k+1) its).flatten:=by
   rw [Gk,Ir,Do]
  rw [<-a,<-foldl_rep its k (acc++its),<-e,Gk,List.foldl_cons]
section
variable{X:Cx}{pins:List (Addr×Obj)}{Y:St}{H:Hp}{s:Shared}{l b:Addr}{xs ys zs:List V}
def Inv.lset{its its':List Value}(I:Inv X pins Y H s)(hH:H l=some (.lst xs))(e:s.heap.get? l=some { cls:=.type "list",data:=.seq its.toArray n })(hf:f its.toArray=its'.toArray)(hv:Vals ys its')(hz:ys.length<=sizeLine) :
  Inv X pins Y (upd H l (.lst ys)) { s with heap:=s.heap.update l (Obj.mapSeq f),toks:=t' }:=by
 have q:=PySem.IsL.update e f;rw [hf] at q;refine I.write (by rw [hH];exact trivial) (.inl rfl) (λc u b a=>(G9 s.heap (Obj.mapSeq f) (Ne.symm b)).trans a) ⟨_,q⟩ ?_;exact ⟨hz,its',_,hv,q⟩
def Inv.lnew(I:Inv X pins Y H s)(hv:Vals ys its)(hz:ys.length<=sizeLine) :
  Inv X pins Y (upd H s.heap.objs.size (.lst ys)) { s with heap:=s.heap.push { cls:=.type "list",data:=.seq its.toArray },toks:=t' } :=
 I.laid (λ_ _ q=>Ao _ q) (Al _) ⟨hz,its,0,hv,Bp _ rfl⟩
def Inv.fresh(I:Inv X pins Y H s):H s.heap.objs.size=none:=I.hok.fresh (Al _)
def Inv.lstM(I:Inv X pins Y H s)(hH:H l=some (.lst xs)):xs.length<=sizeLine/\∃its n,Vals xs its/\xs.length=its.length/\s.heap.get? l=some { cls:=.type "list",data:=.seq its.toArray n }:=by
 obtain ⟨z,its,n,r,e⟩:=I.hok l _ hH;exact ⟨z,its,n,r,r.length,e⟩
def V2(h:n<=sizeLine):Builtin.List.listTooLong n=false:=by
 unfold Builtin.List.listTooLong;exact HQ (by omega)
end
section
variable{X:Cx}
def Gp:V->List V->Hp->VK->Prop:=λx b H Q=>∃l a y,x=.ref l/\b=[y]/\H l=some (.lst a)/\a.length<sizeLine/\Q .non (upd H l (.lst (a++[y])))
def Ut:MtM X "list.append" Gp:=by
 intro c s Y H x i v o Q I g d h;obtain ⟨l,j,y,rfl,rfl,b,m,q⟩:=h;cases g;obtain ⟨u,rfl,f⟩:=d.one;obtain ⟨z,a,n,r,k,e⟩:=I.lstM b;refine call_meets F.slot_list_append ⟨_,e,rfl⟩ F.entry_list_append (F.args_list_append_2 _ _) (PySem.list_append l a.toArray n u (by rw [Bg];omega)) ⟨e,?_⟩;refine ⟨.non,_,I.lset b e (by simp) (r.append (.cons f .nil)) ?_,rfl,q⟩;rw [Bo,Hn];omega
def Uw:V->List V->Hp->VK->Prop:=λx b H Q=>∃l a i k y,x=.ref l/\b=[.int i]/\H l=some (.lst a)/\-(2^63)<=i/\i<2^63/\seqIndex? i a.length=some k/\a[k]?=some y/\Q y (upd H l (.lst (a.eraseIdx k)))
def vd:MtM X "list.pop" Uw:=by
 intro d s Y H x E v G Q I A f h;obtain ⟨l,p,i,k,y,rfl,rfl,c,g,o,m,D,q⟩:=h;cases A;obtain ⟨u,rfl,j⟩:=f.one;obtain ⟨t,rfl⟩:=j;obtain ⟨z,a,n,r,B,e⟩:=I.lstM c;obtain ⟨w,C,b⟩:=r.get D;refine call_meets F.slot_list_pop ⟨_,e,rfl⟩ F.entry_list_pop (F.args_list_pop_2 _ _)
  (MeetsSeq.list_pop_at l a.toArray n i t k w (fitsIndex_both g o) (by rw [Bg,<-B];exact m) (by rw [<-Q8];exact C) (by rw [Bg];omega)) ⟨e,?_⟩
 refine ⟨y,_,I.lset c e ?_ (r.eraseIdx k) ?_,b,q⟩
 .show a.toArray.eraseIdxIfInBounds k=(a.eraseIdx k).toArray;rw [List.eraseIdxIfInBounds_toArray]
 .have:=V6 p k;omega
def rRep:R2:=λx y H Q=>∃l k a,x=.ref l/\y=.int k/\H l=some (.lst a)/\-(2^63)<=k/\k<2^63/\a.length*k.toNat<=sizeLine /\
 ∀p,H p=none->Q (.ref p) (upd H p (.lst (List.replicate k.toNat a).flatten))
def len_rep(xs:List α)(k:Nat):(List.replicate k xs).flatten.length=k*xs.length:=by
 induction k with
 | zero=>simp
 | succ k ih=>rw [Gk,Ir,Bo,ih,Dz,Gi]
def uN:OpR X (binaryOp .Mult) rRep:=by
 intro p s Y H x y v u Q I J C h;obtain ⟨l,k,L,rfl,rfl,D,E,A,w,q⟩:=h;cases J;obtain ⟨t,rfl⟩:=C;obtain ⟨z,b,n,r,B,e⟩:=I.lstM D;have f:b.toArray.size*k.toNat<=sizeLine:=by rw [Bg,<-B];exact w
 have g:¬b.toArray.size*k.toNat>(2^63 - 1)/8:=by
  have:(sizeLine:Nat)<=(2^63 - 1)/8:=by decide
  omega
 have i:¬(!Builtin.List.listFitsIndex k)=true:=by
  rw [fitsIndex_both E A];exact Dp
 have c:¬Builtin.List.listTooLong (b.toArray.size*k.toNat)=true:=by
  rw [V2 f];exact Dp
 have d:List.foldl (λo j=>o++j) #[] (List.replicate (if b.toArray.isEmpty=true then 0 else k.toNat) b.toArray)=(List.replicate k.toNat b).flatten.toArray:=by
  have K:∀m:Nat,List.foldl (λo j=>o++j) #[] (List.replicate m b.toArray)=(List.replicate m b).flatten.toArray:=λm=>by
   have:=foldl_rep b m [];rw [List.nil_append] at this;exact this
  rw [K];cases b with
  | nil=>simp
  | cons a r'=>rw [iN (by simp)]
 refine wpAny_binaryOp_repeat_ref (by decide) ⟨_,e,rfl⟩ (λG=>typeIs_int G k t) noFill_list_mul F.fills_int_mul F.slot_int_rmul repeat_list F.slot_int_index.lookup
  (call_meets F.slot_int_rmul (typeIs_int s k t) F.entry_int_rmul (F.args_int_rmul_2 _ _) (int___rmul___int_list k t l b.toArray n)
   ⟨e,rfl,⟨_,e,rfl⟩,call_meets F.slot_list_mul ⟨_,e,rfl⟩ F.entry_list_mul (F.args_list_mul_2 _ _) (AutoListH.list___mul___list_int_3 l b.toArray n k t i g c) ⟨e,?_⟩⟩)
 rw [d];exact ⟨.ref _,_,I.lnew (r.rep k.toNat) (by rw [len_rep,Nat.mul_comm];exact w),rfl,q _ I.fresh⟩
end
section
variable{prog:Program}{w:World}{A:Around}{E:Value->Shared->Prop}{s:Shared}
set_option maxRecDepth 100000 in
end
end L2
namespace Att
open PySem.W PySem.Calls
def jk:∀ns vs,WellAll P h vs (ns.map WData.int)->IntsAre vs ns:=by
 intro ns
 induction ns with
 | nil=>
  intro vs w;rw [List.map_nil] at w;cases w;exact .nil
 | cons n ns ih=>
  intro vs w;rw [Ba] at w;cases w with
  | cons a b=>
   cases a;exact .cons _ _ (ih _ b)
def tM{l:OpenLaw}(hn:l.most=some n){h:Heap}(hpre:l.row.toRowW.claim.pre args=true)(hwl:WellAll P h vals args) :
  ∃a vs ns,vals=[Value.ref a]/\args=[WData.list (ns.map WData.int)]/\h.get? a=some { cls:=.type "list",data:=.seq vs.toArray }/\IntsAre vs ns/\ns.length<=n:=by
 have f:=(pre_splitW hpre).1;have g:l.pre.holds [] { args:=args }=true:=(pre_splitW hpre).2;obtain ⟨d,r,rfl,j,k⟩:=hasAllW_cons f;obtain rfl:=hasAllW_nil k;obtain ⟨o,rfl,i⟩:=hasW_list j;obtain ⟨ns,rfl⟩:=items_int i;have b:ns.length<=n:=by
  unfold OpenLaw.pre at g;have e:(WTm.not (.lt (.lit (.int n)) (.len (.arg 0)))).holds [] { args:=[.list (ns.map .int)] }=true:=by
   have e:=(holds_andW g).1;rw [hn] at e;exact e
  have c:=condW_of e (w_not (w_lt w_lit (w_len_list (w_arg rfl))));rw [Af] at c;refine Nat.le_of_not_lt λq=>?_;have m:(n:Int)<((ns.length:Nat):Int):=by omega
  first
   | (rw [Ew m] at c;exact aB c (by decide))
   | (simp at c;omega)
 cases hwl with
 | cons w1 w2=>
  cases w2;cases w1 with
  | list ho hall=>exact ⟨_,_,ns,rfl,rfl,ho,jk ns _ hall,b⟩
def mX(l:OpenLaw)(args:List WData):l.row.toRowW.claim.post args (.bool true) args=true :=
 postW_of
  (by first | rfl | decide | simp [WShape.has,WShape.arms,WShape.armsAll])
  (w_eq_bool (w_res rfl) w_lit) rfl
def vN{l:OpenLaw}{d:DefRec}(hn:l.most=some n)(hdf:d.params.defaults=[]) (call:∀(w:World) (s₀ s₁:Shared) (mg mb:Str->Option Value) (fa:Addr) (o:Obj) (pm cd doc:Value) (a:Addr) (vs:List Value) (ns:List Int),
   Ground q loose [] XP w s₀ mg mb s₁.heap->YP w s₁.heap ->
   s₁.heap.get? fa=some o->o.data=.func (docDef d.name d.params d.body d.scope pm cd doc)->s₁.heap.CodeRec cd d.name->mg d.name=some (.ref fa) ->
   s₁.heap.get? a=some { cls:=.type "list",data:=.seq vs.toArray }->IntsAre vs ns->ns.length<=n->s₁.gens=#[] ->
   codeAny (model l.prog w) callerA (.call (.ref fa) ⟨[.ref a],[]⟩) (λr s'=>r=.ok (.ret (.bool true))/\OldK s₁.heap s'.heap/\s'.os=s₁.os/\AllBare s'.gens) s₁) :
  WalkO q loose XP YP l.row.toRowW d [] (λf vs=>PySem.call f vs):=by
 intro w s₀ s₁ mg mb G E fa o pm cd doc A H F C i m j z k p I c s t h B;obtain rfl:A=.none:=Dflts.none m hdf;obtain rfl:H=.none:=Dflts.noKw m;obtain ⟨a,vs,ns,rfl,rfl,e,b,g⟩:=tM hn c h;refine enter_call (Jw (call w s₀ s₁ mg mb fa o pm cd doc a vs ns G E F (fd_plain C) i j e b g z) λr s' v=>?_);obtain ⟨rfl,u,D,x⟩:=v;exact ⟨.inl ⟨.bool true,.bool true,[],rfl,λ_=>rfl,.bool true,mX l _,λ_=>⟨List.Pairwise.nil,λ_ y=>(nomatch y)⟩⟩,u,D,x⟩
end Att
namespace L2
def Rn:∀{vs:List Value} {ns:List Int},IntsAre vs ns->Vals (ns.map V.int) vs
 | _,_,.nil=>.nil
 | _,_,.cons n t h=>.cons ⟨t,rfl⟩ (Rn h)
def Only(H:Hp):Prop:=∀b,H b=none\/∃o a,H b=some (.frz o (.lst a))
def iG{K:W.Frag}{s₁:Shared}{vs:List Value}{ns:List Int}(KX:K.In s₁.heap)(hns:s₁.heap.Ns mainGlobals mg)(hb:s₁.heap.Ns builtinsNs mb)(hbb:∀x:Str,x ≠ "__name__"->mb x=bootBuiltins x)(hlim:s₁.heap.NoLimit)(hg:s₁.gens=#[])(ha:s₁.heap.get? a=some { cls:=.type "list",data:=.seq vs.toArray })(hi:IntsAre vs ns)(hl:ns.length<=sizeLine)(hr:Room k callerA)(F:∀base:Heap,K.In base->base.Ns mainGlobals mg->FnOk P w K mg base CX k fa fd [x] sp)(hbind:∀(s:Shared) (u:Value),BindsTo s fd ⟨[u],[]⟩ [(x,u)])(hsp:∀H:Hp,Only H->SqL K H a (ns.map V.int)->sp [.ref a] H (λv _=>v=.bl true) λ_ _ _=>False)(hCX:∀H e s',CX [] H s₁ (λ_ _ _=>False) e s'->False) :
  codeAny (model P w) callerA (.call (.ref fa) ⟨[.ref a],[]⟩) (λr s'=>r=.ok (.ret (.bool true))/\OldK s₁.heap s'.heap/\s'.os=s₁.os/\AllBare s'.gens) s₁:=by
 have I:=Rn hi;have j:=hi.length;have g:∀H:Hp,Only H->SqL K H a (ns.map V.int)->HOk P w H s₁.heap->(∀b,H b≠none->b=a)->(H a≠none->K.lookup a=none) ->
   codeAny (model P w) callerA (.call (.ref fa) ⟨[.ref a],[]⟩) (λr s'=>r=.ok (.ret (.bool true))/\OldK s₁.heap s'.heap/\s'.os=s₁.os/\AllBare s'.gens) s₁:=by
  intro H J U p E S;have c:∀{b:Addr} {o:Obj},s₁.heap.get? b=some o->H b=none->(hidT s₁.heap H).get? b=some o:=λe n=>uW e n;have D:∀{b:Addr} {o:Obj} {A:Array DictEntry} {B:Nat},s₁.heap.get? b=some o->o.data=.dict A B->H b=none:=λ{b o A B} e d=>by
   cases q:H b with
   | none=>rfl
   | some u=>
    have C:=E b (by rw [q];simp);subst C;rw [ha] at e;cases e;have O:=d;cases O
  have f:∀{b:Addr} {m:Str->Option Value},s₁.heap.Ns b m->(hidT s₁.heap H).Ns b m:=λ{b m} ⟨o,A,B,e,d,r⟩=>⟨o,A,B,c e (D e d),d,r⟩
  have i:K.In (hidT s₁.heap H):=λb o e=>c (KX b o e) (by
   cases q:H b with
   | none=>rfl
   | some u=>
    have C:=E b (by rw [q];simp);subst C
    rw [S (by rw [q];simp)] at e;cases e)
  have Q:Mod K mg (hidT s₁.heap H):=⟨i,f hns,⟨mb,f hb,hbb⟩,let ⟨mc,h1,h2⟩:=hlim;⟨mc,f h1,h2⟩⟩;have T:Env0 P w K mg (hidT s₁.heap H) callerA [] s₁ H:=⟨rfl,Q,λb o e=>wV e,Nat.le_of_eq (mF _ _),trivial,λb hb=>aB (show b∈([]:List Addr) from hb) (by simp),p,.of_eq hg⟩;refine Jw ((F _ i (f hns)).run callerA [] s₁ H ⟨[.ref a],[]⟩ [.ref a] [.ref a] _ _ hr T (hbind s₁ (.ref a)) (.cons rfl .nil) (hsp H J U)) λr s' h=>?_;cases r with
  | error e=>exact (hCX H e s' h).elim
  | ok fl=>
   cases fl with
   | next=>exact False.elim h
   | brk=>exact False.elim h
   | cont=>exact False.elim h
   | ret u=>
    obtain ⟨v,Y,os,y,G,l,N,q⟩:=h;have R:=q;subst R;obtain rfl:u=Value.bool true:=N;refine ⟨rfl,OldK.of_keep λb o e=>?_,os,y⟩;cases q:H b with
    | none=>exact G.keep b o e q (by intro z;exact aB (show b∈([]:List Addr) from z) (by simp)) (by simp)
    | some u=>
     rcases J b with z | ⟨ob,xs,z⟩
     .rw [q] at z;cases z
     .have X:=G.frzs b ob _ z;obtain ⟨L,_⟩:=p b _ z;obtain ⟨M,_⟩:=l b _ X;rw [e] at L;cases L;exact M
 cases hk:K.lookup a with
 | some o=>
  have e:=KX a o hk;rw [ha] at e;cases e;refine g (λ_=>none) (λ_=>.inl rfl) (.inr ⟨_,vs.toArray,_,hk,rfl,rfl,rfl,by rw [Bg,j];exact hl,by simpa using I⟩) (λb u z=>by have t:(none:Option HO)=some u:=z;cases t) (λb z=>aB rfl z) λz=>aB rfl z
 | none=>
  refine g (λb=>if b=a then some (.frz { cls:=.type "list",data:=.seq vs.toArray } (.lst (ns.map V.int))) else none) (λb=>?_) (.inl (.inr ⟨{ cls:=.type "list",data:=.seq vs.toArray },iP rfl⟩)) (λb u z=>?_) (λb z=>?_) λ_=>hk
  .by_cases hb:b=a
   .exact .inr ⟨_,_,iP hb⟩
   .exact .inl (iN hb)
  .by_cases hb:b=a
   .have t:=(iP hb).symm.trans z;cases t;subst hb;exact ⟨ha,by rw [Af];exact hl,vs,_,I,ha⟩
   .have t:=(iN hb).symm.trans z;cases t
  .by_cases hb:b=a
   .exact hb
   .exact aB (iN hb) z
def ZqN{l:W.OpenLaw}{n k:Nat}{q:Program}{loose:List Str}{XP:(Str->Option Value)->Heap->Prop}{YP:World->Heap->Prop}{d:DefRec}{K:Params->W.Frag}{CX:World->CXT}{sp:World->Sp}{x:Str}(hn:l.most=some n)(hn2:n<=sizeLine)(hdf:d.params.defaults=[])(hr:Room k callerA)(hY:∀(w:World) (h:Heap),YP w h->(K w.params).In h) (F:∀(w:World) (mg:Str->Option Value) (fa:Addr) (h:Heap),(K w.params).In h->h.Ns mainGlobals mg->mg d.name=some (.ref fa) ->
   ∃fd:FuncData,(∀(s:Shared) (u:Value),BindsTo s fd ⟨[u],[]⟩ [(x,u)]) /\
    ∀base:Heap,(K w.params).In base->base.Ns mainGlobals mg->FnOk l.prog w (K w.params) mg base (CX w) k fa fd [x] (sp w)) (hsp:∀(w:World) (H:Hp) (a:Addr) (ns:List Int),ns.length<=n->Only H->SqL (K w.params) H a (ns.map V.int)->sp w [.ref a] H (λv _=>v=.bl true) λ_ _ _=>False) (hCX:∀(w:World) (H:Hp) (s:Shared) (e:Value) (s':Shared),CX w [] H s (λ_ _ _=>False) e s'->False) :
  W.WalkO q loose XP YP l.row.toRowW d [] (λf vs=>PySem.call f vs):=by
 refine Att.vN hn hdf λw r j mg M fa o J L A a vs ns G D O N z p m i c y=>?_;have t:=hY w _ D;obtain ⟨fd,I,C⟩:=F w mg fa _ t G.T.g p;exact iG t G.T.g G.T.b G.T.builtins G.T.nolimit y m i (CK c hn2) hr C I (λH B E=>hsp w H a ns c B E) λH e s'=>hCX w H j e s'
abbrev E0:XK:=λ_ _ _=>False
structure Fun(K:W.Frag)(x qual:Str)(st:Stmt)(f:Addr)(fd:FuncData):Prop where
 ex:∃(oc:Value) (od:Option Addr) (kV doc pm:Value) (an:Option Addr) (cdv ct:Value) (osl:Array (Option Value)),
  fd=W.fnOf x qual (Fd st) (DX st) (Av st) .none kV doc pm an cdv ct/\K.lookup f=some ⟨oc,od,.func fd,osl⟩/\W.codeIn K cdv qual=true
 kp:W.keepIn K (.ref f)=true
section
variable{P:Program}{w:World}{K:W.Frag}{mg:Str->Option Value}{base:Heap}
def Fun.binds{x qual:Str}{st:Stmt}{f:Addr}{fd:FuncData}{ps:List Str}(F:Fun K x qual st f fd)(h:∀(kV doc pm:Value) (an:Option Addr) (cdv ct:Value) (us:List Value),us.length=ps.length->bindArgs (W.fnOf x qual (Fd st) (DX st) (Av st) .none kV doc pm an cdv ct) ⟨us,[]⟩=pure (ps.zip us)):Binds K fd ps []:=by
 obtain ⟨e,d,kV,doc,pm,an,cdv,ct,b,rfl,c,a⟩:=F.ex;exact .all (h kV doc pm an cdv ct)
def FP{x qual:Str}{st:Stmt}{f:Addr}{oc:Value}{od an:Option Addr}{osl:Array (Option Value)}{kV doc pm cdv ct:Value}(l:K.lookup f=some ⟨oc,od,.func (W.fnOf x qual (Fd st) (DX st) (Av st) .none kV doc pm an cdv ct),osl⟩)(c:W.codeIn K cdv qual=true)(k:W.keepIn K (.ref f)=true):Fun K x qual st f (W.fnOf x qual (Fd st) (DX st) (Av st) .none kV doc pm an cdv ct):=⟨⟨oc,od,kV,doc,pm,an,cdv,ct,osl,rfl,l,c⟩,k⟩
end
def ZmO(h:n<=1000):n<sizeLine:=G7 h (by decide)
def Same(H H':Hp):Prop:=∀b o,H b=some o->H' b=some o
def Same.refl(H):Same H H:=λ_ _ h=>h
def Same.trans(a:Same H H1)(b:Same H1 H2):Same H H2:=λc o h=>b c o (a c o h)
def Same.free(e:Same H H')(h:H' l=Option.none):H l=Option.none:=by
 cases q:H l with
 | none=>rfl
 | some o=>
  rw [e l o q] at h;cases h
def Same.seq{K:W.Frag}{H H':Hp}{a:Addr}{xs:List V}(e:Same H H')(h:SqL K H a xs):SqL K H' a xs:=by
 rcases h with (h | ⟨o,h⟩) | h
 .exact .inl (.inl (e _ _ h))
 .exact .inl (.inr ⟨o,e _ _ h⟩)
 .exact .inr h
end L2
section
variable{X:L2.Cx}{Y:L2.St}{H:L2.Hp}{s:PySem.Shared}{pins:List (PySem.Addr×PySem.Obj)}{us:List PySem.Value}{pos spos cpos pos':PySem.Pos}{A:PySem.Around}{i n k j:Nat}{e:PySem.Expr}{w:PySem.World}{P:PySem.Program}{K:W.Frag}{x:PySem.Str}{xs:List L2.V}{mg:PySem.Str->Option PySem.Value}{base:PySem.Heap}{ps N:List PySem.Str}{es:List PySem.Expr}{te:L2.TE}{fd:PySem.FuncData}
namespace L2
section
def Zsk:OpR X (binaryOp .Mult) (rI IntMulOk λi j=>.int (i*j)):=opI λ_ _ _ _ _ _ _ a q=>mul_int q a
def VL(_ j:Int):Prop:=j≠0/\j.natAbs.log2<9000
def iM:OpR X (binaryOp .FloorDiv) (rI VL λi j=>.int (i.fdiv j)):=opI λ_ _ _ _ _ _ _ a q=>floordiv_int a.1 q (.inl (PyProof.noPylong_of_log2 a.2))
def xq{n:String}(hg:Gl X x)(hm:X.mg x=none)(hv:bootBuiltins x=some (.type n))(hn:x ≠ "__name__":=by decide)(hd:ND x:=by decide):PE X (.Name x pos) (tC (.ty n)) :=
 mV hg hm hv rfl hn hd
end
def lJ:bootBuiltins "abs"=some (.builtin "abs"):=by decide +kernel
def QW:bootBuiltins "all"=some (.builtin "all"):=by decide +kernel
def yS:bootBuiltins "isinstance"=some (.builtin "isinstance"):=by decide +kernel
def SX:bootBuiltins "len"=some (.builtin "len"):=by decide +kernel
def sy:bootBuiltins "max"=some (.builtin "max"):=by decide +kernel
def Zuc:bootBuiltins "min"=some (.builtin "min"):=by decide +kernel
def ZmZ:bootBuiltins "sorted"=some (.builtin "sorted"):=by decide +kernel
def qM:bootBuiltins "int"=some (.type "int"):=by decide +kernel
def yL:bootBuiltins "bool"=some (.type "bool"):=by decide +kernel
def Mv:bootBuiltins "tuple"=some (.type "tuple"):=by decide +kernel
def VN:bootBuiltins "list"=some (.type "list"):=by decide +kernel
def Z9:bootBuiltins "zip"=some (.type "zip"):=by decide +kernel
def uX:bootBuiltins "enumerate"=some (.type "enumerate"):=by decide +kernel
def iJ(K)(t):W.kitOne K t t=some true:=by
 unfold W.kitOne;rw [iP (beq_self_eq_true t)]
def yf(K)(hne:(Value.type T==Value.type U00)=false)(hm:W.kitMeta U00=true)(h:(fastBuiltinMro T).map (·.contains (Value.type U00))=some b):W.kitOne K (.type T) (.type U00)=some b:=by
 unfold W.kitOne;rw [iN (by rw [hne];exact Dp)];show (if W.kitMeta U00=true then _ else none)=_
 rw [iP hm];exact h
mutual
inductive DV(K:W.Frag)(H:Hp):V->PyData->Prop
 | non:DV K H .non .none
 | bl (b:Bool):DV K H (.bl b) (.bool b)
 | int (i:Int):DV K H (.int i) (.int i)
 | str (x:Str):DV K H (.str x) (.str x)
 | tup {a:Addr} {xs:List V} {ds:List PyData} (h:SqT K H a xs) (r:DVs K H xs ds):DV K H (.ref a) (.tuple ds)
 | lst {a:Addr} {xs:List V} {ds:List PyData} (h:SqL K H a xs) (r:DVs K H xs ds):DV K H (.ref a) (.list ds)
inductive DVs(K:W.Frag)(H:Hp):List V->List PyData->Prop
 | nil:DVs K H [] []
 | cons {x:V} {xs:List V} {d:PyData} {ds:List PyData} (h:DV K H x d) (r:DVs K H xs ds):DVs K H (x::xs) (d::ds)
end
section
mutual
def DV.reads(I:Inv X pins Y H s){x:V}{d:PyData}{u:Value}(h:DV X.K H x d)(r:RelV x u):∃as,Reads s.heap u d as:=by
 cases h with
 | non=>cases r;exact ⟨_,.none⟩
 | bl b=>cases r;exact ⟨_,.bool b⟩
 | int i=>obtain ⟨t,rfl⟩:=r;exact ⟨_,.int i t⟩
 | str i=>obtain ⟨t,rfl⟩:=r;exact ⟨_,.str i t⟩
 | tup h q=>
  cases r;obtain ⟨f,a,⟨o,e,j,n,c⟩,_⟩:=I.tuple h;obtain ⟨as,g⟩:=DVs.reads I q a;exact ⟨_,.tuple e j c (by simpa using g)⟩
 | lst h q=>
  cases r;obtain ⟨f,a,k,_⟩:=I.list h;obtain ⟨o,e,j,n,c⟩:=k.isList;obtain ⟨as,g⟩:=DVs.reads I q a;exact ⟨_,.list e j c (by simpa using g)⟩
def DVs.reads(I:Inv X pins Y H s){xs:List V}{ds:List PyData}{us:List Value}(h:DVs X.K H xs ds)(r:Vals xs us):∃as,ReadsAll s.heap us ds as:=by
 cases h with
 | nil=>cases r;exact ⟨_,.nil⟩
 | cons h q=>
  cases r with
  | cons r1 r2=>
   obtain ⟨as,b⟩:=DV.reads I h r1;obtain ⟨c,a⟩:=DVs.reads I q r2;exact ⟨_,.cons b a⟩
end
end
section
def rEqD(K:W.Frag)(f:Bool->Bool):R2:=λx y H Q=>∃a b,DV K H x a/\DV K H y b/\a.canLay0=true/\b.canLay0=true/\a.depth<=60/\Q (.bl (f (PyData.eqv a b))) H
def X3(hu:X.A.units+64<cLine):OpR X (compareOp .Eq) (rEqD X.K id):=by
 intro a s Y H x y v u Q I e b h;obtain ⟨k,m,c,d,f,j,n,q⟩:=h;obtain ⟨o,i⟩:=c.reads I e;obtain ⟨l,g⟩:=d.reads I b;exact PySem.SeqAt.compareEq_reads i g f j (by omega) (Qk I q rfl)
def pH(hu:X.A.units+64<cLine):OpR X (compareOp .NotEq) (rEqD X.K not):=by
 intro a s Y H x y v u Q I e b h;obtain ⟨k,m,c,d,f,j,n,q⟩:=h;obtain ⟨o,i⟩:=c.reads I e;obtain ⟨l,g⟩:=d.reads I b;exact PySem.SeqAt.compareNe_reads i g f j (by omega) (Qk I q rfl)
end
structure Def(K:W.Frag)(mg:Str->Option Value)(x:Str)(st:Stmt)(ps:List Str):Prop where
 ex:∃(f:Addr) (fd:FuncData),Fun K x x st f fd/\Binds K fd ps []/\mg x=some (.ref f)
def Cp(h:H p=none)(o):Same H (upd H p o):=λb u q=>by rw [Ag (Ay q h)];exact q
end L2
namespace L2
def Yh(ts:List Expr)(env:Env):Sem Bool:=match ts with
 | []=>pure true
 | c::_=>isTrue c env (eval c env)
def zR(elt target iter c)(scope)(pos)(it acc)(env) :
  compTurn (.ListComp elt [⟨target,iter,[c],0⟩] scope pos) 0 it acc env=(standAt iter.pos >>= λ_=>pyNext it >>= λr=>match r with
   | none=>pure (.done .next)
   | some v=>letOwnedTupleGo target it v >>= λ_=>assign target env v >>= λ_=>
    (forIn [c] true λ(c:Expr) (s:Bool)=>if s=true then (isTrue c env (eval c env) >>= λok=>pure (ForInStep.yield ok)) else pure (ForInStep.yield s)) >>= λs=>if s=true then
     (eval elt env >>= λx=>call (.builtin "list.append") [acc,x] >>= λ_=>pure ()) >>= λ_=>
      again (.compLoop (.ListComp elt [⟨target,iter,[c],0⟩] scope pos) 0 it acc env)
     else again (.compLoop (.ListComp elt [⟨target,iter,[c],0⟩] scope pos) 0 it acc env)):=by rfl
def Zg5(hts:ts.length<=1)(I:Nat->Shared->Prop) (turn:∀n s,I n s->wpAny (model prog w) A (pyNext it) (λr s₁=>match r with
   | none=>R (.ok .next) s₁
   | some v=>wpAny (model prog w) A (letOwnedTupleGo target it v) (λ_ s1'=>wpAny (model prog w) A (assign target env v) (λ_ s₂=>wpAny (model prog w) A (Yh ts env) (λb s2'=>if b=true then wpAny (model prog w) A (eval elt env) (λx s₃=>
     wpAny (model prog w) A (call (.builtin "list.append") [acc,x]) (λ_ s₄=>∃m,m<n/\I m s₄) (notedBy (model prog w) A env λe s'=>R (.error e) s') s₃)
     (notedBy (model prog w) A env λe s'=>R (.error e) s') s2' else ∃m,m<n/\I m s2') (notedBy (model prog w) A env λe s'=>R (.error e) s') s₂) (notedBy (model prog w) A env λe s'=>R (.error e) s') s1') (notedBy (model prog w) A env λe s'=>R (.error e) s') s₁) (notedBy (model prog w) A env λe s'=>R (.error e) s') s) (n:Nat) (h:I n s) :
  codeAny (model prog w) A (.compLoop (.ListComp elt [⟨target,iter,ts,0⟩] scope pos) 0 it acc env) R s:=by
 refine codeAny_loop rfl I (λn s l=>?_) n h;refine wpAny_noted ?_
 match ts,hts with
 | [],_=>
  refine Ac (Js (Ac (CP (turn n s l) (λr s₁ f=>?_) λ_ _ d=>d)));cases r with
  | none=>exact Ad f
  | some v=>
   refine Ac (CP f (λ_ s1' g=>?_) λ_ _ d=>d);refine Ac (CP g (λ_ s₂ j=>?_) λ_ _ d=>d);show wpAny _ _ ((pure true:Sem Bool) >>= λb=>if b=true then ((eval elt env >>= λx=>call (.builtin "list.append") [acc,x] >>= λ_=>pure ()) >>= λ_=>again (.compLoop (.ListComp elt [⟨target,iter,[],0⟩] scope pos) 0 it acc env)) else again (.compLoop (.ListComp elt [⟨target,iter,[],0⟩] scope pos) 0 it acc env)) _ _ s₂
   refine Ac (CP j (λb s2' a=>?_) λ_ _ d=>d);cases b with
   | true=>
    exact Ac (Ac (CP a (λx s₃ k=>Ac (CP k (λ_ s₄ i=>Ad (Ad ⟨rfl,i⟩)) λ_ _ d=>d)) λ_ _ d=>d))
   | false=>
    exact Ad ⟨rfl,a⟩
 | [c],_=>
  rw [zR];refine Ac (Js (Ac (CP (turn n s l) (λr s₁ f=>?_) λ_ _ d=>d)));cases r with
  | none=>exact Ad f
  | some v=>
   refine Ac (CP f (λ_ s1' g=>?_) λ_ _ d=>d);refine Ac (CP g (λ_ s₂ j=>?_) λ_ _ d=>d);rw [JZ];refine Ac (Ac ?_);refine Ac (CP j (λb s2' a=>Ad ?_) λ_ _ d=>d);refine Ad ?_;cases b with
   | true=>
    exact Ac (Ac (CP a (λx s₃ k=>Ac (CP k (λ_ s₄ i=>Ad (Ad ⟨rfl,i⟩)) λ_ _ d=>d)) λ_ _ d=>d))
   | false=>
    exact Ad ⟨rfl,a⟩
def Ul:∀names h acc n c,(n,c)∈PySem.cellsFrom h.objs.size names acc->(n,c)∈acc\/((PySem.pushCells h names).IsCell c none/\h.objs.size<=c)
 | [],_,_,_,_,hm=>.inl hm
 | (name,kind)::r,h,acc,n,c,hm=>by
  unfold PySem.cellsFrom at hm;unfold PySem.pushCells;split at hm
  .rename_i hk;rw [iP hk];have a:(n,c)∈PySem.cellsFrom (h.push { cls:=.type "cell",data:=.cell none }).objs.size r ((name,h.objs.size)::acc):=by rw [Ck];exact hm
   rcases Ul r (h.push { cls:=.type "cell",data:=.cell none }) ((name,h.objs.size)::acc) n c a with z | ⟨z1,z2⟩
   .rcases Aj.mp z with e | z
    .cases e;exact .inr ⟨⟨_,PySem.pushCells_keeps r _ _ _ (Bp _ rfl),rfl⟩,Al _⟩
    .exact .inl z
   .rw [Ck] at z2;exact .inr ⟨z1,by omega⟩
  .rename_i hk;rw [iN hk];exact Ul r h acc n c hm
def Rj:∀names k acc,(∀n c,(n,c)∈acc->c<k)->(∀n n' c,(n,c)∈acc->(n',c)∈acc->n=n')->∀n n' c,(n,c)∈PySem.cellsFrom k names acc->(n',c)∈PySem.cellsFrom k names acc->n=n'
 | [],_,_,_,hi,n,n',c,h1,h2=>hi n n' c h1 h2
 | (name,kind)::r,k,acc,hl,hi,n,n',c,h1,h2=>by
  unfold PySem.cellsFrom at h1 h2;split at h1
  .rename_i hk;rw [iP hk] at h2;refine Rj r (k+1) ((name,k)::acc) (λm d hm=>?_) (λm a d hm hm'=>?_) n n' c h1 h2
   .rcases Aj.mp hm with e | hm
    .cases e;exact Gh _
    .exact Gf (hl m d hm)
   .rcases Aj.mp hm with e | hm<;>rcases Aj.mp hm' with e' | hm'
    .cases e;cases e';rfl
    .cases e;exact aB (hl _ _ hm') (Gu _)
    .cases e';exact aB (hl _ _ hm) (Gu _)
    .exact hi m a d hm hm'
  .rename_i hk;rw [iN hk] at h2;exact Rj r k acc hl hi n n' c h1 h2
def SJ:∀names k acc,(∀y∈names,y.2=.cell->y.1≠x)->(PySem.cellsFrom k names acc).lookup x=acc.lookup x
 | [],_,_,_=>rfl
 | (name,kind)::r,k,acc,h=>by
  unfold PySem.cellsFrom;split
  .rename_i hk;rw [SJ r (k+1) _ λy a=>h y (BP _ a)];have b:name≠x:=h (name,kind) BR (by simpa using hk);rw [JK,beq_false_of_ne (Ne.symm b)]
  .exact SJ r k acc λy a=>h y (BP _ a)
def Rf:∀names k acc,((acc.lookup x).isSome=true\/(x,NameKind.cell)∈names)->((PySem.cellsFrom k names acc).lookup x).isSome=true
 | [],_,_,h=>by
  rcases h with h | h
  .exact h
  .cases h
 | (name,kind)::r,k,acc,h=>by
  unfold PySem.cellsFrom;split
  .rename_i hk;refine Rf r (k+1) _ ?_;by_cases e:x=name
   .subst e;exact .inl (by simp)
   .rcases h with h | h
    .exact .inl (by rw [JK,beq_false_of_ne e];exact h)
    .rcases Aj.mp h with z | h
     .cases z;exact aB rfl e
     .exact .inr h
  .rename_i hk;refine Rf r k acc ?_;rcases h with h | h
   .exact .inl h
   .rcases Aj.mp h with z | h
    .cases z;exact aB rfl hk
    .exact .inr h
def gh{M:Model}{E:Value->Shared->Prop}{scope:Scope}{globals:Addr}{closure:List (Str×Addr)}{qual:Str}{func:Option Addr}{code:Value}{outer:Env}{builtins:Addr}{Q:Env->Shared->Prop} (hQ:∀h',h'.Ns s.heap.objs.size (λ_=>none)->(∀b o,s.heap.get? b=some o->h'.get? b=some o)->(∀n c,(n,c)∈PySem.cellsFrom (s.heap.objs.size+1) scope.names closure->(n,c)∈closure\/(h'.IsCell c none/\s.heap.objs.size+1<=c)) ->
   Q (newEnv scope s.heap.objs.size globals (PySem.cellsFrom (s.heap.objs.size+1) scope.names closure) qual func code (some outer) builtins) { s with heap:=h' }) :
  wpAny M A (newFunctionEnv scope globals closure [] qual func code (some outer) builtins) Q E s:=by
 simp only [newFunctionEnv,Option.isSome_some,Dd];refine Ac (wpAny_alloc ?_);refine Ac (wpAny_layCells _ (λf a d=>by cases hkc:a==NameKind.cell<;>simp [hkc]) _ _ _ _ ?_);rw [show ({ s with heap:=s.heap.push { cls:=.type "dict",data:=.dict #[] } }:Shared).heap.objs.size=s.heap.objs.size+1 from Ck ..]
 refine Ac (Ad (Ad ?_));refine hQ _ ((Heap.Ns.new s.heap (.type "dict")).keeps (PySem.pushCells_keeps _ _)) (λb o e=>PySem.pushCells_keeps _ _ b o (Ao _ e)) λn c g=>?_;have z:=Ul scope.names (s.heap.push { cls:=.type "dict",data:=.dict #[] }) closure n c (by rw [Ck];exact g);rwa [Ck] at z
def PTs(X:Cx)(ts:List Expr)(tt:TT):Prop :=
 ∀a s Y H Q,Inv X a Y H s->tt Y H Q->wX X (Yh ts X.env) (TP X a Y Q) X.xe s
def tYes:TT:=λ_ H Q=>Q true H
def oF:PTs X [] tYes:=λ_ _ _ H _ I h=>Ad ⟨H,I,h⟩
def lV(h:PT X c tt):PTs X [c] tt:=h
def Bh(X:Cx)(N:List Str)(scope:Scope)(cl:List (Str×Addr))(C:Addr)(s₂:Shared)(H₂:Hp)(fp:List Addr)(pn:List (Addr×Obj)):Cx :=
 { X with N:=N,s₀:=s₂,H₀:=H₂,env:=compEnvC scope (PySem.cellsFrom (C+1) scope.names cl) C X.env,outer:=X.stack,ex:=fp,fn:=λx=>scope.names.lookup x==some .cell,pn:=pn,xe:=λ_ _=>False }
def J3(X:Cx)(sc:Scope)(cl:List (Str×Addr)):List (Str×Nat)->Prop
 | []=>True
 | p::r=>(X.N[p.2]?=some p.1/\X.env.scope.names.lookup p.1=some .cell/\(sc.names.lookup p.1=some .cell)/\∃c,cl.lookup p.1=some c/\X.env.cells.lookup p.1=some c)/\J3 X sc cl r
def J3.get:∀{cap:List (Str×Nat)} {j:Nat} {p:Str×Nat},J3 X sc cl cap->cap[j]?=some p ->
  X.N[p.2]?=some p.1/\X.env.scope.names.lookup p.1=some .cell/\(sc.names.lookup p.1=some .cell)/\∃c,cl.lookup p.1=some c/\X.env.cells.lookup p.1=some c
 | [],_,_,_,e=>by simp at e
 | _::_,0,_,h,e=>by simp at e;subst e;exact h.1
 | _::_,j+1,_,h,e=>J3.get (j:=j) h.2 (by simpa using e)
def capt(Y:St)(cap:List (Str×Nat)):St:=cap.map λp=>(Y[p.2]?).join
def st0(own:List Str)(Y:St)(cap:List (Str×Nat)):St:=List.replicate own.length none++capt Y cap
def Iw(J:It)(g:TG)(tt:TT)(te:TE)(own:List Str)(cap:List (Str×Nat))(Y:St)(Q:VK)(H1:Hp):Prop:=∃W:Nat->Nat->List V->Hp->Prop,(∃m,W 0 m [] H1)/\∀i m a H,W i m a H->a.length<=sizeLine /\
 ((J.stop i H/\∀p,H p=none->Q (.ref p) (upd H p (.lst a))) \/
  (J.go i H/\∀x e,J.yld i H x e->g x (st0 own Y cap) e λd h=>d.drop own.length=capt Y cap/\tt d h λb f=>if b=true then te d f λv j=>a.length<sizeLine/\∃c,c<m/\W (i+1) c (a++[v]) j else ∃c,c<m/\W (i+1) c a f))
abbrev Fam(α:Type):=Addr->Shared->Hp->List Addr->List (Addr×Obj)->α
def Et(wi:TI)(g:Fam TG)(tt:Fam TT)(te:Fam TE)(own:List Str)(cap:List (Str×Nat)):TE:=λY H Q=>wi Y H λJ d=>∀C s a c b,Iw J (g C s a c b) (tt C s a c b) (te C s a c b) own cap Y Q d
structure Ep(X:Cx)(own:List Str)(cap:List (Str×Nat))(scope:Scope)(cl:List (Str×Addr)):Prop where
 clos:closureFor scope X.env=pure cl
 kind:scope.kind=.function
 nown:∀x c,(x,c)∈cl->∀y∈scope.names,y.2=.cell->y.1≠x
 locals:∀y∈scope.names,y.2=.local->scope.names.lookup y.1=some .local
 sub:∀x c,(x,c)∈cl->X.env.cells.lookup x=some c
 has:∀k x,((relabel scope X.env).names.lookup x=some .cell\/(relabel scope X.env).names.lookup x=some .free)->∃c,(PySem.cellsFrom k scope.names cl).lookup x=some c
 cap:J3 X (relabel scope X.env) cl cap
section
variable {own:List Str} {cap:List (Str×Nat)} {scope:Scope} {cl:List (Str×Addr)} {fp:List Addr} {tg:Expr} {J:It} {it:Addr} {tn:Nat->Heap->Prop}
def bM(e:(st0 own Y cap)[i]?=some (some v)):∃j p,i=own.length+j/\cap[j]?=some p/\Y[p.2]?=some (some v):=by
 unfold st0 at e;by_cases hi:i<own.length
 .rw [Ea (by simpa using hi),Ib,iP hi] at e;cases e
 .rw [Fo (by simpa using hi),Jq] at e;unfold capt at e;rw [By] at e;cases q:cap[i - own.length]? with
  | none=>rw [q] at e;cases e
  | some p=>
   rw [q] at e;have a:(Y[p.2]?).join=some v:=Bt e;refine ⟨i - own.length,p,by omega,q,?_⟩;cases z:Y[p.2]? with
   | none=>rw [z] at a;cases a
   | some o=>rw [z] at a;have b:o=some v:=a;rw [b]
def Inv.comp(I:Inv X pins Y H s)(O:Ep X own cap scope cl)(T:Turn X.prog X.w X.K tg J fp it tn)(st:tn 0 s.heap)(f:∀b∈fp,FpOk X pins H b)(hC:s.heap.objs.size<=C)(k:∀b o,s.heap.get? b=some o->h'.get? b=some o)(hn:h'.Ns C m)(hx:∀n c,(n,c)∈PySem.cellsFrom (C+1) scope.names cl->(n,c)∈cl\/(h'.IsCell c none/\C+1<=c)) :
  Inv (Bh X (own++cap.map (·.1)) scope cl C s H fp (X.pn++pins)) [] (st0 own Y cap) H { s with heap:=h',toks:=t' }:=by
 have A:∀{b:Addr} {o:Obj},s.heap.get? b=some o->b≠C:=λe=>BK (Bu (Aq e) hC);have a:=λx c e=>I.cell x c (O.sub x c e);have G:∀x c,(x,c)∈cl->c<C+1:=λx c e=>by
  obtain ⟨v,o,D,_⟩:=a x c e;exact Nat.lt_succ_of_le (JT (Bu (Aq D) hC))
 have B:∀b∈fp,b≠C:=λb g=>by
  obtain ⟨o,e,_⟩:=T.obj _ _ st b g;exact A e
 refine ⟨⟨I.ok.mod,O.kind,I.ok.glob,I.ok.blt,hC,λx y c E t=>Rj scope.names (C+1) cl G (λn R c h1 U=>I.ok.inj n R c (O.sub n c h1) (O.sub R c U)) x y c (EY E) (EY t),O.has (C+1),λx c E t=>?_,I.ok.hd,I.ok.frames,.inl rfl,λb g=>⟨B b g,λx c e=>?_⟩,I.bs,CK I.ok.bsz I.sz,λb o e g=>?_,λb g z=>?_,I.stack,I.stkFree⟩,
  rfl,I.bare,Un.kept k,⟨m,hn,λi x v E t e3=>?_⟩,λx c e=>?_,?_,λx c e=>?_,λp F=>?_,I.hok.kept k,?_⟩
 .have h:scope.names.lookup x=some .cell:=by simpa [Bh] using E
  rcases hx x c (EY t) with z | ⟨_,z⟩
  .exact aB rfl (O.nown x c z (x,.cell) (EY h) rfl)
  .exact CK hC (Nat.le_of_succ_le z)
 .rcases hx x c (EY e) with z | ⟨_,z⟩
  .exact (f b g).2.2.2.2.1 x c (O.sub x c z)
  .obtain ⟨o,Z,_⟩:=T.obj _ _ st b g;exact FN (Bu (Bu (Aq Z) hC) (Nat.le_of_succ_le z))
 .rcases (f b g).2.2.2.1 with z | z
  .exact I.ok.noex b o e z
  .exact aB (Bu (Aq (I.ok.bs b o e).1) z) (Gu _)
 .rcases Aj.mp (I.stkSub b z) with q | q
  .exact (f b g).2.1 q
  .exact (f b g).2.2.1 q
 .obtain ⟨j,p,rfl,F,hs⟩:=bM t;obtain ⟨S,P,c3,c,N,V⟩:=O.cap.get F;have h:(own++cap.map (·.1))[own.length+j]?=some x:=E;rw [Fo (Nat.le_add_right _ _),Nat.add_sub_cancel_left,By,F] at h;have ex:=Bt h;subst ex;obtain ⟨m2,_,W⟩:=I.loc;obtain ⟨u,r,l⟩:=W p.2 p.1 v S hs (.inr (.inl P));refine ⟨u,r,.inr ⟨.inl c3,c,(SJ scope.names (C+1) cl λy hy hk=>O.nown p.1 c (EY N) y hy hk).trans N,?_⟩⟩;rcases l with ⟨z,_⟩ | ⟨_,c',z,⟨o,D,M⟩⟩
  .have Q:X.env.scope.names.lookup p.1=some .local:=z;rw [P] at Q;cases Q
  .rw [V] at z;cases z;exact ⟨o,k _ _ D,M⟩
 .rcases hx x c (EY e) with z | ⟨z,_⟩
  .obtain ⟨v,o,D,M⟩:=a x c z;exact ⟨v,o,k _ _ D,M⟩
  .exact ⟨none,z⟩
 .exact I.hok.fresh hC
 .rcases hx x c (EY e) with z | ⟨_,z⟩
  .exact I.freeC x c (O.sub x c z)
  .exact I.hok.fresh (CK hC (Nat.le_of_succ_le z))
 .have L:p∈X.pn++pins:=by simpa [Bh] using F
  obtain ⟨e,n,ne,nf,d⟩:=I.pin p L;exact ⟨k _ _ e,n,A e,λz=>(Aj.mp (I.stkSub p.1 z)).elim ne nf,d⟩
 .show (st0 own Y cap).length=(own++cap.map (·.1)).length;unfold st0 capt;simp
def Cx.Ok.rexe{xe:Value->Shared->Prop}(o:X.Ok):({ X with xe:=xe }:Cx).Ok:=by
 cases o;constructor<;>assumption
def Inv.rexe(I:Inv X pins Y H s):Inv { X with xe:=xe } pins Y H s:=by
 obtain ⟨ok,i1,i2,i3,i4,i5,i6,i7,i8,i9,i10⟩:=I;exact ⟨ok.rexe,i1,i2,i3,i4,i5,i6,i7,i8,i9,i10⟩
def CG(xf:Addr->Shared->Hp->List Addr->Value->Shared->Prop)(X:Cx)(N:List Str)(scope:Scope)(cl:List (Str×Addr))(C:Addr)(s₂:Shared)(H₂:Hp)(fp:List Addr)(pn:List (Addr×Obj)):Cx:={ Bh X N scope cl C s₂ H₂ fp pn with xe:=xf C s₂ H₂ fp }
def eG{xf:Addr->Shared->Hp->List Addr->Value->Shared->Prop}{elt iter:Expr}{ts:List Expr}{gF:Fam TG}{ttF:Fam TT}{teF:Fam TE}{E:Value->Shared->Prop}(O:Ep X own cap scope cl)(hc:X.calm=true)(hgF:∀C s H fp pn,PG (CG xf X (own++cap.map (·.1)) scope cl C s H fp pn) tg (gF C s H fp pn))(htF:∀C s H fp pn,PTs (CG xf X (own++cap.map (·.1)) scope cl C s H fp pn) ts (ttF C s H fp pn))(heF:∀C s H fp pn,PE (CG xf X (own++cap.map (·.1)) scope cl C s H fp pn) elt (teF C s H fp pn))(hts:ts.length<=1)(I2:Inv X pins Y H s)(T:Turn X.prog X.w X.K tg J fp it tn)(st2:tn 0 s.heap)(f2:∀b∈fp,FpOk X pins H b){Q:VK}(hw:∀C s H2 fp pn,Iw J (gF C s H2 fp pn) (ttF C s H2 fp pn) (teF C s H2 fp pn) own cap Y Q H){R:Value->Addr->Result->Shared->Prop} (fin:∀(D C:Addr) (H':Hp) (s':Shared) (m:Str->Option Value),s.heap.objs.size<=C->s'.heap.Ns C m->H' C=none ->
   (∀h',Heap.SameBut C s'.heap h'->Inv X pins Y H' { s' with heap:=h' })->Q (.ref D) H'->R (.ref D) C (.ok .next) s') (hexc:∀(D C:Addr) (cells:List (Str×Addr)) (e:Value) (s':Shared),s.heap.objs.size<=C->xf C s H fp e s'->notedBy (model X.prog X.w) X.A (compEnvC scope cells C X.env) (λe s'=>R (.ref D) C (.error e) s') e s') :
  wX X (newList []) (λacc s₃=>wX X (newFunctionEnv scope X.env.globals cl [] X.env.qual none .none (some X.env)) (λcenv s₄=>
   codeAny (model X.prog X.w) X.A (.compStart (.ListComp elt [⟨tg,iter,ts,0⟩] scope pos) 0 (.ref it) acc { cenv with scope:=relabel scope X.env }) (R acc cenv.locals) s₄) E s₃) E s:=by
 refine Hx (gh (λk L h f=>?_));generalize hHh:s.heap.push { cls:=.type "list",dict:=none,data:=.seq ([]:List Value).toArray }=Hh at L h f ⊢;have hCs:Hh.objs.size=s.heap.objs.size+1:=by rw [<-hHh,Ck]
 generalize hCC:Hh.objs.size=C at L f hCs ⊢;generalize hDD:s.heap.objs.size=D at hCs ⊢;have g:D<C:=by omega
 have P:=BK g;have hsD:=Nat.le_of_eq hDD;have G:s.heap.objs.size<=C:=by omega
 have M:∀{b:Addr} {o:Obj},s.heap.get? b=some o->b<D:=λe=>by rw [<-hDD];exact Aq e
 have old:∀b o,s.heap.get? b=some o->k.get? b=some o:=λb o e=>by
  refine h b o ?_;rw [<-hHh];exact Ao _ e
 have hD0:k.PlainList D #[]:=by
  have z:Hh.get? D=some { cls:=.type "list",dict:=none,data:=.seq ([]:List Value).toArray }:=by
   rw [<-hHh,<-hDD];exact Bp _ rfl
  exact ⟨_,h D _ z⟩
 obtain ⟨W,⟨m0,w0⟩,turn⟩:=hw C s H fp (X.pn++pins);have hg:=hgF C s H fp (X.pn++pins);have ht:=htF C s H fp (X.pn++pins);have he:=heF C s H fp (X.pn++pins);have I':Inv (CG xf X (own++cap.map (·.1)) scope cl C s H fp (X.pn++pins)) [] (st0 own Y cap) H { s with heap:=k,toks:=s.toks }:=(I2.comp O T st2 f2 G old L f).rexe
 have cne:∀x c,(PySem.cellsFrom (C+1) scope.names cl).lookup x=some c->(∃v,s.heap.IsCell c v/\X.env.cells.lookup x=some c)\/C<c:=λx c e=>by
  rcases f x c (EY e) with z | ⟨_,z⟩
  .obtain ⟨v,hv⟩:=I2.cell x c (O.sub x c z);exact .inl ⟨v,hv,O.sub x c z⟩
  .exact .inr z
 have st':=T.keep _ _ _ st2 λb hb o e=>old b o e;have nofr:∀{a:Addr},s.heap.objs.size<=a->a∉frs X.stack:=λ{a} ha z=>by
  rcases Aj.mp (I2.stkSub a z) with q | q
  .exact aB (Bu I2.lt ha) (by rw [q];exact Gu _)
  .exact I2.nofs ha q
 have ltfp:∀b∈fp,b<D:=λb hb=>by
  obtain ⟨o,e,_⟩:=T.obj _ _ st2 b hb;exact M e
 have fpk:∀{Z:Hp} {I:Obj},(∀b∈fp,Z b=none)->∀b∈fp,FpOk (CG xf X (own++cap.map (·.1)) scope cl C s H fp (X.pn++pins)) [(D,I)] Z b:=λ{Z I} hn b hb=>by
  obtain ⟨_,f1,f3,f4,f5,f6⟩:=f2 b hb;have lb:=ltfp b hb;refine ⟨hn b hb,(BK (BJ lb g)),λz=>?_,.inl hb,λx c e=>?_,λp B=>?_⟩
  .rcases Aj.mp (I2.stkSub b z) with q | q
   .exact f1 q
   .exact f3 q
  .rcases cne x c e with ⟨_,_,z⟩ | z
   .exact f5 x c z
   .exact FN (BJ lb (BJ g z))
  .rcases HH.mp B with z | z
   .exact f6 p z
   .have z':p=(D,I):=by simpa using z
    subst z';exact FN lb
 have loop:∀s₃:Shared,s₃={ s with heap:=k } ->
   codeAny (model X.prog X.w) X.A (.compLoop (.ListComp elt [⟨tg,iter,ts,0⟩] scope pos) 0 (.ref it) (.ref D) (compEnvC scope (PySem.cellsFrom (C+1) scope.names cl) C X.env)) (R (.ref D) C) s₃:=by
  rintro s₃ rfl
  refine Zg5 hts (λn s'=>∃(i:Nat) (acc:List V) (d:List Value) (H':Hp),Inv (CG xf X (own++cap.map (·.1)) scope cl C s H fp (X.pn++pins)) [] (st0 own Y cap) H' s'/\tn i s'.heap/\(∀b∈fp,H' b=none)/\H' D=none /\
   s'.heap.PlainList D d.toArray/\Vals acc d/\W i n acc H') ?_ m0 ⟨0,[],[],H,I',st',λb hb=>(f2 b hb).1,I2.hok.fresh hsD,hD0,.nil,w0⟩
  rintro n s3 ⟨i,acc,d,Z,I3,st3,fr3,nD,⟨S,hD⟩,rv,w3⟩;obtain ⟨hlen,hturn⟩:=turn i n acc Z w3;have lenV:=rv.length;have pinD:∀{s5:Shared} {H5:Hp},s5.heap.get? D=some { cls:=.type "list",data:=.seq d.toArray S }->H5 D=none->∀p∈[(D,({ cls:=.type "list",data:=.seq d.toArray S }:Obj))],s5.heap.get? p.1=some p.2/\H5 p.1=none/\p.1≠C/\p.1∉frs X.stack/\∀v,p.2.data≠.cell v:=by
   intro s5 H5 e1 e2 p B;have z':p=(D,({ cls:=.type "list",data:=.seq d.toArray S }:Obj)):=by simpa using B
   subst z';exact ⟨e1,e2,P,nofr hsD,λv z=>by cases z⟩
  have I3p:=I3.pins_of (pinD hD nD);rcases hturn with ⟨stop,qn⟩ | ⟨go,step⟩
  .refine CP (T.done (CG xf X (own++cap.map (·.1)) scope cl C s H fp (X.pn++pins)) rfl rfl rfl hc i _ s3 _ Z (λ_ _=>False) I3p (fpk fr3) st3 stop) (λr s4 h4=>?_) (λ_ _ z=>z.elim);obtain ⟨hr,t⟩:=h4;subst hr;obtain ⟨m4,hm4,_⟩:=t.loc;have hD4:=(t.pin (D,{ cls:=.type "list",data:=.seq d.toArray S }) (DQ _ (by simp))).1;have nC:=t.free;refine fin D C (upd Z D (.lst acc)) s4 m4 G hm4 (by rw [Ag (Ne.symm P)];exact nC) (λh' sb=>?_) (qn D nD);have kc:=λb o hb e=>sb.extBut b o hb e;have neD:∀{b:Addr} {o:Obj},s.heap.get? b=some o->b≠D:=λe=>BK (M e);have neC:∀{b:Addr} {o:Obj},s.heap.get? b=some o->b≠C:=λe=>BK (BJ (M e) g);refine I2.call' (ch:=fp) t.os ⟨?_,?_,?_,?_,?_,?_,?_⟩ (λa o e=>?_) t.bare (λb hb=>?_)
   .exact λb o e n hb hx=>kc b o (neC e) (t.base.keep b o e n hb hx)
   .intro b o e n hb hx;obtain ⟨sl,q⟩:=t.base.slot b o e n hb hx;exact ⟨sl,kc b _ (neC e) q⟩
   .intro b o e n hx;rw [Ag (neD e)];exact t.base.free b o e n hx
   .intro b o e hx;obtain ⟨o',q⟩:=t.base.there b o e hx;exact ⟨o',kc b _ (neC e) q⟩
   .intro b xs e;have q:=t.base.tups b xs e;rw [Ag (Ay q nD)];exact q
   .intro b o u e;have q:=t.base.frzs b o u e;rw [Ag (Ay q nD)];exact q
   .intro b ps e;obtain ⟨more,q⟩:=t.base.tbls b ps e;exact ⟨more,by rw [Ag (Ay q nD)];exact q⟩
   .by_cases ha:a=D
    .subst ha;rw [Ak] at e;cases e;exact ⟨hlen,d,S,rv,kc _ _ P hD4⟩
    .rw [Ag ha] at e;refine (t.hok a o e).stay (λb u hb q=>kc b u ?_ q) (λb q=>?_) (λb xs q=>?_)
     .rcases hb with rfl | hb
      .exact Ay e nC
      .exact Ay hb nC
     .rw [Ag (Ay q nD)];exact q
     .rw [Ag (Ay q nD)];exact q
   .obtain ⟨_,f1,_,f4,f5,f6⟩:=f2 b hb;exact ⟨f4,f1,f5,f6⟩
  .refine CP (T.item (CG xf X (own++cap.map (·.1)) scope cl C s H fp (X.pn++pins)) rfl rfl rfl hc i _ s3 _ Z (λ_ _=>False) I3p (fpk fr3) st3 go) (λr s4 h4=>?_) (λ_ _ z=>z.elim);obtain ⟨u,hr,h4⟩:=h4;subst hr;refine CP h4 (λ_ s5 h5=>?_) (λ_ _ z=>z.elim);obtain ⟨x,H5,I5,r5,y5,N,fr5⟩:=h5;have I5':=I5.pinned (fpk fr5) (T.obj _ _ N);refine CP (hg _ s5 _ H5 x u _ I5' r5 (step x H5 y5)) (λ_ s6 h6=>?_) (λe s' z=>hexc D C _ e s' G z);obtain ⟨Y6,H6,I6,e6,q6⟩:=h6;refine CP (ht _ s6 Y6 H6 _ I6 q6) (λbb s6' h6'=>?_) (λe s' z=>hexc D C _ e s' G z);obtain ⟨H6',F,q6'⟩:=h6';have stay:∀{H7:Hp} {s7:Shared},Inv (CG xf X (own++cap.map (·.1)) scope cl C s H fp (X.pn++pins)) [] Y6 H7 s7->Inv (CG xf X (own++cap.map (·.1)) scope cl C s H fp (X.pn++pins)) [] (st0 own Y cap) H7 s7:=λ{H7 s7} I8=>by
    refine I8.weak (I'.len.trans I8.len.symm) (λj v e=>?_);obtain ⟨l,p,rfl,B,hs⟩:=bM e;have q:(Y6.drop own.length)[l]?=some (some v):=by
     rw [e6];unfold capt;rw [By,B];show some ((Y[p.2]?).join)=_;rw [hs];rfl
    rwa [List.getElem?_drop] at q
   cases bb with
   | false=>
    obtain ⟨m',hm,w7⟩:=q6';obtain ⟨hD7,U,_⟩:=F.pin (D,{ cls:=.type "list",data:=.seq d.toArray S }) (DQ _ (by simp));have st7:=T.keep _ _ _ N λb hb o e=>(F.pin (b,o) (DQ _ (DQ _ (LC hb e)))).1;have fr7:∀b∈fp,H6' b=none:=λb hb=>by
     obtain ⟨o,e,_⟩:=T.obj _ _ N b hb;exact (F.pin (b,o) (DQ _ (DQ _ (LC hb e)))).2.1
    exact ⟨m',hm,i+1,acc,d,H6',stay (F.pins_of λp B=>nomatch B),st7,fr7,U,⟨S,hD7⟩,rv,w7⟩
   | true=>
   refine CP (he _ s6' Y6 H6' _ F q6') (λy s7 h7=>?_) (λe s' z=>hexc D C _ e s' G z);obtain ⟨v,H7,I7,r7,hl7,m',hm,w7⟩:=h7;obtain ⟨hD7,U,_⟩:=I7.pin (D,{ cls:=.type "list",data:=.seq d.toArray S }) (DQ _ (by simp));have st7:=T.keep _ _ _ N λb hb o e=>(I7.pin (b,o) (DQ _ (DQ _ (LC hb e)))).1;have fr7:∀b∈fp,H7 b=none:=λb hb=>by
    obtain ⟨o,e,_⟩:=T.obj _ _ N b hb;exact (I7.pin (b,o) (DQ _ (DQ _ (LC hb e)))).2.1
   refine wpAny_list_append_plain ⟨S,hD7⟩ (λh8 hp8 hs8=>?_) (by rw [Bg];omega);have I7w:Inv (CG xf X (own++cap.map (·.1)) scope cl C s H fp (X.pn++pins)) [] Y6 H7 s7:=I7.pins_of λp B=>nomatch B;have I8:Inv (CG xf X (own++cap.map (·.1)) scope cl C s H fp (X.pn++pins)) [] Y6 H7 { s7 with heap:=h8 }:=by
    refine I7w.turned (λb o hb e=>hs8.extBut b o hb e) U P (.inr hsD) (λx c e=>?_) (λp B=>?_)
    .rcases cne x c e with ⟨v,⟨o,ho,_⟩,_⟩ | z
     .exact BK (M ho)
     .exact FN (BJ g z)
    .have hp':p∈X.pn++pins:=by simpa [CG,Bh] using B
     exact BK (M (I2.pin p hp').1)
   have I9:=stay I8;refine ⟨m',hm,i+1,acc++[v],d++[y],H7,I9,T.keep _ _ _ st7 (λb hb o e=>hs8.extBut b o (BK (ltfp b hb)) e),fr7,U,?_,rv.append (.cons r7 .nil),w7⟩;simpa using hp8
 exact codeAny_compStart_list (loop _ rfl) (T.self X.A 0 _ _ _ st' (loop _ rfl))
def V4{elt iter:Expr}{ts:List Expr}{gF:Fam TG}{ttF:Fam TT}{teF:Fam TE}{E:Value->Shared->Prop}(O:Ep X own cap scope cl)(hc:X.calm=true)(hgF:∀C s H fp pn,PG (Bh X (own++cap.map (·.1)) scope cl C s H fp pn) tg (gF C s H fp pn))(htF:∀C s H fp pn,PTs (Bh X (own++cap.map (·.1)) scope cl C s H fp pn) ts (ttF C s H fp pn))(heF:∀C s H fp pn,PE (Bh X (own++cap.map (·.1)) scope cl C s H fp pn) elt (teF C s H fp pn))(hts:ts.length<=1)(I2:Inv X pins Y H s)(T:Turn X.prog X.w X.K tg J fp it tn)(st2:tn 0 s.heap)(f2:∀b∈fp,FpOk X pins H b){Q:VK}(hw:∀C s H2 fp pn,Iw J (gF C s H2 fp pn) (ttF C s H2 fp pn) (teF C s H2 fp pn) own cap Y Q H){R:Value->Addr->Result->Shared->Prop} (fin:∀(D C:Addr) (H':Hp) (s':Shared) (m:Str->Option Value),s.heap.objs.size<=C->s'.heap.Ns C m->H' C=none ->
   (∀h',Heap.SameBut C s'.heap h'->Inv X pins Y H' { s' with heap:=h' })->Q (.ref D) H'->R (.ref D) C (.ok .next) s') :
  wX X (newList []) (λacc s₃=>wX X (newFunctionEnv scope X.env.globals cl [] X.env.qual none .none (some X.env)) (λcenv s₄=>
   codeAny (model X.prog X.w) X.A (.compStart (.ListComp elt [⟨tg,iter,ts,0⟩] scope pos) 0 (.ref it) acc { cenv with scope:=relabel scope X.env }) (R acc cenv.locals) s₄) E s₃) E s :=
 eG O hc hgF htF heF hts I2 T st2 f2 hw fin λ_ _ _ _ _ _ z=>z.elim
def m7{elt iter:Expr}{wi:TI}{ts:List Expr}{g:Fam TG}{tt:Fam TT}{te:Fam TE}(hi:PI X tg iter wi)(O:Ep X own cap scope cl)(hc:X.calm=true)(hg:∀C s H fp pn,PG (Bh X (own++cap.map (·.1)) scope cl C s H fp pn) tg (g C s H fp pn))(ht:∀C s H fp pn,PTs (Bh X (own++cap.map (·.1)) scope cl C s H fp pn) ts (tt C s H fp pn))(he:∀C s H fp pn,PE (Bh X (own++cap.map (·.1)) scope cl C s H fp pn) elt (te C s H fp pn))(hts:ts.length<=1)(hs:∀x,foldedSetIterable iter X.env x=pure x:=by intro _;rfl):PE X (.ListComp elt [⟨tg,iter,ts,0⟩] scope pos) (Et wi g tt te own cap):=by
 intro c s Y H Q I h;refine wpAny_comprehension_free rfl hs O.clos O.kind O.locals (thn (hi c s Y H _ I h) λA f a=>thn a λk e b=>?_);obtain ⟨z,fp,v,J,w,rfl,n,T,d,t,o⟩:=b;refine V4 O hc hg ht he hts n T d t o ?_;intro D C i y m B j u r q;exact ⟨m,j,λp l=>⟨.ref D,i,r p l,rfl,q⟩⟩
def Uc{elt iter:Expr}{wi:TI}{ts:List Expr}{g:Fam TG}{tt:Fam TT}{te:Fam TE}(hN:X.N.Nodup)(hix:X.N[i]?=some x)(hx:Loc X.env.scope x)(hi:PI X tg iter wi)(O:Ep X own cap scope cl)(hc:X.calm=true)(hg:∀C s H fp pn,PG (Bh X (own++cap.map (·.1)) scope cl C s H fp pn) tg (g C s H fp pn))(ht:∀C s H fp pn,PTs (Bh X (own++cap.map (·.1)) scope cl C s H fp pn) ts (tt C s H fp pn))(he:∀C s H fp pn,PE (Bh X (own++cap.map (·.1)) scope cl C s H fp pn) elt (te C s H fp pn))(hts:ts.length<=1)(hsw:swapsWith (.ListComp elt [⟨tg,iter,ts,0⟩] scope pos) (some (.Name x pos')) spos.line X.env=pure true:=by rfl)(hs:∀x,foldedSetIterable iter X.env x=pure x:=by intro _;rfl)(hf:X.fn x=true\/X.env.scope.names.lookup x=some .local:=by first | exact .inl rfl | exact .inr rfl | assumption):PS X (.Assign [.Name x pos'] (.ListComp elt [⟨tg,iter,ts,0⟩] scope pos) spos) (tAsg (Et wi g tt te own cap) (Ci i)):=by
 intro a s Y H D I h;rw [exec_Assign_Name_used _ _ _ _ hsw];refine Ac (Js (Ac ?_))
 refine Ac (CP (wpAny_comprehension_free rfl hs O.clos O.kind O.locals
  (thn (hi a s Y H _ I h) λxv K f=>thn f λitv G j=>?_)) (λ_ w U=>Ad (Ad U)) λ_ _ e=>e)
 obtain ⟨it,fp,tn,J,H2,rfl,d,T,B,f2,V⟩:=j;refine V4 O hc hg ht he hts d T B f2 V ?_;intro A C F w m k R L W q;have P:=W w.heap (Heap.SameBut.refl ..);obtain ⟨n,es,ep,ho,M,hk⟩:=id R;have l:=FN (Bu d.lt k);have E:=d.nofs k;have I4:Inv X (a++[(C,n)]) Y F w:=P.pins_of λp t=>by
  rcases HH.mp t with z | z
  .exact P.pin p (DQ _ z)
  .have z':p=(C,n):=by simpa using z
   subst z';exact ⟨ho,L,l,E,λv e=>by rw [M] at e;cases e⟩
 refine wpAny_assign_Name (Nh I4 hN hix hx (v:=.ref A) rfl (λs5 Q=>?_) hf);have r:=(Q.pin (C,n) (DQ _ (DQ _ (by simp)))).1;refine ⟨m,⟨n,es,ep,r,M,hk⟩,λh' S=>⟨_,F,?_,q⟩⟩;refine (Q.unpinned).turned (λb o Z e=>S.extBut b o Z e) L l (.inr (CK d.sz k)) (λy c e=>?_) (λp t=>?_)
 .obtain ⟨v,o,u,_⟩:=d.cell y c e;exact BK (Bu (Aq u) k)
 .exact BK (Bu (Aq (d.pin p t).1) k)
end
def Qf(scope out:Scope):List (Str×NameKind):=scope.names.map λ(n,k)=>if (k==.free&&out.kind==.function&&out.names.lookup n==some .cell) then (n,.cell) else (n,k)
def YK(scope out:Scope)(cn:List Str):Bool :=
 scope.names.all (λy=>y.2 != .cell||!cn.contains y.1)&&scope.names.all (λy=>y.2 != .local||scope.names.lookup y.1==some .local)&&(Qf scope out).all (λy=>!(y.2==.cell||y.2==.free)||cn.contains y.1||scope.names.contains (y.1,.cell))&&cn.all (λn=>out.names.lookup n==some .cell&&(Qf scope out).lookup n==some .cell)
def Mf(X:Cx):List (Str×Addr)->Prop
 | []=>True
 | p::r=>X.env.cells.lookup p.1=some p.2/\Mf X r
def Mf.mem:∀{cl:List (Str×Addr)} {p:Str×Addr},Mf X cl->p∈cl->X.env.cells.lookup p.1=some p.2
 | _::_,_,h,.head _=>h.1
 | _::_,_,h,.tail _ m=>Mf.mem h.2 m
def CapN(X:Cx):List (Str×Nat)->Prop
 | []=>True
 | p::r=>X.N[p.2]?=some p.1/\CapN X r
def Ri:∀{l:List (Str×α)},x∈l.map (·.1)->∃c,l.lookup x=some c
 | [],h=>by simp at h
 | (y,c)::r,h=>by
  by_cases e:x=y
  .subst e;exact ⟨c,by simp⟩
  .have b:x∈r.map (·.1):=by
    rcases Bf.mp h with ⟨p,hp,rfl⟩;rcases Aj.mp hp with rfl | hp
    .exact aB rfl e
    .exact Bf.mpr ⟨p,hp,rfl⟩
   obtain ⟨d,a⟩:=Ri b;exact ⟨d,by rw [JK,beq_false_of_ne e];exact a⟩
def Ep.of{cap:List (Str×Nat)}{scope:Scope}{cl:List (Str×Addr)}(clos:closureFor scope X.env=pure cl)(kind:scope.kind=.function)(chk:YK scope X.env.scope (cap.map (·.1))=true)(names:cl.map (·.1)=cap.map (·.1))(sub:Mf X cl)(capn:CapN X cap):Ep X own cap scope cl:=by
 unfold YK at chk;simp only [Iz,List.all_eq_true] at chk;obtain ⟨⟨⟨u,w⟩,C⟩,D⟩:=chk;have i:∀x c,cl.lookup x=some c->X.env.cells.lookup x=some c:=λx c e=>sub.mem (EY e);have g:∀l,(∀p∈l,p.1∈cap.map (·.1))->CapN X l->J3 X (relabel scope X.env) cl l:=by
  intro l
  induction l with
  | nil=>exact λ_ _=>trivial
  | cons p r ih=>
   intro f t;have m:=f p BR;have j:=D p.1 m;have E:X.env.scope.names.lookup p.1=some .cell:=by simpa using j.1
   have B:(Qf scope X.env.scope).lookup p.1=some .cell:=by simpa using j.2
   obtain ⟨c,b⟩:=Ri (by rw [names];exact m);exact ⟨⟨t.1,E,B,c,b,i _ _ b⟩,ih (λq j=>f q (BP _ j)) t.2⟩
 refine ⟨clos,kind,λx c f y s o=>?_,λy s e=>?_,λx c f=>sub.mem f,λk x v=>?_,g cap (λp m=>Bf.mpr ⟨p,m,rfl⟩) capn⟩
 .have:=u y s;rw [o] at this;rintro rfl;have b:y.1∈cap.map (·.1):=by rw [<-names];exact Bf.mpr ⟨_,f,rfl⟩
  simp at this;simp at b;obtain ⟨a,A⟩:=b;exact this a A
 .have:=w y s;rw [e] at this;simpa using this
 .have h:∀n,(Qf scope X.env.scope).lookup x=some n->(n=.cell\/n=.free)->∃c,(PySem.cellsFrom k scope.names cl).lookup x=some c:=by
   intro n e o;have:=C _ (EY e);refine Option.isSome_iff_exists.mp (Rf scope.names k cl ?_);have d:x∈cap.map (·.1)\/(x,NameKind.cell)∈scope.names:=by
    rcases o with rfl | rfl
    .simpa using this
    .simpa using this
   rcases d with z | z
   .obtain ⟨c,b⟩:=Ri (by rw [names];exact z);exact .inl (by rw [b];rfl)
   .exact .inr z
  rcases v with e | e
  .exact h _ e (.inl rfl)
  .exact h _ e (.inr rfl)
end L2
namespace L2
open PySem.Calls
structure Sk(o o':Obj):Prop where
 d:o'.dict=o.dict
 f:∀vs,o.data=.fields vs->∃vs':Array Value,o'.data=.fields vs'/\vs'[2]?=vs[2]?
def Sk.refl(o):Sk o o:=⟨rfl,λa e=>⟨a,e,rfl⟩⟩
def Sk.trans(x:Sk a b)(y:Sk b c):Sk a c:=⟨y.d.trans x.d,λh e=>by
 obtain ⟨l,m,g⟩:=x.f h e;obtain ⟨k,j,i⟩:=y.f l m
 exact ⟨k,j,i.trans g⟩⟩
def KD(h h':Heap):Prop:=∀(b:Nat) (o:Obj),h.objs[b]?=some o->∃a:Obj,h'.objs[b]?=some a/\Sk o a
def KD.refl(h:Heap):KD h h:=λ_ o e=>⟨o,e,.refl o⟩
def KD.trans(x:KD a b)(y:KD b c):KD a c:=λk o e=>by
 obtain ⟨i,j,d⟩:=x k o e;obtain ⟨h,g,f⟩:=y k i j;exact ⟨h,g,d.trans f⟩
def KD.push(h:Heap)(o:Obj):KD h (h.push o):=λb u e=>by
 obtain ⟨a,l⟩:=h;refine ⟨u,?_,.refl u⟩;show (a.push o)[b]?=some u;have e:a[b]?=some u:=e;have c:=(JC.mp e).1;rw [Array.getElem?_push,iN (by omega)];exact e
def KD.update(h:Heap)(a:Addr)(hf:∀o,Sk o (f o)):KD h (h.update a f):=λb u e=>by
 obtain ⟨c,l⟩:=h;have e:=e;show ∃d,(c.modify a f)[b]?=some d/\_;rw [Array.getElem?_modify];by_cases q:a=b
 .rw [iP q,e];exact ⟨f u,rfl,hf u⟩
 .rw [iN q];exact ⟨u,e,.refl u⟩
def WN{h:Heap}(e:h.get? a=some o):h.objs[a]?=some o:=by
 unfold Heap.get? at e;split at e
 .cases e
 .exact e
def KD.at{h h':Heap}(x:KD h h')(e:h.get? a=some o)(e':h'.get? a=some o'):Sk o o':=by
 obtain ⟨d,b,c⟩:=x a o (WN e);rw [WN e'] at b;cases b;exact c
def Dk:Sem α->Prop
 | .pure _=>True
 | .raise _=>True
 | .unsupported _=>True
 | .finish _=>True
 | .rule _ k=>Dk (k ())
 | .at _ k=>Dk (k ())
 | .load _ _ k=>∀o,Dk (k o)
 | .update _ _ f k=>(∀o,Sk o (f o))/\Dk (k ())
 | .loadIfAlive _ k=>∀o,Dk (k o)
 | .point _ k=>Dk (k ())
 | .alloc _ k=>∀a,Dk (k a)
 | .fresh k=>∀t,Dk (k t)
 | .ask k=>∀x,Dk (k x)
 | .choose _ _ k=>∀n,Dk (k n)
 | .handled _ k=>∀x,Dk (k x)
 | .stack k=>∀l,Dk (k l)
 | .thread k=>∀n,Dk (k n)
 | .register _ _=>True
 | _=>False
def Zwz:∀(t:Sem α) {Q:α->Pos->Shared->Prop} {E:Value->Pos->Shared->Prop} {p:Pos} {s:Shared},Dk t->Sem.wp M Γ t Q E p s ->
  Sem.wp M Γ t (λa p' s'=>Q a p' s'/\KD s.heap s'.heap) (λe p' s'=>E e p' s'/\KD s.heap s'.heap) p s:=by
 intro t
 induction t with
 | pure a=>intro Q E p s _ h;exact ⟨h,.refl _⟩
 | raise e=>intro Q E p s _ h;exact ⟨h,.refl _⟩
 | unsupported w=>intro Q E p s _ h;exact h
 | finish e=>intro Q E p s _ h;exact h
 | rule t k ih=>intro Q E p s d h;exact ih () d h
 | «at» q k ih=>intro Q E p s d h;exact ih () d h
 | load a q k ih=>intro Q E p s d h;obtain ⟨o,e,h⟩:=h;exact ⟨o,e,ih o (d o) h⟩
 | update a q f k ih=>
  intro Q E p s d h;refine ⟨h.1,?_⟩;have z:=ih () d.2 h.2;exact Sem.wp_mono _ _ _ (λ_ _ _ x=>⟨x.1,(KD.update _ _ d.1).trans x.2⟩) (λ_ _ _ x=>⟨x.1,(KD.update _ _ d.1).trans x.2⟩) _ _ z
 | alloc o k ih=>
  intro Q E p s d h;exact Sem.wp_mono _ _ _ (λ_ _ _ x=>⟨x.1,(KD.push _ _).trans x.2⟩) (λ_ _ _ x=>⟨x.1,(KD.push _ _).trans x.2⟩) _ _ (ih _ (d _) h)
 | loadIfAlive a k ih=>intro Q E p s d h;exact ih _ (d _) h
 | point l k ih=>intro Q E p s d h;exact ih () d h
 | register a k ih=>intro Q E p s d h;exact h
 | fresh k ih=>intro Q E p s d h;exact ih _ (d _) h
 | ask k ih=>intro Q E p s d h;exact ih _ (d _) h
 | choose src n k ih=>intro Q E p s d h;exact ⟨h.1,ih _ (d _) h.2⟩
 | handled o k ih=>intro Q E p s d h;exact ih _ (d _) h
 | stack k ih=>intro Q E p s d h;exact ih _ (d _) h
 | thread k ih=>intro Q E p s d h;exact ih _ (d _) h
 | _=>intro Q E p s d h;exact d.elim
def QX(d:Dk t)(h:wpAny M A t Q E s):wpAny M A t (λa s'=>Q a s'/\KD s.heap s'.heap) (λe s'=>E e s'/\KD s.heap s'.heap) s :=
 λΓ p b=>Zwz t d (h Γ p b)
def Dk.bind:∀{t:Sem α} {k:α->Sem β},Dk t->(∀a,Dk (k a))->Dk (t >>= k):=by
 intro t
 induction t with
 | pure a=>intro k _ h;exact h a
 | raise e=>intro k _ h;trivial
 | unsupported w=>intro k _ h;trivial
 | finish e=>intro k _ h;trivial
 | rule t k ih=>intro k d h;exact ih () d h
 | «at» q k ih=>intro k d h;exact ih () d h
 | load a q k ih=>intro k d h o;exact ih o (d o) h
 | update a q f k ih=>intro k d h;exact ⟨d.1,ih () d.2 h⟩
 | alloc o k ih=>intro k d h a;exact ih a (d a) h
 | loadIfAlive a k ih=>intro k d h o;exact ih o (d o) h
 | point l k ih=>intro k d h;exact ih () d h
 | register a k ih=>intro k d h;trivial
 | fresh k ih=>intro k d h o;exact ih o (d o) h
 | ask k ih=>intro k d h o;exact ih o (d o) h
 | choose src n k ih=>intro k d h o;exact ih o (d o) h
 | handled o k ih=>intro k d h o;exact ih o (d o) h
 | stack k ih=>intro k d h o;exact ih o (d o) h
 | thread k ih=>intro k d h o;exact ih o (d o) h
 | _=>intro k d h;exact d.elim
def Tg(a):Dk (load a):=λ_=>trivial
def Ur:Dk stack:=λ_=>trivial
def dg(a)(hf:∀o,Sk o (f o)):Dk (update a f):=⟨hf,trivial⟩
def ZnX(o):Dk (alloc o):=λ_=>trivial
def qd(v):Dk (fieldsOf v):=by
 unfold fieldsOf;split
 .refine Dk.bind (Tg _) λo=>?_;split
  .trivial
  .trivial
 .trivial
def Ox(v)(i):Dk (field v i):=by
 unfold field;refine Dk.bind (qd v) λo=>?_;split
 .trivial
 .trivial
def XD(hi:i≠2)(v)(o):Sk o (Obj.mapFields (·.setIfInBounds i v) o):=by
 obtain ⟨c,d,a,f⟩:=o;refine ⟨by cases a<;>rfl,λb e=>?_⟩;have e:=e;subst e;exact ⟨b.setIfInBounds i v,rfl,by rw [Array.getElem?_setIfInBounds_ne hi]⟩
def vZ(a)(hi:i≠2)(v):Dk (updateField a i v):=by
 unfold updateField;refine Dk.bind (Tg _) λo=>?_;split
 .split
  .exact dg _ (XD hi _)
  .trivial
 .trivial
def Rg(e)(hi:i≠2)(v):Dk (setField e i v):=by
 unfold setField;split
 .exact vZ _ hi _
 .trivial
def kW(e)(f):Dk (setFlight e f):=by
 unfold setFlight;refine Dk.bind (Ox _ _) λo=>?_;split
 .exact Rg _ (by decide) _
 .trivial
def Xp:∀l,Dk (readyFrames l)
 | []=>trivial
 | env::outer=>by
  unfold readyFrames;split
  .refine Dk.bind (Tg _) λo=>?_;split
   .trivial
   .refine Dk.bind ?_ λb=>Dk.bind ?_ λk=>Dk.bind (dg _ λo=>⟨rfl,λa e=>⟨a,e,rfl⟩⟩) λ_=>Xp outer
    .unfold behindIsImport;split
     .trivial
     .split
      .trivial
      .exact Dk.bind (Ox _ _) λ_=>trivial
    .unfold keptBack;split
     .split
      .trivial
      .unfold underTheClaimsCaller;exact Dk.bind (Dk.bind Ur λ_=>trivial) λ_=>trivial
     .trivial
  .trivial
def ZjX(env):Dk (PySem.frameOf env):=by
 unfold PySem.frameOf frameEnvs;refine Dk.bind (Dk.bind Ur λ_=>trivial) λl=>Dk.bind ?_ λo=>?_
 .unfold frameObject;split
  .trivial
  .exact Dk.bind (Xp _) λ_=>trivial
 .split
  .trivial
  .trivial
def yw(a b c d e)(l):Dk (EntryCells.newEntry a b c d e l):=by
 unfold EntryCells.newEntry newFields;generalize ([a,b,c,d,e]++_)=vs;unfold newObj newObjAsIs;have f:Dk (alloc { cls:=Value.type "traceback",data:=Data.fields vs.toArray } >>= λa=>(pure (Value.ref a):Sem Value)):=Dk.bind (ZnX _) λ_=>trivial;by_cases h:vs.toArray.size>sizeLine+2
 .show Dk (if vs.toArray.size>sizeLine+2 then _ else _)
  rw [iP h];trivial
 .show Dk (if vs.toArray.size>sizeLine+2 then _ else _)
  rw [iN h];exact f
def aD(e)(env):Dk (noteFrame e env):=by
 unfold noteFrame;split
 .refine Dk.bind (Ox _ _) λo=>?_;have a:Dk (do setField e 1 (<-EntryCells.newEntry o (<-PySem.frameOf env) .none (rawInt ‹Addr›) .none (<-entryPlaceOf ‹Addr› (o != .none)))):=by
   refine Dk.bind (ZjX _) λ_=>Dk.bind ?_ λ_=>Dk.bind (yw _ _ _ _ _ _) λ_=>Rg _ (by decide) _;unfold entryPlaceOf;refine Dk.bind Ur λ_=>?_;split
   .trivial
   .trivial
  split
  .refine Dk.bind (Ox _ _) λ_=>?_;split
   .trivial
   .exact Dk.bind (Rg _ (by decide) _) λ_=>a
  .exact a
 .trivial
def R4(env)(e):Dk (leaving env e):=Dk.bind (aD _ _) λ_=>kW _ _
end L2
namespace L2
def Dy.there(x:Dy P w H h a o):∃ob,h.get? a=some ob:=by
 cases o with
 | lst xs=>obtain ⟨_,_,_,_,e⟩:=x;exact ⟨_,e⟩
 | tup xs=>obtain ⟨_,_,_,o,e,_⟩:=x;exact ⟨_,e⟩
 | ins C dx fs=>obtain ⟨_,_,_,e,_⟩:=x;exact ⟨_,e⟩
 | own y=>obtain ⟨_,e⟩:=x;exact ⟨_,e⟩
 | xd fs=>obtain ⟨_,⟨_,_,_,e,_⟩,_⟩:=x;exact ⟨_,e⟩
 | frz ob u=>obtain ⟨e,_⟩:=x;exact ⟨_,e⟩
 | tbl ps=>exact ⟨_,(x)⟩
 | ext φ=>obtain ⟨_,⟨_,e⟩,_⟩:=x;exact ⟨_,e⟩
def HOk.free(x:HOk P w H h)(e:h.get? a=none):H a=none:=by
 cases q:H a with
 | none=>rfl
 | some o=>
  obtain ⟨b,z⟩:=(x a o q).there;rw [e] at z;cases z
structure Fly(P:Program)(w:World)(l:List Env)(H H':Hp)(s s':Shared)(x:Addr)(cls:Value):Prop where
 os:s'.os=s.os
 bare:AllBare s'.gens
 un:Un (frs l) [] H H' s.heap s'.heap
 hok:HOk P w H' s'.heap
 frf:∀b∈frs l,H' b=none
 free:H' x=none
 ex:∃(B:Heap) (a0:Value),Heap.FlyingW B l x cls a0 s'.heap/\∀b o,s'.heap.get? b=some o->(H' b≠none\/∃o',s.heap.get? b=some o')->b∉frs l->B.get? b=some o
def Zv{s':Shared}{x:Addr}{B:Heap}(os:s'.os=s.os)(bare:AllBare s'.gens)(un:Un (frs l) [] H H' s.heap s'.heap)(hok:HOk P w H' s'.heap)(frf:∀b∈frs l,H' b=none)(nf:∀b∈frs l,∃o,s'.heap.get? b=some o/\∀vs,o.data≠.fields vs)(cov:∀b o,s'.heap.get? b=some o->(H' b≠none\/∃o',s.heap.get? b=some o')->b∉frs l->B.get? b=some o)(sub:∀b∈frs l',b∈frs l)(new:∀b∈frs l,b∉frs l'->s.heap.get? b=none)(fl:Heap.FlyingW B l' x cls a0 h')(sm:s'.heap.UpToSlots h')(free:H' x=none) :
  Fly P w l' H H' s { s' with heap:=h' } x cls:=by
 have d:=λb o e q hb=>fl.1 b o (cov b o e q hb);have f:∀{b:Addr} {o:Obj},s.heap.get? b=some o->b∉frs l'->b∉frs l:=λ{b o} e hb z=>by
  rw [new b z hb] at e;cases e
 refine ⟨os,bare,⟨λb o e n hb i=>?_,λb o e n hb i=>?_,un.free,λb o e i=>?_,un.tups,un.frzs,un.tbls⟩,λa o e=>?_,λb hb=>frf b (sub b hb),free,B,a0,fl,λb o e q hb=>?_⟩
 .exact d b o (un.keep b o e n (f e hb) i) (.inr ⟨o,e⟩) (f e hb)
 .obtain ⟨v,q⟩:=un.slot b o e n (sub b hb) i;obtain ⟨g,h,k⟩:=nf b (sub b hb);rw [q] at h;cases h;obtain ⟨j,m⟩:=sm b _ q k;exact ⟨j,m⟩
 .obtain ⟨o',q⟩:=un.there b o e i;by_cases hb:b∈frs l
  .obtain ⟨g,h,k⟩:=nf b hb;obtain ⟨j,m⟩:=sm b _ h k;exact ⟨_,m⟩
  .exact ⟨o',d b o' q (.inr ⟨o,e⟩) hb⟩
 .refine (hok a o e).stay (λb u hb q=>?_) (λ_ q=>q) λ_ _ q=>q;have r:H' b≠none:=by
   rcases hb with rfl | hb
   .rw [e];simp
   .rw [hb];simp
  exact d b u q (.inl r) λz=>r (frf b z)
 .have p:b∉frs l:=by
   intro z;rcases q with q | ⟨o',q⟩
   .exact q (frf b z)
   .exact f q hb z
  have ⟨g,h⟩ : ∃g,s'.heap.get? b=some g:=by
   rcases q with q | ⟨o',q⟩
   .cases z:H' b with
    | none=>exact aB z q
    | some u=>exact (hok b u z).there
   .exact un.there b o' q (by simp)
  have c:=cov b g h q p;have z:=fl.1 b g c;have t:=e;rw [t] at z;cases z;exact c
section
variable {H':Hp} {s':Shared} {x:Addr} {cls:Value}
def Inv.unStack(I:Inv X pins Y H s)(hex:X.ex=[])(hfs:∀b∈X.fs,b∈frs X.stack):Un (frs X.stack) [] X.H₀ H X.s₀.heap s.heap:=I.base.mono hfs (by rw [hex];exact λ_ z=>z)
def Inv.sub(I:Inv X pins Y H s):∀b∈X.fs,b∈frs X.stack:=λb a=>by
 rcases I.ok.stk with e | ⟨e,hf⟩
 .rw [e];exact a
 .rw [e];unfold frs;rw [Jd,hf];exact BP _ a
def Inv.flyOut(I:Inv X pins Y H s)(hex:X.ex=[])(F:Fly X.prog X.w X.stack H H' s s' x cls){B:Heap}(fl0:Heap.FlyingW B X.stack x cls a0 s'.heap)(cov:∀b o,s'.heap.get? b=some o->(H' b≠none\/∃o',s.heap.get? b=some o')->b∉frs X.stack->B.get? b=some o)(fl:Heap.FlyingW B X.outer x cls a0 h')(sm:s'.heap.UpToSlots h') :
  Fly X.prog X.w X.outer X.H₀ H' X.s₀ { s' with heap:=h' } x cls:=by
 refine Zv (F.os.trans I.os) F.bare ((I.unStack hex I.sub).trans F.un) F.hok F.frf (λb a=>(fl0.2.2.1.mem a).2) (λb o e q a=>cov b o e (q.imp id λ⟨o',z⟩=>I.base.there b o' z (by rw [hex];simp)) a) I.sub (λb c d=>?_) fl sm F.free;rcases Aj.mp (I.stkSub b c) with e | e
 .rw [e];exact Ij I.ok.above
 .exact aB e d
end
def CtxN(x:Addr)(h:Heap):Prop:=∃a b,h.get? x=some a/\a.data=.fields b/\b[2]?=some .none
def CtxN.on{x:Addr}(k:CtxN x h)(kd:KD h h')(ht:∃ox,h'.get? x=some ox):CtxN x h':=by
 obtain ⟨ox,i,j,d,g⟩:=k;obtain ⟨b,a⟩:=ht;obtain ⟨c,l,e⟩:=(kd.at j a).f i d;exact ⟨b,c,a,l,e.trans g⟩
def JV(p:Option Addr)(x:Addr)(H':Hp)(h0 h:Heap):Prop:=(p=none->CtxN x h)/\∀n:Nat,p=some n->∃(ox:Obj) (d:Addr) (m:Str->Option Value),h.get? x=some ox/\ox.dict=some d/\h.Ns1 d m/\(∀g,RelO (([("at",V.int ((n/2:Nat):Int))]:List (Str×V)).lookup g) (m g))/\H' d=none/\h0.get? d=none/\d≠x/\(n%2=0->∃a:Array Value,ox.data=.fields a/\a[2]?=some .none)
def JV.no{x:Addr}(k:CtxN x h):JV none x H' h0 h:=⟨λ_=>k,λ_ z=>by cases z⟩
def iC{h h':Heap}(x:h.UpToSlots h')(hn:h.Ns1 a m):h'.Ns1 a m:=by
 obtain ⟨o,f,d,e,b,r⟩:=hn;obtain ⟨g,c⟩:=x a o e λi q=>by rw [b] at q;cases q
 exact ⟨_,f,d,c,b,r⟩
def JV.on{x:Addr}(k:JV p x H' h0 h)(kd:KD h h')(sm:h.UpToSlots h')(ht:∃ox,h'.get? x=some ox)(h01:∀b o,h1.get? b=some o->∃o',h0.get? b=some o'):JV p x H' h1 h':=⟨λe=>(k.1 e).on kd ht,λn e=>by
 obtain ⟨ox,d,m,i,v,A,j,l,r,t,B⟩:=k.2 n e;obtain ⟨c,a⟩:=ht;refine ⟨c,d,m,a,(kd.at i a).d.trans v,iC sm A,j,l,?_,t,λz=>?_⟩
 rotate_left
 .obtain ⟨s,y,C⟩:=B z;obtain ⟨g,u,w⟩:=(kd.at i a).f s y;exact ⟨g,u,w.trans C⟩
 cases q:h1.get? d with
 | none=>rfl
 | some o=>
  obtain ⟨o',z⟩:=h01 d o q
  rw [r] at z;cases z⟩
def CXR(P:Program)(w:World):CXT:=λa H s E e d=>∃x b p c,e=.ref x/\Fly P w a H c s d x b/\JV p x c s.heap d.heap/\E b p c
section
variable {qual:Str} {scope:Scope} {f:Addr} {cd:Value} {outer:List Env} {s₀:Shared} {H₀:Hp} {E:XK}
def CT:Dr (CXR P w) (cxOf (CXR P w) P w K mg base N qual scope f cd A outer s₀ H₀ E) E:=by
 intro k Y H s e j I h;obtain ⟨x,d,p,n,rfl,F,u,q⟩:=h;obtain ⟨B,t,l,i⟩:=F.ex;refine CP (QX (R4 _ _) (wpAny_leaves_onW (Q:=λ_ m=>∃c,m={ j with heap:=c }/\Heap.FlyingW B outer x d t c/\j.heap.UpToSlots c) I.ok.frames rfl l λc a g=>⟨c,rfl,a,g⟩)) (λ_ m z=>?_) λ_ _ z=>z.1
 obtain ⟨⟨c,rfl,a,g⟩,r⟩:=z;exact ⟨x,d,p,n,rfl,I.flyOut rfl F l i a g,u.on r g (let ⟨o,e,_⟩:=a.there;⟨o,e⟩) (λb o e=>I.base.there b o e (λz=>nomatch z)),q⟩
end
abbrev Lq:List Value:=[.type "ValueError",.type "Exception",.type "BaseException",.type "object"]
def xr(X:K.In h₀)(m:mg x=some (.ref C))(q:W.excIn K C bmB newId=true):OwnCls x C bmB newId mg h₀:=by
 refine ⟨m,?_⟩;unfold W.excIn at q;split at q
 .rename_i dd cd sl ho;split at q
  .rename_i C' bm k0 k1 k2 k3 n k5 hm hs;simp only [Iz,beq_iff_eq,Bool.not_eq_true'] at q;obtain ⟨⟨⟨⟨⟨rfl,rfl⟩,a⟩,g⟩,b⟩,c⟩:=q;obtain ⟨k,o,r,h,j,i,t,d,p,f,s⟩:=cd;subst hm a;have e:sl=#[k0,k1,k2,k3,some (.builtin n),k5]:=by
    obtain ⟨l⟩:=sl;simp only at hs;rw [hs]
   subst e;exact ⟨bm,h,k,j,o,i,t,d,p,f,dd,k0,k1,k2,k3,k5,_,X _ _ ho,.of_isNs (W.isNs_of_in X b),W.nsMap_none_of_in X b c,W.tail_of_in X g⟩
  .cases q
 .cases q
section
def Inv.flyMade(I:Inv X pins Y H s)(hex:X.ex=[])(hst:X.stack=X.env::X.outer)(hfr:X.env.frame=some X.env.locals){x:Addr}{s1:Shared}(e1:s1={ s with heap:=h1,toks:=s1.toks })(hx:Heap.MadeExcOf s.heap h1 x cls args)(k:∀s2,Fly X.prog X.w X.outer X.H₀ H X.s₀ s2 x cls->CtxN x s2.heap->Q () s2):wX X (leaving X.env (.ref x)) Q E s1:=by
 have h:∀env∈X.stack,∀b,env.frame=some b->b∈frs X.stack:=λenv j b d=>LQ.mpr ⟨env,j,d⟩;have c:s1.heap=h1:=by rw [e1]
 refine CP (QX (R4 _ _) (wpAny_leaves_madeW (Q:=λ_ s2=>∃a t,s2={ s1 with heap:=a }/\Heap.FlyingW (W.hideAll s.heap (frs X.stack)) X.outer x cls (.ref t) a/\s1.heap.UpToSlots a) (by rw [<-hst];exact I.ok.frames) hfr (λb o q=>G4 _ q) (by rw [<-hst];exact W.funFrames_hide I.stack h) (by rw [c];exact hx) λa t f _ _ g=>⟨a,t,rfl,f,g⟩)) (λ_ s2 z=>?_) λ_ _ z=>z.1
 obtain ⟨⟨a,t,rfl,f,g⟩,i⟩:=z;refine k _ ?_ (CtxN.on (by rw [c];exact let ⟨t,e,_⟩:=hx.there;⟨_,_,e,rfl,rfl⟩) i (let ⟨o,e,_⟩:=f.there;⟨o,e⟩));have F:Fly X.prog X.w X.outer X.H₀ H X.s₀ { s with heap:=a } x cls:=by
  refine Zv I.os I.bare (I.unStack hex I.sub) I.hok I.stkFree (λb d=>(I.stack.mem d).2) (λb o e _ d=>Jy _ e d) I.sub (λb h1 a=>?_) f ((Heap.UpToSlots.of_keeps hx.keeps).trans (by rw [<-c];exact g)) (I.hok.free hx.new);rcases Aj.mp (I.stkSub b h1) with e | e
  .rw [e];exact Ij I.ok.above
  .exact aB e a
 refine ⟨?_,?_,F.un,F.hok,F.frf,F.free,F.ex⟩
 .rw [e1];exact I.os
 .rw [e1];exact I.bare
end
section
variable {qual:Str} {scope:Scope} {f:Addr} {cd:Value} {outer:List Env} {s₀:Shared} {H₀:Hp} {E:XK}
def bG(E:XK)(C:Addr)(te:TA):TS:=λ_ Y H=>te Y H λa b=>a.length<=1000/\E (.ref C) none b
def oJ(hg:Gl (cxOf (CXR P w) P w K mg base N qual scope f cd A outer s₀ H₀ E) x)(hm:mg x=some (.ref C))(hq:W.excIn K C Lq "ValueError.__new__"=true)(ha:PA (cxOf (CXR P w) P w K mg base N qual scope f cd A outer s₀ H₀ E) (e::es) t)(hd:ND x:=by decide)(he:starEach (e::es) (cxOf (CXR P w) P w K mg base N qual scope f cd A outer s₀ H₀ E).env=(false,eval e (cxOf (CXR P w) P w K mg base N qual scope f cd A outer s₀ H₀ E).env)::starEach es (cxOf (CXR P w) P w K mg base N qual scope f cd A outer s₀ H₀ E).env:=by rfl)(hpl:(backTo cpos (starEach es (cxOf (CXR P w) P w K mg base N qual scope f cd A outer s₀ H₀ E).env)).any (·.1)=false:=by rfl) :
  PS (cxOf (CXR P w) P w K mg base N qual scope f cd A outer s₀ H₀ E) (.Raise (some (.Call (.Name x np) (e::es) [] cpos)) none pos) (bG E C t):=by
 intro a s Y H D I h;obtain ⟨p,m,nm,q,bs,hdct,sn,sub,ab,col,dd,k0,k1,k2,k3,k5,v,k,n,c,T⟩:=(xr I.mod.kin hm hq).obj;refine wpAny_Raise_call_subU (nm:=nm) (q:=q) (N:=m) (bs:=bs) (hdct:=hdct) (sn:=sn) (sub:=sub) (ab:=ab) (col:=col) (dd:=dd) (k0:=k0) (k1:=k1) (k2:=k2) (k3:=k3) (k5:=k5)
  PySem.F.excBase_ValueError (by decide +kernel) PySem.F.excBase_ValueError (T.hasType PySem.F.excBase_ValueError.hasBase) (I.ok.hd rfl) (by rw [he];show (false||(backTo cpos (starEach es _)).any (·.1))=false;rw [hpl];rfl) c (QV I hg hm ⟨rfl,?_⟩ hd)
 have d:=ha cpos a s Y H _ I h;rw [he] at d ⊢;refine Calls.evalArgs_plain (CP d (λB G z=>?_) λ_ _ y=>y);obtain ⟨u,i,b,g,j,o⟩:=z;refine ⟨rfl,by rw [<-g.length];exact JT (ZmO j),b.bk _ _ k,n.keeps b.bk,T.keeps b.bk,λh' ex hx=>?_⟩;exact b.flyMade rfl rfl rfl rfl hx λr F l=>⟨ex,.ref C,none,i,rfl,F,.no l,o⟩
end
def ExcAt(a:Addr)(C:Value)(h:Heap):Prop:=∃b,h.get? a=some b/\b.cls=C
def exO(a:Addr)(C:Value):HO:=.ext (ExcAt a C)
end L2
namespace L2
open PySem.Calls
section
open PySem.Builtin PySem.Builtin.ObjectAttr PySem.Builtin.Getset_descriptor PySem.W
variable{prog:Program} {E:Value->Shared->Prop} {x D:Addr} {name:Str} {M:Model} {h:Heap}
end
def wH(a:Addr)(C:Value)(d:Addr)(h:Heap):Prop:=∃b,h.get? a=some b/\b.cls=C/\b.dict=some d/\∃c,b.data=.fields c
def exC(a:Addr)(C:Value)(d:Addr):HO:=.ext (wH a C d)
end L2
namespace L2
def sV(l)(items)(n)(sl)(b)(items2)(n2)(sl2)(hc0:items.size+items2.size<=sizeLine) :
  Meets (Builtin.«list.__add__» ⟨[.ref l,.ref b],[]⟩) (λ_ R s=>s.heap.get? l=some { cls:=.type "list",dict:=none,data:=.seq items n,slots:=sl }/\s.heap.get? b=some { cls:=.type "list",dict:=none,data:=.seq items2 n2,slots:=sl2 }/\R (.ok (.ret (Value.ref s.heap.objs.size))) { s with heap:=s.heap.push { cls:=Value.type "list",data:=Data.seq (items++items2) },toks:=s.toks }) :=
 .of_wp λa w A R s h=>by obtain ⟨f,g,d,k,j⟩:=s;obtain ⟨c,e,h⟩:=h;have q:=AutoSeq1.idx_int;have o:=AutoSeq1.sub_tuple_tuple;have i:=AutoSeq1.sub_list_list;have p:=AutoSeq1.sub_tuple_list;have m:=AutoSeq1.sub_list_tuple;wp_walk using AutoSeq1.wpAny_loadPart' c,AutoSeq1.wpAny_loadPart' e;exact ⟨_,rfl,h⟩
section
def mz(I:Inv X pins Y H s)(hH:SqL X.K H l xs)(hB:SqL X.K H b zs)(hz:xs.length+zs.length<=sizeLine)(q:∀p,H p=none->Q (.ref p) (upd H p (.lst (xs++zs)))) :
  wX X (binaryOp .Add (.ref l) (.ref b)) (EP X pins Y Q) X.xe s:=by
 obtain ⟨c,r,⟨⟨x,C,E,f⟩,n,e,i,j,m⟩,z⟩:=I.list hH;obtain ⟨a,h,⟨⟨y,D,B,d⟩,v,k,g,t,o⟩,G⟩:=I.list hB;simp only at i j m g t o;subst i j m g t o;refine concat_meets ⟨_,e,rfl⟩ ⟨_,k,rfl⟩ noFill_list_add seq_list_add F.slot_list_add F.entry_list_add (F.args_list_add_2 _ _) (sV l c.toArray n f b a.toArray v d (by rw [Bg,Bg,<-r.length,<-h.length];exact hz)) ⟨e,k,?_⟩;have u:c.toArray++a.toArray=(c++a).toArray:=by simp
 rw [u];exact ⟨.ref _,_,I.lnew (r.append h) (by rw [Bo];exact hz),rfl,q _ I.fresh⟩
def pN(I:Inv X pins Y H s)(ha:SqT X.K H a xs)(hb:SqT X.K H b ys)(hz:xs.length+ys.length<=sizeLine)(q0:xs=[]->Q (.ref b) H)(q1:xs≠[]->ys=[]->Q (.ref a) H)(q2:xs≠[]->ys≠[]->∀p,H p=none->Q (.ref p) (upd H p (.tup (xs++ys)))) :
  wX X (binaryOp .Add (.ref a) (.ref b)) (EP X pins Y Q) X.xe s:=by
 by_cases hx:xs=[]
 .obtain ⟨B,v,x,_⟩:=I.tuple ha;obtain ⟨d,C,t,_⟩:=I.tuple hb;have q:=v.nil_iff.mpr hx;subst q;obtain ⟨⟨r,u,k,y⟩,o,j,n,l⟩:=id x;obtain ⟨⟨m,i,h,g⟩,e,c,z,f⟩:=id t;simp only at j l c f;subst j l c f;exact concat_meets ⟨_,o,rfl⟩ ⟨_,e,rfl⟩ noFill_tuple_add seq_tuple_add PySem.F.slot_tuple_add PySem.F.entry_tuple_add (PySem.F.args_tuple_add_2 _ _)
   (tuple_addW0 a b ([]:List Value).toArray d.toArray n z u i y g rfl) ⟨o,e,⟨.ref b,H,I,rfl,q0 hx⟩⟩
 .exact m5 pins s Y H (.ref a) (.ref b) _ _ Q I rfl rfl ⟨a,b,xs,ys,rfl,rfl,ha,hb,hx,hz,q1 hx,q2 hx⟩
end
end L2
namespace HT
section
variable{prog:Program} {E:Value->Shared->Prop}
def wN{t sl:Addr}{items:Array Value}{vl vu:Value}{lo hi:Option Int}{Q:Value->Shared->Prop}(ht:IsTup s.heap t items)(hs:s.heap.IsSliceOf sl vl vu .none)(pl:IsPart vl lo)(pu:IsPart vu hi)(hw:sIx items.size 0 lo=0/\sIx items.size items.size hi=items.size)(h:Q (.ref t) s):wpAny (model prog w) A (getItem (.ref t) (.ref sl)) Q E s:=by
 obtain ⟨f,d,b,e⟩:=id hs;have c:s.TypeIs (.ref sl) "slice":=⟨f,d,b⟩;unfold getItem
 try with_reducible refine Cz ?_
 first | refine Ac (Ad ?_) | skip
 refine Ac (wpAny_sequenceKey ht.typeIs (by decide) ?_)
 refine Ac (Hq ht.typeIs O1
  (Gz O1 ht.typeIs entry_tuple_getitem ?_ (args_tuple_getitem _ _)))
 show wpAny _ _ (Builtin.Tuple.tupleItemsOf (.ref t) >>= _) _ _ s;refine Ac (tupleItemsOf_ ht ?_);refine Ac (Kh c ?_);rw [iP (by decide)];refine Ac (Xl hs pl pu ?_);have a:(((sIx items.size 0 lo:Nat):Int)==0&&(1:Int)==1&&(sIx items.size items.size hi - sIx items.size 0 lo)==items.size)=true:=by
  rw [hw.1,hw.2];simp
 show wpAny _ _ (if (((sIx items.size 0 lo:Nat):Int)==0&&(1:Int)==1&&(sIx items.size items.size hi - sIx items.size 0 lo)==items.size)=true then _ else _) _ _ s
 rw [iP a]
 first
  | exact Ac (Ac (Kh ht.typeIs (Ad (by rw [iP (by decide)];exact Ac (G6 (Ad ⟨_,rfl,Ad h⟩))))))
  | (refine Ac (Ac (Kh ht.typeIs (Ad ?_)))
     rw [iP (by decide)]
     trace_state
     exact Ac (G6 (Ad ⟨_,rfl,Ad h⟩)))
end
end HT
namespace L2
section
def Inv.turnNew{fp:List Addr}{T:Addr}{o:HO}{h':Heap}{t':Nat}(I:Inv X pins Y H s)(k:∀b u,b∉fp->s.heap.get? b=some u->h'.get? b=some u)(hf:∀b∈fp,FpOk X pins H b)(hT:s.heap.objs.size<=T)(new:Dy X.prog X.w (upd H T o) h' T o) :
  Inv X pins Y (upd H T o) { s with heap:=h',toks:=t' }:=by
 have a:=I.hok.fresh hT;have f:∀b u,H b=some u->b∉fp:=λb u e z=>by rw [(hf b z).1] at e;cases e
 refine I.call ⟨λb u q _ _ d=>k b u d q,λb u q _ _ d=>⟨u.slots,k b u d q⟩,λb u q n _=>?_,λb u q d=>⟨u,k b u d q⟩,λb h q=>?_,λb u h q=>?_,λb p q=>?_⟩ (λb u e=>?_) I.bare (λb g=>?_)
 .rw [Ag (BK (Bu (Aq q) hT))];exact n
 .rw [Ag (Ay q a)];exact q
 .rw [Ag (Ay q a)];exact q
 .exact ⟨#[],by rw [Ag (Ay q a),q];simp⟩
 .by_cases g:b=T
  .subst g;rw [Ak] at e;cases e;exact new
  .rw [Ag g] at e;refine (I.hok b u e).stay (λc v hc q=>k c v ?_ q) (λc q=>by rw [Ag (Ay q a)];exact q) λc h q=>by rw [Ag (Ay q a)];exact q
   rcases hc with rfl | hc
   .exact f c u e
   .exact f c _ hc
 .obtain ⟨_,j,_,m,i,l⟩:=hf b g;exact ⟨m,j,i,l⟩
def Inv.turnedL{fp:List Addr}{h':Heap}{t':Nat}(I:Inv X pins Y H s)(k:∀b u,b∉fp->s.heap.get? b=some u->h'.get? b=some u)(hf:∀b∈fp,FpOk X pins H b):Inv X pins Y H { s with heap:=h',toks:=t' }:=by
 have d:∀b u,H b=some u->b∉fp:=λb u e z=>by rw [(hf b z).1] at e;cases e
 refine I.call ⟨λb u q _ _ a=>k b u a q,λb u q _ _ a=>⟨u.slots,k b u a q⟩,λb u q n _=>n,λb u q a=>⟨u,k b u a q⟩,λb f q=>q,λb u f q=>q,λb m q=>⟨#[],by rw [q];simp⟩⟩ (λb u e=>?_) I.bare (λb i=>?_)
 .refine (I.hok b u e).stay (λc v hc q=>k c v ?_ q) (λc q=>q) λc f q=>q;rcases hc with rfl | hc
  .exact d c u e
  .exact d c _ hc
 .obtain ⟨_,h,_,l,g,j⟩:=hf b i;exact ⟨l,h,g,j⟩
end
def Ite(K:W.Frag)(a:Addr):It :=
 ⟨λi H=>∃b x,SqL K H a b/\b[i]?=some x,λi H x c=>∃T p,H T=none/\x=.ref T/\c=upd H T (.tup [.int i,p])/\∀b,SqL K H a b->b[i]?=some p,λi H=>∃b,SqL K H a b/\b.length<=i⟩
def gJ{elts:List Expr}{x1:Nat}{a e it:Addr}(hei:e≠it):Turn P w K (.Tuple elts x1 pos) (Ite K a) [e,it] e (λi h=>(∃old,IsEnum h e it (i:Nat) old)/\h.IsListIter it a i) where
 mem:=by simp
 obj:=λi h f b hb=>by
  obtain ⟨⟨old,n⟩,o,ho,c,d⟩:=f;rcases Aj.mp hb with rfl | hb
  .exact ⟨_,n,λv z=>by cases z⟩
  .have z:b=it:=by simpa using hb
   subst z;exact ⟨o,ho,λv z=>by rw [d] at z;cases z⟩
 keep:=λi h Z f k=>⟨⟨f.1.choose,k e (by simp) _ f.1.choose_spec⟩,f.2.at λo q=>k it (by simp) o q⟩
 item:=by
  intro X D C L V i l s Y H E I A f R;subst D C L;obtain ⟨⟨old,n⟩,j⟩:=f;obtain ⟨xs,x,B,J⟩:=R;obtain ⟨O,G,p,hz⟩:=I.list B;obtain ⟨u,hu,ru⟩:=G.get J;refine wpAny_pyNext_enum_item n j p.isList (by simpa using hu) hei λh1 U y N hz1 T=>⟨_,rfl,?_⟩;refine wpAny_letOwnedTupleGo_enum U λh2 S F=>?_;have r:∀{c:Addr} {m:Obj},s.heap.get? c=some m->c≠s.heap.objs.size:=λq=>BK (Aq q);have W:=r n;have iT:it≠s.heap.objs.size:=by obtain ⟨_,q,_⟩:=id j;exact r q
  have g:=F;have hT:=I.hok.fresh (Al _);have I2:Inv X l Y (upd H s.heap.objs.size (.tup [.int i,x])) { s with heap:=h2,toks:=s.toks+1 }:=by
   refine I.turnNew (λb m hb q=>?_) A (Al _) ?_
   .have t:b≠e:=λz=>hb (by simp [z]);have Q:b≠it:=λz=>hb (by simp [z]);exact g.extBut b m t (T b m t Q q)
   .have M:(2:Nat)<=sizeLine:=by decide
    exact ⟨M,[.int i s.toks,u],.cons ⟨_,rfl⟩ (.cons ru .nil),⟨_,g.extBut _ _ (Ne.symm W) N,rfl,_,rfl⟩⟩
  refine ⟨.ref s.heap.objs.size,_,I2,rfl,⟨_,x,hT,rfl,rfl,λys hy=>by rw [I.list_inj hy B];exact J⟩,⟨⟨_,S⟩,y.extBut g.extBut (Ne.symm hei)⟩,λb hb=>?_⟩;have nb:b≠s.heap.objs.size:=by
   rcases Aj.mp hb with rfl | hb
   .exact W
   .have z:b=it:=by simpa using hb
    subst z;exact iT
  rw [Ag nb];exact (A b hb).1
 done:=by
  intro X D C L V i l s Y H E I A f R;subst D C L;obtain ⟨⟨old,n⟩,j⟩:=f;obtain ⟨xs,B,J⟩:=R;obtain ⟨O,G,p,hz⟩:=I.list B;have hl:=G.length;refine wpAny_pyNext_enum_end (I.ok.hd V) n j p.isList (by simp;omega) λZ eb=>⟨rfl,?_⟩;exact I.turnedL (λb m hb q=>eb b m (λz=>hb (by simp [z])) q) A
 self:=λ_ _ _ _ _ f h=>wpAny_pyIter_enum f.1.choose_spec h
def aN(K:W.Frag)(ta:TA):TI:=λY H R=>ta Y H λc b=>∃a,c=[.ref a]/\(∃d,SqL K b a d)/\R (Ite K a) b
def z6(hg:Gl X "enumerate")(hm:X.mg "enumerate"=none)(ha:PA X [a] ta)(hs:starEach [a] X.env=[(false,eval a X.env)]:=by rfl):PI X (.Tuple elts x1 tpos) (.Call (.Name "enumerate" p) [a] [] pos) (aN X.K ta):=by
 intro d s Y H R I h;refine Call_ (GZ I hg hm uX (G3 (thn (ha pos d s Y H _ I h) λE c zq=>?_) hs rfl));obtain ⟨A,t,g,u,w⟩:=zq;obtain ⟨l,e,⟨B,o⟩,q⟩:=w;subst e;cases u with
 | cons r rr=>
  cases rr;cases r;obtain ⟨x,y,v,C⟩:=g.list o;refine call_enumerate_list v.isList λD j i m n=>?_;have k:=g.kept (t':=c.toks) n;refine wpAny_pyIter_enum j ?_;refine ⟨c.heap.objs.size+1,[c.heap.objs.size+1,c.heap.objs.size],_,Ite X.K l,t,rfl,k,gJ (Nat.succ_ne_self _),⟨⟨_,j⟩,i⟩,λb hb=>?_,q⟩;have f:c.heap.objs.size<=b:=by
   rcases Aj.mp hb with rfl | hb
   .exact Ja _
   .have z:b=c.heap.objs.size:=by simpa using hb
    exact Nat.le_of_eq z.symm
  exact g.fpOk f (g.hok.fresh f)
section
variable{prog:Program} {E:Value->Shared->Prop}
def WR(hne:t≠it):∀n i s Q,s.heap.IsListIter it t i->s.heap.IsList t items->i+n<=items.size ->
  (∀h',h'.IsListIter it t (i+n)->Heap.SameBut it s.heap h'->Q ((items.toList.drop i).take n) { s with heap:=h' })->wpAny (model prog w) A (draw (.ref it) n) Q E s
 | 0,i,s,Q,hit,_,_,hQ=>by
  exact Ad (by simpa using hQ s.heap hit (Heap.SameBut.refl ..))
 | n+1,i,s,Q,hit,ht,hle,hQ=>by
  have f:i<items.size:=by omega
  refine Ac (wpAny_pyNext_list_item hit ht (x:=items[i]) (by simp [f]) λg b a=>?_);refine Ac (Cz (WR hne n (i+1) _ _ b (ht.extBut a.extBut hne) (by omega) λd e c=>Ad ?_));have h:items.toList.drop i=items[i]::items.toList.drop (i+1):=by simp [JD,f]
  have:=hQ d (by rw [show i+(n+1)=i+1+n by omega];exact e) (a.trans c);rw [h,List.take_succ_cons] at this;exact this
def ZeJ(hh:A.handled=none)(ht:s.heap.IsList t items)(hQ:∀h',Heap.ExtBut s.heap.objs.size s.heap h'->Q items.toList { s with heap:=h' }):wpAny (model prog w) A (unpackItems (.ref t) items.size none) Q E s:=by
 have i:t≠s.heap.objs.size:=by obtain ⟨o,l,_⟩:=ht;exact BK (Aq l)
 unfold unpackItems;refine Ac ?_
 .unfold notIterableAtAll;refine Ac (wpAny_specialOf ht.typeIs F.slot_list_iter.lookup ?_);refine Ad ?_;simp only [Dg,CJ];refine Ac (Cz (Mp ht ?_));refine Ac (Cz (WR i items.size 0 _ _ ⟨_,Bp _ rfl,rfl,rfl⟩ (ht.push _) (by omega) λj c a=>?_));have h:List.take items.size (List.drop 0 items.toList)=items.toList:=by
   rw [List.drop_zero];exact Mg (by simp)
  rw [h];rw [iN (by simp)];have f:=(ht.push _).extBut a.extBut i;refine Ac (Cz (wpAny_pyNext_list_end hh c f (by simp) λg d=>?_));simp only [Option.isSome_none,Dg,CJ];refine Ad (hQ g λb o k e=>d b o k (a.extBut b o k (Ao _ e)))
def ji{x1}(hh:A.handled=none)(ht:s.heap.IsList t items)(hn:(assignEach elts env).length=items.size)(hstar:(assignEach elts env).findIdx? (·.1)=none)(h:∀h',Heap.ExtBut s.heap.objs.size s.heap h'->wpAny (model prog w) A (assignInOrder ((assignEach elts env).map (·.2)) items.toList) Q E { s with heap:=h' }) :
  wpAny (model prog w) A (assign (.Tuple elts x1 pos) env (.ref t)) Q E s:=by
 rw [assign_Tuple];refine Ac (Js ?_);unfold unpack;rw [hn,hstar];exact Ac (Cz (ZeJ hh ht h))
end
def ItK:Bool->Heap->Addr->Addr->Nat->Prop
 | false,h,a,l,i=>h.IsListIter a l i
 | true,h,a,l,i=>h.IsTupleIter a l i
def SqK:Bool->Heap->Addr->Array Value->Prop
 | false,h,a,xs=>h.IsList a xs
 | true,h,a,xs=>h.IsTuple a xs
def GJ(p:Bool)(l:Addr):Obj:={ cls:=.type (if p then "tuple_iterator" else "list_iterator"),data:=.fields #[.ref l,.int 0 0] }
def ItK.extBut(x:ItK p h a l i)(hs:Heap.ExtBut b h h')(hab:a≠b):ItK p h' a l i:=by
 cases p
 .exact Heap.IsListIter.extBut x hs hab
 .exact Heap.IsTupleIter.extBut x hs hab
def ItK.at(x:ItK p h a l i)(k:∀o,h.get? a=some o->h'.get? a=some o):ItK p h' a l i:=by
 cases p
 .obtain ⟨o,e,r⟩:=(show h.IsListIter a l i from x);exact ⟨o,k o e,r⟩
 .obtain ⟨o,e,r⟩:=(show h.IsTupleIter a l i from x);exact ⟨o,k o e,r⟩
def ItK.here(x:ItK p h a l i):∃o,h.get? a=some o:=by
 cases p
 .obtain ⟨o,e,_⟩:=(show h.IsListIter a l i from x);exact ⟨o,e⟩
 .obtain ⟨o,e,_⟩:=(show h.IsTupleIter a l i from x);exact ⟨o,e⟩
def ItK.flds(x:ItK p h a l i):∃o vs,h.get? a=some o/\o.data=.fields vs:=by
 cases p
 .obtain ⟨o,e,_,d⟩:=(show h.IsListIter a l i from x);exact ⟨o,_,e,d⟩
 .obtain ⟨o,e,_,d⟩:=(show h.IsTupleIter a l i from x);exact ⟨o,_,e,d⟩
def ItK.new(e:h.get? a=some (GJ p l)):ItK p h a l 0:=by
 cases p
 .exact ⟨_,e,rfl,rfl⟩
 .exact ⟨_,e,rfl,rfl⟩
def SqK.extBut{xs:Array Value}(x:SqK p h a xs)(hs:Heap.ExtBut b h h')(hab:a≠b):SqK p h' a xs:=by
 cases p
 .exact Heap.IsList.extBut x hs hab
 .exact Heap.IsTuple.extBut x hs hab
def SqK.push{xs:Array Value}(x:SqK p h a xs)(o):SqK p (h.push o) a xs:=by
 cases p
 .exact Heap.IsList.push x o
 .exact Heap.IsTuple.push x o
section
variable{prog:Program} {E:Value->Shared->Prop}
def Mw{xs:Array Value}(x:SqK p s.heap l xs)(h:Q (.ref s.heap.objs.size) { s with heap:=s.heap.push (GJ p l) }):wpAny (model prog w) A (pyIter (.ref l)) Q E s:=by
 cases p
 .exact Mp x h
 .exact wpAny_pyIter_tuple x h
def qF{zs}{x:Value}(ki:s.heap.IsTupleIter ia la i)(kl:s.heap.IsTuple la zs)(kx:zs[i]?=some x)(kQ:∀h',h'.IsTupleIter ia la (i+1)->Heap.SameBut ia s.heap h'->Q x { s with heap:=h' }) :
  wpAny (model prog w) A (Builtin.SmallTypes.nextOf (.ref ia)) Q E s:=by
 obtain ⟨h,b,e,a⟩:=id ki;obtain ⟨g,c,_,f,d⟩:=kl;unfold Builtin.SmallTypes.nextOf
 refine Ac (Hq (name:=Str.ofString "__next__") ki.typeIs RN
  (Gz RN ki.typeIs F.entry_tuple_iterator_next ?_ (F.args_tuple_iterator_next_1 _)))
 show wpAny _ _ (field (.ref ia) 0 >>= _) _ _ s;refine Ac (Bx b a (x:=.ref la) rfl ?_);show wpAny _ _ (if (Value.ref la==Value.none)=true then _ else _) _ _ s
 rw [iN (show ¬((Value.ref la==Value.none)=true) from Dp)];show wpAny _ _ (field (.ref ia) 1 >>= _) _ _ s;refine Ac (Bx b a (x:=.int i 0) rfl ?_);show wpAny _ _ (seqItems? (.ref la) >>= _) _ _ s;refine Ac (Dn c d ?_);simp only [HS,kx];refine Ac (Lx b a (by simp) (Ad ⟨x,rfl,Ad (kQ _ ?_ (Q5 ..))⟩))
 exact ⟨_,Ih _ b (Obj.isFreed_of_fields (Ou a _)),(Obj.cls_mapFields ..).trans e,by
  rw [Ou a];simp [rawInt]⟩
def qR{zs}(kh:A.handled=none)(ki:s.heap.IsTupleIter ia la i)(kl:s.heap.IsTuple la zs)(kx:zs[i]?=none)(kE:∀h' e,Heap.ExtBut ia s.heap h'->(∃ob,h'.get? e=some ob/\ob.cls=.type "StopIteration")->E (.ref e) { s with heap:=h' }) :
  wpAny (model prog w) A (Builtin.SmallTypes.nextOf (.ref ia)) Q E s:=by
 obtain ⟨ob,f,j,d⟩:=id ki;obtain ⟨h,b,_,g,c⟩:=kl;unfold Builtin.SmallTypes.nextOf
 refine Ac (Hq (name:=Str.ofString "__next__") ki.typeIs RN
  (Gz RN ki.typeIs F.entry_tuple_iterator_next ?_ (F.args_tuple_iterator_next_1 _)))
 show wpAny _ _ (field (.ref ia) 0 >>= _) _ _ s;refine Ac (Bx f d (x:=.ref la) rfl ?_);show wpAny _ _ (if (Value.ref la==Value.none)=true then _ else _) _ _ s
 rw [iN (show ¬((Value.ref la==Value.none)=true) from Dp)];show wpAny _ _ (field (.ref ia) 1 >>= _) _ _ s;refine Ac (Bx f d (x:=.int i 0) rfl ?_);show wpAny _ _ (seqItems? (.ref la) >>= _) _ _ s;refine Ac (Dn b c ?_);simp only [HS,kx];refine Ac (G6 (Ac (Lx f d (by simp) ?_)));show wpAny _ _ (newExc (.type "StopIteration") [] >>= _) _ _ _;refine Ac ?_;simp only [newExc,newTuple];refine Ac (Hx ?_ (by size_fits));refine Ac (m:=firstArgMember _ _) (wpAny_of_eq (a:=Value.none) (by first | rfl | (simp only [firstArgMember];rfl)) ?_)
 refine Hx ?_ (by size_fits);simp only [raiseNew];refine Ac (wpAny_handled ?_)
 first | rw [show A.in1.handled=none from kh] | rw [kh]
 refine Ac (Ad (wpAny_throw ?_));exact kE _ _ (((Q5 ..).extBut.push _).push _) ⟨_,Bp _ rfl,rfl⟩
def Ez{x:Value}(ki:ItK p s.heap ia la i)(kl:SqK p s.heap la zs)(kx:zs[i]?=some x)(kQ:∀h',ItK p h' ia la (i+1)->Heap.SameBut ia s.heap h'->Q x { s with heap:=h' }):wpAny (model prog w) A (Builtin.SmallTypes.nextOf (.ref ia)) Q E s:=by
 cases p
 .exact wpAny_nextOf_list_item ki kl kx kQ
 .exact qF ki kl kx kQ
def Hy(kh:A.handled=none)(ki:ItK p s.heap ia la i)(kl:SqK p s.heap la zs)(kx:zs[i]?=none)(kE:∀h' e,Heap.ExtBut ia s.heap h'->(∃o,h'.get? e=some o/\o.cls=.type "StopIteration")->E (.ref e) { s with heap:=h' }):wpAny (model prog w) A (Builtin.SmallTypes.nextOf (.ref ia)) Q E s:=by
 cases p
 .exact wpAny_nextOf_list_end kh ki kl kx kE
 .exact qR kh ki kl kx kE
def ZkM{p q:Bool}{z TI TO i1 i2 l1 l2:Addr}{k1 k2:Nat}{us vs:Array Value}{x y a b:Value}{Q:Value->Shared->Prop}(Z0:ZipApart z TI TO i1 i2 l1 l2)(kz:IsZip s.heap z TI TO .none)(kTI:IsPair s.heap TI (.ref i1) (.ref i2))(kTO:IsPair s.heap TO a b)(m1:ItK p s.heap i1 l1 k1)(m2:ItK q s.heap i2 l2 k2)(n1:SqK p s.heap l1 us)(n2:SqK q s.heap l2 vs)(kx:us[k1]?=some x)(ky:vs[k2]?=some y) (kQ:∀h',IsZip h' z TI TO (rawInt s.heap.objs.size)->IsPair h' TO x y->ItK p h' i1 l1 (k1+1)->ItK q h' i2 l2 (k2+1)->IsPair h' s.heap.objs.size x y->h'.objs.size=s.heap.objs.size+1 ->
   (∀c o,c≠z->c≠TO->c≠i1->c≠i2->s.heap.get? c=some o->h'.get? c=some o)->Q (.ref s.heap.objs.size) { s with heap:=h' }) :
  wpAny (model prog w) A (Builtin.«zip.__next__» ⟨[.ref z],[]⟩) (λfin s'=>∃v,fin=.done (.ret v)/\Q v s') E s:=by
 show wpAny _ _ (field (.ref z) 2 >>= _) _ _ _;refine Ac (Bx kz rfl (x:=.bool false) rfl ?_);show wpAny _ _ (field (.ref z) 3 >>= _) _ _ _;refine Ac (Bx kz rfl (x:=.ref TI) rfl ?_);refine Ac (Dn kTI rfl ?_);show wpAny _ _ (Builtin.SmallTypes.ownedTupleIsFree (.ref z) >>= _) _ _ _;refine Ac ?_;unfold Builtin.SmallTypes.ownedTupleIsFree;refine Ac (Bx kz rfl (x:=.none) rfl (Ad ?_));simp only [Dd];refine Ac (G6 ?_);refine Ac (Bx kz rfl (x:=.ref TO) rfl ?_);refine Ac (Er kz (by simp) λI B h=>?_);replace B:IsZip I z TI TO .ellipsis:=B;refine Ac ?_;simp only [List.zipIdx_cons,List.zipIdx_nil,JZ,J8];refine Ac (Ac (Gm ?_));show wpAny _ _ (Builtin.SmallTypes.nextOf (.ref i1) >>= _) _ _ _;refine Ac (Ez (m1.extBut h.extBut Z0.i1z) (n1.extBut h.extBut Z0.l1z) kx λM W i=>Ad ?_);have t:IsPair M TO a b:=i.extBut _ _ Z0.TOi1 (h.extBut _ _ Z0.TOz kTO);refine Ac (Dn t rfl ?_);refine Ac (wpAny_updateSeq_pair t λN k j=>?_);replace k:IsPair N TO x b:=k;refine Ac (HB (Ad ?_));refine Ac (Ac (Gm ?_));show wpAny _ _ (Builtin.SmallTypes.nextOf (.ref i2) >>= _) _ _ _
 refine Ac (Ez (((m2.extBut h.extBut Z0.i2z).extBut i.extBut Z0.i12.symm).extBut j.extBut Z0.TOi2.symm)
  (((n2.extBut h.extBut Z0.l2z).extBut i.extBut Z0.l2i1).extBut j.extBut Z0.l2TO) ky λK U l=>Ad ?_)
 have n:IsPair K TO x b:=l.extBut _ _ Z0.TOi2 k;refine Ac (Dn n rfl ?_);refine Ac (wpAny_updateSeq_pair n λd g m=>?_);replace g:IsPair d TO x y:=g;refine Ac (HB (Ad (Ad ?_)));refine Ac (Dn g rfl ?_);refine Ac (wpAny_newTuple ?_);have H:d.objs.size=s.heap.objs.size:=by rw [m.1,l.1,j.1,i.1,h.1]
 have P:IsZip d z TI TO .ellipsis:=m.extBut _ _ Z0.TOz.symm (l.extBut _ _ Z0.i2z.symm (j.extBut _ _ Z0.TOz.symm (i.extBut _ _ Z0.i1z.symm B)));have V:∀c o,c≠z->c≠TO->c≠i1->c≠i2->s.heap.get? c=some o->d.get? c=some o:=λc o u S X c4 e=>
  m.extBut _ _ S (l.extBut _ _ c4 (j.extBut _ _ S (i.extBut _ _ X (h.extBut _ _ u e))))
 have J:ItK p d i1 l1 (k1+1):=((W.extBut j.extBut Z0.TOi1.symm).extBut l.extBut Z0.i12).extBut m.extBut Z0.TOi1.symm;have R:ItK q d i2 l2 (k2+1):=U.extBut m.extBut Z0.TOi2.symm;have r:z<d.objs.size:=Aq P;have kTOlt:TO<d.objs.size:=Aq g;have Z:i1<d.objs.size:=by obtain ⟨_,e⟩:=J.here;exact Aq e
 have ki2lt:i2<d.objs.size:=by obtain ⟨_,e⟩:=R.here;exact Aq e
 show wpAny _ _ (Builtin.SmallTypes.ownedTupleHandOut (.ref z) (.ref d.objs.size) >>= _) _ _ _;refine Ac ?_;unfold Builtin.SmallTypes.ownedTupleHandOut;have Y:IsZip (d.push { cls:=.type "tuple",data:=.seq #[x,y] }) z TI TO .ellipsis:=Ao _ P;refine Ac (Er Y (by simp) λg7 F C=>?_);replace F:IsZip g7 z TI TO (rawInt d.objs.size):=F;refine Er F (by simp) λG f D=>?_;replace f:IsZip G z TI TO (rawInt d.objs.size):=f;have T:∀c o,c≠z->d.get? c=some o->G.get? c=some o:=λc o u e=>D.extBut _ _ u (C.extBut _ _ u (Ao _ e));have O:IsPair G d.objs.size x y:=D.extBut _ _ (FN r) (C.extBut _ _ (FN r) (Bp _ rfl));have L:G.objs.size=d.objs.size+1:=by rw [D.1,C.1,Ck]
 rw [H] at f O L;refine Ad ⟨_,rfl,?_⟩;show Q (.ref d.objs.size) _;rw [H];exact kQ G f (T _ _ Z0.TOz g) (J.at λo e=>T _ o Z0.i1z e) (R.at λo e=>T _ o Z0.i2z e) O L λc o u S X c4 e=>T c o u (V c o u S X c4 e)
def o9{p q:Bool}{z TI TO i1 i2 l1 l2:Addr}{k1 k2:Nat}{us vs:Array Value}{a b:Value}{Q:Fin->Shared->Prop}(kh:A.handled=none)(Z0:ZipApart z TI TO i1 i2 l1 l2)(kz:IsZip s.heap z TI TO .none)(kTI:IsPair s.heap TI (.ref i1) (.ref i2))(kTO:IsPair s.heap TO a b)(m1:ItK p s.heap i1 l1 k1)(m2:ItK q s.heap i2 l2 k2)(n1:SqK p s.heap l1 us)(n2:SqK q s.heap l2 vs)(kend:us[k1]?=none\/vs[k2]?=none)(kE:∀h' e,(∀c o,c≠z->c≠TO->c≠i1->c≠i2->s.heap.get? c=some o->h'.get? c=some o)->(∃o,h'.get? e=some o/\o.cls=.type "StopIteration")->E (.ref e) { s with heap:=h' }) :
  wpAny (model prog w) A (Builtin.«zip.__next__» ⟨[.ref z],[]⟩) Q E s:=by
 show wpAny _ _ (field (.ref z) 2 >>= _) _ _ _;refine Ac (Bx kz rfl (x:=.bool false) rfl ?_);show wpAny _ _ (field (.ref z) 3 >>= _) _ _ _;refine Ac (Bx kz rfl (x:=.ref TI) rfl ?_);refine Ac (Dn kTI rfl ?_);show wpAny _ _ (Builtin.SmallTypes.ownedTupleIsFree (.ref z) >>= _) _ _ _;refine Ac ?_;unfold Builtin.SmallTypes.ownedTupleIsFree;refine Ac (Bx kz rfl (x:=.none) rfl (Ad ?_));simp only [Dd];refine Ac (G6 ?_);refine Ac (Bx kz rfl (x:=.ref TO) rfl ?_);refine Ac (Er kz (by simp) λt l d=>?_);replace l:IsZip t z TI TO .ellipsis:=l;refine Ac ?_;simp only [List.zipIdx_cons,List.zipIdx_nil,JZ,J8];refine Ac (Ac (Gm ?_));show wpAny _ _ (Builtin.SmallTypes.nextOf (.ref i1) >>= _) _ _ _;cases kx:us[k1]? with
 | none=>
  refine Ac (Hy kh (m1.extBut d.extBut Z0.i1z) (n1.extBut d.extBut Z0.l1z) kx λj e f G=>?_);obtain ⟨H,g,k⟩:=G;have D:IsZip j z TI TO .ellipsis:=f _ _ Z0.i1z.symm l;have r:e≠z:=λx=>by subst x;rw [D] at g;cases g;simp at k
  refine Er D (by simp) λm _ i=>kE m e (λc o y _ I _ x=>i.extBut _ _ y (f _ _ I (d.extBut _ _ y x))) ⟨H,i.extBut _ _ r g,k⟩
 | some x=>
  have K:vs[k2]?=none:=by rcases kend with h | h;rw [kx] at h;cases h;exact h
  refine Ac (Ez (m1.extBut d.extBut Z0.i1z) (n1.extBut d.extBut Z0.l1z) kx λj N f=>Ad ?_);have n:IsPair j TO a b:=f.extBut _ _ Z0.TOi1 (d.extBut _ _ Z0.TOz kTO);refine Ac (Dn n rfl ?_);refine Ac (wpAny_updateSeq_pair n λm J i=>?_);refine Ac (HB (Ad ?_));refine Ac (Ac (Gm ?_));show wpAny _ _ (Builtin.SmallTypes.nextOf (.ref i2) >>= _) _ _ _
  refine Ac (Hy kh (((m2.extBut d.extBut Z0.i2z).extBut f.extBut Z0.i12.symm).extBut i.extBut Z0.TOi2.symm)
   (((n2.extBut d.extBut Z0.l2z).extBut f.extBut Z0.l2i1).extBut i.extBut Z0.l2TO) K λv e F G=>?_)
  obtain ⟨H,g,k⟩:=G;have B:IsZip v z TI TO .ellipsis:=F _ _ Z0.i2z.symm (i.extBut _ _ Z0.TOz.symm (f.extBut _ _ Z0.i1z.symm l));have r:e≠z:=λx=>by subst x;rw [B] at g;cases g;simp at k
  refine Er B (by simp) λu _ C=>kE u e (λc o y M I L x=>C.extBut _ _ y (F _ _ L (i.extBut _ _ M (f.extBut _ _ I (d.extBut _ _ y x))))) ⟨H,C.extBut _ _ r g,k⟩
def ql{p q:Bool}{z TI TO i1 i2 l1 l2:Addr}{k1 k2:Nat}{us vs:Array Value}{x y a b:Value}{Q:Option Value->Shared->Prop}(Z0:ZipApart z TI TO i1 i2 l1 l2)(kz:IsZip s.heap z TI TO .none)(kTI:IsPair s.heap TI (.ref i1) (.ref i2))(kTO:IsPair s.heap TO a b)(m1:ItK p s.heap i1 l1 k1)(m2:ItK q s.heap i2 l2 k2)(n1:SqK p s.heap l1 us)(n2:SqK q s.heap l2 vs)(kx:us[k1]?=some x)(ky:vs[k2]?=some y) (kQ:∀h',IsZip h' z TI TO (rawInt s.heap.objs.size)->IsPair h' TO x y->ItK p h' i1 l1 (k1+1)->ItK q h' i2 l2 (k2+1)->IsPair h' s.heap.objs.size x y->h'.objs.size=s.heap.objs.size+1 ->
   (∀c o,c≠z->c≠TO->c≠i1->c≠i2->s.heap.get? c=some o->h'.get? c=some o)->Q (some (.ref s.heap.objs.size)) { s with heap:=h' }) :
  wpAny (model prog w) A (pyNext (.ref z)) Q E s:=by
 have d:s.TypeIs (.ref z) "zip":=⟨_,kz,rfl⟩;unfold pyNext
 exact Ac (wpAny_attempt (Hq (name:=Str.ofString "__next__") d HY
  (Gz HY d F.entry_zip_next
   (ZkM Z0 kz kTI kTO m1 m2 n1 n2 kx ky λh' f h k g i j e=>Ad (kQ h' f h k g i j e)) (F.args_zip_next_1 _))))
def tH{p q:Bool}{z TI TO i1 i2 l1 l2:Addr}{k1 k2:Nat}{us vs:Array Value}{a b:Value}{Q:Option Value->Shared->Prop}(kh:A.handled=none)(Z0:ZipApart z TI TO i1 i2 l1 l2)(kz:IsZip s.heap z TI TO .none)(kTI:IsPair s.heap TI (.ref i1) (.ref i2))(kTO:IsPair s.heap TO a b)(m1:ItK p s.heap i1 l1 k1)(m2:ItK q s.heap i2 l2 k2)(n1:SqK p s.heap l1 us)(n2:SqK q s.heap l2 vs)(kend:us[k1]?=none\/vs[k2]?=none)(kQ:∀h',(∀c o,c≠z->c≠TO->c≠i1->c≠i2->s.heap.get? c=some o->h'.get? c=some o)->Q none { s with heap:=h' }):wpAny (model prog w) A (pyNext (.ref z)) Q E s:=by
 have d:s.TypeIs (.ref z) "zip":=⟨_,kz,rfl⟩;unfold pyNext
 refine Ac (wpAny_attempt (Hq (name:=Str.ofString "__next__") d HY
  (Gz HY d F.entry_zip_next (o9 kh Z0 kz kTI kTO m1 m2 n1 n2 kend λh' e i h=>?_) (F.args_zip_next_1 _))))
 obtain ⟨o,g,f⟩:=h;refine Ac (wpAny_isInstance (T:="StopIteration") (b:=true) ⟨o,g,f⟩ isSubtype_stop ?_);exact Ad (kQ _ i)
end
abbrev kH1(p:Bool)(h:Heap)(l1:Addr):Heap:=h.push (GJ p l1)
abbrev kH2(p q:Bool)(h:Heap)(l1 l2:Addr):Heap:=(kH1 p h l1).push (GJ q l2)
abbrev kH3(p q:Bool)(h:Heap)(l1 l2:Addr):Heap:=(kH2 p q h l1 l2).push { cls:=.type "tuple",data:=.seq #[.ref h.objs.size,.ref (kH1 p h l1).objs.size] }
abbrev kH4(p q:Bool)(h:Heap)(l1 l2:Addr):Heap:=(kH3 p q h l1 l2).push { cls:=.type "tuple",data:=.seq #[.none,.none] }
abbrev kH5(p q:Bool)(h:Heap)(l1 l2:Addr):Heap:=(kH4 p q h l1 l2).push { cls:=.type "zip",data:=.fields #[.none,.bool false,.bool false,.ref (kH2 p q h l1 l2).objs.size,.ref (kH3 p q h l1 l2).objs.size] }
def jd(p q)(l1 l2)(us vs) :
  Meets (Builtin.«zip.__new__» ⟨[.type "zip",.ref l1,.ref l2],[]⟩) (λ_ R s=>SqK p s.heap l1 us/\SqK q s.heap l2 vs /\
   R (.ok (.ret (.ref (kH4 p q s.heap l1 l2).objs.size))) { s with heap:=kH5 p q s.heap l1 l2 }) :=
 .of_wp λf w A R s h=>by
  obtain ⟨c,g,d,i,e⟩:=s;obtain ⟨l,k,h⟩:=h;have j:=sub_zip;have a:SqK p (Shared.heap ⟨c,g,d,i,e⟩) l1 us:=l;have b:SqK q (Shared.heap ⟨c.push (GJ p l1),g,d,i,e⟩) l2 vs:=SqK.push k _
  wp_walk using Mw a,Mw b
  exact ⟨_,rfl,h⟩
section
variable{prog:Program} {E:Value->Shared->Prop}
def Zlx{us:Array Value}(n1:SqK p s.heap l1 us)(n2:SqK q s.heap l2 vs) (h:∀h',IsZip h' (s.heap.objs.size+4) (s.heap.objs.size+2) (s.heap.objs.size+3) .none->IsPair h' (s.heap.objs.size+2) (.ref s.heap.objs.size) (.ref (s.heap.objs.size+1)) ->
   IsPair h' (s.heap.objs.size+3) .none .none->ItK p h' s.heap.objs.size l1 0->ItK q h' (s.heap.objs.size+1) l2 0->h'.objs.size=s.heap.objs.size+5 ->
   (∀c o,s.heap.get? c=some o->h'.get? c=some o)->Q (.ref (s.heap.objs.size+4)) { s with heap:=h' }) :
  wpAny (model prog w) A (call (.type "zip") [.ref l1,.ref l2]) Q E s:=by
 refine callType_new F.called_zip (by decide) (F.typeCall_zip_2 _ _) (F.newCall_zip_2 _ _) (λe=>F.args_object_init_3 e _ _) F.entry_zip_new
  (jd p q l1 l2 us vs) ⟨n1,n2,?_⟩
 have b:(kH1 p s.heap l1).objs.size=s.heap.objs.size+1:=Ck ..;have g:(kH2 p q s.heap l1 l2).objs.size=s.heap.objs.size+2:=by rw [Ck,b]
 have a:(kH3 p q s.heap l1 l2).objs.size=s.heap.objs.size+3:=by rw [Ck,g]
 have d:(kH4 p q s.heap l1 l2).objs.size=s.heap.objs.size+4:=by rw [Ck,a]
 have m:(kH5 p q s.heap l1 l2).objs.size=s.heap.objs.size+5:=by rw [Ck,d]
 have f:(kH5 p q s.heap l1 l2).get? (kH4 p q s.heap l1 l2).objs.size=some _:=Bp _ rfl;have i:(kH5 p q s.heap l1 l2).get? (kH3 p q s.heap l1 l2).objs.size=some _:=Ao _ (Bp _ rfl);have j:(kH5 p q s.heap l1 l2).get? (kH2 p q s.heap l1 l2).objs.size=some _:=Ao _ (Ao _ (Bp _ rfl));have k:(kH5 p q s.heap l1 l2).get? (kH1 p s.heap l1).objs.size=some _:=Ao _ (Ao _ (Ao _ (Bp _ rfl)));have l:(kH5 p q s.heap l1 l2).get? s.heap.objs.size=some _:=Ao _ (Ao _ (Ao _ (Ao _ (Bp _ rfl))));show _/\_;rw [g,a,d] at f;rw [b,g] at j;rw [a] at i;rw [b] at k;rw [d]
 exact ⟨⟨_,f,rfl⟩,h _ f j i (ItK.new l) (ItK.new k) m λc o x=>
  Ao _ (Ao _ (Ao _ (Ao _ (Ao _ x))))⟩
end
def SqB(K:W.Frag):Bool->Hp->Addr->List V->Prop
 | false,H,a,xs=>SqL K H a xs
 | true,H,a,xs=>SqT K H a xs
def SqK.here{xs:Array Value}(x:SqK p h a xs):∃o,h.get? a=some o:=by
 cases p
 .obtain ⟨o,e,_⟩:=(show h.IsList a xs from x);exact ⟨o,e⟩
 .obtain ⟨o,e,_⟩:=(show h.IsTuple a xs from x);exact ⟨o,e⟩
def Inv.seqB(I:Inv X pins Y H s)(h:SqB X.K p H a xs):∃its,Vals xs its/\SqK p s.heap a its.toArray/\xs.length<=sizeLine:=by
 cases p
 .obtain ⟨its,c,b,d⟩:=I.list h;exact ⟨its,c,b.isList,d⟩
 .obtain ⟨its,c,b,d⟩:=I.tuple h;exact ⟨its,c,b,d⟩
def Inv.seqB_inj(I:Inv X pins Y H s)(h:SqB X.K p H a xs)(h':SqB X.K p H a ys):xs=ys:=by
 cases p
 .exact I.list_inj h h'
 .exact I.tuple_inj h h'
def ItzK(K:W.Frag)(p q:Bool)(a b:Addr):It :=
 ⟨λi H=>∃f e x y,SqB K p H a f/\SqB K q H b e/\f[i]?=some x/\e[i]?=some y,λi H x g=>∃T d c,H T=none/\x=.ref T/\g=upd H T (.tup [d,c])/\(∀f,SqB K p H a f->f[i]?=some d)/\(∀e,SqB K q H b e->e[i]?=some c),
  λi H=>∃f e,SqB K p H a f/\SqB K q H b e/\(f.length<=i\/e.length<=i)⟩
def jH{p q:Bool}{elts:List Expr}{x1:Nat}{a b z TI TO i1 i2:Addr}(D:ZipApart z TI TO i1 i2 a b):Turn P w K (.Tuple elts x1 pos) (ItzK K p q a b) [z,TI,TO,i1,i2] z
  (λi h=>IsZip h z TI TO .none/\IsPair h TI (.ref i1) (.ref i2)/\(∃u v,IsPair h TO u v)/\ItK p h i1 a i/\ItK q h i2 b i) where
 mem:=by simp
 obj:=λi h m c j=>by
  obtain ⟨A,f,⟨u,v,g⟩,f1,f2⟩:=m;obtain ⟨o1,_,e1,d1⟩:=f1.flds;obtain ⟨o2,_,e2,d2⟩:=f2.flds;simp only [Aj,CZ,Gq] at j;rcases j with rfl | rfl | rfl | rfl | rfl
  .exact ⟨_,A,λv z=>by cases z⟩
  .exact ⟨_,f,λv z=>by cases z⟩
  .exact ⟨_,g,λv z=>by cases z⟩
  .exact ⟨_,e1,λv z=>by rw [d1] at z;cases z⟩
  .exact ⟨_,e2,λv z=>by rw [d2] at z;cases z⟩
 keep:=λi h h' m k=>by
  obtain ⟨A,f,⟨u,v,g⟩,F,G⟩:=m;exact ⟨k z (by simp) _ A,k TI (by simp) _ f,⟨u,v,k TO (by simp) _ g⟩,F.at λo e=>k i1 (by simp) o e,G.at λo e=>k i2 (by simp) o e⟩
 item:=by
  intro X U B S hc i t s Y H E I M m hg;subst U B S;obtain ⟨A,f,⟨u0,v0,g⟩,F,G⟩:=m;obtain ⟨xs,ys,x,y,n,r,N,hy⟩:=hg;obtain ⟨Z,R,pa,za⟩:=I.seqB n;obtain ⟨L,C,Q,zb⟩:=I.seqB r;obtain ⟨u,hu,ru⟩:=R.get N;obtain ⟨v,hv,rv'⟩:=C.get hy;refine ql D A f g F G pa Q (x:=u) (y:=v) (by simpa using hu) (by simpa using hv) λg1 a1 a2 a3 a4 a5 a6 O=>⟨_,rfl,?_⟩;refine wpAny_letOwnedTupleGo_zip a1 λg2 T V=>?_;have d:Heap.SameBut z g1 g2:=V;have l:∀{c:Addr} {J:Obj},s.heap.get? c=some J->c≠s.heap.objs.size:=λq=>BK (Aq q);have zT:=l A;have TIT:=l f;have TOT:=l g;have i1T:i1≠s.heap.objs.size:=by obtain ⟨_,q⟩:=F.here;exact l q
  have i2T:i2≠s.heap.objs.size:=by obtain ⟨_,q⟩:=G.here;exact l q
  have hT:H s.heap.objs.size=none:=I.hok.fresh (Al _);have I2:Inv X t Y (upd H s.heap.objs.size (.tup [x,y])) { s with heap:=g2,toks:=s.toks }:=by
   refine I.turnNew (fp:=[z,TI,TO,i1,i2]) (λc J j q=>?_) M (Al _) ?_
   .have b1:c≠z:=λe=>j (by simp [e]);have b2:c≠TO:=λe=>j (by simp [e]);have b3:c≠i1:=λe=>j (by simp [e]);have b4:c≠i2:=λe=>j (by simp [e]);exact d.extBut c J b1 (O c J b1 b2 b3 b4 q)
   .have W:(2:Nat)<=sizeLine:=by decide
    exact ⟨W,[u,v],.cons ru (.cons rv' .nil),⟨_,d.extBut _ _ (Ne.symm zT) a5,rfl,_,rfl⟩⟩
  refine ⟨.ref s.heap.objs.size,_,I2,rfl,⟨_,x,y,hT,rfl,rfl,(λws B=>by rw [I.seqB_inj B n];exact N),(λws B=>by rw [I.seqB_inj B r];exact hy)⟩,
   ⟨T,d.extBut _ _ D.TIz (O _ _ D.TIz D.TITO D.TIi1 D.TIi2 f),⟨_,_,d.extBut _ _ D.TOz a2⟩,a3.extBut d.extBut D.i1z,a4.extBut d.extBut D.i2z⟩,λc j=>?_⟩
  have nb:c≠s.heap.objs.size:=by
   simp only [Aj,CZ,Gq] at j;rcases j with rfl | rfl | rfl | rfl | rfl<;>assumption
  rw [Ag nb];exact (M c j).1
 done:=by
  intro X U B S hc i t s Y H E I M m hg;subst U B S;obtain ⟨A,f,⟨u0,v0,g⟩,F,G⟩:=m;obtain ⟨xs,ys,n,r,N⟩:=hg;obtain ⟨Z,R,pa,za⟩:=I.seqB n;obtain ⟨L,C,Q,zb⟩:=I.seqB r;have hl:=R.length;have hl2:=C.length;refine tH (I.ok.hd hc) D A f g F G pa Q (N.imp (λq=>by simp;omega) (λq=>by simp;omega)) λh' O=>⟨rfl,?_⟩;exact I.turnedL (fp:=[z,TI,TO,i1,i2]) (t':=s.toks) (λc J j q=>O c J (λe=>j (by simp [e])) (λe=>j (by simp [e])) (λe=>j (by simp [e])) (λe=>j (by simp [e])) q) M
 self:=λ_ _ _ _ _ m h=>wpAny_pyIter_zip m.1 h
def cX(K:W.Frag)(ta:TA):TI:=λY H R=>ta Y H λd c=>∃p q a b,d=[.ref a,.ref b]/\(∃f,SqB K p c a f)/\(∃e,SqB K q c b e)/\R (ItzK K p q a b) c
def iB{elts:List Expr}{x1:Nat}{tpos:Pos}{a b:Expr}{ta:TA}{np:Pos}(hg:Gl X "zip")(hm:X.mg "zip"=none)(ha:PA X [a,b] ta)(hs:starEach [a,b] X.env=[(false,eval a X.env),(false,eval b X.env)]:=by rfl)(hs2:starEach [b] X.env=[(false,eval b X.env)]:=by rfl) :
  PI X (.Tuple elts x1 tpos) (.Call (.Name "zip" np) [a,b] [] pos) (cX X.K ta):=by
 intro d s Y H R I h;refine Call_ (GZ I hg hm Z9 (G3 (thn (ha pos d s Y H _ I h) λU f zq=>?_) (by rw [hs,hs2]) (by rw [hs2];rfl)));obtain ⟨Q,u,g,A,M⟩:=zq;obtain ⟨κ,μ,l,m,e,⟨S,j⟩,⟨P,o⟩,q⟩:=M;subst e;cases A with
 | cons r rr=>
  cases rr with
  | cons r' rr=>
   cases rr;cases r;cases r';obtain ⟨D,O,v,T⟩:=g.seqB j;obtain ⟨w,B,x,F⟩:=g.seqB o;have C:l<f.heap.objs.size:=by obtain ⟨_,e⟩:=v.here;exact Aq e
   have N:m<f.heap.objs.size:=by obtain ⟨_,e⟩:=x.here;exact Aq e
   refine Zlx v x λE p k n y G z L=>?_;have J:Inv X d Y u { f with heap:=E }:=g.kept (t':=f.toks) L
   refine wpAny_pyIter_zip p ?_;refine ⟨_,_,_,ItzK X.K κ μ l m,u,rfl,J,jH (zipApart_new C N),⟨p,k,⟨_,_,n⟩,y,G⟩,λc t=>?_,q⟩;have i:f.heap.objs.size<=c:=by
    simp only [Aj,CZ,Gq] at t;rcases t with rfl | rfl | rfl | rfl | rfl<;>omega
   exact g.fpOk i (g.hok.fresh i)
end L2
namespace Dl
inductive D where
 | non | bl (b:Bool) | int (i:Int) | str (x:Str) | ty (n:String) | cls (c:Str)
 | tup (xs:List D) | lst (xs:List D) | exc (c:Str) | ins (c:Str) (ns:List Str) (vs:List D)
def pay(c:Str):Option Nat:=match c.cps.toList with
 | k::_=>if 0x110000<=k then some (k - 0x110000) else none
 | []=>none
def clsOf(c:Str):Str:=match c.cps.toList with
 | k::r=>if 0x110000<=k then ⟨r.toArray⟩ else c
 | []=>c
inductive Res(α:Type) where
 | ok (a:α) | ex (c:Str) | bad
noncomputable def Res.bind:Res α->(α->Res β)->Res β
 | .ok a,f=>f a
 | .ex c,_=>.ex c
 | .bad,_=>.bad
def HN(a:α)(f:α->Res β):(Res.ok a).bind f=f a:=rfl
inductive Cl where
 | no | im (d:D) | ow (ds:List D)
abbrev Ev:=List Cl
abbrev ME:=Ev->Res D
abbrev MB:=Ev->Res Bool
abbrev MA:=Ev->Res (List D)
def getC:Option Cl->Res D
 | some (.im d)=>.ok d
 | _=>.bad
def v(i:Nat):ME:=λZ=>getC Z[i]?
def c(d:D):ME:=λ_=>.ok d
def o1(f:D->Res D)(a:ME):ME:=λZ=>(a Z).bind f
def o2(f:D->D->Res D)(a b:ME):ME:=λZ=>(a Z).bind λx=>(b Z).bind λy=>f x y
def Ab:MA:=λ_=>.ok []
def Aa(a:ME)(r:MA):MA:=λZ=>(a Z).bind λx=>(r Z).bind λb=>.ok (x::b)
def on(f:List D->Res D)(a:MA):ME:=λZ=>(a Z).bind f
def mtp(a:MA):ME:=λZ=>(a Z).bind λb=>.ok (.tup b)
def mls(a:MA):ME:=λZ=>(a Z).bind λb=>.ok (.lst b)
def tru:D->Res Bool
 | .bl b=>.ok b
 | _=>.bad
def trb(a:ME):MB:=λZ=>(a Z).bind tru
def bAnd(a b:MB):MB:=λZ=>(a Z).bind λx=>if x=true then b Z else .ok false
def bOr(a b:MB):MB:=λZ=>(a Z).bind λx=>if x=true then .ok true else b Z
def bNot(a:MB):MB:=λZ=>(a Z).bind λx=>.ok (!x)
def eAnd(a b:ME):ME:=λZ=>(trb a Z).bind λx=>if x=true then b Z else .ok (.bl false)
def eNot(a:ME):ME:=λZ=>(trb a Z).bind λx=>.ok (.bl (!x))
def ife(t:MB)(a b:ME):ME:=λZ=>(t Z).bind λx=>if x=true then a Z else b Z
def Bj(a b:Int):Bool:=decide (a.natAbs<2^64)||decide (b.natAbs<2^64)||decide (a.natAbs.log2+b.natAbs.log2<100000000)
def LIM:Nat:=1000000
def An:D->D->Res D
 | .int a,.int b=>.ok (.int (a+b))
 | .lst a,.lst b=>if a.length+b.length<=LIM then .ok (.lst (a++b)) else .bad
 | .tup a,.tup b=>if a.length+b.length<=LIM then .ok (.tup (a++b)) else .bad
 | .str a,.str b=>if a.length+b.length<=LIM then .ok (.str (a++b)) else .bad
 | _,_=>.bad
def ii(f:Int->Int->Res D):D->D->Res D
 | .int a,.int b=>f a b
 | _,_=>.bad
def iSub(a b:Int):Res D:=.ok (.int (a - b))
def iMul(a b:Int):Res D:=if Bj a b=true then .ok (.int (a*b)) else .bad
def iMod(a b:Int):Res D:=if 0<b then .ok (.int (a%b)) else if b=0 then .bad else .ok (.int (a.fmod b))
def iDiv(a b:Int):Res D:=if b.natAbs.log2<9000 then (if 0<b then .ok (.int (a/b)) else if b=0 then .bad else .ok (.int (a.fdiv b))) else .bad
def iPow(a b:Int):Res D:=if 0<=b/\b<=1000000/\a.natAbs<2^64 then .ok (.int (a^b.toNat)) else .bad
def iShl(a b:Int):Res D:=if 0<=b/\b<=1000000/\a.natAbs<2^64 then .ok (.int (a*2^b.toNat)) else .bad
def iShr(a b:Int):Res D:=if 0<=b then .ok (.int (a/2^b.toNat)) else .bad
def iLt(a b:Int):Res D:=.ok (.bl (decide (a<b)))
def iLe(a b:Int):Res D:=.ok (.bl (decide (a<=b)))
def iGt(a b:Int):Res D:=.ok (.bl (decide (b<a)))
def iGe(a b:Int):Res D:=.ok (.bl (decide (b<=a)))
abbrev dSub:=ii iSub
abbrev Aw:=ii iMul
abbrev Ax:=ii iMod
abbrev Bb:=ii iDiv
abbrev dPow:=ii iPow
abbrev dShl:=ii iShl
abbrev dShr:=ii iShr
abbrev dLt:=ii iLt
abbrev dLe:=ii iLe
abbrev dGt:=ii iGt
abbrev dGe:=ii iGe
def dNeg:D->Res D
 | .int a=>.ok (.int (-a))
 | _=>.bad
mutual
def eqD:D->D->Bool
 | .non,.non=>true
 | .bl a,.bl b=>a==b
 | .bl a,.int j=>(if a then 1 else 0)==j
 | .int i,.bl b=>i==(if b then 1 else 0)
 | .int i,.int j=>i==j
 | .str x,.str y=>x==y
 | .lst xs,.lst ys=>eqDs xs ys
 | .tup xs,.tup ys=>eqDs xs ys
 | _,_=>false
def eqDs:List D->List D->Bool
 | [],[]=>true
 | x::xs,y::ys=>eqD x y&&eqDs xs ys
 | _,_=>false
end
mutual
def plain:Nat->D->Bool
 | _,.non=>true
 | _,.bl _=>true
 | _,.int _=>true
 | _,.str x=>x.cps.all (·<0x110000)
 | k+1,.tup xs=>Bk k xs
 | k+1,.lst xs=>Bk k xs
 | _,_=>false
def Bk:Nat->List D->Bool
 | _,[]=>true
 | k,x::xs=>plain k x&&Bk k xs
end
def dEq(x y:D):Res D:=if plain 50 x&&plain 50 y then .ok (.bl (eqD x y)) else .bad
def dNe(x y:D):Res D:=if plain 50 x&&plain 50 y then .ok (.bl (!eqD x y)) else .bad
def inD(x:D)(ys:List D):Bool:=ys.any λy=>eqD y x
def seqD:D->Res (List D)
 | .lst ys=>.ok ys
 | .tup ys=>.ok ys
 | _=>.bad
def dIn(x y:D):Res D:=(seqD y).bind λa=>if plain 50 x&&Bk 50 a then .ok (.bl (inD x a)) else .bad
def Hu:D->Bool
 | .non=>true
 | _=>false
def dIsN(x:D):Res D:=.ok (.bl (Hu x))
def G8(x:D):Res D:=.ok (.bl (!Hu x))
def at_(xs:List α)(i:Int):Option α:=if 0<=i then xs[i.toNat]? else if -(xs.length:Int)<=i then xs[(i+xs.length).toNat]? else none
def ofO:Option α->Res α
 | some a=>.ok a
 | none=>.bad
def dIx:D->D->Res D
 | .lst xs,.int i=>ofO (at_ xs i)
 | .tup xs,.int i=>ofO (at_ xs i)
 | _,_=>.bad
def cutAt(n d:Nat):Option Int->Nat
 | none=>d
 | some i=>if i<0 then (i+n).toNat else min i.toNat n
def cutL(xs:List D)(lo hi:Option Int):List D:=(xs.drop (cutAt xs.length 0 lo)).take (cutAt xs.length xs.length hi - cutAt xs.length 0 lo)
def dCut(x:D)(lo hi:Option Int):Res D:=match x with
 | .lst xs=>.ok (.lst (cutL xs lo hi))
 | .tup xs=>.ok (.tup (cutL xs lo hi))
 | _=>.bad
def pno:Ev->Res (Option Int):=λ_=>.ok none
def optI:D->Res (Option Int)
 | .int i=>.ok (some i)
 | _=>.bad
def pso(a:ME):Ev->Res (Option Int):=λZ=>(a Z).bind optI
def cut(a:ME)(lo hi:Ev->Res (Option Int)):ME:=λZ=>(a Z).bind λx=>(lo Z).bind λl=>(hi Z).bind λh=>dCut x l h
def bLen:List D->Res D
 | [.lst xs]=>.ok (.int xs.length)
 | [.tup xs]=>.ok (.int xs.length)
 | _=>.bad
def bAbs:List D->Res D
 | [.int i]=>.ok (.int (if i<0 then -i else i))
 | _=>.bad
def bMin:List D->Res D
 | [.int i,.int j]=>.ok (.int (if j<i then j else i))
 | _=>.bad
def bTup:List D->Res D
 | [.lst xs]=>.ok (.tup xs)
 | [.tup xs]=>.ok (.tup xs)
 | _=>.bad
def Qs:D->Option String
 | .non=>some "NoneType"
 | .bl _=>some "bool"
 | .int _=>some "int"
 | .str _=>some "str"
 | .tup _=>some "tuple"
 | .lst _=>some "list"
 | _=>none
def isTy(t n:String):Bool:=t==n||(t == "bool"&&n == "int")
def O9:List String:=["int","bool","str","tuple","list","dict"]
def bIsi:List D->Res D
 | [x,.ty n]=>if O9.contains n=true then (ofO (Qs x)).bind λt=>.ok (.bl (isTy t n)) else .bad
 | _=>.bad
def bools:List D->Res (List Bool)
 | []=>.ok []
 | d::r=>match d with
  | .bl b=>(bools r).bind λa=>.ok (b::a)
  | _=>.bad
def bAll:List D->Res D
 | [d]=>match d with
  | .lst xs=>(bools xs).bind λa=>.ok (.bl (a.all id))
  | _=>.bad
 | _=>.bad
def Oo:List D->Res D
 | [.int i,.int j,.int k]=>.ok (.int (if j>i then (if k>j then k else j) else (if k>i then k else i)))
 | _=>.bad
def FZ:List D->Res (List Int)
 | []=>.ok []
 | d::r=>match d with
  | .int n=>(FZ r).bind λa=>.ok (n::a)
  | _=>.bad
abbrev MI:=Ev->Res (List D)
def items:D->Res (List D)
 | .lst xs=>.ok xs
 | .tup xs=>.ok xs
 | _=>.bad
def iv(a:ME):MI:=λZ=>(a Z).bind items
def pairs:List D->List D->List D
 | x::xs,y::ys=>.tup [x,y]::pairs xs ys
 | _,_=>[]
def numbered:Nat->List D->List D
 | _,[]=>[]
 | k,x::xs=>.tup [.int k,x]::numbered (k+1) xs
def zip2:List D->Res (List D)
 | [x,y]=>(seqD x).bind λa=>(seqD y).bind λb=>.ok (pairs a b)
 | _=>.bad
def iZip(a:MA):MI:=λZ=>(a Z).bind zip2
def dw:List D->Res (List D)
 | [x]=>match x with
  | .lst xs=>.ok (numbered 0 xs)
  | _=>.bad
 | _=>.bad
def PQ(a:MA):MI:=λZ=>(a Z).bind dw
def Cd(lo:Int)(n:Nat):List D:=(List.range n).map λ(k:Nat)=>D.int (lo+(k:Int))
def rng1:List D->Res (List D)
 | [.int j]=>if -1000000000<=j/\j<=1000000000 then .ok (Cd 0 j.toNat) else .bad
 | _=>.bad
def r1(a:MA):MI:=λZ=>(a Z).bind rng1
def rng2:List D->Res (List D)
 | [.int i,.int j]=>if (-1000000000<=i/\i<=1000000000)/\(-1000000000<=j/\j<=1000000000) then .ok (Cd i (j - i).toNat) else .bad
 | _=>.bad
def r2(a:MA):MI:=λZ=>(a Z).bind rng2
abbrev MG:=D->Ev->Res Ev
abbrev MGs:=List D->Ev->Res Ev
def gN(i:Nat):MG:=λd Z=>.ok (Z.set i (.im d))
def gs0:MGs:=λa Z=>match a with
 | []=>.ok Z
 | _=>.bad
def gs1(g:MG)(r:MGs):MGs:=λa Z=>match a with
 | d::a=>(g d Z).bind λb=>r a b
 | []=>.bad
def gU(n:Nat)(g:MGs):MG:=λd Z=>(items d).bind λa=>if a.length=n then g a Z else .bad
def imOf:Option Cl->Cl
 | some (.im d)=>.im d
 | _=>.no
def Az(Z:Ev):List Nat->Ev
 | []=>[]
 | j::r=>imOf Z[j]?::Az Z r
def noA:Nat->Ev->Ev
 | 0,e=>e
 | k+1,e=>.no::noA k e
def Ar(g:MG)(t:MB)(e:ME)(Z0:Ev):List D->Res (List D)
 | []=>.ok []
 | x::r=>(g x Z0).bind λa=>(t a).bind λb=>if b=true then (e a).bind λy=>(Ar g t e Z0 r).bind λc=>.ok (y::c) else Ar g t e Z0 r
def yes:MB:=λ_=>.ok true
def noEx:Res α->Res α
 | .ex _=>.bad
 | r=>r
def comp(it:MI)(own:Nat)(cap:List Nat)(g:MG)(t:MB)(e:ME):ME:=λZ=>(it Z).bind λa=>
 if a.length<=LIM then (noEx (Ar g t e (noA own (Az Z cap)) a)).bind λb=>.ok (.lst b) else .bad
inductive Fl where
 | nx (Z:Ev) | rt (d:D) | bk (Z:Ev) | ct (Z:Ev)
abbrev MS:=Ev->Res Fl
def nop:MS:=λZ=>.ok (.nx Z)
def goOn(b:MS):Fl->Res Fl
 | .nx Z=>b Z
 | f=>.ok f
def sq(a b:MS):MS:=λZ=>(a Z).bind (goOn b)
def st(i:Nat)(e:ME):MS:=λZ=>(e Z).bind λd=>.ok (.nx (Z.set i (.im d)))
def lstO:D->Res (List D)
 | .lst xs=>.ok xs
 | _=>.bad
def stO(i:Nat)(e:ME):MS:=λZ=>(e Z).bind λd=>(lstO d).bind λa=>.ok (.nx (Z.set i (.ow a)))
def getO:Option Cl->Res (List D)
 | some (.ow xs)=>.ok xs
 | _=>.bad
def frz(i:Nat)(m:MS):MS:=λZ=>(getO Z[i]?).bind λa=>m (Z.set i (.im (.lst a)))
def app(i:Nat)(e:ME):MS:=λZ=>(getO Z[i]?).bind λa=>(e Z).bind λd=>if a.length<LIM then .ok (.nx (Z.set i (.ow (a++[d])))) else .bad
def asg(g:MG)(e:ME):MS:=λZ=>(e Z).bind λd=>(g d Z).bind λa=>.ok (.nx a)
def par(i j:Nat)(a b:ME):MS:=λZ=>(a Z).bind λx=>(b Z).bind λy=>.ok (.nx ((Z.set i (.im x)).set j (.im y)))
def drp(e:ME):MS:=λZ=>(e Z).bind λ_=>.ok (.nx Z)
def ret(e:ME):MS:=λZ=>(e Z).bind λd=>.ok (.rt d)
def ifs(t:MB)(a b:MS):MS:=λZ=>(t Z).bind λx=>if x=true then a Z else b Z
def cnt:MS:=λZ=>.ok (.ct Z)
def rse(c:Str)(a:MA):MS:=λZ=>(a Z).bind λ_=>.ex c
def H8:D->Res D
 | .non=>.ok .non
 | .bl b=>.ok (.bl b)
 | .int i=>.ok (.int i)
 | .str x=>.ok (.str x)
 | _=>.bad
def pk(i:Nat)(m:ME):ME:=λZ=>(getO Z[i]?).bind λa=>(m (Z.set i (.im (.lst a)))).bind H8
def turn(k:MS):Fl->Res Fl
 | .nx Z=>k Z
 | .ct Z=>k Z
 | .bk Z=>.ok (.nx Z)
 | .rt d=>.ok (.rt d)
def Cj(g:MG)(b:MS):List D->MS
 | [],Z=>.ok (.nx Z)
 | x::r,Z=>(g x Z).bind λa=>(b a).bind (turn (Cj g b r))
def for_(it:MI)(g:MG)(b:MS):MS:=λZ=>(it Z).bind λa=>Cj g b a Z
def whGo(t:MB)(b:MS):Nat->MS
 | 0,_=>.bad
 | n+1,Z=>(t Z).bind λx=>if x=true then (b Z).bind (turn (whGo t b n)) else .ok (.nx Z)
def absC:Cl->Nat
 | .im (.int i)=>i.natAbs
 | _=>0
def fuel(Z:Ev):Nat:=(Z.map absC).sum+1
def whl(n:Ev->Nat)(t:MB)(b:MS):MS:=λZ=>whGo t b (n Z) Z
def evF:List D->Nat->Ev
 | [],k=>noA k []
 | d::r,k=>.im d::evF r (k - 1)
def ev0(n:Nat)(ds:List D):Ev:=evF ds n
def Q7:∀k e,noA k e=List.replicate k .no++e
 | 0,_=>rfl
 | k+1,e=>by rw [noA,Q7 k e,Gk,List.cons_append]
def Us(Z):∀cap,Az Z cap=cap.map λj=>imOf Z[j]?
 | []=>rfl
 | j::r=>by rw [Az,Us Z r,Ba]
def Mi:∀ds n,ev0 n ds=ds.map .im++List.replicate (n - ds.length) .no
 | [],n=>by show noA n []=_;rw [Q7];simp
 | d::r,n=>by
  have ih:=Mi r (n - 1);show .im d::ev0 (n - 1) r=_;rw [ih,Ba,List.cons_append,CW,Nat.sub_sub,Gi 1]
def endOf:Fl->Res D
 | .rt d=>.ok d
 | .nx _=>.ok .non
 | _=>.bad
def fn(n:Nat)(b:MS)(ds:List D):Res D:=(b (ev0 n ds)).bind endOf
end Dl
variable{H' F0 H0 F':L2.Hp}{E:L2.XK}{Z:Dl.Ev}{ds:List Dl.D}{me:Dl.ME}{d:Dl.D}
namespace L2.Ds
open Dl
def XcO(H:Hp)(a:Addr)(cls:Value)(d:Addr)(p:Option Addr):Prop:=match p with
 | none=>H a=some (exO a cls)
 | some n=>H a=some (exC a cls d)/\H d=some (.xd [("at",.int (((n)/2:Nat):Int))])
def XcO.same{d:Addr}(h:XcO H a cls d p)(e:∀b o,H b=some o->(∀xs,o≠.lst xs)->H' b=some o):XcO H' a cls d p:=by
 cases p with
 | none=>exact e _ _ h λ_ z=>by cases z
 | some n=>exact ⟨e _ _ h.1 (λ_ z=>by cases z),e _ _ h.2 (λ_ z=>by cases z)⟩
mutual
inductive Rp(K:W.Frag)(mg:Str->Option Value)(H:Hp):V->D->Prop
 | non:Rp K mg H .non .non
 | bl (b:Bool):Rp K mg H (.bl b) (.bl b)
 | int (i:Int):Rp K mg H (.int i) (.int i)
 | str (x:Str):Rp K mg H (.str x) (.str x)
 | ty (n:String):Rp K mg H (.ty n) (.ty n)
 | cls {c:Str} {C:Addr} (h:mg c=some (.ref C)):Rp K mg H (.ref C) (.cls c)
 | tup {a:Addr} {xs:List V} {ds:List D} (h:SqT K H a xs) (r:Rps K mg H xs ds):Rp K mg H (.ref a) (.tup ds)
 | lst {a:Addr} {xs:List V} {ds:List D} (h:SqL K H a xs) (r:Rps K mg H xs ds):Rp K mg H (.ref a) (.lst ds)
 | exc {c:Str} {C a d:Addr} (m:mg (clsOf c)=some (.ref C)) (h:XcO H a (.ref C) d (pay c)):Rp K mg H (.ref a) (.exc c)
 | ins {c:Str} {C a dx:Addr} {fs:List (Str×V)} {xs:List V} {vs:List D} (m:mg c=some (.ref C)) (h:H a=some (.ins C dx fs)) (o:H dx=some (.own a)) (e:fs.map (·.2)=xs) (r:Rps K mg H xs vs):Rp K mg H (.ref a) (.ins c (fs.map (·.1)) vs)
inductive Rps(K:W.Frag)(mg:Str->Option Value)(H:Hp):List V->List D->Prop
 | nil:Rps K mg H [] []
 | cons {x:V} {xs:List V} {d:D} {ds:List D} (h:Rp K mg H x d) (r:Rps K mg H xs ds):Rps K mg H (x::xs) (d::ds)
end
section
def Ei(e:Same H H')(h:SqT K H a xs):SqT K H' a xs:=by
 rcases h with (h | ⟨o,h⟩) | h
 .exact .inl (.inl (e _ _ h))
 .exact .inl (.inr ⟨o,e _ _ h⟩)
 .exact .inr h
mutual
def Rp.same(e:Same H H'){x:V}{d:D}(h:Rp K mg H x d):Rp K mg H' x d:=by
 cases h with
 | non=>exact .non
 | bl b=>exact .bl b
 | int i=>exact .int i
 | str x=>exact .str x
 | ty n=>exact .ty n
 | cls h=>exact .cls h
 | tup h r=>exact .tup (Ei e h) (Rps.same e r)
 | lst h r=>exact .lst (e.seq h) (Rps.same e r)
 | exc m h=>exact .exc m (h.same λb o z _=>e b o z)
 | ins m h o q r=>exact .ins m (e _ _ h) (e _ _ o) q (Rps.same e r)
def Rps.same(e:Same H H'){xs:List V}{ds:List D}(h:Rps K mg H xs ds):Rps K mg H' xs ds:=by
 cases h with
 | nil=>exact .nil
 | cons h r=>exact .cons (Rp.same e h) (Rps.same e r)
end
def Rps.length:∀{xs:List V} {ds:List D},Rps K mg H xs ds->xs.length=ds.length
 | _,_,.nil=>rfl
 | _,_,.cons _ r=>CV (·+1) (Rps.length r)
def Rps.get:∀{xs:List V} {ds:List D} {i:Nat} {d:D},Rps K mg H xs ds->ds[i]?=some d->∃x,xs[i]?=some x/\Rp K mg H x d
 | _,_,_,_,.nil,e=>by simp at e
 | _,_,0,_,.cons h _,e=>by simp at e;subst e;exact ⟨_,rfl,h⟩
 | _,_,i+1,_,.cons _ r,e=>by
  obtain ⟨x,a,b⟩:=Rps.get r (by simpa using e);exact ⟨x,by simpa using a,b⟩
def Rps.app{es:List D}(q:Rps K mg H ys es):∀{xs:List V} {ds:List D},Rps K mg H xs ds->Rps K mg H (xs++ys) (ds++es)
 | _,_,.nil=>q
 | _,_,.cons h r=>.cons h (Rps.app q r)
def Rps.drop:∀{xs:List V} {ds:List D} (n:Nat),Rps K mg H xs ds->Rps K mg H (xs.drop n) (ds.drop n)
 | _,_,0,r=>r
 | _,_,_+1,.nil=>.nil
 | _,_,n+1,.cons _ r=>Rps.drop n r
def Rps.take:∀{xs:List V} {ds:List D} (n:Nat),Rps K mg H xs ds->Rps K mg H (xs.take n) (ds.take n)
 | _,_,0,_=>.nil
 | _,_,_+1,.nil=>.nil
 | _,_,n+1,.cons h r=>.cons h (Rps.take n r)
def Rps.one{xs:List V}{d:D}(h:Rps K mg H xs [d]):∃x,xs=[x]/\Rp K mg H x d:=by
 cases h with | cons h r=>cases r;exact ⟨_,rfl,h⟩
def Rps.two{xs:List V}{d e:D}(h:Rps K mg H xs [d,e]):∃x y,xs=[x,y]/\Rp K mg H x d/\Rp K mg H y e:=by
 cases h with | cons h r=>obtain ⟨_,rfl,g⟩:=Rps.one r;exact ⟨_,_,rfl,h,g⟩
end
structure Gr(F H F' H':Hp):Prop where
 f:Same F F'
 s:Same F' H'
 o:∀a o,F a=none->H a=some o->F' a=none/\H' a=some o
 z:∀a o u,F' a=some (.frz o u)->F a=some (.frz o u)
def Gr.refl{F:Hp}(s:Same F H):Gr F H F H:=⟨Same.refl _,s,λ_ _ b a=>⟨b,a⟩,λ_ _ _ h=>h⟩
def Gr.trans{F:Hp}(g:Gr F H F1 H1)(h:Gr F1 H1 F2 H2):Gr F H F2 H2:=⟨g.f.trans h.f,h.s,λa o b c=>let ⟨q1,q2⟩:=g.o a o b c;h.o a o q1 q2,λa o u e=>g.z a o u (h.z a o u e)⟩
def tK{F:Hp}(s:Same F H):Same (upd F p o) (upd H p o):=λb u e=>by
 by_cases hb:b=p
 .subst hb;rw [Ak] at e ⊢;exact e
 .rw [Ag hb] at e ⊢;exact s b u e
def Im{F:Hp}(nz:∀o' u,o≠.frz o' u)(e:upd F p o a=some (.frz o' u)):F a=some (.frz o' u):=by
 by_cases ne:a=p
 .subst ne;rw [Ak] at e;exact aB (Bt e) (nz o' u)
 .rw [Ag ne] at e;exact e
def Gr.new{F:Hp}(s:Same F H)(h:H p=none)(o)(nz:∀o' u,o≠.frz o' u:=by intro _ _ z;cases z):Gr F H (upd F p o) (upd H p o) :=
 ⟨Cp (s.free h) o,tK s,λa u d c=>by
  have b:=Ay c h;rw [Ag b,Ag b];exact ⟨d,c⟩,λa o' u e=>by
  by_cases b:a=p
  .subst b;rw [Ak] at e;exact aB (Bt e) (nz o' u)
  .rw [Ag b] at e;exact e⟩
structure Rep(K:W.Frag)(mg:Str->Option Value)(F0 H0 F H:Hp)(Y:St)(Z:Ev):Prop where
 g:Gr F0 H0 F H
 len:Y.length=Z.length
 im:∀(i:Nat) (d:D),Z[i]?=some (.im d)->∃x,Y[i]?=some (some x)/\Rp K mg F x d
 ow:∀(i:Nat) (ds:List D),Z[i]?=some (.ow ds)->∃a xs,Y[i]?=some (some (.ref a))/\H0 a=none/\F a=none/\H a=some (.lst xs)/\Rps K mg F xs ds
 ne:∀(i j:Nat) (ds es:List D) (a:Addr),Z[i]?=some (.ow ds)->Z[j]?=some (.ow es)->Y[i]?=some (some (.ref a))->Y[j]?=some (some (.ref a))->i=j
section
variable {F:Hp}
def Rep.gr(r:Rep K mg F0 H0 F H Y Z)(g:Gr F H F' H'):Rep K mg F0 H0 F' H' Y Z:=by
 refine ⟨r.g.trans g,r.len,λi d e=>?_,λi l e=>?_,r.ne⟩
 .obtain ⟨x,b,c⟩:=r.im i d e;exact ⟨x,b,c.same g.f⟩
 .obtain ⟨a,p,b,c,j,m,h⟩:=r.ow i l e;obtain ⟨k,n⟩:=g.o a _ j m;exact ⟨a,p,b,c,k,n,h.same g.f⟩
def BV{l:List α}{x:α}(h:(l.set i x)[j]?=some y):(i=j/\y=x/\i<l.length)\/(i≠j/\l[j]?=some y):=by
 rw [List.getElem?_set] at h;by_cases e:i=j
 .rw [iP e] at h;split at h
  .exact .inl ⟨e,(Bt h).symm,by assumption⟩
  .cases h
 .rw [iN e] at h;exact .inr ⟨e,h⟩
def M9{l:List α}{x:α}(h:i<l.length):(l.set i x)[i]?=some x:=by
 rw [List.getElem?_set,iP rfl,iP h]
def Dw{l:List α}{x:α}(h:i≠j):(l.set i x)[j]?=l[j]?:=by
 rw [List.getElem?_set,iN h]
def Rep.set{x:V}(r:Rep K mg F0 H0 F H Y Z)(i:Nat)(h:Rp K mg F x d):Rep K mg F0 H0 F H (Y.set i (some x)) (Z.set i (.im d)):=by
 refine ⟨r.g,by rw [Eu,Eu];exact r.len,λj e q=>?_,λj c q=>?_,λj k c o a b f n m=>?_⟩
 .rcases BV q with ⟨rfl,z,l⟩ | ⟨hij,q⟩
  .cases z;exact ⟨x,M9 (by rw [r.len];exact l),h⟩
  .rw [Dw hij];exact r.im j e q
 .rcases BV q with ⟨_,z,_⟩ | ⟨hij,q⟩
  .cases z
  .rw [Dw hij];exact r.ow j c q
 .rcases BV b with ⟨_,z,_⟩ | ⟨h1,b⟩
  .cases z
  .rcases BV f with ⟨_,z,_⟩ | ⟨h2,f⟩
   .cases z
   .rw [Dw h1] at n;rw [Dw h2] at m;exact r.ne j k c o a b f n m
def Rep.own(r:Rep K mg F0 H0 F H Y Z)(i:Nat)(hn:H a=none)(h:Rps K mg F xs ds):Rep K mg F0 H0 F (upd H a (.lst xs)) (Y.set i (some (.ref a))) (Z.set i (.ow ds)):=by
 have y:=r.g.s.free hn;have x:H0 a=none:=by
  cases q:H0 a with
  | none=>rfl
  | some o=>
   cases c:F0 a with
   | none=>rw [(r.g.o a o c q).2] at hn;cases hn
   | some u=>rw [r.g.f a u c] at y;cases y
 have w:∀{j:Nat} {m:List D} {b:Addr},Z[j]?=some (.ow m)->Y[j]?=some (some (.ref b))->b≠a:=λ{j m b} t c=>by
  obtain ⟨M,E,d,_,_,A,_⟩:=r.ow j m t;rw [c] at d;cases d;exact Ay A hn
 refine ⟨⟨r.g.f,λb o e=>?_,λb o L B=>?_,r.g.z⟩,by rw [Eu,Eu];exact r.len,λj e q=>?_,λj m q=>?_,λj k m J b t c n p=>?_⟩
 .rw [Ag (Ay e y)];exact r.g.s b o e
 .rw [Ag (Ay B x)];exact r.g.o b o L B
 .rcases BV q with ⟨_,z,_⟩ | ⟨hij,q⟩
  .cases z
  .rw [Dw hij];exact r.im j e q
 .rcases BV q with ⟨rfl,z,l⟩ | ⟨hij,q⟩
  .cases z;exact ⟨a,xs,M9 (by rw [r.len];exact l),x,y,Ak,h⟩
  .rw [Dw hij];obtain ⟨b,C,d,v,I,A,G⟩:=r.ow j m q;exact ⟨b,C,d,v,I,by rw [Ag (Ay A hn)];exact A,G⟩
 .rcases BV t with ⟨rfl,_,l1⟩ | ⟨d,t⟩
  .rcases BV c with ⟨rfl,_,_⟩ | ⟨v,c⟩
   .rfl
   .rw [M9 (by rw [r.len];exact l1)] at n;rw [Dw v] at p;cases n;exact aB rfl (w c p)
  .rcases BV c with ⟨rfl,_,l2⟩ | ⟨v,c⟩
   .rw [M9 (by rw [r.len];exact l2)] at p;rw [Dw d] at n;cases p;exact aB rfl (w t n)
   .rw [Dw d] at n;rw [Dw v] at p;exact r.ne j k m J b t c n p
def Rep.app{x:V}(r:Rep K mg F0 H0 F H Y Z)(e:Z[i]?=some (.ow ds))(e2:Y[i]?=some (some (.ref a)))(e3:H a=some (.lst xs))(e4:H0 a=none)(e5:F a=none)(hr:Rps K mg F xs ds)(h:Rp K mg F x d) :
  Rep K mg F0 H0 F (upd H a (.lst (xs++[x]))) Y (Z.set i (.ow (ds++[d]))):=by
 refine ⟨⟨r.g.f,λb o q=>?_,λb o v m=>?_,r.g.z⟩,by rw [Eu];exact r.len,λj u q=>?_,λj p q=>?_,λj k p J b v m C G=>?_⟩
 .rw [Ag (Ay q e5)];exact r.g.s b o q
 .rw [Ag (Ay m e4)];exact r.g.o b o v m
 .rcases BV q with ⟨_,z,_⟩ | ⟨_,q⟩
  .cases z
  .exact r.im j u q
 .rcases BV q with ⟨rfl,z,l⟩ | ⟨hij,q⟩
  .cases z;exact ⟨a,_,e2,e4,e5,Ak,Rps.app (.cons h .nil) hr⟩
  .obtain ⟨b,B,w,A,E,I,D⟩:=r.ow j p q;have y:b≠a:=by
    rintro rfl;exact hij (r.ne i j ds p b e q e2 w)
   exact ⟨b,B,w,A,E,by rw [Ag y];exact I,D⟩
 .have t:∃c,Z[j]?=some (.ow c):=by
   rcases BV v with ⟨rfl,_,_⟩ | ⟨_,q⟩
   .exact ⟨_,e⟩
   .exact ⟨_,q⟩
  have n:∃c,Z[k]?=some (.ow c):=by
   rcases BV m with ⟨rfl,_,_⟩ | ⟨_,q⟩
   .exact ⟨_,e⟩
   .exact ⟨_,q⟩
  obtain ⟨_,t⟩:=t;obtain ⟨_,n⟩:=n;exact r.ne j k _ _ b t n C G
def Rep.frz{i:Nat}{ds:List D}(r:Rep K mg F0 H0 F H Y Z)(e:Z[i]?=some (.ow ds)):∃F',Same F F'/\Rep K mg F0 H0 F' H Y (Z.set i (.im (.lst ds))):=by
 obtain ⟨a,p,t,v,y,I,M⟩:=r.ow i ds e;have d:Same F (upd F a (.lst p)):=Cp y _;refine ⟨upd F a (.lst p),d,⟨r.g.f.trans d,λb o q=>?_,λb o h c=>?_,λb o u q=>r.g.z b o u (Im (λ_ _ z=>by cases z) q)⟩,by rw [Eu];exact r.len,λj u q=>?_,λj m q=>?_,λj k m J b h c B G=>?_⟩
 .by_cases hb:b=a
  .subst hb;rw [Ak] at q;cases q;exact I
  .rw [Ag hb] at q;exact r.g.s b o q
 .rw [Ag (Ay c v)];exact r.g.o b o h c
 .rcases BV q with ⟨rfl,z,_⟩ | ⟨_,q⟩
  .cases z;exact ⟨.ref a,t,.lst (SqL.of Ak) (M.same d)⟩
  .obtain ⟨x,l,n⟩:=r.im j u q;exact ⟨x,l,n.same d⟩
 .rcases BV q with ⟨_,z,_⟩ | ⟨hij,q⟩
  .cases z
  .obtain ⟨b,A,l,n,E,L,C⟩:=r.ow j m q;have w:b≠a:=by
    rintro rfl;exact hij (r.ne i j ds m b e q t l)
   exact ⟨b,A,l,n,by rw [Ag w];exact E,L,C.same d⟩
 .rcases BV h with ⟨_,z,_⟩ | ⟨_,h⟩
  .cases z
  .rcases BV c with ⟨_,z,_⟩ | ⟨_,c⟩
   .cases z
   .exact r.ne j k m J b h c B G
end
def Ans(mg:Str->Option Value)(E:XK)(R:Hp->β->α->Prop)(F H:Hp)(r:Res α)(w:(β->Hp->Prop)->Prop):Prop :=
 match r with
 | .ok a=>∀Q,(∀e d b,Gr F H e d->R e b a->Q b d)->w Q
 | .ex c=>∀Q,(∀e d C,Gr F H e d->mg (clsOf c)=some (.ref C)->E (.ref C) (pay c) d)->w Q
 | .bad=>True
section
variable{α β γ δ:Type} {R:Hp->β->α->Prop} {R':Hp->δ->γ->Prop} {F:Hp}
def Ans.ret{w:(β->Hp->Prop)->Prop}(s:Same F H)(r:R F b a)(h:∀Q,Q b H->w Q):Ans mg E R F H (.ok a) w:=λQ q=>h Q (q F H b (.refl s) r)
def Ans.bindE{r:Res α}{w:(β->Hp->Prop)->Prop}{k:α->Res γ}{w':β->Hp->(δ->Hp->Prop)->Prop}(h1:Ans mg E R F H r w)(h2:∀a,r=.ok a->∀F1 H1 b,Gr F H F1 H1->R F1 b a->Ans mg E R' F1 H1 (k a) (w' b H1)) :
  Ans mg E R' F H (r.bind k) (λQ=>w λb H1=>w' b H1 Q):=by
 cases r with
 | ok a=>
  show Ans mg E R' F H (k a) _;have f:=h2 a rfl;generalize k a=r2 at f;cases r2 with
  | ok d=>exact λQ q=>h1 _ λF1 H1 b g i=>f F1 H1 b g i Q λj h e l n=>q j h e (g.trans l) n
  | ex c=>exact λQ q=>h1 _ λF1 H1 b g i=>f F1 H1 b g i Q λj h C l m=>q j h C (g.trans l) m
  | bad=>trivial
 | ex c=>exact λQ q=>h1 _ q
 | bad=>trivial
def Ans.bind{r:Res α}{w:(β->Hp->Prop)->Prop}{k:α->Res γ}{w':β->Hp->(δ->Hp->Prop)->Prop}(h1:Ans mg E R F H r w)(h2:∀F1 H1 b a,Gr F H F1 H1->R F1 b a->Ans mg E R' F1 H1 (k a) (w' b H1)) :
  Ans mg E R' F H (r.bind k) (λQ=>w λb H1=>w' b H1 Q):=h1.bindE λa _ F1 H1 b g q=>h2 F1 H1 b a g q
end
def AnsS(K:W.Frag)(mg:Str->Option Value)(E:XK)(F0 H0 F:Hp)(r:Res Fl)(w:Ends->Prop):Prop :=
 match r with
 | .ok (.nx Z)=>∀D,(∀b a e,Same F b->Rep K mg F0 H0 b a e Z->D.nx e a)->w D
 | .ok (.bk Z)=>∀D,(∀b a e,Same F b->Rep K mg F0 H0 b a e Z->D.bk e a)->w D
 | .ok (.ct Z)=>∀D,(∀b a e,Same F b->Rep K mg F0 H0 b a e Z->D.ct e a)->w D
 | .ok (.rt d)=>∀D,(∀b a x,Gr F0 H0 b a->Rp K mg b x d->D.rt x a)->w D
 | .ex c=>∀D,(∀b a C,Gr F0 H0 b a->mg (clsOf c)=some (.ref C)->E (.ref C) (pay c) a)->w D
 | .bad=>True
abbrev RB:Hp->Bool->Bool->Prop:=λ_ b b'=>b=b'
abbrev RO:Hp->Option Int->Option Int->Prop:=λ_ b b'=>b=b'
def SE(K:W.Frag)(mg:Str->Option Value)(E:XK)(t:TE)(m:ME):Prop:=∀a b F H Y Z,Rep K mg a b F H Y Z->Ans mg E (Rp K mg) F H (m Z) (t Y H)
def STt(K:W.Frag)(mg:Str->Option Value)(E:XK)(t:TT)(m:MB):Prop:=∀a b F H Y Z,Rep K mg a b F H Y Z->Ans mg E RB F H (m Z) (t Y H)
def SA(K:W.Frag)(mg:Str->Option Value)(E:XK)(t:TA)(m:MA):Prop:=∀a b F H Y Z,Rep K mg a b F H Y Z->Ans mg E (Rps K mg) F H (m Z) (t Y H)
def SO(K:W.Frag)(mg:Str->Option Value)(E:XK)(t:TO)(m:Ev->Res (Option Int)):Prop:=∀a b F H Y Z,Rep K mg a b F H Y Z->Ans mg E RO F H (m Z) (t Y H)
def SS(K:W.Frag)(mg:Str->Option Value)(E:XK)(t:TS)(m:MS):Prop:=∀a b F H Y Z,Rep K mg a b F H Y Z->AnsS K mg E a b F (m Z) (λD=>t D Y H)
def AnsG(K:W.Frag)(mg:Str->Option Value)(F0 H0 F:Hp)(n:Nat)(Y:St)(r:Res Ev)(w:(St->Hp->Prop)->Prop):Prop :=
 match r with
 | .ok Z'=>∀Q,(∀c b a,Same F c->Rep K mg F0 H0 c b a Z'->a.drop n=Y.drop n->Q a b)->w Q
 | _=>True
def SG(K:W.Frag)(mg:Str->Option Value)(n:Nat)(t:TG)(g:MG):Prop:=∀a b F H Y Z x d,Rep K mg a b F H Y Z->Rp K mg F x d->AnsG K mg a b F n Y (g d Z) (t x Y H)
def SGs(K:W.Frag)(mg:Str->Option Value)(n:Nat)(t:TGs)(g:MGs):Prop:=∀a c F H Y Z d b,Rep K mg a c F H Y Z->Rps K mg F d b->AnsG K mg a c F n Y (g b Z) (t d Y H)
def ItOk(K:W.Frag)(mg:Str->Option Value)(F:Hp)(J:It)(ds:List D):Prop:=∀e b,Same F e->Same e b->∀i,
 (∀d,ds[i]?=some d->J.go i b/\∀x a,J.yld i b x a->∃c,Gr e b c a/\Rp K mg c x d)/\(ds.length<=i->J.stop i b)
def SI(K:W.Frag)(mg:Str->Option Value)(E:XK)(t:TI)(m:MI):Prop:=∀a b F H Y Z,Rep K mg a b F H Y Z->Ans mg E (ItOk K mg) F H (m Z) (t Y H)
def OpD(K:W.Frag)(mg:Str->Option Value)(r:R2)(f:D->D->Res D):Prop:=∀E F H x y a b,Same F H->Rp K mg F x a->Rp K mg F y b->Ans mg E (Rp K mg) F H (f a b) (r x y H)
def UnD(K:W.Frag)(mg:Str->Option Value)(r:V->Hp->VK->Prop)(f:D->Res D):Prop:=∀E F H x a,Same F H->Rp K mg F x a->Ans mg E (Rp K mg) F H (f a) (r x H)
def CallD(K:W.Frag)(mg:Str->Option Value)(r:List V->Hp->VK->Prop)(f:List D->Res D):Prop:=∀E F H b a,Same F H->Rps K mg F b a->Ans mg E (Rp K mg) F H (f a) (r b H)
section
variable {ta tb tc:TE} {ma mb mc:ME} {sa sb:TT} {na nb:MB}
def Rep.ss{F:Hp}(r:Rep K mg F0 H0 F H Y Z):Same F H:=r.g.s
def se_v(i):SE K mg E (tVar i) (v i):=by
 intro c e F H Y Z r;unfold v getC;split
 .next d h=>
  obtain ⟨x,a,b⟩:=r.im i d h;exact .ret r.ss b λQ q=>⟨x,a,q⟩
 .trivial
def se_c{x:V}(h:∀F,Rp K mg F x d):SE K mg E (tC x) (c d):=λ_ _ F _ _ _ r=>.ret r.ss (h F) λ_ q=>q
def Q4(hf:OpD K mg r f)(ha:SE K mg E ta ma)(hb:SE K mg E tb mb):SE K mg E (tOp r ta tb) (o2 f ma mb):=by
 intro b c F H Y Z a;refine (ha b c F H Y Z a).bind λm k x h e j=>?_;refine (hb b c m k Y Z (a.gr e)).bind λn i y l d g=>?_;exact hf E n i x y h l d.s (j.same d.f) g
def Wr(hf:UnD K mg r f)(ha:SE K mg E ta ma):SE K mg E (tUn r ta) (o1 f ma):=by
 intro d g F H Y Z a;exact (ha d g F H Y Z a).bind λe i x c b h=>hf E e i x c b.s h
def O6:SA K mg E tNil Ab:=λ_ _ _ _ _ _ r=>.ret r.ss .nil λ_ q=>q
def lU(ha:SE K mg E ta ma)(hr:SA K mg E t m):SA K mg E (BW ta t) (Aa ma m):=by
 intro b c F H Y Z a;refine (ha b c F H Y Z a).bind λj i x k e h=>?_;refine (hr b c j i Y Z (a.gr e)).bind λp l o n d g=>?_;exact .ret d.s (.cons (h.same d.f) g) λ_ q=>q
def WM(hf:CallD K mg r f)(ha:SA K mg E t m):SE K mg E (tCB r t) (on f m):=by
 intro d g F H Y Z a;exact (ha d g F H Y Z a).bind λe i x c b h=>hf E e i x c b.s h
def N5{F:Hp}{w:VK->Prop}(s:Same F H)(hr:∀p,H p=none->R (upd F p o) (.ref p) a)(h:∀Q,(∀p,H p=none->Q (.ref p) (upd H p o))->w Q)(nz:∀o' u,o≠.frz o' u:=by intro _ _ z;cases z):Ans mg E R F H (.ok a) w :=
 λQ q=>h Q λp b=>q (upd F p o) (upd H p o) (.ref p) (.new s b o nz) (hr p b)
def SAn(n:Nat)(m:MA):Prop:=∀Z a,m Z=.ok a->a.length=n
def aO:SAn 0 Ab:=λZ a h=>by cases h;rfl
def sH(h:SAn n m):SAn (n+1) (Aa ma m):=λZ d e=>by
 unfold Aa at e;cases ea:ma Z with
 | ok x=>
  rw [ea] at e;cases em:m Z with
  | ok xs=>
   have a:=e;rw [em] at a;have b:=a;cases b;exact CV (·+1) (h Z xs em)
  | ex c=>
   have a:=e;rw [em] at a;cases a
  | bad=>
   have a:=e;rw [em] at a;cases a
 | ex c=>rw [ea] at e;cases e
 | bad=>rw [ea] at e;cases e
def wF(ha:SA K mg E t m)(hl:SAn n m)(hn:n<=sizeLine):SE K mg E (tTup t) (mtp m):=by
 intro f i F H Y Z d;have h:=ha f i F H Y Z d;unfold mtp;cases e:m Z with
 | ok ds=>
  rw [e] at h;exact λQ q=>h _ λl j k g a=>⟨by rw [a.length,hl Z ds e];exact hn,λp b=>q _ _ _ (g.trans (.new g.s b _)) (.tup (SqT.of Ak) (a.same (Cp (g.s.free b) _)))⟩
 | ex c=>
  rw [e] at h;exact λQ q=>h _ q
 | bad=>trivial
def z9(ha:SA K mg E t m)(hl:SAn n m)(hn:n<=sizeLine):SE K mg E (tLst t) (mls m):=by
 intro f i F H Y Z d;have h:=ha f i F H Y Z d;unfold mls;cases e:m Z with
 | ok ds=>
  rw [e] at h;exact λQ q=>h _ λl j k g a=>⟨by rw [a.length,hl Z ds e];exact hn,λp b=>q _ _ _ (g.trans (.new g.s b _)) (.lst (SqL.of Ak) (a.same (Cp (g.s.free b) _)))⟩
 | ex c=>
  rw [e] at h;exact λQ q=>h _ q
 | bad=>trivial
def st_b(ha:SE K mg E ta ma):STt K mg E (L2.tB ta) (trb ma):=by
 intro e f F H Y Z a;refine (ha e f F H Y Z a).bind λh i x d c g=>?_;cases d with
 | bl b=>cases g;exact .ret c.s rfl λQ q=>⟨b,rfl,q⟩
 | _=>trivial
def Um(ha:SE K mg E ta ma):STt K mg E (Ft ta) (trb ma):=st_b ha
def lX(ha:STt K mg E sa na)(hb:STt K mg E sb nb):STt K mg E (tAnd sa sb) (bAnd na nb):=by
 intro c d F H Y Z a;refine (ha c d F H Y Z a).bind λe g x h b f=>?_;cases (f);cases x with
 | true=>
  have z:=hb c d e g Y Z (a.gr b);simp only [Dd];exact z
 | false=>
  exact Ans.ret b.s rfl λQ q=>q
def ZwQ(ha:STt K mg E sa na)(hb:STt K mg E sb nb):STt K mg E (tOr sa sb) (bOr na nb):=by
 intro c d F H Y Z a;refine (ha c d F H Y Z a).bind λe g x h b f=>?_;cases (f);cases x with
 | true=>
  exact Ans.ret b.s rfl λQ q=>q
 | false=>
  have z:=hb c d e g Y Z (a.gr b);simp only [Dg,CJ];exact z
def jP(ha:STt K mg E sa na):STt K mg E (tNot sa) (bNot na):=by
 intro c d F H Y Z a;refine (ha c d F H Y Z a).bind λg h x f b e=>?_;cases (e);exact Ans.ret b.s rfl λQ q=>q
def ZuA(ha:SE K mg E ta ma)(hb:SE K mg E tb mb):SE K mg E (Vi ta tb) (eAnd ma mb):=by
 intro e f F H Y Z b;have z:=(st_b ha e f F H Y Z b).bind (k:=λx=>if x=true then mb Z else .ok (D.bl false)) (w':=λc a Q=>if c=true then tb Y a Q else Q (V.bl false) a) λh a x i d g=>by
  cases (g);cases x with
  | true=>
   have z:=hb e f h a Y Z (b.gr d);simp only [Dd];exact z
  | false=>
   exact Ans.ret d.s (.bl false) λQ q=>q
 exact z
def vW(ha:SE K mg E ta ma):SE K mg E (Rv ta) (eNot ma):=by
 intro c d F H Y Z a;exact (st_b ha c d F H Y Z a).bind λg h x f b e=>by
  cases (e);exact Ans.ret b.s (.bl _) λQ q=>q
def xn(hc:STt K mg E sa na)(ha:SE K mg E ta ma)(hb:SE K mg E tb mb):SE K mg E (tIf sa ta tb) (ife na ma mb):=by
 intro b c F H Y Z a;refine (hc b c F H Y Z a).bind λe f x h d g=>?_;cases (g);cases x with
 | true=>
  have z:=ha b c e f Y Z (a.gr d);simp only [Dd];exact z
 | false=>
  have z:=hb b c e f Y Z (a.gr d);simp only [Dg,CJ];exact z
end
section
def aL(h:∀E F H a b,Same F H->Ans mg E (Rp K mg) F H (f a b) (r (.int a) (.int b) H)):OpD K mg r (ii f):=by
 intro E F H x y e g s d c;unfold ii;split
 .cases d;cases c;exact h E F H _ _ s
 .trivial
def Kv(h:∀a b,(∃d,f a b=.ok d/\C a b/\∀F,Rp K mg F (g a b) d)\/f a b=.bad):OpD K mg (rI C g) (ii f):=by
 refine aL λE F H a b s=>?_;rcases h a b with ⟨d,e,hc,hr⟩ | e
 .rw [e];exact .ret s (hr F) λQ q=>⟨a,b,rfl,rfl,hc,q⟩
 .rw [e];trivial
def Ls(h:∀a b,(∃d,f a b=.ok d/\∀F,Rp K mg F (g a b) d)\/f a b=.bad):OpD K mg (rI0 g) (ii f):=by
 refine aL λE F H a b s=>?_;rcases h a b with ⟨d,e,hr⟩ | e
 .rw [e];exact .ret s (hr F) λQ q=>⟨a,b,rfl,rfl,q⟩
 .rw [e];trivial
def sS:OpD K mg (rI0 λi j=>.int (i - j)) dSub:=Ls λ_ _=>.inl ⟨_,rfl,λ_=>.int _⟩
def cO:OpD K mg (rI0 λi j=>.bl (decide (i<j))) dLt:=Ls λ_ _=>.inl ⟨_,rfl,λ_=>.bl _⟩
def YH:OpD K mg (rI0 λi j=>.bl (decide (i<=j))) dLe:=Ls λ_ _=>.inl ⟨_,rfl,λ_=>.bl _⟩
def wu:OpD K mg (rI0 λi j=>.bl (decide (j<i))) dGt:=Ls λ_ _=>.inl ⟨_,rfl,λ_=>.bl _⟩
def X8:OpD K mg (rI0 λi j=>.bl (decide (j<=i))) dGe:=Ls λ_ _=>.inl ⟨_,rfl,λ_=>.bl _⟩
def xK:OpD K mg (rI (λ_ j=>j≠0) λi j=>.int (i.fmod j)) Ax:=Kv λa b=>by
 unfold iMod;by_cases h1:0<b
 .rw [iP h1];exact .inl ⟨_,rfl,by omega,λ_=>by rw [Int.fmod_eq_emod_of_nonneg a (by omega)];exact .int _⟩
 .rw [iN h1];by_cases h2:b=0
  .rw [iP h2];exact .inr rfl
  .rw [iN h2];exact .inl ⟨_,rfl,h2,λ_=>.int _⟩
def sX:OpD K mg (rI VL λi j=>.int (i.fdiv j)) Bb:=Kv λa b=>by
 unfold iDiv;by_cases h0:b.natAbs.log2<9000
 .rw [iP h0];by_cases h1:0<b
  .rw [iP h1];exact .inl ⟨_,rfl,⟨by omega,h0⟩,λ_=>by rw [Qa a (by omega)];exact .int _⟩
  .rw [iN h1];by_cases h2:b=0
   .rw [iP h2];exact .inr rfl
   .rw [iN h2];exact .inl ⟨_,rfl,⟨h2,h0⟩,λ_=>.int _⟩
 .rw [iN h0];exact .inr rfl
def n6:OpD K mg (rI CPow λi j=>.int (i^j.toNat)) dPow:=Kv λa b=>by
 unfold iPow;by_cases h:0<=b/\b<=1000000/\a.natAbs<2^64
 .rw [iP h];exact .inl ⟨_,rfl,h,λ_=>.int _⟩
 .rw [iN h];exact .inr rfl
def vo:OpD K mg (rI CPow λi j=>.int (i*2^j.toNat)) dShl:=Kv λa b=>by
 unfold iShl;by_cases h:0<=b/\b<=1000000/\a.natAbs<2^64
 .rw [iP h];exact .inl ⟨_,rfl,h,λ_=>.int _⟩
 .rw [iN h];exact .inr rfl
def Zrx:OpD K mg (rI (λ_ j=>0<=j) λi j=>.int (i/2^j.toNat)) dShr:=Kv λa b=>by
 unfold iShr;by_cases h:0<=b
 .rw [iP h];exact .inl ⟨_,rfl,h,λ_=>.int _⟩
 .rw [iN h];exact .inr rfl
def qp(h:∀i H Q,Q (.int (-i)) H->r (.int i) H Q):UnD K mg r dNeg:=by
 intro E F H x b s a;unfold dNeg;split
 .cases a;exact .ret s (.int _) λQ q=>h _ _ _ q
 .trivial
def X6(K:W.Frag):R2:=λx y H Q=>∃l b a c,x=.ref l/\y=.ref b/\SqL K H l a/\SqL K H b c/\a.length+c.length<=sizeLine/\∀p,H p=none->Q (.ref p) (upd H p (.lst (a++c)))
def Xo(K:W.Frag):R2:=λx y H Q=>∃a b c d,x=.ref a/\y=.ref b/\SqT K H a c/\SqT K H b d/\c.length+d.length<=sizeLine /\
 (c=[]->Q (.ref b) H)/\(c≠[]->d=[]->Q (.ref a) H)/\(c≠[]->d≠[]->∀p,H p=none->Q (.ref p) (upd H p (.tup (c++d))))
def wC:R2:=λx y H Q=>∃i j,x=.str i/\y=.str j/\i.length+j.length<=sizeLine/\Q (.str (i++j)) H
def U8(K:W.Frag):R2:=λx y H Q=>rI0 (λi j=>.int (i+j)) x y H Q\/X6 K x y H Q\/Xo K x y H Q\/wC x y H Q
def Hs(h:n<=LIM):n<=sizeLine:=CK h (by decide)
def o7:OpD K mg (U8 K) An:=by
 intro E F H x y k l s d c;unfold An;split
 .cases d;cases c;exact .ret s (.int _) λQ q=>.inl ⟨_,_,rfl,rfl,q⟩
 .next i g=>
  by_cases h:i.length+g.length<=LIM
  .rw [iP h];cases d with
   | lst ha ra=>
    cases c with
    | lst hb rb=>
     refine N5 s (λp f=>.lst (SqL.of Ak) ((Rps.app rb ra).same (Cp (s.free f) _))) λQ q=>.inr (.inl ⟨_,_,_,_,rfl,rfl,s.seq ha,s.seq hb,?_,q⟩);rw [ra.length,rb.length];exact Hs h
  .rw [iN h];trivial
 .next i g=>
  by_cases h:i.length+g.length<=LIM
  .rw [iP h];cases d with
   | tup ha ra=>
    cases c with
    | tup hb rb=>
     rename_i a xs b ys;have j:xs.length+ys.length<=sizeLine:=by rw [ra.length,rb.length];exact Hs h
     intro Q q;refine .inr (.inr (.inl ⟨a,b,xs,ys,rfl,rfl,Ei s ha,Ei s hb,j,λe=>?_,λ_ e=>?_,λ_ _ p f=>?_⟩))
     .subst e;cases ra;exact q F H _ (.refl s) (.tup hb rb)
     .subst e;cases rb;rw [Bl] at q;exact q F H _ (.refl s) (.tup ha ra)
     .exact q _ _ _ (.new s f _) (.tup (SqT.of Ak) ((Rps.app rb ra).same (Cp (s.free f) _)))
  .rw [iN h];trivial
 .next a b=>
  by_cases h:a.length+b.length<=LIM
  .rw [iP h];cases d;cases c;exact .ret s (.str _) λQ q=>.inr (.inr (.inr ⟨_,_,rfl,rfl,Hs h,q⟩))
  .rw [iN h];trivial
 .trivial
def jj(ha:SE K mg E ta ma):SE K mg E (tOp (λx y H Q=>y=.non/\Q (.bl (decide (x=.non))) H) ta (tC .non)) (o1 dIsN ma):=by
 intro d f F H Y Z a;refine (ha d f F H Y Z a).bind λh i x c b g=>?_;have e:decide (x=V.non)=Hu c:=by cases g<;>rfl
 exact .ret b.s (.bl _) λQ q=>⟨rfl,by rw [e];exact q⟩
def ZrI(ha:SE K mg E ta ma):SE K mg E (tOp (λx y H Q=>y=.non/\Q (.bl (!decide (x=.non))) H) ta (tC .non)) (o1 G8 ma):=by
 intro d f F H Y Z a;refine (ha d f F H Y Z a).bind λh i x c b g=>?_;have e:decide (x=V.non)=Hu c:=by cases g<;>rfl
 exact .ret b.s (.bl _) λQ q=>⟨rfl,by rw [e];exact q⟩
def fB{F:Hp}{i:Int}(r:Rps K mg F xs ds)(h:at_ ds i=some d):∃x,atI xs i=some x/\Rp K mg F x d:=by
 have b:=r.length;unfold at_ at h;unfold atI ixN;by_cases h0:0<=i
 .rw [iP h0] at h;obtain ⟨x,e,a⟩:=r.get h;have c:=(Cm.mp e).1;exact ⟨x,by rw [iP h0,iP (by omega)];exact e,a⟩
 .rw [iN h0] at h;by_cases h1:-(ds.length:Int)<=i
  .rw [iP h1] at h;obtain ⟨x,e,a⟩:=r.get h;exact ⟨x,by rw [iN h0,iP (by omega),b];exact e,a⟩
  .rw [iN h1] at h;cases h
def rIxD(K:W.Frag):R2:=λx y H Q=>rIxL K x y H Q\/rIxT K x y H Q
def qC:OpD K mg (rIxD K) dIx:=by
 intro E F H x y h j s g f;unfold dIx;split
 .next b i=>
  cases e:at_ b i with
  | none=>trivial
  | some d=>
   cases g with
   | lst ha ra=>
    cases f;obtain ⟨z,c,a⟩:=fB ra e;exact Ans.ret s a λQ q=>.inl ⟨_,_,_,_,rfl,rfl,s.seq ha,c,q⟩
 .next b i=>
  cases e:at_ b i with
  | none=>trivial
  | some d=>
   cases g with
   | tup ha ra=>
    cases f;obtain ⟨z,c,a⟩:=fB ra e;exact Ans.ret s a λQ q=>.inr ⟨_,_,_,_,rfl,rfl,Ei s ha,c,q⟩
 .trivial
def fL(n d)(o):cutAt n d o=HT.sIx n d o:=by cases o<;>rfl
def dM{F:Hp}(r:Rps K mg F xs ds)(lo hi):Rps K mg F (cutV xs lo hi) (cutL ds lo hi):=by
 unfold cutV cutL;simp only [fL,r.length];exact (r.drop _).take _
def rSlU(K:W.Frag):V->Option Int->Option Int->Hp->VK->Prop:=λx c d H Q=>∃a b,x=.ref a/\SqT K H a b /\
 ((HT.sIx b.length 0 c=0/\HT.sIx b.length b.length d=b.length)->Q (.ref a) H)/\(¬(HT.sIx b.length 0 c=0/\HT.sIx b.length b.length d=b.length)->∀p,H p=none->Q (.ref p) (upd H p (.tup (cutV b c d))))
def rSlD(K:W.Frag):V->Option Int->Option Int->Hp->VK->Prop:=λx a b H Q=>rSlL K x a b H Q\/rSlU K x a b H Q
def pL(ha:SE K mg E ta ma)(hl:SO K mg E tl ml)(hh:SO K mg E th mh):SE K mg E (tSl (rSlD K) ta tl th) (cut ma ml mh):=by
 intro i j F H Y Z g;refine (ha i j F H Y Z g).bind λA u x C k t=>?_;refine (hl i j A u Y Z (g.gr k)).bind λB o l D m w=>?_;cases (w);refine (hh i j B o Y Z ((g.gr k).gr m)).bind λn v h G b y=>?_;cases (y);have c:=t.same (m.f.trans b.f);unfold dCut;split
 .cases c with
  | lst hx r=>
   refine N5 b.s (λp d=>.lst (SqL.of Ak) ((dM r l h).same (Cp (b.s.free d) _))) λQ q=>.inl ⟨_,_,rfl,b.s.seq hx,q⟩
 .cases c with
  | tup hx r=>
   rename_i ds a xs;intro Q q;refine .inr ⟨a,xs,rfl,Ei b.s hx,λe=>?_,λ_ p d=>q _ _ _ (.new b.s d _) (.tup (SqT.of Ak) ((dM r l h).same (Cp (b.s.free d) _)))⟩;have z:cutL ds l h=ds:=by
    unfold cutL;simp only [fL,<-r.length,e.1,e.2];rw [List.drop_zero,Nat.sub_zero,r.length,List.take_length]
   rw [z] at q;exact q n v _ (.refl b.s) (.tup hx r)
 .trivial
def T8:SO K mg E Rc pno:=λ_ _ _ _ _ _ r=>Ans.ret (R:=RO) r.ss rfl λ_ q=>q
def VG(ha:SE K mg E ta ma):SO K mg E (Tt ta) (pso ma):=by
 intro d e F H Y Z a;refine (ha d e F H Y Z a).bind λg h x c b f=>?_;cases c with
 | int i=>cases f;exact Ans.ret b.s rfl λQ q=>⟨i,rfl,q⟩
 | _=>trivial
def cB:CallD K mg (λxs H Q=>∃p ys,xs=[.ref p]/\(SqL K H p ys\/SqT K H p ys)/\Q (.int ys.length) H) bLen:=by
 intro E F H xs b s r;unfold bLen;split
 .obtain ⟨x,rfl,a⟩:=r.one;cases a with
  | lst h q=>rw [<-q.length];exact .ret s (.int _) λQ q=>⟨_,_,rfl,.inl (s.seq h),q⟩
 .obtain ⟨x,rfl,a⟩:=r.one;cases a with
  | tup h q=>rw [<-q.length];exact .ret s (.int _) λQ q=>⟨_,_,rfl,.inr (Ei s h),q⟩
 .trivial
def ou:CallD K mg (λxs H Q=>∃i,xs=[.int i]/\Q (.int (if i<0 then -i else i)) H) bAbs:=by
 intro E F H xs b s r;unfold bAbs;split
 .obtain ⟨x,rfl,a⟩:=r.one;cases a;exact .ret s (.int _) λQ q=>⟨_,rfl,q⟩
 .trivial
def lq:CallD K mg (λxs H Q=>∃i j,xs=[.int i,.int j]/\Q (.int (if j<i then j else i)) H) bMin:=by
 intro E F H xs c s r;unfold bMin;split
 .obtain ⟨x,y,rfl,b,a⟩:=r.two;cases b;cases a;exact .ret s (.int _) λQ q=>⟨_,_,rfl,q⟩
 .trivial
def N6:CallD K mg (λxs H Q=>∃p ys,xs=[.ref p]/\((SqL K H p ys/\∀l,H l=none->Q (.ref l) (upd H l (.tup ys)))\/(SqT K H p ys/\Q (.ref p) H))) bTup:=by
 intro E F H xs c s r;unfold bTup;split
 .obtain ⟨x,rfl,a⟩:=r.one;cases a with
  | lst h q=>exact N5 s (λp b=>.tup (SqT.of Ak) (q.same (Cp (s.free b) _))) λQ z=>⟨_,_,rfl,.inl ⟨s.seq h,z⟩⟩
 .obtain ⟨x,rfl,a⟩:=r.one;cases a with
  | tup h q=>exact .ret s (.tup h q) λQ z=>⟨_,_,rfl,.inr ⟨Ei s h,z⟩⟩
 .trivial
def spD(K:W.Frag)(mg:Str->Option Value)(n:Nat)(m:List D->Res D):Sp:=λf H Q E=>f.length=n/\∃F b,Same F H/\Rps K mg F f b/\m b≠.bad /\
 (∀d,m b=.ok d->∀e a x,Gr F H e a->Rp K mg e x d->Q x a)/\(∀c,m b=.ex c->∀e a C,Gr F H e a->mg (clsOf c)=some (.ref C)->E (.ref C) (pay c) a)
def Ro{F:Hp}(s:Same F H)(r:Rps K mg F vs ds)(hl:ds.length=n):Ans mg E (Rp K mg) F H (m ds) (λQ=>spD K mg n m vs H Q E):=by
 have b:=r.length.trans hl;cases e:m ds with
 | ok d=>
  intro Q q;refine ⟨b,F,ds,s,r,λz=>?_,λf a=>?_,λc a=>?_⟩
  .rw [e] at z;cases z
  .rw [e] at a;cases a;exact q
  .rw [e] at a;cases a
 | ex c=>
  intro Q q;refine ⟨b,F,ds,s,r,λz=>?_,λf a=>?_,λc a=>?_⟩
  .rw [e] at z;cases z
  .rw [e] at a;cases a
  .rw [e] at a;cases a;exact q
 | bad=>trivial
def sI(ha:SA K mg E t ma)(hl:SAn n ma):SE K mg E (Fe (spD K mg n m) [] E t) (on m ma):=by
 intro c g F H Y Z a;refine (ha c g F H Y Z a).bindE λf e i j h b d=>?_;have z:=Ro (E:=E) (m:=m) b.s d (hl Z f e);simp only [Bl];exact z
end
section
variable {ta:TE} {ma:ME} {F:Hp}
def AnsS.mono{w:Ends->Prop}(s:Same F F1)(h:AnsS K mg E F0 H0 F1 r w):AnsS K mg E F0 H0 F r w:=by
 cases r with
 | ok f=>
  cases f with
  | nx Z=>exact λD q=>h D λi a b e g=>q i a b (s.trans e) g
  | bk Z=>exact λD q=>h D λi a b e g=>q i a b (s.trans e) g
  | ct Z=>exact λD q=>h D λi a b e g=>q i a b (s.trans e) g
  | rt d=>exact h
 | ex c=>exact h
 | bad=>trivial
def Ans.stm{α β:Type}{R:Hp->β->α->Prop}{r:Res α}{w:(β->Hp->Prop)->Prop}{k:α->Res Fl}{w':β->Hp->Ends->Prop}(h1:Ans mg E R F H r w)(g0:Gr F0 H0 F H)(h2:∀a,r=.ok a->∀F1 H1 b,Gr F H F1 H1->R F1 b a->AnsS K mg E F0 H0 F1 (k a) (w' b H1)) :
  AnsS K mg E F0 H0 F (r.bind k) (λD=>w λb H1=>w' b H1 D):=by
 cases r with
 | ok a=>
  show AnsS K mg E F0 H0 F (k a) _;have e:=λF1 H1 b (g:Gr F H F1 H1) q=>(h2 a rfl F1 H1 b g q).mono g.f;generalize k a=r2 at e;cases r2 with
  | ok f=>
   cases f with
   | nx Z=>exact λD q=>h1 _ λF1 H1 b g h=>e F1 H1 b g h D q
   | bk Z=>exact λD q=>h1 _ λF1 H1 b g h=>e F1 H1 b g h D q
   | ct Z=>exact λD q=>h1 _ λF1 H1 b g h=>e F1 H1 b g h D q
   | rt d=>exact λD q=>h1 _ λF1 H1 b g h=>e F1 H1 b g h D q
  | ex c=>exact λD q=>h1 _ λF1 H1 b g h=>e F1 H1 b g h D q
  | bad=>trivial
 | ex c=>exact λD q=>h1 _ λF1 H1 C g i=>q F1 H1 C (g0.trans g) i
 | bad=>trivial
def WK:SS K mg E Kl nop:=λ_ _ _ _ _ _ r D q=>q _ _ _ (Same.refl _) r
def vh{n:MS}(h1:SS K mg E t m)(h2:SS K mg E u n):SS K mg E (tSeq t u) (sq m n):=by
 intro k l F H Y Z o;have h:=h1 k l F H Y Z o;unfold sq;cases e:m Z with
 | ok f=>
  rw [e] at h;cases f with
  | nx Z'=>
   show AnsS K mg E k l F (n Z') _;have a:=λb i g (s:Same F b) j=>(h2 k l b i g Z' j).mono s;generalize n Z'=r2 at a;cases r2 with
   | ok f=>
    cases f with
    | nx Z=>exact λD q=>h _ λb i g s j=>a b i g s j D q
    | bk Z=>exact λD q=>h _ λb i g s j=>a b i g s j D q
    | ct Z=>exact λD q=>h _ λb i g s j=>a b i g s j D q
    | rt d=>exact λD q=>h _ λb i g s j=>a b i g s j D q
   | ex c=>exact λD q=>h _ λb i g s j=>a b i g s j D q
   | bad=>trivial
  | bk Z'=>exact λD q=>h _ q
  | ct Z'=>exact λD q=>h _ q
  | rt d=>exact λD q=>h _ q
 | ex c=>rw [e] at h;exact λD q=>h _ q
 | bad=>trivial
def qj(ha:SE K mg E ta ma):SS K mg E (CQ ta) (drp ma):=by
 intro c f F H Y Z a;exact (ha c f F H Y Z a).stm a.g λd _ e h x b i=>λD q=>q e h Y (Same.refl _) (a.gr b)
def xj(ha:SE K mg E ta ma):SS K mg E (tRet ta) (ret ma):=by
 intro c f F H Y Z a;exact (ha c f F H Y Z a).stm a.g λd _ e i x b h=>λD q=>q e i x (a.g.trans b) h
def rE:SS K mg E J6 cnt:=λ_ _ _ _ _ _ r D q=>q _ _ _ (Same.refl _) r
def ye{n:MS}(hc:STt K mg E sc nc)(h1:SS K mg E t m)(h2:SS K mg E u n):SS K mg E (tIfS sc t u) (ifs nc m n):=by
 intro c d F H Y Z a;refine (hc c d F H Y Z a).stm a.g λb _ f h x e i=>?_;cases (i);cases b with
 | true=>
  have z:=h1 c d f h Y Z (a.gr e);simp only [Dd];exact z
 | false=>
  have z:=h2 c d f h Y Z (a.gr e);simp only [Dg,CJ];exact z
def sU{l:List α}{x:α}(h:i<n):(l.set i x).drop n=l.drop n:=by
 rw [List.drop_set,iP h]
def kZ(h:i<n):SG K mg n (Ci i) (gN i):=λ_ _ _ _ _ _ _ _ r a _ q=>q _ _ _ (Same.refl _) (r.set i a) (sU h)
def lH:SGs K mg n gNil gs0:=by
 intro b d F H Y Z e c r a;unfold gs0;split
 .cases a;exact λQ q=>⟨rfl,q _ _ _ (Same.refl _) r rfl⟩
 .trivial
def Zn6(h1:SG K mg n t g)(h2:SGs K mg n u gs):SGs K mg n (Q0 t u) (gs1 g gs):=by
 intro f i F H Y Z k a r j;cases j with
 | nil=>trivial
 | cons rx j=>
  rename_i x k d a;have h:=h1 f i F H Y Z x d r rx;show AnsG K mg f i F n Y ((g d Z).bind λb=>gs a b) _;cases e:g d Z with
  | ok b=>
   rw [e] at h;show AnsG K mg f i F n Y (gs a b) _;cases e2:gs a b with
   | ok Z''=>
    refine λQ q=>⟨x,k,rfl,h _ λB w p l y z=>?_⟩;have m:=h2 f i B w p b k a y (j.same l);rw [e2] at m;exact m _ λC s v D o A=>q C s v (l.trans D) o (A.trans z)
   | ex c=>trivial
   | bad=>trivial
  | ex c=>trivial
  | bad=>trivial
def gLst(K:W.Frag)(n:Nat)(t:TGs):TG:=λv Y H Q=>∃a b,v=.ref a/\SqL K H a b/\b.length=n/\t b Y H Q
def gSeq(K:W.Frag)(n:Nat)(t:TGs):TG:=λv Y H Q=>gTup K n t v Y H Q\/gLst K n t v Y H Q
def ZtP(h:SGs K mg n t g):SG K mg n (gSeq K k t) (gU k g):=by
 intro f i F H Y Z x d r j;unfold gU items;split
 .next a=>
  show AnsG K mg f i F n Y (if a.length=k then g a Z else .bad) _
  by_cases hl:a.length=k
  .rw [iP hl];cases j with
   | lst ha ra=>
    have b:=h f i F H Y Z _ _ r ra;cases e:g a Z with
    | ok Z'=>
     rw [e] at b;exact λQ q=>.inr ⟨_,_,rfl,r.ss.seq ha,ra.length.trans hl,b Q q⟩
    | ex c=>trivial
    | bad=>trivial
  .rw [iN hl];trivial
 .next a=>
  show AnsG K mg f i F n Y (if a.length=k then g a Z else .bad) _
  by_cases hl:a.length=k
  .rw [iP hl];cases j with
   | tup ha ra=>
    have b:=h f i F H Y Z _ _ r ra;cases e:g a Z with
    | ok Z'=>
     rw [e] at b;exact λQ q=>.inl ⟨_,_,rfl,Ei r.ss ha,ra.length.trans hl,b Q q⟩
    | ex c=>trivial
    | bad=>trivial
  .rw [iN hl];trivial
 .trivial
def Zus{t:TG}{g:MG}(ha:SE K mg E ta ma)(hg:SG K mg n t g)(hx:∀d Z c,g d Z≠.ex c):SS K mg E (tAsg ta t) (asg g ma):=by
 intro b f F H Y Z a;refine (ha b f F H Y Z a).stm a.g λd _ r m x i l=>?_;have h:=hg b f r m Y Z x d (a.gr i) l;cases e:g d Z with
 | ok Z'=>
  rw [e] at h;exact λD q=>h _ λp j k s o _=>q p j k s o
 | ex c=>exact aB e (hx d Z c)
 | bad=>trivial
def u9(ha:SE K mg E ta ma):SS K mg E (tAsg ta (Ci i)) (st i ma):=by
 intro c f F H Y Z a;exact (ha c f F H Y Z a).stm a.g λd _ e j x b h=>λD q=>q e j _ (Same.refl _) ((a.gr b).set i h)
def zG{tb:TE}{mb:ME}(ha:SE K mg E ta ma)(hb:SE K mg E tb mb):SS K mg E (tPar i j (BW ta (BW tb tNil))) (par i j ma mb):=by
 intro c h F H Y Z a;refine (ha c h F H Y Z a).stm a.g λd _ p o x b n=>?_;refine (hb c h p o Y Z (a.gr b)).stm (a.g.trans b) λe _ r m y k l=>?_;exact λD q=>⟨x,y,rfl,q r m _ (Same.refl _) ((((a.gr b).gr k).set i (n.same k.f)).set j l)⟩
def m8(h:SS K mg E t m):SS K mg E t (frz i m):=by
 intro b f F H Y Z a;unfold frz getO;split
 .next g e=>
  obtain ⟨d,s,c⟩:=a.frz e;exact (h b f d H Y _ c).mono s
 .trivial
def wB(ha:SE K mg E ta ma)(hty:∀H a xs,H a=some (.lst xs)->tyV K "list" (.ref a) H):SS K mg E (CQ (tBM K "list" Gp (tVar i) (BW ta tNil))) (app i ma):=by
 intro t v F H Y Z l;unfold app getO;split
 .next j e=>
  show AnsS K mg E t v F ((ma Z).bind λd=>if j.length<LIM then .ok (.nx (Z.set i (.ow (j++[d])))) else .bad) _
  obtain ⟨a,xs,r,C,G,s,w⟩:=l.ow i j e;have A:=w.length;have h:=(ha t v F H Y Z l).stm (K:=K) (k:=λd=>if j.length<LIM then .ok (.nx (Z.set i (.ow (j++[d])))) else .bad) (w':=λx n D=>Gp (.ref a) [x] n λ_ p=>D.nx Y p) l.g λd _ B L x m I=>?_
  .generalize ((ma Z).bind λd=>if j.length<LIM then Res.ok (Fl.nx (Z.set i (.ow (j++[d])))) else .bad)=res at h
   have b:∀D:Ends,(ta Y H λx n=>Gp (.ref a) [x] n λ_ p=>D.nx Y p)->CQ (tBM K "list" Gp (tVar i) (BW ta tNil)) D Y H:=λD z=>⟨.ref a,r,hty H a xs s,z⟩;cases res with
   | ok f=>
    cases f with
    | nx Z=>exact λD q=>b D (h D q)
    | bk Z=>exact λD q=>b D (h D q)
    | ct Z=>exact λD q=>b D (h D q)
    | rt d=>exact λD q=>b D (h D q)
   | ex c=>exact λD q=>b D (h D q)
   | bad=>trivial
  .by_cases hlim:j.length<LIM
   .simp only [hlim,Dd];have y:=l.gr m;obtain ⟨J,u⟩:=m.o a _ G s;exact λD q=>⟨a,xs,x,rfl,rfl,u,by rw [A];exact Bu hlim (by decide),q B _ Y (Same.refl _) (y.app e r u C J (w.same m.f) I)⟩
   .simp only [hlim,CJ];trivial
 .trivial
def iSeq(K:W.Frag)(tl:TE):TI:=λY H R=>tl Y H λx b=>∃a,x=.ref a/\(((∃c,SqL K b a c)/\R (Itl K a) b)\/((∃c,SqT K b a c)/\R (Itt K a) b))
def yI(h:SqL K F a xs)(r:Rps K mg F xs ds):ItOk K mg F (Itl K a) ds:=by
 intro m o c j i;have b:=(c.trans j).seq h;refine ⟨λd e=>?_,λl=>⟨xs,b,by rw [r.length];exact l⟩⟩;obtain ⟨x,g,n⟩:=r.get e;refine ⟨⟨xs,x,b,g⟩,λy k q=>?_⟩;obtain ⟨rfl,q⟩:=q;have f:=q xs b;rw [g] at f;cases f;exact ⟨m,.refl j,n.same c⟩
def uz(h:SqT K F a xs)(r:Rps K mg F xs ds):ItOk K mg F (Itt K a) ds:=by
 intro m o c j i;have b:=Ei (c.trans j) h;refine ⟨λd e=>?_,λl=>⟨xs,b,by rw [r.length];exact l⟩⟩;obtain ⟨x,g,n⟩:=r.get e;refine ⟨⟨xs,x,b,g⟩,λy k q=>?_⟩;obtain ⟨rfl,q⟩:=q;have f:=q xs b;rw [g] at f;cases f;exact ⟨m,.refl j,n.same c⟩
def Zr(lo)(n):ItOk K mg F (Itr lo n) (Cd lo n):=by
 intro f h j g i;unfold Cd;refine ⟨λd e=>?_,λb=>?_⟩
 .rw [By] at e;have a:i<n:=by
   rcases Nat.lt_or_ge i n with z | z
   .exact z
   .rw [List.getElem?_eq_none (by rw [Bv];exact z)] at e;cases e
  rw [QT a] at e;cases e;refine ⟨a,λy c q=>?_⟩;obtain ⟨rfl,rfl⟩:=q;exact ⟨f,.refl g,.int _⟩
 .rw [Af,Bv] at b;exact b
def rn(ha:SE K mg E ta ma):SI K mg E (iSeq K ta) (iv ma):=by
 intro e f F H Y Z c;refine (ha e f F H Y Z c).bind λg i x d a b=>?_;cases d with
 | lst ds=>
  cases b with
  | lst h r=>exact Ans.ret a.s (yI h r) λQ q=>⟨_,rfl,.inl ⟨⟨_,a.s.seq h⟩,q⟩⟩
 | tup ds=>
  cases b with
  | tup h r=>exact Ans.ret a.s (uz h r) λQ q=>⟨_,rfl,.inr ⟨⟨_,Ei a.s h⟩,q⟩⟩
 | _=>trivial
def s8(ha:SA K mg E t m):SI K mg E (Tq t) (r1 m):=by
 intro c e F H Y Z a;refine (ha c e F H Y Z a).bind λi l k g b d=>?_;unfold rng1;split
 .next j=>
  by_cases h:-1000000000<=j/\j<=1000000000
  .rw [iP h];obtain ⟨x,rfl,f⟩:=d.one;cases f;exact Ans.ret b.s (Zr 0 _) λQ q=>⟨j,rfl,by omega,by omega,q⟩
  .rw [iN h];trivial
 .trivial
def tY(ha:SA K mg E t m):SI K mg E (VB t) (r2 m):=by
 intro f g F H Y Z e;refine (ha f g F H Y Z e).bind λo n l k a c=>?_;unfold rng2;split
 .next i j=>
  by_cases h:(-1000000000<=i/\i<=1000000000)/\(-1000000000<=j/\j<=1000000000)
  .rw [iP h];obtain ⟨x,y,rfl,d,b⟩:=c.two;cases d;cases b;exact Ans.ret a.s (Zr i _) λQ q=>⟨i,j,rfl,by omega,q⟩
  .rw [iN h];trivial
 .trivial
def Zs8{wi:TI}{mi:MI}{t:TG}{g:MG}{u:TS}{m:MS}(hi:SI K mg E wi mi)(hg:SG K mg n t g)(hx:∀d Z c,g d Z≠.ex c)(hb:SS K mg E u m):SS K mg E (tFor wi t u) (for_ mi g m):=by
 intro v w F H Y Z rr
 refine (hi v w F H Y Z rr).stm (w':=λJ H1 D=>∃W:Nat->Nat->St->Hp->Prop,(∃m,W 0 m Y H1)/\∀i m Y H,W i m Y H ->
  (J.stop i H/\D.nx Y H)\/(J.go i H/\∃N:St->Hp->Prop,(∀j a,N j a->∃Q,Q<m/\W (i+1) Q j a)/\∀x a,J.yld i H x a->t x Y a λM B=>u { D with nx:=N,ct:=N,bk:=D.nx } M B)) rr.g λo _ O H1 J g1 jo=>?_
 have r1:=rr.gr g1;have s:∀(D:Ends) (b:Res Fl),b≠.bad->(∀l,b=.ok (.nx l)->∀h a j,Same O h->Rep K mg v w h a j l->D.nx j a)->(∀l,b=.ok (.bk l)->∀h a j,Same O h->Rep K mg v w h a j l->D.bk j a) ->
   (∀l,b=.ok (.ct l)->∀h a j,Same O h->Rep K mg v w h a j l->D.ct j a)->(∀d,b=.ok (.rt d)->∀h a x,Gr v w h a->Rp K mg h x d->D.rt x a) ->
   (∀c,b=.ex c->∀h a C,Gr v w h a->mg (clsOf c)=some (.ref C)->E (.ref C) (pay c) a)->Cj g m o Z=b ->
   ∃W:Nat->Nat->St->Hp->Prop,(∃m,W 0 m Y H1)/\∀i m Y H,W i m Y H ->
    (J.stop i H/\D.nx Y H)\/(J.go i H/\∃N:St->Hp->Prop,(∀j a,N j a->∃Q,Q<m/\W (i+1) Q j a)/\∀x a,J.yld i H x a->t x Y a λM B=>u { D with nx:=N,ct:=N,bk:=D.nx } M B):=by
  intro D b G qn qb qc qr qe e0;refine ⟨λi k j a=>k=o.length - i/\i<=o.length/\∃l h,Same O h/\Rep K mg v w h a j l/\Cj g m (o.drop i) l=b,⟨o.length,by simp,DR _,Z,O,Same.refl _,r1,e0⟩,?_⟩;rintro i k j a ⟨rfl,hi',l,h,X,U,e⟩;by_cases hlt:i<o.length
  .refine .inr ?_;have hd:=BX hlt;obtain ⟨go,yl⟩:=(jo h a X U.ss i).1 _ hd;rw [JD hlt] at e;refine ⟨go,λM B=>∃p P,Same O P/\Rep K mg v w P B M p/\Cj g m (o.drop (i+1)) p=b,λM B zq=>by obtain ⟨p,P,s2,r2,r⟩:=zq;exact ⟨o.length - (i+1),by omega,rfl,hlt,p,P,s2,r2,r⟩,λx B y=>?_⟩;obtain ⟨P,g2,rx⟩:=yl x B y;have r2:=U.gr g2;have hG:=hg v w P B j l x _ r2 rx;have V:(g o[i] l).bind (λS=>(m S).bind (turn (Cj g m (o.drop (i+1)))))=b:=e;cases eg:g o[i] l with
   | ok S=>
    rw [eg] at V hG;refine hG _ λF3 H3 Y3 s3 r3 _=>?_;have L:=hb v w F3 H3 Y3 S r3;have sF:=X.trans (g2.f.trans s3);have r:(m S).bind (turn (Cj g m (o.drop (i+1))))=b:=V;cases em:m S with
    | ok f=>
     rw [em] at r L;cases f with
     | nx p=>exact L _ λA I Y4 T R=>⟨p,A,sF.trans T,R,r⟩
     | ct p=>exact L _ λA I Y4 T R=>⟨p,A,sF.trans T,R,r⟩
     | bk p=>exact L _ λA I Y4 T R=>qn p r.symm A I Y4 (sF.trans T) R
     | rt d=>exact L _ λA I y g4 ry=>qr d r.symm A I y g4 ry
    | ex c=>
     rw [em] at r L;exact L _ λA I C g4 hc=>qe c r.symm A I C g4 hc
    | bad=>rw [em] at r;exact aB r.symm G
   | ex c=>exact aB eg (hx _ _ c)
   | bad=>rw [eg] at V;exact aB V.symm G
  .have hi2:i=o.length:=by omega
   subst hi2;rw [J7 (Al _)] at e;exact .inl ⟨(jo h a X U.ss _).2 (Al _),qn l e.symm h a j X U⟩
 cases e:Cj g m o Z with
 | ok f=>
  cases f with
  | nx p=>exact λD q=>s D _ (λz=>by cases z) (λ_ z=>by cases z;exact q) (λ_ z=>by cases z) (λ_ z=>by cases z) (λ_ z=>by cases z) (λ_ z=>by cases z) e
  | bk p=>exact λD q=>s D _ (λz=>by cases z) (λ_ z=>by cases z) (λ_ z=>by cases z;exact q) (λ_ z=>by cases z) (λ_ z=>by cases z) (λ_ z=>by cases z) e
  | ct p=>exact λD q=>s D _ (λz=>by cases z) (λ_ z=>by cases z) (λ_ z=>by cases z) (λ_ z=>by cases z;exact q) (λ_ z=>by cases z) (λ_ z=>by cases z) e
  | rt d=>exact λD q=>s D _ (λz=>by cases z) (λ_ z=>by cases z) (λ_ z=>by cases z) (λ_ z=>by cases z) (λ_ z=>by cases z;exact q) (λ_ z=>by cases z) e
 | ex c=>exact λD q=>s D _ (λz=>by cases z) (λ_ z=>by cases z) (λ_ z=>by cases z) (λ_ z=>by cases z) (λ_ z=>by cases z) (λ_ z=>by cases z;exact q) e
 | bad=>trivial
def u6{n:Ev->Nat}(hc:STt K mg E sc nc)(hb:SS K mg E u m):SS K mg E (Qt sc u) (whl n nc m):=by
 intro v w F H Y Z rr;have r:∀D a,a≠.bad->(∀i,a=.ok (.nx i)->∀l j o,Same F l->Rep K mg v w l j o i->D.nx o j)->(∀i,a=.ok (.bk i)->∀l j o,Same F l->Rep K mg v w l j o i->D.bk o j) ->
   (∀i,a=.ok (.ct i)->∀l j o,Same F l->Rep K mg v w l j o i->D.ct o j)->(∀d,a=.ok (.rt d)->∀l j x,Gr v w l j->Rp K mg l x d->D.rt x j) ->
   (∀c,a=.ex c->∀l j C,Gr v w l j->mg (clsOf c)=some (.ref C)->E (.ref C) (pay c) j)->whGo nc m (n Z) Z=a->Qt sc u D Y H:=by
  intro D a t S qb qc qr U e0;refine ⟨λk o j=>∃i l,Same F l/\Rep K mg v w l j o i/\whGo nc m k i=a,⟨n Z,Z,F,Same.refl _,rr,e0⟩,?_⟩;rintro k o j ⟨i,l,W,P,e⟩;cases k with
  | zero=>exact aB e.symm t
  | succ k=>
   have B:(nc i).bind (λx=>if x=true then (m i).bind (turn (whGo nc m k)) else .ok (.nx i))=a:=e
   have N:=hc v w l j o i P;cases ec:nc i with
   | ok b=>
    rw [ec] at B N;refine N _ λF2 X b' Q eb=>?_;cases (eb);have r2:=P.gr Q;cases b with
    | true=>
     have G:=hb v w F2 X o i r2;have p:=B;refine ⟨λY3 T=>∃J V,Same F V/\Rep K mg v w V T Y3 J/\whGo nc m k J=a,λY3 T h=>⟨k,Gh _,h⟩,?_⟩;have R:=W.trans Q.f;cases em:m i with
     | ok f=>
      rw [em] at p G;cases f with
      | nx Z2=>exact G _ λs A O M I=>⟨Z2,s,R.trans M,I,p⟩
      | ct Z2=>exact G _ λs A O M I=>⟨Z2,s,R.trans M,I,p⟩
      | bk Z2=>exact G _ λs A O M I=>S Z2 p.symm s A O (R.trans M) I
      | rt d=>exact G _ λs A y L ry=>qr d p.symm s A y L ry
     | ex c=>
      rw [em] at p G;exact G _ λs A C L hc=>U c p.symm s A C L hc
     | bad=>rw [em] at p;exact aB p.symm t
    | false=>
     have p:=B;exact S i p.symm F2 X o (W.trans Q.f) r2
   | ex c=>
    rw [ec] at B N;exact N _ λs A C L hc=>U c B.symm s A C (P.g.trans L) hc
   | bad=>rw [ec] at B;exact aB B.symm t
 unfold whl;cases e:whGo nc m (n Z) Z with
 | ok f=>
  cases f with
  | nx Z2=>exact λD q=>r D _ (λz=>by cases z) (λ_ z=>by cases z;exact q) (λ_ z=>by cases z) (λ_ z=>by cases z) (λ_ z=>by cases z) (λ_ z=>by cases z) e
  | bk Z2=>exact λD q=>r D _ (λz=>by cases z) (λ_ z=>by cases z) (λ_ z=>by cases z;exact q) (λ_ z=>by cases z) (λ_ z=>by cases z) (λ_ z=>by cases z) e
  | ct Z2=>exact λD q=>r D _ (λz=>by cases z) (λ_ z=>by cases z) (λ_ z=>by cases z) (λ_ z=>by cases z;exact q) (λ_ z=>by cases z) (λ_ z=>by cases z) e
  | rt d=>exact λD q=>r D _ (λz=>by cases z) (λ_ z=>by cases z) (λ_ z=>by cases z) (λ_ z=>by cases z) (λ_ z=>by cases z;exact q) (λ_ z=>by cases z) e
 | ex c=>exact λD q=>r D _ (λz=>by cases z) (λ_ z=>by cases z) (λ_ z=>by cases z) (λ_ z=>by cases z) (λ_ z=>by cases z) (λ_ z=>by cases z;exact q) e
 | bad=>trivial
end
section
variable {F:Hp}
def Rep.inner{own:List Str}{cap:List (Str×Nat)}(r:Rep K mg F0 H0 F H Y Z)(gb:Gr Fb Hb F H):Rep K mg Fb Hb F H (st0 own Y cap) (noA own.length (Az Z (cap.map (·.2)))):=by
 have b:∀i c,(noA own.length (Az Z (cap.map (·.2))))[i]?=some c->c=.no\/∃j p d,i=own.length+j/\cap[j]?=some p/\Z[p.2]?=some (.im d)/\c=.im d:=by
  intro i c e;rw [Q7,Us] at e;by_cases hi:i<own.length
  .rw [Ea (by simpa using hi),Ib,iP hi] at e;cases e;exact .inl rfl
  .rw [Fo (by simpa using hi),Jq] at e;rw [DN,By] at e;cases q:cap[i - own.length]? with
   | none=>rw [q] at e;cases e
   | some p=>
    rw [q] at e;have f:imOf Z[p.2]?=c:=Bt e;unfold imOf at f;split at f
    .next d h=>exact .inr ⟨i - own.length,p,d,by omega,q,h,f.symm⟩
    .exact .inl f.symm
 refine ⟨gb,?_,λi d e=>?_,λi g e=>?_,λi j g m a e=>?_⟩
 .rw [Q7,Us];unfold st0 capt;simp
 .rcases b i _ e with z | ⟨j,p,d',rfl,hp,hρ,z⟩
  .cases z
  .cases z;obtain ⟨x,k,l⟩:=r.im p.2 d hρ;refine ⟨x,?_,l⟩;unfold st0 capt;rw [Fo (by simp),Jq,Nat.add_sub_cancel_left,By,hp];show some ((Y[p.2]?).join)=_;rw [k];rfl
 .rcases b i _ e with z | ⟨j,p,d',rfl,hp,hρ,z⟩<;>cases z
 .rcases b i _ e with z | ⟨j,p,d',rfl,hp,hρ,z⟩<;>cases z
def R7:(st0 own Y cap).drop own.length=capt Y cap:=by
 unfold st0;rw [List.drop_append_of_le_length (by simp),List.drop_of_length_le (by simp)];rfl
def SN{own:List Str}{cap:List (Str×Nat)}(r:Rep K mg F0 H0 F H Y Z)(jo:ItOk K mg F J ds)(hg:SG K mg own.length t g)(ht:STt K mg E tt nt)(he:SE K mg E te me)(hl:ds.length<=LIM)(e0:Dl.Ar g nt me (noA own.length (Az Z (cap.map (·.2)))) ds=.ok ys)(Q)(q:∀F' H' xs,Gr F H F' H'->Rps K mg F' xs ys->xs.length<=sizeLine->∀p,H' p=none->Q (.ref p) (upd H' p (.lst xs))) :
  Iw J t tt te own cap Y Q H:=by
 refine ⟨λi k a H'=>k=ds.length - i/\i<=ds.length/\a.length<=i/\∃F' v l,Gr F H F' H'/\Rps K mg F' a v/\Dl.Ar g nt me (noA own.length (Az Z (cap.map (·.2)))) (ds.drop i)=.ok l/\v++l=ys,
  ⟨ds.length,by simp,DR _,Al _,F,[],ys,.refl r.ss,.nil,e0,rfl⟩,?_⟩
 rintro i k a H' ⟨rfl,U,V,F',v,l,h,G,A,w⟩;have B:=CK V (CK U hl);refine ⟨Hs B,?_⟩;by_cases hlt:i<ds.length
 .refine .inr ?_;have hd:=BX hlt;obtain ⟨T,yl⟩:=(jo F' H' h.f h.s i).1 _ hd;rw [JD hlt] at A;refine ⟨T,λx P y=>?_⟩;obtain ⟨F2,D,rx⟩:=yl x P y;have rr:=(r.gr (h.trans D)).inner (own:=own) (cap:=cap) (h.trans D);have S:=hg F H F2 P _ _ x _ rr rx;have n:(g ds[i] (noA own.length (Az Z (cap.map (·.2))))).bind (λd=>(nt d).bind λb=>if b=true then (me d).bind λy=>(Dl.Ar g nt me (noA own.length (Az Z (cap.map (·.2)))) (ds.drop (i+1))).bind λys=>.ok (y::ys) else Dl.Ar g nt me (noA own.length (Az Z (cap.map (·.2)))) (ds.drop (i+1)))=.ok l:=A
  cases eg:g ds[i] (noA own.length (Az Z (cap.map (·.2)))) with
  | ok d=>
   rw [eg] at n S;refine S _ λF3 W R X z d3=>⟨d3.trans R7,?_⟩;have N:=ht F H F3 W R d z;have O:=D.f.trans X;have j:(nt d).bind (λb=>if b=true then (me d).bind λy=>(Dl.Ar g nt me (noA own.length (Az Z (cap.map (·.2)))) (ds.drop (i+1))).bind λys=>.ok (y::ys) else Dl.Ar g nt me (noA own.length (Az Z (cap.map (·.2)))) (ds.drop (i+1)))=.ok l:=n
   cases et:nt d with
   | ok b=>
    rw [et] at j N;refine N _ λM H4 b' o eb=>?_;cases (eb);cases b with
    | true=>
     have e:=j;have I:=he F H M H4 R d (z.gr o);cases em:me d with
     | ok y'=>
      rw [em] at e I;refine I _ λF5 H5 u L ru=>⟨G7 B (by decide),ds.length - (i+1),by omega,rfl,hlt,by rw [Bo];show a.length+1<=i+1;omega,?_⟩;have m:=e;cases ec:Dl.Ar g nt me (noA own.length (Az Z (cap.map (·.2)))) (ds.drop (i+1)) with
      | ok rs'=>
       rw [ec] at m;have e6:=m;cases e6;exact ⟨F5,v++[y'],rs',z.g.trans (o.trans L),Rps.app (.cons ru .nil) (G.same (O.trans (o.f.trans L.f))),rfl,by rw [Do];exact w⟩
      | ex c=>rw [ec] at m;cases m
      | bad=>rw [ec] at m;cases m
     | ex c=>rw [em] at e;cases e
     | bad=>rw [em] at e;cases e
    | false=>
     have e:=j;exact ⟨ds.length - (i+1),by omega,rfl,hlt,by omega,M,v,l,z.g.trans o,G.same (O.trans o.f),e,w⟩
   | ex c=>rw [et] at j;cases j
   | bad=>rw [et] at j;cases j
  | ex c=>rw [eg] at n;cases n
  | bad=>rw [eg] at n;cases n
 .have C:i=ds.length:=by omega
  subst C;rw [J7 (Al _)] at A;cases A;rw [Bl] at w;subst w;exact .inl ⟨(jo F' H' h.f h.s _).2 (Al _),q F' H' a h G (Hs B)⟩
def ie{te:Fam TE}(hi:SI K mg E wi mi)(hg:∀C s H fp pn,SG K mg own.length (t C s H fp pn) g)(ht:∀C s H fp pn,STt K mg E0 (tt C s H fp pn) nt)(he:∀C s H fp pn,SE K mg E0 (te C s H fp pn) me) :
  SE K mg E (Et wi t tt te own cap) (comp mi own.length (cap.map (·.2)) g nt me):=by
 intro k m F H Y Z f;refine (hi k m F H Y Z f).bind λv r J d i l=>?_;by_cases hl:d.length<=LIM
 .rw [iP hl];cases e:Dl.Ar g nt me (noA own.length (Az Z (cap.map (·.2)))) d with
  | ok ys=>exact λQ q C s a fp pn=>SN (f.gr i) l (hg C s a fp pn) (ht C s a fp pn) (he C s a fp pn) hl e Q λu n o b j _ p h=>q _ _ _ (b.trans (.new b.s h _)) (.lst (SqL.of Ak) (j.same (Cp (b.s.free h) _)))
  | ex c=>trivial
  | bad=>trivial
 .rw [iN hl];trivial
end
structure DE(X:Cx)(E:XK)(e:Expr)(t:TE)(m:ME):Prop where
 p:PE X e t
 s:SE X.K X.mg E t m
structure DT(X:Cx)(E:XK)(e:Expr)(t:TT)(m:MB):Prop where
 p:PT X e t
 s:STt X.K X.mg E t m
structure DW(X:Cx)(E:XK)(e:Expr)(t:TT)(m:MB):Prop where
 p:PW X e t
 s:STt X.K X.mg E t m
structure DA(X:Cx)(E:XK)(n:Nat)(es:List Expr)(t:TA)(m:MA):Prop where
 p:PA X es t
 s:SA X.K X.mg E t m
 n:SAn n m
structure DO(X:Cx)(E:XK)(e:Option Expr)(t:TO)(m:Ev->Res (Option Int)):Prop where
 p:PO X e t
 s:SO X.K X.mg E t m
structure DS(X:Cx)(E:XK)(st:Stmt)(t:TS)(m:MS):Prop where
 p:PS X st t
 s:SS X.K X.mg E t m
structure DSs(X:Cx)(E:XK)(st:List Stmt)(t:TS)(m:MS):Prop where
 p:PSs X st t
 s:SS X.K X.mg E t m
structure DG(X:Cx)(n:Nat)(e:Expr)(t:TG)(g:MG):Prop where
 p:PG X e t
 s:SG X.K X.mg n t g
 x:∀d Z c,g d Z≠.ex c
structure DGs(X:Cx)(n:Nat)(es:List Expr)(t:TGs)(g:MGs):Prop where
 p:PGs X es t
 s:SGs X.K X.mg n t g
 x:∀d Z c,g d Z≠.ex c
structure DI(X:Cx)(E:XK)(tg e:Expr)(t:TI)(m:MI):Prop where
 p:PI X tg e t
 s:SI X.K X.mg E t m
section
variable {a b c':Expr} {ta tb tc:TE} {ma mb mc:ME} {sa sb:TT} {na nb:MB} {t:TA} {m:MA}
def d_v(i)(hN:X.N[i]?=some x:=by rfl)(hv:Dv X.env.scope x:=by first | exact Or.inl rfl | exact Or.inr (Or.inl rfl) | exact Or.inr (Or.inr rfl))(hd:ND x:=by decide)(hcd:NE x:=by decide):DE X E (.Name x pos) (tVar i) (v i):=⟨Ej hN hv hd hcd,se_v i⟩
def Ef{i j}:DE X E (.Constant (.int i) j pos) (tC (.int i)) (c (.int i)):=⟨vp,se_c λ_=>.int _⟩
def J4{i j}:DE X E (.Constant (.bool i) j pos) (tC (.bl i)) (c (.bl i)):=⟨Zxp,se_c λ_=>.bl _⟩
def dB{j}:DE X E (.Constant .none j pos) (tC .non) (c .non):=⟨Sq,se_c λ_=>.non⟩
def wM{i j}:DE X E (.Constant (.str i) j pos) (tC (.str i)) (c (.str i)):=⟨yF,se_c λ_=>.str _⟩
def PL{k:String}(hg:Gl X x)(hm:X.mg x=none)(hv:bootBuiltins x=some (.type k))(hn:x ≠ "__name__":=by decide)(hd:ND x:=by decide):DE X E (.Name x pos) (tC (.ty k)) (c (.ty k)) :=
 ⟨xq hg hm hv hn hd,se_c λ_=>.ty _⟩
def NB{i:Int}(hg:Gl X x)(hm:X.mg x=some (.int i tk))(hd:ND x:=by decide):DE X E (.Name x pos) (tC (.int i)) (c (.int i)):=⟨Xf hg hm ⟨_,rfl⟩ hd,se_c λ_=>.int _⟩
def Hi(ho:OpR X (binaryOp op) r)(hf:OpD X.K X.mg r f)(ha:DE X E a ta ma)(hb:DE X E b tb mb):DE X E (.BinOp a op b pos) (tOp r ta tb) (o2 f ma mb):=⟨Yj ho ha.p hb.p,Q4 hf ha.s hb.s⟩
def QK(ho:OpR X (compareOp op) r)(hf:OpD X.K X.mg r f)(ha:DE X E a ta ma)(hb:DE X E b tb mb)(hm:behindInMarks op b=false):DE X E (.Compare a [op] [b] pos) (tOp r ta tb) (o2 f ma mb):=⟨gf ho ha.p hb.p hm,Q4 hf ha.s hb.s⟩
def Jc(ho:OpR X (compareOp op) r)(hf:OpD X.K X.mg r f)(ha:DE X E a ta ma)(hb:DE X E b tb mb)(hm:behindInMarks op b=false):DT X E (.Compare a [op] [b] pos) (Ft (tOp r ta tb)) (trb (o2 f ma mb)):=⟨RV ho ha.p hb.p hm,Um (Q4 hf ha.s hb.s)⟩
def OpR.or(h:OpR X f r)(h':OpR X f r'):OpR X f (λx y H Q=>r x y H Q\/r' x y H Q):=by
 intro a s Y H x y v u Q I c b q;rcases q with q | q
 .exact h a s Y H x y v u Q I c b q
 .exact h' a s Y H x y v u Q I c b q
def mC:OpR X (binaryOp .Add) (X6 X.K):=by
 intro a s Y H x y v u Q I e c h;obtain ⟨l,b,i,j,rfl,rfl,d,f,g,q⟩:=h;cases e;cases c;exact mz I d f g q
def oV:OpR X (binaryOp .Add) (Xo X.K):=by
 intro c s Y H x y v u Q I e d h;obtain ⟨a,b,n,m,rfl,rfl,f,k,i,j,g,l⟩:=h;cases e;cases d;exact pN I f k i j g l
def uY:OpR X (binaryOp .Add) (U8 X.K):=OpR.or vH (OpR.or mC (OpR.or oV zW))
def Q3(ha:DE X E a ta ma)(hb:DE X E b tb mb):DE X E (.BinOp a .Add b pos) (tOp (U8 X.K) ta tb) (o2 An ma mb):=Hi uY o7 ha hb
def Zxn(ha:DE X E a ta ma)(hb:DE X E b tb mb):DE X E (.BinOp a .Sub b pos) (tOp (rI0 λi j=>V.int (i - j)) ta tb) (o2 dSub ma mb):=Hi jM sS ha hb
def pU{a b:Int}(h:Bj a b=true):IntMulOk a b:=by
 have h':(a.natAbs<2^64\/b.natAbs<2^64)\/a.natAbs.log2+b.natAbs.log2<100000000:=by simpa [Bj] using h
 rcases h' with (h' | h') | h'
 .exact .of_left (intBits_le_iff.mpr h')
 .exact .of_right (intBits_le_iff.mpr h')
 .have d:a.natAbs<2^(a.natAbs.log2+1):=Nat.lt_log2_self;have c:b.natAbs<2^(b.natAbs.log2+1):=Nat.lt_log2_self;exact IntMulOk.of_le (intBits_le_iff.mpr d) (intBits_le_iff.mpr c) (by omega)
def uK:OpD K mg (rI IntMulOk λi j=>.int (i*j)) Aw:=Kv λa b=>by
 unfold iMul;by_cases h:Bj a b=true
 .rw [iP h];exact .inl ⟨_,rfl,pU h,λ_=>.int _⟩
 .rw [iN h];exact .inr rfl
def lR(ha:DE X E a ta ma)(hb:DE X E b tb mb):DE X E (.BinOp a .Mult b pos) (tOp (rI IntMulOk λi j=>V.int (i*j)) ta tb) (o2 Aw ma mb):=Hi Zsk uK ha hb
def aA(ha:DE X E a ta ma)(hb:DE X E b tb mb):DE X E (.BinOp a .Mod b pos) (tOp (rI (λ_ j=>j≠0) λi j=>V.int (i.fmod j)) ta tb) (o2 Ax ma mb):=Hi zA xK ha hb
def my(ha:DE X E a ta ma)(hb:DE X E b tb mb):DE X E (.BinOp a .FloorDiv b pos) (tOp (rI VL λi j=>V.int (i.fdiv j)) ta tb) (o2 Bb ma mb):=Hi iM sX ha hb
def rD(ha:DE X E a ta ma)(hb:DE X E b tb mb):DE X E (.BinOp a .Pow b pos) (tOp (rI CPow λi j=>V.int (i^j.toNat)) ta tb) (o2 dPow ma mb):=Hi ym n6 ha hb
def yU(ha:DE X E a ta ma)(hb:DE X E b tb mb):DE X E (.BinOp a .LShift b pos) (tOp (rI CPow λi j=>V.int (i*2^j.toNat)) ta tb) (o2 dShl ma mb):=Hi Ztd vo ha hb
def ZwO(ha:DE X E a ta ma)(hb:DE X E b tb mb):DE X E (.BinOp a .RShift b pos) (tOp (rI (λ_ j=>0<=j) λi j=>V.int (i/2^j.toNat)) ta tb) (o2 dShr ma mb):=Hi nU Zrx ha hb
def ue(ha:DE X E a ta ma):DE X E (.UnaryOp .USub a pos) (tUn (rU λi=>V.int (-i)) ta) (o1 dNeg ma):=⟨uP pO ha.p,Wr (qp λ_ _ _ q=>⟨_,rfl,q⟩) ha.s⟩
def fV(ha:DE X E a ta ma)(hb:DE X E b tb mb):DE X E (.Compare a [.Lt] [b] pos) (tOp (rI0 λi j=>V.bl (decide (i<j))) ta tb) (o2 dLt ma mb):=QK aG cO ha hb (Fg _)
def gG(ha:DE X E a ta ma)(hb:DE X E b tb mb):DE X E (.Compare a [.LtE] [b] pos) (tOp (rI0 λi j=>V.bl (decide (i<=j))) ta tb) (o2 dLe ma mb):=QK dZ YH ha hb (Fg _)
def uw(ha:DE X E a ta ma)(hb:DE X E b tb mb):DE X E (.Compare a [.GtE] [b] pos) (tOp (rI0 λi j=>V.bl (decide (j<=i))) ta tb) (o2 dGe ma mb):=QK Xu X8 ha hb (Fg _)
def zJ(ha:DE X E a ta ma)(hb:DE X E b tb mb):DT X E (.Compare a [.Lt] [b] pos) (Ft (tOp (rI0 λi j=>V.bl (decide (i<j))) ta tb)) (trb (o2 dLt ma mb)):=Jc aG cO ha hb (Fg _)
def qt(ha:DE X E a ta ma)(hb:DE X E b tb mb):DT X E (.Compare a [.LtE] [b] pos) (Ft (tOp (rI0 λi j=>V.bl (decide (i<=j))) ta tb)) (trb (o2 dLe ma mb)):=Jc dZ YH ha hb (Fg _)
def T3(ha:DE X E a ta ma)(hb:DE X E b tb mb):DT X E (.Compare a [.Gt] [b] pos) (Ft (tOp (rI0 λi j=>V.bl (decide (j<i))) ta tb)) (trb (o2 dGt ma mb)):=Jc qJ wu ha hb (Fg _)
def uG(ha:DE X E a ta ma)(hb:DE X E b tb mb):DT X E (.Compare a [.GtE] [b] pos) (Ft (tOp (rI0 λi j=>V.bl (decide (j<=i))) ta tb)) (trb (o2 dGe ma mb)):=Jc Xu X8 ha hb (Fg _)
mutual
def pyD:D->PyData
 | .non=>.none
 | .bl b=>.bool b
 | .int i=>.int i
 | .str x=>.str x
 | .tup xs=>.tuple (pyDs xs)
 | .lst xs=>.list (pyDs xs)
 | _=>.none
def pyDs:List D->List PyData
 | []=>[]
 | x::r=>pyD x::pyDs r
end
mutual
def Oz:∀x y,∀k l,Dl.plain k x=true->Dl.plain l y=true->eqD x y=PyData.eqv (pyD x) (pyD y)
 | .non,y,_,_,_,hy=>by cases y<;>first | rfl | (simp [Dl.plain] at hy)
 | .bl _,y,_,_,_,hy=>by cases y<;>first | rfl | (simp [Dl.plain] at hy)
 | .int _,y,_,_,_,hy=>by cases y<;>first | rfl | (simp [Dl.plain] at hy)
 | .str _,y,_,_,_,hy=>by cases y<;>first | rfl | (simp [Dl.plain] at hy)
 | .tup xs,y,k,l,hx,hy=>by
  cases y<;>first | rfl | (simp [Dl.plain] at hy;done) | skip
  rename_i ys;cases k with
  | zero=>simp [Dl.plain] at hx
  | succ k=>
   cases l with
   | zero=>simp [Dl.plain] at hy
   | succ l=>exact Uv xs ys k l (by simpa [Dl.plain] using hx) (by simpa [Dl.plain] using hy)
 | .lst xs,y,k,l,hx,hy=>by
  cases y<;>first | rfl | (simp [Dl.plain] at hy;done) | skip
  rename_i ys;cases k with
  | zero=>simp [Dl.plain] at hx
  | succ k=>
   cases l with
   | zero=>simp [Dl.plain] at hy
   | succ l=>exact Uv xs ys k l (by simpa [Dl.plain] using hx) (by simpa [Dl.plain] using hy)
 | .ty _,_,k,_,hx,_=>by cases k<;>simp [Dl.plain] at hx
 | .cls _,_,k,_,hx,_=>by cases k<;>simp [Dl.plain] at hx
 | .exc _,_,k,_,hx,_=>by cases k<;>simp [Dl.plain] at hx
 | .ins _ _ _,_,k,_,hx,_=>by cases k<;>simp [Dl.plain] at hx
def Uv:∀xs ys,∀k l,Dl.Bk k xs=true->Dl.Bk l ys=true->eqDs xs ys=PyData.eqvAll (pyDs xs) (pyDs ys)
 | [],[],_,_,_,_=>rfl
 | [],_::_,_,_,_,_=>rfl
 | _::_,[],_,_,_,_=>rfl
 | x::xs,y::ys,k,l,hx,hy=>by
  have a:Dl.plain k x=true/\Dl.Bk k xs=true:=by simpa [Dl.Bk] using hx
  have b:Dl.plain l y=true/\Dl.Bk l ys=true:=by simpa [Dl.Bk] using hy
  show (eqD x y&&eqDs xs ys)=(PyData.eqv (pyD x) (pyD y)&&PyData.eqvAll (pyDs xs) (pyDs ys));rw [Oz x y k l a.1 b.1,Uv xs ys k l a.2 b.2]
end
mutual
def Ku:∀x k,Dl.plain k x=true->(pyD x).canLay0=true/\(pyD x).depth<=k
 | .non,_,_=>⟨rfl,DR _⟩
 | .bl _,_,_=>⟨rfl,DR _⟩
 | .int _,_,_=>⟨rfl,DR _⟩
 | .str x,_,h=>⟨by simpa [Dl.plain,pyD,PyData.canLay0,PyData.strOk] using h,DR _⟩
 | .tup xs,0,h=>by simp [Dl.plain] at h
 | .lst xs,0,h=>by simp [Dl.plain] at h
 | .tup xs,k+1,h=>by
  obtain ⟨a,b⟩:=Oj xs k (by simpa [Dl.plain] using h);exact ⟨a,Nat.succ_le_succ b⟩
 | .lst xs,k+1,h=>by
  obtain ⟨a,b⟩:=Oj xs k (by simpa [Dl.plain] using h);exact ⟨a,Nat.succ_le_succ b⟩
 | .ty _,k,h=>by cases k<;>simp [Dl.plain] at h
 | .cls _,k,h=>by cases k<;>simp [Dl.plain] at h
 | .exc _,k,h=>by cases k<;>simp [Dl.plain] at h
 | .ins _ _ _,k,h=>by cases k<;>simp [Dl.plain] at h
def Oj:∀xs k,Dl.Bk k xs=true->PyData.canLayAll0 (pyDs xs)=true/\PyData.depthAll (pyDs xs)<=k
 | [],_,_=>⟨rfl,DR _⟩
 | x::xs,k,h=>by
  have a:Dl.plain k x=true/\Dl.Bk k xs=true:=by simpa [Dl.Bk] using h
  obtain ⟨b,c⟩:=Ku x k a.1;obtain ⟨d,e⟩:=Oj xs k a.2;refine ⟨?_,Nat.max_le.mpr ⟨c,e⟩⟩;show (PyData.canLay0 (pyD x)&&PyData.canLayAll0 (pyDs xs))=true;rw [b,d];rfl
end
mutual
def Jt{K:W.Frag}{mg:Str->Option Value}{F:Hp}{x:V}{d:D}{k:Nat}(h:Rp K mg F x d)(p:Dl.plain k d=true):DV K F x (pyD d):=by
 cases h with
 | non=>exact .non
 | bl b=>exact .bl b
 | int b=>exact .int b
 | str b=>exact .str b
 | tup h r=>
  cases k with
  | zero=>simp [Dl.plain] at p
  | succ k=>exact .tup h (Qz r (by simpa [Dl.plain] using p))
 | lst h r=>
  cases k with
  | zero=>simp [Dl.plain] at p
  | succ k=>exact .lst h (Qz r (by simpa [Dl.plain] using p))
 | ty _=>cases k<;>simp [Dl.plain] at p
 | cls _=>cases k<;>simp [Dl.plain] at p
 | exc _ _=>cases k<;>simp [Dl.plain] at p
 | ins _ _ _ _ _=>cases k<;>simp [Dl.plain] at p
def Qz{K:W.Frag}{mg:Str->Option Value}{F:Hp}{xs:List V}{ds:List D}{k:Nat}(h:Rps K mg F xs ds)(p:Dl.Bk k ds=true):DVs K F xs (pyDs ds):=by
 cases h with
 | nil=>exact .nil
 | cons h r=>
  have a:=(by simpa [Dl.Bk] using p);exact .cons (Jt h a.1) (Qz r a.2)
end
mutual
def Jl{K:W.Frag}{F H:Hp}(s:Same F H){x:V}{d:PyData}(h:DV K F x d):DV K H x d:=by
 cases h with
 | non=>exact .non
 | bl b=>exact .bl b
 | int b=>exact .int b
 | str b=>exact .str b
 | tup h r=>exact .tup (Ei s h) (N7 s r)
 | lst h r=>exact .lst (s.seq h) (N7 s r)
def N7{K:W.Frag}{F H:Hp}(s:Same F H){xs:List V}{ds:List PyData}(h:DVs K F xs ds):DVs K H xs ds:=by
 cases h with
 | nil=>exact .nil
 | cons h r=>exact .cons (Jl s h) (N7 s r)
end
def W2:OpD K mg (rEqD K id) dEq:=by
 intro E F H x y b c s i d;unfold dEq;by_cases h:(Dl.plain 50 b&&Dl.plain 50 c)=true
 .rw [iP h];have a:Dl.plain 50 b=true/\Dl.plain 50 c=true:=by simpa using h
  obtain ⟨e,g⟩:=Ku b 50 a.1;obtain ⟨f,j⟩:=Ku c 50 a.2;exact .ret s (.bl _) λQ q=>⟨_,_,Jl s (Jt i a.1),Jl s (Jt d a.2),e,f,CK g (by decide),by rw [<-Oz b c 50 50 a.1 a.2];exact q⟩
 .rw [iN h];trivial
def ZvK:OpD K mg (rEqD K not) dNe:=by
 intro E F H x y b c s i d;unfold dNe;by_cases h:(Dl.plain 50 b&&Dl.plain 50 c)=true
 .rw [iP h];have a:Dl.plain 50 b=true/\Dl.plain 50 c=true:=by simpa using h
  obtain ⟨e,g⟩:=Ku b 50 a.1;obtain ⟨f,j⟩:=Ku c 50 a.2;exact .ret s (.bl _) λQ q=>⟨_,_,Jl s (Jt i a.1),Jl s (Jt d a.2),e,f,CK g (by decide),by rw [<-Oz b c 50 50 a.1 a.2];exact q⟩
 .rw [iN h];trivial
def bJ(hr:Room k X.A)(ha:DE X E a ta ma)(hb:DE X E b tb mb):DE X E (.Compare a [.Eq] [b] pos) (tOp (rEqD X.K id) ta tb) (o2 dEq ma mb):=QK (X3 hr.units) W2 ha hb (Fg _)
def pW(hr:Room k X.A)(ha:DE X E a ta ma)(hb:DE X E b tb mb):DT X E (.Compare a [.Eq] [b] pos) (Ft (tOp (rEqD X.K id) ta tb)) (trb (o2 dEq ma mb)):=Jc (X3 hr.units) W2 ha hb (Fg _)
def Jv(hr:Room k X.A)(ha:DE X E a ta ma)(hb:DE X E b tb mb):DT X E (.Compare a [.NotEq] [b] pos) (Ft (tOp (rEqD X.K not) ta tb)) (trb (o2 dNe ma mb)):=Jc (pH hr.units) ZvK ha hb (Fg _)
def Ui{j pos'}(ha:DE X E a ta ma):DT X E (.Compare a [.Is] [.Constant .none j pos'] pos) (Ft (tOp (λx y H Q=>y=V.non/\Q (V.bl (decide (x=V.non))) H) ta (tC .non))) (trb (o1 dIsN ma)):=⟨RV jA ha.p Sq (Fg _),Um (jj ha.s)⟩
def Vw{j pos'}(ha:DE X E a ta ma):DT X E (.Compare a [.IsNot] [.Constant .none j pos'] pos) (Ft (tOp (λx y H Q=>y=V.non/\Q (V.bl (!decide (x=V.non))) H) ta (tC .non))) (trb (o1 G8 ma)):=⟨RV xH ha.p Sq (Fg _),Um (ZrI ha.s)⟩
def Gd(ha:DE X E a ta ma)(hb:DE X E b tb mb)(hs:RP b:=by exact λ_ _=>rfl):DE X E (.Subscript a b pos) (tOp (rIxD X.K) ta tb) (o2 dIx ma mb):=⟨TY (IxR.or R3 TJ) ha.p hb.p hs,Q4 qC ha.s hb.s⟩
def Gv(ha:DE X E a ta ma)(he:∀whole,isTrue a X.env whole=(do let v <-whole;standAt a.pos;holding [v] (truthy v)):=by intro _;rfl):DT X E a (L2.tB ta) (trb ma):=⟨iZ ha.p he,st_b ha.s⟩
def iD(ha:DT X E a sa na):DW X E (.BoolOp .And [a] pos) sa na:=⟨yt ha.p,ha.s⟩
def Nu(ha:DT X E a sa na):DW X E (.BoolOp .Or [a] pos) sa na:=⟨fj ha.p,ha.s⟩
def Zc{rest:List Expr}(ha:DT X E a sa na)(hb:DW X E (.BoolOp .And (b::rest) pos) sb nb):DW X E (.BoolOp .And (a::b::rest) pos) (tAnd sa sb) (bAnd na nb):=⟨jQ ha.p hb.p,lX ha.s hb.s⟩
def Kf{rest:List Expr}(ha:DT X E a sa na)(hb:DW X E (.BoolOp .Or (b::rest) pos) sb nb):DW X E (.BoolOp .Or (a::b::rest) pos) (tOr sa sb) (bOr na nb):=⟨oK ha.p hb.p,ZwQ ha.s hb.s⟩
def DW.dt(h:DW X E a sa na):DT X E a sa na:=⟨h.p.pt,h.s⟩
def Ho(ha:DT X E a sa na):DT X E (.UnaryOp .Not a pos) (tNot sa) (bNot na):=⟨sW ha.p,jP ha.s⟩
def Zxm{op}(ha:DE X E a ta ma):DE X E (.BoolOp op [a] pos) ta ma:=⟨gk ha.p,ha.s⟩
def gY{rest:List Expr}(ha:DE X E a ta ma)(hb:DE X E (.BoolOp .And (b::rest) pos) tb mb):DE X E (.BoolOp .And (a::b::rest) pos) (Vi ta tb) (eAnd ma mb):=⟨tV ha.p hb.p,ZuA ha.s hb.s⟩
def jJ(ha:DE X E a ta ma):DE X E (.UnaryOp .Not a pos) (Rv ta) (eNot ma):=⟨m6 ha.p,vW ha.s⟩
def il(hc:DT X E c' sa na)(ha:DE X E a ta ma)(hb:DE X E b tb mb):DE X E (.IfExp c' a b pos) (tIf sa ta tb) (ife na ma mb):=⟨qu hc.p ha.p hb.p,xn hc.s ha.s hb.s⟩
def Br:DA X E 0 [] tNil Ab:=⟨Fw,O6,aO⟩
def BL(ha:DE X E e te me)(hr:DA X E n es t m)(hs:starEach (e::es) X.env=(false,eval e X.env)::starEach es X.env:=by rfl):DA X E (n+1) (e::es) (BW te t) (Aa me m):=⟨Dt ha.p hr.p hs,lU ha.s hr.s,sH hr.n⟩
def Wc{x1}(h:DA X E n es t m)(hn:n<=sizeLine:=by decide):DE X E (.Tuple es x1 pos) (tTup t) (mtp m):=⟨Wu h.p,wF h.s h.n hn⟩
def YJ(h:DA X E n es t m)(hn:n<=sizeLine:=by decide):DE X E (.List es pos) (tLst t) (mls m):=⟨O8 h.p,z9 h.s h.n hn⟩
def GR{id:String}{r:List V->Hp->VK->Prop}{f:List D->Res D}{p:Pos}(hc:Ey X (.builtin id) r)(hf:CallD X.K X.mg r f)(hg:Gl X x)(hm:X.mg x=none)(hv:bootBuiltins x=some (.builtin id))(ha:DA X E n (e::es) t m)(hn:x ≠ "__name__":=by decide)(hdb:ND x:=by decide)(he:starEach (e::es) X.env=(false,eval e X.env)::starEach es X.env:=by rfl)(hpl:(backTo pos (starEach es X.env)).any (·.1)=false:=by rfl):DE X E (.Call (.Name x p) (e::es) [] pos) (tCB r t) (on f m):=⟨Vm hc hg hm hv ha.p hn hdb he hpl,WM hf ha.s⟩
def PP(hc:Ey X (.type T) r)(hf:CallD X.K X.mg r f)(hg:Gl X x)(hm:X.mg x=none)(hv:bootBuiltins x=some (.type T))(ha:DA X E n (e::es) t m)(hn:x ≠ "__name__":=by decide)(hdb:ND x:=by decide)(he:starEach (e::es) X.env=(false,eval e X.env)::starEach es X.env:=by rfl)(hpl:(backTo pos (starEach es X.env)).any (·.1)=false:=by rfl):DE X E (.Call (.Name x p) (e::es) [] pos) (tCB r t) (on f m):=⟨ZS hc hg hm hv ha.p hn hdb he hpl,WM hf ha.s⟩
structure Cal(P:Program)(w:World)(K:W.Frag)(mg:Str->Option Value)(base:Heap)(n:Nat)(x:Str)(ps:List Str)(m:List D->Res D):Prop where
 ex:∃(f:Addr) (fd:FuncData),FnOk P w K mg base (CXR P w) n f fd ps (spD K mg ps.length m)/\Binds K fd ps []/\W.keepIn K (.ref f)=true/\mg x=some (.ref f)
def GX(C:Cal X.prog X.w X.K X.mg X.base k x ps f)(hr:Room l X.A)(hn:k<=l)(hg:Gl X x)(hx:Dr (CXR X.prog X.w) X E)(ha:DA X E n (e::es) t m)(hps:ps.length=n:=by rfl)(hdb:ND x:=by decide)(he:starEach (e::es) X.env=(false,eval e X.env)::starEach es X.env:=by rfl)(hpl:(backTo pos (starEach es X.env)).any (·.1)=false:=by rfl) :
  DE X E (.Call (.Name x p) (e::es) [] pos) (Fe (spD X.K X.mg ps.length f) [] E t) (on f m):=by
 obtain ⟨g,d,F,b,c,a⟩:=C.ex;exact ⟨Oh F (hr.mono hn) hg a c b .nil hx ha.p hdb he hpl,by rw [hps];exact sI ha.s ha.n⟩
def uv:Dr (CXR X.prog X.w) (Bh X N scope cl C s H fp pn) E0:=by
 intro a Y H s e b I h;obtain ⟨_,_,_,_,_,_,_,q⟩:=h;exact q.elim
end
section
variable {a b c' tg:Expr} {ta tb tc:TE} {ma mb mc:ME} {sa sb:TT} {na nb:MB} {t:TA} {m:MA}
def yQ:SlR X (rSlU X.K):=by
 intro d s Y H x v o p m g q Q I j f n k h;obtain ⟨a,b,rfl,i,t,u⟩:=h;by_cases hw:HT.sIx b.length 0 m=0/\HT.sIx b.length b.length g=b.length
 .cases j;obtain ⟨e,r,l,w⟩:=I.tuple i;have c:e.toArray.size=b.length:=by rw [Bg];exact r.length.symm
  exact ⟨"tuple",_,PyProof.Rows.slot_tuple_getitem.lookup,l.typeIs,HT.wN l f n k (by rw [c];exact hw) ⟨.ref a,H,I,rfl,t hw⟩⟩
 .exact xX d s Y H (.ref a) v o p m g q Q I j f n k ⟨a,b,rfl,i,hw,u hw⟩
def qG:DO X E none Rc pno:=⟨nj,T8⟩
def su(h:DE X E a ta ma):DO X E (some a) (Tt ta) (pso ma):=⟨zr h.p,VG h.s⟩
def kO{lo hi:Option Expr}{tl th:TO}{ml mh:Ev->Res (Option Int)}{p2:Pos}(ha:DE X E a ta ma)(hl:DO X E lo tl ml)(hh:DO X E hi th mh):DE X E (.Subscript a (.Slice lo hi none p2) pos) (tSl (rSlD X.K) ta tl th) (cut ma ml mh) :=
 ⟨wW (SlR.or tX yQ) ha.p hl.p hh.p,pL ha.s hl.s hh.s⟩
def oM{n:String}(ht:Qs d=some tn)(hn:O9.contains n=true):W.kitOne K (.type tn) (.type n)=some (isTy tn n):=by
 have a:n = "int"\/n = "bool"\/n = "str"\/n = "tuple"\/n = "list"\/n = "dict":=by
  simpa [O9] using hn
 have b:tn = "NoneType"\/tn = "bool"\/tn = "int"\/tn = "str"\/tn = "tuple"\/tn = "list":=by
  cases d<;>simp [Qs] at ht<;>subst ht<;>simp
 rcases b with rfl | rfl | rfl | rfl | rfl | rfl<;>rcases a with rfl | rfl | rfl | rfl | rfl | rfl <;>
  first
  | exact iJ K _
  | exact yf K (by decide +kernel) (by decide +kernel) (by decide +kernel)
def rIsi(K:W.Frag):List V->Hp->VK->Prop:=λd H Q=>∃x n c b,d=[x,.ty n]/\W.kitOne K (.type c) (.type n)=some b/\Q (.bl b) H /\
 ((x=.non/\c = "NoneType")\/(∃y,x=.bl y/\c = "bool")\/(∃y,x=.int y/\c = "int")\/(∃y,x=.str y/\c = "str")\/(∃a d,x=.ref a/\SqT K H a d/\c = "tuple")\/(∃a d,x=.ref a/\SqL K H a d/\c = "list"))
def wI:Ey X (.builtin "isinstance") (rIsi X.K):=by
 intro d s Y H k t Q I r h;obtain ⟨x,n,p,l,rfl,e,q,h⟩:=h;obtain ⟨u,v,rfl,c,m⟩:=vals2 r;cases m;have b:∀j,EP X d Y Q (.bool l) { s with toks:=j }:=λj=>⟨.bl l,H,I.tok _,rfl,q⟩
 rcases h with ⟨rfl,rfl⟩ | ⟨y,rfl,rfl⟩ | ⟨y,rfl,rfl⟩ | ⟨y,rfl,rfl⟩ | ⟨a,k,rfl,hq,rfl⟩ | ⟨a,k,rfl,hq,rfl⟩
 .exact Ol I c .non e b
 .exact Ol I c (.bl y) e b
 .exact Ol I c (.int y) e b
 .exact Ol I c (.str y) e b
 .cases c;obtain ⟨i,_,⟨o,f,g,_⟩,_⟩:=I.tuple hq;exact Gg W.kitx_tuple I.kIn ⟨o,f,g⟩ e (λz=>nomatch z) b
 .cases c;obtain ⟨i,_,⟨o,_,f,g,_⟩,_⟩:=I.list hq;exact Gg W.kitx_list I.kIn ⟨o,f,g⟩ e (λz=>nomatch z) b
def ZkJ:CallD K mg (rIsi K) bIsi:=by
 intro E F H g f s r;unfold bIsi;split
 .next d a=>
  obtain ⟨x,y,rfl,c,b⟩:=r.two;cases b;by_cases hn:O9.contains a=true
  .rw [iP hn];cases e:Qs d with
   | none=>trivial
   | some tn=>
    have k:=oM (K:=K) e hn;refine .ret s (.bl _) λQ q=>⟨x,a,tn,_,rfl,k,q,?_⟩;cases c with
    | non=>cases e;exact .inl ⟨rfl,rfl⟩
    | bl y=>cases e;exact .inr (.inl ⟨y,rfl,rfl⟩)
    | int y=>cases e;exact .inr (.inr (.inl ⟨y,rfl,rfl⟩))
    | str y=>cases e;exact .inr (.inr (.inr (.inl ⟨y,rfl,rfl⟩)))
    | ty y=>cases e
    | cls y=>cases e
    | exc y h=>cases e
    | ins m h o q r=>cases e
    | tup h r=>cases e;exact .inr (.inr (.inr (.inr (.inl ⟨_,_,rfl,Ei s h,rfl⟩))))
    | lst h r=>cases e;exact .inr (.inr (.inr (.inr (.inr ⟨_,_,rfl,s.seq h,rfl⟩))))
  .rw [iN hn];trivial
 .trivial
def J2(hN:X.N.Nodup)(hi:X.N[i]?=some x)(hx:Loc X.env.scope x)(hl:i<n)(hf:X.fn x=true\/X.env.scope.names.lookup x=some .local:=by first | exact .inl rfl | exact .inr rfl | assumption):DG X n (.Name x pos) (Ci i) (gN i) :=
 ⟨tL hN hi hx hf,kZ hl,λ_ _ _ h=>by cases h⟩
def Sh:DGs X n [] gNil gs0:=⟨ZqL,lH,λd Z c h=>by
 unfold gs0 at h
 split at h<;>cases h⟩
def Ni{t:TG}{u:TGs}{g:MG}{gs:MGs}(h1:DG X n e t g)(h2:DGs X n es u gs)(hs:(assignEach (e::es) X.env).map (·.2)=assign e X.env::(assignEach es X.env).map (·.2):=by rfl):DGs X n (e::es) (Q0 t u) (gs1 g gs) :=
 ⟨ux h1.p h2.p hs,Zn6 h1.s h2.s,λd Z c h=>by
  unfold gs1 at h;split at h
  .next a b=>
   cases eg:g a Z with
   | ok Z'=>
    rw [eg] at h;exact h2.x b Z' c h
   | ex c'=>exact h1.x a Z c' eg
   | bad=>rw [eg] at h;cases h
  .cases h⟩
def Up(hc:X.calm=true)(h:DGs X n es u g)(hn:(assignEach es X.env).length=j:=by rfl)(hst:(assignEach es X.env).findIdx? (·.1)=none:=by rfl):DG X n (.Tuple es k pos) (gSeq X.K j u) (gU j g):=by
 refine ⟨?_,ZtP h.s,λd Z c l=>?_⟩
 .intro f s Y H v w Q I r hw;rcases hw with hw | hw
  .exact ZvE hc h.p hn hst f s Y H v w Q I r hw
  .obtain ⟨a,m,D,z,B,hw⟩:=hw;subst D;cases r;obtain ⟨C,q,A,E⟩:=I.list z;refine ji (I.ok.hd hc) A.isList (by simp [hn,<-B,q.length]) hst λF y=>?_;have t:=I.kept (t':=s.toks) λb o e=>y b o (BK (Aq e)) e;exact h.p f _ Y H m _ Q t (by simpa using q) hw
 .unfold gU at l;cases ei:items d with
  | ok m=>
   rw [ei] at l;have i:(if m.length=j then g m Z else .bad)=.ex c:=l
   split at i
   .exact h.x m Z c i
   .cases i
  | ex c'=>unfold items at ei;split at ei<;>cases ei
  | bad=>rw [ei] at l;cases l
def DK(h:DE X E a ta ma):DI X E tg a (iSeq X.K ta) (iv ma):=by
 refine ⟨?_,rn h.s⟩;intro f s Y H R I r;refine thn (h.p f s Y H _ I r) λv d zq=>?_;obtain ⟨x,l,c,n,i⟩:=zq;obtain ⟨p,rfl,i⟩:=i;cases n;rcases i with ⟨⟨xs,hq⟩,q⟩ | ⟨⟨xs,hq⟩,q⟩
 .obtain ⟨j,m,g,t⟩:=c.list hq;refine Mp g.isList ?_;refine ⟨d.heap.objs.size,[d.heap.objs.size],_,_,l,rfl,c.kept λb o e=>Ao _ e,qI p _,⟨_,Bp _ rfl,rfl,rfl⟩,λb k=>?_,q⟩;have e:b=d.heap.objs.size:=by simpa using k
  subst e;exact c.fpOk (Al _) (c.hok.fresh (Al _))
 .obtain ⟨j,m,g,t⟩:=c.tuple hq;refine wpAny_pyIter_tuple (g) ?_;refine ⟨d.heap.objs.size,[d.heap.objs.size],_,_,l,rfl,c.kept λb o e=>Ao _ e,mj p _,⟨_,Bp _ rfl,rfl,rfl⟩,λb k=>?_,q⟩;have e:b=d.heap.objs.size:=by simpa using k
  subst e;exact c.fpOk (Al _) (c.hok.fresh (Al _))
def yx(hg:Gl X "range")(hm:X.mg "range"=none)(ha:DA X E n [a] t m)(hs:starEach [a] X.env=[(false,eval a X.env)]:=by rfl):DI X E tg (.Call (.Name "range" p) [a] [] pos) (Tq t) (r1 m):=⟨mU hg hm ha.p hs,s8 ha.s⟩
def W5(hg:Gl X "range")(hm:X.mg "range"=none)(ha:DA X E n [a,b] t m)(hs:starEach [a,b] X.env=[(false,eval a X.env),(false,eval b X.env)]:=by rfl)(hs2:starEach [b] X.env=[(false,eval b X.env)]:=by rfl) :
  DI X E tg (.Call (.Name "range" p) [a,b] [] pos) (VB t) (r2 m):=⟨yG hg hm ha.p hs hs2,tY ha.s⟩
def ZX:∀(ds:List D) (k i:Nat) (d:D),(Dl.numbered k ds)[i]?=some d->∃x,ds[i]?=some x/\d=.tup [.int (k+i:Nat),x]
 | [],_,_,_,h=>by simp [Dl.numbered] at h
 | x::r,k,0,d,h=>by simp [Dl.numbered] at h;exact ⟨x,rfl,h.symm⟩
 | x::r,k,i+1,d,h=>by
  obtain ⟨y,a,b⟩:=ZX r (k+1) i d (by simpa [Dl.numbered] using h);exact ⟨y,by simpa using a,by rw [b,Nat.add_right_comm,Nat.add_assoc]⟩
def Yo:∀ds k,(Dl.numbered k ds).length=ds.length
 | [],_=>rfl
 | _::r,k=>CV (·+1) (Yo r (k+1))
def cJ:∀(xs ys:List D) (i:Nat) (d:D),(pairs xs ys)[i]?=some d->∃x y,xs[i]?=some x/\ys[i]?=some y/\d=.tup [x,y]
 | [],_,_,_,h=>by simp [pairs] at h
 | _::_,[],_,_,h=>by simp [pairs] at h
 | x::r,y::s,0,d,h=>by simp [pairs] at h;exact ⟨x,y,rfl,rfl,h.symm⟩
 | x::r,y::s,i+1,d,h=>by
  obtain ⟨a,b,f,c,e⟩:=cJ r s i d (by simpa [pairs] using h);exact ⟨a,b,by simpa using f,by simpa using c,e⟩
def pairs_len:∀xs ys,(pairs xs ys).length=min xs.length ys.length
 | [],_=>by simp [pairs]
 | _::_,[]=>by simp [pairs]
 | x::r,y::s=>by simp [pairs,pairs_len r s]
def Ztz{F:Hp}{a:Addr}(h:SqL K F a xs)(r:Rps K mg F xs ds):ItOk K mg F (Ite K a) (Dl.numbered 0 ds):=by
 intro v t f c i;have b:=(f.trans c).seq h;refine ⟨λd e=>?_,λg=>⟨xs,b,by rw [r.length];rw [Yo] at g;exact g⟩⟩;obtain ⟨u,s,rfl⟩:=ZX ds 0 i d e;obtain ⟨x,k,n⟩:=r.get s;refine ⟨⟨xs,x,b,k⟩,λy m q=>?_⟩;obtain ⟨T,p,l,rfl,rfl,o⟩:=q;have j:=o xs b;rw [k] at j;cases j;refine ⟨_,.new c l _,.tup (SqT.of Ak) (.cons ?_ (.cons ((n.same f).same (Cp (c.free l) _)) .nil))⟩;rw [KQ];exact .int _
def JM{p:Bool}{a:Addr}(e:Same H H')(h:SqB K p H a xs):SqB K p H' a xs:=by
 cases p
 .exact e.seq h
 .exact Ei e h
def q7{F:Hp}{p q:Bool}{a b:Addr}{ys:List V}{es:List D}(h:SqB K p F a xs)(r:Rps K mg F xs ds)(h':SqB K q F b ys)(r':Rps K mg F ys es):ItOk K mg F (ItzK K p q a b) (pairs ds es):=by
 intro J E g f i;have j:=JM (g.trans f) h;have c:=JM (g.trans f) h';refine ⟨λd e=>?_,λB=>⟨xs,ys,j,c,by rw [r.length,r'.length];rw [pairs_len] at B;omega⟩⟩;obtain ⟨H,L,w,C,rfl⟩:=cJ ds es i d e;obtain ⟨x,s,v⟩:=r.get w;obtain ⟨y,n,u⟩:=r'.get C;refine ⟨⟨xs,ys,x,y,j,c,s,n⟩,λz t q=>?_⟩;obtain ⟨T,G,I,l,rfl,rfl,A,k⟩:=q;have m:=A xs j;have o:=k ys c;rw [s] at m;cases m;rw [n] at o;cases o;exact ⟨_,.new f l _,.tup (SqT.of Ak) (.cons ((v.same g).same (Cp (f.free l) _)) (.cons ((u.same g).same (Cp (f.free l) _)) .nil))⟩
def Nx{F:Hp}{x:V}(r:Rp K mg F x d)(e:seqD d=.ok ds):∃p a xs,x=.ref a/\SqB K p F a xs/\Rps K mg F xs ds:=by
 cases r with
 | tup h q=>cases e;exact ⟨true,_,_,rfl,h,q⟩
 | lst h q=>cases e;exact ⟨false,_,_,rfl,h,q⟩
 | _=>cases e
def Ny{c:Str}:seqD d≠.ex c:=by cases d<;>intro h<;>cases h
def S7(hg:Gl X "enumerate")(hm:X.mg "enumerate"=none)(ha:DA X E n [a] t m)(hs:starEach [a] X.env=[(false,eval a X.env)]:=by rfl):DI X E (.Tuple elts x1 tpos) (.Call (.Name "enumerate" p) [a] [] pos) (aN X.K t) (PQ m):=by
 refine ⟨z6 hg hm ha.p hs,?_⟩;intro f i F H Y Z e;refine (ha.s f i F H Y Z e).bind λk o l c b g=>?_;unfold dw;split
 .next d=>
  obtain ⟨x,rfl,j⟩:=g.one;cases d with
  | lst c=>
   cases j with
   | lst h r=>exact Ans.ret b.s (Ztz h r) λQ q=>⟨_,rfl,⟨_,b.s.seq h⟩,q⟩
  | tup c=>trivial
  | _=>trivial
 .trivial
def eV(hg:Gl X "zip")(hm:X.mg "zip"=none)(ha:DA X E n [a,b] t m)(hs:starEach [a,b] X.env=[(false,eval a X.env),(false,eval b X.env)]:=by rfl)(hs2:starEach [b] X.env=[(false,eval b X.env)]:=by rfl) :
  DI X E (.Tuple elts x1 tpos) (.Call (.Name "zip" p) [a,b] [] pos) (cX X.K t) (iZip m):=by
 refine ⟨iB hg hm ha.p hs hs2,?_⟩;intro z B F H Y Z u;refine (ha.s z B F H Y Z u).bind λL G D C e j=>?_;unfold zip2;split
 .next d A=>
  obtain ⟨x,y,rfl,o,h⟩:=j.two;cases e1:seqD d with
  | ok us=>
   cases e2:seqD A with
   | ok ws=>
    obtain ⟨v,I,w,rfl,f,r⟩:=Nx o e1;obtain ⟨l,J,k,rfl,g,i⟩:=Nx h e2;exact Ans.ret e.s (q7 f r g i) λQ q=>⟨v,l,_,_,rfl,⟨_,JM e.s f⟩,⟨_,JM e.s g⟩,q⟩
   | ex c=>exact aB e2 Ny
   | bad=>trivial
  | ex c=>exact aB e1 Ny
  | bad=>trivial
 .trivial
end
structure DTs(X:Cx)(E:XK)(ts:List Expr)(t:TT)(m:MB):Prop where
 p:PTs X ts t
 s:STt X.K X.mg E t m
section
variable {a b c' tg iter elt:Expr} {ts:List Expr} {ta tb tc:TE} {ma mb mc:ME} {sa sb:TT} {na nb:MB} {t:TA} {m:MA} {y:Str}
def iU:STt K mg E tYes yes:=λ_ _ _ _ _ _ r=>Ans.ret (R:=RB) r.ss rfl λ_ q=>q
def qi:DTs X E [] tYes yes:=⟨oF,iU⟩
def ZqV(h:DT X E a sa na):DTs X E [a] sa na:=⟨lV h.p,h.s⟩
def Dj(hi:DI X E tg iter wi mi)(O:Ep X own cap scope cl)(hc:X.calm=true)(hg:∀C s H fp pn,DG (Bh X (own++cap.map (·.1)) scope cl C s H fp pn) own.length tg (g C s H fp pn) gm)(ht:∀C s H fp pn,DTs (Bh X (own++cap.map (·.1)) scope cl C s H fp pn) E0 ts (tt C s H fp pn) na)(he:∀C s H fp pn,DE (Bh X (own++cap.map (·.1)) scope cl C s H fp pn) E0 elt (tf C s H fp pn) me)(hts:ts.length<=1:=by decide)(hs:∀x,foldedSetIterable iter X.env x=pure x:=by intro _;rfl) :
  DE X E (.ListComp elt [⟨tg,iter,ts,0⟩] scope pos) (Et wi g tt tf own cap) (comp mi own.length (cap.map (·.2)) gm na me) :=
 ⟨m7 hi.p O hc (λC s H fp pn=>(hg C s H fp pn).p) (λC s H fp pn=>(ht C s H fp pn).p) (λC s H fp pn=>(he C s H fp pn).p) hts hs,
  ie hi.s (λC s H fp pn=>(hg C s H fp pn).s) (λC s H fp pn=>(ht C s H fp pn).s) (λC s H fp pn=>(he C s H fp pn).s)⟩
def Fv(hN:X.N.Nodup)(hi:X.N[i]?=some x)(hx:Loc X.env.scope x)(he:DE X E e te me)(hs:swapsWith e (some (.Name x pos')) spos.line X.env=pure false:=by rfl)(hf:X.fn x=true\/X.env.scope.names.lookup x=some .local:=by first | exact .inl rfl | exact .inr rfl | assumption) :
  DS X E (.Assign [.Name x pos'] e spos) (tAsg te (Ci i)) (st i me):=⟨Ra hN hi hx he.p hs hf,u9 he.s⟩
def iV(he:DE X E e te me)(hg:DG X 1000 tg g gm)(hs:swapsWithSole [tg] e spos.line X.env=pure false:=by rfl)(hw:swappedStores [tg] e X.env=pure none:=by rfl)(h1:(assignEach [tg] X.env).map (·.2)=[assign tg X.env]:=by rfl):DS X E (.Assign [tg] e spos) (tAsg te g) (asg gm me):=⟨S6 he.p hg.p hs hw h1,Zus he.s hg.s hg.x⟩
def Zvq(he:DE X E e te me)(hs:swapsWith e none spos.line X.env=pure false:=by rfl):DS X E (.Expr e spos) (CQ te) (drp me):=⟨HJ he.p hs,qj he.s⟩
def Cu(he:DE X E e te me):DS X E (.Return (some e) spos) (tRet te) (ret me):=⟨ZJ he.p,xj he.s⟩
def UJ:DS X E (.Continue spos) J6 cnt:=⟨ww,rE⟩
def Zu1{st:Stmt}{u:TS}{k:MS}(h:DS X E st u k):DS X E st u (frz i k):=⟨h.p,m8 h.s⟩
def De:DSs X E [] Kl nop:=⟨R9,WK⟩
def Bc{st:Stmt}{u:TS}{k:MS}(h:DS X E st u k):DSs X E [st] u k:=⟨YM h.p,h.s⟩
def Ah{st:Stmt}{rest:List Stmt}{u u':TS}{k k':MS}(h:DS X E st u k)(h':DSs X E rest u' k'):DSs X E (st::rest) (tSeq u u') (sq k k'):=⟨Hv h.p h'.p,vh h.s h'.s⟩
def Dc{k:MS}(hc:DT X E c' sa na)(ha:DSs X E as u k)(hb:DSs X E bs u' k'):DS X E (.If c' as bs spos) (tIfS sa u u') (ifs na k k'):=⟨XH hc.p ha.p hb.p,ye hc.s ha.s hb.s⟩
def Hl{k:MS}(hp:PassesOwn (model X.prog X.w) X.A X.env X.xe)(hc:X.calm=true)(hi:DI X E tg iter wi mi)(hg:DG X 1000 tg g gm)(hb:DSs X E body u k)(hs:∀x,foldedSetIterable iter X.env x=pure x:=by intro _;rfl):DS X E (.For tg iter body [] spos) (tFor wi g u) (for_ mi gm k):=⟨XS hp hc hi.p hg.p hb.p hs,Zs8 hi.s hg.s hg.x hb.s⟩
def Z5{k:MS}(hp:PassesOwn (model X.prog X.w) X.A X.env X.xe)(hc:DT X E c' sa na)(hb:DSs X E body u k):DS X E (.While c' body [] spos) (Qt sa u) (whl fu na k):=⟨ZnR hp hc.p hb.p,u6 hc.s hb.s⟩
def um{kt k2 pt2}(hc:X.calm=true)(hN:X.N.Nodup)(hi:X.N[i]?=some x)(hj:X.N[j]?=some y)(hij:i≠j)(hx:X.env.scope.names.lookup x=some .local)(hy:X.env.scope.names.lookup y=some .local)(ha:DE X E a ta ma)(hb:DE X E b tb mb)(hw:swappedStores [.Tuple [.Name x px,.Name y py] kt pt] (.Tuple [a,b] k2 pt2) X.env=pure (some [x,y]):=by rfl)(hs:swapsWithSole [.Tuple [.Name x px,.Name y py] kt pt] (.Tuple [a,b] k2 pt2) spos.line X.env=pure false:=by rfl)(hs1:starEach [a,b] X.env=(false,eval a X.env)::starEach [b] X.env:=by rfl)(hs2:starEach [b] X.env=(false,eval b X.env)::starEach [] X.env:=by rfl) :
  DS X E (.Assign [.Tuple [.Name x px,.Name y py] kt pt] (.Tuple [a,b] k2 pt2) spos) (tPar i j (BW ta (BW tb tNil))) (par i j ma mb) :=
 ⟨oZ hc hN hi hj hij hx hy (Dt ha.p (Dt hb.p Fw hs2) hs1) hw hs,zG ha.s hb.s⟩
end
section
variable {qual:Str} {scope:Scope} {f:Addr} {cd:Value} {outer:List Env} {s₀:Shared} {H₀:Hp} {t:TA} {m:MA}
def U5(hg:Gl (cxOf (CXR P w) P w K mg base N qual scope f cd A outer s₀ H₀ E) x)(hm:mg x=some (.ref C))(hq:W.excIn K C Lq "ValueError.__new__"=true)(ha:DA (cxOf (CXR P w) P w K mg base N qual scope f cd A outer s₀ H₀ E) E n (e::es) t m)(hn:n<=1000:=by decide)(hd:ND x:=by decide)(he:starEach (e::es) (cxOf (CXR P w) P w K mg base N qual scope f cd A outer s₀ H₀ E).env=(false,eval e (cxOf (CXR P w) P w K mg base N qual scope f cd A outer s₀ H₀ E).env)::starEach es (cxOf (CXR P w) P w K mg base N qual scope f cd A outer s₀ H₀ E).env:=by rfl)(hpl:(backTo cpos (starEach es (cxOf (CXR P w) P w K mg base N qual scope f cd A outer s₀ H₀ E).env)).any (·.1)=false:=by rfl)(hcx:clsOf x=x:=by decide +kernel)(hpx:pay x=none:=by decide +kernel) :
  DS (cxOf (CXR P w) P w K mg base N qual scope f cd A outer s₀ H₀ E) E (.Raise (some (.Call (.Name x np) (e::es) [] cpos)) none pos) (bG E C t) (rse x m):=by
 refine ⟨oJ hg hm hq ha.p hd he hpl,?_⟩;intro c k F H Y Z a;refine (ha.s c k F H Y Z a).stm a.g λi d j l o b h=>?_
 exact λD q=>⟨by rw [h.length,ha.n Z i d];exact hn,by
  have z:=q j l C (a.g.trans b) (by rw [hcx];exact hm);rw [hpx] at z
  exact z⟩
def N8{F:Hp}(s:Same F H)(r:Rps K mg F vs ds):Rep K mg F H F H (start N vs) (ev0 N.length ds):=by
 have l:=r.length;have b:∀(i:Nat) (c:Cl),(ev0 N.length ds)[i]?=some c->c=.no\/∃d,ds[i]?=some d/\c=.im d:=by
  intro i c e;rw [Mi] at e;by_cases f:i<ds.length
  .rw [Ea (by simpa using f),By,BX f] at e;exact .inr ⟨ds[i],BX f,(Bt e).symm⟩
  .rw [Fo (by simpa using f),Ib] at e;split at e
   .exact .inl (Bt e).symm
   .cases e
 refine ⟨.refl s,?_,λi d e=>?_,λi g e=>?_,λi j g m a e=>?_⟩
 .rw [Mi];unfold start;simp [l]
 .rcases b i _ e with z | ⟨d',e1,z⟩
  .cases z
  .cases z;obtain ⟨v,h,k⟩:=r.get e1;refine ⟨v,?_,k⟩;have f:=(Cm.mp h).1;unfold start;rw [Ea (by simpa using f),By,h];rfl
 .rcases b i _ e with z | ⟨d',e1,z⟩<;>cases z
 .rcases b i _ e with z | ⟨d',e1,z⟩<;>cases z
def okD{st:Stmt}{mb:MS}(F:Fun K x x st f fd)(S:Ca N ps (Av st))(h:∀(cdv:Value) (A:Around) (outer:List Env) (s:Shared) (H:Hp) (E:XK),Room k (A.deeper (envOfC x (Av st) s.heap.objs.size f cdv))->∃t,DSs (cxOf (CXR P w) P w K mg base N x (Av st) f cdv A outer s H E) E (DX st) t mb) :
  FnOk P w K mg base (CXR P w) (k+1) f fd ps (spD K mg ps.length (fn N.length mb)):=by
 obtain ⟨X,T,Y,M,U,V,cdv,ct,O,rfl,L,m⟩:=F.ex;refine K6 L m S (λr H Q E q=>q.1) λA outer s H r Q E R n=>?_;obtain ⟨t,u⟩:=h cdv A outer s H E R;refine ⟨t,u.p,?_⟩;obtain ⟨_,y,o,I,G,i,b,a⟩:=n;have z:=u.s y H y H (start N r) (ev0 N.length o) (N8 I G);unfold fn at i b a;cases e:mb (ev0 N.length o) with
 | ok fl=>
  rw [e] at z i b a;cases fl with
  | nx Z=>exact z _ λl j W _ J=>b .non rfl l j .non J.g .non
  | rt d=>exact z _ λl j v g D=>b d rfl l j v g D
  | bk Z=>exact aB rfl i
  | ct Z=>exact aB rfl i
 | ex c=>
  rw [e] at z a;exact z _ λl j C g B=>a c rfl l j C g B
 | bad=>rw [e] at i;exact aB rfl i
def _root_.L2.Def.cal{st:Stmt}{mb:MS}(D:Def K mg x st ps)(S:Ca N ps (Av st))(h:∀(f:Addr) (cdv:Value) (A:Around) (outer:List Env) (s:Shared) (H:Hp) (E:XK),Room k (A.deeper (envOfC x (Av st) s.heap.objs.size f cdv))->∃t,DSs (cxOf (CXR P w) P w K mg base N x (Av st) f cdv A outer s H E) E (DX st) t mb) :
  Cal P w K mg base (k+1) x ps (fn N.length mb):=by
 obtain ⟨f,c,F,b,a⟩:=D.ex;exact ⟨f,c,okD F S (h f),b,F.kp,a⟩
end
def xW{e:Value}(h:CXR P w l H s (λ_ _ _=>False) e s'):False:=by
 obtain ⟨_,_,_,_,_,_,_,q⟩:=h;exact q
def Qj(K:W.Frag):Sp:=λc H Q _=>∃(a:Addr) (ns:List Int),c=[.ref a]/\SqL K H a (ns.map V.int)/\ns.length<=63/\∀b,Q (.bl true) b
def au:∀ns:List Int,Rps K mg H (ns.map V.int) (ns.map D.int)
 | []=>.nil
 | n::r=>.cons (.int n) (au r)
def zm(h:∀ns:List Int,ns.length<=63->m [.lst (ns.map .int)]=.ok (.bl true)):∀vs H Q E,Qj K vs H Q E->spD K mg 1 m vs H Q E:=by
 rintro vs H Q E ⟨a,ns,rfl,j,i,q⟩;have e:=h ns i;refine ⟨rfl,H,_,Same.refl _,.cons (.lst j (au ns)) .nil,λz=>?_,λd b=>?_,λc b=>?_⟩
 .rw [e] at z;cases z
 .rw [e] at b;cases b;intro k f x _ g;cases g;exact q f
 .rw [e] at b;cases b
def pJ(C:Cal X.prog X.w X.K X.mg X.base k x ps f)(hr:Room l X.A)(hn:k<=l)(hg:Gl (Bh X N scope cl C' s H fp pn) x)(ha:DA (Bh X N scope cl C' s H fp pn) E0 n (e::es) t m)(hps:ps.length=n:=by rfl)(hdb:ND x:=by decide)(he:starEach (e::es) (Bh X N scope cl C' s H fp pn).env=(false,eval e (Bh X N scope cl C' s H fp pn).env)::starEach es (Bh X N scope cl C' s H fp pn).env:=by rfl)(hpl:(backTo pos (starEach es (Bh X N scope cl C' s H fp pn).env)).any (·.1)=false:=by rfl) :
  DE (Bh X N scope cl C' s H fp pn) E0 (.Call (.Name x p) (e::es) [] pos) (Fe (spD X.K X.mg ps.length f) [] E0 t) (on f m) :=
 GX C hr hn hg uv ha hps hdb he hpl
section
def all_range:∀bs:List Bool,((List.range bs.length).all λi=>bs.getD i true)=bs.all id
 | []=>rfl
 | b::r=>by
  rw [CW,List.range_succ_eq_map,List.all_cons,List.all_map,List.all_cons,<-all_range r];rfl
def XF:∀(bs:List Bool) (its:List Value),Vals (bs.map V.bl) its->its=bs.map Value.bool
 | [],_,.nil=>rfl
 | b::r,_,.cons h t=>by
  cases h;rw [Ba,XF r _ t]
def rAll(K:W.Frag):List V->Hp->VK->Prop:=λb H Q=>∃(a:Addr) (bs:List Bool),b=[.ref a]/\SqL K H a (bs.map V.bl)/\Q (.bl (bs.all id)) H
def QC(hc:X.calm=true):Ey X (.builtin "all") (rAll X.K):=by
 intro j s Y H D F Q I r h;obtain ⟨a,c,rfl,n,q⟩:=h;obtain ⟨u,rfl,p⟩:=vals1 r;cases p;obtain ⟨g,m,f,E⟩:=I.list n;obtain rfl:=XF c g m;have t:a<s.heap.objs.size:=by
  obtain ⟨o,_,w,_⟩:=f;exact Aq w
 refine call_all_walk (Mp f.isList ?_);refine ⟨s.heap.objs.size,_,_,_,_,_,λi=>c.getD i true,rfl,Walks.list (A:=X.A.in1) (I.ok.hd hc) s.heap.objs.size a (BK t) (c.map Value.bool).toArray,⟨⟨_,Bp _ rfl,rfl,rfl⟩,?_⟩,?_,λy x k=>?_⟩
 .exact f.isList.at λo e=>Ao _ e
 .intro i v G B C d l;have e:v=.bool (c.getD i true):=by
   rw [List.getElem?_toArray,By] at d;cases q:c[i]? with
   | none=>rw [q] at d;cases d
   | some b=>
    rw [q] at d;cases d;rw [List.getD_eq_getElem?_getD,q];rfl
  subst e;exact Ad l
 .have e:(List.range (c.map Value.bool).toArray.size).all (λi=>c.getD i true)=c.all id:=by
   rw [Bg,Af];exact all_range c
  rw [e];exact ⟨.bl (c.all id),H,I.kept λb o z=>k b o (by simp;exact BK (Aq z)) (Ao _ z),rfl,q⟩
def Wg{F:Hp}:∀{xs:List V} {ds:List D} {bs:List Bool},Rps K mg F xs ds->bools ds=.ok bs->xs=bs.map V.bl
 | _,_,_,.nil,e=>by cases e;rfl
 | _,_,bs,.cons (d:=d) (ds:=ds) h r,e=>by
  unfold bools at e;cases d with
  | bl b=>
   cases q:bools ds with
   | ok bs'=>
    simp only [q,Res.bind] at e;cases e;cases h;rw [Ba,Wg r q]
   | ex c=>simp only [q,Res.bind] at e;cases e
   | bad=>simp only [q,Res.bind] at e;cases e
  | _=>cases e
def Wz{c:Str}:∀ds:List D,bools ds≠.ex c
 | [],h=>by cases h
 | d::r,h=>by
  unfold bools at h;cases d with
  | bl b=>
   cases q:bools r with
   | ok bs'=>simp only [q,Res.bind] at h;cases h
   | ex c'=>exact Wz r q
   | bad=>simp only [q,Res.bind] at h;cases h
  | _=>cases h
def Od:CallD K mg (rAll K) bAll:=by
 intro E F H g f s r;unfold bAll;split
 .next d=>
  obtain ⟨x,rfl,b⟩:=r.one;cases d with
  | lst es=>
   cases b with
   | lst h rs=>
    show Ans mg E (Rp K mg) F H ((bools es).bind λa=>.ok (.bl (a.all id))) _;cases q:bools es with
    | ok a=>
     have e:=Wg rs q;subst e;exact Ans.ret s (.bl _) λQ z=>⟨_,a,rfl,s.seq h,z⟩
    | ex c=>exact aB q (Wz es)
    | bad=>trivial
  | _=>trivial
 .trivial
def uo(hc:X.calm=true):Ey X (.builtin "max") (λxs H Q=>∃i j k,xs=[.int i,.int j,.int k]/\Q (.int (if j>i then (if k>j then k else j) else (if k>i then k else i))) H):=by
 intro a s Y H xs l Q I r h;obtain ⟨i,j,k,rfl,q⟩:=h;cases r with
 | cons r1 r=>
  cases r with
  | cons r2 r=>
   cases r with
   | cons r3 r=>
    cases r;obtain ⟨f,rfl⟩:=r1;obtain ⟨d,rfl⟩:=r2;obtain ⟨e,rfl⟩:=r3;refine max_three_ints (I.ok.hd hc) λg c b=>⟨_,H,I.kept b,?_,q⟩;by_cases h1:j>i
    .by_cases h2:k>j
     .rw [iP h1,iP h2,iP h1,iP h2];exact ⟨_,rfl⟩
     .rw [iP h1,iN h2,iP h1,iN h2];exact ⟨_,rfl⟩
    .by_cases h2:k>i
     .rw [iN h1,iP h2,iN h1,iP h2];exact ⟨_,rfl⟩
     .rw [iN h1,iN h2,iN h1,iN h2];exact ⟨_,rfl⟩
def Rps.three{K:W.Frag}{mg:Str->Option Value}{H:Hp}{xs:List V}{d e f:D}(h:Rps K mg H xs [d,e,f]):∃x y z,xs=[x,y,z]/\Rp K mg H x d/\Rp K mg H y e/\Rp K mg H z f:=by
 cases h with | cons h r=>obtain ⟨_,_,rfl,g⟩:=Rps.two r;exact ⟨_,_,_,rfl,h,g⟩
def wj:CallD K mg (λxs H Q=>∃i j k,xs=[.int i,.int j,.int k]/\Q (.int (if j>i then (if k>j then k else j) else (if k>i then k else i))) H) Oo:=by
 intro E F H xs d s r;unfold Oo;split
 .next i j k=>
  obtain ⟨x,y,z,rfl,c,a,b⟩:=r.three;cases c;cases a;cases b;exact Ans.ret s (.int _) λQ q=>⟨i,j,k,rfl,q⟩
 .trivial
end
section
def bD{F:Hp}:∀{xs:List V} {ds:List D} {ns:List Int},Rps K mg F xs ds->FZ ds=.ok ns->xs=ns.map V.int
 | _,_,_,.nil,e=>by cases e;rfl
 | _,_,ns,.cons (d:=d) (ds:=ds) h r,e=>by
  unfold FZ at e;cases d with
  | int b=>
   cases q:FZ ds with
   | ok bs'=>
    simp only [q,Res.bind] at e;cases e;cases h;rw [Ba,bD r q]
   | ex c=>simp only [q,Res.bind] at e;cases e
   | bad=>simp only [q,Res.bind] at e;cases e
  | _=>cases e
def dC{c:Str}:∀ds:List D,FZ ds≠.ex c
 | [],h=>by cases h
 | d::r,h=>by
  unfold FZ at h;cases d with
  | int b=>
   cases q:FZ r with
   | ok bs'=>simp only [q,Res.bind] at h;cases h
   | ex c'=>exact dC r q
   | bad=>simp only [q,Res.bind] at h;cases h
  | _=>cases h
end
section
def Zru(ha:SA K mg E t m)(hl:SAn n m)(hn:n<=sizeLine):SS K mg E (tAsg (tLst t) (Ci i)) (stO i (mls m)):=by
 intro l o F H Y Z a;have h:=ha l o F H Y Z a;unfold stO mls;cases e:m Z with
 | ok ds=>
  rw [e] at h;exact λD q=>h _ λb d s g j=>⟨by rw [j.length,hl Z ds e];exact hn,λp k=>q b _ _ g.f ((a.gr g).own i k j)⟩
 | ex c=>
  rw [e] at h;exact λD q=>h _ λb d C g r=>q b d C (a.g.trans g) r
 | bad=>trivial
def oH{te:Fam TE}(hi:SI K mg E wi mi)(hg:∀C s H fp pn,SG K mg own.length (t C s H fp pn) g)(ht:∀C s H fp pn,STt K mg E0 (tt C s H fp pn) nt)(he:∀C s H fp pn,SE K mg E0 (te C s H fp pn) me) :
  SS K mg E (tAsg (Et wi t tt te own cap) (Ci i)) (stO i (comp mi own.length (cap.map (·.2)) g nt me)):=by
 intro o r F H Y Z a;have h:=hi o r F H Y Z a;unfold stO comp;cases e:mi Z with
 | ok ds=>
  rw [e] at h;show AnsS K mg E o r F ((if ds.length<=LIM then (noEx (Dl.Ar g nt me (noA own.length (Az Z (cap.map (·.2)))) ds)).bind λm=>.ok (.lst m) else .bad).bind λd=>(lstO d).bind λn=>.ok (.nx (Z.set i (.ow n)))) _
  by_cases hl:ds.length<=LIM
  .rw [iP hl];cases e2:Dl.Ar g nt me (noA own.length (Az Z (cap.map (·.2)))) ds with
   | ok m=>exact λD q=>h _ λA z J b x=>λC s j fp pn=>SN (a.gr b) x (hg C s j fp pn) (ht C s j fp pn) (he C s j fp pn) hl e2 _ λk l n u v _ p w=>q k _ _ (b.f.trans u.f) (((a.gr b).gr u).own i w v)
   | ex c=>trivial
   | bad=>trivial
  .rw [iN hl];trivial
 | ex c=>
  rw [e] at h;exact λD q=>h _ λk l C g y=>q k l C (a.g.trans g) y
 | bad=>trivial
end
section
variable {a b c' tg iter elt:Expr} {ts:List Expr} {ta tb tc:TE} {ma mb mc:ME} {sa sb:TT} {na nb:MB} {t:TA} {m:MA} {y:Str}
def Zsq(hN:X.N.Nodup)(hi:X.N[i]?=some x)(hx:Loc X.env.scope x)(ha:DA X E n es t m)(hn:n<=sizeLine:=by decide)(hs:swapsWith (.List es pos) (some (.Name x pos')) spos.line X.env=pure false:=by rfl)(hf:X.fn x=true\/X.env.scope.names.lookup x=some .local:=by first | exact .inl rfl | exact .inr rfl | assumption) :
  DS X E (.Assign [.Name x pos'] (.List es pos) spos) (tAsg (tLst t) (Ci i)) (stO i (mls m)):=⟨Ra hN hi hx (O8 ha.p) hs hf,Zru ha.s ha.n hn⟩
def uH(hN:X.N.Nodup)(hix:X.N[i]?=some x)(hx:Loc X.env.scope x)(hi:DI X E tg iter wi mi)(O:Ep X own cap scope cl)(hc:X.calm=true)(hg:∀C s H fp pn,DG (Bh X (own++cap.map (·.1)) scope cl C s H fp pn) own.length tg (g C s H fp pn) gm)(ht:∀C s H fp pn,DTs (Bh X (own++cap.map (·.1)) scope cl C s H fp pn) E0 ts (tt C s H fp pn) na)(he:∀C s H fp pn,DE (Bh X (own++cap.map (·.1)) scope cl C s H fp pn) E0 elt (tf C s H fp pn) me)(hts:ts.length<=1:=by decide)(hsw:swapsWith (.ListComp elt [⟨tg,iter,ts,0⟩] scope pos) (some (.Name x pos')) spos.line X.env=pure true:=by rfl)(hs:∀x,foldedSetIterable iter X.env x=pure x:=by intro _;rfl)(hf:X.fn x=true\/X.env.scope.names.lookup x=some .local:=by first | exact .inl rfl | exact .inr rfl | assumption) :
  DS X E (.Assign [.Name x pos'] (.ListComp elt [⟨tg,iter,ts,0⟩] scope pos) spos) (tAsg (Et wi g tt tf own cap) (Ci i)) (stO i (comp mi own.length (cap.map (·.2)) gm na me)) :=
 ⟨Uc hN hix hx hi.p O hc (λC s H fp pn=>(hg C s H fp pn).p) (λC s H fp pn=>(ht C s H fp pn).p) (λC s H fp pn=>(he C s H fp pn).p) hts hsw hs hf,
  oH hi.s (λC s H fp pn=>(hg C s H fp pn).s) (λC s H fp pn=>(ht C s H fp pn).s) (λC s H fp pn=>(he C s H fp pn).s)⟩
def ZuE(i)(he:DE X E e te me)(hN:X.N[i]?=some x:=by rfl)(hv:Dv X.env.scope x:=by first | exact Or.inl rfl | exact Or.inr (Or.inl rfl) | exact Or.inr (Or.inr rfl))(hd:ND x:=by decide)(hcd:NE x:=by decide)(hbase:attributeBase (.Name x np) "append" X.env (eval (.Name x np) X.env)=eval (.Name x np) X.env:=by rfl) (hfew:((backTo cpos (starEach [e] X.env)).all (λx=>!x.1)&&(backToKw cpos (keywordEach [] X.env)).all (λx=>x.1.isSome)
   && decide ([e].length+([]:List Keyword).length+(if ([]:List Keyword).isEmpty then 0 else 1)<30))=true:=by rfl) (hline:(apos.endLine==cpos.line)=true:=by rfl) (hs:starEach [e] X.env=(false,eval e X.env)::starEach [] X.env:=by rfl) (hplain:(backTo cpos (starEach [] X.env)).any (·.1)=false:=by rfl) (hsw:swapsWith (.Call (.Attribute (.Name x np) "append" apos) [e] [] cpos) none spos.line X.env=pure false:=by rfl) :
  DS X E (.Expr (.Call (.Attribute (.Name x np) "append" apos) [e] [] cpos) spos) (CQ (tBM X.K "list" Gp (tVar i) (BW te tNil))) (app i me) :=
 ⟨HJ (KR J9 PySem.F.slot_list_append PySem.F.type_list_append Ut (Ej hN hv hd hcd) (Dt he.p Fw hs) hbase hfew hline hs hplain) hsw,
  wB he.s λH a b h=>.inl ⟨rfl,b,SqL.of h⟩⟩
end
end L2.Ds
namespace L2.Ds
open Dl
section
def del(F:Hp)(a:Addr):Hp:=λb=>if b=a then none else F b
def HR{F:Hp}:del F a a=none:=iP rfl
def Ex{F:Hp}(h:b≠a):del F a b=F b:=iN h
def Xg{F:Hp}(h:del F a b=some o):F b=some o:=by
 by_cases hb:b=a
 .subst hb;rw [HR] at h;cases h
 .rw [Ex hb] at h;exact h
def Rep.look{F:Hp}(r:Rep K mg F0 H0 F H Y Z)(e:Z[i]?=some (.ow ds)) :
  ∃F',Rep K mg F0 H0 F' H Y (Z.set i (.im (.lst ds)))/\∀F1 H1,Gr F' H F1 H1->∃F2,Gr F H F2 H1:=by
 obtain ⟨a,t,v,y,p,w,L⟩:=r.ow i ds e;have h:Same F (upd F a (.lst t)):=Cp p _;refine ⟨upd F a (.lst t),⟨⟨r.g.f.trans h,λb o q=>?_,λb o d c=>?_,λb o u q=>r.g.z b o u (Im (λ_ _ z=>by cases z) q)⟩,by rw [Eu];exact r.len,λj u q=>?_,λj m q=>?_,λj k m I b d c C G=>?_⟩,λF1 H1 g=>⟨del F1 a,⟨λb o q=>?_,λb o q=>?_,λb o d c=>?_,λb o u q=>Im (λ_ _ z=>by cases z) (g.z b o u (Xg q))⟩⟩⟩
 .by_cases hb:b=a
  .subst hb;rw [Ak] at q;cases q;exact w
  .rw [Ag hb] at q;exact r.g.s b o q
 .rw [Ag (Ay c y)];exact r.g.o b o d c
 .rcases BV q with ⟨rfl,z,_⟩ | ⟨_,q⟩
  .cases z;exact ⟨.ref a,v,.lst (SqL.of Ak) (L.same h)⟩
  .obtain ⟨x,l,n⟩:=r.im j u q;exact ⟨x,l,n.same h⟩
 .rcases BV q with ⟨_,z,_⟩ | ⟨hij,q⟩
  .cases z
  .obtain ⟨b,B,l,n,E,J,D⟩:=r.ow j m q;have A:b≠a:=by
    rintro rfl;exact hij (r.ne i j ds m b e q v l)
   exact ⟨b,B,l,n,by rw [Ag A];exact E,J,D.same h⟩
 .rcases BV d with ⟨_,z,_⟩ | ⟨_,d⟩
  .cases z
  .rcases BV c with ⟨_,z,_⟩ | ⟨_,c⟩
   .cases z
   .exact r.ne j k m I b d c C G
 .rw [Ex (Ay q p)];exact g.f b o (h b o q)
 .by_cases hb:b=a
  .subst hb;rw [HR] at q;cases q
  .rw [Ex hb] at q;exact g.s b o q
 .by_cases hb:b=a
  .subst hb;rw [w] at c;cases c;exact ⟨HR,g.s _ _ (g.f _ _ Ak)⟩
  .rw [Ex hb];exact g.o b o (by rw [Ag hb];exact d) c
def ZrQ{F:Hp}{x:V}(r:Rp K mg F x d)(e:H8 d=.ok d'):Rp K mg F' x d':=by
 cases r with
 | non=>cases e;exact .non
 | bl b=>cases e;exact .bl b
 | int b=>cases e;exact .int b
 | str b=>cases e;exact .str b
 | _=>cases e
def uU{c:Str}:H8 d≠.ex c:=by cases d<;>intro h<;>cases h
def wO(i)(h:SE K mg E t m):SE K mg E t (pk i m):=by
 intro p v F H Y Z o;unfold pk getO;split
 .next n e=>
  obtain ⟨u,s,a⟩:=o.look e;have z:=h p v u H Y _ s;show Ans mg E (Rp K mg) F H ((m (Z.set i (.im (.lst n)))).bind H8) _;cases em:m (Z.set i (.im (.lst n))) with
  | ok d=>
   rw [em] at z;show Ans mg E (Rp K mg) F H (H8 d) _;cases es:H8 d with
   | ok d'=>
    exact λQ q=>z Q λj f b g r=>by
     obtain ⟨k,l⟩:=a j f g;exact q k f b l (ZrQ r es)
   | ex c=>exact aB es uU
   | bad=>trivial
  | ex c=>
   rw [em] at z;exact λQ q=>z Q λj f C g w=>by
    obtain ⟨k,l⟩:=a j f g;exact q k f C l w
  | bad=>trivial
 .trivial
end
section
variable {l:Nat} {y:Str} {Cy:Addr} {f:List D->Res D} {t:TA} {m:MA} {u:Addr->TS} {b:MS} {p yp epos hpos:Pos} {b₀:Stmt} {suite:List Stmt} {hits:List Str} {tt:TT} {mt:MB}
def Vv(i)(h:DE X E e te me):DE X E e te (pk i me):=⟨h.p,wO i h.s⟩
end
section
mutual
def d7(I:Inv X pins Y H s){x:V}{d d':PyData}(h:DV X.K H x d)(h':DV X.K H x d'):d=d':=by
 cases h with
 | non=>cases h';rfl
 | bl _=>cases h';rfl
 | int _=>cases h';rfl
 | str _=>cases h';rfl
 | tup h q=>
  cases h' with
  | tup h' q'=>
   have e:=I.tuple_inj h h';subst e;rw [Tz I q q']
  | lst h' q'=>
   obtain ⟨_,_,⟨o,f,c,_⟩,_⟩:=I.tuple h;obtain ⟨_,_,⟨g,_,a,b,_⟩,_⟩:=I.list h';rw [f] at a;cases a;rw [c] at b;simp at b
 | lst h q=>
  cases h' with
  | lst h' q'=>
   have e:=I.list_inj h h';subst e;rw [Tz I q q']
  | tup h' q'=>
   obtain ⟨_,_,⟨o,f,c,_⟩,_⟩:=I.tuple h';obtain ⟨_,_,⟨g,_,a,b,_⟩,_⟩:=I.list h;rw [f] at a;cases a;rw [c] at b;simp at b
def Tz(I:Inv X pins Y H s){xs:List V}{ds ds':List PyData}(h:DVs X.K H xs ds)(h':DVs X.K H xs ds'):ds=ds':=by
 cases h with
 | nil=>cases h';rfl
 | cons h r=>
  cases h' with
  | cons h' r'=>rw [d7 I h h',Tz I r r']
end
def hitE(X:Cx)(H:Hp)(dx:PyData)(u:Value):Bool:=@decide (∃y d,RelV y u/\DV X.K H y d/\PyData.eqv d dx=true) (Classical.propDecidable _)
def Zy(I:Inv X pins Y H s){d:PyData}(r:RelV y u)(h:DV X.K H y d):hitE X H dx u=PyData.eqv d dx:=by
 unfold hitE;cases e:PyData.eqv d dx with
 | true=>exact @Ew _ (Classical.propDecidable _) ⟨y,d,r,h,e⟩
 | false=>
  refine @HQ _ (Classical.propDecidable _) ?_;rintro ⟨g,i,a,f,b⟩;have c:=r.inj a;subst c;rw [d7 I h f,b] at e;cases e
def U7(I:Inv X pins Y H s):∀{ys:List V} {its:List Value} {ds:List PyData},Vals ys its->DVs X.K H ys ds->its.any (hitE X H dx)=ds.any λd=>PyData.eqv d dx
 | _,_,_,.nil,.nil=>rfl
 | _,_,_,.cons r1 r2,.cons h1 h2=>by rw [List.any_cons,List.any_cons,U7 I r2 h2,Zy I r1 h1]
def ak(I:Inv X pins Y H s):∀{ys:List V} {its:List Value} {ds:List PyData} {u:Value},Vals ys its->DVs X.K H ys ds->PyData.canLayAll0 ds=true->u∈its->∃y d,RelV y u/\DV X.K H y d/\d.canLay0=true
 | _,_,_,_,.nil,.nil,_,hu=>by cases hu
 | _,_,_,u,.cons r1 r2,.cons h1 h2,hc,hu=>by
  have a:=(by simpa [PyData.canLayAll0] using hc);rcases Aj.mp hu with rfl | hu
  .exact ⟨_,_,r1,h1,a.1⟩
  .exact ak I r2 h2 a.2 hu
def rInD(K:W.Frag)(f:Bool->Bool):R2:=λx y H Q=>∃a e c b,y=.ref a/\(SqL K H a e\/SqT K H a e)/\DV K H x c/\DVs K H e b/\c.canLay0=true/\PyData.canLayAll0 b=true/\c.depth<=50/\Q (.bl (f (b.any λd=>PyData.eqv d c))) H
end
section
def pQ(hu:X.A.units+64<cLine):OpR X (compareOp .In) (rInD X.K id):=by
 intro n s Y H x y v u Q I E B h;obtain ⟨a,o,c,g,rfl,hq,C,i,F,t,M,q⟩:=h;cases B;obtain ⟨D,p⟩:=C.reads I E;have k:∀{b:List Value},Vals o b->∀u,u∈b.toArray->PySem.SeqAt.EqAt X.A.in1 s u v (hitE X H c u):=λ{b} f u z=>by
  obtain ⟨N,G,l,m,L⟩:=ak I f i t (by simpa using z);obtain ⟨w,r⟩:=m.reads I l;rw [Zy I l m];exact PySem.SeqAt.eqAt_reads G c X.A.in1 s u v w D r p L F (by show X.A.units+1+_<_;omega)
 rcases hq with hq | hq
 .obtain ⟨b,f,j,J⟩:=I.list hq;refine PySem.SeqAt.in_listAt (hitE X H c) j.isList (k f) ?_;have e:b.toArray.any (hitE X H c)=g.any λd=>PyData.eqv d c:=by rw [List.any_toArray];exact U7 I f i
  rw [e];exact ⟨.bl _,H,I,rfl,q⟩
 .obtain ⟨b,f,j,J⟩:=I.tuple hq;refine PySem.SeqAt.in_tupleAt (hitE X H c) (j) (k f) ?_;have e:b.toArray.any (hitE X H c)=g.any λd=>PyData.eqv d c:=by rw [List.any_toArray];exact U7 I f i
  rw [e];exact ⟨.bl _,H,I,rfl,q⟩
def Yp(x)(k)(hx:Dl.plain k x=true):∀ys l,Dl.Bk l ys=true->((pyDs ys).any λd=>PyData.eqv d (pyD x))=inD x ys
 | [],_,_=>rfl
 | y::r,l,h=>by
  have a:Dl.plain l y=true/\Dl.Bk l r=true:=by simpa [Dl.Bk] using h
  show (PyData.eqv (pyD y) (pyD x)||(pyDs r).any _)=(eqD y x||inD x r);rw [Yp x k hx r l a.2,<-Oz y x l k a.1 hx]
def zy{F:Hp}{x:V}(s:Same F H)(rx:Rp K mg F x dx)(ry:Rp K mg F y dy) :
  Ans mg E (Rp K mg) F H ((seqD dy).bind λys=>if Dl.plain 50 dx&&Dl.Bk 50 ys then .ok (.bl (f (inD dx ys))) else .bad) (rInD K f x y H):=by
 have b:∀a c ys,y=.ref a->(SqL K H a c\/SqT K H a c)->Rps K mg F c ys->Ans mg E (Rp K mg) F H (if Dl.plain 50 dx&&Dl.Bk 50 ys then .ok (.bl (f (inD dx ys))) else .bad) (rInD K f x y H):=by
  rintro a c ys rfl i d;by_cases hp:(Dl.plain 50 dx&&Dl.Bk 50 ys)=true
  .rw [iP hp];rw [Iz] at hp;obtain ⟨e,j⟩:=Ku dx 50 hp.1;obtain ⟨g,_⟩:=Oj ys 50 hp.2;refine Ans.ret s (.bl _) λQ q=>⟨a,c,pyD dx,pyDs ys,rfl,i,Jl s (Jt rx hp.1),N7 s (Qz d hp.2),e,g,j,?_⟩;rw [Yp dx 50 hp.1 ys 50 hp.2];exact q
  .rw [iN hp];trivial
 cases dy with
 | lst ys=>
  cases ry with
  | lst h r=>exact b _ _ ys rfl (.inl (s.seq h)) r
 | tup ys=>
  cases ry with
  | tup h r=>exact b _ _ ys rfl (.inr (Ei s h)) r
 | _=>trivial
def pX:OpD K mg (rInD K id) dIn:=λ_ _ _ _ _ _ _ s a b=>zy (f:=id) s a b
variable{a b:Expr}{ta tb:TE}{ma mb:ME}
def wK(hr:Room k X.A)(ha:DE X E a ta ma)(hb:DE X E b tb mb)(hm:behindInMarks .In b=false:=by rfl):DT X E (.Compare a [.In] [b] pos) (Ft (tOp (rInD X.K id) ta tb)) (trb (o2 dIn ma mb)):=Jc (pQ hr.units) pX ha hb hm
end
end L2.Ds
namespace Dl
def ixP(n:Nat)(i:Int):Option Nat:=if 0<=i then (if i<n then some i.toNat else none) else if -(n:Int)<=i then some (i+n).toNat else none
def ext(i:Nat)(e:ME):MS:=λZ=>(getO Z[i]?).bind λa=>(e Z).bind λd=>(lstO d).bind λb=>if a.length+b.length<=LIM then .ok (.nx (Z.set i (.ow (a++b)))) else .bad
def trips:List D->List D->List D->List D
 | x::xs,y::ys,z::zs=>.tup [x,y,z]::trips xs ys zs
 | _,_,_=>[]
def zip3:List D->Res (List D)
 | [x,y,z]=>(seqD x).bind λa=>(seqD y).bind λc=>(seqD z).bind λb=>.ok (trips a c b)
 | _=>.bad
def lz3(ds:List D):Res D:=(zip3 ds).bind λa=>.ok (.lst a)
end Dl
namespace L2.Ds
open Dl
section
def qU(ad)(arr)(cap)(bd)(brr)(bcap)(bsl)(short:¬(!arr.isEmpty&&Builtin.List.listTooLong (arr.size+brr.size))=true)(le1:arr.size<=sizeLine)(le2:arr.size+brr.size<=sizeLine+1) :
  Meets (Builtin.«list.extend» ⟨[.ref ad,.ref bd],[]⟩) (λ_ R s=>s.heap.get? ad=some { cls:=.type "list",dict:=none,data:=.seq arr cap,slots:=#[] }/\s.heap.get? bd=some { cls:=.type "list",dict:=none,data:=.seq brr bcap,slots:=bsl }/\R (.ok (.ret Value.none)) { s with heap:=s.heap.update ad (Obj.mapSeq λzs=>zs++brr),toks:=s.toks }) :=
 .of_wp λe w A R s h=>by
  obtain ⟨k,m,j,f,i⟩:=s;obtain ⟨a,c,b⟩:=h;have p:=PySem.AutoSeq1.idx_int;have n:=PySem.AutoSeq1.sub_tuple_tuple;have l:=PySem.AutoSeq1.sub_list_list;have o:=PySem.AutoSeq1.sub_tuple_list;have g:=PySem.AutoSeq1.sub_list_tuple;have d:(arr++brr).size<=sizeLine+1:=by rw [Array.size_append];exact le2
  wp_walk using (Kz a rfl (hz:=le1) (_hz':=d)),wpAny_loadPart' a,wpAny_loadPart' c
  exact ⟨_,rfl,b⟩
def KH(K:W.Frag):V->List V->Hp->VK->Prop:=λx d H Q=>∃l b a c,x=.ref l/\d=[.ref b]/\H l=some (.lst a)/\SqL K H b c/\a.length+c.length<=sizeLine/\Q .non (upd H l (.lst (a++c)))
def qZ:MtR X "list.extend" (KH X.K):=by
 intro j s Y H x M v S Q I D k h;obtain ⟨l,b,N,T,rfl,rfl,i,w,P,q⟩:=h;cases D;obtain ⟨u,rfl,B⟩:=k.one;cases B;obtain ⟨z,c,n,r,G,e⟩:=I.lstM i;obtain ⟨a,g,⟨o,E,p,C,m,A⟩,R⟩:=I.list w;obtain ⟨J,O,L,t⟩:=o;cases C;cases m;cases A;have y:=g.length;have f:c.toArray.size+a.toArray.size<=sizeLine:=by rw [Bg,Bg];omega
 have d:¬(!c.toArray.isEmpty&&Builtin.List.listTooLong (c.toArray.size+a.toArray.size))=true:=by
  rw [V2 f,Bool.and_false];exact Dp
 refine call_meets PySem.F.slot_list_extend ⟨_,e,rfl⟩ PySem.F.entry_list_extend (PySem.F.args_list_extend_2 _ _) (qU l c.toArray n b a.toArray E t d (by rw [Bg];omega) (by omega)) ⟨e,p,?_⟩;refine ⟨.non,_,I.lset (its':=c++a) i e (by simp) (r.append g) ?_,rfl,q⟩;rw [Bo];omega
end
section
variable {ta tb:TE} {ma mb:ME} {F:Hp}
def Rep.put{es:List D}(r:Rep K mg F0 H0 F H Y Z)(e:Z[i]?=some (.ow ds))(e2:Y[i]?=some (some (.ref a)))(e3:H a=some (.lst xs))(e4:H0 a=none)(e5:F a=none)(hr:Rps K mg F ys es) :
  Rep K mg F0 H0 F (upd H a (.lst ys)) Y (Z.set i (.ow es)):=by
 refine ⟨⟨r.g.f,λb o q=>?_,λb o n d=>?_,r.g.z⟩,by rw [Eu];exact r.len,λj u q=>?_,λj es q=>?_,λj k es C b n d w A=>?_⟩
 .rw [Ag (Ay q e5)];exact r.g.s b o q
 .rw [Ag (Ay d e4)];exact r.g.o b o n d
 .rcases BV q with ⟨_,z,_⟩ | ⟨_,q⟩
  .cases z
  .exact r.im j u q
 .rcases BV q with ⟨rfl,z,l⟩ | ⟨hij,q⟩
  .cases z;exact ⟨a,_,e2,e4,e5,Ak,hr⟩
  .obtain ⟨b,ys,p,v,y,B,x⟩:=r.ow j es q;have t:b≠a:=by
    rintro rfl;exact hij (r.ne i j ds es b e q e2 p)
   exact ⟨b,ys,p,v,y,by rw [Ag t];exact B,x⟩
 .have m:∃c,Z[j]?=some (.ow c):=by
   rcases BV n with ⟨rfl,_,_⟩ | ⟨_,q⟩
   .exact ⟨_,e⟩
   .exact ⟨_,q⟩
  have h:∃c,Z[k]?=some (.ow c):=by
   rcases BV d with ⟨rfl,_,_⟩ | ⟨_,q⟩
   .exact ⟨_,e⟩
   .exact ⟨_,q⟩
  obtain ⟨_,m⟩:=m;obtain ⟨_,h⟩:=h;exact r.ne j k _ _ b m h w A
def Rps.eraseIdx:∀{xs:List V} {ds:List D} (j:Nat),Rps K mg F xs ds->Rps K mg F (xs.eraseIdx j) (ds.eraseIdx j)
 | _,_,_,.nil=>by simp;exact .nil
 | _,_,0,.cons _ r=>r
 | _,_,j+1,.cons h r=>.cons h (Rps.eraseIdx j r)
def gW(ha:SE K mg E ta ma):SS K mg E (CQ (tBM K "list" (KH K) (tVar i) (BW ta tNil))) (ext i ma):=by
 intro t v F H Y Z n;unfold ext getO;split
 .next l e=>
  obtain ⟨a,w,y,I,J,A,G⟩:=n.ow i l e;have h:=(ha t v F H Y Z n).stm (K:=K) (k:=λd=>(lstO d).bind λb=>if l.length+b.length<=LIM then Res.ok (Fl.nx (Z.set i (.ow (l++b)))) else .bad) (w':=λx p D=>KH K (.ref a) [x] p λ_ r=>D.nx Y r) n.g λd _ C O x m L=>?_
  .have j:∀D,(ta Y H λx p=>KH K (.ref a) [x] p λ_ r=>D.nx Y r)->CQ (tBM K "list" (KH K) (tVar i) (BW ta tNil)) D Y H:=λD z=>⟨.ref a,y,.inl ⟨rfl,w,SqL.of A⟩,z⟩;show AnsS K mg E t v F ((ma Z).bind λd=>(lstO d).bind λb=>if l.length+b.length<=LIM then Res.ok (Fl.nx (Z.set i (.ow (l++b)))) else .bad) _
   generalize ((ma Z).bind λd=>(lstO d).bind λb=>if l.length+b.length<=LIM then Res.ok (Fl.nx (Z.set i (.ow (l++b)))) else .bad)=res at h
   cases res with
   | ok f=>
    cases f with
    | nx Z=>exact λD q=>j D (h D q)
    | bk Z=>exact λD q=>j D (h D q)
    | ct Z=>exact λD q=>j D (h D q)
    | rt d=>exact λD q=>j D (h D q)
   | ex c=>exact λD q=>j D (h D q)
   | bad=>trivial
  .cases d with
   | lst b=>
    cases L with
    | lst hb rb=>
     show AnsS K mg E t v C (if l.length+b.length<=LIM then Res.ok (Fl.nx (Z.set i (.ow (l++b)))) else .bad) _
     by_cases hl:l.length+b.length<=LIM
     .rw [iP hl];have M:=n.gr m;obtain ⟨N,B⟩:=m.o a _ J A;have u:=G.same m.f;exact λD q=>⟨a,_,w,_,rfl,rfl,B,m.s.seq hb,by rw [G.length,rb.length];exact CK hl (by decide),q C _ Y (Same.refl _) (M.put e y B I N (Rps.app rb u))⟩
     .rw [iN hl];trivial
   | _=>trivial
 .trivial
end
section
variable {o k' a b c' d':Expr} {to tk ta tb tc td:TE} {mo mk ma mb mc md:ME} {np apos spos':Pos}
def Zj(i)(he:DE X E e te me)(hN:X.N[i]?=some x:=by rfl)(hv:Dv X.env.scope x:=by first | exact Or.inl rfl | exact Or.inr (Or.inl rfl) | exact Or.inr (Or.inr rfl))(hd:ND x:=by decide)(hcd:NE x:=by decide)(hbase:attributeBase (.Name x np) "extend" X.env (eval (.Name x np) X.env)=eval (.Name x np) X.env:=by rfl) (hfew:((backTo cpos (starEach [e] X.env)).all (λx=>!x.1)&&(backToKw cpos (keywordEach [] X.env)).all (λx=>x.1.isSome)
   && decide ([e].length+([]:List Keyword).length+(if ([]:List Keyword).isEmpty then 0 else 1)<30))=true:=by rfl) (hline:(apos.endLine==cpos.line)=true:=by rfl) (hs:starEach [e] X.env=(false,eval e X.env)::starEach [] X.env:=by rfl) (hplain:(backTo cpos (starEach [] X.env)).any (·.1)=false:=by rfl) (hsw:swapsWith (.Call (.Attribute (.Name x np) "extend" apos) [e] [] cpos) none spos.line X.env=pure false:=by rfl) :
  DS X E (.Expr (.Call (.Attribute (.Name x np) "extend" apos) [e] [] cpos) spos) (CQ (tBM X.K "list" (KH X.K) (tVar i) (BW te tNil))) (ext i me) :=
 ⟨HJ (KR J9 PySem.F.slot_list_extend PySem.F.type_list_extend qZ (Ej hN hv hd hcd) (Dt he.p Fw hs) hbase hfew hline hs hplain) hsw,gW he.s⟩
end
end L2.Ds
namespace L2
abbrev Z3(h:Heap)(z TI TO:Addr)(f0 f1:Value):Prop:=h.get? z=some { cls:=.type "zip",dict:=none,data:=.fields #[f0,f1,.bool false,.ref TI,.ref TO],slots:=#[] }
abbrev Tr(h:Heap)(T:Addr)(a b c:Value):Prop:=h.get? T=some { cls:=.type "tuple",data:=.seq #[a,b,c] }
def Mk3(f0:Value):Prop:=f0=.none\/∃T,f0=rawInt T
structure Ap3(z TI TO i1 i2 i3 l1 l2 l3:Addr):Prop where
 o1:@LT.lt Nat _ i1 i2
 o2:@LT.lt Nat _ i2 i3
 o3:@LT.lt Nat _ i3 TI
 o4:@LT.lt Nat _ TI TO
 o5:@LT.lt Nat _ TO z
 a1:@LT.lt Nat _ l1 i1
 a2:@LT.lt Nat _ l2 i1
 a3:@LT.lt Nat _ l3 i1
def NZ{a b:Nat}(h:a<b\/b<a):a≠b:=by omega
local macro_rules | `(tactic| walk_at "nl")=>`(tactic| first | exact FN (by assumption) | exact BK (by assumption))
section
variable{prog:Program} {E:Value->Shared->Prop}
def Mx{x:Value}(kT:Tr s.heap T a b c)(h:∀h',h'.get? T=some { cls:=.type "tuple",data:=.seq ((#[a,b,c]:Array Value).setIfInBounds k x) }->Heap.SameBut T s.heap h'->Q () { s with heap:=h' }) :
  wpAny (model prog w) A (updateSeq T (·.setIfInBounds k x)) Q E s:=by
 refine Kz kT rfl (h _ ?_ (Q5 ..));rw [Ih _ kT rfl];simp [Obj.mapSeq]
def pY(h:Q (s.heap.get? a) s):wpAny (model prog w) A (loadIfAlive a) Q E s:=λΓ p _=>by
 show PySem.Sem.wp _ Γ (Sem.loadIfAlive a λx=>.pure x) _ _ p s;rw [PySem.Sem.wp_loadIfAlive];exact h
def eY{z TI TO:Addr}{f0 f1:Value}{Q:Bool->Shared->Prop}(kz:Z3 s.heap z TI TO f0 f1)(kf:Mk3 f0)(h1:Q true s)(h2:∀h' f,Z3 h' z TI TO f0 f->Heap.SameBut z s.heap h'->Q false { s with heap:=h' }) :
  wpAny (model prog w) A (Builtin.SmallTypes.ownedTupleIsFree (.ref z)) Q E s:=by
 unfold Builtin.SmallTypes.ownedTupleIsFree;refine Ac (Bx kz rfl (x:=f0) rfl ?_);rcases kf with rfl | ⟨T,rfl⟩
 .exact Ad h1
 .refine Ac (pY ?_);split
  .exact Ad h1
  .refine Ac (Bx kz rfl (x:=f1) rfl ?_);split
   .refine Ac (Er kz (by simp) λg a b=>Ad (h2 g _ a b))
   .exact Ad (h2 s.heap f1 kz (Heap.SameBut.refl ..))
def iH{p q r:Bool}{z TI TO i1 i2 i3 l1 l2 l3:Addr}{us vs ws:Array Value}{x y u a b c f0 f1:Value}{Q:Value->Shared->Prop}(D:Ap3 z TI TO i1 i2 i3 l1 l2 l3)(kz:Z3 s.heap z TI TO f0 f1)(kf:Mk3 f0)(kTI:Tr s.heap TI (.ref i1) (.ref i2) (.ref i3))(kTO:Tr s.heap TO a b c)(m1:ItK p s.heap i1 l1 k)(m2:ItK q s.heap i2 l2 k)(m3:ItK r s.heap i3 l3 k)(n1:SqK p s.heap l1 us)(n2:SqK q s.heap l2 vs)(n3:SqK r s.heap l3 ws)(kx:us[k]?=some x)(ky:vs[k]?=some y)(ku:ws[k]?=some u) (kQ:∀h' f0' f1',Z3 h' z TI TO f0' f1'->Mk3 f0'->(∃a b c,Tr h' TO a b c)->ItK p h' i1 l1 (k+1)->ItK q h' i2 l2 (k+1)->ItK r h' i3 l3 (k+1)->Tr h' s.heap.objs.size x y u ->
   (∀c o,c≠z->c≠TO->c≠i1->c≠i2->c≠i3->s.heap.get? c=some o->h'.get? c=some o)->Q (.ref s.heap.objs.size) { s with heap:=h' }) :
  wpAny (model prog w) A (Builtin.«zip.__next__» ⟨[.ref z],[]⟩) (λfin s'=>∃v,fin=.done (.ret v)/\Q v s') E s:=by
 obtain ⟨o1,o2,o3,o4,o5,a1,a2,a3⟩:=D;have x1:=BJ o1 o2;have x2:=BJ o3 o4;have x3:=BJ o2 x2;have x4:=BJ o1 x3;have y1:=BJ x2 o5;have y2:=BJ x3 o5;have y3:=BJ x4 o5;have b1:=BJ a1 o1;have B:=BJ a1 x1;have d1:=BJ a1 x4;have e1:=BJ a1 y3;have b2:=BJ a2 o1;have N:=BJ a2 x1;have d2:=BJ a2 x4;have e2:=BJ a2 y3;have b3:=BJ a3 o1;have K:=BJ a3 x1;have d3:=BJ a3 x4;have e3:=BJ a3 y3;show wpAny _ _ (field (.ref z) 2 >>= _) _ _ _;refine Ac (Bx kz rfl (x:=.bool false) rfl ?_);show wpAny _ _ (field (.ref z) 3 >>= _) _ _ _;refine Ac (Bx kz rfl (x:=.ref TI) rfl ?_);refine Ac (Dn kTI rfl ?_);show wpAny _ _ (Builtin.SmallTypes.ownedTupleIsFree (.ref z) >>= _) _ _ _;refine Ac (eY kz kf ?_ λL f F g=>?_)
 .simp only [Dd];refine Ac (G6 ?_);refine Ac (Bx kz rfl (x:=.ref TO) rfl ?_);refine Ac (Er kz (by simp) λL F g=>?_);replace F:Z3 L z TI TO .ellipsis f1:=F;refine Ac ?_;simp only [List.zipIdx_cons,List.zipIdx_nil,JZ,J8];refine Ac (Ac (Gm ?_));show wpAny _ _ (Builtin.SmallTypes.nextOf (.ref i1) >>= _) _ _ _;refine Ac (Ez (m1.extBut g.extBut (by walk_at "nl")) (n1.extBut g.extBut (by walk_at "nl")) kx λO W h=>Ad ?_);have Z:Tr O TO a b c:=h.extBut _ _ (by walk_at "nl") (g.extBut _ _ (by walk_at "nl") kTO);refine Ac (Dn Z rfl ?_);refine Ac (Mx Z λM V i=>?_);replace V:Tr M TO x b c:=V;refine Ac (HB (Ad ?_));refine Ac (Ac (Gm ?_));show wpAny _ _ (Builtin.SmallTypes.nextOf (.ref i2) >>= _) _ _ _;refine Ac (Ez (((m2.extBut g.extBut (by walk_at "nl")).extBut h.extBut (by walk_at "nl")).extBut i.extBut (by walk_at "nl")) (((n2.extBut g.extBut (by walk_at "nl")).extBut h.extBut (by walk_at "nl")).extBut i.extBut (by walk_at "nl")) ky λd m24 j=>Ad ?_);have I:Tr d TO x b c:=j.extBut _ _ (by walk_at "nl") V;refine Ac (Dn I rfl ?_);refine Ac (Mx I λg₅ T m=>?_);replace T:Tr g₅ TO x y c:=T;refine Ac (HB (Ad ?_));refine Ac (Ac (Gm ?_));show wpAny _ _ (Builtin.SmallTypes.nextOf (.ref i3) >>= _) _ _ _;refine Ac (Ez (((((m3.extBut g.extBut (by walk_at "nl")).extBut h.extBut (by walk_at "nl")).extBut i.extBut (by walk_at "nl")).extBut j.extBut (by walk_at "nl")).extBut m.extBut (by walk_at "nl")) (((((n3.extBut g.extBut (by walk_at "nl")).extBut h.extBut (by walk_at "nl")).extBut i.extBut (by walk_at "nl")).extBut j.extBut (by walk_at "nl")).extBut m.extBut (by walk_at "nl")) ku λY m36 t=>Ad ?_);have kT6:Tr Y TO x y c:=t.extBut _ _ (by walk_at "nl") T;refine Ac (Dn kT6 rfl ?_);refine Ac (Mx kT6 λl J n=>?_);replace J:Tr l TO x y u:=J;refine Ac (HB (Ad (Ad ?_)));refine Ac (Dn J rfl ?_);refine Ac (wpAny_newTuple ?_);have sz:l.objs.size=s.heap.objs.size:=by rw [n.1,t.1,m.1,j.1,i.1,h.1,g.1]
  have kz7:Z3 l z TI TO .ellipsis f1:=n.extBut _ _ (by walk_at "nl") (t.extBut _ _ (by walk_at "nl") (m.extBut _ _ (by walk_at "nl") (j.extBut _ _ (by walk_at "nl") (i.extBut _ _ (by walk_at "nl") (h.extBut _ _ (by walk_at "nl") F)))));have G:∀c o,c≠z->c≠TO->c≠i1->c≠i2->c≠i3->s.heap.get? c=some o->l.get? c=some o:=λc o B N K R P e=>
   n.extBut _ _ N (t.extBut _ _ P (m.extBut _ _ N (j.extBut _ _ R (i.extBut _ _ N (h.extBut _ _ K (g.extBut _ _ B e))))))
  have q1:ItK p l i1 l1 (k+1):=((((W.extBut i.extBut (by walk_at "nl")).extBut j.extBut (by walk_at "nl")).extBut m.extBut (by walk_at "nl")).extBut t.extBut (by walk_at "nl")).extBut n.extBut (by walk_at "nl");have q2:ItK q l i2 l2 (k+1):=((m24.extBut m.extBut (by walk_at "nl")).extBut t.extBut (by walk_at "nl")).extBut n.extBut (by walk_at "nl");have q3:ItK r l i3 l3 (k+1):=m36.extBut n.extBut (by walk_at "nl");have zlt:z<l.objs.size:=Aq kz7;show wpAny _ _ (Builtin.SmallTypes.ownedTupleHandOut (.ref z) (.ref l.objs.size) >>= _) _ _ _;refine Ac ?_;unfold Builtin.SmallTypes.ownedTupleHandOut;have S:Z3 (l.push { cls:=.type "tuple",data:=.seq #[x,y,u] }) z TI TO .ellipsis f1:=Ao _ kz7;refine Ac (Er S (by simp) λg9 X ks9=>?_);replace X:Z3 g9 z TI TO (rawInt l.objs.size) f1:=X;refine Er X (by simp) λgA U ksA=>?_;replace U:Z3 gA z TI TO (rawInt l.objs.size) (.bool false):=U;have C:∀c o,c≠z->l.get? c=some o->gA.get? c=some o:=λc o B e=>ksA.extBut _ _ B (ks9.extBut _ _ B (Ao _ e));have H:Tr gA l.objs.size x y u:=ksA.extBut _ _ (FN zlt) (ks9.extBut _ _ (FN zlt) (Bp _ rfl));rw [sz] at H;refine Ad ⟨_,rfl,?_⟩;show Q (.ref l.objs.size) _;rw [sz];exact kQ gA _ _ U (.inr ⟨_,rfl⟩) ⟨_,_,_,C _ _ (by walk_at "nl") J⟩ (q1.at λo e=>C _ o (by walk_at "nl") e) (q2.at λo e=>C _ o (by walk_at "nl") e) (q3.at λo e=>C _ o (by walk_at "nl") e) H λc o B N K R P e=>C c o B (G c o B N K R P e)
 .simp only [Dg,CJ];rw [<-RJ];simp only [JZ,J8];refine Ac (Ac (Ac (Cz ?_)));show wpAny _ _ (Builtin.SmallTypes.nextOf (.ref i1) >>= _) _ _ _;refine Ac (Ez (m1.extBut g.extBut (by walk_at "nl")) (n1.extBut g.extBut (by walk_at "nl")) kx λO W h=>Ad (Ad ?_));refine Ac (Ac (Cz ?_));show wpAny _ _ (Builtin.SmallTypes.nextOf (.ref i2) >>= _) _ _ _;refine Ac (Ez ((m2.extBut g.extBut (by walk_at "nl")).extBut h.extBut (by walk_at "nl")) ((n2.extBut g.extBut (by walk_at "nl")).extBut h.extBut (by walk_at "nl")) ky λM m23 i=>Ad (Ad ?_));refine Ac (Ac (Cz ?_));show wpAny _ _ (Builtin.SmallTypes.nextOf (.ref i3) >>= _) _ _ _;refine Ac (Ez (((m3.extBut g.extBut (by walk_at "nl")).extBut h.extBut (by walk_at "nl")).extBut i.extBut (by walk_at "nl")) (((n3.extBut g.extBut (by walk_at "nl")).extBut h.extBut (by walk_at "nl")).extBut i.extBut (by walk_at "nl")) ku λd m34 j=>Ad (Ad (Ad ?_)));refine Ac (wpAny_newTuple (hsz:=show (3:Nat)<=sizeLine by decide) (Ad ⟨_,rfl,?_⟩));have sz:d.objs.size=s.heap.objs.size:=by rw [j.1,i.1,h.1,g.1]
  have G:∀c o,c≠z->c≠TO->c≠i1->c≠i2->c≠i3->s.heap.get? c=some o->d.get? c=some o:=λc o B _ K R P e=>j.extBut _ _ P (i.extBut _ _ R (h.extBut _ _ K (g.extBut _ _ B e)));have kz4:Z3 d z TI TO f0 f:=j.extBut _ _ (by walk_at "nl") (i.extBut _ _ (by walk_at "nl") (h.extBut _ _ (by walk_at "nl") F));have I:Tr d TO a b c:=j.extBut _ _ (by walk_at "nl") (i.extBut _ _ (by walk_at "nl") (h.extBut _ _ (by walk_at "nl") (g.extBut _ _ (by walk_at "nl") kTO)));have q1:ItK p d i1 l1 (k+1):=(W.extBut i.extBut (by walk_at "nl")).extBut j.extBut (by walk_at "nl");have q2:ItK q d i2 l2 (k+1):=m23.extBut j.extBut (by walk_at "nl");have C:∀c o,d.get? c=some o->(d.push { cls:=.type "tuple",data:=.seq #[x,y,u] }).get? c=some o:=λc o e=>Ao _ e;have H:Tr (d.push { cls:=.type "tuple",data:=.seq #[x,y,u] }) d.objs.size x y u:=Bp _ rfl;rw [sz] at H;show Q (.ref d.objs.size) _;rw [sz];exact kQ _ _ _ (C _ _ kz4) kf ⟨_,_,_,C _ _ I⟩ (q1.at λo e=>C _ o e) (q2.at λo e=>C _ o e) (m34.at λo e=>C _ o e) H λc o B N K R P e=>C c o (G c o B N K R P e)
def jy{p q r:Bool}{z TI TO i1 i2 i3 l1 l2 l3:Addr}{us vs ws:Array Value}{a b c f0 f1:Value}{Q:Fin->Shared->Prop}(kh:A.handled=none)(D:Ap3 z TI TO i1 i2 i3 l1 l2 l3)(kz:Z3 s.heap z TI TO f0 f1)(kf:Mk3 f0)(kTI:Tr s.heap TI (.ref i1) (.ref i2) (.ref i3))(kTO:Tr s.heap TO a b c)(m1:ItK p s.heap i1 l1 k)(m2:ItK q s.heap i2 l2 k)(m3:ItK r s.heap i3 l3 k)(n1:SqK p s.heap l1 us)(n2:SqK q s.heap l2 vs)(n3:SqK r s.heap l3 ws)(kend:us[k]?=none\/vs[k]?=none\/ws[k]?=none)(kE:∀h' e,(∀c o,c≠z->c≠TO->c≠i1->c≠i2->c≠i3->s.heap.get? c=some o->h'.get? c=some o)->(∃o,h'.get? e=some o/\o.cls=.type "StopIteration")->E (.ref e) { s with heap:=h' }) :
  wpAny (model prog w) A (Builtin.«zip.__next__» ⟨[.ref z],[]⟩) Q E s:=by
 obtain ⟨o1,o2,o3,o4,o5,a1,a2,a3⟩:=D;have x1:=BJ o1 o2;have x2:=BJ o3 o4;have x3:=BJ o2 x2;have x4:=BJ o1 x3;have y1:=BJ x2 o5;have y2:=BJ x3 o5;have y3:=BJ x4 o5;have b1:=BJ a1 o1;have v:=BJ a1 x1;have d1:=BJ a1 x4;have e1:=BJ a1 y3;have b2:=BJ a2 o1;have O:=BJ a2 x1;have d2:=BJ a2 x4;have e2:=BJ a2 y3;have b3:=BJ a3 o1;have F:=BJ a3 x1;have d3:=BJ a3 x4;have e3:=BJ a3 y3;show wpAny _ _ (field (.ref z) 2 >>= _) _ _ _;refine Ac (Bx kz rfl (x:=.bool false) rfl ?_);show wpAny _ _ (field (.ref z) 3 >>= _) _ _ _;refine Ac (Bx kz rfl (x:=.ref TI) rfl ?_);refine Ac (Dn kTI rfl ?_);show wpAny _ _ (Builtin.SmallTypes.ownedTupleIsFree (.ref z) >>= _) _ _ _;refine Ac (eY kz kf ?_ λM f G d=>?_)
 .simp only [Dd];refine Ac (G6 ?_);refine Ac (Bx kz rfl (x:=.ref TO) rfl ?_);refine Ac (Er kz (by simp) λM G d=>?_);replace G:Z3 M z TI TO .ellipsis f1:=G;refine Ac ?_;simp only [List.zipIdx_cons,List.zipIdx_nil,JZ,J8];refine Ac (Ac (Gm ?_));show wpAny _ _ (Builtin.SmallTypes.nextOf (.ref i1) >>= _) _ _ _;cases kx:us[k]? with
  | none=>
   refine Ac (Hy kh (m1.extBut d.extBut (by walk_at "nl")) (n1.extBut d.extBut (by walk_at "nl")) kx λn e g K=>?_);obtain ⟨Z,l,t⟩:=K;have T:Z3 n z TI TO .ellipsis f1:=g _ _ (by walk_at "nl") G;have H:e≠z:=λx=>by subst x;rw [T] at l;cases l;simp at t
   exact Er T (by simp) λj _ i=>kE j e (λc o v _ F _ _ x=>i.extBut _ _ v (g _ _ F (d.extBut _ _ v x))) ⟨Z,i.extBut _ _ H l,t⟩
  | some x=>
   refine Ac (Ez (m1.extBut d.extBut (by walk_at "nl")) (n1.extBut d.extBut (by walk_at "nl")) kx λn m12 g=>Ad ?_);have Y:Tr n TO a b c:=g.extBut _ _ (by walk_at "nl") (d.extBut _ _ (by walk_at "nl") kTO);refine Ac (Dn Y rfl ?_);refine Ac (Mx Y λj P i=>?_);replace P:Tr j TO x b c:=P;refine Ac (HB (Ad ?_));refine Ac (Ac (Gm ?_));show wpAny _ _ (Builtin.SmallTypes.nextOf (.ref i2) >>= _) _ _ _;have J:=((m2.extBut d.extBut (by walk_at "nl")).extBut g.extBut (by walk_at "nl")).extBut i.extBut (by walk_at "nl");have I:=((n2.extBut d.extBut (by walk_at "nl")).extBut g.extBut (by walk_at "nl")).extBut i.extBut (by walk_at "nl");have kz3:Z3 j z TI TO .ellipsis f1:=i.extBut _ _ (by walk_at "nl") (g.extBut _ _ (by walk_at "nl") G);have u:∀c o,c≠z->c≠TO->c≠i1->c≠i2->c≠i3->s.heap.get? c=some o->j.get? c=some o:=λc o v O F _ _ x=>i.extBut _ _ O (g.extBut _ _ F (d.extBut _ _ v x));cases ky:vs[k]? with
   | none=>
    refine Ac (Hy kh J I ky λB e m K=>?_);obtain ⟨Z,l,t⟩:=K;have S:Z3 B z TI TO .ellipsis f1:=m _ _ (by walk_at "nl") kz3;have H:e≠z:=λx=>by subst x;rw [S] at l;cases l;simp at t
    exact Er S (by simp) λN _ C=>kE N e (λc o v O F L R x=>C.extBut _ _ v (m _ _ L (u c o v O F L R x))) ⟨Z,C.extBut _ _ H l,t⟩
   | some y=>
    have ku:ws[k]?=none:=by
     rcases kend with h | h | h
     .rw [kx] at h;cases h
     .rw [ky] at h;cases h
     .exact h
    refine Ac (Ez J I ky λB m24 m=>Ad ?_);have W:Tr B TO x b c:=m.extBut _ _ (by walk_at "nl") P;refine Ac (Dn W rfl ?_);refine Ac (Mx W λN kT5 C=>?_);refine Ac (HB (Ad ?_));refine Ac (Ac (Gm ?_));show wpAny _ _ (Builtin.SmallTypes.nextOf (.ref i3) >>= _) _ _ _;refine Ac (Hy kh (((((m3.extBut d.extBut (by walk_at "nl")).extBut g.extBut (by walk_at "nl")).extBut i.extBut (by walk_at "nl")).extBut m.extBut (by walk_at "nl")).extBut C.extBut (by walk_at "nl")) (((((n3.extBut d.extBut (by walk_at "nl")).extBut g.extBut (by walk_at "nl")).extBut i.extBut (by walk_at "nl")).extBut m.extBut (by walk_at "nl")).extBut C.extBut (by walk_at "nl")) ku λX e ks6 K=>?_);obtain ⟨Z,l,t⟩:=K;have U:Z3 X z TI TO .ellipsis f1:=ks6 _ _ (by walk_at "nl") (C.extBut _ _ (by walk_at "nl") (m.extBut _ _ (by walk_at "nl") kz3));have H:e≠z:=λx=>by subst x;rw [U] at l;cases l;simp at t
    exact Er U (by simp) λg7 _ V=>kE g7 e (λc o v O F L R x=>V.extBut _ _ v (ks6 _ _ R (C.extBut _ _ O (m.extBut _ _ L (u c o v O F L R x))))) ⟨Z,V.extBut _ _ H l,t⟩
 .simp only [Dg,CJ];rw [<-RJ];simp only [JZ,J8];refine Ac (Ac (Ac (Cz ?_)));show wpAny _ _ (Builtin.SmallTypes.nextOf (.ref i1) >>= _) _ _ _;cases kx:us[k]? with
  | none=>
   refine Ac (Hy kh (m1.extBut d.extBut (by walk_at "nl")) (n1.extBut d.extBut (by walk_at "nl")) kx λn e g K=>?_);exact kE n e (λc o v _ F _ _ x=>g _ _ F (d.extBut _ _ v x)) K
  | some x=>
   refine Ac (Ez (m1.extBut d.extBut (by walk_at "nl")) (n1.extBut d.extBut (by walk_at "nl")) kx λn m12 g=>Ad (Ad ?_));refine Ac (Ac (Cz ?_));show wpAny _ _ (Builtin.SmallTypes.nextOf (.ref i2) >>= _) _ _ _;have J:=(m2.extBut d.extBut (by walk_at "nl")).extBut g.extBut (by walk_at "nl");have I:=(n2.extBut d.extBut (by walk_at "nl")).extBut g.extBut (by walk_at "nl");cases ky:vs[k]? with
   | none=>
    refine Ac (Hy kh J I ky λj e i K=>?_);exact kE j e (λc o v _ F L _ x=>i _ _ L (g.extBut _ _ F (d.extBut _ _ v x))) K
   | some y=>
    have ku:ws[k]?=none:=by
     rcases kend with h | h | h
     .rw [kx] at h;cases h
     .rw [ky] at h;cases h
     .exact h
    refine Ac (Ez J I ky λj m23 i=>Ad (Ad ?_));refine Ac (Ac (Cz ?_));show wpAny _ _ (Builtin.SmallTypes.nextOf (.ref i3) >>= _) _ _ _;refine Ac (Hy kh (((m3.extBut d.extBut (by walk_at "nl")).extBut g.extBut (by walk_at "nl")).extBut i.extBut (by walk_at "nl")) (((n3.extBut d.extBut (by walk_at "nl")).extBut g.extBut (by walk_at "nl")).extBut i.extBut (by walk_at "nl")) ku λB e m K=>?_);exact kE B e (λc o v _ F L R x=>m _ _ R (i.extBut _ _ L (g.extBut _ _ F (d.extBut _ _ v x)))) K
def vg{p q r:Bool}{z TI TO i1 i2 i3 l1 l2 l3:Addr}{us vs ws:Array Value}{x y u a b c f0 f1:Value}{Q:Option Value->Shared->Prop}(D:Ap3 z TI TO i1 i2 i3 l1 l2 l3)(kz:Z3 s.heap z TI TO f0 f1)(kf:Mk3 f0)(kTI:Tr s.heap TI (.ref i1) (.ref i2) (.ref i3))(kTO:Tr s.heap TO a b c)(m1:ItK p s.heap i1 l1 k)(m2:ItK q s.heap i2 l2 k)(m3:ItK r s.heap i3 l3 k)(n1:SqK p s.heap l1 us)(n2:SqK q s.heap l2 vs)(n3:SqK r s.heap l3 ws)(kx:us[k]?=some x)(ky:vs[k]?=some y)(ku:ws[k]?=some u) (kQ:∀h' f0' f1',Z3 h' z TI TO f0' f1'->Mk3 f0'->(∃a b c,Tr h' TO a b c)->ItK p h' i1 l1 (k+1)->ItK q h' i2 l2 (k+1)->ItK r h' i3 l3 (k+1)->Tr h' s.heap.objs.size x y u ->
   (∀c o,c≠z->c≠TO->c≠i1->c≠i2->c≠i3->s.heap.get? c=some o->h'.get? c=some o)->Q (some (.ref s.heap.objs.size)) { s with heap:=h' }) :
  wpAny (model prog w) A (pyNext (.ref z)) Q E s:=by
 have d:s.TypeIs (.ref z) "zip":=⟨_,kz,rfl⟩;unfold pyNext
 exact Ac (wpAny_attempt (Hq (name:=Str.ofString "__next__") d HY
  (Gz HY d F.entry_zip_next
   (iH D kz kf kTI kTO m1 m2 m3 n1 n2 n3 kx ky ku λh' f0' f1' h j l i g m f e=>Ad (kQ h' f0' f1' h j l i g m f e)) (F.args_zip_next_1 _))))
def vK{p q r:Bool}{z TI TO i1 i2 i3 l1 l2 l3:Addr}{us vs ws:Array Value}{a b c f0 f1:Value}{Q:Option Value->Shared->Prop}(kh:A.handled=none)(D:Ap3 z TI TO i1 i2 i3 l1 l2 l3)(kz:Z3 s.heap z TI TO f0 f1)(kf:Mk3 f0)(kTI:Tr s.heap TI (.ref i1) (.ref i2) (.ref i3))(kTO:Tr s.heap TO a b c)(m1:ItK p s.heap i1 l1 k)(m2:ItK q s.heap i2 l2 k)(m3:ItK r s.heap i3 l3 k)(n1:SqK p s.heap l1 us)(n2:SqK q s.heap l2 vs)(n3:SqK r s.heap l3 ws)(kend:us[k]?=none\/vs[k]?=none\/ws[k]?=none)(kQ:∀h',(∀c o,c≠z->c≠TO->c≠i1->c≠i2->c≠i3->s.heap.get? c=some o->h'.get? c=some o)->Q none { s with heap:=h' }):wpAny (model prog w) A (pyNext (.ref z)) Q E s:=by
 have d:s.TypeIs (.ref z) "zip":=⟨_,kz,rfl⟩;unfold pyNext
 refine Ac (wpAny_attempt (Hq (name:=Str.ofString "__next__") d HY
  (Gz HY d F.entry_zip_next (jy kh D kz kf kTI kTO m1 m2 m3 n1 n2 n3 kend λh' e i h=>?_) (F.args_zip_next_1 _))))
 obtain ⟨o,g,f⟩:=h;refine Ac (wpAny_isInstance (T:="StopIteration") (b:=true) ⟨o,g,f⟩ isSubtype_stop ?_);exact Ad (kQ _ i)
def uC{z TI TO:Addr}{f0 f1:Value}{Q:Value->Shared->Prop}(kz:Z3 s.heap z TI TO f0 f1)(h:Q (.ref z) s):wpAny (model prog w) A (pyIter (.ref z)) Q E s:=by
 have a:s.TypeIs (.ref z) "zip":=⟨_,kz,rfl⟩;refine wpAny_pyIter_slot a F.slot_zip_iter (Gz F.slot_zip_iter a F.entry_zip_iter ?_ (F.args_zip_iter_1 _));show wpAny _ _ (ret (.ref z)) _ _ s;exact Ad ⟨_,rfl,"zip",_,a,F.slot_zip_next.lookup,h⟩
end
def nT(a b c):checkTypeCall "zip" ⟨[a,b,c],[]⟩=pure ():=by kernel_rfl
def j8(a b c):checkBuiltinCall "zip.__new__" ⟨[.type "zip",a,b,c],[]⟩=pure ():=by kernel_rfl
def oi_4(a b c d):argsOk "object.__init__" ⟨[a,b,c,d],[]⟩:=by
 have e:=signature?_of (id:="object.__init__") (o:=['t','c','e','j','b','o']) (n:=['_','_','t','i','n','i','_','_']) (by kernel_rfl) PySem.F.owner_object;unfold argsOk;rw [e]
 kernel_rfl
abbrev j1(p:Bool)(h:Heap)(l1:Addr):Heap:=h.push (GJ p l1)
abbrev j2(p q:Bool)(h:Heap)(l1 l2:Addr):Heap:=(j1 p h l1).push (GJ q l2)
abbrev j3(p q r:Bool)(h:Heap)(l1 l2 l3:Addr):Heap:=(j2 p q h l1 l2).push (GJ r l3)
abbrev j4(p q r:Bool)(h:Heap)(l1 l2 l3:Addr):Heap:=(j3 p q r h l1 l2 l3).push { cls:=.type "tuple",data:=.seq #[.ref h.objs.size,.ref (j1 p h l1).objs.size,.ref (j2 p q h l1 l2).objs.size] }
abbrev j5(p q r:Bool)(h:Heap)(l1 l2 l3:Addr):Heap:=(j4 p q r h l1 l2 l3).push { cls:=.type "tuple",data:=.seq #[.none,.none,.none] }
abbrev j6(p q r:Bool)(h:Heap)(l1 l2 l3:Addr):Heap:=(j5 p q r h l1 l2 l3).push { cls:=.type "zip",data:=.fields #[.none,.bool false,.bool false,.ref (j3 p q r h l1 l2 l3).objs.size,.ref (j4 p q r h l1 l2 l3).objs.size] }
def pq(p q r)(l1 l2 l3)(us vs ws) :
  Meets (Builtin.«zip.__new__» ⟨[.type "zip",.ref l1,.ref l2,.ref l3],[]⟩) (λ_ R s=>SqK p s.heap l1 us/\SqK q s.heap l2 vs/\SqK r s.heap l3 ws /\
   R (.ok (.ret (.ref (j5 p q r s.heap l1 l2 l3).objs.size))) { s with heap:=j6 p q r s.heap l1 l2 l3 }) :=
 .of_wp λe w A R s h=>by
  obtain ⟨a,g,d,c,b⟩:=s;obtain ⟨m,j,k,h⟩:=h;have f:=sub_zip;have n:SqK p (Shared.heap ⟨a,g,d,c,b⟩) l1 us:=m;have i:SqK q (Shared.heap ⟨a.push (GJ p l1),g,d,c,b⟩) l2 vs:=SqK.push j _;have l:SqK r (Shared.heap ⟨(a.push (GJ p l1)).push (GJ q l2),g,d,c,b⟩) l3 ws:=SqK.push (SqK.push k _) _
  wp_walk using Mw n,Mw i,Mw l
  exact ⟨_,rfl,h⟩
section
variable{prog:Program} {E:Value->Shared->Prop}
def lO{us:Array Value}(n1:SqK p s.heap l1 us)(n2:SqK q s.heap l2 vs)(n3:SqK r s.heap l3 ws) (h:∀h',Z3 h' (s.heap.objs.size+5) (s.heap.objs.size+3) (s.heap.objs.size+4) .none (.bool false)->Tr h' (s.heap.objs.size+3) (.ref s.heap.objs.size) (.ref (s.heap.objs.size+1)) (.ref (s.heap.objs.size+2)) ->
   Tr h' (s.heap.objs.size+4) .none .none .none->ItK p h' s.heap.objs.size l1 0->ItK q h' (s.heap.objs.size+1) l2 0->ItK r h' (s.heap.objs.size+2) l3 0->h'.objs.size=s.heap.objs.size+6 ->
   (∀c o,s.heap.get? c=some o->h'.get? c=some o)->Q (.ref (s.heap.objs.size+5)) { s with heap:=h' }) :
  wpAny (model prog w) A (call (.type "zip") [.ref l1,.ref l2,.ref l3]) Q E s:=by
 refine callType_new F.called_zip (by decide) (nT _ _ _) (j8 _ _ _) (λk=>oi_4 k _ _ _) F.entry_zip_new (pq p q r l1 l2 l3 us vs ws) ⟨n1,n2,n3,?_⟩;have j:(j1 p s.heap l1).objs.size=s.heap.objs.size+1:=Ck ..;have t:(j2 p q s.heap l1 l2).objs.size=s.heap.objs.size+2:=by rw [Ck,j]
 have i:(j3 p q r s.heap l1 l2 l3).objs.size=s.heap.objs.size+3:=by rw [Ck,t]
 have m:(j4 p q r s.heap l1 l2 l3).objs.size=s.heap.objs.size+4:=by rw [Ck,i]
 have l:(j5 p q r s.heap l1 l2 l3).objs.size=s.heap.objs.size+5:=by rw [Ck,m]
 have C:(j6 p q r s.heap l1 l2 l3).objs.size=s.heap.objs.size+6:=by rw [Ck,l]
 have d:∀{c:Addr} {o:Obj},(j5 p q r s.heap l1 l2 l3).get? c=some o->(j6 p q r s.heap l1 l2 l3).get? c=some o:=λe=>Ao _ e;have b:∀{c:Addr} {o:Obj},(j4 p q r s.heap l1 l2 l3).get? c=some o->(j6 p q r s.heap l1 l2 l3).get? c=some o:=λe=>d (Ao _ e);have a:∀{c:Addr} {o:Obj},(j3 p q r s.heap l1 l2 l3).get? c=some o->(j6 p q r s.heap l1 l2 l3).get? c=some o:=λe=>b (Ao _ e);have g:∀{c:Addr} {o:Obj},(j2 p q s.heap l1 l2).get? c=some o->(j6 p q r s.heap l1 l2 l3).get? c=some o:=λe=>a (Ao _ e);have f:∀{c:Addr} {o:Obj},(j1 p s.heap l1).get? c=some o->(j6 p q r s.heap l1 l2 l3).get? c=some o:=λe=>g (Ao _ e);have n:(j6 p q r s.heap l1 l2 l3).get? (j5 p q r s.heap l1 l2 l3).objs.size=some _:=Bp _ rfl;have u:(j6 p q r s.heap l1 l2 l3).get? (j4 p q r s.heap l1 l2 l3).objs.size=some _:=d (Bp _ rfl);have z:(j6 p q r s.heap l1 l2 l3).get? (j3 p q r s.heap l1 l2 l3).objs.size=some _:=b (Bp _ rfl);have v:(j6 p q r s.heap l1 l2 l3).get? (j2 p q s.heap l1 l2).objs.size=some _:=a (Bp _ rfl);have y:(j6 p q r s.heap l1 l2 l3).get? (j1 p s.heap l1).objs.size=some _:=g (Bp _ rfl);have B:(j6 p q r s.heap l1 l2 l3).get? s.heap.objs.size=some _:=f (Bp _ rfl);show _/\_;rw [i,m,l] at n;rw [j,t,i] at z;rw [m] at u;rw [t] at v;rw [j] at y;rw [l];exact ⟨⟨_,n,rfl⟩,h _ n z u (ItK.new B) (ItK.new y) (ItK.new v) C λc o x=>f (Ao _ x)⟩
end
def At3(p q r:Bool)(z TI TO i1 i2 i3 a b c:Addr)(i:Nat)(h:Heap):Prop :=
 ∃d e u v w,Z3 h z TI TO d e/\Mk3 d/\Tr h TI (.ref i1) (.ref i2) (.ref i3)/\Tr h TO u v w/\ItK p h i1 a i/\ItK q h i2 b i/\ItK r h i3 c i
def At3.obj{p q r:Bool}{z TI TO i1 i2 i3 a b c:Addr}{h:Heap}(st:At3 p q r z TI TO i1 i2 i3 a b c i h){x:Addr}(hx:x∈[z,TI,TO,i1,i2,i3]):∃o,h.get? x=some o/\∀v,o.data≠.cell v:=by
 obtain ⟨E,D,u,v,w,n,A,d,e,l,f,g⟩:=st;obtain ⟨C,_,y,j⟩:=l.flds;obtain ⟨B,_,m,k⟩:=f.flds;obtain ⟨F,_,s,t⟩:=g.flds;simp only [Aj,CZ,Gq] at hx;rcases hx with rfl | rfl | rfl | rfl | rfl | rfl
 .exact ⟨_,n,λv z=>by cases z⟩
 .exact ⟨_,d,λv z=>by cases z⟩
 .exact ⟨_,e,λv z=>by cases z⟩
 .exact ⟨_,y,λv z=>by rw [j] at z;cases z⟩
 .exact ⟨_,m,λv z=>by rw [k] at z;cases z⟩
 .exact ⟨_,s,λv z=>by rw [t] at z;cases z⟩
def At3.keep{p q r:Bool}{z TI TO i1 i2 i3 a b c:Addr}{h h':Heap}(st:At3 p q r z TI TO i1 i2 i3 a b c i h)(k:∀x∈[z,TI,TO,i1,i2,i3],∀o,h.get? x=some o->h'.get? x=some o):At3 p q r z TI TO i1 i2 i3 a b c i h':=by
 obtain ⟨s,t,u,v,w,l,g,d,f,j,m,n⟩:=st;exact ⟨s,t,u,v,w,k z (by simp) _ l,g,k TI (by simp) _ d,k TO (by simp) _ f,j.at λo e=>k i1 (by simp) o e,m.at λo e=>k i2 (by simp) o e,n.at λo e=>k i3 (by simp) o e⟩
section
variable {B:Around} {p q r:Bool} {z TI TO i1 i2 i3 a b c:Addr}
def kj{E:Value->Shared->Prop}{x:V}(D:Ap3 z TI TO i1 i2 i3 a b c)(I:Inv X pins Y H s)(hf:∀d∈[z,TI,TO,i1,i2,i3],FpOk X pins H d)(st:At3 p q r z TI TO i1 i2 i3 a b c i s.heap)(hqa:SqB X.K p H a xs)(hqb:SqB X.K q H b ys)(hqc:SqB X.K r H c zs)(hx:xs[i]?=some x)(hy:ys[i]?=some y)(hu:zs[i]?=some u)(kQ:∀h' T,T=s.heap.objs.size->H T=none->Inv X pins Y (upd H T (.tup [x,y,u])) { s with heap:=h' }->At3 p q r z TI TO i1 i2 i3 a b c (i+1) h'->(∀d o,d∉[z,TI,TO,i1,i2,i3]->s.heap.get? d=some o->h'.get? d=some o)->Q (some (.ref T)) { s with heap:=h' }) :
  wpAny (model X.prog X.w) B (pyNext (.ref z)) Q E s:=by
 obtain ⟨f0,f1,u0,v0,w0,kz,kf,h,v,Z,m2,m3⟩:=st;obtain ⟨its,S,pa,za⟩:=I.seqB hqa;obtain ⟨P,m,pb,zb⟩:=I.seqB hqb;obtain ⟨G,C,pc,zc⟩:=I.seqB hqc;obtain ⟨J,e1,W⟩:=S.get hx;obtain ⟨L,e2,r2⟩:=m.get hy;obtain ⟨M,e3,r3⟩:=C.get hu;refine vg D kz kf h v Z m2 m3 pa pb pc (x:=J) (y:=L) (u:=M) (by simpa using e1) (by simpa using e2) (by simpa using e3) λh' A n b1 b2 l b4 U b6 R N=>?_;have hT:H s.heap.objs.size=none:=I.hok.fresh (Al _);have O:∀d o,d∉[z,TI,TO,i1,i2,i3]->s.heap.get? d=some o->h'.get? d=some o:=λd o g e=>N d o (λq=>g (by simp [q])) (λq=>g (by simp [q])) (λq=>g (by simp [q])) (λq=>g (by simp [q])) (λq=>g (by simp [q])) e;have f:Tr h' TI (.ref i1) (.ref i2) (.ref i3):=by
  obtain ⟨o1,o2,o3,o4,o5,a1,a2,a3⟩:=D;exact N TI _ (NZ (by omega)) (NZ (by omega)) (NZ (by omega)) (NZ (by omega)) (NZ (by omega)) h
 obtain ⟨j,F,t,l⟩:=l;refine kQ h' _ rfl hT ?_ ⟨A,n,j,F,t,b1,b2,f,l,b4,U,b6⟩ O;refine I.turnNew (fp:=[z,TI,TO,i1,i2,i3]) (t':=s.toks) (λd ob hb e=>O d ob hb e) hf (Al _) ?_;have k:(3:Nat)<=sizeLine:=by decide
 exact ⟨k,[J,L,M],.cons W (.cons r2 (.cons r3 .nil)),⟨_,R,rfl,_,rfl⟩⟩
def vP{E:Value->Shared->Prop}(hc:B.handled=none)(D:Ap3 z TI TO i1 i2 i3 a b c)(I:Inv X pins Y H s)(hf:∀d∈[z,TI,TO,i1,i2,i3],FpOk X pins H d)(st:At3 p q r z TI TO i1 i2 i3 a b c i s.heap)(hqa:SqB X.K p H a xs)(hqb:SqB X.K q H b ys)(hqc:SqB X.K r H c zs)(hx:xs.length<=i\/ys.length<=i\/zs.length<=i)(kQ:∀h',Inv X pins Y H { s with heap:=h' }->(∀d o,d∉[z,TI,TO,i1,i2,i3]->s.heap.get? d=some o->h'.get? d=some o)->Q none { s with heap:=h' }) :
  wpAny (model X.prog X.w) B (pyNext (.ref z)) Q E s:=by
 obtain ⟨Z,R,U,W,V,J,t,j,k,F,x,y⟩:=st;obtain ⟨L,u,C,S⟩:=I.seqB hqa;obtain ⟨n,g,N,P⟩:=I.seqB hqb;obtain ⟨l,h,G,O⟩:=I.seqB hqc;have T:=u.length;have M:=g.length;have A:=h.length;refine vK hc D J t j k F x y C N G (hx.imp (λq=>by simp;omega) (λq=>q.imp (λq=>by simp;omega) (λq=>by simp;omega))) λh' v=>?_;have m:∀d o,d∉[z,TI,TO,i1,i2,i3]->s.heap.get? d=some o->h'.get? d=some o:=λd o f e=>v d o (λq=>f (by simp [q])) (λq=>f (by simp [q])) (λq=>f (by simp [q])) (λq=>f (by simp [q])) (λq=>f (by simp [q])) e;exact kQ h' (I.turnedL (fp:=[z,TI,TO,i1,i2,i3]) (t':=s.toks) m hf) m
end
def wJ{n:Addr}(h1:@LT.lt Nat _ a n)(h2:@LT.lt Nat _ b n)(h3:@LT.lt Nat _ c n):Ap3 (n+5) (n+3) (n+4) n (n+1) (n+2) a b c:=⟨Gh _,Gh _,Gh _,Gh _,Gh _,h1,h2,h3⟩
def oU{E:Value->Shared->Prop}(I:Inv X pins Y H s)(hqa:SqB X.K p H a xs)(hqb:SqB X.K q H b ys)(hqc:SqB X.K r H c zs)(k:∀h' z TI TO i1 i2 i3,Ap3 z TI TO i1 i2 i3 a b c->Inv X pins Y H { s with heap:=h' }->At3 p q r z TI TO i1 i2 i3 a b c 0 h'->(∀d∈[z,TI,TO,i1,i2,i3],FpOk X pins H d)->(∀d∈[z,TI,TO,i1,i2,i3],@LT.lt Nat _ d h'.objs.size)->Q (.ref z) { s with heap:=h' }):wX X (call (.type "zip") [.ref a,.ref b,.ref c]) Q E s:=by
 obtain ⟨G,P,l,R⟩:=I.seqB hqa;obtain ⟨m,C,o,L⟩:=I.seqB hqb;obtain ⟨j,J,n,F⟩:=I.seqB hqc;have D:a<s.heap.objs.size:=by obtain ⟨_,e⟩:=l.here;exact Aq e
 have M:b<s.heap.objs.size:=by obtain ⟨_,e⟩:=o.here;exact Aq e
 have B:c<s.heap.objs.size:=by obtain ⟨_,e⟩:=n.here;exact Aq e
 refine lO l o n λh' y i h t O N v x=>?_;have u:Inv X pins Y H { s with heap:=h' }:=I.kept (t':=s.toks) x
 refine k h' _ _ _ _ _ _ (wJ D M B) u ⟨_,_,_,_,_,y,.inl rfl,i,h,t,O,N⟩ (λd f=>?_) (λd f=>?_)
 .have g:s.heap.objs.size<=d:=by
   simp only [Aj,CZ,Gq] at f;rcases f with rfl | rfl | rfl | rfl | rfl | rfl<;>omega
  exact I.fpOk g (I.hok.fresh g)
 .rw [v];simp only [Aj,CZ,Gq] at f;rcases f with rfl | rfl | rfl | rfl | rfl | rfl<;>omega
def BZ:List V->List V->List V->List (V×V×V)
 | x::xs,y::ys,u::us=>(x,y,u)::BZ xs ys us
 | _,_,_=>[]
def Xi:∀{xs ys us:List V} {i:Nat} {x y u:V},(BZ xs ys us)[i]?=some (x,y,u)->xs[i]?=some x/\ys[i]?=some y/\us[i]?=some u
 | [],_,_,_,_,_,_,h=>by simp [BZ] at h
 | _::_,[],_,_,_,_,_,h=>by simp [BZ] at h
 | _::_,_::_,[],_,_,_,_,h=>by simp [BZ] at h
 | _::_,_::_,_::_,0,_,_,_,h=>by simp [BZ] at h;obtain ⟨rfl,rfl,rfl⟩:=h;simp
 | _::xs,_::ys,_::us,i+1,_,_,_,h=>by
  have:=Xi (xs:=xs) (ys:=ys) (us:=us) (i:=i) (by simpa [BZ] using h);simpa using this
def bQ:∀xs ys us,xs.length<=(BZ xs ys us).length\/ys.length<=(BZ xs ys us).length\/us.length<=(BZ xs ys us).length
 | [],_,_=>.inl (by simp)
 | _::_,[],_=>.inr (.inl (by simp))
 | _::_,_::_,[]=>.inr (.inr (by simp))
 | _::xs,_::ys,_::us=>by
  have:=bQ xs ys us;simp [BZ];exact this
def YD:∀xs ys us,(BZ xs ys us).length<=xs.length
 | [],_,_=>by simp [BZ]
 | _::_,[],_=>by simp [BZ]
 | _::_,_::_,[]=>by simp [BZ]
 | _::xs,_::ys,_::us=>by
  have:=YD xs ys us;simp [BZ];exact this
inductive Lay3(H:Hp):List (V×V×V)->List Addr->Hp->Prop
 | nil:Lay3 H [] [] H
 | snoc {ts:List (V×V×V)} {as:List Addr} {H':Hp} {T:Addr} {x y u:V} (h:Lay3 H ts as H') (hT:H' T=none):Lay3 H (ts++[(x,y,u)]) (as++[T]) (upd H' T (.tup [x,y,u]))
def Lay3.same(h:Lay3 H ts as H'):Same H H':=by
 induction h with
 | nil=>exact λ_ _ e=>e
 | snoc h hT ih=>exact λb o e=>(by
   have a:=ih b o e;rw [Ag (λq=>by subst q;rw [hT] at a;cases a)]
   exact a)
def Zok(h:S≠T):upd (upd H S o) T o'=upd (upd H T o') S o:=by
 funext b;by_cases h1:b=S
 .subst h1;rw [Ag h,Ak,Ak]
 .by_cases h2:b=T
  .subst h2;rw [Ak,Ag h1,Ak]
  .rw [Ag h2,Ag h1,Ag h1,Ag h2]
def Qd:upd (upd H S o) S o'=upd H S o':=by
 funext b;by_cases h1:b=S
 .subst h1;rw [Ak,Ak]
 .rw [Ag h1,Ag h1,Ag h1]
def Jk(e:Same H H')(h:SqB K p H a xs):SqB K p H' a xs:=by
 cases p
 .exact Same.seq e h
 .rcases (show SqT K H a xs from h) with (h | ⟨o,h⟩) | h
  .exact .inl (.inl (e _ _ h))
  .exact .inl (.inr ⟨o,e _ _ h⟩)
  .exact .inr h
def Vt(h:H S=none):Same H (upd H S o):=λb u e=>by
 rw [Ag (λq=>by subst q;rw [h] at e;cases e)];exact e
section
variable {p q r:Bool} {z TI TO i1 i2 i3 a b c S:Addr} {ys us:List V}
def gw{B:Around}{R:Result->Shared->Prop}(kh:B.in1.handled=none)(D:Ap3 z TI TO i1 i2 i3 a b c)(hqa:SqB X.K p H a xs)(hqb:SqB X.K q H b ys)(hqc:SqB X.K r H c us)(hS:S∉[z,TI,TO,i1,i2,i3])(kR:∀s' as H',Inv X pins Y (upd H' S (.lst (as.map V.ref))) s'->H' S=none->Lay3 H (BZ xs ys us) as H'->R (.ok (.ret .none)) s') :
  ∀(k i:Nat) (s:Shared) (H':Hp) (as:List Addr),i+k=(BZ xs ys us).length->Inv X pins Y (upd H' S (.lst (as.map V.ref))) s->H' S=none->Lay3 H ((BZ xs ys us).take i) as H'->At3 p q r z TI TO i1 i2 i3 a b c i s.heap->as.length=i->(∀d∈[z,TI,TO,i1,i2,i3],FpOk X pins (upd H' S (.lst (as.map V.ref))) d) ->
   codeAny (model X.prog X.w) B (.builtin "list.extend.loop" ⟨[.ref S,.ref z,.none],[]⟩) R s:=by
 intro k
 induction k with
 | zero=>
  intro i s H' as hk I g L C Q A;have j:Same H (upd H' S (.lst (as.map V.ref))):=λb o e=>Vt g b o (L.same b o e);refine Nm F.entry_extend_loop ?_;rw [Pu QZ _];show wpAny _ B.in1 (pyNext (.ref z) >>= _) _ _ s;refine Ac (vP kh D I A C (Jk j hqa) (Jk j hqb) (Jk j hqc) (by have:=bQ xs ys us;omega) λh' I' _=>?_);refine Ad (kR _ as H' I' g ?_);rw [show i=(BZ xs ys us).length by omega,List.take_length] at L;exact L
 | succ k ih=>
  intro i s H' as hk I g L C Q A;have j:Same H (upd H' S (.lst (as.map V.ref))):=λb o e=>Vt g b o (L.same b o e);have hi:i<(BZ xs ys us).length:=by omega
  obtain ⟨⟨x,y,u⟩,P⟩ : ∃t,(BZ xs ys us)[i]?=some t:=⟨_,BX hi⟩;obtain ⟨e1,e2,e3⟩:=Xi P;refine Nm F.entry_extend_loop ?_;rw [Pu QZ _];show wpAny _ B.in1 (pyNext (.ref z) >>= _) _ _ s;refine Ac (kj D I A C (Jk j hqa) (Jk j hqb) (Jk j hqc) e1 e2 e3 λh' T eT E G N kp=>?_);have hl:as.length<sizeLine:=by
   obtain ⟨_,_,_,hz⟩:=I.seqB (Jk j hqa);have:=YD xs ys us;omega
  have M:S≠T:=λq=>by subst q;rw [Ak] at E;cases E
  have O:H' T=none:=by rw [Ag (Ne.symm M)] at E;exact E
  rw [Zok M] at G;have U:(upd (upd H' T (.tup [x,y,u])) S (.lst (as.map V.ref))) S=some (.lst (as.map V.ref)):=Ak;obtain ⟨zz,l,n,rr,m,e⟩:=G.lstM U;have J:l.length=as.length:=by rw [<-m,Af]
  show wpAny _ B.in1 (updateSeq S (·.push (.ref T)) >>= _) _ _ _;refine Ac ?_;refine Kz e rfl (Ad ⟨plainId_quiet QZ _,?_⟩) (by rw [Bg];omega) (by show (l.toArray.push _).size<=sizeLine+1;rw [Array.size_push,Bg];omega);have Z:=G.lset (f:=(·.push (.ref T))) (t':=s.toks) (ys:=as.map V.ref++[.ref T]) (its':=l++[.ref T]) U e (by simp) (rr.append (.cons (show RelV (.ref T) (.ref T) from rfl) .nil)) (by rw [Bo,Af,Hn];omega);rw [Qd] at Z;refine ih (i+1) _ (upd H' T (.tup [x,y,u])) (as++[T]) (by omega) ?_ ?_ ?_ ?_ ?_ ?_
  .rw [Du];exact Z
  .rw [Ag M];exact g
  .rw [List.take_add_one,P];exact .snoc L O
  .exact N.keep λd v o e=>(G9 _ _ (λh=>hS (by rw [h];exact v))).trans e
  .rw [Bo,Q];rfl
  .intro d v;have dS:d≠S:=λq=>hS (by rw [<-q];exact v);have dT:d≠T:=by
    obtain ⟨o,ho,_⟩:=C.obj v;rw [eT];exact BK (Aq ho)
   have z:=A d v;refine ⟨?_,z.2⟩;rw [Ag dS,Ag dT];have W:=z.1;rw [Ag dS] at W;exact W
def sr:typeLookup (.type "zip") "__len__"=pure none:=by rw [typeLookup_type,builtinLookup_eq_fast];kernel_rfl
def mY:typeLookup (.type "zip") "__length_hint__"=pure none:=by rw [typeLookup_type,builtinLookup_eq_fast];kernel_rfl
def mD{E:Value->Shared->Prop}(hc:X.calm=true)(D:Ap3 z TI TO i1 i2 i3 a b c)(I:Inv X pins Y H s)(st:At3 p q r z TI TO i1 i2 i3 a b c 0 s.heap)(hf:∀d∈[z,TI,TO,i1,i2,i3],FpOk X pins H d)(hqa:SqB X.K p H a xs)(hqb:SqB X.K q H b ys)(hqc:SqB X.K r H c us)(kQ:∀s' S as H',Inv X pins Y (upd H' S (.lst (as.map V.ref))) s'->H' S=none->Lay3 H (BZ xs ys us) as H'->Q (.ref S) s'):wX X (call (.type "list") [.ref z]) Q E s:=by
 have l:∀d∈[z,TI,TO,i1,i2,i3],d≠s.heap.objs.size:=λd i=>by
  obtain ⟨o,ho,_⟩:=st.obj i;exact BK (Aq ho)
 have x:z∈[z,TI,TO,i1,i2,i3]:=by simp
 refine callType_codes (Q₁:=λt j=>t=.ref s.heap.objs.size/\j={ s with heap:=s.heap.push { cls:=.type "list",data:=.seq #[] } }) F.called_list (F.typeCall_list_1 _) F.entry_list_init
  (code_list_new _ ⟨rfl,rfl⟩) λt j U=>?_
 obtain ⟨rfl,rfl⟩:=U;have G:H s.heap.objs.size=none:=I.fresh;have R:Inv X pins Y (upd H s.heap.objs.size (.lst [])) { s with heap:=s.heap.push { cls:=.type "list",data:=.seq #[] } }:=I.lnew (its:=[]) (t':=s.toks) .nil (DR _)
 have y:At3 p q r z TI TO i1 i2 i3 a b c 0 (s.heap.push { cls:=.type "list",data:=.seq #[] }):=st.keep λd _ o e=>Ao _ e;generalize hsz:s.heap.objs.size=S at *;have v:(s.heap.push { cls:=.type "list",data:=.seq #[] }).get? S=some { cls:=.type "list",data:=.seq #[] }:=by rw [<-hsz];exact Bp _ rfl
 generalize s.heap.push { cls:=.type "list",data:=.seq #[] }=g at *;refine ⟨⟨_,v,rfl⟩,F.args_list_init_2 _ _,?_⟩;show wpAny _ X.A.in1.in1 (do let old <-Builtin.List.listItems (.ref S);Builtin.List.listUpdate (.ref S) (λ_=>#[]);letGo old.toList.reverse;Builtin.List.listExtendWith (.ref S) (.ref z) .none) _ _ _
 refine Ac ?_;unfold Builtin.List.listItems;refine Ac (Dn v rfl (Ad ?_));show wpAny _ X.A.in1.in1 (updateSeq S (λ_=>#[]) >>= λ_=>letGo (#[]:Array Value).toList.reverse >>= λ_=>Builtin.List.listExtendWith (.ref S) (.ref z) .none) _ _ _;refine Ac (Kz v rfl ?_);have M:=R.lset (f:=λ_=>#[]) (t':=s.toks) (its:=[]) (its':=[]) (ys:=[]) (n:=0) Ak v rfl .nil (DR _);rw [Qd] at M;have u:At3 p q r z TI TO i1 i2 i3 a b c 0 (g.update S (Obj.mapSeq λ_=>#[])):=y.keep λd i o e=>(G9 _ _ (λh=>l d i h.symm)).trans e;have k:=Ih (Obj.mapSeq (λ_=>(#[]:Array Value))) v rfl;generalize g.update S (Obj.mapSeq λ_=>#[])=g2 at *;refine Ac (HB ?_);unfold Builtin.List.listExtendWith;obtain ⟨f0,f1,u0,v0,w0,N,_⟩:=id u;have J:(Shared.TypeIs { s with heap:=g2 } (.ref z) "zip"):=⟨_,N,rfl⟩
 refine Ac (Kh J ?_);have zS:S≠z:=λh=>l z x h.symm;have Z:Builtin.List.listSameRef (.ref S) (.ref z)=false:=by simp [Builtin.List.listSameRef,zS]
 have T:(Value.type "zip"==Value.type "list")=false:=by decide
 have h3:(Value.type "zip"==Value.type "tuple")=false:=by decide
 simp only [Z,T,h3,Bool.or_false,Dg,CJ];refine Ac (uC N ?_);refine Ac (Cz ?_);unfold Builtin.List.listLengthHint;refine Ac (wpAny_specialOf J sr ?_);show wpAny _ X.A.in1.in1 (specialOf (Value.ref z) (Str.ofString "__length_hint__") >>= _) _ _ _;refine Ac (wpAny_specialOf J mY ?_);refine Ad ?_;show wpAny _ X.A.in1.in1 (rule "list.extend.makes-room" >>= λ_=>Builtin.List.listTouch (.ref S) >>= λ_=>again (.builtin "list.extend.loop" ⟨[.ref S,.ref z,.none],[]⟩)) _ _ _;refine Ac (G6 ?_);refine Ac ?_;show wpAny _ X.A.in1.in1 (updateSeq S (·.push .none) >>= λ_=>updateSeq S (·.pop)) _ _ _;refine Ac (Kz k rfl ?_);have m:=Ih (Obj.mapSeq (·.push Value.none)) k rfl;refine Kz (hz:=by seq_fits) m rfl ?_;have P:=M.lset (f:=(·.push Value.none)) (t':=s.toks) (its:=[]) (its':=[.none]) (ys:=[.non]) Ak k rfl (.cons (show RelV .non .none from rfl) .nil) (by show (1:Nat)<=sizeLine;decide);rw [Qd] at P;have O:=P.lset (f:=(·.pop)) (t':=s.toks) (its:=[.none]) (its':=[]) (ys:=[]) Ak m rfl .nil (DR _);rw [Qd] at O;have C:At3 p q r z TI TO i1 i2 i3 a b c 0 ((g2.update S (Obj.mapSeq (·.push Value.none))).update S (Obj.mapSeq (·.pop))):=u.keep λd i o e=>(G9 _ _ (λh=>l d i h.symm)).trans ((G9 _ _ (λh=>l d i h.symm)).trans e);refine Ad ⟨plainId_quiet QZ _,?_⟩;refine gw (B:=X.A.in1) (I.ok.hd hc) D hqa hqb hqc (λh=>l S h rfl) (λs' as H' W e L=>⟨rfl,kQ s' S as H' W e L⟩) (BZ xs ys us).length 0 _ H [] (by omega) O G .nil C rfl λd i=>?_;have z:=hf d i;exact ⟨by rw [Ag (l d i)];exact z.1,z.2⟩
end
section
def tLZ(K:W.Frag)(ta:TA):TE:=λY H Q=>ta Y H λj d=>∃p q r a b c g f h,j=[.ref a,.ref b,.ref c]/\SqB K p d a g/\SqB K q d b f/\SqB K r d c h/\∀S i e,e S=none->Lay3 d (BZ g f h) i e->Q (.ref S) (upd e S (.lst (i.map V.ref)))
def xO(hc:X.calm=true)(hg:Gl X "zip")(hm:X.mg "zip"=none)(hgl:Gl X "list")(hml:X.mg "list"=none)(ha:PA X [a,b,c] ta)(hs:starEach [a,b,c] X.env=[(false,eval a X.env),(false,eval b X.env),(false,eval c X.env)]:=by rfl)(hs2:starEach [b,c] X.env=[(false,eval b X.env),(false,eval c X.env)]:=by rfl)(hs3:starEach [.Call (.Name "zip" np) [a,b,c] [] pos] X.env=(false,eval (.Call (.Name "zip" np) [a,b,c] [] pos) X.env)::starEach [] X.env:=by rfl) :
  PE X (.Call (.Name "list" lp) [.Call (.Name "zip" np) [a,b,c] [] pos] [] pos') (tLZ X.K ta):=by
 intro i s Y H Q I h;refine Call_ (GZ I hgl hml VN (G3 ?_ hs3 rfl));rw [hs3];show wpAny _ _ (spliced ((false,eval (.Call (.Name "zip" np) [a,b,c] [] pos) X.env)::backTo pos' (starEach [] X.env))) _ _ s;refine Calls.spliced_cons ?_;refine Call_ (GZ I hg hm Z9 (G3 (thn (ha pos i s Y H _ I h) λk A zq=>?_) (by rw [hs,hs2]) (by rw [hs2];rfl)));obtain ⟨N,P,p,u,y⟩:=zq;obtain ⟨κ,μ,ν,l,m,n,O,C,R,e,f,g,d,q⟩:=y;subst e;cases u with
 | cons r rr=>
  cases rr with
  | cons r' rr=>
   cases rr with
   | cons r'' rr=>
    cases rr;cases r;cases r';cases r'';refine oU p f g d λE z B G J F T D x t j _=>?_;refine Calls.spliced_nil ?_;exact mD hc D x t j f g d λM S w o v e L=>⟨.ref S,_,v,rfl,q S w o e L⟩
end
end L2
namespace L2.Ds
open Dl
section
variable {F:Hp}
def ud{us:List D}(r:Rps K mg F xs ds)(e:zip3 ds=.ok us):∃p q t a b c as bs cs d1 d2 d3,xs=[.ref a,.ref b,.ref c]/\SqB K p F a as/\SqB K q F b bs/\SqB K t F c cs/\Rps K mg F as d1/\Rps K mg F bs d2/\Rps K mg F cs d3/\us=trips d1 d2 d3:=by
 unfold zip3 at e;split at e
 .next x y z=>
  obtain ⟨w,A,B,rfl,m,k,l⟩:=r.three;cases e1:seqD x with
  | ok d1=>
   rw [e1] at e;cases e2:seqD y with
   | ok d2=>
    cases e3:seqD z with
    | ok d3=>
     have g:((seqD y).bind λh=>(seqD z).bind λf=>Res.ok (trips d1 h f))=.ok us:=e;rw [e2] at g;have d:((seqD z).bind λf=>Res.ok (trips d1 d2 f))=.ok us:=g;rw [e3] at d;have i:Res.ok (trips d1 d2 d3)=.ok us:=d;cases i;obtain ⟨p,a,as,rfl,n,u⟩:=Nx m e1;obtain ⟨q,b,bs,rfl,v,o⟩:=Nx k e2;obtain ⟨t,c,cs,rfl,j,s⟩:=Nx l e3;exact ⟨p,q,t,a,b,c,as,bs,cs,d1,d2,d3,rfl,n,v,j,u,o,s,rfl⟩
    | ex c=>
     have g:((seqD y).bind λh=>(seqD z).bind λf=>Res.ok (trips d1 h f))=.ok us:=e;rw [e2] at g;have d:((seqD z).bind λf=>Res.ok (trips d1 d2 f))=.ok us:=g;rw [e3] at d;cases d
    | bad=>
     have g:((seqD y).bind λh=>(seqD z).bind λf=>Res.ok (trips d1 h f))=.ok us:=e;rw [e2] at g;have d:((seqD z).bind λf=>Res.ok (trips d1 d2 f))=.ok us:=g;rw [e3] at d;cases d
   | ex c=>
    have g:((seqD y).bind λh=>(seqD z).bind λf=>Res.ok (trips d1 h f))=.ok us:=e;rw [e2] at g;cases g
   | bad=>
    have g:((seqD y).bind λh=>(seqD z).bind λf=>Res.ok (trips d1 h f))=.ok us:=e;rw [e2] at g;cases g
  | ex c=>rw [e1] at e;cases e
  | bad=>rw [e1] at e;cases e
 .cases e
def jw{c:Str}:zip3 ds≠.ex c:=by
 intro e;unfold zip3 at e;split at e
 .next x y z=>
  cases e1:seqD x with
  | ok d1=>
   rw [e1] at e;have b:((seqD y).bind λf=>(seqD z).bind λd=>Res.ok (trips d1 f d))=.ex c:=e;cases e2:seqD y with
   | ok d2=>
    rw [e2] at b;have a:((seqD z).bind λd=>Res.ok (trips d1 d2 d))=.ex c:=b;cases e3:seqD z with
    | ok d3=>rw [e3] at a;cases a
    | ex c'=>exact aB e3 Ny
    | bad=>rw [e3] at a;cases a
   | ex c'=>exact aB e2 Ny
   | bad=>rw [e2] at b;cases b
  | ex c'=>exact aB e1 Ny
  | bad=>rw [e1] at e;cases e
 .cases e
def yZ:∀{H H':Hp} {ts:List (V×V×V)} {as:List Addr},Lay3 H ts as H'->∀{F:Hp},Same F H->∀{us:List D},us.length=ts.length->(∀(i:Nat) x y z d,ts[i]?=some (x,y,z)->us[i]?=some d->∃a b c,d=.tup [a,b,c]/\Rp K mg F x a/\Rp K mg F y b/\Rp K mg F z c)->∃F',Gr F H F' H'/\Rps K mg F' (as.map V.ref) us:=by
 intro H H' ts as L
 induction L with
 | nil=>
  intro F s us l _;have:us=[]:=Lf.mp l;subst this;exact ⟨F,.refl s,.nil⟩
 | @snoc ts as H1 T x y u L hT ih=>
  intro F s us l q;have j:us.length=ts.length+1:=by rw [l,Bo];rfl
  obtain ⟨d,n⟩ : ∃d,us[ts.length]?=some d:=⟨_,BX (by omega)⟩;obtain ⟨g,rfl⟩ : ∃g,us=g++[d]:=by
   refine ⟨us.take ts.length,?_⟩;have:=List.take_append_drop ts.length us;rw [JD (by omega),J7 (by omega)] at this;have e:us[ts.length]=d:=by
    have:=BX (show ts.length<us.length by omega);rw [n] at this;exact (Bt this).symm
   rw [e] at this;exact this.symm
  have m:g.length=ts.length:=by rw [Bo] at j;simpa using j
  obtain ⟨A,h,r⟩:=ih s m λi x y z e o p=>q i x y z e (by rw [Ea ((Cm.mp o).1)];exact o) (by rw [Ea ((Cm.mp p).1)];exact p);obtain ⟨a,b,c,rfl,w,t,v⟩:=q ts.length x y u d (by simp) n;have k:Gr A H1 _ _:=.new h.s hT (.tup [x,y,u]);refine ⟨_,h.trans k,?_⟩;rw [Du];refine Rps.app (.cons (.tup (SqT.of Ak) (.cons ((w.same h.f).same k.f) (.cons ((t.same h.f).same k.f) (.cons ((v.same h.f).same k.f) .nil)))) .nil) (r.same k.f)
def aY:∀{xs ys zs:List V} {ds es fs:List D},Rps K mg F xs ds->Rps K mg F ys es->Rps K mg F zs fs->(trips ds es fs).length=(BZ xs ys zs).length/\∀(i:Nat) x y z d,(BZ xs ys zs)[i]?=some (x,y,z)->(trips ds es fs)[i]?=some d->∃a b c,d=.tup [a,b,c]/\Rp K mg F x a/\Rp K mg F y b/\Rp K mg F z c
 | _,_,_,_,_,_,.nil,_,_=>⟨by simp [trips,BZ],λi x y z d h=>by simp [BZ] at h⟩
 | _,_,_,_,_,_,.cons _ _,.nil,_=>⟨by simp [trips,BZ],λi x y z d h=>by simp [BZ] at h⟩
 | _,_,_,_,_,_,.cons _ _,.cons _ _,.nil=>⟨by simp [trips,BZ],λi x y z d h=>by simp [BZ] at h⟩
 | _,_,_,_,_,_,.cons h1 r1,.cons h2 r2,.cons h3 r3=>by
  obtain ⟨l,q⟩:=aY r1 r2 r3;refine ⟨by simp [trips,BZ,l],λi x y z d f e=>?_⟩;cases i with
  | zero=>
   simp [BZ] at f;obtain ⟨rfl,rfl,rfl⟩:=f;simp [trips] at e;subst e;exact ⟨_,_,_,rfl,h1,h2,h3⟩
  | succ i=>exact q i x y z d (by simpa [BZ] using f) (by simpa [trips] using e)
end
section
variable {a b c:Expr} {t:TA} {m:MA} {lp p:Pos}
def ya3(hcm:X.calm=true)(hg:Gl X "zip")(hm:X.mg "zip"=none)(hgl:Gl X "list")(hml:X.mg "list"=none)(ha:DA X E n [a,b,c] t m)(hs:starEach [a,b,c] X.env=[(false,eval a X.env),(false,eval b X.env),(false,eval c X.env)]:=by rfl)(hs2:starEach [b,c] X.env=[(false,eval b X.env),(false,eval c X.env)]:=by rfl)(hs3:starEach [.Call (.Name "zip" p) [a,b,c] [] pos] X.env=(false,eval (.Call (.Name "zip" p) [a,b,c] [] pos) X.env)::starEach [] X.env:=by rfl) :
  DE X E (.Call (.Name "list" lp) [.Call (.Name "zip" p) [a,b,c] [] pos] [] pos') (tLZ X.K t) (on lz3 m):=by
 refine ⟨xO hcm hg hm hgl hml ha.p hs hs2 hs3,?_⟩;intro T W F H Y Z B;refine (ha.s T W F H Y Z B).bind (w':=λR g Q=>∃p q r a b c k u o,R=[V.ref a,V.ref b,V.ref c]/\SqB X.K p g a k/\SqB X.K q g b u/\SqB X.K r g c o/\∀S i d,d S=none->Lay3 g (BZ k u o) i d->Q (V.ref S) (upd d S (.lst (i.map V.ref)))) λF1 g k O h y=>?_;unfold lz3;cases e:zip3 O with
 | ok o=>
  obtain ⟨p,q,t,a,b,c,i,P,M,d1,d2,d3,rfl,ha,I,x,G,C,D,rfl⟩:=ud y e;obtain ⟨l,z⟩:=aY G C D;refine λQ A=>⟨p,q,t,a,b,c,i,P,M,rfl,JM h.s ha,JM h.s I,JM h.s x,λS j d U L=>?_⟩;obtain ⟨J,w,N⟩:=yZ L h.s l z;have v:Gr J d _ _:=.new w.s U (.lst (j.map V.ref));exact A _ _ _ (w.trans v) (.lst (SqL.of Ak) (N.same v.f))
 | ex c'=>exact aB e jw
 | bad=>trivial
end
end L2.Ds
namespace Dl
def repL(ds:List D):D->Res D
 | .int k=>if (0<=k/\k<=1000000)/\ds.length*k.toNat<=1000000 then .ok (.lst (List.replicate k.toNat ds).flatten) else .bad
 | _=>.bad
def repD(m:MA)(e:ME):ME:=λZ=>(m Z).bind λa=>(e Z).bind λy=>repL a y
end Dl
namespace L2.Ds
open PySem.Calls Dl
section
variable {F:Hp}
def cC:∀{xs ys:List V} {ds es:List D},Rps K mg F xs ds->Rps K mg F ys es->Rps K mg F (xs++ys) (ds++es)
 | _,_,_,_,.nil,h=>h
 | _,_,_,_,.cons h r,h'=>.cons h (cC r h')
def Ww(h:Rps K mg F xs ds):∀k,Rps K mg F (List.replicate k xs).flatten (List.replicate k ds).flatten
 | 0=>.nil
 | k+1=>by
  rw [Gk,Gk,Ir,Ir];exact cC h (Ww h k)
def Zuh{R:Hp->Hp->V->D->Prop}{t:TA}{m:MA}{tb:TE}{mb:ME}(hR:∀F F' p zs es,F p=none->F' p=some (.lst zs)->Rps K mg F' zs es->R F F' (.ref p) (.lst es))(ha:SA K mg E t m)(hl:SAn n m)(hn:n<=sizeLine)(hb:SE K mg E tb mb):∀F0 H0 F H Y Z,Rep K mg F0 H0 F H Y Z->Ans mg E (R F) F H (repD m mb Z) (tOp rRep (tLst t) tb Y H):=by
 intro F0 H0 F H Y Z w;have h:=ha F0 H0 F H Y Z w;unfold repD;cases e:m Z with
 | bad=>trivial
 | ex c=>
  rw [e] at h;exact λQ q=>h _ q
 | ok ds=>
  rw [e] at h;show Ans mg E (R F) F H ((mb Z).bind λy=>repL ds y) _;have o:=λF' j (g:Gr F H F' j)=>hb F0 H0 F' j Y Z (w.gr g);cases eb:mb Z with
  | bad=>trivial
  | ex c=>
   rw [eb] at o;exact λQ q=>h _ λF' j d g b=>⟨by rw [b.length,hl Z ds e];exact hn,λp l=>o _ _ (g.trans (.new g.s l _)) _ λu v C a B=>q u v C ((g.trans (.new g.s l _)).trans a) B⟩
  | ok y=>
   rw [eb] at o;show Ans mg E (R F) F H (repL ds y) _;unfold repL;split
   .next k=>
    by_cases hk:(0<=k/\k<=1000000)/\ds.length*k.toNat<=1000000
    .rw [iP hk];refine λQ q=>h _ λF' j d g b=>⟨by rw [b.length,hl Z ds e];exact hn,λp l=>?_⟩;have r:=Gr.new g.s l (.lst d);refine o _ _ (g.trans r) _ λu v I a z=>?_;cases z;have A:u p=some (.lst d):=a.f p _ Ak;refine ⟨p,k,d,rfl,rfl,a.s p _ A,by omega,by omega,?_,λG i=>?_⟩
     .rw [b.length];exact CK hk.2 (by decide)
     .have x:=Gr.new a.s i (.lst (List.replicate k.toNat d).flatten);exact q _ _ _ (((g.trans r).trans a).trans x) (hR _ _ _ _ _ ((g.trans (r.trans a)).f.free (a.s.free i)) Ak (Ww (((b.same r.f).same a.f).same x.f) k.toNat))
    .rw [iN hk];trivial
   .trivial
end
end L2.Ds
namespace Dl
def Hj(it:MI)(own:Nat)(cap:List Nat)(g:MG)(t:MB)(e:ME):ME:=λZ=>(it Z).bind λa=>
 if a.length<=LIM then (Ar g t e (noA own (Az Z cap)) a).bind λb=>.ok (.lst b) else .bad
end Dl
namespace L2
section
variable{M:Model} {E:Value->Shared->Prop} {B:Heap} {env cenv:Env} {outer l:List Env} {L e:Addr} {cls a0 fl:Value}
def cu{h h' B':Heap}(sB:∀b o,B'.get? b=some o->B.get? b=some o)(k:∀b o,b≠C->h.get? b=some o->h'.get? b=some o):∀{l:List Env},C∉frs l->h.FunFrames B l->h'.FunFrames B' l
 | [],_,_=>trivial
 | v::r,hC,⟨h1,⟨L,o,h2,h3,h4,h5⟩,h6⟩=>by
  have a:L≠C/\C∉frs r:=by
   unfold frs at hC ⊢;rw [Jd,h2] at hC;exact ⟨λz=>hC (z▸BR),λz=>hC (BP _ z)⟩
  refine ⟨h1,⟨L,o,h2,?_,k L o a.1 h4,h5⟩,cu sB k a.2 h6⟩;cases q:B'.get? L with
  | none=>rfl
  | some u=>rw [sB L u q] at h3;cases h3
def p8(hfr:A.frames=some (env::outer))(hf:env.frame=some L)(hkb:B.StaysIn s.heap)(hen:B.get? e=none)(hl:s.heap.FunFrames B (env::outer))(ht:s.heap.TracedAtW B e cls a0 fl)(hQ:∀h',Heap.FlyingW B outer e cls a0 h'->s.heap.UpToSlots h'->Q () { s with heap:=h' }):wpAny M A (leaving env (.ref e)) Q E s:=by
 by_cases hfl:fl=rawInt L
 .subst hfl;refine Ac (wpAny_noteFrame_againW hf ht ?_);refine wpAny_landsW ⟨hkb,hen,hl,ht⟩ λh' l z=>?_;obtain ⟨I,F,⟨_,_,w⟩,H⟩:=l;exact hQ h' ⟨I,F,w,H⟩ z
 .obtain ⟨K,p,T,J,y,r,⟨h,v⟩,t,n,k,j,m,f,u⟩:=ht;subst h;have a:∀b,b≠T->(s.heap.update T (Obj.mapFields (·.setIfInBounds 3 Value.none))).get? b=s.heap.get? b:=λb d=>G9 _ _ (Ne.symm d);have i:∀b o,s.heap.get? b=some o->(∀p,o.data≠.fields p)->b≠T:=λb o d c q=>by
   rw [q,m] at d;cases d;exact c y f
  unfold leaving noteFrame;simp only [hf];refine Ac (Ac (Bx r t n ?_));refine Ac (Bx m f u ?_);rw [iN (by simpa using hfl)];refine Ac (Lx m f (JC.mp u).1 ?_);refine wpAny_newEntryW hfr (hl.of_keeps λb o d c=>⟨o,(a b (i b o d c)).trans d,rfl⟩) hf ((a e (Ne.symm j)).trans r) (λb o g=>(a b λq=>by rw [q,k] at g;cases g).trans (hkb b o g)) hen t (JC.mp n).1 v λh' x=>?_;obtain ⟨l,⟨_,_,D⟩,C,G⟩:=x;exact hQ h' ⟨l,hen,D,C⟩ λb o d c=>G b o ((a b (i b o d c)).trans d) c
def Zez(hfr:A.frames=some (env::outer))(hf:env.frame=some L)(hkb:B.StaysIn s.heap)(hen:B.get? e=none)(hl:s.heap.FunFrames B (env::outer))(ht:s.heap.TracedAtW B e cls a0 fl)(hQ:∀h',Heap.FlyingW B outer e cls a0 h'->s.heap.UpToSlots h'->KD s.heap h'->Q () { s with heap:=h' }):wpAny M A (leaving env (.ref e)) Q E s :=
 CP (QX (R4 _ _) (p8 (Q:=λ_ d=>∃h',d={ s with heap:=h' }/\Heap.FlyingW B outer e cls a0 h'/\s.heap.UpToSlots h') hfr hf hkb hen hl ht λh' a b=>⟨h',rfl,a,b⟩))
  (λ_ _ ⟨⟨h',z,a,b⟩,c⟩=>by subst z;exact hQ h' a b c) λ_ _ z=>z.1
def vm(hkb:B.StaysIn s.heap)(hl:s.heap.FunFrames B l)(ht:s.heap.TracedAtW B e cls a0 fl)(h:∀h' fl',B.StaysIn h'->h'.FunFrames B l->h'.TracedAtW B e cls a0 fl'->(∀b o,s.heap.get? b=some o->(∀vs,o.data≠.fields vs)->h'.get? b=some o)->KD s.heap h'->E (.ref e) { s with heap:=h' }) :
  wpAny M A (PySem.passOn what (.ref e) cenv:Sem Value) (λ_ _=>False) E s:=by
 obtain ⟨w,vs,T,z,y,r,k,t,p,n,j,u,g,x⟩:=ht;have v:=(JC.mp x).1;have a:∀b,b≠T->(s.heap.update T (Obj.mapFields (·.setIfInBounds 3 (cenv.frame.elim Value.none λf=>rawInt f)))).get? b=s.heap.get? b:=λb d=>G9 _ _ (Ne.symm d);have m:∀b o,s.heap.get? b=some o->(∀vs,o.data≠.fields vs)->b≠T:=λb o d c q=>by
  rw [q,u] at d;cases d;exact c y g
 refine Ac (Bx r t p ?_);refine Ac ?_;refine Ac (Bx r t p ?_);refine Lx u g v ?_;refine wpAny_throw ?_;refine h _ (cenv.frame.elim Value.none λf=>rawInt f) (λb o i=>(a b λq=>by rw [q,n] at i;cases i).trans (hkb b o i)) (hl.of_keeps λb o d c=>⟨o,(a b (m b o d c)).trans d,rfl⟩) ?_ (λb o d c=>(a b (m b o d c)).trans d) (KD.update _ _ (XD (by decide) _));exact ⟨w,vs,T,_,_,(a e (Ne.symm j)).trans r,k,t,p,n,j,Ih _ u (Obj.isFreed_of_fields (Ou g _)),Ou g _,by simp [v]⟩
end
structure FlyA(ff:Value)(P:Program)(w:World)(l:List Env)(H H':Hp)(s s':Shared)(x:Addr)(cls:Value):Prop where
 os:s'.os=s.os
 bare:AllBare s'.gens
 un:Un (frs l) [] H H' s.heap s'.heap
 hok:HOk P w H' s'.heap
 frf:∀b∈frs l,H' b=none
 free:H' x=none
 ex:∃(B:Heap) (a0:Value),(B.StaysIn s'.heap/\B.get? x=none/\s'.heap.FunFrames B l/\s'.heap.TracedAtW B x cls a0 ff)/\∀b o,s'.heap.get? b=some o->(H' b≠none\/∃o',s.heap.get? b=some o')->b∉frs l->B.get? b=some o
def CXA(P:Program)(w:World):CXT:=λa H s E e d=>∃x b p c f,e=.ref x/\FlyA f P w a H c s d x b/\JV p x c s.heap d.heap/\E b p c
def CXR.a{e:Value}(h:CXR P w l H s E e s'):CXA P w l H s E e s':=by
 obtain ⟨x,b,p,d,rfl,F,c,q⟩:=h;exact ⟨x,b,p,d,.none,rfl,⟨F.os,F.bare,F.un,F.hok,F.frf,F.free,F.ex⟩,c,q⟩
def oE{E:Value->Shared->Prop}{e:Addr}(hfr:A.frames=some (env::outer))(hf:env.frame=some L)(hkb:B.StaysIn s.heap)(hen:B.get? e=none)(hl:s.heap.FunFrames B (env::outer))(ht:s.heap.TracedAtW B e cls a0 fl)(hQ:∀h',Heap.HeldW B (env::outer) e cls a0 L h'->s.heap.UpToSlots h'->KD s.heap h'->Q () { s with heap:=h' }):wpAny M A (noteFrame (.ref e) env) Q E s:=by
 refine CP (QX (aD _ _) (Q:=λ_ G=>∃h',G={ s with heap:=h' }/\Heap.HeldW B (env::outer) e cls a0 L h'/\s.heap.UpToSlots h') ?_) (λ_ _ ⟨⟨h',z,l,k⟩,y⟩=>by subst z;exact hQ h' l k y) λ_ _ z=>z.1
 by_cases hfl:fl=rawInt L
 .subst hfl;exact wpAny_noteFrame_againW hf ht ⟨s.heap,rfl,⟨hkb,hen,hl,ht⟩,λb o z _=>⟨o.slots,z⟩⟩
 .obtain ⟨H,r,T,I,F,t,⟨h,w⟩,u,p,m,j,n,f,v⟩:=ht;subst h;have a:∀b,b≠T->(s.heap.update T (Obj.mapFields (·.setIfInBounds 3 Value.none))).get? b=s.heap.get? b:=λb d=>G9 _ _ (Ne.symm d);have i:∀b o,s.heap.get? b=some o->(∀r,o.data≠.fields r)->b≠T:=λb o d c q=>by
   rw [q,n] at d;cases d;exact c F f
  unfold noteFrame;simp only [hf];refine Ac (Bx t u p ?_);refine Ac (Bx n f v ?_);rw [iN (by simpa using hfl)];refine Ac (Lx n f (JC.mp v).1 ?_);refine wpAny_entryW hfr (hl.of_keeps λb o d c=>⟨o,(a b (i b o d c)).trans d,rfl⟩) hf ((a e (Ne.symm j)).trans t) (λb o g=>(a b λq=>by rw [q,m] at g;cases g).trans (hkb b o g)) hen u (JC.mp p).1 w λh' x=>?_;obtain ⟨l,k,C,D⟩:=x;exact ⟨h',rfl,⟨l,hen,k,C⟩,λb o d c=>D b o ((a b (i b o d c)).trans d) c⟩
def cY{s':Shared}{x:Addr}{B h':Heap}(os:s'.os=s.os)(bare:AllBare s'.gens)(un:Un (frs l) [] H H' s.heap s'.heap)(hok:HOk P w H' s'.heap)(frf:∀b∈frs l,H' b=none)(nf:∀b∈frs l,∃o,s'.heap.get? b=some o/\∀vs,o.data≠.fields vs)(cov:∀b o,s'.heap.get? b=some o->(H' b≠none\/∃o',s.heap.get? b=some o')->b∉frs l->B.get? b=some o)(sub:∀b∈frs l',b∈frs l)(new:∀b∈frs l,b∉frs l'->s.heap.get? b=none)(fl:B.StaysIn h'/\B.get? x=none/\h'.FunFrames B l'/\h'.TracedAtW B x cls a0 ff)(sm:∀b∈frs l,∀o,s'.heap.get? b=some o->(∀vs,o.data≠.fields vs)->∃sl,h'.get? b=some { o with slots:=sl })(free:H' x=none) :
  FlyA ff P w l' H H' s { s' with heap:=h' } x cls:=by
 have d:=λb o e q hb=>fl.1 b o (cov b o e q hb);have f:∀{b:Addr} {o:Obj},s.heap.get? b=some o->b∉frs l'->b∉frs l:=λ{b o} e hb z=>by
  rw [new b z hb] at e;cases e
 refine ⟨os,bare,⟨λb o e n hb i=>?_,λb o e n hb i=>?_,un.free,λb o e i=>?_,un.tups,un.frzs,un.tbls⟩,λa o e=>?_,λb hb=>frf b (sub b hb),free,B,a0,fl,λb o e q hb=>?_⟩
 .exact d b o (un.keep b o e n (f e hb) i) (.inr ⟨o,e⟩) (f e hb)
 .obtain ⟨sl,q⟩:=un.slot b o e n (sub b hb) i;obtain ⟨g,h,k⟩:=nf b (sub b hb);rw [q] at h;cases h;obtain ⟨j,m⟩:=sm b (sub b hb) _ q k;exact ⟨j,m⟩
 .obtain ⟨o',q⟩:=un.there b o e i;by_cases hb:b∈frs l
  .obtain ⟨g,h,k⟩:=nf b hb;obtain ⟨j,m⟩:=sm b hb _ h k;exact ⟨_,m⟩
  .exact ⟨o',d b o' q (.inr ⟨o,e⟩) hb⟩
 .refine (hok a o e).stay (λb u hb q=>?_) (λ_ q=>q) λ_ _ q=>q;have r:H' b≠none:=by
   rcases hb with rfl | hb
   .rw [e];simp
   .rw [hb];simp
  exact d b u q (.inl r) λz=>r (frf b z)
 .have p:b∉frs l:=by
   intro z;rcases q with q | ⟨o',q⟩
   .exact q (frf b z)
   .exact f q hb z
  have ⟨g,h⟩ : ∃g,s'.heap.get? b=some g:=by
   rcases q with q | ⟨o',q⟩
   .cases z:H' b with
    | none=>exact aB z q
    | some u=>exact (hok b u z).there
   .exact un.there b o' q (by simp)
  have c:=cov b g h q p;have z:=fl.1 b g c;have t:=e;rw [t] at z;cases z;exact c
def xfE(E:XK)(X:Cx):Addr->Shared->Hp->List Addr->Value->Shared->Prop:=λC s H d e c=>∃b a,a.os=s.os/\Un (frs X.stack) d H b s.heap a.heap/\(∃m,a.heap.Ns C m)/\b C=none/\CXA X.prog X.w X.stack b a E e c
def yJ:Dr (CXR X.prog X.w) (CG (xfE E X) X N scope cl C s H fp pn) E:=by
 intro b Y f d e g I h;obtain ⟨m,c,_⟩:=I.loc;exact ⟨f,d,I.os,I.base,⟨m,c⟩,I.free,h.a⟩
section
variable {s7:Shared} {fp:List Addr} {scope:Scope} {cells:List (Str×Addr)} {C:Addr} {e acc:Value} {use:Option (Value->Sem Unit)} {Q:Value->Shared->Prop}
def Un.strip(u:Un fs ex H H1 h h1)(n:∀b∈ex,h.get? b=none\/b∈ex'):Un fs ex' H H1 h h1:=by
 have c:∀{b:Addr} {o:Obj},h.get? b=some o->b∉ex'->b∉ex:=λ{b o} e q z=>by
  rcases n b z with z | z
  .rw [z] at e;cases e
  .exact q z
 exact ⟨λb o e a d q=>u.keep b o e a d (c e q),λb o e a d q=>u.slot b o e a d (c e q),λb o e a q=>u.free b o e a (c e q),λb o e q=>u.there b o e (c e q),u.tups,u.frzs,u.tbls⟩
def Un.hide(u:Un fs ex H H1 h h1)(n:h.get? C=none):Un fs ex H H1 h (W.hideAll h1 [C]):=by
 have a:∀{b:Addr} {o:Obj},h.get? b=some o->b∉[C]:=λ{b o} e z=>by rw [Hz.mp z,n] at e;cases e
 exact ⟨λb o e c d f=>Jy _ (u.keep b o e c d f) (a e),λb o e c d f=>(u.slot b o e c d f).imp λ_ z=>Jy _ z (a e),u.free,λb o e q=>(u.there b o e q).imp λ_ z=>Jy _ z (a e),u.tups,u.frzs,u.tbls⟩
def Un.ofHide(u:Un fs ex H H1 h h1):Un fs ex H H1 (W.hideAll h l) h1 :=
 ⟨λb o e=>u.keep b o (G4 _ e),λb o e=>u.slot b o (G4 _ e),λb o e=>u.free b o (G4 _ e),λb o e=>u.there b o (G4 _ e),u.tups,u.frzs,u.tbls⟩
def qy{env0:Env}(hst:X.stack=env0::outer0)(hfr:env0.frame=some L0)(hf0:X.env.frame=some L0)(I:Inv X pins Y H s)(hC:s.heap.objs.size<=C)(h:xfE E X C s H fp e s7)(K:∀s',(∃H6 s6,s6.os=s.os/\Un (frs X.stack) fp H H6 s.heap s6.heap/\CXA X.prog X.w X.stack H6 s6 E e s')->X.xe e s') :
  notedBy (model X.prog X.w) X.A (compEnvC scope cells C X.env) (λe s'=>compPost (model X.prog X.w) X.A X.xe use Q acc C (.error e) s') e s7:=by
 obtain ⟨H6,s6,os6,un6,⟨m,oc,es,ep,ho,L,hk⟩,fC,x,U,p,H',ff,rfl,F,py,q⟩:=h;obtain ⟨B,a0,⟨fl1,fl2,fl3,fl4⟩,cov⟩:=F.ex;have v:C∉frs X.stack:=λz=>by
  rcases Aj.mp (I.stkSub C z) with q | q
  .exact aB (Bu I.lt hC) (by rw [q];exact Gu _)
  .exact I.nofs hC q
 have C7:=F.un.keep C oc ho fC v (by simp);have nC7:=F.un.free C oc ho fC (by simp);have C0:=Ij hC;have ns7:s7.heap.Ns C m:=⟨oc,es,ep,C7,L,hk⟩;have en:noteFrame (.ref x) (compEnvC scope cells C X.env)=noteFrame (.ref x) env0:=by
  unfold noteFrame PySem.frameOf;rw [show (compEnvC scope cells C X.env).frame=env0.frame from hf0.trans hfr.symm]
 show wpAny _ _ (noteFrame (.ref x) (compEnvC scope cells C X.env)) _ _ s7;rw [en];refine oE (by rw [<-hst];exact I.ok.frames) hfr fl1 fl2 (by rw [<-hst];exact fl3) fl4 λh8 M j R=>?_;obtain ⟨k1,k2,k3,k4⟩:=M;refine ⟨m,j.ns ns7,λh9 sb cenv' _=>?_⟩;have a:=λb o P z=>sb.extBut b o P z;obtain ⟨sl8,C8⟩:=j C oc C7 λvs z=>by rw [L] at z;cases z
 have G:∀{b:Addr} {o:Obj} {vs:Array Value},h8.get? b=some o->o.data=.fields vs->b≠C:=λ{b o vs} k g z3=>by
  rw [z3,C8] at k;cases k;have V:=g;rw [L] at V;cases V
 have c:∀b o,(W.hideAll B [C]).get? b=some o->B.get? b=some o:=λb o z=>G4 _ z;have t:∀b o,(W.hideAll B [C]).get? b=some o->b≠C:=λb o k g=>by
  rw [g,W.hideAll_none [C] (by simp)] at k;cases k
 have t9:h9.TracedAtW (W.hideAll B [C]) x U a0 (rawInt L0):=by
  obtain ⟨oe,vs,T,oT,ts,he,hc,L,h1,O,hTe,hT,N,h3⟩:=k4;refine ⟨oe,vs,T,oT,ts,a _ _ (G he L) he,hc,L,h1,?_,hTe,a _ _ (G hT N) hT,N,h3⟩;cases z:(W.hideAll B [C]).get? T with
  | none=>rfl
  | some u=>rw [c _ _ z] at O;cases O
 have st9:=λb o z=>a b o (t b o z) (k1 b o (c b o z));have en9:(W.hideAll B [C]).get? x=none:=by
  cases z:(W.hideAll B [C]).get? x with
  | none=>rfl
  | some u=>rw [c _ _ z] at k2;cases k2
 have f9:=cu c a v (by rw [hst];exact k3);refine vm st9 f9 t9 λh10 fl' st10 f10 Z r l=>?_;obtain ⟨o8,J,_⟩:=Heap.TracedAtW.there k4;have x9:=a x o8 (let ⟨oe,vs,_,_,_,he,_,hd',_⟩:=k4;G (vs:=vs) J (by rw [he] at J;cases J;exact hd')) J;obtain ⟨o10,i,_⟩:=Z.there;refine K _ ⟨H6,{ s6 with heap:=W.hideAll s6.heap [C] },os6,un6.hide C0,x,U,p,H',fl',rfl,?_,⟨λe=>?_,λn e=>?_⟩,q⟩
 .refine cY (s:={ s6 with heap:=W.hideAll s6.heap [C] }) (s':=s7) F.os F.bare F.un.ofHide F.hok F.frf (λb P=>(fl3.mem P).2) (λb o k g z3=>?_) (λ_ z=>z) (λb h1 h2=>aB h1 h2) ⟨st10,en9,f10,Z⟩ (λb P o k g=>?_) F.free
  .have nb:b≠C:=by
    rintro rfl;rcases g with g | ⟨o',g⟩
    .exact g nC7
    .rw [show (W.hideAll s6.heap [b]).get? b=none from W.hideAll_none [b] (by simp)] at g;cases g
   exact Jy _ (cov b o k (g.imp id λ⟨o',z⟩=>⟨o',G4 _ z⟩) z3) (by simpa using nb)
  .have nb:b≠C:=λz=>v (z▸P);obtain ⟨sl,w8⟩:=j b o k g;exact ⟨sl,r b _ (a b _ nb w8) g⟩
 .obtain ⟨ox,vs,e1,q1,q2⟩:=py.1 e;obtain ⟨y,q3,q4⟩:=((R.at e1 J).trans (l.at x9 i)).f vs q1;exact ⟨o10,y,i,q3,q4.trans q2⟩
 .obtain ⟨ox,d,m',e1,e2,e3,e4,e5,e6,e7,e8⟩:=py.2 n e;have nd:d≠C:=λz=>by rw [z,ho] at e6;cases e6
  obtain ⟨od,esd,epd,hod,D,rd⟩:=e3;have S:∀{o:Obj},o.data=.dict esd epd->∀vs,o.data≠.fields vs:=λz vs q=>by rw [z] at q;cases q
  obtain ⟨sl8,d8⟩:=j d od hod (S D);have d10:=r d _ (a d _ nd d8) (S D);have sk:=(R.at e1 J).trans (l.at x9 i);refine ⟨o10,d,m',i,sk.d.trans e2,⟨_,esd,epd,d10,D,rd⟩,e4,e5,?_,e7,λz=>?_⟩
  rotate_left
  .obtain ⟨vs,q1,q2⟩:=e8 z;obtain ⟨y,q3,q4⟩:=sk.f vs q1;exact ⟨y,q3,q4.trans q2⟩
  .cases z:(W.hideAll s6.heap [C]).get? d with
   | none=>rfl
   | some o=>rw [G4 _ z] at e6;cases e6
end
section
variable {own:List Str} {cap:List (Str×Nat)} {scope:Scope} {cl:List (Str×Addr)} {fp:List Addr} {tg:Expr} {J:It} {it:Addr} {tn:Nat->Heap->Prop}
structure Jo(X:Cx)(E:XK):Prop where
 hst:X.stack=X.env::X.outer
 hfr:X.env.frame=some X.env.locals
 hex:X.ex=[]
 hxe:X.xe=λe s'=>wX X (leaving X.env e) (λ_ s''=>CXR X.prog X.w X.outer X.H₀ X.s₀ E e s'') (λe' s''=>CXR X.prog X.w X.outer X.H₀ X.s₀ E e' s'') s'
structure BlkX(X:Cx)(E:XK):Prop where
 ex:∃(env0:Env) (outer0:List Env) (L0:Addr),X.stack=env0::outer0/\env0.frame=some L0/\X.env.frame=some L0
 pass:∀{pins:List (Addr×Obj)} {Y:St} {H:Hp} {s:Shared} {fp:List Addr} {e:Value} {s':Shared},Inv X pins Y H s->(∀a∈fp,FpOk X pins H a)->(∃H6 s6,s6.os=s.os/\Un (frs X.stack) fp H H6 s.heap s6.heap/\CXA X.prog X.w X.stack H6 s6 E e s')->X.xe e s'
def BlkX.out(b:BlkX X E){e:Value}(I:Inv X pins Y H s)(f2:∀a∈fp,FpOk X pins H a)(hC:s.heap.objs.size<=C)(h:xfE E X C s H fp e s7) :
  notedBy (model X.prog X.w) X.A (compEnvC scope cells C X.env) (λe s'=>compPost (model X.prog X.w) X.A X.xe use Q acc C (.error e) s') e s7:=by
 obtain ⟨d,c,j,i,f,g⟩:=b.ex;exact qy i f g I hC h λs' h=>b.pass I f2 h
def Jo.blk(b:Jo X E):BlkX X E:=by
 refine ⟨⟨_,_,_,b.hst,b.hfr,b.hfr⟩,λ{D Y H s fp e O} I U h=>?_⟩;have j:=λa L=>(U a L).2.2.2.1.resolve_left λq=>by rw [b.hex] at q;cases q
 obtain ⟨H6,Q,r,k,x,w,p,C,Z,rfl,F,V,q⟩:=h;obtain ⟨B,W,⟨y,t,i,m⟩,v⟩:=F.ex;rw [b.hxe];have J:∀f o,X.s₀.heap.get? f=some o->∃n,Q.heap.get? f=some n:=λf o z=>by
  obtain ⟨S,T⟩:=I.base.there f o z (by rw [b.hex];simp);exact k.there f S T λg=>by rw [Ij (j f g)] at z;cases z
 refine Zez (by rw [<-b.hst];exact I.ok.frames) b.hfr y t (by rw [<-b.hst];exact i) m λP c d l=>?_;refine ⟨x,w,p,C,rfl,?_,V.on l d (let ⟨o,e,_⟩:=c.there;⟨o,e⟩) J,q⟩;have R:Un (frs X.stack) [] X.H₀ C X.s₀.heap O.heap:=by
  refine Un.strip ?_ λb g=>.inl (Ij (j b g));exact ((I.base.mono I.sub (by rw [b.hex];simp)).trans k).trans (F.un.mono (λ_ z=>z) (by simp))
 have G:=cY (F.os.trans (r.trans I.os)) F.bare R F.hok F.frf (λb g=>(i.mem g).2) (λb o u A M=>v b o u (A.imp id λ⟨n,z⟩=>J b n z) M) I.sub (λb N K=>by
  rcases Aj.mp (I.stkSub b N) with e | e
  .rw [e];exact Ij I.ok.above
  .exact aB e K) c (λb g o u A=>d b o u A) F.free
 exact ⟨G.os,G.bare,G.un,G.hok,G.frf,G.free,G.ex⟩
def ZoV{te:Fam TE}(b:BlkX X E)(hi:PI X tg iter wi)(O:Ep X own cap scope cl)(hc:X.calm=true)(hg:∀C s H fp pn,PG (CG (xfE E X) X (own++cap.map (·.1)) scope cl C s H fp pn) tg (g C s H fp pn))(ht:∀C s H fp pn,PTs (CG (xfE E X) X (own++cap.map (·.1)) scope cl C s H fp pn) ts (tt C s H fp pn))(he:∀C s H fp pn,PE (CG (xfE E X) X (own++cap.map (·.1)) scope cl C s H fp pn) elt (te C s H fp pn))(hts:ts.length<=1)(hs:∀x,foldedSetIterable iter X.env x=pure x:=by intro _;rfl):PE X (.ListComp elt [⟨tg,iter,ts,0⟩] scope pos) (Et wi g tt te own cap):=by
 intro d s Y H Q I h;refine wpAny_comprehension_free rfl hs O.clos O.kind O.locals (thn (hi d s Y H _ I h) λK l a=>thn a λy j c=>?_);obtain ⟨G,fp,B,J,F,rfl,k,T,f,o,u⟩:=c;refine eG O hc hg ht he hts k T f o u ?_ ?_
 .intro D C p A m n r L w q;exact ⟨m,r,λv t=>⟨.ref D,p,w v t,rfl,q⟩⟩
 .intro D C i e A n z;exact b.out k o n z
end
end L2
namespace L2.Ds
open Dl
section
variable {F:Hp}
def gn{t:TG}{g:MG}{tt:TT}{nt:MB}{own:List Str}{cap:List (Str×Nat)}{J:It}{c:Str}(r:Rep K mg F0 H0 F H Y Z)(jo:ItOk K mg F J ds)(hg:SG K mg own.length t g)(hgx:∀d Z c,g d Z≠.ex c)(ht:STt K mg E tt nt)(he:SE K mg E te me)(hl:ds.length<=LIM)(e0:Dl.Ar g nt me (noA own.length (Az Z (cap.map (·.2)))) ds=.ex c)(Q)(q:∀F' H' C,Gr F H F' H'->mg (clsOf c)=some (.ref C)->E (.ref C) (pay c) H') :
  Iw J t tt te own cap Y Q H:=by
 refine ⟨λi k h H'=>k=ds.length - i/\i<=ds.length/\h.length<=i/\∃F',Gr F H F' H'/\Dl.Ar g nt me (noA own.length (Az Z (cap.map (·.2)))) (ds.drop i)=.ex c,
  ⟨ds.length,by simp,DR _,Al _,F,.refl r.ss,e0⟩,?_⟩
 rintro i k h H' ⟨rfl,V,W,F',o,z⟩;have P:=CK W (CK V hl);refine ⟨Hs P,?_⟩;by_cases hlt:i<ds.length
 case neg=>
  rw [J7 (by omega)] at z;cases z
 refine .inr ?_;have hd:=BX hlt;obtain ⟨U,yl⟩:=(jo F' H' o.f o.s i).1 _ hd;rw [JD hlt] at z;refine ⟨U,λx M y=>?_⟩;obtain ⟨F2,R,rx⟩:=yl x M y;have X:=(r.gr (o.trans R)).inner (own:=own) (cap:=cap) (o.trans R);have O:=hg F H F2 M _ _ x _ X rx;have w:(g ds[i] (noA own.length (Az Z (cap.map (·.2))))).bind (λa=>(nt a).bind λb=>if b=true then (me a).bind λy=>(Dl.Ar g nt me (noA own.length (Az Z (cap.map (·.2)))) (ds.drop (i+1))).bind λD=>.ok (y::D) else Dl.Ar g nt me (noA own.length (Az Z (cap.map (·.2)))) (ds.drop (i+1)))=.ex c:=z
 cases eg:g ds[i] (noA own.length (Az Z (cap.map (·.2)))) with
 | bad=>rw [eg] at w;cases w
 | ex c'=>exact aB eg (hgx _ _ _)
 | ok a=>
  rw [eg] at w O;refine O _ λT H3 N s3 m d3=>⟨d3.trans R7,?_⟩;have A:=ht F H T H3 N a m;have e:(nt a).bind (λb=>if b=true then (me a).bind λy=>(Dl.Ar g nt me (noA own.length (Az Z (cap.map (·.2)))) (ds.drop (i+1))).bind λD=>.ok (y::D) else Dl.Ar g nt me (noA own.length (Az Z (cap.map (·.2)))) (ds.drop (i+1)))=.ex c:=w
  cases et:nt a with
  | bad=>rw [et] at e;cases e
  | ex c'=>
   rw [et] at e A;cases (e);exact A _ λv B C n I=>q v B C (m.g.trans n) I
  | ok b=>
   rw [et] at e A;refine A _ λv B b' n eb=>?_;cases (eb);cases b with
   | false=>
    exact ⟨ds.length - (i+1),by omega,rfl,hlt,by omega,v,m.g.trans n,e⟩
   | true=>
    have j:=e;have p:=he F H v B N a (m.gr n);cases em:me a with
    | bad=>rw [em] at j;cases j
    | ex c'=>
     rw [em] at j p;cases (j);exact p _ λL S C G I=>q L S C (m.g.trans (n.trans G)) I
    | ok y'=>
     rw [em] at j p;have l:=j;refine p _ λL S u G ru=>⟨G7 P (by decide),ds.length - (i+1),by omega,rfl,hlt,by rw [Bo];show h.length+1<=i+1;omega,L,m.g.trans (n.trans G),?_⟩;cases ec:Dl.Ar g nt me (noA own.length (Az Z (cap.map (·.2)))) (ds.drop (i+1)) with
     | ok rs=>rw [ec] at l;cases l
     | bad=>rw [ec] at l;cases l
     | ex c'=>
      rw [ec] at l;exact l
def gQ{te:Fam TE}(hi:SI K mg E wi mi)(hg:∀C s H fp pn,SG K mg own.length (t C s H fp pn) g)(hgx:∀d Z c,g d Z≠.ex c)(ht:∀C s H fp pn,STt K mg E (tt C s H fp pn) nt)(he:∀C s H fp pn,SE K mg E (te C s H fp pn) me) :
  SE K mg E (Et wi t tt te own cap) (Hj mi own.length (cap.map (·.2)) g nt me):=by
 intro r u F H Y Z f;refine (hi r u F H Y Z f).bind (w':=λJ k Q=>∀C s a fp pn,Iw J (t C s a fp pn) (tt C s a fp pn) (te C s a fp pn) own cap Y Q k) λx k J j h m=>?_;by_cases hl:j.length<=LIM
 .rw [iP hl];cases e:Dl.Ar g nt me (noA own.length (Az Z (cap.map (·.2)))) j with
  | ok ys=>exact λQ q C s a fp pn=>SN (f.gr h) m (hg C s a fp pn) (ht C s a fp pn) (he C s a fp pn) hl e Q λn i w b o _ p l=>q _ _ _ (b.trans (.new b.s l _)) (.lst (SqL.of Ak) (o.same (Cp (b.s.free l) _)))
  | ex c=>exact λQ q C s a fp pn=>gn (f.gr h) m (hg C s a fp pn) hgx (ht C s a fp pn) (he C s a fp pn) hl e Q λn i C b v=>q n i C b v
  | bad=>trivial
 .rw [iN hl];trivial
end
section
variable {tg iter elt:Expr} {ts:List Expr} {na:MB}
def Qx(b:BlkX X E)(hi:DI X E tg iter wi mi)(O:Ep X own cap scope cl)(hc:X.calm=true)(hg:∀C s H fp pn,DG (CG (xfE E X) X (own++cap.map (·.1)) scope cl C s H fp pn) own.length tg (g C s H fp pn) gm)(ht:∀C s H fp pn,DTs (CG (xfE E X) X (own++cap.map (·.1)) scope cl C s H fp pn) E ts (tt C s H fp pn) na)(he:∀C s H fp pn,DE (CG (xfE E X) X (own++cap.map (·.1)) scope cl C s H fp pn) E elt (tf C s H fp pn) me)(hts:ts.length<=1:=by decide)(hs:∀x,foldedSetIterable iter X.env x=pure x:=by intro _;rfl) :
  DE X E (.ListComp elt [⟨tg,iter,ts,0⟩] scope pos) (Et wi g tt tf own cap) (Hj mi own.length (cap.map (·.2)) gm na me) :=
 ⟨ZoV b hi.p O hc (λC s H fp pn=>(hg C s H fp pn).p) (λC s H fp pn=>(ht C s H fp pn).p) (λC s H fp pn=>(he C s H fp pn).p) hts hs,
  gQ hi.s (λC s H fp pn=>(hg C s H fp pn).s) (hg 0 X.s₀ (λ_=>none) [] []).x (λC s H fp pn=>(ht C s H fp pn).s) (λC s H fp pn=>(he C s H fp pn).s)⟩
def iQ(C:Cal X.prog X.w X.K X.mg X.base k x ps f)(hr:Room l X.A)(hn:k<=l)(hg:Gl (CG (xfE E X) X N scope cl C' s H fp pn) x)(ha:DA (CG (xfE E X) X N scope cl C' s H fp pn) E n (e::es) t m)(hps:ps.length=n:=by rfl)(hdb:ND x:=by decide)(he:starEach (e::es) (CG (xfE E X) X N scope cl C' s H fp pn).env=(false,eval e (CG (xfE E X) X N scope cl C' s H fp pn).env)::starEach es (CG (xfE E X) X N scope cl C' s H fp pn).env:=by rfl)(hpl:(backTo pos (starEach es (CG (xfE E X) X N scope cl C' s H fp pn).env)).any (·.1)=false:=by rfl) :
  DE (CG (xfE E X) X N scope cl C' s H fp pn) E (.Call (.Name x p) (e::es) [] pos) (Fe (spD X.K X.mg ps.length f) [] E t) (on f m) :=
 GX C hr hn hg yJ ha hps hdb he hpl
end
end L2.Ds
namespace Dl
def dFld(cs:List Str)(f:Str):D->Res D
 | .ins c ns vs=>if cs.contains c=true then ofO ((ns.zip vs).lookup f) else .bad
 | _=>.bad
def badS:MS:=λ_=>.bad
end Dl
namespace L2.Ds
open Dl
def FW(K:W.Frag)(mg:Str->Option Value)(cs:List Str)(f:Str):Prop:=∀c,cs.contains c=true->∀C,mg c=some (.ref C)->Cls K C/\HW K C f
def rFld(K:W.Frag)(f:Str):V->Hp->VK->Prop:=λx H Q=>∃a C c b v,x=.ref a/\H a=some (.ins C c b)/\Cls K C/\HW K C f/\b.lookup f=some v/\Q v H
section
def aM{F:Hp}:∀{fs:List (Str×V)} {vs:List D},Rps K mg F (fs.map (·.2)) vs->((fs.map (·.1)).zip vs).lookup f=some d->∃v,fs.lookup f=some v/\Rp K mg F v d
 | [],_,_,e=>by simp at e
 | (n,x)::r,[],q,_=>nomatch q
 | (n,x)::r,d0::vs,.cons h q,e=>by
  rw [Ba,List.zip_cons_cons,JK] at e;rw [JK];cases z:f==n with
  | true=>
   rw [show (f==(n,x).fst)=true from z] at e;cases e;exact ⟨x,rfl,h⟩
  | false=>
   rw [show (f==(n,x).fst)=false from z] at e;exact aM q e
def xQ(T:FW K mg cs f):UnD K mg (rFld K f) (dFld cs f):=by
 intro E F H x b s k;cases b with
 | ins c ns vs=>
  show Ans mg E (Rp K mg) F H (if cs.contains c=true then ofO ((ns.zip vs).lookup f) else .bad) _
  by_cases hc:cs.contains c=true
  .rw [iP hc];cases k with
   | @ins _ C a b fs xs _ m h o e r=>
    subst e;cases q:((fs.map (·.1)).zip vs).lookup f with
    | none=>trivial
    | some d=>
     obtain ⟨v,g,i⟩:=aM r q;obtain ⟨j,l⟩:=T c hc C m;exact .ret s i λQ z=>⟨a,C,b,fs,v,rfl,s _ _ h,j,l,g,z⟩
  .rw [iN hc];trivial
 | _=>trivial
end
def TQ(T:FW X.K X.mg cs f)(he:DE X E e te me)(hb:attributeBase e f X.env (eval e X.env)=eval e X.env:=by rfl) :
  DE X E (.Attribute e f pos) (tFld X.K te f) (o1 (dFld cs f) me):=⟨rP he.p hb,Wr (xQ T) he.s⟩
def Zrb:DSs X E sts (λ_ _ _=>False) badS:=⟨λ_ _ _ _ _ _ h=>h.elim,λ_ _ _ _ _ _ _=>trivial⟩
end L2.Ds
namespace Dl
mutual
def noL:D->Bool
 | .lst _=>false
 | .ins _ _ _=>false
 | .tup xs=>noLs xs
 | _=>true
def noLs:List D->Bool
 | []=>true
 | x::r=>noL x&&noLs r
end
end Dl
namespace L2.Ds
open Dl
section
variable {F:Hp}
mutual
def ZK{F:Hp}(k:∀b o,F b=some o->(∀xs,o≠.lst xs)->F3 b=some o):∀{x:V} {d:D},Rp K mg F x d->noL d=true->Rp K mg F3 x d
 | _,_,.non,_=>.non
 | _,_,.bl b,_=>.bl b
 | _,_,.int i,_=>.int i
 | _,_,.str x,_=>.str x
 | _,_,.ty n,_=>.ty n
 | _,_,.cls h,_=>.cls h
 | _,_,.tup h r,p=>by
  refine .tup ?_ (TF k r (by simpa [noL] using p));rcases h with (h | ⟨o,h⟩) | h
  .exact .inl (.inl (k _ _ h λ_ z=>by cases z))
  .exact .inl (.inr ⟨o,k _ _ h λ_ z=>by cases z⟩)
  .exact .inr h
 | _,_,.lst h r,p=>by simp [noL] at p
 | _,_,.exc m h,_=>.exc m (h.same k)
 | _,_,.ins m h o q r,p=>by simp [noL] at p
def TF{F:Hp}(k:∀b o,F b=some o->(∀xs,o≠.lst xs)->F3 b=some o):∀{xs:List V} {ds:List D},Rps K mg F xs ds->noLs ds=true->Rps K mg F3 xs ds
 | _,_,.nil,_=>.nil
 | _,_,.cons h r,p=>by
  rw [noLs,Iz] at p;exact .cons (ZK k h p.1) (TF k r p.2)
end
def RowR(K:W.Frag)(mg:Str->Option Value)(Fb F':Hp)(x:V)(d:D):Prop:=∃q b a,x=.ref q/\d=.lst a/\Fb q=none/\F' q=some (.lst b)/\Rps K mg F' b a
def RowR.up{x:V}(h:RowR K mg Fb F' x d)(s:Same F' F''):RowR K mg Fb F'' x d:=by
 obtain ⟨q,g,a,i,b,e,f,c⟩:=h;exact ⟨q,g,a,i,b,e,s _ _ f,c.same s⟩
def SEl(K:W.Frag)(mg:Str->Option Value)(E:XK)(t:TE)(m:ME):Prop:=∀a b F H Y Z,Rep K mg a b F H Y Z->Ans mg E (RowR K mg F) F H (m Z) (t Y H)
def vX{own:List Str}{cap:List (Str×Nat)}{ys:List D}(r:Rep K mg F0 H0 F H Y Z)(jo:ItOk K mg F J ds)(hg:SG K mg own.length t g)(ht:STt K mg E0 tt nt)(he:SEl K mg E0 te me)(hl:ds.length<=LIM)(e0:Dl.Ar g nt me (noA own.length (Az Z (cap.map (·.2)))) ds=.ok ys)(Q)(q:∀F' H' xs,Gr F H F' H'->Rps K mg F' xs ys->(∀(k:Nat) (y:V) (d:D),xs[k]?=some y->ys[k]?=some d->RowR K mg F F' y d)->xs.Nodup->xs.length<=sizeLine->∀p,H' p=none->Q (.ref p) (upd H' p (.lst xs))) :
  Iw J t tt te own cap Y Q H:=by
 refine ⟨λi k a H'=>k=ds.length - i/\i<=ds.length/\a.length<=i/\∃F' B C,Gr F H F' H'/\Rps K mg F' a B/\(∀(k:Nat) (y:V) (d:D),a[k]?=some y->B[k]?=some d->RowR K mg F F' y d)/\a.Nodup/\Dl.Ar g nt me (noA own.length (Az Z (cap.map (·.2)))) (ds.drop i)=.ok C/\B++C=ys,
  ⟨ds.length,by simp,DR _,Al _,F,[],ys,.refl r.ss,.nil,(λk y d hy=>by simp at hy),List.nodup_nil,e0,rfl⟩,?_⟩
 rintro i k a H' ⟨rfl,hi,ha,F',B,C,m,P,R,o,S,N⟩;have T:=CK ha (CK hi hl);refine ⟨Hs T,?_⟩;by_cases hlt:i<ds.length
 .refine .inr ?_;have A:=BX hlt;obtain ⟨go,yl⟩:=(jo F' H' m.f m.s i).1 _ A;rw [JD hlt] at S;refine ⟨go,λx H2 y=>?_⟩;obtain ⟨F2,W,rx⟩:=yl x H2 y;have rr:=(r.gr (m.trans W)).inner (own:=own) (cap:=cap) (m.trans W);have hG:=hg F H F2 H2 _ _ x _ rr rx;have G:(g ds[i] (noA own.length (Az Z (cap.map (·.2))))).bind (λe=>(nt e).bind λb=>if b=true then (me e).bind λy=>(Dl.Ar g nt me (noA own.length (Az Z (cap.map (·.2)))) (ds.drop (i+1))).bind λys=>.ok (y::ys) else Dl.Ar g nt me (noA own.length (Az Z (cap.map (·.2)))) (ds.drop (i+1)))=.ok C:=S
  cases eg:g ds[i] (noA own.length (Az Z (cap.map (·.2)))) with
  | ok e=>
   rw [eg] at G hG;refine hG _ λF3 H3 Y3 s3 M d3=>⟨d3.trans R7,?_⟩;have hT:=ht F H F3 H3 Y3 e M;have O:=W.f.trans s3;have v:(nt e).bind (λb=>if b=true then (me e).bind λy=>(Dl.Ar g nt me (noA own.length (Az Z (cap.map (·.2)))) (ds.drop (i+1))).bind λys=>.ok (y::ys) else Dl.Ar g nt me (noA own.length (Az Z (cap.map (·.2)))) (ds.drop (i+1)))=.ok C:=G
   cases et:nt e with
   | ok b=>
    rw [et] at v hT;refine hT _ λF4 H4 b' l eb=>?_;cases (eb);cases b with
    | true=>
     rw [iP rfl];have h:=v;have hE:=he F H F4 H4 Y3 e (M.gr l);cases em:me e with
     | ok y'=>
      rw [em] at h hE;refine hE _ λF5 H5 u g5 ru=>⟨G7 T (by decide),ds.length - (i+1),by omega,rfl,hlt,by rw [Bo];show a.length+1<=i+1;omega,?_⟩;have E:=h;have I:=O.trans (l.f.trans g5.f);cases ec:Dl.Ar g nt me (noA own.length (Az Z (cap.map (·.2)))) (ds.drop (i+1)) with
      | ok rs'=>
       rw [ec] at E;have e6:=E;cases e6;obtain ⟨q,qs,cs,rfl,rfl,n,L,rq⟩:=ru;have fq:=(M.g.f.trans l.f).free n;have lz:=P.length;refine ⟨F5,B++[.lst cs],rs',M.g.trans (l.trans g5),Rps.app (.cons (.lst (SqL.of L) rq) .nil) (P.same I),λk z d j A=>?_,?_,rfl,by rw [Do];exact N⟩
       .by_cases hk:k<a.length
        .rw [Ea hk] at j;rw [Ea (by omega)] at A;exact (R k z d j A).up I
        .rw [Fo (by omega)] at j;rw [Fo (by omega)] at A;have hk0:k - a.length=0:=by
          have:=(Cm.mp j).1;simp at this;omega
         rw [hk0] at j;rw [show k - B.length=0 by omega] at A;cases j;cases A;exact ⟨q,qs,cs,rfl,rfl,fq,L,rq⟩
       .refine List.nodup_append.mpr ⟨o,by simp,λz j w hw=>?_⟩;have X:w=.ref q:=by simpa using hw
        subst X;obtain ⟨k,hk,rfl⟩:=KC.mp j;obtain ⟨q',_,_,ez,_,_,f',_⟩:=R k _ _ (BX hk) (BX (by omega));rw [ez];intro z2;cases z2;rw [(O.trans l.f) _ _ f'] at n;cases n
      | ex c=>rw [ec] at E;cases E
      | bad=>rw [ec] at E;cases E
     | ex c=>rw [em] at h;cases h
     | bad=>rw [em] at h;cases h
    | false=>
     rw [iN Dp];have h:=v;exact ⟨ds.length - (i+1),by omega,rfl,hlt,by omega,F4,B,C,M.g.trans l,P.same (O.trans l.f),(λk z d h1 h2=>(R k z d h1 h2).up (O.trans l.f)),o,h,N⟩
   | ex c=>rw [et] at v;cases v
   | bad=>rw [et] at v;cases v
  | ex c=>rw [eg] at G;cases G
  | bad=>rw [eg] at G;cases G
 .have U:i=ds.length:=by omega
  subst U;rw [J7 (Al _)] at S;cases S;rw [Bl] at N;subst N;exact .inl ⟨(jo F' H' m.f m.s _).2 (Al _),q F' H' a m P R o (Hs T)⟩
def ZR:∀{xs:List V} {ds:List D} {G:Hp},xs.length=ds.length->(∀(k:Nat) (x:V) (d:D),xs[k]?=some x->ds[k]?=some d->Rp K mg G x d)->Rps K mg G xs ds
 | [],[],_,_,_=>.nil
 | [],_::_,_,l,_=>by cases l
 | _::_,[],_,l,_=>by cases l
 | x::xs,d::ds,G,l,h=>.cons (h 0 x d rfl rfl) (ZR (by simpa using l) λk y e b a=>h (k+1) y e (by simpa using b) (by simpa using a))
end
structure DEl(X:Cx)(E:XK)(e:Expr)(t:TE)(m:ME):Prop where
 p:PE X e t
 s:SEl X.K X.mg E t m
end L2.Ds
namespace Dl
abbrev Fs:=List (Str×D)
abbrev MSi:=Ev->Fs->Res Fs
def iEnd:MSi:=λ_ a=>.ok a
def iDrp(e:ME)(k:MSi):MSi:=λZ a=>(e Z).bind λ_=>k Z a
def iSet(f:Str)(e:ME)(k:MSi):MSi:=λZ a=>(e Z).bind λd=>if (a.map (·.1)).contains f=true\/100<=a.length then .bad else k Z (a++[(f,d)])
def iSup(g:List D->Fs->Res Fs)(a:MA)(k:MSi):MSi:=λZ c=>(a Z).bind λd=>(g d c).bind λb=>k Z b
def fnI(n:Nat)(k:MSi):List D->Fs->Res Fs:=λb a=>k (.no::ev0 (n - 1) b) a
def make(c:Str)(g:List D->Fs->Res Fs)(a:MA):ME:=λZ=>(a Z).bind λd=>(g d []).bind λb=>.ok (.ins c (b.map (·.1)) (b.map (·.2)))
def meth(tab:List (Str×(List D->Res D)))(m:Str)(o:ME)(a:MA):ME:=λZ=>(o Z).bind λd=>match d with
 | .ins c ns vs=>if ns.contains m=true then .bad else match tab.lookup c with
  | some f=>(a Z).bind λb=>f (.ins c ns vs::b)
  | none=>.bad
 | _=>.bad
end Dl
namespace L2.Ds
open Dl
def Ans.imp{F:Hp}{w:(β->Hp->Prop)->Prop}(h:Ans mg E R F H r w)(hw:∀Q,w Q->w' Q):Ans mg E R F H r w':=by
 cases r with
 | ok a=>exact λQ q=>hw Q (h Q q)
 | ex c=>exact λQ q=>hw Q (h Q q)
 | bad=>trivial
def MP(P:Program)(w:World)(K:W.Frag)(mg:Str->Option Value)(base:Heap)(k:Nat)(m:Str)(E:XK)(ta:TE)(t:TA):TE:=λY H Q=>ta Y H λx c=>∃a C h f g d b e,x=.ref a/\c a=some (.ins C h f)/\f.lookup m=none /\
 Cls K C/\Meth K C m g/\FnOk P w K mg base (CXR P w) k g d b e/\Binds K d b []/\t Y c λj i=>e (x::j) i Q E
section
variable {m:Str} {o:Expr} {ta:TE} {t:TA} {apos:Pos} {pl:Sem Bool}
def mQ(he:PE X o ta)(hr:Room k X.A)(hx:Dr (CXR X.prog X.w) X E)(ha:PA X (e::es) t)(hst:starEach (e::es) X.env=(false,eval e X.env)::starEach es X.env:=by rfl)(hpl:(backTo pos (starEach es X.env)).any (·.1)=false:=by rfl) (ht:eval (.Call (.Attribute o m apos) (e::es) [] pos) X.env=(do
   let ov <-eval o X.env
   standAt apos.atName
   let (f,first) <-holding [ov] (getMethod ov m pl)
   callWith pos f first (backTo pos (starEach (e::es) X.env)) (backToKw pos (keywordEach [] X.env))):=by rfl) :
  PE X (.Call (.Attribute o m apos) (e::es) [] pos) (MP X.prog X.w X.K X.mg X.base k m E ta t):=by
 intro b s Y H Q I h;refine W.methodCall_KW (thn (he b s Y H _ I h) λu j i=>?_) ht;obtain ⟨x,H1,I1,rx,a,C,dx,fs,g,fd,ps,sp,ex,ea,l,c,hm,F,hb,q⟩:=i;subst ex;obtain rfl:u=Value.ref a:=rx;refine W8 I1 ea c hm l ?_;refine W.callWith_K I.ok.mod.kin hm.kp (thn (ha pos b j Y H1 _ I1 q) λv y zq=>?_) hst hpl;obtain ⟨vs,p,d,r,n⟩:=zq;refine ⟨d.kIn,?_⟩;exact Ql (vs:=.ref a::vs) F hr hb .nil hx d (.cons rfl r) (by rw [Bl];exact n)
def rZ(he:PE X o ta)(hr:Room k X.A)(hx:Dr (CXR X.prog X.w) X E) (ht:eval (.Call (.Attribute o m apos) [] [] pos) X.env=(do
   let ov <-eval o X.env
   standAt apos.atName
   let (f,first) <-holding [ov] (getMethod ov m pl)
   callWith pos f first (backTo pos (starEach [] X.env)) (backToKw pos (keywordEach [] X.env))):=by rfl) :
  PE X (.Call (.Attribute o m apos) [] [] pos) (MP X.prog X.w X.K X.mg X.base k m E ta tNil):=by
 intro b s Y H Q I h;refine W.methodCall_KW (thn (he b s Y H _ I h) λu e d=>?_) ht;obtain ⟨x,H1,I1,rx,a,C,dx,fs,g,fd,ps,sp,ex,ea,l,c,hm,F,hb,q⟩:=d;subst ex;obtain rfl:u=Value.ref a:=rx;refine W8 I1 ea c hm l ?_;exact W.callWith_K0 I1.kIn hm.kp (Ql (vs:=[.ref a]) F hr hb .nil hx I1 (.cons rfl .nil) q)
end
def Fi(P:Program)(w:World)(K:W.Frag)(mg:Str->Option Value)(base:Heap)(k n:Nat)(m:Str)(tab:List (Str×(List D->Res D))):Prop:=∀c f,tab.lookup c=some f->∀C,mg c=some (.ref C) ->
 Cls K C/\∃g b a,Meth K C m g/\FnOk P w K mg base (CXR P w) k g b a (spD K mg a.length f)/\Binds K b a []/\a.length=n+1
def Fi.nil:Fi P w K mg base k n m []:=λ_ _ e=>by cases e
def Fi.cons{P:Program}{w:World}{K:W.Frag}{mg:Str->Option Value}{base:Heap}{k n:Nat}{m c:Str}{f:List D->Res D}{tab:List (Str×(List D->Res D))}(h:∀C,mg c=some (.ref C)->Cls K C/\∃g fd ps,Meth K C m g/\FnOk P w K mg base (CXR P w) k g fd ps (spD K mg ps.length f)/\Binds K fd ps []/\ps.length=n+1)(r:Fi P w K mg base k n m tab):Fi P w K mg base k n m ((c,f)::tab):=by
 intro b a e;rw [JK] at e;split at e
 .next q=>
  cases e;rw [eq_of_beq q];exact h
 .exact r b a e
def Xw:∀{fs:List (Str×V)},¬(fs.map (·.1)).contains m=true->fs.lookup m=none
 | [],_=>rfl
 | (n,x)::r,h=>by
  rw [Ba,List.contains_cons] at h;rw [JK];cases z:m==n with
  | true=>exact aB (by rw [show (m==(n,x).fst)=true from z];rfl) h
  | false=>exact Xw λq=>h (by rw [q,Bool.or_true])
section
variable {m:Str} {tab:List (Str×(List D->Res D))} {ta:TE} {mo:ME} {t:TA} {ma:MA}
def Zu(T:Fi P w K mg base k n m tab)(ho:SE K mg E ta mo)(ha:SA K mg E t ma)(hl:SAn n ma):SE K mg E (MP P w K mg base k m E ta t) (meth tab m mo ma):=by
 intro v A F H Y Z u;refine (ho v A F H Y Z u).bind λy p x d j l=>?_;cases d with
 | ins c ns vs=>
  show Ans mg E (Rp K mg) y p (if ns.contains m=true then .bad else match tab.lookup c with
   | some f=>(ma Z).bind λb=>f (.ins c ns vs::b)
   | none=>.bad) _
  by_cases hc:ns.contains m=true
  .rw [iP hc];trivial
  rw [iN hc];cases e:tab.lookup c with
  | none=>trivial
  | some f=>
   have i:=l;cases l with
   | @ins _ C a dx fs xs _ hm h o q r=>
    obtain ⟨J,g,L,B,S,N,O,M⟩:=T c f e C hm;refine Ans.imp ((ha v A y p Y Z (u.gr j)).bindE λb G V U R D I=>?_) λQ z=>⟨a,C,dx,fs,g,L,B,spD K mg B.length f,rfl,j.s _ _ h,Xw hc,J,S,N,O,z⟩;exact Ro D.s (.cons (i.same D.f) I) (by rw [CW,hl Z b G,M])
 | _=>trivial
end
section
variable {l:Nat} {m:Str} {o:Expr} {ta:TE} {mo:ME} {t:TA} {ma:MA} {apos:Pos} {pl:Sem Bool} {tab:List (Str×(List D->Res D))}
def vL(T:Fi X.prog X.w X.K X.mg X.base k n m tab)(hr:Room l X.A)(hn:k<=l)(hx:Dr (CXR X.prog X.w) X E)(ho:DE X E o ta mo)(ha:DA X E n (e::es) t ma)(hst:starEach (e::es) X.env=(false,eval e X.env)::starEach es X.env:=by rfl)(hpl:(backTo pos (starEach es X.env)).any (·.1)=false:=by rfl) (ht:eval (.Call (.Attribute o m apos) (e::es) [] pos) X.env=(do
   let ov <-eval o X.env
   standAt apos.atName
   let (f,first) <-holding [ov] (getMethod ov m pl)
   callWith pos f first (backTo pos (starEach (e::es) X.env)) (backToKw pos (keywordEach [] X.env))):=by rfl) :
  DE X E (.Call (.Attribute o m apos) (e::es) [] pos) (MP X.prog X.w X.K X.mg X.base k m E ta t) (meth tab m mo ma):=⟨mQ ho.p (hr.mono hn) hx ha.p hst hpl ht,Zu T ho.s ha.s ha.n⟩
def Sw(T:Fi X.prog X.w X.K X.mg X.base k 0 m tab)(hr:Room l X.A)(hn:k<=l)(hx:Dr (CXR X.prog X.w) X E)(ho:DE X E o ta mo) (ht:eval (.Call (.Attribute o m apos) [] [] pos) X.env=(do
   let ov <-eval o X.env
   standAt apos.atName
   let (f,first) <-holding [ov] (getMethod ov m pl)
   callWith pos f first (backTo pos (starEach [] X.env)) (backToKw pos (keywordEach [] X.env))):=by rfl) :
  DE X E (.Call (.Attribute o m apos) [] [] pos) (MP X.prog X.w X.K X.mg X.base k m E ta tNil) (meth tab m mo Ab):=⟨rZ ho.p (hr.mono hn) hx ht,Zu T ho.s O6 aO⟩
end
def FW.nil:FW K mg [] f:=λ_ h=>by cases h
def FW.cons{K:W.Frag}{mg:Str->Option Value}{c f:Str}{cs:List Str}(h:∀C,mg c=some (.ref C)->Cls K C/\HW K C f)(r:FW K mg cs f):FW K mg (c::cs) f:=λb a=>by
 rw [List.contains_cons] at a;cases z:b==c with
 | true=>rw [eq_of_beq z];exact h
 | false=>
  rw [z,Bool.false_or] at a;exact r b a
structure FR(K:W.Frag)(mg:Str->Option Value)(F:Hp)(fs:List (Str×V))(fl:Fs):Prop where
 nm:fs.map (·.1)=fl.map (·.1)
 rv:Rps K mg F (fs.map (·.2)) (fl.map (·.2))
def FR.same{F:Hp}(h:FR K mg F fs fl)(s:Same F F'):FR K mg F' fs fl:=⟨h.nm,h.rv.same s⟩
def FR.len{F:Hp}(h:FR K mg F fs fl):fs.length=fl.length:=by
 have:=CV List.length h.nm;rwa [Af,Af] at this
def Wx:∀{fs:List (Str×V)},¬(fs.map (·.1)).contains f=true->putF f y fs=fs++[(f,y)]
 | [],_=>rfl
 | (g,x)::r,h=>by
  rw [Ba,List.contains_cons] at h;have a:g≠f:=by
   rintro rfl;exact h (by rw [show ((g,x).fst==g)=true from beq_self_eq_true g];rfl)
  show (if g=f then (g,y)::r else (g,x)::putF f y r)=_
  rw [iN a,Wx λq=>h (by rw [q,Bool.or_true])];rfl
def FR.put{F:Hp}(h:FR K mg F fs fl)(hn:¬(fl.map (·.1)).contains f=true)(ry:Rp K mg F y d):FR K mg F (putF f y fs) (fl++[(f,d)]):=by
 rw [Wx (by rw [h.nm];exact hn)];refine ⟨by rw [Du,Du,h.nm];rfl,?_⟩;rw [Du,Du];exact Rps.app (.cons ry .nil) h.rv
def spI(K:W.Frag)(mg:Str->Option Value)(n:Nat)(cs:List Str)(m:List D->Fs->Res Fs):Sp:=λl H Q E=>l.length=n+1/\∃x i C c j k F h g,
 l=.ref x::j/\cs.contains c=true/\mg c=some (.ref C)/\H x=some (.ins C i k)/\F x=none/\Same F H/\Rps K mg F j h/\FR K mg F k g/\m h g≠.bad /\
 (∀f,m h g=.ok f->∀d b a,Gr F (del H x) d b->d x=none->b x=some (.ins C i a)->FR K mg d a f->Q .non b) /\
 (∀e,m h g=.ex e->∀d b a o,Gr F (del H x) d b->d x=none->b x=some (.ins C i a)->mg (clsOf e)=some (.ref o)->E (.ref o) (pay e) b)
structure RepI(K:W.Frag)(mg:Str->Option Value)(x dx C:Addr)(F0 H0 F H:Hp)(Y:St)(Z:Ev)(fs:List (Str×V))(fl:Fs):Prop where
 rep:Rep K mg F0 H0 F H Y Z
 h0:H0 x=none
 self:Y[0]?=some (some (.ref x))
 fx:F x=none
 hx:H x=some (.ins C dx fs)
 fr:FR K mg F fs fl
section
variable {x dx C:Addr} {F:Hp} {fs fs':List (Str×V)} {fl fl':Fs}
def RepI.gr(r:RepI K mg x dx C F0 H0 F H Y Z fs fl)(g:Gr F H F' H'):RepI K mg x dx C F0 H0 F' H' Y Z fs fl:=by
 obtain ⟨a,b⟩:=g.o x _ r.fx r.hx;exact ⟨r.rep.gr g,r.h0,r.self,a,b,r.fr.same g.f⟩
def RepI.go(r:RepI K mg x dx C F0 H0 F H Y Z fs fl)(g:Gr F (del H x) F' H')(fx:F' x=none)(hx:H' x=some (.ins C dx fs'))(fr:FR K mg F' fs' fl'):RepI K mg x dx C F0 H0 F' H' Y Z fs' fl':=by
 refine ⟨⟨⟨r.rep.g.f.trans g.f,g.s,λa o c b=>?_,λa o u e=>r.rep.g.z a o u (g.z a o u e)⟩,r.rep.len,λi d e=>?_,λi m e=>?_,r.rep.ne⟩,r.h0,r.self,fx,hx,fr⟩
 .obtain ⟨h,k⟩:=r.rep.g.o a o c b;exact g.o a o h (by rw [Ex (Ay b r.h0)];exact k)
 .obtain ⟨y,c,b⟩:=r.rep.im i d e;exact ⟨y,c,b.same g.f⟩
 .obtain ⟨a,n,c,b,q,j,p⟩:=r.rep.ow i m e;have l:a≠x:=by
   rintro rfl;rw [r.hx] at j;cases j
  obtain ⟨h,k⟩:=g.o a _ q (by rw [Ex l];exact j);exact ⟨a,n,c,b,h,k,p.same g.f⟩
def RepI.set(r:RepI K mg x dx C F0 H0 F H Y Z fs fl)(hn:¬(fl.map (·.1)).contains f=true)(ry:Rp K mg F y d):RepI K mg x dx C F0 H0 F (upd H x (.ins C dx (putF f y fs))) Y Z (putF f y fs) (fl++[(f,d)]):=by
 refine r.go ⟨Same.refl _,λa o e=>?_,λa o h b=>⟨h,?_⟩,λ_ _ _ e=>e⟩ r.fx Ak (r.fr.put hn ry)
 .rw [Ag (Ay e r.fx)];exact r.rep.g.s a o e
 .have c:a≠x:=by
   rintro rfl;rw [HR] at b;cases b
  rw [Ex c] at b;rw [Ag c];exact b
end
def AnsI(K:W.Frag)(mg:Str->Option Value)(E:XK)(x dx C:Addr)(F0 H0:Hp)(r:Res Fs)(w:Ends->Prop):Prop :=
 match r with
 | .ok fl=>∀D,(∀b a f d,Gr F0 H0 b a->b x=none->a x=some (.ins C dx d)->FR K mg b d fl->D.nx f a)->w D
 | .ex c=>∀D,(∀b a d e,Gr F0 H0 b a->b x=none->a x=some (.ins C dx d)->mg (clsOf c)=some (.ref e)->E (.ref e) (pay c) a)->w D
 | .bad=>True
def SSi(K:W.Frag)(mg:Str->Option Value)(E:XK)(cs:List Str)(t:TS)(m:MSi):Prop:=∀x a C c b e F H Y Z f d,cs.contains c=true->mg c=some (.ref C)->RepI K mg x a C b e F H Y Z f d->AnsI K mg E x a C b e (m Z d) (λD=>t D Y H)
structure DSi(X:Cx)(E:XK)(cs:List Str)(sts:List Stmt)(t:TS)(m:MSi):Prop where
 p:PSs X sts t
 s:SSi X.K X.mg E cs t m
section
variable {x dx C:Addr} {F:Hp} {α β:Type} {R:Hp->β->α->Prop} {fs:List (Str×V)} {fl:Fs}
def Tu{r:Res α}{w:(β->Hp->Prop)->Prop}{k:α->Res Fs}{w':β->Hp->Ends->Prop}(rr:RepI K mg x dx C F0 H0 F H Y Z fs fl)(h1:Ans mg E R F H r w)(h2:∀a,r=.ok a->∀F1 H1 b,Gr F H F1 H1->R F1 b a->AnsI K mg E x dx C F0 H0 (k a) (w' b H1)) :
  AnsI K mg E x dx C F0 H0 (r.bind k) (λD=>w λb H1=>w' b H1 D):=by
 cases r with
 | ok a=>
  show AnsI K mg E x dx C F0 H0 (k a) _;have e:=h2 a rfl;generalize k a=r2 at e;cases r2 with
  | ok d=>exact λD q=>h1 _ λF1 H1 b g f=>e F1 H1 b g f D q
  | ex c=>exact λD q=>h1 _ λF1 H1 b g f=>e F1 H1 b g f D q
  | bad=>trivial
 | ex c=>exact λD q=>h1 _ λF1 H1 i g h=>let r2:=rr.gr g;q F1 H1 fs i r2.rep.g r2.fx r2.hx h
 | bad=>trivial
end
section
variable {cs cs':List Str} {rest:List Stmt} {u:TS} {k:MSi} {o:Expr} {t:TA} {ma:MA} {apos p p':Pos} {f y m:Str} {l:Nat}
def Q6:DSi X E cs [] Kl iEnd:=⟨R9,λx b C c d f F H Y Z a e _ _ r=>λD q=>q F H Y a r.rep.g r.fx r.hx r.fr⟩
def K4(he:DE X E e te me)(h:DSi X E cs rest u k)(hs:swapsWith e none spos.line X.env=pure false:=by rfl):DSi X E cs (.Expr e spos::rest) (tSeq (CQ te) u) (iDrp me k):=by
 refine ⟨Hv (HJ he.p hs) h.p,?_⟩;intro x j C c d f F H Y Z m n i q r;exact Tu r (he.s d f F H Y Z r.rep) λa _ o l b g _=>h.s x j C c d f o l Y Z m n i q (r.gr g)
def Pr(T:FW X.K X.mg cs f)(he:DE X E e te me)(h:DSi X E cs rest u k)(hN:X.N[0]?=some x:=by rfl)(hv:Dv X.env.scope x:=by first | exact Or.inl rfl | exact Or.inr (Or.inl rfl) | exact Or.inr (Or.inr rfl))(hd:ND x:=by decide)(hcd:NE x:=by decide)(hs:swapsWith e (some (.Attribute (.Name x p) f p')) spos.line X.env=pure false:=by rfl) :
  DSi X E cs (.Assign [.Attribute (.Name x p) f p'] e spos::rest) (tSeq (sFld X.K (tVar 0) te f) u) (iSet f me k):=by
 refine ⟨Hv (uR (Ej hN hv hd hcd) he.p hs) h.p,?_⟩;intro x i C c t v F H Y Z j b l w r;refine Tu r (he.s t v F H Y Z r.rep) λd _ G I y g A=>?_;have a:=r.gr g;by_cases hb:(b.map (·.1)).contains f=true\/100<=b.length
 .rw [iP hb];trivial
 rw [iN hb];obtain ⟨m,n⟩:=T c l C w;have B:=a.set (λz=>hb (.inl z)) A;have z:=h.s x i C c t v G _ Y Z _ _ l w B;have o:j.length<1000:=by have:=r.fr.len;have:¬100<=b.length:=λz=>hb (.inr z);omega
 generalize k Z (b++[(f,d)])=q0 at z;cases q0 with
 | ok fl'=>exact λD q=>⟨_,a.self,x,C,i,j,rfl,a.hx,m,n,o,z D q⟩
 | ex c=>exact λD q=>⟨_,a.self,x,C,i,j,rfl,a.hx,m,n,o,z D q⟩
 | bad=>trivial
end
structure ClsM(K:W.Frag)(C:Addr)(m:Str)(f:Addr):Prop where
 sg:W.specialIn K (.ref C) "__getattribute__"=some (some (.builtin "type.__getattribute__"))
 rd:∃mc,W.readsIn K C mc=true/\W.findCls K (.ref C) mc m=some (.val (.ref f))
 hh:W.handedIn (.ref f)=true
 kp:W.keepIn K (.ref f)=true
section
variable {y m:Str} {C f:Addr} {sp:Sp} {t:TA} {p apos:Pos} {pl:Sem Bool}
def pK(hg:Gl X y)(hy:X.mg y=some (.ref C))(c:ClsM X.K C m f)(F:FnOk X.prog X.w X.K X.mg X.base (CXR X.prog X.w) k f fd ps sp)(hr:Room k X.A)(hb:Binds X.K fd ps [])(hx:Dr (CXR X.prog X.w) X E)(ha:PA X (e::es) t)(hd:ND y:=by decide)(hst:starEach (e::es) X.env=(false,eval e X.env)::starEach es X.env:=by rfl)(hpl:(backTo pos (starEach es X.env)).any (·.1)=false:=by rfl) (ht:eval (.Call (.Attribute (.Name y p) m apos) (e::es) [] pos) X.env=(do
   let ov <-eval (.Name y p) X.env
   standAt apos.atName
   let (f,first) <-holding [ov] (getMethod ov m pl)
   callWith pos f first (backTo pos (starEach (e::es) X.env)) (backToKw pos (keywordEach [] X.env))):=by rfl) :
  PE X (.Call (.Attribute (.Name y p) m apos) (e::es) [] pos) (Fe sp [] E t):=by
 intro a s Y H Q I h;refine W.methodCall_KW (thn (Xf (v:=.ref C) hg hy rfl hd a s Y H (λv b=>v=.ref C/\b=H) I ⟨rfl,rfl⟩) λu s1 zq=>?_) ht;obtain ⟨x,b,I1,rx,ex,eh⟩:=zq;subst ex eh;obtain rfl:u=Value.ref C:=rx;obtain ⟨o,i,g⟩:=c.rd;refine W.method_cls I1.kIn c.sg (W.cls_value I1.kIn i g c.hh ?_);have j:=I1.tok (s1.toks+1);refine W.callWith_K I.ok.mod.kin c.kp (thn (ha pos a _ Y b _ j h) λz B zq=>?_) hst hpl;obtain ⟨q,n,d,r,l⟩:=zq;refine ⟨d.kIn,?_⟩;exact Ql F hr hb .nil hx d r l
end
structure CalS(P:Program)(w:World)(K:W.Frag)(mg:Str->Option Value)(base:Heap)(k:Nat)(y m:Str)(n:Nat)(cs:List Str)(g:List D->Fs->Res Fs):Prop where
 ex:∃(C f:Addr) (fd:FuncData) (ps:List Str),mg y=some (.ref C)/\ClsM K C m f/\FnOk P w K mg base (CXR P w) k f fd ps (spI K mg n cs g)/\Binds K fd ps []
section
variable {cs cs':List Str} {rest:List Stmt} {u:TS} {k:MSi} {t:TA} {ma:MA} {apos p p':Pos} {y m:Str} {l:Nat} {g:List D->Fs->Res Fs} {pl:Sem Bool}
def Rr(S:CalS X.prog X.w X.K X.mg X.base j y m n cs' g)(hr:Room l X.A)(hn:j<=l)(hg:Gl X y)(hx:Dr (CXR X.prog X.w) X E)(hcs:∀c,cs.contains c=true->cs'.contains c=true)(ha:DA X E n es t ma)(h:DSi X E cs rest u k)(hN:X.N[0]?=some x:=by rfl)(hv:Dv X.env.scope x:=by first | exact Or.inl rfl | exact Or.inr (Or.inl rfl) | exact Or.inr (Or.inr rfl))(hd:ND x:=by decide)(hcd:NE x:=by decide)(hdy:ND y:=by decide)(hst:starEach (.Name x p'::es) X.env=(false,eval (.Name x p') X.env)::starEach es X.env:=by rfl)(hpl:(backTo pos (starEach es X.env)).any (·.1)=false:=by rfl) (ht:eval (.Call (.Attribute (.Name y p) m apos) (.Name x p'::es) [] pos) X.env=(do
   let ov <-eval (.Name y p) X.env
   standAt apos.atName
   let (f,first) <-holding [ov] (getMethod ov m pl)
   callWith pos f first (backTo pos (starEach (.Name x p'::es) X.env)) (backToKw pos (keywordEach [] X.env))):=by rfl) (hs:swapsWith (.Call (.Attribute (.Name y p) m apos) (.Name x p'::es) [] pos) none spos.line X.env=pure false:=by rfl) :
  DSi X E cs (.Expr (.Call (.Attribute (.Name y p) m apos) (.Name x p'::es) [] pos) spos::rest) (tSeq (CQ (Fe (spI X.K X.mg n cs' g) [] E (BW (tVar 0) t))) u) (iSup g ma k):=by
 obtain ⟨C0,f,fd,ps,hy,cm,F,hb⟩:=S.ex;refine ⟨Hv (HJ (pK hg hy cm F (hr.mono hn) hb hx (Dt (Ej hN hv hd hcd) ha.p hst) hdy hst hpl ht) hs) h.p,?_⟩;intro x M C c T U F H Y Z fs G W hm r;have A:=ha.s T U F H Y Z r.rep;have L:=ha.n Z;show AnsI X.K X.mg E x M C T U ((ma Z).bind λi=>(g i G).bind λfl'=>k Z fl') (λD=>∃v,Y[0]?=some (some v)/\t Y H λQ H1=>spI X.K X.mg n cs' g (v::Q++[]) H1 (λ_ H2=>u D Y H2) E);have P:AnsI X.K X.mg E x M C T U ((ma Z).bind λi=>(g i G).bind λfl'=>k Z fl') (λD=>t Y H λQ H1=>spI X.K X.mg n cs' g (.ref x::Q) H1 (λ_ H2=>u D Y H2) E):=by
  refine Tu r A λi eds F1 H1 Q g1 rs=>?_;have b:=r.gr g1;have hl:=rs.length.trans (L i eds);cases eg:g i G with
  | bad=>trivial
  | ex ec=>
   intro D q;refine ⟨by rw [CW,hl],x,M,C,c,Q,fs,F1,i,G,rfl,hcs c W,hm,b.hx,b.fx,b.rep.g.s,rs,b.fr,(by rw [eg];intro z;cases z),(λfl' e=>by rw [eg] at e;cases e),λe' I O J fs' Ce d B hx hce=>?_⟩;rw [eg] at I;cases I;have r2:=b.go (fl':=G) (fs':=fs) d B;refine q O J fs' Ce ?_ B hx hce;refine ⟨b.rep.g.f.trans d.f,d.s,λa o h1 h2=>?_,λa o u e=>b.rep.g.z a o u (d.z a o u e)⟩;obtain ⟨q1,q2⟩:=b.rep.g.o a o h1 h2;exact d.o a o q1 (by rw [Ex (Ay h2 r.h0)];exact q2)
  | ok fl'=>
   show AnsI X.K X.mg E x M C T U (k Z fl') _;have nx:=λO J fs' d B hx V=>h.s x M C c T U O J Y Z fs' fl' W hm (b.go d B hx V);generalize k Z fl'=q0 at nx;cases q0 with
   | bad=>trivial
   | ok fl2=>
    intro D q;refine ⟨by rw [CW,hl],x,M,C,c,Q,fs,F1,i,G,rfl,hcs c W,hm,b.hx,b.fx,b.rep.g.s,rs,b.fr,(by rw [eg];intro z;cases z),(λR e O J fs' d B hx V=>?_),λe' I=>by rw [eg] at I;cases I⟩;rw [eg] at e;cases e;exact nx O J fs' d B hx V D q
   | ex c2=>
    intro D q;refine ⟨by rw [CW,hl],x,M,C,c,Q,fs,F1,i,G,rfl,hcs c W,hm,b.hx,b.fx,b.rep.g.s,rs,b.fr,(by rw [eg];intro z;cases z),(λR e O J fs' d B hx V=>?_),λe' I=>by rw [eg] at I;cases I⟩;rw [eg] at e;cases e;exact nx O J fs' d B hx V D q
 generalize ((ma Z).bind λi=>(g i G).bind λfl'=>k Z fl')=q0 at P;cases q0 with
 | bad=>trivial
 | ok fl'=>exact λD q=>⟨.ref x,r.self,by simpa using P D q⟩
 | ex c'=>exact λD q=>⟨.ref x,r.self,by simpa using P D q⟩
end
section
variable {qual:Str} {f:Addr} {cs:List Str}
def Zke{F:Hp}(s:Same F H)(fa:F a=none)(r:Rps K mg F vs ds)(hN:1<=N.length):Rep K mg F (del H a) F H (start N (z::vs)) (.no::ev0 (N.length - 1) ds):=by
 have u:=r.length;have m:∀(i:Nat) (c:Cl),(ev0 (N.length - 1) ds)[i]?=some c->c=.no\/∃d,ds[i]?=some d/\c=.im d:=by
  intro i c e;rw [Mi] at e;by_cases g:i<ds.length
  .rw [Ea (by simpa using g),By,BX g] at e;exact .inr ⟨ds[i],BX g,(Bt e).symm⟩
  .rw [Fo (by simpa using g),Ib] at e;split at e
   .exact .inl (Bt e).symm
   .cases e
 have f:∀(i:Nat) (c:Cl),(Cl.no::ev0 (N.length - 1) ds)[i]?=some c->c=.no\/∃d j,i=j+1/\ds[j]?=some d/\c=.im d:=by
  intro i c e;cases i with
  | zero=>exact .inl (Bt e).symm
  | succ j=>
   rcases m j c (by simpa using e) with q | ⟨d,e1,k⟩
   .exact .inl q
   .exact .inr ⟨d,j,rfl,e1,k⟩
 refine ⟨⟨Same.refl _,s,λb o p h=>⟨p,?_⟩,λ_ _ _ e=>e⟩,?_,λi d e=>?_,λi l e=>?_,λi j l t a e=>?_⟩
 .by_cases hb:b=a
  .subst hb;rw [HR] at h;cases h
  .rw [Ex hb] at h;exact h
 .rw [Mi];unfold start;simp [u];omega
 .rcases f i _ e with q | ⟨d',j,rfl,e1,q⟩
  .cases q
  .cases q;obtain ⟨v,k,n⟩:=r.get e1;refine ⟨v,?_,n⟩;have g:=(Cm.mp k).1;unfold start;rw [Ba,List.cons_append,List.getElem?_cons_succ,Ea (by simpa using g),By,k];rfl
 .rcases f i _ e with q | ⟨d',j,_,e1,q⟩<;>cases q
 .rcases f i _ e with q | ⟨d',j,_,e1,q⟩<;>cases q
def okI{st:Stmt}{mb:MSi}(F:Fun K x qual st f fd)(S:Ca N ps (Av st))(hN:1<=N.length)(hp:ps.length=n+1)(h:∀(cdv:Value) (A:Around) (outer:List Env) (s:Shared) (H:Hp) (E:XK),Room k (A.deeper (envOfC qual (Av st) s.heap.objs.size f cdv))->∃t,DSi (cxOf (CXR P w) P w K mg base N qual (Av st) f cdv A outer s H E) E cs (DX st) t mb) :
  FnOk P w K mg base (CXR P w) (k+1) f fd ps (spI K mg n cs (fnI N.length mb)):=by
 obtain ⟨oc,od,kV,Z,pm,an,cdv,ct,osl,rfl,Y,j⟩:=F.ex;refine K6 Y j S (λvs H Q E q=>q.1.trans hp.symm) λA outer s H vs Q E hr u=>?_;obtain ⟨t,G⟩:=h cdv A outer s H E hr;refine ⟨t,G.p,?_⟩;obtain ⟨_,x,L,C,c,R,V,I,D,B,rfl,J,X,O,y,T,M,U,W,m,l⟩:=u;have z:=G.s x L C c I (del H x) I H (start N (.ref x::R)) (.no::ev0 (N.length - 1) D) V B J X ⟨Zke T y M hN,HR,rfl,y,O,U⟩;cases e:mb (.no::ev0 (N.length - 1) D) B with
 | ok fl'=>
  rw [e] at z;exact z _ λo i Y' d g b a v=>m fl' e o i d g b a v
 | ex c'=>
  rw [e] at z;exact z _ λo i d Ce g b a r=>l c' e o i d Ce g b a r
 | bad=>exact aB e W
def okM{st:Stmt}{mb:MS}(F:Fun K x qual st f fd)(S:Ca N ps (Av st))(h:∀(cdv:Value) (A:Around) (outer:List Env) (s:Shared) (H:Hp) (E:XK),Room k (A.deeper (envOfC qual (Av st) s.heap.objs.size f cdv))->∃t,DSs (cxOf (CXR P w) P w K mg base N qual (Av st) f cdv A outer s H E) E (DX st) t mb) :
  FnOk P w K mg base (CXR P w) (k+1) f fd ps (spD K mg ps.length (fn N.length mb)):=by
 obtain ⟨X,T,Y,M,U,V,cdv,ct,O,rfl,L,m⟩:=F.ex;refine K6 L m S (λr H Q E q=>q.1) λA outer s H r Q E R n=>?_;obtain ⟨t,u⟩:=h cdv A outer s H E R;refine ⟨t,u.p,?_⟩;obtain ⟨_,y,o,I,G,i,b,a⟩:=n;have z:=u.s y H y H (start N r) (ev0 N.length o) (N8 I G);unfold fn at i b a;cases e:mb (ev0 N.length o) with
 | ok fl=>
  rw [e] at z i b a;cases fl with
  | nx Z=>exact z _ λl j W _ J=>b .non rfl l j .non J.g .non
  | rt d=>exact z _ λl j v g D=>b d rfl l j v g D
  | bk Z=>exact aB rfl i
  | ct Z=>exact aB rfl i
 | ex c=>
  rw [e] at z a;exact z _ λl j C g B=>a c rfl l j C g B
 | bad=>rw [e] at i;exact aB rfl i
end
structure CalI(P:Program)(w:World)(K:W.Frag)(mg:Str->Option Value)(base:Heap)(k:Nat)(c:Str)(n:Nat)(cs:List Str)(g:List D->Fs->Res Fs):Prop where
 ex:∃(C f:Addr) (fd:FuncData) (ps:List Str),mg c=some (.ref C)/\Mk K C f/\FnOk P w K mg base (CXR P w) k f fd ps (spI K mg n cs g)/\Binds K fd ps []/\cs.contains c=true
def Zq(K:W.Frag)(mg:Str->Option Value)(c:Str)(n:Nat)(cs:List Str)(g:List D->Fs->Res Fs)(E:XK)(t:TA):TE:=λY H Q=>∃C,mg c=some (.ref C)/\Wv C (spI K mg n cs g) [] E t Y H Q
section
variable {c:Str} {cs:List Str} {g:List D->Fs->Res Fs} {t:TA} {ma:MA}
def uT(hm:mg c=some (.ref C))(hc:cs.contains c=true)(ha:SA K mg E t ma)(hl:SAn n ma):SE K mg E (Zq K mg c n cs g E t) (make c g ma):=by
 intro F0 H0 F H Y Z rr;refine Ans.imp ?_ λQ q=>⟨C,hm,q⟩;refine (ha F0 H0 F H Y Z rr).bindE λD N y A V G M=>?_;have v:=M.length.trans (hl Z D N);have m:∀x b,A x=none->A b=none->b≠x->y x=none/\y b=none/\Same y (upd (upd A b (.own x)) x (.ins C b []))/\del (upd (upd A b (.own x)) x (.ins C b [])) x=upd A b (.own x):=by
  intro x b l i d;refine ⟨G.s.free l,G.s.free i,λa o e=>?_,?_⟩
  .have z:=G.s a o e;rw [Ag (Ay z l),Ag (Ay z i)];exact z
  .funext a;by_cases h:a=x
   .subst h;rw [HR,Ag (Ne.symm d)];exact l.symm
   .rw [Ex h,Ag h]
 cases eg:g D [] with
 | bad=>trivial
 | ex ec=>
  intro Q q x b l i d;obtain ⟨P,X,J,T⟩:=m x b l i d;refine ⟨by simp [v],x,b,C,c,V,[],y,D,[],by simp,hc,hm,Ak,P,J,M,⟨rfl,.nil⟩,(by rw [eg];intro z;cases z),(λL e=>by rw [eg] at e;cases e),λe' B r I k Ce j O w R=>?_⟩;rw [eg] at B;cases B;rw [T] at j;refine q r I Ce ⟨j.f,j.s,λa o S p=>?_,j.z⟩ R;exact j.o a o S (by rw [Ag (Ay p i)];exact p)
 | ok fl=>
  intro Q q x b l i d;obtain ⟨P,X,J,T⟩:=m x b l i d;refine ⟨by simp [v],x,b,C,c,V,[],y,D,[],by simp,hc,hm,Ak,P,J,M,⟨rfl,.nil⟩,(by rw [eg];intro z;cases z),(λL e r I k j O w fr=>?_),λe' B=>by rw [eg] at B;cases B⟩;rw [eg] at e;cases e;rw [T] at j;obtain ⟨U,d2⟩:=j.o b _ X Ak;refine ⟨rfl,q (upd (upd r b (.own x)) x (.ins C b k)) I (.ref x) ⟨?_,?_,λa o S p=>?_,λa o u e=>j.z a o u (Im (λ_ _ z=>by cases z) (Im (λ_ _ z=>by cases z) e))⟩ ?_⟩
  .refine (j.f.trans (Cp U _)).trans (Cp ?_ _);rw [Ag (Ne.symm d)];exact O
  .intro a o e;by_cases ha:a=x
   .subst ha;rw [Ak] at e;cases e;exact w
   .rw [Ag ha] at e;by_cases hb:a=b
    .subst hb;rw [Ak] at e;cases e;exact d2
    .rw [Ag hb] at e;exact j.s a o e
  .have n1:a≠x:=Ay p l;have W:=Ay p i;obtain ⟨q1,q2⟩:=j.o a o S (by rw [Ag W];exact p);rw [Ag n1,Ag W];exact ⟨q1,q2⟩
  .have sF:Same r (upd (upd r b (.own x)) x (.ins C b k)):=(Cp U _).trans (Cp (by rw [Ag (Ne.symm d)];exact O) _);have z:Rp K mg (upd (upd r b (.own x)) x (.ins C b k)) (.ref x) (.ins c (k.map (·.1)) (fl.map (·.2))):=.ins hm Ak (by rw [Ag d,Ak]) rfl (fr.rv.same sF);rw [fr.nm] at z;exact z
end
section
variable {l:Nat} {c:Str} {cs:List Str} {g:List D->Fs->Res Fs} {t:TA} {ma:MA} {p:Pos}
def Uj(M:CalI X.prog X.w X.K X.mg X.base k c n cs g)(hr:Room l X.A)(hn:k+1<=l)(hg:Gl X c)(hx:Dr (CXR X.prog X.w) X E)(ha:DA X E n (e::es) t ma)(hdb:ND c:=by decide)(he:starEach (e::es) X.env=(false,eval e X.env)::starEach es X.env:=by rfl)(hpl:(backTo pos (starEach es X.env)).any (·.1)=false:=by rfl) :
  DE X E (.Call (.Name c p) (e::es) [] pos) (Zq X.K X.mg c n cs g E t) (make c g ma):=by
 obtain ⟨C,f,r,q,b,j,F,m,i⟩:=M.ex;refine ⟨?_,uT b i ha.s ha.n⟩;intro a s Y H Q I ⟨o,d,h⟩;rw [b] at d;cases d;exact rC j F (hr.mono hn) hg b m .nil hx ha.p hdb he hpl a s Y H Q I h
end
end L2.Ds
namespace Dl
def insO(i:Nat)(k e:ME):MS:=λZ=>(getO Z[i]?).bind λa=>(k Z).bind λu=>match u with
 | .int j=>(e Z).bind λd=>if (0<=j/\j<=a.length)/\a.length<LIM then .ok (.nx (Z.set i (.ow (a.take j.toNat++d::a.drop j.toNat)))) else .bad
 | _=>.bad
end Dl
namespace L2
def JW:V->List V->Hp->VK->Prop:=λx b H Q=>∃l a j y,x=.ref l/\b=[.int j,y]/\H l=some (.lst a)/\(0<=j/\j<=a.length)/\a.length<sizeLine/\Q .non (upd H l (.lst (a.take j.toNat++y::a.drop j.toNat)))
def Vals.takeN:∀{xs:List V} {us:List Value} (n:Nat),Vals xs us->Vals (xs.take n) (us.take n)
 | _,_,0,_=>.nil
 | _,_,_+1,.nil=>.nil
 | _,_,n+1,.cons h r=>.cons h (Vals.takeN n r)
def Vals.dropN:∀{xs:List V} {us:List Value} (n:Nat),Vals xs us->Vals (xs.drop n) (us.drop n)
 | _,_,0,r=>r
 | _,_,_+1,.nil=>.nil
 | _,_,n+1,.cons _ r=>Vals.dropN n r
def ZlW:MtR X "list.insert" JW:=by
 intro d s Y H x m v A Q I i b h;obtain ⟨l,o,j,y,rfl,rfl,c,B,w,q⟩:=h;cases i;cases b with
 | @cons _ u0 _ us0 r1 b=>
  have b:Vals [y] us0:=b;obtain ⟨u,rfl,f⟩:=b.one;obtain ⟨t,rfl⟩:=r1;obtain ⟨z,a,n,r,p,e⟩:=I.lstM c;have k:sizeLine<2^63:=by decide
  refine call_meets F.slot_list_insert ⟨_,e,rfl⟩ F.entry_list_insert (F.args_list_insert_3 _ _ _) (PySem.AutoSeq1.list_insert_list_int_val_1 l a.toArray n j t u (by rw [fitsIndex_both (by omega) (by omega)];exact Dp) (by rw [Bg];omega)) ⟨e,?_⟩;refine ⟨.non,_,I.lset (its':=a.take j.toNat++u::a.drop j.toNat) c e ?_ ((r.takeN j.toNat).append (.cons f (r.dropN j.toNat))) ?_,rfl,q⟩
  .have g:(if j<0 then (j+(a.toArray.size:Int)).toNat else min j.toNat a.toArray.size)=j.toNat:=by
    rw [iN (by omega),Bg];omega
   show (a.toArray.extract 0 (if j<0 then (j+(a.toArray.size:Int)).toNat else min j.toNat a.toArray.size)).push u++a.toArray.extract (if j<0 then (j+(a.toArray.size:Int)).toNat else min j.toNat a.toArray.size)=_
   rw [g];apply Array.toList_inj.mp;simp
   try rw [Mg (by simp)]
  .rw [Bo,CW,Ie,MK];omega
end L2
namespace L2.Ds
open Dl
section
variable {tk:TE} {mk:ME}
def zQ(hk:SE K mg E tk mk)(ha:SE K mg E te me):SS K mg E (CQ (tBM K "list" JW (tVar i) (BW tk (BW te tNil)))) (insO i mk me):=by
 intro C G F H Y Z s;unfold insO getO;split
 .next b e=>
  obtain ⟨a,B,J,R,U,M,N⟩:=s.ow i b e;have L:B.length=b.length:=N.length;have v:tyV K "list" (.ref a) H:=.inl ⟨rfl,B,SqL.of M⟩
  have h:=(hk C G F H Y Z s).stm (K:=K) (k:=λu=>match u with
   | .int j=>(me Z).bind λd=>if (0<=j/\j<=b.length)/\b.length<LIM then .ok (.nx (Z.set i (.ow (b.take j.toNat++d::b.drop j.toNat)))) else .bad
   | _=>.bad) (w':=λx r D=>te Y r λy m=>JW (.ref a) [x,y] m λ_ p=>D.nx Y p) s.g λu _ P r x t V=>?_
  .show AnsS K mg E C G F ((mk Z).bind λu=>match u with
    | .int j=>(me Z).bind λd=>if (0<=j/\j<=b.length)/\b.length<LIM then .ok (.nx (Z.set i (.ow (b.take j.toNat++d::b.drop j.toNat)))) else .bad
    | _=>.bad) _
   have l:∀D,(tk Y H λx r=>te Y r λy m=>JW (.ref a) [x,y] m λ_ p=>D.nx Y p)->CQ (tBM K "list" JW (tVar i) (BW tk (BW te tNil))) D Y H:=λD z=>⟨.ref a,J,v,z⟩
   generalize ((mk Z).bind λu=>match u with
    | .int j=>(me Z).bind λd=>if (0<=j/\j<=b.length)/\b.length<LIM then Res.ok (Fl.nx (Z.set i (.ow (b.take j.toNat++d::b.drop j.toNat)))) else .bad
    | _=>.bad)=res at h
   cases res with
   | ok f=>
    cases f with
    | nx Z=>exact λD q=>l D (h D q)
    | bk Z=>exact λD q=>l D (h D q)
    | ct Z=>exact λD q=>l D (h D q)
    | rt d=>exact λD q=>l D (h D q)
   | ex c=>exact λD q=>l D (h D q)
   | bad=>trivial
  .cases u with
   | int j=>
    cases V;have w:=s.gr t;obtain ⟨W,X⟩:=t.o a _ U M;refine (ha C G P r Y Z w).stm (w':=λy m D=>JW (.ref a) [.int j,y] m λ_ p=>D.nx Y p) w.g λd _ Q m y A S=>?_;have T:=w.gr A;obtain ⟨O,I⟩:=A.o a _ W X;have n:=(N.same t.f).same A.f;by_cases hc:(0<=j/\j<=b.length)/\b.length<LIM
    .rw [iP hc];exact λD q=>⟨a,B,j,y,rfl,rfl,I,by rw [L];exact hc.1,by rw [L];exact Bu hc.2 (by decide),q Q _ Y (Same.refl _) (T.put e J I R O (Rps.app (.cons S (n.drop j.toNat)) (n.take j.toNat)))⟩
    .rw [iN hc];trivial
   | _=>trivial
 .trivial
end
section
variable {k':Expr} {tk:TE} {mk:ME} {np apos:Pos}
def nO(i)(hk:DE X E k' tk mk)(he:DE X E e te me)(hN:X.N[i]?=some x:=by rfl)(hv:Dv X.env.scope x:=by first | exact Or.inl rfl | exact Or.inr (Or.inl rfl) | exact Or.inr (Or.inr rfl))(hd:ND x:=by decide)(hcd:NE x:=by decide)(hbase:attributeBase (.Name x np) "insert" X.env (eval (.Name x np) X.env)=eval (.Name x np) X.env:=by rfl) (hfew:((backTo cpos (starEach [k',e] X.env)).all (λx=>!x.1)&&(backToKw cpos (keywordEach [] X.env)).all (λx=>x.1.isSome)
   && decide ([k',e].length+([]:List Keyword).length+(if ([]:List Keyword).isEmpty then 0 else 1)<30))=true:=by rfl) (hline:(apos.endLine==cpos.line)=true:=by rfl) (hs:starEach [k',e] X.env=(false,eval k' X.env)::starEach [e] X.env:=by rfl) (hs2:starEach [e] X.env=(false,eval e X.env)::starEach [] X.env:=by rfl) (hplain:(backTo cpos (starEach [e] X.env)).any (·.1)=false:=by rfl) (hsw:swapsWith (.Call (.Attribute (.Name x np) "insert" apos) [k',e] [] cpos) none spos.line X.env=pure false:=by rfl) :
  DS X E (.Expr (.Call (.Attribute (.Name x np) "insert" apos) [k',e] [] cpos) spos) (CQ (tBM X.K "list" JW (tVar i) (BW tk (BW te tNil)))) (insO i mk me) :=
 ⟨HJ (KR J9 PySem.F.slot_list_insert PySem.F.type_list_insert ZlW (Ej hN hv hd hcd) (Dt hk.p (Dt he.p Fw hs2) hs) hbase hfew hline hs hplain) hsw,zQ hk.s he.s⟩
end
end L2.Ds
namespace Dl
def fnR(n:Nat)(m:ME):List D->Res D:=λa=>m (ev0 n a)
end Dl
namespace Dl
def soR(k:MS)(m:ME):ME:=λZ=>(k Z).bind λf=>match f with
 | .nx Z'=>m Z'
 | _=>.bad
end Dl
namespace L2.Ds
open Dl
section
variable {G Gb F:Hp} {x:V}
def Rep.lookA(r:Rep K mg F0 H0 F H Y Z)(e:Z[i]?=some (.ow ds))(e2:Y[i]?=some (some (.ref a)))(e4:H0 a=none)(e5:F a=none)(e3:H a=some (.lst xs))(hr:Rps K mg F xs ds) :
  Rep K mg F0 H0 (upd F a (.lst xs)) H Y (Z.set i (.im (.lst ds)))/\∀F1 H1,Gr (upd F a (.lst xs)) H F1 H1->Gr F H (del F1 a) H1:=by
 have h:Same F (upd F a (.lst xs)):=Cp e5 _;refine ⟨⟨⟨r.g.f.trans h,λb o q=>?_,λb o d c=>?_,λb o u q=>r.g.z b o u (Im (λ_ _ z=>by cases z) q)⟩,by rw [Eu];exact r.len,λj u q=>?_,λj m q=>?_,λj k m B b d c v A=>?_⟩,λF1 H1 g=>⟨λb o q=>?_,λb o q=>?_,λb o d c=>?_,λb o u q=>Im (λ_ _ z=>by cases z) (g.z b o u (Xg q))⟩⟩
 .by_cases hb:b=a
  .subst hb;rw [Ak] at q;cases q;exact e3
  .rw [Ag hb] at q;exact r.g.s b o q
 .rw [Ag (Ay c e4)];exact r.g.o b o d c
 .rcases BV q with ⟨rfl,z,_⟩ | ⟨_,q⟩
  .cases z;exact ⟨.ref a,e2,.lst (SqL.of Ak) (hr.same h)⟩
  .obtain ⟨x,l,n⟩:=r.im j u q;exact ⟨x,l,n.same h⟩
 .rcases BV q with ⟨_,z,_⟩ | ⟨hij,q⟩
  .cases z
  .obtain ⟨b,t,l,n,y,C,w⟩:=r.ow j m q;have p:b≠a:=by
    rintro rfl;exact hij (r.ne i j ds m b e q e2 l)
   exact ⟨b,t,l,n,by rw [Ag p];exact y,C,w.same h⟩
 .rcases BV d with ⟨_,z,_⟩ | ⟨_,d⟩
  .cases z
  .rcases BV c with ⟨_,z,_⟩ | ⟨_,c⟩
   .cases z
   .exact r.ne j k m B b d c v A
 .rw [Ex (Ay q e5)];exact g.f b o (h b o q)
 .by_cases hb:b=a
  .subst hb;rw [HR] at q;cases q
  .rw [Ex hb] at q;exact g.s b o q
 .by_cases hb:b=a
  .subst hb;rw [e3] at c;cases c;exact ⟨HR,g.s _ _ (g.f _ _ Ak)⟩
  .rw [Ex hb];exact g.o b o (by rw [Ag hb];exact d) c
end
end L2.Ds
namespace L2.Ds
open Dl
section
variable {F:Hp}
def Zwl(g:Gr F0 H0 F H)(h:H b=none):H0 b=none:=by
 cases q:H0 b with
 | none=>rfl
 | some o=>
  cases q2:F0 b with
  | none=>rw [(g.o b o q2 q).2] at h;cases h
  | some u=>rw [g.s _ _ (g.f b u q2)] at h;cases h
end
section
variable {G Gb F:Hp} {x:V}
def TwoR(K:W.Frag)(mg:Str->Option Value)(Fb F':Hp)(x:V)(d:D):Prop:=∃p b a g f c e,x=.ref p/\d=.tup [.lst c,.lst e]/\F' p=some (.tup [.ref b,.ref a])/\b≠a/\Fb b=none/\Fb a=none/\F' b=some (.lst g)/\F' a=some (.lst f)/\Rps K mg F' g c/\Rps K mg F' f e
def TwoR.down(h:TwoR K mg G F' x d)(s:Same Gb G):TwoR K mg Gb F' x d:=by
 obtain ⟨p,i,f,n,m,g,j,o,b,e,k,c,l,a⟩:=h;exact ⟨p,i,f,n,m,g,j,o,b,e,k,s.free c,s.free l,a⟩
def TwoR.rp(h:TwoR K mg G F x d):Rp K mg F x d:=by
 obtain ⟨p,k,i,q,o,j,l,rfl,rfl,f,m,g,n,b,c,e,a⟩:=h;exact .tup (SqT.of f) (.cons (.lst (SqL.of b) e) (.cons (.lst (SqL.of c) a) .nil))
def spT(K:W.Frag)(mg:Str->Option Value)(k:Nat)(f:List D->Res D):Sp:=λg H Q E=>g.length=k/\∃F b,Same F H/\Rps K mg F g b/\f b≠.bad /\
 (∀d,f b=.ok d->∀e a x,Gr F H e a->TwoR K mg F e x d->Q x a)/\(∀c,f b=.ex c->∀e a C,Gr F H e a->mg (clsOf c)=some (.ref C)->E (.ref C) (pay c) a)
def AnsT(K:W.Frag)(mg:Str->Option Value)(E:XK)(F0 H0:Hp)(r:Res D)(w:Ends->Prop):Prop :=
 match r with
 | .ok d=>∀D,(∀b a x,Gr F0 H0 b a->TwoR K mg F0 b x d->D.rt x a)->w D
 | .ex c=>∀D,(∀b a C,Gr F0 H0 b a->mg (clsOf c)=some (.ref C)->E (.ref C) (pay c) a)->w D
 | .bad=>True
def SEt(K:W.Frag)(mg:Str->Option Value)(E:XK)(t:TE)(m:ME):Prop:=∀a b c F H Y Z,Rep K mg b c F H Y Z->Same a F->Ans mg E (TwoR K mg a) F H (m Z) (t Y H)
def iK(ha:SA K mg E t m)(hl:SAn n m)(hn:n<=sizeLine):SEl K mg E (tLst t) (mls m):=by
 intro j k F H Y Z i;have h:=ha j k F H Y Z i;unfold mls;cases e:m Z with
 | ok ds=>
  rw [e] at h;exact λQ q=>h _ λo l d g b=>⟨by rw [b.length,hl Z ds e];exact hn,λp a=>q _ _ _ (g.trans (.new g.s a _)) ⟨p,d,ds,rfl,rfl,g.f.free (g.s.free a),Ak,b.same (Cp (g.s.free a) _)⟩⟩
 | ex c=>
  rw [e] at h;exact λQ q=>h _ q
 | bad=>trivial
end
structure DEt(X:Cx)(E:XK)(e:Expr)(t:TE)(m:ME):Prop where
 p:PE X e t
 s:SEt X.K X.mg E t m
def DEt.de(h:DEt X E e t m):DE X E e t m:=by
 refine ⟨h.p,λb i F H Y Z a=>?_⟩;have z:=h.s F b i F H Y Z a (Same.refl _);generalize m Z=r at z;cases r with
 | ok d=>exact λQ q=>z Q λf k x g j=>q f k x g j.rp
 | ex c=>exact z
 | bad=>trivial
structure CalT(P:Program)(w:World)(K:W.Frag)(mg:Str->Option Value)(base:Heap)(k:Nat)(x:Str)(ps:List Str)(m:List D->Res D):Prop where
 ex:∃(f:Addr) (fd:FuncData),FnOk P w K mg base (CXR P w) k f fd ps (spT K mg ps.length m)/\Binds K fd ps []/\W.keepIn K (.ref f)=true/\mg x=some (.ref f)
structure DSt2(X:Cx)(E:XK)(sts:List Stmt)(t:TS)(m:ME):Prop where
 p:PSs X sts t
 s:∀F0 H0 F H Y Z,Rep X.K X.mg F0 H0 F H Y Z->AnsT X.K X.mg E F0 H0 (m Z) (λD=>t D Y H)
section
variable {l nn:Nat} {y:Str} {f:List D->Res D} {t:TA} {m:MA} {p:Pos}
def Lz{st:Stmt}{rest:List Stmt}{u u':TS}{k:MS}{k':ME}(h:DS X E st u k)(h':DSt2 X E rest u' k'):DSt2 X E (st::rest) (tSeq u u') (soR k k'):=by
 refine ⟨Hv h.p h'.p,λl m F H Y Z n=>?_⟩;have z:=h.s l m F H Y Z n;unfold soR;cases e:k Z with
 | ok f=>
  rw [e] at z;cases f with
  | nx Z'=>
   show AnsT X.K X.mg E l m (k' Z') _;have j:=λi g a b=>h'.s l m i g a Z' b;generalize k' Z'=r2 at j;cases r2 with
   | ok ds=>exact λD q=>z _ λi g a _ b=>j i g a b D q
   | ex c=>exact λD q=>z _ λi g a _ b=>j i g a b D q
   | bad=>trivial
  | bk Z'=>trivial
  | ct Z'=>trivial
  | rt d=>trivial
 | ex c=>rw [e] at z;exact λD q=>z _ q
 | bad=>trivial
def Ztf(ha:DA X E n es t m)(hn:n<=sizeLine:=by decide):DEl X E (.List es pos) (tLst t) (mls m):=⟨O8 ha.p,iK ha.s ha.n hn⟩
end
end L2.Ds
namespace L2
open PySem.W
def objX(a:Addr)(o:Obj):HO:=.ext λh=>h.get? a=some o
def vD{P:Program}{w:World}{H:Hp}{h:Heap}{a:Addr}{o:Obj}(e:h.get? a=some o):Dy P w H h a (objX a o):=⟨e,⟨o,e⟩,λ_ _ x k=>k o x⟩
def wU{P:Program}{w:World}{H:Hp}{h:Heap}{a:Addr}{o:Obj}(x:HOk P w H h)(e:H a=some (objX a o)):h.get? a=some o:=(show _/\_ from x a _ e).1
end L2
namespace Dl
def firsts(kf:Nat->List Int):Nat->List (List Int)
 | 0=>[]
 | i+1=>if kf i∈firsts kf i then firsts kf i else firsts kf i++[kf i]
def intsOf:List D->Option (List Int)
 | []=>some []
 | .int n::r=>(intsOf r).map (n::·)
 | _::_=>none
def keysOf:List D->Option (List (List Int))
 | []=>some []
 | .tup ds::r=>(intsOf ds).bind λk=>(keysOf r).map (k::·)
 | _::_=>none
def T9:D->Res D
 | .lst ds=>match keysOf ds with
  | some ks=>if ds.length<=4 then .ok (.int ((firsts (λi=>ks.getD i []) ds.length).length:Nat)) else .bad
  | none=>.bad
 | _=>.bad
end Dl
namespace L2.Sx
open PySem.SetTable
def adv(m:Nat)(p:Probe):Probe :=
 if p.more>0 then { p with j:=p.j+1,more:=p.more - 1 } else
 { p with j:=(leap m p.i p.perturb).1,more:=runEnd m (leap m p.i p.perturb).1 - (leap m p.i p.perturb).1,i:=(leap m p.i p.perturb).1,perturb:=(leap m p.i p.perturb).2 }
def Y5(t:SetTable)(p:Probe):t.advance p=adv t.mask p:=rfl
def run(m i pt:Nat):Probe:={ j:=i,more:=runEnd m i - i,i,perturb:=pt,dummy:=none }
inductive Rch(m:Nat)(occ:Nat->Prop):Probe->Nat->Prop
 | here (p:Probe):Rch m occ p p.j
 | next {p:Probe} {j:Nat}:occ p.j->Rch m occ (adv m p) j->Rch m occ p j
def Rch.mono(h:∀j,occ j->occ' j)(r:Rch m occ p j):Rch m occ' p j:=by
 induction r with
 | here p=>exact .here p
 | next o _ ih=>exact .next (h _ o) ih
def Ek(m:Nat)(occ:Nat->Prop):Nat->Probe->Prop
 | 0,p=>¬occ p.j
 | n+1,p=>¬occ p.j\/Ek m occ n (adv m p)
def advs(m:Nat):Nat->Probe->Probe
 | 0,p=>p
 | n+1,p=>advs m n (adv m p)
def Ek.of:∀{n:Nat} {p:Probe},¬occ (advs m n p).j->Ek m occ n p
 | 0,_,h=>h
 | _+1,_,h=>.inr (Ek.of h)
def Ek.mono:∀{n n':Nat} {p:Probe},n<=n'->Ek m occ n p->Ek m occ n' p
 | 0,0,_,_,h=>h
 | 0,_+1,_,_,h=>.inl h
 | n+1,0,_,hl,_=>by omega
 | n+1,n'+1,_,hl,h=>h.elim .inl λh=>.inr (Ek.mono (by omega) h)
def Oe(m):∀a b p,advs m (a+b) p=advs m b (advs m a p)
 | 0,b,p=>by rw [KQ];rfl
 | a+1,b,p=>by rw [Nat.add_right_comm];exact Oe m a b (adv m p)
def ZC(m i pt):∀k,k<=runEnd m i - i->advs m k (run m i pt)={ j:=i+k,more:=runEnd m i - i - k,i,perturb:=pt,dummy:=none }
 | 0,_=>rfl
 | k+1,h=>by
  rw [Oe m k 1,ZC m i pt k (by omega)];show adv m _=_;unfold adv;rw [iP (show runEnd m i - i - k>0 by omega)];simp only [Probe.mk.injEq,and_true];omega
def lL(m i pt):advs m (runEnd m i - i+1) (run m i pt)=run m (leap m i pt).1 (leap m i pt).2:=by
 rw [Oe m (runEnd m i - i) 1,ZC m i pt _ (Al _)];show adv m _=_;unfold adv;rw [iN (by simp)];rfl
def yH(m i):runEnd m i - i+1<=10:=by
 unfold runEnd;split<;>omega
def Di(m:Nat):Nat->Nat×Nat->Nat×Nat
 | 0,p=>p
 | n+1,p=>Di m n (leap m p.1 p.2)
def eE(m):∀a b p,Di m (a+b) p=Di m b (Di m a p)
 | 0,b,p=>by rw [KQ];rfl
 | a+1,b,p=>by rw [Nat.add_right_comm];exact eE m a b _
def YW(m):∀n i pt,∃k,k<=10*n/\advs m k (run m i pt)=run m (Di m n (i,pt)).1 (Di m n (i,pt)).2
 | 0,i,pt=>⟨0,Al _,rfl⟩
 | n+1,i,pt=>by
  obtain ⟨k,a,e⟩:=YW m n (leap m i pt).1 (leap m i pt).2;refine ⟨(runEnd m i - i+1)+k,?_,?_⟩
  .have:=yH m i;omega
  .rw [Oe,lL,e];rfl
def ZW(m):∀n i pt,(Di m n (i,pt)).2=pt/32^n
 | 0,i,pt=>by rw [Nat.pow_zero,Nat.div_one];rfl
 | n+1,i,pt=>by
  show (Di m n (leap m i pt)).2=_;have e:=ZW m n (leap m i pt).1 (leap m i pt).2;have z:Di m n (leap m i pt)=Di m n ((leap m i pt).1,(leap m i pt).2):=rfl;rw [z,e];show pt/32/32^n=pt/32^(n+1);rw [Nat.div_div_eq_div_mul,Nat.pow_succ,Nat.mul_comm]
def W4(m):∀n i pt,i<=m->(Di m n (i,pt)).1<=m
 | 0,i,pt,h=>h
 | n+1,i,pt,h=>by
  show (Di m n ((leap m i pt).1,(leap m i pt).2)).1<=m;exact W4 m n _ _ (by unfold leap;have:=Nat.mod_lt (i*5+1+pt/32) (show 0<m+1 by omega);simp only [];omega)
def t8(h):bits h<2^64:=by
 unfold bits;have a:=IK h (show ((2:Int)^64)≠0 by decide);have b:=Iv h (show (0:Int)<2^64 by decide);omega
def cyc7:∀i≤7,∀e≤7,∃k≤7,(Di 7 k (i,0)).1=e:=by decide +kernel
def pI:∀i≤31,∀e≤31,∃k≤31,(Di 31 k (i,0)).1=e:=by decide +kernel
def Mk(m:Nat):Prop:=m=7\/m=31
def cyc(hm:Mk m):∀i≤m,∀e≤m,∃k≤m,(Di m k (i,0)).1=e:=by
 rcases hm with rfl | rfl
 .exact cyc7
 .exact pI
def cover(hm:Mk m){e:Nat}(hi:i<=m)(hp:pt<2^64)(he:e<=m):∃n,n<=13+m/\(Di m n (i,pt)).1=e:=by
 have a:(Di m 13 (i,pt)).2=0:=by
  rw [ZW];exact Nat.div_eq_of_lt (Bu hp (by decide))
 obtain ⟨k,c,b⟩:=cyc hm _ (W4 m 13 i pt hi) e he;refine ⟨13+k,by omega,?_⟩;rw [eE];have z:Di m 13 (i,pt)=((Di m 13 (i,pt)).1,0):=by rw [<-a]
 rw [z];exact b
def ends(hm:Mk m){e:Nat}(hi:i<=m)(hp:pt<2^64)(he:e<=m)(ho:¬occ e):Ek m occ (10*(13+m)) (run m i pt):=by
 obtain ⟨n,c,b⟩:=cover hm hi hp he;obtain ⟨k,d,a⟩:=YW m n i pt;refine Ek.mono (n:=k) (by omega) (Ek.of ?_);rw [a];rw [b];exact ho
def Rz(xs:Array Nat)(j:Nat)(h:xs.toList.Pairwise (· < ·)):∀fuel lo hi,lo<=hi->hi<=xs.size->hi - lo<=fuel->(∀i q,i<lo->xs[i]<j)->(∀i q,hi<=i->¬xs[i]<j) ->
  below.go xs j fuel lo hi<=xs.size/\∀i q,xs[i]<j↔i<below.go xs j fuel lo hi
 | 0,lo,hi,h1,h2,h3,h4,h5=>by
  have e:lo=hi:=by omega
  subst e;exact ⟨h2,λi hi=>⟨λz=>Nat.lt_of_not_le λq=>h5 i hi q z,λz=>h4 i hi z⟩⟩
 | fuel+1,lo,hi,h1,h2,h3,h4,h5=>by
  unfold below.go;by_cases hl:lo<hi
  .rw [iP hl];simp only [];have f:(lo+hi)/2<xs.size:=by omega
   have k:∀a b (g:a<xs.size) (l:b<xs.size),a<b->xs[a]<xs[b]:=λa b g l d=>by
    have:=Qw.mp h a b (by simpa using g) (by simpa using l) d;simpa using this
   have m:xs.getD ((lo+hi)/2) j=xs[(lo+hi)/2]:=by simp [Array.getD,f]
   rw [m];by_cases hc:xs[(lo+hi)/2]<j
   .rw [iP hc];refine Rz xs j h fuel ((lo+hi)/2+1) hi (by omega) h2 (by omega) (λi c z=>?_) h5;by_cases hz:i<(lo+hi)/2
    .exact BJ (k i _ c f hz) hc
    .have:i=(lo+hi)/2:=by omega
     subst this;exact hc
   .rw [iN hc];refine Rz xs j h fuel lo ((lo+hi)/2) (by omega) (by omega) (by omega) h4 λi c z=>?_;by_cases hz:(lo+hi)/2<i
    .have:=k _ i f c hz;omega
    .have:i=(lo+hi)/2:=by omega
     subst this;exact hc
  .rw [iN hl];have e:lo=hi:=by omega
   subst e;exact ⟨h2,λi hi=>⟨λz=>Nat.lt_of_not_le λq=>h5 i hi q z,λz=>h4 i hi z⟩⟩
def Zw{xs:Array Nat}(j)(h:xs.toList.Pairwise (· < ·)):below xs j<=xs.size/\∀i hi,xs[i]<j↔i<below xs j :=
 Rz xs j h xs.size 0 xs.size (DR _) (Al _) (by omega) (λ_ _ z=>by omega) λi hi z=>by omega
abbrev En:Type:=Nat×Int×Value
def Occ(l:List En)(j:Nat):Prop:=∃e∈l,e.1=j
abbrev st0(m:Nat)(h:Int):Probe:=run m (bits h%(m+1)) (bits h)
structure Tb(t:SetTable)(es:Array (Int×Value))(l:List En):Prop where
 ms:Mk t.mask
 pl:t.place.toList=l.map (·.1)
 el:es.toList=l.map (·.2)
 du:t.dummies=#[]
 up:l.Pairwise λa b=>a.1<b.1
 le:∀e∈l,e.1<=t.mask
 rc:∀e∈l,Rch t.mask (Occ l) (st0 t.mask e.2.1) e.1
section
variable{t:SetTable}{es:Array (Int×Value)}{l:List En}
def Tb.plP(T:Tb t es l):t.place.toList.Pairwise (· < ·):=by rw [T.pl,List.pairwise_map];exact T.up
def Tb.size(T:Tb t es l):t.place.size=l.length:=by rw [<-Kq,T.pl,Af]
def Tb.esize(T:Tb t es l):es.size=l.length:=by rw [<-Kq,T.el,Af]
def Tb.at(T:Tb t es l)(hi:i<t.place.size):t.place[i]=(l[i]'(by rw [<-T.size];exact hi)).1:=by
 have e:t.place.toList[i]'(by simpa using hi)=(l.map (·.1))[i]'(by rw [Af,<-T.size];exact hi):=by
  congr 1;exact T.pl
 simpa using e
def Tb.live(T:Tb t es l){e:En}(h:l[i]?=some e):t.slot e.1=.live i:=by
 obtain ⟨c,rfl⟩:=Cm.mp h;have a:i<t.place.size:=by rw [T.size];exact c
 obtain ⟨j,d⟩:=Zw l[i].1 T.plP;have f:=Qw.mp T.up;have g:below t.place l[i].1=i:=by
  rcases Nat.lt_trichotomy (below t.place l[i].1) i with z | z | z
  .have b:below t.place l[i].1<t.place.size:=by omega
   have:=f _ i (by rw [<-T.size];exact b) c z;have q:=(d _ b).mp (by rw [T.at b];exact this);omega
  .exact z
  .have q:=(d i a).mpr z;rw [T.at a] at q;omega
 unfold slot;simp only [];rw [g,iP];rw [Array.getElem?_eq_getElem a,T.at a];simp
def Tb.noDummy(T:Tb t es l)(j):has t.dummies j=false:=by
 rw [T.du];unfold has;simp
def Tb.empty(T:Tb t es l)(h:¬Occ l j):t.slot j=.empty:=by
 unfold slot;simp only [];rw [iN,T.noDummy,iN Dp];intro z;have z:=eq_of_beq z;obtain ⟨a,e⟩:=JC.mp z;rw [T.at a] at e;exact h ⟨_,Jg _,e⟩
def Tb.occ(T:Tb t es l)(h:Occ l j):∃i e,l[i]?=some e/\e.1=j/\t.slot j=.live i:=by
 obtain ⟨e,b,rfl⟩:=h;obtain ⟨i,a,rfl⟩:=KC.mp b;exact ⟨i,_,BX a,rfl,T.live (BX a)⟩
def Zb(xs:Array α)(p:Nat)(x:α)(hp:p<=xs.size):(insertAt xs p x).toList=xs.toList.take p++x::xs.toList.drop p:=by
 unfold insertAt;simp [Array.toList_extract,List.extract_eq_drop_take];exact Mg (by simp)
def Tb.put(T:Tb t es l){x:Value}(hj:j<=t.mask)(ho:¬Occ l j)(hr:Rch t.mask (Occ l) (st0 t.mask h) j) :
  ∃l',List.Perm l' ((j,h,x)::l)/\Tb (t.put j).1 (insertAt es (t.put j).2 (h,x)) l':=by
 obtain ⟨s,r⟩:=Zw j T.plP;have w:(t.put j).2=below t.place j:=rfl;have u:(t.put j).1={ t with place:=insertAt t.place (below t.place j) j,dummies:=t.dummies }:=by
  unfold SetTable.put;simp only [];rw [T.noDummy,iN Dp]
 have n:List.Perm (l.take (below t.place j)++(j,h,x)::l.drop (below t.place j)) ((j,h,x)::l):=by
  refine List.perm_middle.trans ?_;rw [List.take_append_drop]
 have d:∀k,Occ l k->Occ (l.take (below t.place j)++(j,h,x)::l.drop (below t.place j)) k:=λk ⟨e,he,q⟩=>⟨e,n.mem_iff.mpr (BP _ he),q⟩;refine ⟨l.take (below t.place j)++(j,h,x)::l.drop (below t.place j),n,?_⟩;rw [w,u];refine ⟨T.ms,?_,?_,T.du,?_,λe he=>?_,λe he=>?_⟩
 .show (insertAt t.place (below t.place j) j).toList=_;rw [Zb _ _ _ s,T.pl];simp [Je,Ji]
 .rw [Zb _ _ _ (by rw [T.esize,<-T.size];exact s),T.el];simp [Je,Ji]
 .have f:∀e∈l.take (below t.place j),e.1<j:=λe he=>by
   obtain ⟨i,o,rfl⟩:=KC.mp he;have m:i<below t.place j/\i<l.length:=by rw [Ie] at o;omega
   have g:i<t.place.size:=by rw [T.size];exact m.2
   have:=(r i g).mpr m.1;rw [T.at g] at this;simpa using this
  have c:∀e∈l.drop (below t.place j),j<e.1:=λe he=>by
   obtain ⟨i,o,rfl⟩:=KC.mp he;rw [MK] at o;have g:below t.place j+i<t.place.size:=by rw [T.size];omega
   have v:=λz=>by have:=(r _ g).mp z;omega
   rw [T.at g] at v;have y:(l[below t.place j+i]'(by rw [<-T.size];exact g)).1≠j:=λz=>ho ⟨_,Jg _,z⟩;rw [List.getElem_drop];omega
  rw [List.pairwise_append];refine ⟨T.up.sublist (List.take_sublist _ _),?_,λa p b hb=>?_⟩
  .rw [FQ];exact ⟨λb hb=>c b hb,T.up.sublist (List.drop_sublist _ _)⟩
  .rcases Aj.mp hb with rfl | hb
   .exact f a p
   .exact BJ (f a p) (c b hb)
 .rcases Aj.mp (n.mem_iff.mp he) with rfl | he
  .exact hj
  .exact T.le e he
 .rcases Aj.mp (n.mem_iff.mp he) with rfl | he
  .exact hr.mono d
  .exact (T.rc e he).mono d
end
section
variable{t:SetTable}{es:Array (Int×Value)}{l:List En}{h:Int}{ha:Nat->Int}
def HAt(l:List En)(ha:Nat->Int):Prop:=∀i e,l[i]?=some e->ha i=e.2.1
def Xx(T:Tb t es l)(hh:HAt l ha):∀n fuel p,p.dummy=none->Ek t.mask (Occ l) n p->n<fuel ->
  (∃j,probe.go t ha h fuel p=some (.empty j none)/\¬Occ l j/\Rch t.mask (Occ l) p j/\∀e∈l,e.2.1=h->¬Rch t.mask (Occ l) p e.1) \/
  (∃i e p' n',probe.go t ha h fuel p=some (.candidate e.1 i (adv t.mask p'))/\l[i]?=some e/\e.2.1=h/\p'.j=e.1/\p'.dummy=none/\n'<n/\Ek t.mask (Occ l) n' (adv t.mask p')/\(∀j,Rch t.mask (Occ l) (adv t.mask p') j->Rch t.mask (Occ l) p j)/\∀e'∈l,e'.2.1=h->e'≠e->Rch t.mask (Occ l) p e'.1->Rch t.mask (Occ l) (adv t.mask p') e'.1)
 | n,0,p,_,_,hf=>by omega
 | n,fuel+1,p,hd,hE,hf=>by
  by_cases ho:Occ l p.j
  .obtain ⟨i,e,w,d,B⟩:=T.occ ho;cases n with
   | zero=>exact aB ho hE
   | succ n=>
    have u:=hE.resolve_left λz=>z ho;have m:(adv t.mask p).dummy=none:=by unfold adv;split<;>exact hd
    unfold probe.go;rw [B];simp only [];have f:∀e'∈l,e'.1=e.1->e'=e:=λe' b q=>by
     obtain ⟨a,v,rfl⟩:=KC.mp b;obtain ⟨A,rfl⟩:=Cm.mp w;have y:=Qw.mp T.up;rcases Nat.lt_trichotomy a i with z | z | z
     .have:=y a i v A z;omega
     .subst z;rfl
     .have:=y i a A v z;omega
    have x:∀{j:Nat},Rch t.mask (Occ l) p j->j≠p.j->Rch t.mask (Occ l) (adv t.mask p) j:=λ{j} r g=>by
     cases r with
     | here=>exact aB rfl g
     | next _ r=>exact r
    by_cases hq:ha i=h
    .rw [iP (by rw [hq];exact beq_self_eq_true h)];right;refine ⟨i,e,p,n,by rw [Y5,d],w,by rw [<-hh i e w];exact hq,d.symm,hd,by omega,u,λj r=>.next ho r,λe' b _ g r=>x r λz=>g (f e' b (by rw [z,d]))⟩
    .rw [iN (by intro z;exact hq (eq_of_beq z)),Y5];have k:e.2.1≠h:=by rw [<-hh i e w];exact hq
     rcases Xx T hh n fuel (adv t.mask p) m u (by omega) with ⟨j,e1,e2,e3,e4⟩ | ⟨i',e',p',n',e1,e2,e3,e4,e5,e6,e7,e8,e9⟩
     .left;refine ⟨j,e1,e2,.next ho e3,λe' b q r=>e4 e' b q (x r λz=>?_)⟩;have:=f e' b (by rw [z,d]);subst this;exact k q
     .right;refine ⟨i',e',p',n',e1,e2,e3,e4,e5,by omega,e7,λj r=>.next ho (e8 j r),λs c q g r=>e9 s c q g (x r λz=>?_)⟩;have:=f s c (by rw [z,d]);subst this;exact k q
  .left;unfold probe.go;rw [T.empty ho];simp only [];refine ⟨p.j,by rw [hd],ho,.here p,λe d _ r=>?_⟩;generalize hz:e.1=z at r;cases r with
   | here=>exact ho ⟨e,d,hz⟩
   | next o _=>exact ho o
end
def Yn:∀{xs ys:List α},xs.Nodup->(∀x∈xs,x∈ys)->xs.length<=ys.length
 | [],_,_,_=>DR _
 | x::r,ys,hn,hs=>by
  obtain ⟨a,b,rfl⟩:=List.append_of_mem (hs x BR);rw [Ht] at hn;have:=Yn (ys:=a++b) hn.2 λy c=>by
   rcases HH.mp (hs y (BP _ c)) with z | z
   .exact GP _ z
   .rcases Aj.mp z with rfl | z
    .exact aB c hn.1
    .exact DQ _ z
  simp at this ⊢;omega
def j9{js:List Nat}(h:js.length<=m):∃e,e<=m/\e∉js:=by
 refine Classical.byContradiction λz=>?_;have:=Yn (xs:=List.range (m+1)) List.nodup_range λx a=>Classical.byContradiction λq=>z ⟨x,by have:=CN.mp a;omega,q⟩;rw [Bv] at this;omega
def dh(h:i<=m):i<=runEnd m i/\runEnd m i<=m:=by
 unfold runEnd;split<;>omega
section
variable{prog:Program} {E:Value->Shared->Prop}
def items_int(h:ItemsAre (intKind prog w) ks vs):∀v∈vs,∃i t,v=Value.int i t:=by
 induction h with
 | nil=>exact λ_ h=>(CZ h).elim
 | @cons k v ks vs h1 _ ih=>
  intro u hu;rcases Aj.mp hu with rfl | hu
  .cases u with
   | int i t=>exact ⟨i,t,rfl⟩
   | _=>exact aB h1 (by intro z;exact Bool.noConfusion z)
  .exact ih u hu
def Z8(hk:IsTupleKey (intKind prog w) s.heap ks a)(h:Q false s):wpAny (model prog w) A (ofAClassStatement 8 (.ref a)) Q E s:=by
 obtain ⟨o,g,n,k,l,p,m⟩:=hk;have q:s.TypeIs (.ref a) "tuple":=⟨o,k,l⟩;have d:=items_int m;unfold ofAClassStatement;refine Ac (Kh q ?_);dsimp only;rw [iP (by decide)];refine Ac (Ad ?_);simp only [Bool.not_true,Dg,CJ];refine Ac (Dn k p ?_);refine Ac ?_;rw [<-RJ];refine wpAny_forIn_list _ (λb r f=>r.1=none/\f=s/\∀v∈b,∃i t,v=Value.int i t) _ ?_ ?_ _ _ ⟨rfl,rfl,d⟩
 .rintro v b r f ⟨j,rfl,c⟩;obtain ⟨i,t,rfl⟩:=c v BR;refine Ac (Ad ?_);simp only [Dg,CJ];exact Ad ⟨rfl,rfl,λu e=>c u (BP _ e)⟩
 .rintro ⟨y,x⟩ f ⟨j,rfl,_⟩;simp only at j;subst j;exact Ad h
def yN{x:Addr}{ks:List Int}{stored:List Value}{Q:Bool->Shared->Prop}(hx:IsTupleKey (intKind prog w) s.heap ks x)(hs:∀y∈stored,∃b ks',y=Value.ref b/\IsTupleKey (intKind prog w) s.heap ks' b)(h:Q false s) :
  wpAny (model prog w) A (searchCouldBeSeen (.ref x) stored) Q E s:=by
 unfold searchCouldBeSeen;refine Ac ?_;refine wpAny_forIn_list _ (λc r f=>r.1=none/\f=s/\∀v∈c,∃b ks',v=Value.ref b/\IsTupleKey (intKind prog w) s.heap ks' b) _ ?_ ?_ _ _ ⟨rfl,rfl,hs⟩
 .rintro v c r f ⟨e,rfl,a⟩;obtain ⟨b,ks',rfl,g⟩:=a v BR;dsimp only;split
  .exact Ad ⟨rfl,rfl,λu d=>a u (BP _ d)⟩
  .refine Ac (wpAny_eqIsQuiet_tuple hx ?_);simp only [Bool.not_true,Dg,CJ];refine Ac (wpAny_eqIsQuiet_tuple g ?_);simp only [Bool.not_true,Dg,CJ];refine Ac (Z8 hx ?_);simp only [Dg,CJ];refine Ac (Z8 g ?_);simp only [Dg,CJ];exact Ad ⟨rfl,rfl,λu d=>a u (BP _ d)⟩
 .rintro ⟨j,i⟩ f ⟨e,rfl,_⟩;simp only at e;subst e;exact Ad h
def tW(hk:IsTupleKey (intKind prog w) s.heap ks a)(h:Q true s):wpAny (model prog w) A (hashByValue 8 (.ref a)) Q E s:=by
 have p:=hk.typeIs;obtain ⟨o,g,n,m,q,l,k⟩:=hk;have d:=items_int k;unfold hashByValue;refine Ac (wpAny_specialOf p F.slot_tuple_hash.lookup ?_);refine Ac (Dn m l ?_);refine Ac ?_;rw [<-RJ];refine wpAny_forIn_list _ (λb r f=>r.1=none/\f=s/\∀v∈b,∃i t,v=Value.int i t) _ ?_ ?_ _ _ ⟨rfl,rfl,d⟩
 .rintro v b r f ⟨j,rfl,c⟩;obtain ⟨i,t,rfl⟩:=c v BR;refine Ac (Ad ?_);simp only [Bool.not_true,Dg,CJ];exact Ad ⟨rfl,rfl,λu e=>c u (BP _ e)⟩
 .rintro ⟨y,x⟩ f ⟨j,rfl,_⟩;simp only at j;subst j;exact Ad h
end
section
variable{prog:Program} {E:Value->Shared->Prop}
def El(prog:Program)(w:World)(h:Heap)(p:Int×Value)(ks:List Int):Prop:=∃x,p.2=.ref x/\IsTupleKey (intKind prog w) h ks x/\p.1=tupleKeyHash (intKind prog w) ks
def El.inj{h:Heap}{p:Int×Value}{a b:List Int}(ha:El prog w h p a)(hb:El prog w h p b):a=b:=by
 obtain ⟨x,e,d,_⟩:=ha;obtain ⟨y,c,f,_⟩:=hb;rw [e] at c;cases c;exact d.inj f
def Tb.fits{es:Array (Int×Value)}(T:Tb t es l)(hl:l.length<=t.mask):t.fits es.size=true:=by
 unfold SetTable.fits SetTable.fill;rw [T.du,T.size,T.esize];simp;exact hl
def Tb.odd{es:Array (Int×Value)}(T:Tb t es l):t.gaveWay=false:=by
 unfold SetTable.gaveWay;rcases T.ms with e | e<;>rw [e]<;>rfl
def xZ{es:Array (Int×Value)}(T:Tb t es l):HAt l (λi=>(es[i]?.map (·.1)).getD 0):=λi e h=>by
 show ((es[i]?.map (·.1)).getD 0)=_;rw [<-Q8,T.el,By,h];rfl
def lB{x:Addr}{es:Array (Int×Value)}(hu:A.units<cLine)(ho:s.heap.get? a=some o)(hd:o.data=.set es ep t)(T:Tb t es l)(hl:l.length<=t.mask)(hel:∀e∈l,∃ks',El prog w s.heap e.2 ks')(hx:IsTupleKey (intKind prog w) s.heap ks x) :
  ∀n fuel stand,n<fuel->n<=10*(13+t.mask)->(stand.getD (t.probeStart (tupleKeyHash (intKind prog w) ks))).dummy=none->Ek t.mask (Occ l) n (stand.getD (t.probeStart (tupleKeyHash (intKind prog w) ks))) ->
   ((∃e∈l,El prog w s.heap e.2 ks/\Rch t.mask (Occ l) (stand.getD (t.probeStart (tupleKeyHash (intKind prog w) ks))) e.1)/\R (.there none) s)\/((∀e∈l,¬El prog w s.heap e.2 ks)/\∀j,¬Occ l j->Rch t.mask (Occ l) (stand.getD (t.probeStart (tupleKeyHash (intKind prog w) ks))) j->R (.free j false) s) ->
   wpAny (model prog w) A (setSearchFrom a (.ref x) (tupleKeyHash (intKind prog w) ks) true fuel stand) R E s:=by
 intro n
 induction n using Nat.strongRecOn with
 | ind n ih=>
  intro fuel stand W X M O C;obtain ⟨fuel,rfl⟩ : ∃k,fuel=k+1:=⟨fuel - 1,by omega⟩;unfold setSearchFrom;refine Ac (La ho hd (T.fits hl) ?_);dsimp only;rw [T.odd];simp only [Dg,CJ];generalize hp:stand.getD (t.probeStart (tupleKeyHash (intKind prog w) ks))=p at *;rcases Xx T (xZ T) n (10*turns t.mask) p M O (by unfold turns;omega) with ⟨j,e1,e2,e3,e4⟩ | ⟨i,e,p',n',e1,e2,e3,e4,e5,e6,e7,e8,e9⟩
  .generalize hm:t.probe _ (tupleKeyHash (intKind prog w) ks) p=met;have B:=hm.symm.trans e1;subst B;refine Ad ?_;rcases C with ⟨⟨e,he,hel',H⟩,_⟩ | ⟨_,C⟩
   .obtain ⟨_,_,_,Q⟩:=hel';exact aB H (e4 e he Q)
   .exact C j e2 e3
  .generalize hm:t.probe _ (tupleKeyHash (intKind prog w) ks) p=met;have B:=hm.symm.trans e1;subst B;dsimp only;have v:=G5 e2;obtain ⟨ks',y,J,D,G⟩:=hel e v;have L:es[i]?=some e.2:=by rw [<-Q8,T.el,By,e2];rfl
   have g:es[i]?=some (e.2.1,Value.ref y):=by rw [L,<-J]
   have m:∀c,c.getD (t.probeStart (tupleKeyHash (intKind prog w) ks))=adv t.mask p'->¬ks'=ks->wpAny (model prog w) A (setSearchFrom a (.ref x) (tupleKeyHash (intKind prog w) ks) true fuel c) R E s:=λc f K=>by
    refine ih n' e6 fuel c (by omega) (by omega) ?_ ?_ ?_
    .rw [f];unfold adv;split<;>exact e5
    .rw [f];exact e7
    .rw [f];rcases C with ⟨⟨I,u,hel',H⟩,r⟩ | ⟨hno,C⟩
     .left;refine ⟨⟨I,u,hel',e9 I u hel'.choose_spec.2.2 (λz=>?_) H⟩,r⟩;subst z;exact K (El.inj ⟨y,J,D,G⟩ hel')
     .exact .inr ⟨hno,λj V H=>C j V (e8 j H)⟩
   have d:ks'=ks->R (.there none) s:=λh=>by
    subst h;rcases C with ⟨_,r⟩ | ⟨hno,_⟩
    .exact r
    .exact aB ⟨y,J,D,G⟩ (hno e v)
   rw [g];have f:∀y∈List.map (λx=>x.2) (Array.filter (λx=>x.1==tupleKeyHash (intKind prog w) ks) es).toList,∃b ks',y=Value.ref b/\IsTupleKey (intKind prog w) s.heap ks' b:=λy D=>by
    obtain ⟨q,r,rfl⟩:=Bf.mp D;rw [Array.toList_filter] at r;have r:=(JX.mp r).1;rw [T.el] at r;obtain ⟨I,u,rfl⟩:=Bf.mp r;obtain ⟨U,P,S,N,_⟩:=hel I u;exact ⟨P,U,S,N⟩
   have F:t.sameMemory t.moves t.mask=some true:=by unfold SetTable.sameMemory;simp
   cases hled:t.led
   all_goals simp only [Bool.not_false,Bool.not_true,Dg,CJ,Dd]
   .refine Ac (yN hx f ?_);simp only [Dg,CJ];refine Ac (Cz (wpAny_eqBool_tuple hu D hx ?_));refine Ac (La ho hd (T.fits hl) ?_);by_cases h:ks'=ks
    .rw [Ew h];simp only [Bool.and_true,Dd];exact Ad (d h)
    .rw [HQ h];simp only [Bool.and_false,Dg,CJ];rw [F];simp only [Dd];rw [T.live e2];dsimp only;rw [g];refine wpAny_bind (wpAny_of_eq (show isSame (.ref y) (.ref y)=pure true by unfold isSame;simp) ?_);refine Ac (Ad ?_);exact m (some _) rfl h
   .refine Ac (Cz (wpAny_eqBool_tuple hu D hx ?_));refine Ac (La ho hd (T.fits hl) ?_);by_cases h:ks'=ks
    .rw [Ew h];simp only [Bool.and_true,Dd];exact Ad (d h)
    .rw [HQ h];simp only [Bool.and_false,Dg,CJ];rw [F];simp only [Dd];rw [T.live e2];dsimp only;rw [g];refine wpAny_bind (wpAny_of_eq (show isSame (.ref y) (.ref y)=pure true by unfold isSame;simp) ?_);refine Ac (Ad ?_);exact m (some _) rfl h
end
section
variable{prog:Program} {E:Value->Shared->Prop}
def SetT(prog:Program)(w:World)(h:Heap)(a:Addr)(kss:List (List Int)):Prop:=∃o c d t l,h.get? a=some o/\o.ExactSet/\o.data=.set c d t/\Tb t c l/\t.mask=7/\l.length<=4 /\
 (∀e∈l,∃b∈kss,El prog w h e.2 b)/\(∀b∈kss,∃e∈l,El prog w h e.2 b)/\l.length=kss.length
def El.keeps{es:Array (Int×Value)}(x:El prog w h p ks)(ho:h.get? a=some o)(hd:o.data=.set es ep t)(hs:Heap.SameBut a h h'):El prog w h' p ks:=by
 obtain ⟨x,e,⟨g,c,n,d,i,b,k⟩,j⟩:=x;have f:x≠a:=by
  rintro rfl;obtain rfl:g=o:=Bt (d.symm.trans ho);rw [hd] at b;exact nomatch b
 exact ⟨x,e,⟨g,c,n,(hs.2 x f).trans d,i,b,k⟩,j⟩
def qx(r:Rch m occ p j):p.j+p.more<=m->j<=m:=by
 induction r with
 | here p=>exact λh=>by omega
 | @next p j _ _ ih=>
  intro h;refine ih ?_;unfold adv;split
  .simp only [];omega
  .have a:(leap m p.i p.perturb).1<=m:=by
    unfold leap;have:=Hk (p.i*5+1+p.perturb/32) (show 0<m+1 by omega);omega
   have:=dh a;simp only [];omega
def uM(t:SetTable)(j:Nat):(t.put j).1.mask=t.mask/\(t.put j).1.plain=t.plain:=⟨rfl,rfl⟩
def jD{x:Addr}(hu:A.units<cLine)(hS:SetT prog w s.heap a kss)(hx:IsTupleKey (intKind prog w) s.heap ks x)(hn:kss.length+1<=4)(h:∀b h',Heap.SameBut a s.heap h'->SetT prog w h' a (if ks∈kss then kss else kss++[ks])->Q b { s with heap:=h' }) :
  wpAny (model prog w) A (setAddHashed a (.ref x) (tupleKeyHash (intKind prog w) ks)) Q E s:=by
 obtain ⟨o,N,P,t,l,p,C,d,T,O,H,f,v,u⟩:=hS;have m:l.length<=t.mask:=by rcases T.ms with e | e<;>rw [e]<;>omega
 refine Cz (Ac (La p d (T.fits m) ?_));obtain ⟨e,he,U⟩:=j9 (js:=l.map (·.1)) (by rw [Af];exact m);have X:Ek t.mask (Occ l) (10*(13+t.mask)) (t.probeStart (tupleKeyHash (intKind prog w) ks)):=by
  exact ends T.ms (by have:=Hk (bits (tupleKeyHash (intKind prog w) ks)) (show 0<t.mask+1 by omega);omega) (t8 _) he λ⟨e',L,q⟩=>U (Bf.mpr ⟨e',L,q⟩)
 have Y:10*(13+t.mask)<100000:=by rcases T.ms with e | e<;>rw [e]<;>decide
 refine Ac (lB hu p d T m (λe he=>let ⟨k,_,q⟩:=f e he;⟨k,q⟩) hx (10*(13+t.mask)) 100000 none Y (Al _) rfl X ?_);by_cases hk:ks∈kss
 .left;obtain ⟨e,he,n⟩:=v ks hk;refine ⟨⟨e,he,n,?_⟩,?_⟩
  .have:=T.rc e he;rw [n.choose_spec.2.2] at this;exact this
  .refine Ad ?_;have:=h false s.heap (Heap.SameBut.refl a s.heap) (by rw [iP hk];exact ⟨o,N,P,t,l,p,C,d,T,O,H,f,v,u⟩);exact this
 .right;refine ⟨λe he n=>?_,λj hj S=>?_⟩
  .obtain ⟨ks',hk',q⟩:=f e he;have:=El.inj n q;subst this;exact hk hk'
  .dsimp only;refine Ac (La p d (T.fits m) ?_);have K:j<=t.mask:=by
    have W:bits (tupleKeyHash (intKind prog w) ks)%(t.mask+1)<=t.mask:=by
     have:=Hk (bits (tupleKeyHash (intKind prog w) ks)) (show 0<t.mask+1 by omega);omega
    refine qx S ?_;show bits (tupleKeyHash (intKind prog w) ks)%(t.mask+1)+(runEnd t.mask (bits (tupleKeyHash (intKind prog w) ks)%(t.mask+1)) - bits (tupleKeyHash (intKind prog w) ks)%(t.mask+1))<=t.mask;have:=dh W;omega
   obtain ⟨B,F,z⟩:=T.put K hj S;obtain ⟨G,J⟩:=uM t j;generalize ht':(t.put j).1=t' at z G J ⊢;generalize hes':insertAt N (t.put j).2 (tupleKeyHash (intKind prog w) ks,Value.ref x)=es' at z ⊢;have i:B.length=l.length+1:=by rw [F.length_eq];rfl
   have R:B.length<=t'.mask:=by rw [G,i];rcases T.ms with e | e<;>rw [e]<;>omega
   have r:wpAny (model prog w) A (do
     storeSet a es' t'
     if (!false&&t'.tooFull)=true then do
      setRelay a (grown (N.size+1))
      pure true
     else pure true) Q E s:=by
    have hg:(s.heap.update a (Obj.putSet es' t')).get? a=some { o with data:=.set es' (P+1) t' }:=by
     have:=Ih (Obj.putSet es' t') p (by rw [putSet_of es' t' d];rfl);rw [putSet_of es' t' d] at this;exact this
    have g:=Q5 s.heap a (Obj.putSet es' t');have D:El prog w (s.heap.update a (Obj.putSet es' t')) (tupleKeyHash (intKind prog w) ks,Value.ref x) ks:=El.keeps ⟨x,rfl,hx,rfl⟩ p d g;have V:∀e∈B,∃k∈kss++[ks],El prog w (s.heap.update a (Obj.putSet es' t')) e.2 k:=λe he=>by
     rcases Aj.mp (F.mem_iff.mp he) with rfl | he
     .exact ⟨ks,by simp,D⟩
     .obtain ⟨k,M,I⟩:=f e he;exact ⟨k,GP _ M,I.keeps p d g⟩
    have Z:∀k∈kss++[ks],∃e∈B,El prog w (s.heap.update a (Obj.putSet es' t')) e.2 k:=λk hk'=>by
     rcases HH.mp hk' with hk' | hk'
     .obtain ⟨e,M,I⟩:=v k hk';exact ⟨e,F.mem_iff.mpr (BP _ M),I.keeps p d g⟩
     .rw [Hz] at hk';subst hk';exact ⟨_,F.mem_iff.mpr BR,D⟩
    have hz:es'.size<=sizeLine:=by rw [z.esize,i,sizeLine_eq];omega
    refine Ac (wpAny_storeSet_of p d ?_ hz);have y:t'.fill=B.length:=by unfold SetTable.fill;rw [z.du,z.size];rfl
    by_cases c:t'.tooFull=true
    .unfold SetTable.tooFull at c;rw [y,G,i,O] at c;have c:=of_decide_eq_true c;omega
    .rw [Bool.eq_false_iff.mpr c];refine Ad (h true _ g ?_);rw [iN hk];refine ⟨_,es',P+1,t',B,hg,C,rfl,z,G.trans O,by omega,V,Z,by rw [i,u];simp⟩
   split
   .refine Ac (tW hx ?_);exact r
   .refine Ac (Ad ?_);exact r
end
end L2.Sx
namespace L2.Sx
open PySem.SetTable
open Dl (firsts)
def M7(kf):∀i,(firsts kf i).length<=i
 | 0=>Al _
 | i+1=>by
  have:=M7 kf i;unfold firsts;split
  .omega
  .simp;omega
section
variable{prog:Program} {R:Result->Shared->Prop} {I:Addr} {fp wr:List Addr} {G:Array GenState->Array GenState->Prop} {P:Nat->Value->Prop} {St:Nat->Shared->Prop}
def SetT.keep(hS:SetT prog w h a kss)(ha:∀o,h.get? a=some o->h'.get? a=some o)(hk:∀b o,h.get? b=some o->o.cls=.type "tuple"->h'.get? b=some o):SetT prog w h' a kss:=by
 obtain ⟨o,A,E,t,l,F,i,C,T,D,g,m,q,d⟩:=hS;have y:∀{e p},El prog w h e p->El prog w h' e p:=λ{e p} s=>by
  obtain ⟨x,G,⟨v,c,n,f,u,r⟩,z⟩:=s;exact ⟨x,G,⟨v,c,n,hk x v f u,u,r⟩,z⟩
 exact ⟨o,A,E,t,l,ha o F,i,C,T,D,g,λe B=>let ⟨k,h1,h2⟩:=m e B;⟨k,h1,y h2⟩,λk j=>let ⟨e,h1,h2⟩:=q k j;⟨e,h1,y h2⟩,d⟩
def SetT.cls(hS:SetT prog w h a kss):∀o,h.get? a=some o->o.cls≠.type "tuple":=λf b d=>by
 obtain ⟨o,i,g,t,l,e,c,_⟩:=hS;rw [e] at b;cases b;rw [c.1] at d;exact aB d (by decide)
def p6(W:WalksS prog w A.in1 I fp wr G n P St)(S)(hSf:S∉fp)(hwr:∀i s,St i s->∀b∈wr,∀o,s.heap.get? b=some o->o.cls≠.type "tuple")(kf)(hu:A.in1.units<cLine)(h0)(hval:∀i v,P i v->∃x,v=.ref x/\IsTupleKey (intKind prog w) h0 (kf i) x)(hb:n<=4) :
  ∀k i s,n - i=k->i<=n->St i s->SetT prog w s.heap S (firsts kf i)->(∀b o,h0.get? b=some o->o.cls=.type "tuple"->s.heap.get? b=some o) ->
   (∀s',Moved (S::wr) G s s'->SetT prog w s'.heap S (firsts kf n)->R (.ok (.ret .none)) s')->codeAny (model prog w) A (.builtin "set.update.loop" ⟨[.ref S,.ref I],[]⟩) R s:=by
 have C:=λh=>hSf (W.sub _ h);have f:∀b∈wr,b∈S::wr:=λb hb=>BP _ hb;have D:∀{i s s'},St i s->Moved wr G s s'->∀b o,s.heap.get? b=some o->o.cls=.type "tuple"->s'.heap.get? b=some o:=λ{i s s'} T m b o e c=>m.heap b o (λz=>hwr i s T b z o e c) e;intro k
 induction k with
 | zero=>
  intro i s V Q a M _ L;obtain rfl:i=n:=by omega
  refine Nm F.entry_set_update_loop ?_;rw [Pu F.plain_set_update_loop _];refine Ac (W.done s _ _ a λs' d=>?_);exact Ad (L s' (d.mono f) (M.keep (λo e=>d.heap S o C e) (D a d)))
 | succ k ih=>
  intro i s V Q a M E L;have t:i<n:=by omega
  refine Nm F.entry_set_update_loop ?_;rw [Pu F.plain_set_update_loop _];refine Ac (W.item i s _ _ t a λv s' X B d=>?_);obtain ⟨x,rfl,J⟩:=hval i v X;have q:=M.keep (λo e=>d.heap S o C e) (D a d);have g:=λb o e c=>D a d b o (E b o e c) c;have N:IsTupleKey (intKind prog w) s'.heap (kf i) x:=by
   obtain ⟨o,j,m,Y,c,r⟩:=J;exact ⟨o,j,m,g x o Y c,c,r⟩
  refine Ac (Cz ?_);unfold setAdd;refine Cz ?_;refine Ac (wpAny_pyHash_tuple hu N ?_);refine jD hu q N (by have:=M7 kf i;omega) λb U l H=>?_;have O:∀b o,s'.heap.get? b=some o->o.cls=.type "tuple"->U.get? b=some o:=λb o e c=>by
   rw [l.2 b (λz:b=S=>by subst z;exact q.cls o e c)];exact e
  refine Ad ⟨plainId_quiet F.plain_set_update_loop _,ih (i+1) _ (by omega) t (W.frame _ s' _ _ B (Nat.le_add_right _ _) λb p o e=>?_) H (λb o e c=>O b o (g b o e c) c) λK u y=>?_⟩
  .rw [l.2 b (λz:b=S=>hSf (by rw [<-z];exact p))];exact e
  .refine L K (Moved.trans W.gtrans ((d.mono f).then_heap (Nat.le_add_right _ _) λb o p e=>?_) u) y;rw [l.2 b (λz:b=S=>p (by rw [z];exact BR))];exact e
end
open Dl (firsts)
section
variable{prog:Program} {E:Value->Shared->Prop}
abbrev Gn(led:Bool):Obj:={ cls:=.type "set",dict:=none,data:=.set #[] 0 (.fresh 0 0 led) }
def ph{h:Heap}{a:Addr}{led:Bool}(ho:h.get? a=some (Gn led)):SetT prog w h a [] :=
 ⟨_,#[],0,.fresh 0 0 led,[],ho,⟨rfl,rfl,rfl⟩,rfl,⟨.inl rfl,rfl,rfl,rfl,.nil,λ_ h=>(CZ h).elim,λ_ h=>(CZ h).elim⟩,rfl,by decide,λ_ h=>(CZ h).elim,λ_ h=>(CZ h).elim,rfl⟩
set_option maxHeartbeats 8000000 in
def call_set(hh:A.handled=none)(hu:A.units+20<cLine)(hl:s.heap.IsList l items)(hi:∀i v,items[i]?=some v->∃x,v=.ref x/\IsTupleKey (intKind prog w) s.heap (kf i) x)(hb:items.size<=4)(h:∀(h':Heap) (tk:Nat),SetT prog w h' s.heap.objs.size (firsts kf items.size)->(∀b o,b<s.heap.objs.size->s.heap.get? b=some o->h'.get? b=some o)->Q (.ref s.heap.objs.size) { s with heap:=h',toks:=tk }) :
  wpAny (model prog w) A (call (.type "set") [.ref l]) Q E s:=by
 obtain ⟨c,tl,X⟩:=F.called_set.mro;have P:=F.called_set.made;have Y:=F.called_set.sub;refine wpAny_call (codeAny_of_tree ?_);refine Ad ⟨Code.quiet_builtin _ (by decide +kernel),Nm F.entry_type_call ?_⟩;rw [Around.under_plain (weight_type_call_type "set" [.ref l] []) rfl];have h1:=F.called_set.notType;have h2:=F.called_set.canCreate;have hct:=F.typeCall_set_1 (.ref l)
 repeat (any_goals (first | assumption | wp_step))
 refine Jw (code_set_new_1 (.ref l) (E:=E) (Q₁:=λt k=>∃a,t=.ref s.heap.objs.size/\k={ s with heap:=s.heap.push (Gn a) }) λa=>⟨a,rfl,rfl⟩) λr k G=>?_
 cases r with
 | error e=>exact G
 | ok fl=>
  cases fl with
  | next=>exact G.elim
  | brk=>exact G.elim
  | cont=>exact G.elim
  | ret t=>
   obtain ⟨a,rfl,rfl⟩:=G;have hS:(s.heap.push (Gn a)).get? s.heap.objs.size=some (Gn a):=Bp _ rfl;have hT:Shared.TypeIs { s with heap:=s.heap.push (Gn a) } (.ref s.heap.objs.size) "set":=⟨_,hS,rfl⟩
   have hli:=F.called_set.init.lookup;have hbi:=F.called_set.init.bind (.ref s.heap.objs.size)
   repeat (any_goals (first | assumption | wp_step))
   refine Jw (codeAny_call_builtin (R:=wants (λr j=>r=.none/\∃h' tk,j={ s with heap:=h',toks:=tk }/\SetT prog w h' s.heap.objs.size (firsts kf items.size) /\
     (∀b o,b<s.heap.objs.size->s.heap.get? b=some o->h'.get? b=some o)) E) F.called_set.init.plain F.entry_set_init (check_set_init_1 hT ?_)) λu j d=>?_
   .obtain ⟨ol,C,y,nl,D⟩:=hl;obtain ⟨Z,n,T,g⟩:=ol;simp only at y D;subst y;subst D;have B:(s.heap.push (Gn a)).get? l=some { cls:=.type "list",dict:=n,data:=.seq items nl,slots:=g }:=Ao _ C;have W:=F.sub_list_set;have hslf:=F.sub_list_frozenset;have q:(s.heap.push (Gn a)).IsList l items:=⟨_,B,rfl,nl,rfl⟩;unfold Builtin.«set.__init__» noKeywords Builtin.Frozenset.updateFrom;generalize hPI:pyIter=PI
    wp_walk
    subst hPI;refine Mp q ?_;refine Ac (wpAny_runValue ?_);have p:l<s.heap.objs.size:=Aq C;have L:A.in1.in1.in1.handled=none:=by simp [hh]
    have z:l≠(s.heap.push (Gn a)).objs.size:=by
     rw [Ck];exact BK (Gf p)
    have U:s.heap.objs.size∉[(s.heap.push (Gn a)).objs.size,l]:=by
     rw [Ck];simp only [Aj,Hz,CZ,Gq,not_or];exact ⟨BK (Gh _),FN p⟩
    refine p6 ((Walks.list L _ l z items).toS) s.heap.objs.size U ?hw kf (by show A.units+1+1+1<cLine;omega) s.heap hi hb (items.size - 0) 0 _ (by omega) (DR _)
     ⟨⟨_,Bp _ rfl,rfl,rfl⟩,(q.push _)⟩ ?hS0 ?hT0 ?hR
    case hw=>
     rintro i s' ⟨⟨o',I,M,_⟩,_⟩ b f o'' e' V;rw [Hz] at f;subst f;rw [I] at e';cases e';rw [M] at V;exact aB V (by decide)
    case hS0=>exact ph (Ao _ hS)
    case hT0=>exact λb o e _=>Ao _ (Ao _ e)
    case hR=>
     intro s' H m;obtain ⟨h',g',d',J,S⟩:=s';have eg:g'=s.gens:=H.gens;have ed:d'=s.drawn:=H.drawn;have eo:S=s.os:=H.os;subst eg;subst ed;subst eo;refine Ad ?_;refine Ad ⟨rfl,h',J,rfl,m,λb o f e=>?_⟩;have K:=BK f;have O:b≠(s.heap.push (Gn a)).objs.size:=by
      rw [Ck];exact BK (Gf f)
     exact H.heap b o (by simp only [Aj,Hz,CZ,Gq,not_or];exact ⟨K,O⟩) (Ao _ (Ao _ e))
   .cases u with
    | error e=>exact d
    | ok fl₂=>
     cases fl₂ with
     | next=>exact d.elim
     | brk=>exact d.elim
     | cont=>exact d.elim
     | ret r=>
      obtain ⟨rfl,h',tk,rfl,m,N⟩:=d
      repeat (any_goals (first | assumption | wp_step))
      exact h _ _ m N
end
end L2.Sx
namespace L2
def pZ:bootBuiltins "set"=some (.type "set"):=by decide +kernel
def SetN(o:Obj)(n:Nat):Prop:=o.ExactSet/\n<=4/\∃a b t,o.data=.set a b t/\t.fits a.size=true/\a.size=n
def aj(K:W.Frag)(H:Hp)(xs:List V)(kss:List (List Int)):Prop:=∀i x,xs[i]?=some x->∃a,x=.ref a/\SqT K H a ((kss.getD i []).map V.int)
def rSet(K:W.Frag):List V->Hp->VK->Prop:=λd H Q=>∃l c b,d=[.ref l]/\SqL K H l c/\aj K H c b/\c.length<=4/\∀a o,H a=none->SetN o (Dl.firsts (λi=>b.getD i []) c.length).length->Q (.ref a) (upd H a (objX a o))
def ZV:List V->Hp->VK->Prop:=λb H Q=>∃a o n,b=[.ref a]/\H a=some (objX a o)/\SetN o n/\Q (.int (n:Nat)) H
section
def cU:∀{ns:List Int} {its:List Value},Vals (ns.map V.int) its->ItemsAre (intKind prog w) ns its
 | [],_,.nil=>.nil
 | n::r,_,.cons h t=>by
  obtain ⟨a,rfl⟩:=h;exact .cons (intKind_is _ _ _ _) (cU t)
def cG:∀{xs:List V} {us:List Value},Vals xs us->∀{i:Nat} {u:Value},us[i]?=some u->∃x,xs[i]?=some x/\RelV x u
 | _,_,.cons h _,0,_,e=>⟨_,rfl,by cases e;exact h⟩
 | _,_,.cons _ t,i+1,_,e=>cG t (by simpa using e)
 | _,_,.nil,i,_,e=>by simp at e
def aJ:∀{xs:List V} {us:List Value},Vals xs us->us.length=xs.length
 | _,_,.nil=>rfl
 | _,_,.cons _ t=>by simp [aJ t]
def mq(hr:Room k X.A):Ey X (.type "set") (rSet X.K):=by
 intro y s Y H vs us Q I z ⟨l,xs,q,e,L,U,h,E⟩;subst e;cases z with
 | cons r1 rr=>
  cases rr;cases r1;obtain ⟨N,r,⟨o,n,e1,M,_,O⟩,_⟩:=I.list L;have c:=aJ r;refine L2.Sx.call_set (kf:=λi=>q.getD i []) hr.hd (by have:=hr.un;omega) ⟨o,e1,M,n,O⟩ (λi v S=>?_) (by simpa [c] using h) λP B hS d=>?_
  .obtain ⟨x,C,W⟩:=cG r (by simpa using S);obtain ⟨a,rfl,hT⟩:=U i x C;cases W;obtain ⟨is,R,⟨g,G,D,m,F⟩,_⟩:=I.tuple hT;exact ⟨a,rfl,g,is.toArray,m,G,D,F,by simpa using cU R⟩
  .have kk:∀b u,s.heap.get? b=some u->P.get? b=some u:=λb u e=>d b u (Aq e) e;obtain ⟨g,V,ep,t,Z,ho,j,hd,T,h7,w,_,_,f⟩:=hS;have p:Z.length<=t.mask:=by rcases T.ms with e | e<;>rw [e]<;>omega
   have J:=I.laid (t':=B) kk (Al _) (vD ho);refine ⟨.ref s.heap.objs.size,_,J,rfl,E _ g (I.hok.fresh (Al _)) ⟨j,?_,V,ep,t,hd,T.fits p,?_⟩⟩
   .rw [<-c];have e:=f;rw [Bg] at e;omega
   .rw [T.esize,f,<-c];simp
def uQ:Ey X (.builtin "len") ZV:=by
 intro c s Y H l r Q I f ⟨a,o,n,e,g,⟨b,i,m,p,t,j,d,h⟩,q⟩;subst e;cases f with
 | cons r1 rr=>
  cases rr;cases r1;have k:=wU I.hok g;refine call_len_set k b j d (by omega) ?_;rw [h];exact ⟨.int (n:Nat),H,I.tok _,⟨_,rfl⟩,q⟩
end
end L2
namespace L2.Ds
open Dl
section
def Zo{F:Hp}{xs:List V}{ds:List D}{ns:List Int}(h:Rps K mg F xs ds)(e:intsOf ds=some ns):xs=ns.map V.int:=by
 cases h with
 | nil=>cases e;rfl
 | @cons x xs d ds h r=>
  cases d with
  | int n=>
   cases q:intsOf ds with
   | none=>unfold intsOf at e;rw [q] at e;cases e
   | some ms=>
    unfold intsOf at e;rw [q] at e;cases e;cases h;rw [Zo r q];rfl
  | _=>cases e
def Yb{F H:Hp}(s:Same F H){xs:List V}{ds:List D}{ks:List (List Int)}(h:Rps K mg F xs ds)(e:keysOf ds=some ks):aj K H xs ks:=by
 cases h with
 | nil=>intro i x h;simp at h
 | @cons x xs d ds h r=>
  cases d with
  | tup es=>
   cases q:intsOf es with
   | none=>unfold keysOf at e;rw [q] at e;cases e
   | some k=>
    cases q2:keysOf ds with
    | none=>unfold keysOf at e;rw [q,q2] at e;cases e
    | some kr=>
     unfold keysOf at e;rw [q,q2] at e;cases e;intro i x a;cases i with
     | zero=>
      cases a;cases h with
      | tup ht rt=>
       rw [Zo rt q] at ht;exact ⟨_,rfl,Ei s ht⟩
     | succ i=>exact Yb s r q2 i x (by simpa using a)
  | _=>cases e
end
section
variable {p p1 q p2:Pos}
def Znq(hr:Room k X.A)(hgl:Gl X "len")(hml:X.mg "len"=none)(hgs:Gl X "set")(hms:X.mg "set"=none)(he:DE X E e te me)(h1:starEach [e] X.env=[(false,eval e X.env)]:=by rfl)(h2:starEach [Expr.Call (.Name "set" q) [e] [] p2] X.env=[(false,eval (.Call (.Name "set" q) [e] [] p2) X.env)]:=by rfl) :
  DE X E (.Call (.Name "len" p) [.Call (.Name "set" q) [e] [] p2] [] p1) (tCB ZV (BW (tCB (rSet X.K) (BW te tNil)) tNil)) (o1 T9 me):=by
 refine ⟨Vm uQ hgl hml SX (Dt (ZS (mq hr) hgs hms pZ (Dt he.p Fw h1) (by decide) (by decide) h1 rfl) Fw h2) (by decide) (by decide) h2 rfl,?_⟩;intro m r F H Y Z j;refine (he.s m r F H Y Z j).bind λd c x f b h=>?_;cases f with
 | lst ds=>
  cases h with
  | lst hl rl=>
   rename_i l xs;show Ans X.mg E (Rp X.K X.mg) d c (match keysOf ds with | some ks=>if ds.length<=4 then .ok (.int ((firsts (λi=>ks.getD i []) ds.length).length:Nat)) else .bad | none=>.bad) _
   cases hk:keysOf ds with
   | none=>trivial
   | some ks=>
    by_cases h16:ds.length<=4
    .show Ans X.mg E (Rp X.K X.mg) d c (if ds.length<=4 then .ok (.int ((firsts (λi=>ks.getD i []) ds.length).length:Nat)) else .bad) _
     rw [iP h16];intro Q q;refine ⟨_,_,ks,rfl,b.s.seq hl,Yb b.s rl hk,by rw [rl.length];exact h16,λa o g n=>⟨a,o,_,rfl,Ak,n,?_⟩⟩;rw [rl.length];exact q _ _ _ (.new b.s g _) (.int _)
    .show Ans X.mg E (Rp X.K X.mg) d c (if ds.length<=4 then .ok (.int ((firsts (λi=>ks.getD i []) ds.length).length:Nat)) else .bad) _
     rw [iN h16];trivial
 | _=>trivial
end
end L2.Ds
namespace Dl
def Np(ix:List (Option Nat))(zs:List D):List D:=ix.map λo=>match o with
 | some i=>zs.getD i .non
 | none=>.non
def onK(f:List D->Res D)(ix:List (Option Nat))(a k:MA):ME:=λZ=>(a Z).bind λb=>(k Z).bind λc=>f (b++Np ix c)
end Dl
namespace L2
structure FunD(K:W.Frag)(x qual:Str)(st:Stmt)(dV:Value)(f:Addr)(fd:FuncData):Prop where
 ex:∃(oc:Value) (od:Option Addr) (kV doc pm:Value) (an:Option Addr) (cdv ct:Value) (osl:Array (Option Value)),
  fd=W.fnOf x qual (Fd st) (DX st) (Av st) dV kV doc pm an cdv ct/\K.lookup f=some ⟨oc,od,.func fd,osl⟩/\W.codeIn K cdv qual=true
def JR(ix:List (Option Nat))(ws:List Value):List Value:=ix.map λo=>match o with
 | some i=>ws.getD i .none
 | none=>.none
def GK(ix:List (Option Nat))(zs:List V):List V:=ix.map λo=>match o with
 | some i=>zs.getD i .non
 | none=>.non
def cR:∀{zs:List V} {ws:List Value},Vals zs ws->∀i,RelV (zs.getD i .non) (ws.getD i .none)
 | _,_,.nil,i=>by simp;rfl
 | _,_,.cons h _,0=>h
 | _,_,.cons _ t,i+1=>by simpa using cR t i
def RG(r:Vals zs ws):∀ix,Vals (GK ix zs) (JR ix ws)
 | []=>.nil
 | some i::rest=>.cons (cR r i) (RG r rest)
 | none::rest=>.cons rfl (RG r rest)
def DfB(K:W.Frag)(fd:FuncData)(ps ks:List Str)(ix:List (Option Nat)):Prop:=∀s a b,K.In s.heap->(a++JR ix b).length=ps.length->BindsTo s fd ⟨a,ks.zip b⟩ (ps.zip (a++JR ix b))
end L2
namespace L2.Ds
open Dl
section
variable {f:Addr} {dV:Value}
def okDF{st:Stmt}{mb:MS}(F:FunD K x x st dV f fd)(S:Ca N ps (Av st))(h:∀(cdv:Value) (A:Around) (outer:List Env) (s:Shared) (H:Hp) (E:XK),Room k (A.deeper (envOfC x (Av st) s.heap.objs.size f cdv))->∃t,DSs (cxOf (CXR P w) P w K mg base N x (Av st) f cdv A outer s H E) E (DX st) t mb) :
  FnOk P w K mg base (CXR P w) (k+1) f fd ps (spD K mg ps.length (fn N.length mb)):=by
 obtain ⟨X,T,Y,M,U,V,cdv,ct,O,rfl,L,m⟩:=F.ex;refine K6 L m S (λr H Q E q=>q.1) λA outer s H r Q E R n=>?_;obtain ⟨t,u⟩:=h cdv A outer s H E R;refine ⟨t,u.p,?_⟩;obtain ⟨_,y,o,I,G,i,b,a⟩:=n;have z:=u.s y H y H (start N r) (ev0 N.length o) (N8 I G);unfold fn at i b a;cases e:mb (ev0 N.length o) with
 | ok fl=>
  rw [e] at z i b a;cases fl with
  | nx Z=>exact z _ λl j W _ J=>b .non rfl l j .non J.g .non
  | rt d=>exact z _ λl j v g D=>b d rfl l j v g D
  | bk Z=>exact aB rfl i
  | ct Z=>exact aB rfl i
 | ex c=>
  rw [e] at z a;exact z _ λl j C g B=>a c rfl l j C g B
 | bad=>rw [e] at i;exact aB rfl i
structure CalK(P:Program)(w:World)(K:W.Frag)(mg:Str->Option Value)(base:Heap)(n:Nat)(x:Str)(ps ks:List Str)(ix:List (Option Nat))(m:List D->Res D):Prop where
 ex:∃(f:Addr) (fd:FuncData),FnOk P w K mg base (CXR P w) n f fd ps (spD K mg ps.length m)/\DfB K fd ps ks ix/\W.keepIn K (.ref f)=true/\mg x=some (.ref f)
def V5{F:Hp}:∀{zs:List V} {ds:List D},Rps K mg F zs ds->∀i,Rp K mg F (zs.getD i .non) (ds.getD i .non)
 | _,_,.nil,i=>by simp;exact .non
 | _,_,.cons h _,0=>h
 | _,_,.cons _ t,i+1=>by simpa using V5 t i
def Qg{F:Hp}(r:Rps K mg F zs ds):∀ix,Rps K mg F (GK ix zs) (Np ix ds)
 | []=>.nil
 | some i::rest=>.cons (V5 r i) (Qg r rest)
 | none::rest=>.cons .non (Qg r rest)
def ao(ix)(zs):(Np ix zs).length=ix.length:=Af _
end
section
variable {l n':Nat} {ks:List Str} {ix:List (Option Nat)} {f:List D->Res D} {t tk:TA} {m mk:MA} {kws:List Keyword} {p:Pos}
def xm(ha:SA X.K X.mg E t m)(hl:SAn n m)(hk:SA X.K X.mg E tk mk)(hn:n+ix.length=n'):SE X.K X.mg E (cT (spD X.K X.mg n' f) (λvs zs=>vs++GK ix zs) E t tk) (onK f ix m mk):=by
 intro d g F H Y Z c;refine (ha d g F H Y Z c).bindE (w':=λvs b Q=>tk Y b λzs a=>spD X.K X.mg n' f (vs++GK ix zs) a Q E) λl e o b vs i k=>?_;refine (hk d g o b Y Z (c.gr i)).bindE (w':=λzs a Q=>spD X.K X.mg n' f (vs++GK ix zs) a Q E) λp q r a zs h j=>?_;exact Ro (E:=E) (m:=f) h.s (Rps.app (Qg j ix) (k.same h.f)) (by rw [Bo,ao,hl Z l e,hn])
def Vc(C:CalK X.prog X.w X.K X.mg X.base k x ps [] ix f)(hr:Room l X.A)(hn:k<=l)(hg:Gl X x)(hx:Dr (CXR X.prog X.w) X E)(ha:DA X E n (e::es) t m)(hps:n+ix.length=ps.length:=by rfl)(hdb:ND x:=by decide)(he:starEach (e::es) X.env=(false,eval e X.env)::starEach es X.env:=by rfl)(hpl:(backTo pos (starEach es X.env)).any (·.1)=false:=by rfl) :
  DE X E (.Call (.Name x p) (e::es) [] pos) (Fe (spD X.K X.mg ps.length f) (GK ix []) E t) (onK f ix m Ab):=by
 obtain ⟨g,i,F,b,a,j⟩:=C.ex;have d:Binds X.K i ps (JR ix []):=λs h o c=>b s h [] o c;refine ⟨Oh F (hr.mono hn) hg j a d (RG .nil ix) hx ha.p hdb he hpl,?_⟩;exact xm (tk:=tNil) (mk:=Ab) ha.s ha.n O6 hps
end
end L2.Ds
namespace Dl
abbrev MY:=Ev->List (List D)->Res (Fl×List (List D))
def lft(m:MS):MY:=λZ a=>(m Z).bind λf=>.ok (f,a)
def goY(n:MY):Fl×List (List D)->Res (Fl×List (List D))
 | (.nx Z,dss)=>n Z dss
 | p=>.ok p
def sqY(m n:MY):MY:=λZ a=>(m Z a).bind (goY n)
def ifY(t:MB)(m n:MY):MY:=λZ a=>(t Z).bind λb=>if b=true then m Z a else n Z a
def Ng(n:MY):Fl×List (List D)->Res (Fl×List (List D))
 | (.nx Z,dss)=>n Z dss
 | (.ct Z,dss)=>n Z dss
 | (.bk Z,dss)=>.ok (.nx Z,dss)
 | (.rt _,_)=>.bad
def DP(g:MG)(b:MY):List D->MY
 | [],Z,dss=>.ok (.nx Z,dss)
 | x::r,Z,dss=>(g x Z).bind λa=>(b a dss).bind (Ng (DP g b r))
def forY(it:MI)(g:MG)(b:MY):MY:=λZ a=>(it Z).bind λc=>DP g b c Z a
def optY(Z:Ev):Option (List (List D))->Res (Fl×List (List D))
 | some d=>.ok (.nx Z,d)
 | none=>.bad
def intY:D->Option Int
 | .int k=>some k
 | _=>none
def appR(dss:List (List D))(w:D)(k:Int):Option (List (List D)):=(ixP dss.length k).bind λr=>(dss[r]?).bind λa=>if a.length<10000 then some (dss.set r (a++[w])) else none
def appY(me mv:ME):MY:=λZ a=>(noEx (me Z)).bind λd=>(noEx (mv Z)).bind λw=>optY Z ((intY d).bind (appR a w))
def setR(dss:List (List D))(w:D)(u k:Int):Option (List (List D)):=(ixP dss.length u).bind λr=>(dss[r]?).bind λa=>(ixP a.length k).bind λc=>some (dss.set r (a.set c w))
def Ip(mv ma mb:ME):MY:=λZ a=>(noEx (mv Z)).bind λw=>(noEx (ma Z)).bind λc=>(noEx (mb Z)).bind λb=>optY Z ((intY c).bind λu=>(intY b).bind λk=>setR a w u k)
def setO(i:Nat)(mv mb:ME):MS:=λZ=>(getO Z[i]?).bind λa=>(noEx (mv Z)).bind λw=>(noEx (mb Z)).bind λb=>match (intY b).bind λk=>ixP a.length k with
 | some c=>.ok (.nx (Z.set i (.ow (a.set c w))))
 | none=>.bad
def noLD(d:D):Res D:=if noL d=true then .ok d else .bad
def pkN(i:Nat)(m:ME):ME:=λZ=>(getO Z[i]?).bind λa=>(noEx (m (Z.set i (.im (.lst a))))).bind noLD
def mixO(J:List Nat):Nat->Ev->Ev->Ev
 | k,.ow _::r,c::r'=>(if J.contains k=true then c else .no)::mixO J (k+1) r r'
 | k,.no::r,_::r'=>.no::mixO J (k+1) r r'
 | k,.im d::r,_::r'=>.im d::mixO J (k+1) r r'
 | _,[],_=>[]
 | _,_::_,[]=>[]
abbrev FY:=Ev->List (List D)->Res (Ev×List (List D))
def endY(J:List Nat)(Z:Ev):Fl×List (List D)->Res (Ev×List (List D))
 | (.nx Z',dss)=>if Z.length<=Z'.length then .ok (mixO J 0 Z Z',dss) else .bad
 | _=>.bad
def fnY(n:Nat)(J:List Nat)(k:MY):FY:=λZ a=>(k (Z++List.replicate (n - Z.length) .no) a).bind (endY J Z)
abbrev MR:=Ev->Res Ev
def rNil:MR:=λ_=>.ok []
def rIm(m:ME)(r:MR):MR:=λZ=>(noEx (m Z)).bind λd=>(r Z).bind λq=>.ok (.im d::q)
def rRg(r:MR):MR:=λZ=>(r Z).bind λq=>.ok (.no::q)
def rOw(l:Nat)(r:MR):MR:=λZ=>(getO Z[l]?).bind λa=>(r Z).bind λq=>.ok (.ow a::q)
def outY(Z:Ev)(l:Nat)(lc:Option Nat):Ev×List (List D)->Res (Fl×List (List D))
 | (q,dss)=>match lc with
  | none=>.ok (.nx Z,dss)
  | some k=>match q[k]? with
   | some c=>.ok (.nx (Z.set l c),dss)
   | none=>.bad
def GC(f:FY)(l:Nat)(lc:Option Nat)(m:MR):MY:=λZ a=>(m Z).bind λq=>(noEx (f q a)).bind (outY Z l lc)
def retY(j:Nat):MY:=λZ a=>(getO Z[j]?).bind λb=>.ok (.rt (.tup [.lst (a.map .lst),.lst b]),a)
def FT:List D->Option (List (List D))
 | []=>some []
 | .lst cs::r=>if noLs cs=true then (FT r).bind λq=>some (cs::q) else none
 | _::_=>none
def fstY:Fl×List (List D)->Res Fl
 | (.rt d,_)=>.ok (.rt d)
 | _=>.bad
def regY(i:Nat)(me:ME)(k:MY):MS:=λZ=>(me Z).bind λd=>(lstO d).bind λa=>match FT a with
 | some dss=>if i<Z.length then (noEx (k (Z.set i .no) dss)).bind fstY else .bad
 | none=>.bad
def rtD:Res Fl->Res D
 | .ok (.rt d)=>.ok d
 | .ok _=>.bad
 | .ex c=>.ex c
 | .bad=>.bad
def regT(i:Nat)(me:ME)(k:MY):ME:=λZ=>rtD (regY i me k Z)
def popP(i j:Nat)(Z:Ev)(xs ys:List D)(c:Nat):Res Fl:=match ys[c]? with
 | some v=>if xs.length<10000 then .ok (.nx ((Z.set j (.ow (ys.eraseIdx c))).set i (.ow (xs++[v])))) else .bad
 | none=>.bad
def appP(i j:Nat)(me:ME):MS:=λZ=>(getO Z[i]?).bind λb=>(getO Z[j]?).bind λa=>(noEx (me Z)).bind λd=>match (intY d).bind λk=>if 0<=k/\k<a.length/\k<10000 then some k.toNat else none with
 | some c=>popP i j Z b a c
 | none=>.bad
end Dl
namespace L2.Ds
open Dl
structure Reg(K:W.Frag)(mg:Str->Option Value)(F H:Hp)(a:Addr)(rows:List Addr)(dss:List (List D)):Prop where
 ha:H a=some (.lst (rows.map .ref))
 fa:F a=none
 nd:rows.Nodup
 na:a∉rows
 len:rows.length=dss.length
 row:∀(k:Nat) (r:Addr) (ds:List D),rows[k]?=some r->dss[k]?=some ds->F r=none/\∃ys,H r=some (.lst ys)/\Rps K mg F ys ds
def Off(Y:St)(Z:Ev)(a:Addr)(rows:List Addr):Prop:=∀(j:Nat) (ds:List D) (b:Addr),Z[j]?=some (.ow ds)->Y[j]?=some (some (.ref b))->b≠a/\b∉rows
section
variable {F:Hp} {Y':St} {Z':Ev} {a:Addr} {rows:List Addr} {dss:List (List D)}
def Og{r:Res α}(h:r.bind f=.ok b):∃a,r=.ok a/\f a=.ok b:=by
 cases r with
 | ok a=>exact ⟨a,rfl,h⟩
 | ex c=>cases h
 | bad=>cases h
def Reg.gr(R:Reg K mg F H a rows dss)(g:Gr F H F' H'):Reg K mg F' H' a rows dss:=by
 obtain ⟨e,i⟩:=g.o a _ R.fa R.ha;refine ⟨i,e,R.nd,R.na,R.len,λk r h n b=>?_⟩;obtain ⟨p,j,c,m⟩:=R.row k r h n b;obtain ⟨l,d⟩:=g.o r _ p c;exact ⟨l,j,d,m.same g.f⟩
open Classical in
def Ec(Y:St)(Z:Ev)(H:Hp):Hp:=λb=>if ∃(j:Nat) (ds:List D),Z[j]?=some (.ow ds)/\Y[j]?=some (some (.ref b)) then none else H b
def wG(e1:Z[j]?=some (.ow ds))(e2:Y[j]?=some (some (.ref b))):Ec Y Z H b=none:=by
 unfold Ec;rw [iP ⟨j,ds,e1,e2⟩]
def M3(h:H b=some o)(n:∀(j:Nat) (ds:List D),Z[j]?=some (.ow ds)->Y[j]?≠some (some (.ref b))):Ec Y Z H b=some o:=by
 unfold Ec;rw [iN λ⟨j,ds,a,c⟩=>n j ds a c];exact h
def ZnK(h:Ec Y Z H b=some o):H b=some o:=by
 unfold Ec at h;split at h
 .cases h
 .exact h
def Rep.rebase(r:Rep K mg F0 H0 F H Y Z):Rep K mg F (Ec Y Z H) F H Y Z:=by
 refine ⟨⟨Same.refl _,r.g.s,λb o f h=>⟨f,ZnK h⟩,λ_ _ _ h=>h⟩,r.len,r.im,λi d e=>?_,r.ne⟩;obtain ⟨b,c,a,_,f,h,q⟩:=r.ow i d e;exact ⟨b,c,a,wG e a,f,h,q⟩
def Rep.back(r:Rep K mg F0 H0 F H Y Z)(q:Rep K mg F (Ec Y Z H) F' H' Y' Z'):Rep K mg F0 H0 F' H' Y' Z':=by
 have a:∀b o,F0 b=none->H0 b=some o->F b=none/\Ec Y Z H b=some o:=λb o f h=>by
  obtain ⟨l,m⟩:=r.g.o b o f h;refine ⟨l,M3 m λj d x k=>?_⟩;obtain ⟨c,p,t,n,_⟩:=r.ow j d x;rw [k] at t;cases t;rw [h] at n;cases n
 refine ⟨⟨r.g.f.trans q.g.f,q.g.s,λb o f h=>?_,λb o u e=>r.g.z b o u (q.g.z b o u e)⟩,q.len,q.im,λi d e=>?_,q.ne⟩
 .obtain ⟨l,m⟩:=a b o f h;exact q.g.o b o l m
 .obtain ⟨b,p,k,v,f,h,w⟩:=q.ow i d e;refine ⟨b,p,k,?_,f,h,w⟩;cases z:H0 b with
  | none=>rfl
  | some o=>
   cases z0:F0 b with
   | none=>rw [(a b o z0 z).2] at v;cases v
   | some u=>rw [q.g.f b u (r.g.f b u z0)] at f;cases f
def Reg.off(R:Reg K mg F H a rows dss)(o:Off Y Z a rows)(g:Gr F (Ec Y Z H) F' H'):Reg K mg F' H' a rows dss:=by
 obtain ⟨l,n⟩:=g.o a _ R.fa (M3 R.ha λj d b c=>(o j d a b c).1 rfl);refine ⟨n,l,R.nd,R.na,R.len,λk r d b c=>?_⟩;obtain ⟨u,q,h,t⟩:=R.row k r d b c;obtain ⟨s,i⟩:=g.o r _ u (M3 h λj p e m=>(o j p r e m).2 (G5 b));exact ⟨s,q,i,t.same g.f⟩
def Off.next(R:Reg K mg F H a rows dss)(o:Off Y Z a rows)(q:Rep K mg F (Ec Y Z H) F' H' Y' Z'):Off Y' Z' a rows:=by
 intro j g b e h;obtain ⟨c,v,l,f,_⟩:=q.ow j g e;rw [h] at l;cases l;refine ⟨λz=>?_,λz=>?_⟩
 .rw [z,M3 R.ha λj g e h=>(o j g a e h).1 rfl] at f;cases f
 .obtain ⟨k,i,s⟩:=List.getElem_of_mem z;have e:rows[k]?=some b:=by rw [BX i,s]
  obtain ⟨d,r⟩ : ∃d,dss[k]?=some d:=⟨_,BX (by rw [<-R.len];exact i)⟩;obtain ⟨_,u,n,_⟩:=R.row k b d e r;rw [M3 n λj p m t=>(o j p b m t).2 z] at f;cases f
end
structure At(K:W.Frag)(mg:Str->Option Value)(i:Nat)(H0 F H:Hp)(Y:St)(Z:Ev)(a:Addr)(rows:List Addr)(dss:List (List D)):Prop where
 R:Reg K mg F H a rows dss
 o:Off Y Z a rows
 s:Y[i]?=some (some (.ref a))
 h0:H0 a=none/\∀r∈rows,H0 r=none
def agr(J:List Nat)(Y Y':St):Prop:=∀j∈J,Y'[j]?=Y[j]?
def agr.refl:agr J Y Y:=λ_ _=>rfl
def agr.trans(h:agr J Y Y1)(h2:agr J Y1 Y2):agr J Y Y2:=λj m=>(h2 j m).trans (h j m)
def agr.set{x:Option V}(h:j∉J):agr J Y (Y.set j x):=λk m=>Dw λe=>h (e▸m)
def EndY(K:W.Frag)(mg:Str->Option Value)(i:Nat)(J:List Nat)(F0 H0 F:Hp)(Y:St)(a:Addr)(rows:List Addr)(dss:List (List D))(D:Ends):Fl->Prop
 | .nx Z=>∀c b e,Same F c->Rep K mg F0 H0 c b e Z->At K mg i H0 c b e Z a rows dss->agr J Y e->D.nx e b
 | .ct Z=>∀c b e,Same F c->Rep K mg F0 H0 c b e Z->At K mg i H0 c b e Z a rows dss->agr J Y e->D.ct e b
 | .bk Z=>∀c b e,Same F c->Rep K mg F0 H0 c b e Z->At K mg i H0 c b e Z a rows dss->agr J Y e->D.bk e b
 | .rt d=>∀c b x,Gr F0 H0 c b->TwoR K mg F0 c x d->D.rt x b
def AnsY(K:W.Frag)(mg:Str->Option Value)(i:Nat)(J:List Nat)(F0 H0 F:Hp)(Y:St)(a:Addr)(rows:List Addr)(r:Res (Fl×List (List D)))(w:Ends->Prop):Prop :=
 match r with
 | .ok (f,dss)=>∀D,EndY K mg i J F0 H0 F Y a rows dss D f->w D
 | _=>True
def SY(K:W.Frag)(mg:Str->Option Value)(i:Nat)(J:List Nat)(t:TS)(m:MY):Prop:=∀e d F H Y Z a b c,Rep K mg e d F H Y Z->At K mg i d F H Y Z a b c->AnsY K mg i J e d F Y a b (m Z c) λD=>t D Y H
def agD(J:List Nat)(Y:St)(D:Ends):Ends:=⟨λa b=>agr J Y a->D.nx a b,λ_ _=>True,λa b=>agr J Y a->D.bk a b,λa b=>agr J Y a->D.ct a b⟩
def Kpt(J:List Nat)(t:TS):Prop:=∀D Y H,t (agD J Y D) Y H->t D Y H
def u5:Kpt J (CQ te):=λD Y H h=>by
 have e:(λ(_:V) a=>(agD J Y D).nx Y a)=λ_ a=>D.nx Y a:=by funext _ a;exact propext ⟨λh=>h agr.refl,λh _=>h⟩
 unfold CQ at h ⊢;rw [e] at h;exact h
def zX(hj:j∉J):Kpt J (tAsg te (Ci j)):=λD Y H h=>by
 have e:(λ(x:V) a=>Ci j x Y a (agD J Y D).nx)=λx a=>Ci j x Y a D.nx:=by funext x a;exact propext ⟨λh=>h (agr.set hj),λh _=>h⟩
 unfold tAsg at h ⊢;rw [e] at h;exact h
def oG:Kpt J (tAsg te (gSub to ti ts)):=λD Y H h=>by
 have e:(λa=>(agD J Y D).nx Y a)=λa=>D.nx Y a:=by funext a;exact propext ⟨λh=>h agr.refl,λh _=>h⟩
 unfold tAsg gSub at h ⊢;rw [e] at h;exact h
def yz:Kpt J J6:=λD Y H h=>h agr.refl
def zE:Kpt J Kl:=λD Y H h=>h agr.refl
section
variable {J:List Nat}
def Ma(h:SS K mg E t m)(kp:Kpt J t)(hi:i∈J):SY K mg i J t (lft m):=by
 intro B z F H Y Z a p v y A;have q:=h F (Ec Y Z H) F H Y Z y.rebase;unfold lft;cases em:m Z with
 | bad=>trivial
 | ex c=>trivial
 | ok f=>
  rw [em] at q;have b:∀{n k:Hp} {l:St} {u:Ev},Rep K mg F (Ec Y Z H) n k l u->agr J Y l->Rep K mg B z n k l u/\At K mg i z n k l u a p v:=λ{n k l u} j e=>⟨y.back j,A.R.off A.o j.g,A.o.next A.R j,(e i hi).trans A.s,A.h0⟩;cases f with
  | nx Z2=>exact λD w=>kp D Y H (q _ λn k l r j e=>w n k l r (b j e).1 (b j e).2 e)
  | ct Z2=>exact λD w=>kp D Y H (q _ λn k l r j e=>w n k l r (b j e).1 (b j e).2 e)
  | bk Z2=>exact λD w=>kp D Y H (q _ λn k l r j e=>w n k l r (b j e).1 (b j e).2 e)
  | rt d=>exact λD w=>kp D Y H (q _ λn k x g C=>trivial)
def EndY.mono{F F1:Hp}{Y1:St}{a:Addr}{rows:List Addr}{dss:List (List D)}{D:Ends}{f:Fl}(s:Same F F1)(g:agr J Y Y1)(h:EndY K mg i J F0 H0 F Y a rows dss D f):EndY K mg i J F0 H0 F1 Y1 a rows dss D f:=by
 cases f with
 | nx Z=>exact λj b c e r A k=>h j b c (s.trans e) r A (g.trans k)
 | ct Z=>exact λj b c e r A k=>h j b c (s.trans e) r A (g.trans k)
 | bk Z=>exact λj b c e r A k=>h j b c (s.trans e) r A (g.trans k)
 | rt d=>exact h
def yM{n:MY}(h1:SY K mg i J t m)(h2:SY K mg i J u n):SY K mg i J (tSeq t u) (sqY m n):=by
 intro w y F H Y Z a b g z A;have h:=h1 w y F H Y Z a b g z A;unfold sqY;cases e:m Z g with
 | bad=>trivial
 | ex c=>trivial
 | ok p=>
  obtain ⟨f,v⟩:=p;rw [e] at h;cases f with
  | nx Z'=>
   show AnsY K mg i J w y F Y a b (n Z' v) _;have j:=λx o k r l=>h2 w y x o k Z' a b v r l;cases e2:n Z' v with
   | bad=>trivial
   | ex c=>trivial
   | ok p2=>
    obtain ⟨E,C⟩:=p2;rw [e2] at j;exact λD q=>h { D with nx:=u D } λx o k s r l B=>j x o k r l D (q.mono s B)
  | ct Z'=>exact λD q=>h { D with nx:=u D } q
  | bk Z'=>exact λD q=>h { D with nx:=u D } q
  | rt d=>exact λD q=>h { D with nx:=u D } q
def lK{n:MY}(hc:STt K mg E sc nc)(h1:SY K mg i J t m)(h2:SY K mg i J u n):SY K mg i J (tIfS sc t u) (ifY nc m n):=by
 intro r v F H Y Z a j d B A;have h:=hc r v F H Y Z B;unfold ifY;cases e:nc Z with
 | bad=>trivial
 | ex c=>trivial
 | ok b=>
  rw [e] at h;show AnsY K mg i J r v F Y a j (if b=true then m Z d else n Z d) _
  have y:∀{t:TS} {m:MY},SY K mg i J t m->AnsY K mg i J r v F Y a j (m Z d) λD=>∀l k,Gr F H l k->t D Y k:=by
   intro t m C;have z:=λl k (g:Gr F H l k)=>C r v l k Y Z a j d (B.gr g) ⟨A.R.gr g,A.o,A.s,A.h0⟩;cases e2:m Z d with
   | bad=>trivial
   | ex c=>trivial
   | ok p=>
    obtain ⟨f,G⟩:=p;rw [e2] at z;exact λD q l k g=>z l k g D (q.mono g.f agr.refl)
  cases b with
  | true=>
   rw [iP rfl];have z:=y h1;cases e2:m Z d with
   | bad=>trivial
   | ex c=>trivial
   | ok p=>
    rw [e2] at z;exact λD q=>h _ λl k x g w=>by cases (show x=true from w);rw [iP rfl];exact z D q l k g
  | false=>
   rw [iN Dp];have z:=y h2;cases e2:n Z d with
   | bad=>trivial
   | ex c=>trivial
   | ok p=>
    rw [e2] at z;exact λD q=>h _ λl k x g w=>by cases (show x=false from w);rw [iN Dp];exact z D q l k g
def KpG(J:List Nat)(t:TG):Prop:=∀x d Y H P b,agr J d Y->(∀a c,agr J d a->P a c->b a c)->t x Y H P->t x Y H b
def KpGs(J:List Nat)(t:TGs):Prop:=∀x d Y H P b,agr J d Y->(∀a c,agr J d a->P a c->b a c)->t x Y H P->t x Y H b
def JG(hj:j∉J):KpG J (Ci j):=λ_ _ _ _ _ _ a w h=>w _ _ (a.trans (agr.set hj)) h
def R5:KpGs J gNil:=λ_ _ _ _ _ _ a w h=>⟨h.1,w _ _ a h.2⟩
def Ko(h1:KpG J t)(h2:KpGs J u):KpGs J (Q0 t u):=λx b Y H P c a w h=>by
 obtain ⟨v,r,e,z⟩:=h;exact ⟨v,r,e,h1 v b Y H _ _ a (λf d g q=>h2 r b f d P c g w q) z⟩
def VF(h1:KpGs J t):KpG J (gSeq K n t):=λx d Y H P c a w h=>by
 rcases h with ⟨b,xs,e1,e2,e3,z⟩ | ⟨b,xs,e1,e2,e3,z⟩
 .exact .inl ⟨b,xs,e1,e2,e3,h1 xs d Y H P c a w z⟩
 .exact .inr ⟨b,xs,e1,e2,e3,h1 xs d Y H P c a w z⟩
def Zto(hi:SI K mg E wi mi)(hg:SG K mg n t g)(kg:KpG J t)(hJ:i∈J)(hb:SY K mg i J u m):SY K mg i J (tFor wi t u) (forY mi g m):=by
 intro F0 G F H Y Z a j N rr A;have h:=hi F0 G F H Y Z rr;unfold forY;cases e:mi Z with
 | bad=>trivial
 | ex c=>trivial
 | ok ds=>
  rw [e] at h;show AnsY K mg i J F0 G F Y a j (DP g m ds Z N) _;cases e1:DP g m ds Z N with
  | bad=>trivial
  | ex c=>trivial
  | ok p=>
   obtain ⟨f,d2⟩:=p;have fnx:∀{l:List D} {v:Ev} {b:List (List D)},DP g m l v b=.ok (f,d2)->∃C,f=.nx C:=by
    intro l
    induction l with
    | nil=>intro v b e;cases e;exact ⟨_,rfl⟩
    | cons x l ih=>
     intro v b e;unfold DP at e;obtain ⟨Z1,_,e⟩:=Og e;obtain ⟨⟨f3,d3⟩,_,e⟩:=Og e;cases f3 with
     | nx _=>exact ih e
     | ct _=>exact ih e
     | bk _=>cases e;exact ⟨_,rfl⟩
     | rt _=>cases e
   obtain ⟨M,rfl⟩:=fnx e1;intro D q;refine h _ λF1 H1 jt g1 jo=>?_;refine ⟨λk n w S=>n=ds.length - k/\k<=ds.length/\agr J Y w/\∃v P b,Same F1 P/\Rep K mg F0 G P S w v/\At K mg i G P S w v a j b/\DP g m (ds.drop k) v b=.ok (.nx M,d2),⟨ds.length,by simp,DR _,agr.refl,Z,F1,N,Same.refl _,rr.gr g1,⟨A.R.gr g1,A.o,A.s,A.h0⟩,by simpa using e1⟩,?_⟩;rintro k n w S ⟨rfl,hk,ag,v,P,b,s1,r',U,r⟩;by_cases hlt:k<ds.length
   .refine .inr ?_;have hd:ds[k]?=some ds[k]:=BX hlt;obtain ⟨go,yl⟩:=(jo P S s1 r'.ss k).1 _ hd;rw [JD hlt] at r;refine ⟨go,λY2 B=>agr J Y Y2/\∃C I V,Same F1 I/\Rep K mg F0 G I B Y2 C/\At K mg i G I B Y2 C a j V/\DP g m (ds.drop (k+1)) C V=.ok (.nx M,d2),λY2 B z=>⟨ds.length - (k+1),by omega,rfl,hlt,z⟩,λx B y=>?_⟩;obtain ⟨I,g2,rx⟩:=yl x B y;have r2:=r'.gr g2;have T:At K mg i G I B w v a j b:=⟨U.R.gr g2,U.o,U.s,U.h0⟩;unfold DP at r;obtain ⟨Z1,eg,r⟩:=Og r;have hG:=hg I (Ec w v B) I B w v x ds[k] r2.rebase rx;rw [eg] at hG;have hG2:t x w B _:=hG (λY3 W=>∃L,Same I L/\Rep K mg I (Ec w v B) L W Y3 Z1) λL W Y3 s3 r3 _=>⟨L,s3,r3⟩;refine kg x w w B _ _ agr.refl (λY3 W a3 zq=>?_) hG2;obtain ⟨L,s3,r3⟩:=zq;have O:=r2.back r3;have Q:At K mg i G L W Y3 Z1 a j b:=⟨T.R.off T.o r3.g,T.o.next T.R r3,(a3 i hJ).trans T.s,T.h0⟩;have hB:=hb F0 G L W Y3 Z1 a j b O Q;have sF:Same F1 L:=(s1.trans g2.f).trans s3;have a4:=ag.trans a3;cases em:m Z1 b with
    | bad=>rw [em] at r;cases r
    | ex c=>rw [em] at r;cases r
    | ok p3=>
     obtain ⟨f3,d3⟩:=p3;rw [em] at r hB;cases f3 with
     | nx C=>exact hB _ λX H4 Y4 s4 O Q k4=>⟨a4.trans k4,C,X,d3,sF.trans s4,O,Q,r⟩
     | ct C=>exact hB _ λX H4 Y4 s4 O Q k4=>⟨a4.trans k4,C,X,d3,sF.trans s4,O,Q,r⟩
     | bk C=>
      have e3:Res.ok (Fl.nx C,d3)=.ok (.nx M,d2):=r;cases e3;exact hB _ λX H4 Y4 s4 O Q k4=>q X H4 Y4 (g1.f.trans (sF.trans s4)) O Q (a4.trans k4)
     | rt d=>cases r
   .have hk2:k=ds.length:=by omega
    subst hk2;rw [J7 (Al _)] at r;cases r;exact .inl ⟨(jo P S s1 r'.ss _).2 (Al _),q P S w (g1.f.trans s1) r' U ag⟩
end
section
variable {J:List Nat} {F:Hp} {a:Addr} {rows:List Addr} {dss:List (List D)}
def MN:∀{l:List Addr} {j k:Nat},l.Nodup->(hj:j<l.length)->(hk:k<l.length)->l[j]=l[k]->j=k
 | _::_,0,0,_,_,_,_=>rfl
 | x::l,0,k+1,n,_,hk,e=>aB (show x∈l from by
   have e:x=l[k]'(by simpa using hk):=e
   rw [e];exact Jg _) (Ht.mp n).1
 | x::l,j+1,0,n,hj,_,e=>aB (show x∈l from by
   have e:l[j]'(by simpa using hj)=x:=e
   rw [<-e];exact Jg _) (Ht.mp n).1
 | x::l,j+1,k+1,n,hj,hk,e=>CV (·+1) (MN (Ht.mp n).2 (by simpa using hj) (by simpa using hk) e)
def Rep.pokeY(r:Rep K mg F0 H0 F H Y Z)(h0:H0 q=none)(f:F q=none)(n:∀(j:Nat) (ds:List D),Z[j]?=some (.ow ds)->Y[j]?≠some (some (.ref q))):Rep K mg F0 H0 F (upd H q o) Y Z:=by
 refine ⟨⟨r.g.f,λc u e=>?_,λc u w a=>?_,r.g.z⟩,r.len,r.im,λk ds e=>?_,r.ne⟩
 .rw [Ag (Ay e f)];exact r.g.s c u e
 .obtain ⟨m,t⟩:=r.g.o c u w a;exact ⟨m,by rw [Ag (Ay a h0)];exact t⟩
 .obtain ⟨b,v,a,d,l,p,i⟩:=r.ow k ds e
  exact ⟨b,v,a,d,l,by
   have h:b≠q:=by
    rintro rfl;exact n k ds e a
   rw [Ag h];exact p,i⟩
def At.poke(A:At K mg i H0 F H Y Z a rows dss)(e:rows[k]?=some q)(r:Rps K mg F ys cs):At K mg i H0 F (upd H q (.lst ys)) Y Z a rows (dss.set k cs):=by
 have l:q∈rows:=G5 e;have c:k<rows.length:=(Cm.mp e).1;have d:a≠q:=λz=>A.R.na (z▸l);refine ⟨⟨by rw [Ag d];exact A.R.ha,A.R.fa,A.R.nd,A.R.na,by rw [Eu];exact A.R.len,λm n p b h=>?_⟩,A.o,A.s,A.h0⟩;rcases BV h with ⟨rfl,rfl,_⟩ | ⟨ne,e3⟩
 .rw [e] at b;cases b;obtain ⟨f,_⟩:=A.R.row k q _ e (BX (by rw [<-A.R.len];exact c));exact ⟨f,ys,Ak,r⟩
 .obtain ⟨f,u,j,t⟩:=A.R.row m n p b e3;refine ⟨f,u,?_,t⟩;rw [Ag]
  .exact j
  .rintro rfl;have g:m<rows.length:=(Cm.mp b).1;rw [BX c] at e;rw [BX g] at b;exact ne (MN A.R.nd c g ((Bt e).trans (Bt b).symm))
def At.pokeR{q:Addr}{o:HO}(A:At K mg i H0 F H Y Z a rows dss)(rr:Rep K mg F0 H0 F H Y Z)(e:rows[k]?=some q):Rep K mg F0 H0 F (upd H q o) Y Z:=by
 have b:q∈rows:=G5 e;have c:k<rows.length:=(Cm.mp e).1;exact rr.pokeY (A.h0.2 q b) (A.R.row k q _ e (BX (by rw [<-A.R.len];exact c))).1 λj g f d=>(A.o j g q f d).2 b
def At.gr(A:At K mg i H0 F H Y Z a rows dss)(g:Gr F H F' H'):At K mg i H0 F' H' Y Z a rows dss:=⟨A.R.gr g,A.o,A.s,A.h0⟩
def Rps.set{x:V}(h:Rp K mg F x d):∀{xs:List V} {ds:List D} (c:Nat),Rps K mg F xs ds->Rps K mg F (xs.set c x) (ds.set c d)
 | _,_,_,.nil=>.nil
 | _,_,0,.cons _ r=>.cons h r
 | _,_,c+1,.cons q r=>.cons q (Rps.set h c r)
def At.at{n:Int}(A:At K mg i H0 F H Y Z a rows dss)(e:ixP dss.length n=some r)(e2:dss[r]?=some cs):∃q ys,rows[r]?=some q/\atI (rows.map V.ref) n=some (.ref q)/\H q=some (.lst ys)/\F q=none/\Rps K mg F ys cs:=by
 have b:r<rows.length:=by rw [A.R.len];exact (Cm.mp e2).1
 obtain ⟨f,ys,h,c⟩:=A.R.row r _ cs (BX b) e2;refine ⟨rows[r],ys,BX b,?_,h,f,c⟩;show (ixN (rows.map V.ref).length n).bind _=_;rw [Af,A.R.len,show ixN dss.length n=some r from e];show (rows.map V.ref)[r]?=_;rw [By,BX b];rfl
def Zun(he:SE K mg E te me)(hv:SE K mg E tv mv):SY K mg i J (CQ (tBM K "list" Gp (tOp (rIxD K) (tVar i) te) (BW tv tNil))) (appY me mv):=by
 intro m p F H Y Z a h e y A;have I:=he m p F H Y Z y;unfold appY;cases e1:me Z with
 | bad=>trivial
 | ex c=>trivial
 | ok d=>
 rw [e1] at I;have M:=λB u U=>hv m p B u Y Z U;show AnsY K mg i J m p F Y a h ((noEx (mv Z)).bind λw=>optY Z ((intY d).bind (appR e w))) _;cases e2:mv Z with
 | bad=>trivial
 | ex c=>trivial
 | ok w=>
 rw [e2] at M;show AnsY K mg i J m p F Y a h (optY Z ((intY d).bind (appR e w))) _;cases g:(intY d).bind (appR e w) with
 | none=>trivial
 | some ds'=>
 cases d with
 | int n=>
  have g:appR e w n=some ds':=g;unfold appR at g;cases e4:ixP e.length n with
  | none=>rw [e4] at g;cases g
  | some r=>
  rw [e4] at g;have g:(e[r]?).bind (λj=>if j.length<10000 then some (e.set r (j++[w])) else none)=some ds':=g
  cases e5:e[r]? with
  | none=>rw [e5] at g;cases g
  | some j=>
  rw [e5] at g;have g:(if j.length<10000 then some (e.set r (j++[w])) else none)=some ds':=g
  by_cases hl:j.length<10000
  case neg=>rw [iN hl] at g;cases g
  rw [iP hl] at g;cases g;intro D q;refine ⟨.ref a,A.s,I _ λB u x l W=>?_⟩;cases W;have t:=A.gr l;obtain ⟨b,C,O,S,G,P,N⟩:=t.at e4 e5;refine .inl ⟨a,_,n,.ref b,rfl,rfl,SqL.of t.R.ha,S,.inl ⟨rfl,C,SqL.of G⟩,M B u (y.gr l) _ λV X v k T=>?_⟩;have L:=t.gr k;obtain ⟨Q,z⟩:=k.o b _ P G;refine ⟨b,C,v,rfl,rfl,z,Bu (by rw [N.length];exact hl) (by decide),?_⟩;exact q V _ Y (l.f.trans k.f) (L.pokeR ((y.gr l).gr k) O) (L.poke O (Rps.app (.cons T .nil) (N.same k.f))) agr.refl
 | _=>cases g
def zO(hv:SE K mg E tv mv)(ha:SE K mg E ta ma)(hb:SE K mg E tb mb):SY K mg i J (tAsg tv (gSub (tOp (rIxD K) (tVar i) ta) tb Nk)) (Ip mv ma mb):=by
 intro t p F H Y Z a g d I A;have Q:=hv t p F H Y Z I;unfold Ip;cases e1:mv Z with
 | bad=>trivial
 | ex c=>trivial
 | ok w=>
 rw [e1] at Q;have O:=λB G M=>ha t p B G Y Z M;show AnsY K mg i J t p F Y a g ((noEx (ma Z)).bind λl=>(noEx (mb Z)).bind λj=>optY Z ((intY l).bind λu=>(intY j).bind λk=>setR d w u k)) _;cases e2:ma Z with
 | bad=>trivial
 | ex c=>trivial
 | ok l=>
 rw [e2] at O;have U:=λB G M=>hb t p B G Y Z M;show AnsY K mg i J t p F Y a g ((noEx (mb Z)).bind λj=>optY Z ((intY l).bind λu=>(intY j).bind λk=>setR d w u k)) _;cases e3:mb Z with
 | bad=>trivial
 | ex c=>trivial
 | ok j=>
 rw [e3] at U;show AnsY K mg i J t p F Y a g (optY Z ((intY l).bind λu=>(intY j).bind λk=>setR d w u k)) _;cases e:(intY l).bind λu=>(intY j).bind λk=>setR d w u k with
 | none=>trivial
 | some ds'=>
 cases l with
 | int n=>
  cases j with
  | int k=>
   have e:setR d w n k=some ds':=e;unfold setR at e;cases e5:ixP d.length n with
   | none=>rw [e5] at e;cases e
   | some r=>
   rw [e5] at e;have e:(d[r]?).bind (λh=>(ixP h.length k).bind λc=>some (d.set r (h.set c w)))=some ds':=e;cases e6:d[r]? with
   | none=>rw [e6] at e;cases e
   | some h=>
   rw [e6] at e;have e:(ixP h.length k).bind (λc=>some (d.set r (h.set c w)))=some ds':=e;cases e7:ixP h.length k with
   | none=>rw [e7] at e;cases e
   | some c=>
   rw [e7] at e;have e:some (d.set r (h.set c w))=some ds':=e;cases e;intro D q;refine Q _ λB G v z W=>⟨.ref a,A.s,O B G (I.gr z) _ λF2 X x C rx=>?_⟩;cases rx;have L:=(A.gr z).gr C;obtain ⟨b,ys,T,ea,hb,fb,P⟩:=L.at e5 e6;refine .inl ⟨a,_,n,.ref b,rfl,rfl,SqL.of L.R.ha,ea,U F2 X ((I.gr z).gr C) _ λV H3 y m ry=>?_⟩;cases ry;have S:=L.gr m;obtain ⟨fb3,N⟩:=m.o b _ fb hb;refine ⟨b,ys,k,c,rfl,rfl,N,by rw [P.length];exact e7,?_⟩;exact q V _ Y (z.f.trans (C.f.trans m.f)) (S.pokeR (((I.gr z).gr C).gr m) T) (S.poke T (Rps.set (W.same (C.f.trans m.f)) c (P.same m.f))) agr.refl
  | _=>cases e
 | _=>cases e
end
section
variable {F:Hp} {Y':St} {Z2:Ev} {a:Addr} {rows:List Addr} {dss:List (List D)} {l:Nat} {J:List Nat}
def Zui(i)(h:SE K mg E t m):SE K mg E t (pkN i m):=by
 intro A C F H Y Z n;unfold pkN getO;split
 .next k e=>
  obtain ⟨a,G,r,x,y,u,D⟩:=n.ow i k e;obtain ⟨v,g⟩:=n.lookA e r x y u D;have z:=h A C _ H Y _ v;show Ans mg E (Rp K mg) F H ((noEx (m (Z.set i (.im (.lst k))))).bind noLD) _;cases em:m (Z.set i (.im (.lst k))) with
  | ok d=>
   rw [em] at z;show Ans mg E (Rp K mg) F H (noLD d) _;unfold noLD;by_cases hd:noL d=true
   .rw [iP hd]
    exact λQ q=>z Q λw p b l s=>q _ p b (g w p l) (ZK (λc o j B=>by
     rw [Ex]
     .exact j
     .rintro rfl;rw [l.f _ _ Ak] at j;cases j
      exact B _ rfl) s hd)
   .rw [iN hd];trivial
  | ex c=>trivial
  | bad=>trivial
 .trivial
def oh(hv:SE K mg E tv mv)(hb:SE K mg E tb mb):SS K mg E (tAsg tv (gSub (tVar i) tb Nk)) (setO i mv mb):=by
 intro l h F H Y Z n;unfold setO getO;split
 .next b e=>
  obtain ⟨a,M,u,I,L,C,z⟩:=n.ow i b e;have v:=hv l h F H Y Z n
  show AnsS K mg E l h F ((noEx (mv Z)).bind λw=>(noEx (mb Z)).bind λm=>match (intY m).bind λk=>ixP b.length k with
   | some c=>Res.ok (Fl.nx (Z.set i (.ow (b.set c w))))
   | none=>.bad) _
  cases q1:mv Z with
  | bad=>trivial
  | ex c=>trivial
  | ok w=>
  rw [q1] at v;have t:=λr s A=>hb l h r s Y Z A
  show AnsS K mg E l h F ((noEx (mb Z)).bind λm=>match (intY m).bind λk=>ixP b.length k with
   | some c=>Res.ok (Fl.nx (Z.set i (.ow (b.set c w))))
   | none=>.bad) _
  cases q2:mb Z with
  | bad=>trivial
  | ex c=>trivial
  | ok m=>
   rw [q2] at t;cases m with
   | int k=>
    show AnsS K mg E l h F (match ixP b.length k with
     | some c=>Res.ok (Fl.nx (Z.set i (.ow (b.set c w))))
     | none=>.bad) _
    cases q3:ixP b.length k with
    | none=>trivial
    | some c=>
     exact λD q=>v _ λr s x d N=>⟨.ref a,u,t r s (n.gr d) _ λG P y j J=>by
      cases J;obtain ⟨B,p⟩:=d.o a _ L C;obtain ⟨O,g⟩:=j.o a _ B p
      exact ⟨a,M,k,c,rfl,rfl,g,by rw [z.length];exact q3,q G _ Y (d.f.trans j.f) (((n.gr d).gr j).put e u g I O (Rps.set (N.same j.f) c (z.same (d.f.trans j.f))))⟩⟩
   | _=>trivial
 .trivial
inductive ArgY(K:W.Frag)(mg:Str->Option Value)(F:Hp)(Y:St)(Z:Ev)(i l:Nat):List Nat->List V->Ev->Prop
 | nil:ArgY K mg F Y Z i l [] [] []
 | im {sh:List Nat} {v:V} {vs:List V} {d:D} {q:Ev} (h:Rp K mg F v d) (r:ArgY K mg F Y Z i l sh vs q):ArgY K mg F Y Z i l (0::sh) (v::vs) (.im d::q)
 | rg {sh:List Nat} {v:V} {vs:List V} {q:Ev} (h:Y[i]?=some (some v)) (r:ArgY K mg F Y Z i l sh vs q):ArgY K mg F Y Z i l (1::sh) (v::vs) (.no::q)
 | ow {sh:List Nat} {v:V} {vs:List V} {ds:List D} {q:Ev} (h:Y[l]?=some (some v)) (e:Z[l]?=some (.ow ds)) (r:ArgY K mg F Y Z i l sh vs q):ArgY K mg F Y Z i l (2::sh) (v::vs) (.ow ds::q)
def ArgY.len{sh:List Nat}{vs:List V}{q:Ev}(h:ArgY K mg F Y Z i l sh vs q):vs.length=q.length/\sh.length=q.length:=by
 induction h with
 | nil=>exact ⟨rfl,rfl⟩
 | im _ _ r=>exact ⟨CV (·+1) r.1,CV (·+1) r.2⟩
 | rg _ _ r=>exact ⟨CV (·+1) r.1,CV (·+1) r.2⟩
 | ow _ _ _ r=>exact ⟨CV (·+1) r.1,CV (·+1) r.2⟩
def ArgY.get{sh:List Nat}{vs:List V}{q:Ev}{k:Nat}{c:Cl}(r:ArgY K mg F Y Z i l sh vs q)(e:q[k]?=some c):∃v,vs[k]?=some v/\((∃d,c=.im d/\Rp K mg F v d)\/(c=.no/\sh[k]?=some 1/\Y[i]?=some (some v))\/∃ds,c=.ow ds/\sh[k]?=some 2/\Y[l]?=some (some v)/\Z[l]?=some (.ow ds)):=by
 induction r generalizing k with
 | nil=>simp at e
 | im h _ r=>
  cases k with
  | zero=>cases e;exact ⟨_,rfl,.inl ⟨_,rfl,h⟩⟩
  | succ k=>exact r (k:=k) e
 | rg h _ r=>
  cases k with
  | zero=>cases e;exact ⟨_,rfl,.inr (.inl ⟨rfl,rfl,h⟩)⟩
  | succ k=>exact r (k:=k) e
 | ow h z _ r=>
  cases k with
  | zero=>cases e;exact ⟨_,rfl,.inr (.inr ⟨_,rfl,rfl,h,z⟩)⟩
  | succ k=>exact r (k:=k) e
def ArgY.rgAt{sh:List Nat}{vs:List V}(r:ArgY K mg F Y Z i l sh vs q)(e:sh[k]?=some 1):∃v,vs[k]?=some v/\Y[i]?=some (some v):=by
 induction r generalizing k with
 | nil=>cases e
 | im _ _ ih=>
  cases k with
  | zero=>cases e
  | succ k=>exact ih e
 | rg h _ ih=>
  cases k with
  | zero=>exact ⟨_,rfl,h⟩
  | succ k=>exact ih e
 | ow _ _ _ ih=>
  cases k with
  | zero=>cases e
  | succ k=>exact ih e
def ArgY.owAt{sh:List Nat}{vs:List V}(r:ArgY K mg F Y Z i l sh vs q)(e:sh[k]?=some 2):∃v ds,vs[k]?=some v/\Y[l]?=some (some v)/\Z[l]?=some (.ow ds):=by
 induction r generalizing k with
 | nil=>cases e
 | im _ _ ih=>
  cases k with
  | zero=>cases e
  | succ k=>exact ih e
 | rg _ _ ih=>
  cases k with
  | zero=>cases e
  | succ k=>exact ih e
 | ow h z _ ih=>
  cases k with
  | zero=>exact ⟨_,_,rfl,h,z⟩
  | succ k=>exact ih e
def SAy(K:W.Frag)(mg:Str->Option Value)(i l:Nat)(sh:List Nat)(t:TA)(m:MR):Prop:=∀d e F H Y Z v,Rep K mg d e F H Y Z->Y[i]?=some (some v)->match m Z with
 | .ok q=>∀Q,(∀b c a,Gr F H b c->ArgY K mg b Y Z i l sh a q->Q a c)->t Y H Q
 | _=>True
def ju:SAy K mg i l [] tNil rNil:=λb c F H Y Z v a _ Q q=>q F H [] (.refl a.ss) .nil
def zF(he:SE K mg E te me)(h:SAy K mg i l sh t m):SAy K mg i l (0::sh) (BW te t) (rIm me m):=by
 intro j n F H Y Z v g p;have z:=he j n F H Y Z g;have k:=λb a y=>h j n b a Y Z v y p;unfold rIm;cases e1:me Z with
 | bad=>trivial
 | ex c=>trivial
 | ok d=>
 rw [e1] at z;cases e2:m Z with
 | bad=>trivial
 | ex c=>trivial
 | ok q=>
 rw [e2] at k;exact λQ w=>z _ λb a x e u=>k b a (g.gr e) _ λA r B o s=>w A r _ (e.trans o) (.im (u.same o.f) s)
def fY(h:SAy K mg i l sh t m):SAy K mg i l (1::sh) (BW (tVar i) t) (rRg m):=by
 intro f g F H Y Z v d a;have b:=h f g F H Y Z v d a;unfold rRg;cases e2:m Z with
 | bad=>trivial
 | ex c=>trivial
 | ok q=>
 rw [e2] at b;exact λQ w=>⟨v,a,b _ λj e o n k=>w j e _ n (.rg a k)⟩
def vR(h:SAy K mg i l sh t m):SAy K mg i l (2::sh) (BW (tVar l) t) (rOw l m):=by
 intro n o F H Y Z v a g;have f:=h n o F H Y Z v a g;unfold rOw;cases ec:Z[l]? with
 | none=>trivial
 | some c=>
 cases c with
 | no=>trivial
 | im d=>trivial
 | ow ds=>
 obtain ⟨b,u,e,_⟩:=a.ow l ds ec;cases e3:m Z with
 | bad=>trivial
 | ex c=>trivial
 | ok q=>
 rw [e3] at f;exact λQ w=>⟨.ref b,e,f _ λp j s r k=>w p j _ r (.ow e ec k)⟩
def spY(K:W.Frag)(mg:Str->Option Value)(n i:Nat)(f:FY):Sp:=λe H Q _=>e.length=n/\∃F g Z a b d,Rep K mg F g F H (e.map some) Z/\At K mg i g F H (e.map some) Z a b d /\
 ∃j c,f Z d=.ok (j,c)/\∀k h,Rep K mg F g k h (e.map some) j->At K mg i g k h (e.map some) j a b c->Q .non h
def KJ{vs:List V}{v:V}(e:vs[k]?=some v):(vs.map some)[k]?=some (some v):=by rw [By,e];rfl
def tQ{sh:List Nat}(hs:SAy K mg i l sh t m)(hic:sh[ic]?=some 1)(hl1:∀k,sh[k]?=some 2->lc=some k)(hl2:∀k,lc=some k->sh[k]?=some 2)(hn:sh.length=n) :
  SY K mg i J (CQ (Fe (spY K mg n ic f) [] E t)) (GC f l lc m):=by
 intro F0 H0 F H Y Z a C dss rr A;have z:=hs F0 H0 F H Y Z _ rr A.s;unfold GC;cases em:m Z with
 | bad=>trivial
 | ex c=>trivial
 | ok q=>
 rw [em] at z;show AnsY K mg i J F0 H0 F Y a C ((noEx (f q dss)).bind (outY Z l lc)) _;cases ef:f q dss with
 | bad=>trivial
 | ex c=>trivial
 | ok p=>
 obtain ⟨q',d'⟩:=p;show AnsY K mg i J F0 H0 F Y a C (outY Z l lc (q',d')) _;have key:∀(Z':Ev) (D:Ends),EndY K mg i J F0 H0 F Y a C d' D (.nx Z')->((lc=none/\Z'=Z)\/∃k c,lc=some k/\q'[k]?=some c/\Z'=Z.set l c)->CQ (Fe (spY K mg n ic f) [] E t) D Y H:=by
  intro Z' D w hρ;refine z _ λF1 H1 vs g1 ay=>?_;have I:=rr.gr g1;have A1:=A.gr g1;have hand:∃P:Addr->Prop,∀b,P b↔b=a\/b∈C\/((∃k,lc=some k)/\Y[l]?=some (some (.ref b))):=⟨_,λ_=>Iff.rfl⟩;obtain ⟨P,hP⟩:=hand;obtain ⟨Hc,c1,c2⟩ : ∃Hc:Hp,(∀b,P b->Hc b=none)/\∀b,¬P b->Hc b=H1 b:=by
   classical
   exact ⟨λb=>if P b then none else H1 b,λb h=>iP h,λb h=>iN h⟩
  have c3:∀b o,Hc b=some o->H1 b=some o/\¬P b:=λb o h=>by
   by_cases hb:P b
   .rw [c1 b hb] at h;cases h
   .rw [c2 b hb] at h;exact ⟨h,hb⟩
  have O:∀(k:Nat) (y:List Dl.D),q[k]?=some (.ow y)->∃b L,vs[k]?=some (.ref b)/\Y[l]?=some (some (.ref b))/\Z[l]?=some (.ow y)/\lc=some k/\F1 b=none/\H1 b=some (.lst L)/\Rps K mg F1 L y:=λk y e=>by
   obtain ⟨v,Q,hc⟩:=ay.get e;rcases hc with ⟨d,z,_⟩ | ⟨z,_⟩ | ⟨ds',z,s2,N,M⟩
   .cases z
   .cases z
   .cases z;obtain ⟨b,L,B,_,e5,X,hr⟩:=I.ow l y M;rw [N] at B;cases B;exact ⟨b,L,Q,N,M,hl1 k s2,e5,X,hr⟩
  obtain ⟨va,eva,esa⟩:=ay.rgAt hic;rw [A.s] at esa;cases esa;rw [Bl];refine ⟨by rw [ay.len.1,<-ay.len.2];exact hn,F1,Hc,q,a,C,dss,⟨⟨Same.refl _,I.ss,λb o f h=>⟨f,(c3 b o h).1⟩,λ_ _ _ h=>h⟩,by rw [Af];exact ay.len.1,λk d e=>?_,λk y e=>?_,λj k y S b G B _ _=>?_⟩,⟨A1.R,λk y b G B=>?_,KJ eva,c1 a ((hP a).mpr (.inl rfl)),λr hr=>c1 r ((hP r).mpr (.inr (.inl hr)))⟩,q',d',ef,λF' H' T A'=>?_⟩
  .obtain ⟨v,Q,hc⟩:=ay.get e;rcases hc with ⟨d',z,rd⟩ | ⟨z,_⟩ | ⟨ds',z,_⟩
   .cases z;exact ⟨v,KJ Q,rd⟩
   .cases z
   .cases z
  .obtain ⟨b,L,Q,N,M,U,e5,X,hr⟩:=O k y e;exact ⟨b,L,KJ Q,c1 b ((hP b).mpr (.inr (.inr ⟨⟨k,U⟩,N⟩))),e5,X,hr⟩
  .obtain ⟨_,_,_,_,_,l1,_⟩:=O j y G;obtain ⟨_,_,_,_,_,l2,_⟩:=O k S B;rw [l1] at l2;exact Bt l2
  .obtain ⟨b',L,Q,N,M,U,e5,X,hr⟩:=O k y G;rw [KJ Q] at B;cases B;exact A.o l y b M N
  have V:∀k,lc=some k->∃b y,vs[k]?=some (.ref b)/\Y[l]?=some (some (.ref b))/\Z[l]?=some (.ow y):=λk e=>by
   obtain ⟨v,y,Q,N,M⟩:=ay.owAt (hl2 k e);obtain ⟨b,L,B,_⟩:=I.ow l y M;rw [N] at B;cases B;exact ⟨b,y,Q,N,M⟩
  have notP:∀(j:Nat) (y:List Dl.D) (b:Addr),Z[j]?=some (.ow y)->Y[j]?=some (some (.ref b))->(lc=none\/j≠l)->¬P b:=λj y b G B hj hb=>by
   rcases (hP b).mp hb with z | z | ⟨⟨k,z1⟩,z2⟩
   .exact (A.o j y b G B).1 z
   .exact (A.o j y b G B).2 z
   .obtain ⟨b2,ds2,_,N,M⟩:=V k z1;rcases hj with hj | hj
    .rw [z1] at hj;cases hj
    .exact hj (rr.ne j l y ds2 b G M B z2)
  have gC:Gr F0 H0 F' H':=by
   refine ⟨I.g.f.trans T.g.f,T.g.s,λb o f h=>?_,λb o u e=>I.g.z b o u (T.g.z b o u e)⟩;obtain ⟨f1,h1⟩:=I.g.o b o f h;refine T.g.o b o f1 ?_;rw [c2 b λhb=>?_]
   .exact h1
   .rcases (hP b).mp hb with z | z | ⟨⟨k,z1⟩,z2⟩
    .rw [z,A.h0.1] at h;cases h
    .rw [A.h0.2 b z] at h;cases h
    .obtain ⟨b2,ds2,_,N,M⟩:=V k z1;obtain ⟨b3,L,B,e4,_⟩:=rr.ow l ds2 M;rw [z2] at B;cases B;rw [e4] at h;cases h
  have imC:∀(j:Nat) (d:Dl.D),Z[j]?=some (.im d)->∃x,Y[j]?=some (some x)/\Rp K mg F' x d:=λj d e=>by
   obtain ⟨x,G,B⟩:=I.im j d e;exact ⟨x,G,B.same T.g.f⟩
  have owC:∀(j:Nat) (y:List Dl.D),Z[j]?=some (.ow y)->(lc=none\/j≠l)->∃b L,Y[j]?=some (some (.ref b))/\H0 b=none/\F' b=none/\H' b=some (.lst L)/\Rps K mg F' L y:=λj y e hj=>by
   obtain ⟨b,L,B,e4,e5,X,hr⟩:=I.ow j y e;obtain ⟨q1,q2⟩:=T.g.o b _ e5 (by rw [c2 b (notP j y b e B hj)];exact X);exact ⟨b,L,B,e4,q1,q2,hr.same T.g.f⟩
  rcases hρ with ⟨hl,rfl⟩ | ⟨k,c,hl,hc,rfl⟩
  .exact w F' H' Y (g1.f.trans T.g.f) ⟨gC,rr.len,imC,λj y e=>owC j y e (.inl hl),rr.ne⟩ ⟨A'.R,A.o,A.s,A.h0⟩ agr.refl
  .obtain ⟨b,y,Q,N,M⟩:=V k hl;have ll:l<Z.length:=(Cm.mp M).1;have W:∀(j:Nat) (S:List Dl.D),(Z.set l c)[j]?=some (.ow S)->∃es':List Dl.D,Z[j]?=some (.ow es'):=λj S e=>by
    rcases BV e with ⟨rfl,_,_⟩ | ⟨_,e⟩
    .exact ⟨y,M⟩
    .exact ⟨S,e⟩
   refine w F' H' Y (g1.f.trans T.g.f) ⟨gC,by rw [Eu];exact rr.len,λj d e=>?_,λj S e=>?_,λj j' S es' b' G B X e4=>?_⟩ ⟨A'.R,λj S b' G B=>?_,A.s,A.h0⟩ agr.refl
   .rcases BV e with ⟨rfl,rfl,_⟩ | ⟨_,e⟩
    .obtain ⟨x,G,B⟩:=T.im k d hc;rw [KJ Q] at G;cases G;exact ⟨_,N,B⟩
    .exact imC j d e
   .rcases BV e with ⟨rfl,rfl,_⟩ | ⟨hj,e⟩
    .obtain ⟨b2,L,G,e4,e5,X,hr⟩:=T.ow k S hc;rw [KJ Q] at G;cases G;obtain ⟨b3,_,e6,e7,_⟩:=rr.ow l y M;rw [N] at e6;cases e6;exact ⟨_,L,N,e7,e5,X,hr⟩
    .exact owC j S e (.inr (Ne.symm hj))
   .obtain ⟨_,o1⟩:=W j S G;obtain ⟨_,o2⟩:=W j' es' B;exact rr.ne j j' _ _ b' o1 o2 X e4
   .obtain ⟨_,o1⟩:=W j S G;exact A.o j _ b' o1 B
 cases U:lc with
 | none=>exact λD w=>key Z D w (.inl ⟨U,rfl⟩)
 | some k=>
  show AnsY K mg i J F0 H0 F Y a C (match q'[k]? with
   | some c=>Res.ok (Fl.nx (Z.set l c),d')
   | none=>.bad) _
  cases ek:q'[k]? with
  | none=>trivial
  | some c=>exact λD w=>key (Z.set l c) D w (.inr ⟨k,c,U,ek,rfl⟩)
def jb(r:Rep K mg F0 H0 F H Y Z):Rep K mg F0 H0 F H (Y++List.replicate n none) (Z++List.replicate n .no):=by
 have b:∀(j:Nat) (c:Cl),(Z++List.replicate n Cl.no)[j]?=some c->c=.no\/(Z[j]?=some c/\(Y++List.replicate n none)[j]?=Y[j]?):=λj c e=>by
  by_cases hj:j<Z.length
  .rw [Ea hj] at e;exact .inr ⟨e,Ea (by rw [r.len];exact hj)⟩
  .rw [Fo (by omega),Ib] at e;split at e
   .exact .inl (Bt e).symm
   .cases e
 refine ⟨r.g,by rw [Bo,Bo,r.len,Jq,Jq],λj d e=>?_,λj f e=>?_,λj k f m a o l i h=>?_⟩
 .rcases b j _ e with z | ⟨z,z2⟩
  .cases z
  .rw [z2];exact r.im j d z
 .rcases b j _ e with z | ⟨z,z2⟩
  .cases z
  .rw [z2];exact r.ow j f z
 .rcases b j _ o with z | ⟨z,z2⟩
  .cases z
  .rcases b k _ l with y | ⟨y,y2⟩
   .cases y
   .rw [z2] at i;rw [y2] at h;exact r.ne j k f m a z y i h
def RK:∀{k:Nat} {Z Z2:Ev} {j:Nat} {c:Cl},(mixO J k Z Z2)[j]?=some c->c=.no\/(Z[j]?=some c/\∃d,c=.im d)\/(Z2[j]?=some c/\k+j∈J)
 | k,.ow _::r,c'::r',0,c,e=>by
  have e:(if J.contains k=true then c' else .no)=c:=Bt e
  by_cases h:J.contains k=true
  .rw [iP h] at e;exact .inr (.inr ⟨CV some e,by simpa using h⟩)
  .rw [iN h] at e;exact .inl e.symm
 | k,.no::r,c'::r',0,c,e=>.inl (Bt e).symm
 | k,.im d::r,c'::r',0,c,e=>.inr (.inl ⟨e,d,(Bt e).symm⟩)
 | k,.ow _::r,c'::r',j+1,c,e=>by
  have z:=RK (k:=k+1) (Z:=r) (Z2:=r') (j:=j) e;rw [show k+1+j=k+(j+1) by omega] at z;exact z
 | k,.no::r,c'::r',j+1,c,e=>by
  have z:=RK (k:=k+1) (Z:=r) (Z2:=r') (j:=j) e;rw [show k+1+j=k+(j+1) by omega] at z;exact z
 | k,.im _::r,c'::r',j+1,c,e=>by
  have z:=RK (k:=k+1) (Z:=r) (Z2:=r') (j:=j) e;rw [show k+1+j=k+(j+1) by omega] at z;exact z
 | _,[],_,_,_,e=>by unfold mixO at e;simp at e
 | _,_::_,[],_,_,e=>by unfold mixO at e;simp at e
def Pa:∀{k:Nat} {Z Z2:Ev},Z.length<=Z2.length->(mixO J k Z Z2).length=Z.length
 | _,[],_,_=>by unfold mixO;rfl
 | _,_::_,[],h=>by simp at h
 | k,.ow _::r,_::r',h=>CV (·+1) (Pa (k:=k+1) (Nat.le_of_succ_le_succ h))
 | k,.no::r,_::r',h=>CV (·+1) (Pa (k:=k+1) (Nat.le_of_succ_le_succ h))
 | k,.im _::r,_::r',h=>CV (·+1) (Pa (k:=k+1) (Nat.le_of_succ_le_succ h))
end
structure CalY(P:Program)(w:World)(K:W.Frag)(mg:Str->Option Value)(base:Heap)(k:Nat)(x:Str)(ps:List Str)(i:Nat)(m:FY):Prop where
 ex:∃(f:Addr) (fd:FuncData),FnOk P w K mg base (CXR P w) k f fd ps (spY K mg ps.length i m)/\Binds K fd ps []/\W.keepIn K (.ref f)=true/\mg x=some (.ref f)
structure DYs(X:Cx)(i:Nat)(J:List Nat)(sts:List Stmt)(t:TS)(m:MY):Prop where
 p:PSs X sts t
 s:SY X.K X.mg i J t m
structure DY(X:Cx)(i:Nat)(J:List Nat)(st:Stmt)(t:TS)(m:MY):Prop where
 p:PS X st t
 s:SY X.K X.mg i J t m
section
def _root_.L2.Def.calY{st:Stmt}{J:List Nat}{mb:MY}(Df:Def K mg x st ps)(S:Ca N ps (Av st))(hps:ps.length<=N.length)(h:∀(f:Addr) (cdv:Value) (A:Around) (outer:List Env) (s:Shared) (H:Hp) (E:XK),Room k (A.deeper (envOfC x (Av st) s.heap.objs.size f cdv))->∃t,DYs (cxOf (CXR P w) P w K mg base N x (Av st) f cdv A outer s H E) i J (DX st) t mb) :
  CalY P w K mg base (k+1) x ps i (fnY N.length J mb):=by
 obtain ⟨f,fd,F,b,hm⟩:=Df.ex;refine ⟨⟨f,fd,?_,b,F.kp,hm⟩⟩;obtain ⟨oc,od,kV,doc,pm,an,cdv,ct,osl,rfl,lk,X⟩:=F.ex;refine K6 lk X S (λu H Q E q=>q.1) λA outer s H u Q E hr Y=>?_;obtain ⟨t,hd⟩:=h f cdv A outer s H E hr;refine ⟨t,hd.p,?_⟩;obtain ⟨hlen,T,H0,Z,a,G,M,W,m,Z',U,ef,hq⟩:=Y;have lr:u.length=Z.length:=by have:=W.len;rwa [Af] at this
 have O:start N u=u.map some++List.replicate (N.length - Z.length) none:=by unfold start;rw [lr]
 have gs:∀(j:Nat),j<Z.length->(start N u)[j]?=(u.map some)[j]?:=λj I=>by rw [O];exact Ea (by rw [Af,lr];exact I)
 have r0:Rep K mg T H0 T H (start N u) (Z++List.replicate (N.length - Z.length) .no):=by rw [O];exact jb W
 have ia:i<Z.length:=by
  have:=(Cm.mp m.s).1;rwa [Af,lr] at this
 have A0:At K mg i H0 T H (start N u) (Z++List.replicate (N.length - Z.length) .no) a G M:=by
  refine ⟨m.R,λj n b r l=>?_,by rw [gs i ia];exact m.s,m.h0⟩;by_cases I:j<Z.length
  .rw [Ea I] at r;rw [gs j I] at l;exact m.o j n b r l
  .rw [Fo (by omega),Ib] at r;split at r
   .cases r
   .cases r
 have z:=hd.s T H0 T H (start N u) _ a G M r0 A0;unfold fnY at ef;obtain ⟨⟨fl,d2⟩,r,l⟩:=Og ef;rw [r] at z;cases fl with
 | nx Z2=>
  have l:(if Z.length<=Z2.length then Res.ok (mixO J 0 Z Z2,d2) else .bad)=.ok (Z',U):=l
  by_cases l2:Z.length<=Z2.length
  case neg=>rw [iN l2] at l;cases l
  rw [iP l2] at l;cases l;refine z _ λF' H' Y' s' V A' ag=>?_;have ml:(mixO J 0 Z Z2).length=Z.length:=Pa l2;have L:∀(j:Nat) (c:Cl),(mixO J 0 Z Z2)[j]?=some c->c=.no\/(Z[j]?=some c/\∃d,c=.im d)\/(Z2[j]?=some c/\Y'[j]?=(u.map some)[j]?):=λj c e=>by
   rcases RK e with q | q | ⟨C,v⟩
   .exact .inl q
   .exact .inr (.inl q)
   .have I:j<Z.length:=by rw [<-ml];exact (Cm.mp e).1
    rw [KQ] at v;exact .inr (.inr ⟨C,by rw [ag j v,gs j I]⟩)
  have B:∀(j:Nat) (n:List D),(mixO J 0 Z Z2)[j]?=some (.ow n)->Z2[j]?=some (.ow n)/\Y'[j]?=(u.map some)[j]?:=λj n e=>by
   rcases L j _ e with q | ⟨_,d,q⟩ | q
   .cases q
   .cases q
   .exact q
  refine hq F' H' ⟨V.g,by rw [ml];exact W.len,λj d e=>?_,λj n e=>?_,λj k n O b r l e3 e4=>?_⟩ ⟨A'.R,λj n b r l=>?_,m.s,m.h0⟩
  .rcases L j _ e with q | ⟨q,_⟩ | ⟨C,v⟩
   .cases q
   .obtain ⟨y,h1,h2⟩:=W.im j d q;exact ⟨y,h1,h2.same s'⟩
   .rw [<-v];exact V.im j d C
  .obtain ⟨C,v⟩:=B j n e;rw [<-v];exact V.ow j n C
  .obtain ⟨C,v⟩:=B j n r;obtain ⟨q3,q4⟩:=B k O l;rw [<-v] at e3;rw [<-q4] at e4;exact V.ne j k n O b C q3 e3 e4
  .obtain ⟨C,v⟩:=B j n r;rw [<-v] at l;exact A'.o j n b C l
 | rt d=>cases l
 | bk Z2=>cases l
 | ct Z2=>cases l
end
section
variable {F:Hp} {Y':St} {Z2:Ev} {a:Addr} {rows:List Addr} {dss:List (List D)} {l:Nat} {J:List Nat}
def jc:SY K mg i J (tRet (tTup (BW (tVar i) (BW (tVar j) tNil)))) (retY j):=by
 intro F0 W F H Y Z a l I v A;unfold retY;cases ec:Z[j]? with
 | none=>trivial
 | some c=>
 cases c with
 | no=>trivial
 | im d=>trivial
 | ow ds=>
 obtain ⟨b,V,S,e4,U,T,P⟩:=v.ow j ds ec;intro D q;refine ⟨.ref a,A.s,.ref b,S,(show 2<=sizeLine by decide),λp Q=>?_⟩;obtain ⟨n,x,M⟩ : ∃n:Hp,(∀c,(c=a\/c∈l\/c=b)->n c=H c)/\∀c,¬(c=a\/c∈l\/c=b)->n c=F c:=by
  classical
  exact ⟨λc=>if c=a\/c∈l\/c=b then H c else F c,λc h=>iP h,λc h=>iN h⟩
 have E:∀r∈l,F r=none/\∃m,H r=some (.lst m):=λr P=>by
  obtain ⟨k,w,rfl⟩:=List.getElem_of_mem P;obtain ⟨f,m,h,_⟩:=A.R.row k _ _ (BX w) (BX (by rw [<-A.R.len];exact w));exact ⟨f,m,h⟩
 have t:∀c,(c=a\/c∈l\/c=b)->F c=none/\W c=none/\∃m,H c=some (.lst m):=λc h=>by
  rcases h with h | h | h
  .rw [h];exact ⟨A.R.fa,A.h0.1,_,A.R.ha⟩
  .obtain ⟨f,m,G⟩:=E c h;exact ⟨f,A.h0.2 c h,m,G⟩
  .rw [h];exact ⟨U,e4,V,T⟩
 have N:Same F n:=λc o e=>by
  by_cases h:c=a\/c∈l\/c=b
  .rw [(t c h).1] at e;cases e
  .rw [M c h];exact e
 have O:Same n H:=λc o e=>by
  by_cases h:c=a\/c∈l\/c=b
  .rw [x c h] at e;exact e
  .rw [M c h] at e;exact v.g.s c o e
 have X:Gr F0 W n H:=⟨v.g.f.trans N,O,λc o f h=>by
  obtain ⟨q1,q2⟩:=v.g.o c o f h;refine ⟨?_,q2⟩;rw [M c λz=>by rw [(t c z).2.1] at h;cases h];exact q1,λc o u e=>by
  by_cases h:c=a\/c∈l\/c=b
  .rw [x c h] at e;obtain ⟨_,_,m,G⟩:=t c h;rw [G] at e;cases e
  .rw [M c h] at e;exact v.g.z c o u e⟩
 have g2:=X.trans (.new O Q (.tup [.ref a,.ref b]));have fp:n p=none:=O.free Q;have C:Same n (upd n p (.tup [.ref a,.ref b])):=Cp fp _;refine q _ _ (.ref p) g2 ⟨p,a,b,l.map .ref,V,I.map .lst,ds,rfl,rfl,Ak,λz=>(A.o j ds b ec S).1 z.symm,v.g.f.free A.R.fa,v.g.f.free U,C _ _ (by rw [x a (.inl rfl)];exact A.R.ha),C _ _ (by rw [x b (.inr (.inr rfl))];exact T),?_,P.same (N.trans C)⟩
 .refine ZR (by rw [Af,Af];exact A.R.len) λk y d L B=>?_;rw [By] at L B;cases w:l[k]? with
  | none=>rw [w] at L;cases L
  | some r=>
  cases hd:I[k]? with
  | none=>rw [hd] at B;cases B
  | some cs=>
  rw [w] at L;rw [hd] at B;cases L;cases B;obtain ⟨f,m,G,ry⟩:=A.R.row k r cs w hd;exact .lst (SqL.of (C _ _ (by rw [x r (.inr (.inl (G5 w)))];exact G))) (ry.same (N.trans C))
def jW{x:Option V}(r:Rep K mg F0 H0 F H Y Z)(i):Rep K mg F0 H0 F H (Y.set i x) (Z.set i .no):=by
 refine ⟨r.g,by rw [Eu,Eu];exact r.len,λj d q=>?_,λj c q=>?_,λj k c m a b e l f=>?_⟩
 .rcases BV q with ⟨_,z,_⟩ | ⟨h,q⟩
  .cases z
  .rw [Dw h];exact r.im j d q
 .rcases BV q with ⟨_,z,_⟩ | ⟨h,q⟩
  .cases z
  .rw [Dw h];exact r.ow j c q
 .rcases BV b with ⟨_,z,_⟩ | ⟨h1,b⟩
  .cases z
  .rcases BV e with ⟨_,z,_⟩ | ⟨h2,e⟩
   .cases z
   .rw [Dw h1] at l;rw [Dw h2] at f;exact r.ne j k c m a b e l f
def W6:∀{xs:List V},(∀(k:Nat) (x:V),xs[k]?=some x->∃q,x=.ref q)->∃rws:List Addr,xs=rws.map .ref
 | [],_=>⟨[],rfl⟩
 | x::xs,h=>by
  obtain ⟨q,rfl⟩:=h 0 x rfl;obtain ⟨r,rfl⟩:=W6 (xs:=xs) λk y e=>h (k+1) y e;exact ⟨q::r,rfl⟩
def Xd:∀{ds:List D} {dss:List (List D)},FT ds=some dss->ds=dss.map .lst/\∀cs∈dss,noLs cs=true
 | [],_,e=>by cases e;exact ⟨rfl,λ_ h=>aB h CZ⟩
 | d::r,dss,e=>by
  cases d with
  | lst cs=>
   have e:(if noLs cs=true then (FT r).bind λq=>some (cs::q) else none)=some dss:=e
   by_cases h:noLs cs=true
   .rw [iP h] at e;cases er:FT r with
    | none=>rw [er] at e;cases e
    | some q=>
     rw [er] at e;have e:some (cs::q)=some dss:=e;cases e;obtain ⟨b,a⟩:=Xd er;refine ⟨by rw [b];rfl,λc hc=>?_⟩;rcases Aj.mp hc with rfl | hc
     .exact h
     .exact a c hc
   .rw [iN h] at e;cases e
  | _=>cases e
def Nz(K:W.Frag)(mg:Str->Option Value)(E:XK)(F0 H0:Hp)(r:Res Fl)(w:Ends->Prop):Prop :=
 match r with
 | .ok (.rt d)=>∀D:Ends,(∀b a x,Gr F0 H0 b a->TwoR K mg F0 b x d->D.rt x a)->w D
 | .ok _=>False
 | .ex c=>∀D:Ends,(∀b a C,Gr F0 H0 b a->mg (clsOf c)=some (.ref C)->E (.ref C) (pay c) a)->w D
 | .bad=>True
def Zx{wi:TI}{mi:MI}{t:Fam TG}{g:MG}{tt:Fam TT}{nt:MB}{te:Fam TE}{me:ME}{own:List Str}{cap:List (Str×Nat)}{ur:TS}{kr:MY}(hi:SI K mg E wi mi)(hg:∀C s H fp pn,SG K mg own.length (t C s H fp pn) g)(ht:∀C s H fp pn,STt K mg E0 (tt C s H fp pn) nt)(he:∀C s H fp pn,SEl K mg E0 (te C s H fp pn) me)(hr:SY K mg i J ur kr) :
  ∀F0 H0 F H Y Z,Rep K mg F0 H0 F H Y Z->Nz K mg E F0 H0 (regY i (comp mi own.length (cap.map (·.2)) g nt me) kr Z) (λD=>(tSeq (tAsg (Et wi t tt te own cap) (Ci i)) ur) D Y H):=by
 intro F0 H0 F H Y Z L;have h:=hi F0 H0 F H Y Z L;unfold regY comp;cases e:mi Z with
 | bad=>trivial
 | ex c=>rw [e] at h;exact λD q=>h _ λB H' C g hC=>q B H' C (L.g.trans g) hC
 | ok ds=>
 rw [e] at h;by_cases hl:ds.length<=LIM
 case neg=>
  show Nz K mg E F0 H0 ((if ds.length<=LIM then _ else Res.bad).bind _) _
  rw [iN hl];trivial
 show Nz K mg E F0 H0 ((if ds.length<=LIM then (noEx (Dl.Ar g nt me (noA own.length (Az Z (cap.map (·.2)))) ds)).bind _ else Res.bad).bind _) _
 rw [iP hl];cases e2:Dl.Ar g nt me (noA own.length (Az Z (cap.map (·.2)))) ds with
 | bad=>trivial
 | ex c=>trivial
 | ok rs0=>
 show Nz K mg E F0 H0 (match FT rs0 with
  | some dss=>if i<Z.length then (noEx (kr (Z.set i .no) dss)).bind fstY else .bad
  | none=>.bad) _
 cases e3:FT rs0 with
 | none=>trivial
 | some dss=>
 show Nz K mg E F0 H0 (if i<Z.length then (noEx (kr (Z.set i .no) dss)).bind fstY else .bad) _
 by_cases li:i<Z.length
 case neg=>rw [iN li];trivial
 rw [iP li];cases e4:kr (Z.set i .no) dss with
 | bad=>trivial
 | ex c=>trivial
 | ok p0=>
 obtain ⟨fl,d2⟩:=p0;cases fl with
 | nx _=>trivial
 | bk _=>trivial
 | ct _=>trivial
 | rt d=>
 obtain ⟨er,hno⟩:=Xd e3;intro D q;refine h _ λF1 H1 J1 G jo=>λC s H2 fp pn=>vX (L.gr G) jo (hg C s H2 fp pn) (ht C s H2 fp pn) (he C s H2 fp pn) hl e2 _ λB H' xs y rs rwR nd _ p Q=>?_;have lx:xs.length=dss.length:=by rw [rs.length,er,Af]
 obtain ⟨a,rfl⟩:=W6 (xs:=xs) λk x ex=>by
  have lk:k<dss.length:=by rw [<-lx];exact (Cm.mp ex).1
  obtain ⟨q0,_,_,z,_⟩:=rwR k x (.lst dss[k]) ex (by rw [er,By,BX lk];rfl);exact ⟨q0,z⟩
 rw [Af] at lx;have W:∀(k:Nat) (r:Addr) (N:List Dl.D),a[k]?=some r->dss[k]?=some N->F1 r=none/\∃n,B r=some (.lst n)/\Rps K mg B n N:=λk r N I O=>by
  obtain ⟨q0,n,cs',v,m,T,R,S⟩:=rwR k (.ref r) (.lst N) (by rw [By,I];rfl) (by rw [er,By,O];rfl);cases v;cases m;exact ⟨T,n,R,S⟩
 have l:∀r∈a,F1 r=none/\∃n,B r=some (.lst n):=λr hr=>by
  obtain ⟨k,hk,rfl⟩:=List.getElem_of_mem hr;obtain ⟨v,n,m,_⟩:=W k _ _ (BX hk) (BX (by rw [<-lx];exact hk));exact ⟨v,n,m⟩
 obtain ⟨P,c1,U⟩ : ∃P:Hp,(∀c,c∈a->P c=none)/\∀c,c∉a->P c=B c:=by
  classical
  exact ⟨λc=>if c∈a then none else B c,λc h=>iP h,λc h=>iN h⟩
 have c3:∀c o,P c=some o->B c=some o:=λc o z=>by
  by_cases M:c∈a
  .rw [c1 c M] at z;cases z
  .rw [U c M] at z;exact z
 have f'p:B p=none:=y.s.free Q;have np:p∉a:=λz=>by
  obtain ⟨_,n,m⟩:=l p z;rw [f'p] at m;cases m
 have gN:Gr F H P (upd H' p (.lst (a.map .ref))):=by
  refine ⟨λc o z=>?_,λc o z=>?_,λc o v m=>?_,λc o u z=>G.z c o u (y.z c o u (c3 c _ z))⟩
  .rw [U c λM=>aB (l c M).1 (by rw [G.f c o z];intro w;cases w)];exact y.f c o (G.f c o z)
  .have z':=y.s c o (c3 c o z);rw [Ag (Ay z' Q)];exact z'
  .obtain ⟨X,a2⟩:=G.o c o v m;obtain ⟨b1,b2⟩:=y.o c o X a2;refine ⟨?_,by rw [Ag (Ay b2 Q)];exact b2⟩;by_cases M:c∈a
   .exact c1 c M
   .rw [U c M];exact b1
 have rN:=jW (x:=some (.ref p)) (L.gr gN) i;have h0r:∀r∈a,H0 r=none:=λr hr=>by
  obtain ⟨v,n,m⟩:=l r hr;cases q0:H0 r with
  | none=>rfl
  | some o=>
   have gg:=L.g.trans G;cases q1:F0 r with
   | some u=>rw [gg.f r u q1] at v;cases v
   | none=>
    obtain ⟨X,a2⟩:=gg.o r o q1 q0;rw [(y.o r o X a2).1] at m;cases m
 have A:At K mg i H0 P (upd H' p (.lst (a.map .ref))) (Y.set i (some (.ref p))) (Z.set i .no) p a dss:=by
  refine ⟨⟨Ak,by rw [U p np];exact f'p,?_,np,lx,λk r N I O=>?_⟩,λj es b I O=>?_,M9 (by rw [L.len];exact li),Zwl ((L.g.trans G).trans y) Q,h0r⟩
  .exact (List.pairwise_map.mp nd).imp λh z=>h (CV V.ref z)
  .obtain ⟨v,n,m,T⟩:=W k r N I O;have mr:r∈a:=G5 I;have R:=y.s _ _ m;refine ⟨c1 r mr,n,by rw [Ag (Ay R Q)];exact R,TF (λb o e5 e6=>?_) T (hno N (G5 O))⟩;rw [U b λhb=>?_]
   .exact e5
   .obtain ⟨_,zs,S⟩:=l b hb;rw [S] at e5;cases e5;exact e6 _ rfl
  .rcases BV I with ⟨_,z,_⟩ | ⟨hj,I⟩
   .cases z
   .rw [Dw hj] at O;obtain ⟨b',xs',v,_,T,R,_⟩:=L.ow j es I;rw [O] at v;cases v;obtain ⟨X,a2⟩:=G.o b _ T R;obtain ⟨b1,b2⟩:=y.o b _ X a2
    exact ⟨Ay b2 Q,λhb=>by
     obtain ⟨_,zs,S⟩:=l b hb
     rw [b1] at S;cases S⟩
 have z:=hr F0 H0 P _ _ _ p a dss rN A;rw [e4] at z;exact z D q
def ZvH{te:Fam TE}{own:List Str}{cap:List (Str×Nat)}(hi:SI K mg E wi mi)(hg:∀C s H fp pn,SG K mg own.length (t C s H fp pn) g)(ht:∀C s H fp pn,STt K mg E0 (tt C s H fp pn) nt)(he:∀C s H fp pn,SEl K mg E0 (te C s H fp pn) me)(hr:SY K mg i J ur kr) :
  SS K mg E (tSeq (tAsg (Et wi t tt te own cap) (Ci i)) ur) (regY i (comp mi own.length (cap.map (·.2)) g nt me) kr):=by
 intro e h F H Y Z a;have z:=Zx (E:=E) (cap:=cap) hi hg ht he hr e h F H Y Z a;generalize regY i (comp mi own.length (cap.map (·.2)) g nt me) kr Z=r at z
 match r,z with
 | .ok (.rt d),z=>exact λD q=>z D λf b x g j=>q f b x g j.rp
 | .ex c,z=>exact z
 | .bad,_=>trivial
def wy{wi:TI}{mi:MI}{t:Fam TG}{g:MG}{tt:Fam TT}{nt:MB}{te:Fam TE}{me:ME}{own:List Str}{cap:List (Str×Nat)}{ur:TS}{kr:MY}(hi:SI K mg E wi mi)(hg:∀C s H fp pn,SG K mg own.length (t C s H fp pn) g)(ht:∀C s H fp pn,STt K mg E0 (tt C s H fp pn) nt)(he:∀C s H fp pn,SEl K mg E0 (te C s H fp pn) me)(hr:SY K mg i J ur kr) :
  ∀F0 H0 F H Y Z,Rep K mg F0 H0 F H Y Z->AnsT K mg E F0 H0 (rtD (regY i (comp mi own.length (cap.map (·.2)) g nt me) kr Z)) (λD=>(tSeq (tAsg (Et wi t tt te own cap) (Ci i)) ur) D Y H):=by
 intro F0 H0 F H Y Z a;have z:=Zx (E:=E) (cap:=cap) hi hg ht he hr F0 H0 F H Y Z a;generalize regY i (comp mi own.length (cap.map (·.2)) g nt me) kr Z=r at z
 match r,z with
 | .ok (.rt d),z=>exact z
 | .ex c,z=>exact z
 | .bad,_=>trivial
end
section
variable {l:Nat} {J:List Nat} {st:Stmt} {sts rest:List Stmt} {tv ta tb to ti:TE} {ts:TSet} {t u u':TS} {m:MS} {k k':MY} {mv ma mb:ME} {sa:TT} {na:MB} {ev ea eb c' tg iter elt:Expr} {y:Str} {np ip ip2 apos p:Pos}
def XR(h:DS X E st (CQ te) m)(hi:i∈J:=by decide):DY X i J st (CQ te) (lft m):=⟨h.p,Ma h.s u5 hi⟩
def Ge(h:DS X E st (tAsg te (Ci j)) m)(hj:j∉J:=by decide)(hi:i∈J:=by decide):DY X i J st (tAsg te (Ci j)) (lft m):=⟨h.p,Ma h.s (zX hj) hi⟩
def iW(h:DS X E st (tAsg te (gSub to ti ts)) m)(hi:i∈J:=by decide):DY X i J st (tAsg te (gSub to ti ts)) (lft m):=⟨h.p,Ma h.s oG hi⟩
def fc(h:DS X E st J6 m)(hi:i∈J:=by decide):DY X i J st J6 (lft m):=⟨h.p,Ma h.s yz hi⟩
def Xv(hi:i∈J:=by decide):DYs X i J [] Kl (lft nop):=⟨R9,Ma (E:=E0) WK zE hi⟩
def Fx(h:DY X i J st t k):DYs X i J [st] t k:=⟨YM h.p,h.s⟩
def Eh(h:DY X i J st t k)(h':DYs X i J rest u k'):DYs X i J (st::rest) (tSeq t u) (sqY k k'):=⟨Hv h.p h'.p,yM h.s h'.s⟩
def Rt(hc:DT X E c' sa na)(ha:DYs X i J as u k)(hb:DYs X i J bs u' k'):DY X i J (.If c' as bs spos) (tIfS sa u u') (ifY na k k'):=⟨XH hc.p ha.p hb.p,lK hc.s ha.s hb.s⟩
def Oa(hp:PassesOwn (model X.prog X.w) X.A X.env X.xe)(hc:X.calm=true)(hi:DI X E tg iter wi mi)(hg:DG X 1000 tg g gm)(kg:KpG J g)(hb:DYs X i J body u k)(hs:∀x,foldedSetIterable iter X.env x=pure x:=by intro _;rfl)(hJ:i∈J:=by decide):DY X i J (.For tg iter body [] spos) (tFor wi g u) (forY mi gm k):=⟨XS hp hc hi.p hg.p hb.p hs,Zto hi.s hg.s kg hJ hb.s⟩
def qW(he:DE X E e te me)(hw:DE X E ev tv mv)(hi:X.N[i]?=some y:=by rfl)(hv:Dv X.env.scope y:=by first | exact Or.inl rfl | exact Or.inr (Or.inl rfl) | exact Or.inr (Or.inr rfl))(hd:ND y:=by decide)(hcd:NE y:=by decide)(hpi:RP e:=by exact λ_ _=>rfl)(hbase:attributeBase (.Subscript (.Name y np) e ip) "append" X.env (eval (.Subscript (.Name y np) e ip) X.env)=eval (.Subscript (.Name y np) e ip) X.env:=by rfl)(hse:starEach [ev] X.env=(false,eval ev X.env)::starEach [] X.env:=by rfl) (hfew:((backTo cpos (starEach [ev] X.env)).all (λx=>!x.1)&&(backToKw cpos (keywordEach [] X.env)).all (λx=>x.1.isSome)
   && decide (([ev]:List Expr).length+([]:List Keyword).length+(if ([]:List Keyword).isEmpty then 0 else 1)<30))=true:=by rfl) (hline:(apos.endLine==cpos.line)=true:=by rfl) (hplain:(backTo cpos (starEach [] X.env)).any (·.1)=false:=by rfl) (hsw:swapsWith (.Call (.Attribute (.Subscript (.Name y np) e ip) "append" apos) [ev] [] cpos) none spos.line X.env=pure false:=by rfl) :
  DY X i J (.Expr (.Call (.Attribute (.Subscript (.Name y np) e ip) "append" apos) [ev] [] cpos) spos) (CQ (tBM X.K "list" Gp (tOp (rIxD X.K) (tVar i) te) (BW tv tNil))) (appY me mv) :=
 ⟨HJ (KR J9 PySem.F.slot_list_append PySem.F.type_list_append Ut (TY (IxR.or R3 TJ) (Ej hi hv hd hcd) he.p hpi) (Dt hw.p Fw hse) hbase hfew hline hse hplain) hsw,Zun he.s hw.s⟩
def iw(hw:DE X E e tv mv)(ha:DE X E ea ta ma)(hb:DE X E eb tb mb)(hi:X.N[i]?=some y:=by rfl)(hv:Dv X.env.scope y:=by first | exact Or.inl rfl | exact Or.inr (Or.inl rfl) | exact Or.inr (Or.inr rfl))(hd:ND y:=by decide)(hcd:NE y:=by decide)(hpi:RP ea:=by exact λ_ _=>rfl) (has:∀v,assign (.Subscript (.Subscript (.Name y np) ea ip) eb ip2) X.env v=(do
   let ov <-holding [v] (eval (.Subscript (.Name y np) ea ip) X.env)
   let iv <-holding [v,ov] (eval eb X.env)
   standAt ip2
   holding [v,ov,iv] (setItem ov iv v)
   release [v,ov,iv] []):=by intro _;rfl) (hs2:swapsWithSole [.Subscript (.Subscript (.Name y np) ea ip) eb ip2] e spos.line X.env=pure false:=by rfl) (hw2:swappedStores [.Subscript (.Subscript (.Name y np) ea ip) eb ip2] e X.env=pure none:=by rfl) :
  DY X i J (.Assign [.Subscript (.Subscript (.Name y np) ea ip) eb ip2] e spos) (tAsg tv (gSub (tOp (rIxD X.K) (tVar i) ta) tb Nk)) (Ip mv ma mb) :=
 ⟨S6 hw.p (cW (TY (IxR.or R3 TJ) (Ej hi hv hd hcd) ha.p hpi) hb.p set_list has) hs2 hw2,zO hw.s ha.s hb.s⟩
def oR(hw:DE X E e tv mv)(hb:DE X E eb tb mb)(hi:X.N[i]?=some y:=by rfl)(hv:Dv X.env.scope y:=by first | exact Or.inl rfl | exact Or.inr (Or.inl rfl) | exact Or.inr (Or.inr rfl))(hd:ND y:=by decide)(hcd:NE y:=by decide) (has:∀v,assign (.Subscript (.Name y np) eb ip2) X.env v=(do
   let ov <-holding [v] (eval (.Name y np) X.env)
   let iv <-holding [v,ov] (eval eb X.env)
   standAt ip2
   holding [v,ov,iv] (setItem ov iv v)
   release [v,ov,iv] []):=by intro _;rfl) (hs2:swapsWithSole [.Subscript (.Name y np) eb ip2] e spos.line X.env=pure false:=by rfl) (hw2:swappedStores [.Subscript (.Name y np) eb ip2] e X.env=pure none:=by rfl) :
  DS X E (.Assign [.Subscript (.Name y np) eb ip2] e spos) (tAsg tv (gSub (tVar i) tb Nk)) (setO i mv mb) :=
 ⟨S6 hw.p (cW (Ej hi hv hd hcd) hb.p set_list has) hs2 hw2,oh hw.s hb.s⟩
def dN(i)(h:DE X E e te me):DE X E e te (pkN i me):=⟨h.p,Zui i h.s⟩
def aZ{j1:Nat}{q1 q2:Pos}(hi:X.N[i]?=some x)(hj:X.N[j]?=some y)(vx:Dv X.env.scope x:=by first | exact Or.inl rfl | exact Or.inr (Or.inl rfl) | exact Or.inr (Or.inr rfl))(vy:Dv X.env.scope y:=by first | exact Or.inl rfl | exact Or.inr (Or.inl rfl) | exact Or.inr (Or.inr rfl))(d1:ND x:=by decide)(d2:NE x:=by decide)(d3:ND y:=by decide)(d4:NE y:=by decide)(s1:starEach [.Name x q1,.Name y q2] X.env=(false,eval (.Name x q1) X.env)::starEach [.Name y q2] X.env:=by rfl)(s2:starEach [.Name y q2] X.env=(false,eval (.Name y q2) X.env)::starEach [] X.env:=by rfl) :
  DY X i J (.Return (some (.Tuple [.Name x q1,.Name y q2] j1 pos)) spos) (tRet (tTup (BW (tVar i) (BW (tVar j) tNil)))) (retY j) :=
 ⟨ZJ (Wu (Dt (Ej hi vx d1 d2) (Dt (Ej hj vy d3 d4) Fw s2) s1)),jc⟩
structure DAy(X:Cx)(E:XK)(i l:Nat)(sh:List Nat)(es:List Expr)(t:TA)(m:MR):Prop where
 p:PA X es t
 s:SAy X.K X.mg i l sh t m
def aU:DAy X E i l [] [] tNil rNil:=⟨Fw,ju⟩
def Lh{sh:List Nat}{t:TA}{m:MR}(h:DE X E e te me)(r:DAy X E i l sh es t m)(hs:starEach (e::es) X.env=(false,eval e X.env)::starEach es X.env:=by rfl):DAy X E i l (0::sh) (e::es) (BW te t) (rIm me m):=⟨Dt h.p r.p hs,zF h.s r.s⟩
def Vs{sh:List Nat}{t:TA}{m:MR}(r:DAy X E i l sh es t m)(hi:X.N[i]?=some y:=by rfl)(hv:Dv X.env.scope y:=by first | exact Or.inl rfl | exact Or.inr (Or.inl rfl) | exact Or.inr (Or.inr rfl))(hd:ND y:=by decide)(hcd:NE y:=by decide)(hs:starEach (.Name y np::es) X.env=(false,eval (.Name y np) X.env)::starEach es X.env:=by rfl) :
  DAy X E i l (1::sh) (.Name y np::es) (BW (tVar i) t) (rRg m):=⟨Dt (Ej hi hv hd hcd) r.p hs,fY r.s⟩
def ZvU{sh:List Nat}{t:TA}{m:MR}(r:DAy X E i l sh es t m)(hi:X.N[l]?=some y:=by rfl)(hv:Dv X.env.scope y:=by first | exact Or.inl rfl | exact Or.inr (Or.inl rfl) | exact Or.inr (Or.inr rfl))(hd:ND y:=by decide)(hcd:NE y:=by decide)(hs:starEach (.Name y np::es) X.env=(false,eval (.Name y np) X.env)::starEach es X.env:=by rfl) :
  DAy X E i l (2::sh) (.Name y np::es) (BW (tVar l) t) (rOw l m):=⟨Dt (Ej hi hv hd hcd) r.p hs,vR r.s⟩
def dW{sh:List Nat}(h:(List.range sh.length).all (λk=>(sh[k]?==some 2)==(lc==some k))=true)(h2:(match lc with | some k=>decide (k<sh.length) | none=>true)=true):(∀k,sh[k]?=some 2->lc=some k)/\∀k,lc=some k->sh[k]?=some 2:=by
 rw [List.all_eq_true] at h;refine ⟨λk e=>?_,λk e=>?_⟩
 .have z:=h k (CN.mpr (Cm.mp e).1);rw [e] at z;simpa using z
 .subst e;have z:=h k (CN.mpr (by simpa using h2));simpa using z
def YX{kk ll ic:Nat}{lc:Option Nat}{sh:List Nat}{f:FY}{t:TA}{m:MR}(C:CalY X.prog X.w X.K X.mg X.base kk x ps ic f)(hr:Room ll X.A)(hn:kk<=ll)(hg:Gl X x)(hx:Dr (CXR X.prog X.w) X E)(ha:DAy X E i l sh (e::es) t m)(hps:sh.length=ps.length:=by rfl)(hic:sh[ic]?=some 1:=by rfl)(h1:(List.range sh.length).all (λk=>(sh[k]?==some 2)==(lc==some k))=true:=by rfl)(h2:(match lc with | some k=>decide (k<sh.length) | none=>true)=true:=by rfl)(hdb:ND x:=by decide)(he:starEach (e::es) X.env=(false,eval e X.env)::starEach es X.env:=by rfl)(hpl:(backTo pos (starEach es X.env)).any (·.1)=false:=by rfl)(hsw:swapsWith (.Call (.Name x p) (e::es) [] pos) none spos.line X.env=pure false:=by rfl) :
  DY X i J (.Expr (.Call (.Name x p) (e::es) [] pos) spos) (CQ (Fe (spY X.K X.mg ps.length ic f) [] E t)) (GC f l lc m):=by
 obtain ⟨g,d,F,b,c,a⟩:=C.ex;exact ⟨HJ (Oh F (hr.mono hn) hg a c b .nil hx ha.p hdb he hpl) hsw,tQ ha.s hic (dW h1 h2).1 (dW h1 h2).2 hps⟩
def qg{t:TA}{m:MA}{lpos:Pos}(ha:DA X E n es t m)(hb:DE X E e tb mb)(hn:n<=sizeLine:=by decide):DEl X E (.BinOp (.List es lpos) .Mult e pos) (tOp rRep (tLst t) tb) (repD m mb):=⟨Yj uN (O8 ha.p) hb.p,Zuh (R:=RowR X.K X.mg) (λ_ _ p a es f h r=>⟨p,a,es,rfl,rfl,f,h,r⟩) ha.s ha.n hn hb.s⟩
def rT(hN:X.N.Nodup)(hix:X.N[i]?=some x)(hx:Loc X.env.scope x)(hi:DI X E tg iter wi mi)(O:Ep X own cap scope cl)(hc:X.calm=true)(hg:∀C s H fp pn,DG (Bh X (own++cap.map (·.1)) scope cl C s H fp pn) own.length tg (g C s H fp pn) gm)(ht:∀C s H fp pn,DTs (Bh X (own++cap.map (·.1)) scope cl C s H fp pn) E0 tsx (tt C s H fp pn) na)(he:∀C s H fp pn,DEl (Bh X (own++cap.map (·.1)) scope cl C s H fp pn) E0 elt (tf C s H fp pn) me)(hr:DYs X i J rest u k)(hts:tsx.length<=1:=by decide)(hsw:swapsWith (.ListComp elt [⟨tg,iter,tsx,0⟩] scope pos) (some (.Name x pos')) spos.line X.env=pure true:=by rfl)(hs:∀x,foldedSetIterable iter X.env x=pure x:=by intro _;rfl)(hf:X.fn x=true\/X.env.scope.names.lookup x=some .local:=by first | exact .inl rfl | exact .inr rfl | assumption) :
  DSs X E (.Assign [.Name x pos'] (.ListComp elt [⟨tg,iter,tsx,0⟩] scope pos) spos::rest) (tSeq (tAsg (Et wi g tt tf own cap) (Ci i)) u) (regY i (comp mi own.length (cap.map (·.2)) gm na me) k) :=
 ⟨Hv (Uc hN hix hx hi.p O hc (λC s H fp pn=>(hg C s H fp pn).p) (λC s H fp pn=>(ht C s H fp pn).p) (λC s H fp pn=>(he C s H fp pn).p) hts hsw hs hf) hr.p,
  ZvH hi.s (λC s H fp pn=>(hg C s H fp pn).s) (λC s H fp pn=>(ht C s H fp pn).s) (λC s H fp pn=>(he C s H fp pn).s) hr.s⟩
end
section
def yh(he:SE K mg E te me)(hij:i≠j):SS K mg E (CQ (tBM K "list" Gp (tVar i) (BW (tBM K "list" Uw (tVar j) (BW te tNil)) tNil))) (appP i j me):=by
 intro h l F H Y Z g;unfold appP;cases ei:Z[i]? with
 | none=>trivial
 | some c=>
 cases c with
 | no=>trivial
 | im d=>trivial
 | ow xs=>
 cases ej:Z[j]? with
 | none=>trivial
 | some c=>
 cases c with
 | no=>trivial
 | im d=>trivial
 | ow ys=>
 show AnsS K mg E h l F ((noEx (me Z)).bind λd=>match (intY d).bind λk=>if 0<=k/\k<ys.length/\k<10000 then some k.toNat else none with
  | some c=>popP i j Z xs ys c
  | none=>.bad) _
 have C:=he h l F H Y Z g;cases q1:me Z with
 | bad=>trivial
 | ex c=>trivial
 | ok d=>
 rw [q1] at C;cases d with
 | int k=>
  show AnsS K mg E h l F (match (if 0<=k/\k<ys.length/\k<10000 then some k.toNat else none) with
   | some c=>popP i j Z xs ys c
   | none=>.bad) _
  by_cases hk:0<=k/\k<(ys.length:Int)/\k<10000
  case neg=>rw [iN hk];trivial
  rw [iP hk];show AnsS K mg E h l F (popP i j Z xs ys k.toNat) _;have A:k.toNat<ys.length:=by omega
  unfold popP;rw [BX A];show AnsS K mg E h l F (if xs.length<10000 then .ok (.nx ((Z.set j (.ow (ys.eraseIdx k.toNat))).set i (.ow (xs++[ys[k.toNat]])))) else .bad) _
  by_cases hx:xs.length<10000
  case neg=>rw [iN hx];trivial
  rw [iP hx];obtain ⟨a,r,t,W,V,G,u⟩:=g.ow i xs ei;obtain ⟨b,s,p,U,I,x,n⟩:=g.ow j ys ej
  exact λD q=>⟨.ref a,t,.inl ⟨rfl,r,SqL.of G⟩,.ref b,p,.inl ⟨rfl,s,SqL.of x⟩,C _ λN S y e O=>by
   cases O;obtain ⟨T,L⟩:=e.o a _ V G;obtain ⟨J,B⟩:=e.o b _ I x;have m:a≠b:=λz=>hij (g.ne i j xs ys a ei ej t (z▸p));obtain ⟨v,R,P⟩:=(n.same e.f).get (BX A);have Q:=(g.gr e).put ej p B U J (Rps.eraseIdx k.toNat (n.same e.f));have w:upd S b (.lst (s.eraseIdx k.toNat)) a=some (.lst r):=by rw [Ag m];exact L
   have M:(Z.set j (.ow (ys.eraseIdx k.toNat)))[i]?=some (.ow xs):=by rw [List.getElem?_set_ne (Ne.symm hij)];exact ei
   refine ⟨b,s,k,k.toNat,v,rfl,rfl,B,by omega,by omega,?_,R,a,r,v,rfl,rfl,w,?_,q N _ Y e.f (Q.app M t w W T (u.same e.f) P)⟩
   .have z:¬k<0:=by omega
    simp [seqIndex?,n.length,z,hk.1,hk.2.1]
   .rw [u.length];exact Bu hx (by decide)⟩
 | _=>trivial
end
section
variable {J:List Nat} {y:Str}
def uD(i j)(he:DE X E e te me)(hij:i≠j:=by decide)(hN:X.N[i]?=some x:=by rfl)(hN2:X.N[j]?=some y:=by rfl)(hv:Dv X.env.scope x:=by first | exact Or.inl rfl | exact Or.inr (Or.inl rfl) | exact Or.inr (Or.inr rfl))(hd:ND x:=by decide)(hcd:NE x:=by decide)(hv2:Dv X.env.scope y:=by first | exact Or.inl rfl | exact Or.inr (Or.inl rfl) | exact Or.inr (Or.inr rfl))(hd2:ND y:=by decide)(hcd2:NE y:=by decide)(hbase:attributeBase (.Name x np) "append" X.env (eval (.Name x np) X.env)=eval (.Name x np) X.env:=by rfl) (hfew:((backTo cpos (starEach [.Call (.Attribute (.Name y np2) "pop" apos2) [e] [] cpos2] X.env)).all (λx=>!x.1)&&(backToKw cpos (keywordEach [] X.env)).all (λx=>x.1.isSome)
   && decide (([.Call (.Attribute (.Name y np2) "pop" apos2) [e] [] cpos2]:List Expr).length+([]:List Keyword).length+(if ([]:List Keyword).isEmpty then 0 else 1)<30))=true:=by rfl) (hline:(apos.endLine==cpos.line)=true:=by rfl) (hs:starEach [.Call (.Attribute (.Name y np2) "pop" apos2) [e] [] cpos2] X.env=(false,eval (.Call (.Attribute (.Name y np2) "pop" apos2) [e] [] cpos2) X.env)::starEach [] X.env:=by rfl) (hplain:(backTo cpos (starEach [] X.env)).any (·.1)=false:=by rfl) (hbase2:attributeBase (.Name y np2) "pop" X.env (eval (.Name y np2) X.env)=eval (.Name y np2) X.env:=by rfl) (hfew2:((backTo cpos2 (starEach [e] X.env)).all (λx=>!x.1)&&(backToKw cpos2 (keywordEach [] X.env)).all (λx=>x.1.isSome)
   && decide (([e]:List Expr).length+([]:List Keyword).length+(if ([]:List Keyword).isEmpty then 0 else 1)<30))=true:=by rfl) (hline2:(apos2.endLine==cpos2.line)=true:=by rfl) (hs2:starEach [e] X.env=(false,eval e X.env)::starEach [] X.env:=by rfl) (hplain2:(backTo cpos2 (starEach [] X.env)).any (·.1)=false:=by rfl) (hsw:swapsWith (.Call (.Attribute (.Name x np) "append" apos) [.Call (.Attribute (.Name y np2) "pop" apos2) [e] [] cpos2] [] cpos) none spos.line X.env=pure false:=by rfl) :
  DS X E (.Expr (.Call (.Attribute (.Name x np) "append" apos) [.Call (.Attribute (.Name y np2) "pop" apos2) [e] [] cpos2] [] cpos) spos) (CQ (tBM X.K "list" Gp (tVar i) (BW (tBM X.K "list" Uw (tVar j) (BW te tNil)) tNil))) (appP i j me) :=
 ⟨HJ (KR J9 PySem.F.slot_list_append PySem.F.type_list_append Ut (Ej hN hv hd hcd) (Dt (KR J9 PySem.F.slot_list_pop PySem.F.type_list_pop vd (Ej hN2 hv2 hd2 hcd2) (Dt he.p Fw hs2) hbase2 hfew2 hline2 hs2 hplain2) Fw hs) hbase hfew hline hs hplain) hsw,
  yh he.s hij⟩
def wZ{tsx:List Expr}{own:List Str}{cap:List (Str×Nat)}{scope:Scope}{cl:List (Str×Addr)}{wi:TI}{mi:MI}{g:Fam TG}{gm:MG}{tt:Fam TT}{tf:Fam TE}{na:MB}{k:MY}{u:TS}{tg iter elt:Expr}{rest:List Stmt}(hN:X.N.Nodup)(hix:X.N[i]?=some x)(hx:Loc X.env.scope x)(hi:DI X E tg iter wi mi)(O:Ep X own cap scope cl)(hc:X.calm=true)(hg:∀C s H fp pn,DG (Bh X (own++cap.map (·.1)) scope cl C s H fp pn) own.length tg (g C s H fp pn) gm)(ht:∀C s H fp pn,DTs (Bh X (own++cap.map (·.1)) scope cl C s H fp pn) E0 tsx (tt C s H fp pn) na)(he:∀C s H fp pn,DEl (Bh X (own++cap.map (·.1)) scope cl C s H fp pn) E0 elt (tf C s H fp pn) me)(hr:DYs X i J rest u k)(hts:tsx.length<=1:=by decide)(hsw:swapsWith (.ListComp elt [⟨tg,iter,tsx,0⟩] scope pos) (some (.Name x pos')) spos.line X.env=pure true:=by rfl)(hs:∀x,foldedSetIterable iter X.env x=pure x:=by intro _;rfl)(hf:X.fn x=true\/X.env.scope.names.lookup x=some .local:=by first | exact .inl rfl | exact .inr rfl | assumption) :
  DSt2 X E (.Assign [.Name x pos'] (.ListComp elt [⟨tg,iter,tsx,0⟩] scope pos) spos::rest) (tSeq (tAsg (Et wi g tt tf own cap) (Ci i)) u) (regT i (comp mi own.length (cap.map (·.2)) gm na me) k) :=
 ⟨Hv (Uc hN hix hx hi.p O hc (λC s H fp pn=>(hg C s H fp pn).p) (λC s H fp pn=>(ht C s H fp pn).p) (λC s H fp pn=>(he C s H fp pn).p) hts hsw hs hf) hr.p,
  wy hi.s (λC s H fp pn=>(hg C s H fp pn).s) (λC s H fp pn=>(ht C s H fp pn).s) (λC s H fp pn=>(he C s H fp pn).s) hr.s⟩
end
section
variable {f:Addr} {dV:Value}
def okTF{st:Stmt}{m:ME}(F:FunD K x x st dV f fd)(S:Ca N ps (Av st))(h:∀(cdv:Value) (A:Around) (outer:List Env) (s:Shared) (H:Hp) (E:XK),Room k (A.deeper (envOfC x (Av st) s.heap.objs.size f cdv))->∃t,DSt2 (cxOf (CXR P w) P w K mg base N x (Av st) f cdv A outer s H E) E (DX st) t m) :
  FnOk P w K mg base (CXR P w) (k+1) f fd ps (spT K mg ps.length (fnR N.length m)):=by
 obtain ⟨V,R,X,J,T,U,cdv,W,L,rfl,I,j⟩:=F.ex;refine K6 I j S (λu H Q E q=>q.1) λA outer s H u Q E O n=>?_;obtain ⟨t,v⟩:=h cdv A outer s H E O;refine ⟨t,v.p,?_⟩;obtain ⟨_,y,r,G,D,o,b,a⟩:=n;have z:=v.s y H y H (start N u) (ev0 N.length r) (N8 G D);unfold fnR at o b a;cases e:m (ev0 N.length r) with
 | ok d=>
  rw [e] at z;exact z _ λl i x g M=>b d e l i x g M
 | ex c=>
  rw [e] at z;exact z _ λl i C g B=>a c e l i C g B
 | bad=>exact aB e o
structure T4(P:Program)(w:World)(K:W.Frag)(mg:Str->Option Value)(base:Heap)(n:Nat)(x:Str)(ps ks:List Str)(ix:List (Option Nat))(m:List D->Res D):Prop where
 ex:∃(f:Addr) (fd:FuncData),FnOk P w K mg base (CXR P w) n f fd ps (spT K mg ps.length m)/\DfB K fd ps ks ix/\W.keepIn K (.ref f)=true/\mg x=some (.ref f)
end
section
variable {l n':Nat} {ks:List Str} {ix:List (Option Nat)} {f:List D->Res D} {t tk:TA} {m mk:MA} {kws:List Keyword} {p:Pos}
def uE(ha:SA X.K X.mg E t m)(hl:SAn n m)(hk:SA X.K X.mg E tk mk)(hn:n+ix.length=n'):SEt X.K X.mg E (cT (spT X.K X.mg n' f) (λvs zs=>vs++GK ix zs) E t tk) (onK f ix m mk):=by
 intro M v w F H Y Z o A;refine (ha v w F H Y Z o).bindE (w':=λvs j Q=>tk Y j λzs h=>spT X.K X.mg n' f (vs++GK ix zs) h Q E) λu e B j vs k y=>?_;refine (hk v w B j Y Z (o.gr k)).bindE (w':=λzs h Q=>spT X.K X.mg n' f (vs++GK ix zs) h Q E) λI O r h zs i G=>?_;have b:=Rps.app (Qg G ix) (y.same i.f);have a:(vs++GK ix zs).length=n':=by rw [b.length,Bo,ao,hl Z u e,hn]
 cases ef:f (u++Np ix I) with
 | bad=>trivial
 | ex c=>exact λQ q=>⟨a,r,_,i.s,b,(by rw [ef];intro z;cases z),(λd z=>by rw [ef] at z;cases z),λL z p l C g D=>by
   rw [ef] at z;cases z
   exact q p l C g D⟩
 | ok d=>exact λQ q=>⟨a,r,_,i.s,b,(by rw [ef];intro z;cases z),(λN z p l x g J=>by
   rw [ef] at z;cases z
   exact q _ _ _ g (J.down (A.trans (k.f.trans i.f)))),λL z=>by rw [ef] at z;cases z⟩
def jz(C:T4 X.prog X.w X.K X.mg X.base k x ps [] ix f)(hr:Room l X.A)(hn:k<=l)(hg:Gl X x)(hx:Dr (CXR X.prog X.w) X E)(ha:DA X E n (e::es) t m)(hps:n+ix.length=ps.length:=by rfl)(hdb:ND x:=by decide)(he:starEach (e::es) X.env=(false,eval e X.env)::starEach es X.env:=by rfl)(hpl:(backTo pos (starEach es X.env)).any (·.1)=false:=by rfl) :
  DEt X E (.Call (.Name x p) (e::es) [] pos) (Fe (spT X.K X.mg ps.length f) (GK ix []) E t) (onK f ix m Ab):=by
 obtain ⟨g,i,F,b,a,j⟩:=C.ex;have d:Binds X.K i ps (JR ix []):=λs h o c=>b s h [] o c;refine ⟨Oh F (hr.mono hn) hg j a d (RG .nil ix) hx ha.p hdb he hpl,?_⟩;exact uE (tk:=tNil) (mk:=Ab) ha.s ha.n O6 hps
end
end L2.Ds
namespace Dl
def insI(p:Int):List Int->List Int
 | []=>[p]
 | q::r=>if p<=q then p::q::r else q::insI p r
def sortI:List Int->List Int
 | []=>[]
 | p::r=>insI p (sortI r)
def Om:List D->Res D
 | [.lst ds]=>(FZ ds).bind λa=>if ds.length<64 then .ok (.lst ((sortI a).map .int)) else .bad
 | _=>.bad
def bLR:List D->Res D
 | [.int n]=>if 0<=n/\n<=10000 then .ok (.lst ((List.range n.toNat).map λk:Nat=>D.int k)) else .bad
 | _=>.bad
def insI_perm(p):∀l,(insI p l).Perm (p::l)
 | []=>.refl _
 | q::r=>by
  unfold insI;split
  .exact .refl _
  .exact ((insI_perm p r).cons q).trans (.swap p q r)
def sortI_perm:∀l,(sortI l).Perm l
 | []=>.refl _
 | p::r=>(insI_perm p _).trans ((sortI_perm r).cons p)
def Yx:∀{l:List Int},l.Pairwise (·<=·)->(insI p l).Pairwise (·<=·)
 | [],_=>List.pairwise_singleton _ _
 | q::r,h=>by
  have a:=FQ.mp h;unfold insI;split
  .next c=>
   refine FQ.mpr ⟨λx hx=>?_,h⟩;rcases Aj.mp hx with rfl | hx
   .exact c
   .exact Int.le_trans c (a.1 x hx)
  .next c=>
   refine FQ.mpr ⟨λx hx=>?_,Yx a.2⟩;rcases Aj.mp ((insI_perm p r).mem_iff.mp hx) with rfl | hx
   .omega
   .exact a.1 x hx
def UV:∀l,(sortI l).Pairwise (·<=·)
 | []=>List.Pairwise.nil
 | _::r=>Yx (UV r)
def cA:∀{l m:List Int},l.Perm m->l.Pairwise (·<=·)->m.Pairwise (·<=·)->l=m
 | [],m,hp,_,_=>(List.Perm.eq_nil hp.symm).symm
 | a::r,[],hp,_,_=>aB hp.length_eq (by simp)
 | a::r,b::t,hp,h1,h2=>by
  have c:=FQ.mp h1;have d:=FQ.mp h2;have e:a=b:=by
   have ha:a∈b::t:=hp.mem_iff.mp BR;have f:b∈a::r:=hp.mem_iff.mpr BR;rcases Aj.mp ha with e | ha
   .exact e
   .rcases Aj.mp f with e | hb'
    .exact e.symm
    .have g:=c.1 b hb';have h:=d.1 a ha;omega
  subst e;rw [cA (List.Perm.cons_inv hp) c.2 d.2]
end Dl
namespace L2
def ZM(K:W.Frag):List V->Hp->VK->Prop:=λb H Q=>∃l a,b=[.ref l]/\SqL K H l (a.map V.int)/\a.length<64/\∀D,H D=none->Q (.ref D) (upd H D (.lst ((Dl.sortI a).map V.int)))
def Zh7:∃n,(sortedAll h vs out).get? (h.objs.size+1)=some { cls:=.type "list",data:=.seq out n }:=by
 have d:((h.push (seqObj "list" #[] 0)).update h.objs.size (Obj.mapSeq (·++vs.toArray))).objs.size=h.objs.size+1:=by
  rw [J0,size_push']
 have b:(((h.push (seqObj "list" #[] 0)).update h.objs.size (Obj.mapSeq (·++vs.toArray))).push (seqObj "list" vs.toArray 0)).get? (h.objs.size+1)=some (seqObj "list" vs.toArray 0):=by
  rw [<-d];exact Bp _ rfl
 have i:=Aq b;unfold sortedAll sortedHeap;generalize ((h.push (seqObj "list" #[] 0)).update h.objs.size (Obj.mapSeq (·++vs.toArray))).push (seqObj "list" vs.toArray 0)=g at *;generalize h.objs.size+1=a at *;obtain ⟨f,c⟩ : ∃f,(g.update a (Obj.mapSeq λ_=>#[])).get? a=some (seqObj "list" #[] f):=⟨_,get?_update_seq b (λ_=>#[])⟩;have e:(((g.update a (Obj.mapSeq λ_=>#[])).push (seqObj "tuple" vs.toArray 0)).push (seqObj "list" #[] 0)).get? a=some (seqObj "list" #[] f):=by
  rw [Jm _ _ _ (by rw [size_push',J0];exact BK (Gf i)),Jm _ _ _ (by rw [J0];exact BK i)];exact c
 exact ⟨_,get?_update_seq e (λ_=>out)⟩
def kI(q:h.get? b=some o):(sortedAll h vs out).get? b=some o:=by
 have c:=Aq q;have a:((h.push (seqObj "list" #[] 0)).update h.objs.size (Obj.mapSeq (·++vs.toArray))).objs.size=h.objs.size+1:=by
  rw [J0,size_push']
 have e:b≠h.objs.size:=BK c;have d:b≠h.objs.size+1:=BK (Gf c);unfold sortedAll sortedHeap;rw [Heap.get?_update_ne _ _ _ _ d,Jm _ _ _ (by rw [size_push',J0,size_push',a];exact BK (Gf (Gf (Gf c)))),Jm _ _ _ (by rw [J0,size_push',a];exact BK (Gf (Gf c))),Heap.get?_update_ne _ _ _ _ d,Jm _ _ _ (by rw [a];exact d),Heap.get?_update_ne _ _ _ _ e,Jm _ _ _ e];exact q
def Xz:∀{ns:List Int} {its:List Value},Vals (ns.map V.int) its->IntsAre its ns
 | [],_,.nil=>.nil
 | n::r,_,.cons h t=>by
  obtain ⟨a,rfl⟩:=h;exact .cons n a (Xz t)
section
def lw:Ey X (.builtin "sorted") (ZM X.K):=by
 intro p s Y H vs F Q I t ⟨l,f,e,y,E,w⟩;subst e;cases t with
 | cons r1 rr=>
  cases rr;cases r1;obtain ⟨d,r,⟨o,n,D,z,_,A⟩,_⟩:=I.list y;have m:d.length=f.length:=by have:=r.length;rw [Af] at this;exact this.symm
  refine sorted_ints (vs:=d) ⟨o,D,z,n,A⟩ (Xz r) (by omega) λout g v k B=>?_;have j:g=Dl.sortI f:=Dl.cA (k.trans (Dl.sortI_perm f).symm) B (Dl.UV f);subst j;obtain ⟨c,q⟩:=Zh7 (h:=s.heap) (vs:=d) (out:=out);have C:Vals ((Dl.sortI f).map V.int) out.toList:=Rn v;have i:((Dl.sortI f).map V.int).length<=sizeLine:=by rw [Af,k.length_eq,sizeLine_eq];omega
  have x:=I.laid (a:=s.heap.objs.size+1) (t':=s.toks) (o:=.lst ((Dl.sortI f).map V.int)) (h':=sortedAll s.heap d out) (λb u e=>kI e) (Ja _) ⟨i,out.toList,c,C,by rw [Array.toArray_toList];exact q⟩;exact ⟨.ref (s.heap.objs.size+1),_,x,rfl,w _ (I.hok.fresh (Ja _))⟩
def tLR(ta:TA):TE:=λY H Q=>ta Y H λb a=>∃n:Nat,b=[.int n]/\n<=10000/\∀S,a S=none->Q (.ref S) (upd a S (.lst ((List.range n).map λk:Nat=>V.int k)))
def Y8(hc:X.calm=true)(hg:Gl X "range")(hm:X.mg "range"=none)(hgl:Gl X "list")(hml:X.mg "list"=none)(ha:PA X [a] ta)(hs:starEach [a] X.env=[(false,eval a X.env)]:=by rfl)(hs3:starEach [.Call (.Name "range" np) [a] [] pos] X.env=(false,eval (.Call (.Name "range" np) [a] [] pos) X.env)::starEach [] X.env:=by rfl) :
  PE X (.Call (.Name "list" lp) [.Call (.Name "range" np) [a] [] pos] [] pos') (tLR ta):=by
 intro d s Y H Q I h;refine Call_ (GZ I hgl hml VN (G3 ?_ hs3 rfl));rw [hs3];show wpAny _ _ (spliced ((false,eval (.Call (.Name "range" np) [a] [] pos) X.env)::backTo pos' (starEach [] X.env))) _ _ s;refine Calls.spliced_cons ?_;refine Call_ (GZ I hg hm boot_range (G3 (thn (ha pos d s Y H _ I h) λP u zq=>?_) hs rfl));obtain ⟨O,L,C,D,M⟩:=zq;obtain ⟨n,e,B,q⟩:=M;subst e;cases D with
 | cons r rr=>
  cases rr;obtain ⟨t,rfl⟩:=r;refine call_range_1 ?_;refine Calls.spliced_nil ?_;have x:Inv X d Y L { u with heap:=u.heap.push { cls:=.type "range",data:=.fields #[.int 0 u.toks,.int n t,.int 1 (u.toks+1)] },toks:=u.toks+1+1 }:=C.kept λb o e=>Ao _ e
  refine call_list_range (n:=n) (x.ok.hd hc) (IsRange.new ..) (small_one (by omega) (by omega) (by omega) (by omega)) (by rw [rangeSize_one];split<;>omega) (CK B (by decide)) λN A g c K J z=>?_;have p:Vals ((List.range n).map λk:Nat=>V.int k) g.toList:=by
   have y:∀(l:List Value) (j m:Nat),l.length=m->(∀(i:Nat) (v:Value),l[i]?=some v->∃t,v=Value.int ((j+i:Nat):Int) t)->Vals ((List.range' j m).map λk:Nat=>V.int k) l:=by
    intro l
    induction l with
    | nil=>intro j m e _;cases e;exact .nil
    | cons v l ih=>
     intro j m e p;cases e;obtain ⟨t,F⟩:=p 0 v rfl;refine .cons ⟨t,F⟩ (ih (j+1) _ rfl λi E w=>?_);obtain ⟨t',f⟩:=p (i+1) E w;exact ⟨t',by rw [f,show j+(i+1)=j+1+i by omega]⟩
   rw [List.range_eq_range'];refine y g.toList 0 n (by rw [Kq];exact z.1) λi v p=>?_;obtain ⟨t',f⟩:=z.2 i v (by rw [<-p,Q8]);exact ⟨t',by rw [f];congr 1;omega⟩
  have G:=x.laid (t':=A) (o:=.lst ((List.range n).map λk:Nat=>V.int k)) K (Al _) ⟨by rw [Af,Bv,sizeLine_eq];omega,g.toList,c,p,by rw [Array.toArray_toList];exact J⟩;exact ⟨.ref _,_,G,rfl,q _ (x.hok.fresh (Al _))⟩
end
end L2
namespace L2.Ds
open Dl
section
variable {a:Expr} {t:TA} {m:MA} {lp p:Pos}
def Pb{F:Hp}:∀ns:List Int,Rps K mg F (ns.map V.int) (ns.map D.int)
 | []=>.nil
 | n::r=>.cons (.int n) (Pb r)
def vz:CallD K mg (ZM K) Om:=by
 intro E F H k i s b;unfold Om;split
 .next a=>
  obtain ⟨x,rfl,f⟩:=b.one;cases f with
  | @lst l zs _ h r=>
   cases e:FZ a with
   | bad=>trivial
   | ex c=>exact aB e (dC a)
   | ok ns=>
    show Ans mg E (Rp K mg) F H (if a.length<64 then _ else _) _
    by_cases hl:a.length<64
    case neg=>rw [iN hl];trivial
    rw [iP hl];have d:=bD r e;subst d;have j:ns.length=a.length:=by have:=r.length;rwa [Af] at this
    exact N5 s (λp g=>.lst (SqL.of Ak) (Pb _)) λQ q=>⟨l,ns,rfl,s.seq h,by omega,q⟩
 .trivial
def Yc(hcm:X.calm=true)(hg:Gl X "range")(hm:X.mg "range"=none)(hgl:Gl X "list")(hml:X.mg "list"=none)(ha:DA X E n [a] t m)(hs:starEach [a] X.env=[(false,eval a X.env)]:=by rfl)(hs3:starEach [.Call (.Name "range" p) [a] [] pos] X.env=(false,eval (.Call (.Name "range" p) [a] [] pos) X.env)::starEach [] X.env:=by rfl) :
  DE X E (.Call (.Name "list" lp) [.Call (.Name "range" p) [a] [] pos] [] pos') (tLR t) (on bLR m):=by
 refine ⟨Y8 hcm hg hm hgl hml ha.p hs hs3,?_⟩;intro h j F H Y Z g;refine (ha.s h j F H Y Z g).bind (w':=λe b Q=>∃n:Nat,e=[V.int n]/\n<=10000/\∀S,b S=none->Q (V.ref S) (upd b S (.lst ((List.range n).map λk:Nat=>V.int k)))) λi b r l c d=>?_;unfold bLR;split
 .next z=>
  by_cases hz:0<=z/\z<=10000
  case neg=>rw [iN hz];trivial
  rw [iP hz];obtain ⟨x,rfl,f⟩:=d.one;cases f;refine N5 (o:=.lst ((List.range z.toNat).map λk:Nat=>V.int k)) c.s (λp u=>.lst (SqL.of Ak) ?_) λQ q=>⟨z.toNat,by rw [IW hz.1],by omega,q⟩;have:=Pb (K:=X.K) (mg:=X.mg) (F:=upd i p (.lst ((List.range z.toNat).map λk:Nat=>V.int k))) ((List.range z.toNat).map λk:Nat=>(k:Int));rw [DN,DN] at this;exact this
 .trivial
end
section
variable {a:Expr} {t:TA} {m:MA} {p lp np:Pos}
def ZoU(hN:X.N.Nodup)(hi:X.N[i]?=some x)(hx:Loc X.env.scope x)(hcm:X.calm=true)(hg:Gl X "range")(hm:X.mg "range"=none)(hgl:Gl X "list")(hml:X.mg "list"=none)(ha:DA X E n [a] t m)(hs1:starEach [a] X.env=[(false,eval a X.env)]:=by rfl)(hs3:starEach [.Call (.Name "range" p) [a] [] pos] X.env=(false,eval (.Call (.Name "range" p) [a] [] pos) X.env)::starEach [] X.env:=by rfl)(hs:swapsWith (.Call (.Name "list" lp) [.Call (.Name "range" p) [a] [] pos] [] pos') (some (.Name x np)) spos.line X.env=pure false:=by rfl)(hf:X.fn x=true\/X.env.scope.names.lookup x=some .local:=by first | exact .inl rfl | exact .inr rfl | assumption) :
  DS X E (.Assign [.Name x np] (.Call (.Name "list" lp) [.Call (.Name "range" p) [a] [] pos] [] pos') spos) (tAsg (tLR t) (Ci i)) (stO i (on bLR m)):=by
 refine ⟨Ra hN hi hx (Y8 hcm hg hm hgl hml ha.p hs1 hs3) hs hf,λl r F H Y Z b=>?_⟩;have h:=ha.s l r F H Y Z b;unfold stO on;cases e:m Z with
 | bad=>trivial
 | ex c=>
  rw [e] at h;exact λD q=>h _ λG u C g I=>q G u C (b.g.trans g) I
 | ok ds=>
  rw [e] at h;show AnsS X.K X.mg E l r F ((bLR ds).bind λd=>(lstO d).bind λA=>.ok (.nx (Z.set i (.ow A)))) _;unfold bLR;split
  .next z=>
   by_cases hz:0<=z/\z<=10000
   case neg=>rw [iN hz];trivial
   rw [iP hz];refine λD q=>h _ λo L J j w=>?_;obtain ⟨y,rfl,v⟩:=w.one;cases v;refine ⟨z.toNat,by rw [IW hz.1],by omega,λS B=>q o _ _ j.f ((b.gr j).own i B ?_)⟩;have:=Pb (K:=X.K) (mg:=X.mg) (F:=o) ((List.range z.toNat).map λk:Nat=>(k:Int));rw [DN,DN] at this;exact this
  .trivial
end
end L2.Ds
namespace Dl
def Sm(k:Nat)(x:Int):Prop:=x.natAbs<2^k
def Sm.mono{k n:Nat}{x:Int}(h:Sm k x)(hn:k<=n):Sm n x:=Bu h (Nat.pow_le_pow_right (by decide) hn)
def Sm.mul{m n:Nat}{x y:Int}(h:Sm m x)(g:Sm n y):Sm (m+n) (x*y):=by
 unfold Sm at *;rw [Int.natAbs_mul,Nat.pow_add];rcases Nat.eq_zero_or_pos x.natAbs with z | z
 .rw [z,Nat.zero_mul];exact Nat.mul_pos (Nat.two_pow_pos _) (Nat.two_pow_pos _)
 .exact G7 (Nat.mul_le_mul_left _ (JT g)) (Nat.mul_lt_mul_of_pos_right h (Nat.two_pow_pos _))
def Sm.add{m n:Nat}{x y:Int}(h:Sm m x)(g:Sm n y):Sm (max m n+1) (x+y):=by
 have b:=h.mono (Nat.le_max_left m n);have a:=g.mono (Nat.le_max_right m n);unfold Sm at *;rw [Nat.pow_succ];have:=Int.natAbs_add_le x y;omega
def Sm.neg{m:Nat}{x:Int}(h:Sm m x):Sm m (-x):=by
 unfold Sm at *;rw [Int.natAbs_neg];exact h
def Sm.sub{m n:Nat}{x y:Int}(h:Sm m x)(g:Sm n y):Sm (max m n+1) (x - y):=by
 rw [Int.sub_eq_add_neg];exact h.add g.neg
def Sm.le{m:Nat}{x y:Int}(h:Sm m x)(e:y.natAbs<=x.natAbs):Sm m y:=G7 e h
def Sm.of64{x:Int}(h1:-18446744073709551616<x)(h2:x<18446744073709551616):Sm 64 x:=by
 unfold Sm;have:(2:Nat)^64=18446744073709551616:=by decide
 omega
def Tw{n k:Nat}(h:n<2^k)(hk:0<k):n.log2<k:=by
 rcases Nat.eq_zero_or_pos n with z | z
 .rw [z];simpa using hk
 .exact (Nat.log2_lt (FN z)).mpr h
def Sm.log{m:Nat}{x:Int}(h:Sm m x)(hm:m<9000):x.natAbs.log2<9000:=Tw (h.mono (JT hm)) (by decide)
def rz{a b:Int}(h:Sm 64 a):Bj a b=true:=by
 unfold Bj;rw [Ew (show a.natAbs<2^64 from h)];rfl
def n7{a b:Int}(h:Sm 64 b):Bj a b=true:=by
 unfold Bj;rw [Ew (show b.natAbs<2^64 from h)];simp
def Cq{a b:Int}{m n:Nat}(h:Sm m a)(g:Sm n b)(hk:m+n<99999990):Bj a b=true:=by
 have c:=Tw (h.mono (Ja m)) (Nat.succ_pos _);have d:=Tw (g.mono (Ja n)) (Nat.succ_pos _);unfold Bj;rw [Ew (show a.natAbs.log2+b.natAbs.log2<100000000 by omega)];simp
def t6{a b:Int}(h:Bj a b=true):iMul a b=.ok (.int (a*b)):=by unfold iMul;rw [iP h]
def uc{a b:Int}(h:0<b):iMod a b=.ok (.int (a%b)):=by unfold iMod;rw [iP h]
def jL{a b:Int}(h:0<b)(hl:b.natAbs.log2<9000):iDiv a b=.ok (.int (a/b)):=by unfold iDiv;rw [iP hl,iP h]
def zg{a b:Int}(h:b<0)(hl:b.natAbs.log2<9000):iDiv a b=.ok (.int (a.fdiv b)):=by unfold iDiv;rw [iP hl,iN (by omega),iN (by omega)]
def ZrN{a b:Int}(h0:0<=b)(h1:b<=1000000)(h2:a.natAbs<2^64):iPow a b=.ok (.int (a^b.toNat)):=by unfold iPow;rw [iP ⟨h0,h1,h2⟩]
def lu{a b:Int}(h0:0<=b)(h1:b<=1000000)(h2:a.natAbs<2^64):iShl a b=.ok (.int (a*2^b.toNat)):=by unfold iShl;rw [iP ⟨h0,h1,h2⟩]
def o6{a b:Int}(h0:0<=b):iShr a b=.ok (.int (a/2^b.toNat)):=by unfold iShr;rw [iP h0]
def qN(a b:Int):dEq (.int a) (.int b)=.ok (.bl (decide (a=b))):=by
 show Res.ok (D.bl (a==b))=_;rw [Bool.beq_eq_decide_eq]
def ZsZ(a b:Int):dNe (.int a) (.int b)=.ok (.bl (!decide (a=b))):=by
 show Res.ok (D.bl (!(a==b)))=_;rw [Bool.beq_eq_decide_eq]
def aR{a b:List D}(h:a.length+b.length<=1000000):An (.lst a) (.lst b)=.ok (.lst (a++b)):=by
 show (if a.length+b.length<=LIM then Res.ok (D.lst (a++b)) else .bad)=_
 rw [iP (show a.length+b.length<=LIM from h)]
def fD(xs:List D)(i:Int):dIx (.lst xs) (.int i)=ofO (at_ xs i):=rfl
def qw(xs:List D):bLen [.lst xs]=.ok (.int xs.length):=rfl
def iY(xs:List D):bLen [.tup xs]=.ok (.int xs.length):=rfl
def Zn1(i:Int):bAbs [.int i]=.ok (.int i.natAbs):=by
 show Res.ok (D.int (if i<0 then -i else i))=_
 have:(if i<0 then -i else i)=(i.natAbs:Int):=by split<;>omega
 rw [this]
def ZoQ(i j:Int):bMin [.int i,.int j]=.ok (.int (min i j)):=by
 show Res.ok (D.int (if j<i then j else i))=_
 have:(if j<i then j else i)=min i j:=by split<;>omega
 rw [this]
def wL{j:Int}(h0:-1000000000<=j)(h1:j<=1000000000):rng1 [.int j]=.ok (Cd 0 j.toNat):=by
 show (if -1000000000<=j/\j<=1000000000 then Res.ok (Cd 0 j.toNat) else .bad)=_
 rw [iP ⟨h0,h1⟩]
def YF{g:MG}{b:MS}(I:List D->Ev->Prop):∀(xs pre:List D),(∀p x r,xs=p++x::r->∀Z,I (pre++p) Z->∃Z1 Z2,g x Z=.ok Z1/\b Z1=.ok (.nx Z2)/\I (pre++p++[x]) Z2)->∀Z,I pre Z->∃Z',Cj g b xs Z=.ok (.nx Z')/\I (pre++xs) Z'
 | [],pre,_,Z,i=>⟨Z,rfl,by rw [Bl];exact i⟩
 | x::r,pre,h,Z,i=>by
  obtain ⟨Z1,Z2,d,f,a⟩:=h [] x r rfl Z (by rw [Bl];exact i);rw [Bl] at a
  obtain ⟨Z',c,j⟩:=YF I r (pre++[x]) (λp y s e Z i=>by
   have z:=h (x::p) y s (by rw [e];rfl) Z (by simpa using i)
   simpa using z) Z2 a
  refine ⟨Z',?_,by simpa using j⟩;show (g x Z).bind (λZ1=>(b Z1).bind (turn (Cj g b r)))=_;rw [d];show (b Z1).bind (turn (Cj g b r))=_;rw [f];exact c
def j7(t:MB)(b:MS)(n:Nat)(Z:Ev):whGo t b (n+1) Z=(t Z).bind λx=>if x=true then (b Z).bind (turn (whGo t b n)) else .ok (.nx Z):=rfl
def Uy(g:MG)(t:MB)(e:ME)(Z:Ev)(x:D)(r:List D):Ar g t e Z (x::r)=(g x Z).bind λZ1=>(t Z1).bind λb=>if b=true then (e Z1).bind λy=>(Ar g t e Z r).bind λys=>.ok (y::ys) else Ar g t e Z r:=rfl
def WF{g:MG}{e:ME}{Z:Ev}(P:D->D->Prop):∀xs:List D,(∀x∈xs,∃Z1 y,g x Z=.ok Z1/\e Z1=.ok y/\P x y)->∃ys,Ar g yes e Z xs=.ok ys/\ys.length=xs.length/\∀(i:Nat) x y,xs[i]?=some x->ys[i]?=some y->P x y
 | [],_=>⟨[],rfl,rfl,λi x y h=>by simp at h⟩
 | x::r,h=>by
  obtain ⟨Z1,y,j,k,l⟩:=h x BR;obtain ⟨ys,f,n,q⟩:=WF P r λz m=>h z (BP _ m);refine ⟨y::ys,?_,CV (·+1) n,λi a b c d=>?_⟩
  .rw [Uy,j,HN];unfold yes at f ⊢;rw [HN,iP rfl,k,HN,f];rfl
  .cases i with
   | zero=>simp at c d;subst c d;exact l
   | succ i=>exact q i a b (by simpa using c) (by simpa using d)
def Tl{α:Type}(r:Res α)(U:α->Prop):Prop:=∃a,r=.ok a/\U a
section
variable{α β:Type}{U:α->Prop} {a b d:ME} {s t:MB}
def Ae{r:Res α}{x:α}(e:r=.ok x)(h:U x):Tl r U:=⟨x,e,h⟩
def Ai{x:α}(h:U x):Tl (.ok x) U:=⟨x,rfl,h⟩
def Am{r:Res β}{f:β->Res α}(h:Tl r λx=>Tl (f x) U):Tl (r.bind f) U:=by
 obtain ⟨x,rfl,y,e,q⟩:=h;exact ⟨y,e,q⟩
def Tl.mono{r:Res α}{Ψ:α->Prop}(h:Tl r Ψ)(k:∀x,Ψ x->U x):Tl r U:=by
 obtain ⟨x,e,q⟩:=h;exact ⟨x,e,k x q⟩
def Tl.eq{r:Res α}{x:α}(h:Tl r (·=x)):r=.ok x:=by
 obtain ⟨y,e,rfl⟩:=h;exact e
def UG{c:Bool}{A B:Res α}(hc:c=true)(h:Tl A U):Tl (if c=true then A else B) U:=by rw [iP hc];exact h
def Tv{c:Bool}{A B:Res α}(hc:c=false)(h:Tl B U):Tl (if c=true then A else B) U:=by rw [iN (by rw [hc];exact Dp)];exact h
def w_dT{P:Prop} [Decidable P] {A B:Res α} (hc:P) (h:Tl A U):Tl (if decide P=true then A else B) U:=UG (Ew hc) h
def w_dF{P:Prop} [Decidable P] {A B:Res α} (hc:¬P) (h:Tl B U):Tl (if decide P=true then A else B) U:=Tv (HQ hc) h
def w_nT{P:Prop} [Decidable P] {A B:Res α} (hc:¬P) (h:Tl A U):Tl (if (!decide P)=true then A else B) U:=UG (by rw [HQ hc];rfl) h
def w_nF{P:Prop} [Decidable P] {A B:Res α} (hc:P) (h:Tl B U):Tl (if (!decide P)=true then A else B) U:=Tv (by rw [Ew hc];rfl) h
def Eb{P:Prop} [Decidable P] {A B:Res α} (h1:P->Tl A U) (h2:¬P->Tl B U):Tl (if decide P=true then A else B) U:=by
 by_cases h:P
 .exact w_dT h (h1 h)
 .exact w_dF h (h2 h)
def Ly{P:Prop} [Decidable P] {A B:Res α} (h1:¬P->Tl A U) (h2:P->Tl B U):Tl (if (!decide P)=true then A else B) U:=by
 by_cases h:P
 .exact w_nF h (h2 h)
 .exact w_nT h (h1 h)
end
section
variable{U:D->Prop} {a b d:ME} {s t:MB} {m:MA}
def w_v{x:D}(e:Z[i]?=some (.im x))(h:U x):Tl (v i Z) U:=Ae (by unfold v;rw [e];rfl) h
def w_v'(h:Tl (getC Z[i]?) U):Tl (v i Z) U:=h
def w_gC{o:Option Cl}{x:D}(e:o=some (.im x))(h:U x):Tl (getC o) U:=Ae (by rw [e];rfl) h
def w_c{x:D}(h:U x):Tl (c x Z) U:=Ai h
def w_o1{f:D->Res D}(h:Tl (a Z) λx=>Tl (f x) U):Tl (o1 f a Z) U:=Am h
def w_o2{f:D->D->Res D}(h:Tl (a Z) λx=>Tl (b Z) λy=>Tl (f x y) U):Tl (o2 f a b Z) U:=Am (h.mono λ_ q=>Am q)
def w_on{f:List D->Res D}(h:Tl (m Z) λxs=>Tl (f xs) U):Tl (on f m Z) U:=Am h
def nu(h:Tl (m Z) λxs=>U (.tup xs)):Tl (mtp m Z) U:=Am (h.mono λ_ q=>Ai q)
def Su(h:Tl (m Z) λxs=>U (.lst xs)):Tl (mls m Z) U:=Am (h.mono λ_ q=>Ai q)
def jV(h:Tl (trb a Z) λx=>Tl (if x=true then b Z else .ok (.bl false)) U):Tl (eAnd a b Z) U:=Am h
def yc(h:Tl (trb a Z) λx=>U (.bl (!x))):Tl (eNot a Z) U:=Am (h.mono λ_ q=>Ai q)
def Zxt(h:Tl (t Z) λx=>Tl (if x=true then a Z else b Z) U):Tl (ife t a b Z) U:=Am h
def Ss{lo hi:Ev->Res (Option Int)}(h:Tl (a Z) λx=>Tl (lo Z) λl=>Tl (hi Z) λu=>Tl (dCut x l u) U):Tl (cut a lo hi Z) U:=Am (h.mono λ_ q=>Am (q.mono λ_ q=>Am q))
def Lr{it:MI}{own:Nat}{cap:List Nat}{g:MG}{e:ME}(h:Tl (it Z) λxs=>xs.length<=1000000/\Tl (Ar g t e (noA own (Az Z cap)) xs) λys=>U (.lst ys)):Tl (comp it own cap g t e Z) U:=by
 refine Am (h.mono λxs q=>?_);rw [iP (show xs.length<=LIM from q.1)];obtain ⟨ys,b,a⟩:=q.2;rw [b];exact Ai a
def w_fn{k:MS}{ds:List D}(h:Tl (k (ev0 n ds)) λf=>Tl (endOf f) U):Tl (fn n k ds) U:=Am h
def uh{x y:Int}(h:U (.int (x+y))):Tl (An (.int x) (.int y)) U:=Ai h
def dR{x y:List D}(hl:x.length+y.length<=1000000)(h:U (.lst (x++y))):Tl (An (.lst x) (.lst y)) U:=Ae (aR hl) h
def w_sub{x y:Int}(h:U (.int (x - y))):Tl (dSub (.int x) (.int y)) U:=Ai h
def w_mul{x y:Int}(hm:Bj x y=true)(h:U (.int (x*y))):Tl (Aw (.int x) (.int y)) U:=Ae (t6 hm) h
def w_mod{x y:Int}(hy:0<y)(h:U (.int (x%y))):Tl (Ax (.int x) (.int y)) U:=Ae (uc hy) h
def w_div{x y:Int}(hy:0<y)(hl:y.natAbs.log2<9000)(h:U (.int (x/y))):Tl (Bb (.int x) (.int y)) U:=Ae (jL hy hl) h
def w_divN{x y:Int}(hy:y<0)(hl:y.natAbs.log2<9000)(h:U (.int (x.fdiv y))):Tl (Bb (.int x) (.int y)) U:=Ae (zg hy hl) h
def w_pow{x y:Int}(h0:0<=y)(h1:y<=1000000)(h2:x.natAbs<2^64)(h:U (.int (x^y.toNat))):Tl (dPow (.int x) (.int y)) U:=Ae (ZrN h0 h1 h2) h
def w_shl{x y:Int}(h0:0<=y)(h1:y<=1000000)(h2:x.natAbs<2^64)(h:U (.int (x*2^y.toNat))):Tl (dShl (.int x) (.int y)) U:=Ae (lu h0 h1 h2) h
def w_shr{x y:Int}(h0:0<=y)(h:U (.int (x/2^y.toNat))):Tl (dShr (.int x) (.int y)) U:=Ae (o6 h0) h
def xN{x:Int}(h:U (.int (-x))):Tl (dNeg (.int x)) U:=Ai h
def w_lt{x y:Int}(h:U (.bl (decide (x<y)))):Tl (dLt (.int x) (.int y)) U:=Ai h
def w_le{x y:Int}(h:U (.bl (decide (x<=y)))):Tl (dLe (.int x) (.int y)) U:=Ai h
def w_gt{x y:Int}(h:U (.bl (decide (y<x)))):Tl (dGt (.int x) (.int y)) U:=Ai h
def w_ge{x y:Int}(h:U (.bl (decide (y<=x)))):Tl (dGe (.int x) (.int y)) U:=Ai h
def zU{x y:Int}(h:U (.bl (decide (x=y)))):Tl (dEq (.int x) (.int y)) U:=Ae (qN x y) h
def Zwf{x y:Int}(h:U (.bl (!decide (x=y)))):Tl (dNe (.int x) (.int y)) U:=Ae (ZsZ x y) h
def uV{x:D}(h:U (.bl (Hu x))):Tl (dIsN x) U:=Ai h
def ZuF{x:D}(h:U (.bl (!Hu x))):Tl (G8 x) U:=Ai h
def tD{xs:List D}(h:U (.int xs.length)):Tl (bLen [.lst xs]) U:=Ai h
def gK{xs:List D}(h:U (.int xs.length)):Tl (bLen [.tup xs]) U:=Ai h
def vB{ns:List Int}(h:U (.int ns.length)):Tl (bLen [.tup (ns.map .int)]) U:=Ae (by rw [iY,Af]) h
def yg{ns:List Int}(h:U (.int ns.length)):Tl (bLen [.lst (ns.map .int)]) U:=Ae (by rw [qw,Af]) h
def q9{x:Int}(h:U (.int x.natAbs)):Tl (bAbs [.int x]) U:=Ae (Zn1 x) h
def oA{x y:Int}(h:U (.int (min x y))):Tl (bMin [.int x,.int y]) U:=Ae (ZoQ x y) h
def pP{xs:List D}(h:U (.tup xs)):Tl (bTup [.lst xs]) U:=Ai h
def VP{xs:List D}{lo hi:Option Int}(h:U (.lst (cutL xs lo hi))):Tl (dCut (.lst xs) lo hi) U:=Ai h
def wA{xs:List D}{lo hi:Option Int}(h:U (.tup (cutL xs lo hi))):Tl (dCut (.tup xs) lo hi) U:=Ai h
end
section
variable{U:Bool->Prop} {a:ME} {s t:MB}
def ir(h:Tl (a Z) λx=>Tl (tru x) U):Tl (trb a Z) U:=Am h
def wY{b:Bool}(h:U b):Tl (tru (.bl b)) U:=Ai h
def ZvT(h:Tl (s Z) λx=>Tl (if x=true then t Z else .ok false) U):Tl (bAnd s t Z) U:=Am h
def wQ(h:Tl (s Z) λx=>Tl (if x=true then .ok true else t Z) U):Tl (bOr s t Z) U:=Am h
def jm(h:Tl (s Z) λx=>U (!x)):Tl (bNot s Z) U:=Am (h.mono λ_ q=>Ai q)
def uO(h:U true):Tl (yes Z) U:=Ai h
end
section
variable{U:List D->Prop} {a:ME} {m:MA}
def Es(h:U []):Tl (Ab Z) U:=Ai h
def Dm(h:Tl (a Z) λx=>Tl (m Z) λxs=>U (x::xs)):Tl (Aa a m Z) U:=Am (h.mono λ_ q=>Am (q.mono λ_ q=>Ai q))
def w_iv(h:Tl (a Z) λx=>Tl (items x) U):Tl (iv a Z) U:=Am h
def UW{xs:List D}(h:U xs):Tl (items (.lst xs)) U:=Ai h
def nA{xs:List D}(h:U xs):Tl (items (.tup xs)) U:=Ai h
def w_r1(h:Tl (m Z) λxs=>Tl (rng1 xs) U):Tl (r1 m Z) U:=Am h
def w_r2(h:Tl (m Z) λxs=>Tl (rng2 xs) U):Tl (r2 m Z) U:=Am h
def Zi{j:Int}(h0:-1000000000<=j/\j<=1000000000)(h:U (Cd 0 j.toNat)):Tl (rng1 [.int j]) U:=Ae (wL h0.1 h0.2) h
def V3(h:Tl (m Z) λxs=>Tl (zip2 xs) U):Tl (iZip m Z) U:=Am h
def Z7{xs ys:List D}(h:U (pairs xs ys)):Tl (zip2 [.lst xs,.lst ys]) U:=Ai h
def Ot{g:MG}{t:MB}{e:ME}(h:U []):Tl (Ar g t e Z []) U:=Ai h
def Fq{g:MG}{t:MB}{e:ME}{x:D}{r:List D}(h:Tl (g x Z) λZ1=>Tl (t Z1) λb=>Tl (if b=true then (e Z1).bind λy=>(Ar g t e Z r).bind λys=>.ok (y::ys) else Ar g t e Z r) U):Tl (Ar g t e Z (x::r)) U :=
 Am (h.mono λ_ q=>Am q)
end
section
variable{U:Option Int->Prop} {a:ME}
def vC(h:U none):Tl (pno Z) U:=Ai h
def q8(h:Tl (a Z) λx=>Tl (optI x) U):Tl (pso a Z) U:=Am h
def mL{i:Int}(h:U (some i)):Tl (optI (.int i)) U:=Ai h
end
section
variable{U:Ev->Prop} {x:D}
def w_gN(h:U (Z.set i (.im x))):Tl (gN i x Z) U:=Ai h
def ZwY(h:U Z):Tl (gs0 [] Z) U:=Ai h
def yj{g:MG}{r:MGs}{ds:List D}(h:Tl (g x Z) λZ'=>Tl (r ds Z') U):Tl (gs1 g r (x::ds) Z) U:=Am h
def mO{g:MGs}{xs:List D}(hl:xs.length=n)(h:Tl (g xs Z) U):Tl (gU n g (.tup xs) Z) U:=by
 show Tl (if xs.length=n then g xs Z else .bad) U
 rw [iP hl];exact h
end
section
variable{U:Fl->Prop} {a b:ME} {k l:MS} {t:MB}
def w_sq(h:Tl (k Z) λf=>Tl (goOn l f) U):Tl (sq k l Z) U:=Am h
def w_gx(h:Tl (l Z) U):Tl (goOn l (.nx Z)) U:=h
def w_gr{x:D}(h:U (.rt x)):Tl (goOn l (.rt x)) U:=Ai h
def w_gc(h:U (.ct Z)):Tl (goOn l (.ct Z)) U:=Ai h
def w_st(h:Tl (a Z) λx=>U (.nx (Z.set i (.im x)))):Tl (st i a Z) U:=Am (h.mono λ_ q=>Ai q)
def WQ(h:Tl (a Z) λx=>U (.rt x)):Tl (ret a Z) U:=Am (h.mono λ_ q=>Ai q)
def jx(h:U (.nx Z)):Tl (nop Z) U:=Ai h
def rR(h:U (.ct Z)):Tl (cnt Z) U:=Ai h
def Td(h:Tl (a Z) λ_=>U (.nx Z)):Tl (drp a Z) U:=Am (h.mono λ_ q=>Ai q)
def qQ{g:MG}(h:Tl (a Z) λx=>Tl (g x Z) λZ'=>U (.nx Z')):Tl (asg g a Z) U:=Am (h.mono λ_ q=>Am (q.mono λ_ q=>Ai q))
def zu(h:Tl (a Z) λx=>Tl (b Z) λy=>U (.nx ((Z.set i (.im x)).set j (.im y)))):Tl (par i j a b Z) U:=Am (h.mono λ_ q=>Am (q.mono λ_ q=>Ai q))
def Tj(h:Tl (t Z) λx=>Tl (if x=true then k Z else l Z) U):Tl (ifs t k l Z) U:=Am h
def sY{it:MI}{g:MG}(h:Tl (it Z) λxs=>Tl (Cj g k xs Z) U):Tl (for_ it g k Z) U:=Am h
def fM{fu:Ev->Nat}(h:Tl (whGo t k (fu Z) Z) U):Tl (whl fu t k Z) U:=h
def Uu(h:Tl (a Z) λx=>Tl (lstO x) λxs=>U (.nx (Z.set i (.ow xs)))):Tl (stO i a Z) U:=Am (h.mono λ_ q=>Am (q.mono λ_ q=>Ai q))
def S5{Ψ:List D->Prop}{xs:List D}(h:Ψ xs):Tl (lstO (.lst xs)) Ψ:=Ai h
def Zvn(h:Tl (getO Z[i]?) λxs=>Tl (k (Z.set i (.im (.lst xs)))) U):Tl (frz i k Z) U:=Am h
def kY(h:Tl (getO Z[i]?) λxs=>Tl (a Z) λd=>xs.length<1000000/\U (.nx (Z.set i (.ow (xs++[d]))))):Tl (app i a Z) U:=by
 refine Am (h.mono λxs q=>Am (q.mono λd q=>?_));rw [iP (show xs.length<LIM from q.1)];exact Ai q.2
def w_gO{Ψ:List D->Prop}{o:Option Cl}{xs:List D}(e:o=some (.ow xs))(h:Ψ xs):Tl (getO o) Ψ:=Ae (by rw [e];rfl) h
def w_eR{Ψ:D->Prop}{x:D}(h:Ψ x):Tl (endOf (.rt x)) Ψ:=Ai h
def w_eN{Ψ:D->Prop}(h:Ψ .non):Tl (endOf (.nx Z)) Ψ:=Ai h
def w_tx(h:Tl (k Z) U):Tl (turn k (.nx Z)) U:=h
def w_tr{x:D}(h:U (.rt x)):Tl (turn k (.rt x)) U:=Ai h
def w_f0{g:MG}(h:U (.nx Z)):Tl (Cj g k [] Z) U:=Ai h
def w_f1{g:MG}{x:D}{r:List D}(h:Tl (g x Z) λZ1=>Tl (k Z1) λf=>Tl (turn (Cj g k r) f) U):Tl (Cj g k (x::r) Z) U:=Am (h.mono λ_ q=>Am q)
def Tn{g:MG}{xs:List D}(I:List D->Ev->Prop)(h0:I [] Z)(h:∀p x r,xs=p++x::r->∀Z,I p Z->Tl (g x Z) λZ1=>Tl (k Z1) λf=>∃Z2,f=.nx Z2/\I (p++[x]) Z2)(hd:∀Z,I xs Z->U (.nx Z)):Tl (Cj g k xs Z) U:=by
 obtain ⟨d,e,i⟩:=YF (g:=g) (b:=k) I xs [] (λp x r c Z i=>by
  obtain ⟨Z1,j,f,a,Z2,rfl,l⟩:=h p x r c Z i
  exact ⟨Z1,Z2,j,a,l⟩) Z h0
 exact ⟨_,e,hd d i⟩
def w_wh{n:Nat}(I:Ev->Prop)(μ:Ev->Nat)(h0:I Z)(hm:μ Z<n)(h:∀Z,I Z->Tl (t Z) λb=>(b=true->Tl (k Z) λf=>∃Z2,f=.nx Z2/\I Z2/\μ Z2<μ Z)/\(b=false->U (.nx Z))):Tl (whGo t k n Z) U:=by
 induction n generalizing Z with
 | zero=>exact aB hm (Nat.not_lt_zero _)
 | succ n ih=>
  rw [j7];obtain ⟨b,e,q⟩:=h Z h0;rw [e];cases b with
  | true=>
   obtain ⟨f,a,Z2,rfl,c,d⟩:=q.1 rfl;show Tl ((k Z).bind (turn (whGo t k n))) U;rw [a];exact ih c (by omega)
  | false=>exact Ai (q.2 rfl)
def Ue:∀{ns ms:List Int},ns.map D.int=ms.map D.int->ns=ms
 | [],[],_=>rfl
 | [],_::_,h=>by cases h
 | _::_,[],h=>by cases h
 | n::r,m::s,h=>by
  have a:D.int n=D.int m/\r.map D.int=s.map D.int:=by simpa using h
  rw [Ue a.2];cases a.1;rfl
end
def Dq{α:Type}{U:List D->Prop}{g:MG}{e:ME}{Z:Ev}{enc:α->D}(f:α->D):∀{l:List α},(∀a∈l,Tl (g (enc a) Z) λZ1=>Tl (e Z1) λy=>y=f a)->U (l.map f)->Tl (Ar g yes e Z (l.map enc)) U:=by
 intro l h q;have c:∀l:List α,(∀a∈l,Tl (g (enc a) Z) λZ1=>Tl (e Z1) λy=>y=f a)->Ar g yes e Z (l.map enc)=.ok (l.map f):=by
  intro l
  induction l with
  | nil=>exact λ_=>rfl
  | cons a r ih=>
   intro h;obtain ⟨Z1,j,y,d,rfl⟩:=h a BR;have z:=ih λb i=>h b (BP _ i);rw [Ba,Uy,j,HN];unfold yes at z ⊢;rw [HN,iP rfl,d,HN,z];rfl
 exact Ae (c l h) q
def w_all{U:List D->Prop}{g:MG}{e:ME}{Z:Ev}{xs:List D}(P:D->D->Prop)(h:∀x∈xs,Tl (g x Z) λZ1=>Tl (e Z1) λy=>P x y)(q:∀ys:List D,ys.length=xs.length->(∀(i:Nat) x y,xs[i]?=some x->ys[i]?=some y->P x y)->U ys):Tl (Ar g yes e Z xs) U:=by
 obtain ⟨ys,b,l,a⟩:=WF (g:=g) (e:=e) (Z:=Z) P xs λx d=>by
  obtain ⟨Z1,b,y,c,a⟩:=h x d;exact ⟨Z1,y,b,c,a⟩
 exact ⟨ys,b,q ys l a⟩
section
variable{U:D->Prop}
def vO{x y:D}(h:Tl (dIx x y) U):Tl (dIx x y) U:=h
def nP{xs:List D}(h:Tl (bIsi xs) U):Tl (bIsi xs) U:=h
def XJ{α:Type}{xs:List α}{i:Nat}:at_ xs (i:Int)=xs[i]?:=by
 unfold at_;rw [iP (Int.natCast_nonneg i),HS]
def dG{xs:List D}{i:Int}(h:0<=i/\i<xs.length)(q:∀x∈xs,U x):Tl (dIx (.lst xs) (.int i)) U:=by
 obtain ⟨n,rfl⟩:=Int.eq_ofNat_of_zero_le h.1;have a:n<xs.length:=by omega
 rw [fD,XJ,BX a];exact Ai (q _ (Jg a))
def zK{ns:List Int}{i:Int}(h:-(ns.length:Int)<=i/\i<ns.length)(q:∀n∈ns,U (.int n)):Tl (dIx (.lst (ns.map .int)) (.int i)) U:=by
 rw [fD];unfold at_;rw [Af];by_cases h0:0<=i
 .have a:i.toNat<ns.length:=by omega
  rw [iP h0,By,BX a];exact Ai (q _ (Jg a))
 .have a:(i+ns.length).toNat<ns.length:=by omega
  rw [iN h0,iP h.1,By,BX a];exact Ai (q _ (Jg a))
end
mutual
def Vk:∀(x:D) (k:Nat),plain k x=true->eqD x x=true
 | .non,_,_=>rfl
 | .bl b,_,_=>by show (b==b)=true;simp
 | .int b,_,_=>by show (b==b)=true;simp
 | .str b,_,_=>by show (b==b)=true;simp
 | .tup xs,0,h=>by simp [plain] at h
 | .lst xs,0,h=>by simp [plain] at h
 | .tup xs,k+1,h=>Uz xs k (by simpa [plain] using h)
 | .lst xs,k+1,h=>Uz xs k (by simpa [plain] using h)
 | .ty _,k,h=>by cases k<;>simp [plain] at h
 | .cls _,k,h=>by cases k<;>simp [plain] at h
 | .exc _,k,h=>by cases k<;>simp [plain] at h
def Uz:∀(xs:List D) (k:Nat),Bk k xs=true->eqDs xs xs=true
 | [],_,_=>rfl
 | x::xs,k,h=>by
  have a:plain k x=true/\Bk k xs=true:=by simpa [Bk] using h
  show (eqD x x&&eqDs xs xs)=true;rw [Vk x k a.1,Uz xs k a.2];rfl
end
def GF(i:Nat)(Z:Ev):Nat:=((Z[i]?).map absC).getD 0
def O4:∀(Z:Ev) (i:Nat),GF i Z<fuel Z
 | [],i=>by simp [GF,fuel]
 | c::r,0=>by simp [GF,fuel];omega
 | c::r,i+1=>by
  have:=O4 r i;simp [GF,fuel] at this ⊢;omega
def mem_range{n:Nat}{x:D}(h:x∈Cd 0 n):∃k:Nat,k<n/\x=.int k:=by
 unfold Cd at h;obtain ⟨k,a,rfl⟩:=Bf.mp h;exact ⟨k,CN.mp a,by rw [Int.zero_add]⟩
def cj{U:D->Prop}{ys:List D}(h:∀y∈ys,y=.bl true)(q:U (.bl true)):Tl (bAll [.lst ys]) U:=by
 have d:∀ys:List D,(∀y∈ys,y=.bl true)->∃a,bools ys=.ok a/\a.all id=true:=by
  intro ys
  induction ys with
  | nil=>exact λ_=>⟨[],rfl,rfl⟩
  | cons y r ih=>
   intro h;obtain ⟨a,c,b⟩:=ih λz e=>h z (BP _ e);obtain rfl:=h y BR;exact ⟨true::a,by show (bools r).bind _=_;rw [c];rfl,by simpa using b⟩
 obtain ⟨a,c,b⟩:=d ys h;refine Ae (x:=.bl true) ?_ q;show (bools ys).bind (λa=>Res.ok (D.bl (a.all id)))=_;rw [c];show Res.ok (D.bl (a.all id))=_;rw [b]
def ZvW{U:D->Prop}{i j k:Int}(h:U (.int (max (max i j) k))):Tl (Oo [.int i,.int j,.int k]) U:=by
 refine Ae (x:=.int (max (max i j) k)) ?_ h;show Res.ok (D.int (if j>i then (if k>j then k else j) else (if k>i then k else i)))=_
 have e:(if j>i then (if k>j then k else j) else (if k>i then k else i))=max (max i j) k:=by omega
 rw [e]
section
variable{U:D->Prop}
def w_pk{m:ME}(h:Tl (getO Z[i]?) λxs=>Tl (m (Z.set i (.im (.lst xs)))) λd=>Tl (H8 d) U):Tl (pk i m Z) U:=Am (h.mono λ_ q=>Am q)
def yW{n:Int}(h:U (.int n)):Tl (H8 (.int n)) U:=Ai h
end
end Dl
namespace Dl
section
variable{U:D->Prop}
def w_p6(h:U (.int 1000000)):Tl (dPow (.int 10) (.int 6)) U:=Ae rfl h
end
end Dl
namespace Dl
section
variable{Ψ:List D->Prop}{U:D->Prop} {m:MA} {xs ys zs:List D} {a b:ME}
def Ztq(h:U (.lst (trips xs ys zs))):Tl (lz3 [.tup xs,.tup ys,.tup zs]) U:=Ai h
end
end Dl
namespace Mt
def gcdL(g:Nat):List Int->Nat
 | []=>g
 | x::r=>gcdL (Nat.gcd g x.natAbs) r
def Xa(a b:Nat):Nat.gcd b (a%b)=Nat.gcd a b:=by
 rw [Nat.gcd_comm a b,Nat.gcd_rec b a,Nat.gcd_comm]
def fJ(t b:Int):gcdL 0 [t,b]=Int.gcd t b:=by
 show Nat.gcd (Nat.gcd 0 t.natAbs) b.natAbs=_;rw [Nat.gcd_zero_left];rfl
def Zl4(a b:Int):Int.gcd b (a%b)=Int.gcd a b:=by
 have e:=Int.gcd_add_mul_left_left b (a%b) (a/b);rw [Int.emod_add_mul_ediv] at e;rw [Int.gcd_comm b,e]
def frT(t b:Int):Int:=if b<0 then t.fdiv (-(Int.gcd t b:Int)) else t.fdiv (Int.gcd t b:Int)
def frB(t b:Int):Int:=if b<0 then b.fdiv (-(Int.gcd t b:Int)) else b.fdiv (Int.gcd t b:Int)
def MF{t b:Int}(h:b≠0):0<Int.gcd t b:=Int.gcd_pos_of_ne_zero_right t h
def Qm{a d q:Int}(h:a=d*q)(hd:d≠0):a.fdiv d=q:=by
 subst h;exact Int.mul_fdiv_cancel_left q hd
structure Fr(t b p q:Int):Prop where
 pos:1<=q
 low:Int.gcd p q=1
 same:p*b=t*q
 np:p.natAbs<=t.natAbs
 nq:q.natAbs<=b.natAbs
def aC{t b:Int}(h:b≠0):Fr t b (frT t b) (frB t b):=by
 have l:=MF (t:=t) h;obtain ⟨p,i⟩:=Int.gcd_dvd_left t b;obtain ⟨q,f⟩:=Int.gcd_dvd_right t b;have k:(0:Int)<(Int.gcd t b:Int):=Int.natCast_pos.mpr l;have d:Int.gcd p q=1:=by
  have e:Int.gcd ((Int.gcd t b:Int)*p) ((Int.gcd t b:Int)*q)=Int.gcd t b*Int.gcd p q:=by
   rw [Int.gcd_mul_left,Kc]
  rw [<-i,<-f] at e;have n:Int.gcd t b*Int.gcd p q=Int.gcd t b*1:=by rw [Nat.mul_one];exact e.symm
  exact Nat.eq_of_mul_eq_mul_left l n
 unfold frT frB;generalize Int.gcd t b=g at *;have a:∀{x y:Int},x=(g:Int)*y->y.natAbs<=x.natAbs:=λ{x y} e=>by
  rw [e,Int.natAbs_mul,Kc];exact Nat.le_mul_of_pos_left _ l
 have c:p*b=t*q:=by
  rw [f,i,Int.mul_left_comm,Int.mul_assoc]
 have j:-(g:Int)≠0:=by omega
 by_cases hb:b<0
 .rw [iP hb,iP hb,Qm (q:=-p) (by rw [Int.neg_mul_neg];exact i) j,Qm (q:=-q) (by rw [Int.neg_mul_neg];exact f) j];have m:q<0:=by
   rcases Int.lt_or_le q 0 with z | z
   .exact z
   .have o:0<=(g:Int)*q:=Int.mul_nonneg (Int.le_of_lt k) z;omega
  exact ⟨by omega,by rw [Int.gcd_neg,Int.neg_gcd];exact d,by rw [Int.neg_mul,Int.mul_neg,c],by rw [Int.natAbs_neg];exact a i,by rw [Int.natAbs_neg];exact a f⟩
 .rw [iN hb,iN hb,Qm (q:=p) i (Int.ne_of_gt k),Qm (q:=q) f (Int.ne_of_gt k)];have m:1<=q:=by
   rcases Int.lt_or_le 0 q with z | z
   .exact z
   .have o:(g:Int)*q<=0:=Int.mul_nonpos_of_nonneg_of_nonpos (Int.le_of_lt k) z;omega
  exact ⟨m,d,c,a i,a f⟩
def fO{p q r s:Int}(h1:1<=q)(h2:Int.gcd p q=1)(h3:1<=s)(h4:Int.gcd r s=1)(e:p*s=r*q):p=r/\q=s:=by
 have b:q∣s:=by
  have z:q∣p*s:=⟨r,by rw [e,Int.mul_comm]⟩;have a:q.natAbs∣p.natAbs*s.natAbs:=by rw [<-Int.natAbs_mul];exact Nf.mpr z
  exact Nf.mp (Nat.Coprime.dvd_of_dvd_mul_left (k:=q.natAbs) (m:=p.natAbs) (by show Nat.gcd _ _=1;rw [Nat.gcd_comm];exact h2) a)
 have c:s∣q:=by
  have z:s∣r*q:=⟨p,by rw [<-e,Int.mul_comm]⟩;have a:s.natAbs∣r.natAbs*q.natAbs:=by rw [<-Int.natAbs_mul];exact Nf.mpr z
  exact Nf.mp (Nat.Coprime.dvd_of_dvd_mul_left (k:=s.natAbs) (m:=r.natAbs) (by show Nat.gcd _ _=1;rw [Nat.gcd_comm];exact h4) a)
 have d:q=s:=Int.le_antisymm (Int.le_of_dvd (by omega) b) (Int.le_of_dvd (by omega) c);subst d;exact ⟨Int.eq_of_mul_eq_mul_right (by omega) e,rfl⟩
def SQ{a d:Int}(h:0<d):(a.fdiv d).natAbs<=a.natAbs:=by
 rw [Qa a (Int.le_of_lt h)];have e:=Int.emod_add_mul_ediv a d;have g:=IK a (Int.ne_of_gt h);have i:=Iv a h;rcases Int.lt_or_le a 0 with z | z
 .have c:a/d<0:=Int.ediv_neg_of_neg_of_pos z h;have:a<=a/d:=by
   have f:a=a%d+d*(a/d):=e.symm;have:d*(a/d)<=1*(a/d):=Int.mul_le_mul_of_nonpos_right (by omega) (by omega);rcases Int.lt_or_le a (a/d+1) with z | z
   .omega
   .exfalso;have b:(d - 1)*(a/d)<=(d - 1)*(-1):=Int.mul_le_mul_of_nonneg_left (by omega) (by omega);rw [Int.sub_mul] at b;omega
  omega
 .have c:0<=a/d:=Int.ediv_nonneg z (Int.le_of_lt h);have:a/d<=a:=Int.ediv_le_self d z;omega
end Mt
end
end
local macro_rules|`(tactic|ac_rfl)=>`(tactic|first|lia|omega)
local macro_rules | `(tactic| walk_at "sm")=>`(tactic| first | assumption | exact Dl.Sm.of64 (by ac_rfl) (by ac_rfl) | exact Dl.Sm.mul (by walk_at "sm") (by walk_at "sm") | exact Dl.Sm.add (by walk_at "sm") (by walk_at "sm") | exact Dl.Sm.sub (by walk_at "sm") (by walk_at "sm") | exact Dl.Sm.neg (by walk_at "sm") | exact Dl.Sm.min (by walk_at "sm") (by walk_at "sm") | exact Dl.Sm.max (by walk_at "sm") (by walk_at "sm"))
local macro_rules | `(tactic| walk_at "mo")=>`(tactic| first | assumption | exact Dl.rz (Dl.Sm.of64 (by ac_rfl) (by ac_rfl)) | exact Dl.n7 (Dl.Sm.of64 (by ac_rfl) (by ac_rfl)) | exact Dl.Cq (by walk_at "sm") (by walk_at "sm") (by decide))
local macro_rules | `(tactic| walk_at "lg")=>`(tactic| first | assumption | decide | exact Dl.Sm.log (by walk_at "sm") (by decide))
local macro_rules | `(tactic| walk_at "w1")=>`(tactic| first
 | ((with_reducible refine Dl.w_v' ?_);refine Dl.w_gC rfl ?_) |(with_reducible first |refine Dl.w_o2 ?_ |refine Dl.w_c ?_ |refine Dl.w_on ?_ |refine Dl.Dm ?_ |refine Dl.Es ?_ |refine Dl.w_sq ?_ |refine Dl.w_gx ?_ |refine Dl.w_st ?_ |refine Dl.Tj ?_ |refine Dl.ir ?_ |refine Dl.wY ?_) 
 | with_reducible refine Dl.uh ?_ | with_reducible refine Dl.w_sub ?_ | ((with_reducible refine Dl.w_mul ?_ ?_);walk_at "mo") | ((with_reducible refine Dl.w_mod ?_ ?_);(first | decide | ac_rfl)) | ((with_reducible refine Dl.w_div ?_ ?_ ?_);(first | decide | ac_rfl);walk_at "lg")
 |(with_reducible first |refine Dl.w_lt ?_ |refine Dl.w_le ?_ |refine Dl.w_gt ?_ |refine Dl.w_ge ?_ |refine Dl.zU ?_ |refine Dl.Zwf ?_ |refine Dl.ZvT ?_ |refine Dl.wQ ?_ |refine Dl.jm ?_) 
 |(with_reducible first |refine Dl.WQ ?_ |refine Dl.w_gr ?_ |refine Dl.w_eR ?_ |refine Dl.jx ?_ |refine Dl.nu ?_ |refine Dl.Su ?_ |refine Dl.w_fn ?_ |refine Dl.w_o1 ?_ |refine Dl.jV ?_ |refine Dl.w_eOr ?_ |refine Dl.yc ?_ |refine Dl.Zxt ?_ |refine Dl.w_chain ?_) 
 |(with_reducible first |refine Dl.vB ?_ |refine Dl.yg ?_ |refine Dl.tD ?_ |refine Dl.gK ?_ |refine Dl.q9 ?_ |refine Dl.w_max ?_ |refine Dl.oA ?_ |refine Dl.pP ?_ |refine Dl.w_tupT ?_ |refine Dl.w_lstL ?_ |refine Dl.w_lstT ?_ |refine Dl.xN ?_) 
 |(with_reducible first |refine Dl.Ss ?_ |refine Dl.vC ?_ |refine Dl.q8 ?_ |refine Dl.mL ?_ |refine Dl.VP ?_ |refine Dl.wA ?_ |refine Dl.w_iv ?_ |refine Dl.UW ?_ |refine Dl.nA ?_ |refine Dl.w_r1 ?_) | ((with_reducible refine Dl.Zi ?_ ?_);ac_rfl) |(with_reducible first |refine Dl.w_gN ?_ |refine Dl.ZwY ?_ |refine Dl.yj ?_) 
 | ((with_reducible refine Dl.mO ?_ ?_);exact rfl) | ((with_reducible refine Dl.w_gUL ?_ ?_);exact rfl) |(with_reducible first |refine Dl.Td ?_ |refine Dl.qQ ?_ |refine Dl.zu ?_ |refine Dl.sY ?_ |refine Dl.fM ?_ |refine Dl.V3 ?_ |refine Dl.Z7 ?_ |refine Dl.w_zipTL ?_ |refine Dl.w_zipLT ?_ |refine Dl.w_zipTT ?_ |refine Dl.w_iz3 ?_ |refine Dl.w_zip3T ?_ |refine Dl.Ztq ?_ |refine Dl.w_mLst ?_ |refine Dl.w_enum ?_ |refine Dl.w_enum1 ?_ |refine Dl.Lr ?_) 
 |(with_reducible first |refine Dl.w_retN ?_ |refine Dl.w_eN ?_ |refine Dl.w_brk ?_ |refine Dl.rR ?_ |refine Dl.w_gb ?_ |refine Dl.w_gc ?_ |refine Dl.uV ?_ |refine Dl.ZuF ?_ |refine Dl.w_p6 ?_ |refine Dl.w_p8 ?_ |refine Dl.w_p20 ?_) | ((with_reducible refine Dl.w_pow ?_ ?_ ?_ ?_);decide;decide;decide) | ((with_reducible refine Dl.w_shl ?_ ?_ ?_ ?_);decide;decide;decide) | ((with_reducible refine Dl.w_shr ?_ ?_);ac_rfl) | with_reducible refine Dl.uO ?_
 |(with_reducible first |refine Dl.w_tx ?_ |refine Dl.w_tc ?_ |refine Dl.w_tb ?_ |refine Dl.w_tr ?_ |refine Dl.ZvW ?_ |refine Dl.w_sum ?_ |refine Dl.w_rev ?_) | ((with_reducible refine Dl.w_pkB ?_);refine Dl.w_gO rfl ?_) | ((with_reducible refine Dl.w_pk ?_);refine Dl.w_gO rfl ?_) |(with_reducible first |refine Dl.yW ?_ |refine Dl.w_scB ?_ |refine Dl.w_endT ?_ |refine Dl.Uu ?_ |refine Dl.S5 ?_) | ((with_reducible refine Dl.Zvn ?_);refine Dl.w_gO rfl ?_) | ((with_reducible refine Dl.kY ?_);refine Dl.w_gO rfl ?_) | ((with_reducible refine Dl.vO ?_);refine Dl.Ae rfl ?_) | ((with_reducible refine Dl.nP ?_);refine Dl.Ae rfl ?_) | ((with_reducible refine Dl.w_lenr ?_);refine Dl.Ae rfl ?_) | with_reducible refine Dl.Ai ?_ | with_reducible refine Dl.Am ?_)
local macro_rules | `(tactic| walk_at "wi")=>`(tactic| first | ((with_reducible refine Dl.UG ?_ ?_);exact rfl) | ((with_reducible refine Dl.Tv ?_ ?_);exact rfl) | ((with_reducible refine Dl.w_dT ?_ ?_);first | assumption | ac_rfl) | ((with_reducible refine Dl.w_dF ?_ ?_);first | assumption | ac_rfl) | ((with_reducible refine Dl.w_nT ?_ ?_);first | assumption | ac_rfl) | ((with_reducible refine Dl.w_nF ?_ ?_);first | assumption | ac_rfl))
local macro_rules | `(tactic| walk_at "wr")=>`(tactic| (refine Dl.Ae rfl ?_))
local macro_rules | `(tactic| walk_at "w")=>`(tactic| (repeat (first | walk_at "w1" | walk_at "wi"));try dsimp only [List.set_cons_zero,List.set_cons_succ,Dl.ev0,Dl.evF,Dl.noA,Dl.Az,Dl.imOf,List.getElem?_cons_zero,List.getElem?_cons_succ,Nat.reduceAdd,Nat.reduceSub])
local macro_rules | `(tactic| symm)=>`(tactic| walk_at "w")
namespace My
open PySem Dl
def objs:List Str:=["Plain","Shaded","Glass"]
def Fj:List D->Res D:=fn 2
  (sq (ifs (trb (o2 dLt (v 1) (on bLen (Aa (v 0) Ab))))
  (ret (o2 dIx (v 0) (v 1)))
  nop)
  (ret (c (.int 0))))
def Qu:List D->Res D:=fn 5
  (sq (stO 2 (mls Ab))
  (sq (stO 3 (on bLR (Aa (v 0) Ab)))
  (sq (for_ (r1 (Aa (v 0) Ab)) (gN 4)
  (appP 2 3 (pk 3 (o2 Ax (o2 An (v 1) (o2 Aw (v 4) (v 4))) (on bLen (Aa (v 3) Ab))))))
  (frz 2 (ret (v 2))))))
def Jb:List D->Res D:=fn 2
  (for_ (iv (v 0)) (gN 1)
  (ifs (trb (o2 dLe (o2 dIx (v 1) (c (.int 2))) (c (.int 0))))
  (rse "BadTriangle" (Aa (c (.str "only corners with w above 0 are thrown onto the floor")) Ab))
  nop))
def GQ:List D->Res D:=fn 1
  (ret (eAnd (on bIsi (Aa (v 0) (Aa (c (.ty "int")) Ab))) (eNot (on bIsi (Aa (v 0) (Aa (c (.ty "bool")) Ab))))))
def Pk:List D->Res D:=fn 1
  (sq (ifs (bOr (bNot (trb (on bIsi (Aa (v 0) (Aa (c (.ty "tuple")) Ab))))) (trb (o2 dGt (on bLen (Aa (v 0) Ab)) (c (.int 3)))))
  (ret (c (.bl false)))
  nop)
  (ret (on bAll (Aa (comp (iv (v 0)) 1 [] (gN 0) yes (on GQ (Aa (v 0) Ab))) Ab))))
def Pz:List D->Res D:=fn 1
  (sq (ifs (bOr (bNot (trb (on bIsi (Aa (v 0) (Aa (c (.ty "tuple")) Ab))))) (trb (o2 dNe (on bLen (Aa (v 0) Ab)) (c (.int 5)))))
  (ret (c (.bl false)))
  nop)
  (sq (ifs (bNot (trb (on bAll (Aa (comp (iv (cut (v 0) pno (pso (c (.int 4))))) 1 [] (gN 0) yes (on GQ (Aa (v 0) Ab))) Ab))))
  (ret (c (.bl false)))
  nop)
  (ret (eAnd (o2 dGe (o2 dIx (v 0) (c (.int 3))) (c (.int 1))) (on Pk (Aa (o2 dIx (v 0) (c (.int 4))) Ab))))))
def QQ:List D->Res D:=fn 2
  (sq (ifs (bOr (bNot (trb (on bIsi (Aa (v 0) (Aa (c (.ty "tuple")) Ab))))) (trb (o2 dNe (on bLen (Aa (v 0) Ab)) (c (.int 3)))))
  (rse "BadTriangle" (Aa (c (.str "a triangle is a tuple of three corners")) Ab))
  nop)
  (for_ (iv (v 0)) (gN 1)
  (sq (ifs (bNot (trb (on Pz (Aa (v 1) Ab))))
  (rse "BadTriangle" (Aa (c (.str "a corner is a tuple (x, y, w, h, values) of whole numbers, h from 1 on")) Ab))
  nop)
  (ifs (trb (o2 dNe (on bLen (Aa (o2 dIx (v 1) (c (.int 4))) Ab)) (on bLen (Aa (o2 dIx (o2 dIx (v 0) (c (.int 0))) (c (.int 4))) Ab))))
  (rse "BadTriangle" (Aa (c (.str "the corners of a triangle have as many values each")) Ab))
  nop))))
def JH:List D->Fs->Res Fs:=fnI 2
  (iDrp (on QQ (Aa (v 1) Ab))
  (iDrp (on Jb (Aa (v 1) Ab))
  (iSet "triangle" (v 1)
  iEnd)))
def JN:List D->Res D:=fn 5
  (sq (st 1 (c (.int 0)))
  (sq (for_ (iv (v 0)) (gN 2)
  (sq (st 3 (on bAbs (Aa (v 2) Ab)))
  (whl fuel (trb (o2 dNe (v 3) (c (.int 0))))
  (sq (st 4 (o2 Ax (v 1) (v 3)))
  (sq (st 1 (v 3))
  (st 3 (v 4)))))))
  (ret (v 1))))
def M5:List D->Res D:=fn 1
  (sq (ifs (bOr (bNot (trb (on bIsi (Aa (v 0) (Aa (c (.ty "tuple")) Ab))))) (trb (o2 dNe (on bLen (Aa (v 0) Ab)) (c (.int 2)))))
  (ret (c (.bl false)))
  nop)
  (sq (ifs (bOr (bNot (trb (on GQ (Aa (o2 dIx (v 0) (c (.int 0))) Ab)))) (bNot (trb (on GQ (Aa (o2 dIx (v 0) (c (.int 1))) Ab)))))
  (ret (c (.bl false)))
  nop)
  (ret (eAnd (o2 dGe (o2 dIx (v 0) (c (.int 1))) (c (.int 1))) (o2 dEq (on JN (Aa (v 0) Ab)) (c (.int 1)))))))
def Lw:List D->Res D:=fn 1
  (ifs (bNot (trb (on M5 (Aa (v 0) Ab))))
  (rse "BadThing" (Aa (c (.str "a colour is a fraction in lowest terms")) Ab))
  nop)
def QH:List D->Res D:=fn 1
  (ifs (bOr (bNot (trb (on M5 (Aa (v 0) Ab)))) (bOr (trb (o2 dLt (o2 dIx (v 0) (c (.int 0))) (c (.int 0)))) (trb (o2 dGt (o2 dIx (v 0) (c (.int 0))) (o2 dIx (v 0) (c (.int 1)))))))
  (rse "BadThing" (Aa (c (.str "a part is a fraction in lowest terms, from 0 to 1")) Ab))
  nop)
def Ky:List D->Fs->Res Fs:=fnI 4
  (iSup JH (Aa (v 1) Ab)
  (iDrp (on Lw (Aa (v 2) Ab))
  (iDrp (on QH (Aa (v 3) Ab))
  (iSet "colour" (v 2)
  (iSet "part" (v 3)
  iEnd)))))
def Ks:List D->Fs->Res Fs:=fnI 3
  (iSup JH (Aa (v 1) Ab)
  (iDrp (on Lw (Aa (v 2) Ab))
  (iSet "colour" (v 2)
  iEnd)))
def Qo:List D->Res D:=fn 2
  (ifs (trb (o2 dLt (on bLen (Aa (o2 dIx (o2 dIx (v 0) (c (.int 0))) (c (.int 4))) Ab)) (v 1)))
  badS
  nop)
def Kg:List D->Fs->Res Fs:=fnI 2
  (iSup JH (Aa (v 1) Ab)
  (iDrp (on Qo (Aa (v 1) (Aa (c (.int 1)) Ab)))
  iEnd))
def GD:List D->Res D:=fn 3
  (sq (ifs (bAnd (trb (o2 dGe (v 0) (o2 dShl (c (.int 1)) (c (.int 90))))) (bAnd (trb (o2 dEq (o2 Ax (v 0) (c (.int 2))) (c (.int 1)))) (trb (o2 dGt (o2 dShr (v 0) (o2 An (c (.int 1)) (o2 Aw (c (.int 31)) (v 1)))) (c (.int 0))))))
  (ret (o2 Ax (o2 dShr (v 0) (o2 An (c (.int 1)) (o2 Aw (c (.int 31)) (v 1)))) (c (.int 2147483648))))
  nop)
  (sq (st 2 (o2 Ax (o2 Aw (o2 An (o2 An (v 0) (o2 Aw (c (.int 7919)) (v 1))) (c (.int 1))) (c (.int 48271))) (c (.int 2147483647))))
  (sq (st 2 (o2 Ax (o2 Aw (v 2) (o2 An (o2 Bb (v 2) (c (.int 1009))) (c (.int 69621)))) (c (.int 2147483647))))
  (ret (o2 Ax (o2 Aw (v 2) (o2 An (o2 An (o2 Bb (v 2) (c (.int 2003))) (c (.int 39373))) (v 1))) (c (.int 2147483629)))))))
def Mq:List D->Res D:=fn 14
  (sq (st 3 (on GD (Aa (v 0) (Aa (o2 An (o2 Aw (c (.int 20)) (v 1)) (c (.int 1))) Ab))))
  (sq (st 4 (on GD (Aa (v 0) (Aa (o2 An (o2 Aw (c (.int 20)) (v 1)) (c (.int 2))) Ab))))
  (sq (st 5 (on GD (Aa (v 0) (Aa (o2 An (o2 Aw (c (.int 20)) (v 1)) (c (.int 3))) Ab))))
  (sq (st 6 (on bTup (Aa (comp (r1 (Aa (v 2) Ab)) 1 [1,0] (gN 0) yes (o2 dSub (o2 Ax (on GD (Aa (v 2) (Aa (o2 An (o2 An (o2 Aw (c (.int 20)) (v 1)) (c (.int 5))) (v 0)) Ab))) (c (.int 2000001))) (o2 dPow (c (.int 10)) (c (.int 6))))) Ab)))
  (sq (ifs (trb (o2 dGt (o2 Ax (v 3) (c (.int 16))) (c (.int 13))))
  (sq (st 7 (o2 An (c (.int 1)) (o2 Ax (on GD (Aa (v 0) (Aa (o2 An (o2 Aw (c (.int 20)) (v 1)) (c (.int 4))) Ab))) (o2 dPow (c (.int 10)) (c (.int 6))))))
  (ret (mtp (Aa (o2 dSub (o2 Ax (v 4) (c (.int 2000001))) (o2 dPow (c (.int 10)) (c (.int 6)))) (Aa (o2 dSub (o2 Ax (v 5) (c (.int 2000001))) (o2 dPow (c (.int 10)) (c (.int 6)))) (Aa (o2 An (c (.int 1)) (o2 Ax (o2 Bb (v 3) (c (.int 16))) (o2 dPow (c (.int 10)) (c (.int 6))))) (Aa (v 7) (Aa (v 6) Ab))))))))
  nop)
  (sq (ifs (trb (o2 dGt (o2 Ax (v 3) (c (.int 16))) (c (.int 1))))
  (st 6 (on bTup (Aa (comp (iv (v 6)) 1 [] (gN 0) yes (o2 dSub (o2 Ax (v 0) (c (.int 301))) (c (.int 100)))) Ab)))
  nop)
  (sq (st 8 (o2 An (c (.int 1)) (o2 Ax (o2 Bb (v 3) (c (.int 16))) (c (.int 6)))))
  (sq (st 9 (mtp (Aa (o2 Aw (o2 dSub (o2 Ax (v 4) (c (.int 16))) (c (.int 2))) (v 8)) (Aa (o2 Aw (o2 dSub (o2 Ax (o2 Bb (v 4) (c (.int 16))) (c (.int 16))) (c (.int 2))) (v 8)) (Aa (o2 Aw (c (.int 2)) (v 8)) Ab)))))
  (sq (st 10 (mtp (Aa (o2 dSub (o2 Ax (v 4) (c (.int 81))) (c (.int 20))) (Aa (o2 dSub (o2 Ax (o2 Bb (v 4) (c (.int 81))) (c (.int 81))) (c (.int 20))) (Aa (o2 An (c (.int 1)) (o2 Ax (o2 Bb (v 3) (c (.int 16))) (c (.int 9)))) Ab)))))
  (sq (asg (gU 3 (gs1 (gN 11) (gs1 (gN 12) (gs1 (gN 13) gs0)))) (o2 dIx (mls (Aa (v 9) (Aa (v 9) (Aa (v 9) (Aa (v 10) Ab))))) (o2 Ax (o2 Bb (v 3) (c (.int 128))) (c (.int 4)))))
  (ret (mtp (Aa (v 11) (Aa (v 12) (Aa (v 13) (Aa (c (.int 1)) (Aa (v 6) Ab)))))))))))))))))
def Lj:List D->Res D:=fn 4
  (sq (st 2 (v 0))
  (sq (st 3 (v 1))
  (sq (whl fuel (trb (o2 dNe (v 3) (c (.int 0))))
  (par 2 3 (v 3) (o2 Ax (v 2) (v 3))))
  (ret (mtp (Aa (o2 Bb (v 0) (on bAbs (Aa (v 2) Ab))) (Aa (o2 Bb (v 1) (on bAbs (Aa (v 2) Ab))) Ab)))))))
def Ms:List D->Res D:=fn 8
  (sq (asg (gU 5 (gs1 (gN 3) (gs1 (gN 4) (gs1 (gN 5) (gs1 (gN 6) (gs1 (gN 7) gs0)))))) (v 0))
  (sq (ifs (trb (o2 dGt (on Oo (Aa (on bAbs (Aa (v 3) Ab)) (Aa (on bAbs (Aa (v 4) Ab)) (Aa (v 5) Ab)))) (o2 dPow (c (.int 10)) (c (.int 5)))))
  (sq (st 3 (o2 Ax (v 3) (o2 dPow (c (.int 10)) (c (.int 5)))))
  (sq (st 4 (o2 Ax (v 4) (o2 dPow (c (.int 10)) (c (.int 5)))))
  (st 5 (o2 An (c (.int 1)) (o2 Ax (v 5) (o2 dPow (c (.int 10)) (c (.int 5))))))))
  nop)
  (ret (mtp (Aa (o2 An (v 3) (o2 Aw (v 1) (v 5))) (Aa (o2 An (v 4) (o2 Aw (v 2) (v 5))) (Aa (v 5) (Aa (v 6) (Aa (v 7) Ab)))))))))
def Kw:List D->Res D:=fn 8
  (sq (st 3 (on GD (Aa (v 0) (Aa (c (.int 80)) Ab))))
  (sq (st 4 (on bTup (Aa (comp (r1 (Aa (c (.int 3)) Ab)) 1 [2,1,0] (gN 0) yes (on Ms (Aa (on Mq (Aa (v 3) (Aa (v 0) (Aa (c (.int 1)) Ab)))) (Aa (v 2) (Aa (v 1) Ab))))) Ab)))
  (sq (st 5 (on Lj (Aa (o2 dSub (o2 Ax (on GD (Aa (v 0) (Aa (c (.int 81)) Ab))) (c (.int 2001))) (c (.int 1000))) (Aa (o2 An (c (.int 1)) (o2 Ax (o2 Bb (v 3) (c (.int 5))) (c (.int 12)))) Ab))))
  (sq (st 6 (o2 An (c (.int 1)) (o2 Ax (o2 Bb (v 3) (c (.int 60))) (c (.int 16)))))
  (sq (st 7 (on Lj (Aa (o2 Ax (o2 Bb (v 3) (c (.int 960))) (o2 An (v 6) (c (.int 1)))) (Aa (v 6) Ab))))
  (sq (ifs (trb (o2 dLt (o2 Ax (v 3) (c (.int 5))) (c (.int 2))))
  (ret (make "Shaded" Kg (Aa (v 4) Ab)))
  nop)
  (sq (ifs (trb (o2 dEq (o2 Ax (v 3) (c (.int 5))) (c (.int 2))))
  (ret (make "Plain" Ks (Aa (v 4) (Aa (v 5) Ab))))
  nop)
  (ret (make "Glass" Ky (Aa (v 4) (Aa (v 5) (Aa (v 7) Ab))))))))))))
def JQ:List D->Res D:=fn 3
  (ret (Hj (iv (v 0)) 1 [2,1] (gN 0) yes (on Kw (Aa (v 0) (Aa (v 2) (Aa (v 1) Ab))))))
def Hw:List D->Res D:=fn 3
  (ret (eAnd (on GQ (Aa (v 0) Ab)) (eAnd (o2 dGe (v 0) (v 1)) (o2 dLe (v 0) (v 2)))))
def MT:List D->Res D:=fn 2
  (ifs (bOr (bNot (trb (on Hw (Aa (v 0) (Aa (c (.int 1)) (Aa (c (.int 64)) Ab)))))) (bNot (trb (on Hw (Aa (v 1) (Aa (c (.int 1)) (Aa (c (.int 64)) Ab)))))))
  (rse "BadFloor" (Aa (c (.str "a floor has 1 to 64 cells in a row, and 1 to 64 rows")) Ab))
  nop)
def Qp:List D->Res D:=fn 1
  (ret (ife (trb (o1 dIsN (v 0))) (mtp (Aa (c (.int 0)) (Aa (c (.int 1)) Ab))) (v 0)))
def X5:List D->Res D:=fn 2
  (ret (o1 (dFld objs "colour") (v 0)))
def Uk:List D->Res D:=fn 2
  (ret (o1 (dFld objs "colour") (v 0)))
def Tc:List D->Res D:=fn 2
  (ret (o2 dIx (v 1) (c (.int 0))))
def Lk:List (Str×(List D->Res D)):=[("Plain",Uk),("Shaded",Tc),("Glass",X5)]
def Fz:List D->Res D:=fn 3
  (sq (st 2 (on JN (Aa (mls (Aa (v 0) (Aa (v 1) Ab))) Ab)))
  (sq (ifs (trb (o2 dLt (v 1) (c (.int 0))))
  (st 2 (o1 dNeg (v 2)))
  nop)
  (ret (mtp (Aa (o2 Bb (v 0) (v 2)) (Aa (o2 Bb (v 1) (v 2)) Ab))))))
def Nt:List D->Res D:=fn 2
  (ret (on Fz (Aa (o2 dSub (o2 Aw (o2 dIx (v 0) (c (.int 0))) (o2 dIx (v 1) (c (.int 1)))) (o2 Aw (o2 dIx (v 1) (c (.int 0))) (o2 dIx (v 0) (c (.int 1))))) (Aa (o2 Aw (o2 dIx (v 0) (c (.int 1))) (o2 dIx (v 1) (c (.int 1)))) Ab))))
def Ig:List D->Res D:=fn 2
  (ret (on Fz (Aa (o2 An (o2 Aw (o2 dIx (v 0) (c (.int 0))) (o2 dIx (v 1) (c (.int 1)))) (o2 Aw (o2 dIx (v 1) (c (.int 0))) (o2 dIx (v 0) (c (.int 1))))) (Aa (o2 Aw (o2 dIx (v 0) (c (.int 1))) (o2 dIx (v 1) (c (.int 1)))) Ab))))
def MJ:List D->Res D:=fn 2
  (ret (on Fz (Aa (o2 Aw (o2 dIx (v 0) (c (.int 0))) (o2 dIx (v 1) (c (.int 0)))) (Aa (o2 Aw (o2 dIx (v 0) (c (.int 1))) (o2 dIx (v 1) (c (.int 1)))) Ab))))
def Nj:List D->Res D:=fn 3
  (sq (st 2 (on Nt (Aa (mtp (Aa (c (.int 1)) (Aa (c (.int 1)) Ab))) (Aa (o1 (dFld objs "part") (v 0)) Ab))))
  (ret (on Ig (Aa (on MJ (Aa (o1 (dFld objs "part") (v 0)) (Aa (o1 (dFld objs "colour") (v 0)) Ab))) (Aa (on MJ (Aa (v 2) (Aa (v 1) Ab))) Ab)))))
def Vf:List D->Res D:=fn 1
  (ret (c (.bl true)))
def Mj:List D->Res D:=fn 1
  (ret (c (.bl false)))
def HX:List (Str×(List D->Res D)):=[("Plain",Mj),("Shaded",Mj),("Glass",Vf)]
def FJ:List D->Res D:=fn 2
  (ret (o2 dLt (o2 Aw (o2 dIx (v 0) (c (.int 0))) (o2 dIx (v 1) (c (.int 1)))) (o2 Aw (o2 dIx (v 1) (c (.int 0))) (o2 dIx (v 0) (c (.int 1))))))
def Li:List D->Res D:=fn 5
  (sq (stO 2 (mls Ab))
  (sq (for_ (iv (v 1)) (gN 3)
  (ifs (bAnd (trb (meth HX "is_glass" (o2 dIx (v 3) (c (.int 0))) Ab)) (bOr (trb (o1 dIsN (v 0))) (trb (on FJ (Aa (o2 dIx (v 3) (c (.int 1))) (Aa (o2 dIx (v 0) (c (.int 1))) Ab))))))
  (sq (st 4 (pk 2 (on bLen (Aa (comp (iv (v 2)) 1 [3] (gN 0) (trb (on FJ (Aa (o2 dIx (v 1) (c (.int 1))) (Aa (o2 dIx (v 0) (c (.int 1))) Ab)))) (v 0)) Ab))))
  (insO 2 (v 4) (v 3)))
  nop))
  (frz 2 (ret (v 2)))))
def Qy:List D->Res D:=fn 3
  (sq (st 1 (c .non))
  (sq (for_ (iv (v 0)) (gN 2)
  (sq (ifs (trb (meth HX "is_glass" (o2 dIx (v 2) (c (.int 0))) Ab))
  cnt
  nop)
  (ifs (bOr (trb (o1 dIsN (v 1))) (trb (on FJ (Aa (o2 dIx (v 2) (c (.int 1))) (Aa (o2 dIx (v 1) (c (.int 1))) Ab)))))
  (st 1 (v 2))
  nop)))
  (ret (v 1))))
def M4:List D->Res D:=fn 5
  (sq (st 2 (on Qy (Aa (v 0) Ab)))
  (sq (st 3 (v 1))
  (sq (ifs (trb (o1 G8 (v 2)))
  (st 3 (meth Lk "colour_at" (o2 dIx (v 2) (c (.int 0))) (Aa (o2 dIx (v 2) (c (.int 2))) Ab)))
  nop)
  (sq (for_ (iv (on Li (Aa (v 2) (Aa (v 0) Ab)))) (gN 4)
  (st 3 (on Nj (Aa (o2 dIx (v 4) (c (.int 0))) (Aa (v 3) Ab)))))
  (ret (v 3))))))
def Oi:List D->Res D:=fn 3
  (sq (st 1 (mtp (Aa (c (.int 0)) (Aa (c (.int 1)) Ab))))
  (sq (for_ (iv (v 0)) (gN 2)
  (st 1 (on Ig (Aa (v 1) (Aa (v 2) Ab)))))
  (ret (on Fz (Aa (o2 dIx (v 1) (c (.int 0))) (Aa (o2 Aw (o2 dIx (v 1) (c (.int 1))) (on bLen (Aa (v 0) Ab))) Ab))))))
def K5:List D->Res D:=fn 2
  (ret (on Oi (Aa (comp (iv (v 0)) 1 [1] (gN 0) yes (on M4 (Aa (v 0) (Aa (v 1) Ab)))) Ab)))
def Ff:List D->Res D:=fn 2
  (ret (o2 An (o2 An (o2 Aw (o2 dIx (v 0) (c (.int 0))) (o2 dIx (v 1) (c (.int 0)))) (o2 Aw (o2 dIx (v 0) (c (.int 1))) (o2 dIx (v 1) (c (.int 1))))) (o2 Aw (o2 dIx (v 0) (c (.int 2))) (o2 dIx (v 1) (c (.int 2))))))
def QS:List D->Res D:=fn 2
  (ret (on Ff (Aa (comp (iv (v 0)) 1 [] (gN 0) yes (o2 dIx (v 0) (c (.int 3)))) (Aa (v 1) Ab))))
def Pj:List D->Res D:=fn 5
  (sq (st 2 (on QS (Aa (v 0) (Aa (v 1) Ab))))
  (sq (st 3 (on Fz (Aa (on Ff (Aa (comp (iv (v 0)) 1 [] (gN 0) yes (o2 dIx (v 0) (c (.int 2)))) (Aa (v 1) Ab))) (Aa (v 2) Ab))))
  (sq (st 4 (on lz3 (Aa (o2 dIx (o2 dIx (v 0) (c (.int 0))) (c (.int 4))) (Aa (o2 dIx (o2 dIx (v 0) (c (.int 1))) (c (.int 4))) (Aa (o2 dIx (o2 dIx (v 0) (c (.int 2))) (c (.int 4))) Ab)))))
  (ret (mtp (Aa (v 3) (Aa (on bTup (Aa (comp (iv (v 4)) 1 [2,1] (gN 0) yes (on Fz (Aa (on Ff (Aa (v 0) (Aa (v 2) Ab))) (Aa (v 1) Ab)))) Ab)) Ab)))))))
def Nv:List D->Res D:=fn 2
  (ret (mtp (Aa (o2 dSub (o2 Aw (o2 dIx (v 0) (c (.int 1))) (o2 dIx (v 1) (c (.int 2)))) (o2 Aw (o2 dIx (v 0) (c (.int 2))) (o2 dIx (v 1) (c (.int 1))))) (Aa (o2 dSub (o2 Aw (o2 dIx (v 0) (c (.int 2))) (o2 dIx (v 1) (c (.int 0)))) (o2 Aw (o2 dIx (v 0) (c (.int 0))) (o2 dIx (v 1) (c (.int 2))))) (Aa (o2 dSub (o2 Aw (o2 dIx (v 0) (c (.int 0))) (o2 dIx (v 1) (c (.int 1)))) (o2 Aw (o2 dIx (v 0) (c (.int 1))) (o2 dIx (v 1) (c (.int 0))))) Ab)))))
def Ju:List D->Res D:=fn 5
  (sq (st 3 (on Nv (Aa (v 0) (Aa (v 1) Ab))))
  (sq (for_ (iv (mtp (Aa (on Ff (Aa (v 3) (Aa (v 2) Ab))) (Aa (o2 dIx (v 3) (c (.int 0))) (Aa (o2 dIx (v 3) (c (.int 1))) Ab))))) (gN 4)
  (ifs (trb (o2 dNe (v 4) (c (.int 0))))
  (ret (ife (trb (o2 dGt (v 4) (c (.int 0)))) (c (.int 1)) (o1 dNeg (c (.int 1)))))
  nop))
  (ret (c (.int 0)))))
def Pn:List D->Res D:=fn 3
  (sq (drp (on Jb (Aa (v 0) Ab)))
  (sq (st 2 (on Ju (Aa (o2 dIx (v 0) (c (.int 0))) (Aa (o2 dIx (v 0) (c (.int 1))) (Aa (v 1) Ab)))))
  (sq (ifs (bOr (trb (o2 dNe (on Ju (Aa (o2 dIx (v 0) (c (.int 1))) (Aa (o2 dIx (v 0) (c (.int 2))) (Aa (v 1) Ab)))) (v 2))) (trb (o2 dNe (on Ju (Aa (o2 dIx (v 0) (c (.int 2))) (Aa (o2 dIx (v 0) (c (.int 0))) (Aa (v 1) Ab)))) (v 2))))
  (ret (c (.int 0)))
  nop)
  (ret (v 2)))))
def KY:List D->Res D:=fn 3
  (ret (on Ff (Aa (on Nv (Aa (v 0) (Aa (v 1) Ab))) (Aa (v 2) Ab))))
def QB:List D->Res D:=fn 2
  (ret (mtp (Aa (on KY (Aa (o2 dIx (v 0) (c (.int 1))) (Aa (o2 dIx (v 0) (c (.int 2))) (Aa (v 1) Ab)))) (Aa (on KY (Aa (o2 dIx (v 0) (c (.int 2))) (Aa (o2 dIx (v 0) (c (.int 0))) (Aa (v 1) Ab)))) (Aa (on KY (Aa (o2 dIx (v 0) (c (.int 0))) (Aa (o2 dIx (v 0) (c (.int 1))) (Aa (v 1) Ab)))) Ab)))))
def Dh:List D->Res D:=fn 2
  (sq (ifs (trb (o2 dEq (on Pn (Aa (v 0) (Aa (v 1) Ab))) (c (.int 0))))
  (ret (c .non))
  nop)
  (ret (on Pj (Aa (v 0) (Aa (on QB (Aa (v 0) (Aa (v 1) Ab))) Ab)))))
def M6:List D->Res D:=fn 5
  (sq (stO 2 (mls Ab))
  (sq (for_ (iv (v 0)) (gN 3)
  (sq (st 4 (on Dh (Aa (o1 (dFld objs "triangle") (v 3)) (Aa (v 1) Ab))))
  (ifs (trb (o1 G8 (v 4)))
  (app 2 (mtp (Aa (v 3) (Aa (o2 dIx (v 4) (c (.int 0))) (Aa (o2 dIx (v 4) (c (.int 1))) Ab)))))
  nop)))
  (frz 2 (ret (v 2)))))
def Mm:List D->Res D:=fn 3
  (ret (mtp (Aa (o2 An (o2 Aw (c (.int 8)) (v 0)) (o2 dIx (v 2) (c (.int 0)))) (Aa (o2 An (o2 Aw (c (.int 8)) (v 1)) (o2 dIx (v 2) (c (.int 1)))) (Aa (c (.int 8)) Ab)))))
def PX:List D->Res D:=fn 4
  (ret (Hj (iv (v 3)) 1 [0,2,1] (gN 0) yes (on M6 (Aa (v 1) (Aa (on Mm (Aa (v 3) (Aa (v 2) (Aa (v 0) Ab)))) Ab)))))
def U4:List D->Res D:=fn 5
  (ret (Hj (r1 (Aa (v 1) Ab)) 1 [0,3,2,4] (gN 0) yes (on K5 (Aa (on PX (Aa (v 1) (Aa (v 0) (Aa (v 3) (Aa (v 2) Ab))))) (Aa (v 4) Ab)))))
def O2:List D->Res D:=fn 1
  (sq (ifs (bOr (bNot (trb (on bIsi (Aa (v 0) (Aa (c (.ty "tuple")) Ab))))) (trb (o2 dNe (on bLen (Aa (v 0) Ab)) (c (.int 2)))))
  (ret (c (.bl false)))
  nop)
  (ret (eAnd (on Hw (Aa (o2 dIx (v 0) (c (.int 0))) (Aa (c (.int 1)) (Aa (c (.int 7)) Ab)))) (on Hw (Aa (o2 dIx (v 0) (c (.int 1))) (Aa (c (.int 1)) (Aa (c (.int 7)) Ab)))))))
def Qi:List D->Res D:=fn 1
  (sq (ifs (bOr (bNot (trb (on bIsi (Aa (v 0) (Aa (c (.ty "list")) Ab))))) (bOr (trb (o2 dLt (on bLen (Aa (v 0) Ab)) (c (.int 1)))) (trb (o2 dGt (on bLen (Aa (v 0) Ab)) (c (.int 16))))))
  (rse "BadFloor" (Aa (c (.str "spots are a list of 1 to 16 tuples")) Ab))
  nop)
  (sq (ifs (bNot (trb (on bAll (Aa (comp (iv (v 0)) 1 [] (gN 0) yes (on O2 (Aa (v 0) Ab))) Ab))))
  (rse "BadFloor" (Aa (c (.str "a spot is a tuple of two whole numbers from 1 to 7")) Ab))
  nop)
  (ifs (trb (o2 dNe (o1 T9 (v 0)) (on bLen (Aa (v 0) Ab))))
  (rse "BadFloor" (Aa (c (.str "the spots of a list are all unlike")) Ab))
  nop)))
def Gs:List D->Res D:=fn 1
  (sq (ifs (trb (o1 dIsN (v 0)))
  (ret (mls (Aa (mtp (Aa (c (.int 4)) (Aa (c (.int 4)) Ab))) Ab)))
  nop)
  (sq (drp (on Qi (Aa (v 0) Ab)))
  (ret (v 0))))
def Fy:List D->Res D:=fn 7
  (sq (drp (on MT (Aa (v 1) (Aa (v 2) Ab))))
  (sq (st 5 (on Gs (Aa (v 3) Ab)))
  (sq (st 6 (on Qp (Aa (v 4) Ab)))
  (ret (Hj (r1 (Aa (v 2) Ab)) 1 [1,0,5,6] (gN 0) yes (on U4 (Aa (v 2) (Aa (v 1) (Aa (v 0) (Aa (v 3) (Aa (v 4) Ab)))))))))))
def JP:List D->Res D:=fn 6
  (sq (ifs (bOr (trb (o2 dEq (v 3) (c (.int 0)))) (trb (o2 dEq (v 4) (c (.int 0)))))
  (ret (comp (r1 (Aa (v 4) Ab)) 1 [] (gN 0) yes (mls Ab)))
  nop)
  (ret (onK Fy [none] (Aa (on JQ (Aa (v 0) (Aa (o2 dSub (c (.int 0)) (v 1)) (Aa (o2 dSub (c (.int 0)) (v 2)) Ab)))) (Aa (v 3) (Aa (v 4) (Aa (v 5) Ab)))) Ab)))
def QG:List D->Res D:=fn 1
  (ifs (bNot (trb (on Hw (Aa (v 0) (Aa (c (.int 1)) (Aa (c (.int 64)) Ab))))))
  (rse "BadFloor" (Aa (c (.str "a tile is 1 to 64 cells wide")) Ab))
  nop)
def O5:List D->Res D:=fn 3
  (sq (st 1 (o2 dIx (v 0) (c (.int 0))))
  (sq (for_ (iv (v 0)) (gN 2)
  (ifs (trb (on FJ (Aa (v 1) (Aa (v 2) Ab))))
  (st 1 (v 2))
  nop))
  (ret (v 1))))
def Le:List D->Res D:=fn 1
  (sq (ifs (trb (o2 dIn (c .non) (v 0)))
  (ret (c .non))
  nop)
  (ret (on O5 (Aa (v 0) Ab))))
def Nq:List D->Res D:=fn 3
  (sq (st 1 (o2 dIx (v 0) (c (.int 0))))
  (sq (for_ (iv (v 0)) (gN 2)
  (ifs (trb (on FJ (Aa (v 2) (Aa (v 1) Ab))))
  (st 1 (v 2))
  nop))
  (ret (v 1))))
def Ld:List D->Res D:=fn 2
  (ret (ife (trb (o1 dIsN (v 0))) (v 1) (on Nq (Aa (mls (Aa (v 0) (Aa (v 1) Ab))) Ab))))
def Jj:FY:=fnY 7 [2,3]
  (forY (PQ (Aa (v 1) Ab)) (gU 2 (gs1 (gN 4) (gs1 (gN 5) gs0)))
  (sqY (lft (st 6 (on Dh (Aa (o1 (dFld objs "triangle") (v 0)) (Aa (v 5) Ab)))))
  (sqY (ifY (trb (o1 dIsN (v 6)))
  (lft cnt)
  (lft nop))
  (sqY (appY (v 4) (mtp (Aa (v 0) (Aa (o2 dIx (v 6) (c (.int 0))) (Aa (o2 dIx (v 6) (c (.int 1))) Ab)))))
  (ifY (bNot (trb (meth HX "is_glass" (v 0) Ab)))
  (lft (setO 3 (pkN 3 (on Ld (Aa (o2 dIx (v 3) (v 4)) (Aa (o2 dIx (v 6) (c (.int 0))) Ab)))) (v 4)))
  (lft nop))))))
def HD:List D->Res D:=fn 1
  (ret (on Nq (Aa (comp (iv (v 0)) 1 [] (gN 0) yes (on Fz (Aa (o2 dIx (v 0) (c (.int 2))) (Aa (o2 dIx (v 0) (c (.int 3))) Ab)))) Ab)))
def NQ:List D->Res D:=fn 9
  (regY 2 (comp (iv (v 1)) 1 [] (gN 0) yes (mls Ab))
  (sqY (lft (stO 3 (comp (iv (v 1)) 1 [] (gN 0) yes (c .non))))
  (sqY (lft (stO 4 (mls Ab)))
  (sqY (forY (PQ (Aa (v 0) Ab)) (gU 2 (gs1 (gN 5) (gs1 (gN 6) gs0)))
  (sqY (lft (st 7 (on HD (Aa (o1 (dFld objs "triangle") (v 6)) Ab))))
  (sqY (lft (st 8 (pkN 3 (on Le (Aa (v 3) Ab)))))
  (ifY (bAnd (trb (o1 G8 (v 8))) (bNot (trb (on FJ (Aa (v 7) (Aa (v 8) Ab))))))
  (lft (app 4 (mtp (Aa (v 5) (Aa (v 7) (Aa (v 8) Ab))))))
  (GC Jj 3 (some 3) (rIm (v 6) (rIm (v 1) (rRg (rOw 3 rNil)))))))))
  (retY 4)))))
def OD:List D->Res D:=fn 2
  (sq (ifs (trb (o1 dIsN (v 0)))
  (ret (on bLR (Aa (v 1) Ab)))
  nop)
  (sq (ifs (bOr (bNot (trb (on bIsi (Aa (v 0) (Aa (c (.ty "list")) Ab))))) (bNot (trb (on bAll (Aa (comp (iv (v 0)) 1 [] (gN 0) yes (on GQ (Aa (v 0) Ab))) Ab)))))
  (rse "BadFloor" (Aa (c (.str "an order is a list of whole numbers")) Ab))
  nop)
  (sq (ifs (trb (o2 dNe (on Om (Aa (v 0) Ab)) (on bLR (Aa (v 1) Ab))))
  (rse "BadFloor" (Aa (c (.str "an order has the number of each tile once")) Ab))
  nop)
  (ret (v 0)))))
def QL:FY:=fnY 8 [0]
  (sqY (lft (st 4 (o2 Bb (on bLen (Aa (v 2) Ab)) (on bLen (Aa (v 1) Ab)))))
  (forY (PQ (Aa (v 1) Ab)) (gU 2 (gs1 (gN 5) (gs1 (gN 6) gs0)))
  (sqY (lft (st 7 (cut (v 2) (pso (o2 Aw (v 5) (v 4))) (pso (o2 Aw (o2 An (v 5) (c (.int 1))) (v 4))))))
  (Ip (on K5 (Aa (v 7) (Aa (v 3) Ab))) (o2 dIx (v 6) (c (.int 1))) (o2 dIx (v 6) (c (.int 0)))))))
def Lp:List D->Res D:=fn 5
  (sq (stO 2 (mls Ab))
  (sq (for_ (iv (v 0)) (gU 2 (gs1 (gN 3) (gs1 (gN 4) gs0)))
  (ext 2 (comp (iv (v 1)) 1 [4,3] (gN 0) yes (on Mm (Aa (v 2) (Aa (v 1) (Aa (v 0) Ab)))))))
  (frz 2 (ret (v 2)))))
def Jf:List D->Res D:=fn 2
  (ret (o2 Bb (o2 dSub (o2 An (v 0) (v 1)) (c (.int 1))) (v 1)))
def Nb:List D->Res D:=fn 10
  (sq (st 4 (on Jf (Aa (v 0) (Aa (v 2) Ab))))
  (sq (st 5 (o2 Aw (o2 Ax (v 3) (v 4)) (v 2)))
  (sq (st 6 (o2 Aw (o2 Bb (v 3) (v 4)) (v 2)))
  (sq (stO 7 (mls Ab))
  (sq (for_ (r2 (Aa (v 6) (Aa (on bMin (Aa (o2 An (v 6) (v 2)) (Aa (v 1) Ab))) Ab))) (gN 8)
  (for_ (r2 (Aa (v 5) (Aa (on bMin (Aa (o2 An (v 5) (v 2)) (Aa (v 0) Ab))) Ab))) (gN 9)
  (app 7 (mtp (Aa (v 9) (Aa (v 8) Ab))))))
  (frz 7 (ret (v 7))))))))
def Ha:List D->Res D:=fnR 15
  (soR (drp (on MT (Aa (v 1) (Aa (v 2) Ab))))
  (soR (drp (on QG (Aa (v 3) Ab)))
  (soR (st 7 (on OD (Aa (v 4) (Aa (o2 Aw (on Jf (Aa (v 1) (Aa (v 3) Ab))) (on Jf (Aa (v 2) (Aa (v 3) Ab)))) Ab))))
  (soR (st 8 (on Gs (Aa (v 5) Ab)))
  (soR (st 9 (on Qp (Aa (v 6) Ab)))
  (regT 10 (comp (r1 (Aa (v 2) Ab)) 1 [1,9] (gN 0) yes (repD (Aa (v 2) Ab) (v 1)))
  (sqY (lft (stO 11 (mls Ab)))
  (sqY (forY (iv (v 7)) (gN 12)
  (sqY (lft (st 13 (on Nb (Aa (v 1) (Aa (v 2) (Aa (v 3) (Aa (v 12) Ab)))))))
  (sqY (lft (st 14 (on NQ (Aa (v 0) (Aa (on Lp (Aa (v 13) (Aa (v 8) Ab))) Ab)))))
  (sqY (GC QL 0 none (rRg (rIm (v 13) (rIm (o2 dIx (v 14) (c (.int 0))) (rIm (v 9) rNil)))))
  (lft (ext 11 (comp (iv (o2 dIx (v 14) (c (.int 1)))) 1 [12] (gN 0) yes (mtp (Aa (v 1) (Aa (o2 dIx (v 0) (c (.int 0))) (Aa (o2 dIx (v 0) (c (.int 1))) (Aa (o2 dIx (v 0) (c (.int 2))) Ab))))))))))))
  (retY 11)))))))))
def Uh:List D->Res D:=fn 20
  (sq (st 1 (o2 An (mls (Aa (on Fj (Aa (v 0) (Aa (c (.int 0)) Ab))) Ab)) (cut (v 0) (pso (c (.int 4))) (pso (c (.int 8))))))
  (sq (st 2 (on Fj (Aa (v 0) (Aa (c (.int 1)) Ab))))
  (sq (st 3 (o2 An (c (.int 1)) (o2 Ax (v 2) (c (.int 5)))))
  (sq (st 4 (o2 An (c (.int 1)) (o2 Ax (o2 Bb (v 2) (c (.int 5))) (c (.int 5)))))
  (sq (st 5 (o2 dIx (mls (Aa (c .non) (Aa (mls (Aa (mtp (Aa (c (.int 4)) (Aa (c (.int 4)) Ab))) Ab)) (Aa (mls (Aa (mtp (Aa (c (.int 2)) (Aa (c (.int 2)) Ab))) (Aa (mtp (Aa (c (.int 6)) (Aa (c (.int 6)) Ab))) Ab))) (Aa (mls (Aa (mtp (Aa (c (.int 1)) (Aa (c (.int 3)) Ab))) (Aa (mtp (Aa (c (.int 4)) (Aa (c (.int 4)) Ab))) (Aa (mtp (Aa (c (.int 7)) (Aa (c (.int 2)) Ab))) Ab)))) Ab))))) (o2 Ax (o2 Bb (v 2) (c (.int 25))) (c (.int 4)))))
  (sq (st 6 (o2 Ax (on Fj (Aa (v 0) (Aa (c (.int 2)) Ab))) (o2 An (v 3) (c (.int 1)))))
  (sq (st 7 (o2 Ax (o2 Bb (on Fj (Aa (v 0) (Aa (c (.int 2)) Ab))) (c (.int 8))) (o2 An (v 4) (c (.int 1)))))
  (sq (st 8 (onK Fy [none] (Aa (on JQ (Aa (v 1) (Aa (c (.int 0)) (Aa (c (.int 0)) Ab)))) (Aa (v 3) (Aa (v 4) (Aa (v 5) Ab)))) Ab))
  (sq (st 9 (on JP (Aa (v 1) (Aa (c (.int 0)) (Aa (c (.int 0)) (Aa (v 6) (Aa (v 7) (Aa (v 5) Ab))))))))
  (sq (st 10 (on JP (Aa (v 1) (Aa (v 6) (Aa (c (.int 0)) (Aa (o2 dSub (v 3) (v 6)) (Aa (v 7) (Aa (v 5) Ab))))))))
  (sq (st 11 (on JP (Aa (v 1) (Aa (c (.int 0)) (Aa (v 7) (Aa (v 6) (Aa (o2 dSub (v 4) (v 7)) (Aa (v 5) Ab))))))))
  (sq (st 12 (on JP (Aa (v 1) (Aa (v 6) (Aa (v 7) (Aa (o2 dSub (v 3) (v 6)) (Aa (o2 dSub (v 4) (v 7)) (Aa (v 5) Ab))))))))
  (sq (st 13 (o2 An (comp (iZip (Aa (v 9) (Aa (v 10) Ab))) 2 [] (gU 2 (gs1 (gN 0) (gs1 (gN 1) gs0))) yes (o2 An (v 0) (v 1))) (comp (iZip (Aa (v 11) (Aa (v 12) Ab))) 2 [] (gU 2 (gs1 (gN 0) (gs1 (gN 1) gs0))) yes (o2 An (v 0) (v 1)))))
  (sq (ifs (trb (o2 dNe (v 13) (v 8)))
  (ret (c (.bl false)))
  nop)
  (sq (st 14 (o2 An (c (.int 1)) (o2 Ax (on Fj (Aa (v 0) (Aa (c (.int 3)) Ab))) (c (.int 8)))))
  (sq (st 15 (o2 Bb (o2 dSub (o2 An (v 3) (v 14)) (c (.int 1))) (v 14)))
  (sq (st 16 (on Qu (Aa (o2 Aw (v 15) (o2 Bb (o2 dSub (o2 An (v 4) (v 14)) (c (.int 1))) (v 14))) (Aa (o2 Ax (o2 Bb (on Fj (Aa (v 0) (Aa (c (.int 3)) Ab))) (c (.int 8))) (c (.int 10007))) Ab))))
  (sq (ifs (trb (o2 dNe (o2 dIx (onK Ha [none] (Aa (on JQ (Aa (v 1) (Aa (c (.int 0)) (Aa (c (.int 0)) Ab)))) (Aa (v 3) (Aa (v 4) (Aa (v 14) (Aa (v 16) (Aa (v 5) Ab)))))) Ab) (c (.int 0))) (v 8)))
  (ret (c (.bl false)))
  nop)
  (sq (st 17 (o2 Ax (o2 Bb (on Fj (Aa (v 0) (Aa (c (.int 2)) Ab))) (c (.int 64))) (c (.int 3))))
  (sq (st 18 (o2 Ax (o2 Bb (on Fj (Aa (v 0) (Aa (c (.int 2)) Ab))) (c (.int 192))) (c (.int 3))))
  (sq (st 19 (onK Fy [none] (Aa (on JQ (Aa (v 1) (Aa (v 17) (Aa (v 18) Ab)))) (Aa (o2 An (v 3) (v 17)) (Aa (o2 An (v 4) (v 18)) (Aa (v 5) Ab)))) Ab))
  (ret (o2 dEq (comp (iv (cut (v 19) (pso (v 18)) pno)) 1 [17] (gN 0) yes (cut (v 0) (pso (v 1)) pno)) (v 8))))))))))))))))))))))))
variable{U:Dl.D->Prop}{Z:Dl.Ev}{t w:List Nat}{Ψ:Dl.Fl->Prop}{ns:List Int}{cs:List (List Int)}{e:Dl.ME}{k i:Nat}
def Jr{k:Int}(hk:0<=k/\k<=1000)(h:∀r,0<=r/\r<2147483648->U (.int r)):Tl (GD [.int cc,.int k]) U:=by
 unfold GD;symm;refine Eb (λ_=>?_) (λ_=>?_)
 .symm;refine Eb (λ_=>?_) (λ_=>?_)
  .symm;refine Eb (λ_=>?_) (λ_=>?_)
   .symm;exact h _ (by ac_rfl)
   .symm;exact h _ (by ac_rfl)
  .symm;exact h _ (by ac_rfl)
 .symm;exact h _ (by ac_rfl)
def cor(x y w h:Int)(vs:List Int):D:=.tup [.int x,.int y,.int w,.int h,.tup (vs.map .int)]
def Bd(x:Int):Prop:=-1000000<=x/\x<=1000000
def vU{ys:List D}{n:Nat}(hl:ys.length=n)(h:∀y∈ys,∃v:Int,y=.int v/\Bd v):∃vs:List Int,ys=vs.map .int/\vs.length=n/\∀v∈vs,Bd v:=by
 induction ys generalizing n with
 | nil=>exact ⟨[],rfl,hl,λ_ h=>(CZ h).elim⟩
 | cons y r ih=>
  obtain ⟨v,rfl,a⟩:=h y BR;obtain ⟨vs,rfl,l,c⟩:=ih (n:=r.length) rfl λz b=>h z (BP _ b);refine ⟨v::vs,rfl,by simpa using hl,λu hu=>?_⟩;rcases Aj.mp hu with rfl | hu
  .exact a
  .exact c u hu
def Zuj{U:List D->Prop}{g:MG}{e:ME}{Z:Ev}{n:Nat}(h:∀k:Nat,k<n->Tl (g (.int k) Z) λZ1=>Tl (e Z1) λy=>∃v:Int,y=.int v/\Bd v)(q:∀vs:List Int,vs.length=n->(∀v∈vs,Bd v)->U (vs.map .int)):Tl (Ar g yes e Z (Cd 0 n)) U:=by
 have b:(Cd 0 n).length=n:=by unfold Cd;simp
 refine w_all (λ_ y=>∃v:Int,y=.int v/\Bd v) (λx d=>?_) λp l a=>?_
 .obtain ⟨k,f,rfl⟩:=mem_range d;exact h k f
 .obtain ⟨vs,rfl,m,o⟩:=vU (n:=n) (l.trans b) λy j=>by
   obtain ⟨i,c,rfl⟩:=KC.mp j;exact a i _ _ (BX (by ac_rfl)) (BX c)
  exact q vs m o
def kJ{k:Int}(hk:0<=k)(h:∀n,U (.int n)):Tl (Fj [.lst (ns.map .int),.int k]) U:=by
 unfold Fj;symm;refine Eb (λa=>?_) (λ_=>?_)
 .symm;refine zK (by ac_rfl) λn _=>?_;symm;exact h n
 .symm;exact h 0
end My
namespace Mt
def rW{x y:Int}(h:y<0):(x.fmod y).natAbs<y.natAbs:=by
 rw [Int.fmod_eq_emod];have a:=IK x (show y≠0 by ac_rfl);have b:=Int.emod_lt x (show y≠0 by ac_rfl);by_cases hd:y∣x
 .have e:x%y=0:=Int.emod_eq_zero_of_dvd hd;rw [iP (.inr hd),e];ac_rfl
 .rw [iN (by ac_rfl)];ac_rfl
def qH(x y:Int):Int.gcd y (x.fmod y)=Int.gcd x y:=by
 have e:x.fmod y=x+y*(-(x.fdiv y)):=by rw [Int.fmod_def,Int.mul_neg,Int.sub_eq_add_neg]
 rw [e,Int.gcd_comm,Int.gcd_add_mul_left_left]
end Mt
namespace My
open PySem Dl
variable{U:Dl.D->Prop}{Z:Dl.Ev}{t w:List Nat}{Ψ:Dl.Fl->Prop}{ns:List Int}{cs:List (List Int)}{e:Dl.ME}{k i:Nat}
def w_modN(hy:y<0)(h:U (.int (x.fmod y))):Tl (Ax (.int x) (.int y)) U:=by
 refine Ae ?_ h;show iMod x y=_;unfold iMod;rw [iN (by ac_rfl),iN (by ac_rfl)]
def qz(h:U (.int (Mt.gcdL 0 ns))):Tl (JN [.lst (ns.map .int)]) U:=by
 unfold JN;symm;refine Tn (λp Z=>∃(a:List Int) (i c b:Cl),p=a.map .int/\Z=[.im (.lst (ns.map .int)),.im (.int (Mt.gcdL 0 a)),i,c,b]) ⟨[],_,_,_,rfl,rfl⟩ ?_ ?_
 .rintro p x r o Z ⟨a,i,c,b,rfl,rfl⟩;obtain ⟨n,rfl⟩ : ∃n:Int,x=.int n:=by
   have:x∈ns.map .int:=by rw [o];simp
   obtain ⟨n,_,rfl⟩:=Bf.mp this;exact ⟨n,rfl⟩
  symm;refine w_wh (λZ=>∃(f m:Nat) (b:Cl),Z=[.im (.lst (ns.map .int)),.im (.int f),.im (.int n),.im (.int m),b]/\Nat.gcd f m=Nat.gcd (Mt.gcdL 0 a) n.natAbs) (GF 3) ⟨_,_,_,rfl,rfl⟩ (O4 _ _) ?_;rintro Z ⟨f,m,b,rfl,e⟩;symm;refine ⟨λj=>?_,λj=>?_⟩
  .have d:m≠0:=by simpa using j
   symm;refine ⟨_,rfl,⟨m,f%m,_,rfl,?_⟩,?_⟩
   .rw [<-e,Mt.Xa]
   .have:=Hk f (Nat.pos_of_ne_zero d);simp [GF,absC];ac_rfl
  .have d:m=0:=by simpa using j
   subst d;rw [Nat.gcd_zero_right] at e;have s:Mt.gcdL 0 (a++[n])=Nat.gcd (Mt.gcdL 0 a) n.natAbs:=by
    have k:∀(l:List Int) (g:Nat),Mt.gcdL g (l++[n])=Nat.gcd (Mt.gcdL g l) n.natAbs:=by
     intro l
     induction l with
     | nil=>exact λg=>rfl
     | cons y l ih=>exact λg=>ih _
    exact k a 0
   exact ⟨_,rfl,a++[n],.im (.int n),.im (.int ((0:Nat):Int)),b,by simp,by rw [s,<-e]⟩
 .rintro Z ⟨a,i,c,b,q,rfl⟩;symm;have:ns=a:=Ue q;rw [<-this];exact h
def nR(h:U (.int (Mt.gcdL 0 ns))):Tl (JN [.tup (ns.map .int)]) U:=by
 unfold JN;symm;refine Tn (λp Z=>∃(a:List Int) (i c b:Cl),p=a.map .int/\Z=[.im (.tup (ns.map .int)),.im (.int (Mt.gcdL 0 a)),i,c,b]) ⟨[],_,_,_,rfl,rfl⟩ ?_ ?_
 .rintro p x r o Z ⟨a,i,c,b,rfl,rfl⟩;obtain ⟨n,rfl⟩ : ∃n:Int,x=.int n:=by
   have:x∈ns.map .int:=by rw [o];simp
   obtain ⟨n,_,rfl⟩:=Bf.mp this;exact ⟨n,rfl⟩
  symm;refine w_wh (λZ=>∃(f m:Nat) (b:Cl),Z=[.im (.tup (ns.map .int)),.im (.int f),.im (.int n),.im (.int m),b]/\Nat.gcd f m=Nat.gcd (Mt.gcdL 0 a) n.natAbs) (GF 3) ⟨_,_,_,rfl,rfl⟩ (O4 _ _) ?_;rintro Z ⟨f,m,b,rfl,e⟩;symm;refine ⟨λj=>?_,λj=>?_⟩
  .have d:m≠0:=by simpa using j
   symm;refine ⟨_,rfl,⟨m,f%m,_,rfl,?_⟩,?_⟩
   .rw [<-e,Mt.Xa]
   .have:=Hk f (Nat.pos_of_ne_zero d);simp [GF,absC];ac_rfl
  .have d:m=0:=by simpa using j
   subst d;rw [Nat.gcd_zero_right] at e;have s:Mt.gcdL 0 (a++[n])=Nat.gcd (Mt.gcdL 0 a) n.natAbs:=by
    have k:∀(l:List Int) (g:Nat),Mt.gcdL g (l++[n])=Nat.gcd (Mt.gcdL g l) n.natAbs:=by
     intro l
     induction l with
     | nil=>exact λg=>rfl
     | cons y l ih=>exact λg=>ih _
    exact k a 0
   exact ⟨_,rfl,a++[n],.im (.int n),.im (.int ((0:Nat):Int)),b,by simp,by rw [s,<-e]⟩
 .rintro Z ⟨a,i,c,b,q,rfl⟩;symm;have:ns=a:=Ue q;rw [<-this];exact h
def fra(t b:Int):D:=.tup [.int (Mt.frT t b),.int (Mt.frB t b)]
def Zk{t b:Int}(h:b≠0):Int.gcd t b<=b.natAbs:=Nat.le_of_dvd (by ac_rfl) (Nf.mpr (Int.gcd_dvd_right t b) |> λy=>by simpa using y)
def PB{U:D->Prop}{x y:Int}{k:Nat}(hy:0<y)(s:Sm k y)(hk:k<=8900)(h:U (.int (x.fdiv y))):Tl (Bb (.int x) (.int y)) U:=by
 refine w_div hy (s.log (by ac_rfl)) ?_;rw [<-Qa _ (by ac_rfl)];exact h
def Ws{U:D->Prop}{x y:Int}{k:Nat}(hy:y<0)(s:Sm k y)(hk:k<=8900)(h:U (.int (x.fdiv y))):Tl (Bb (.int x) (.int y)) U:=w_divN hy (s.log (by ac_rfl)) h
def Qh{U:D->Prop}{t b:Int}{k:Nat}(hb:b≠0)(sb:Sm k b)(hk:k<=8900)(h:U (fra t b)):Tl (Fz [.int t,.int b]) U:=by
 have d:=Mt.MF (t:=t) hb;have c:Sm k (Int.gcd t b:Int):=sb.le (by rw [Kc];exact Zk hb);unfold Fz;symm;refine qz (ns:=[t,b]) ?_;rw [Mt.fJ];symm;unfold fra Mt.frT Mt.frB at h;refine Eb (λa=>?_) (λa=>?_)
 .symm;rw [iP a,iP a] at h;refine Ws (by ac_rfl) c.neg hk ?_;symm;refine Ws (by ac_rfl) c.neg hk ?_;symm;exact h
 .symm;rw [iN a,iN a] at h;refine PB (by ac_rfl) c hk ?_;symm;refine PB (by ac_rfl) c hk ?_;symm;exact h
abbrev dot(x y z e f g:Int):Int:=x*e+y*f+z*g
def Qe{x y z e f g:Int}{k n:Nat}(hx:Sm k x)(hy:Sm k y)(hz:Sm k z)(he:Sm n e)(hf:Sm n f)(hg:Sm n g):Sm (k+n+2) (dot x y z e f g):=(((hx.mul he).add (hy.mul hf)).add (hz.mul hg)).mono (by ac_rfl)
def Yy{U:D->Prop}{x y z e f g:Int}{k n:Nat}(hx:Sm k x)(hy:Sm k y)(hz:Sm k z)(he:Sm n e)(hf:Sm n f)(hg:Sm n g)(hk:k+n<=8000)(q:U (.int (dot x y z e f g))):Tl (Ff [.lst [.int x,.int y,.int z],.tup [.int e,.int f,.int g]]) U:=by
 have b:Bj x e=true:=Cq hx he (by ac_rfl);have a:Bj y f=true:=Cq hy hf (by ac_rfl);have c:Bj z g=true:=Cq hz hg (by ac_rfl);unfold Ff;symm;exact q
def tG{U:D->Prop}{x y z e f g:Int}{k n:Nat}(hx:Sm k x)(hy:Sm k y)(hz:Sm k z)(he:Sm n e)(hf:Sm n f)(hg:Sm n g)(hk:k+n<=8000)(q:U (.int (dot x y z e f g))):Tl (Ff [.tup [.int x,.int y,.int z],.tup [.int e,.int f,.int g]]) U:=by
 have b:Bj x e=true:=Cq hx he (by ac_rfl);have a:Bj y f=true:=Cq hy hf (by ac_rfl);have c:Bj z g=true:=Cq hz hg (by ac_rfl);unfold Ff;symm;exact q
structure Cv(k:Nat)(x y w h:Int)(vs:List Int):Prop where
 fx:Sm k x
 fy:Sm k y
 fw:Sm k w
 fh:Sm k h
 fv:∀v∈vs,Sm k v
 f1:1<=h
def nG{U:D->Prop}{ax ay aw ah bx bY bw bh cx cy cw ch e f g:Int}{av bv cv:List Int}{k n:Nat}(a:Cv k ax ay aw ah av)(b:Cv k bx bY bw bh bv)(c:Cv k cx cy cw ch cv)(he:Sm n e)(hf:Sm n f)(hg:Sm n g)(hk:k+n<=8000)(q:U (.int (dot ah bh ch e f g))):Tl (QS [.tup [cor ax ay aw ah av,cor bx bY bw bh bv,cor cx cy cw ch cv],.tup [.int e,.int f,.int g]]) U:=by
 unfold QS cor;symm;refine ⟨by show (3:Nat)<=_;ac_rfl,?_⟩;refine Fq ?_;symm;refine Fq ?_;symm;refine Fq ?_;symm;refine Ot ?_;symm;refine Yy a.fh b.fh c.fh he hf hg hk ?_;symm;exact q
def X7:∀(xs ys zs:List Int),trips (xs.map .int) (ys.map .int) (zs.map .int)=(xs.zip (ys.zip zs)).map λt=>.tup [.int t.1,.int t.2.1,.int t.2.2]
 | [],_,_=>by simp [trips]
 | _::_,[],_=>by simp [trips]
 | _::_,_::_,[]=>by simp [trips]
 | x::xs,y::ys,z::zs=>by simp [trips,X7 xs ys zs]
def vls(av bv cv:List Int)(e f g B:Int):List D:=(av.zip (bv.zip cv)).map λt=>fra (dot t.1 t.2.1 t.2.2 e f g) B
def Znh{av bv cv:List Int}{t:Int×Int×Int}(h:t∈av.zip (bv.zip cv)):t.1∈av/\t.2.1∈bv/\t.2.2∈cv:=by
 obtain ⟨x,y,z⟩:=t;have a:=Ml h;have b:=Ml a.2;exact ⟨a.1,b.1,b.2⟩
def Zqq{U:D->Prop}{ax ay aw ah bx bY bw bh cx cy cw ch e f g:Int}{av bv cv:List Int}{k n:Nat}(a:Cv k ax ay aw ah av)(b:Cv k bx bY bw bh bv)(c:Cv k cx cy cw ch cv)(he:Sm n e)(hf:Sm n f)(hg:Sm n g)(hk:k+n<=7000)(hl:av.length<=1000)(h0:dot ah bh ch e f g≠0)
  (q:U (.tup [fra (dot aw bw cw e f g) (dot ah bh ch e f g),.tup (vls av bv cv e f g (dot ah bh ch e f g))])):Tl (Pj [.tup [cor ax ay aw ah av,cor bx bY bw bh bv,cor cx cy cw ch cv],.tup [.int e,.int f,.int g]]) U:=by
 have d:=Qe a.fh b.fh c.fh he hf hg;unfold Pj;symm;refine nG a b c he hf hg (by ac_rfl) ?_;generalize dot ah bh ch e f g=B at *;unfold cor;symm;refine ⟨by show (3:Nat)<=_;ac_rfl,?_⟩;refine Fq ?_;symm;refine Fq ?_;symm;refine Fq ?_;symm;refine Ot ?_;symm;refine Yy a.fw b.fw c.fw he hf hg (by ac_rfl) ?_;symm;refine Qh h0 d (by ac_rfl) ?_;symm;rw [X7];refine ⟨by rw [Af,List.length_zip];ac_rfl,?_⟩;refine Dq (λt=>fra (dot t.1 t.2.1 t.2.2 e f g) B) (λt h=>?_) ?_
 .obtain ⟨j,l,i⟩:=Znh h;symm;refine tG (a.fv _ j) (b.fv _ l) (c.fv _ i) he hf hg (by ac_rfl) ?_;symm;exact Qh h0 d (by ac_rfl) rfl
 symm;exact q
abbrev ow(ax ay aw bx bY bw cx cy cw:Int):Int:=(ay*bw - aw*bY)*cx+(aw*bx - ax*bw)*cy+(ax*bY - ay*bx)*cw
structure Cr(x y w:Int):Prop where
 x:Sm 64 x
 y:Sm 64 y
 w:Sm 64 w
def Cr.n{ax ay aw bx bY bw:Int}(a:Cr ax ay aw)(b:Cr bx bY bw):Sm 129 (ay*bw - aw*bY)/\Sm 129 (aw*bx - ax*bw)/\Sm 129 (ax*bY - ay*bx) :=
 ⟨(a.y.mul b.w).sub (a.w.mul b.y),(a.w.mul b.x).sub (a.x.mul b.w),(a.x.mul b.y).sub (a.y.mul b.x)⟩
def Cr.ow{ax ay aw bx bY bw cx cy cw:Int}(a:Cr ax ay aw)(b:Cr bx bY bw)(c:Cr cx cy cw):Sm 200 (ow ax ay aw bx bY bw cx cy cw):=by
 obtain ⟨e,f,d⟩:=a.n b;exact (((e.mul c.x).add (f.mul c.y)).add (d.mul c.w)).mono (by decide)
def bz{U:D->Prop}{ax ay aw ah bx bY bw bh:Int}{av bv:List Int}(a:Cr ax ay aw)(b:Cr bx bY bw)(h:U (.tup [.int (ay*bw - aw*bY),.int (aw*bx - ax*bw),.int (ax*bY - ay*bx)])):Tl (Nv [cor ax ay aw ah av,cor bx bY bw bh bv]) U:=by
 obtain ⟨c,d,f⟩:=a;obtain ⟨i,e,g⟩:=b;unfold Nv cor;symm;exact h
def Zh{U:D->Prop}{l m n px py ps:Int}(hl:Sm 129 l)(hm:Sm 129 m)(hn:Sm 129 n)(p:Cr px py ps)(h:U (.int (l*px+m*py+n*ps))):Tl (Ff [.tup [.int l,.int m,.int n],.tup [.int px,.int py,.int ps]]) U:=by
 obtain ⟨a,c,b⟩:=p;unfold Ff;symm;exact h
def sg(x:Int):Int:=if 0<x then 1 else if x<0 then -1 else 0
def sd3(s m n:Int):Int:=if s=0 then (if m=0 then sg n else sg m) else sg s
def Th{x:Int}(h:0<x):sg x=1:=iP h
def VR{x:Int}(h:x<0):sg x=-1:=by unfold sg;rw [iN (by ac_rfl),iP h]
def xF:sg 0=0:=rfl
def Rm(x:Int):sg (-x)=- sg x:=by unfold sg;split<;>split<;>(try split)<;>(try split)<;>ac_rfl
def qm(s m n:Int):sd3 (-s) (-m) (-n)=- sd3 s m n:=by
 unfold sd3;rw [Rm,Rm,Rm];split<;>split<;>(try split)<;>(try split)<;>ac_rfl
def U6{x:Int}:sg x=1/\0<x\/sg x=0/\x=0\/sg x=-1/\x<0:=by
 unfold sg;split<;>(try split)<;>ac_rfl
def VD(x:Int):sg x=1\/sg x=0\/sg x=-1:=by
 rcases U6 (x:=x) with h | h | h
 .exact .inl h.1
 .exact .inr (.inl h.1)
 .exact .inr (.inr h.1)
def jR(s m n:Int):sd3 s m n=1\/sd3 s m n=0\/sd3 s m n=-1:=by
 unfold sd3;by_cases h:s=0
 .rw [iP h];by_cases h':m=0
  .rw [iP h'];exact VD n
  .rw [iN h'];exact VD m
 .rw [iN h];exact VD s
def Vu{s m n e:Int}{P Q R:Prop}(h1:sg s=e↔P)(h2:sg m=e↔Q)(h3:sg n=e↔R):sd3 s m n=e↔(¬s=0/\P)\/(s=0/\((¬m=0/\Q)\/(m=0/\R))):=by
 unfold sd3;by_cases h:s=0
 .rw [iP h];by_cases h':m=0
  .rw [iP h',h3];simp [h,h']
  .rw [iN h',h2];simp [h,h']
 .rw [iN h,h1];simp [h]
def SM{x:Int}:sg x=1↔0<x:=by rcases U6 (x:=x) with h | h | h<;>ac_rfl
def Rb{x:Int}:sg x=-1↔x<0:=by rcases U6 (x:=x) with h | h | h<;>ac_rfl
abbrev sdE(ax ay aw bx bY bw px py ps:Int):Int:=sd3 (ow ax ay aw bx bY bw px py ps) (ay*bw - aw*bY) (aw*bx - ax*bw)
def Uq(ax ay aw bx bY bw px py ps:Int):sdE bx bY bw ax ay aw px py ps=- sdE ax ay aw bx bY bw px py ps:=by
 unfold sdE;rw [<-qm];congr 1
 .unfold ow;grind
 .grind
 .grind
def w_side{U:D->Prop}{ax ay aw ah bx bY bw bh px py ps:Int}{av bv:List Int}(a:Cr ax ay aw)(b:Cr bx bY bw)(p:Cr px py ps)(h:U (.int (sdE ax ay aw bx bY bw px py ps))):Tl (Ju [cor ax ay aw ah av,cor bx bY bw bh bv,.tup [.int px,.int py,.int ps]]) U:=by
 unfold Ju;symm;refine bz a b ?_;symm;obtain ⟨g,f,e⟩:=a.n b;refine Zh g f e p ?_;symm;unfold sdE sd3 at h;change U (.int (if ow ax ay aw bx bY bw px py ps=0 then _ else _)) at h
 show Tl (Cj _ _ [.int (ow ax ay aw bx bY bw px py ps),.int _,.int _] _) _;generalize ow ax ay aw bx bY bw px py ps=s at *;generalize ay*bw - aw*bY=m at *;generalize aw*bx - ax*bw=n at *;refine w_f1 ?_;symm;refine Ly (λc=>?_) (λc=>?_)
 .rw [iN c] at h;symm;refine Eb (λd=>?_) (λd=>?_)
  .symm;rw [Th d] at h;exact h
  .symm;rw [VR (by ac_rfl)] at h;exact h
 rw [iP c] at h;symm;refine w_f1 ?_;symm;refine Ly (λc=>?_) (λc=>?_)
 .rw [iN c] at h;symm;refine Eb (λd=>?_) (λd=>?_)
  .symm;rw [Th d] at h;exact h
  .symm;rw [VR (by ac_rfl)] at h;exact h
 rw [iP c] at h;symm;refine w_f1 ?_;symm;refine Ly (λc=>?_) (λc=>?_)
 .symm;refine Eb (λd=>?_) (λd=>?_)
  .symm;rw [Th d] at h;exact h
  .symm;rw [VR (by ac_rfl)] at h;exact h
 symm;refine w_f0 ?_;symm;rw [c,xF] at h;exact h
def rY{U:D->Prop}{ax ay aw ah bx bY bw bh cx cy cw ch:Int}{av bv cv:List Int}(ha:1<=aw)(hb:1<=bw)(hc:1<=cw)(h:U .non):Tl (Jb [.tup [cor ax ay aw ah av,cor bx bY bw bh bv,cor cx cy cw ch cv]]) U:=by
 unfold Jb cor;symm;refine w_f1 ?_;symm;refine w_f1 ?_;symm;refine w_f1 ?_;symm;refine w_f0 ?_;symm;exact h
def hd3(ab bc ca:Int):Int:=if ab=bc/\bc=ca then ab else 0
def Xn{U:D->Prop}{ax ay aw ah bx bY bw bh cx cy cw ch px py ps:Int}{av bv cv:List Int}(ha:1<=aw)(hb:1<=bw)(hc:1<=cw)(a:Cr ax ay aw)(b:Cr bx bY bw)(c:Cr cx cy cw)(p:Cr px py ps)(h:U (.int (hd3 (sdE ax ay aw bx bY bw px py ps) (sdE bx bY bw cx cy cw px py ps) (sdE cx cy cw ax ay aw px py ps)))):Tl (Pn [.tup [cor ax ay aw ah av,cor bx bY bw bh bv,cor cx cy cw ch cv],.tup [.int px,.int py,.int ps]]) U:=by
 unfold Pn;symm;refine rY ha hb hc ?_;symm;refine w_side a b p ?_;symm;refine w_side b c p ?_;symm;unfold hd3 at h;refine Ly (λd=>?_) (λd=>?_)
 .symm;rw [iN (by ac_rfl)] at h;exact h
 symm;refine w_side c a p ?_;symm;refine Ly (λe=>?_) (λe=>?_)
 .symm;rw [iN (by ac_rfl)] at h;exact h
 symm;rw [iP (by ac_rfl)] at h;exact h
def Sd{U:D->Prop}{ax ay aw ah bx bY bw bh px py ps:Int}{av bv:List Int}(a:Cr ax ay aw)(b:Cr bx bY bw)(p:Cr px py ps)(h:U (.int (ow ax ay aw bx bY bw px py ps))):Tl (KY [cor ax ay aw ah av,cor bx bY bw bh bv,.tup [.int px,.int py,.int ps]]) U:=by
 unfold KY;symm;refine bz a b ?_;symm;obtain ⟨d,e,c⟩:=a.n b;refine Zh d e c p ?_;symm;exact h
def tE{U:D->Prop}{ax ay aw ah bx bY bw bh cx cy cw ch px py ps:Int}{av bv cv:List Int}(a:Cr ax ay aw)(b:Cr bx bY bw)(c:Cr cx cy cw)(p:Cr px py ps)
  (h:U (.tup [.int (ow bx bY bw cx cy cw px py ps),.int (ow cx cy cw ax ay aw px py ps),.int (ow ax ay aw bx bY bw px py ps)])):Tl (QB [.tup [cor ax ay aw ah av,cor bx bY bw bh bv,cor cx cy cw ch cv],.tup [.int px,.int py,.int ps]]) U:=by
 unfold QB;symm;refine Sd b c p ?_;symm;refine Sd c a p ?_;symm;refine Sd a b p ?_;symm;exact h
def Wk{s m n:Int}:sd3 s m n=1↔0<s\/(s=0/\(0<m\/(m=0/\0<n))):=by
 rw [Vu SM SM SM];ac_rfl
def jh{s m n:Int}:sd3 s m n=-1↔s<0\/(s=0/\(m<0\/(m=0/\n<0))):=by
 rw [Vu Rb Rb Rb];ac_rfl
def mul0{a b:Int}(ha:0<a)(hb:0<=b):0<=a*b:=Int.mul_nonneg (Int.le_of_lt ha) hb
def VH{a b c x y z:Int}(ha:0<a)(hb:0<b)(hc:0<c)(hx:0<=x)(hy:0<=y)(hz:0<=z)(h:a*x+b*y+c*z<=0):x=0/\y=0/\z=0:=by
 have e:=mul0 ha hx;have f:=mul0 hb hy;have d:=mul0 hc hz;refine ⟨?_,?_,?_⟩
 .rcases Int.mul_eq_zero.mp (show a*x=0 by ac_rfl) with h | h<;>ac_rfl
 .rcases Int.mul_eq_zero.mp (show b*y=0 by ac_rfl) with h | h<;>ac_rfl
 .rcases Int.mul_eq_zero.mp (show c*z=0 by ac_rfl) with h | h<;>ac_rfl
def WT{ax ay aw bx bY bw cx cy cw px py ps:Int}(ha:0<aw)(hb:0<bw)(hc:0<cw)(hp:0<ps)(h1:sdE ax ay aw bx bY bw px py ps=1)(h2:sdE bx bY bw cx cy cw px py ps=1)(h3:sdE cx cy cw ax ay aw px py ps=1):0<ow ax ay aw bx bY bw cx cy cw:=by
 unfold sdE at h1 h2 h3;rw [Wk] at h1 h2 h3;have b:aw*ow bx bY bw cx cy cw px py ps+bw*ow cx cy cw ax ay aw px py ps+cw*ow ax ay aw bx bY bw px py ps=ow ax ay aw bx bY bw cx cy cw*ps:=by unfold ow;grind
 have i:aw*(bY*cw - bw*cy)+bw*(cy*aw - cw*ay)+cw*(ay*bw - aw*bY)=0:=by grind
 have q:aw*(bw*cx - bx*cw)+bw*(cw*ax - cx*aw)+cw*(aw*bx - ax*bw)=0:=by grind
 generalize ow bx bY bw cx cy cw px py ps=e at *;generalize ow cx cy cw ax ay aw px py ps=f at *;generalize ow ax ay aw bx bY bw px py ps=g at *;generalize ow ax ay aw bx bY bw cx cy cw=o at *;by_cases ho:0<o
 .exact ho
 exfalso;have a:o*ps<=0:=by
  have:=Int.mul_nonneg (show 0<=-o by ac_rfl) (show 0<=ps by ac_rfl);rw [Int.neg_mul] at this;ac_rfl
 obtain ⟨d,l,h⟩:=VH ha hb hc (x:=e) (y:=f) (z:=g) (by ac_rfl) (by ac_rfl) (by ac_rfl) (by ac_rfl);obtain ⟨n,j,c⟩:=VH ha hb hc (x:=bY*cw - bw*cy) (y:=cy*aw - cw*ay) (z:=ay*bw - aw*bY) (by ac_rfl) (by ac_rfl) (by ac_rfl) (by ac_rfl);obtain ⟨k,p,m⟩:=VH ha hb hc (x:=bw*cx - bx*cw) (y:=cw*ax - cx*aw) (z:=aw*bx - ax*bw) (by ac_rfl) (by ac_rfl) (by ac_rfl) (by ac_rfl);ac_rfl
def zx{ax ay aw bx bY bw cx cy cw px py ps:Int}(ha:0<aw)(hb:0<bw)(hc:0<cw)(hp:0<ps)(h1:sdE ax ay aw bx bY bw px py ps=-1)(h2:sdE bx bY bw cx cy cw px py ps=-1)(h3:sdE cx cy cw ax ay aw px py ps=-1):ow ax ay aw bx bY bw cx cy cw<0:=by
 have z:=WT hc hb ha hp (by rw [Uq bx bY bw cx cy cw,h2];rfl) (by rw [Uq ax ay aw bx bY bw,h1];rfl) (by rw [Uq cx cy cw ax ay aw,h3];rfl);have e:ow cx cy cw bx bY bw ax ay aw=- ow ax ay aw bx bY bw cx cy cw:=by unfold ow;grind
 ac_rfl
abbrev hdE(ax ay aw bx bY bw cx cy cw px py ps:Int):Int:=hd3 (sdE ax ay aw bx bY bw px py ps) (sdE bx bY bw cx cy cw px py ps) (sdE cx cy cw ax ay aw px py ps)
def xu{x y z:Int}(hx:x=1\/x=0\/x=-1)(h:hd3 x y z≠0):∃e,(e=1\/e=-1)/\x=e/\y=e/\z=e:=by
 unfold hd3 at h;split at h
 .exact ⟨x,by ac_rfl,rfl,by ac_rfl,by ac_rfl⟩
 .exact aB rfl h
def Ug{U:Fl->Prop}{g:MG}{k:MS}{Z:Ev}{enc:Nat->D}{n:Nat}(I:Nat->Ev->Prop)(h0:I 0 Z)(h:∀j,j<n->∀Z,I j Z->Tl (g (enc j) Z) λZ1=>Tl (k Z1) λf=>∃Z2,f=.nx Z2/\I (j+1) Z2)(hd:∀Z,I n Z->U (.nx Z)):Tl (Cj g k ((List.range n).map enc) Z) U:=by
 refine Tn (λp Z=>I p.length Z) h0 (λp x r e Z i=>?_) λZ i=>?_
 .have l:p.length<n:=by
   have:=CV List.length e;simp at this;ac_rfl
  have ex:x=enc p.length:=by
   have z:=CV (λl=>l[p.length]?) e;simp [l] at z;exact z.symm
  subst ex;obtain ⟨Z1,b,f,a,Z2,rfl,c⟩:=h _ l Z i;refine ⟨Z1,b,_,a,Z2,rfl,?_⟩;simpa using c
 .simp at i;exact hd Z i
def S8(n:Nat):Cd 0 n=(List.range n).map λ(k:Nat)=>D.int k:=by
 unfold Cd;simp
def Wt(e f g:Int):Prop:=(0<=e/\0<=f/\0<=g/\0<e+f+g)\/(e<=0/\f<=0/\g<=0/\e+f+g<0)
def RT{ax ay aw bx bY bw cx cy cw px py ps:Int}(ha:0<aw)(hb:0<bw)(hc:0<cw)(hp:0<ps)(h:hdE ax ay aw bx bY bw cx cy cw px py ps≠0):Wt (ow bx bY bw cx cy cw px py ps) (ow cx cy cw ax ay aw px py ps) (ow ax ay aw bx bY bw px py ps):=by
 obtain ⟨s,j,c,a,b⟩:=xu (jR _ _ _) h;have g:aw*ow bx bY bw cx cy cw px py ps+bw*ow cx cy cw ax ay aw px py ps+cw*ow ax ay aw bx bY bw px py ps=ow ax ay aw bx bY bw cx cy cw*ps:=by unfold ow;grind
 rcases j with rfl | rfl
 .have o:=WT ha hb hc hp c a b;have i:=Ii o hp;rw [Wk] at c a b;left;refine ⟨by ac_rfl,by ac_rfl,by ac_rfl,?_⟩;by_cases z:0<ow bx bY bw cx cy cw px py ps+ow cx cy cw ax ay aw px py ps+ow ax ay aw bx bY bw px py ps
  .exact z
  .exfalso;have f:ow bx bY bw cx cy cw px py ps=0:=by ac_rfl
   have d:ow cx cy cw ax ay aw px py ps=0:=by ac_rfl
   have e:ow ax ay aw bx bY bw px py ps=0:=by ac_rfl
   rw [f,d,e] at g;ac_rfl
 .have o:=zx ha hb hc hp c a b;have i:=Ii (show 0 < - ow ax ay aw bx bY bw cx cy cw by ac_rfl) hp;rw [Int.neg_mul] at i;rw [jh] at c a b;right;refine ⟨by ac_rfl,by ac_rfl,by ac_rfl,?_⟩;by_cases z:ow bx bY bw cx cy cw px py ps+ow cx cy cw ax ay aw px py ps+ow ax ay aw bx bY bw px py ps<0
  .exact z
  .exfalso;have f:ow bx bY bw cx cy cw px py ps=0:=by ac_rfl
   have d:ow cx cy cw ax ay aw px py ps=0:=by ac_rfl
   have e:ow ax ay aw bx bY bw px py ps=0:=by ac_rfl
   rw [f,d,e] at g;ac_rfl
def VV{a x:Int}(ha:1<=a)(hx:0<=x):x<=a*x:=by
 have:=Ik ha hx;ac_rfl
def Rq{a x:Int}(ha:1<=a)(hx:x<=0):a*x<=x:=by
 have:=Ik ha (show 0<=-x by ac_rfl);rw [Int.mul_neg,Int.mul_neg,Int.one_mul] at this;ac_rfl
def YG{x y z e f g:Int}(hx:1<=x)(hy:1<=y)(hz:1<=z)(w:Wt e f g):(0<e+f+g/\0<dot x y z e f g)\/(e+f+g<0/\dot x y z e f g<0):=by
 unfold dot;rcases w with ⟨h1,h2,h3,h4⟩ | ⟨h1,h2,h3,h4⟩
 .have:=VV hx h1;have:=VV hy h2;have:=VV hz h3;left;ac_rfl
 .have:=Rq hx h1;have:=Rq hy h2;have:=Rq hz h3;right;ac_rfl
def XQ{x y z e f g:Int}(hx:1<=x)(hy:1<=y)(hz:1<=z)(w:Wt e f g):dot x y z e f g≠0:=by
 rcases YG hx hy hz w with h | h<;>ac_rfl
def lN{U:D->Prop}{ax ay aw ah bx bY bw bh cx cy cw ch px py ps:Int}{av bv cv:List Int}(ha:1<=aw)(hb:1<=bw)(hc:1<=cw)(a:Cr ax ay aw)(b:Cr bx bY bw)(c:Cr cx cy cw)(p:Cr px py ps)(h0:hdE ax ay aw bx bY bw cx cy cw px py ps=0)(q:U .non):Tl (Dh [.tup [cor ax ay aw ah av,cor bx bY bw bh bv,cor cx cy cw ch cv],.tup [.int px,.int py,.int ps]]) U:=by
 unfold Dh;symm;refine Xn ha hb hc a b c p ?_;unfold hdE at h0;rw [h0];symm;exact q
def jC{U:D->Prop}{ax ay aw ah bx bY bw bh cx cy cw ch px py ps:Int}{av bv cv:List Int}(ha:1<=aw)(hb:1<=bw)(hc:1<=cw)(hp:1<=ps)(a:Cr ax ay aw)(b:Cr bx bY bw)(c:Cr cx cy cw)(p:Cr px py ps)(va:Cv 64 ax ay aw ah av)(vb:Cv 64 bx bY bw bh bv)(vc:Cv 64 cx cy cw ch cv)(hl:av.length<=1000)(h0:hdE ax ay aw bx bY bw cx cy cw px py ps≠0){e f g B:Int}(e1:e=ow bx bY bw cx cy cw px py ps)(e2:f=ow cx cy cw ax ay aw px py ps)(e3:g=ow ax ay aw bx bY bw px py ps)(e4:B=dot ah bh ch e f g)
  (q:U (.tup [fra (dot aw bw cw e f g) B,.tup (vls av bv cv e f g B)])):Tl (Dh [.tup [cor ax ay aw ah av,cor bx bY bw bh bv,cor cx cy cw ch cv],.tup [.int px,.int py,.int ps]]) U:=by
 have W:=RT (by ac_rfl) (by ac_rfl) (by ac_rfl) (by ac_rfl) h0;subst e4 e1 e2 e3;unfold Dh;symm;refine Xn ha hb hc a b c p ?_;symm;refine tE a b c p ?_;symm;refine Zqq va vb vc (b.ow c p) (c.ow a p) (a.ow b p) (by decide) hl (XQ va.f1 vb.f1 vc.f1 W) ?_;symm;exact q
def frD(q:Rat):D:=.tup [.int q.num,.int (q.den:Int)]
def H9{t b:Int}(hb:b≠0):fra t b=frD (Rat.divInt t b):=by
 have F:=Mt.aC (t:=t) hb;have d:((Rat.divInt t b).den:Int)≠0:=by have:=(Rat.divInt t b).den_nz;ac_rfl
 have e:=(Rat.divInt_eq_divInt_iff d hb).mp (JS (Rat.divInt t b));have r:=(Rat.divInt t b).reduced;have p:=(Rat.divInt t b).den_pos;generalize Rat.divInt t b=q at *;have a:Int.gcd q.num (q.den:Int)=1:=by
  show Nat.gcd q.num.natAbs (q.den:Int).natAbs=1;rw [Kc];exact r
 have s:=F.same
 obtain ⟨c,f⟩:=Mt.fO F.pos F.low (show 1<=(q.den:Int) by ac_rfl) a (by
  generalize Mt.frT t b=T at *;generalize Mt.frB t b=B at *;refine Int.eq_of_mul_eq_mul_left hb ?_
  calc b*(T*q.den)=(T*b)*q.den:=by grind
   _=(t*q.den)*B:=by rw [s];grind
   _=b*(q.num*B):=by rw [<-e];grind)
 unfold fra frD;rw [c,f]
structure Bq(k:Nat)(q:Rat):Prop where
 n:Sm k q.num
 d:Sm k (q.den:Int)
def Bq.mono(h:Bq k q)(hk:k<=m):Bq m q:=⟨h.n.mono hk,h.d.mono hk⟩
def JL{t b:Int}{k:Nat}(hb:0<b)(st:Sm k t)(sb:Sm k b):Bq k (Rat.divInt t b):=by
 have e:=H9 (t:=t) (b:=b) (by ac_rfl);unfold fra frD Mt.frT Mt.frB at e;rw [iN (by ac_rfl),iN (by ac_rfl)] at e;have a:0<(Int.gcd t b:Int):=by have:=Mt.MF (t:=t) (b:=b) (by ac_rfl);ac_rfl
 injection e with e
 injection e with e1 e2
 injection e1 with e1
 injection e2 with e2 _
 injection e2 with e2
 refine ⟨st.le ?_,sb.le ?_⟩
 .rw [<-e1];exact Mt.SQ a
 .rw [<-e2];exact Mt.SQ a
def Jp{U:D->Prop}{t b:Int}{k:Nat}(hb:0<b)(st:Sm k t)(sb:Sm k b)(hk:k<=8000)(h:Bq k (Rat.divInt t b)->U (frD (Rat.divInt t b))):Tl (Fz [.int t,.int b]) U:=by
 refine Qh (by ac_rfl) sb (by ac_rfl) ?_;rw [H9 (by ac_rfl)];exact h (JL hb st sb)
def den1(q:Rat):0<(q.den:Int):=by have:=q.den_pos;ac_rfl
def PJ(p q:Rat):Rat.divInt (p.num*q.den+q.num*p.den) (p.den*q.den)=p+q:=by
 have a:=den1 p;have b:=den1 q;rw [<-Rat.divInt_add_divInt p.num q.num (by ac_rfl) (by ac_rfl),JS,JS]
def jX(p q:Rat):Rat.divInt (p.num*q.num) (p.den*q.den)=p*q:=by
 rw [<-Rat.divInt_mul_divInt,JS,JS]
def z7{U:D->Prop}{p q:Rat}{a b:Nat}(hp:Bq a p)(hq:Bq b q)(hab:a+b<=4000)(h:Bq (a+b+1) (p+q)->U (frD (p+q))):Tl (Ig [frD p,frD q]) U:=by
 have i:Bj p.num q.den=true:=Cq hp.n hq.d (by ac_rfl);have j:Bj q.num p.den=true:=Cq hq.n hp.d (by ac_rfl);have k:Bj p.den q.den=true:=Cq hp.d hq.d (by ac_rfl);have c:Sm (a+b+1) (p.num*q.den+q.num*p.den):=((hp.n.mul hq.d).add (show Sm (a+b) _ from Gi b a▸hq.n.mul hp.d)).mono (by ac_rfl);have g:Sm (a+b+1) ((p.den:Int)*q.den):=(hp.d.mul hq.d).mono (by ac_rfl);have f:0<(p.den:Int)*q.den:=Ii (den1 p) (den1 q);unfold Ig frD;symm;refine Jp f c g (by ac_rfl) ?_;rw [PJ];intro e;symm;exact h e
def Yk{U:D->Prop}{p q:Rat}{a b:Nat}(hp:Bq a p)(hq:Bq b q)(hab:a+b<=4000)(h:Bq (a+b) (p*q)->U (frD (p*q))):Tl (MJ [frD p,frD q]) U:=by
 have f:Bj p.num q.num=true:=Cq hp.n hq.n (by ac_rfl);have g:Bj p.den q.den=true:=Cq hp.d hq.d (by ac_rfl);have e:0<(p.den:Int)*q.den:=Ii (den1 p) (den1 q);unfold MJ frD;symm;refine Jp e (hp.n.mul hq.n) (hp.d.mul hq.d) (by ac_rfl) ?_;rw [jX];intro c;symm;exact h c
def yr{U:D->Prop}{xs:List D}{i:Nat}{d:D}(h:xs[i]?=some d)(q:U d):Tl (dIx (.lst xs) (.int i)) U:=by
 show Tl (ofO (at_ xs (i:Int))) U;rw [XJ,h];exact Ai q
def Il{α:Type}{U:Fl->Prop}{g:MG}{k:MS}{Z:Ev}{enc:α->D}{l:List α}(I:List α->Ev->Prop)(h0:I [] Z)(h:∀p a r,p++a::r=l->∀Z,I p Z->Tl (g (enc a) Z) λZ1=>Tl (k Z1) λf=>∃Z2,f=.nx Z2/\I (p++[a]) Z2)(hd:∀Z,I l Z->U (.nx Z)):Tl (Cj g k (l.map enc) Z) U:=by
 have b:∀(r p:List α),p++r=l->∀Z,I p Z->Tl (Cj g k (r.map enc) Z) U:=by
  intro r
  induction r with
  | nil=>
   intro p e Z i;rw [Bl] at e;exact w_f0 (hd Z (e▸i))
  | cons a r ih=>
   intro p e Z i;rw [Ba];refine w_f1 ((h p a r e Z i).mono λZ1 t=>t.mono λf zq=>?_);obtain ⟨Z2,c,d⟩:=zq;subst c;exact ih (p++[a]) (by rw [Do];exact e) Z2 d
 exact b l [] rfl Z h0
def rQ{α:Type}{U:Fl->Prop}{g:MG}{k:MS}{Z:Ev}{enc:α->D}{l:List α}(I:List α->Ev->Prop)(h0:I [] Z)(h:∀p a r,p++a::r=l->∀Z,I p Z->Tl (g (enc a) Z) λZ1=>Tl (k Z1) λf=>∃Z2,(f=.nx Z2\/f=.ct Z2)/\I (p++[a]) Z2)(hd:∀Z,I l Z->U (.nx Z)):Tl (Cj g k (l.map enc) Z) U:=by
 have b:∀(r p:List α),p++r=l->∀Z,I p Z->Tl (Cj g k (r.map enc) Z) U:=by
  intro r
  induction r with
  | nil=>
   intro p e Z i;rw [Bl] at e;exact w_f0 (hd Z (e▸i))
  | cons a r ih=>
   intro p e Z i;rw [Ba];refine w_f1 ((h p a r e Z i).mono λZ1 t=>t.mono λf zq=>?_);obtain ⟨Z2,d,c⟩:=zq;rcases d with rfl | rfl
   .exact ih (p++[a]) (by rw [Do];exact e) Z2 c
   .exact ih (p++[a]) (by rw [Do];exact e) Z2 c
 exact b l [] rfl Z h0
def Pg{U:D->Prop}{n:Int}(h:U (.bl true)):Tl (GQ [.int n]) U:=by
 unfold GQ;symm;exact h
def c7{U:D->Prop}{q:Rat}(h:U (.bl true)):Tl (M5 [frD q]) U:=by
 have d:=den1 q;unfold M5 frD;symm;refine Pg ?_;symm;refine Pg ?_;symm;refine nR (ns:=[q.num,(q.den:Int)]) ?_;rw [Mt.fJ,show Int.gcd q.num (q.den:Int)=1 by show Nat.gcd q.num.natAbs (q.den:Int).natAbs=1;rw [Kc];exact q.reduced];symm;exact h
def ZoK(k:Nat)(q:Rat):plain (k+1) (frD q)=true:=by
 show Bk k [.int q.num,.int (q.den:Int)]=true;cases k<;>rfl
structure Sg where
 d:D
 gl:Bool
 q:Rat
 v:D
 own:Rat
 part:Rat
 col:Rat
 k:Int
def insR(acc:List Sg)(s:Sg):List Sg:=acc.takeWhile (λr=>!decide (s.q<r.q))++s::acc.dropWhile (λr=>!decide (s.q<r.q))
def insL(acc:List Sg)(s:Sg):List Sg:=acc.take (acc.filter λl=>decide (s.q<l.q)).length++s::acc.drop (acc.filter λl=>decide (s.q<l.q)).length
def Asc(l:List Sg):Prop:=l.Pairwise λa b=>a.q<=b.q
def Ux(s:Sg):insR [] s=[s]:=rfl
def IV{a:Sg}{r:List Sg}{s:Sg}(h:s.q<a.q):insR (a::r) s=s::a::r:=by
 unfold insR;rw [List.takeWhile_cons,List.dropWhile_cons,Ew h];rfl
def Hf{a:Sg}{r:List Sg}{s:Sg}(h:¬s.q<a.q):insR (a::r) s=a::insR r s:=by
 unfold insR;rw [List.takeWhile_cons,List.dropWhile_cons,HQ h];rfl
def Ud{x s:Sg}:∀{l:List Sg},x∈insR l s↔x=s\/x∈l
 | []=>by simp [Ux]
 | a::r=>by
  by_cases h:s.q<a.q
  .rw [IV h,Aj]
  .rw [Hf h,Aj,Ud (l:=r),Aj];constructor
   .rintro (z | z | z)<;>simp [z]
   .rintro (z | z | z)<;>simp [z]
def aa{s:Sg}:∀{l:List Sg},Asc l->Asc (insR l s)
 | [],_=>by rw [Ux];exact List.pairwise_singleton _ _
 | a::r,h=>by
  have b:=FQ.mp h;by_cases c:s.q<a.q
  .rw [IV c];refine FQ.mpr ⟨λx hx=>?_,h⟩;rcases Aj.mp hx with rfl | hx
   .exact Rat.le_of_lt c
   .exact HF (Rat.le_of_lt c) (b.1 x hx)
  .rw [Hf c];refine FQ.mpr ⟨λx hx=>?_,aa b.2⟩;rcases Ud.mp hx with rfl | hx
   .exact Rat.not_lt.mp c
   .exact b.1 x hx
def V9(P:Sg->Bool){s:Sg}:∀{l:List Sg},Asc l->(insR l s).filter P=if P s then insR (l.filter P) s else l.filter P
 | [],_=>by rw [Ux,Gj];rfl
 | a::r,h=>by
  have e:=FQ.mp h;by_cases c:s.q<a.q
  .rw [IV c,Gj];by_cases hs:P s=true
   .rw [iP hs,iP hs];have d:∀m:List Sg,(∀x∈m,s.q<x.q)->insR m s=s::m:=by
     intro m f;cases m with
     | nil=>rfl
     | cons b t=>exact IV (f b BR)
    rw [d];intro x hx;have hx:=(JX.mp hx).1;rcases Aj.mp hx with rfl | hx
    .exact c
    .exact Std.lt_of_lt_of_le c (e.1 x hx)
   .rw [iN hs,iN hs]
  .rw [Hf c,Gj,V9 P e.2,Gj];by_cases ha:P a=true
   .rw [iP ha,iP ha];by_cases hs:P s=true
    .rw [iP hs,iP hs,Hf c]
    .rw [iN hs,iN hs]
   .rw [iN ha,iN ha]
def Bw(l:List Sg):List Sg:=l.foldl insR []
def Ia(l:List Sg)(s:Sg):Bw (l++[s])=insR (Bw l) s:=by unfold Bw;rw [List.foldl_append];rfl
def snoc_ind{α:Type}{M:List α->Prop}(h0:M [])(h1:∀l a,M l->M (l++[a])):∀l,M l:=by
 intro l;have b:∀r:List α,M r.reverse:=by
  intro r
  induction r with
  | nil=>exact h0
  | cons a r ih=>rw [List.reverse_cons];exact h1 _ _ ih
 have:=b l.reverse;rwa [List.reverse_reverse] at this
def dz(l:List Sg):Asc (Bw l):=by
 refine snoc_ind (M:=λl=>Asc (Bw l)) List.Pairwise.nil (λl a ih=>?_) l;rw [Ia];exact aa ih
def Vj(P:Sg->Bool)(l:List Sg):(Bw l).filter P=Bw (l.filter P):=by
 refine snoc_ind (M:=λl=>(Bw l).filter P=Bw (l.filter P)) rfl (λl a ih=>?_) l;rw [Ia,V9 P (dz l),ih,KN];by_cases ha:P a=true
 .rw [iP ha,Gj,iP ha,NT,Ia]
 .rw [iN ha,Gj,iN ha,NT,Bl]
def K1(l:List Sg):List Sg:=l.foldl insL []
def eZ(l:List Sg)(s:Sg):K1 (l++[s])=insL (K1 l) s:=by unfold K1;rw [List.foldl_append];rfl
def dI{s:Sg}:∀{l:List Sg},Asc l->∃a b,l=a++b/\(∀x∈a,¬s.q<x.q)/\(∀x∈b,s.q<x.q)/\insR l s=a++s::b
 | [],_=>⟨[],[],rfl,λ_ h=>(CZ h).elim,λ_ h=>(CZ h).elim,rfl⟩
 | c::r,h=>by
  have d:=FQ.mp h;by_cases k:s.q<c.q
  .refine ⟨[],c::r,rfl,λ_ h=>(CZ h).elim,λx hx=>?_,IV k⟩;rcases Aj.mp hx with rfl | hx
   .exact k
   .exact Std.lt_of_lt_of_le k (d.1 x hx)
  .obtain ⟨a,b,i,f,g,e⟩:=dI (s:=s) d.2;refine ⟨c::a,b,by rw [i];rfl,λx hx=>?_,g,by rw [Hf k,e];rfl⟩;rcases Aj.mp hx with rfl | hx
   .exact k
   .exact f x hx
def ZnA{l:List Sg}{s:Sg}(h:Asc l):(insR l s).reverse=insL l.reverse s:=by
 obtain ⟨a,b,rfl,e,g,d⟩:=dI (s:=s) h;rw [d];unfold insL;have f:((a++b).reverse.filter λl=>decide (s.q<l.q))=b.reverse:=by
  rw [List.reverse_append,KN];have j:(b.reverse.filter λl=>decide (s.q<l.q))=b.reverse:=List.filter_eq_self.mpr λx c=>Ew (g x (List.mem_reverse.mp c));have i:(a.reverse.filter λl=>decide (s.q<l.q))=[]:=Qc.mpr λx c=>by
   rw [decide_eq_true_eq];exact e x (List.mem_reverse.mp c)
  rw [j,i,Bl]
 rw [f,List.reverse_append (as:=a) (bs:=b),List.take_left,List.drop_left];simp
def jG(l:List Sg):(Bw l).reverse=K1 l:=by
 refine snoc_ind (M:=λl=>(Bw l).reverse=K1 l) rfl (λl a ih=>?_) l;rw [Ia,ZnA (dz l),ih,eZ]
def Ed(n:Option Sg)(s:Sg):Option Sg:=if s.gl=true then n else match n with
  | none=>some s
  | some m=>if s.q<m.q then some s else some m
def near(l:List Sg):Option Sg:=l.foldl Ed none
def JF(l:List Sg)(s:Sg):near (l++[s])=Ed (near l) s:=by unfold near;rw [List.foldl_append];rfl
def ZkQ{l:List Sg}{s:Sg}:(insR l s).head?=some (match l.head? with
  | none=>s
  | some m=>if s.q<m.q then s else m):=by
 cases l with
 | nil=>rfl
 | cons a r=>
  by_cases h:s.q<a.q
  .rw [IV h];show some s=some (if s.q<a.q then s else a);rw [iP h]
  .rw [Hf h];show some a=some (if s.q<a.q then s else a);rw [iN h]
def Za(l:List Sg):near l=((Bw l).filter λs=>!s.gl).head?:=by
 rw [Vj];refine snoc_ind (M:=λl=>near l=(Bw (l.filter λs=>!s.gl)).head?) rfl (λl s ih=>?_) l;rw [JF,KN];unfold Ed;cases hs:s.gl with
 | true=>
  rw [iP rfl,Gj,iN (by rw [hs];decide),NT,Bl];exact ih
 | false=>
  rw [iN Dp,Gj,iP (by rw [hs];rfl),NT,Ia,ZkQ,<-ih];cases near l with
  | none=>rfl
  | some m=>
   show (if s.q<m.q then some s else some m)=some (if s.q<m.q then s else m)
   by_cases c:s.q<m.q
   .rw [iP c,iP c]
   .rw [iN c,iN c]
structure GS(s:Sg):Prop where
 ob:∃(c:Str) (ns:List Str) (vs:List D),s.d=.ins c ns vs/\ns.contains "is_glass"=false/\ns.contains "colour_at"=false/\(∃f,HX.lookup c=some f/\f [s.d]=.ok (.bl s.gl))/\(s.gl=false->∃f,Lk.lookup c=some f/\f [s.d,s.v]=.ok (frD s.own))
 pt:s.gl=true->dFld objs "part" s.d=.ok (frD s.part)/\dFld objs "colour" s.d=.ok (frD s.col)
 bq:Bq 300 s.q
 bo:Bq 300 s.own
 bp:Bq 32 s.part
 bc:Bq 32 s.col
def seeD:Option Sg->D
 | none=>.non
 | some s=>.tup [frD s.q,s.v]
structure Seen(p d:D)(o:Option Sg):Prop where
 tri:∃T,dFld objs "triangle" d=.ok T/\Dh [T,p]=.ok (seeD o)
 ok:∀s,o=some s->s.d=d/\GS s
abbrev encS(s:Sg):D:=.tup [s.d,frD s.q,s.v]
abbrev DO:=D×Option Sg
def sgts(L:List DO):List Sg:=L.filterMap (·.2)
def nY(L:List DO)(y:DO):sgts (L++[y])=sgts L++y.2.toList:=by
 unfold sgts;rw [List.filterMap_append,Jd,List.filterMap_nil];cases y.2<;>rfl
def ZoW(L:List DO):(sgts L).length<=L.length:=List.length_filterMap_le _ _
def lY{p:D}{L:List DO}(h:∀y∈L,Seen p y.1 y.2):∀s∈sgts L,GS s:=λs a=>by
 obtain ⟨y,b,e⟩:=LQ.mp a;exact ((h y b).ok s e).2
def Sy{U:D->Prop}{tab:List (Str×(List D->Res D))}{m:Str}{o:ME}{a:MA}{Z:Ev}(h:Tl (o Z) λd=>∃(c:Str) (ns:List Str) (vs:List D) (f:List D->Res D),d=.ins c ns vs/\ns.contains m=false/\tab.lookup c=some f/\Tl (a Z) λds=>Tl (f (.ins c ns vs::ds)) U):Tl (meth tab m o a Z) U:=by
 obtain ⟨d,i,c,ns,vs,f,rfl,g,b,ds,e,q⟩:=h;unfold meth;rw [i]
 show Tl (if ns.contains m=true then .bad else match tab.lookup c with
  | some f=>(a Z).bind λds=>f (.ins c ns vs::ds)
  | none=>.bad) U
 rw [g,iN Dp,b];show Tl ((a Z).bind λds=>f (.ins c ns vs::ds)) U;rw [e];exact q
def Wd{U:D->Prop}{s:Sg}{o:ME}{Z:Ev}(g:GS s)(ho:o Z=.ok s.d)(q:U (.bl s.gl)):Tl (meth HX "is_glass" o Ab Z) U:=by
 obtain ⟨c,a,h,e,i,k,⟨f,b,j⟩,_⟩:=g.ob;refine Sy ⟨_,ho,c,a,h,f,e,i,b,?_⟩;refine Ae (x:=[]) rfl ?_;rw [<-e];exact Ae j q
def zj{U:D->Prop}{s:Sg}{o:ME}{a:MA}{Z:Ev}(g:GS s)(h:s.gl=false)(ho:o Z=.ok s.d)(ha:a Z=.ok [s.v])(q:U (frD s.own)):Tl (meth Lk "colour_at" o a Z) U:=by
 obtain ⟨c,b,k,e,m,i,_,z⟩:=g.ob;obtain ⟨f,j,l⟩:=z h;refine Sy ⟨_,ho,c,b,k,f,e,i,j,?_⟩;refine Ae ha ?_;rw [<-e];exact Ae l q
def uf{U:D->Prop}{p:D}{L:List DO}(hL:∀y∈L,Seen p y.1 y.2)(hl:L.length<=1000)(q:U (.lst ((sgts L).map encS))):Tl (M6 [.lst (L.map (·.1)),p]) U:=by
 unfold M6;symm;refine Il (enc:=λy:DO=>y.1) (λa Z=>∃b c:Cl,Z=[.im (.lst (L.map (·.1))),.im p,.ow ((sgts a).map encS),b,c]) ⟨_,_,rfl⟩ ?_ ?_
 .rintro a y r e Z ⟨b,c,rfl⟩;have f:y∈L:=by rw [<-e];simp
  have d:a.length<L.length:=by rw [<-e];simp
  obtain ⟨⟨T,t1,t2⟩,ok⟩:=hL y f;symm;refine Ae t1 ?_;symm;refine Ae t2 ?_;rw [nY];cases ho:y.2 with
  | none=>
   show Tl _ _;symm;rw [show (none:Option Sg).toList=[] from rfl,Bl];exact ⟨_,rfl,_,_,rfl⟩
  | some s=>
   obtain ⟨h,g⟩:=ok s ho;unfold seeD;symm;have:=ZoW a;refine ⟨by rw [Af];ac_rfl,?_⟩;rw [Du,<-h];exact ⟨_,rfl,_,_,rfl⟩
 .rintro Z ⟨b,c,rfl⟩;symm;exact q
def Io{U:D->Prop}{a b:Rat}(ha:Bq 300 a)(hb:Bq 300 b)(h:U (.bl (decide (a<b)))):Tl (FJ [frD a,frD b]) U:=by
 have f:Bj a.num b.den=true:=Cq ha.n hb.d (by decide);have c:Bj b.num a.den=true:=Cq hb.n ha.d (by decide);unfold FJ frD;symm;have e:decide (a.num*(b.den:Int)<b.num*(a.den:Int))=decide (a<b):=decide_eq_decide.mpr (Rat.lt_iff a b).symm;rw [e];exact h
def optS:Option Sg->D
 | none=>.non
 | some s=>encS s
def oO{U:D->Prop}{l:List Sg}(hl:∀s∈l,GS s)(q:U (optS (near l))):Tl (Qy [.lst (l.map encS)]) U:=by
 unfold Qy;symm;refine rQ (enc:=encS) (λa Z=>∃i:Cl,(∀s,near a=some s->s∈a)/\Z=[.im (.lst (l.map encS)),.im (optS (near a)),i]) ⟨.no,(λs h=>by cases h),rfl⟩ ?_ ?_
 .rintro a s r e Z ⟨i,g,rfl⟩;have k:s∈l:=by rw [<-e];simp
  have j:=hl s k;have n:=j.bq;have b:∀t,Ed (near a) s=some t->t∈a++[s]:=by
   intro t d;unfold Ed at d;by_cases hg:s.gl=true
   .rw [iP hg] at d;exact GP _ (g t d)
   .rw [iN hg] at d;cases hn:near a with
    | none=>rw [hn] at d;cases d;simp
    | some m=>
     rw [hn] at d;have d:(if s.q<m.q then some s else some m)=some t:=d
     by_cases c:s.q<m.q
     .rw [iP c] at d;cases d;simp
     .rw [iN c] at d;cases d;exact GP _ (g _ hn)
  rw [JF];symm;refine Wd j rfl ?_;symm;cases hg:s.gl with
  | true=>
   symm;have f:Ed (near a) s=near a:=by unfold Ed;rw [iP hg]
   rw [f] at b ⊢;exact ⟨_,.inr rfl,_,b,rfl⟩
  | false=>
   symm;cases hn:near a with
   | none=>
    have f:Ed none s=some s:=by unfold Ed;rw [iN (by rw [hg];exact Bool.false_ne_true)]
    rw [hn,f] at b;rw [f];show Tl _ _;unfold optS;symm;exact ⟨_,.inl rfl,_,b,rfl⟩
   | some m=>
    have o:=hl m (by rw [<-e];exact GP _ (g _ hn));rw [hn] at b;have f:Ed (some m) s=if s.q<m.q then some s else some m:=by unfold Ed;rw [iN (by rw [hg];exact Bool.false_ne_true)]
    unfold optS;symm;refine Io n o.bq ?_;symm;refine Eb (λc=>?_) (λc=>?_)
    .rw [f,iP c] at b ⊢;symm;exact ⟨_,.inl rfl,_,b,rfl⟩
    .rw [f,iN c] at b ⊢;symm;exact ⟨_,.inl rfl,_,b,rfl⟩
 .rintro Z ⟨i,g,rfl⟩;symm;exact q
def W3{U:Fl->Prop}{i:Nat}{k e:ME}{Z:Ev}{xs:List D}(hx:Z[i]?=some (.ow xs))(h:Tl (k Z) λu=>∃j:Nat,u=.int j/\j<=xs.length/\xs.length<1000000/\Tl (e Z) λd=>U (.nx (Z.set i (.ow (xs.take j++d::xs.drop j))))):Tl (insO i k e Z) U:=by
 obtain ⟨u,c,j,rfl,f,b,d,a,q⟩:=h;unfold insO;rw [hx];show Tl ((k Z).bind _) U;rw [c];show Tl ((e Z).bind λd=>if (0<=(j:Int)/\(j:Int)<=xs.length)/\xs.length<LIM then .ok (.nx (Z.set i (.ow (xs.take (j:Int).toNat++d::xs.drop (j:Int).toNat)))) else .bad) U
 rw [a];show Tl (if (0<=(j:Int)/\(j:Int)<=xs.length)/\xs.length<LIM then .ok (.nx (Z.set i (.ow (xs.take (j:Int).toNat++d::xs.drop (j:Int).toNat)))) else .bad) U
 rw [iP ⟨by ac_rfl,b⟩,HS];exact Ai q
def V8{α:Type}{U:List D->Prop}{g:MG}{t:MB}{e:ME}{Z:Ev}{enc:α->D}(P:α->Bool):∀{l:List α},(∀a∈l,Tl (g (enc a) Z) λZ1=>Tl (t Z1) λb=>b=P a/\Tl (e Z1) λy=>y=enc a)->U ((l.filter P).map enc)->Tl (Ar g t e Z (l.map enc)) U:=by
 intro l h q;have d:∀l:List α,(∀a∈l,Tl (g (enc a) Z) λZ1=>Tl (t Z1) λb=>b=P a/\Tl (e Z1) λy=>y=enc a)->Ar g t e Z (l.map enc)=.ok ((l.filter P).map enc):=by
  intro l
  induction l with
  | nil=>exact λ_=>rfl
  | cons a r ih=>
   intro h;obtain ⟨Z1,m,b,j,f,y,k,rfl⟩:=h a BR;have z:=ih λc i=>h c (BP _ i);rw [Ba,Uy,m,HN,j,HN,Gj];by_cases c:P a=true
   .rw [f,iP c,iP c,k,HN,z];rfl
   .rw [f,iN c,iN c,z]
 exact Ae (d l h) q
def Cg(n:Option Sg)(s:Sg):Bool:=s.gl&&(match n with
 | none=>true
 | some m=>decide (s.q<m.q))
def lay(n:Option Sg)(l:List Sg):List Sg:=K1 (l.filter (Cg n))
def Hg(n:Option Sg)(l:List Sg)(s:Sg):lay n (l++[s])=if Cg n s=true then insL (lay n l) s else lay n l:=by
 unfold lay;rw [KN,Gj,NT];by_cases h:Cg n s=true
 .rw [iP h,iP h,eZ]
 .rw [iN h,iN h,Bl]
def xg{x s:Sg}{l:List Sg}(h:x∈insL l s):x=s\/x∈l:=by
 unfold insL at h;rcases HH.mp h with h | h
 .exact .inr (List.mem_of_mem_take h)
 .rcases Aj.mp h with h | h
  .exact .inl h
  .exact .inr (List.mem_of_mem_drop h)
def eQ{n:Option Sg}{x:Sg}{l:List Sg}:x∈lay n l->x∈l/\Cg n x=true:=by
 refine snoc_ind (M:=λl=>x∈lay n l->x∈l/\Cg n x=true) (λh=>by cases h) (λl s ih h=>?_) l;rw [Hg] at h;by_cases c:Cg n s=true
 .rw [iP c] at h;rcases xg h with rfl | h
  .exact ⟨by simp,c⟩
  .exact ⟨GP _ (ih h).1,(ih h).2⟩
 .rw [iN c] at h;exact ⟨GP _ (ih h).1,(ih h).2⟩
def lG(l:List Sg)(s:Sg):(insL l s).length=l.length+1:=by
 unfold insL;have:=List.length_filter_le (λt:Sg=>decide (s.q<t.q)) l;simp;ac_rfl
def dF(n:Option Sg)(l:List Sg):(lay n l).length<=l.length:=by
 refine snoc_ind (M:=λl=>(lay n l).length<=l.length) (Al _) (λl s ih=>?_) l;rw [Hg,Bo,Hn];by_cases c:Cg n s=true
 .rw [iP c,lG];ac_rfl
 .rw [iN c];ac_rfl
def mR{U:D->Prop}{n:Option Sg}{l:List Sg}(hn:∀m,n=some m->GS m)(hl:∀s∈l,GS s)(hs:l.length<=1000)(q:U (.lst ((lay n l).map encS))):Tl (Li [optS n,.lst (l.map encS)]) U:=by
 unfold Li;symm;refine Il (enc:=encS) (λa Z=>∃g b:Cl,Z=[.im (optS n),.im (.lst (l.map encS)),.ow ((lay n a).map encS),g,b]) ⟨_,_,rfl⟩ ?_ ?_
 .rintro a s r e Z ⟨g,b,rfl⟩;have y:s∈l:=by rw [<-e];simp
  have p:a.length<l.length:=by rw [<-e];simp
  have k:=hl s y;have u:∀x∈lay n a,GS x:=λx w=>hl x (by rw [<-e];exact GP _ (eQ w).1);have z:=dF n a;have h:Cg n s=true->∀b:Cl,Tl ((sq (st 4 (pk 2 (on bLen (Aa (comp (iv (v 2)) 1 [3] (gN 0) (trb (on FJ (Aa (o2 dIx (v 1) (c (.int 1))) (Aa (o2 dIx (v 0) (c (.int 1))) Ab)))) (v 0)) Ab)))) (insO 2 (v 4) (v 3))) [.im (optS n),.im (.lst (l.map encS)),.ow ((lay n a).map encS),.im (encS s),b]) λf=>∃i,f=.nx i/\∃g b:Cl,i=[.im (optS n),.im (.lst (l.map encS)),.ow ((lay n (a++[s])).map encS),g,b]:=by
   intro j b;rw [Hg,iP j];symm;refine ⟨by rw [Af];ac_rfl,?_⟩;refine V8 (λt:Sg=>decide (s.q<t.q)) (λt o=>?_) ?_
   .symm;refine Io k.bq (u t o).bq ?_;symm;exact ⟨rfl,by symm⟩
   symm;refine W3 rfl ?_;symm;have:=List.length_filter_le (λt:Sg=>decide (s.q<t.q)) (lay n a);refine ⟨((lay n a).filter λt=>decide (s.q<t.q)).length,by rw [Af],by rw [Af];exact this,by rw [Af];ac_rfl,?_⟩;symm;rw [<-Je,<-Ji,<-Ba,<-Du];exact ⟨_,rfl,_,_,rfl⟩
  have d:Cg n s=false->∃i,Fl.nx [.im (optS n),.im (.lst (l.map encS)),.ow ((lay n a).map encS),.im (encS s),b]=.nx i/\∃g b:Cl,i=[.im (optS n),.im (.lst (l.map encS)),.ow ((lay n (a++[s])).map encS),g,b]:=λj=>by
   rw [Hg,j,iN Dp];exact ⟨_,rfl,_,_,rfl⟩
  symm;refine Wd k rfl ?_;symm;cases hg:s.gl with
  | false=>
   symm;exact d (by unfold Cg;rw [hg];rfl)
  | true=>
   cases n with
   | none=>
    unfold optS;symm;have j:Cg none s=true:=by unfold Cg;rw [hg];rfl
    rw [Hg,iP j];refine ⟨by rw [Af];ac_rfl,?_⟩;refine V8 (λt:Sg=>decide (s.q<t.q)) (λt o=>?_) ?_
    .symm;refine Io k.bq (u t o).bq ?_;symm;exact ⟨rfl,by symm⟩
    symm;refine W3 rfl ?_;symm;have:=List.length_filter_le (λt:Sg=>decide (s.q<t.q)) (lay none a);refine ⟨((lay none a).filter λt=>decide (s.q<t.q)).length,by rw [Af],by rw [Af];exact this,by rw [Af];ac_rfl,?_⟩;symm;rw [<-Je,<-Ji,<-Ba,<-Du];exact ⟨_,rfl,_,_,rfl⟩
   | some m=>
    unfold optS;symm;refine Io k.bq (hn m rfl).bq ?_;symm;refine Eb (λc=>?_) (λc=>?_)
    .exact h (by unfold Cg;rw [hg];simp [c]) _
    .symm;exact d (by unfold Cg;rw [hg];simp [c])
 .rintro Z ⟨g,b,rfl⟩;symm;exact q
def ut(p q:Rat):Rat.divInt (p.num*q.den - q.num*p.den) (p.den*q.den)=p - q:=by
 have a:=den1 p;have b:=den1 q;rw [Rat.sub_eq_add_neg,<-PJ p (-q),Rat.neg_num,Rat.neg_den];congr 1
 grind
def xT{U:D->Prop}{p q:Rat}{a b:Nat}(hp:Bq a p)(hq:Bq b q)(hab:a+b<=4000)(h:Bq (a+b+1) (p - q)->U (frD (p - q))):Tl (Nt [frD p,frD q]) U:=by
 have j:Bj p.num q.den=true:=Cq hp.n hq.d (by ac_rfl);have k:Bj q.num p.den=true:=Cq hq.n hp.d (by ac_rfl);have l:Bj p.den q.den=true:=Cq hp.d hq.d (by ac_rfl);have g:Sm (a+b) (q.num*p.den):=Gi b a▸hq.n.mul hp.d;have c:Sm (a+b+1) (p.num*q.den - q.num*p.den):=by
  have z:=((hp.n.mul hq.d).add g.neg).mono (show max (a+b) (a+b)+1<=a+b+1 by ac_rfl);rw [<-Int.sub_eq_add_neg] at z;exact z
 have i:Sm (a+b+1) ((p.den:Int)*q.den):=(hp.d.mul hq.d).mono (by ac_rfl);have f:0<(p.den:Int)*q.den:=Ii (den1 p) (den1 q);unfold Nt frD;symm;refine Jp f c i (by ac_rfl) ?_;rw [ut];intro e;symm;exact h e
def mixQ(s:Sg)(c:Rat):Rat:=s.part*s.col+(1 - s.part)*c
def mW:Bq 1 (1:Rat):=⟨by show (1:Int).natAbs<2^1;decide,by show (1:Int).natAbs<2^1;decide⟩
def zH{U:D->Prop}{s:Sg}{c:Rat}{B:Nat}(g:GS s)(hg:s.gl=true)(hc:Bq B c)(hB:B<=3000)(q:Bq (B+170) (mixQ s c)->U (frD (mixQ s c))):Tl (Nj [s.d,frD c]) U:=by
 obtain ⟨a,e⟩:=g.pt hg;unfold Nj;symm;refine Ae a ?_;symm;show Tl (Nt [frD 1,frD s.part]) _;refine xT mW g.bp (by decide) λi=>?_;symm;refine Ae a ?_;symm;refine Ae e ?_;symm;refine Yk g.bp g.bc (by decide) λf=>?_;symm;refine Yk i hc (by ac_rfl) λh=>?_;symm;refine z7 f h (by ac_rfl) λb=>?_;symm;exact q (b.mono (by ac_rfl))
def Gy(g:Rat):Option Sg->Rat
 | none=>g
 | some m=>m.own
def layQ(l:List Sg)(c:Rat):Rat:=l.foldl (λc s=>mixQ s c) c
def colQ(g:Rat)(l:List Sg):Rat:=layQ (lay (near l) l) (Gy g (near l))
def VJ{l:List Sg}{m:Sg}(h:near l=some m):m∈l/\m.gl=false:=by
 rw [Za] at h;have z:=List.mem_of_mem_head? (by rw [h];rfl:m∈((Bw l).filter λs=>!s.gl).head?);rw [Vj] at z;have a:∀k:List Sg,m∈Bw k->m∈k:=by
  intro k;refine snoc_ind (M:=λk=>m∈Bw k->m∈k) (λh=>h) (λk s ih h=>?_) k;rw [Ia] at h;rcases Ud.mp h with rfl | h
  .simp
  .exact GP _ (ih h)
 have y:=JX.mp (a _ z);exact ⟨y.1,by simpa using y.2⟩
def ZsB{n:Option Sg}{s:Sg}(h:Cg n s=true):s.gl=true:=by
 unfold Cg at h;rw [Iz] at h;exact h.1
def QD{t:MB}(h:Tl (it Z) λxs=>xs.length<=1000000/\Tl (Ar g t e (noA own (Az Z cap)) xs) λys=>U (.lst ys)):Tl (Hj it own cap g t e Z) U:=by
 obtain ⟨xs,c,b,ys,a,q⟩:=h;refine Ae ?_ q;unfold Hj;rw [c];show (if xs.length<=LIM then (Ar g t e (noA own (Az Z cap)) xs).bind (λys=>Res.ok (D.lst ys)) else .bad)=_
 rw [iP (show xs.length<=LIM from b),a];rfl
def Px(kf:Nat->List Int):∀(n:Nat) (k:List Int),k∈firsts kf n↔∃i,i<n/\kf i=k
 | 0,k=>by simp [firsts]
 | n+1,k=>by
  have ih:=Px kf n k;unfold firsts;split
  .next h=>
   rw [ih];constructor
   .rintro ⟨i,a,e⟩;exact ⟨i,by ac_rfl,e⟩
   .rintro ⟨i,a,e⟩;by_cases z:i=n
    .subst z;obtain ⟨j,c,b⟩:=(Px kf i (kf i)).mp h;exact ⟨j,c,b.trans e⟩
    .exact ⟨i,by ac_rfl,e⟩
  .rw [HH,ih,Hz];constructor
   .rintro (⟨i,a,e⟩ | e)
    .exact ⟨i,by ac_rfl,e⟩
    .exact ⟨n,by ac_rfl,e.symm⟩
   .rintro ⟨i,a,e⟩;by_cases z:i=n
    .subst z;exact .inr e.symm
    .exact .inl ⟨i,by ac_rfl,e⟩
def M7(kf:Nat->List Int):∀n,(firsts kf n).length<=n
 | 0=>Al _
 | n+1=>by
  have:=M7 kf n;unfold firsts;split
  .ac_rfl
  .simp;ac_rfl
def d9(kf:Nat->List Int):∀n,(firsts kf n).length=n↔∀i j,i<j->j<n->kf i≠kf j
 | 0=>by simp [firsts]
 | n+1=>by
  have ih:=d9 kf n;have g:=M7 kf n;unfold firsts;split
  .next h=>
   obtain ⟨i,b,e⟩:=(Px kf n (kf n)).mp h;constructor
   .intro z;ac_rfl
   .intro z;exact aB e (z i n b (by ac_rfl))
  .next h=>
   have d:∀i,i<n->kf i≠kf n:=λi b e=>h ((Px kf n (kf n)).mpr ⟨i,b,e⟩);rw [Bo,Hn];constructor
   .intro z i j a f;have c:=ih.mp (by ac_rfl);by_cases q:j=n
    .subst q;exact d i a
    .exact c i j a (by ac_rfl)
   .intro z;have:=ih.mpr λi j a f=>z i j a (by ac_rfl);ac_rfl
def Wy{α:Type}{enc:α->D}{key:α->List Int}(h:∀a,∃ds,enc a=.tup ds/\intsOf ds=some (key a)):∀l:List α,keysOf (l.map enc)=some (l.map key)
 | []=>rfl
 | a::r=>by
  obtain ⟨ds,b,c⟩:=h a;rw [Ba,b];unfold keysOf;rw [c,Wy h r];rfl
def zZ{α:Type} [DecidableEq α] {enc:α->D} {key:α->List Int} (h:∀a,∃ds,enc a=.tup ds/\intsOf ds=some (key a)) (inj:∀a b,key a=key b->a=b) {l:List α} (hl:l.length<=4) :
  ∃n:Nat,T9 (.lst (l.map enc))=.ok (.int n)/\(n=l.length↔l.Nodup):=by
 refine ⟨(firsts (λi=>(l.map key).getD i []) (l.map enc).length).length,?_,?_⟩
 .show (match keysOf (l.map enc) with | some ks=>if (l.map enc).length<=4 then Res.ok (D.int ((firsts (λi=>ks.getD i []) (l.map enc).length).length:Nat)) else Res.bad | none=>Res.bad)=_
  rw [Wy h];show (if _ then _ else _)=_
  rw [iP (by rw [Af];exact hl)]
 .rw [Af,d9];unfold List.Nodup;rw [Qw];have c:∀i (g:i<l.length),(l.map key).getD i []=key l[i]:=λi g=>by simp [List.getD,g]
  constructor
  .intro z i j g f d e;exact z i j d f (by rw [c i g,c j f,e])
  .intro z i j d f e;rw [c i (by ac_rfl),c j f] at e;exact z i j (by ac_rfl) f d (inj _ _ e)
abbrev encP(d:Int×Int):D:=.tup [.int d.1,.int d.2]
def Wa{U:D->Prop}{x:Int}(q:U (.bl true)):Tl (GQ [.int x]) U:=by
 unfold GQ;symm;exact q
def NK{U:D->Prop}{x a b:Int}(h:a<=x/\x<=b)(q:U (.bl true)):Tl (Hw [.int x,.int a,.int b]) U:=by
 unfold Hw;symm;refine Wa ?_;symm;rw [Ew h.2];exact q
def cV{U:D->Prop}{w h:Nat}(hw:1<=w/\w<=64)(hh:1<=h/\h<=64)(q:U .non):Tl (MT [.int w,.int h]) U:=by
 unfold MT;symm;refine NK (by ac_rfl) ?_;symm;refine NK (by ac_rfl) ?_;symm;exact q
def Yr{α:Type}(f:α->Bool):∀l:List α,bools (l.map λa=>D.bl (f a))=.ok (l.map f)
 | []=>rfl
 | a::r=>by
  rw [Ba];show (bools (r.map λa=>D.bl (f a))).bind _=_;rw [Yr f r];rfl
def zV{U:D->Prop}{d:Int×Int}(hd:(1<=d.1/\d.1<=7)/\1<=d.2/\d.2<=7)(q:U (.bl true)):Tl (O2 [encP d]) U:=by
 unfold O2;symm;refine NK hd.1 ?_;symm;refine NK hd.2 ?_;symm;exact q
def eF{α:Type}{U:D->Prop}{f:α->Bool}{l:List α}(h:∀a∈l,f a=true)(q:U (.bl true)):Tl (bAll [.lst (l.map λa=>D.bl (f a))]) U:=by
 refine Ae ?_ q;show (bools (l.map λa=>D.bl (f a))).bind _=_;rw [Yr f l];show Res.ok (D.bl ((l.map f).all id))=_;rw [List.all_map,List.all_eq_true.mpr λa b=>(show (id ∘ f) a=true from h a b)]
def yX{U:D->Prop}{dots:List (Int×Int)}(h1:1<=dots.length/\dots.length<=4)(hd:∀d∈dots,(1<=d.1/\d.1<=7)/\1<=d.2/\d.2<=7)(hnd:dots.Nodup)(q:U .non):Tl (Qi [.lst (dots.map encP)]) U:=by
 unfold Qi;symm;rw [Af];refine Eb (λz=>by ac_rfl) (λ_=>?_);symm;rw [Af];rw [HQ (by ac_rfl)];symm;refine ⟨by rw [Af];ac_rfl,?_⟩;refine Dq (enc:=encP) (λd:Int×Int=>D.bl ((λ_=>true) d)) (λd c=>?_) ?_
 .symm;exact zV (hd d c) rfl
 symm;refine eF (f:=λ_:Int×Int=>true) (λ_ _=>rfl) ?_;symm
 obtain ⟨n,e,g⟩:=zZ (enc:=encP) (key:=λd:Int×Int=>[d.1,d.2]) (λa=>⟨_,rfl,rfl⟩) (λa b h=>by
  injection h with h1 h2
  injection h2 with h2 _
  exact Prod.ext h1 h2) h1.2
 refine Ae e ?_;symm;rw [g.mpr hnd,Af];symm;exact q
def gR:Gs [.non]=.ok (.lst ([(4,4)].map encP)):=by
 refine Tl.eq ?_;unfold Gs;symm;rfl
def T5{dots:List (Int×Int)}(h1:1<=dots.length/\dots.length<=4)(hd:∀d∈dots,(1<=d.1/\d.1<=7)/\1<=d.2/\d.2<=7)(hnd:dots.Nodup):Gs [.lst (dots.map encP)]=.ok (.lst (dots.map encP)):=by
 refine Tl.eq ?_;unfold Gs;symm;refine yX h1 hd hnd ?_;symm
def Dots(dots:List (Int×Int)):Prop:=(∀d∈dots,(1<=d.1/\d.1<=7)/\1<=d.2/\d.2<=7)/\dots.Nodup
def Xr{x:D}(h:plain 50 x=true):dNe x x=.ok (.bl false):=by
 unfold dNe;rw [h,Vk x 50 h];rfl
def Zqh{x:D}(h:plain 50 x=true):dEq x x=.ok (.bl true):=by
 unfold dEq;rw [h,Vk x 50 h];rfl
structure C6 where
 x:Int
 y:Int
 w:Int
 h:Int
 v:Nat->Int
def vsL(n:Nat)(c:C6):List Int:=(List.range n).map c.v
def c6(n:Nat)(c:C6):D:=cor c.x c.y c.w c.h (vsL n c)
def XM(n:Nat)(c:C6):(vsL n c).length=n:=by unfold vsL;rw [List.length_map,List.length_range]
structure Ok6(k n:Nat)(c:C6):Prop where
 x:Sm k c.x
 y:Sm k c.y
 w:Sm k c.w
 h:Sm k c.h
 v:∀j,j<n->Sm k (c.v j)
 w1:1<=c.w
 h1:1<=c.h
def Ok6.cr{k n:Nat}{c:C6}(h:Ok6 k n c)(hk:k<=64):Cr c.x c.y c.w:=⟨h.x.mono hk,h.y.mono hk,h.w.mono hk⟩
def Ok6.vs{k n:Nat}{c:C6}(h:Ok6 k n c):∀v∈vsL n c,Sm k v:=λv a=>by
 obtain ⟨j,b,rfl⟩:=Bf.mp a;exact h.v j (CN.mp b)
def Ok6.cv{k n:Nat}{c:C6}(h:Ok6 k n c)(hk:k<=64):Cv 64 c.x c.y c.w c.h (vsL n c):=⟨h.x.mono hk,h.y.mono hk,h.w.mono hk,h.h.mono hk,λv a=>(h.vs v a).mono hk,h.h1⟩
abbrev hd6(a b c:C6)(px py ps:Int):Int:=hdE a.x a.y a.w b.x b.y b.w c.x c.y c.w px py ps
abbrev T6:=C6×C6×C6
abbrev hdT(t:T6)(px py ps:Int):Int:=hd6 t.1 t.2.1 t.2.2 px py ps
def pc6(n:Nat)(t:T6):D:=.tup [c6 n t.1,c6 n t.2.1,c6 n t.2.2]
abbrev wt1(t:T6)(px py ps:Int):Int:=ow t.2.1.x t.2.1.y t.2.1.w t.2.2.x t.2.2.y t.2.2.w px py ps
abbrev wt2(t:T6)(px py ps:Int):Int:=ow t.2.2.x t.2.2.y t.2.2.w t.1.x t.1.y t.1.w px py ps
abbrev wt3(t:T6)(px py ps:Int):Int:=ow t.1.x t.1.y t.1.w t.2.1.x t.2.1.y t.2.1.w px py ps
def seeT(n:Nat)(t:T6)(px py ps:Int):D:=.tup [fra (dot t.1.w t.2.1.w t.2.2.w (wt1 t px py ps) (wt2 t px py ps) (wt3 t px py ps)) (dot t.1.h t.2.1.h t.2.2.h (wt1 t px py ps) (wt2 t px py ps) (wt3 t px py ps)),.tup (vls (vsL n t.1) (vsL n t.2.1) (vsL n t.2.2) (wt1 t px py ps) (wt2 t px py ps) (wt3 t px py ps) (dot t.1.h t.2.1.h t.2.2.h (wt1 t px py ps) (wt2 t px py ps) (wt3 t px py ps)))]
def b_ne{k n:Nat}{t:T6}(o1:Ok6 k n t.1)(o2:Ok6 k n t.2.1)(o3:Ok6 k n t.2.2){px py ps:Int}(hp:1<=ps)(h:hdT t px py ps≠0):dot t.1.h t.2.1.h t.2.2.h (wt1 t px py ps) (wt2 t px py ps) (wt3 t px py ps)≠0:=by
 have a:=o1.w1;have c:=o2.w1;have b:=o3.w1;exact XQ o1.h1 o2.h1 o3.h1 (RT (by ac_rfl) (by ac_rfl) (by ac_rfl) (by ac_rfl) h)
def zN{U:D->Prop}{k n:Nat}{t:T6}{px py ps:Int}(o1:Ok6 k n t.1)(o2:Ok6 k n t.2.1)(o3:Ok6 k n t.2.2)(hk:k<=64)(hn:n<=3)(hp:1<=ps)(p:Cr px py ps)(h:hdT t px py ps≠0)(q:U (seeT n t px py ps)):Tl (Dh [pc6 n t,.tup [.int px,.int py,.int ps]]) U :=
 jC o1.w1 o2.w1 o3.w1 hp (o1.cr hk) (o2.cr hk) (o3.cr hk) p (o1.cv hk) (o2.cv hk) (o3.cv hk) (by rw [XM];ac_rfl) h rfl rfl rfl rfl q
def All3(Q:C6->Prop)(t:T6):Prop:=Q t.1/\Q t.2.1/\Q t.2.2
def qK{U:D->Prop}{vs:List Int}(hl:vs.length<=3)(h:U (.bl true)):Tl (Pk [.tup (vs.map .int)]) U:=by
 unfold Pk;symm;rw [Af];symm;refine ⟨by ac_rfl,?_⟩;refine Dq (λ_:Int=>D.bl true) (λk b=>?_) ?_
 .symm;exact Pg rfl
 symm;refine cj (λy a=>?_) ?_
 .obtain ⟨_,_,rfl⟩:=Bf.mp a;rfl
 symm;exact h
def Vb{U:D->Prop}{x y w h:Int}{vs:List Int}(hh:1<=h)(hl:vs.length<=3)(q:U (.bl true)):Tl (Pz [cor x y w h vs]) U:=by
 unfold Pz cor;symm;rw [show cutL [D.int x,D.int y,D.int w,D.int h,D.tup (List.map D.int vs)] none (some 4)=[x,y,w,h].map D.int from rfl];refine ⟨by show (4:Nat)<=_;ac_rfl,?_⟩;refine Dq (λ_:Int=>D.bl true) (λk b=>?_) ?_
 .symm;exact Pg rfl
 symm;refine cj (λy a=>?_) ?_
 .obtain ⟨_,_,rfl⟩:=Bf.mp a;rfl
 symm;refine qK hl ?_;symm;exact q
def cF(q:Rat):Lw [frD q]=.ok .non:=by
 refine Tl.eq ?_;unfold Lw;symm;refine c7 ?_;symm
def jZ{q:Rat}(h0:0<=q.num)(h1:q.num<=q.den):QH [frD q]=.ok .non:=by
 refine Tl.eq ?_;unfold QH;symm;refine c7 ?_;unfold frD;symm
def OJ{f:Str}{d:D}{k:MSi}{Z:Ev}{fl:Fs}{e:ME}(he:e Z=.ok d)(hn:(fl.map (·.1)).contains f=false)(hl:fl.length<100):iSet f e k Z fl=k Z (fl++[(f,d)]):=by
 unfold iSet;rw [he];show (if (fl.map (·.1)).contains f=true\/100<=fl.length then Res.bad else k Z (fl++[(f,d)]))=_
 rw [iN];rintro (z | z)
 .rw [hn] at z;cases z
 .ac_rfl
def K7{d:D}{k:MSi}{Z:Ev}{fl:Fs}{e:ME}(he:e Z=.ok d):iDrp e k Z fl=k Z fl:=by
 unfold iDrp;rw [he];rfl
def RQ{g:List D->Fs->Res Fs}{a:MA}{ds:List D}{k:MSi}{Z:Ev}{fl fl':Fs}(ha:a Z=.ok ds)(hg:g ds fl=.ok fl'):iSup g a k Z fl=k Z fl':=by
 unfold iSup;rw [ha];show (g ds fl).bind _=_;rw [hg];rfl
def no_c:([("triangle" : Str)]:List Str).contains "colour"=false:=by decide +kernel
def m9:([("triangle" : Str),"colour"]:List Str).contains "part"=false:=by decide +kernel
abbrev fsT(T:D):Fs:=[(("triangle" : Str),T)]
def RX{U:D->Prop}{c:Str}{g:List D->Fs->Res Fs}{a:MA}{Z:Ev}(h:Tl (a Z) λds=>∃fl,g ds []=.ok fl/\U (.ins c (fl.map (·.1)) (fl.map (·.2)))):Tl (make c g a Z) U:=by
 obtain ⟨ds,d,fl,b,q⟩:=h;refine Ae ?_ q;unfold make;rw [d];show (g ds []).bind _=_;rw [b];rfl
def ZQ{t b:Int}{k:Nat}(hb:b≠0)(st:Sm k t)(sb:Sm k b):Bq k (Rat.divInt t b):=by
 have F:=Mt.aC (t:=t) hb;have e:=H9 (t:=t) (b:=b) hb;unfold fra frD at e;injection e with e
 injection e with e1 e2
 injection e1 with e1
 injection e2 with e2 _
 injection e2 with e2
 exact ⟨e1▸st.le F.np,e2▸sb.le F.nq⟩
inductive Kd where
 | sh:Kd
 | pl (q:Rat):Kd
 | gl (q r:Rat):Kd
def thD:Kd->T6->D
 | .sh,t=>.ins "Shaded" ["triangle"] [pc6 1 t]
 | .pl q,t=>.ins "Plain" ["triangle","colour"] [pc6 1 t,frD q]
 | .gl q r,t=>.ins "Glass" ["triangle","colour","part"] [pc6 1 t,frD q,frD r]
def KdOk:Kd->Prop
 | .sh=>True
 | .pl q=>Bq 32 q
 | .gl q r=>Bq 32 q/\Bq 32 r/\0<=r.num/\r.num<=r.den
abbrev O3(t:T6):Prop:=All3 (Ok6 64 1) t
def vs1(c:C6):vsL 1 c=[c.v 0]:=rfl
def Zrq{t:T6}(h:O3 t):QQ [pc6 1 t]=.ok .non:=by
 obtain ⟨a,b,c⟩:=t;obtain ⟨f,e,d⟩:=h;refine Tl.eq ?_;unfold QQ pc6 c6;symm;refine w_f1 ?_;symm;refine Vb f.h1 (by rw [XM];decide) ?_;unfold cor;rw [vs1,vs1,vs1];symm;refine w_f1 ?_;symm;refine Vb (vs:=[b.v 0]) e.h1 (by simp) ?_;symm;refine w_f1 ?_;symm;refine Vb (vs:=[c.v 0]) d.h1 (by simp) ?_;symm;refine w_f0 ?_;symm
def sO{t:T6}(h:O3 t):Jb [pc6 1 t]=.ok .non:=by
 obtain ⟨a,b,c⟩:=t;have e:=h.1.w1;have f:=h.2.1.w1;have d:=h.2.2.w1;dsimp only at e f d;refine Tl.eq ?_;unfold Jb pc6 c6 cor;symm;refine w_f1 ?_;symm;refine w_f1 ?_;symm;refine w_f1 ?_;symm;refine w_f0 ?_;symm
def jg(t:T6):Qo [pc6 1 t,.int 1]=.ok .non:=by
 obtain ⟨a,b,c⟩:=t;refine Tl.eq ?_;unfold Qo pc6 c6 cor;rw [vs1,vs1,vs1];symm
def Vl{t:T6}(h:O3 t):JH [pc6 1 t] []=.ok (fsT (pc6 1 t)):=by
 unfold JH fnI;rw [K7 (d:=.non) (Zrq h),K7 (d:=.non) (sO h),OJ (d:=pc6 1 t) rfl rfl (by decide)];rfl
def nJ{t:T6}{q:Rat}(h:O3 t):Ks [pc6 1 t,frD q] []=.ok [(("triangle" : Str),pc6 1 t),(("colour" : Str),frD q)]:=by
 unfold Ks fnI;rw [RQ (ds:=[pc6 1 t]) rfl (Vl h),K7 (d:=.non) (cF q),OJ (d:=frD q) rfl no_c (by show (1:Nat)<100;decide)];rfl
def Zn9{t:T6}(h:O3 t):Kg [pc6 1 t] []=.ok (fsT (pc6 1 t)):=by
 unfold Kg fnI;rw [RQ (ds:=[pc6 1 t]) rfl (Vl h),K7 (d:=.non) (jg t)];rfl
def jE{t:T6}{q r:Rat}(h:O3 t)(h0:0<=r.num)(h1:r.num<=r.den):Ky [pc6 1 t,frD q,frD r] []=.ok [(("triangle" : Str),pc6 1 t),(("colour" : Str),frD q),(("part" : Str),frD r)]:=by
 unfold Ky fnI;rw [RQ (ds:=[pc6 1 t]) rfl (Vl h),K7 (d:=.non) (cF q),K7 (d:=.non) (jZ h0 h1),OJ (d:=frD q) rfl no_c (by show (1:Nat)<100;decide),OJ (d:=frD r) rfl m9 (by show (2:Nat)<100;decide)];rfl
def bO{U:D->Prop}{t b:Int}(hb:0<b)(sb:Sm 32 b)(q:U (frD (Rat.divInt t b))):Tl (Lj [.int t,.int b]) U:=by
 have f:=Mt.MF (t:=t) (b:=b) (by ac_rfl);have c:Sm 32 (Int.gcd t b:Int):=sb.le (by rw [Kc];exact Zk (by ac_rfl));rw [<-H9 (by ac_rfl)] at q;unfold fra Mt.frT Mt.frB at q;rw [iN (by ac_rfl),iN (by ac_rfl)] at q;unfold Lj;symm;refine w_wh (λZ=>∃x y:Int,Z=[.im (.int t),.im (.int b),.im (.int x),.im (.int y)]/\Int.gcd x y=Int.gcd t b) (GF 3) ⟨t,b,rfl,rfl⟩ (O4 _ _) ?_;rintro Z ⟨x,y,rfl,e⟩;symm;refine ⟨λhb=>?_,λhb=>?_⟩
 .have a:y≠0:=by simpa using hb
  rcases Int.lt_or_gt_of_ne a with hn | hp
  .symm;refine w_modN hn ?_;refine ⟨_,rfl,⟨y,x.fmod y,rfl,by rw [Mt.qH];exact e⟩,?_⟩;have:=Mt.rW (x:=x) hn;simp [GF,absC];exact this
  .symm;refine ⟨_,rfl,⟨y,x%y,rfl,by rw [Mt.Zl4];exact e⟩,?_⟩;have g:=IK x a;have h:=Iv x hp;simp [GF,absC];ac_rfl
 .have a:y=0:=by simpa using hb
  subst a;have d:x.natAbs=Int.gcd t b:=by rw [<-e,Int.gcd_zero_right]
  symm;rw [d];refine PB (by ac_rfl) c (by decide) ?_;symm;rw [d];refine PB (by ac_rfl) c (by decide) ?_;symm;exact q
def mJ{t b:Int}(h0:0<=t)(h1:t<=b)(hb:0<b):0<=(Rat.divInt t b).num/\(Rat.divInt t b).num<=(Rat.divInt t b).den:=by
 have f:=den1 (Rat.divInt t b);have e:=(Rat.divInt_eq_divInt_iff (by ac_rfl) (by ac_rfl)).mp (JS (Rat.divInt t b));generalize (Rat.divInt t b).num=p at *;generalize ((Rat.divInt t b).den:Int)=m at *;have d:0<=t*m:=Int.mul_nonneg h0 (by ac_rfl);have a:t*m<=b*m:=Ik h1 (by ac_rfl);constructor
 .by_cases c:0<=p
  .exact c
  .exfalso;have:=Int.mul_lt_mul_of_pos_right (show p<0 by ac_rfl) hb;ac_rfl
 .by_cases c:p<=m
  .exact c
  .exfalso;have:=Int.mul_lt_mul_of_pos_right (show m<p by ac_rfl) hb;have g:m*b=b*m:=Int.mul_comm _ _;ac_rfl
def bj(cell:Int){k:Int}(hk:0<=k/\k<=1000):∃r:Int,(0<=r/\r<2147483648)/\GD [.int cell,.int k]=.ok (.int r):=by
 obtain ⟨d,e,r,rfl,a⟩:=Jr (U:=λd=>∃r:Int,d=.int r/\0<=r/\r<2147483648) (cc:=cell) hk λr a=>⟨r,rfl,a⟩;exact ⟨r,a,e⟩
def tu(n:Option Sg)(l:List Sg):lay n l=((Bw l).filter (Cg n)).reverse:=by
 unfold lay;rw [<-jG,Vj]
def WL(g:Rat)(l:List Sg):colQ g l=layQ ((Bw l).filter (Cg ((Bw l).filter λs=>!s.gl).head?)).reverse (Gy g ((Bw l).filter λs=>!s.gl).head?):=by
 unfold colQ;rw [tu,Za]
structure Kp(f:Sg->Sg):Prop where
 gl:∀s,(f s).gl=s.gl
 q:∀s,(f s).q=s.q
 own:∀s,(f s).own=s.own
 part:∀s,(f s).part=s.part
 col:∀s,(f s).col=s.col
def Wq{f:Sg->Sg}(h:Kp f)(s:Sg):∀l:List Sg,insR (l.map f) (f s)=(insR l s).map f
 | []=>rfl
 | a::r=>by
  rw [Ba];by_cases c:s.q<a.q
  .rw [IV c,IV (by rw [h.q,h.q];exact c)];rfl
  .rw [Hf c,Hf (by rw [h.q,h.q];exact c),Wq h s r];rfl
def je{f:Sg->Sg}(h:Kp f)(l:List Sg):Bw (l.map f)=(Bw l).map f:=by
 refine snoc_ind (M:=λl=>Bw (l.map f)=(Bw l).map f) rfl (λl a ih=>?_) l;rw [Du,Ba,List.map_nil,Ia,Ia,ih,Wq h]
def Vo{f:Sg->Sg}(h:Kp f):∀(l:List Sg) (c:Rat),layQ (l.map f) c=layQ l c
 | [],_=>rfl
 | s::l,c=>by
  have e:mixQ (f s) c=mixQ s c:=by unfold mixQ;rw [h.part,h.col]
  show layQ (l.map f) (mixQ (f s) c)=layQ l (mixQ s c);rw [e,Vo h l]
def Xy{f:Sg->Sg}(h:Kp f)(g:Rat)(l:List Sg):colQ g (l.map f)=colQ g l:=by
 rw [WL,WL,je h];have b:((Bw l).map f).filter (λs=>!s.gl)=((Bw l).filter λs=>!s.gl).map f:=by
  rw [List.filter_map];congr 1;refine List.filter_congr λs _=>?_;show (!(f s).gl)=_;rw [h.gl]
 rw [b,List.head?_map];generalize ((Bw l).filter λs=>!s.gl).head?=n;have a:((Bw l).map f).filter (Cg (n.map f))=((Bw l).filter (Cg n)).map f:=by
  rw [List.filter_map];congr 1;refine List.filter_congr λs _=>?_;show Cg (n.map f) (f s)=_;unfold Cg;rw [h.gl];cases n with
  | none=>rfl
  | some m=>
   show (s.gl&&decide ((f s).q<(f m).q))=_;rw [h.q,h.q]
 rw [a,<-List.map_reverse,Vo h];congr 1;cases n with
 | none=>rfl
 | some m=>exact h.own m
def val:Res D->D
 | .ok d=>d
 | _=>.non
def unF:D->Rat
 | .tup [.int n,.int d]=>Rat.divInt n d
 | _=>0
def Jh(q:Rat):unF (frD q)=q:=JS q
def ownOf(c:Str)(d v:D):Rat:=match Lk.lookup c with
 | some f=>unF (val (f [d,v]))
 | none=>0
def mkS(c:Str)(ns:List Str)(vs:List D)(q:Rat)(v:D):Sg :=
 { d:=.ins c ns vs,gl:=c == "Glass",q:=q,v:=v,own:=if (c == "Glass")=true then 0 else ownOf c (.ins c ns vs) v,part:=unF (val (dFld objs "part" (.ins c ns vs))),col:=unF (val (dFld objs "colour" (.ins c ns vs))),k:=0 }
def so(p d:D):Option Sg:=match d with
 | .ins c ns (T::r)=>match Dh [T,p] with
  | .ok (.tup [q,v])=>some (mkS c ns (T::r) (unF q) v)
  | _=>none
 | _=>none
def T8{c:Str}{ns:List Str}{T p:D}{r:List D}(e:Dh [T,p]=.ok .non):so p (.ins c ns (T::r))=none:=by
 show (match Dh [T,p] with
  | .ok (.tup [q,v])=>some (mkS c ns (T::r) (unF q) v)
  | _=>none)=none
 rw [e]
def VG{c:Str}{ns:List Str}{T p v:D}{r:List D}{q:Rat}(e:Dh [T,p]=.ok (.tup [frD q,v])):so p (.ins c ns (T::r))=some (mkS c ns (T::r) q v):=by
 show (match Dh [T,p] with
  | .ok (.tup [q,v])=>some (mkS c ns (T::r) (unF q) v)
  | _=>none)=_
 rw [e];show some (mkS c ns (T::r) (unF (frD q)) v)=_;rw [Jh]
def b0:Bq 32 (0:Rat):=⟨by show (0:Int).natAbs<2^32;decide,by show (1:Int).natAbs<2^32;decide⟩
def xx{p d:D}{T:D}(e1:dFld objs "triangle" d=.ok T)(e2:Dh [T,p]=.ok .non)(e3:so p d=none):Seen p d (so p d):=by
 rw [e3];exact ⟨⟨T,e1,e2⟩,λs h=>by cases h⟩
def jq{p d v:D}{T:D}{q:Rat}{s:Sg}(e1:dFld objs "triangle" d=.ok T)(e2:Dh [T,p]=.ok (.tup [frD q,v]))(e3:so p d=some s)(hq:s.q=q)(hv:s.v=v)(hd:s.d=d)(g:GS s):Seen p d (so p d):=by
 rw [e3];refine ⟨⟨T,e1,?_⟩,λt h=>?_⟩
 .rw [e2];show _=Res.ok (D.tup [frD s.q,s.v]);rw [hq,hv]
 .cases h;exact ⟨hd,g⟩
abbrev P3(px py ps:Int):D:=.tup [.int px,.int py,.int ps]
def qT(t:T6)(px py ps:Int):Rat:=Rat.divInt (dot t.1.w t.2.1.w t.2.2.w (wt1 t px py ps) (wt2 t px py ps) (wt3 t px py ps)) (dot t.1.h t.2.1.h t.2.2.h (wt1 t px py ps) (wt2 t px py ps) (wt3 t px py ps))
def vT(t:T6)(px py ps:Int):Rat:=Rat.divInt (dot (t.1.v 0) (t.2.1.v 0) (t.2.2.v 0) (wt1 t px py ps) (wt2 t px py ps) (wt3 t px py ps)) (dot t.1.h t.2.1.h t.2.2.h (wt1 t px py ps) (wt2 t px py ps) (wt3 t px py ps))
def uZ{t:T6}{px py ps:Int}(o:O3 t)(hp:1<=ps)(h:hdT t px py ps≠0):seeT 1 t px py ps=.tup [frD (qT t px py ps),.tup [frD (vT t px py ps)]]:=by
 have a:=b_ne o.1 o.2.1 o.2.2 hp h;show D.tup [fra _ _,.tup [fra _ _]]=_;rw [H9 a,H9 a];rfl
def bV{t:T6}{px py ps:Int}(o:O3 t)(p:Cr px py ps)(h:hdT t px py ps=0):Dh [pc6 1 t,P3 px py ps]=.ok .non :=
 Tl.eq (lN (U:=λx=>x=_) o.1.w1 o.2.1.w1 o.2.2.w1 (o.1.cr (by decide)) (o.2.1.cr (by decide)) (o.2.2.cr (by decide)) p h rfl)
def bF{t:T6}{px py ps:Int}(o:O3 t)(hp:1<=ps)(p:Cr px py ps)(h:hdT t px py ps≠0):Dh [pc6 1 t,P3 px py ps]=.ok (.tup [frD (qT t px py ps),.tup [frD (vT t px py ps)]]):=by
 have e:=Tl.eq (zN (U:=λx=>x=_) o.1 o.2.1 o.2.2 (by decide) (by decide) hp p h rfl);rw [uZ o hp h] at e;exact e
def bq_T{t:T6}{px py ps:Int}(o:O3 t)(hp:1<=ps)(p:Cr px py ps)(h:hdT t px py ps≠0):Bq 300 (qT t px py ps)/\Bq 300 (vT t px py ps):=by
 have i:=b_ne o.1 o.2.1 o.2.2 hp h;have a:=o.1.cr (by decide);have b:=o.2.1.cr (by decide);have c:=o.2.2.cr (by decide);have d:=b.ow c p;have f:=c.ow a p;have e:=a.ow b p;have g:=Qe o.1.h o.2.1.h o.2.2.h d f e;exact ⟨(ZQ i (Qe o.1.w o.2.1.w o.2.2.w d f e) g).mono (by decide),(ZQ i (Qe (o.1.v 0 (by decide)) (o.2.1.v 0 (by decide)) (o.2.2.v 0 (by decide)) d f e) g).mono (by decide)⟩
def sgT(κ:Kd)(t:T6)(q v:Rat):Sg:=match κ with
 | .sh=>mkS "Shaded" ["triangle"] [pc6 1 t] q (.tup [frD v])
 | .pl z=>mkS "Plain" ["triangle","colour"] [pc6 1 t,frD z] q (.tup [frD v])
 | .gl z r=>mkS "Glass" ["triangle","colour","part"] [pc6 1 t,frD z,frD r] q (.tup [frD v])
def QR{κ:Kd}{t:T6}{px py ps:Int}(o:O3 t)(p:Cr px py ps)(h:hdT t px py ps=0):so (P3 px py ps) (thD κ t)=none:=by
 cases κ<;>exact T8 (bV o p h)
def Oc{κ:Kd}{t:T6}{px py ps:Int}(o:O3 t)(hp:1<=ps)(p:Cr px py ps)(h:hdT t px py ps≠0):so (P3 px py ps) (thD κ t)=some (sgT κ t (qT t px py ps) (vT t px py ps)):=by
 cases κ<;>exact VG (bF o hp p h)
def Thg(d:D):Prop:=∃κ t,d=thD κ t/\KdOk κ/\O3 t
def gs_T{κ:Kd}{t:T6}{q v:Rat}(hk:KdOk κ)(bq:Bq 300 q)(bv:Bq 300 v):GS (sgT κ t q v):=by
 cases κ with
 | sh=>
  have a:(sgT .sh t q v).own=v:=Jh v;refine ⟨⟨_,_,_,rfl,by decide +kernel,by decide +kernel,⟨Mj,by rfl,rfl⟩,λ_=>⟨Tc,by rfl,?_⟩⟩,(λh=>by cases h),bq,?_,b0,b0⟩
  .rw [a];rfl
  .rw [a];exact bv
 | pl z=>
  have a:(sgT (.pl z) t q v).own=z:=Jh z;have b:(sgT (.pl z) t q v).col=z:=Jh z;refine ⟨⟨_,_,_,rfl,by decide +kernel,by decide +kernel,⟨Mj,by rfl,rfl⟩,λ_=>⟨Uk,by rfl,?_⟩⟩,(λh=>by cases h),bq,?_,b0,?_⟩
  .rw [a];rfl
  .rw [a];exact Bq.mono hk (by decide)
  .rw [b];exact hk
 | gl z r=>
  have b:(sgT (.gl z r) t q v).col=z:=Jh z;have c:(sgT (.gl z r) t q v).part=r:=Jh r;refine ⟨⟨_,_,_,rfl,by decide +kernel,by decide +kernel,⟨Vf,by rfl,rfl⟩,λh=>by cases h⟩,λ_=>⟨?_,?_⟩,bq,b0.mono (by decide),?_,?_⟩
  .rw [c];rfl
  .rw [b];rfl
  .rw [c];exact hk.2.1
  .rw [b];exact hk.1
def fT_T(κ:Kd)(t:T6):dFld objs "triangle" (thD κ t)=.ok (pc6 1 t):=by cases κ<;>rfl
def Ys{d:D}{px py ps:Int}(h:Thg d)(cp:Cr px py ps)(hp:1<=ps):Seen (.tup [.int px,.int py,.int ps]) d (so (.tup [.int px,.int py,.int ps]) d):=by
 obtain ⟨κ,t,rfl,a,o⟩:=h;by_cases c:hdT t px py ps=0
 .exact xx (fT_T κ t) (bV o cp c) (QR o cp c)
 .have b:=bq_T o hp cp c;refine jq (fT_T κ t) (bF o hp cp c) (Oc o hp cp c) ?_ ?_ ?_ (gs_T a b.1 b.2)<;>cases κ<;>rfl
abbrev pt8(x y:Int):D:=.tup [.int x,.int y,.int 8]
def sgs(ts:List D)(p:D):List Sg:=ts.filterMap (so p)
def lk(ts:List D)(p:D):List DO:=ts.map λd=>(d,so p d)
def jY(ts:List D)(p:D):(lk ts p).map (·.1)=ts:=by
 unfold lk;rw [DN];exact List.map_id _
def Yq(ts:List D)(p:D):sgts (lk ts p)=sgs ts p:=by
 unfold sgts lk sgs;rw [List.filterMap_map];rfl
def Zz{ts:List D}{px py ps:Int}(h:∀t∈ts,Thg t)(cp:Cr px py ps)(hp:1<=ps):∀y∈lk ts (.tup [.int px,.int py,.int ps]),Seen (.tup [.int px,.int py,.int ps]) y.1 y.2:=by
 intro y a;obtain ⟨d,b,rfl⟩:=Bf.mp a;exact Ys (h d b) cp hp
def ik{ts:List D}{px py ps:Int}(h:∀t∈ts,Thg t)(cp:Cr px py ps)(hp:1<=ps):∀s∈sgs ts (.tup [.int px,.int py,.int ps]),GS s:=by
 rw [<-Yq];exact lY (Zz h cp hp)
def sG(ts:List D)(p:D):(sgs ts p).length<=ts.length:=List.length_filterMap_le _ _
def zf{ts:List D}{px py ps:Int}(h:∀t∈ts,Thg t)(hl:ts.length<=1000)(cp:Cr px py ps)(hp:1<=ps):M6 [.lst ts,.tup [.int px,.int py,.int ps]]=.ok (.lst ((sgs ts (.tup [.int px,.int py,.int ps])).map encS)):=by
 have e:=Tl.eq (uf (U:=λx=>x=_) (Zz h cp hp) (by unfold lk;rw [List.length_map];exact hl) rfl);rwa [jY,Yq] at e
def sJ{t b:Int}{k:Nat}(hb:0<b)(sb:Sm k b):Sm k ((Rat.divInt t b).den:Int):=by
 have e:=H9 (t:=t) (b:=b) (by ac_rfl);unfold fra frD Mt.frT Mt.frB at e;rw [iN (by ac_rfl),iN (by ac_rfl)] at e;have a:0<(Int.gcd t b:Int):=by have:=Mt.MF (t:=t) (b:=b) (by ac_rfl);ac_rfl
 injection e with e
 injection e with e1 e2
 injection e2 with e2 _
 injection e2 with e2
 refine sb.le ?_;rw [<-e2];exact Mt.SQ a
def Vy{U:D->Prop}{t b:Int}{k:Nat}(hb:0<b)(sb:Sm k b)(hk:k<=8900)(h:U (frD (Rat.divInt t b))):Tl (Fz [.int t,.int b]) U:=by
 refine Qh (by ac_rfl) sb (by ac_rfl) ?_;rw [H9 (by ac_rfl)];exact h
def ul{U:D->Prop}{p q:Rat}{a b da db:Nat}(hp:Bq a p)(hq:Bq b q)(dp:Sm da (p.den:Int))(dq:Sm db (q.den:Int))(hab:a+b<=10000000)(hd:da+db<=8900)(h:Bq (a+b+1) (p+q)->Sm (da+db) ((p+q).den:Int)->U (frD (p+q))):Tl (Ig [frD p,frD q]) U:=by
 have j:Bj p.num q.den=true:=Cq hp.n hq.d (by ac_rfl);have k:Bj q.num p.den=true:=Cq hq.n hp.d (by ac_rfl);have l:Bj p.den q.den=true:=Cq hp.d hq.d (by ac_rfl);have g:Sm (a+b+1) (p.num*q.den+q.num*p.den):=((hp.n.mul hq.d).add (show Sm (a+b) _ from Gi b a▸hq.n.mul hp.d)).mono (by ac_rfl);have i:Sm (a+b+1) ((p.den:Int)*q.den):=(hp.d.mul hq.d).mono (by ac_rfl);have c:0<(p.den:Int)*q.den:=Ii (den1 p) (den1 q);have e:=JL c g i;have f:=sJ (t:=p.num*q.den+q.num*p.den) c (dp.mul dq);rw [PJ] at e f;unfold Ig frD;symm;refine Vy c (dp.mul dq) hd ?_;rw [PJ];symm;exact h e f
def sumQ(l:List Rat):Rat:=l.foldl (·+·) 0
def qD(l:List Rat)(q:Rat):sumQ (l++[q])=sumQ l+q:=by unfold sumQ;rw [List.foldl_append];rfl
def Hr(l:List Rat):Rat:=Rat.divInt (sumQ l).num ((sumQ l).den*(l.length:Int))
def jB{U:D->Prop}{qs:List Rat}{K k:Nat}(hK:∀q∈qs,Bq K q)(hd:∀q∈qs,Sm k (q.den:Int))(h1:1<=qs.length)(hn:qs.length<=16)(hK':K<=100000)(hk:qs.length*k+10<=8900)(h:U (frD (Hr qs))):Tl (Oi [.lst (qs.map frD)]) U:=by
 unfold Oi;symm;show Tl (Cj _ _ (qs.map frD) [.im (.lst (qs.map frD)),.im (frD 0),.no]) _;refine Il (enc:=frD) (λa Z=>∃c:Cl,Bq (a.length*(K+1)+1) (sumQ a)/\Sm (a.length*k+1) ((sumQ a).den:Int)/\Z=[.im (.lst (qs.map frD)),.im (frD (sumQ a)),c]) ⟨.no,?_,?_,rfl⟩ ?_ ?_
 .exact ⟨by show (0:Int).natAbs<_;exact Nat.two_pow_pos _,by show (1:Int).natAbs<2^(0*_+1);rw [Nat.zero_mul];decide⟩
 .show (1:Int).natAbs<2^(0*_+1);rw [Nat.zero_mul];decide
 .rintro a q r e Z ⟨c,B,S,rfl⟩;have i:q∈qs:=by rw [<-e];simp
  have b:a.length<qs.length:=by rw [<-e];simp
  have m:(a.length+1)*k<=qs.length*k:=Km k b;have g:(a.length+1)*(K+1)<=16*(K+1):=Km (K+1) (by ac_rfl);rw [Dz] at m g;symm;refine ul B (hK q i) S (hd q i) (by ac_rfl) (by ac_rfl) λn l=>?_;rw [qD];refine ⟨_,rfl,_,n.mono ?_,l.mono ?_,rfl⟩
  .rw [Bo,Hn,Dz];ac_rfl
  .rw [Bo,Hn,Dz];ac_rfl
 .rintro Z ⟨c,B,S,rfl⟩;have g:qs.length*(K+1)<=16*(K+1):=Km (K+1) hn;have f:Sm 5 (qs.length:Int):=by show (qs.length:Int).natAbs<2^5;ac_rfl
  have o:Bj (sumQ qs).den (qs.length:Int)=true:=Cq B.d f (by ac_rfl);have j:0<((sumQ qs).den:Int)*(qs.length:Int):=Ii (den1 _) (by ac_rfl);unfold Hr at h;generalize sumQ qs=t at *;unfold frD;symm;rw [Af];symm;refine Vy j (S.mul f) (by ac_rfl) ?_;symm;exact h
def qP{U:D->Prop}{g:Rat}{l:List Sg}{n:Nat}(hg:Bq 300 g)(hl:∀s∈l,GS s)(hs:l.length<=n)(hn:n<=12)(q:Bq (300+170*n) (colQ g l)->U (frD (colQ g l))):Tl (M4 [.lst (l.map encS),frD g]) U:=by
 have o:Bq 300 (Gy g (near l)):=by
  cases e:near l with
  | none=>exact hg
  | some m=>exact (hl m (VJ e).1).bo
 have t:=dF (near l) l;unfold M4;symm;refine oO hl ?_
 have h:∀b:Cl,Tl ((sq (for_ (iv (on Li (Aa (v 2) (Aa (v 0) Ab)))) (gN 4)
  (st 3 (on Nj (Aa (o2 dIx (v 4) (c (.int 0))) (Aa (v 3) Ab)))))
  (ret (v 3))) [.im (.lst (l.map encS)),.im (frD g),.im (optS (near l)),.im (frD (Gy g (near l))),b]) λf=>Tl (endOf f) U:=by
  intro b;symm;refine mR (λm e=>hl m (VJ e).1) hl (by ac_rfl) ?_;symm;refine Il (enc:=encS) (λa Z=>∃b:Cl,Bq (300+170*a.length) (layQ a (Gy g (near l)))/\Z=[.im (.lst (l.map encS)),.im (frD g),.im (optS (near l)),.im (frD (layQ a (Gy g (near l)))),b]) ⟨_,o,rfl⟩ ?_ ?_
  .rintro a s r e Z ⟨b,B,rfl⟩;have i:s∈lay (near l) l:=by rw [<-e];simp
   have j:a.length<(lay (near l) l).length:=by rw [<-e];simp
   have d:=eQ i;symm;refine zH (hl s d.1) (ZsB d.2) B (by ac_rfl) λp=>?_;have k:layQ (a++[s]) (Gy g (near l))=mixQ s (layQ a (Gy g (near l))):=by unfold layQ;rw [List.foldl_append];rfl
   rw [k];refine ⟨_,rfl,_,p.mono ?_,rfl⟩;rw [Bo,Hn];ac_rfl
  .rintro Z ⟨b,B,rfl⟩;symm;exact q (B.mono (by ac_rfl))
 symm;refine Tl.mono (Ψ:=λf=>f=Fl.nx [.im (.lst (l.map encS)),.im (frD g),.im (optS (near l)),.im (frD (Gy g (near l))),.no]) ?_ ?_
 .cases hn:near l with
  | none=>
   show Tl (if (false:Bool)=true then _ else _) _
   symm;rfl
  | some m=>
   have i:=VJ hn;show Tl (if (true:Bool)=true then _ else _) _
   symm;refine zj (s:=m) (hl m i.1) i.2 rfl rfl ?_;rfl
 .rintro f rfl;exact h .no
def sm6'{x:Int}(h:-1000000<=x/\x<=1000000):Sm 64 x:=Sm.of64 (by ac_rfl) (by ac_rfl)
def cr8{px py:Int}(hx:0<=px/\px<=1000)(hy:0<=py/\py<=1000):Cr px py 8:=⟨sm6' (by ac_rfl),sm6' (by ac_rfl),sm6' (by decide)⟩
abbrev ptA(c r:Nat)(d:Int×Int):D:=pt8 (8*(c:Int)+d.1) (8*(r:Int)+d.2)
def Vd(dots:List (Int×Int)):Prop:=∀d∈dots,(1<=d.1/\d.1<=7)/\1<=d.2/\d.2<=7
def cellQ(ts:List D)(g:Rat)(dots:List (Int×Int))(c r:Nat):Rat:=Hr (dots.map λd=>colQ g (sgs ts (ptA c r d)))
def rowP(f:Nat->Nat->Rat)(w r:Nat):D:=.lst ((List.range w).map λc=>frD (f c r))
def picP(f:Nat->Nat->Rat)(w h:Nat):D:=.lst ((List.range h).map λr=>rowP f w r)
section
variable{ts:List D}{dots:List (Int×Int)}
def fX{U:D->Prop}{c r:Nat}(hts:∀t∈ts,Thg t)(hl:ts.length<=1000)(hc:c<=100)(hr:r<=100)(hd:Vd dots)(hn:dots.length<=16)
  (q:U (.lst (dots.map λd=>D.lst ((sgs ts (ptA c r d)).map encS)))):Tl (PX [.lst ts,.int c,.int r,.lst (dots.map encP)]) U:=by
 unfold PX;symm;refine QD ?_;symm;refine ⟨by rw [Af];ac_rfl,?_⟩;refine Dq (λd:Int×Int=>D.lst ((sgs ts (ptA c r d)).map encS)) (λd a=>?_) ?_
 .have b:=hd d a;symm;unfold Mm;symm;exact Ae (zf hts hl (cr8 (by ac_rfl) (by ac_rfl)) (by decide)) rfl
 .symm;exact q
def dX{U:D->Prop}{g:Rat}{n:Nat}{ls:List (List Sg)}(hg:Bq 300 g)(hl:∀l∈ls,(∀s∈l,GS s)/\l.length<=n)(hn:n<=12)(h1:1<=ls.length)(h16:ls.length<=16)(hk:ls.length*(300+170*n)+10<=8900)(q:U (frD (Hr (ls.map λl=>colQ g l)))):Tl (K5 [.lst (ls.map λl=>D.lst (l.map encS)),frD g]) U:=by
 have c:∀l∈ls,Bq (300+170*n) (colQ g l)/\M4 [.lst (l.map encS),frD g]=.ok (frD (colQ g l)):=λl a=>by
  obtain ⟨x,e,h⟩:=qP (U:=λx=>Bq (300+170*n) (colQ g l)/\x=frD (colQ g l)) hg (hl l a).1 (hl l a).2 hn (λB=>⟨B,rfl⟩);exact ⟨h.1,h.2▸e⟩
 unfold K5;symm;refine ⟨by rw [Af];ac_rfl,?_⟩;refine Dq (λl:List Sg=>frD (colQ g l)) (λl a=>?_) ?_
 .symm;exact Ae (c l a).2 rfl
 symm;rw [show List.map (λl:List Sg=>frD (colQ g l)) ls=(ls.map λl=>colQ g l).map frD by rw [DN];rfl];refine jB (K:=300+170*n) (k:=300+170*n) (λx b=>?_) (λx b=>?_) (by rw [Af];exact h1) (by rw [Af];exact h16) (by ac_rfl) (by rw [Af];exact hk) ?_
 .obtain ⟨l,a,rfl⟩:=Bf.mp b;exact (c l a).1
 .obtain ⟨l,a,rfl⟩:=Bf.mp b;exact (c l a).1.d
 .symm;exact q
def pM{U:D->Prop}{w h n:Nat}{sp gr:D}{g:Rat}(hts:∀t∈ts,Thg t)(hl:ts.length<=1000)(hf:∀px py:Int,Cr px py 8->(sgs ts (pt8 px py)).length<=n)(hn:n<=12)(hw:1<=w/\w<=64)(hh:1<=h/\h<=64)(hs:Gs [sp]=.ok (.lst (dots.map encP)))(hgr:Qp [gr]=.ok (frD g))(hg:Bq 300 g)(hd:Vd dots)(h1:1<=dots.length)(h16:dots.length<=16)(hk:dots.length*(300+170*n)+10<=8900)
  (q:U (picP (cellQ ts g dots) w h)):Tl (Fy [.lst ts,.int w,.int h,sp,gr]) U:=by
 unfold Fy
 symm;refine cV hw hh ?_;symm;refine Ae hs ?_;symm;refine Ae hgr ?_;symm;refine QD ?_;symm;rw [S8,HS];refine ⟨by rw [Af,Bv];ac_rfl,?_⟩;refine Dq (λr:Nat=>rowP (cellQ ts g dots) w r) (λr f=>?_) ?_
 .have f:=CN.mp f;symm;unfold U4;symm;refine QD ?_;symm;rw [S8,HS];refine ⟨by rw [Af,Bv];ac_rfl,?_⟩;refine Dq (λc:Nat=>frD (cellQ ts g dots c r)) (λc e=>?_) ?_
  .have e:=CN.mp e;symm;refine fX hts hl (by ac_rfl) (by ac_rfl) hd h16 ?_;symm;rw [show (List.map (λd=>D.lst ((sgs ts (ptA c r d)).map encS)) dots)=(dots.map λd=>sgs ts (ptA c r d)).map λl=>D.lst (l.map encS) by rw [DN];rfl];refine dX (n:=n) hg (λl a=>?_) hn (by rw [Af];exact h1) (by rw [Af];exact h16) (by rw [Af];exact hk) ?_
   .obtain ⟨d,b,rfl⟩:=Bf.mp a;have i:=hd d b;exact ⟨ik hts (cr8 (by ac_rfl) (by ac_rfl)) (by decide),hf _ _ (cr8 (by ac_rfl) (by ac_rfl))⟩
   .unfold cellQ;rw [DN];rfl
  .symm;rfl
 .symm;exact q
end
def aP(f:Nat->Nat->Rat)(r:Nat):∀l:List Nat,Bk 48 (l.map λc=>frD (f c r))=true
 | []=>rfl
 | a::t=>by
  show (plain 48 (frD (f a r))&&Bk 48 (t.map λc=>frD (f c r)))=true;rw [aP f r t,ZoK 47];rfl
def vM(f:Nat->Nat->Rat)(w h:Nat):plain 50 (picP f w h)=true:=by
 have b:∀l:List Nat,Bk 49 (l.map λr=>rowP f w r)=true:=by
  intro l
  induction l with
  | nil=>rfl
  | cons a t ih=>
   show (plain 49 (rowP f w a)&&Bk 49 (t.map λr=>rowP f w r))=true;rw [ih,show plain 49 (rowP f w a)=true from aP f a (List.range w)];rfl
 exact b (List.range h)
def Y9{f g:Nat->Nat->Rat}{w h:Nat}(e:∀c,c<w->∀r,r<h->f c r=g c r):picP f w h=picP g w h:=by
 unfold picP rowP;congr 1;refine Fp λr b=>?_;congr 1;refine Fp λc a=>?_;rw [e c (CN.mp a) r (CN.mp b)]
def Vz{a b:Int}(hb:b≠0):Rat.divInt a b*(b:Rat)=(a:Rat):=by
 rw [Rat.divInt_eq_div];exact Rat.div_mul_cancel (by intro z;exact hb (by exact_mod_cast z))
def vY{b:Int}(h:0<b):(0:Rat)<(b:Rat):=by exact_mod_cast h
def PK{b:Int}(h:0<=b):(0:Rat)<=(b:Rat):=by exact_mod_cast h
def Oq{a b:Rat}(ha:0<=a)(hb:0<=b):0<=a*b:=Rat.mul_nonneg ha hb
def Ub{m:Rat}{w h:Int}(hh:0<h)(e:m<=Rat.divInt w h):0<=(w:Rat) - m*(h:Rat):=by
 have c:=Vz (a:=w) (b:=h) (by ac_rfl);have d:=Oq (show (0:Rat)<=Rat.divInt w h - m by grind) (PK (show 0<=h by ac_rfl))
 grind
def yP{m:Rat}{w h:Int}(hh:0<h)(e:0<=(w:Rat) - m*(h:Rat)):m<=Rat.divInt w h:=by
 have f:=Vz (a:=w) (b:=h) (by ac_rfl);have d:=vY hh;by_cases c:m<=Rat.divInt w h
 .exact c
 .exfalso;have g:=Rat.mul_pos (show (0:Rat)<m - Rat.divInt w h by grind) d
  grind
def fP{m:Rat}{x y z a b c e f g:Int}(ha:1<=a)(hb:1<=b)(hc:1<=c)(h1:m<=Rat.divInt x a)(h2:m<=Rat.divInt y b)(h3:m<=Rat.divInt z c)(w:Wt e f g):m<=Rat.divInt (dot x y z e f g) (dot a b c e f g):=by
 have r:=Ub (by ac_rfl) h1;have n:=Ub (by ac_rfl) h2;have p:=Ub (by ac_rfl) h3;have h:∀{e f g:Int},0<=e->0<=f->0<=g->0<dot a b c e f g->m<=Rat.divInt (dot x y z e f g) (dot a b c e f g):=λ{e f g} i j k l=>by
  refine yP l ?_;have t:=Oq r (PK i);have u:=Oq n (PK j);have v:=Oq p (PK k);unfold dot
  push_cast
  grind
 rcases YG ha hb hc w with ⟨s,d⟩ | ⟨s,d⟩
 .rcases w with ⟨w1,w2,w3,_⟩ | ⟨w1,w2,w3,_⟩
  .exact h w1 w2 w3 d
  .ac_rfl
 .rcases w with ⟨w1,w2,w3,_⟩ | ⟨w1,w2,w3,_⟩
  .ac_rfl
  .have q:dot x y z e f g=-dot x y z (-e) (-f) (-g):=by unfold dot;grind
   have o:dot a b c e f g=-dot a b c (-e) (-f) (-g):=by unfold dot;grind
   rw [q,o,Rat.neg_divInt_neg];exact h (by ac_rfl) (by ac_rfl) (by ac_rfl) (by ac_rfl)
def minQ(m q:Rat):Rat:=if q<m then q else m
def maxQ(m q:Rat):Rat:=if m<q then q else m
def ZP(hm:Bq 300 m)(hq:Bq 300 q):Bq 300 (minQ m q):=by unfold minQ;split<;>assumption
def Xe(hm:Bq 300 m)(hq:Bq 300 q):Bq 300 (maxQ m q):=by unfold maxQ;split<;>assumption
def X4(h0:Bq 300 q0)(hq:∀q∈qs,Bq 300 q)(h:Bq 300 ((q0::qs).foldl minQ q0)->U (frD ((q0::qs).foldl minQ q0))):Tl (Nq [.lst ((q0::qs).map frD)]) U:=by
 unfold Nq;symm;refine Il (enc:=frD) (λa Z=>∃f,Bq 300 (a.foldl minQ q0)/\Z=[.im (.lst ((q0::qs).map frD)),.im (frD (a.foldl minQ q0)),f]) ⟨.no,h0,rfl⟩ ?_ ?_
 .rintro a q r e Z ⟨f,d,rfl⟩;have g:Bq 300 q:=by
   have:q∈q0::qs:=by rw [<-e];simp
   rcases Aj.mp this with rfl | hm
   .exact h0
   .exact hq q hm
  rw [dH];have b:=ZP d g;generalize a.foldl minQ q0=m at d b ⊢;symm;refine Io g d ?_;symm;refine Eb (λc=>?_) (λc=>?_)
  .symm;exact ⟨_,rfl,_,b,by show _=[_,Cl.im (frD (minQ m q)),_];unfold minQ;rw [iP c]⟩
  .symm;exact ⟨_,rfl,_,b,by show _=[_,Cl.im (frD (minQ m q)),_];unfold minQ;rw [iN c]⟩
 .rintro Z ⟨f,d,rfl⟩;symm;exact h d
def yV(h0:Bq 300 q0)(hq:∀q∈qs,Bq 300 q)(h:Bq 300 ((q0::qs).foldl maxQ q0)->U (frD ((q0::qs).foldl maxQ q0))):Tl (O5 [.lst ((q0::qs).map frD)]) U:=by
 unfold O5;symm;refine Il (enc:=frD) (λa Z=>∃f,Bq 300 (a.foldl maxQ q0)/\Z=[.im (.lst ((q0::qs).map frD)),.im (frD (a.foldl maxQ q0)),f]) ⟨.no,h0,rfl⟩ ?_ ?_
 .rintro a q r e Z ⟨f,d,rfl⟩;have g:Bq 300 q:=by
   have:q∈q0::qs:=by rw [<-e];simp
   rcases Aj.mp this with rfl | hm
   .exact h0
   .exact hq q hm
  rw [dH];have b:=Xe d g;generalize a.foldl maxQ q0=m at d b ⊢;symm;refine Io d g ?_;symm;refine Eb (λc=>?_) (λc=>?_)
  .symm;exact ⟨_,rfl,_,b,by show _=[_,Cl.im (frD (maxQ m q)),_];unfold maxQ;rw [iP c]⟩
  .symm;exact ⟨_,rfl,_,b,by show _=[_,Cl.im (frD (maxQ m q)),_];unfold maxQ;rw [iN c]⟩
 .rintro Z ⟨f,d,rfl⟩;symm;exact h d
def lC(l:List Rat):∀m:Rat,l.foldl minQ m<=m/\∀q∈l,l.foldl minQ m<=q:=by
 induction l with
 | nil=>exact λm=>⟨Rat.le_refl,λq hq=>(CZ hq).elim⟩
 | cons a r ih=>
  intro m;obtain ⟨b,d⟩:=ih (minQ m a);have e:minQ m a<=m:=by unfold minQ;split<;>grind
  have c:minQ m a<=a:=by unfold minQ;split<;>grind
  refine ⟨HF b e,λq hq=>?_⟩;rcases Aj.mp hq with rfl | hq
  .exact HF b c
  .exact d q hq
def KZ(t:T6):Rat:=[Rat.divInt t.1.w t.1.h,Rat.divInt t.2.1.w t.2.1.h,Rat.divInt t.2.2.w t.2.2.h].foldl minQ (Rat.divInt t.1.w t.1.h)
def W9{t:T6}(o:O3 t):Bq 300 (KZ t)/\HD [pc6 1 t]=.ok (frD (KZ t)):=by
 obtain ⟨a,b,c⟩:=t;obtain ⟨f,i,g⟩:=o;have m:=f.h1;have l:=i.h1;have k:=g.h1;have n:=(JL (show 0<a.h by dsimp only at m;ac_rfl) f.w f.h).mono (show 64<=300 by decide);have p:=(JL (show 0<b.h by dsimp only at l;ac_rfl) i.w i.h).mono (show 64<=300 by decide);have r:=(JL (show 0<c.h by dsimp only at k;ac_rfl) g.w g.h).mono (show 64<=300 by decide);have z:Tl (HD [pc6 1 (a,b,c)]) λd=>Bq 300 (KZ (a,b,c))/\d=frD (KZ (a,b,c)):=by
  unfold HD pc6 c6 cor;symm;refine ⟨by simp,?_⟩;refine Fq ?_;symm;refine Jp (show 0<a.h by dsimp only at m;ac_rfl) f.w f.h (by decide) λ_=>?_;refine Am ?_;refine Fq ?_;symm;refine Jp (show 0<b.h by dsimp only at l;ac_rfl) i.w i.h (by decide) λ_=>?_;refine Am ?_;refine Fq ?_;symm;refine Jp (show 0<c.h by dsimp only at k;ac_rfl) g.w g.h (by decide) λ_=>?_;refine Am ?_;refine Ot (Ai (Ai (Ai ?_)));symm;refine X4 (q0:=Rat.divInt a.w a.h) (qs:=[Rat.divInt b.w b.h,Rat.divInt c.w c.h]) n (λq hq=>?_) λj=>?_
  .rcases Aj.mp hq with rfl | hq
   .exact p
   .rcases Aj.mp hq with rfl | hq
    .exact r
    .cases hq
  .symm;exact ⟨j,rfl⟩
 obtain ⟨d,e,j,rfl⟩:=z;exact ⟨j,e⟩
def vA{t:T6}{px py ps:Int}(o:O3 t)(hp:1<=ps)(h:hdT t px py ps≠0):KZ t<=qT t px py ps:=by
 have c:=o.1.w1;have e:=o.2.1.w1;have d:=o.2.2.w1;obtain ⟨b,a⟩:=lC [Rat.divInt t.1.w t.1.h,Rat.divInt t.2.1.w t.2.1.h,Rat.divInt t.2.2.w t.2.2.h] (Rat.divInt t.1.w t.1.h);exact fP o.1.h1 o.2.1.h1 o.2.2.h1 b (a _ (by simp)) (a _ (by simp)) (RT (by ac_rfl) (by ac_rfl) (by ac_rfl) (by ac_rfl) h)
def dO:Option Rat->D
 | none=>.non
 | some q=>frD q
def farO(L:List (Option Rat)):Option Rat:=if L.all Option.isSome=true then some ((L.filterMap id).foldl maxQ ((L.filterMap id).headD 0)) else none
def all_some:∀{L:List (Option Rat)},L.all Option.isSome=true->L=(L.filterMap id).map some
 | [],_=>rfl
 | none::r,h=>by simp at h
 | some q::r,h=>by
  have:=all_some (L:=r) (by simpa using h);rw [Jd];show _=some q::(r.filterMap id).map some;rw [<-this]
def di:∀L:List (Option Rat),Bk 50 (L.map dO)=true
 | []=>rfl
 | a::r=>by
  show (plain 50 (dO a)&&Bk 50 (r.map dO))=true;rw [di r,Bool.and_true];cases a<;>rfl
def b7:∀L:List (Option Rat),inD .non (L.map dO)=!L.all Option.isSome
 | []=>rfl
 | a::r=>by
  show (eqD (dO a) .non||inD .non (r.map dO))=!(a.isSome&&r.all Option.isSome);rw [b7 r];cases a with
  | none=>rfl
  | some q=>show (false||_)=_;rw [Bool.false_or];rfl
def jO(L:List (Option Rat)):dIn .non (.lst (L.map dO))=.ok (.bl (!L.all Option.isSome)):=by
 show (if (plain 50 D.non&&Bk 50 (L.map dO))=true then Res.ok (D.bl (inD .non (L.map dO))) else .bad)=_
 rw [di,b7];rfl
def Bs(L:List (Option Rat)):Prop:=∀q,some q∈L->Bq 300 q
def Bs.fm(h:Bs L):∀q∈L.filterMap id,Bq 300 q:=λq b=>by
 obtain ⟨a,c,e⟩:=LQ.mp b;cases (show a=some q from e);exact h q c
def YC(hf:∀m q,Bq 300 m->Bq 300 q->Bq 300 (f m q)):∀(l:List Rat) (m:Rat),Bq 300 m->(∀q∈l,Bq 300 q)->Bq 300 (l.foldl f m)
 | [],_,h,_=>h
 | q::r,m,h,hl=>YC hf r (f m q) (hf m q h (hl q (BR ..))) λx a=>hl x (BP _ a)
def jT(h:Bs L)(hL:L≠[])(e:farO L=some q):Bq 300 q:=by
 unfold farO at e;split at e
 .next c=>
  cases e;have z:=all_some c;have b:=h.fm;generalize L.filterMap id=qs at z b ⊢;cases qs with
  | nil=>exact aB z hL
  | cons a r=>exact YC (λ_ _=>Xe) _ _ (b a (BR ..)) b
 .cases e
def Zkj{L:List (Option Rat)}(hL:L≠[])(h:Bs L)(q:U (dO (farO L))):Tl (Le [.lst (L.map dO)]) U:=by
 have e:=jO L;unfold farO at q;unfold Le;symm;refine Ae e ?_;symm;by_cases ha:L.all Option.isSome=true
 .rw [iP ha] at q;rw [ha];symm;have z:=all_some ha;have b:=h.fm;have c:L.map dO=(L.filterMap id).map frD:=by
   rw [z,DN,<-z];exact Fp λ_ _=>rfl
  rw [c];generalize L.filterMap id=qs at z b q ⊢;cases qs with
  | nil=>exact aB z hL
  | cons a r=>
   refine yV (b a (BR ..)) (λx d=>b x (BP _ d)) λ_=>?_;symm;exact q
 .rw [iN ha] at q;rw [Bool.eq_false_iff.mpr ha];symm;exact q
def lesO:Option Rat->Rat->Rat
 | none,q=>q
 | some m,q=>minQ m q
def jr(h:∀m,o=some m->Bq 300 m)(hq:Bq 300 q):Bq 300 (lesO o q):=by
 cases o with
 | none=>exact hq
 | some m=>exact ZP (h m rfl) hq
def rm(h:∀m,o=some m->Bq 300 m)(hq:Bq 300 q)(r:U (frD (lesO o q))):Tl (Ld [dO o,frD q]) U:=by
 unfold Ld;cases o with
 | none=>
  show Tl (fn 2 _ [D.non,frD q]) U;symm;exact r
 | some m=>
  show Tl (fn 2 _ [frD m,frD q]) U;have b:Hu (frD m)=false:=rfl;symm;refine X4 (q0:=m) (qs:=[q]) (h m rfl) (λx a=>?_) λ_=>?_
  .cases Hz.mp a;exact hq
  .symm;have e:[m,q].foldl minQ m=minQ m q:=by
    show minQ (minQ m m) q=_;rw [show minQ m m=m by unfold minQ;split<;>rfl]
   rw [e];exact r
section
variable{U:Fl×List (List D)->Prop}{Z:Ev}{dss:List (List D)}{m:MS}{k l:MY}
def Eg(h:Tl (k Z dss) λp=>Tl (goY l p) U):Tl (sqY k l Z dss) U:=Am h
def Em(h:Tl (l Z dss) U):Tl (goY l (.nx Z,dss)) U:=h
def Zwd(h:U (.ct Z,dss)):Tl (goY l (.ct Z,dss)) U:=Ai h
def Eo(h:Tl (m Z) λf=>U (f,dss)):Tl (lft m Z dss) U:=Am (h.mono λ_ q=>Ai q)
def J5{t:MB}(h:Tl (t Z) λb=>Tl (if b=true then k Z dss else l Z dss) U):Tl (ifY t k l Z dss) U:=Am h
def O7{n k:Nat}(h:k<n):ixP n (k:Int)=some k:=by
 unfold ixP;rw [iP (by ac_rfl),iP (by ac_rfl)];rfl
def zM{me mv:ME}{i:Nat}{cs:List D}(h1:me Z=.ok (.int i))(hk:dss[i]?=some cs)(hc:cs.length<10000)(h:Tl (mv Z) λw=>U (.nx Z,dss.set i (cs++[w]))):Tl (appY me mv Z dss) U:=by
 obtain ⟨w,e,q⟩:=h;refine Ae ?_ q;unfold appY;rw [h1,e];show optY Z (appR dss w (i:Int))=_;unfold appR;rw [O7 (Cm.mp hk).1];show optY Z ((dss[i]?).bind _)=_;rw [hk];show optY Z (if cs.length<10000 then _ else _)=_
 rw [iP hc];rfl
end
def yC{U:Fl->Prop}{Z:Ev}{i:Nat}{mv mb:ME}{ds:List D}(e:Z[i]?=some (.ow ds))(h:Tl (mv Z) λw=>Tl (mb Z) λb=>∃k:Nat,b=.int k/\k<ds.length/\U (.nx (Z.set i (.ow (ds.set k w))))):Tl (setO i mv mb Z) U:=by
 obtain ⟨w,f,b,d,k,rfl,a,q⟩:=h;refine Ae ?_ q;unfold setO;rw [e,f,d]
 show (match ixP ds.length (k:Int) with
  | some c=>Res.ok (Fl.nx (Z.set i (.ow (ds.set c w))))
  | none=>.bad)=_
 rw [O7 a]
def YQ(e:Z[i]?=some (.ow ds))(h:Tl (m (Z.set i (.im (.lst ds)))) λd=>noL d=true/\U d):Tl (pkN i m Z) U:=by
 obtain ⟨d,b,a,q⟩:=h;refine Ae ?_ q;unfold pkN;rw [e];show (noEx (m (Z.set i (.im (.lst ds))))).bind noLD=_;rw [b];show noLD d=_;unfold noLD;rw [iP a]
def dD(A:List α)(b x:α)(C:List α):(A++b::C).set A.length x=A++x::C:=by
 induction A with
 | nil=>rfl
 | cons a A ih=>show a::(A++b::C).set A.length x=_;rw [ih];rfl
def WY(A:List α)(b:α)(C:List α):(A++b::C)[A.length]?=some b:=by
 rw [Fo (Al _),Nat.sub_self];rfl
def glD:D->Bool
 | .ins c _ _=>c == "Glass"
 | _=>false
def Wi(h:Thg d):∃c ns vs,d=.ins c ns vs/\ns.contains "is_glass"=false/\∃f,HX.lookup c=some f/\f [d]=.ok (.bl (glD d)):=by
 obtain ⟨κ,t,rfl,_⟩:=h;cases κ<;>exact ⟨_,_,_,rfl,rfl,_,rfl,rfl⟩
def ZsT(h:Thg d)(ho:o Z=.ok d)(q:U (.bl (glD d))):Tl (meth HX "is_glass" o Ab Z) U:=by
 obtain ⟨c,b,g,rfl,i,f,a,e⟩:=Wi h;exact Sy (Ae ho ⟨c,b,g,f,rfl,i,a,Ai (Ae e q)⟩)
def nF(h:Thg d):∃k T,k=0/\dFld objs "triangle" d=.ok T:=by
 obtain ⟨κ,t,rfl,_⟩:=h;exact ⟨0,_,rfl,fT_T κ t⟩
def Be(d:D):Rat:=match dFld objs "triangle" d with
 | .ok T=>unF (val (HD [T]))
 | _=>0
def Vr{κ:Kd}{t:T6}(o:O3 t):Be (thD κ t)=KZ t:=by
 unfold Be;rw [fT_T];show unF (val (HD [pc6 1 t]))=_;rw [(W9 o).2];exact Jh _
def km(h:Thg d)(e:dFld objs "triangle" d=.ok T):Bq 300 (Be d)/\HD [T]=.ok (frD (Be d)):=by
 obtain ⟨κ,t,rfl,_,o⟩:=h;rw [fT_T] at e;cases e;rw [Vr o];exact W9 o
def yD{d:D}{px py ps:Int}{s:Sg}(h:Thg d)(cp:Cr px py ps)(hp:1<=ps)(e:so (P3 px py ps) d=some s):Be d<=s.q:=by
 obtain ⟨κ,t,rfl,_,o⟩:=h;by_cases c:hdT t px py ps=0
 .rw [QR o cp c] at e;cases e
 .rw [Oc o hp cp c] at e;cases e;rw [Vr o];have:=vA o hp c;cases κ<;>exact this
def PtD(p:D):Prop:=∃x y,p=pt8 x y/\(0<=x/\x<=1000)/\0<=y/\y<=1000
def VM(h:Thg d)(hp:PtD p):Seen p d (so p d):=by
 obtain ⟨x,y,rfl,b,a⟩:=hp;exact Ys h (cr8 b a) (by decide)
def dj(h:Thg d)(S:Seen p d (so p d))(e:so p d=some s):s.gl=glD d:=by
 obtain ⟨m,g⟩:=S.ok s e;obtain ⟨c,q,t,j,_,_,⟨f,l,k⟩,_⟩:=g.ob;obtain ⟨u,n,o,i,_,r,b,a⟩:=Wi h;rw [m] at j k;rw [i] at j;cases j;rw [l] at b;cases b;rw [k] at a;exact D.bl.inj (Res.ok.inj a)
def upd1(g:Bool)(o:Option Sg)(l:Option Rat):Option Rat:=match o with
 | none=>l
 | some s=>if g=true then l else some (lesO l s.q)
def updL(g:Bool)(os:List (Option Sg))(L:List (Option Rat)):List (Option Rat):=List.zipWith (upd1 g) os L
def row1(o:Option Sg)(cs:List D):List D:=match o with
 | none=>cs
 | some s=>cs++[encS s]
def Ke(os:List (Option Sg))(dss:List (List D)):List (List D):=List.zipWith row1 os dss
def Jx:MY:=sqY (lft (st 6 (on Dh (Aa (o1 (dFld objs "triangle") (v 0)) (Aa (v 5) Ab)))))
  (sqY (ifY (trb (o1 dIsN (v 6)))
  (lft cnt)
  (lft nop))
  (sqY (appY (v 4) (mtp (Aa (v 0) (Aa (o2 dIx (v 6) (c (.int 0))) (Aa (o2 dIx (v 6) (c (.int 1))) Ab)))))
  (ifY (bNot (trb (meth HX "is_glass" (v 0) Ab)))
  (lft (setO 3 (pkN 3 (on Ld (Aa (o2 dIx (v 3) (v 4)) (Aa (o2 dIx (v 6) (c (.int 0))) Ab)))) (v 4)))
  (lft nop))))
def iu(h:Thg d)(hp:PtD p)(hb:∀q,l=some q->Bq 300 q)(hr:r.length<10000)(hn:R1.length=L1.length) :
  Tl (Jx [.im d,.im pts,.no,.ow ((L1++l::L2).map dO),.im (.int (L1.length:Int)),.im p,v6] (R1++r::R2)) λx=>∃v6' f,x=(f,R1++row1 (so p d) r::R2)/\(f=.nx [.im d,.im pts,.no,.ow ((L1++upd1 (glD d) (so p d) l::L2).map dO),.im (.int (L1.length:Int)),.im p,v6']\/f=.ct [.im d,.im pts,.no,.ow ((L1++upd1 (glD d) (so p d) l::L2).map dO),.im (.int (L1.length:Int)),.im p,v6']):=by
 have S:=VM h hp;obtain ⟨T,k,e⟩:=S.tri;unfold Jx;refine Eg (Eo ?_);symm;refine Ae k ?_;symm;refine Ae e ?_;cases eo:so p d with
 | none=>
  show Tl (goY _ (.nx [.im d,.im pts,.no,.ow ((L1++l::L2).map dO),.im (.int (L1.length:Int)),.im p,.im .non],_)) _;refine Em (Eg (J5 ?_));symm;refine Eo ?_;symm;exact Zwd ⟨_,_,rfl,.inr rfl⟩
 | some s=>
  have m:=(S.ok s eo).2;have c:=(S.ok s eo).1;have n:=dj h S eo;have a:=m.bq;show Tl (goY _ (.nx [.im d,.im pts,.no,.ow ((L1++l::L2).map dO),.im (.int (L1.length:Int)),.im p,.im (.tup [frD s.q,s.v])],_)) _;refine Em (Eg (J5 ?_));symm;refine Eo ?_;symm;refine Em (Eg (zM (i:=L1.length) rfl (by rw [<-hn];exact WY _ _ _) hr ?_));symm;refine Em (J5 ?_);symm;refine ZsT h rfl ?_;symm;have j:(R1++r::R2).set L1.length (r++[.tup [d,frD s.q,s.v]])=R1++row1 (some s) r::R2:=by
   rw [<-hn,dD];show _=R1++(r++[encS s])::R2;unfold encS;rw [c]
  rw [j];unfold upd1;cases hgl:glD d with
  | true=>
   show Tl (if (!true)=true then _ else _) _
   symm;refine Eo ?_;symm;exact ⟨_,_,rfl,.inl rfl⟩
  | false=>
   show Tl (if (!false)=true then _ else _) _
   symm;refine Eo (yC rfl (YQ rfl ?_));have b:((L1++l::L2).map dO)[L1.length]?=some (dO l):=by
    rw [Du,Ba];have:=WY (L1.map dO) (dO l) (L2.map dO);rwa [Af] at this
   symm;refine yr b ?_;symm;refine rm hb a ?_;refine ⟨rfl,?_⟩;symm;refine ⟨L1.length,rfl,by simp,.im (.tup [frD s.q,s.v]),_,rfl,.inl ?_⟩;have g:((L1++l::L2).map dO).set L1.length (frD (lesO l s.q))=(L1++some (lesO l s.q)::L2).map dO:=by
    rw [Du,Ba];have:=dD (L1.map dO) (dO l) (frD (lesO l s.q)) (L2.map dO);rw [Af] at this;rw [this,Du,Ba];rfl
   show Fl.nx [_,_,_,Cl.ow (((L1++l::L2).map dO).set L1.length (frD (lesO l s.q))),_,_,_]=_;rw [g];rfl
def g8(h:Thg d):∀ps L1 L2 R1 R2 v4 v5 v6,(∀p∈ps,PtD p)->L2.length=ps.length->R2.length=ps.length->R1.length=L1.length->Bs L2->(∀cs∈R2,cs.length<10000) ->
  ∃w4 w5 w6,DP (gU 2 (gs1 (gN 4) (gs1 (gN 5) gs0))) Jx (numbered L1.length ps) [.im d,.im pts,.no,.ow ((L1++L2).map dO),v4,v5,v6] (R1++R2)=.ok (.nx [.im d,.im pts,.no,.ow ((L1++updL (glD d) (ps.map (so · d)) L2).map dO),w4,w5,w6],R1++Ke (ps.map (so · d)) R2):=by
 intro ps
 induction ps with
 | nil=>
  intro L1 L2 R1 R2 v4 v5 v6 _ b c _ _ _;cases Lf.mp b;cases Lf.mp c;exact ⟨v4,v5,v6,rfl⟩
 | cons p ps ih=>
  intro L1 L2 R1 R2 v4 v5 v6 j b c i k g;cases L2 with
  | nil=>cases b
  | cons l L2=>
  cases R2 with
  | nil=>cases c
  | cons r R2=>
  obtain ⟨x,ex,v6',f,rfl,hf⟩:=iu (pts:=pts) (l:=l) (L1:=L1) (L2:=L2) (R1:=R1) (R2:=R2) (r:=r) (v6:=v6) h (j p (BR ..)) (λq e=>k q (by rw [e];exact BR ..)) (g r (BR ..)) i;obtain ⟨w4,w5,w6,e⟩:=ih (L1++[upd1 (glD d) (so p d) l]) L2 (R1++[row1 (so p d) r]) R2 (.im (.int (L1.length:Int))) (.im p) v6' (λq a=>j q (BP _ a)) (by simpa using b) (by simpa using c) (by simp [i]) (λq a=>k q (BP _ a)) (λq a=>g q (BP _ a));refine ⟨w4,w5,w6,?_⟩;show (Jx [.im d,.im pts,.no,.ow ((L1++l::L2).map dO),.im (.int (L1.length:Int)),.im p,v6] (R1++r::R2)).bind (Ng (DP _ Jx (numbered (L1.length+1) ps)))=_;rw [ex];rw [Bo,Hn,Do,Do,Do,Do] at e;rcases hf with rfl | rfl<;>exact e
def pF(h:Thg d)(hp:∀p∈ps,PtD p)(hl:L.length=ps.length)(hd:dss.length=ps.length)(hb:Bs L)(hc:∀cs∈dss,cs.length<10000) :
  Jj [.im d,.im (.lst ps),.no,.ow (L.map dO)] dss=.ok ([.im d,.im (.lst ps),.no,.ow ((updL (glD d) (ps.map (so · d)) L).map dO)],Ke (ps.map (so · d)) dss):=by
 obtain ⟨a,b,c,e⟩:=g8 (pts:=.lst ps) h ps [] L [] dss .no .no .no hp hl hd rfl hb hc;show (DP (gU 2 (gs1 (gN 4) (gs1 (gN 5) gs0))) Jx (numbered 0 ps) [.im d,.im (.lst ps),.no,.ow (L.map dO),.no,.no,.no] dss).bind (endY [2,3] _)=_;rw [show numbered 0 ps=numbered ([]:List (Option Rat)).length ps from rfl,show L.map dO=(([]:List (Option Rat))++L).map dO from rfl,show dss=[]++dss from rfl,e];rfl
def Cw(ps:List D):Nat->List (Option Rat)->List D->List (Nat×Rat×Rat)
 | _,_,[]=>[]
 | n,L,d::r=>match farO L with
  | some f=>if Be d<f then Cw ps (n+1) (updL (glD d) (ps.map (so · d)) L) r else (n,Be d,f)::Cw ps (n+1) L r
  | none=>Cw ps (n+1) (updL (glD d) (ps.map (so · d)) L) r
def kptL(ps:List D):List (Option Rat)->List D->List D
 | _,[]=>[]
 | L,d::r=>match farO L with
  | some f=>if Be d<f then d::kptL ps (updL (glD d) (ps.map (so · d)) L) r else kptL ps L r
  | none=>d::kptL ps (updL (glD d) (ps.map (so · d)) L) r
def encG(t:Nat×Rat×Rat):D:=.tup [.int (t.1:Int),frD t.2.1,frD t.2.2]
def Vh:∀{as:List α} {bs:List β} {c:γ},c∈List.zipWith f as bs->∃a∈as,∃b∈bs,c=f a b
 | [],_,_,h=>by simp at h
 | _::_,[],_,h=>by simp at h
 | a::as,b::bs,c,h=>by
  rw [Lg] at h;rcases Aj.mp h with rfl | h
  .exact ⟨a,BR ..,b,BR ..,rfl⟩
  .obtain ⟨i,j,d,g,e⟩:=Vh h;exact ⟨i,BP _ j,d,BP _ g,e⟩
def Yu{g:Bool}{os:List (Option Sg)}{L:List (Option Rat)}(h:Bs L)(ho:∀s,some s∈os->GS s):Bs (updL g os L):=λq c=>by
 obtain ⟨o,b,l,a,e⟩:=Vh c;unfold upd1 at e;cases o with
 | none=>exact h q (by rw [show some q=l from e];exact a)
 | some s=>
  have e:some q=if g=true then l else some (lesO l s.q):=e
  split at e
  .exact h q (by rw [e];exact a)
  .cases e;exact jr (λm b=>h m (by rw [<-b];exact a)) (ho s b).bq
def rowS(os:List (Option Sg))(ls:List (List Sg)):List (List Sg):=List.zipWith (λo l=>l++o.toList) os ls
def Xj:∀(os:List (Option Sg)) (ls:List (List Sg)),Ke os (ls.map λl=>l.map encS)=(rowS os ls).map λl=>l.map encS
 | [],_=>by simp [Ke,rowS]
 | _::_,[]=>by simp [Ke,rowS]
 | o::os,l::ls=>by
  have ih:=Xj os ls;unfold Ke rowS at ih ⊢;rw [Ba,Lg,Lg,Ba,ih];cases o with
  | none=>simp [row1]
  | some s=>simp [row1]
def addK(ps:List D)(ls:List (List Sg))(K:List D):List (List Sg):=K.foldl (λls d=>rowS (ps.map (so · d)) ls) ls
def lkB:MY:=sqY (lft (st 7 (on HD (Aa (o1 (dFld objs "triangle") (v 6)) Ab))))
  (sqY (lft (st 8 (pkN 3 (on Le (Aa (v 3) Ab)))))
  (ifY (bAnd (trb (o1 G8 (v 8))) (bNot (trb (on FJ (Aa (v 7) (Aa (v 8) Ab))))))
  (lft (app 4 (mtp (Aa (v 5) (Aa (v 7) (Aa (v 8) Ab))))))
  (GC Jj 3 (some 3) (rIm (v 6) (rIm (v 1) (rRg (rOw 3 rNil)))))))
def yq(o):noL (dO o)=true:=by cases o<;>rfl
def ZqQ{ps:List D}{L:List (Option Rat)}{out:List (Nat×Rat×Rat)}{ls:List (List Sg)}(hp:∀p∈ps,PtD p)(hne:ps≠[])(h:Thg d)(hl:L.length=ps.length)(hb:Bs L)(hs:ls.length=ps.length)(hg:∀l∈ls,(∀s∈l,GS s)/\l.length<=n)(hn:n<=9000)(ho:out.length<=n) :
  ∃(L':List (Option Rat)) (ls':List (List Sg)) (out':List (Nat×Rat×Rat)) (w7 w8:Cl),lkB [.im T,.im (.lst ps),.no,.ow (L.map dO),.ow (out.map encG),.im (.int n),.im d,v7,v8] (ls.map λl=>l.map encS)=.ok (.nx [.im T,.im (.lst ps),.no,.ow (L'.map dO),.ow (out'.map encG),.im (.int n),.im d,w7,w8],ls'.map λl=>l.map encS) /\
   L'.length=ps.length/\Bs L'/\ls'.length=ps.length/\(∀l∈ls',(∀s∈l,GS s)/\l.length<=n+1)/\out'.length<=n+1/\(∀r,out++Cw ps n L (d::r)=out'++Cw ps (n+1) L' r)/\∀r,addK ps ls (kptL ps L (d::r))=addK ps ls' (kptL ps L' r):=by
 obtain ⟨k,O,t,A⟩:=nF h;obtain ⟨M,H⟩:=km h A;have j:L≠[]:=λz=>hne (Lf.mp (by rw [<-hl,z];rfl));have u:∀s,some s∈ps.map (so · d)->GS s:=λs J=>by
  obtain ⟨p,m,e⟩:=Bf.mp J;exact ((VM h (hp p m)).ok s e).2
 have b:∀{U:Fl×List (List D)->Prop},Tl (ifY (bAnd (trb (o1 G8 (v 8))) (bNot (trb (on FJ (Aa (v 7) (Aa (v 8) Ab)))))) (lft (app 4 (mtp (Aa (v 5) (Aa (v 7) (Aa (v 8) Ab)))))) (GC Jj 3 (some 3) (rIm (v 6) (rIm (v 1) (rRg (rOw 3 rNil))))) [.im T,.im (.lst ps),.no,.ow (L.map dO),.ow (out.map encG),.im (.int n),.im d,.im (frD (Be d)),.im (dO (farO L))] (ls.map λl=>l.map encS)) U->Tl (lkB [.im T,.im (.lst ps),.no,.ow (L.map dO),.ow (out.map encG),.im (.int n),.im d,v7,v8] (ls.map λl=>l.map encS)) U:=λ{U} q=>by
  unfold lkB;refine Eg (Eo ?_);symm;refine Ae A ?_;symm;refine Ae H ?_;refine Em (Eg (Eo (w_st (YQ rfl ?_))));symm;refine Zkj j hb ?_;exact ⟨yq _,Em q⟩
 have i:∀{w7 w8:Cl},GC Jj 3 (some 3) (rIm (v 6) (rIm (v 1) (rRg (rOw 3 rNil)))) [.im T,.im (.lst ps),.no,.ow (L.map dO),.ow (out.map encG),.im (.int n),.im d,w7,w8] (ls.map λl=>l.map encS)=.ok (.nx [.im T,.im (.lst ps),.no,.ow ((updL (glD d) (ps.map (so · d)) L).map dO),.ow (out.map encG),.im (.int n),.im d,w7,w8],(rowS (ps.map (so · d)) ls).map λl=>l.map encS):=λ{w7 w8}=>by
  have e:=pF h hp hl (dss:=ls.map λl=>l.map encS) (by rw [Af];exact hs) hb (λQ B=>by
   obtain ⟨l,a,rfl⟩:=Bf.mp B;rw [Af];have:=(hg l a).2
   ac_rfl)
  show (noEx (Jj [.im d,.im (.lst ps),.no,.ow (L.map dO)] (ls.map λl=>l.map encS))).bind _=_;rw [e,Xj];rfl
 have x:(updL (glD d) (ps.map (so · d)) L).length=ps.length:=by unfold updL;rw [List.length_zipWith,List.length_map,hl];ac_rfl
 have y:(rowS (ps.map (so · d)) ls).length=ps.length:=by unfold rowS;rw [List.length_zipWith,List.length_map,hs];ac_rfl
 have w:∀l∈rowS (ps.map (so · d)) ls,(∀s∈l,GS s)/\l.length<=n+1:=λl a=>by
  obtain ⟨o,I,K,G,rfl⟩:=Vh a;obtain ⟨C,P⟩:=hg K G;refine ⟨λs hs'=>?_,?_⟩
  .rcases HH.mp hs' with hs' | hs'
   .exact C s hs'
   .cases o with
    | none=>cases hs'
    | some s'=>
     cases Hz.mp (show s∈[s'] from hs');exact u s I
  .rw [Bo];cases o with
   | none=>simp;ac_rfl
   | some s'=>simp;ac_rfl
 cases ef:farO L with
 | none=>
  refine ⟨updL (glD d) (ps.map (so · d)) L,rowS (ps.map (so · d)) ls,out,.im (frD (Be d)),.im (dO (farO L)),Tl.eq (b ?_),x,Yu hb u,y,w,by ac_rfl,λr=>?_,λr=>?_⟩
  .rw [ef];show Tl (ifY _ _ _ [.im T,.im (.lst ps),.no,.ow (L.map dO),.ow (out.map encG),.im (.int n),.im d,.im (frD (Be d)),.im .non] _) _;refine J5 ?_;symm;exact Ae i rfl
  .show out++(match farO L with | some f=>_ | none=>Cw ps (n+1) (updL (glD d) (ps.map (so · d)) L) r)=_
   rw [ef]
  .show addK ps ls (match farO L with | some f=>_ | none=>d::kptL ps (updL (glD d) (ps.map (so · d)) L) r)=_
   rw [ef];rfl
 | some f=>
  have E:=jT hb j ef;have g:∀{Ψ:Bool->Prop},Ψ (!decide (Be d<f))->Tl (bAnd (trb (o1 G8 (v 8))) (bNot (trb (on FJ (Aa (v 7) (Aa (v 8) Ab))))) [.im T,.im (.lst ps),.no,.ow (L.map dO),.ow (out.map encG),.im (.int n),.im d,.im (frD (Be d)),.im (frD f)]) Ψ:=λ{Ψ} q=>by
   have F:Hu (frD f)=false:=rfl;symm;refine Io M E ?_;symm;exact q
  by_cases c:Be d<f
  .refine ⟨updL (glD d) (ps.map (so · d)) L,rowS (ps.map (so · d)) ls,out,.im (frD (Be d)),.im (dO (farO L)),Tl.eq (b ?_),x,Yu hb u,y,w,by ac_rfl,λr=>?_,λr=>?_⟩
   .rw [ef];refine J5 (g ?_);rw [Ew c];exact Ae i rfl
   .show out++(match farO L with | some f=>if Be d<f then Cw ps (n+1) (updL (glD d) (ps.map (so · d)) L) r else _ | none=>_)=_
    rw [ef];show out++(if Be d<f then _ else _)=_
    rw [iP c]
   .show addK ps ls (match farO L with | some f=>if Be d<f then d::kptL ps (updL (glD d) (ps.map (so · d)) L) r else _ | none=>_)=_
    rw [ef];show addK ps ls (if Be d<f then _ else _)=_
    rw [iP c];rfl
  .refine ⟨L,ls,out++[(n,Be d,f)],.im (frD (Be d)),.im (dO (farO L)),Tl.eq (b ?_),hl,hb,hs,λl a=>⟨(hg l a).1,Nat.le_succ_of_le (hg l a).2⟩,by simp;ac_rfl,λr=>?_,λr=>?_⟩
   .rw [ef];refine J5 (g ?_);rw [HQ c];show Tl (lft _ _ _) _;refine Eo ?_;have N:(out.map encG).length<1000000:=by rw [Af];ac_rfl
    symm;refine ⟨N,?_⟩;rw [Du];rfl
   .show out++(match farO L with | some f=>if Be d<f then _ else (n,Be d,f)::Cw ps (n+1) L r | none=>_)=_
    rw [ef];show out++(if Be d<f then _ else (n,Be d,f)::Cw ps (n+1) L r)=_
    rw [iN c,Do];rfl
   .show addK ps ls (match farO L with | some f=>if Be d<f then _ else kptL ps L r | none=>_)=_
    rw [ef];show addK ps ls (if Be d<f then _ else _)=_
    rw [iN c]
def z8{ps:List D}(hp:∀p∈ps,PtD p)(hne:ps≠[]):∀(ts:List D) (n:Nat) (L:List (Option Rat)) (out:List (Nat×Rat×Rat)) (ls:List (List Sg)) (v5 v6 v7 v8:Cl),(∀t∈ts,Thg t)->L.length=ps.length->Bs L->ls.length=ps.length->(∀l∈ls,(∀s∈l,GS s)/\l.length<=n)->n+ts.length<=9000->out.length<=n ->
  ∃(L':List (Option Rat)) (ls':List (List Sg)) (w5 w6 w7 w8:Cl),DP (gU 2 (gs1 (gN 5) (gs1 (gN 6) gs0))) lkB (numbered n ts) [.im T,.im (.lst ps),.no,.ow (L.map dO),.ow (out.map encG),v5,v6,v7,v8] (ls.map λl=>l.map encS)=.ok (.nx [.im T,.im (.lst ps),.no,.ow (L'.map dO),.ow ((out++Cw ps n L ts).map encG),w5,w6,w7,w8],ls'.map λl=>l.map encS)/\ls'.length=ps.length/\(∀l∈ls',(∀s∈l,GS s)/\l.length<=n+ts.length)/\ls'=addK ps ls (kptL ps L ts):=by
 intro ts
 induction ts with
 | nil=>
  intro n L out ls v5 v6 v7 v8 _ _ _ g f _ _;refine ⟨L,ls,v5,v6,v7,v8,?_,g,f,rfl⟩;show Res.ok _=_;rw [show Cw ps n L []=[] from rfl,Bl]
 | cons d ts ih=>
  intro n L out ls v5 v6 v7 v8 j z B g f r H;rw [CW] at r;obtain ⟨L',ls',b,w7,w8,e,E,m,C,w,q,o,c⟩:=ZqQ (T:=T) (v7:=v7) (v8:=v8) hp hne (j d (BR ..)) z B g f (by ac_rfl) H;obtain ⟨v,i,G,u,x,y,A,I,k,F⟩:=ih (n+1) L' b ls' (.im (.int n)) (.im d) w7 w8 (λt h=>j t (BP _ h)) E m C w (by ac_rfl) q;refine ⟨v,i,G,u,x,y,?_,I,λl a=>⟨(k l a).1,by have:=(k l a).2;rw [CW];ac_rfl⟩,by rw [c ts];exact F⟩;rw [o ts];show (lkB [.im T,.im (.lst ps),.no,.ow (L.map dO),.ow (out.map encG),.im (.int n),.im d,v7,v8] (ls.map λl=>l.map encS)).bind (Ng (DP _ lkB (numbered (n+1) ts)))=_;rw [e];exact A
def bK{U:Fl->Prop}{k:MY}(h1:me Z=.ok (.lst ds))(h2:FT ds=some dss)(hi:i<Z.length)(h:Tl (k (Z.set i .no) dss) λp=>∃x,p.1=.rt x/\U (.rt x)):Tl (regY i me k Z) U:=by
 obtain ⟨⟨f,r⟩,e,x,rfl,q⟩:=h;refine Ae ?_ q;unfold regY;rw [h1];show (match FT ds with | some dss=>if i<Z.length then (noEx (k (Z.set i .no) dss)).bind fstY else .bad | none=>.bad)=_
 rw [h2];show (if i<Z.length then (noEx (k (Z.set i .no) dss)).bind fstY else .bad)=_
 rw [iP hi,e];rfl
def Zm:∀ps:List α,FT (ps.map λ_=>D.lst [])=some (ps.map λ_=>[])
 | []=>rfl
 | _::r=>by
  show (if noLs []=true then (FT (r.map λ_=>D.lst [])).bind λq=>some ([]::q) else none)=_
  rw [Zm r];rfl
def ZlN{ts ps:List D}(hp:∀p∈ps,PtD p)(hne:ps≠[])(hps:ps.length<=100000)(ht:∀t∈ts,Thg t)(hn:ts.length<=9000) :
  ∃ls:List (List Sg),ls=addK ps (ps.map λ_=>[]) (kptL ps (ps.map λ_=>none) ts)/\ls.length=ps.length/\(∀l∈ls,(∀s∈l,GS s)/\l.length<=ts.length)/\NQ [.lst ts,.lst ps]=.ok (.tup [.lst (ls.map λl=>D.lst (l.map encS)),.lst ((Cw ps 0 (ps.map λ_=>none) ts).map encG)]):=by
 obtain ⟨o,ls,r,n,i,y,e,s,g,u⟩:=z8 (T:=.lst ts) hp hne ts 0 (ps.map λ_=>none) [] (ps.map λ_=>[]) .no .no .no .no ht (by rw [Af]) (λq k=>by
  obtain ⟨_,_,z⟩:=Bf.mp k
  cases z) (by rw [Af]) (λl a=>by
  obtain ⟨_,_,rfl⟩:=Bf.mp a
  exact ⟨λs f=>(CZ f).elim,DR _⟩) (by ac_rfl) (Al _)
 refine ⟨ls,u,s,λl a=>⟨(g l a).1,by have:=(g l a).2;ac_rfl⟩,Tl.eq ?_⟩
 have d:∀{Z:Ev} {e:ME} {x:D},Z[1]?=some (.im (.lst ps))->(∀p∈ps,e [.im p]=.ok x)->comp (iv (v 1)) 1 [] (gN 0) yes e Z=.ok (.lst (ps.map λ_=>x)):=λ{Z e x} h j=>Tl.eq (Lr (w_iv (w_v h (UW ⟨by ac_rfl,by
  have:=Dq (U:=λm=>D.lst m=.lst (ps.map λ_=>x)) (g:=gN 0) (e:=e) (Z:=noA 1 (Az Z [])) (enc:=λp:D=>p) (λ_=>x) (l:=ps) (λp c=>w_gN (Ae (j p c) rfl)) rfl
  rwa [List.map_id'] at this⟩))))
 unfold NQ;refine w_fn (bK (d rfl λp _=>rfl) (Zm ps) (by show 2<9;decide) ?_);refine Eg (Eo (Uu (Ae (d rfl λp _=>rfl) (S5 ?_))));refine Em (Eg (Eo ?_));symm;refine Em (Eg (Ae (x:=(.nx [.im (.lst ts),.im (.lst ps),.no,.ow (o.map dO),.ow ((Cw ps 0 (ps.map λ_=>none) ts).map encG),r,n,i,y],ls.map λl=>l.map encS)) ?_ ?_))
 .show DP _ lkB (numbered 0 ts) _ _=_;have w:((ps.map λ_=>([]:List Sg)).map λl=>l.map encS)=ps.map λ_=>[]:=by rw [DN];rfl
  have b:(ps.map λ_=>(none:Option Rat)).map dO=ps.map λ_=>D.non:=by rw [DN];rfl
  rw [w,b] at e;exact e
 .refine Em ?_;refine Ae (x:=(.rt (.tup [.lst ((ls.map λl=>l.map encS).map .lst),.lst ((Cw ps 0 (ps.map λ_=>none) ts).map encG)]),ls.map λl=>l.map encS)) rfl ⟨_,rfl,?_⟩;refine w_eR ?_;rw [DN];rfl
def NP(A:List D)(d p:D):sgs (A++[d]) p=sgs A p++(so p d).toList:=by
 unfold sgs;rw [List.filterMap_append];cases e:so p d<;>simp [e]
def ZnW(ps:List D)(d:D)(A:List D):rowS (ps.map (so · d)) (ps.map λp=>sgs A p)=ps.map λp=>sgs (A++[d]) p:=by
 unfold rowS
 induction ps with
 | nil=>rfl
 | cons p ps ih=>
  rw [Ba,Ba,Lg,Ba,ih,NP]
def Zg(ps:List D):∀K A:List D,addK ps (ps.map λp=>sgs A p) K=ps.map λp=>sgs (A++K) p
 | [],A=>by rw [Bl];rfl
 | d::K,A=>by
  show addK ps (rowS (ps.map (so · d)) (ps.map λp=>sgs A p)) K=_;rw [ZnW,Zg ps K (A++[d]),Do];rfl
def Nr(n n0:Option Sg):Prop:=∀m,n0=some m->∃a,n=some a/\a.q<=m.q
structure Hid(l l':List Sg):Prop where
 n:near l=near l'
 l:∀n,Nr n (near l)->lay n l=lay n l'
def Nr.refl(n:Option Sg):Nr n n:=λm h=>⟨m,h,Rat.le_refl⟩
def Nr.snoc{n n0:Option Sg}{s:Sg}(h:Nr n (Ed n0 s)):Nr n n0:=by
 intro m e;subst e;unfold Ed at h;by_cases c:s.gl=true
 .rw [iP c] at h;exact h m rfl
 .rw [iN c] at h;by_cases c2:s.q<m.q
  .obtain ⟨d,b,a⟩:=h s (by show (if s.q<m.q then some s else some m)=_;rw [iP c2]);exact ⟨d,b,HF a (Rat.le_of_lt c2)⟩
  .exact h m (by show (if s.q<m.q then some s else some m)=_;rw [iN c2])
def Hid.refl(l:List Sg):Hid l l:=⟨rfl,λ_ _=>rfl⟩
def Hid.snoc{l l':List Sg}(h:Hid l l')(s:Sg):Hid (l++[s]) (l'++[s]):=by
 refine ⟨by rw [JF,JF,h.n],λn a=>?_⟩;rw [JF] at a;rw [Hg,Hg,h.l n a.snoc]
def Hid.gone{l l':List Sg}(h:Hid l l'){s m:Sg}(e:near l=some m)(c:m.q<=s.q):Hid (l++[s]) l':=by
 have b:near (l++[s])=near l:=by
  rw [JF,e];unfold Ed;by_cases g:s.gl=true
  .rw [iP g]
  .rw [iN g];show (if s.q<m.q then some s else some m)=_
   rw [iN (Rat.not_lt.mpr c)]
 refine ⟨b.trans h.n,λn a=>?_⟩;rw [b] at a;obtain ⟨f,i,d⟩:=a m e;rw [Hg,iN,h.l n a];unfold Cg;subst i;have:¬s.q<f.q:=Rat.not_lt.mpr (HF d c);simp [this]
def Hid.col{l l':List Sg}(h:Hid l l')(g:Rat):colQ g l=colQ g l':=by
 unfold colQ;rw [h.l _ (Nr.refl _),h.n]
def ZuX(l:List Rat):∀m:Rat,m<=l.foldl maxQ m/\∀q∈l,q<=l.foldl maxQ m:=by
 induction l with
 | nil=>exact λm=>⟨Rat.le_refl,λq hq=>(CZ hq).elim⟩
 | cons a r ih=>
  intro m;obtain ⟨b,d⟩:=ih (maxQ m a);have e:m<=maxQ m a:=by unfold maxQ;split<;>grind
  have c:a<=maxQ m a:=by unfold maxQ;split<;>grind
  refine ⟨HF e b,λq hq=>?_⟩;rcases Aj.mp hq with rfl | hq
  .exact HF c b
  .exact d q hq
def yR{L:List (Option Rat)}{f:Rat}(e:farO L=some f):∀o∈L,∃q,o=some q/\q<=f:=by
 unfold farO at e;split at e
 .next c=>
  cases e;intro o a;have z:=all_some c;rw [z] at a;obtain ⟨q,b,rfl⟩:=Bf.mp a;exact ⟨q,rfl,(ZuX _ _).2 q b⟩
 .cases e
def nrQ(K:List D)(p:D):Option Rat:=(near (sgs K p)).map (·.q)
def ZtH{d p:D}{K:List D}(h:Thg d)(hp:PtD p):upd1 (glD d) (so p d) (nrQ K p)=nrQ (K++[d]) p:=by
 unfold nrQ;rw [NP];cases e:so p d with
 | none=>rw [show (none:Option Sg).toList=[] from rfl,Bl];rfl
 | some s=>
  rw [show (some s).toList=[s] from rfl,JF];have a:=dj h (VM h hp) e;unfold upd1 Ed;rw [a];by_cases c:glD d=true
  .show (if glD d=true then _ else _)=_
   rw [iP c,iP c]
  .show (if glD d=true then _ else _)=_
   rw [iN c,iN c];cases near (sgs K p) with
   | none=>rfl
   | some m=>
    show some (minQ m.q s.q)=(if s.q<m.q then some s else some m).map _
    unfold minQ;split<;>rfl
def XC{d:D}{K:List D}(h:Thg d):∀{ps:List D},(∀p∈ps,PtD p)->updL (glD d) (ps.map (so · d)) (ps.map (nrQ K))=ps.map (nrQ (K++[d]))
 | [],_=>rfl
 | p::ps,hp=>by
  have ih:=XC h (K:=K) (ps:=ps) (λq a=>hp q (BP _ a));unfold updL at ih ⊢;rw [Ba,Ba,Lg,ih,ZtH h (hp p (BR ..))];rfl
def RZ{ps:List D}(hp:∀p∈ps,PtD p):∀(ts A K:List D),(∀t∈ts,Thg t)->(∀p∈ps,Hid (sgs A p) (sgs K p))->∀p∈ps,Hid (sgs (A++ts) p) (sgs (K++kptL ps (ps.map (nrQ K)) ts) p)
 | [],A,K,_,h=>by
  intro p g;rw [Bl,show kptL ps (ps.map (nrQ K)) []=[] from rfl,Bl];exact h p g
 | d::r,A,K,ht,h=>by
  have j:=ht d (BR ..);have k:∀t∈r,Thg t:=λt z=>ht t (BP _ z);have b:∀p∈ps,Hid (sgs (A++d::r) p) (sgs (K++d::kptL ps (updL (glD d) (ps.map (so · d)) (ps.map (nrQ K))) r) p):=by
   intro p g
   have:=RZ hp r (A++[d]) (K++[d]) k (λq a=>by
    rw [NP,NP];cases so q d with
    | none=>rw [show (none:Option Sg).toList=[] from rfl,Bl,Bl];exact h q a
    | some s=>exact (h q a).snoc s) p g
   rw [Do,Do,<-XC j hp] at this;exact this
  have e:kptL ps (ps.map (nrQ K)) (d::r)=match farO (ps.map (nrQ K)) with
   | some f=>if Be d<f then d::kptL ps (updL (glD d) (ps.map (so · d)) (ps.map (nrQ K))) r else kptL ps (ps.map (nrQ K)) r
   | none=>d::kptL ps (updL (glD d) (ps.map (so · d)) (ps.map (nrQ K))) r:=rfl
  cases ef:farO (ps.map (nrQ K)) with
  | none=>
   rw [ef] at e;rw [e];exact b
  | some f=>
   rw [ef] at e;by_cases c:Be d<f
   .rw [e];show ∀p∈ps,Hid _ (sgs (K++if Be d<f then _ else _) p)
    rw [iP c];exact b
   .rw [e];show ∀p∈ps,Hid _ (sgs (K++if Be d<f then _ else _) p)
    rw [iN c];intro p g
    have:=RZ hp r (A++[d]) K k (λq a=>by
     rw [NP];cases es:so q d with
     | none=>rw [show (none:Option Sg).toList=[] from rfl,Bl];exact h q a
     | some s=>
      obtain ⟨z,i,o⟩:=yR ef _ (Bf.mpr ⟨q,a,rfl⟩);unfold nrQ at i;cases en:near (sgs K q) with
      | none=>rw [en] at i;cases i
      | some m=>
       rw [en] at i;cases i;obtain ⟨x,y,rfl,u,v⟩:=hp q a;have l:=yD j (cr8 u v) (by decide) es
       exact (h _ a).gone ((h _ a).n.trans en) (HF o (HF (Rat.not_lt.mp c) l))) p g
    rw [Do] at this;exact this
def ZnU{ps ts:List D}(hp:∀p∈ps,PtD p)(ht:∀t∈ts,Thg t)(g:Rat){p:D}(hm:p∈ps):colQ g (sgs (kptL ps (ps.map λ_=>none) ts) p)=colQ g (sgs ts p):=by
 have:=RZ hp ts [] [] ht (λq _=>Hid.refl _) p hm;exact (this.col g).symm
def Yz{U:List D->Prop}{i:Int}(h0:(-1000000000<=i/\i<=1000000000)/\(-1000000000<=j/\j<=1000000000))(h:U (Cd i (j - i).toNat)):Tl (rng2 [.int i,.int j]) U:=by
 refine Ae ?_ h;show (if (-1000000000<=i/\i<=1000000000)/\(-1000000000<=j/\j<=1000000000) then Res.ok (Cd i (j - i).toNat) else .bad)=_
 rw [iP h0]
abbrev cel(c r:Nat):Int×Int:=((c:Int),(r:Int))
abbrev acr(W S:Nat):Nat:=(W+S - 1)/S
def Bm(W H S t:Nat):List (Int×Int):=(List.range (min (t/acr W S*S+S) H - t/acr W S*S)).flatMap λi=>(List.range (min (t%acr W S*S+S) W - t%acr W S*S)).map λj=>cel (t%acr W S*S+j) (t/acr W S*S+i)
def numT(W S c r:Nat):Nat:=r/S*acr W S+c/S
def PN(W S t r:Nat):List (Int×Int):=((List.range W).filter λc=>decide (numT W S c r=t)).map λc=>cel c r
def lawL(W H S t:Nat):List (Int×Int):=(List.range H).flatMap (PN W S t)
def aQ{c S q:Nat}(hS:0<S):c/S=q↔q*S<=c/\c<q*S+S:=by
 have d:=Nat.div_add_mod c S;have e:=Hk c hS;rw [Nat.mul_comm] at d;constructor
 .rintro rfl;ac_rfl
 .rintro ⟨a,b⟩;exact Nat.div_eq_of_lt_le (by ac_rfl) (by rw [Dz];ac_rfl)
def Ln{W S c:Nat}(hS:0<S)(h:c<W):c/S<acr W S:=by
 have z:(c+S)/S<=(W+S - 1)/S:=Nat.div_le_div_right (by ac_rfl);rw [Nat.add_div_right c hS] at z;exact z
def ZrD{W S c r t:Nat}(hS:0<S)(hc:c<W):numT W S c r=t↔(t/acr W S*S<=r/\r<t/acr W S*S+S)/\t%acr W S*S<=c/\c<t%acr W S*S+S:=by
 have d:=Ln hS hc;rw [<-aQ hS,<-aQ hS];unfold numT;constructor
 .rintro rfl;have b:(r/S*acr W S+c/S)/acr W S=r/S:=by
   rw [Gi,Nat.add_mul_div_right _ _ (G7 (DR _) d),Nat.div_eq_of_lt d,KQ]
  have a:(r/S*acr W S+c/S)%acr W S=c/S:=by
   rw [Gi,Nat.add_mul_mod_self_right,Nat.mod_eq_of_lt d]
  rw [b,a];exact ⟨rfl,rfl⟩
 .rintro ⟨b,a⟩;rw [b,a,Nat.mul_comm];exact Nat.div_add_mod t (acr W S)
def ZnT(h:l+n<=W)(hp:∀c,c<W->(p c=true↔l<=c/\c<l+n)):(List.range W).filter p=(List.range n).map (l+·):=by
 obtain ⟨m,rfl⟩ : ∃m,W=l+n+m:=⟨W - (l+n),by ac_rfl⟩;rw [Lb,Lb,KN,KN];have f:(List.range l).filter p=[]:=Qc.mpr λc a=>by
  have:=CN.mp a;rw [hp c (by ac_rfl)];ac_rfl
 have d:((List.range n).map (l+·)).filter p=(List.range n).map (l+·):=List.filter_eq_self.mpr λc a=>by
  obtain ⟨j,b,rfl⟩:=Bf.mp a;have:=CN.mp b;rw [hp _ (by ac_rfl)];ac_rfl
 have e:((List.range m).map (l+n+·)).filter p=[]:=Qc.mpr λc a=>by
  obtain ⟨j,b,rfl⟩:=Bf.mp a;have:=CN.mp b;rw [hp _ (by ac_rfl)];ac_rfl
 rw [f,d,e,List.nil_append,Bl]
def U9:∀{l:List Nat},(∀x∈l,f x=[])->l.flatMap f=[]
 | [],_=>rfl
 | x::r,h=>by
  rw [Ga,h x BR,List.nil_append];exact U9 λy a=>h y (BP _ a)
def bu:∀{l:List Nat},(∀x∈l,f x=g x)->l.flatMap f=l.flatMap g
 | [],_=>rfl
 | x::r,h=>by
  rw [Ga,Ga,h x BR,bu λy a=>h y (BP _ a)]
def ZoA(h:l+n<=H)(hf:∀r,r<H->¬(l<=r/\r<l+n)->f r=[]):(List.range H).flatMap f=(List.range n).flatMap λi=>f (l+i):=by
 obtain ⟨m,rfl⟩ : ∃m,H=l+n+m:=⟨H - (l+n),by ac_rfl⟩
 rw [Lb,Lb,K3,K3,U9 (l:=List.range l) λr a=>hf r (by have:=CN.mp a;ac_rfl) (by have:=CN.mp a;ac_rfl),U9 (l:=(List.range m).map _) λr a=>by
  obtain ⟨j,b,rfl⟩:=Bf.mp a;have:=CN.mp b
  exact hf _ (by ac_rfl) (by ac_rfl)]
 rw [List.nil_append,Bl,List.flatMap_map]
def Ti{t:Nat}(hS:0<S)(hW:0<W)(hH:0<H)(ht:t<acr W S*acr H S):t%acr W S*S<W/\t/acr W S*S<H:=by
 have a:∀{W q:Nat},0<W->q<acr W S->q*S<W:=λ{W q} c h=>by
  have:=(Nat.le_div_iff_mul_le hS).mp (show q+1<=(W+S - 1)/S from h);rw [Dz] at this;ac_rfl
 have b:0<acr W S:=G7 (DR _) (Ln hS hW);exact ⟨a hW (Hk t b),a hH (Nat.div_lt_of_lt_mul ht)⟩
def fK{t:Nat}(hS:0<S)(hW:0<W)(hH:0<H)(ht:t<acr W S*acr H S):lawL W H S t=Bm W H S t:=by
 obtain ⟨f,h⟩:=Ti hS hW hH ht;unfold lawL Bm;have d:=@ZrD W S;rw [ZoA (l:=t/acr W S*S) (n:=min (t/acr W S*S+S) H - t/acr W S*S) (by ac_rfl) λr e g=>?_]
 .refine bu λi b=>?_;have b:=CN.mp b;unfold PN;rw [ZnT (l:=t%acr W S*S) (n:=min (t%acr W S*S+S) W - t%acr W S*S) (by ac_rfl) λc a=>?_,DN]
  .rfl
  .rw [decide_eq_true_eq,d hS a];ac_rfl
 .unfold PN;rw [Qc.mpr λc a=>?_]
  .rfl
  .have a:=CN.mp a;rw [decide_eq_true_eq,d hS a];ac_rfl
def n8{t:Nat}(hS:0<S)(hW:0<W)(hH:0<H)(ht:t<acr W S*acr H S):∃p r,Bm W H S t=p::r:=by
 obtain ⟨c,d⟩:=Ti hS hW hH ht;unfold Bm;obtain ⟨n,b⟩ : ∃n,min (t/acr W S*S+S) H - t/acr W S*S=n+1:=⟨min (t/acr W S*S+S) H - t/acr W S*S - 1,by ac_rfl⟩;obtain ⟨m,a⟩ : ∃m,min (t%acr W S*S+S) W - t%acr W S*S=m+1:=⟨min (t%acr W S*S+S) W - t%acr W S*S - 1,by ac_rfl⟩;rw [b,a,List.range_succ_eq_map,List.range_succ_eq_map,Ga,Ba,List.cons_append];exact ⟨_,_,rfl⟩
def Ze{t:Nat}:p∈lawL W H S t↔∃c r,c<W/\r<H/\numT W S c r=t/\p=cel c r:=by
 unfold lawL PN;rw [List.mem_flatMap];constructor
 .rintro ⟨r,b,h⟩;obtain ⟨c,a,rfl⟩:=Bf.mp h;obtain ⟨e,f⟩:=JX.mp a;exact ⟨c,r,CN.mp e,CN.mp b,of_decide_eq_true f,rfl⟩
 .rintro ⟨c,r,a,b,d,rfl⟩;exact ⟨r,CN.mpr b,Bf.mpr ⟨c,JX.mpr ⟨CN.mpr a,Ew d⟩,rfl⟩⟩
def lg64{n:Nat}(h:n<=1000000):((n:Int)).natAbs.log2<9000:=Sm.log (m:=64) (Sm.of64 (by ac_rfl) (by ac_rfl)) (by decide)
def mo64{a b:Nat}(ha:a<=1000000)(hb:b<=1000000):Bj (a:Int) (b:Int)=true:=Cq (m:=64) (n:=64) (Sm.of64 (by ac_rfl) (by ac_rfl)) (Sm.of64 (by ac_rfl) (by ac_rfl)) (by decide)
def Kr(hS:0<S)(hW:0<W):1<=acr W S/\acr W S<=W:=by
 refine ⟨G7 (DR _) (Ln hS hW),?_⟩
 have:(W+S - 1)/S<W+1:=(Nat.div_lt_iff_lt_mul hS).mpr (by
  have:S<=(W+1)*S - W*S:=by rw [Dz];ac_rfl
  have:W<=W*S:=Nat.le_mul_of_pos_right W hS;rw [Dz]
  ac_rfl)
 show (W+S - 1)/S<=W;ac_rfl
def Ob{W S:Nat}(hS:0<S)(hW:0<W):((W:Int)+(S:Int) - 1)/(S:Int)=((acr W S:Nat):Int):=by
 rw [show ((W:Int)+(S:Int) - 1)=((W+S - 1:Nat):Int) by ac_rfl];exact (Int.natCast_ediv _ _).symm
structure Sz(W H S:Nat):Prop where
 w:1<=W/\W<=64
 h:1<=H/\H<=64
 s:1<=S/\S<=64
def oW{W H S t:Nat}(z:Sz W H S)(ht:t<acr W S*acr H S)(q:U (.lst ((Bm W H S t).map encP))):Tl (Nb [.int W,.int H,.int S,.int t]) U:=by
 obtain ⟨w,h,s⟩:=z;have c:0<S:=by ac_rfl
 have k:=Kr c (show 0<W by ac_rfl);have r:=Kr c (show 0<H by ac_rfl);have m:acr W S*acr H S<=64*64:=Hm (by ac_rfl) (by ac_rfl);obtain ⟨x,v⟩:=Ti c (show 0<W by ac_rfl) (show 0<H by ac_rfl) ht;unfold Bm at q;generalize ea:acr W S=a at *;have g:=lg64 (show S<=1000000 by ac_rfl);have e:=lg64 (show a<=1000000 by ac_rfl);unfold Nb;symm;unfold Jf;symm;rw [Ob c (by ac_rfl),ea];symm;rw [<-Int.natCast_emod];have A:t%a<=64:=by have:=Hk t (show 0<a by ac_rfl);ac_rfl
 have o:=mo64 (show t%a<=1000000 by ac_rfl) (show S<=1000000 by ac_rfl);symm;rw [<-Iu];symm;rw [<-Int.natCast_ediv];have p:t/a<=4096:=by have:=Nat.div_le_self t a;ac_rfl
 have u:=mo64 (show t/a<=1000000 by ac_rfl) (show S<=1000000 by ac_rfl);symm;rw [<-Iu];generalize t%a*S=left at *;generalize t/a*S=top at *;symm;symm;refine w_r2 ?_;symm;refine Yz (by ac_rfl) ?_;symm;rw [show (min ((top:Int)+(S:Int)) (H:Int) - (top:Int)).toNat=min (top+S) H - top by ac_rfl];unfold Cd;refine Ug (λi Z=>∃d b:Cl,Z=[.im (.int W),.im (.int H),.im (.int S),.im (.int t),.im (.int a),.im (.int left),.im (.int top),.ow (((List.range i).flatMap λi=>(List.range (min (left+S) W - left)).map λj=>cel (left+j) (top+i)).map encP),d,b]) ⟨_,_,rfl⟩ ?_ ?_
 .rintro i f Z ⟨d,b,rfl⟩;have l:((List.range i).flatMap λi=>(List.range (min (left+S) W - left)).map λj=>cel (left+j) (top+i)).length<=i*64:=by
   clear f
   induction i with
   | zero=>simp
   | succ n ih=>
    rw [List.range_succ,K3,Bo,Ga,List.flatMap_nil,Bl,Af,Bv];ac_rfl
  symm;refine w_r2 ?_;symm;refine Yz (by ac_rfl) ?_;symm;rw [show (min ((left:Int)+(S:Int)) (W:Int) - (left:Int)).toNat=min (left+S) W - left by ac_rfl];unfold Cd;refine Ug (λj Z=>∃b:Cl,Z=[.im (.int W),.im (.int H),.im (.int S),.im (.int t),.im (.int a),.im (.int left),.im (.int top),.ow ((((List.range i).flatMap λi=>(List.range (min (left+S) W - left)).map λj=>cel (left+j) (top+i))++(List.range j).map λj=>cel (left+j) (top+i)).map encP),.im (.int ((top:Int)+(i:Int))),b]) ⟨_,by rw [List.range_zero,List.map_nil,Bl]⟩ ?_ ?_
  .rintro j y Z ⟨b,rfl⟩;symm;refine ⟨by rw [Af,Bo,Af,Bv];ac_rfl,?_⟩;refine ⟨_,rfl,.im (.int ((left:Int)+(j:Int))),?_⟩;rw [List.range_succ];simp only [Du,Do,Ba,List.map_nil];rfl
  .rintro Z ⟨b,rfl⟩;refine ⟨_,rfl,.im (.int ((top:Int)+(i:Int))),b,?_⟩;rw [List.range_succ,K3,Ga,List.flatMap_nil,Bl]
 .rintro Z ⟨d,b,rfl⟩;symm;exact q
def bf{U:Fl->Prop}(e:Z[i]?=some (.ow xs))(h:Tl (a Z) λd=>Tl (lstO d) λys=>xs.length+ys.length<=LIM/\U (.nx (Z.set i (.ow (xs++ys))))):Tl (ext i a Z) U:=by
 obtain ⟨d,f,ys,b,c,q⟩:=h;refine Ae ?_ q;unfold ext;rw [e];show (a Z).bind _=_;rw [f];show (lstO d).bind _=_;rw [b];show (if xs.length+ys.length<=LIM then _ else _)=_
 rw [iP c]
abbrev ptC(c d:Int×Int):D:=pt8 (8*c.1+d.1) (8*c.2+d.2)
def ptsL(cells dots:List (Int×Int)):List D:=cells.flatMap λc=>dots.map (ptC c)
def dm(cells dots):(ptsL cells dots).length=cells.length*dots.length:=by
 unfold ptsL
 induction cells with
 | nil=>simp
 | cons c r ih=>rw [Ga,Bo,Af,ih,CW,Dz];ac_rfl
def yO(cells dots)(c):ptsL (cells++[c]) dots=ptsL cells dots++dots.map (ptC c):=by
 unfold ptsL;rw [K3,Ga,List.flatMap_nil,Bl]
def T7(cells:List (Int×Int)):Prop:=∀c∈cells,(0<=c.1/\c.1<=64)/\0<=c.2/\c.2<=64
def xY(hc:T7 cells)(hd:∀d∈dots,(1<=d.1/\d.1<=7)/\1<=d.2/\d.2<=7):∀p∈ptsL cells dots,PtD p:=λp a=>by
 obtain ⟨c,b,a⟩:=List.mem_flatMap.mp a;obtain ⟨d,e,rfl⟩:=Bf.mp a;have f:=hc c b;have g:=hd d e;exact ⟨_,_,rfl,by ac_rfl,by ac_rfl⟩
def p7(hc:T7 cells)(h1:cells.length<=4096)(h2:dots.length<=16)(q:U (.lst (ptsL cells dots))):Tl (Lp [.lst (cells.map encP),.lst (dots.map encP)]) U:=by
 unfold Lp;symm;refine Il (enc:=encP) (λa Z=>∃b f,Z=[.im (.lst (cells.map encP)),.im (.lst (dots.map encP)),.ow (ptsL a dots),b,f]) ⟨_,_,rfl⟩ ?_ ?_
 .rintro a c r e Z ⟨b,f,rfl⟩;have h:=hc c (by rw [<-e];simp);have g:a.length<=4096:=by
   have:=CV List.length e;rw [Bo] at this;ac_rfl
  rw [yO];unfold encP;symm;refine bf rfl ?_;symm;refine ⟨by rw [Af];ac_rfl,?_⟩;refine Dq (ptC c) (λd i=>?_) ?_
  .symm;unfold Mm;symm
  .symm;have:a.length*dots.length<=4096*16:=Hm g h2;exact ⟨by rw [dm,Af];show _<=1000000;ac_rfl,_,rfl,_,_,rfl⟩
 .rintro Z ⟨b,f,rfl⟩;symm;exact q
def Xb:∀{l m:List Int},l.Perm m->l.Pairwise (·<=·)->m.Pairwise (·<=·)->l=m
 | [],_,h,_,_=>h.nil_eq
 | _::_,[],h,_,_=>aB h.symm.nil_eq (by simp)
 | a::l,b::m,h,h1,h2=>by
  have c:=FQ.mp h1;have d:=FQ.mp h2;have e:a=b:=by
   have ha:a∈b::m:=h.mem_iff.mp (BR ..);have hb:b∈a::l:=h.mem_iff.mpr (BR ..);rcases Aj.mp ha with e | ha
   .exact e
   .rcases Aj.mp hb with e | hb
    .exact e.symm
    .have:=c.1 b hb;have:=d.1 a ha;ac_rfl
  subst e;rw [Xb (List.Perm.cons_inv h) c.2 d.2]
abbrev rgI(m:Nat):List Int:=(List.range m).map λk:Nat=>(k:Int)
def xG(m):(rgI m).Pairwise (·<=·):=by
 rw [List.pairwise_map];exact List.pairwise_lt_range.imp λh=>by ac_rfl
def fG{m:Nat}(h:m<=10000):bLR [.int m]=.ok (.lst ((rgI m).map .int)):=by
 show (if 0<=(m:Int)/\(m:Int)<=10000 then Res.ok (D.lst ((List.range (m:Int).toNat).map λk:Nat=>D.int k)) else .bad)=_
 rw [iP ⟨by ac_rfl,by ac_rfl⟩,DN];rfl
def cL:∀ns,FZ (ns.map .int)=.ok ns
 | []=>rfl
 | n::r=>by
  show (FZ (r.map .int)).bind _=_;rw [cL r];rfl
def pR{m:Nat}{os:List Int}(h:os.Perm (rgI m))(hm:m<=60):Om [.lst (os.map .int)]=.ok (.lst ((rgI m).map .int)):=by
 show (FZ (os.map .int)).bind _=_;rw [cL];have a:(os.map D.int).length<64:=by
  have:=h.length_eq;rw [Af,Bv] at this;rw [Af];ac_rfl
 show (if (os.map D.int).length<64 then Res.ok (D.lst ((sortI os).map .int)) else .bad)=_
 rw [iP a,Xb ((sortI_perm os).trans h) (UV os) (xG m)]
def gM{U:Fl->Prop}(e1:Z[i]?=some (.ow xs))(e2:Z[j]?=some (.ow ys))(hx:xs.length<10000)(h:Tl (me Z) λd=>∃k v,d=.int k/\k<10000/\ys[k]?=some v/\U (.nx ((Z.set j (.ow (ys.eraseIdx k))).set i (.ow (xs++[v]))))):Tl (appP i j me Z) U:=by
 obtain ⟨d,b,k,v,rfl,e,a,q⟩:=h;refine Ae ?_ q;have f:=(Cm.mp a).1;unfold appP;rw [e1,e2,b]
 show (match (if 0<=(k:Int)/\(k:Int)<ys.length/\(k:Int)<10000 then some (k:Int).toNat else none) with
  | some c=>popP i j Z xs ys c
  | none=>.bad)=_
 rw [iP ⟨by ac_rfl,by ac_rfl,by ac_rfl⟩];show popP i j Z xs ys k=_;unfold popP;rw [a];show (if xs.length<10000 then _ else _)=_
 rw [iP hx]
def Zt(f:α->β):∀(l:List α) (k:Nat),(l.map f).eraseIdx k=(l.eraseIdx k).map f
 | [],_=>rfl
 | _::_,0=>rfl
 | a::r,k+1=>by show f a::(r.map f).eraseIdx k=_;rw [Zt f r k];rfl
def Xh:∀{l:List α} {k:Nat} (h:k<l.length),(l[k]::l.eraseIdx k).Perm l
 | _::_,0,_=>.refl _
 | a::r,k+1,h=>((List.Perm.swap a _ _).trans ((Xh (l:=r) (k:=k) (by simpa using h)).cons a))
def Zmx{U:D->Prop}{os:List Int}{m:Nat}(h:os.Perm (rgI m))(hm:m<=60)(q:U (.lst (os.map .int))):Tl (OD [.lst (os.map .int),.int m]) U:=by
 have b:os.length<=60:=by
  have:=h.length_eq;rw [Af,Bv] at this;ac_rfl
 unfold OD;symm;refine ⟨by rw [Af];ac_rfl,?_⟩;refine Dq (λ_:Int=>D.bl true) (λx _=>?_) ?_
 .symm;refine Wa ?_;rfl
 symm;refine eF (λ_ _=>rfl) ?_;symm;refine Ae (pR h hm) ?_;symm;refine Ae (fG (by ac_rfl)) ?_;symm;refine Ae (Xr ?_) ?_
 .have:∀l:List Int,Bk 49 (l.map .int)=true:=λl=>by
   induction l with
   | nil=>rfl
   | cons a r ih=>show (plain 49 (.int a)&&Bk 49 (r.map .int))=true;rw [ih];rfl
  exact this _
 symm;exact q
def vI(xs:List D)(ha:a<=b)(hb:b<=xs.length):cutL xs (some (a:Int)) (some (b:Int))=(xs.drop a).take (b - a):=by
 unfold cutL cutAt;have c:¬((a:Int)<0):=by ac_rfl
 have d:¬((b:Int)<0):=by ac_rfl
 simp only [c,d,CJ];rw [show min (a:Int).toNat xs.length=a by ac_rfl,show min (b:Int).toNat xs.length=b by ac_rfl]
def rG{U:Fl×List (List D)->Prop}{cs:List D}(h:Tl (mv Z) λw=>U (.nx Z,dss.set r (cs.set k w)))(h2:ma Z=.ok (.int r))(h3:mb Z=.ok (.int k))(hr:dss[r]?=some cs)(hk:k<cs.length):Tl (Ip mv ma mb Z dss) U:=by
 obtain ⟨w,e,q⟩:=h;refine Ae ?_ q;unfold Ip;rw [e,h2,h3];show optY Z (setR dss w (r:Int) (k:Int))=_;unfold setR;rw [O7 (Cm.mp hr).1];show optY Z ((dss[r]?).bind _)=_;rw [hr];show optY Z ((ixP cs.length (k:Int)).bind _)=_;rw [O7 hk];rfl
def pcB:MY:=sqY (lft (st 7 (cut (v 2) (pso (o2 Aw (v 5) (v 4))) (pso (o2 Aw (o2 An (v 5) (c (.int 1))) (v 4))))))
  (Ip (on K5 (Aa (v 7) (Aa (v 3) Ab))) (o2 dIx (v 6) (c (.int 1))) (o2 dIx (v 6) (c (.int 0))))
def pcL(F:Nat->Nat->Rat)(W H:Nat):List (List D):=(List.range H).map λr=>(List.range W).map λc=>frD (F c r)
def rO(F:Nat->Nat->Rat)(W H:Nat):D.lst ((pcL F W H).map .lst)=picP F W H:=by
 unfold pcL picP rowP;rw [DN];rfl
def qX{F:Nat->Nat->Rat}{W H r:Nat}(h:r<H):(pcL F W H)[r]?=some ((List.range W).map λc=>frD (F c r)):=by
 unfold pcL;rw [By,QT h];rfl
def upF(F:Nat->Nat->Rat)(c r:Nat)(q:Rat):Nat->Nat->Rat:=λb a=>if b=c/\a=r then q else F b a
def Y7{α:Type}{f:Nat->α}{x:α}{n k:Nat}:((List.range n).map f).set k x=(List.range n).map λi=>if i=k then x else f i:=by
 refine List.ext_getElem? λi=>?_;rw [List.getElem?_set];rw [By,By];by_cases hi:i<n
 .rw [QT hi];by_cases e:k=i
  .subst e;rw [iP rfl,iP (by rw [Af,Bv];exact hi)];show _=some (if k=k then x else f k)
   rw [iP rfl]
  .rw [iN e];show some (f i)=some (if i=k then x else f i)
   rw [iN λz=>e z.symm]
 .have a:(List.range n)[i]?=none:=List.getElem?_eq_none (by rw [Bv];ac_rfl);rw [a];by_cases e:k=i
  .subst e;rw [iP rfl,iN (by rw [Af,Bv];exact hi)];rfl
  .rw [iN e];rfl
def wD{F:Nat->Nat->Rat}{W H c r:Nat}{q:Rat}:(pcL F W H).set r (((List.range W).map λc=>frD (F c r)).set c (frD q))=pcL (upF F c r q) W H:=by
 unfold pcL;rw [Y7,Y7];refine Fp λb _=>?_;by_cases e:b=r
 .subst e;rw [iP rfl];refine Fp λa _=>?_;unfold upF;by_cases e2:a=c
  .rw [iP e2,iP ⟨e2,rfl⟩]
  .rw [iN e2,iN λz=>e2 z.1]
 .rw [iN e];refine Fp λa _=>?_;unfold upF;rw [iN λz=>e z.2]
def pntF(F:Nat->Nat->Rat)(V:Int×Int->Rat)(cs:List (Int×Int)):Nat->Nat->Rat:=λc r=>if cel c r∈cs then V (cel c r) else F c r
def gj{F:Nat->Nat->Rat}{V:Int×Int->Rat}{x:Int×Int}{cs:List (Int×Int)}(h:0<=x.1/\0<=x.2):pntF (upF F x.1.toNat x.2.toNat (V x)) V cs=pntF F V (x::cs):=by
 funext c r;unfold pntF;by_cases m:cel c r∈cs
 .rw [iP m,iP (BP _ m)]
 .rw [iN m];unfold upF;by_cases e:cel c r=x
  .subst e;rw [iP ⟨by simp,by simp⟩,iP BR]
  .have a:¬(c=x.1.toNat/\r=x.2.toNat):=λz=>e (by
    obtain ⟨f,b⟩:=z;obtain ⟨d,g⟩:=x;subst f;subst b;show ((d.toNat:Int),(g.toNat:Int))=_
    rw [IW h.1,IW h.2])
   rw [iN a,iN λz=>by
    rcases Aj.mp z with z | z
    .exact e z
    .exact m z]
def t7{W H n N:Nat}{g:Rat}{ls:List (List Sg)}{cD:D}(hW:W<=64)(hH:H<=64)(hg:Bq 300 g)(hl:∀l∈ls,(∀s∈l,GS s)/\l.length<=n)(hn:n<=12)(h1:1<=k)(h16:k<=16)(hk:k*(300+170*n)+10<=8900)(hN:ls.length=N*k)(hN2:N<=4096){V:Int×Int->Rat} :
  ∀(cs:List (Int×Int)) (j:Nat) (F:Nat->Nat->Rat) (v5 v6 v7:Cl),(∀i c,cs[i]?=some c->Hr (((ls.drop ((j+i)*k)).take k).map λl=>colQ g l)=V c)->(∀c∈cs,(0<=c.1/\c.1<(W:Int))/\0<=c.2/\c.2<(H:Int))->j+cs.length=N ->
   ∃(w5 w6 w7:Cl),DP (gU 2 (gs1 (gN 5) (gs1 (gN 6) gs0))) pcB (numbered j (cs.map encP)) [.no,.im cD,.im (.lst (ls.map λl=>D.lst (l.map encS))),.im (frD g),.im (.int k),v5,v6,v7] (pcL F W H)=.ok (.nx [.no,.im cD,.im (.lst (ls.map λl=>D.lst (l.map encS))),.im (frD g),.im (.int k),w5,w6,w7],pcL (pntF F V cs) W H):=by
 intro cs
 induction cs with
 | nil=>exact λj F v5 v6 v7 _ _ _=>⟨v5,v6,v7,rfl⟩
 | cons c cs ih=>
  intro j F v5 v6 v7 o m y;rw [CW] at y;have a:=m c (BR ..);have z:j*k+k<=N*k:=by
   have:=Km k (show j+1<=N by ac_rfl);rwa [Dz] at this
  have B:j*k<=4096*16:=Hm (by ac_rfl) h16;have C:=mo64 (show j<=1000000 by ac_rfl) (show k<=1000000 by ac_rfl);have A:=mo64 (show j+1<=1000000 by ac_rfl) (show k<=1000000 by ac_rfl);have v:=qX (F:=F) (W:=W) (show c.2.toNat<H by ac_rfl);have e:=o 0 c rfl;rw [Nat.add_zero] at e;have d:pcB [.no,.im cD,.im (.lst (ls.map λl=>D.lst (l.map encS))),.im (frD g),.im (.int k),.im (.int j),.im (encP c),v7] (pcL F W H)=.ok (.nx [.no,.im cD,.im (.lst (ls.map λl=>D.lst (l.map encS))),.im (frD g),.im (.int k),.im (.int j),.im (encP c),.im (.lst (((ls.drop (j*k)).take k).map λl=>D.lst (l.map encS)))],pcL (upF F c.1.toNat c.2.toNat (V c)) W H):=by
   refine Tl.eq ?_;unfold pcB;refine Eg (Eo ?_);symm;rw [<-Iu,show (j:Int)+1=((j+1:Nat):Int) by ac_rfl,<-Iu];rw [vI _ (show j*k<=(j+1)*k by rw [Dz];ac_rfl) (by rw [Af,hN,Dz];exact z)];rw [show (j+1)*k - j*k=k by rw [Dz];ac_rfl,<-Ji,<-Je];have b:∀l∈(ls.drop (j*k)).take k,l∈ls:=λl h=>List.mem_of_mem_drop (List.mem_of_mem_take h);have p:((ls.drop (j*k)).take k).length=k:=by rw [Ie,MK,hN];ac_rfl
   generalize (ls.drop (j*k)).take k=L at b p e ⊢;refine Em (rG (r:=c.2.toNat) (k:=c.1.toNat) (cs:=(List.range W).map λi=>frD (F i c.2.toNat)) ?_ ?_ ?_ v (by rw [Af,Bv];ac_rfl))
   .symm;refine dX (n:=n) hg (λl h=>hl l (b l h)) hn (by ac_rfl) (by ac_rfl) (by rw [p];exact hk) ?_;rw [e,wD]
   .show Res.ok (D.int c.2)=_;rw [IW a.2.1]
   .show Res.ok (D.int c.1)=_;rw [IW a.1.1]
  obtain ⟨w,t,u,q⟩:=ih (j+1) (upF F c.1.toNat c.2.toNat (V c)) (.im (.int j)) (.im (encP c)) (.im (.lst (((ls.drop (j*k)).take k).map λl=>D.lst (l.map encS)))) (λi x f=>by
   have:=o (i+1) x f
   rwa [show j+(i+1)=j+1+i by ac_rfl] at this) (λx f=>m x (BP _ f)) (by ac_rfl)
  rw [gj ⟨a.1.1,a.2.1⟩] at q;refine ⟨w,t,u,?_⟩;show (pcB [.no,.im cD,.im (.lst (ls.map λl=>D.lst (l.map encS))),.im (frD g),.im (.int k),.im (.int j),.im (encP c),v7] (pcL F W H)).bind (Ng (DP _ pcB (numbered (j+1) (cs.map encP))))=_;rw [d];exact q
def uq{W H n:Nat}{g:Rat}{ls:List (List Sg)}{cells:List (Int×Int)}{F:Nat->Nat->Rat}{V:Int×Int->Rat}(hW:W<=64)(hH:H<=64)(hg:Bq 300 g)(hl:∀l∈ls,(∀s∈l,GS s)/\l.length<=n)(hn:n<=12)(h1:1<=k)(h16:k<=16)(hk:k*(300+170*n)+10<=8900)(hN:ls.length=cells.length*k)(hN2:cells.length<=4096)(hne:cells≠[])(hc:∀c∈cells,(0<=c.1/\c.1<(W:Int))/\0<=c.2/\c.2<(H:Int))(hV:∀i c,cells[i]?=some c->Hr (((ls.drop (i*k)).take k).map λl=>colQ g l)=V c) :
  ∃(q:Ev),QL [.no,.im (.lst (cells.map encP)),.im (.lst (ls.map λl=>D.lst (l.map encS))),.im (frD g)] (pcL F W H)=.ok (q,pcL (pntF F V cells) W H):=by
 obtain ⟨m,j,h,e⟩:=t7 (cD:=.lst (cells.map encP)) hW hH hg hl hn h1 h16 hk hN hN2 (V:=V) cells 0 F .no .no .no (λi c d=>by rw [KQ];exact hV i c d) hc (by ac_rfl);have a:0<cells.length:=List.length_pos_iff.mpr hne;have b:=lg64 (show cells.length<=1000000 by ac_rfl);have f:o2 Bb (on bLen (Aa (v 2) Ab)) (on bLen (Aa (v 1) Ab)) [.no,.im (.lst (cells.map encP)),.im (.lst (ls.map λl=>D.lst (l.map encS))),.im (frD g),.no,.no,.no,.no]=.ok (.int k):=by
  refine Tl.eq ?_;show Tl (Bb (.int ((ls.map λl=>D.lst (l.map encS)).length:Int)) (.int ((cells.map encP).length:Int))) _;rw [Af,Af,hN];refine w_div (by ac_rfl) b ?_;rw [Iu,Int.mul_ediv_cancel_left _ (by ac_rfl)]
 refine ⟨[.no,.im (.lst (cells.map encP)),.im (.lst (ls.map λl=>D.lst (l.map encS))),.im (frD g)],?_⟩;show ((lft (st 4 (o2 Bb (on bLen (Aa (v 2) Ab)) (on bLen (Aa (v 1) Ab)))) [.no,.im (.lst (cells.map encP)),.im (.lst (ls.map λl=>D.lst (l.map encS))),.im (frD g),.no,.no,.no,.no] (pcL F W H)).bind (goY (forY _ _ pcB))).bind (endY [0] _)=_
 rw [show lft (st 4 (o2 Bb (on bLen (Aa (v 2) Ab)) (on bLen (Aa (v 1) Ab)))) [.no,.im (.lst (cells.map encP)),.im (.lst (ls.map λl=>D.lst (l.map encS))),.im (frD g),.no,.no,.no,.no] (pcL F W H)=.ok (.nx [.no,.im (.lst (cells.map encP)),.im (.lst (ls.map λl=>D.lst (l.map encS))),.im (frD g),.im (.int k),.no,.no,.no],pcL F W H) by
  unfold lft st;rw [f]
  rfl]
 show (DP _ pcB (numbered 0 (cells.map encP)) [.no,.im (.lst (cells.map encP)),.im (.lst (ls.map λl=>D.lst (l.map encS))),.im (frD g),.im (.int k),.no,.no,.no] (pcL F W H)).bind (endY [0] _)=_;rw [e];rfl
def encT(tile:Int)(t:Nat×Rat×Rat):D:=.tup [.int tile,.int (t.1:Int),frD t.2.1,frD t.2.2]
def aF{dots:List (Int×Int)}:∀{cells:List (Int×Int)} {i:Nat} {c:Int×Int},cells[i]?=some c->((ptsL cells dots).drop (i*dots.length)).take dots.length=dots.map (ptC c)
 | [],i,c,h=>by simp at h
 | a::r,0,c,h=>by
  cases (show some a=some c from h);unfold ptsL;rw [Nat.zero_mul,List.drop_zero,Ga,List.take_append_of_le_length (by rw [Af];exact Al _)];exact Mg (by rw [Af];exact Al _)
 | a::r,i+1,c,h=>by
  have ih:=aF (dots:=dots) (cells:=r) (i:=i) (c:=c) h;unfold ptsL at ih ⊢;rw [Ga,Dz,Gi,<-List.drop_drop];rw [List.drop_left' (by rw [Af])];exact ih
def celV(ts:List D)(g:Rat)(dots:List (Int×Int))(c:Int×Int):Rat:=Hr (dots.map λd=>colQ g (sgs ts (ptC c d)))
def fQ(ts:List D)(g:Rat)(dots:List (Int×Int))(c r:Nat):celV ts g dots (cel c r)=cellQ ts g dots c r:=rfl
def jK{ts:List D}{g:Rat}{cells dots:List (Int×Int)}(hp:∀p∈ptsL cells dots,PtD p)(ht:∀t∈ts,Thg t){i:Nat}{c:Int×Int}(h:cells[i]?=some c) :
  Hr (((((ptsL cells dots).map λp=>sgs (kptL (ptsL cells dots) ((ptsL cells dots).map λ_=>none) ts) p).drop (i*dots.length)).take dots.length).map λl=>colQ g l)=celV ts g dots c:=by
 rw [<-Ji,<-Je,aF h,DN,DN];unfold celV;congr 1;refine Fp λd a=>?_;exact ZnU hp ht g (List.mem_flatMap.mpr ⟨c,G5 h,Bf.mpr ⟨d,a,rfl⟩⟩)
def nZ(h:Tl (m (ev0 n ds)) U):Tl (fnR n m ds) U:=h
def LR{k:MS}(h:Tl (k Z) λf=>∃Z',f=.nx Z'/\Tl (m Z') U):Tl (soR k m Z) U:=Am (h.mono λf ⟨_,e,q⟩=>e▸q)
def Z6(f:Nat->Nat->α):∀i,((List.range i).flatMap λi=>(List.range n).map (f i)).length=i*n
 | 0=>by simp
 | i+1=>by
  rw [List.range_succ,K3,Bo,Z6 f i,Ga,List.flatMap_nil,Bl,Af,Bv,Dz]
structure Rh(W H:Nat)(cells:List (Int×Int)):Prop where
 ne:cells≠[]
 len:cells.length<=4096
 ok:∀c∈cells,(0<=c.1/\c.1<(W:Int))/\0<=c.2/\c.2<(H:Int)
def jF{t:Nat}(z:Sz W H S)(ht:t<acr W S*acr H S):Rh W H (Bm W H S t):=by
 obtain ⟨w,h,s⟩:=z;refine ⟨λe=>?_,?_,λc a=>?_⟩
 .obtain ⟨p,r,d⟩:=n8 (by ac_rfl) (by ac_rfl) (by ac_rfl) ht;rw [e] at d;cases d
 .unfold Bm;rw [Z6 λi j=>cel (t%acr W S*S+j) (t/acr W S*S+i)];exact Hm (show _<=64 by ac_rfl) (show _<=64 by ac_rfl)
 .rw [<-fK (by ac_rfl) (by ac_rfl) (by ac_rfl) ht] at a;obtain ⟨f,b,g,k,_,rfl⟩:=Ze.mp a;show (0<=(f:Int)/\(f:Int)<W)/\0<=(b:Int)/\(b:Int)<H;exact ⟨⟨by ac_rfl,by ac_rfl⟩,by ac_rfl,by ac_rfl⟩
def Rh.cel(h:Rh W H cells)(hW:W<=64)(hH:H<=64):T7 cells:=λc a=>by
 have:=h.ok c a;exact ⟨by ac_rfl,by ac_rfl⟩
def dueT(ts:List D)(cells dots:List (Int×Int))(tile:Int):List D:=(Cw (ptsL cells dots) 0 ((ptsL cells dots).map λ_=>none) ts).map (encT tile)
def Qn(ps):∀ts n L,(Cw ps n L ts).length<=ts.length
 | [],_,_=>Al _
 | d::r,n,L=>by
  show (match farO L with | some f=>if Be d<f then Cw ps (n+1) (updL (glD d) (ps.map (so · d)) L) r else (n,Be d,f)::Cw ps (n+1) L r | none=>Cw ps (n+1) (updL (glD d) (ps.map (so · d)) L) r).length<=r.length+1
  have a:=Qn ps r (n+1) (updL (glD d) (ps.map (so · d)) L);have b:=Qn ps r (n+1) L;cases farO L with
  | none=>exact Nat.le_succ_of_le a
  | some f=>
   show (if Be d<f then Cw ps (n+1) (updL (glD d) (ps.map (so · d)) L) r else (n,Be d,f)::Cw ps (n+1) L r).length<=_
   split
   .exact Nat.le_succ_of_le a
   .rw [CW];ac_rfl
def uJ:(dueT ts cells dots tile).length<=ts.length:=by
 unfold dueT;rw [Af];exact Qn _ _ _ _
def sZ{U:Fl×List (List D)->Prop}(h1:m Z=.ok q)(h2:f q dss=.ok (q',dss'))(h:U (.nx Z,dss')):Tl (GC f l none m Z dss) U:=by
 refine Ae ?_ h;unfold GC;rw [h1];show (noEx (f q dss)).bind (outY Z l none)=_;rw [h2];rfl
def ptB:MY:=sqY (lft (st 13 (on Nb (Aa (v 1) (Aa (v 2) (Aa (v 3) (Aa (v 12) Ab)))))))
  (sqY (lft (st 14 (on NQ (Aa (v 0) (Aa (on Lp (Aa (v 13) (Aa (v 8) Ab))) Ab)))))
  (sqY (GC QL 0 none (rRg (rIm (v 13) (rIm (o2 dIx (v 14) (c (.int 0))) (rIm (v 9) rNil)))))
  (lft (ext 11 (comp (iv (o2 dIx (v 14) (c (.int 1)))) 1 [12] (gN 0) yes (mtp (Aa (v 1) (Aa (o2 dIx (v 0) (c (.int 0))) (Aa (o2 dIx (v 0) (c (.int 1))) (Aa (o2 dIx (v 0) (c (.int 2))) Ab))))))))))
section
variable{ts:List D}{dots:List (Int×Int)}{W H S:Nat}{a4 a5 a6 a7:D}
def lE{t:Nat}{F:Nat->Nat->Rat}(hts:∀t∈ts,Thg t)(hn:ts.length<=12)(hd:∀d∈dots,(1<=d.1/\d.1<=7)/\1<=d.2/\d.2<=7)(h1:1<=dots.length)(h2:dots.length<=3)(z:Sz W H S)(ht:t<acr W S*acr H S)(ho:out.length<=100000) :
  ∃w13 w14,ptB [.im (.lst ts),.im (.int W),.im (.int H),.im (.int S),.im a4,.im a5,.im a6,.im a7,.im (.lst (dots.map encP)),.im (frD 0),.no,.ow out,.im (.int t),v13,v14] (pcL F W H)=.ok (.nx [.im (.lst ts),.im (.int W),.im (.int H),.im (.int S),.im a4,.im a5,.im a6,.im a7,.im (.lst (dots.map encP)),.im (frD 0),.no,.ow (out++dueT ts (Bm W H S t) dots (t:Int)),.im (.int t),w13,w14],pcL (pntF F (celV ts 0 dots) (Bm W H S t)) W H):=by
 have T:=jF z ht;have o:=T.cel z.w.2 z.h.2;have m:=xY o hd;have a:=dm (Bm W H S t) dots;have A:ptsL (Bm W H S t) dots≠[]:=λe=>by
  rw [e] at a;have:=List.length_pos_iff.mpr T.ne;have:=Hm this h1;simp only [List.length_nil] at a;ac_rfl
 have G:(ptsL (Bm W H S t) dots).length<=12288:=by
  rw [a];exact Hm T.len h2
 obtain ⟨ls,b,s,q,r⟩:=ZlN m A (by ac_rfl) hts (by ac_rfl);rw [show ((ptsL (Bm W H S t) dots).map λ_=>([]:List Sg))=(ptsL (Bm W H S t) dots).map λp=>sgs [] p from rfl,Zg] at b;have B:Bq 300 (0:Rat):=My.b0.mono (by decide)
 obtain ⟨C,f⟩:=uq (F:=F) (V:=celV ts 0 dots) (W:=W) (H:=H) (k:=dots.length) (n:=ts.length) (g:=0) (ls:=ls) (cells:=Bm W H S t) z.w.2 z.h.2 B q hn h1 (by ac_rfl) (by
  have:dots.length*(300+170*ts.length)<=3*(300+170*12):=Hm h2 (by ac_rfl)
  ac_rfl) (by rw [s,a]) T.len T.ne T.ok (λi c u=>by rw [b];exact jK m hts u)
 generalize pcL (pntF F (celV ts 0 dots) (Bm W H S t)) W H=dss' at f ⊢;generalize pcL F W H=dss at f ⊢;clear b;have j:Tl (ptB [.im (.lst ts),.im (.int W),.im (.int H),.im (.int S),.im a4,.im a5,.im a6,.im a7,.im (.lst (dots.map encP)),.im (frD 0),.no,.ow out,.im (.int t),v13,v14] dss) λx=>∃w13 w14,x=(.nx [.im (.lst ts),.im (.int W),.im (.int H),.im (.int S),.im a4,.im a5,.im a6,.im a7,.im (.lst (dots.map encP)),.im (frD 0),.no,.ow (out++dueT ts (Bm W H S t) dots (t:Int)),.im (.int t),w13,w14],dss'):=by
  unfold ptB;refine Eg (Eo ?_);symm;refine oW z ht ?_;refine Em (Eg (Eo ?_));symm;refine p7 o T.len (by ac_rfl) ?_;symm;refine Ae r ?_;refine Em (Eg ?_);have y:rRg (rIm (v 13) (rIm (o2 dIx (v 14) (c (.int 0))) (rIm (v 9) rNil))) [.im (.lst ts),.im (.int W),.im (.int H),.im (.int S),.im a4,.im a5,.im a6,.im a7,.im (.lst (dots.map encP)),.im (frD 0),.no,.ow out,.im (.int t),.im (.lst ((Bm W H S t).map encP)),.im (.tup [.lst (ls.map λl=>D.lst (l.map encS)),.lst ((Cw (ptsL (Bm W H S t) dots) 0 ((ptsL (Bm W H S t) dots).map λ_=>none) ts).map encG)])]=.ok [.no,.im (.lst ((Bm W H S t).map encP)),.im (.lst (ls.map λl=>D.lst (l.map encS))),.im (frD 0)]:=rfl;refine sZ y f ?_;refine Em (Eo (bf rfl ?_));have E:=Qn (ptsL (Bm W H S t) dots) ts 0 ((ptsL (Bm W H S t) dots).map λ_=>none);symm;refine ⟨by rw [Af];ac_rfl,?_⟩;refine Dq (enc:=encG) (encT (t:Int)) (λg _=>?_) ?_
  .unfold encG;symm;rfl
  .symm;exact ⟨by rw [Af];show _<=1000000;ac_rfl,_,_,rfl⟩
 obtain ⟨x,e,w13,w14,rfl⟩:=j;exact ⟨w13,w14,e⟩
def dueA(ts:List D)(dots:List (Int×Int))(W H S:Nat)(os:List Int):List D:=os.flatMap λo=>dueT ts (Bm W H S o.toNat) dots o
def tlsF(ts:List D)(dots:List (Int×Int))(W H S:Nat)(F:Nat->Nat->Rat)(os:List Int):Nat->Nat->Rat:=os.foldl (λF o=>pntF F (celV ts 0 dots) (Bm W H S o.toNat)) F
def Zwh(hts:∀t∈ts,Thg t)(hn:ts.length<=12)(hd:∀d∈dots,(1<=d.1/\d.1<=7)/\1<=d.2/\d.2<=7)(h1:1<=dots.length)(h2:dots.length<=3)(z:Sz W H S) :
  ∀os out F v12 v13 v14,(∀o∈os,0<=o/\o.toNat<acr W S*acr H S)->out.length+os.length*12<=100000 ->
   ∃w12 w13 w14,DP (gN 12) ptB (os.map .int) [.im (.lst ts),.im (.int W),.im (.int H),.im (.int S),.im a4,.im a5,.im a6,.im a7,.im (.lst (dots.map encP)),.im (frD 0),.no,.ow out,v12,v13,v14] (pcL F W H)=.ok (.nx [.im (.lst ts),.im (.int W),.im (.int H),.im (.int S),.im a4,.im a5,.im a6,.im a7,.im (.lst (dots.map encP)),.im (frD 0),.no,.ow (out++dueA ts dots W H S os),w12,w13,w14],pcL (tlsF ts dots W H S F os) W H):=by
 intro os
 induction os with
 | nil=>
  intro out F v12 v13 v14 _ _;refine ⟨v12,v13,v14,?_⟩;show Res.ok _=_;rw [show dueA ts dots W H S []=[] from rfl,Bl];rfl
 | cons o os ih=>
  intro out F v12 v13 v14 a k;obtain ⟨i,g⟩:=a o (BR ..);rw [CW] at k;have l:=uJ (ts:=ts) (cells:=Bm W H S o.toNat) (dots:=dots) (tile:=o);obtain ⟨w13,w14,e⟩:=lE (F:=F) (a4:=a4) (a5:=a5) (a6:=a6) (a7:=a7) (out:=out) (v13:=v13) (v14:=v14) hts hn hd h1 h2 z g (by ac_rfl);rw [IW i] at e;obtain ⟨f,c,b,j⟩:=ih (out++dueT ts (Bm W H S o.toNat) dots o) (pntF F (celV ts 0 dots) (Bm W H S o.toNat)) (.im (.int o)) w13 w14 (λx h=>a x (BP _ h)) (by rw [Bo];ac_rfl);refine ⟨f,c,b,?_⟩;show (ptB [.im (.lst ts),.im (.int W),.im (.int H),.im (.int S),.im a4,.im a5,.im a6,.im a7,.im (.lst (dots.map encP)),.im (frD 0),.no,.ow out,.im (.int o),v13,v14] (pcL F W H)).bind (Ng (DP _ ptB (os.map .int)))=_;rw [e];show DP _ ptB (os.map .int) _ (pcL (pntF F (celV ts 0 dots) (Bm W H S o.toNat)) W H)=_;rw [j,Do];rfl
end
def Yv{ts:List D}{dots:List (Int×Int)}{W H S c r:Nat}:∀(os:List Int) (F:Nat->Nat->Rat),(F c r=celV ts 0 dots (cel c r)\/∃o∈os,cel c r∈Bm W H S o.toNat)->tlsF ts dots W H S F os c r=celV ts 0 dots (cel c r)
 | [],F,h=>by
  rcases h with h | ⟨_,h,_⟩
  .exact h
  .exact (CZ h).elim
 | o::os,F,h=>by
  show tlsF ts dots W H S (pntF F (celV ts 0 dots) (Bm W H S o.toNat)) os c r=_;refine Yv os _ ?_;by_cases m:cel c r∈Bm W H S o.toNat
  .exact .inl (by unfold pntF;rw [iP m])
  .rcases h with h | ⟨o',ho,hm⟩
   .exact .inl (by unfold pntF;rw [iN m];exact h)
   .rcases Aj.mp ho with rfl | ho
    .exact (m hm).elim
    .exact .inr ⟨o',ho,hm⟩
def tO{W H S c r:Nat}(hS:0<S)(hc:c<W)(hr:r<H):numT W S c r<acr W S*acr H S:=by
 have a:=Ln hS hc;have b:=Ln hS hr;unfold numT;have:(r/S+1)*acr W S<=acr H S*acr W S:=Km _ b;rw [Dz] at this;rw [Nat.mul_comm (acr W S) (acr H S)];ac_rfl
def ZkR{w:Nat}(hw:1<=w/\w<=64)(q:U .non):Tl (QG [.int w]) U:=by
 unfold QG;symm;refine NK (by ac_rfl) ?_;symm;exact q
def cZ(hW:1<=W)(hS:1<=S/\S<=64)(q:U (.int ((acr W S:Nat):Int))):Tl (Jf [.int W,.int S]) U:=by
 have a:=lg64 (show S<=1000000 by ac_rfl);unfold Jf;symm;rw [Ob (by ac_rfl) (by ac_rfl)];exact q
def jf{k:MY}(h:Tl (regY i me k Z) λf=>∃d,f=.rt d/\U d):Tl (regT i me k Z) U:=by
 obtain ⟨f,e,d,rfl,q⟩:=h;refine Ae ?_ q;unfold regT;rw [e];rfl
def Zn(h:noLs row=true):∀l:List α,FT (l.map λ_=>D.lst row)=some (l.map λ_=>row)
 | []=>rfl
 | _::r=>by
  show (if noLs row=true then (FT (r.map λ_=>D.lst row)).bind λq=>some (row::q) else none)=_
  rw [iP h,Zn h r];rfl
def YB(x:D):∀n,(List.replicate n [x]).flatten=List.replicate n x
 | 0=>rfl
 | n+1=>by rw [Gk,Ir,YB x n];rfl
def ZoY(n):noLs (List.replicate n (frD 0))=true:=by
 induction n with
 | zero=>rfl
 | succ n ih=>rw [Gk];show (noL (frD 0)&&noLs _)=true;rw [ih];rfl
def ZnY{ts:List D}{dots:List (Int×Int)}{W H S:Nat}{os:List Int}(hts:∀t∈ts,Thg t)(hn:ts.length<=12)(hd:Dots dots)(h1:1<=dots.length)(h2:dots.length<=3)(z:Sz W H S){sp:D}(hsp:Gs [sp]=.ok (.lst (dots.map encP)))(hp:os.Perm (rgI (acr W S*acr H S)))(hm:acr W S*acr H S<=60) :
  Ha [.lst ts,.int W,.int H,.int S,.lst (os.map .int),sp,.non]=.ok (.tup [picP (cellQ ts 0 dots) W H,.lst (dueA ts dots W H S os)]):=by
 have G:os.length<=60:=by
  have:=hp.length_eq;rw [Af,Bv] at this;ac_rfl
 have A:∀o∈os,0<=o/\o.toNat<acr W S*acr H S:=λo B=>by
  obtain ⟨k,y,rfl⟩:=Bf.mp (hp.mem_iff.mp B);exact ⟨by ac_rfl,by have:=CN.mp y;ac_rfl⟩
 have E:=Kr (show 0<S by have:=z.s;ac_rfl) (show 0<W by have:=z.w;ac_rfl);have J:=Kr (show 0<S by have:=z.s;ac_rfl) (show 0<H by have:=z.h;ac_rfl);have C:=mo64 (show acr W S<=1000000 by have:=z.w;ac_rfl) (show acr H S<=1000000 by have:=z.h;ac_rfl);have m:((List.range H).map λ_=>List.replicate W (frD 0))=pcL (λ_ _=>0) W H:=by
  unfold pcL;refine Fp λr _=>?_;refine List.ext_getElem? λi=>?_;rw [Ib,By];by_cases hi:i<W
  .rw [iP hi,QT hi];rfl
  .rw [iN hi,List.getElem?_eq_none (by rw [Bv];ac_rfl)];rfl
 obtain ⟨j,f,d,e⟩:=Zwh (a4:=.lst (os.map .int)) (a5:=sp) (a6:=.non) (a7:=.lst (os.map .int)) hts hn hd.1 h1 h2 z os [] (λ_ _=>0) .no .no .no A (by rw [List.length_nil];ac_rfl);have p:picP (cellQ ts 0 dots) W H=.lst ((pcL (tlsF ts dots W H S (λ_ _=>0) os) W H).map .lst):=by
  rw [rO];refine Y9 λc l r n=>?_;have u:0<S:=by have:=z.s;ac_rfl
  have q:=tO (H:=H) u l n;rw [Yv os _ (.inr ⟨((numT W S c r:Nat):Int),hp.mem_iff.mpr (Bf.mpr ⟨_,CN.mpr q,rfl⟩),?_⟩),fQ];rw [HS,<-fK u (by ac_rfl) (by ac_rfl) q];exact Ze.mpr ⟨c,r,l,n,rfl,rfl⟩
 obtain ⟨a,g⟩ : ∃a,a=pcL (tlsF ts dots W H S (λ_ _=>0) os) W H:=⟨_,rfl⟩;rw [p,<-g];rw [<-g,<-m] at e;clear g p m;refine Tl.eq ?_;unfold Ha;refine nZ (LR (Td (w_on (Dm (w_v rfl (Dm (w_v rfl (Es (cV z.w z.h ⟨_,rfl,?_⟩)))))))));refine LR (Td (w_on (Dm (w_v rfl (Es (ZkR z.s ⟨_,rfl,?_⟩))))));refine LR (w_st (w_on (Dm (w_v rfl (Dm (w_o2 (w_on (Dm (w_v rfl (Dm (w_v rfl (Es (cZ z.w.1 z.s (w_on (Dm (w_v rfl (Dm (w_v rfl (Es (cZ z.h.1 z.s (w_mul C ?_)))))))))))))) )))))));rw [<-Iu];refine Es (Zmx hp hm ⟨_,rfl,?_⟩);refine LR (w_st (w_on (Dm (w_v rfl (Es (Ae hsp ⟨_,rfl,?_⟩))))));refine LR (w_st (w_on (Dm (w_v rfl (Es (Ae (x:=frD 0) rfl ⟨_,rfl,?_⟩))))));have b:comp (r1 (Aa (v 2) Ab)) 1 [1,9] (gN 0) yes (repD (Aa (v 2) Ab) (v 1)) [.im (.lst ts),.im (.int W),.im (.int H),.im (.int S),.im (.lst (os.map .int)),.im sp,.im .non,.im (.lst (os.map .int)),.im (.lst (dots.map encP)),.im (frD 0),.no,.no,.no,.no,.no]=.ok (.lst ((List.range H).map λ_=>D.lst (List.replicate W (frD 0)))):=by
  have I:=z.w;have F:=z.h;refine Tl.eq (Lr (w_r1 (Dm (w_v rfl (Es (Zi (by ac_rfl) ⟨?_,?_⟩))))))
  .unfold Cd;rw [Af,Bv];ac_rfl
  .unfold Cd;refine Dq (enc:=λk:Nat=>D.int (0+(k:Int))) (λ_=>D.lst (List.replicate W (frD 0))) (λk _=>w_gN (Ae (x:=.lst (List.replicate W (frD 0))) ?_ rfl)) rfl;show repL [frD 0] (.int W)=_;show (if (0<=(W:Int)/\(W:Int)<=1000000)/\[frD 0].length*(W:Int).toNat<=1000000 then Res.ok (D.lst (List.replicate (W:Int).toNat [frD 0]).flatten) else .bad)=_
   rw [iP ⟨⟨by ac_rfl,by ac_rfl⟩,by simp;ac_rfl⟩,YB];rfl
 refine jf (bK b (Zn (ZoY W) _) (by show 10<15;decide) ?_);refine Eg (Eo (Uu (Su (Es (S5 (Em (Eg (Ae (x:=(.nx [.im (.lst ts),.im (.int W),.im (.int H),.im (.int S),.im (.lst (os.map .int)),.im sp,.im .non,.im (.lst (os.map .int)),.im (.lst (dots.map encP)),.im (frD 0),.no,.ow (dueA ts dots W H S os),j,f,d],a)) e (Em (Ae (x:=(.rt (.tup [.lst (a.map .lst),.lst (dueA ts dots W H S os)]),a)) rfl ⟨_,rfl,_,rfl,rfl⟩))))))))))
def shC(C R:Int)(a:C6):C6:=⟨a.x+C*a.w,a.y+R*a.w,a.w,a.h,a.v⟩
def shT(C R:Int)(t:T6):T6:=(shC C R t.1,shC C R t.2.1,shC C R t.2.2)
def Qq(C R ax ay aw bx bY bw px py ps:Int):ow (ax+C*aw) (ay+R*aw) aw (bx+C*bw) (bY+R*bw) bw (px+C*ps) (py+R*ps) ps=ow ax ay aw bx bY bw px py ps:=by
 unfold ow;grind
def Ry(C R ax ay aw bx bY bw px py ps:Int):sdE (ax+C*aw) (ay+R*aw) aw (bx+C*bw) (bY+R*bw) bw (px+C*ps) (py+R*ps) ps=sdE ax ay aw bx bY bw px py ps:=by
 unfold sdE;rw [Qq];congr 1<;>grind
def fH(C R)(t)(px py ps):hdT (shT C R t) (px+C*ps) (py+R*ps) ps=hdT t px py ps:=by
 unfold hdT hd6 hdE shT shC;dsimp only;rw [Ry,Ry,Ry]
def Wf(C R:Int)(t:T6)(px py ps:Int):qT (shT C R t) (px+C*ps) (py+R*ps) ps=qT t px py ps/\vT (shT C R t) (px+C*ps) (py+R*ps) ps=vT t px py ps:=by
 unfold qT vT wt1 wt2 wt3 shT shC;dsimp only;rw [Qq,Qq,Qq];exact ⟨rfl,rfl⟩
def sh_0(t:T6):shT 0 0 t=t:=by
 obtain ⟨⟨d,j,c,m,b⟩,⟨h,a,n,e,k⟩,⟨o,g,f,i,l⟩⟩:=t;unfold shT shC;simp
def nrm(s:Sg):Sg:=⟨.non,s.gl,s.q,.non,s.own,s.part,s.col,0⟩
def WW:Kp nrm:=⟨λ_=>rfl,λ_=>rfl,λ_=>rfl,λ_=>rfl,λ_=>rfl⟩
def ZsA{g:Rat}{l m:List Sg}(h:l.map nrm=m.map nrm):colQ g l=colQ g m:=by
 rw [<-Xy WW g l,h,Xy WW]
def uL(κ:Kd)(t T:T6)(q v:Rat):nrm (sgT κ t q v)=nrm (sgT κ T q v):=by cases κ<;>rfl
def xM{κ:Kd}{t:T6}{C R px py ps:Int}(o:O3 t)(o':O3 (shT C R t))(hp:1<=ps)(p:Cr px py ps)(p':Cr (px+C*ps) (py+R*ps) ps):(so (P3 (px+C*ps) (py+R*ps) ps) (thD κ (shT C R t))).map nrm=(so (P3 px py ps) (thD κ t)).map nrm:=by
 by_cases z:hdT t px py ps=0
 .rw [QR o p z,QR o' p' (by rw [fH];exact z)]
 .rw [Oc o hp p z,Oc o' hp p' (by rw [fH];exact z),(Wf C R t px py ps).1,(Wf C R t px py ps).2];show some (nrm _)=some (nrm _);rw [uL κ (shT C R t) t]
def thsL(es:List (Kd×T6))(C R:Int):List D:=es.map λe=>thD e.1 (shT C R e.2)
def EsOk(es:List (Kd×T6)):Prop:=∀e∈es,KdOk e.1/\∀C R:Int,(-10<=C/\C<=10)->(-10<=R/\R<=10)->O3 (shT C R e.2)
def dK{es:List (Kd×T6)}(h:EsOk es){C R:Int}(hC:-10<=C/\C<=10)(hR:-10<=R/\R<=10):∀t∈thsL es C R,Thg t:=λt b=>by
 obtain ⟨e,a,rfl⟩:=Bf.mp b;exact ⟨e.1,_,rfl,(h e a).1,(h e a).2 C R hC hR⟩
def cN{px py ps C R:Int}(hC:-10<=C/\C<=10)(hR:-10<=R/\R<=10)(hp:1<=ps)(p:Cr px py ps)(p':Cr (px+C*ps) (py+R*ps) ps):∀{es:List (Kd×T6)},EsOk es->(sgs (thsL es C R) (P3 (px+C*ps) (py+R*ps) ps)).map nrm=(sgs (thsL es 0 0) (P3 px py ps)).map nrm
 | [],_=>rfl
 | e::r,h=>by
  have ih:=cN hC hR hp p p' (es:=r) λx c=>h x (BP _ c);have a:=h e BR;have b:=a.2 0 0 (by decide) (by decide);rw [sh_0] at b;have k:=xM (κ:=e.1) b (a.2 C R hC hR) hp p p';unfold sgs thsL at ih ⊢;rw [Ba,Ba,Jd,Jd,sh_0];cases e1:so (P3 (px+C*ps) (py+R*ps) ps) (thD e.1 (shT C R e.2)) with
  | none=>
   cases e2:so (P3 px py ps) (thD e.1 e.2) with
   | none=>exact ih
   | some s=>rw [e1,e2] at k;cases k
  | some s=>
   cases e2:so (P3 px py ps) (thD e.1 e.2) with
   | none=>rw [e1,e2] at k;cases k
   | some u=>
    rw [e1,e2] at k;show nrm s::_=nrm u::_;rw [Bt k,ih]
def cH{es:List (Kd×T6)}(h:EsOk es){dots:List (Int×Int)}(hd:Vd dots){c r c' r':Nat}{C R:Int}(hC:-10<=C/\C<=10)(hR:-10<=R/\R<=10)(hc:c<=64)(hr:r<=64)(e1:(c':Int)=c+C)(e2:(r':Int)=r+R):cellQ (thsL es C R) 0 dots c' r'=cellQ (thsL es 0 0) 0 dots c r:=by
 unfold cellQ;congr 1;refine Fp λd a=>?_;have hd:=hd d a;refine ZsA ?_;have p:Cr (8*(c:Int)+d.1) (8*(r:Int)+d.2) 8:=cr8 (by ac_rfl) (by ac_rfl);have b:Cr (8*(c:Int)+d.1+C*8) (8*(r:Int)+d.2+R*8) 8:=cr8 (by ac_rfl) (by ac_rfl);have:=cN hC hR (by decide) p b h;rw [show 8*(c:Int)+d.1+C*8=8*(c':Int)+d.1 by rw [e1];ac_rfl,show 8*(r:Int)+d.2+R*8=8*(r':Int)+d.2 by rw [e2];ac_rfl] at this;exact this
def Zmt{U:D->Prop}{cc k many:Int}(hk:0<=k/\k<=20)(hm:0<=many/\many<=3)(h:∀(x y w h:Int) (vs:List Int),Bd x->Bd y->1<=w/\w<=1000000->1<=h/\h<=1000000->vs.length=many.toNat->(∀v∈vs,Bd v)->U (cor x y w h vs)):Tl (Mq [.int cc,.int k,.int many]) U:=by
 unfold Mq;symm;refine Jr (by ac_rfl) λg H=>?_;symm;refine Jr (by ac_rfl) λC n=>?_;symm;refine Jr (by ac_rfl) λG F=>?_;symm;refine ⟨by unfold Cd;simp;ac_rfl,?_⟩;refine Zuj (λj M=>?_) λvs l b=>?_
 .symm;refine Jr (by ac_rfl) λr N=>?_;symm;exact ⟨_,rfl,by ac_rfl,by ac_rfl⟩
 symm;refine Eb (λ_=>?_) (λ_=>?_)
 .symm;refine Jr (by ac_rfl) λJ o=>?_;symm;exact h _ _ _ _ vs ⟨by ac_rfl,by ac_rfl⟩ ⟨by ac_rfl,by ac_rfl⟩ (by ac_rfl) (by ac_rfl) l b
 symm;refine Tl.mono (Ψ:=λf=>∃c:List Int,c.length=many.toNat/\(∀v∈c,Bd v)/\f=Fl.nx [.im (.int cc),.im (.int k),.im (.int many),.im (.int g),.im (.int C),.im (.int G),.im (.tup (c.map .int)),.no,.no,.no,.no,.no,.no,.no]) ?_ ?_
 .refine Eb (λ_=>?_) (λ_=>?_)
  .symm;refine ⟨by simp;ac_rfl,?_⟩;refine Dq (λu=>D.int (u%301 - 100)) (λu _=>?_) ?_
   .symm
   symm;refine ⟨vs.map λu=>u%301 - 100,by rw [Af];exact l,λv B=>?_,?_⟩
   .obtain ⟨u,_,rfl⟩:=Bf.mp B;exact ⟨by ac_rfl,by ac_rfl⟩
   .rw [DN];rfl
  .symm;exact ⟨vs,l,b,rfl⟩
 rintro f ⟨c,s,q,rfl⟩;symm;refine dG (by simp;ac_rfl) λd m=>?_;have i:∃x y w:Int,d=.tup [.int x,.int y,.int w]/\Bd x/\Bd y/\1<=w/\w<=1000000:=by
  have K:1<=1+g/16%6/\1+g/16%6<=6:=by ac_rfl
  generalize 1+g/16%6=tm at *;have a:∀e:Int,-2<=e->e<=13->Bd (e*tm):=λe E p=>by
   have I:-2*tm<=e*tm:=Ik E (by ac_rfl);have L:e*tm<=13*tm:=Ik p (by ac_rfl);exact ⟨by ac_rfl,by ac_rfl⟩
  simp only [Aj,CZ,Gq] at m;rcases m with rfl | rfl | rfl | rfl
  .exact ⟨_,_,_,rfl,a _ (by ac_rfl) (by ac_rfl),a _ (by ac_rfl) (by ac_rfl),by ac_rfl,by ac_rfl⟩
  .exact ⟨_,_,_,rfl,a _ (by ac_rfl) (by ac_rfl),a _ (by ac_rfl) (by ac_rfl),by ac_rfl,by ac_rfl⟩
  .exact ⟨_,_,_,rfl,a _ (by ac_rfl) (by ac_rfl),a _ (by ac_rfl) (by ac_rfl),by ac_rfl,by ac_rfl⟩
  .exact ⟨_,_,_,rfl,⟨by ac_rfl,by ac_rfl⟩,⟨by ac_rfl,by ac_rfl⟩,by ac_rfl,by ac_rfl⟩
 obtain ⟨x,y,w,rfl,A,t,z⟩:=i;symm;exact h x y w 1 c A t z (by decide) s q
structure CB(a:C6):Prop where
 x:-1000000<=a.x/\a.x<=1000000
 y:-1000000<=a.y/\a.y<=1000000
 w:1<=a.w/\a.w<=1000000
 h:1<=a.h/\a.h<=1000000
 v:-1000000<=a.v 0/\a.v 0<=1000000
def TX(cell:Int){k:Int}(hk:0<=k/\k<=20):∃a,CB a/\Mq [.int cell,.int k,.int 1]=.ok (c6 1 a):=by
 obtain ⟨d,e,a,n,rfl⟩:=Zmt (U:=λd=>∃a,CB a/\d=c6 1 a) (cc:=cell) (many:=1) hk (by decide) λx y w h l f c j g i m=>by
  obtain ⟨v,rfl⟩ : ∃v,l=[v]:=List.length_eq_one_iff.mp i;have b:=m v BR;exact ⟨⟨x,y,w,h,λ_=>v⟩,⟨⟨f.1,f.2⟩,⟨c.1,c.2⟩,j,g,⟨b.1,b.2⟩⟩,rfl⟩
 exact ⟨a,n,e⟩
def LB(C R:Int):Prop:=(-10<=C/\C<=10)/\-10<=R/\R<=10
def Rx{a:C6}(h:CB a):∃b:C6,CB b/\b.w<=100000/\(-100000<=b.x/\b.x<=100000)/\(-100000<=b.y/\b.y<=100000)/\∀C R,LB C R->Ms [c6 1 a,.int C,.int R]=.ok (c6 1 (shC C R b)):=by
 obtain ⟨x,y,w,g,v⟩:=a;obtain ⟨j,l,k,e,d⟩:=h;dsimp only at j l k e d;have i:(10:Int)^Int.toNat 5=100000:=rfl;by_cases c:(10:Int)^Int.toNat 5<max (max (x.natAbs:Int) (y.natAbs:Int)) w
 .refine ⟨⟨x%100000,y%100000,1+w%100000,g,v⟩,⟨by dsimp only;ac_rfl,by dsimp only;ac_rfl,by dsimp only;ac_rfl,e,d⟩,by dsimp only;ac_rfl,by dsimp only;ac_rfl,by dsimp only;ac_rfl,λC R f=>Tl.eq ?_⟩;obtain ⟨n,m⟩:=f;unfold Ms c6 cor;dsimp only;rw [vs1];symm;rw [i];rfl
 .rw [i] at c;refine ⟨⟨x,y,w,g,v⟩,⟨j,l,k,e,d⟩,by dsimp only;ac_rfl,by dsimp only;ac_rfl,by dsimp only;ac_rfl,λC R f=>Tl.eq ?_⟩;obtain ⟨n,m⟩:=f;unfold Ms c6 cor;dsimp only;rw [vs1];symm;rfl
def Tf{b:C6}(h:CB b)(h1:b.w<=100000)(h2:-100000<=b.x/\b.x<=100000)(h3:-100000<=b.y/\b.y<=100000){C R:Int}(hl:LB C R):Ok6 64 1 (shC C R b):=by
 obtain ⟨n,o,f,e,k⟩:=h;obtain ⟨g,d⟩:=hl;have a:∀{z:Int},(-10<=z/\z<=10)->-1000000<=z*b.w/\z*b.w<=1000000:=λ{z} c=>by
  have l:=Ik c.2 (show 0<=b.w by ac_rfl);have p:=Ik c.1 (show 0<=b.w by ac_rfl);ac_rfl
 have m:=a g;have i:=a d;unfold shC;refine ⟨?_,?_,?_,?_,λj q=>?_,f.1,e.1⟩
 .exact Sm.of64 (by dsimp only;ac_rfl) (by dsimp only;ac_rfl)
 .exact Sm.of64 (by dsimp only;ac_rfl) (by dsimp only;ac_rfl)
 .exact Sm.of64 (by dsimp only;ac_rfl) (by dsimp only;ac_rfl)
 .exact Sm.of64 (by dsimp only;ac_rfl) (by dsimp only;ac_rfl)
 .obtain rfl:j=0:=by ac_rfl
  exact Sm.of64 (by dsimp only;ac_rfl) (by dsimp only;ac_rfl)
def R6(cell:Int):∃κ t,KdOk κ/\(∀C R,LB C R->O3 (shT C R t))/\∀C R,LB C R->Kw [.int cell,.int C,.int R]=.ok (thD κ (shT C R t)):=by
 obtain ⟨n,Y,W⟩:=bj cell (k:=80) (by decide);obtain ⟨m,hm,K⟩:=bj cell (k:=81) (by decide);obtain ⟨Z,o,s⟩:=TX cell (k:=0) (by decide);obtain ⟨a1,z,w⟩:=TX cell (k:=1) (by decide);obtain ⟨a2,r,y⟩:=TX cell (k:=2) (by decide);obtain ⟨i,u,T,G,N,I⟩:=Rx o;obtain ⟨l,p,P,V,H,F⟩:=Rx z;obtain ⟨j,B,O,Q,M,S⟩:=Rx r;have g:∀C R,LB C R->O3 (shT C R (i,l,j)):=λC R a=>⟨Tf u T G N a,Tf p P V H a,Tf B O Q M a⟩;have b:∀{x:Int},-100000<=x/\x<=100000->Sm 32 x:=λ{x} h=>by show x.natAbs<2^32;ac_rfl
 have E:Bq 32 (Rat.divInt (m%2001 - 1000) (1+n/5%12)):=JL (by ac_rfl) (b (by ac_rfl)) (b (by ac_rfl));have J:1<=1+n/60%16/\1+n/60%16<=16:=by ac_rfl
 obtain ⟨d,A⟩ : ∃d,d=1+n/60%16:=⟨_,rfl⟩;have L:=IK (n/960) (show d+1≠0 by ac_rfl);have r1:=Iv (n/960) (show 0<d+1 by ac_rfl);have X:Bq 32 (Rat.divInt (n/960%(d+1)) d):=JL (by ac_rfl) (b (by ac_rfl)) (b (by ac_rfl));have q:=mJ L (show n/960%(d+1)<=d by ac_rfl) (by ac_rfl)
 have e:∀{U:D->Prop} {C R:Int},LB C R->Tl ((sq (ifs (trb (o2 dLt (o2 Ax (v 3) (c (.int 5))) (c (.int 2))))
  (ret (make "Shaded" Kg (Aa (v 4) Ab)))
  nop)
  (sq (ifs (trb (o2 dEq (o2 Ax (v 3) (c (.int 5))) (c (.int 2))))
  (ret (make "Plain" Ks (Aa (v 4) (Aa (v 5) Ab))))
  nop)
  (ret (make "Glass" Ky (Aa (v 4) (Aa (v 5) (Aa (v 7) Ab))))))) [.im (.int cell),.im (.int C),.im (.int R),.im (.int n),.im (pc6 1 (shT C R (i,l,j))),.im (frD (Rat.divInt (m%2001 - 1000) (1+n/5%12))),.im (.int d),.im (frD (Rat.divInt (n/960%(d+1)) d))]) (λf=>Tl (endOf f) U)->Tl (Kw [.int cell,.int C,.int R]) U:=by
  intro U C R a h;unfold Kw;symm;refine Ae W ?_;symm;refine ⟨by decide,?_⟩;show Tl (Ar _ _ _ _ [.int 0,.int 1,.int 2]) _;refine Fq ?_;symm;refine Ae s ?_;symm;refine Ae (I C R a) ?_;refine Am ?_;refine Fq ?_;symm;refine Ae w ?_;symm;refine Ae (F C R a) ?_;refine Am ?_;refine Fq ?_;symm;refine Ae y ?_;symm;refine Ae (S C R a) ?_;refine Am ?_;refine Ot (Ai (Ai (Ai ?_)));symm;refine Ae K ?_;symm;refine bO (by ac_rfl) (b (by ac_rfl)) ?_;symm;rw [<-A];refine bO (by ac_rfl) (b (by ac_rfl)) ?_;exact h
 by_cases c1:n%5<2
 .refine ⟨.sh,(i,l,j),trivial,g,λC R a=>Tl.eq (e a ?_)⟩;symm;refine RX ?_;symm;exact ⟨_,Zn9 (g C R a),by symm; rfl⟩
 by_cases c2:n%5=2
 .refine ⟨.pl _,(i,l,j),E,g,λC R a=>Tl.eq (e a ?_)⟩;symm;refine RX ?_;symm;exact ⟨_,nJ (g C R a),by symm; rfl⟩
 .refine ⟨.gl _ _,(i,l,j),⟨E,X,q⟩,g,λC R a=>Tl.eq (e a ?_)⟩;symm;refine RX ?_;symm;exact ⟨_,jE (g C R a) q.1 q.2,by symm; rfl⟩
def eOf(cell:Int):Kd×T6:=(Classical.choose (R6 cell),Classical.choose (Classical.choose_spec (R6 cell)))
def UT(cell:Int):KdOk (eOf cell).1/\(∀C R,LB C R->O3 (shT C R (eOf cell).2))/\∀C R,LB C R->Kw [.int cell,.int C,.int R]=.ok (thD (eOf cell).1 (shT C R (eOf cell).2)):=Classical.choose_spec (Classical.choose_spec (R6 cell))
def RL(cells:List Int):EsOk (cells.map eOf):=λe a=>by
 obtain ⟨c,_,rfl⟩:=Bf.mp a;exact ⟨(UT c).1,λC R d b=>(UT c).2.1 C R ⟨d,b⟩⟩
def R8{cells:List Int}{C R:Int}(hl:cells.length<=5)(h:LB C R):JQ [.lst (cells.map .int),.int C,.int R]=.ok (.lst (thsL (cells.map eOf) C R)):=by
 refine Tl.eq ?_;unfold JQ;symm;refine QD ?_;symm;refine ⟨by rw [Af];ac_rfl,?_⟩;refine Dq (λc:Int=>thD (eOf c).1 (shT C R (eOf c).2)) (λc _=>?_) ?_
 .symm;exact Ae ((UT c).2.2 C R h) rfl
 .symm;unfold thsL;rw [DN];rfl
structure SpOk(sp:D)(dots:List (Int×Int)):Prop where
 e:Gs [sp]=.ok (.lst (dots.map encP))
 d:Dots dots
 l1:1<=dots.length
 l3:dots.length<=3
def Ve{cells:List Int}{C R:Int}{w h:Nat}{sp:D}{dots:List (Int×Int)}(hl:cells.length<=5)(hb:LB C R)(S:SpOk sp dots)(hw:1<=w/\w<=64)(hh:1<=h/\h<=64):Fy [.lst (thsL (cells.map eOf) C R),.int w,.int h,sp,.non]=.ok (picP (cellQ (thsL (cells.map eOf) C R) 0 dots) w h):=by
 have a:(thsL (cells.map eOf) C R).length<=5:=by unfold thsL;rw [List.length_map,List.length_map];exact hl
 have f:dots.length*(300+170*5)<=3*(300+170*5):=Km _ S.l3;have:=S.l3;exact Tl.eq (pM (n:=5) (g:=0) (dots:=dots) (dK (RL cells) hb.1 hb.2) (by ac_rfl) (λc b _=>CK (sG _ _) a) (by decide) hw hh S.e rfl (b0.mono (by decide)) S.d.1 S.l1 (by ac_rfl) (by ac_rfl) rfl)
abbrev P0(cells:List Int)(dots:List (Int×Int))(c r:Nat):Rat:=cellQ (thsL (cells.map eOf) 0 0) 0 dots c r
def Pq{U:D->Prop}{f:List D->Res D}{ix:List (Option Nat)}{a k:MA}{Z:Ev}(h:Tl (a Z) λxs=>Tl (k Z) λzs=>Tl (f (xs++Np ix zs)) U):Tl (onK f ix a k Z) U:=Am (h.mono λ_ q=>Am q)
def rows0{Ψ:List D->Prop}{Z:Ev}{h:Nat}(hh:h<=5)(q:Ψ ((List.range h).map λ_=>D.lst [])):(Cd 0 (Int.toNat (h:Int))).length<=1000000/\Tl (Ar (gN 0) yes (mls Ab) (Cl.no::Z) (Cd 0 (Int.toNat (h:Int)))) Ψ:=by
 unfold Cd;rw [HS];refine ⟨by rw [Af,Bv];ac_rfl,?_⟩;exact Dq (enc:=λk:Nat=>D.int (0+(k:Int))) (λ_=>D.lst []) (λk _=>w_gN (Su (Es rfl))) q
def Q9{cells:List Int}{c0 r0 w h:Nat}{sp:D}{dots:List (Int×Int)}(hl:cells.length<=5)(S:SpOk sp dots)(hc:c0<=5)(hr:r0<=5)(hw:w<=5)(hh:h<=5):JP [.lst (cells.map .int),.int c0,.int r0,.int w,.int h,sp]=.ok (picP (λc r=>P0 cells dots (c+c0) (r+r0)) w h):=by
 refine Tl.eq ?_;unfold JP;by_cases hw0:w=0
 .subst hw0;symm;refine rows0 hh ?_;symm;rfl
 by_cases hh0:h=0
 .subst hh0;symm;refine rows0 (h:=0) (by decide) ?_;symm;rfl
 .symm;refine Pq ?_;have a:LB (0 - (c0:Int)) (0 - (r0:Int)):=⟨by ac_rfl,by ac_rfl⟩;symm;refine Ae (R8 hl a) ?_;symm;refine Ae (Ve hl a S (by ac_rfl) (by ac_rfl)) ?_;symm;refine Y9 λc e r b=>?_;exact cH (RL cells) S.d.1 a.1 a.2 (by ac_rfl) (by ac_rfl) (by ac_rfl) (by ac_rfl)
def Vq{α:Type}(f g:α->D):∀l:List α,pairs (l.map f) (l.map g)=l.map λx=>.tup [f x,g x]
 | []=>rfl
 | a::l=>by
  show D.tup [f a,g a]::pairs (l.map f) (l.map g)=_;rw [Vq f g l];rfl
def Ua{α:Type}(f:Nat->α)(m n:Nat):(List.range m).map f++(List.range n).map (λi=>f (i+m))=(List.range (m+n)).map f:=by
 rw [Lb,Du,DN];congr 1;exact Fp λi _=>by show f (i+m)=f (m+i);rw [Gi]
def jn(a b:ME):ME:=comp (iZip (Aa a (Aa b Ab))) 2 [] (gU 2 (gs1 (gN 0) (gs1 (gN 1) gs0))) yes (o2 An (v 0) (v 1))
def Xq{Z:Ev}{a b:ME}{F:Nat->Nat->Rat}{w1 w2 h:Nat}(hw1:w1<=5)(hw2:w2<=5)(hh:h<=5)(ea:a Z=.ok (picP F w1 h))(eb:b Z=.ok (picP (λc r=>F (c+w1) r) w2 h)):jn a b Z=.ok (picP F (w1+w2) h):=by
 refine Tl.eq ?_;unfold jn;refine Lr (V3 (Dm (Ae ea (Dm (Ae eb (Es ?_))))));unfold picP;refine Z7 ?_;rw [Vq];refine ⟨by rw [Af,Bv];ac_rfl,?_⟩;refine Dq (enc:=λr=>.tup [rowP F w1 r,rowP (λc r=>F (c+w1) r) w2 r]) (λr=>rowP F (w1+w2) r) (λr _=>?_) rfl;unfold rowP;symm;refine dR (by rw [Af,Af,Bv,Bv];ac_rfl) ?_;rw [Ua (λc=>frD (F c r))]
def uB{F:Nat->Nat->Rat}{w h1 h2:Nat}(h:h1+h2<=100):An (picP F w h1) (picP (λc r=>F c (r+h1)) w h2)=.ok (picP F w (h1+h2)):=by
 unfold picP;rw [aR (by rw [Af,Af,Bv,Bv];ac_rfl)];congr 1;congr 1;exact Ua (λr=>rowP F w r) h1 h2
def Vp{f:Nat->D}{m n:Nat}:cutL ((List.range (n+m)).map f) (some (m:Int)) none=(List.range n).map λi=>f (i+m):=by
 unfold cutL cutAt;have a:¬((m:Int)<0):=by ac_rfl
 simp only [a,CJ];rw [Af,Bv,show min (m:Int).toNat (n+m)=m by ac_rfl,show n+m - m=n by ac_rfl];rw [Gi n m,<-Ua f m n,List.drop_left' (by rw [Af,Bv])];exact Mg (by rw [Af,Bv];exact Al _)
def uI{Z:Ev}{F G:Nat->Nat->Rat}{w h:Nat}{C R:Nat}(hw:w<=5)(hh:h<=5)(hC:C<=2)(hR:R<=2)(e19:Z[19]?=some (.im (picP F (w+C) (h+R))))(e18:Z[18]?=some (.im (.int R)))(e17:Z[17]?=some (.im (.int C)))(k:∀c,c<w->∀r,r<h->F (c+C) (r+R)=G c r) :
  comp (iv (cut (v 19) (pso (v 18)) pno)) 1 [17] (gN 0) yes (cut (v 0) (pso (v 1)) pno) Z=.ok (picP G w h):=by
 refine Tl.eq ?_;have d:Az Z [17]=[.im (.int C)]:=by show [imOf Z[17]?]=_;rw [e17];rfl
 refine Lr (w_iv (Ss (w_v e19 ?_)));refine Ae (x:=some (R:Int)) (by show (v 18 Z).bind _=_;unfold v;rw [e18];rfl) (Ae (x:=none) rfl ?_);unfold picP;refine VP ?_;rw [Vp];refine UW ⟨by rw [Af,Bv];ac_rfl,?_⟩;rw [d];refine Dq (enc:=λr=>rowP F (w+C) (r+R)) (λr=>rowP G w r) (λr a=>?_) rfl;have a:=CN.mp a;unfold rowP;refine w_gN (Ss (w_v rfl (Ae (x:=some (C:Int)) rfl (Ae (x:=none) rfl (VP ?_)))));rw [Vp];congr 1;exact Fp λc b=>by rw [k c (CN.mp b) r a]
def lQ{U:D->Prop}{m:Nat}{n:Int}(hm:m<=60)(q:∀os:List Int,os.Perm (rgI m)->U (.lst (os.map .int))):Tl (Qu [.int m,.int n]) U:=by
 unfold Qu;symm;refine Ae (fG (by ac_rfl)) ?_;symm;rw [S8,HS];refine Ug (λk Z=>∃(L F:List Int) (d:Cl),(F++L).Perm (rgI m)/\k+L.length=m/\Z=[.im (.int m),.im (.int n),.ow (F.map .int),.ow (L.map .int),d]) ⟨rgI m,[],.no,.refl _,by simp,rfl⟩ ?_ ?_
 .rintro k i Z ⟨L,F,d,b,c,rfl⟩;cases L with
  | nil=>simp at c;ac_rfl
  | cons x L=>
   rw [CW] at c;have f:(F.map D.int).length<10000:=by
    have:=b.length_eq;rw [Bo,Af,Bv] at this;rw [Af];ac_rfl
   have h:Bj (k:Int) (k:Int)=true:=mo64 (by ac_rfl) (by ac_rfl);symm;refine gM rfl rfl f ?_;symm;refine w_mod (by rw [CW];ac_rfl) ?_;have e:0<=(n+(k:Int)*(k:Int))%((x::L).length:Int)/\(n+(k:Int)*(k:Int))%((x::L).length:Int)<(x::L).length:=⟨IK _ (by rw [CW];ac_rfl),Iv _ (by rw [CW];ac_rfl)⟩;generalize (n+(k:Int)*(k:Int))%((x::L).length:Int)=z at e ⊢;have a:z.toNat<(x::L).length:=by ac_rfl
   rw [CW] at e;refine Ae (x:=.int z) rfl ⟨z.toNat,.int (x::L)[z.toNat],by rw [IW e.1],by ac_rfl,?_,?_⟩
   .rw [By,BX a];rfl
   .have g:((x::L).map D.int).eraseIdx z.toNat=((x::L).eraseIdx z.toNat).map D.int:=Zt _ _ _;refine ⟨_,rfl,(x::L).eraseIdx z.toNat,F++[(x::L)[z.toNat]],.im (.int k),?_,?_,?_⟩
    .rw [Do];exact (List.Perm.append_left F (Xh a)).trans b
    .rw [List.length_eraseIdx_of_lt a,CW];ac_rfl
    .rw [Du,<-g];rfl
 .rintro Z ⟨L,F,d,b,c,rfl⟩;have:L=[]:=Lf.mp (by ac_rfl);subst this;symm;exact q F (by rwa [Bl] at b)
def cell_eq(ns:List Int){k:Int}(hk:0<=k):∃x,Fj [.lst (ns.map .int),.int k]=.ok (.int x):=by
 obtain ⟨d,e,x,rfl⟩:=kJ (U:=λd=>∃x,d=.int x) (ns:=ns) hk λn=>⟨n,rfl⟩;exact ⟨x,e⟩
def gB(ns:List Int):∃ms:List Int,cutL (ns.map .int) (some 4) (some 8)=ms.map .int/\ms.length<=4:=by
 refine ⟨(ns.drop (min 4 ns.length)).take (min 8 ns.length - min 4 ns.length),?_,?_⟩
 .unfold cutL;rw [Af,<-Ji,<-Je];rfl
 .rw [Ie];ac_rfl
def ZwA{d:D}(h:d∈[D.non,.lst [.tup [.int 4,.int 4]],.lst [.tup [.int 2,.int 2],.tup [.int 6,.int 6]],.lst [.tup [.int 1,.int 3],.tup [.int 4,.int 4],.tup [.int 7,.int 2]]]):∃dots,SpOk d dots:=by
 simp only [Aj,CZ,Gq] at h;rcases h with rfl | rfl | rfl | rfl
 .exact ⟨[(4,4)],gR,⟨by decide,by decide⟩,by decide,by decide⟩
 .exact ⟨[(4,4)],T5 (dots:=[(4,4)]) (by decide) (by decide) (by decide),⟨by decide,by decide⟩,by decide,by decide⟩
 .exact ⟨[(2,2),(6,6)],T5 (dots:=[(2,2),(6,6)]) (by decide) (by decide) (by decide),⟨by decide,by decide⟩,by decide,by decide⟩
 .exact ⟨[(1,3),(4,4),(7,2)],T5 (dots:=[(1,3),(4,4),(7,2)]) (by decide) (by decide) (by decide),⟨by decide,by decide⟩,by decide,by decide⟩
def v_at{Z:Ev}{i:Nat}{x:D}(e:Z[i]?=some (.im x)):v i Z=.ok x:=by
 obtain ⟨d,a,rfl⟩:=w_v (U:=λd=>d=x) e rfl;exact a
def vq{Z:Ev}{F:Nat->Nat->Rat}{C R W H:Nat}(hW:W<=5)(hH:H<=5)(hC:C<=W)(hR:R<=H)(e9:Z[9]?=some (.im (picP (λc r=>F (c+0) (r+0)) C R)))(e10:Z[10]?=some (.im (picP (λc r=>F (c+C) (r+0)) (W - C) R)))(e11:Z[11]?=some (.im (picP (λc r=>F (c+0) (r+R)) C (H - R))))(e12:Z[12]?=some (.im (picP (λc r=>F (c+C) (r+R)) (W - C) (H - R)))) :
  o2 An (jn (v 9) (v 10)) (jn (v 11) (v 12)) Z=.ok (picP F W H):=by
 have e:=Xq (a:=v 9) (b:=v 10) (F:=λc r=>F (c+0) (r+0)) (w1:=C) (w2:=W - C) (h:=R) (by ac_rfl) (by ac_rfl) (by ac_rfl) (v_at e9) (v_at e10);have d:=Xq (a:=v 11) (b:=v 12) (F:=λc r=>F (c+0) (r+R)) (w1:=C) (w2:=W - C) (h:=H - R) (by ac_rfl) (by ac_rfl) (by ac_rfl) (v_at e11) (v_at e12);rw [show C+(W - C)=W by ac_rfl] at e d;have s:=uB (F:=F) (w:=W) (h1:=R) (h2:=H - R) (by ac_rfl);rw [show R+(H - R)=H by ac_rfl] at s;show (jn (v 9) (v 10) Z).bind _=_;rw [e];show (jn (v 11) (v 12) Z).bind _=_;rw [d];exact s
def ZnP(ns:List Int)(h63:ns.length<=63):Uh [.lst (ns.map .int)]=.ok (.bl true):=by
 obtain ⟨u,e0⟩:=cell_eq ns (k:=0) (by decide);obtain ⟨t,e1⟩:=cell_eq ns (k:=1) (by decide);obtain ⟨g,q⟩:=cell_eq ns (k:=2) (by decide);obtain ⟨J,U⟩:=cell_eq ns (k:=3) (by decide);obtain ⟨E,em,lm⟩:=gB ns;refine Tl.eq ?_;unfold Uh;symm;refine Ae e0 ?_;symm;rw [em];refine dR (by rw [Af];simp;ac_rfl) ?_;rw [show [D.int u]++E.map D.int=(u::E).map D.int from rfl];have i:(u::E).length<=5:=by rw [CW];ac_rfl
 generalize u::E=cells at i ⊢;symm;refine Ae e1 ?_;symm;obtain ⟨W,hW⟩ : ∃W:Nat,(W:Int)=1+t%5:=⟨(1+t%5).toNat,by ac_rfl⟩;obtain ⟨H,hH⟩ : ∃H:Nat,(H:Int)=1+t/5%5:=⟨(1+t/5%5).toNat,by ac_rfl⟩;rw [<-hW,<-hH];refine dG (by show 0<=_/\_<((4:Nat):Int);ac_rfl) λsp l=>?_;obtain ⟨a,S⟩:=ZwA l;clear l;have bW:1<=W/\W<=5:=by ac_rfl
 have bH:1<=H/\H<=5:=by ac_rfl
 symm;refine Ae q ?_;symm;refine Ae q ?_;symm;have c1:=IK g (show (W:Int)+1≠0 by ac_rfl);have c2:=Iv g (show 0<(W:Int)+1 by ac_rfl);have r1:=IK (g/8) (show (H:Int)+1≠0 by ac_rfl);have r2:=Iv (g/8) (show 0<(H:Int)+1 by ac_rfl);obtain ⟨C,P⟩ : ∃C:Nat,(C:Int)=g%((W:Int)+1):=⟨(g%((W:Int)+1)).toNat,by ac_rfl⟩;obtain ⟨R,V⟩ : ∃R:Nat,(R:Int)=g/8%((H:Int)+1):=⟨(g/8%((H:Int)+1)).toNat,by ac_rfl⟩;rw [<-P,<-V];have bC:C<=W:=by ac_rfl
 have bR:R<=H:=by ac_rfl
 clear c1 c2 r1 r2 P V;have v:LB 0 0:=⟨by decide,by decide⟩;have j:=R8 (C:=0) (R:=0) i v;obtain ⟨f,b⟩ : ∃f,f=picP (P0 cells a) W H:=⟨_,rfl⟩;have G:Fy [.lst (thsL (cells.map eOf) 0 0),.int W,.int H,sp,.non]=.ok f:=by
  rw [b];exact Ve (w:=W) (h:=H) i v S (by ac_rfl) (by ac_rfl)
 have p:=vM (P0 cells a) W H;rw [<-b] at p;have o:=Xr p;have I:=Zqh p;clear p;refine Pq ?_;symm;refine Ae j ?_;symm;refine Ae G ?_;symm;have Y:=Q9 (c0:=0) (r0:=0) (w:=C) (h:=R) i S (by ac_rfl) (by ac_rfl) (by ac_rfl) (by ac_rfl);have L:=Q9 (c0:=C) (r0:=0) (w:=W - C) (h:=R) i S (by ac_rfl) (by ac_rfl) (by ac_rfl) (by ac_rfl);have K:=Q9 (c0:=0) (r0:=R) (w:=C) (h:=H - R) i S (by ac_rfl) (by ac_rfl) (by ac_rfl) (by ac_rfl);have s:=Q9 (c0:=C) (r0:=R) (w:=W - C) (h:=H - R) i S (by ac_rfl) (by ac_rfl) (by ac_rfl) (by ac_rfl);rw [show ((W - C:Nat):Int)=(W:Int) - (C:Int) by ac_rfl] at L s;rw [show ((H - R:Nat):Int)=(H:Int) - (R:Int) by ac_rfl] at K s;refine Ae Y ?_;symm;refine Ae L ?_;symm;refine Ae K ?_;symm;refine Ae s ?_;refine w_gx (w_sq (w_st (Ae (x:=f) (by rw [b];exact vq (F:=P0 cells a) (C:=C) (R:=R) (W:=W) (H:=H) bW.2 bH.2 bC bR rfl rfl rfl rfl) ?_)));clear Y L K s;refine w_gx (w_sq (Tj ?_));symm;refine Ae o ?_;symm;refine Ae U (w_c (w_mod (by decide) (Ae (x:=.int (1+J%8)) rfl ?_)));obtain ⟨N,X⟩ : ∃N:Nat,(N:Int)=1+J%8:=⟨(1+J%8).toNat,by ac_rfl⟩;rw [<-X];have bN:1<=N/\N<=8:=by ac_rfl
 clear X;have z:Sz W H N:=⟨by ac_rfl,by ac_rfl,by ac_rfl⟩;have m:=lg64 (show N<=1000000 by ac_rfl);have aW:=Kr (S:=N) (W:=W) (by ac_rfl) (by ac_rfl);have aH:=Kr (S:=N) (W:=H) (by ac_rfl) (by ac_rfl);have Z:=Ob (S:=N) (W:=W) (by ac_rfl) (by ac_rfl);have eH:=Ob (S:=N) (W:=H) (by ac_rfl) (by ac_rfl);generalize hpA:picP (λc r=>P0 cells a (c+0) (r+0)) C R=pA;generalize hpB:picP (λc r=>P0 cells a (c+C) (r+0)) (W - C) R=pB;generalize hpC:picP (λc r=>P0 cells a (c+0) (r+R)) C (H - R)=pC;generalize hpD:picP (λc r=>P0 cells a (c+C) (r+R)) (W - C) (H - R)=pD;clear hpA hpB hpC hpD;refine w_gx (w_sq (w_st (w_o2 (w_o2 (w_o2 (w_v rfl (w_v rfl (Ae (x:=.int ((W:Int)+(N:Int))) rfl (w_c (Ae (x:=.int ((W:Int)+(N:Int) - 1)) rfl (w_v rfl (w_div (by ac_rfl) m ?_))))))))))));rw [Z];have mo:=mo64 (show acr W N<=1000000 by ac_rfl) (show acr H N<=1000000 by ac_rfl);have hm:acr W N*acr H N<=5*5:=Hm (by ac_rfl) (by ac_rfl);refine w_gx (w_sq (w_st (w_on (Dm (w_o2 (w_v rfl (w_o2 (w_o2 (w_o2 (w_v rfl (w_v rfl (Ae (x:=.int ((H:Int)+(N:Int))) rfl (w_c (Ae (x:=.int ((H:Int)+(N:Int) - 1)) rfl (w_v rfl (w_div (by ac_rfl) m ?_))))))))))))))));rw [eH];refine w_mul mo ?_;rw [<-Iu];refine Dm (w_o2 (w_o2 (w_on (Dm (w_v rfl (Dm (w_c (Es (Ae U (w_c (w_div (by decide) (by decide) (w_c (w_mod (by decide) (Es (lQ (by ac_rfl) λos hp=>?_)))))))))))))));have Q:=ZnY (dK (RL cells) v.1 v.2) (by unfold thsL;rw [List.length_map,List.length_map];ac_rfl) S.d S.l1 S.l3 z S.e hp (by ac_rfl);rw [show picP (cellQ (thsL (cells.map eOf) 0 0) 0 a) W H=f from b.symm] at Q;refine w_gx (w_sq (Tj ?_));symm;refine Pq ?_;symm;refine Ae j ?_;symm;refine Ae Q ?_;symm;refine Ae o ?_;symm;refine Ae q ?_;symm;refine Ae q ?_;symm;obtain ⟨A,O⟩ : ∃A:Nat,(A:Int)=g/64%3:=⟨(g/64%3).toNat,by ac_rfl⟩;obtain ⟨B,T⟩ : ∃B:Nat,(B:Int)=g/192%3:=⟨(g/192%3).toNat,by ac_rfl⟩;rw [<-O,<-T];have bA:A<=2:=by ac_rfl
 have bB:B<=2:=by ac_rfl
 clear O T;have y:LB (A:Int) (B:Int):=⟨by ac_rfl,by ac_rfl⟩;have M:=R8 i y;have n:=Ve (w:=W+A) (h:=H+B) i y S (by ac_rfl) (by ac_rfl);rw [show ((W+A:Nat):Int)=(W:Int)+(A:Int) by ac_rfl,show ((H+B:Nat):Int)=(H:Int)+(B:Int) by ac_rfl] at n;refine Pq ?_;symm;refine Ae M ?_;symm;refine Ae n ?_;refine w_gx (WQ (w_o2 (Ae (x:=f) ?_ (w_v rfl (Ae I (w_eR rfl))))));rw [b];exact uI (by ac_rfl) (by ac_rfl) bA bB rfl rfl rfl λc hc r hr=>cH (RL cells) S.d.1 y.1 y.2 (by ac_rfl) (by ac_rfl) (by ac_rfl) (by ac_rfl)
end My
namespace My
open PySem L2 Ds Dl
def top(i:Nat):Stmt:=PySem.Challenge.pw_sampleyard_k92_whole_floors_shifted.main.body.getD i (.Pass ⟨0,0,0,0⟩)
abbrev V1:Stmt:=(inClass (top 57) 0)
abbrev Vn:Stmt:=(inClass (top 60) 0)
abbrev Yw:Stmt:=(inClass (top 58) 0)
abbrev bT:Stmt:=(inClass (top 59) 0)
abbrev We:Stmt:=(inClass (top 60) 3)
abbrev aV:Stmt:=(inClass (top 58) 2)
abbrev ZZ:Stmt:=(inClass (top 59) 2)
abbrev V7:Stmt:=(inClass (top 60) 2)
abbrev Zd:Stmt:=(inClass (top 57) 1)
abbrev Gw:Stmt:=top 47
abbrev gH:Stmt:=top 75
abbrev wz:Stmt:=top 77
abbrev Gx:Stmt:=top 71
abbrev Jz:Stmt:=top 88
local macro_rules | `(tactic| walk_at "sc")=>`(tactic| exact ⟨rfl,rfl,rfl,by decide +kernel,rfl,by decide +kernel,by decide +kernel⟩)
def XX:Ca ["self","triangle"] ["self","triangle"] (Av V1):=by walk_at "sc"
def Ye:Ca ["self","triangle","colour","part"] ["self","triangle","colour","part"] (Av Vn):=by walk_at "sc"
def cQ:Ca ["self","triangle","colour"] ["self","triangle","colour"] (Av Yw):=by walk_at "sc"
def Wb:Ca ["self","triangle"] ["self","triangle"] (Av bT):=by walk_at "sc"
def Zf:Ca ["self","values"] ["self","values"] (Av We):=by walk_at "sc"
def YL:Ca ["self","values"] ["self","values"] (Av aV):=by walk_at "sc"
def ZF:Ca ["self","values"] ["self","values"] (Av ZZ):=by walk_at "sc"
def aq:Ca ["self"] ["self"] (Av V7):=by walk_at "sc"
def Ym:Ca ["self"] ["self"] (Av Zd):=by walk_at "sc"
def bZ:Ca ["things","width","height","spots","ground","places","beneath"] ["things","width","height","spots","ground"] (Av Gw):=by walk_at "sc"
def W7:Ca ["thing","points","sights_by_point","least_depths","place","point","seen"] ["thing","points","sights_by_point","least_depths"] (Av gH):=by walk_at "sc"
def cM:Ca ["picture","cells","sights_by_point","ground","count","place","cell","sights_by_spot"] ["picture","cells","sights_by_point","ground"] (Av wz):=by walk_at "sc"
def dY:Ca ["things","width","height","wide","order","spots","ground","tiles","places","beneath","picture","let_go","tile","cells","looked"] ["things","width","height","wide","order","spots","ground"] (Av Gx):=by walk_at "sc"
def Wj:Ca ["_law_script","_law_cells","_law_first","_law_width","_law_height","_law_spots","_law_column","_law_row","_law_picture","_law_upper","_law_beside","_law_lower","_law_right","_law_joined","_law_wide","_law_across","_law_order_here","_law_columns","_law_rows","_law_moved"] ["_law_script"] (Av Jz):=by walk_at "sc"
def fil:∀p,Hd.heap p=Hd.heap p/\PySem.Challenge.rw_sampleyard_k92_whole_floors_shifted=PySem.Challenge.rw_sampleyard_k92_whole_floors_shifted:=by
 k_fill;exact λ_=>⟨rfl,rfl⟩
def YY(P:Program)(w:World)(K:W.Frag)(mg:Str->Option Value)(base:Heap):Prop:=K=Hd.heap w.params/\∀{x:Str} {v:Option Value},W.nsIn K mainGlobals x=some v->mg x=v
abbrev BtT(x q:Str)(st:Stmt)(ps:List Str):Prop:=∀(kV doc pm:Value) (an:Option Addr) (cdv ct:Value) (us:List Value),us.length=ps.length->bindArgs (W.fnOf x q (Fd st) (DX st) (Av st) .none kV doc pm an cdv ct) ⟨us,[]⟩=pure (ps.zip us)
section
variable{P:Program}{w:World}{K:W.Frag}{mg:Str->Option Value}{base:Heap}{c x q m:Str}{st:Stmt}{ps:List Str}{f C:Addr}{fd:FuncData}{n j l:Nat}
def ln1{P:List Value->Prop}(q:∀a,P [a]):∀us,us.length=1->P us:=by intro us h;rcases us with _|⟨a,_|_⟩<;>first | exact q _ | cases h
def ln2{P:List Value->Prop}(q:∀a b,P [a,b]):∀us,us.length=2->P us:=by intro us h;rcases us with _|⟨a,_|⟨b,_|_⟩⟩<;>first | exact q _ _ | cases h
def ln3{P:List Value->Prop}(q:∀a b c,P [a,b,c]):∀us,us.length=3->P us:=by intro us h;rcases us with _|⟨a,_|⟨b,_|⟨c,_|_⟩⟩⟩<;>first | exact q _ _ _ | cases h
def ln4{P:List Value->Prop}(q:∀a b c d,P [a,b,c,d]):∀us,us.length=4->P us:=by intro us h;rcases us with _|⟨a,_|⟨b,_|⟨c,_|⟨d,_|_⟩⟩⟩⟩<;>first | exact q _ _ _ _ | cases h
def ln5{P:List Value->Prop}(q:∀a b c d e,P [a,b,c,d,e]):∀us,us.length=5->P us:=by intro us h;rcases us with _|⟨a,_|⟨b,_|⟨c,_|⟨d,_|⟨e,_|_⟩⟩⟩⟩⟩<;>first | exact q _ _ _ _ _ | cases h
def ln6{P:List Value->Prop}(q:∀a b c d e f,P [a,b,c,d,e,f]):∀us,us.length=6->P us:=by intro us h;rcases us with _|⟨a,_|⟨b,_|⟨c,_|⟨d,_|⟨e,_|⟨f,_|_⟩⟩⟩⟩⟩⟩<;>first | exact q _ _ _ _ _ _ | cases h
def ln7{P:List Value->Prop}(q:∀a b c d e f g,P [a,b,c,d,e,f,g]):∀us,us.length=7->P us:=by intro us h;rcases us with _|⟨a,_|⟨b,_|⟨c,_|⟨d,_|⟨e,_|⟨f,_|⟨g,_|_⟩⟩⟩⟩⟩⟩⟩<;>first | exact q _ _ _ _ _ _ _ | cases h
def exI{α:Type}{φ:α->Prop}{a:α}(h:φ a):∃a,φ a:=⟨a,h⟩
def Wl{φ:Addr->Prop}(a:mg c=some (.ref C))(h:φ C):∀C,mg c=some (.ref C)->φ C:=by
 intro C e;cases a.symm.trans e;exact h
def Wm(T:YY P w K mg base)(a:W.nsIn (Hd.heap w.params) mainGlobals x=some (some (.ref f)))(F:Fun (Hd.heap w.params) x x st f fd)(b:BtT x x st ps):Def K mg x st ps:=by
 obtain ⟨rfl,g⟩:=T;exact ⟨f,fd,F,F.binds b,g a⟩
def UL{cs:List Str}{i:List D->Fs->Res Fs}(a:mg c=some (.ref C))(h1:W.makesIn K C=true)(h2:W.findIn K (.ref C) "__init__"=some (some (.ref f)))(h3:W.isFn K (.ref f)=true)(h4:W.keepIn K (.ref C)=true)(F:Fun K x q st f fd)(o:Fun K x q st f fd->FnOk P w K mg base (CXR P w) j f fd ps (spI K mg n cs i))(b:BtT x q st ps)(e:cs.contains c=true):CalI P w K mg base j c n cs i:=⟨_,_,_,_,a,⟨h1,h2,h3,h4⟩,o F,F.binds b,e⟩
def oN{cs:List Str}{i:List D->Fs->Res Fs}(a:mg c=some (.ref C))(h1:W.specialIn K (.ref C) "__getattribute__"=some (some (.builtin "type.__getattribute__")))(h2:W.readsIn K C (.type "type")=true)(h3:W.findCls K (.ref C) (.type "type") "__init__"=some (.val (.ref f)))(h4:W.handedIn (.ref f)=true)(F:Fun K x q st f fd)(o:Fun K x q st f fd->FnOk P w K mg base (CXR P w) j f fd ps (spI K mg n cs i))(b:BtT x q st ps):CalS P w K mg base j c "__init__" n cs i:=⟨_,_,_,_,a,⟨h1,⟨_,h2,h3⟩,h4,F.kp⟩,o F,F.binds b⟩
def LK{i:List D->Res D}(a:mg c=some (.ref C))(p:Cls K C)(h1:W.findIn K (.ref C) m=some (some (.ref f)))(h2:W.isFn K (.ref f)=true)(F:Fun K x q st f fd)(o:Fun K x q st f fd->FnOk P w K mg base (CXR P w) j f fd ps (spD K mg ps.length i))(b:BtT x q st ps)(hj:j<=l)(e:ps.length=n+1):∀C,mg c=some (.ref C)->Cls K C/\∃g fd ps,Meth K C m g/\FnOk P w K mg base (CXR P w) l g fd ps (spD K mg ps.length i)/\Binds K fd ps []/\ps.length=n+1:=Wl a ⟨p,_,_,_,⟨h1,h2,F.kp⟩,(o F).mono hj,F.binds b,e⟩
def lawK{oc kV dc pm cd ct:Value}{od an:Option Addr}{sl:Array (Option Value)}{fa:Addr}{sp:Sp}(a:mg "law"=some (.ref f))(hfa:mg "law"=some (.ref fa))(l:K.lookup f=some ⟨oc,od,.func (W.fnOf "law" "law" (Fd Jz) (DX Jz) (Av Jz) .none kV dc pm an cd ct),sl⟩)(h1:W.codeIn K cd "law"=true)(h2:W.keepIn K (.ref f)=true)(o:∀base fd,Fun K "law" "law" Jz f fd->FnOk P w K mg base (CXR P w) n f fd ["_law_script"] sp):∃fd:FuncData,(∀(s:Shared) (v:Value),BindsTo s fd ⟨[v],[]⟩ [("_law_script",v)])/\∀base:Heap,K.In base->base.Ns mainGlobals mg->FnOk P w K mg base (CXR P w) n fa fd ["_law_script"] sp:=by
 cases a.symm.trans hfa;exact ⟨_,λs v=>.of_eq rfl,λbase _ _=>o base _ (FP l h1 h2)⟩
def cal1{mb:MS}(st:Stmt)(N:List Str)(D:Def K mg x st ps/\Ca N ps (Av st))(h:N.Nodup->∀(f:Addr) (cdv:Value) (A:Around) (outer:List Env) (s:Shared) (H:Hp) (E:XK),Room n (A.deeper (PyProof.Rows.envOfC x (Av st) s.heap.objs.size f cdv))->∃t,DSs (cxOf (CXR P w) P w K mg base N x (Av st) f cdv A outer s H E) E (DX st) t mb):Cal P w K mg base (n+1) x ps (fn N.length mb):=D.1.cal D.2 (h D.2.nd)
end
local macro_rules | `(tactic| walk_at "b")=>`(tactic| first | (exact λ_ _ _ _ _ _=>My.ln1 λ_=>rfl) | (exact λ_ _ _ _ _ _=>My.ln2 λ_ _=>rfl) | (exact λ_ _ _ _ _ _=>My.ln3 λ_ _ _=>rfl) | (exact λ_ _ _ _ _ _=>My.ln4 λ_ _ _ _=>rfl) | (exact λ_ _ _ _ _ _=>My.ln5 λ_ _ _ _ _=>rfl) | (exact λ_ _ _ _ _ _=>My.ln6 λ_ _ _ _ _ _=>rfl) | (exact λ_ _ _ _ _ _=>My.ln7 λ_ _ _ _ _ _ _=>rfl))
set_option hygiene false
local macro_rules | `(tactic| walk_at "y")=>`(tactic| obtain ⟨rfl,g⟩:=id T)
local macro_rules | `(tactic| walk_at "q")=>`(tactic| all_goals first | k_is | k_exc | kit_is | kts_exm | kernel_rfl | rfl | skip)
local macro_rules | `(tactic| walk_at "z")=>`(tactic| (walk_at "y"; refine' g ?_;k_is))
local macro_rules | `(tactic| walk_at "z1")=>`(tactic| (walk_at "y"; refine' My.exI (g ?_);walk_at "q"))
local macro_rules | `(tactic| walk_at "z2")=>`(tactic| (walk_at "y"; refine' My.exI ⟨g ?_,?_⟩;walk_at "q"))
local macro_rules | `(tactic| walk_at "fl")=>`(tactic| (walk_at "y"; (repeat' first | exact FW.nil | refine' FW.cons (My.Wl (g ?_) ⟨⟨?_,?_,?_,?_⟩,?_⟩) ?_);walk_at "q"))
local macro_rules | `(tactic| walk_at "d")=>`(tactic| (refine' My.Wm T ?_ (L2.FP ?_ ?_ ?_) (by walk_at "b");walk_at "q"))
local macro_rules | `(tactic| walk_at "D")=>`(tactic| (refine' ⟨My.Wm T ?_ (L2.FP ?_ ?_ ?_) (by walk_at "b"),by walk_at "sc"⟩;walk_at "q"))
set_option hygiene true
section
variable{P:Program}{w:World}{K:W.Frag}{mg:Str->Option Value}{base:Heap}(T:YY P w K mg base)
include T
def nW:mg "abs"=none:=by walk_at "z"
def Py:mg "all"=none:=by walk_at "z"
def oX:mg "bool"=none:=by walk_at "z"
def Te:mg "enumerate"=none:=by walk_at "z"
def sE:mg "int"=none:=by walk_at "z"
def Zhh:mg "isinstance"=none:=by walk_at "z"
def TV:mg "len"=none:=by walk_at "z"
def Mz:mg "list"=none:=by walk_at "z"
def jl:mg "max"=none:=by walk_at "z"
def rB:mg "min"=none:=by walk_at "z"
def K8:mg "range"=none:=by walk_at "z"
def wk:mg "set"=none:=by walk_at "z"
def Zom:mg "sorted"=none:=by walk_at "z"
def M8:mg "tuple"=none:=by walk_at "z"
def Rk:mg "zip"=none:=by walk_at "z"
def RM:∃tk,mg "MOST_CELLS"=some (.int 64 tk):=by walk_at "z1"
def Rw:∃tk,mg "MOST_SPOTS"=some (.int 16 tk):=by walk_at "z1"
def S9:∃tk,mg "MOST_VALUES"=some (.int 3 tk):=by walk_at "z1"
def Uo:∃tk,mg "MOST_WIDE"=some (.int 64 tk):=by walk_at "z1"
def Ow:∃C,mg "BadFloor"=some (.ref C)/\W.excIn K C Lq "ValueError.__new__"=true:=by walk_at "z2"
def Yi:∃C,mg "BadThing"=some (.ref C)/\W.excIn K C Lq "ValueError.__new__"=true:=by walk_at "z2"
def Wo:∃C,mg "BadTriangle"=some (.ref C)/\W.excIn K C Lq "ValueError.__new__"=true:=by walk_at "z2"
def Sv:FW K mg objs "colour":=by walk_at "fl"
def cI:FW K mg objs "part":=by walk_at "fl"
def bI:FW K mg objs "triangle":=by walk_at "fl"
set_option hygiene false in
local macro_rules | `(tactic| walk_at "e")=>`(tactic| repeat' first
 | exact Ef
 | exact dB
 | exact J4
 | exact wM
 | exact Br
 | exact qG
 | exact d_v _
 | refine' BL ?_ ?_
 | refine' Gd ?_ ?_
 | refine' GX (by first | assumption | exact CalO.cal (by assumption) | exact CalN.cal (by assumption)) hr (by decide) rfl CT ?_
 | refine' pJ (by first | assumption | exact CalO.cal (by assumption) | exact CalN.cal (by assumption)) hr (by decide) rfl ?_
 | refine' iQ (by first | assumption | exact CalO.cal (by assumption) | exact CalN.cal (by assumption)) hr (by decide) rfl ?_
 | refine' Q3 ?_ ?_
 | refine' Zxn ?_ ?_
 | refine' lR ?_ ?_
 | refine' aA ?_ ?_
 | refine' my ?_ ?_
 | refine' rD ?_ ?_
 | refine' ZwO ?_ ?_
 | refine' yU ?_ ?_
 | refine' T3 ?_ ?_
 | refine' zJ ?_ ?_
 | refine' uG ?_ ?_
 | refine' qt ?_ ?_
 | refine' fV ?_ ?_
 | refine' gG ?_ ?_
 | refine' d_gt ?_ ?_
 | refine' uw ?_ ?_
 | refine' Kf ?_ ?_
 | refine' Zc ?_ ?_
 | refine' gY ?_ ?_
 | refine' d_or ?_ ?_
 | refine' Jv hr ?_ ?_
 | refine' pW hr ?_ ?_
 | refine' wK hr ?_ ?_
 | refine' dt_nin hr ?_ ?_
 | refine' bJ hr ?_ ?_
 | refine' d_ne hr ?_ ?_
 | refine' d_in hr ?_ ?_
 | refine' d_nin hr ?_ ?_
 | exact PL rfl (oX T) yL
 | exact PL rfl (sE T) qM
 | exact PL rfl (Mz T) VN
 | exact PL rfl (M8 T) Mv
 | refine' GR (uo rfl) wj rfl (jl T) sy ?_
 | refine' GR (fU rfl) lq rfl (rB T) Zuc ?_
 | refine' GR lM ou rfl (nW T) lJ ?_
 | refine' GR wI ZkJ rfl (Zhh T) yS ?_
 | refine' GR ZG cB rfl (TV T) SX ?_
 | refine' GR lw vz rfl (Zom T) ZmZ ?_
 | refine' TQ (Sv T) ?_
 | refine' TQ (cI T) ?_
 | refine' TQ (bI T) ?_
 | refine' Wc ?_ ?_
 | refine' YJ ?_ ?_
 | refine' kO ?_ ?_ ?_
 | refine' il ?_ ?_ ?_
 | refine' ue ?_
 | refine' Ho ?_
 | refine' jJ ?_
 | refine' Ui ?_
 | refine' Vw ?_
 | refine' d_isN ?_
 | refine' d_notN ?_
 | refine' su ?_
 | refine' Zxm ?_
 | refine' Nu ?_
 | refine' iD ?_
 | refine' Gv ?_
 | refine' DW.dt ?_
 | exact De
 | exact Sh
 | exact ds_retN
 | exact UJ
 | exact ds_brk
 | exact ds_pass
 | refine' Bc ?_
 | refine' Ah ?_ ?_
 | refine' Cu ?_
 | refine' Dc ?_ ?_ ?_
 | refine' Fv hN rfl (by first | exact Or.inl rfl | exact Or.inr rfl) ?_
 | refine' Zsq hN rfl (by first | exact Or.inl rfl | exact Or.inr rfl) ?_ ?_
 | refine' ZuE _ ?_
 | refine' Zvq ?_
 | refine' iV ?_ ?_
 | refine' Hl PassesOwn.leaving rfl ?_ ?_ ?_
 | exact J2 hN rfl (by first | exact Or.inl rfl | exact Or.inr rfl) (by decide)
 | refine' Up rfl ?_
 | refine' Ni ?_ ?_
 | refine' yx rfl (K8 T) ?_
 | refine' DK ?_
 | refine' Zu1 ?_
 | refine' U5 rfl yai yaj ?_ ?_
 | refine' U5 rfl yay yaz ?_ ?_
 | refine' U5 rfl yam yan ?_ ?_
 | decide
 | fail)
local macro_rules | `(tactic| walk_at "co")=>`(tactic| exact Ep.of rfl rfl (by kernel_rfl) rfl (by repeat' (first | exact trivial | refine ⟨rfl,?_⟩)) (by repeat' (first | exact trivial | refine ⟨rfl,?_⟩)))
local macro_rules | `(tactic| walk_at "cg")=>`(tactic| exact λ_ _ _ _ _=>J2 (by show List.Nodup ((_:List Str) ++ (_:List Str));decide +kernel) rfl (by first | exact Or.inl rfl | exact Or.inr rfl) (by decide))
local macro_rules | `(tactic| walk_at "ct")=>`(tactic| exact λ_ _ _ _ _=>qi)
local macro_rules | `(tactic| walk_at "ce")=>`(tactic| (intro _ _ _ _ _;walk_at "e"))
def lF:Cal P w K mg base 1 "_law_cell_at" ["_law_script","_law_k"] Fj:=by
 exact cal1 (top 79) ["_law_script","_law_k"] (by walk_at "D") (λhN f cdv A outer s H E hr=>⟨_,(by walk_at "e")⟩)
def Zgw:Cal P w K mg base 1 "_law_order" ["_law_many","_law_number"] Qu:=by
 exact cal1 (top 87) ["_law_many","_law_number","_law_found","_law_left","_law_k"] (by walk_at "D") (λhN f cdv A outer s H E hr=>⟨_,(Ah (by walk_at "e")
  (Ah (ZoU (i:=3) hN rfl (Or.inl rfl) rfl rfl (K8 T) rfl (Mz T) (BL (d_v 0) Br))
  (Ah (Hl PassesOwn.leaving rfl (by walk_at "e") (by walk_at "e")
  (Bc (uD 2 3 (Vv 3 (by walk_at "e")))))
  (by walk_at "e"))))⟩)
def cz:Cal P w K mg base 1 "check_before_eye" ["corners"] Jb:=by
 obtain ⟨yaB,yam,yan⟩:=(Wo T);exact cal1 (top 25) ["corners","corner"] (by walk_at "D") (λhN f cdv A outer s H E hr=>⟨_,(by walk_at "e")⟩)
def Mr:Cal P w K mg base 1 "is_whole" ["thing"] GQ:=by
 exact cal1 (top 7) ["thing"] (by walk_at "D") (λhN f cdv A outer s H E hr=>⟨_,(by walk_at "e")⟩)
def rJ:Cal P w K mg base 2 "are_values" ["thing"] Pk:=by
 have yak:=Mr T;obtain ⟨tk_MOST_VALUES,S9⟩:=(S9 T)
 exact cal1 (top 55) ["thing"] (by walk_at "D") (λhN f cdv A outer s H E hr=>⟨_,(Ah (Dc (DW.dt (Kf (by walk_at "e") (Nu (T3 (by walk_at "e") (NB rfl S9)))))
  (Bc (Cu J4))
  De)
  (Bc (Cu (GR (QC rfl) Od rfl (Py T) QW (BL (Dj (own:=["number"]) (cap:=[]) (DK (d_v 0)) (by walk_at "co") rfl (by walk_at "cg") (by walk_at "ct") (by walk_at "ce")) Br)))))⟩)
def xJ:Cal P w K mg base 3 "is_corner" ["thing"] Pz:=by
 have yak:=Mr T;have c_are_values:=rJ T
 exact cal1 (top 54) ["thing"] (by walk_at "D") (λhN f cdv A outer s H E hr=>⟨_,(Ah (by walk_at "e")
  (Ah (Dc (Ho (Gv (GR (QC rfl) Od rfl (Py T) QW (BL (Dj (own:=["number"]) (cap:=[]) (by walk_at "e") (by walk_at "co") rfl (by walk_at "cg") (by walk_at "ct") (by walk_at "ce")) Br))))
  (Bc (Cu J4))
  De)
  (by walk_at "e")))⟩)
def Zex:Cal P w K mg base 4 "check_triangle" ["triangle"] QQ:=by
 have c_is_corner:=xJ T;obtain ⟨yaB,yam,yan⟩:=(Wo T);exact cal1 (top 53) ["triangle","corner"] (by walk_at "D") (λhN f cdv A outer s H E hr=>⟨_,(by walk_at "e")⟩)
theorem ig{f:Addr}{fd:FuncData}(F:Fun K "__init__" "Thing.__init__" V1 f fd):FnOk P w K mg base (CXR P w) 5 f fd ["self","triangle"] (spI K mg 1 objs JH):=by
 have yao:=cz T;have c_check_triangle:=Zex T
 exact okI F XX (by decide) rfl (λcdv A outer s H E hr=>have hN:=XX.nd;⟨_,(K4 (by walk_at "e")
  (K4 (by walk_at "e")
  (Pr (bI T) (d_v 1)
  Q6)))⟩)
def Va:CalS P w K mg base 5 "Thing" "__init__" 1 objs JH:=by
 walk_at "y"; refine' oN (g ?_) ?_ ?_ ?_ ?_ (FP ?_ ?_ ?_) (ig T) (by walk_at "b");walk_at "q"
def bU:Cal P w K mg base 1 "greatest_divisor" ["numbers"] JN:=by
 exact cal1 (top 9) ["numbers","found","number","rest","left"] (by walk_at "D") (λhN f cdv A outer s H E hr=>⟨_,(Ah (by walk_at "e")
  (Ah (Hl PassesOwn.leaving rfl (DK (d_v 0)) (by walk_at "e")
  (Ah (by walk_at "e")
  (Bc (Z5 PassesOwn.leaving (Jv hr (d_v 3) Ef)
  (by walk_at "e")))))
  (by walk_at "e")))⟩)
def b8:Cal P w K mg base 2 "is_fraction" ["thing"] M5:=by
 have yak:=Mr T;have yap:=bU T;exact cal1 (top 20) ["thing"] (by walk_at "D") (λhN f cdv A outer s H E hr=>⟨_,(by walk_at "e")⟩)
def ZD:Cal P w K mg base 3 "check_colour" ["colour"] Lw:=by
 have yaC:=b8 T;obtain ⟨yaJ,yay,yaz⟩:=(Yi T);exact cal1 (top 62) ["colour"] (by walk_at "D") (λhN f cdv A outer s H E hr=>⟨_,(by walk_at "e")⟩)
def yE:Cal P w K mg base 3 "check_part" ["part"] QH:=by
 have yaC:=b8 T;obtain ⟨yaJ,yay,yaz⟩:=(Yi T);exact cal1 (top 63) ["part"] (by walk_at "D") (λhN f cdv A outer s H E hr=>⟨_,(by walk_at "e")⟩)
theorem nQ{f:Addr}{fd:FuncData}(F:Fun K "__init__" "Glass.__init__" Vn f fd):FnOk P w K mg base (CXR P w) 7 f fd ["self","triangle","colour","part"] (spI K mg 3 objs Ky):=by
 have yaq:=Va T;have yaw:=ZD T;have c_check_part:=yE T
 exact okI F Ye (by decide) rfl (λcdv A outer s H E hr=>have hN:=Ye.nd;⟨_,(Rr yaq hr (by decide) rfl CT (λ_ h=>h) (BL (d_v 1) Br)
  (K4 (by walk_at "e")
  (K4 (by walk_at "e")
  (Pr (Sv T) (d_v 2)
  (Pr (cI T) (d_v 3)
  Q6)))))⟩)
def mH:CalI P w K mg base 7 "Glass" 3 objs Ky:=by
 walk_at "y"; refine' UL (g ?_) ?_ ?_ ?_ ?_ (FP ?_ ?_ ?_) (nQ T) (by walk_at "b") rfl;walk_at "q"
theorem xR{f:Addr}{fd:FuncData}(F:Fun K "__init__" "Plain.__init__" Yw f fd):FnOk P w K mg base (CXR P w) 7 f fd ["self","triangle","colour"] (spI K mg 2 objs Ks):=by
 have yaq:=Va T;have yaw:=ZD T
 exact okI F cQ (by decide) rfl (λcdv A outer s H E hr=>have hN:=cQ.nd;⟨_,(Rr yaq hr (by decide) rfl CT (λ_ h=>h) (BL (d_v 1) Br)
  (K4 (by walk_at "e")
  (Pr (Sv T) (d_v 2)
  Q6)))⟩)
def rM:CalI P w K mg base 7 "Plain" 2 objs Ks:=by
 walk_at "y"; refine' UL (g ?_) ?_ ?_ ?_ ?_ (FP ?_ ?_ ?_) (xR T) (by walk_at "b") rfl;walk_at "q"
def zp:Cal P w K mg base 1 "check_values" ["triangle","least"] Qo:=by
 exact cal1 (top 61) ["triangle","least"] (by walk_at "D") (λhN f cdv A outer s H E hr=>⟨_,(Bc (Dc (by walk_at "e")
  Zrb
  De))⟩)
theorem ZmU{f:Addr}{fd:FuncData}(F:Fun K "__init__" "Shaded.__init__" bT f fd):FnOk P w K mg base (CXR P w) 7 f fd ["self","triangle"] (spI K mg 1 objs Kg):=by
 have yaq:=Va T;have c_check_values:=zp T
 exact okI F Wb (by decide) rfl (λcdv A outer s H E hr=>have hN:=Wb.nd;⟨_,(Rr yaq hr (by decide) rfl CT (λ_ h=>h) (BL (d_v 1) Br)
  (K4 (by walk_at "e")
  Q6))⟩)
def Zmf:CalI P w K mg base 7 "Shaded" 1 objs Kg:=by
 walk_at "y"; refine' UL (g ?_) ?_ ?_ ?_ ?_ (FP ?_ ?_ ?_) (ZmU T) (by walk_at "b") rfl;walk_at "q"
def WX:Cal P w K mg base 1 "_law_mixed" ["_law_cell","_law_k"] GD:=by
 exact cal1 (top 80) ["_law_cell","_law_k","_law_number"] (by walk_at "D") (λhN f cdv A outer s H E hr=>⟨_,(by walk_at "e")⟩)
def qO:Cal P w K mg base 2 "_law_corner" ["_law_cell","_law_k","_law_many"] Mq:=by
 have yaI:=WX T
 exact cal1 (top 81) ["_law_cell","_law_k","_law_many","_law_number","_law_other","_law_third","_law_values","_law_h","_law_times","_law_near","_law_free","_law_x","_law_y","_law_w"] (by walk_at "D") (λhN f cdv A outer s H E hr=>⟨_,(Ah (by walk_at "e")
  (Ah (by walk_at "e")
  (Ah (by walk_at "e")
  (Ah (Fv (i:=6) hN rfl (Or.inl rfl) (PP Ph N6 rfl (M8 T) Mv (BL (Dj (own:=["_law_j"]) (cap:=[("_law_k",1),("_law_cell",0)]) (by walk_at "e") (by walk_at "co") rfl (by walk_at "cg") (by walk_at "ct") (by walk_at "ce")) Br)))
  (Ah (by walk_at "e")
  (Ah (Dc (by walk_at "e")
  (Bc (Fv (i:=6) hN rfl (Or.inl rfl) (PP Ph N6 rfl (M8 T) Mv (BL (Dj (own:=["_law_value"]) (cap:=[]) (DK (d_v 6)) (by walk_at "co") rfl (by walk_at "cg") (by walk_at "ct") (by walk_at "ce")) Br))))
  De)
  (by walk_at "e")))))))⟩)
def nM:Cal P w K mg base 1 "_law_lowest" ["_law_top","_law_bottom"] Lj:=by
 exact cal1 (top 83) ["_law_top","_law_bottom","_law_one","_law_other"] (by walk_at "D") (λhN f cdv A outer s H E hr=>⟨_,(Ah (by walk_at "e")
  (Ah (by walk_at "e")
  (Ah (Z5 PassesOwn.leaving (Jv hr (d_v 3) Ef)
  (Bc (um (i:=2) (j:=3) rfl hN rfl rfl (by decide) rfl rfl (d_v 3) (aA (d_v 2) (d_v 3)))))
  (by walk_at "e"))))⟩)
def wg:Cal P w K mg base 1 "_law_shifted" ["_law_corner_here","_law_columns","_law_rows"] Ms:=by
 exact cal1 (top 82) ["_law_corner_here","_law_columns","_law_rows","_law_x","_law_y","_law_w","_law_h","_law_values"] (by walk_at "D") (λhN f cdv A outer s H E hr=>⟨_,(by walk_at "e")⟩)
def vV:Cal P w K mg base 9 "_law_thing" ["_law_cell","_law_columns","_law_rows"] Kw:=by
 have ci_Glass:=mH T;have ci_Plain:=rM T;have ci_Shaded:=Zmf T;have yaI:=WX T;have c__law_corner:=qO T;have c__law_lowest:=nM T;have c__law_shifted:=wg T
 exact cal1 (top 84) ["_law_cell","_law_columns","_law_rows","_law_number","_law_triangle","_law_colour","_law_bottom","_law_part_here"] (by walk_at "D") (λhN f cdv A outer s H E hr=>⟨_,(Ah (by walk_at "e")
  (Ah (Fv (i:=4) hN rfl (Or.inl rfl) (PP Ph N6 rfl (M8 T) Mv (BL (Dj (own:=["_law_k"]) (cap:=[("_law_rows",2),("_law_columns",1),("_law_cell",0)]) (by walk_at "e") (by walk_at "co") rfl (by walk_at "cg") (by walk_at "ct") (by walk_at "ce")) Br)))
  (Ah (by walk_at "e")
  (Ah (by walk_at "e")
  (Ah (by walk_at "e")
  (Ah (Dc (by walk_at "e")
  (Bc (Cu (Uj ci_Shaded hr (by decide) rfl CT (BL (d_v 4) Br))))
  De)
  (Ah (Dc (by walk_at "e")
  (Bc (Cu (Uj ci_Plain hr (by decide) rfl CT (by walk_at "e"))))
  De)
  (Bc (Cu (Uj ci_Glass hr (by decide) rfl CT (by walk_at "e")))))))))))⟩)
def cP:Cal P w K mg base 10 "_law_things" ["_law_cells","_law_columns","_law_rows"] JQ:=by
 have c__law_thing:=vV T;exact cal1 (top 85) ["_law_cells","_law_columns","_law_rows"] (by walk_at "D") (λhN f cdv A outer s H E hr=>⟨_,(Bc (Cu (Qx (Jo.blk ⟨rfl,rfl,rfl,rfl⟩) (own:=["_law_cell"]) (cap:=[("_law_rows",2),("_law_columns",1)]) (DK (d_v 0)) (by walk_at "co") rfl (by walk_at "cg") (by walk_at "ct") (by walk_at "ce"))))⟩)
def Tp:Cal P w K mg base 2 "is_between" ["thing","least","most"] Hw:=by
 have yak:=Mr T;exact cal1 (top 8) ["thing","least","most"] (by walk_at "D") (λhN f cdv A outer s H E hr=>⟨_,(by walk_at "e")⟩)
def YZ:Cal P w K mg base 3 "check_floor" ["width","height"] MT:=by
 have yad:=Tp T;obtain ⟨yar,yai,yaj⟩:=(Ow T);obtain ⟨tk_MOST_CELLS,RM⟩:=(RM T)
 exact cal1 (top 37) ["width","height"] (by walk_at "D") (λhN f cdv A outer s H E hr=>⟨_,(Bc (Dc (DW.dt (Kf (Ho (Gv (GX yad hr (by decide) rfl CT (BL (d_v 0) (BL Ef (BL (NB rfl RM) Br)))))) (Nu (Ho (Gv (GX yad hr (by decide) rfl CT (BL (d_v 1) (BL Ef (BL (NB rfl RM) Br)))))))))
  (by walk_at "e")
  De))⟩)
def eN:Cal P w K mg base 1 "ground_or_none" ["ground"] Qp:=by
 exact cal1 (top 41) ["ground"] (by walk_at "D") (λhN f cdv A outer s H E hr=>⟨_,(by walk_at "e")⟩)
theorem Zdw{f:Addr}{fd:FuncData}(F:Fun K "colour_at" "Plain.colour_at" aV f fd):FnOk P w K mg base (CXR P w) 1 f fd ["self","values"] (spD K mg 2 Uk):=by
 exact okM F YL (λcdv A outer s H E hr=>have hN:=YL.nd;⟨_,(by walk_at "e")⟩)
theorem jN{f:Addr}{fd:FuncData}(F:Fun K "colour_at" "Shaded.colour_at" ZZ f fd):FnOk P w K mg base (CXR P w) 1 f fd ["self","values"] (spD K mg 2 Tc):=by
 exact okM F ZF (λcdv A outer s H E hr=>have hN:=ZF.nd;⟨_,(by walk_at "e")⟩)
theorem iR{f:Addr}{fd:FuncData}(F:Fun K "colour_at" "Glass.colour_at" We f fd):FnOk P w K mg base (CXR P w) 1 f fd ["self","values"] (spD K mg 2 X5):=by
 exact okM F Zf (λcdv A outer s H E hr=>have hN:=Zf.nd;⟨_,(by walk_at "e")⟩)
def oY:Fi P w K mg base 1 1 "colour_at" Lk:=by
 walk_at "y"; refine' Fi.cons (LK (g ?_) ⟨?_,?_,?_,?_⟩ ?_ ?_ (FP ?_ ?_ ?_) (Zdw T) (by walk_at "b") (by decide) rfl) (.cons (LK (g ?_) ⟨?_,?_,?_,?_⟩ ?_ ?_ (FP ?_ ?_ ?_) (jN T) (by walk_at "b") (by decide) rfl) (.cons (LK (g ?_) ⟨?_,?_,?_,?_⟩ ?_ ?_ (FP ?_ ?_ ?_) (iR T) (by walk_at "b") (by decide) rfl) .nil));walk_at "q"
def Ka:Cal P w K mg base 2 "ratio" ["top","bottom"] Fz:=by
 have yap:=bU T;exact cal1 (top 12) ["top","bottom","divisor"] (by walk_at "D") (λhN f cdv A outer s H E hr=>⟨_,(by walk_at "e")⟩)
def mZ:Cal P w K mg base 3 "minus" ["one","other"] Nt:=by
 have yas:=Ka T;exact cal1 (top 14) ["one","other"] (by walk_at "D") (λhN f cdv A outer s H E hr=>⟨_,(by walk_at "e")⟩)
def V0:Cal P w K mg base 3 "plus" ["one","other"] Ig:=by
 have yas:=Ka T;exact cal1 (top 13) ["one","other"] (by walk_at "D") (λhN f cdv A outer s H E hr=>⟨_,(by walk_at "e")⟩)
def Zkl:Cal P w K mg base 3 "product" ["one","other"] MJ:=by
 have yas:=Ka T;exact cal1 (top 15) ["one","other"] (by walk_at "D") (λhN f cdv A outer s H E hr=>⟨_,(by walk_at "e")⟩)
def ZhJ:Cal P w K mg base 4 "laid_over" ["glass","colour"] Nj:=by
 have c_minus:=mZ T;have yaS:=V0 T;have c_product:=Zkl T;exact cal1 (top 46) ["glass","colour","left"] (by walk_at "D") (λhN f cdv A outer s H E hr=>⟨_,(by walk_at "e")⟩)
theorem Vx{f:Addr}{fd:FuncData}(F:Fun K "is_glass" "Thing.is_glass" Zd f fd):FnOk P w K mg base (CXR P w) 1 f fd ["self"] (spD K mg 1 Mj):=by
 exact okM F Ym (λb A a s H E d=>have c:=Ym.nd;⟨_,(Bc (Cu J4))⟩)
theorem ZdU{f:Addr}{fd:FuncData}(F:Fun K "is_glass" "Glass.is_glass" V7 f fd):FnOk P w K mg base (CXR P w) 1 f fd ["self"] (spD K mg 1 Vf):=by
 exact okM F aq (λb A a s H E d=>have c:=aq.nd;⟨_,(Bc (Cu J4))⟩)
def RW:Fi P w K mg base 1 0 "is_glass" HX:=by
 walk_at "y"; refine' Fi.cons (LK (g ?_) ⟨?_,?_,?_,?_⟩ ?_ ?_ (FP ?_ ?_ ?_) (Vx T) (by walk_at "b") (by decide) rfl) (.cons (LK (g ?_) ⟨?_,?_,?_,?_⟩ ?_ ?_ (FP ?_ ?_ ?_) (Vx T) (by walk_at "b") (by decide) rfl) (.cons (LK (g ?_) ⟨?_,?_,?_,?_⟩ ?_ ?_ (FP ?_ ?_ ?_) (ZdU T) (by walk_at "b") (by decide) rfl) .nil));walk_at "q"
def Mh:Cal P w K mg base 1 "under" ["one","other"] FJ:=by
 exact cal1 (top 17) ["one","other"] (by walk_at "D") (λhN f cdv A outer s H E hr=>⟨_,(by walk_at "e")⟩)
def ni:Cal P w K mg base 2 "layers_over" ["nearest","sights"] Li:=by
 have cm_is_glass:=RW T;have yaD:=Mh T
 exact cal1 (top 45) ["nearest","sights","layers","sight","place"] (by walk_at "D") (λhN f cdv A outer s H E hr=>⟨_,(Ah (by walk_at "e")
  (Ah (Hl PassesOwn.leaving rfl (DK (d_v 1)) (by walk_at "e")
  (Bc (Dc (DW.dt (Zc (Gv (Sw cm_is_glass hr (by decide) CT (Gd (d_v 3) Ef))) (by walk_at "e")))
  (Ah (Fv (i:=4) hN rfl (Or.inl rfl) (Vv 2 (GR ZG cB rfl (TV T) SX (BL (Dj (own:=["layer"]) (cap:=[("sight",3)]) (DK (d_v 2)) (by walk_at "co") rfl (by walk_at "cg") (λ_ _ _ _ _=>ZqV (by walk_at "e")) (λ_ _ _ _ _=>(d_v 0))) Br))))
  (Bc (nO 2 (d_v 4) (d_v 3))))
  De)))
  (by walk_at "e")))⟩)
def nH:Cal P w K mg base 2 "nearest_of" ["sights"] Qy:=by
 have cm_is_glass:=RW T;have yaD:=Mh T
 exact cal1 (top 44) ["sights","nearest","sight"] (by walk_at "D") (λhN f cdv A outer s H E hr=>⟨_,(Ah (by walk_at "e")
  (Ah (Hl PassesOwn.leaving rfl (DK (d_v 0)) (by walk_at "e")
  (Ah (Dc (Gv (Sw cm_is_glass hr (by decide) CT (Gd (d_v 2) Ef)))
  (Bc UJ)
  De)
  (by walk_at "e")))
  (by walk_at "e")))⟩)
def Zhy:Cal P w K mg base 5 "colour_of" ["sights","ground"] M4:=by
 have cm_colour_at:=oY T;have c_laid_over:=ZhJ T;have c_layers_over:=ni T;have c_nearest_of:=nH T
 exact cal1 (top 43) ["sights","ground","nearest","colour","sight"] (by walk_at "D") (λhN f cdv A outer s H E hr=>⟨_,(Ah (by walk_at "e")
  (Ah (by walk_at "e")
  (Ah (Dc (Vw (d_v 2))
  (Bc (Fv (i:=3) hN rfl (Or.inl rfl) (vL cm_colour_at hr (by decide) CT (Gd (d_v 2) Ef) (by walk_at "e"))))
  De)
  (by walk_at "e"))))⟩)
def zP:Cal P w K mg base 4 "mean_of" ["some"] Oi:=by
 have yas:=Ka T;have yaS:=V0 T;exact cal1 (top 16) ["some","total","fraction"] (by walk_at "D") (λhN f cdv A outer s H E hr=>⟨_,(by walk_at "e")⟩)
def Yd:Cal P w K mg base 6 "cell_colour" ["sights_by_spot","ground"] K5:=by
 have c_colour_of:=Zhy T;have yaL:=zP T;exact cal1 (top 50) ["sights_by_spot","ground"] (by walk_at "D") (λhN f cdv A outer s H E hr=>⟨_,(Bc (Cu (GX yaL hr (by decide) rfl CT (BL (Dj (own:=["sights"]) (cap:=[("ground",1)]) (DK (d_v 0)) (by walk_at "co") rfl (by walk_at "cg") (by walk_at "ct") (by walk_at "ce")) Br))))⟩)
def QF:Cal P w K mg base 1 "summed_products" ["three","other"] Ff:=by
 exact cal1 (top 10) ["three","other"] (by walk_at "D") (λhN f cdv A outer s H E hr=>⟨_,(by walk_at "e")⟩)
def iz:Cal P w K mg base 2 "weighed_h" ["triangle","amounts"] QS:=by
 have yab:=QF T;exact cal1 (top 31) ["triangle","amounts"] (by walk_at "D") (λhN f cdv A outer s H E hr=>⟨_,(Bc (Cu (GX yab hr (by decide) rfl CT (BL (Dj (own:=["corner"]) (cap:=[]) (DK (d_v 0)) (by walk_at "co") rfl (by walk_at "cg") (by walk_at "ct") (λ_ _ _ _ _=>(Gd (d_v 0) Ef))) (BL (d_v 1) Br)))))⟩)
def rK:Cal P w K mg base 3 "depth_and_values" ["triangle","amounts"] Pj:=by
 have yas:=Ka T;have yab:=QF T;have c_weighed_h:=iz T
 exact cal1 (top 30) ["triangle","amounts","bottom","depth","threes"] (by walk_at "D") (λhN f cdv A outer s H E hr=>⟨_,(Ah (by walk_at "e")
  (Ah (Fv (i:=3) hN rfl (Or.inl rfl) (GX yas hr (by decide) rfl CT (BL (GX yab hr (by decide) rfl CT (BL (Dj (own:=["corner"]) (cap:=[]) (DK (d_v 0)) (by walk_at "co") rfl (by walk_at "cg") (by walk_at "ct") (λ_ _ _ _ _=>(Gd (d_v 0) Ef))) (BL (d_v 1) Br))) (BL (d_v 2) Br))))
  (Ah (Fv (i:=4) hN rfl (Or.inl rfl) (ya3 rfl rfl (Rk T) rfl (Mz T) (by walk_at "e")))
  (Bc (Cu (Wc (BL (d_v 3) (BL (PP Ph N6 rfl (M8 T) Mv (BL (Dj (own:=["three"]) (cap:=[("bottom",2),("amounts",1)]) (DK (d_v 4)) (by walk_at "co") rfl (by walk_at "cg") (by walk_at "ct") (by walk_at "ce")) Br)) Br))))))))⟩)
def aX:Cal P w K mg base 1 "edge_numbers" ["one","other"] Nv:=by
 exact cal1 (top 23) ["one","other"] (by walk_at "D") (λhN f cdv A outer s H E hr=>⟨_,(by walk_at "e")⟩)
def iI:Cal P w K mg base 2 "side" ["one","other","point"] Ju:=by
 have yab:=QF T;have yax:=aX T;exact cal1 (top 22) ["one","other","point","n","number"] (by walk_at "D") (λhN f cdv A outer s H E hr=>⟨_,(by walk_at "e")⟩)
def fZ:Cal P w K mg base 3 "had" ["triangle","point"] Pn:=by
 have yao:=cz T;have c_side:=iI T;exact cal1 (top 26) ["triangle","point","turn"] (by walk_at "D") (λhN f cdv A outer s H E hr=>⟨_,(by walk_at "e")⟩)
def Zh2:Cal P w K mg base 2 "edge_sum" ["one","other","point"] KY:=by
 have yab:=QF T;have yax:=aX T;exact cal1 (top 24) ["one","other","point"] (by walk_at "D") (λhN f cdv A outer s H E hr=>⟨_,(by walk_at "e")⟩)
def yK:Cal P w K mg base 3 "weights" ["triangle","point"] QB:=by
 have c_edge_sum:=Zh2 T;exact cal1 (top 27) ["triangle","point"] (by walk_at "D") (λhN f cdv A outer s H E hr=>⟨_,(by walk_at "e")⟩)
def bL:Cal P w K mg base 4 "seen_at" ["triangle","point"] Dh:=by
 have c_depth_and_values:=rK T;have c_had:=fZ T;have c_weights:=yK T;exact cal1 (top 29) ["triangle","point"] (by walk_at "D") (λhN f cdv A outer s H E hr=>⟨_,(by walk_at "e")⟩)
def gP:Cal P w K mg base 5 "sights_at" ["things","p"] M6:=by
 have yaM:=bL T;exact cal1 (top 42) ["things","p","sights","thing","seen"] (by walk_at "D") (λhN f cdv A outer s H E hr=>⟨_,(by walk_at "e")⟩)
def Z4:Cal P w K mg base 1 "spot_at" ["column","row","spot"] Mm:=by
 exact cal1 (top 33) ["column","row","spot"] (by walk_at "D") (λhN f cdv A outer s H E hr=>⟨_,(by walk_at "e")⟩)
def lA:Cal P w K mg base 6 "sights_in" ["things","column","row","spots"] PX:=by
 have c_sights_at:=gP T;have yaN:=Z4 T;exact cal1 (top 49) ["things","column","row","spots"] (by walk_at "D") (λhN f cdv A outer s H E hr=>⟨_,(Bc (Cu (Qx (Jo.blk ⟨rfl,rfl,rfl,rfl⟩) (own:=["spot"]) (cap:=[("things",0),("row",2),("column",1)]) (DK (d_v 3)) (by walk_at "co") rfl (by walk_at "cg") (by walk_at "ct") (by walk_at "ce"))))⟩)
def ZfH:Cal P w K mg base 7 "painted_row" ["things","width","row","spots","ground"] U4:=by
 have yaE:=Yd T;have c_sights_in:=lA T;exact cal1 (top 48) ["things","width","row","spots","ground"] (by walk_at "D") (λhN f cdv A outer s H E hr=>⟨_,(Bc (Cu (Qx (Jo.blk ⟨rfl,rfl,rfl,rfl⟩) (own:=["column"]) (cap:=[("things",0),("spots",3),("row",2),("ground",4)]) (by walk_at "e") (by walk_at "co") rfl (by walk_at "cg") (by walk_at "ct") (by walk_at "ce"))))⟩)
def ug:Cal P w K mg base 3 "is_spot" ["thing"] O2:=by
 have yad:=Tp T;exact cal1 (top 39) ["thing"] (by walk_at "D") (λhN f cdv A outer s H E hr=>⟨_,(by walk_at "e")⟩)
def zY:Cal P w K mg base 4 "check_spots" ["spots"] Qi:=by
 have c_is_spot:=ug T;obtain ⟨yar,yai,yaj⟩:=(Ow T);obtain ⟨tk_MOST_SPOTS,Rw⟩:=(Rw T)
 exact cal1 (top 38) ["spots"] (by walk_at "D") (λhN f cdv A outer s H E hr=>⟨_,(Ah (Dc (DW.dt (Kf (by walk_at "e") (Kf (by walk_at "e") (Nu (T3 (by walk_at "e") (NB rfl Rw))))))
  (by walk_at "e")
  De)
  (Ah (Dc (Ho (Gv (GR (QC rfl) Od rfl (Py T) QW (BL (Dj (own:=["spot"]) (cap:=[]) (DK (d_v 0)) (by walk_at "co") rfl (by walk_at "cg") (by walk_at "ct") (by walk_at "ce")) Br))))
  (by walk_at "e")
  De)
  (Bc (Dc (Jv hr (Znq hr rfl (TV T) rfl (wk T) (d_v 0)) (by walk_at "e"))
  (by walk_at "e")
  De))))⟩)
def dU:Cal P w K mg base 5 "spots_or_middle" ["spots"] Gs:=by
 have c_check_spots:=zY T;exact cal1 (top 40) ["spots"] (by walk_at "D") (λhN f cdv A outer s H E hr=>⟨_,(by walk_at "e")⟩)
theorem Zoj{f:Addr}{fd:FuncData}{dV:Value}(F:FunD K "paint" "paint" Gw dV f fd):FnOk P w K mg base (CXR P w) 8 f fd ["things","width","height","spots","ground"] (spD K mg 5 Fy):=by
 have yaF:=YZ T;have yau:=eN T;have c_painted_row:=ZfH T;have yat:=dU T
 exact okDF F bZ (λcdv A outer s H E hr=>have hN:=bZ.nd;⟨_,(Ah (by walk_at "e")
  (Ah (by walk_at "e")
  (Ah (by walk_at "e")
  (Bc (Cu (Qx (Jo.blk ⟨rfl,rfl,rfl,rfl⟩) (own:=["row"]) (cap:=[("width",1),("things",0),("places",5),("beneath",6)]) (by walk_at "e") (by walk_at "co") rfl (by walk_at "cg") (by walk_at "ct") (by walk_at "ce")))))))⟩)
def Zns{f58:Addr}{od58:Option Addr}{an58:Option Addr}{sl58:Array (Option Value)}{oc58:Value}{kV58:Value}{dc58:Value}{pm58:Value}{cd58:Value}{ct58:Value}{dT58:Addr}{dc_58:Value}{dd_58:Option Addr}{dn_58:Nat}{ds_58:Array (Option Value)}(a58:W.nsIn K mainGlobals "paint"=some (some (.ref f58)))(l58:K.lookup f58=some ⟨oc58,od58,.func (W.fnOf "paint" "paint" (Fd Gw) (DX Gw) (Av Gw) (.ref dT58) kV58 dc58 pm58 an58 cd58 ct58),sl58⟩)(c58:W.codeIn K cd58 "paint"=true)(k58:W.keepIn K (.ref f58)=true)(dl58:K.lookup dT58=some ⟨dc_58,dd_58,.seq #[.none,.none] dn_58,ds_58⟩):Cal P w K mg base 8 "paint" ["things","width","height","spots","ground"] Fy/\CalK P w K mg base 8 "paint" ["things","width","height","spots","ground"] [] [none] Fy:=by
 have e:FunD K "paint" "paint" Gw (.ref dT58) f58 _:=⟨_,_,_,_,_,_,_,_,_,rfl,l58,c58⟩;have a:=Zoj T e;have b:Binds K (W.fnOf "paint" "paint" (Fd Gw) (DX Gw) (Av Gw) (.ref dT58) kV58 dc58 pm58 an58 cd58 ct58) ["things","width","height","spots","ground"] []:=λs c X d=>My.ln5 (P:=λc=>BindsTo s _ {pos:=c} (List.zip (["things","width","height","spots","ground"]:List Str) (c++[]))) (λ_ _ _ _ _=>BindsTo.of_defaults rfl (X _ _ dl58) rfl rfl rfl) c (by simpa using d)
 exact ⟨⟨_,_,a,b,k58,T.2 a58⟩,⟨_,_,a,λs c h X d=>by
  have f:c.length=4:=by have g:=d;simp [JR] at g;ac_rfl
  match c,f with
  | [_,_,_,_],_=>
   exact BindsTo.of_defaults rfl (X _ _ dl58) rfl rfl rfl,k58,T.2 a58⟩⟩
def QM:Cal P w K mg base 8 "paint" ["things","width","height","spots","ground"] Fy/\CalK P w K mg base 8 "paint" ["things","width","height","spots","ground"] [] [none] Fy:=by
 walk_at "y"; refine' Zns T ?_ ?_ ?_ ?_ ?_;walk_at "q"
def gO:Cal P w K mg base 11 "_law_part" ["_law_cells","_law_columns","_law_rows","_law_width","_law_height","_law_spots"] JP:=by
 have yaG:=cP T;have yaP:=(QM T).1;have yal:=(QM T).2
 exact cal1 (top 86) ["_law_cells","_law_columns","_law_rows","_law_width","_law_height","_law_spots"] (by walk_at "D") (λhN f cdv A outer s H E hr=>⟨_,(Ah (Dc (by walk_at "e")
  (Bc (Cu (Dj (own:=["_law_k"]) (cap:=[]) (by walk_at "e") (by walk_at "co") rfl (by walk_at "cg") (by walk_at "ct") (λ_ _ _ _ _=>(YJ Br)))))
  De)
  (Bc (Cu (Vc yal hr (by decide) rfl CT (by walk_at "e")))))⟩)
def uA:Cal P w K mg base 3 "check_wide" ["wide"] QG:=by
 have yad:=Tp T;obtain ⟨yar,yai,yaj⟩:=(Ow T);obtain ⟨tk_MOST_WIDE,Uo⟩:=(Uo T)
 exact cal1 (top 69) ["wide"] (by walk_at "D") (λhN f cdv A outer s H E hr=>⟨_,(Bc (Dc (Ho (Gv (GX yad hr (by decide) rfl CT (BL (d_v 0) (BL Ef (BL (NB rfl Uo) Br))))))
  (by walk_at "e")
  De))⟩)
def fW:Cal P w K mg base 2 "greatest_of" ["some"] O5:=by
 have yaD:=Mh T;exact cal1 (top 19) ["some","greatest","fraction"] (by walk_at "D") (λhN f cdv A outer s H E hr=>⟨_,(by walk_at "e")⟩)
def yo:Cal P w K mg base 3 "far_depth" ["least_depths"] Le:=by
 have c_greatest_of:=fW T;exact cal1 (top 74) ["least_depths"] (by walk_at "D") (λhN f cdv A outer s H E hr=>⟨_,(by walk_at "e")⟩)
def YT:Cal P w K mg base 2 "least_of" ["some"] Nq:=by
 have yaD:=Mh T;exact cal1 (top 18) ["some","least","fraction"] (by walk_at "D") (λhN f cdv A outer s H E hr=>⟨_,(by walk_at "e")⟩)
def iy:Cal P w K mg base 3 "lesser" ["least","depth"] Ld:=by
 have yaA:=YT T;exact cal1 (top 76) ["least","depth"] (by walk_at "D") (λhN f cdv A outer s H E hr=>⟨_,(by walk_at "e")⟩)
def xU:CalY P w K mg base 5 "look_at" ["thing","points","sights_by_point","least_depths"] 2 Jj:=by
 have cm_is_glass:=RW T;have yaM:=bL T;have c_lesser:=iy T
 exact Def.calY (by walk_at "d") W7 (by decide) (λf cdv A outer s H E hr=>have hN:=W7.nd;⟨_,(Fx (Oa (E:=E) PassesOwn.leaving rfl (S7 rfl (Te T) (BL (d_v 1) Br)) (by walk_at "e") (VF (Ko (JG (by decide)) (Ko (JG (by decide)) R5)))
  (Eh (Ge (E:=E) (by walk_at "e"))
  (Eh (Rt (E:=E) (Ui (d_v 6))
  (Fx (fc (E:=E) UJ))
  Xv)
  (Eh (qW (E:=E) (d_v 4) (by walk_at "e"))
  (Fx (Rt (E:=E) (Ho (Gv (Sw cm_is_glass hr (by decide) CT (d_v 0))))
  (Fx (iW (E:=E) (oR (i:=3) (dN 3 (by walk_at "e")) (d_v 4))))
  Xv)))))))⟩)
def vQ:Cal P w K mg base 3 "near_depth" ["triangle"] HD:=by
 have yas:=Ka T;have yaA:=YT T;exact cal1 (top 68) ["triangle"] (by walk_at "D") (λhN f cdv A outer s H E hr=>⟨_,(Bc (Cu (GX yaA hr (by decide) rfl CT (BL (Dj (own:=["corner"]) (cap:=[]) (DK (d_v 0)) (by walk_at "co") rfl (by walk_at "cg") (by walk_at "ct") (by walk_at "ce")) Br))))⟩)
def j0:Cal P w K mg base 6 "looked_at" ["things","points"] NQ:=by
 have yaD:=Mh T;have c_far_depth:=yo T;have cy_look_at:=xU T;have c_near_depth:=vQ T
 exact cal1 (top 73) ["things","points","sights_by_point","least_depths","let_go","number","thing","near","far"] (by walk_at "D") (λhN f cdv A outer s H E hr=>⟨_,(rT (i:=2) (J:=[2]) hN rfl (Or.inl rfl) (own:=["point"]) (cap:=[]) (DK (d_v 1)) (by walk_at "co") rfl (by walk_at "cg") (by walk_at "ct") (λ_ _ _ _ _=>(Ztf Br))
  (Eh (Ge (E:=E) (uH (i:=3) hN rfl (Or.inl rfl) (own:=["point"]) (cap:=[]) (DK (d_v 1)) (by walk_at "co") rfl (by walk_at "cg") (by walk_at "ct") (λ_ _ _ _ _=>dB)))
  (Eh (Ge (E:=E) (by walk_at "e"))
  (Eh (Oa (E:=E) PassesOwn.leaving rfl (S7 rfl (Te T) (BL (d_v 0) Br)) (by walk_at "e") (VF (Ko (JG (by decide)) (Ko (JG (by decide)) R5)))
  (Eh (Ge (E:=E) (by walk_at "e"))
  (Eh (Ge (E:=E) (Fv (i:=8) hN rfl (Or.inl rfl) (dN 3 (by walk_at "e"))))
  (Fx (Rt (E:=E) (by walk_at "e")
  (Fx (XR (E:=E) (by walk_at "e")))
  (Fx (YX (E:=E) (l:=3) (lc:=(some 3)) cy_look_at hr (by decide) rfl CT (Lh (d_v 6) (Lh (d_v 1) (Vs (ZvU aU)))))))))))
  (Fx (aZ (j:=4) rfl rfl))))))⟩)
def rH:Cal P w K mg base 2 "order_or_rising" ["order","count"] OD:=by
 have yak:=Mr T;obtain ⟨yar,yai,yaj⟩:=(Ow T)
 exact cal1 (top 70) ["order","count"] (by walk_at "D") (λhN f cdv A outer s H E hr=>⟨_,(Ah (Dc (Ui (d_v 0))
  (Bc (Cu (Yc rfl rfl (K8 T) rfl (Mz T) (BL (d_v 1) Br))))
  De)
  (Ah (Dc (DW.dt (Kf (by walk_at "e") (Nu (Ho (Gv (GR (QC rfl) Od rfl (Py T) QW (BL (Dj (own:=["tile"]) (cap:=[]) (DK (d_v 0)) (by walk_at "co") rfl (by walk_at "cg") (by walk_at "ct") (by walk_at "ce")) Br)))))))
  (by walk_at "e")
  De)
  (Ah (Dc (Jv hr (by walk_at "e") (Yc rfl rfl (K8 T) rfl (Mz T) (BL (d_v 1) Br)))
  (by walk_at "e")
  De)
  (by walk_at "e"))))⟩)
def vJ:CalY P w K mg base 7 "paint_cells" ["picture","cells","sights_by_point","ground"] 0 QL:=by
 have yaE:=Yd T
 exact Def.calY (by walk_at "d") cM (by decide) (λf cdv A outer s H E hr=>have hN:=cM.nd;⟨_,(Eh (Ge (E:=E) (by walk_at "e"))
  (Fx (Oa (E:=E) PassesOwn.leaving rfl (S7 rfl (Te T) (BL (d_v 1) Br)) (by walk_at "e") (VF (Ko (JG (by decide)) (Ko (JG (by decide)) R5)))
  (Eh (Ge (E:=E) (by walk_at "e"))
  (Fx (iw (E:=E) (by walk_at "e") (Gd (d_v 6) Ef) (Gd (d_v 6) Ef)))))))⟩)
def rA:Cal P w K mg base 2 "points_in" ["cells","spots"] Lp:=by
 have yaN:=Z4 T
 exact cal1 (top 72) ["cells","spots","points","column","row"] (by walk_at "D") (λhN f cdv A outer s H E hr=>⟨_,(Ah (by walk_at "e")
  (Ah (Hl PassesOwn.leaving rfl (DK (d_v 0)) (by walk_at "e")
  (Bc (Zj 2 (Dj (own:=["spot"]) (cap:=[("row",4),("column",3)]) (DK (d_v 1)) (by walk_at "co") rfl (by walk_at "cg") (by walk_at "ct") (by walk_at "ce")))))
  (by walk_at "e")))⟩)
def az:Cal P w K mg base 1 "tiles_along" ["length","wide"] Jf:=by
 exact cal1 (top 66) ["length","wide"] (by walk_at "D") (λhN f cdv A outer s H E hr=>⟨_,(by walk_at "e")⟩)
def Zge:Cal P w K mg base 2 "tile_cells" ["width","height","wide","tile"] Nb:=by
 have yaH:=az T
 exact cal1 (top 67) ["width","height","wide","tile","across","left","top","cells","row","column"] (by walk_at "D") (λhN f cdv A outer s H E hr=>⟨_,(Ah (by walk_at "e")
  (Ah (by walk_at "e")
  (Ah (by walk_at "e")
  (Ah (by walk_at "e")
  (Ah (Hl PassesOwn.leaving rfl (W5 rfl (K8 T) (by walk_at "e")) (by walk_at "e")
  (Bc (Hl PassesOwn.leaving rfl (W5 rfl (K8 T) (by walk_at "e")) (by walk_at "e")
  (by walk_at "e"))))
  (by walk_at "e"))))))⟩)
theorem tZ{f:Addr}{fd:FuncData}{dV:Value}(F:FunD K "paint_tiles" "paint_tiles" Gx dV f fd):FnOk P w K mg base (CXR P w) 8 f fd ["things","width","height","wide","order","spots","ground"] (spT K mg 7 Ha):=by
 have yaF:=YZ T;have yau:=eN T;have yat:=dU T;have c_check_wide:=uA T;have c_looked_at:=j0 T;have c_order_or_rising:=rH T;have cy_paint_cells:=vJ T;have c_points_in:=rA T;have yaH:=az T;have c_tile_cells:=Zge T
 exact okTF F dY (λcdv A outer s H E hr=>have hN:=dY.nd;⟨_,(Lz (by walk_at "e")
  (Lz (by walk_at "e")
  (Lz (by walk_at "e")
  (Lz (by walk_at "e")
  (Lz (by walk_at "e")
  (wZ (i:=10) (J:=[10]) hN rfl (Or.inl rfl) (own:=["row"]) (cap:=[("width",1),("beneath",9)]) (by walk_at "e") (by walk_at "co") rfl (by walk_at "cg") (by walk_at "ct") (λ_ _ _ _ _=>(qg (BL (d_v 2) Br) (d_v 1)))
  (Eh (Ge (E:=E) (by walk_at "e"))
  (Eh (Oa (E:=E) PassesOwn.leaving rfl (DK (d_v 7)) (by walk_at "e") (JG (by decide))
  (Eh (Ge (E:=E) (by walk_at "e"))
  (Eh (Ge (E:=E) (by walk_at "e"))
  (Eh (YX (E:=E) (l:=0) (lc:=none) cy_paint_cells hr (by decide) rfl CT (Vs (Lh (d_v 13) (Lh (Gd (d_v 14) Ef) (Lh (d_v 9) aU)))))
  (Fx (XR (E:=E) (Zj 11 (Dj (own:=["gone"]) (cap:=[("tile",12)]) (by walk_at "e") (by walk_at "co") rfl (by walk_at "cg") (by walk_at "ct") (by walk_at "ce")))))))))
  (Fx (aZ (j:=11) rfl rfl))))))))))⟩)
def lD{f73:Addr}{od73:Option Addr}{an73:Option Addr}{sl73:Array (Option Value)}{oc73:Value}{kV73:Value}{dc73:Value}{pm73:Value}{cd73:Value}{ct73:Value}{dT73:Addr}{dc_73:Value}{dd_73:Option Addr}{dn_73:Nat}{ds_73:Array (Option Value)}(a73:W.nsIn K mainGlobals "paint_tiles"=some (some (.ref f73)))(l73:K.lookup f73=some ⟨oc73,od73,.func (W.fnOf "paint_tiles" "paint_tiles" (Fd Gx) (DX Gx) (Av Gx) (.ref dT73) kV73 dc73 pm73 an73 cd73 ct73),sl73⟩)(c73:W.codeIn K cd73 "paint_tiles"=true)(k73:W.keepIn K (.ref f73)=true)(dl73:K.lookup dT73=some ⟨dc_73,dd_73,.seq #[.none,.none,.none] dn_73,ds_73⟩):CalT P w K mg base 8 "paint_tiles" ["things","width","height","wide","order","spots","ground"] Ha/\T4 P w K mg base 8 "paint_tiles" ["things","width","height","wide","order","spots","ground"] [] [none] Ha:=by
 have e:FunD K "paint_tiles" "paint_tiles" Gx (.ref dT73) f73 _:=⟨_,_,_,_,_,_,_,_,_,rfl,l73,c73⟩;have a:=tZ T e;have b:Binds K (W.fnOf "paint_tiles" "paint_tiles" (Fd Gx) (DX Gx) (Av Gx) (.ref dT73) kV73 dc73 pm73 an73 cd73 ct73) ["things","width","height","wide","order","spots","ground"] []:=λs c X d=>My.ln7 (P:=λc=>BindsTo s _ {pos:=c} (List.zip (["things","width","height","wide","order","spots","ground"]:List Str) (c++[]))) (λ_ _ _ _ _ _ _=>BindsTo.of_defaults rfl (X _ _ dl73) rfl rfl rfl) c (by simpa using d)
 exact ⟨⟨_,_,a,b,k73,T.2 a73⟩,⟨_,_,a,λs c h X d=>by
  have f:c.length=6:=by have g:=d;simp [JR] at g;ac_rfl
  match c,f with
  | [_,_,_,_,_,_],_=>
   exact BindsTo.of_defaults rfl (X _ _ dl73) rfl rfl rfl,k73,T.2 a73⟩⟩
def Xk:CalT P w K mg base 8 "paint_tiles" ["things","width","height","wide","order","spots","ground"] Ha/\T4 P w K mg base 8 "paint_tiles" ["things","width","height","wide","order","spots","ground"] [] [none] Ha:=by
 walk_at "y"; refine' lD T ?_ ?_ ?_ ?_ ?_;walk_at "q"
theorem pG{f:Addr}{fd:FuncData}(F:Fun K "law" "law" Jz f fd):FnOk P w K mg base (CXR P w) 12 f fd ["_law_script"] (spD K mg 1 Uh):=by
 have c__law_cell_at:=lF T;have c__law_order:=Zgw T;have yaG:=cP T;have yaP:=(QM T).1;have c__law_part:=gO T;have ct_paint_tiles:=(Xk T).1;have yal:=(QM T).2;have yav:=(Xk T).2
 exact okD F Wj (λcdv A outer s H E hr=>have hN:=Wj.nd;⟨_,(Ah (by walk_at "e")
  (Ah (by walk_at "e")
  (Ah (by walk_at "e")
  (Ah (by walk_at "e")
  (Ah (by walk_at "e")
  (Ah (by walk_at "e")
  (Ah (by walk_at "e")
  (Ah (Fv (i:=8) hN rfl (Or.inl rfl) (Vc yal hr (by decide) rfl CT (by walk_at "e")))
  (Ah (by walk_at "e")
  (Ah (by walk_at "e")
  (Ah (by walk_at "e")
  (Ah (by walk_at "e")
  (Ah (Fv (i:=13) hN rfl (Or.inl rfl) (Q3 (Dj (own:=["_law_one","_law_other"]) (cap:=[]) (eV rfl (Rk T) (by walk_at "e")) (by walk_at "co") rfl (λ_ _ _ _ _=>(Up rfl (Ni (J2 (i:=0) (show List.Nodup (["_law_one","_law_other"]:List Str) by decide +kernel) rfl (Or.inl rfl) (by decide)) (Ni (J2 (i:=1) (show List.Nodup (["_law_one","_law_other"]:List Str) by decide +kernel) rfl (Or.inl rfl) (by decide)) Sh)))) (by walk_at "ct") (λ_ _ _ _ _=>(Q3 (d_v 0) (d_v 1)))) (Dj (own:=["_law_one","_law_other"]) (cap:=[]) (eV rfl (Rk T) (by walk_at "e")) (by walk_at "co") rfl (λ_ _ _ _ _=>(Up rfl (Ni (J2 (i:=0) (show List.Nodup (["_law_one","_law_other"]:List Str) by decide +kernel) rfl (Or.inl rfl) (by decide)) (Ni (J2 (i:=1) (show List.Nodup (["_law_one","_law_other"]:List Str) by decide +kernel) rfl (Or.inl rfl) (by decide)) Sh)))) (by walk_at "ct") (λ_ _ _ _ _=>(Q3 (d_v 0) (d_v 1))))))
  (Ah (by walk_at "e")
  (Ah (by walk_at "e")
  (Ah (by walk_at "e")
  (Ah (by walk_at "e")
  (Ah (Dc (Jv hr (Gd (DEt.de (jz yav hr (by decide) rfl CT (by walk_at "e"))) Ef) (d_v 8))
  (Bc (Cu J4))
  De)
  (Ah (by walk_at "e")
  (Ah (by walk_at "e")
  (Ah (Fv (i:=19) hN rfl (Or.inl rfl) (Vc yal hr (by decide) rfl CT (by walk_at "e")))
  (Bc (Cu (bJ hr (Dj (own:=["_law_one"]) (cap:=[("_law_columns",17)]) (by walk_at "e") (by walk_at "co") rfl (by walk_at "cg") (by walk_at "ct") (by walk_at "ce")) (d_v 8)))))))))))))))))))))))))⟩)
end
def qY{w:World}{h:Heap}{mg:Str->Option Value}{fa:Addr}(X:(Hd.heap w.params).In h)(G:h.Ns mainGlobals mg)(hfa:mg "law"=some (.ref fa)):∃fd:FuncData,(∀(s:Shared) (v:Value),BindsTo s fd ⟨[v],[]⟩ [("_law_script",v)])/\∀base:Heap,(Hd.heap w.params).In base->base.Ns mainGlobals mg->FnOk PySem.Challenge.rw_sampleyard_k92_whole_floors_shifted.prog w (Hd.heap w.params) mg base (CXR PySem.Challenge.rw_sampleyard_k92_whole_floors_shifted.prog w) 12 fa fd ["_law_script"] (Qj (Hd.heap w.params)):=by
 have g:∀{x:Str} {v:Option Value},W.nsIn (Hd.heap w.params) mainGlobals x=some v->mg x=v:=λ{x v} e=>by
  cases v with
  | none=>exact W.mg_none_of X G e
  | some u=>exact W.mg_of X G e
 refine' lawK (g ?_) hfa ?_ ?_ ?_ λbase fd F=>(pG ⟨rfl,g⟩ F).imp (zm ZnP);walk_at "q"
def walk{l:W.OpenLaw}{q:Program}{loose:List Str}{XP:(Str->Option Value)->Heap->Prop}{YP:World->Heap->Prop}{d:DefRec}{K:Params->W.Frag}(hn:l.most=some 63)(hdf:d.params.defaults=[])
  (hY:∀(w:World) (h:Heap),YP w h->(K w.params).In h)
  (F:∀(w:World) (mg:Str->Option Value) (fa:Addr) (h:Heap),(K w.params).In h->h.Ns mainGlobals mg->mg d.name=some (.ref fa) ->
   ∃fd:FuncData,(∀(s:Shared) (u:Value),BindsTo s fd ⟨[u],[]⟩ [("_law_script",u)])/\∀base:Heap,(K w.params).In base->base.Ns mainGlobals mg->FnOk l.prog w (K w.params) mg base (CXR l.prog w) 12 fa fd ["_law_script"] (Qj (K w.params))) :
  W.WalkO q loose XP YP l.row.toRowW d [] (λf vs=>PySem.call f vs) :=
 L2.ZqN (n:=63) (k:=12) (x:="_law_script") (CX:=λw=>CXR l.prog w) (sp:=λw=>Qj (K w.params)) hn (by decide) hdf ⟨rfl,by decide,by decide⟩ hY F (λ_ _ a b c _ e=>⟨a,b,rfl,e,c,λ_=>rfl⟩) λ_ _ _ _ _ z=>xW z
end My
open PySem PySem.W PyProof.Rows
set_option maxRecDepth 100000 in
set_option maxHeartbeats 0 in
theorem PySem.Challenge.cw_sampleyard_k92_whole_floors_shifted_holds : PySem.Challenge.rw_sampleyard_k92_whole_floors_shifted.Holds := by
 w_on;refine holds_law Hd.said λsaid=>?_
 refine holds_open (r:=PySem.Challenge.rw_sampleyard_k92_whole_floors_shifted.row) (q:=Hd.view) (loose:=["paint","paint_tiles"]) (Xt:=(λs=>xlAt Hd.view [] s&&recOk (RowW.records PySem.Challenge.rw_sampleyard_k92_whole_floors_shifted.row.toRowW) s)) (XP:=XL Hd.view []) (Yf:=Hook.obs (kHook Hd.heap Hd.addrs Hd.K9)) (Ya:=Hook.val (kHook Hd.heap Hd.addrs Hd.K9)) (YP:=Hook.says (kHook Hd.heap Hd.addrs Hd.K9)) (N:=Hd.most) Hd.left (Hook.of (kHook Hd.heap Hd.addrs Hd.K9)) (Hook.keeps (kHook Hd.heap Hd.addrs Hd.K9)) (λs e=>xl_of s (Bool.and_eq_true_iff.mp e).1) XL.keeps (by rfl) (by rfl) (by rfl) (λs e=>recFacts_of (Bool.and_eq_true_iff.mp e).2) (by rfl) (by assumption) Hd.okO Hd.bar ?hw ?hc
 case hw=>w_witness2
 exact My.walk (l:=PySem.Challenge.rw_sampleyard_k92_whole_floors_shifted) rfl rfl (λw h Y0=>W.kIn_of Y0) λw mg fa h KX G hmg=>My.qY KX G hmg
