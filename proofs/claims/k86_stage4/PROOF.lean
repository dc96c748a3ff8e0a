import PyProof.Rows.All
import Wide.All
import OpenK.AllK
import Wide.FinOn
import Lean
import KE.KIntText
import KE.KRevIter
import PyProof.StrLawsTight
import PyProof.StrLawsChain
import PyProof.Rows.CatFin
import PyProof.CollectIter
import PyProof.JoinWalk
import PyProof.Rows.StrDigitsNeg
import PyProof.Rows.StrJoinMade
import PyProof.Rows.StrBin
import KE.KLam
import KE.KNestM
import PyProof.EqAt
import PyProof.EqKinds
import PyProof.TupleCall
import PyProof.P3Eq
import PyProof.NeData
import PySem.Challenge.RW_sampleyard_k86_desk_told
set_option Elab.async false
set_option linter.all false
set_option maxRecDepth 100000
set_option compiler.extract_closed false
noncomputable section
abbrev iP:=@if_pos
abbrev iN:=@if_neg
abbrev aB:=@absurd
set_option maxHeartbeats 0 in
def Hd.zsa:PySem.W.namesResolve PySem.Challenge.pw_sampleyard_k86_desk_told=true:=by kernel_rfl
set_option maxHeartbeats 0 in
def Hd.zsb:PySem.W.namesMeet PySem.Challenge.pw_sampleyard_k86_desk_told PySem.Challenge.pw_sampleyard_k86_desk_told.main.body (λ_ n=>PySem.W.attrL n)=true:=by kernel_rfl
set_option maxHeartbeats 0 in
def Hd.zsc:PySem.W.looksOpen PySem.Challenge.pw_sampleyard_k86_desk_told=true:=by
 unfold PySem.W.looksOpen;rw [Hd.zsa,Hd.zsb]
 kernel_rfl
set_option maxHeartbeats 0 in
def Hd.said:PySem.W.OpenLaw.wellSaid PySem.Challenge.rw_sampleyard_k86_desk_told=true:=by
 unfold PySem.W.OpenLaw.wellSaid PySem.W.OpenRow.wellSaid PySem.W.OpenRow.partSaid;rw [show PySem.W.looksOpen PySem.Challenge.rw_sampleyard_k86_desk_told.row.toRowW.prog=true from Hd.zsc]
 kernel_rfl
abbrev U7:=@PySem.W.Fast.te6613529449190102663
abbrev Up:=@PySem.W.Fast.te10156331382660048174
abbrev Qt:=@PySem.W.Fast.te11892475500146522536
abbrev Ks:=@PySem.W.Fast.te14364793385576792824
abbrev Jz:=@List.drop_eq_nil_of_le
abbrev Rq:=@List.map_congr_left
abbrev Fe:=@Nat.le_of_ble_eq_true
abbrev Bl:=@decide_eq_false
abbrev BX:=@PySem.Heap.lt_size
abbrev Bv:=@Nat.lt_of_lt_of_le
abbrev J2:=@Nat.lt_irrefl
abbrev Bm:=@Nat.ne_of_lt
abbrev Ex:=@List.mem_range
abbrev An:=@Nat.le_trans
abbrev Lj:=@Nat.le_of_lt
abbrev Bp:=@List.mem_cons_of_mem
abbrev Aq:=@List.mem_cons
abbrev CK:=@List.mem_append
abbrev JK:=@List.mem_append_left
abbrev Gk:=@List.getElem?_eq_some_iff
abbrev JP:=@List.getElem?_set_self
abbrev GK:=@List.getElem?_set_ne
abbrev Cj:=@PySem.wpAny_mono
abbrev Fy:=@Option.some.inj
abbrev Ou:=@PySem.wpAny_execs_nil
abbrev Ac:=@PySem.wpAny_bind
abbrev Dy:=@PySem.wpAny_holding
abbrev Jd:=@PySem.wpAny_passesOwn
abbrev Ek:=@Bool.false_ne_true
abbrev Ib:=@Nat.ne_of_gt
abbrev Aj:=@PySem.wpAny_pure
abbrev BJ:=@PySem.Heap.get?_push_of_some
abbrev By:=@PySem.Heap.get?_push_size
abbrev Ar:=@Nat.le_refl
abbrev Om:=@PyProof.Rows.callWith_type1
abbrev CZ:=@List.mem_append_right
abbrev GR:=@List.size_toArray
abbrev Ax:=@List.length_map
abbrev Eu:=@PySem.Heap.size_push
abbrev Cq:=@Nat.zero_le
abbrev G5:=@PySem.W.kia_one
abbrev FJ:=@List.append_nil
abbrev K6:=@PySem.codeAny_mono
abbrev Ls:=@PySem.wpAny_Call_Name_kw
abbrev K8:=@PySem.W.callWith_K
abbrev Mr:=@List.nodup_cons
abbrev Nz:=@List.of_mem_zip
abbrev CP:=@congrArg
abbrev Ej:=@PySem.mem_of_lookup
abbrev Ed:=@List.mem_of_getElem?
abbrev Dp:=@if_false
abbrev Et:=@PySem.wpAny_field
abbrev Kq:=@PySem.wpAny_callSpecial?_slot
abbrev PQ:=@PyProof.Rows.slot_tuple_getitem
abbrev KY:=@PySem.wpAny_call_entry
abbrev Jq:=@PySem.wpAny_typeOf
abbrev Im:=@PySem.wpAny_newObj_type
abbrev QF:=@PySem.Heap.get?_update_self
abbrev GD:=@if_true
abbrev Gi:=@PySem.typeIs_str
abbrev HB:=@PySem.call_meets
abbrev Bg:=@List.map_cons
abbrev Bf:=@List.mem_cons_self
abbrev Fq:=@List.getElem?_append_right
abbrev Cz:=@List.getElem?_map
abbrev Fp:=@Nat.lt_trans
abbrev Ln:=@Bool.and_eq_true
abbrev Hu:=@List.all_eq_true
abbrev BZ:=@List.mem_map
abbrev Ka:=@List.drop_eq_getElem_cons
abbrev FN:=@Bool.false_eq_true
abbrev La:=@PySem.wpAny_pyIter_list
abbrev Hn:=@List.drop_zero
abbrev GX:=@List.take_of_length_le
abbrev QH:=@PySem.F.slot_tuple_iterator_next
abbrev Gn:=@PySem.wpAny_seqItems
abbrev Fz:=@Int.toNat_natCast
abbrev Rk:=@PySem.Heap.SameBut.update
abbrev Ko:=@PySem.wpAny_setField_rec
abbrev Eg:=@List.length_set
abbrev Jc:=@List.length_range
abbrev Bk:=@List.getElem?_eq_getElem
abbrev DK:=@List.map_map
abbrev Rr:=@Nat.lt_of_le_of_lt
abbrev MJ:=@Nat.succ_le_succ
abbrev Fw:=@List.getElem?_append_left
abbrev Dh:=@List.length_cons
abbrev LQ:=@PySem.F.plainAttrs_list
abbrev Li:=@List.lookup_cons
abbrev P0:=@List.contains_cons
abbrev GC:=@List.map_append
abbrev JZ:=@Nat.mod_lt
abbrev Ja:=@Int.emod_nonneg
abbrev Jk:=@Int.emod_lt_of_pos
abbrev Rx:=@List.pairwise_iff_getElem
abbrev Hz:=@List.getElem_mem
abbrev Er:=@List.mem_iff_getElem
abbrev Jw:=@Classical.byContradiction
abbrev BL:=@List.not_mem_nil
abbrev Ni:=@Array.getElem?_toList
abbrev KN:=@PySem.wpAny_setState_of
abbrev Dj:=@decide_eq_true
abbrev GQ:=@List.mem_singleton
abbrev PL:=@PySem.codeAny_builtin
abbrev Bj:=@or_false
abbrev LR:=@decide_eq_true_eq
abbrev Qz:=@List.contains_eq_mem
abbrev Qn:=@List.getElem?_eq_none
abbrev Ma:=@List.map_reverse
abbrev Cd:=@List.length_append
abbrev QD:=@List.length_singleton
abbrev JQ:=@Int.natAbs_mul
abbrev EY:=@Int.natAbs_natCast
abbrev M5:=@Int.natAbs_dvd_natAbs
abbrev Vm:=@Int.mul_le_mul_of_nonneg_left
abbrev Qu:=@List.mem_of_mem_drop
abbrev Gj:=@List.mem_of_mem_take
abbrev N6:=@Nat.min_eq_left
abbrev Tp:=@PyProof.Rows.signs_ofString
abbrev NB:=@List.flatMap_cons
namespace L2
open PySem
def inClass(s:Stmt)(j:Nat):Stmt:=match s with
 | .ClassDef _ _ _ body _ _ _ _ _ _ _=>body.getD j (.Pass ⟨0,0,0,0⟩)
 | _=>.Pass ⟨0,0,0,0⟩
def Jl(s:Stmt):Arguments:=match s with
 | .FunctionDef _ a _ _ _ _ _ _ _ _=>a
 | _=>{ posonlyargs:=[],args:=[],vararg:=none,kwonlyargs:=[],kw_defaults:=[],kwarg:=none,defaults:=[] }
def Ew(s:Stmt):List Stmt:=match s with
 | .FunctionDef _ _ b _ _ _ _ _ _ _=>b
 | _=>[]
def BV(s:Stmt):Scope:=match s with
 | .FunctionDef _ _ _ _ _ _ sc _ _ _=>sc
 | _=>{ kind:=.function,names:=[],isGenerator:=false,isCoroutine:=false }
end L2
namespace Hd
open PySem PySem.W L2
abbrev top(i:Nat):Stmt:=PySem.Challenge.pw_sampleyard_k86_desk_told.main.body.getD i (.Pass ⟨0,0,0,0⟩)
noncomputable def view:Program:={ PySem.Challenge.pw_sampleyard_k86_desk_told with main:={ PySem.Challenge.pw_sampleyard_k86_desk_told.main with body:=[top 1,top 2,top 3,top 4,top 5,top 6,top 8,top 9,top 10,top 11,top 13,top 14,top 15,top 16,top 17,top 18,top 19,top 20,top 21,top 22,top 24,top 25,top 26,top 27,top 28,top 29,top 31,top 32,top 33,top 35,top 37,top 38,top 39,top 40,top 41,top 42,top 43,top 44,top 45,top 46,top 47,top 48,top 49,top 51,top 52,top 53,top 55,top 57,top 58,top 59,top 60,top 61,top 62,top 64,top 65,top 66,top 67,top 69,top 70,top 71,top 72,top 73,top 74,top 75,top 76,top 78,top 79,top 80,top 81,top 82,top 83,top 84,top 85,top 86,top 87,top 88,top 89,top 90,top 91,top 92,top 93,top 94,top 95,top 96,top 97,top 98,top 99,top 100,top 101,top 102,top 103,top 104,top 106,top 107,top 108,top 109,top 110,top 111,top 113,top 114,top 115,top 116,top 117,top 118,top 120,top 121,top 122,top 123,top 124,top 126,top 127,top 128,top 129,top 130,top 131,top 132,top 133,top 134,top 135,top 136,top 137,top 138,top 139,top 140,top 141,top 142,top 143,top 144,top 145,top 146,top 148,top 149,top 150,top 151,top 152,top 153,top 154,top 155,top 156,top 157,top 158,top 159,top 160] } }
abbrev S(x:String):Str:=Str.ofString x
abbrev st(x:String)(t:Nat):Value:=.str (Str.ofString x) t
abbrev en(P:Params)(x:String)(t:Nat)(v:Value):DictEntry:=⟨PyData.keyHash P (Str.ofString x),.str (Str.ofString x) t,v⟩
abbrev fd(s:Stmt)(n q:String)(an:Option Addr)(d k c e m t:Value):Data:=.func { name:=Str.ofString n,qualname:=Str.ofString q,params:=Jl s,body:=.stmts (Ew s),scope:=BV s,globals:=mainGlobals,closure:=[],defaults:=d,kwdefaults:=k,doc:=e,pyModule:=m,annotations:=an,code:=c,closureTuple:=t,builtins:=builtinsNs }
abbrev T(xs:Array Value):Obj:=⟨.type "tuple",none,.seq xs 0,#[]⟩
abbrev F(s:Stmt)(n q:String)(an:Option Addr)(d k c e m t:Value):Obj:=⟨.type "function",none,fd s n q an d k c e m t,#[]⟩
abbrev G(i:Nat)(n:String)(c:Nat)(m:String)(t:Nat):Obj:=F (top i) n n none .none .none (.ref c) .none (st m t) .none
abbrev D(es:List DictEntry)(n:Nat):Obj:=⟨.type "dict",none,.dict (List.toArray es) n,#[]⟩
abbrev C(n:String)(a:Nat)(q:String)(b c:Nat)(d e f g h:Int)(i:Value)(j:Bool)(k:Int)(l m o p r:Value)(s t:Int)(u:Nat):Obj:=⟨.type "code",none,.fields #[st n a,st q b,st "/claim/cut.py" c,.int d 0,.int e 0,.int f 0,.int g 0,.int h 0,i,.bool j,.int k 0,l,m,o,p,r,.int s 0,.int t 0,st "/claim/cut.py" u],#[]⟩
abbrev B(n:String)(a b c:Nat)(d e:Int)(i l o p r:Nat)(s:Int)(u:Nat):Obj:=C n a n b c d e 0 0 3 (.ref i) true 181 (.ref l) .none (.ref o) (.ref p) (.ref r) s d u
abbrev E(n:String)(a b c:Nat)(d e:Int)(i l r:Nat)(s:Int)(u:Nat):Obj:=C n a n b c d e 0 0 3 (.ref i) true 181 (.ref l) .none .none .none (.ref r) s d u
abbrev L(n:String)(b m:List Value)(a:Addr)(s:List Value)(sl:Array (Option Value)):Obj:=⟨.type "type",none,.cls { name:=Str.ofString n,bases:=b,mro:=m,ns:=a,qualname:=Str.ofString n,hasDict:=true,slotNames:=[],subclasses:=s,abstract:=false,collection:=none,hasDel:=false },sl⟩
abbrev B1(n:String)(a:Nat)(d e:Int)(i s:Nat):Obj:=B n a (a+1) (a+2) d e i (i+1) (i+2) (i+3) (i+4) (Int.ofNat s) (s+1)
abbrev E1(n:String)(a:Nat)(d e:Int)(i s:Nat):Obj:=E n a (a+1) (a+2) d e i (i+1) (i+2) (Int.ofNat s) (s+1)
abbrev G1(i:Nat)(n:String)(c:Nat)(m:Value):Obj:=F (top i) n n none .none .none (.ref c) .none m .none
abbrev o0_:Value:=st "sampleyard.whole" 296
abbrev o1_:Value:=st "sampleyard.fractions" 333
abbrev o2_:Value:=st "sampleyard.edges" 417
abbrev o3_:Value:=st "sampleyard.seen" 472
abbrev o4_:Value:=st "sampleyard.spots" 494
abbrev o5_:Value:=st "sampleyard.paint" 505
abbrev o6_:Value:=st "sampleyard.corners" 637
abbrev o7_:Value:=st "sampleyard.patterns" 674
abbrev o8_:Value:=st "sampleyard.things" 704
abbrev o9_:Value:=st "sampleyard.texts" 967
abbrev o10_:Value:=st "sampleyard.tiles" 1151
abbrev o11_:Value:=st "sampleyard.walls" 1258
abbrev o12_:Value:=st "sampleyard.desk" 1305
abbrev o13_:Value:=st "law_sampleyard_k86_desk_told" 1525
noncomputable def heap:Params->Frag:=λP=>
  (nat_lit 2,⟨.none,none,(.dict (List.toArray []) 0),#[]⟩)::
(nat_lit 3,D [(en P "__name__" 165 (st "law_sampleyard_k86_desk_told" 1525)),(en P "__doc__" 166 .none),(en P "__package__" 167 .none),(en P "__loader__" 168 (.builtin "__main__.__loader__#opaque")),(en P "__spec__" 169 .none),(en P "__annotations__" 170 (.ref 6)),(en P "__builtins__" 171 (.ref 4)),(en P "__file__" 173 (st "/claim/cut.py" 172)),(en P "__cached__" 174 .none),(en P "YardError" 206 (.ref 24)),(en P "BadTriangle" 222 (.ref 37)),(en P "BadThing" 238 (.ref 49)),(en P "BadFloor" 254 (.ref 61)),(en P "BadPattern" 270 (.ref 73)),(en P "NoRow" 295 (.ref 92)),(en P "is_whole" 304 (.ref 101)),(en P "is_between" 313 (.ref 108)),(en P "greatest_divisor" 324 (.ref 115)),(en P "summed_products" 332 (.ref 122)),(en P "ratio" 343 (.ref 129)),(en P "plus" 351 (.ref 136)),(en P "minus" 359 (.ref 143)),(en P "product" 367 (.ref 150)),(en P "mean_of" 376 (.ref 157)),(en P "under" 384 (.ref 164)),(en P "least_of" 393 (.ref 171)),(en P "greatest_of" 402 (.ref 178)),(en P "down" 409 (.ref 185)),(en P "is_fraction" 416 (.ref 192)),(en P "side" 429 (.ref 199)),(en P "edge_numbers" 437 (.ref 206)),(en P "edge_sum" 446 (.ref 213)),(en P "check_before_eye" 454 (.ref 220)),(en P "had" 463 (.ref 227)),(en P "weights" 471 (.ref 234)),(en P "seen_at" 481 (.ref 241)),(en P "depth_and_values" 487 (.ref 246)),(en P "weighed_h" 493 (.ref 251)),(en P "spot_at" 504 (.ref 258)),(en P "MOST_CELLS" 508 (.int (64) 507)),(en P "MOST_SPOTS" 510 (.int (16) 509)),(en P "check_floor" 518 (.ref 265)),(en P "check_spots" 524 (.ref 270)),(en P "is_spot" 531 (.ref 277)),(en P "spots_or_middle" 538 (.ref 284)),(en P "ground_or_none" 545 (.ref 291)),(en P "colour_seen" 554 (.ref 298)),(en P "sights_at" 565 (.ref 305)),(en P "colour_of" 576 (.ref 312)),(en P "nearest_of" 585 (.ref 319)),(en P "layers_over" 591 (.ref 324)),(en P "laid_over" 600 (.ref 331)),(en P "paint" 606 (.ref 337)),(en P "painted_row" 612 (.ref 342)),(en P "sights_in" 618 (.ref 347)),(en P "cell_colour" 624 (.ref 352)),(en P "doubtful" 630 (.ref 358)),(en P "has_alike_depths" 636 (.ref 363)),(en P "MOST_VALUES" 640 (.int (3) 639)),(en P "check_triangle" 648 (.ref 370)),(en P "is_corner" 654 (.ref 375)),(en P "are_values" 660 (.ref 380)),(en P "mixed" 666 (.ref 385)),(en P "numbers_of" 673 (.ref 392)),(en P "COUNTS" 681 (.ref 393)),(en P "check_pattern" 687 (.ref 398)),(en P "copied" 693 (.ref 403)),(en P "entry_at" 703 (.ref 410)),(en P "Thing" 741 (.ref 434)),(en P "Plain" 790 (.ref 476)),(en P "Shaded" 837 (.ref 516)),(en P "Patterned" 886 (.ref 556)),(en P "Glass" 944 (.ref 603)),(en P "check_values" 952 (.ref 612)),(en P "check_colour" 959 (.ref 619)),(en P "check_part" 966 (.ref 626)),(en P "FIGURES" 970 (st "0123456789" 969)),(en P "MOST_FIGURES" 972 (.int (30) 971)),(en P "number_word" 981 (.ref 633)),(en P "fraction_word" 988 (.ref 640)),(en P "read_number" 996 (.ref 647)),(en P "are_figures" 1002 (.ref 652)),(en P "read_fraction" 1011 (.ref 659)),(en P "words_behind" 1020 (.ref 666)),(en P "just_words_behind" 1030 (.ref 673)),(en P "numbers_behind" 1036 (.ref 678)),(en P "thing_text" 1042 (.ref 683)),(en P "head_words" 1050 (.ref 690)),(en P "pattern_word" 1056 (.ref 695)),(en P "corner_text" 1062 (.ref 700)),(en P "read_thing" 1068 (.ref 705)),(en P "check_text" 1075 (.ref 712)),(en P "groups_of" 1084 (.ref 719)),(en P "read_corner" 1090 (.ref 724)),(en P "thing_of" 1098 (.ref 731)),(en P "read_pattern" 1104 (.ref 736)),(en P "scene_text" 1110 (.ref 741)),(en P "pair_word" 1117 (.ref 748)),(en P "read_floor" 1125 (.ref 755)),(en P "read_ground" 1132 (.ref 762)),(en P "read_spots" 1138 (.ref 767)),(en P "read_spot" 1144 (.ref 772)),(en P "picture_text" 1150 (.ref 777)),(en P "MOST_WIDE" 1154 (.int (64) 1153)),(en P "tiles_along" 1162 (.ref 784)),(en P "tile_cells" 1178 (.ref 791)),(en P "near_depth" 1184 (.ref 796)),(en P "check_wide" 1191 (.ref 803)),(en P "order_or_rising" 1197 (.ref 808)),(en P "paint_tiles" 1203 (.ref 814)),(en P "points_in" 1209 (.ref 819)),(en P "looked_at" 1215 (.ref 824)),(en P "far_depth" 1222 (.ref 831)),(en P "look_at" 1235 (.ref 838)),(en P "lesser" 1243 (.ref 845)),(en P "paint_cells" 1257 (.ref 852)),(en P "form" 1267 (.ref 859)),(en P "cut" 1273 (.ref 864)),(en P "begun_at" 1281 (.ref 871)),(en P "parted" 1294 (.ref 878)),(en P "met" 1304 (.ref 885)),(en P "with_floor" 1315 (.ref 892)),(en P "with_ground" 1323 (.ref 899)),(en P "with_spots" 1331 (.ref 906)),(en P "with_things" 1339 (.ref 913)),(en P "with_thing" 1347 (.ref 920)),(en P "without_thing" 1356 (.ref 927)),(en P "cut_near" 1362 (.ref 932)),(en P "check_number" 1371 (.ref 939)),(en P "picture_of" 1378 (.ref 946)),(en P "shown" 1386 (.ref 953)),(en P "painted" 1394 (.ref 960)),(en P "let_go" 1400 (.ref 965)),(en P "doubted" 1406 (.ref 970)),(en P "colour_told" 1414 (.ref 977)),(en P "numbers_seen" 1420 (.ref 982)),(en P "read_point" 1430 (.ref 989)),(en P "listed" 1438 (.ref 996)),(en P "unlike_cells" 1444 (.ref 1001)),(en P "TOLD" 1455 (.ref 1002)),(en P "ASKED" 1468 (.ref 1003)),(en P "Desk" 1524 (.ref 1041)),(en P "_law_cell_at" 1534 (.ref 1052)),(en P "_law_mixed" 1543 (.ref 1059)),(en P "_law_draws" 1549 (.ref 1064)),(en P "_law_corner" 1555 (.ref 1069)),(en P "_law_triangles" 1561 (.ref 1074)),(en P "_law_pattern" 1576 (.ref 1081)),(en P "_law_thing" 1582 (.ref 1086)),(en P "_law_things" 1596 (.ref 1093)),(en P "_law_spots" 1607 (.ref 1100)),(en P "_law_word" 1614 (.ref 1107)),(en P "_law_like" 1622 (.ref 1114)),(en P "_law_told" 1628 (.ref 1119)),(en P "law" 1644 (.ref 1126))] 155)::
(nat_lit 15,T #[(.type "ValueError")])::
(nat_lit 23,D [(en P "__module__" 196 (st "sampleyard.errors" 187)),(en P "__firstlineno__" 200 (.int (2) 199)),(en P "__static_attributes__" 201 (.ref 22)),(en P "__weakref__" 203 (.ref 25)),(en P "__doc__" 204 .none)] 3)::
(nat_lit 24,L "YardError" [(.type "ValueError")] [(.ref 24),(.type "ValueError"),(.type "Exception"),(.type "BaseException"),(.type "object")] 23 [(.ref 37),(.ref 49),(.ref 61),(.ref 73),(.ref 92)] #[(some (.ref 15)),none,(some (st "YardError" 189)),(some (st "YardError" 197)),(some (.builtin "ValueError.__new__")),(some (.bool true))])::
(nat_lit 25,⟨(.type "getset_descriptor"),none,(.fields #[(st "__weakref__" 202),(.ref 24),(.builtin "ExceptionGroup.__weakref__"),.none]),#[]⟩)::
(nat_lit 28,T #[(.ref 24)])::
(nat_lit 36,D [(en P "__module__" 214 (st "sampleyard.errors" 187)),(en P "__firstlineno__" 218 (.int (4) 217)),(en P "__static_attributes__" 219 (.ref 35)),(en P "__doc__" 220 .none)] 2)::
(nat_lit 37,L "BadTriangle" [(.ref 24)] [(.ref 37),(.ref 24),(.type "ValueError"),(.type "Exception"),(.type "BaseException"),(.type "object")] 36 [] #[(some (.ref 28)),none,(some (st "BadTriangle" 207)),(some (st "BadTriangle" 215)),(some (.builtin "ValueError.__new__")),(some (.bool true))])::
(nat_lit 40,T #[(.ref 24)])::
(nat_lit 48,D [(en P "__module__" 230 (st "sampleyard.errors" 187)),(en P "__firstlineno__" 234 (.int (6) 233)),(en P "__static_attributes__" 235 (.ref 47)),(en P "__doc__" 236 .none)] 2)::
(nat_lit 49,L "BadThing" [(.ref 24)] [(.ref 49),(.ref 24),(.type "ValueError"),(.type "Exception"),(.type "BaseException"),(.type "object")] 48 [] #[(some (.ref 40)),none,(some (st "BadThing" 223)),(some (st "BadThing" 231)),(some (.builtin "ValueError.__new__")),(some (.bool true))])::
(nat_lit 52,T #[(.ref 24)])::
(nat_lit 60,D [(en P "__module__" 246 (st "sampleyard.errors" 187)),(en P "__firstlineno__" 250 (.int (8) 249)),(en P "__static_attributes__" 251 (.ref 59)),(en P "__doc__" 252 .none)] 2)::
(nat_lit 61,L "BadFloor" [(.ref 24)] [(.ref 61),(.ref 24),(.type "ValueError"),(.type "Exception"),(.type "BaseException"),(.type "object")] 60 [] #[(some (.ref 52)),none,(some (st "BadFloor" 239)),(some (st "BadFloor" 247)),(some (.builtin "ValueError.__new__")),(some (.bool true))])::
(nat_lit 64,T #[(.ref 24)])::
(nat_lit 72,D [(en P "__module__" 262 (st "sampleyard.errors" 187)),(en P "__firstlineno__" 266 (.int (10) 265)),(en P "__static_attributes__" 267 (.ref 71)),(en P "__doc__" 268 .none)] 2)::
(nat_lit 73,L "BadPattern" [(.ref 24)] [(.ref 73),(.ref 24),(.type "ValueError"),(.type "Exception"),(.type "BaseException"),(.type "object")] 72 [] #[(some (.ref 64)),none,(some (st "BadPattern" 255)),(some (st "BadPattern" 263)),(some (.builtin "ValueError.__new__")),(some (.bool true))])::
(nat_lit 76,T #[(.ref 24)])::
(nat_lit 88,C "__init__" 283 "NoRow.__init__" 284 285 14 2 0 0 3 (.ref 83) true 181 (.ref 84) .none (.ref 85) (.ref 86) (.ref 87) 288 14 289)::
(nat_lit 89,F (inClass (top 6) 0) "__init__" "NoRow.__init__" none .none .none (.ref 88) .none (st "sampleyard.errors" 187) .none)::
(nat_lit 91,D [(en P "__module__" 278 (st "sampleyard.errors" 187)),(en P "__firstlineno__" 282 (.int (12) 281)),(en P "__init__" 290 (.ref 89)),(en P "__static_attributes__" 292 (.ref 90)),(en P "__doc__" 293 .none)] 2)::
(nat_lit 92,L "NoRow" [(.ref 24)] [(.ref 92),(.ref 24),(.type "ValueError"),(.type "Exception"),(.type "BaseException"),(.type "object")] 91 [] #[(some (.ref 76)),none,(some (st "NoRow" 271)),(some (st "NoRow" 279)),(some (.builtin "ValueError.__new__")),(some (.bool true))])::
(nat_lit 100,B1 "is_whole" 298 17 1 95 302)::
(nat_lit 101,G1 8 "is_whole" 100 o0_)::
(nat_lit 107,B1 "is_between" 305 19 3 102 311)::
(nat_lit 108,G1 9 "is_between" 107 o0_)::
(nat_lit 114,B1 "greatest_divisor" 314 21 1 109 322)::
(nat_lit 115,G1 10 "greatest_divisor" 114 o0_)::
(nat_lit 121,B1 "summed_products" 325 30 2 116 330)::
(nat_lit 122,G1 11 "summed_products" 121 o0_)::
(nat_lit 128,B1 "ratio" 335 33 2 123 341)::
(nat_lit 129,G1 13 "ratio" 128 o1_)::
(nat_lit 135,B1 "plus" 344 38 2 130 349)::
(nat_lit 136,G1 14 "plus" 135 o1_)::
(nat_lit 142,B1 "minus" 352 40 2 137 357)::
(nat_lit 143,G1 15 "minus" 142 o1_)::
(nat_lit 149,B1 "product" 360 42 2 144 365)::
(nat_lit 150,G1 16 "product" 149 o1_)::
(nat_lit 156,B1 "mean_of" 368 44 1 151 374)::
(nat_lit 157,G1 17 "mean_of" 156 o1_)::
(nat_lit 163,B1 "under" 377 49 2 158 382)::
(nat_lit 164,G1 18 "under" 163 o1_)::
(nat_lit 170,B1 "least_of" 385 51 1 165 391)::
(nat_lit 171,G1 19 "least_of" 170 o1_)::
(nat_lit 177,B1 "greatest_of" 394 57 1 172 400)::
(nat_lit 178,G1 20 "greatest_of" 177 o1_)::
(nat_lit 184,B1 "down" 403 63 1 179 407)::
(nat_lit 185,G1 21 "down" 184 o1_)::
(nat_lit 191,B1 "is_fraction" 410 65 1 186 414)::
(nat_lit 192,G1 22 "is_fraction" 191 o1_)::
(nat_lit 198,B1 "side" 419 72 3 193 427)::
(nat_lit 199,G1 24 "side" 198 o2_)::
(nat_lit 205,B1 "edge_numbers" 430 78 2 200 435)::
(nat_lit 206,G1 25 "edge_numbers" 205 o2_)::
(nat_lit 212,B1 "edge_sum" 438 80 3 207 444)::
(nat_lit 213,G1 26 "edge_sum" 212 o2_)::
(nat_lit 219,B1 "check_before_eye" 447 82 1 214 452)::
(nat_lit 220,G1 27 "check_before_eye" 219 o2_)::
(nat_lit 226,B1 "had" 455 86 2 221 461)::
(nat_lit 227,G1 28 "had" 226 o2_)::
(nat_lit 233,B1 "weights" 464 92 2 228 469)::
(nat_lit 234,G1 29 "weights" 233 o2_)::
(nat_lit 240,B1 "seen_at" 474 95 2 235 479)::
(nat_lit 241,G1 31 "seen_at" 240 o3_)::
(nat_lit 245,E1 "depth_and_values" 482 99 2 242 485)::
(nat_lit 246,G1 32 "depth_and_values" 245 o3_)::
(nat_lit 250,E1 "weighed_h" 488 104 2 247 491)::
(nat_lit 251,G1 33 "weighed_h" 250 o3_)::
(nat_lit 257,B1 "spot_at" 496 107 3 252 502)::
(nat_lit 258,G1 35 "spot_at" 257 o4_)::
(nat_lit 264,B1 "check_floor" 511 112 2 259 516)::
(nat_lit 265,G1 39 "check_floor" 264 o5_)::
(nat_lit 269,E1 "check_spots" 519 115 1 266 522)::
(nat_lit 270,G1 40 "check_spots" 269 o5_)::
(nat_lit 276,B1 "is_spot" 525 122 1 271 529)::
(nat_lit 277,G1 41 "is_spot" 276 o5_)::
(nat_lit 283,B1 "spots_or_middle" 532 126 1 278 536)::
(nat_lit 284,G1 42 "spots_or_middle" 283 o5_)::
(nat_lit 290,B1 "ground_or_none" 539 131 1 285 543)::
(nat_lit 291,G1 43 "ground_or_none" 290 o5_)::
(nat_lit 297,B1 "colour_seen" 546 133 3 292 552)::
(nat_lit 298,G1 44 "colour_seen" 297 o5_)::
(nat_lit 304,B1 "sights_at" 555 135 2 299 563)::
(nat_lit 305,G1 45 "sights_at" 304 o5_)::
(nat_lit 311,B1 "colour_of" 566 142 2 306 574)::
(nat_lit 312,G1 46 "colour_of" 311 o5_)::
(nat_lit 318,B1 "nearest_of" 577 150 1 313 583)::
(nat_lit 319,G1 47 "nearest_of" 318 o5_)::
(nat_lit 323,E1 "layers_over" 586 158 2 320 589)::
(nat_lit 324,G1 48 "layers_over" 323 o5_)::
(nat_lit 330,B1 "laid_over" 592 165 2 325 598)::
(nat_lit 331,G1 49 "laid_over" 330 o5_)::
(nat_lit 332,T #[.none,.none])::
(nat_lit 336,E1 "paint" 601 168 5 333 604)::
(nat_lit 337,F (top 50) "paint" "paint" none (.ref 332) .none (.ref 336) .none (st "sampleyard.paint" 505) .none)::
(nat_lit 341,E1 "painted_row" 607 173 5 338 610)::
(nat_lit 342,G1 51 "painted_row" 341 o5_)::
(nat_lit 346,E1 "sights_in" 613 175 4 343 616)::
(nat_lit 347,G1 52 "sights_in" 346 o5_)::
(nat_lit 351,E1 "cell_colour" 619 177 2 348 622)::
(nat_lit 352,G1 53 "cell_colour" 351 o5_)::
(nat_lit 353,T #[.none])::
(nat_lit 357,E1 "doubtful" 625 179 4 354 628)::
(nat_lit 358,F (top 54) "doubtful" "doubtful" none (.ref 353) .none (.ref 357) .none (st "sampleyard.paint" 505) .none)::
(nat_lit 362,E1 "has_alike_depths" 631 188 1 359 634)::
(nat_lit 363,G1 55 "has_alike_depths" 362 o5_)::
(nat_lit 369,B1 "check_triangle" 641 193 1 364 646)::
(nat_lit 370,G1 58 "check_triangle" 369 o6_)::
(nat_lit 374,E1 "is_corner" 649 201 1 371 652)::
(nat_lit 375,G1 59 "is_corner" 374 o6_)::
(nat_lit 379,E1 "are_values" 655 207 1 376 658)::
(nat_lit 380,G1 60 "are_values" 379 o6_)::
(nat_lit 384,E1 "mixed" 661 211 4 381 664)::
(nat_lit 385,G1 61 "mixed" 384 o6_)::
(nat_lit 391,B1 "numbers_of" 667 216 1 386 671)::
(nat_lit 392,G1 62 "numbers_of" 391 o6_)::
(nat_lit 393,T #[(.int (1) 676),(.int (2) 677),(.int (4) 678),(.int (8) 679),(.int (16) 680)])::
(nat_lit 397,E1 "check_pattern" 682 220 1 394 685)::
(nat_lit 398,G1 65 "check_pattern" 397 o7_)::
(nat_lit 402,E1 "copied" 688 230 1 399 691)::
(nat_lit 403,G1 66 "copied" 402 o7_)::
(nat_lit 409,B1 "entry_at" 694 232 3 404 701)::
(nat_lit 410,G1 67 "entry_at" 409 o7_)::
(nat_lit 423,C "__init__" 718 "Thing.__init__" 719 720 238 2 0 0 3 (.ref 418) true 181 (.ref 419) .none (.ref 420) (.ref 421) (.ref 422) 723 238 724)::
(nat_lit 424,F (inClass (top 69) 0) "__init__" "Thing.__init__" none .none .none (.ref 423) .none (st "sampleyard.things" 704) .none)::
(nat_lit 430,C "is_glass" 726 "Thing.is_glass" 727 728 243 1 0 0 3 (.ref 425) true 181 (.ref 426) .none (.ref 427) (.ref 428) (.ref 429) 730 243 731)::
(nat_lit 431,F (inClass (top 69) 1) "is_glass" "Thing.is_glass" none .none .none (.ref 430) .none (st "sampleyard.things" 704) .none)::
(nat_lit 433,D [(en P "__module__" 713 (st "sampleyard.things" 704)),(en P "__firstlineno__" 717 (.int (236) 716)),(en P "__init__" 725 (.ref 424)),(en P "is_glass" 732 (.ref 431)),(en P "__static_attributes__" 734 (.ref 432)),(en P "__dict__" 736 (.ref 435)),(en P "__weakref__" 738 (.ref 436)),(en P "__doc__" 739 .none)] 4)::
(nat_lit 434,L "Thing" [(.type "object")] [(.ref 434),(.type "object")] 433 [(.ref 476),(.ref 516),(.ref 556),(.ref 603)] #[none,none,(some (st "Thing" 706)),(some (st "Thing" 714)),(some (.builtin "object.__new__")),(some (.bool true))])::
(nat_lit 435,⟨(.type "getset_descriptor"),none,(.fields #[(st "__dict__" 735),(.ref 434),(.builtin "function.__dict__"),(.builtin "function.__dict__#set")]),#[]⟩)::
(nat_lit 436,⟨(.type "getset_descriptor"),none,(.fields #[(st "__weakref__" 737),(.ref 434),(.builtin "ExceptionGroup.__weakref__"),.none]),#[]⟩)::
(nat_lit 439,T #[(.ref 434)])::
(nat_lit 451,C "__init__" 754 "Plain.__init__" 755 756 247 3 0 0 3 (.ref 446) true 181 (.ref 447) .none (.ref 448) (.ref 449) (.ref 450) 760 247 761)::
(nat_lit 452,F (inClass (top 70) 0) "__init__" "Plain.__init__" none .none .none (.ref 451) .none (st "sampleyard.things" 704) .none)::
(nat_lit 458,C "word" 763 "Plain.word" 764 765 252 1 0 0 3 (.ref 453) true 181 (.ref 454) .none (.ref 455) (.ref 456) (.ref 457) 767 252 768)::
(nat_lit 459,F (inClass (top 70) 1) "word" "Plain.word" none .none .none (.ref 458) .none (st "sampleyard.things" 704) .none)::
(nat_lit 465,C "colour_at" 770 "Plain.colour_at" 771 772 255 2 0 0 3 (.ref 460) true 181 (.ref 461) .none (.ref 462) (.ref 463) (.ref 464) 775 255 776)::
(nat_lit 466,F (inClass (top 70) 2) "colour_at" "Plain.colour_at" none .none .none (.ref 465) .none (st "sampleyard.things" 704) .none)::
(nat_lit 472,C "like" 778 "Plain.like" 779 780 258 2 0 0 3 (.ref 467) true 181 (.ref 468) .none (.ref 469) (.ref 470) (.ref 471) 783 258 784)::
(nat_lit 473,F (inClass (top 70) 3) "like" "Plain.like" none .none .none (.ref 472) .none (st "sampleyard.things" 704) .none)::
(nat_lit 475,D [(en P "__module__" 749 (st "sampleyard.things" 704)),(en P "__firstlineno__" 753 (.int (245) 752)),(en P "__init__" 762 (.ref 452)),(en P "word" 769 (.ref 459)),(en P "colour_at" 777 (.ref 466)),(en P "like" 785 (.ref 473)),(en P "__static_attributes__" 787 (.ref 474)),(en P "__doc__" 788 .none)] 2)::
(nat_lit 476,L "Plain" [(.ref 434)] [(.ref 476),(.ref 434),(.type "object")] 475 [] #[(some (.ref 439)),none,(some (st "Plain" 742)),(some (st "Plain" 750)),(some (.builtin "object.__new__")),(some (.bool true))])::
(nat_lit 479,T #[(.ref 434)])::
(nat_lit 491,C "__init__" 803 "Shaded.__init__" 804 805 262 2 0 0 3 (.ref 486) true 181 (.ref 487) .none (.ref 488) (.ref 489) (.ref 490) 808 262 809)::
(nat_lit 492,F (inClass (top 71) 0) "__init__" "Shaded.__init__" none .none .none (.ref 491) .none (st "sampleyard.things" 704) .none)::
(nat_lit 498,C "word" 811 "Shaded.word" 812 813 266 1 0 0 3 (.ref 493) true 181 (.ref 494) .none (.ref 495) (.ref 496) (.ref 497) 815 266 816)::
(nat_lit 499,F (inClass (top 71) 1) "word" "Shaded.word" none .none .none (.ref 498) .none (st "sampleyard.things" 704) .none)::
(nat_lit 505,C "colour_at" 818 "Shaded.colour_at" 819 820 269 2 0 0 3 (.ref 500) true 181 (.ref 501) .none (.ref 502) (.ref 503) (.ref 504) 823 269 824)::
(nat_lit 506,F (inClass (top 71) 2) "colour_at" "Shaded.colour_at" none .none .none (.ref 505) .none (st "sampleyard.things" 704) .none)::
(nat_lit 512,C "like" 826 "Shaded.like" 827 828 272 2 0 0 3 (.ref 507) true 181 (.ref 508) .none (.ref 509) (.ref 510) (.ref 511) 831 272 832)::
(nat_lit 513,F (inClass (top 71) 3) "like" "Shaded.like" none .none .none (.ref 512) .none (st "sampleyard.things" 704) .none)::
(nat_lit 515,D [(en P "__module__" 798 (st "sampleyard.things" 704)),(en P "__firstlineno__" 802 (.int (260) 801)),(en P "__init__" 810 (.ref 492)),(en P "word" 817 (.ref 499)),(en P "colour_at" 825 (.ref 506)),(en P "like" 833 (.ref 513)),(en P "__static_attributes__" 834 (.ref 514)),(en P "__doc__" 835 .none)] 2)::
(nat_lit 516,L "Shaded" [(.ref 434)] [(.ref 516),(.ref 434),(.type "object")] 515 [] #[(some (.ref 479)),none,(some (st "Shaded" 791)),(some (st "Shaded" 799)),(some (.builtin "object.__new__")),(some (.bool true))])::
(nat_lit 519,T #[(.ref 434)])::
(nat_lit 531,C "__init__" 850 "Patterned.__init__" 851 852 276 3 0 0 3 (.ref 526) true 181 (.ref 527) .none (.ref 528) (.ref 529) (.ref 530) 856 276 857)::
(nat_lit 532,F (inClass (top 72) 0) "__init__" "Patterned.__init__" none .none .none (.ref 531) .none (st "sampleyard.things" 704) .none)::
(nat_lit 538,C "word" 859 "Patterned.word" 860 861 282 1 0 0 3 (.ref 533) true 181 (.ref 534) .none (.ref 535) (.ref 536) (.ref 537) 863 282 864)::
(nat_lit 539,F (inClass (top 72) 1) "word" "Patterned.word" none .none .none (.ref 538) .none (st "sampleyard.things" 704) .none)::
(nat_lit 545,C "colour_at" 866 "Patterned.colour_at" 867 868 285 2 0 0 3 (.ref 540) true 181 (.ref 541) .none (.ref 542) (.ref 543) (.ref 544) 871 285 872)::
(nat_lit 546,F (inClass (top 72) 2) "colour_at" "Patterned.colour_at" none .none .none (.ref 545) .none (st "sampleyard.things" 704) .none)::
(nat_lit 552,C "like" 874 "Patterned.like" 875 876 288 2 0 0 3 (.ref 547) true 181 (.ref 548) .none (.ref 549) (.ref 550) (.ref 551) 879 288 880)::
(nat_lit 553,F (inClass (top 72) 3) "like" "Patterned.like" none .none .none (.ref 552) .none (st "sampleyard.things" 704) .none)::
(nat_lit 555,D [(en P "__module__" 845 (st "sampleyard.things" 704)),(en P "__firstlineno__" 849 (.int (274) 848)),(en P "__init__" 858 (.ref 532)),(en P "word" 865 (.ref 539)),(en P "colour_at" 873 (.ref 546)),(en P "like" 881 (.ref 553)),(en P "__static_attributes__" 883 (.ref 554)),(en P "__doc__" 884 .none)] 2)::
(nat_lit 556,L "Patterned" [(.ref 434)] [(.ref 556),(.ref 434),(.type "object")] 555 [] #[(some (.ref 519)),none,(some (st "Patterned" 838)),(some (st "Patterned" 846)),(some (.builtin "object.__new__")),(some (.bool true))])::
(nat_lit 559,T #[(.ref 434)])::
(nat_lit 571,C "__init__" 899 "Glass.__init__" 900 901 292 4 0 0 3 (.ref 566) true 181 (.ref 567) .none (.ref 568) (.ref 569) (.ref 570) 906 292 907)::
(nat_lit 572,F (inClass (top 73) 0) "__init__" "Glass.__init__" none .none .none (.ref 571) .none (st "sampleyard.things" 704) .none)::
(nat_lit 578,C "word" 909 "Glass.word" 910 911 299 1 0 0 3 (.ref 573) true 181 (.ref 574) .none (.ref 575) (.ref 576) (.ref 577) 913 299 914)::
(nat_lit 579,F (inClass (top 73) 1) "word" "Glass.word" none .none .none (.ref 578) .none (st "sampleyard.things" 704) .none)::
(nat_lit 585,C "is_glass" 916 "Glass.is_glass" 917 918 302 1 0 0 3 (.ref 580) true 181 (.ref 581) .none (.ref 582) (.ref 583) (.ref 584) 920 302 921)::
(nat_lit 586,F (inClass (top 73) 2) "is_glass" "Glass.is_glass" none .none .none (.ref 585) .none (st "sampleyard.things" 704) .none)::
(nat_lit 592,C "colour_at" 923 "Glass.colour_at" 924 925 305 2 0 0 3 (.ref 587) true 181 (.ref 588) .none (.ref 589) (.ref 590) (.ref 591) 928 305 929)::
(nat_lit 593,F (inClass (top 73) 3) "colour_at" "Glass.colour_at" none .none .none (.ref 592) .none (st "sampleyard.things" 704) .none)::
(nat_lit 599,C "like" 931 "Glass.like" 932 933 308 2 0 0 3 (.ref 594) true 181 (.ref 595) .none (.ref 596) (.ref 597) (.ref 598) 936 308 937)::
(nat_lit 600,F (inClass (top 73) 4) "like" "Glass.like" none .none .none (.ref 599) .none (st "sampleyard.things" 704) .none)::
(nat_lit 602,D [(en P "__module__" 894 (st "sampleyard.things" 704)),(en P "__firstlineno__" 898 (.int (290) 897)),(en P "__init__" 908 (.ref 572)),(en P "word" 915 (.ref 579)),(en P "is_glass" 922 (.ref 586)),(en P "colour_at" 930 (.ref 593)),(en P "like" 938 (.ref 600)),(en P "__static_attributes__" 941 (.ref 601)),(en P "__doc__" 942 .none)] 2)::
(nat_lit 603,L "Glass" [(.ref 434)] [(.ref 603),(.ref 434),(.type "object")] 602 [] #[(some (.ref 559)),none,(some (st "Glass" 887)),(some (st "Glass" 895)),(some (.builtin "object.__new__")),(some (.bool true))])::
(nat_lit 611,B1 "check_values" 945 310 2 606 950)::
(nat_lit 612,G1 74 "check_values" 611 o8_)::
(nat_lit 618,B1 "check_colour" 953 313 1 613 957)::
(nat_lit 619,G1 75 "check_colour" 618 o8_)::
(nat_lit 625,B1 "check_part" 960 316 1 620 964)::
(nat_lit 626,G1 76 "check_part" 625 o8_)::
(nat_lit 632,B1 "number_word" 973 322 1 627 979)::
(nat_lit 633,G1 80 "number_word" 632 o9_)::
(nat_lit 639,B1 "fraction_word" 982 332 1 634 986)::
(nat_lit 640,G1 81 "fraction_word" 639 o9_)::
(nat_lit 646,B1 "read_number" 989 336 1 641 994)::
(nat_lit 647,G1 82 "read_number" 646 o9_)::
(nat_lit 651,E1 "are_figures" 997 341 1 648 1000)::
(nat_lit 652,G1 83 "are_figures" 651 o9_)::
(nat_lit 658,B1 "read_fraction" 1003 347 1 653 1009)::
(nat_lit 659,G1 84 "read_fraction" 658 o9_)::
(nat_lit 665,B1 "words_behind" 1012 355 2 660 1018)::
(nat_lit 666,G1 85 "words_behind" 665 o9_)::
(nat_lit 672,B1 "just_words_behind" 1021 360 3 667 1028)::
(nat_lit 673,G1 86 "just_words_behind" 672 o9_)::
(nat_lit 677,E1 "numbers_behind" 1031 365 3 674 1034)::
(nat_lit 678,G1 87 "numbers_behind" 677 o9_)::
(nat_lit 682,E1 "thing_text" 1037 367 1 679 1040)::
(nat_lit 683,G1 88 "thing_text" 682 o9_)::
(nat_lit 689,B1 "head_words" 1043 369 1 684 1048)::
(nat_lit 690,G1 89 "head_words" 689 o9_)::
(nat_lit 694,E1 "pattern_word" 1051 378 1 691 1054)::
(nat_lit 695,G1 90 "pattern_word" 694 o9_)::
(nat_lit 699,E1 "corner_text" 1057 380 1 696 1060)::
(nat_lit 700,G1 91 "corner_text" 699 o9_)::
(nat_lit 704,E1 "read_thing" 1063 382 1 701 1066)::
(nat_lit 705,G1 92 "read_thing" 704 o9_)::
(nat_lit 711,B1 "check_text" 1069 388 1 706 1073)::
(nat_lit 712,G1 93 "check_text" 711 o9_)::
(nat_lit 718,B1 "groups_of" 1076 391 1 713 1082)::
(nat_lit 719,G1 94 "groups_of" 718 o9_)::
(nat_lit 723,E1 "read_corner" 1085 399 1 720 1088)::
(nat_lit 724,G1 95 "read_corner" 723 o9_)::
(nat_lit 730,B1 "thing_of" 1091 404 2 725 1096)::
(nat_lit 731,G1 96 "thing_of" 730 o9_)::
(nat_lit 735,E1 "read_pattern" 1099 414 1 732 1102)::
(nat_lit 736,G1 97 "read_pattern" 735 o9_)::
(nat_lit 740,E1 "scene_text" 1105 416 1 737 1108)::
(nat_lit 741,G1 98 "scene_text" 740 o9_)::
(nat_lit 747,B1 "pair_word" 1111 419 1 742 1115)::
(nat_lit 748,G1 99 "pair_word" 747 o9_)::
(nat_lit 754,B1 "read_floor" 1118 421 1 749 1123)::
(nat_lit 755,G1 100 "read_floor" 754 o9_)::
(nat_lit 761,B1 "read_ground" 1126 425 1 756 1130)::
(nat_lit 762,G1 101 "read_ground" 761 o9_)::
(nat_lit 766,E1 "read_spots" 1133 427 1 763 1136)::
(nat_lit 767,G1 102 "read_spots" 766 o9_)::
(nat_lit 771,E1 "read_spot" 1139 431 1 768 1142)::
(nat_lit 772,G1 103 "read_spot" 771 o9_)::
(nat_lit 776,E1 "picture_text" 1145 433 1 773 1148)::
(nat_lit 777,G1 104 "picture_text" 776 o9_)::
(nat_lit 783,B1 "tiles_along" 1155 439 2 778 1160)::
(nat_lit 784,G1 107 "tiles_along" 783 o10_)::
(nat_lit 790,B1 "tile_cells" 1163 441 4 785 1176)::
(nat_lit 791,G1 108 "tile_cells" 790 o10_)::
(nat_lit 795,E1 "near_depth" 1179 450 1 792 1182)::
(nat_lit 796,G1 109 "near_depth" 795 o10_)::
(nat_lit 802,B1 "check_wide" 1185 452 1 797 1189)::
(nat_lit 803,G1 110 "check_wide" 802 o10_)::
(nat_lit 807,E1 "order_or_rising" 1192 455 2 804 1195)::
(nat_lit 808,G1 111 "order_or_rising" 807 o10_)::
(nat_lit 809,T #[.none,.none,.none])::
(nat_lit 813,E1 "paint_tiles" 1198 463 7 810 1201)::
(nat_lit 814,F (top 112) "paint_tiles" "paint_tiles" none (.ref 809) .none (.ref 813) .none (st "sampleyard.tiles" 1151) .none)::
(nat_lit 818,E1 "points_in" 1204 477 2 815 1207)::
(nat_lit 819,G1 113 "points_in" 818 o10_)::
(nat_lit 823,E1 "looked_at" 1210 482 2 820 1213)::
(nat_lit 824,G1 114 "looked_at" 823 o10_)::
(nat_lit 830,B1 "far_depth" 1216 494 1 825 1220)::
(nat_lit 831,G1 115 "far_depth" 830 o10_)::
(nat_lit 837,B1 "look_at" 1223 498 4 832 1233)::
(nat_lit 838,G1 116 "look_at" 837 o10_)::
(nat_lit 844,B1 "lesser" 1236 506 2 839 1241)::
(nat_lit 845,G1 117 "lesser" 844 o10_)::
(nat_lit 851,B1 "paint_cells" 1244 508 4 846 1255)::
(nat_lit 852,G1 118 "paint_cells" 851 o10_)::
(nat_lit 858,B1 "form" 1260 514 2 853 1265)::
(nat_lit 859,G1 120 "form" 858 o11_)::
(nat_lit 863,E1 "cut" 1268 516 2 860 1271)::
(nat_lit 864,G1 121 "cut" 863 o11_)::
(nat_lit 870,B1 "begun_at" 1274 529 2 865 1279)::
(nat_lit 871,G1 122 "begun_at" 870 o11_)::
(nat_lit 877,B1 "parted" 1282 531 2 872 1292)::
(nat_lit 878,G1 123 "parted" 877 o11_)::
(nat_lit 884,B1 "met" 1295 538 4 879 1302)::
(nat_lit 885,G1 124 "met" 884 o11_)::
(nat_lit 891,B1 "with_floor" 1307 541 2 886 1313)::
(nat_lit 892,G1 126 "with_floor" 891 o12_)::
(nat_lit 898,B1 "with_ground" 1316 544 2 893 1321)::
(nat_lit 899,G1 127 "with_ground" 898 o12_)::
(nat_lit 905,B1 "with_spots" 1324 546 2 900 1329)::
(nat_lit 906,G1 128 "with_spots" 905 o12_)::
(nat_lit 912,B1 "with_things" 1332 548 2 907 1337)::
(nat_lit 913,G1 129 "with_things" 912 o12_)::
(nat_lit 919,B1 "with_thing" 1340 550 2 914 1345)::
(nat_lit 920,G1 130 "with_thing" 919 o12_)::
(nat_lit 926,B1 "without_thing" 1348 552 2 921 1354)::
(nat_lit 927,G1 131 "without_thing" 926 o12_)::
(nat_lit 931,E1 "cut_near" 1357 556 2 928 1360)::
(nat_lit 932,G1 132 "cut_near" 931 o12_)::
(nat_lit 938,B1 "check_number" 1363 565 3 933 1369)::
(nat_lit 939,G1 133 "check_number" 938 o12_)::
(nat_lit 945,B1 "picture_of" 1372 568 1 940 1376)::
(nat_lit 946,G1 134 "picture_of" 945 o12_)::
(nat_lit 952,B1 "shown" 1379 570 2 947 1384)::
(nat_lit 953,G1 135 "shown" 952 o12_)::
(nat_lit 959,B1 "painted" 1387 573 2 954 1392)::
(nat_lit 960,G1 136 "painted" 959 o12_)::
(nat_lit 964,E1 "let_go" 1395 576 2 961 1398)::
(nat_lit 965,G1 137 "let_go" 964 o12_)::
(nat_lit 969,E1 "doubted" 1401 580 2 966 1404)::
(nat_lit 970,G1 138 "doubted" 969 o12_)::
(nat_lit 976,B1 "colour_told" 1407 584 2 971 1412)::
(nat_lit 977,G1 139 "colour_told" 976 o12_)::
(nat_lit 981,E1 "numbers_seen" 1415 586 2 978 1418)::
(nat_lit 982,G1 140 "numbers_seen" 981 o12_)::
(nat_lit 988,B1 "read_point" 1421 590 2 983 1428)::
(nat_lit 989,G1 141 "read_point" 988 o12_)::
(nat_lit 995,B1 "listed" 1431 596 2 990 1436)::
(nat_lit 996,G1 142 "listed" 995 o12_)::
(nat_lit 1000,E1 "unlike_cells" 1439 598 2 997 1442)::
(nat_lit 1001,G1 143 "unlike_cells" 1000 o12_)::
(nat_lit 1002,D [(en P "floor" 1445 (.ref 892)),(en P "ground" 1446 (.ref 899)),(en P "spots" 1447 (.ref 906)),(en P "drop" 1448 (.ref 927)),(en P "near" 1449 (.ref 932))] 5)::
(nat_lit 1003,D [(en P "show" 1456 (.ref 953)),(en P "paint" 1457 (.ref 960)),(en P "tiles" 1458 (.ref 965)),(en P "doubt" 1459 (.ref 970)),(en P "at" 1460 (.ref 977)),(en P "who" 1461 (.ref 982))] 6)::
(nat_lit 1016,C "__init__" 1481 "Desk.__init__" 1482 1483 611 1 0 0 3 (.ref 1011) true 181 (.ref 1012) .none (.ref 1013) (.ref 1014) (.ref 1015) 1485 611 1486)::
(nat_lit 1017,F (inClass (top 146) 0) "__init__" "Desk.__init__" none .none .none (.ref 1016) .none (st "sampleyard.desk" 1305) .none)::
(nat_lit 1023,C "say" 1488 "Desk.say" 1489 1490 616 2 0 0 3 (.ref 1018) true 181 (.ref 1019) .none (.ref 1020) (.ref 1021) (.ref 1022) 1494 616 1495)::
(nat_lit 1024,F (inClass (top 146) 1) "say" "Desk.say" none .none .none (.ref 1023) .none (st "sampleyard.desk" 1305) .none)::
(nat_lit 1030,C "answer_to" 1497 "Desk.answer_to" 1498 1499 624 2 0 0 3 (.ref 1025) true 181 (.ref 1026) .none (.ref 1027) (.ref 1028) (.ref 1029) 1503 624 1504)::
(nat_lit 1031,F (inClass (top 146) 2) "answer_to" "Desk.answer_to" none .none .none (.ref 1030) .none (st "sampleyard.desk" 1305) .none)::
(nat_lit 1037,C "differing" 1506 "Desk.differing" 1507 1508 640 2 0 0 3 (.ref 1032) true 181 (.ref 1033) .none (.ref 1034) (.ref 1035) (.ref 1036) 1511 640 1512)::
(nat_lit 1038,F (inClass (top 146) 3) "differing" "Desk.differing" none .none .none (.ref 1037) .none (st "sampleyard.desk" 1305) .none)::
(nat_lit 1040,D [(en P "__module__" 1476 (st "sampleyard.desk" 1305)),(en P "__firstlineno__" 1480 (.int (609) 1479)),(en P "__init__" 1487 (.ref 1017)),(en P "say" 1496 (.ref 1024)),(en P "answer_to" 1505 (.ref 1031)),(en P "differing" 1513 (.ref 1038)),(en P "__static_attributes__" 1517 (.ref 1039)),(en P "__dict__" 1519 (.ref 1042)),(en P "__weakref__" 1521 (.ref 1043)),(en P "__doc__" 1522 .none)] 4)::
(nat_lit 1041,L "Desk" [(.type "object")] [(.ref 1041),(.type "object")] 1040 [] #[none,none,(some (st "Desk" 1469)),(some (st "Desk" 1477)),(some (.builtin "object.__new__")),(some (.bool true))])::
(nat_lit 1042,⟨(.type "getset_descriptor"),none,(.fields #[(st "__dict__" 1518),(.ref 1041),(.builtin "function.__dict__"),(.builtin "function.__dict__#set")]),#[]⟩)::
(nat_lit 1043,⟨(.type "getset_descriptor"),none,(.fields #[(st "__weakref__" 1520),(.ref 1041),(.builtin "ExceptionGroup.__weakref__"),.none]),#[]⟩)::
(nat_lit 1051,B1 "_law_cell_at" 1527 646 2 1046 1532)::
(nat_lit 1052,G1 148 "_law_cell_at" 1051 o13_)::
(nat_lit 1058,B1 "_law_mixed" 1535 650 2 1053 1541)::
(nat_lit 1059,G1 149 "_law_mixed" 1058 o13_)::
(nat_lit 1063,E1 "_law_draws" 1544 656 2 1060 1547)::
(nat_lit 1064,G1 150 "_law_draws" 1063 o13_)::
(nat_lit 1068,E1 "_law_corner" 1550 658 2 1065 1553)::
(nat_lit 1069,G1 151 "_law_corner" 1068 o13_)::
(nat_lit 1073,E1 "_law_triangles" 1556 677 4 1070 1559)::
(nat_lit 1074,G1 152 "_law_triangles" 1073 o13_)::
(nat_lit 1080,B1 "_law_pattern" 1562 690 2 1075 1574)::
(nat_lit 1081,G1 153 "_law_pattern" 1080 o13_)::
(nat_lit 1085,E1 "_law_thing" 1577 701 2 1082 1580)::
(nat_lit 1086,G1 154 "_law_thing" 1085 o13_)::
(nat_lit 1092,B1 "_law_things" 1583 715 3 1087 1594)::
(nat_lit 1093,G1 155 "_law_things" 1092 o13_)::
(nat_lit 1099,B1 "_law_spots" 1597 722 1 1094 1605)::
(nat_lit 1100,G1 156 "_law_spots" 1099 o13_)::
(nat_lit 1106,B1 "_law_word" 1608 732 1 1101 1612)::
(nat_lit 1107,G1 157 "_law_word" 1106 o13_)::
(nat_lit 1113,B1 "_law_like" 1615 736 2 1108 1620)::
(nat_lit 1114,G1 158 "_law_like" 1113 o13_)::
(nat_lit 1118,E1 "_law_told" 1623 744 4 1115 1626)::
(nat_lit 1119,G1 159 "_law_told" 1118 o13_)::
(nat_lit 1125,B1 "law" 1629 774 1 1120 1642)::
(nat_lit 1126,G1 160 "law" 1125 o13_)::
[]
noncomputable abbrev addrs:List Addr:=[2,3,15,23,24,25,28,36,37,40,48,49,52,60,61,64,72,73,76,88,89,91,92,100,101,107,108,114,115,121,122,128,129,135,136,142,143,149,150,156,157,163,164,170,171,177,178,184,185,191,192,198,199,205,206,212,213,219,220,226,227,233,234,240,241,245,246,250,251,257,258,264,265,269,270,276,277,283,284,290,291,297,298,304,305,311,312,318,319,323,324,330,331,332,336,337,341,342,346,347,351,352,353,357,358,362,363,369,370,374,375,379,380,384,385,391,392,393,397,398,402,403,409,410,423,424,430,431,433,434,435,436,439,451,452,458,459,465,466,472,473,475,476,479,491,492,498,499,505,506,512,513,515,516,519,531,532,538,539,545,546,552,553,555,556,559,571,572,578,579,585,586,592,593,599,600,602,603,611,612,618,619,625,626,632,633,639,640,646,647,651,652,658,659,665,666,672,673,677,678,682,683,689,690,694,695,699,700,704,705,711,712,718,719,723,724,730,731,735,736,740,741,747,748,754,755,761,762,766,767,771,772,776,777,783,784,790,791,795,796,802,803,807,808,809,813,814,818,819,823,824,830,831,837,838,844,845,851,852,858,859,863,864,870,871,877,878,884,885,891,892,898,899,905,906,912,913,919,920,926,927,931,932,938,939,945,946,952,953,959,960,964,965,969,970,976,977,981,982,988,989,995,996,1000,1001,1002,1003,1016,1017,1023,1024,1030,1031,1037,1038,1040,1041,1042,1043,1051,1052,1058,1059,1063,1064,1068,1069,1073,1074,1080,1081,1085,1086,1092,1093,1099,1100,1106,1107,1113,1114,1118,1119,1125,1126]
abbrev most:Nat:=14732
def KJ(P:Params):addrs=(heap P).map (·.1):=rfl
abbrev hook:Hook:=kHook heap addrs KJ
end Hd
namespace Hd
open PySem PySem.W PyProof.Rows
def Og(tb:String->Option Builtin)(p:Program)(w:World)(n₀:Nat)(ann:Option Value):Nat->SharedT->Thread->Option SharedT
 | 0,_,_=>none
 | n+1,s,t=>match through t with
  | true=>some s
  | false=>match stepOk n₀ ann t with
   | false=>none
   | true=>match stepT (denote tb) p w s t with
    | some (s',t')=>Og tb p w n₀ ann n s' t'
    | none=>none
def dH{tb:String->Option Builtin}{p:Program}{w:World}{n₀:Nat}{ann:Option Value}:∀{n:Nat} {s s':SharedT} {t:Thread},Og tb p w n₀ ann n s t=some s'->topRun tb p w n₀ ann n s.abs t=some s'.abs
 | 0,_,_,_,h=>by cases h
 | n+1,s,s',t,h=>by
  unfold Og at h;unfold topRun;cases he:through t with
  | true=>rw [he] at h;cases h;rfl
  | false=>
   rw [he] at h;cases hk:stepOk n₀ ann t with
   | false=>rw [hk] at h;cases h
   | true=>
    rw [hk] at h;cases hs:stepT (denote tb) p w s t with
    | none=>rw [hs] at h;cases h
    | some r=>obtain ⟨s₂,t₂⟩:=r;rw [hs] at h;rw [stepT_spec hs];exact dH h
def Nk(p:Program)(w:World)(n₀:Nat)(ann:Option Value):Nat->SharedT->Thread->Option SharedT
 | 0,_,_=>none
 | n+1,s,t=>match through t with
  | true=>some s
  | false=>match Fast.tw6613529449190102663 n₀ ann t with
   | false=>none
   | true=>match Fast.tw10156331382660048174 (Fast.tw11892475500146522536 Fast.tw14364793385576792824) p w s t with
    | some (s',t')=>Nk p w n₀ ann n s' t'
    | none=>none
def Yl(p:Program)(w:World)(n₀:Nat)(ann:Option Value):∀(n:Nat) (s:SharedT) (t:Thread),Og treeTable p w n₀ ann n s t=Nk p w n₀ ann n s t
 | 0,_,_=>rfl
 | n+1,s,t=>by
  unfold Og Nk;rw [U7,Up,Qt,Ks];cases through t with
  | true=>rfl
  | false=>
   cases Fast.tw6613529449190102663 n₀ ann t with
   | false=>rfl
   | true=>
    cases Fast.tw10156331382660048174 (Fast.tw11892475500146522536 Fast.tw14364793385576792824) p w s t with
    | none=>rfl
    | some r=>
     obtain ⟨a,b⟩:=r;have:=Yl p w n₀ ann n a b;rw [Ks] at this;exact this
def segQ(p:Program)(w:World)(n₀:Nat)(ann:Option Value):Nat->SharedT->Thread->Option (Flow×SharedT×Code×Pos)
 | 0,_,_=>none
 | n+1,s,t=>match endAt 1 t with
  | some f=>some (f,s,t.code,t.pos)
  | none=>match Fast.tw6613529449190102663 n₀ ann t with
   | false=>none
   | true=>match Fast.tw10156331382660048174 (Fast.tw11892475500146522536 Fast.tw14364793385576792824) p w s t with
    | some (s',t')=>segQ p w n₀ ann n s' t'
    | none=>none
def Yp(p:Program)(w:World)(n₀:Nat)(ann:Option Value):∀(n:Nat) (s:SharedT) (t:Thread),segRunT treeTable p w n₀ ann 1 n s t=segQ p w n₀ ann n s t
 | 0,_,_=>rfl
 | n+1,s,t=>by
  unfold segRunT segQ;cases endAt 1 t with
  | some f=>rfl
  | none=>
   rw [U7,Up,Qt,Ks];cases Fast.tw6613529449190102663 n₀ ann t with
   | false=>rfl
   | true=>
    cases Fast.tw10156331382660048174 (Fast.tw11892475500146522536 Fast.tw14364793385576792824) p w s t with
    | none=>rfl
    | some r=>
     obtain ⟨a,b⟩:=r;have:=Yp p w n₀ ann n a b;rw [Ks] at this;exact this
def Gu{p:Program}{w:World}{n₀:Nat}{ann:Option Value}{n:Nat}{s s':SharedT}{t:Thread}{f:Flow}{c:Code}{q:Pos}(h:segQ p w n₀ ann n s t=some (f,s',c,q)):segRun treeTable p w n₀ ann 1 n s.abs t=some (f,s'.abs,c,q) :=
 segRun_of (by rw [Yp];exact h)
def goQ(p:Program)(w:World)(n₀:Nat)(ann:Option Value):Nat->SharedT->Thread->Option (SharedT×Thread)
 | 0,s,t=>some (s,t)
 | n+1,s,t=>match through t with
  | true=>none
  | false=>match Fast.tw6613529449190102663 n₀ ann t with
   | false=>none
   | true=>match Fast.tw10156331382660048174 (Fast.tw11892475500146522536 Fast.tw14364793385576792824) p w s t with
    | some (s',t')=>goQ p w n₀ ann n s' t'
    | none=>none
def Y7{p:Program}{w:World}{n₀:Nat}{ann:Option Value}{N:Nat}{r:Shared}:∀{n:Nat} {s s':SharedT} {t t':Thread},goQ p w n₀ ann n s t=some (s',t')->topRun treeTable p w n₀ ann N s'.abs t'=some r->topRun treeTable p w n₀ ann (n+N) s.abs t=some r
 | 0,s,s',t,t',h,k=>by
  cases h;rw [Nat.zero_add];exact k
 | n+1,s,s',t,t',h,k=>by
  rw [show n+1+N=n+N+1 by omega];unfold goQ at h;unfold topRun;rw [<-U7,<-Up,<-Qt,<-Ks] at h;cases he:through t with
  | true=>rw [he] at h;cases h
  | false=>
   rw [he] at h;cases hk:stepOk n₀ ann t with
   | false=>rw [hk] at h;cases h
   | true=>
    rw [hk] at h;cases hs:stepT (denote treeTable) p w s t with
    | none=>rw [hs] at h;cases h
    | some z=>obtain ⟨s₂,t₂⟩:=z;rw [hs] at h;rw [stepT_spec hs];exact Y7 h k
def Zg(i:Nat)(t:BT):List Obj->BT
 | []=>t
 | o::r=>Zg (i+1) (t.ins i o) r
def Ti(w:World)(os:OsState):SharedT:=⟨Zg 0 .nil (boot_heap w.params).objs.toList,(boot_heap w.params).objs.size,(boot_heap w.params).life,Array.mk [],boot_drawn,boot_toks,os⟩
def v8(w:World)(os:OsState):(Ti w os).abs=⟨boot_heap w.params,Array.mk [],boot_drawn,boot_toks,os⟩:=by kernel_rfl
def Hj{p:Program}{w:World}{n₀:Nat}{ann:Option Value}{env:Env}{q:Pos}{n N a k a':Nat}{s s' r:Shared}{b:List Stmt}{c:Code}{pos p':Pos}(ha:a+k=a')(h:segRun treeTable p w n₀ ann 1 n s (piecesOf ((b.drop a).take k) env c pos [topFrame q])=some (.next,s',c,p'))
  (g:topRun treeTable p w n₀ ann N s' (restOf (b.drop a') env c p' [topFrame q])=some r):topRun treeTable p w n₀ ann (n+N) s (restOf (b.drop a) env c pos [topFrame q])=some r:=by
 subst ha;rw [<-List.take_append_drop k (b.drop a),List.drop_drop];exact piece_app h g
def yZ{p:Program}{w:World}{n₀:Nat}{ann:Option Value}{env:Env}{q:Pos}{N a:Nat}{s r:Shared}{b:List Stmt}{c:Code}{pos:Pos}(e:b.length<=a)
  (g:topRun treeTable p w n₀ ann N s ⟨doneF .next,c,pos,[topFrame q]⟩=some r):topRun treeTable p w n₀ ann N s (restOf (b.drop a) env c pos [topFrame q])=some r:=by
 rw [Jz e];exact piece_nil g
end Hd
namespace Hd
open PySem PySem.W PyProof.Rows L2
def obsT(as:List Addr)(s:SharedT):List (Option Obj):=as.map λa=>match Nat.blt a s.n with
 | true=>alive ((s.tree.get a).getD default)
 | false=>none
def j8(as:List Addr)(s:SharedT):as.map s.abs.heap.get?=obsT as s:=by
 unfold obsT;refine Rq λa _=>?_;show (absHeap s.tree s.n s.life).get? a=_;unfold Heap.get?;rw [absHeap_at];by_cases h:a<s.n
 .rw [iP h,show Nat.blt a s.n=true from Nat.ble_eq.mpr h];generalize (s.tree.get a).getD default=o;obtain ⟨c,d,b,e⟩:=o;cases b<;>rfl
 .rw [iN h,show Nat.blt a s.n=false from Bool.eq_false_iff.mpr λz=>h (Fe z)]
def zx{p:Program}{w:World}{n₀:Nat}{ann:Option Value}{n:Nat}{s s':SharedT}{t:Thread}(h:Nk p w n₀ ann n s t=some s'):topRun treeTable p w n₀ ann n s.abs t=some s'.abs :=
 dH (by rw [Yl];exact h)
def yx:Fast.tw11892475500146522536 Fast.tw14364793385576792824=denote treeTable:=by rw [<-Qt,<-Ks]
def nt:Nat->List String->List Value
 | _,[]=>[]
 | t,x::r=>st x t::nt (t+1) r
abbrev N(t:Nat)(xs:List String):Obj:=T (List.toArray (nt t xs))
abbrev fr(a b:Nat)(v:Value):Obj:=⟨.type "frame",none,.plain,#[some (.ref a),some (.ref 3),some (.ref b),none,some v,none,some (.ref 0)]⟩
abbrev su(a:Nat):Obj:=⟨.type "super",none,.fields #[.ref a,.ref a,.ref a],#[]⟩
abbrev bf(x:String)(v:Value):Obj:=⟨.type "builtin_function_or_method",none,.fields #[.builtin x,v],#[]⟩
def ex:Params->List (Nat×Obj):=λP=>[(nat_lit 11,N 0 []),
(nat_lit 13,⟨(.type "code"),none,(.fields #[(st "<module>" 182),(st "<module>" 183),(st "/claim/cut.py" 184),(.int (1) 0),(.int (0) 0),(.int (0) 0),(.int (0) 0),(.int (0) 0),(.ref 11),(.bool false),(.int (181) 0),(.ref 12),.none,.none,.none,.none,(.int (185) 0),(.int (1) 0),(st "/claim/cut.py" 186)]),#[]⟩),
(nat_lit 14,fr 13 3 (st "__main__" 164)),
(nat_lit 16,bf "type.__prepare__" (.type "type")),
(nat_lit 17,⟨(.type "dict"),none,(.dict (List.toArray [en P "__module__" 196 (st "sampleyard.errors" 187),en P "__qualname__" 198 (st "YardError" 197),en P "__firstlineno__" 200 (.int (2) 199),en P "__static_attributes__" 201 (.ref 22)]) 4),#[]⟩),
(nat_lit 18,N 0 []),
(nat_lit 20,⟨(.type "code"),none,(.fields #[(st "YardError" 191),(st "YardError" 192),(st "/claim/cut.py" 193),(.int (2) 0),(.int (0) 0),(.int (0) 0),(.int (0) 0),(.int (0) 0),(.ref 18),(.bool false),(.int (181) 0),(.ref 19),.none,.none,.none,.none,(.int (194) 0),(.int (2) 0),(st "/claim/cut.py" 195)]),#[]⟩),
(nat_lit 21,fr 20 17 (st "sampleyard.errors" 187)),
(nat_lit 22,N 0 []),
(nat_lit 26,su 24),
(nat_lit 27,bf "object.__init_subclass__" (.ref 24)),
(nat_lit 29,bf "type.__prepare__" (.type "type")),
(nat_lit 30,⟨(.type "dict"),none,(.dict (List.toArray [en P "__module__" 214 (st "sampleyard.errors" 187),en P "__qualname__" 216 (st "BadTriangle" 215),en P "__firstlineno__" 218 (.int (4) 217),en P "__static_attributes__" 219 (.ref 35)]) 4),#[]⟩),
(nat_lit 31,N 0 []),
(nat_lit 33,⟨(.type "code"),none,(.fields #[(st "BadTriangle" 209),(st "BadTriangle" 210),(st "/claim/cut.py" 211),(.int (4) 0),(.int (0) 0),(.int (0) 0),(.int (0) 0),(.int (0) 0),(.ref 31),(.bool false),(.int (181) 0),(.ref 32),.none,.none,.none,.none,(.int (212) 0),(.int (4) 0),(st "/claim/cut.py" 213)]),#[]⟩),
(nat_lit 34,fr 33 30 (st "sampleyard.errors" 187)),
(nat_lit 35,N 0 []),
(nat_lit 38,su 37),
(nat_lit 39,bf "object.__init_subclass__" (.ref 37)),
(nat_lit 41,bf "type.__prepare__" (.type "type")),
(nat_lit 42,⟨(.type "dict"),none,(.dict (List.toArray [en P "__module__" 230 (st "sampleyard.errors" 187),en P "__qualname__" 232 (st "BadThing" 231),en P "__firstlineno__" 234 (.int (6) 233),en P "__static_attributes__" 235 (.ref 47)]) 4),#[]⟩),
(nat_lit 43,N 0 []),
(nat_lit 45,⟨(.type "code"),none,(.fields #[(st "BadThing" 225),(st "BadThing" 226),(st "/claim/cut.py" 227),(.int (6) 0),(.int (0) 0),(.int (0) 0),(.int (0) 0),(.int (0) 0),(.ref 43),(.bool false),(.int (181) 0),(.ref 44),.none,.none,.none,.none,(.int (228) 0),(.int (6) 0),(st "/claim/cut.py" 229)]),#[]⟩),
(nat_lit 46,fr 45 42 (st "sampleyard.errors" 187)),
(nat_lit 47,N 0 []),
(nat_lit 50,su 49),
(nat_lit 51,bf "object.__init_subclass__" (.ref 49)),
(nat_lit 53,bf "type.__prepare__" (.type "type")),
(nat_lit 54,⟨(.type "dict"),none,(.dict (List.toArray [en P "__module__" 246 (st "sampleyard.errors" 187),en P "__qualname__" 248 (st "BadFloor" 247),en P "__firstlineno__" 250 (.int (8) 249),en P "__static_attributes__" 251 (.ref 59)]) 4),#[]⟩),
(nat_lit 55,N 0 []),
(nat_lit 57,⟨(.type "code"),none,(.fields #[(st "BadFloor" 241),(st "BadFloor" 242),(st "/claim/cut.py" 243),(.int (8) 0),(.int (0) 0),(.int (0) 0),(.int (0) 0),(.int (0) 0),(.ref 55),(.bool false),(.int (181) 0),(.ref 56),.none,.none,.none,.none,(.int (244) 0),(.int (8) 0),(st "/claim/cut.py" 245)]),#[]⟩),
(nat_lit 58,fr 57 54 (st "sampleyard.errors" 187)),
(nat_lit 59,N 0 []),
(nat_lit 62,su 61),
(nat_lit 63,bf "object.__init_subclass__" (.ref 61)),
(nat_lit 65,bf "type.__prepare__" (.type "type")),
(nat_lit 66,⟨(.type "dict"),none,(.dict (List.toArray [en P "__module__" 262 (st "sampleyard.errors" 187),en P "__qualname__" 264 (st "BadPattern" 263),en P "__firstlineno__" 266 (.int (10) 265),en P "__static_attributes__" 267 (.ref 71)]) 4),#[]⟩),
(nat_lit 67,N 0 []),
(nat_lit 69,⟨(.type "code"),none,(.fields #[(st "BadPattern" 257),(st "BadPattern" 258),(st "/claim/cut.py" 259),(.int (10) 0),(.int (0) 0),(.int (0) 0),(.int (0) 0),(.int (0) 0),(.ref 67),(.bool false),(.int (181) 0),(.ref 68),.none,.none,.none,.none,(.int (260) 0),(.int (10) 0),(st "/claim/cut.py" 261)]),#[]⟩),
(nat_lit 70,fr 69 66 (st "sampleyard.errors" 187)),
(nat_lit 71,N 0 []),
(nat_lit 74,su 73),
(nat_lit 75,bf "object.__init_subclass__" (.ref 73)),
(nat_lit 77,bf "type.__prepare__" (.type "type")),
(nat_lit 78,⟨(.type "dict"),none,(.dict (List.toArray [en P "__module__" 278 (st "sampleyard.errors" 187),en P "__qualname__" 280 (st "NoRow" 279),en P "__firstlineno__" 282 (.int (12) 281),en P "__init__" 290 (.ref 89),en P "__static_attributes__" 292 (.ref 90)]) 5),#[]⟩),
(nat_lit 79,N 0 []),
(nat_lit 80,⟨.none,none,(.fields #[(.int (14) 0),(.int (4) 0),(.ref 88)]),#[]⟩),
(nat_lit 81,⟨(.type "code"),none,(.fields #[(st "NoRow" 273),(st "NoRow" 274),(st "/claim/cut.py" 275),(.int (12) 0),(.int (0) 0),(.int (0) 0),(.int (0) 0),(.int (0) 0),(.ref 79),(.bool false),(.int (181) 0),(.ref 80),.none,.none,.none,.none,(.int (276) 0),(.int (12) 0),(st "/claim/cut.py" 277)]),#[]⟩),
(nat_lit 82,fr 81 78 (st "sampleyard.errors" 187)),
(nat_lit 83,N 0 []),
(nat_lit 85,N 286 ["self","at"]),
(nat_lit 86,N 0 []),
(nat_lit 90,N 291 ["at"]),
(nat_lit 93,su 92),
(nat_lit 94,bf "object.__init_subclass__" (.ref 92)),
(nat_lit 95,N 0 []),
(nat_lit 97,N 301 ["thing"]),
(nat_lit 98,N 0 []),
(nat_lit 102,N 0 []),
(nat_lit 104,N 308 ["thing","least","most"]),
(nat_lit 105,N 0 []),
(nat_lit 109,N 0 []),
(nat_lit 111,N 317 ["numbers","found","number","rest","left"]),
(nat_lit 112,N 0 []),
(nat_lit 116,N 0 []),
(nat_lit 118,N 328 ["three","other"]),
(nat_lit 119,N 0 []),
(nat_lit 123,N 0 []),
(nat_lit 125,N 338 ["top","bottom","divisor"]),
(nat_lit 126,N 0 []),
(nat_lit 130,N 0 []),
(nat_lit 132,N 347 ["one","other"]),
(nat_lit 133,N 0 []),
(nat_lit 137,N 0 []),
(nat_lit 139,N 355 ["one","other"]),
(nat_lit 140,N 0 []),
(nat_lit 144,N 0 []),
(nat_lit 146,N 363 ["one","other"]),
(nat_lit 147,N 0 []),
(nat_lit 151,N 0 []),
(nat_lit 153,N 371 ["some","total","fraction"]),
(nat_lit 154,N 0 []),
(nat_lit 158,N 0 []),
(nat_lit 160,N 380 ["one","other"]),
(nat_lit 161,N 0 []),
(nat_lit 165,N 0 []),
(nat_lit 167,N 388 ["some","least","fraction"]),
(nat_lit 168,N 0 []),
(nat_lit 172,N 0 []),
(nat_lit 174,N 397 ["some","greatest","fraction"]),
(nat_lit 175,N 0 []),
(nat_lit 179,N 0 []),
(nat_lit 181,N 406 ["one"]),
(nat_lit 182,N 0 []),
(nat_lit 186,N 0 []),
(nat_lit 188,N 413 ["thing"]),
(nat_lit 189,N 0 []),
(nat_lit 193,N 0 []),
(nat_lit 195,N 422 ["one","other","point","n","number"]),
(nat_lit 196,N 0 []),
(nat_lit 200,N 0 []),
(nat_lit 202,N 433 ["one","other"]),
(nat_lit 203,N 0 []),
(nat_lit 207,N 0 []),
(nat_lit 209,N 441 ["one","other","point"]),
(nat_lit 210,N 0 []),
(nat_lit 214,N 0 []),
(nat_lit 216,N 450 ["corners","corner"]),
(nat_lit 217,N 0 []),
(nat_lit 221,N 0 []),
(nat_lit 223,N 458 ["triangle","point","turn"]),
(nat_lit 224,N 0 []),
(nat_lit 228,N 0 []),
(nat_lit 230,N 467 ["triangle","point"]),
(nat_lit 231,N 0 []),
(nat_lit 235,N 0 []),
(nat_lit 237,N 477 ["triangle","point"]),
(nat_lit 238,N 0 []),
(nat_lit 242,N 0 []),
(nat_lit 247,N 0 []),
(nat_lit 252,N 0 []),
(nat_lit 254,N 499 ["column","row","spot"]),
(nat_lit 255,N 0 []),
(nat_lit 259,N 0 []),
(nat_lit 261,N 514 ["width","height"]),
(nat_lit 262,N 0 []),
(nat_lit 266,N 0 []),
(nat_lit 271,N 0 []),
(nat_lit 273,N 528 ["thing"]),
(nat_lit 274,N 0 []),
(nat_lit 278,N 0 []),
(nat_lit 280,N 535 ["spots"]),
(nat_lit 281,N 0 []),
(nat_lit 285,N 0 []),
(nat_lit 287,N 542 ["ground"]),
(nat_lit 288,N 0 []),
(nat_lit 292,N 0 []),
(nat_lit 294,N 549 ["things","p","ground"]),
(nat_lit 295,N 0 []),
(nat_lit 299,N 0 []),
(nat_lit 301,N 558 ["things","p","sights","thing","seen"]),
(nat_lit 302,N 0 []),
(nat_lit 306,N 0 []),
(nat_lit 308,N 569 ["sights","ground","nearest","colour","sight"]),
(nat_lit 309,N 0 []),
(nat_lit 313,N 0 []),
(nat_lit 315,N 580 ["sights","nearest","sight"]),
(nat_lit 316,N 0 []),
(nat_lit 320,N 0 []),
(nat_lit 325,N 0 []),
(nat_lit 327,N 595 ["glass","colour","left"]),
(nat_lit 328,N 0 []),
(nat_lit 333,N 0 []),
(nat_lit 338,N 0 []),
(nat_lit 343,N 0 []),
(nat_lit 348,N 0 []),
(nat_lit 354,N 0 []),
(nat_lit 359,N 0 []),
(nat_lit 364,N 0 []),
(nat_lit 366,N 644 ["triangle","corner"]),
(nat_lit 367,N 0 []),
(nat_lit 371,N 0 []),
(nat_lit 376,N 0 []),
(nat_lit 381,N 0 []),
(nat_lit 386,N 0 []),
(nat_lit 388,N 670 ["corner"]),
(nat_lit 389,N 0 []),
(nat_lit 394,N 0 []),
(nat_lit 399,N 0 []),
(nat_lit 404,N 0 []),
(nat_lit 406,N 697 ["pattern","u","v","row"]),
(nat_lit 407,N 0 []),
(nat_lit 411,N 0 []),
(nat_lit 412,bf "type.__prepare__" (.type "type")),
(nat_lit 413,⟨(.type "dict"),none,(.dict (List.toArray [en P "__module__" 713 (st "sampleyard.things" 704),en P "__qualname__" 715 (st "Thing" 714),en P "__firstlineno__" 717 (.int (236) 716),en P "__init__" 725 (.ref 424),en P "is_glass" 732 (.ref 431),en P "__static_attributes__" 734 (.ref 432)]) 6),#[]⟩),
(nat_lit 414,N 0 []),
(nat_lit 415,⟨.none,none,(.fields #[(.int (238) 0),(.int (4) 0),(.ref 423),(.int (243) 0),(.int (4) 0),(.ref 430)]),#[]⟩),
(nat_lit 416,⟨(.type "code"),none,(.fields #[(st "Thing" 708),(st "Thing" 709),(st "/claim/cut.py" 710),(.int (236) 0),(.int (0) 0),(.int (0) 0),(.int (0) 0),(.int (0) 0),(.ref 414),(.bool false),(.int (181) 0),(.ref 415),.none,.none,.none,.none,(.int (711) 0),(.int (236) 0),(st "/claim/cut.py" 712)]),#[]⟩),
(nat_lit 417,fr 416 413 (st "sampleyard.things" 704)),
(nat_lit 418,N 0 []),
(nat_lit 420,N 721 ["self","triangle"]),
(nat_lit 421,N 0 []),
(nat_lit 425,N 0 []),
(nat_lit 427,N 729 ["self"]),
(nat_lit 428,N 0 []),
(nat_lit 432,N 733 ["triangle"]),
(nat_lit 437,su 434),
(nat_lit 438,bf "object.__init_subclass__" (.ref 434)),
(nat_lit 440,bf "type.__prepare__" (.type "type")),
(nat_lit 441,⟨(.type "dict"),none,(.dict (List.toArray [en P "__module__" 749 (st "sampleyard.things" 704),en P "__qualname__" 751 (st "Plain" 750),en P "__firstlineno__" 753 (.int (245) 752),en P "__init__" 762 (.ref 452),en P "word" 769 (.ref 459),en P "colour_at" 777 (.ref 466),en P "like" 785 (.ref 473),en P "__static_attributes__" 787 (.ref 474)]) 8),#[]⟩),
(nat_lit 442,N 0 []),
(nat_lit 443,⟨.none,none,(.fields #[(.int (247) 0),(.int (4) 0),(.ref 451),(.int (252) 0),(.int (4) 0),(.ref 458),(.int (255) 0),(.int (4) 0),(.ref 465),(.int (258) 0),(.int (4) 0),(.ref 472)]),#[]⟩),
(nat_lit 444,⟨(.type "code"),none,(.fields #[(st "Plain" 744),(st "Plain" 745),(st "/claim/cut.py" 746),(.int (245) 0),(.int (0) 0),(.int (0) 0),(.int (0) 0),(.int (0) 0),(.ref 442),(.bool false),(.int (181) 0),(.ref 443),.none,.none,.none,.none,(.int (747) 0),(.int (245) 0),(st "/claim/cut.py" 748)]),#[]⟩),
(nat_lit 445,fr 444 441 (st "sampleyard.things" 704)),
(nat_lit 446,N 0 []),
(nat_lit 448,N 757 ["self","triangle","colour"]),
(nat_lit 449,N 0 []),
(nat_lit 453,N 0 []),
(nat_lit 455,N 766 ["self"]),
(nat_lit 456,N 0 []),
(nat_lit 460,N 0 []),
(nat_lit 462,N 773 ["self","values"]),
(nat_lit 463,N 0 []),
(nat_lit 467,N 0 []),
(nat_lit 469,N 781 ["self","triangle"]),
(nat_lit 470,N 0 []),
(nat_lit 474,N 786 ["colour"]),
(nat_lit 477,su 476),
(nat_lit 478,bf "object.__init_subclass__" (.ref 476)),
(nat_lit 480,bf "type.__prepare__" (.type "type")),
(nat_lit 481,⟨(.type "dict"),none,(.dict (List.toArray [en P "__module__" 798 (st "sampleyard.things" 704),en P "__qualname__" 800 (st "Shaded" 799),en P "__firstlineno__" 802 (.int (260) 801),en P "__init__" 810 (.ref 492),en P "word" 817 (.ref 499),en P "colour_at" 825 (.ref 506),en P "like" 833 (.ref 513),en P "__static_attributes__" 834 (.ref 514)]) 8),#[]⟩),
(nat_lit 482,N 0 []),
(nat_lit 483,⟨.none,none,(.fields #[(.int (262) 0),(.int (4) 0),(.ref 491),(.int (266) 0),(.int (4) 0),(.ref 498),(.int (269) 0),(.int (4) 0),(.ref 505),(.int (272) 0),(.int (4) 0),(.ref 512)]),#[]⟩),
(nat_lit 484,⟨(.type "code"),none,(.fields #[(st "Shaded" 793),(st "Shaded" 794),(st "/claim/cut.py" 795),(.int (260) 0),(.int (0) 0),(.int (0) 0),(.int (0) 0),(.int (0) 0),(.ref 482),(.bool false),(.int (181) 0),(.ref 483),.none,.none,.none,.none,(.int (796) 0),(.int (260) 0),(st "/claim/cut.py" 797)]),#[]⟩),
(nat_lit 485,fr 484 481 (st "sampleyard.things" 704)),
(nat_lit 486,N 0 []),
(nat_lit 488,N 806 ["self","triangle"]),
(nat_lit 489,N 0 []),
(nat_lit 493,N 0 []),
(nat_lit 495,N 814 ["self"]),
(nat_lit 496,N 0 []),
(nat_lit 500,N 0 []),
(nat_lit 502,N 821 ["self","values"]),
(nat_lit 503,N 0 []),
(nat_lit 507,N 0 []),
(nat_lit 509,N 829 ["self","triangle"]),
(nat_lit 510,N 0 []),
(nat_lit 514,N 0 []),
(nat_lit 517,su 516),
(nat_lit 518,bf "object.__init_subclass__" (.ref 516)),
(nat_lit 520,bf "type.__prepare__" (.type "type")),
(nat_lit 521,⟨(.type "dict"),none,(.dict (List.toArray [en P "__module__" 845 (st "sampleyard.things" 704),en P "__qualname__" 847 (st "Patterned" 846),en P "__firstlineno__" 849 (.int (274) 848),en P "__init__" 858 (.ref 532),en P "word" 865 (.ref 539),en P "colour_at" 873 (.ref 546),en P "like" 881 (.ref 553),en P "__static_attributes__" 883 (.ref 554)]) 8),#[]⟩),
(nat_lit 522,N 0 []),
(nat_lit 523,⟨.none,none,(.fields #[(.int (276) 0),(.int (4) 0),(.ref 531),(.int (282) 0),(.int (4) 0),(.ref 538),(.int (285) 0),(.int (4) 0),(.ref 545),(.int (288) 0),(.int (4) 0),(.ref 552)]),#[]⟩),
(nat_lit 524,⟨(.type "code"),none,(.fields #[(st "Patterned" 840),(st "Patterned" 841),(st "/claim/cut.py" 842),(.int (274) 0),(.int (0) 0),(.int (0) 0),(.int (0) 0),(.int (0) 0),(.ref 522),(.bool false),(.int (181) 0),(.ref 523),.none,.none,.none,.none,(.int (843) 0),(.int (274) 0),(st "/claim/cut.py" 844)]),#[]⟩),
(nat_lit 525,fr 524 521 (st "sampleyard.things" 704)),
(nat_lit 526,N 0 []),
(nat_lit 528,N 853 ["self","triangle","pattern"]),
(nat_lit 529,N 0 []),
(nat_lit 533,N 0 []),
(nat_lit 535,N 862 ["self"]),
(nat_lit 536,N 0 []),
(nat_lit 540,N 0 []),
(nat_lit 542,N 869 ["self","values"]),
(nat_lit 543,N 0 []),
(nat_lit 547,N 0 []),
(nat_lit 549,N 877 ["self","triangle"]),
(nat_lit 550,N 0 []),
(nat_lit 554,N 882 ["pattern"]),
(nat_lit 557,su 556),
(nat_lit 558,bf "object.__init_subclass__" (.ref 556)),
(nat_lit 560,bf "type.__prepare__" (.type "type")),
(nat_lit 561,⟨(.type "dict"),none,(.dict (List.toArray [en P "__module__" 894 (st "sampleyard.things" 704),en P "__qualname__" 896 (st "Glass" 895),en P "__firstlineno__" 898 (.int (290) 897),en P "__init__" 908 (.ref 572),en P "word" 915 (.ref 579),en P "is_glass" 922 (.ref 586),en P "colour_at" 930 (.ref 593),en P "like" 938 (.ref 600),en P "__static_attributes__" 941 (.ref 601)]) 9),#[]⟩),
(nat_lit 562,N 0 []),
(nat_lit 563,⟨.none,none,(.fields #[(.int (292) 0),(.int (4) 0),(.ref 571),(.int (299) 0),(.int (4) 0),(.ref 578),(.int (302) 0),(.int (4) 0),(.ref 585),(.int (305) 0),(.int (4) 0),(.ref 592),(.int (308) 0),(.int (4) 0),(.ref 599)]),#[]⟩),
(nat_lit 564,⟨(.type "code"),none,(.fields #[(st "Glass" 889),(st "Glass" 890),(st "/claim/cut.py" 891),(.int (290) 0),(.int (0) 0),(.int (0) 0),(.int (0) 0),(.int (0) 0),(.ref 562),(.bool false),(.int (181) 0),(.ref 563),.none,.none,.none,.none,(.int (892) 0),(.int (290) 0),(st "/claim/cut.py" 893)]),#[]⟩),
(nat_lit 565,fr 564 561 (st "sampleyard.things" 704)),
(nat_lit 566,N 0 []),
(nat_lit 568,N 902 ["self","triangle","colour","part"]),
(nat_lit 569,N 0 []),
(nat_lit 573,N 0 []),
(nat_lit 575,N 912 ["self"]),
(nat_lit 576,N 0 []),
(nat_lit 580,N 0 []),
(nat_lit 582,N 919 ["self"]),
(nat_lit 583,N 0 []),
(nat_lit 587,N 0 []),
(nat_lit 589,N 926 ["self","values"]),
(nat_lit 590,N 0 []),
(nat_lit 594,N 0 []),
(nat_lit 596,N 934 ["self","triangle"]),
(nat_lit 597,N 0 []),
(nat_lit 601,N 939 ["colour","part"]),
(nat_lit 604,su 603),
(nat_lit 605,bf "object.__init_subclass__" (.ref 603)),
(nat_lit 606,N 0 []),
(nat_lit 608,N 948 ["triangle","least"]),
(nat_lit 609,N 0 []),
(nat_lit 613,N 0 []),
(nat_lit 615,N 956 ["colour"]),
(nat_lit 616,N 0 []),
(nat_lit 620,N 0 []),
(nat_lit 622,N 963 ["part"]),
(nat_lit 623,N 0 []),
(nat_lit 627,N 0 []),
(nat_lit 629,N 976 ["number","pieces","rest"]),
(nat_lit 630,N 0 []),
(nat_lit 634,N 0 []),
(nat_lit 636,N 985 ["fraction"]),
(nat_lit 637,N 0 []),
(nat_lit 641,N 0 []),
(nat_lit 643,N 992 ["word","figures"]),
(nat_lit 644,N 0 []),
(nat_lit 648,N 0 []),
(nat_lit 653,N 0 []),
(nat_lit 655,N 1006 ["word","pieces","fraction"]),
(nat_lit 656,N 0 []),
(nat_lit 660,N 0 []),
(nat_lit 662,N 1015 ["head","row","words"]),
(nat_lit 663,N 0 []),
(nat_lit 667,N 0 []),
(nat_lit 669,N 1024 ["head","row","count","words"]),
(nat_lit 670,N 0 []),
(nat_lit 674,N 0 []),
(nat_lit 679,N 0 []),
(nat_lit 684,N 0 []),
(nat_lit 686,N 1046 ["thing","word"]),
(nat_lit 687,N 0 []),
(nat_lit 691,N 0 []),
(nat_lit 696,N 0 []),
(nat_lit 701,N 0 []),
(nat_lit 706,N 0 []),
(nat_lit 708,N 1072 ["text"]),
(nat_lit 709,N 0 []),
(nat_lit 713,N 0 []),
(nat_lit 715,N 1079 ["words","groups","word"]),
(nat_lit 716,N 0 []),
(nat_lit 720,N 0 []),
(nat_lit 725,N 0 []),
(nat_lit 727,N 1094 ["head","triangle"]),
(nat_lit 728,N 0 []),
(nat_lit 732,N 0 []),
(nat_lit 737,N 0 []),
(nat_lit 742,N 0 []),
(nat_lit 744,N 1114 ["pair"]),
(nat_lit 745,N 0 []),
(nat_lit 749,N 0 []),
(nat_lit 751,N 1121 ["row","size"]),
(nat_lit 752,N 0 []),
(nat_lit 756,N 0 []),
(nat_lit 758,N 1129 ["row"]),
(nat_lit 759,N 0 []),
(nat_lit 763,N 0 []),
(nat_lit 768,N 0 []),
(nat_lit 773,N 0 []),
(nat_lit 778,N 0 []),
(nat_lit 780,N 1158 ["length","wide"]),
(nat_lit 781,N 0 []),
(nat_lit 785,N 0 []),
(nat_lit 787,N 1166 ["width","height","wide","tile","across","left","top","cells","row","column"]),
(nat_lit 788,N 0 []),
(nat_lit 792,N 0 []),
(nat_lit 797,N 0 []),
(nat_lit 799,N 1188 ["wide"]),
(nat_lit 800,N 0 []),
(nat_lit 804,N 0 []),
(nat_lit 810,N 0 []),
(nat_lit 815,N 0 []),
(nat_lit 820,N 0 []),
(nat_lit 825,N 0 []),
(nat_lit 827,N 1219 ["least_depths"]),
(nat_lit 828,N 0 []),
(nat_lit 832,N 0 []),
(nat_lit 834,N 1226 ["thing","points","sights_by_point","least_depths","place","point","seen"]),
(nat_lit 835,N 0 []),
(nat_lit 839,N 0 []),
(nat_lit 841,N 1239 ["least","depth"]),
(nat_lit 842,N 0 []),
(nat_lit 846,N 0 []),
(nat_lit 848,N 1247 ["picture","cells","sights_by_point","ground","count","place","cell","sights_by_spot"]),
(nat_lit 849,N 0 []),
(nat_lit 853,N 0 []),
(nat_lit 855,N 1263 ["wall","corner"]),
(nat_lit 856,N 0 []),
(nat_lit 860,N 0 []),
(nat_lit 865,N 0 []),
(nat_lit 867,N 1277 ["three","place"]),
(nat_lit 868,N 0 []),
(nat_lit 872,N 0 []),
(nat_lit 874,N 1285 ["corners","forms","a","b","c","ab","ca"]),
(nat_lit 875,N 0 []),
(nat_lit 879,N 0 []),
(nat_lit 881,N 1298 ["one","other","form_of_one","form_of_other"]),
(nat_lit 882,N 0 []),
(nat_lit 886,N 0 []),
(nat_lit 888,N 1310 ["scene","row","size"]),
(nat_lit 889,N 0 []),
(nat_lit 893,N 0 []),
(nat_lit 895,N 1319 ["scene","row"]),
(nat_lit 896,N 0 []),
(nat_lit 900,N 0 []),
(nat_lit 902,N 1327 ["scene","row"]),
(nat_lit 903,N 0 []),
(nat_lit 907,N 0 []),
(nat_lit 909,N 1335 ["scene","things"]),
(nat_lit 910,N 0 []),
(nat_lit 914,N 0 []),
(nat_lit 916,N 1343 ["scene","row"]),
(nat_lit 917,N 0 []),
(nat_lit 921,N 0 []),
(nat_lit 923,N 1351 ["scene","row","number"]),
(nat_lit 924,N 0 []),
(nat_lit 928,N 0 []),
(nat_lit 933,N 0 []),
(nat_lit 935,N 1366 ["number","least","most"]),
(nat_lit 936,N 0 []),
(nat_lit 940,N 0 []),
(nat_lit 942,N 1375 ["scene"]),
(nat_lit 943,N 0 []),
(nat_lit 947,N 0 []),
(nat_lit 949,N 1382 ["scene","row"]),
(nat_lit 950,N 0 []),
(nat_lit 954,N 0 []),
(nat_lit 956,N 1390 ["scene","row"]),
(nat_lit 957,N 0 []),
(nat_lit 961,N 0 []),
(nat_lit 966,N 0 []),
(nat_lit 971,N 0 []),
(nat_lit 973,N 1410 ["scene","row"]),
(nat_lit 974,N 0 []),
(nat_lit 978,N 0 []),
(nat_lit 983,N 0 []),
(nat_lit 985,N 1424 ["head","row","numbers","number"]),
(nat_lit 986,N 0 []),
(nat_lit 990,N 0 []),
(nat_lit 992,N 1434 ["words","otherwise"]),
(nat_lit 993,N 0 []),
(nat_lit 997,N 0 []),
(nat_lit 1004,N 0 []),
(nat_lit 1005,bf "type.__prepare__" (.type "type")),
(nat_lit 1006,⟨(.type "dict"),none,(.dict (List.toArray [en P "__module__" 1476 (st "sampleyard.desk" 1305),en P "__qualname__" 1478 (st "Desk" 1477),en P "__firstlineno__" 1480 (.int (609) 1479),en P "__init__" 1487 (.ref 1017),en P "say" 1496 (.ref 1024),en P "answer_to" 1505 (.ref 1031),en P "differing" 1513 (.ref 1038),en P "__static_attributes__" 1517 (.ref 1039)]) 8),#[]⟩),
(nat_lit 1007,N 0 []),
(nat_lit 1008,⟨.none,none,(.fields #[(.int (611) 0),(.int (4) 0),(.ref 1016),(.int (616) 0),(.int (4) 0),(.ref 1023),(.int (624) 0),(.int (4) 0),(.ref 1030),(.int (640) 0),(.int (4) 0),(.ref 1037)]),#[]⟩),
(nat_lit 1009,⟨(.type "code"),none,(.fields #[(st "Desk" 1471),(st "Desk" 1472),(st "/claim/cut.py" 1473),(.int (609) 0),(.int (0) 0),(.int (0) 0),(.int (0) 0),(.int (0) 0),(.ref 1007),(.bool false),(.int (181) 0),(.ref 1008),.none,.none,.none,.none,(.int (1474) 0),(.int (609) 0),(st "/claim/cut.py" 1475)]),#[]⟩),
(nat_lit 1010,fr 1009 1006 (st "sampleyard.desk" 1305)),
(nat_lit 1011,N 0 []),
(nat_lit 1013,N 1484 ["self"]),
(nat_lit 1014,N 0 []),
(nat_lit 1018,N 0 []),
(nat_lit 1020,N 1491 ["self","row","answer"]),
(nat_lit 1021,N 0 []),
(nat_lit 1025,N 0 []),
(nat_lit 1027,N 1500 ["self","row","head"]),
(nat_lit 1028,N 0 []),
(nat_lit 1032,N 0 []),
(nat_lit 1034,N 1509 ["self","row"]),
(nat_lit 1035,N 0 []),
(nat_lit 1039,N 1514 ["answered","kept","scene"]),
(nat_lit 1044,su 1041),
(nat_lit 1045,bf "object.__init_subclass__" (.ref 1041)),
(nat_lit 1046,N 0 []),
(nat_lit 1048,N 1530 ["_law_script","_law_k"]),
(nat_lit 1049,N 0 []),
(nat_lit 1053,N 0 []),
(nat_lit 1055,N 1538 ["_law_cell","_law_k","_law_number"]),
(nat_lit 1056,N 0 []),
(nat_lit 1060,N 0 []),
(nat_lit 1065,N 0 []),
(nat_lit 1070,N 0 []),
(nat_lit 1075,N 0 []),
(nat_lit 1077,N 1565 ["_law_number","_law_more","_law_rows","_law_columns","_law_found","_law_r","_law_line","_law_c","_law_one"]),
(nat_lit 1078,N 0 []),
(nat_lit 1082,N 0 []),
(nat_lit 1087,N 0 []),
(nat_lit 1089,N 1586 ["_law_script","_law_first","_law_most","_law_draws_here","_law_found","_law_many","_law_k","_law_triangle"]),
(nat_lit 1090,N 0 []),
(nat_lit 1094,N 0 []),
(nat_lit 1096,N 1600 ["_law_cell","_law_draws_here","_law_found","_law_more","_law_spot"]),
(nat_lit 1097,N 0 []),
(nat_lit 1101,N 0 []),
(nat_lit 1103,N 1611 ["_law_fraction"]),
(nat_lit 1104,N 0 []),
(nat_lit 1108,N 0 []),
(nat_lit 1110,N 1618 ["_law_thing_here","_law_triangle"]),
(nat_lit 1111,N 0 []),
(nat_lit 1115,N 0 []),
(nat_lit 1120,N 0 []),
(nat_lit 1122,N 1632 ["_law_script","_law_desk","_law_beside","_law_first","_law_some","_law_state","_law_k","_law_way","_law_number","_law_row"]),
(nat_lit 1123,N 0 [])]
def fls:List (Int×Nat):=[(2,20),(4,33),(6,45),(8,57),(10,69),(12,81),(17,100),(19,107),(21,114),(30,121),(33,128),(38,135),(40,142),(42,149),(44,156),(49,163),(51,170),(57,177),(63,184),(65,191),(72,198),(78,205),(80,212),(82,219),(86,226),(92,233),(95,240),(99,245),(104,250),(107,257),(112,264),(115,269),(122,276),(126,283),(131,290),(133,297),(135,304),(142,311),(150,318),(158,323),(165,330),(168,336),(173,341),(175,346),(177,351),(179,357),(188,362),(193,369),(201,374),(207,379),(211,384),(216,391),(220,397),(230,402),(232,409),(236,416),(245,444),(260,484),(274,524),(290,564),(310,611),(313,618),(316,625),(322,632),(332,639),(336,646),(341,651),(347,658),(355,665),(360,672),(365,677),(367,682),(369,689),(378,694),(380,699),(382,704),(388,711),(391,718),(399,723),(404,730),(414,735),(416,740),(419,747),(421,754),(425,761),(427,766),(431,771),(433,776),(439,783),(441,790),(450,795),(452,802),(455,807),(463,813),(477,818),(482,823),(494,830),(498,837),(506,844),(508,851),(514,858),(516,863),(529,870),(531,877),(538,884),(541,891),(544,898),(546,905),(548,912),(550,919),(552,926),(556,931),(565,938),(568,945),(570,952),(573,959),(576,964),(580,969),(584,976),(586,981),(590,988),(596,995),(598,1000),(609,1009),(646,1051),(650,1058),(656,1063),(658,1068),(677,1073),(690,1080),(701,1085),(715,1092),(722,1099),(732,1106),(736,1113),(744,1118),(774,1125)]
def isA(i:Nat):List (Nat×Obj)->Bool
 | []=>false
 | (a,_)::_=>Nat.beq a i
def fst_:List (Nat×Obj)->Obj
 | []=>default
 | (_,o)::_=>o
def tl_:List (Nat×Obj)->List (Nat×Obj)
 | []=>[]
 | _::r=>r
def nf:Obj->Obj
 | ⟨_,_,.func f,_⟩=>⟨.none,none,.func { name:=f.name,qualname:=f.qualname,params:=f.params,body:=f.body,scope:=f.scope,globals:=0,closure:=[],defaults:=.none,kwdefaults:=.none,doc:=.none,pyModule:=.none,annotations:=none,code:=.none,closureTuple:=.none,builtins:=0 },#[]⟩
 | _=>default
def asm:Nat->Nat->List (Nat×Obj)->List (Nat×Obj)->List Obj
 | 0,_,_,_=>[]
 | n+1,i,h,x=>match isA i h with
  | true=>fst_ h::asm n (i+1) (tl_ h) x
  | false=>match isA i x with
   | true=>fst_ x::asm n (i+1) h (tl_ x)
   | false=>match isA (i+1) h with
    | true=>nf (fst_ (tl_ h))::asm n (i+1) h x
    | false=>⟨.none,none,.fields #[],#[]⟩::asm n (i+1) h x
def esOf:Obj->List DictEntry
 | ⟨_,_,.dict es _,_⟩=>es.toList
 | _=>[]
def nam(v:Value):List DictEntry->List DictEntry
 | e::r=>⟨e.hash,e.key,v⟩::r
 | []=>[]
def evs{α:Type}:List α->List α
 | x::_::r=>x::evs r
 | r=>r
def ods{α:Type}:List α->List α
 | _::y::r=>y::ods r
 | _=>[]
def br:Nat->List Obj->BT
 | k+1,x::r=>.node x (br k (evs r)) (br k (ods r))
 | _,_=>.nil
def f3:List (Int×Nat)->List Value
 | []=>[]
 | (a,b)::r=>.int a 0::.int 0 0::.ref b::f3 r
def objs(P:Params)(n m j:Nat)(v:Value):List Obj:=(((boot_heap P).objs.toList++asm (n - 11) 11 (tl_ (tl_ (heap P))) (ex P)).set 3 (D (nam v ((esOf (fst_ (tl_ (heap P)))).take m)) m)).set 12 ⟨.none,none,.fields (f3 (fls.take j)).toArray,#[]⟩
def sT(n m j:Nat)(v:Value)(t:Nat)(w:World)(os:OsState):SharedT:=⟨br 12 (objs w.params n m j v),n,(boot_heap w.params).life,Array.mk [],boot_drawn,t,os⟩
abbrev env:Env:={ scope:=(PySem.Challenge.pw_sampleyard_k86_desk_told).main.scope,locals:=mainNs,globals:=mainNs,cells:=[],code:=.ref 13,frame:=some 14 }
abbrev cd:Code:=.body (behindTheImports PySem.Challenge.pw_sampleyard_k86_desk_told) env
abbrev tf:=[topFrame ⟨0,0,0,0⟩]
abbrev sg(w:World):=segQ PySem.Challenge.pw_sampleyard_k86_desk_told w 11 (some (.ref 6))
abbrev pc(b m:Nat)(q:Pos):=piecesOf (((behindTheImports PySem.Challenge.pw_sampleyard_k86_desk_told).drop b).take m) env cd q tf
abbrev s0:=sT 15 9 0 (st "__main__" 164) 187
abbrev q0:Pos:=⟨0,0,0,0⟩
abbrev s1:=sT 15 9 0 (st "__main__" 164) 187
abbrev q1:Pos:=⟨0,0,0,0⟩
abbrev s2:=sT 95 15 6 (st "sampleyard.errors" 187) 296
abbrev q2:Pos:=⟨12,0,15,20⟩
abbrev s3:=sT 364 59 47 (st "sampleyard.corners" 637) 641
abbrev q3:Pos:=⟨192,0,192,11⟩
abbrev s4:=sT 411 68 55 (st "sampleyard.things" 704) 706
abbrev q4:Pos:=⟨235,0,235,8⟩
abbrev s5:=sT 606 73 60 (st "sampleyard.things" 704) 945
abbrev q5:Pos:=⟨290,0,309,54⟩
abbrev s6:=sT 872 119 103 (st "sampleyard.walls" 1258) 1282
abbrev q6:Pos:=⟨529,0,530,40⟩
abbrev s7:=sT 1002 139 123 (st "sampleyard.desk" 1305) 1445
abbrev q7:Pos:=⟨598,0,606,63⟩
abbrev s8:=sT 1003 140 123 (st "sampleyard.desk" 1305) 1456
abbrev q8:Pos:=⟨607,0,607,4⟩
abbrev s9:=sT 1004 141 123 (st "sampleyard.desk" 1305) 1469
abbrev q9:Pos:=⟨608,0,608,5⟩
abbrev s10:=sT 1127 155 137 (st "law_sampleyard_k86_desk_told" 1525) 1645
abbrev q10:Pos:=⟨774,0,787,72⟩
abbrev s11:=sT 1127 155 137 (st "law_sampleyard_k86_desk_told" 1525) 1645
set_option maxRecDepth 100000
set_option maxHeartbeats 0
def go0(w:World)(os:OsState):goQ PySem.Challenge.pw_sampleyard_k86_desk_told w 11 (some (.ref 6)) 12 (Ti w os) (topStub PySem.Challenge.pw_sampleyard_k86_desk_told)=some (s0 w os,⟨(Fast.tw11892475500146522536 Fast.tw14364793385576792824) cd,cd,q0,tf⟩):=by kernel_rfl
def go1(w:World)(os:OsState):sg w 1 (s0 w os) (blockOf (behindTheImports PySem.Challenge.pw_sampleyard_k86_desk_told) env cd q0 tf)=some (.next,s1 w os,cd,q1):=by kernel_rfl
def go2(w:World)(os:OsState):sg w 1293 (s1 w os) (pc 0 7 q1)=some (.next,s2 w os,cd,q2):=by kernel_rfl
def go3(w:World)(os:OsState):sg w 1300 (s2 w os) (pc 7 51 q2)=some (.next,s3 w os,cd,q3):=by kernel_rfl
def go4(w:World)(os:OsState):sg w 255 (s3 w os) (pc 58 11 q3)=some (.next,s4 w os,cd,q4):=by kernel_rfl
def go5(w:World)(os:OsState):sg w 1649 (s4 w os) (pc 69 5 q4)=some (.next,s5 w os,cd,q5):=by kernel_rfl
def go6(w:World)(os:OsState):sg w 1291 (s5 w os) (pc 74 49 q5)=some (.next,s6 w os,cd,q6):=by kernel_rfl
def go7(w:World)(os:OsState):sg w 601 (s6 w os) (pc 123 21 q6)=some (.next,s7 w os,cd,q7):=by kernel_rfl
def go8(w:World)(os:OsState):sg w 91 (s7 w os) (pc 144 1 q7)=some (.next,s8 w os,cd,q8):=byRow2 "special-get-raises" (P:=λw=>sg w 91 (s7 w os) (pc 144 1 q7)=some (.next,s8 w os,cd,q8)) (λw=>by kernel_rfl) (λw=>by kernel_rfl) w
def go9(w:World)(os:OsState):sg w 107 (s8 w os) (pc 145 1 q8)=some (.next,s9 w os,cd,q9):=byRow2 "special-get-raises" (P:=λw=>sg w 107 (s8 w os) (pc 145 1 q8)=some (.next,s9 w os,cd,q9)) (λw=>by kernel_rfl) (λw=>by kernel_rfl) w
def go10(w:World)(os:OsState):sg w 725 (s9 w os) (pc 146 15 q9)=some (.next,s10 w os,cd,q10):=by kernel_rfl
def go11(w:World)(os:OsState):Nk PySem.Challenge.pw_sampleyard_k86_desk_told w 11 (some (.ref 6)) 2 (s10 w os) ⟨doneF .next,cd,q10,tf⟩=some (s11 w os):=by kernel_rfl
def run(w:World)(os:OsState):topRun treeTable PySem.Challenge.pw_sampleyard_k86_desk_told w 11 (some (.ref 6)) (12+(1+(1293+(1300+(255+(1649+(1291+(601+(91+(107+(725+(2)))))))))))) (Ti w os).abs (topStub PySem.Challenge.pw_sampleyard_k86_desk_told)=some (s11 w os).abs:=by
 have r:=yZ (env:=env) (b:=behindTheImports PySem.Challenge.pw_sampleyard_k86_desk_told) (a:=161) (by decide +kernel) (zx (go11 w os));have r:=Hj rfl (Gu (go10 w os)) r;have r:=Hj rfl (Gu (go9 w os)) r;have r:=Hj rfl (Gu (go8 w os)) r;have r:=Hj rfl (Gu (go7 w os)) r;have r:=Hj rfl (Gu (go6 w os)) r;have r:=Hj rfl (Gu (go5 w os)) r;have r:=Hj rfl (Gu (go4 w os)) r;have r:=Hj rfl (Gu (go3 w os)) r;have r:=Hj rfl (Gu (go2 w os)) r;have r:=piece_block (Gu (go1 w os)) r;rw [<-yx] at r;exact Y7 (go0 w os) r
abbrev hf(P:Params):Heap:=absHeap (br 12 (objs P 1127 155 137 (st "law_sampleyard_k86_desk_told" 1525))) 1127 (boot_heap P).life
abbrev sf:=s11
abbrev lo:List Str:=["paint","doubtful","paint_tiles","TOLD","ASKED"]
abbrev Xt:Shared->Bool:=(λs=>xlAt view [] s&&recOk (RowW.records PySem.Challenge.rw_sampleyard_k86_desk_told.row.toRowW) s)
abbrev V0(s:SharedT):=Fast.tw4187177175401517315 view lo (importedModules (PySem.Challenge.pw_sampleyard_k86_desk_told).main.body) Xt true s.abs
def l0(w:World)(os:OsState):(staticsOk (importedModules (PySem.Challenge.pw_sampleyard_k86_desk_told).main.body) (boot_heap w.params) (sf w os).abs.heap&&namesBound PySem.Challenge.pw_sampleyard_k86_desk_told (sf w os).abs.heap&&gensDone (sf w os).abs&&laidKept (boot_heap w.params) (sf w os).abs.heap)=true:=by kernel_rfl
def l1(w:World)(os:OsState):(V0 (sf w os)).1=expectedOf view:=by kernel_rfl
def l2(w:World)(os:OsState):((V0 (sf w os)).2.1,(V0 (sf w os)).2.2.1)=(bltViewBooted,true):=by kernel_rfl
def l3(w:World)(os:OsState):(V0 (sf w os)).2.2.2.1=true:=by kernel_rfl
def l4(w:World)(os:OsState):((V0 (sf w os)).2.2.2.2.1,(V0 (sf w os)).2.2.2.2.2.2.1,(V0 (sf w os)).2.2.2.2.2.2.2.2)=(pinGoodD (drecsOf view),plainGoodD view lo,clsGoodW view lo):=by kernel_rfl
def l5(w:World)(os:OsState):(V0 (sf w os)).2.2.2.2.2.2.2.1=wideGood view:=by kernel_rfl
def l6(w:World)(os:OsState):(V0 (sf w os)).2.2.2.2.2.1=plainGoodE view (Fast.tw821141287760084731 view lo):=by kernel_rfl
def l7(w:World)(os:OsState):obsT addrs (sf w os)=Hook.val hook w:=by kernel_rfl
def seen(w:World)(os:OsState):openSeen view lo (importedModules (PySem.Challenge.pw_sampleyard_k86_desk_told).main.body) Xt true (sf w os).abs=openGood view lo:=by
 have c:=l1 w os;have e:=l2 w os;have d:=l3 w os;have f:=l4 w os;have b:=l5 w os;have a:=l6 w os;unfold V0 at c e d f b a;rw [<-Fast.te4187177175401517315] at c e d f b a;rw [<-Fast.te821141287760084731] at a;generalize (sf w os).abs=s at c e d f b a ⊢;generalize openSeen view lo (importedModules (PySem.Challenge.pw_sampleyard_k86_desk_told).main.body) Xt true s=o at *;obtain ⟨p,t,m,v,n,l,u,r,q⟩:=o;obtain ⟨k,h⟩:=Prod.mk.inj e;obtain ⟨j,g⟩:=Prod.mk.inj f;obtain ⟨g,i⟩:=Prod.mk.inj g;dsimp only at c k h d j a g b i;rw [c,k,h,d,j,a,g,b,i];unfold openGood;rfl
def left:LeftO PySem.Challenge.pw_sampleyard_k86_desk_told view lo Xt (Hook.obs hook) (Hook.val hook) most :=
 LeftO.of_pieces (H₀:=boot_heap) (H₁:=hf) (gs₁:=Array.mk []) (d₁:=boot_drawn) (k₁:=1645) (boot_open (by kernel_rfl) (by decide) λs=>by kernel_rfl) (λw=>by kernel_rfl) (λw a=>by have:=run w a;rw [v8] at this;exact this) (by decide) λw=>funext λa=>looks_pair (l0 w a) (looks_pair (seen w a) ((j8 addrs (sf w a)).trans (l7 w a)))
end Hd
namespace Hd
open PySem PySem.W PyProof.Rows
def okO:(chainsOk view&&opensWell PySem.Challenge.rw_sampleyard_k86_desk_told.row.prog&&(frees PySem.Challenge.rw_sampleyard_k86_desk_told.row.toRowW&&PySem.Challenge.rw_sampleyard_k86_desk_told.row.within.isEmpty))=true:=by decide +kernel
def bar:PySem.Challenge.rw_sampleyard_k86_desk_told.row.prog.bare:=⟨rfl,rfl,rfl,rfl,rfl,by decide +kernel⟩
end Hd
set_option maxHeartbeats 4000000
section
open PySem PySem.Spec PyProof.Rows
abbrev ND(x:PySem.Str):=(x==("__debug__" : PySem.Str))=false
abbrev NE(x:PySem.Str):=(x==("__classdict__" : PySem.Str))=false
namespace L2
inductive V where
 | non | bl (b:Bool) | int (i:Int) | str (x:Str) | ref (a:Addr) | ty (n:String)
 deriving DecidableEq
def RelV:V->Value->Prop
 | .non,u=>u=Value.none
 | .bl b,u=>u=Value.bool b
 | .int i,u=>∃t,u=Value.int i t
 | .str x,u=>∃t,u=Value.str x t
 | .ref a,u=>u=Value.ref a
 | .ty n,u=>u=Value.type n
abbrev Vals:List V->List Value->Prop:=Paired RelV
def Vals.length(r:Vals xs us):xs.length=us.length:=Paired.length r
def Vals.get:∀{xs:List V} {us:List Value} {i:Nat} {x:V},Vals xs us->xs[i]?=some x->∃u,us[i]?=some u/\RelV x u
 | _,_,_,_,.nil,e=>by simp at e
 | _,_,0,_,.cons r _,e=>by simp_all
 | _,_,i+1,x,.cons _ t,e=>by
  obtain ⟨u,a,b⟩:=Vals.get (i:=i) (x:=x) t (by trivial);simp_all
def Vals.set(r:RelV x u):∀{xs:List V} {us:List Value} (i:Nat),Vals xs us->Vals (xs.set i x) (us.set i u)
 | _,_,_,.nil=>.nil
 | _,_,0,.cons _ t=>.cons r t
 | _,_,i+1,.cons q t=>.cons q (Vals.set r i t)
def Vals.append:∀{xs ys:List V} {us ws:List Value},Vals xs us->Vals ys ws->Vals (xs++ys) (us++ws)
 | _,_,_,_,.nil,s=>s
 | _,_,_,_,.cons r t,s=>.cons r (Vals.append t s)
def Vals.take:∀{xs:List V} {us:List Value} (n:Nat),Vals xs us->Vals (xs.take n) (us.take n)
 | _,_,0,_=>.nil
 | _,_,_+1,.nil=>.nil
 | _,_,n+1,.cons r t=>.cons r (Vals.take n t)
def Vals.drop:∀{xs:List V} {us:List Value} (n:Nat),Vals xs us->Vals (xs.drop n) (us.drop n)
 | _,_,0,r=>r
 | _,_,_+1,.nil=>.nil
 | _,_,n+1,.cons _ t=>Vals.drop n t
def RelO:Option V->Option Value->Prop
 | some v,some u=>RelV v u
 | none,none=>True
 | _,_=>False
inductive HO where
 | lst (xs:List V)
 | tup (xs:List V)
 | ins (C dx:Addr) (fs:List (Str×V))
 | own (x:Addr)
 | xd (fs:List (Str×V))
 | frz (o:Obj) (u:HO)
 | tbl (ps:Array Value)
 | ext (φ:Heap->Prop)
abbrev Hp:=Addr->Option HO
def upd(H:Hp)(a:Addr)(o:HO):Hp:=λb=>if b=a then some o else H b
def Ay:upd H a o a=some o:=by unfold upd;lia
def Ai(h:b≠a):upd H a o b=H b:=by unfold upd;lia
def BP{H:Hp}{a b:Addr}{o:HO}(h:H a=some o)(h':H b=none):a≠b:=by
 lia
section
variable(P:Program)(w:World)
def Dn(P:Program)(w:World)(H:Hp)(h:Heap)(a:Addr):HO->Prop
 | .lst c=>c.length<=sizeLine/\∃b n,Vals c b/\h.get? a=some { cls:=.type "list",data:=.seq b.toArray n }
 | .tup c=>c.length<=sizeLine/\∃b,Vals c b/\IsTup h a b.toArray
 | .ins C dx fs=>H dx=some (.own a)/\fs.length<=1000/\dx≠a/\h.get? a=some (W.instObj C dx) /\
   ∃d,h.Ns1 dx d/\(∀f,RelO (fs.lookup f) (d f))/\PySem.Within d (fs.map (·.1))
 | .own _=>∃o,h.get? a=some o
 | .xd fs=>∃d,h.Ns1 a d/\∀f,RelO (fs.lookup f) (d f)
 | .frz o u=>h.get? a=some o/\Dn P w H h a u
 | .tbl ps=>h.get? a=some { cls:=.none,data:=.fields ps }
 | .ext φ=>φ h/\(∃o,h.get? a=some o)/\∀g j,φ g->(∀o,g.get? a=some o->j.get? a=some o)->φ j
def HOk(H:Hp)(h:Heap):Prop:=∀a o,H a=some o->Dn P w H h a o
end
section
variable{P:Program}{w:World}{H H':Hp}{h h':Heap}{a:Addr}{o:HO}
def Dn.lt(x:Dn P w H h a o):a<h.objs.size:=by
 cases o with
 | lst xs=>obtain ⟨_,_,_,_,e⟩:=x;exact BX e
 | tup xs=>obtain ⟨_,_,_,p⟩:=x;exact p.lt
 | ins C dx fs=>obtain ⟨_,_,_,e,_⟩:=x;exact BX e
 | own y=>obtain ⟨_,e⟩:=x;exact BX e
 | xd fs=>obtain ⟨_,⟨_,_,_,e,_⟩,_⟩:=x;exact BX e
 | frz ob u=>obtain ⟨e,_⟩:=x;exact BX e
 | tbl ps=>exact BX (x)
 | ext φ=>obtain ⟨_,⟨_,e⟩,_⟩:=x;exact BX e
def Dn.stay(x:Dn P w H h a o)(k:∀b u,(b=a\/H b=some (.own a))->h.get? b=some u->h'.get? b=some u)(ho:∀b,H b=some (.own a)->H' b=some (.own a))(ht:∀b xs,H b=some (.tup xs)->H' b=some (.tup xs)):Dn P w H' h' a o:=by
 induction o with
 | lst xs=>obtain ⟨z,its,n,r,e⟩:=x;exact ⟨z,its,n,r,k _ _ (.inl rfl) e⟩
 | tup xs=>obtain ⟨z,its,r,g,e,c⟩:=x;exact ⟨z,its,r,g,k _ _ (.inl rfl) e,c⟩
 | ins C dx fs=>
  obtain ⟨d,z,A,e,m,⟨l,j,i,s,c⟩,r⟩:=x;exact ⟨ho _ d,z,A,k _ _ (.inl rfl) e,m,⟨l,j,i,k _ _ (.inr d) s,c⟩,r⟩
 | own y=>obtain ⟨g,e⟩:=x;exact ⟨g,k _ _ (.inl rfl) e⟩
 | xd fs=>obtain ⟨m,⟨l,j,i,e,c⟩,r⟩:=x;exact ⟨m,⟨l,j,i,k _ _ (.inl rfl) e,c⟩,r⟩
 | frz g u ih=>obtain ⟨e,q⟩:=x;exact ⟨k _ _ (.inl rfl) e,ih q⟩
 | tbl ps=>exact k _ _ (.inl rfl) x
 | ext φ=>obtain ⟨p,⟨o,e⟩,st⟩:=x;exact ⟨st _ _ p λo q=>k _ _ (.inl rfl) q,⟨o,k _ _ (.inl rfl) e⟩,st⟩
def HOk.lt(x:HOk P w H h)(e:H a=some o):a<h.objs.size:=(x a o e).lt
def HOk.fresh(x:HOk P w H h)(e:h.objs.size<=a):H a=none:=by
 cases q:H a with
 | none=>rfl
 | some u=>exact aB (Bv (x.lt q) e) (J2 _)
def HOk.kept(x:HOk P w H h)(k:∀b u,h.get? b=some u->h'.get? b=some u):HOk P w H h':=λa o e=>
 (x a o e).stay (λb u _ q=>k b u q) (λ_ q=>q) λ_ _ q=>q
def HOk.laid(x:HOk P w H h)(k:∀b u,h.get? b=some u->h'.get? b=some u)(hp:h.objs.size<=a)(new:Dn P w (upd H a o) h' a o):HOk P w (upd H a o) h':=λb u e=>by
 have d:=x.fresh hp;by_cases hb:b=a
 .subst hb;rw [Ay] at e;lia
 .rw [Ai hb] at e;exact (x b u e).stay (λc v _ q=>k c v q) (λc q=>by rw [Ai (BP q d)];exact q) λc f q=>by rw [Ai (BP q d)];exact q
end
def Rd(H:Hp)(a:Addr)(u:HO):Prop:=H a=some u\/∃o,H a=some (.frz o u)
def Rd.ok(r:Rd H a u)(x:HOk P w H h):Dn P w H h a u:=by
 rcases r with r | ⟨o,r⟩
 .exact x a u r
 .obtain ⟨_,q⟩:=x a _ r;exact q
def Mut:Option HO->Prop
 | some (.lst _)=>True
 | some (.ins _ _ _)=>True
 | some (.ext _)=>True
 | _=>False
section
variable{P:Program}{w:World}{H:Hp}{h h':Heap}{x e:Addr}{o':HO}
def HOk.write(ok:HOk P w H h)(mu:Mut (H x))(he:e=x\/H e=some (.own x))(k:∀b u,b≠e->h.get? b=some u->h'.get? b=some u)(heo:∃u,h'.get? e=some u)(new:Dn P w (upd H x o') h' x o'):HOk P w (upd H x o') h':=λb u q=>by
 have a:∀c y,H c=some (.own y)->c≠x:=λc y r z=>by subst z;rw [r] at mu;exact mu
 have d:∀c f,H c=some (.tup f)->c≠x:=λc f r z=>by subst z;rw [r] at mu;exact mu
 by_cases hb:b=x
 .subst hb;rw [Ay] at q;lia
 .rw [Ai hb] at q;by_cases hbe:b=e
  .have g:H b=some (.own x):=by
    lia
   rw [q] at g;cases g;obtain ⟨v,j⟩:=heo;exact ⟨v,by lia⟩
  .refine (ok b u q).stay (λc v i r=>k c v ?_ r) (λc r=>by rw [Ai (a c b r)];exact r) λc f r=>by rw [Ai (d c f r)];exact r
   grind
end
structure Un(fs ex:List Addr)(H H':Hp)(h h':Heap):Prop where
 keep:∀b o,h.get? b=some o->H b=none->b∉fs->b∉ex->h'.get? b=some o
 slot:∀b o,h.get? b=some o->H b=none->b∈fs->b∉ex->∃sl,h'.get? b=some { o with slots:=sl }
 free:∀b o,h.get? b=some o->H b=none->b∉ex->H' b=none
 there:∀b o,h.get? b=some o->b∉ex->∃o',h'.get? b=some o'
 tups:∀b xs,H b=some (.tup xs)->H' b=some (.tup xs)
 frzs:∀b o u,H b=some (.frz o u)->H' b=some (.frz o u)
 tbls:∀b ps,H b=some (.tbl ps)->∃more,H' b=some (.tbl (ps++more))
section
variable{fs fs' ex ex':List Addr}{H H1 H2:Hp}{h h1 h2 h':Heap}{a x e:Addr}{o:HO}
def Un.any(u:Un fs ex H H1 h h1)(q:h.get? b=some ob)(n:H b=none)(hx:b∉ex):∃sl,h1.get? b=some { ob with slots:=sl }:=by
 by_cases hb:b∈fs
 .exact u.slot b ob q n hb hx
 .exact ⟨ob.slots,u.keep b ob q n hb hx⟩
def Un.trans(a:Un fs ex H H1 h h1)(b:Un fs ex H1 H2 h1 h2):Un fs ex H H2 h h2 where
 keep:=λc d q n i e=>b.keep c d (a.keep c d q n i e) (a.free c d q n e) i e
 slot:=λc d q n i e=>by
  obtain ⟨p,f⟩:=a.slot c d q n i e;obtain ⟨k,m⟩:=b.slot c _ f (a.free c d q n e) i e;simp_all
 free:=λc d q n e=>by
  obtain ⟨j,f⟩:=a.there c d q e;exact b.free c j f (a.free c d q n e) e
 there:=λc d q e=>by
  obtain ⟨j,f⟩:=a.there c d q e;exact b.there c j f e
 tups:=λc g q=>b.tups c g (a.tups c g q)
 frzs:=λc d g q=>b.frzs c d g (a.frzs c d g q)
 tbls:=λc l q=>by
  obtain ⟨r,f⟩:=a.tbls c l q;obtain ⟨o,m⟩:=b.tbls c _ f
  grind
def Un.kept(k:∀b u,h.get? b=some u->h'.get? b=some u):Un fs ex H H h h' :=
 ⟨λb a q _ _ _=>k b a q,λb a q _ _ _=>⟨a.slots,k b a q⟩,λ_ _ _ n _=>n,λb a q _=>⟨a,k b a q⟩,λ_ _ q=>q,λ_ _ _ q=>q,λ_ c q=>⟨#[],by trivial⟩⟩
def Un.refl:Un fs ex H H h h:=Un.kept λ_ _ q=>q
def Un.laid(k:∀b u,h.get? b=some u->h'.get? b=some u)(hp:h.objs.size<=a)(hn:H a=none):Un fs ex H (upd H a o) h h' where
 keep:=λb u q _ _ _=>k b u q
 slot:=λb u q _ _ _=>⟨u.slots,k b u q⟩
 free:=λb u q n _=>by rw [Ai (Bm (Bv (BX q) hp))];exact n
 there:=λb u q _=>⟨u,k b u q⟩
 tups:=λb c q=>by rw [Ai (BP q hn)];exact q
 frzs:=λb u c q=>by rw [Ai (BP q hn)];exact q
 tbls:=λb d q=>⟨#[],by rw [Ai (BP q hn),q];simp⟩
def Un.write(mu:Mut (H x))(he:e=x\/H e=some (.own x))(k:∀b u,b≠e->h.get? b=some u->h'.get? b=some u)(heo:∃u,h'.get? e=some u):Un fs ex H (upd H x o) h h':=by
 have f:∀b,H b=none->b≠x:=λb n z=>by subst z;rw [n] at mu;exact mu
 have c:∀b,H b=none->b≠e:=λb n z=>by
  lia
 have a:∀b u,H b=some u->¬Mut (some u)->b≠x:=λb u q g z=>by lia
 refine ⟨λb u q n _ _=>k b u (c b n) q,λb u q n _ _=>⟨u.slots,k b u (c b n) q⟩,λb u q n _=>by rw [Ai (f b n)];exact n,λb u q _=>?_,
  λb d q=>by rw [Ai (a b _ q λz=>z)];exact q,λb u d q=>by rw [Ai (a b _ q λz=>z)];exact q,λb i q=>⟨#[],by rw [Ai (a b _ q λz=>z),q];simp⟩⟩
 grind
def Un.mono(u:Un fs ex H H1 h h1)(hs:∀b∈fs,b∈fs')(hx:∀b∈ex,b∈ex'):Un fs' ex' H H1 h h1 :=
 ⟨λb c q n d a=>u.keep b c q n (λz=>d (hs b z)) λz=>a (hx b z),λ_ _ q n _ a=>u.any q n λz=>a (hx _ z),λb c q n a=>u.free b c q n λz=>a (hx b z),λb c q a=>u.there b c q λz=>a (hx b z),u.tups,u.frzs,u.tbls⟩
end
def trk(h:Heap)(H:Hp):List Addr:=(List.range h.objs.size).filter λa=>(H a).isSome
def hidT(h:Heap)(H:Hp):Heap:=W.hideAll h (trk h H)
def uM(h)(H):(hidT h H).objs.size=h.objs.size:=W.hideAll_size _ _
def Zoz(e:h.get? b=some o)(n:H b=none):(hidT h H).get? b=some o :=
 W.hideAll_get _ e λa=>by
  have q:=(List.mem_filter.mp a).2;simp_all
def nu(e:(hidT h H).get? b=some o):h.get? b=some o/\H b=none:=by
 have a:=W.of_hideAll (trk h H) e;refine ⟨a,?_⟩;cases q:H b with
 | none=>rfl
 | some x=>
  have c:b∈trk h H:=List.mem_filter.mpr ⟨Ex.mpr (BX a),by simp [q]⟩;have z:(hidT h H).get? b=none:=W.hideAll_none (trk h H) c
  lia
structure Mod(K:W.Frag)(mg:Str->Option Value)(base:Heap):Prop where
 kin:K.In base
 glob:base.Ns mainGlobals mg
 blt:∃mb,base.Ns builtinsNs mb/\∀x:Str,x ≠ "__name__"->mb x=bootBuiltins x
 nolimit:base.NoLimit
structure Cx where
 prog:Program
 w:World
 K:W.Frag
 mg:Str->Option Value
 base:Heap
 A:Around
 N:List Str
 s₀:Shared
 H₀:Hp
 env:Env
 outer:List Env
 stack:List Env
 ex:List Addr
 fn:Str->Bool
 calm:Bool
 pn:List (Addr×Obj)
 xe:Value->Shared->Prop
def frs(l:List Env):List Addr:=l.filterMap (·.frame)
abbrev Cx.fs(X:Cx):List Addr:=frs X.outer
def CQ(sc:Scope)(x:Str):Prop:=sc.names.lookup x=some .local\/sc.names.lookup x=some .cell\/sc.names.lookup x=some .free
def Loc(sc:Scope)(x:Str):Prop:=sc.names.lookup x=some .local\/sc.names.lookup x=some .cell
def Look(env:Env)(h:Heap)(m:Str->Option Value)(x:Str)(u:Value):Prop :=
 (env.kindOf x=some .local/\m x=some u)\/((env.kindOf x=some .cell\/env.kindOf x=some .free)/\∃c,env.cells.lookup x=some c/\h.IsCell c (some u))
structure Cx.Ok(X:Cx):Prop where
 mod:Mod X.K X.mg X.base
 kind:X.env.scope.kind=.function
 glob:X.env.globals=mainGlobals
 blt:X.env.builtins=builtinsNs
 above:X.s₀.heap.objs.size<=X.env.locals
 inj:∀x y c,X.env.cells.lookup x=some c->X.env.cells.lookup y=some c->x=y
 has:∀x,(X.env.kindOf x=some .cell\/X.env.kindOf x=some .free)->∃c,X.env.cells.lookup x=some c
 cab:∀x c,X.fn x=true->X.env.cells.lookup x=some c->X.s₀.heap.objs.size<=c
 hd:X.calm=true->X.A.handled=none
 frames:X.A.frames=some X.stack
 stk:X.stack=X.outer\/(X.stack=X.env::X.outer/\X.env.frame=some X.env.locals)
 exf:∀b∈X.ex,b≠X.env.locals/\∀x c,X.env.cells.lookup x=some c->c≠b
 bs:∀b o,X.base.get? b=some o->X.s₀.heap.get? b=some o/\X.H₀ b=none
 bsz:X.base.objs.size<=X.s₀.heap.objs.size
 noex:∀b o,X.base.get? b=some o->b∉X.ex
 exfs:∀b∈X.ex,b∉X.fs
 funs:X.s₀.heap.FunFrames X.base X.outer
 frf:∀b∈X.fs,X.H₀ b=none
structure Inv(X:Cx)(pins:List (Addr×Obj))(Y:List (Option V))(H:Hp)(s:Shared):Prop where
 ok:X.Ok
 os:s.os=X.s₀.os
 bare:AllBare s.gens
 base:Un X.fs X.ex X.H₀ H X.s₀.heap s.heap
 loc:∃m,s.heap.Ns X.env.locals m/\∀(i:Nat) (x:Str) (v:V),X.N[i]?=some x->Y[i]?=some (some v)->CQ X.env.scope x->∃u,RelV v u/\Look X.env s.heap m x u
 cell:∀x c,X.env.cells.lookup x=some c->∃v,s.heap.IsCell c v
 free:H X.env.locals=none
 freeC:∀x c,X.env.cells.lookup x=some c->H c=none
 pin:∀p∈X.pn++pins,s.heap.get? p.1=some p.2/\H p.1=none/\p.1≠X.env.locals/\p.1∉X.fs/\∀v,p.2.data≠.cell v
 hok:HOk X.prog X.w H s.heap
 len:Y.length=X.N.length
section
variable{X:Cx}{pins:List (Addr×Obj)}{Y:List (Option V)}{H H':Hp}{s:Shared}{h':Heap}
def Cx.Ok.nofr(ok:X.Ok)(e:X.base.get? b=some o):b∉X.fs:=λa=>by
 have:=(ok.funs.mem a).1
 lia
def Inv.bs(I:Inv X pins Y H s):∀b o,X.base.get? b=some o->s.heap.get? b=some o/\H b=none:=λb o e=>
 ⟨I.base.keep b o (I.ok.bs b o e).1 (I.ok.bs b o e).2 (I.ok.nofr e) (I.ok.noex b o e),I.base.free b o (I.ok.bs b o e).1 (I.ok.bs b o e).2 (I.ok.noex b o e)⟩
def Inv.bk(I:Inv X pins Y H s):∀b o,X.base.get? b=some o->s.heap.get? b=some o:=λb o e=>(I.bs b o e).1
def Inv.mod(I:Inv X pins Y H s):Mod X.K X.mg X.base:=I.ok.mod
def Inv.kIn(I:Inv X pins Y H s):X.K.In s.heap:=I.ok.mod.kin.keeps I.bk
def Inv.lt(I:Inv X pins Y H s):X.env.locals<s.heap.objs.size:=let ⟨_,hn,_⟩:=I.loc;hn.lt
def Inv.sz(I:Inv X pins Y H s):X.s₀.heap.objs.size<=s.heap.objs.size:=An I.ok.above (Lj I.lt)
def Inv.nofs(I:Inv X pins Y H s)(h:s.heap.objs.size<=a):a∉X.fs:=λb=>by
 obtain ⟨_,o,c,_⟩:=I.ok.funs.mem b;exact aB (Bv (BX c) (An I.sz h)) (J2 _)
def Inv.cne(I:Inv X pins Y H s):∀x c,X.env.cells.lookup x=some c->c≠X.env.locals:=λx c e z=>by
 obtain ⟨v,o,g,h⟩:=I.cell x c e;obtain ⟨m,⟨d,i,f,a,b,_⟩,_⟩:=I.loc
 lia
def Inv.funs(I:Inv X pins Y H s):s.heap.FunFrames X.base X.outer:=by
 have a:∀l,(∀b∈frs l,b∈X.fs)->X.s₀.heap.FunFrames X.base l->s.heap.FunFrames X.base l:=by
  intro l
  induction l with
  | nil=>intro _ _;trivial
  | cons env r ih=>
   intro f i;obtain ⟨n,⟨L,o,g,k,j,h⟩,m⟩:=i;have c:L∈X.fs:=f L (by unfold frs;simp_all);obtain ⟨p,e⟩:=I.base.slot L o j (I.ok.frf L c) c λz=>I.ok.exfs L z c;exact ⟨n,⟨L,_,g,k,e,h⟩,ih (λb d=>f b (by unfold frs;rw [List.filterMap_cons,g];exact List.mem_cons_of_mem _ d)) m⟩
 exact a X.outer (λ_ d=>d) I.ok.funs
def Inv.stack(I:Inv X pins Y H s):s.heap.FunFrames X.base X.stack:=by
 rcases I.ok.stk with e | ⟨e,hf⟩
 .rw [e];exact I.funs
 .rw [e];obtain ⟨m,a,_⟩:=I.loc;refine .cons (by rw [I.ok.kind];decide) hf a ?_ I.funs;exact Heap.get?_none_of_le (An I.ok.bsz I.ok.above)
def Inv.stkSub(I:Inv X pins Y H s):∀b∈frs X.stack,b∈X.env.locals::X.fs:=λb a=>by
 rcases I.ok.stk with e | ⟨e,hf⟩
 .simp_all
 .rw [e] at a;unfold frs at a;rw [List.filterMap_cons,hf] at a;exact a
def Inv.stkFree(I:Inv X pins Y H s):∀b∈frs X.stack,H b=none:=λb hb=>by
 rcases Aq.mp (I.stkSub b hb) with e | hb
 .rw [e];exact I.free
 .obtain ⟨_,o,a,_⟩:=I.ok.funs.mem hb;exact I.base.free b o a (I.ok.frf b hb) λz=>I.ok.exfs b z hb
def Inv.step{g':Array GenState}{t':Nat}{d':Drawn}{ch:List Addr}(I:Inv X pins Y H s)(hch:∀b∈ch,(b∈X.ex\/X.s₀.heap.objs.size<=b)/\b≠X.env.locals/\(∀x c,X.env.cells.lookup x=some c->c≠b)/\∀p∈X.pn++pins,p.1≠b)(keep:∀b o,b≠X.env.locals->b∉X.fs->b∉ch->s.heap.get? b=some o->H b=none->h'.get? b=some o)(slot:∀b o,b≠X.env.locals->b∈X.fs->b∉ch->s.heap.get? b=some o->H b=none->∃sl,h'.get? b=some { o with slots:=sl })(free:∀b o,b∉ch->s.heap.get? b=some o->H b=none->H' b=none)(there:∀b o,b∉ch->s.heap.get? b=some o->∃o',h'.get? b=some o')(tups:∀b xs,H b=some (.tup xs)->H' b=some (.tup xs))(frzs:∀b o u,H b=some (.frz o u)->H' b=some (.frz o u))(tbls:∀b ps,H b=some (.tbl ps)->∃more,H' b=some (.tbl (ps++more)))(ns:∀m,s.heap.Ns X.env.locals m->h'.Ns X.env.locals m)(hok:HOk X.prog X.w H' h')(hg:AllBare g') :
  Inv X pins Y H' { s with heap:=h',gens:=g',drawn:=d',toks:=t' }:=by
 have y:∀b o,X.s₀.heap.get? b=some o->b≠X.env.locals:=λb o e=>Bm (Bv (BX e) I.ok.above);have f:∀b o,X.s₀.heap.get? b=some o->b∉X.ex->b∉ch:=λb o e a g=>by
  rcases (hch b g).1 with z | z
  .lia
  .exact aB (Bv (BX e) z) (J2 _)
 have h:∀x c,X.env.cells.lookup x=some c->∀v,s.heap.IsCell c v->h'.IsCell c v:=λx c e v ⟨o,t,B⟩=>by
  have A:=λz=>(hch c z).2.2.1 x c e rfl;by_cases hc:c∈X.fs
  .obtain ⟨sl,q⟩:=slot c o (I.cne x c e) hc A t (I.freeC x c e);exact ⟨_,q,B⟩
  .exact ⟨o,keep c o (I.cne x c e) hc A t (I.freeC x c e),B⟩
 refine ⟨I.ok,I.os,hg,⟨λb o e n g a=>?_,λb o e n g a=>?_,λb o e n a=>?_,λb o e a=>?_,λb xs e=>tups b xs (I.base.tups b xs e),λb o xs e=>frzs b o xs (I.base.frzs b o xs e),λb ps e=>?_⟩,?_,λx c e=>?_,?_,λx c e=>?_,λp F=>?_,hok,I.len⟩
 .exact keep b o (y b o e) g (f b o e a) (I.base.keep b o e n g a) (I.base.free b o e n a)
 .obtain ⟨sl,j⟩:=I.base.slot b o e n g a;obtain ⟨D,C⟩:=slot b _ (y b o e) g (f b o e a) j (I.base.free b o e n a);simp_all
 .obtain ⟨o',j⟩:=I.base.there b o e a;exact free b o' (f b o e a) j (I.base.free b o e n a)
 .obtain ⟨o',j⟩:=I.base.there b o e a;simp_all
 .obtain ⟨K,j⟩:=I.base.tbls b ps e
  grind
 .obtain ⟨m,E,G⟩:=I.loc;refine ⟨m,ns m E,λi x v j C J=>?_⟩;obtain ⟨u,r,l⟩:=G i x v j C J;refine ⟨u,r,?_⟩;rcases l with l | ⟨k,c,e,z⟩
  .exact .inl l
  .exact .inr ⟨k,c,e,h x c e _ z⟩
 .obtain ⟨v,z⟩:=I.cell x c e
  grind
 .obtain ⟨m,⟨o,_,_,t,_⟩,_⟩:=I.loc;exact free _ o (λz=>(hch _ z).2.1 rfl) t I.free
 .obtain ⟨v,o,t,B⟩:=I.cell x c e;exact free c o (λz=>(hch c z).2.2.1 x c e rfl) t (I.freeC x c e)
 .obtain ⟨e,n,M,L,d⟩:=I.pin p F
  grind
def Inv.un{t':Nat}(I:Inv X pins Y H s)(u:Un X.fs [] H H' s.heap h')(hok:HOk X.prog X.w H' h'):Inv X pins Y H' { s with heap:=h',toks:=t' }:=by
 obtain ⟨m,⟨o,t,p,g,r⟩,_⟩:=id I.loc;obtain ⟨l,i⟩:=u.any g I.free (by simp)
 exact I.step (ch:=[]) (λ_ z=>nomatch z) (λb o _ f _ e n=>u.keep b o e n f (by simp)) (λb o _ f _ e n=>u.slot b o e n f (by simp)) (λb o _ e n=>u.free b o e n (by simp)) (λb o _ e=>u.there b o e (by simp)) u.tups u.frzs u.tbls (λq h=>by
  obtain ⟨k,c,d,a,j⟩:=h;rw [g] at a;cases a
  exact ⟨_,c,d,i,j⟩) hok I.bare
def Inv.call{g':Array GenState}{t':Nat}{d':Drawn}{ch:List Addr}(I:Inv X pins Y H s)(u:Un (frs X.stack) ch H H' s.heap h')(hok:HOk X.prog X.w H' h')(hg:AllBare g')(hch:∀b∈ch,(b∈X.ex\/X.s₀.heap.objs.size<=b)/\b≠X.env.locals/\(∀x c,X.env.cells.lookup x=some c->c≠b)/\∀p∈X.pn++pins,p.1≠b) :
  Inv X pins Y H' { s with heap:=h',gens:=g',drawn:=d',toks:=t' }:=by
 obtain ⟨m,⟨o,A,v,i,r⟩,_⟩:=id I.loc;obtain ⟨t,h⟩:=u.any i I.free λz=>(hch _ z).2.1 rfl
 exact I.step hch (λb o h l a e n=>u.keep b o e n (λz=>(Aq.mp (I.stkSub b z)).elim h l) a) (λb o _ _ a e n=>u.any e n a) (λb o a e n=>u.free b o e n a) (λb o a e=>u.there b o e a) u.tups u.frzs u.tbls (λy j=>by
  obtain ⟨q,f,g,d,k⟩:=j;rw [i] at d;cases d
  exact ⟨_,f,g,h,k⟩) hok hg
def Inv.turned{t':Nat}{it:Addr}(I:Inv X pins Y H s)(k:∀b o,b≠it->s.heap.get? b=some o->h'.get? b=some o)(hn:H it=none)(hL:it≠X.env.locals)(h1:it∈X.ex\/X.s₀.heap.objs.size<=it)(h2:∀x c,X.env.cells.lookup x=some c->c≠it)(h3:∀p∈X.pn++pins,p.1≠it):Inv X pins Y H { s with heap:=h',toks:=t' }:=by
 have f:∀b u,H b=some u->b≠it:=λb u e z=>by lia
 refine I.step (ch:=[it]) (λb l=>?_) (λb o _ _ a e _=>k b o (λz=>a (by simp [z])) e) (λb o _ _ a e _=>⟨o.slots,k b o (λz=>a (by simp [z])) e⟩) (λ_ _ _ _ n=>n)
  (λb o a e=>⟨o,k b o (λz=>a (by simp [z])) e⟩) (λ_ _ e=>e) (λ_ _ _ e=>e) (λb j e=>⟨#[],by trivial⟩) (λm g=>?_) (λb u e=>?_) I.bare
 .grind
 .obtain ⟨o,i,d,h,r⟩:=g;exact ⟨o,i,d,k _ o (Ne.symm hL) h,r⟩
 .refine (I.hok b u e).stay (λc v a q=>k c v ?_ q) (λ_ q=>q) λ_ _ q=>q
  lia
def Inv.tok(I:Inv X pins Y H s)(t):Inv X pins Y H { s with toks:=t }:=I.un (h':=s.heap) (t':=t) Un.refl I.hok
def Inv.kept(I:Inv X pins Y H s)(k:∀b u,s.heap.get? b=some u->h'.get? b=some u):Inv X pins Y H { s with heap:=h',toks:=t' }:=I.un (Un.kept k) (I.hok.kept k)
def Inv.laid(I:Inv X pins Y H s)(k:∀b u,s.heap.get? b=some u->h'.get? b=some u)(hp:s.heap.objs.size<=a)(new:Dn X.prog X.w (upd H a o) h' a o) :
  Inv X pins Y (upd H a o) { s with heap:=h',toks:=t' }:=I.un (Un.laid k hp (I.hok.fresh hp)) (I.hok.laid k hp new)
def Inv.write(I:Inv X pins Y H s)(mu:Mut (H x))(he:e=x\/H e=some (.own x))(k:∀b u,b≠e->s.heap.get? b=some u->h'.get? b=some u)(heo:∃u,h'.get? e=some u)(new:Dn X.prog X.w (upd H x o) h' x o):Inv X pins Y (upd H x o) { s with heap:=h',toks:=t' }:=I.un (Un.write mu he k heo) (I.hok.write mu he k heo new)
def Inv.weak{Y':List (Option V)}(I:Inv X pins Y H s)(hl:Y'.length=Y.length)(w:∀(i:Nat) v,Y'[i]?=some (some v)->Y[i]?=some (some v)):Inv X pins Y' H s :=
 ⟨I.ok,I.os,I.bare,I.base,let ⟨m,hn,hl'⟩:=I.loc;⟨m,hn,λi x v a b c=>hl' i x v a (w i v b) c⟩,I.cell,I.free,I.freeC,I.pin,I.hok,hl.trans I.len⟩
def Inv.pins_of(I:Inv X pins Y H s)(h:∀p∈pins',s.heap.get? p.1=some p.2/\H p.1=none/\p.1≠X.env.locals/\p.1∉X.fs/\∀v,p.2.data≠.cell v):Inv X pins' Y H s :=
 ⟨I.ok,I.os,I.bare,I.base,I.loc,I.cell,I.free,I.freeC,λp a=>(CK.mp a).elim (λz=>I.pin p (JK _ z)) (h p),I.hok,I.len⟩
def WF{N:List Str}(hN:N.Nodup){i j:Nat}{x:Str}(a:N[i]?=some x)(b:N[j]?=some x):i=j:=by
 obtain ⟨e,d⟩:=Gk.mp a;obtain ⟨f,c⟩:=Gk.mp b;exact (List.getElem_inj hN).mp (d.trans c.symm)
def uh(I:Inv X pins Y H s)(hN:X.N.Nodup)(hi:X.N[i]?=some x)(hx:Loc X.env.scope x)(r:RelV v u)(h:∀s',Inv X pins (Y.set i (some v)) H s'->(∃a,Heap.SameBut a s.heap s'.heap/\(a=X.env.locals\/X.env.cells.lookup x=some a))->Q () s')(hf:X.fn x=true\/X.env.scope.names.lookup x=some .local:=by first | exact .inl rfl | exact .inr rfl | assumption):wpAny M A (storeName X.env x u) Q E s:=by
 obtain ⟨m,Z,hl⟩:=id I.loc;have K:(X.env.scope.kind==.class||(X.env.scope.kind==.module&&X.env.locals != X.env.globals))=false:=by rw [I.ok.kind];rfl
 have C:i<Y.length:=by rw [I.len];grind
 have F:=I.cne;have g:∀{a:Addr} {J:Heap},(∃o,s.heap.get? a=some o/\H a=none)->Heap.SameBut a s.heap J->HOk X.prog X.w H J:=λ{a J} ha f b ob e=>by
  obtain ⟨_,_,U⟩:=ha;refine (I.hok b ob e).stay (λc w' t q=>(f.2 c ?_).trans q) (λ_ q=>q) λ_ _ q=>q
  lia
 rcases hx with hk | hk
 .refine wpAny_storeName_local hk Z (λJ T f=>?_) K;obtain ⟨oL,_,_,hoL,_⟩:=id Z;refine h _ ⟨I.ok,I.os,I.bare,⟨λb o e n D hx=>?_,λb o e n D hx=>?_,I.base.free,λb o e hx=>?_,I.base.tups,I.base.frzs,I.base.tbls⟩,⟨_,T,λj y v' l B e3=>?_⟩,λy c e=>?_,I.free,I.freeC,λp hp=>?_,g ⟨oL,hoL,I.free⟩ f,by simpa using I.len⟩ ⟨_,f,.inl rfl⟩
  .exact (f.2 b (Bm (Bv (BX e) I.ok.above))).trans (I.base.keep b o e n D hx)
  .obtain ⟨S,l⟩:=I.base.slot b o e n D hx;exact ⟨S,(f.2 b (Bm (Bv (BX e) I.ok.above))).trans l⟩
  .obtain ⟨P,l⟩:=I.base.there b o e hx;exact ⟨P,(f.2 b (Bm (Bv (BX e) I.ok.above))).trans l⟩
  .by_cases hj:j=i
   .subst hj;rw [hi] at l;cases l;rw [JP C] at B;cases B;exact ⟨u,r,.inl ⟨hk,by simp⟩⟩
   .rw [GK (Ne.symm hj)] at B;obtain ⟨u',W,q⟩:=hl j y v' l B e3;refine ⟨u',W,?_⟩;rcases q with ⟨k,e⟩ | ⟨k,c,e,z⟩
    .refine .inl ⟨k,?_⟩;have:y≠x:=λe=>hj (WF hN l (e▸hi))
     lia
    .exact .inr ⟨k,c,e,z.sameBut f (F y c e)⟩
  .obtain ⟨w',z⟩:=I.cell y c e;exact ⟨w',z.sameBut f (F y c e)⟩
  .obtain ⟨e,n,O,nf,d⟩:=I.pin p hp;exact ⟨(f.2 p.1 O).trans e,n,O,nf,d⟩
 .have G:X.fn x=true:=by
   lia
  obtain ⟨c,t⟩:=I.ok.has x (.inl hk);obtain ⟨w',z⟩:=I.cell x c t;refine wpAny_storeName_cell I.ok.kind hk t z (λJ V f=>?_);obtain ⟨oc,R,hocd⟩:=id z;refine h { s with heap:=J } ⟨I.ok,I.os,I.bare,⟨λb o e n D hx=>?_,λb o e n D hx=>?_,I.base.free,λb o e hx=>?_,I.base.tups,I.base.frzs,I.base.tbls⟩,⟨m,Z.sameBut f (Ne.symm (F x c t)),λj y v' l B e3=>?_⟩,λy L e=>?_,I.free,I.freeC,λp hp=>?_,g ⟨oc,R,I.freeC x c t⟩ f,by simpa using I.len⟩ ⟨c,f,.inr t⟩
  .exact (f.2 b (Bm (Bv (BX e) (I.ok.cab x c G t)))).trans (I.base.keep b o e n D hx)
  .obtain ⟨S,l⟩:=I.base.slot b o e n D hx;exact ⟨S,(f.2 b (Bm (Bv (BX e) (I.ok.cab x c G t)))).trans l⟩
  .obtain ⟨P,l⟩:=I.base.there b o e hx;exact ⟨P,(f.2 b (Bm (Bv (BX e) (I.ok.cab x c G t)))).trans l⟩
  .by_cases hj:j=i
   .subst hj;rw [hi] at l;cases l;rw [JP C] at B;cases B;exact ⟨u,r,.inr ⟨.inl hk,c,t,V⟩⟩
   .rw [GK (Ne.symm hj)] at B;obtain ⟨u',W,q⟩:=hl j y v' l B e3;refine ⟨u',W,?_⟩;rcases q with q | ⟨k,L,e,z'⟩
    .exact .inl q
    .refine .inr ⟨k,L,e,z'.sameBut f ?_⟩;rintro rfl;exact hj (WF hN l (I.ok.inj _ _ _ e t▸hi))
  .by_cases hcc:L=c
   .grind
   .obtain ⟨w2,z2⟩:=I.cell y L e;exact ⟨w2,z2.sameBut f hcc⟩
  .obtain ⟨e,n,O,nf,d⟩:=I.pin p hp;refine ⟨(f.2 p.1 ?_).trans e,n,O,nf,d⟩
   grind
def T7(I:Inv X pins Y H s)(hN:X.N.Nodup)(hi:X.N[i]?=some x)(hx:Loc X.env.scope x)(r:RelV v u)(h:∀s',Inv X pins (Y.set i (some v)) H s'->Q () s')(hf:X.fn x=true\/X.env.scope.names.lookup x=some .local:=by first | exact .inl rfl | exact .inr rfl | assumption):wpAny M A (storeName X.env x u) Q E s :=
 uh I hN hi hx r (λs' a _=>h s' a) hf
def Inv.call'(I:Inv X pins Y H s)(ho:s'.os=s.os)(u:Un (frs X.stack) ch H H' s.heap s'.heap)(hok:HOk X.prog X.w H' s'.heap)(hg:AllBare s'.gens)(hch:∀b∈ch,(b∈X.ex\/X.s₀.heap.objs.size<=b)/\b≠X.env.locals/\(∀x c,X.env.cells.lookup x=some c->c≠b)/\∀p∈X.pn++pins,p.1≠b):Inv X pins Y H' s':=by
 obtain ⟨g,d,f,h,a⟩:=s';have e:=ho;subst e;exact I.call u hok hg hch
end
abbrev XK:=Value->Option Addr->Hp->Prop
abbrev St:=List (Option V)
abbrev VK:=V->Hp->Prop
abbrev TE:=St->Hp->VK->Prop
abbrev TT:=St->Hp->(Bool->Hp->Prop)->Prop
abbrev TA:=St->Hp->(List V->Hp->Prop)->Prop
structure Ends where
 nx:St->Hp->Prop
 rt:VK
 bk:St->Hp->Prop:=λ_ _=>False
 ct:St->Hp->Prop:=λ_ _=>False
abbrev TS:=Ends->St->Hp->Prop
def EP(X:Cx)(pins:List (Addr×Obj))(Y:St)(Q:VK)(u:Value)(s':Shared):Prop:=∃v a,Inv X pins Y a s'/\RelV v u/\Q v a
def TP(X:Cx)(pins:List (Addr×Obj))(Y:St)(Q:Bool->Hp->Prop)(b:Bool)(s':Shared):Prop:=∃a,Inv X pins Y a s'/\Q b a
def AP(X:Cx)(pins:List (Addr×Obj))(Y:St)(Q:List V->Hp->Prop)(us:List Value)(s':Shared):Prop:=∃a b,Inv X pins Y b s'/\Vals a us/\Q a b
def SP(X:Cx)(pins:List (Addr×Obj))(D:Ends)(f:Flow)(s':Shared):Prop :=
 match f with
 | .next=>∃b a,Inv X pins b a s'/\D.nx b a
 | .brk=>∃b a,Inv X pins b a s'/\D.bk b a
 | .cont=>∃b a,Inv X pins b a s'/\D.ct b a
 | .ret u=>∃v b a,Inv X pins b a s'/\RelV v u/\D.rt v a
abbrev wX{α}(X:Cx):=@wpAny α (model X.prog X.w) X.A
def PE(X:Cx)(e:Expr)(t:TE):Prop :=
 ∀a s Y H Q,Inv X a Y H s->t Y H Q->wX X (eval e X.env) (EP X a Y Q) X.xe s
def PT(X:Cx)(e:Expr)(t:TT):Prop :=
 ∀a s Y H Q,Inv X a Y H s->t Y H Q->wX X (isTrue e X.env (eval e X.env)) (TP X a Y Q) X.xe s
def PW(X:Cx)(e:Expr)(t:TT):Prop :=
 ∀b a s Y H Q,Inv X a Y H s->t Y H Q->wX X (isTrue e X.env b) (TP X a Y Q) X.xe s
def PW.pt(h:PW X e t):PT X e t:=h _
def PA(X:Cx)(es:List Expr)(t:TA):Prop :=
 ∀b a s Y H Q,Inv X a Y H s->t Y H Q->wX X (spliced (backTo b (starEach es X.env))) (AP X a Y Q) X.xe s
def PS(X:Cx)(st:Stmt)(t:TS):Prop :=
 ∀a s Y H D,Inv X a Y H s->t D Y H->wX X (exec st X.env) (SP X a D) X.xe s
def PSs(X:Cx)(st:List Stmt)(t:TS):Prop :=
 ∀a s Y H D,Inv X a Y H s->t D Y H->wX X (execs st X.env) (SP X a D) X.xe s
def thn(h:wpAny M A t Q E s)(hQ:∀a s,Q a s->Q' a s):wpAny M A t Q' E s:=Cj h hQ λ_ _ x=>x
section
variable{X:Cx}
def tVar(i:Nat):TE:=λY H Q=>∃v,Y[i]?=some (some v)/\Q v H
def tC(v:V):TE:=λ_ H Q=>Q v H
def Cr(hN:X.N[i]?=some x)(hv:CQ X.env.scope x)(hd:ND x:=by decide)(hcd:NE x:=by decide):PE X (.Name x pos) (tVar i):=by
 intro b s Y H Q I h;obtain ⟨v,e,h⟩:=h;obtain ⟨m,f,d⟩:=I.loc;obtain ⟨u,r,l⟩:=d i x v hN e hv;have a:EP X b Y Q u s:=⟨v,H,I,r,h⟩;rcases l with ⟨hk,hm⟩ | ⟨hk,c,hc,hcell⟩
 .exact wpAny_Name (wpAny_loadName_local I.ok.kind hk f hm a) hd
 .rcases hk with hk | hk
  .exact wpAny_Name (wpAny_loadName_cell I.ok.kind hk hc hcell a) hd
  .exact wpAny_Name (wpAny_loadName_free I.ok.kind hk hc hcell a hcd) hd
def eN{i j pos}:PE X (.Constant (.int i) j pos) (tC (.int i)):=λ_ _ _ H _ I h=>wpAny_Constant_int ⟨.int i,H,I.tok _,⟨_,rfl⟩,h⟩
def j6{b j pos}:PE X (.Constant (.bool b) j pos) (tC (.bl b)):=λ_ _ _ H _ I h=>Constant_bool ⟨.bl b,H,I,rfl,h⟩
def jK{j pos}:PE X (.Constant .none j pos) (tC .non):=λ_ _ _ H _ I h=>Constant_none ⟨.non,H,I,rfl,h⟩
def Wg{x j pos}:PE X (.Constant (.str x) j pos) (tC (.str x)):=λ_ _ _ H _ I h=>Calls.Constant_str ⟨.str x,H,I.tok _,⟨_,rfl⟩,h⟩
def Gl(X:Cx)(x:Str):Prop:=X.env.kindOf x=some .globalImplicit
def RL(I:Inv X pins Y H s)(hg:Gl X x)(hm:X.mg x=some u)(h:Q u s)(hd:ND x:=by decide):wX X (eval (.Name x pos) X.env) Q E s :=
 Calls.Name_function_global I.ok.kind hg (Calls.loadGlobal_global (by rw [I.ok.glob];exact I.mod.glob.keeps I.bk) hm h) hd
def Jx(I:Inv X pins Y H s)(hg:Gl X x)(hm:X.mg x=none)(hv:bootBuiltins x=some u)(h:Q u s)(hn:x ≠ "__name__":=by decide)(hd:ND x:=by decide):wX X (eval (.Name x pos) X.env) Q E s:=by
 obtain ⟨c,a,b⟩:=I.mod.blt;exact Calls.Name_function_global I.ok.kind hg (Calls.loadGlobal_builtin (by rw [I.ok.glob];exact I.mod.glob.keeps I.bk) hm (by rw [I.ok.blt];exact a.keeps I.bk) ((b x hn).trans hv) h) hd
def Lx(hg:Gl X x)(hm:X.mg x=some u)(r:RelV v u)(hd:ND x:=by decide):PE X (.Name x pos) (tC v) :=
 λ_ _ _ H _ I h=>RL I hg hm ⟨v,H,I,r,h⟩ hd
def jP(hg:Gl X x)(hm:X.mg x=none)(hv:bootBuiltins x=some u)(r:RelV v u)(hn:x ≠ "__name__":=by decide)(hd:ND x:=by decide):PE X (.Name x pos) (tC v) :=
 λ_ _ _ H _ I h=>Jx I hg hm hv ⟨v,H,I,r,h⟩ hn hd
variable{a b:Expr}{ta tb:TE}{pos:Pos}
def tB(t:TE):TT:=λY H Q=>t Y H λx a=>∃c,x=.bl c/\Q c a
def nA(h:PE X e t)(he:∀whole,isTrue e X.env whole=(do let v <-whole;standAt e.pos;holding [v] (truthy v)):=by intro _;rfl):PT X e (tB t):=by
 intro a s Y H Q I g;refine isTrue_plain (thn (h a s Y H _ I g) λv j zq=>?_) (he _);obtain ⟨x,b,c,f,i⟩:=zq;obtain ⟨d,rfl,q⟩:=i;cases f;exact wpAny_truthy_bool ⟨b,c,q⟩
variable{tA tB':TT}{rest:List Expr}
def tAnd(t u:TT):TT:=λY H Q=>t Y H λc a=>if c=true then u Y a Q else Q false a
def tOr(t u:TT):TT:=λY H Q=>t Y H λc a=>if c=true then Q true a else u Y a Q
def tNot(t:TT):TT:=λY H Q=>t Y H λc a=>Q (!c) a
def xF(ha:PT X a tA):PW X (.BoolOp .And [a] pos) tA:=by
 intro f b s Y H Q I h;refine isTrue_and (thn (ha b s Y H Q I h) λc d e=>?_);cases c with
 | true=>exact isTrue_and_nil e
 | false=>exact e
def Z9(ha:PT X a tA):PW X (.BoolOp .Or [a] pos) tA:=by
 intro f b s Y H Q I h;refine isTrue_or (thn (ha b s Y H Q I h) λc d e=>?_);cases c with
 | false=>exact isTrue_or_nil e
 | true=>exact e
def Zwb(ha:PT X a tA)(hb:PW X (.BoolOp .And (b::rest) pos) tB'):PW X (.BoolOp .And (a::b::rest) pos) (tAnd tA tB'):=by
 intro j d s Y H Q I h;refine isTrue_and (thn (ha d s Y H _ I h) λc i zq=>?_);obtain ⟨e,f,g⟩:=zq;cases c with
 | true=>exact hb j d i Y e Q f g
 | false=>exact ⟨e,f,g⟩
def WQ(ha:PT X a tA)(hb:PW X (.BoolOp .Or (b::rest) pos) tB'):PW X (.BoolOp .Or (a::b::rest) pos) (tOr tA tB'):=by
 intro j d s Y H Q I h;refine isTrue_or (thn (ha d s Y H _ I h) λc i zq=>?_);obtain ⟨e,f,g⟩:=zq;cases c with
 | true=>exact ⟨e,f,g⟩
 | false=>exact hb j d i Y e Q f g
def ue(ha:PT X a tA):PT X (.UnaryOp .Not a pos) (tNot tA):=by
 intro b s Y H Q I h;exact isTrue_not (ha b s Y H (λc d=>Q (!c) d) I h)
def Sv(ta tb:TE):TE:=λY H Q=>ta Y H λx a=>∃c,x=.bl c/\if c=true then tb Y a Q else Q (.bl false) a
def T8(ta:TE):TE:=λY H Q=>ta Y H λx a=>∃c,x=.bl c/\Q (.bl (!c)) a
def vq{op}(h:PE X a t):PE X (.BoolOp op [a] pos) t:=λb s Y H Q I c=>BoolOp_one (h b s Y H Q I c)
def iB(ha:PE X a ta)(hb:PE X (.BoolOp .And (b::rest) pos) tb):PE X (.BoolOp .And (a::b::rest) pos) (Sv ta tb):=by
 intro d s Y H Q I h;refine BoolOp_and (thn (ha d s Y H _ I h) λv j zq=>?_);obtain ⟨x,f,g,i,e⟩:=zq;obtain ⟨c,rfl,e⟩:=e;cases i;refine wpAny_truthy_bool ?_;cases c with
 | true=>exact hb d j Y f Q g e
 | false=>exact ⟨.bl false,f,g,rfl,e⟩
def z6(ha:PE X a ta):PE X (.UnaryOp .Not a pos) (T8 ta):=by
 intro b s Y H Q I h;refine UnaryOp_ (thn (ha b s Y H _ I h) λv i zq=>?_);obtain ⟨x,e,f,g,d⟩:=zq;obtain ⟨c,rfl,d⟩:=d;cases g;exact not_of (wpAny_truthy_bool ⟨.bl (!c),e,f,rfl,d⟩)
def tIf(t:TT)(ta tb:TE):TE:=λY H Q=>t Y H λc a=>if c=true then ta Y a Q else tb Y a Q
def zV(hc:PT X c tA)(ha:PE X a ta)(hb:PE X b tb):PE X (.IfExp c a b pos) (tIf tA ta tb):=by
 intro e s Y H Q I h;refine wpAny_IfExp (thn (hc e s Y H _ I h) λd i zq=>?_);obtain ⟨f,g,j⟩:=zq;cases d with
 | true=>exact ha e i Y f Q g j
 | false=>exact hb e i Y f Q g j
end
def SqL(K:W.Frag)(H:Hp)(a:Addr)(xs:List V):Prop :=
 Rd H a (.lst xs) \/
  ∃o b n,K.lookup a=some o/\o.cls=.type "list"/\o.dict=none/\o.data=.seq b n/\b.size<=sizeLine/\Vals xs b.toList
def SqT(K:W.Frag)(H:Hp)(a:Addr)(xs:List V):Prop :=
 Rd H a (.tup xs) \/
  ∃o b n,K.lookup a=some o/\o.cls=.type "tuple"/\o.data=.seq b n/\b.size<=sizeLine/\Vals xs b.toList
def absV:Value->Option V
 | .none=>some .non
 | .bool b=>some (.bl b)
 | .int i _=>some (.int i)
 | .str x _=>some (.str x)
 | .ref a=>some (.ref a)
 | .type n=>some (.ty n)
 | _=>none
def RelV.abs(r:RelV x u):absV u=some x:=by
 cases x with
 | non=>cases r;rfl
 | bl _=>cases r;rfl
 | int _=>obtain ⟨t,rfl⟩:=r;rfl
 | str _=>obtain ⟨t,rfl⟩:=r;rfl
 | ref _=>cases r;rfl
 | ty _=>cases r;rfl
def RelV.inj(r:RelV x u)(q:RelV y u):x=y:=Fy (r.abs.symm.trans q.abs)
def Vals.inj:∀{xs ys:List V} {us:List Value},Vals xs us->Vals ys us->xs=ys
 | _,_,_,.nil,.nil=>rfl
 | _,_,_,.cons r t,.cons r' t'=>by rw [r.inj r',Vals.inj t t']
section
variable{X:Cx}{pins:List (Addr×Obj)}{Y:St}{H:Hp}{s:Shared}{a:Addr}{xs ys:List V}
def SqL.of{K:W.Frag}(h:H a=some (.lst xs)):SqL K H a xs:=.inl (.inl h)
def SqT.of{K:W.Frag}(h:H a=some (.tup xs)):SqT K H a xs:=.inl (.inl h)
def Inv.list(I:Inv X pins Y H s)(h:SqL X.K H a xs):∃its,Vals xs its/\PlainL s.heap a its.toArray/\xs.length<=sizeLine:=by
 rcases h with h | ⟨o,its,n,hk,hc,hd,hs,hz,r⟩
 .obtain ⟨z,its,n,r,e⟩:=h.ok I.hok;exact ⟨its,r,⟨_,n,e,rfl,rfl,rfl⟩,z⟩
 .refine ⟨its.toList,r,⟨o,n,I.kIn a o hk,hc,hd,by trivial⟩,?_⟩;have e:=r.length;simp_all
def Inv.tuple(I:Inv X pins Y H s)(h:SqT X.K H a xs):∃its,Vals xs its/\IsTup s.heap a its.toArray/\xs.length<=sizeLine:=by
 rcases h with h | ⟨o,its,n,hk,hc,hs,hz,r⟩
 .obtain ⟨z,its,r,p⟩:=h.ok I.hok
  grind
 .refine ⟨its.toList,r,⟨o,I.kIn a o hk,hc,n,by trivial⟩,?_⟩;have e:=r.length;simp_all
def Inv.list_inj(I:Inv X pins Y H s)(h:SqL X.K H a xs)(h':SqL X.K H a ys):xs=ys:=by
 obtain ⟨c,r,⟨o,n,e,_,_,d⟩,_⟩:=I.list h;obtain ⟨b,i,⟨j,k,g,_,_,f⟩,_⟩:=I.list h';rw [e] at g;cases g;rw [d] at f;injection f with d1 _
 have:c=b:=by lia
 subst this;exact r.inj i
def Inv.tuple_inj(I:Inv X pins Y H s)(h:SqT X.K H a xs)(h':SqT X.K H a ys):xs=ys:=by
 obtain ⟨c,r,⟨o,e,_,n,d⟩,_⟩:=I.tuple h;obtain ⟨b,i,⟨j,g,_,k,f⟩,_⟩:=I.tuple h';rw [e] at g;cases g;rw [d] at f;injection f with d1 _
 have:c=b:=by lia
 subst this;exact r.inj i
end
abbrev Cx.wish(X:Cx)(E:Value->Shared->Prop):Cx:={ X with xe:=E }
abbrev Cx.nox(X:Cx):Cx:=X.wish λ_ _=>False
def Cx.Ok.wish{X:Cx}(ok:X.Ok)(E):(X.wish E).Ok :=
 ⟨ok.mod,ok.kind,ok.glob,ok.blt,ok.above,ok.inj,ok.has,ok.cab,ok.hd,ok.frames,ok.stk,ok.exf,ok.bs,ok.bsz,ok.noex,ok.exfs,ok.funs,ok.frf⟩
def Cx.Ok.unwish{X:Cx}(ok:(X.wish E).Ok):X.Ok :=
 ⟨ok.mod,ok.kind,ok.glob,ok.blt,ok.above,ok.inj,ok.has,ok.cab,ok.hd,ok.frames,ok.stk,ok.exf,ok.bs,ok.bsz,ok.noex,ok.exfs,ok.funs,ok.frf⟩
section
variable{X:Cx}{pins:List (Addr×Obj)}{Y:St}{H:Hp}{s:Shared}{E:Value->Shared->Prop}
def Inv.wish(I:Inv X pins Y H s)(E):Inv (X.wish E) pins Y H s:=⟨I.ok.wish E,I.os,I.bare,I.base,I.loc,I.cell,I.free,I.freeC,I.pin,I.hok,I.len⟩
def Inv.unwish(I:Inv (X.wish E) pins Y H s):Inv X pins Y H s:=⟨I.ok.unwish,I.os,I.bare,I.base,I.loc,I.cell,I.free,I.freeC,I.pin,I.hok,I.len⟩
def SP.unwish(h:SP (X.wish E) pins D f s'):SP X pins D f s':=by
 cases f with
 | next=>obtain ⟨Y',H',I,q⟩:=h;exact ⟨Y',H',I.unwish,q⟩
 | brk=>obtain ⟨Y',H',I,q⟩:=h;exact ⟨Y',H',I.unwish,q⟩
 | cont=>obtain ⟨Y',H',I,q⟩:=h;exact ⟨Y',H',I.unwish,q⟩
 | ret u=>obtain ⟨v,Y',H',I,r,q⟩:=h;exact ⟨v,Y',H',I.unwish,r,q⟩
end
section
variable{X:Cx}{st:Stmt}{rest:List Stmt}{t u:TS}{e:Expr}{te:TE}{pos:Pos}
def GF:TS:=λD Y H=>D.nx Y H
def tSeq(t u:TS):TS:=λD Y H=>t { D with nx:=u D } Y H
def Kr:PSs X [] GF:=λ_ _ Y H _ I h=>Ou ⟨Y,H,I,h⟩
def DP(h1:PS X st t)(h2:PSs X rest u):PSs X (st::rest) (tSeq t u):=by
 intro a s Y H D I h;refine wpAny_execs_cons (thn (h1 a s Y H { D with nx:=u D } I h) λf c q=>?_)
 cases f with
 | next=>
  obtain ⟨e,d,b,q⟩:=q;exact h2 a c e d D b q
 | ret v=>exact q
 | brk=>exact q
 | cont=>exact q
def FQ(h1:PS X st t):PSs X [st] t:=by
 intro a s Y H D I h;refine wpAny_execs_cons (thn (h1 a s Y H D I h) λf b q=>?_);cases f with
 | next=>exact Ou q
 | ret v=>exact q
 | brk=>exact q
 | cont=>exact q
def Inv.quiet(I:Inv X pins Y H s):interactive X.env=false:=by simp [interactive,I.ok.kind]
def Ep(te:TE):TS:=λD Y H=>te Y H λ_ a=>D.nx Y a
def J0(he:PE X e te)(hs:swapsWith e none pos.line X.env=pure false:=by rfl):PS X (.Expr e pos) (Ep te):=by
 intro a s Y H D I h;exact wpAny_Expr_any (thn (he a s Y H _ I h) λv g zq=>by obtain ⟨x,b,c,f,d⟩:=zq;exact ⟨Y,b,c,d⟩) I.quiet hs
def tRet(te:TE):TS:=λD Y H=>te Y H D.rt
def Jy(he:PE X e te):PS X (.Return (some e) pos) (tRet te):=by
 intro a s Y H D I h;exact wpAny_Return_some (thn (he a s Y H _ I h) λv g zq=>by obtain ⟨x,b,c,d,f⟩:=zq;exact ⟨x,Y,b,c,d,f⟩)
def tIfS(c:TT)(t u:TS):TS:=λD Y H=>c Y H λb a=>if b=true then t D Y a else u D Y a
def JM(hc:PT X c tc)(ha:PSs X a t)(hb:PSs X b u):PS X (.If c a b pos) (tIfS tc t u):=by
 intro e s Y H D I h;refine wpAny_If (thn (hc e s Y H _ I h) λd i zq=>?_);obtain ⟨f,g,j⟩:=zq;cases d with
 | true=>exact ha e i Y f D g j
 | false=>exact hb e i Y f D g j
end
abbrev TG:=V->St->Hp->(St->Hp->Prop)->Prop
abbrev TGs:=List V->St->Hp->(St->Hp->Prop)->Prop
def PG(X:Cx)(target:Expr)(t:TG):Prop :=
 ∀a s Y H v u Q,Inv X a Y H s->RelV v u->t v Y H Q ->
  wX X (assign target X.env u) (λ_ d=>∃c b,Inv X a c b d/\Q c b) X.xe s
def PGs(X:Cx)(ts:List Expr)(t:TGs):Prop :=
 ∀a s Y H c b Q,Inv X a Y H s->Vals c b->t c Y H Q ->
  wX X (assignInOrder ((assignEach ts X.env).map (·.2)) b) (λ_ f=>∃e d,Inv X a e d f/\Q e d) X.xe s
abbrev TSet:=V->V->V->Hp->(Hp->Prop)->Prop
def PSet(X:Cx)(t:TSet):Prop :=
 ∀a s Y H o i v b c u Q,Inv X a Y H s->RelV o b->RelV i c->RelV v u->t o i v H Q ->
  wX X (setItem b c u) (λ_ e=>∃d,Inv X a Y d e/\Q d) X.xe s
section
variable{X:Cx}{pos:Pos}
def Bs(i:Nat):TG:=λv Y H Q=>Q (Y.set i (some v)) H
def Tg(hN:X.N.Nodup)(hi:X.N[i]?=some x)(hx:Loc X.env.scope x)(hf:X.fn x=true\/X.env.scope.names.lookup x=some .local:=by first | exact .inl rfl | exact .inr rfl | assumption):PG X (.Name x pos) (Bs i):=by
 intro a s Y H v u Q I r h;exact wpAny_assign_Name (T7 I hN hi hx r (λc b=>⟨_,H,b,h⟩) hf)
def gNil:TGs:=λa Y H Q=>a=[]/\Q Y H
def R7(t:TG)(u:TGs):TGs:=λa Y H Q=>∃v r,a=v::r/\t v Y H λc b=>u r c b Q
def iU:PGs X [] gNil:=by
 intro a s Y H c b Q I r h;obtain ⟨e,h⟩:=h;subst e;cases r;exact assignInOrder_nil ⟨Y,H,I,h⟩
def yM(h1:PG X e t)(h2:PGs X es u)(hs:(assignEach (e::es) X.env).map (·.2)=assign e X.env::(assignEach es X.env).map (·.2):=by rfl):PGs X (e::es) (R7 t u):=by
 intro a s Y H k j Q I r h;obtain ⟨v,l,i,h⟩:=h;subst i;cases r with
 | cons r rr=>
  rw [hs];refine assignInOrder_cons (thn (h1 a s Y H _ _ _ I r h) λ_ f zq=>?_);obtain ⟨b,c,g,d⟩:=zq;exact h2 a f b c _ _ Q g rr d
def gTup(K:W.Frag)(n:Nat)(t:TGs):TG:=λv Y H Q=>∃a b,v=.ref a/\SqT K H a b/\b.length=n/\t b Y H Q
def qi(hc:X.calm=true)(h:PGs X es t)(hn:(assignEach es X.env).length=n:=by rfl)(hst:(assignEach es X.env).findIdx? (·.1)=none:=by rfl):PG X (.Tuple es k pos) (gTup X.K n t):=by
 intro c s Y H v u Q I r d;obtain ⟨a,l,w,f,j,d⟩:=d;subst w;cases r;obtain ⟨i,p,g,x⟩:=I.tuple f;refine assign_Tuple_tuple (I.ok.hd hc) g (by simp [hn,<-j,p.length]) hst λy q=>?_;have m:=I.kept (t':=s.toks) λb o e=>q b o (Bm (BX e)) e;exact h c _ Y H l _ Q m (by trivial) d
def gSub(to ti:TE)(t:TSet):TG:=λv Y H Q=>to Y H λo b=>ti Y b λi a=>t o i v a λc=>Q Y c
def pY(ho:PE X o to)(hi:PE X i ti)(hs:PSet X t) (ha:∀v,assign (.Subscript o i pos) X.env v=(do
   let ov <-holding [v] (eval o X.env)
   let iv <-holding [v,ov] (eval i X.env)
   standAt pos
   holding [v,ov,iv] (setItem ov iv v)
   release [v,ov,iv] []):=by intro _;rfl):PG X (.Subscript o i pos) (gSub to ti t):=by
 intro a s Y H v u Q I r h;rw [ha];refine Ac (Dy (thn (ho a s Y H _ I h) λov k zq=>?_));obtain ⟨x,c,m,f,q⟩:=zq;refine Ac (Dy (thn (hi a k Y c _ m q) λiv j zq=>?_));obtain ⟨y,b,p,l,n⟩:=zq;refine Ac (wpAny_standAt (Ac (Dy (thn (hs a j Y b x y v ov iv u _ p f l r n) λ_ w zq=>?_))));obtain ⟨g,d,e⟩:=zq;exact wpAny_release ⟨Y,g,d,e⟩
def tAsg(te:TE)(g:TG):TS:=λD Y H=>te Y H λx a=>g x Y a D.nx
def VR(he:PE X e te)(hg:PG X tg g)(hs:swapsWithSole [tg] e pos.line X.env=pure false:=by rfl)(hw:swappedStores [tg] e X.env=pure none:=by rfl)(h1:(assignEach [tg] X.env).map (·.2)=[assign tg X.env]:=by rfl):PS X (.Assign [tg] e pos) (tAsg te g):=by
 intro a s Y H D I h;refine wpAny_Assign_stores (thn (he a s Y H _ I h) λv f zq=>?_) hs hw;obtain ⟨x,b,c,d,i⟩:=zq;rw [h1];exact thn (hg a f Y b x v _ c d i) λ_ j q=>q
def Hq(hN:X.N.Nodup)(hi:X.N[i]?=some x)(hx:Loc X.env.scope x)(he:PE X e te)(hs:swapsWith e (some (.Name x pos')) pos.line X.env=pure false:=by rfl)(hf:X.fn x=true\/X.env.scope.names.lookup x=some .local:=by first | exact .inl rfl | exact .inr rfl | assumption) :
  PS X (.Assign [.Name x pos'] e pos) (tAsg te (Bs i)):=by
 intro a s Y H D I h;refine wpAny_Assign_Name (thn (he a s Y H _ I h) λv j zq=>?_) hs;obtain ⟨y,b,c,f,g⟩:=zq;exact T7 c hN hi hx f (λk d=>⟨_,b,d,g⟩) hf
end
section
variable{X:Cx}{pos:Pos}
def Ri(c:TT)(tb:TS):TS:=λD Y H=>∃W:Nat->St->Hp->Prop,(∃m,W m Y H)/\∀m Y H,W m Y H ->
 c Y H λb a=>if b=true then ∃N:St->Hp->Prop,(∀e d,N e d->∃f,f<m/\W f e d)/\tb { D with nx:=N,ct:=N,bk:=D.nx } Y a else D.nx Y a
def ph(hp:PassesOwn (model X.prog X.w) X.A X.env X.xe)(hc:PT X c tc)(hb:PSs X body tb):PS X (.While c body [] pos) (Ri tc tb):=by
 intro a s Y H D I h;obtain ⟨W,⟨x,E⟩,d⟩:=h;refine wpAny_While (codeAny_whileLoop (λn u=>∃k o,Inv X a k o u/\W n k o) ?_ x ⟨Y,H,I,E⟩);rintro n r ⟨e,m,t,B⟩;refine Jd hp (thn (hc a r e m _ t (d n e m B)) λb q zq=>?_);obtain ⟨l,j,g⟩:=zq;cases b with
 | true=>
  obtain ⟨N,G,g⟩:=g;rw [iP rfl];refine Jd hp (thn (hb a q e l _ j g) λf F i=>?_);cases f with
  | next=>
   obtain ⟨y,p,z,C⟩:=i
   grind
  | cont=>
   obtain ⟨y,p,z,C⟩:=i
   grind
  | brk=>exact i
  | ret v=>exact i
 | false=>
  rw [iN Ek];exact Ou ⟨e,l,j,g⟩
end
structure It where
 go:Nat->Hp->Prop
 yld:Nat->Hp->V->Hp->Prop
 stop:Nat->Hp->Prop
def FpOk(X:Cx)(pins:List (Addr×Obj))(H:Hp)(b:Addr):Prop :=
 H b=none/\b≠X.env.locals/\b∉X.fs/\(b∈X.ex\/X.s₀.heap.objs.size<=b)/\(∀x c,X.env.cells.lookup x=some c->c≠b)/\∀p∈X.pn++pins,p.1≠b
def Inv.fpOk(I:Inv X pins Y H s)(hb:s.heap.objs.size<=b)(hn:H' b=none):FpOk X pins H' b:=by
 refine ⟨hn,Ib (Bv I.lt hb),I.nofs hb,.inr (An I.sz hb),λx c e z=>?_,λp a z=>?_⟩
 .obtain ⟨v,q⟩:=I.cell x c e;exact aB (Bv q.lt (by lia)) (J2 _)
 .exact aB (Bv (BX (I.pin p a).1) (by lia)) (J2 _)
structure Turn(P:Program)(w:World)(K:W.Frag)(tg:Expr)(J:It)(fp:List Addr)(it:Addr)(tn:Nat->Heap->Prop):Prop where
 mem:it∈fp
 obj:∀i h,tn i h->∀b∈fp,∃o,h.get? b=some o/\∀v,o.data≠.cell v
 keep:∀i h h',tn i h->(∀b∈fp,∀o,h.get? b=some o->h'.get? b=some o)->tn i h'
 item:∀(X:Cx),X.prog=P->X.w=w->X.K=K->X.calm=true->∀(i:Nat) (pins:List (Addr×Obj)) (s:Shared) (Y:St) (H:Hp) (E:Value->Shared->Prop),Inv X pins Y H s->(∀b∈fp,FpOk X pins H b)->tn i s.heap->J.go i H ->
  wpAny (model P w) X.A (pyNext (.ref it)) (λr s1=>∃u,r=some u /\
   wpAny (model P w) X.A (letOwnedTupleGo tg (.ref it) u) (λ_ s2=>∃x H',Inv X pins Y H' s2/\RelV x u/\J.yld i H x H'/\tn (i+1) s2.heap/\∀b∈fp,H' b=none) E s1) E s
 done:∀(X:Cx),X.prog=P->X.w=w->X.K=K->X.calm=true->∀(i:Nat) (pins:List (Addr×Obj)) (s:Shared) (Y:St) (H:Hp) (E:Value->Shared->Prop),Inv X pins Y H s->(∀b∈fp,FpOk X pins H b)->tn i s.heap->J.stop i H ->
  wpAny (model P w) X.A (pyNext (.ref it)) (λr s1=>r=none/\Inv X pins Y H s1) E s
 self:∀(A:Around) (i:Nat) (s:Shared) (Q:Value->Shared->Prop) (E:Value->Shared->Prop),tn i s.heap->Q (.ref it) s->wpAny (model P w) A (pyIter (.ref it)) Q E s
abbrev TI:=St->Hp->(It->Hp->Prop)->Prop
def PIE(X:Cx)(pins:List (Addr×Obj))(Y:St)(tg:Expr)(R:It->Hp->Prop)(itv:Value)(s2:Shared):Prop :=
 ∃d e c J a,itv=.ref d/\Inv X pins Y a s2/\Turn X.prog X.w X.K tg J e d c/\c 0 s2.heap/\(∀b∈e,FpOk X pins a b)/\R J a
def PI(X:Cx)(tg iter:Expr)(wi:TI):Prop :=
 ∀a s Y H R,Inv X a Y H s->wi Y H R ->
  wX X (eval iter X.env) (λv b=>wX X (pyIter v) (PIE X a Y tg R) X.xe b) X.xe s
def QK(ho:s.heap.get? it=some o)(hc:o.cls=.type n)(hd:o.data=.fields vs)(hn:["enumerate","zip","dict_itemiterator","dict_reverseitemiterator","odict_iterator","itertools.zip_longest","itertools.pairwise"].contains n=false)(hQ:Q () s):wpAny M A (letOwnedTupleGo tg (.ref it) u) Q E s:=by
 unfold letOwnedTupleGo;cases tg<;>first
  | exact Aj hQ
  | (cases u<;>first
    | exact Aj hQ
    | (refine Ac (wpAny_load ho ?_)
       rw [hc,hd];show wpAny M A (if (["enumerate","zip","dict_itemiterator","dict_reverseitemiterator","odict_iterator","itertools.zip_longest","itertools.pairwise"].contains n&&vs[0]?==some (rawInt _))=true then _ else _) Q E s
       rw [iN (by intro h;lia)]
       exact Aj hQ))
def Itl(K:W.Frag)(a:Addr):It :=
 ⟨λi H=>∃b x,SqL K H a b/\b[i]?=some x,λi H x c=>c=H/\∀b,SqL K H a b->b[i]?=some x,λi H=>∃b,SqL K H a b/\b.length<=i⟩
def Itt(K:W.Frag)(a:Addr):It :=
 ⟨λi H=>∃b x,SqT K H a b/\b[i]?=some x,λi H x c=>c=H/\∀b,SqT K H a b->b[i]?=some x,λi H=>∃b,SqT K H a b/\b.length<=i⟩
def Itr(lo:Int)(n:Nat):It:=⟨λi _=>i<n,λi H x a=>a=H/\x=.int (lo+i),λi _=>n<=i⟩
def o7{P:Program}{w:World}{K:W.Frag}{tg:Expr}(a it):Turn P w K tg (Itl K a) [it] it (λi h=>h.IsListIter it a i) where
 mem:=by simp
 obj:=λi h f b g=>by
  have e:b=it:=by simp_all
  subst e;obtain ⟨o,e,c,d⟩:=f;simp_all
 keep:=λi h J f k=>f.at λo e=>k it (by simp) o e
 item:=by
  intro X F y z L i j s Y H E I m f B;subst F y z;obtain ⟨O,x,n,C⟩:=B;obtain ⟨t,G,p,S⟩:=I.list n;obtain ⟨u,V,M⟩:=G.get C;obtain ⟨r,A,T,v,q,D⟩:=m it (by simp);refine wpAny_pyNext_list_item f p.isList (x:=u) (by simp_all) λJ l N=>?_;have Q:=I.turned (t':=s.toks) (λb o g e=>(N.2 b g).trans e) r A v q D;obtain ⟨o,e,c,d⟩:=id l;exact ⟨u,rfl,QK e c d (by decide) ⟨x,H,Q,M,⟨rfl,λys U=>by rw [I.list_inj U n];exact C⟩,l,λb g=>(m b g).1⟩⟩
 done:=by
  intro X F y z L i j s Y H E I m f B;subst F y z;obtain ⟨O,n,C⟩:=B;obtain ⟨t,G,p,S⟩:=I.list n;obtain ⟨r,A,T,v,q,D⟩:=m it (by simp);have Z:=G.length;exact wpAny_pyNext_list_end (I.ok.hd L) f p.isList (by grind) λJ R=>⟨rfl,I.turned (t':=s.toks) (λb o g e=>R b o g e) r A v q D⟩
 self:=λ_ _ _ _ _ f h=>wpAny_pyIter_listiter f h
def yh{P:Program}{w:World}{K:W.Frag}{tg:Expr}(a it):Turn P w K tg (Itt K a) [it] it (λi h=>h.IsTupleIter it a i) where
 mem:=by simp
 obj:=λi h f b j=>by
  have e:b=it:=by simp_all
  subst e;obtain ⟨o,e,c,d⟩:=f;simp_all
 keep:=λi h J f k=>f.at λo e=>k it (by simp) o e
 item:=by
  intro X F y z L i l s Y H E I n f B;subst F y z;obtain ⟨O,x,q,C⟩:=B;obtain ⟨g,G,p,S⟩:=I.tuple q;obtain ⟨u,V,M⟩:=G.get C;obtain ⟨t,A,T,v,r,D⟩:=n it (by simp);refine wpAny_pyNext_tuple_item f (show s.heap.IsTuple a g.toArray from p) (x:=u) (by simp_all) λJ m N=>?_;have Q:=I.turned (t':=s.toks) (λb o j e=>(N.2 b j).trans e) t A v r D;obtain ⟨o,e,c,d⟩:=id m;exact ⟨u,rfl,QK e c d (by decide) ⟨x,H,Q,M,⟨rfl,λys U=>by rw [I.tuple_inj U q];exact C⟩,m,λb j=>(n b j).1⟩⟩
 done:=by
  intro X F y z L i l s Y H E I n f B;subst F y z;obtain ⟨O,q,C⟩:=B;obtain ⟨g,G,p,S⟩:=I.tuple q;obtain ⟨t,A,T,v,r,D⟩:=n it (by simp);have Z:=G.length;exact wpAny_pyNext_tuple_end (I.ok.hd L) f (show s.heap.IsTuple a g.toArray from p) (by grind) λJ R=>⟨rfl,I.turned (t':=s.toks) (λb o j e=>R b o j e) t A v r D⟩
 self:=λ_ _ _ _ _ f h=>wpAny_pyIter_tupleiter f h
def nP{P:Program}{w:World}{K:W.Frag}{tg:Expr}(it)(lo)(n):Turn P w K tg (Itr lo n) [it] it (λi h=>IsRangeIter h it (lo+(i:Nat)*1) ((n:Int) - (i:Nat)) 1) where
 mem:=by simp
 obj:=λi h c b d=>by
  simp_all
 keep:=λi h x c k=>k it (by simp) _ c
 item:=by
  intro X z p q A i a s Y H E I g c u;subst z p q;obtain ⟨l,r,F,m,j,y⟩:=g it (by simp);have W:=Walks.range (prog:=X.prog) (w:=X.w) (I.ok.hd A) it lo 1 n;refine W.item i s _ _ u c λv x J G f D=>?_;obtain ⟨t,rfl⟩:=G;have B:Inv X a Y H { s with heap:=x,toks:=J }:=I.turned (λb o d e=>D b o (by simp_all) e) l r m j y
  refine ⟨_,rfl,QK f rfl rfl (by decide) ⟨.int (lo+i),H,B,⟨t,?_⟩,⟨rfl,rfl⟩,f,λb d=>(g b d).1⟩⟩
  lia
 done:=by
  intro X z p q A i a s Y H E I g c u;subst z p q;obtain ⟨l,r,F,m,j,y⟩:=g it (by simp);exact wpAny_pyNext_range_end (I.ok.hd A) c (by have:n<=i:=u;omega) λx C=>⟨rfl,I.turned (λb o d e=>C b o d e) l r m j y⟩
 self:=λ_ _ _ _ _ c h=>wpAny_pyIter_rangeiter c h
section
variable{X:Cx}{tg:Expr}
def v7{pins:List (Addr×Obj)}{Y:St}{H:Hp}{s:Shared}{R:It->Hp->Prop}{E:Value->Shared->Prop}{lo hi:Int}{t u v:Tok}{tk:Nat}(I:Inv X pins Y H s)(h1:-(2^62)<=lo)(h2:lo<2^62)(h3:-(2^62)<=hi)(h4:hi<2^62)(q:R (Itr lo (hi - lo).toNat) H):wX X (pyIter (.ref s.heap.objs.size)) (PIE X pins Y tg R) E { s with heap:=s.heap.push { cls:=.type "range",data:=.fields #[.int lo t,.int hi u,.int 1 v] },toks:=tk }:=by
 refine wpAny_pyIter_range (IsRange.new ..) (small_one h1 h2 h3 h4) ?_;have a:Inv X pins Y H { s with heap:=s.heap.push { cls:=.type "range",data:=.fields #[.int lo t,.int hi u,.int 1 v] },toks:=tk }:=I.kept λb o e=>BJ _ e
 refine ⟨(s.heap.push { cls:=.type "range",data:=.fields #[.int lo t,.int hi u,.int 1 v] }).objs.size,[(s.heap.push { cls:=.type "range",data:=.fields #[.int lo t,.int hi u,.int 1 v] }).objs.size],_,_,H,rfl,
  a.kept λb o e=>BJ _ e,nP _ lo (hi - lo).toNat,?_,λb f=>?_,q⟩
 .have d:lo+((0:Nat):Int)*1=lo:=by simp
  have c:(((hi - lo).toNat:Nat):Int) - ((0:Nat):Int)=Builtin.Range.rangeSize lo hi 1:=by rw [rangeSize_one];lia
  rw [d,c];exact By _ rfl
 .have e:b=(s.heap.push { cls:=.type "range",data:=.fields #[.int lo t,.int hi u,.int 1 v] }).objs.size:=by simp_all
  subst e;exact a.fpOk (Ar _) (a.hok.fresh (Ar _))
def Vx(ta:TA):TI:=λY H R=>ta Y H λa b=>∃j,a=[.int j]/\-(2^62)<=j/\j<2^62/\R (Itr 0 j.toNat) b
def zu{a:Expr}{ta:TA}{p pos:Pos}(hg:Gl X "range")(hm:X.mg "range"=none)(ha:PA X [a] ta)(hs:starEach [a] X.env=[(false,eval a X.env)]:=by rfl):PI X tg (.Call (.Name "range" p) [a] [] pos) (Vx ta):=by
 intro b s Y H R I h;refine Call_ (Jx I hg hm boot_range (Om (thn (ha pos b s Y H _ I h) λi m zq=>?_) hs rfl));obtain ⟨l,k,f,d,c⟩:=zq;obtain ⟨j,e,c,g,q⟩:=c;subst e;cases d with
 | cons r rr=>
  cases rr;obtain ⟨t,rfl⟩:=r;exact call_range_1 (v7 f (by omega) (by omega) c g (by lia))
def tFor(wi:TI)(g:TG)(tb:TS):TS:=λD Y H=>wi Y H λJ e=>∃W:Nat->Nat->St->Hp->Prop,(∃m,W 0 m Y e)/\∀i m Y H,W i m Y H ->
 (J.stop i H/\D.nx Y H)\/(J.go i H/\∃N:St->Hp->Prop,(∀c a,N c a->∃b,b<m/\W (i+1) b c a)/\∀x a,J.yld i H x a->g x Y a λf d=>tb { D with nx:=N,ct:=N,bk:=D.nx } f d)
def Pn(fp:List Addr)(h:Heap):List (Addr×Obj):=fp.filterMap λb=>(h.get? b).map λo=>(b,o)
def Ky(hb:b∈fp)(e:h.get? b=some o):(b,o)∈Pn fp h:=List.mem_filterMap.mpr ⟨b,hb,by grind⟩
def pR(hp:p∈Pn fp h):p.1∈fp/\h.get? p.1=some p.2:=by
 obtain ⟨b,a,e⟩:=List.mem_filterMap.mp hp;cases q:h.get? b with
 | none=>simp_all
 | some o=>
  grind
def Inv.pinned(I:Inv X pins Y H s)(hf:∀b∈fp,FpOk X pins H b)(ho:∀b∈fp,∃o,s.heap.get? b=some o/\∀v,o.data≠.cell v):Inv X (pins++Pn fp s.heap) Y H s :=
 I.pins_of λp c=>(CK.mp c).elim (λz=>I.pin p (CZ _ z)) λz=>by
  obtain ⟨a,e⟩:=pR z;obtain ⟨f,d,g,_⟩:=hf p.1 a
  grind
def Inv.unpinned(I:Inv X (pins++pl) Y H s):Inv X pins Y H s:=I.pins_of λp a=>I.pin p (CZ _ (JK _ a))
def Pg(hp:PassesOwn (model X.prog X.w) X.A X.env X.xe)(hc:X.calm=true)(hi:PI X tg iter wi)(hg:PG X tg g)(hb:PSs X body tb)(hs:∀x,foldedSetIterable iter X.env x=pure x:=by intro _;rfl):PS X (.For tg iter body [] pos) (tFor wi g tb):=by
 intro a s Y H D I h;refine wpAny_For (thn (hi a s Y H _ I h) λv s1 h1=>thn h1 λitv s2 h2=>?_) hs;obtain ⟨it,z,tn,J,H2,e,I2,T,O,f2,W,⟨m0,w0⟩,B⟩:=h2;subst e;have k:∀{l:Hp},(∀b∈z,l b=none)->∀b∈z,FpOk X a l b:=λhn b hb=>⟨hn b hb,(f2 b hb).2⟩;refine codeAny_forLoop_any (λn s'=>∃i E l,Inv X a E l s'/\tn i s'.heap/\(∀b∈z,l b=none)/\W i n E l) ?_ m0 ⟨0,Y,H2,I2,O,λb hb=>(f2 b hb).1,w0⟩;rintro n S ⟨i,C,G,U,y,F,w3⟩;rcases B i n C G w3 with ⟨stop,qn⟩ | ⟨go,N,hN,step⟩
 .refine Jd hp (thn (T.done X rfl rfl rfl hc i a S C G X.xe U (k F) y stop) λr s4 ⟨R,I4⟩=>?_);subst R;exact Ou ⟨C,G,I4,qn⟩
 .refine Jd hp (thn (T.item X rfl rfl rfl hc i a S C G X.xe U (k F) y go) λr s4 zq=>?_);obtain ⟨u,R,h4⟩:=zq;subst R;refine Jd hp (thn h4 λ_ V zq=>?_);obtain ⟨x,Z,I5,r5,y5,t,K⟩:=zq;have L:=I5.pinned (k K) (T.obj _ _ t);refine Jd hp (thn (hg _ V C Z x u _ L r5 (step x Z y5)) λ_ s6 zq=>?_);obtain ⟨Y6,H6,I6,q6⟩:=zq;refine Jd hp (thn (hb _ s6 Y6 H6 _ I6 q6) λf Q q=>?_);have M:∀{j:St} {c:Hp},Inv X (a++Pn z V.heap) j c Q->N j c->∃m,m<n/\∃i E l,Inv X a E l Q/\tn i Q.heap/\(∀b∈z,l b=none)/\W i m E l:=λ{j c} p P=>by
   obtain ⟨m',hm,w7⟩:=hN j c P;refine ⟨m',hm,i+1,j,c,p.unpinned,T.keep _ _ _ t λb hb o e=>(p.pin (b,o) (CZ _ (CZ _ (Ky hb e)))).1,λb hb=>?_,w7⟩;obtain ⟨o,e,d⟩:=T.obj _ _ t b hb;exact (p.pin (b,o) (CZ _ (CZ _ (Ky hb e)))).2.1
  cases f with
  | next=>obtain ⟨j,c,p,P⟩:=q;grind
  | cont=>obtain ⟨j,c,p,P⟩:=q;grind
  | brk=>obtain ⟨j,c,p,q⟩:=q;exact ⟨j,c,p.unpinned,q⟩
  | ret v=>obtain ⟨x7,j,c,p,r7,q⟩:=q;exact ⟨x7,j,c,p.unpinned,r7,q⟩
end
abbrev R2:=V->V->Hp->VK->Prop
def OpR(X:Cx)(f:Value->Value->Sem Value)(r:R2):Prop :=
 ∀a s Y H x y v u Q,Inv X a Y H s->RelV x v->RelV y u->r x y H Q ->
  wX X (f v u) (EP X a Y Q) X.xe s
def UnR(X:Cx)(f:Value->Sem Value)(r:V->Hp->VK->Prop):Prop :=
 ∀a s Y H x v Q,Inv X a Y H s->RelV x v->r x H Q ->
  wX X (f v) (EP X a Y Q) X.xe s
def Dg(X:Cx)(f:Value)(r:List V->Hp->VK->Prop):Prop :=
 ∀a s Y H c b Q,Inv X a Y H s->Vals c b->r c H Q ->
  wX X (call f b) (EP X a Y Q) X.xe s
def tOp(r:R2)(ta tb:TE):TE:=λY H Q=>ta Y H λx b=>tb Y b λy a=>r x y a Q
def tUn(r:V->Hp->VK->Prop)(ta:TE):TE:=λY H Q=>ta Y H λx a=>r x a Q
def rI(C:Int->Int->Prop)(g:Int->Int->V):R2:=λx y H Q=>∃i j,x=.int i/\y=.int j/\C i j/\Q (g i j) H
def rI0(g:Int->Int->V):R2:=λx y H Q=>∃i j,x=.int i/\y=.int j/\Q (g i j) H
def rU(g:Int->V):V->Hp->VK->Prop:=λx H Q=>∃i,x=.int i/\Q (g i) H
section
variable{X:Cx}{a b c:Expr}{ta tb tc:TE}{pos:Pos}
def binT(ha:PE X a ta)(hb:PE X b tb){pins:List (Addr×Obj)}{s:Shared}{Y:St}{H:Hp}{R:V->V->Hp->Prop}(I:Inv X pins Y H s)(h:ta Y H λx H1=>tb Y H1 λy H2=>R x y H2){Q:Value->Shared->Prop}{f:Value->Value->Sem Value}(hf:∀v u s2 x y H2,Inv X pins Y H2 s2->RelV x v->RelV y u->R x y H2->wX X (f v u) Q X.xe s2) :
  wX X (eval a X.env) (λv s₁=>wX X (eval b X.env) (λu s₂=>wX X (f v u) Q X.xe s₂) X.xe s₁) X.xe s:=by
 refine thn (ha pins s Y H _ I h) λv d zq=>?_;obtain ⟨x,H1,c,j,e⟩:=zq;refine thn (hb pins d Y H1 _ c e) λu s2 zq=>?_;obtain ⟨y,H2,i,k,g⟩:=zq
 grind
def aH(ho:OpR X (binaryOp op) r)(ha:PE X a ta)(hb:PE X b tb):PE X (.BinOp a op b pos) (tOp r ta tb):=by
 intro c s Y H Q I h;exact wpAny_BinOp (binT ha hb I h λv u g x y d i e f q=>ho c g Y d x y v u Q i e f q)
def cL(ho:UnR X (unaryOp op) r)(ha:PE X a ta):PE X (.UnaryOp op a pos) (tUn r ta):=by
 intro b s Y H Q I h;exact UnaryOp_ (thn (ha b s Y H _ I h) λv f zq=>by obtain ⟨x,c,d,e,g⟩:=zq;exact ho b f Y c x v Q d e g)
def opI{f:Value->Value->Sem Value}{C:Int->Int->Prop}{g:Int->Int->Int}(rule:∀(i j:Int) (t u:Tok) (s:Shared) (Q:Value->Shared->Prop) (E:Value->Shared->Prop),C i j->Q (.int (g i j) s.toks) { s with toks:=s.toks+1 }->wX X (f (.int i t) (.int j u)) Q E s) :
  OpR X f (rI C λi j=>.int (g i j)):=by
 intro a s Y H x y v u Q I b c h;obtain ⟨i,j,rfl,rfl,d,q⟩:=h;obtain ⟨t,rfl⟩:=b;obtain ⟨e,rfl⟩:=c;exact rule i j t e s _ _ d ⟨.int (g i j),H,I.tok _,⟨_,rfl⟩,q⟩
def opI0{f:Value->Value->Sem Value}{g:Int->Int->Int}(rule:∀(i j:Int) (t u:Tok) (s:Shared) (Q:Value->Shared->Prop) (E:Value->Shared->Prop),Q (.int (g i j) s.toks) { s with toks:=s.toks+1 }->wX X (f (.int i t) (.int j u)) Q E s) :
  OpR X f (rI0 λi j=>.int (g i j)):=by
 intro a s Y H x y v u Q I b c h;obtain ⟨i,j,rfl,rfl,q⟩:=h;obtain ⟨t,rfl⟩:=b;obtain ⟨d,rfl⟩:=c;exact rule i j t d s _ _ ⟨.int (g i j),H,I.tok _,⟨_,rfl⟩,q⟩
def opB0{f:Value->Value->Sem Value}{g:Int->Int->Bool}(rule:∀(i j:Int) (t u:Tok) (s:Shared) (Q:Value->Shared->Prop) (E:Value->Shared->Prop),Q (.bool (g i j)) s->wX X (f (.int i t) (.int j u)) Q E s) :
  OpR X f (rI0 λi j=>.bl (g i j)):=by
 intro a s Y H x y v u Q I b c h;obtain ⟨i,j,rfl,rfl,q⟩:=h;obtain ⟨t,rfl⟩:=b;obtain ⟨d,rfl⟩:=c;exact rule i j t d s _ _ ⟨.bl (g i j),H,I,rfl,q⟩
def CPow(i j:Int):Prop:=0<=j/\j<=1000000/\i.natAbs<2^64
def uA:OpR X (binaryOp .Add) (rI0 λi j=>.int (i+j)):=opI0 λ_ _ _ _ _ _ _ q=>add_int q
def vU:OpR X (binaryOp .Sub) (rI0 λi j=>.int (i - j)):=opI0 λ_ _ _ _ _ _ _ q=>sub_int q
def xZ:OpR X (binaryOp .Mod) (rI (λ_ j=>j≠0) λi j=>.int (i.fmod j)):=opI λ_ _ _ _ _ _ _ a q=>mod_int' a q
def yO:OpR X (binaryOp .Pow) (rI CPow λi j=>.int (i^j.toNat)):=opI λ_ _ _ _ _ _ _ a q=>pow_int_small a.1 a.2.1 a.2.2 q
def yu:OpR X (binaryOp .LShift) (rI CPow λi j=>.int (i*2^j.toNat)):=opI λ_ _ _ _ _ _ _ a q=>lshift_int_small a.1 a.2.1 a.2.2 q
def ZtS:OpR X (binaryOp .RShift) (rI (λ_ j=>0<=j) λi j=>.int (i/2^j.toNat)):=opI λi j _ _ _ _ _ a q=>
 rshift_int a (by grind)
def unI{f:Value->Sem Value}{g:Int->Int}(rule:∀(i:Int) (t:Tok) (s:Shared) (Q:Value->Shared->Prop) (E:Value->Shared->Prop),Q (.int (g i) s.toks) { s with toks:=s.toks+1 }->wX X (f (.int i t)) Q E s) :
  UnR X f (rU λi=>.int (g i)):=by
 intro a s Y H x v Q I b h;obtain ⟨i,rfl,q⟩:=h;obtain ⟨t,rfl⟩:=b;exact rule i t s _ _ ⟨.int (g i),H,I.tok _,⟨_,rfl⟩,q⟩
def Yc:UnR X (unaryOp .USub) (rU λi=>.int (-i)):=unI λ_ _ _ _ _ q=>neg_int q
end
section
variable{X:Cx}{a b c:Expr}{ta tb tc:TE}{pos:Pos}
def RZ(I:Inv X pins Y H s)(q:Q (.bl k) H)(e:k=k'):EP X pins Y Q (.bool k') s:=by
 subst e;exact ⟨.bl k,H,I,rfl,q⟩
def pO:OpR X (compareOp .Lt) (rI0 λi j=>.bl (decide (i<j))):=opB0 λ_ _ _ _ _ _ _ q=>lt_int q
def Xa:OpR X (compareOp .LtE) (rI0 λi j=>.bl (decide (i<=j))):=opB0 λ_ _ _ _ _ _ _ q=>le_int q
def vC:OpR X (compareOp .Gt) (rI0 λi j=>.bl (decide (j<i))):=opB0 λ_ _ _ _ _ _ _ q=>gt_int q
def ZS:OpR X (compareOp .GtE) (rI0 λi j=>.bl (decide (j<=i))):=opB0 λ_ _ _ _ _ _ _ q=>ge_int q
def jf:OpR X (compareOp .In) (λx y H Q=>∃i j,x=.str i/\y=.str j/\Q (.bl (!(Builtin.Str.occurrences j i 0 j.length 1).isEmpty)) H):=by
 intro a s Y H x y v u Q I b c h;obtain ⟨i,j,rfl,rfl,q⟩:=h;obtain ⟨t,rfl⟩:=b;obtain ⟨d,rfl⟩:=c;exact in_str (RZ I q rfl)
def Zji:OpR X (compareOp .NotIn) (λx y H Q=>∃i j,x=.str i/\y=.str j/\Q (.bl (!(!(Builtin.Str.occurrences j i 0 j.length 1).isEmpty))) H):=by
 intro a s Y H x y v u Q I b c h;obtain ⟨i,j,rfl,rfl,q⟩:=h;obtain ⟨t,rfl⟩:=b;obtain ⟨d,rfl⟩:=c;exact notIn_str (RZ I q rfl)
def Em(b)(h:op≠.In:=by decide)(h2:op≠.NotIn:=by decide):behindInMarks op b=false:=by
 have c:(op==CmpOp.In)=false:=by lia
 have a:(op==CmpOp.NotIn)=false:=by lia
 cases b<;>simp [behindInMarks,c,a]
def We(ho:OpR X (compareOp op) r)(ha:PE X a ta)(hb:PE X b tb)(hm:behindInMarks op b=false):PE X (.Compare a [op] [b] pos) (tOp r ta tb):=by
 intro c s Y H Q I h;exact wpAny_Compare1 (binT ha hb I h λv u g x y d i e f q=>ho c g Y d x y v u Q i e f q) hm
def Dz(t:TE):TT:=λY H Q=>t Y H λx a=>∃k,x=.bl k/\Q k a
def RN(ho:OpR X (compareOp op) r)(ha:PE X a ta)(hb:PE X b tb)(hm:behindInMarks op b=false):PT X (.Compare a [op] [b] pos) (Dz (tOp r ta tb)):=by
 intro d s Y H Q I h
 refine wpAny_isTrue_Compare1 (thn (ha d s Y H _ I h) λv p zq=>?_) hm;obtain ⟨x,g,t,l,B⟩:=zq;refine thn (hb d p Y g _ t B) λu n zq=>?_;obtain ⟨y,f,A,q,w⟩:=zq;refine thn (ho d n Y f x y v u _ A l q w) λc C zq=>?_;obtain ⟨z,m,i,o,k,e,j⟩:=zq
 subst e;cases o;exact wpAny_truthy_bool ⟨m,i,j⟩
def Lq:(sizeLine:Nat)<2^63:=by trivial
def wy:OpR X (binaryOp .Add) (λx y H Q=>∃i j,x=.str i/\y=.str j/\i.length+j.length<=sizeLine/\Q (.str (i++j)) H):=by
 intro a s Y H x y v u Q I c d h;obtain ⟨i,j,rfl,rfl,b,q⟩:=h;obtain ⟨t,rfl⟩:=c;obtain ⟨e,rfl⟩:=d;exact add_str (λe f=>⟨.str (i++j),H,I.tok _,⟨_,rfl⟩,q⟩) b
def vals1(r:Vals [x] us):∃u,us=[u]/\RelV x u:=by
 cases r with
 | cons r1 r2=>cases r2;lia
def vals2(r:Vals [x,y] us):∃u w',us=[u,w']/\RelV x u/\RelV y w':=by
 cases r with
 | cons r1 r2=>
  cases r2 with
  | cons r3 r4=>cases r4;lia
def j5:Dg X (.builtin "abs") (λxs H Q=>∃i,xs=[.int i]/\Q (.int (if i<0 then -i else i)) H):=by
 intro a s Y H xs b Q I r h;obtain ⟨i,rfl,q⟩:=h;obtain ⟨u,rfl,t,rfl⟩:=vals1 r;exact call_abs_int λu c=>⟨.int (if i<0 then -i else i),H,I.tok _,⟨_,rfl⟩,q⟩
def ZmV(hc:X.calm=true):Dg X (.builtin "max") (λxs H Q=>∃i j,xs=[.int i,.int j]/\Q (.int (if j>i then j else i)) H):=by
 intro a s Y H xs b Q I r h;obtain ⟨i,j,rfl,q⟩:=h;obtain ⟨u,c,rfl,⟨t,rfl⟩,⟨f,rfl⟩⟩:=vals2 r;refine max_two_ints (I.ok.hd hc) λe d k=>⟨_,H,I.kept k,?_,q⟩;by_cases hj:j>i
 .rw [iP hj,iP hj];exact ⟨_,rfl⟩
 .rw [iN hj,iN hj];exact ⟨_,rfl⟩
def gK:Dg X (.type "int") (λxs H Q=>(∃i,xs=[.int i]/\Q (.int i) H)\/∃k,xs=[.bl k]/\Q (.int (if k then 1 else 0)) H):=by
 intro a s Y H xs c Q I r h;rcases h with ⟨i,rfl,q⟩ | ⟨k,rfl,q⟩
 .obtain ⟨u,rfl,t,rfl⟩:=vals1 r;exact call_int_int ⟨.int i,H,I,⟨_,rfl⟩,q⟩
 .obtain ⟨u,rfl,b⟩:=vals1 r;cases b;exact call_int_bool ⟨.int (if k then 1 else 0),H,I.tok _,⟨_,rfl⟩,q⟩
def JF:Dg X (.type "str") (λxs H Q=>∃i,xs=[.int i]/\i.natAbs.log2<1920/\Q (.str (toString i)) H):=by
 intro a s Y H xs c Q I r h;obtain ⟨i,rfl,b,q⟩:=h;obtain ⟨u,rfl,t,rfl⟩:=vals1 r;exact PySem.P.str_of_int b ⟨.str _,H,I.tok _,⟨_,rfl⟩,q⟩
def LenV(K:W.Frag)(x:V)(H:Hp)(n:Nat):Prop :=
 match x with
 | .str y=>y.length<=sizeLine/\n=y.length
 | .ref p=>(∃a,SqL K H p a/\n=a.length)\/∃a,SqT K H p a/\n=a.length
 | _=>False
def rQ:Dg X (.builtin "len") (λxs H Q=>∃x n,xs=[x]/\LenV X.K x H n/\Q (.int n) H):=by
 intro i s Y H xs l Q I r h;obtain ⟨x,n,rfl,e,q⟩:=h;obtain ⟨u,rfl,d⟩:=vals1 r;have m:=Lq;have o:=sizeLine_eq;cases x with
 | str y=>
  obtain ⟨t,rfl⟩:=d;obtain ⟨k,b⟩ : y.length<=sizeLine/\n=y.length:=e;subst b;exact len_str (by omega) ⟨.int _,H,I.tok _,⟨_,rfl⟩,q⟩
 | ref p=>
  cases d;have b:=e;rcases b with ⟨xs,hx,b⟩ | ⟨xs,hx,b⟩
  .subst b;obtain ⟨f,g,c,j⟩:=I.list hx;have a:=g.length;exact Calls.call_len_list c.isList (by grind) ⟨.int xs.length,H,I.tok _,⟨_,by simp only [GR];rw [a]⟩,q⟩
  .subst b;obtain ⟨f,g,c,j⟩:=I.tuple hx;have a:=g.length;exact len_tuple c (by grind) ⟨.int xs.length,H,I.tok _,⟨_,by simp only [GR];rw [a]⟩,q⟩
 | _=>exact (e).elim
end
structure ObjM(h:Heap)(x dx C:Addr)(mA:Str->Option Value):Prop where
 obj:h.get? x=some (W.instObj C dx)
 ns:h.Ns1 dx mA
 ne:dx≠x
def vN{h:Heap}(n:h.Ns1 dx mA):∃od,h.get? dx=some od/\∀name,W.lookIn name od=some (mA name):=by
 obtain ⟨o,g,k,d,f,j,_,c⟩:=n;refine ⟨o,d,λname=>?_⟩;have e:=c name;unfold nsFind findBy at e;rw [<-Array.find?_toList] at e;unfold W.lookIn;rw [f];dsimp only;split
 .simp_all
 .rename_i q;rw [q] at e;have a:g.toList.any (·.refKey)=false:=by
   rw [List.any_eq_false];intro y i;obtain ⟨z,t,b⟩:=j y (Array.mem_toList_iff.mp i);simp [DictEntry.refKey,b]
  simp_all
def ObjM.look(I:ObjM h x dx C mA):∃od,W.InstAt h x (W.instObj C dx) C (some od)/\∀name,W.lookIn name od=some (mA name) :=
 let ⟨od,ho,hl⟩:=vN I.ns
 ⟨od,⟨I.obj,rfl,rfl,ho⟩,hl⟩
section
variable{prog:Program}{w:World}{A:Around}{E:Value->Shared->Prop}{s:Shared}{K:W.Frag}{x dx C f:Addr}{mA:Str->Option Value}{name:Str}{v:Value}
def pM(X:K.In s.heap)(I:ObjM s.heap x dx C mA)(hg:W.plainGet K C name=true)(hh:W.hasDictIn K C=true)(ha:W.findIn K (.ref C) name=some none)(hv:mA name=some v)(hv':W.handedIn v=true)(h:Q v { s with toks:=s.toks+1 }) :
  wpAny (model prog w) A (getAttr (.ref x) name expr) Q E s:=by
 obtain ⟨b,J,a⟩:=I.look;exact W.get_value X J (W.plainGet_of hg).1 (W.findObj_own hh ha rfl (by grind)) hv' h
def yL(X:K.In s.heap)(I:ObjM s.heap x dx C mA)(hg:W.plainGet K C name=true)(hf:W.findIn K (.ref C) name=some (some (.ref f)))(ht:W.isFn K (.ref f)=true)(hv:mA name=none)(h:Q (.ref f,[.ref x]) s) :
  wpAny (model prog w) A (getMethod (.ref x) name pl) Q E s:=by
 obtain ⟨a,J,b⟩:=I.look;exact W.method_fn X J (W.plainGet_of hg).1 (W.plainGet_of hg).2 hf (beq_iff_eq.mp ht) (by show (W.lookIn name a).map (·.isSome)=some false;simp_all) h
def jE(X:K.In s.heap)(I:ObjM s.heap x dx C mA)(hs:W.findIn K (.ref C) "__setattr__"=some (some (.builtin "object.__setattr__")))(hp:W.plainOver K C=true)(ht:W.takerIn K C name=some none)(hh:W.hasDictIn K C=true)(hw:PySem.Within mA ns)(hsz:ns.length<=sizeLine)(h:∀h',ObjM h' x dx C (λy=>if y=name then some v else mA y)->Heap.SameBut dx s.heap h'->Q () { s with heap:=h',toks:=s.toks+2 }) :
  wpAny (model prog w) A (setAttr (.ref x) name v) Q E s:=by
 obtain ⟨o,J,m⟩:=I.look;refine W.set_plain X J hs (W.osa_open X J hp ht λb=>?_);obtain ⟨n,j,f⟩:=W.any_some hh;have l:=I.obj;refine Ac (Aj (Ac (Ac (wpAny_loadPart l (Ac (W.Looks.here (W.looks_clsIn X j) ?_))))));rw [f];refine Aj (Ac (Aj (Ac ?_)));refine wpAny_nsSet1 I.ns λh' c a=>?_;obtain ⟨p,k,i,g,d,e⟩:=c.count (PySem.Within.cons name v hw);refine Ac (wpAny_lookBehind g (by rw [d];exact pastItsLine_dict (An e (by simp_all))) ?_);exact Aj (h _ ⟨(a.2 _ (Ne.symm I.ne)).trans I.obj,c,I.ne⟩ a)
def ZoF(X:K.In s.heap)(hm:W.makesIn K C=true)(hi:W.findIn K (.ref C) "__init__"=some (some (.ref f)))(hf:W.typeIn K (.ref f)=some (.type "function")) (h:codeAny (model prog w) (A.under (.builtin "type.__call__" ⟨.ref C::vs,kw⟩)) (.call (.ref f) ⟨.ref (s.heap.objs.size+1)::vs,kw⟩) (W.InitBack (s.heap.objs.size+1) R)
   { s with heap:=(s.heap.push W.emptyDict).push (W.instObj C s.heap.objs.size) }) :
  codeAny (model prog w) A (.call (.ref C) ⟨vs,kw⟩) R s:=by
 obtain ⟨b,g,d,t,c⟩:=s;exact W.make_core (W.makes_of X hm) (W.looks_findIn X hi) (λa=>W.bind_fn X a hf) (.inl rfl) h
end
def putF(f:Str)(v:V):List (Str×V)->List (Str×V)
 | []=>[(f,v)]
 | (g,x)::r=>if g=f then (g,v)::r else (g,x)::putF f v r
def X5(f g)(v):∀fs,(putF f v fs).lookup g=if g=f then some v else fs.lookup g
 | []=>by
  show List.lookup g [(f,v)]=_
  grind
 | (k,x)::r=>by
  have ih:=X5 f g v r;rw [show putF f v ((k,x)::r)=(if k=f then (k,v)::r else (k,x)::putF f v r) from rfl]
  grind
def Vz(f)(v):∀fs,f∈(putF f v fs).map (·.1)/\∀g,g∈fs.map (·.1)->g∈(putF f v fs).map (·.1)
 | []=>⟨by simp [putF],λg h=>by simp at h⟩
 | (k,x)::r=>by
  obtain ⟨a,b⟩:=Vz f v r;rw [show putF f v ((k,x)::r)=(if k=f then (k,v)::r else (k,x)::putF f v r) from rfl]
  grind
def eX(f)(v):∀fs,(putF f v fs).length<=fs.length+1
 | []=>by simp [putF]
 | (k,x)::r=>by
  have ih:=eX f v r;rw [show putF f v ((k,x)::r)=(if k=f then (k,v)::r else (k,x)::putF f v r) from rfl]
  grind
def RelO.some_of(r:RelO (some v) o):∃u,o=some u/\RelV v u:=by
 cases o with
 | none=>trivial
 | some u=>exact ⟨u,rfl,r⟩
def RelO.none_of(r:RelO none o):o=none:=by
 cases o with
 | none=>rfl
 | some u=>trivial
def vZ(r:RelV v u):W.handedIn u=true:=by
 cases v with
 | non=>cases (r);rfl
 | bl b=>cases (r);rfl
 | int i=>obtain ⟨t,e⟩:=(r);cases e;rfl
 | str x=>obtain ⟨t,e⟩:=(r);cases e;rfl
 | ref a=>cases (r);rfl
 | ty n=>cases (r);rfl
section
variable{P:Program}{w:World}{H H':Hp}{h h':Heap}{a C dx:Addr}{fs fs':List (Str×V)}
def Ro(hok:HOk P w H h)(e:H a=some (.ins C dx fs)):∃mA,ObjM h a dx C mA/\(∀f,RelO (fs.lookup f) (mA f))/\PySem.Within mA (fs.map (·.1))/\fs.length<=1000/\H dx=some (.own a):=by
 obtain ⟨d,z,c,b,mA,n,r,q⟩:=(hok a _ e);exact ⟨mA,⟨b,n,c⟩,r,q,z,d⟩
end
structure Cls(K:W.Frag)(C:Addr):Prop where
 pg:W.plainGet K C Str.empty=true
 hd:W.hasDictIn K C=true
 po:W.plainOver K C=true
 sa:W.findIn K (.ref C) "__setattr__"=some (some (.builtin "object.__setattr__"))
def Cls.get{K:W.Frag}{C:Addr}(c:Cls K C)(f):W.plainGet K C f=true:=c.pg
def Gg(K:W.Frag)(C:Addr)(f:Str):Prop:=W.findIn K (.ref C) f=some none
def Gg.taker{K:W.Frag}{C:Addr}{f:Str}(n:Gg K C f):W.takerIn K C f=some none:=by
 unfold W.takerIn;rw [show W.findIn K (.ref C) f=some none from n];rfl
structure Meth(K:W.Frag)(C:Addr)(m:Str)(f:Addr):Prop where
 at_:W.findIn K (.ref C) m=some (some (.ref f))
 fn:W.isFn K (.ref f)=true
 kp:W.keepIn K (.ref f)=true
section
variable{X:Cx}{pins:List (Addr×Obj)}{Y:St}{H:Hp}{s:Shared}{a C dx:Addr}{fs:List (Str×V)}{f:Str}{v:V}{A:Around}{E:Value->Shared->Prop}
def wV(I:Inv X pins Y H s)(e:H a=some (.ins C dx fs))(c:Cls X.K C)(n:Gg X.K C f)(l:fs.lookup f=some v)(h:∀u s',Inv X pins Y H s'->RelV v u->Q u s'):wpAny (model X.prog X.w) A (getAttr (.ref a) f b) Q E s:=by
 obtain ⟨i,O,r,_,_,_⟩:=Ro I.hok e;obtain ⟨u,g,d⟩:=RelO.some_of (v:=v) (o:=i f) (by grind);exact pM I.kIn O (c.get f) c.hd n g (vZ d) (h u _ (I.tok _) d)
def TF(I:Inv X pins Y H s)(e:H a=some (.ins C dx fs))(c:Cls X.K C)(k:Meth X.K C m g)(l:fs.lookup m=none)(h:Q (.ref g,[.ref a]) s):wpAny (model X.prog X.w) A (getMethod (.ref a) m pl) Q E s:=by
 obtain ⟨d,O,r,_,_,_⟩:=Ro I.hok e;have b:d m=none:=RelO.none_of (by grind);exact yL I.kIn O (c.get m) k.at_ k.fn b h
def iy(I:Inv X pins Y H s)(e:H a=some (.ins C dx fs))(c:Cls X.K C)(n:Gg X.K C f)(hl:fs.length<1000)(ry:RelV y u)(h:∀s',Inv X pins Y (upd H a (.ins C dx (putF f y fs))) s'->Q () s'):wpAny (model X.prog X.w) A (setAttr (.ref a) f u) Q E s:=by
 obtain ⟨p,O,r,i,_,j⟩:=Ro I.hok e;have l:(fs.map (·.1)).length<=sizeLine:=by rw [Ax,sizeLine_eq];omega
 refine jE I.kIn O c.sa c.po n.taker c.hd i l λB d k=>h _ ?_;have m:∃o,B.get? dx=some o:=let ⟨o,_,_,e',_⟩:=d.ns;⟨o,e'⟩;refine I.write (x:=a) (e:=dx) (by rw [e];trivial) (.inr j) (λb q v z=>(k.2 b v).trans z) m ?_;refine ⟨by rw [Ai O.ne];exact j,?_,O.ne,d.obj,_,d.ns,λg=>?_,λg t=>?_⟩
 .have:=eX f y fs;omega
 .show RelO ((putF f y fs).lookup g) (if g=f then some u else p g)
  rw [X5];by_cases q:g=f
  .rw [iP q,iP q];exact ry
  simp_all
 .by_cases q:g=f
  .rw [q];exact (Vz f y fs).1
  .refine (Vz f y fs).2 g (i g λz=>t ?_)
   lia
def Inv.made(I:Inv X pins Y H s):Inv X pins Y (upd (upd H s.heap.objs.size (.own (s.heap.objs.size+1))) (s.heap.objs.size+1) (.ins C s.heap.objs.size []))
  { s with heap:=(s.heap.push W.emptyDict).push (W.instObj C s.heap.objs.size) }:=by
 have c:(s.heap.push W.emptyDict).get? s.heap.objs.size=some W.emptyDict:=By s.heap rfl;have f:((s.heap.push W.emptyDict).push (W.instObj C s.heap.objs.size)).get? (s.heap.objs.size+1)=some (W.instObj C s.heap.objs.size):=by
  have:=By (s.heap.push W.emptyDict) (o:=W.instObj C s.heap.objs.size) rfl;simp_all
 have g:(s.heap.push W.emptyDict).Ns s.heap.objs.size (λ_=>none):=⟨W.emptyDict,#[],_,c,rfl,(λe h=>aB h (by simp)),λ_=>rfl⟩;have d:=I.laid (o:=.own (s.heap.objs.size+1)) (t':=s.toks) (λb u q=>BJ _ q) (Ar _) ⟨_,c⟩;refine d.laid (λb u q=>BJ _ q) (Nat.le_of_eq (Eu _ _)) ?_;have a:s.heap.objs.size≠s.heap.objs.size+1:=Bm (Nat.lt_succ_self _);refine ⟨by rw [Ai a,Ay],Cq _,a,f,λ_=>none,(Heap.Ns1.of_empty g).at λo q=>BJ _ q,λ_=>True.intro,λy i=>aB rfl i⟩
def ZqC(hb:attributeBase e f env (eval e env)=eval e env)(h:wpAny (model prog w) A (eval e env) (λo s₁=>wpAny (model prog w) A (getAttr o f true) Q E s₁) E s):wpAny (model prog w) A (eval (.Attribute e f pos) env) Q E s :=
 Attribute_any_ h (by rw [arm_eval_Attribute,hb])
end
def tFld(K:W.Frag)(ta:TE)(f:Str):TE:=λY H Q=>ta Y H λx b=>∃a C d c v,x=.ref a/\b a=some (.ins C d c)/\Cls K C/\Gg K C f/\c.lookup f=some v/\Q v b
def sFld(K:W.Frag)(ta tv:TE)(f:Str):TS:=λD Y H=>tv Y H λy e=>ta Y e λx c=>∃a C d b,x=.ref a/\c a=some (.ins C d b)/\Cls K C/\Gg K C f/\b.length<1000 /\
 D.nx Y (upd c a (.ins C d (putF f y b)))
section
variable{X:Cx}{o e value:Expr}{f:Str}{pos pos' tpos:Pos}{ta tv:TE}
def Zm(he:PE X e ta)(hb:attributeBase e f X.env (eval e X.env)=eval e X.env):PE X (.Attribute e f pos) (tFld X.K ta f):=by
 intro b s Y H Q I h;refine ZqC hb (thn (he b s Y H _ I h) λu s1 zq=>?_);obtain ⟨x,H1,I1,rx,a,C,dx,fs,v,ex,ea,c,n,l,q⟩:=zq;subst ex;obtain rfl:u=Value.ref a:=rx;exact wV I1 ea c n l λi j g d=>⟨v,H1,g,d,q⟩
def Ur(ha:PE X o ta)(hv:PE X value tv)(hs:swapsWith value (some (.Attribute o f pos')) pos.line X.env=pure false):PS X (.Assign [.Attribute o f pos'] value pos) (sFld X.K ta tv f):=by
 intro b s Y H D I h;refine plainObj_wpAny_Assign_Attribute (thn (hv b s Y H _ I h) λu i zq=>?_) hs;obtain ⟨y,d,g,j,q⟩:=zq;refine thn (ha b i Y d _ g q) λov s2 zq=>?_;obtain ⟨x,H2,I2,rx,a,C,dx,fs,ex,ea,c,n,l,q2⟩:=zq;subst ex;obtain rfl:ov=Value.ref a:=rx;exact iy I2 ea c n l j λk e=>⟨Y,_,e,q2⟩
end
section
variable{X:Cx}{pins:List (Addr×Obj)}{Y:St}{H:Hp}{s:Shared}{A:Around}{E:Value->Shared->Prop}{Q:Value->Shared->Prop}{c:Value}{b:Bool}
inductive TyOf(K:W.Frag)(H:Hp):V->Value->Prop where
 | non:TyOf K H .non (.type "NoneType")
 | bl (x:Bool):TyOf K H (.bl x) (.type "bool")
 | int (i:Int):TyOf K H (.int i) (.type "int")
 | str (x:Str):TyOf K H (.str x) (.type "str")
 | lst {a:Addr} {xs:List V} (e:H a=some (.lst xs)):TyOf K H (.ref a) (.type "list")
 | frz {a:Addr} {o:Obj} {xs:List V} (e:H a=some (.frz o (.lst xs))):TyOf K H (.ref a) (.type "list")
 | tup {a:Addr} {xs:List V} (e:H a=some (.tup xs)):TyOf K H (.ref a) (.type "tuple")
 | ins {a C dx:Addr} {fs:List (Str×V)} (e:H a=some (.ins C dx fs)) (cl:Cls K C) (ha:W.findIn K (.ref C) "__class__"=some (some (.builtin "object.__class__")))
   (hn:W.specialIn K (.builtin "object.__class__") "__get__"=some (some (.builtin "getset_descriptor.__get__"))) (htk:W.takesIn K (.builtin "object.__class__")=some true)
   (hm:W.mroIn K C (.type "object")=some true):TyOf K H (.ref a) (.ref C)
def PX(I:Inv X pins Y H s)(rx:RelV x u)(ty:TyOf X.K H x t)(e:W.kitOne X.K t c=some b)(h:∀tk,Q (.bool b) { s with toks:=tk }) :
  wpAny (model X.prog X.w) A (call (.builtin "isinstance") [u,c]) Q E s:=by
 cases ty with
 | non=>cases (show u=Value.none from rx);exact G5 W.kitx_none I.kIn True.intro e (λz=>nomatch z) h
 | bl y=>cases (rx);exact G5 W.kitx_bool I.kIn True.intro e (λz=>nomatch z) h
 | int i=>obtain ⟨t,q⟩:=(rx);cases q;exact G5 W.kitx_int I.kIn True.intro e (λz=>nomatch z) h
 | str y=>obtain ⟨t,q⟩:=(rx);cases q;exact G5 W.kitx_str I.kIn True.intro e (λz=>nomatch z) h
 | @lst a g ea=>
  cases (rx);obtain ⟨_,_,n,_,d⟩:=(I.hok a _ ea);exact G5 W.kitx_list I.kIn ⟨_,d,rfl⟩ e (λz=>nomatch z) h
 | @frz a ob g ea=>
  cases (rx);obtain ⟨_,_,_,n,_,d⟩:=(I.hok a _ ea);exact G5 W.kitx_list I.kIn ⟨_,d,rfl⟩ e (λz=>nomatch z) h
 | @tup a g ea=>
  cases (rx);obtain ⟨_,_,_,p⟩:=(I.hok a _ ea);obtain ⟨o,d,f,_⟩:=p;exact G5 W.kitx_tuple I.kIn ⟨o,d,f⟩ e (λz=>nomatch z) h
 | @ins a C dx fs ea cl ha hn htk hm=>
  cases (show u=Value.ref a from rx);obtain ⟨r,O,_⟩:=Ro I.hok ea;obtain ⟨l,J,_⟩:=O.look;exact G5 (W.kitx_own (cl.get _) cl.hd ha hn htk hm) I.kIn J e (λz=>nomatch z) h
end
structure Room(k:Nat)(A:Around):Prop where
 hd:A.handled=none
 dp:A.depth+3*k+5<recursionLimit
 un:A.units+16*k+200<cLine
def Room.mono(r:Room k A)(h:j<=k):Room j A:=⟨r.hd,by have:=r.dp;omega,by have:=r.un;omega⟩
def Room.deeper(r:Room (k+1) A)(env):Room k (A.deeper env) :=
 ⟨r.hd,by have:=r.dp;show A.depth+1+3*k+5<_;omega,by have:=r.un;show A.units+3+16*k+200<_;omega⟩
def Zlc{A:Around}:(A.under (.builtin "type.__call__" ⟨.ref C::us,kw⟩)).depth=A.depth+1:=by
 rfl
def jY{A:Around}:(A.under (.builtin "type.__call__" ⟨.ref C::us,kw⟩)).units=A.units+1:=by
 rfl
def Room.make(r:Room (k+1) A)(C)(us)(kw):Room k (A.under (.builtin "type.__call__" ⟨.ref C::us,kw⟩)) :=
 ⟨r.hd,by have:=r.dp;rw [Zlc];omega,by have:=r.un;rw [jY];omega⟩
def Room.depth(r:Room k A):A.depth<recursionLimit:=by have:=r.dp;omega
def Room.units(r:Room k A):A.units+64<cLine:=by have:=r.un;omega
def tNil:TA:=λ_ H Q=>Q [] H
def Bo(ta:TE)(tr:TA):TA:=λY H Q=>ta Y H λx b=>tr Y b λc a=>Q (x::c) a
section
variable{X:Cx}{e:Expr}{es:List Expr}{te:TE}{t:TA}{pos:Pos}
def Dv:PA X [] tNil:=λ_ _ _ _ H Q I h=>Calls.spliced_nil ⟨[],H,I,.nil,h⟩
def Ea(ha:PE X e te)(hr:PA X es t)(hs:starEach (e::es) X.env=(false,eval e X.env)::starEach es X.env:=by rfl):PA X (e::es) (Bo te t):=by
 intro b a s Y H Q I h;rw [hs];refine Calls.spliced_cons (thn (ha a s Y H _ I h) λu g zq=>?_);obtain ⟨x,d,k,f,n⟩:=zq;exact thn (hr b a g Y d _ k n) λo p ⟨j,c,m,i,l⟩=>⟨x::j,c,m,.cons f i,l⟩
def tTup(t:TA):TE:=λY H Q=>t Y H λb a=>b.length<=sizeLine/\∀p,a p=none->Q (.ref p) (upd a p (.tup b))
def tLst(t:TA):TE:=λY H Q=>t Y H λb a=>b.length<=sizeLine/\∀p,a p=none->Q (.ref p) (upd a p (.lst b))
def wj{x1}(h:PA X es t):PE X (.Tuple es x1 pos) (tTup t):=by
 intro a s Y H Q I g;refine wpAny_Tuple_spliced (thn (h pos a s Y H _ I g) λf c zq=>?_);obtain ⟨j,i,d,r,z,q⟩:=zq;refine ⟨by rw [<-r.length];exact z,?_⟩;have k:=d.hok.fresh (Ar _);refine ⟨.ref c.heap.objs.size,upd i c.heap.objs.size (.tup j),d.laid (λb u e=>BJ _ e) (Ar _) ?_,rfl,q _ k⟩;exact ⟨z,f,r,⟨_,By _ rfl,rfl,_,rfl⟩⟩
def O6(h:PA X es t):PE X (.List es pos) (tLst t):=by
 intro a s Y H Q I g;refine wpAny_List_spliced (thn (h pos a s Y H _ I g) λf c zq=>?_);obtain ⟨j,i,d,r,z,q⟩:=zq;refine ⟨by rw [<-r.length];exact z,?_⟩;have k:=d.hok.fresh (Ar _);refine ⟨.ref c.heap.objs.size,upd i c.heap.objs.size (.lst j),d.laid (λb u e=>BJ _ e) (Ar _) ?_,rfl,q _ k⟩;exact ⟨z,f,0,r,By _ rfl⟩
end
abbrev Sp:=List V->Hp->VK->XK->Prop
abbrev CXT:=List Env->Hp->Shared->XK->Value->Shared->Prop
structure Env0(P:Program)(w:World)(K:W.Frag)(mg:Str->Option Value)(base:Heap)(A:Around)(outer:List Env)(s:Shared)(H:Hp):Prop where
 frames:A.frames=some outer
 mod:Mod K mg base
 bs:∀b o,base.get? b=some o->s.heap.get? b=some o/\H b=none
 bsz:base.objs.size<=s.heap.objs.size
 funs:s.heap.FunFrames base outer
 frf:∀b∈frs outer,H b=none
 hok:HOk P w H s.heap
 bare:AllBare s.gens
def CE(outer:List Env)(P:Program)(w:World)(H:Hp)(s:Shared)(Q:VK)(u:Value)(s':Shared):Prop :=
 ∃v a,s'.os=s.os/\AllBare s'.gens/\Un (frs outer) [] H a s.heap s'.heap/\HOk P w a s'.heap/\RelV v u/\Q v a
def CR(CX:CXT)(outer:List Env)(P:Program)(w:World)(H:Hp)(s:Shared)(Q:VK)(E:XK)(r:Result)(s':Shared):Prop :=
 match r with
 | .ok (.ret u)=>CE outer P w H s Q u s'
 | .ok _=>False
 | .error e=>CX outer H s E e s'
structure FnOk(P:Program)(w:World)(K:W.Frag)(mg:Str->Option Value)(base:Heap)(CX:CXT)(k:Nat)(f:Addr)(fd:FuncData)(ps:List Str)(sp:Sp):Prop where
 len:∀vs H Q E,sp vs H Q E->vs.length=ps.length
 run:∀(A:Around) (outer:List Env) (s:Shared) (H:Hp) (args:Args) (us:List Value) (vs:List V) (Q:VK) (E:XK),Room k A->Env0 P w K mg base A outer s H->BindsTo s fd args (ps.zip us)->Vals vs us->sp vs H Q E ->
  codeAny (model P w) A (.call (.ref f) args) (CR CX outer P w H s Q E) s
def FnOk.mono{P:Program}{w:World}{K:W.Frag}{mg:Str->Option Value}{base:Heap}{CX:CXT}{j k:Nat}{f:Addr}{fd:FuncData}{ps:List Str}{sp:Sp}(F:FnOk P w K mg base CX j f fd ps sp)(h:j<=k) :
  FnOk P w K mg base CX k f fd ps sp:=⟨F.len,λA a s H b c e Q E d=>F.run A a s H b c e Q E (d.mono h)⟩
def FnOk.imp{P:Program}{w:World}{K:W.Frag}{mg:Str->Option Value}{base:Heap}{CX:CXT}{k:Nat}{f:Addr}{fd:FuncData}{ps:List Str}{sp sp':Sp}(F:FnOk P w K mg base CX k f fd ps sp)(h:∀vs H Q E,sp' vs H Q E->sp vs H Q E):FnOk P w K mg base CX k f fd ps sp' :=
 ⟨λvs H Q E q=>F.len vs H Q E (h _ _ _ _ q),λA a s H b c vs Q E i d j e g=>F.run A a s H b c vs Q E i d j e (h _ _ _ _ g)⟩
def Env0.make{P:Program}{w:World}{K:W.Frag}{mg:Str->Option Value}{base:Heap}{A:Around}{outer:List Env}{s:Shared}{H:Hp}(e:Env0 P w K mg base A outer s H)(C)(us)(kw) :
  Env0 P w K mg base (A.under (.builtin "type.__call__" ⟨.ref C::us,kw⟩)) outer s H:=⟨by first | exact e.frames | (simpa [Around.under,Code.envs,Code.isFrame,pushEnvs] using e.frames),e.mod,e.bs,e.bsz,e.funs,e.frf,e.hok,e.bare⟩
section
variable{X:Cx}{pins:List (Addr×Obj)}{Y:St}{H:Hp}{s s':Shared}
def Inv.env0(I:Inv X pins Y H s):Env0 X.prog X.w X.K X.mg X.base X.A X.stack s H :=
 ⟨I.ok.frames,I.ok.mod,I.bs,An I.ok.bsz I.sz,I.stack,I.stkFree,I.hok,I.bare⟩
def Inv.after(I:Inv X pins Y H s)(h:CE X.stack X.prog X.w H s Q u s'):EP X pins Y Q u s':=by
 obtain ⟨v,i,f,a,j,c,r,q⟩:=h;obtain ⟨k,g,d,t,e⟩:=s';obtain rfl:e=s.os:=f;exact ⟨v,i,I.call j c a (λb z=>aB z (by simp)),r,q⟩
end
def G7(sp:Sp)(dvs:List V)(E:XK)(t:TA):TE:=λY H Q=>t Y H λa b=>sp (a++dvs) b Q E
def Fg(C:Addr)(m:Str)(sp:Sp)(dvs:List V)(E:XK)(ta:TE)(t:TA):TE:=λY H Q=>ta Y H λx b=>∃a f c,x=.ref a/\b a=some (.ins C f c)/\c.lookup m=none /\
 t Y b λe d=>sp (x::(e++dvs)) d Q E
def G6(C:Addr)(sp:Sp)(dvs:List V)(E:XK)(t:TA):TE:=λY H Q=>t Y H λd b=>∀x a,b x=none->b a=none->a≠x ->
 sp (.ref x::(d++dvs)) (upd (upd b a (.own x)) x (.ins C a [])) (λv c=>v=.non/\Q (.ref x) c) E
def Binds(K:W.Frag)(fd:FuncData)(ps:List Str)(ds:List Value):Prop :=
 ∀s a,K.In s.heap->(a++ds).length=ps.length->BindsTo s fd ⟨a,[]⟩ (ps.zip (a++ds))
def Binds.all{K:W.Frag}{fd:FuncData}{ps:List Str}(h:∀us:List Value,us.length=ps.length->bindArgs fd ⟨us,[]⟩=pure (ps.zip us)):Binds K fd ps []:=λs us _ a=>by
 rw [FJ] at a ⊢;exact .of_eq (h us a)
def Cg(CX:CXT)(X:Cx)(E:XK):Prop:=∀a Y H s e b,Inv X a Y H s->CX X.stack H s E e b->X.xe e b
section
variable{X:Cx}{CX:CXT}{k:Nat}{f C:Addr}{fd:FuncData}{ps:List Str}{sp:Sp}{dvs:List V}{ds:List Value}{E:XK}{x m:Str}{p pos apos:Pos}{e o:Expr}{es:List Expr}{ta:TE}{t:TA}
def Mg(F:FnOk X.prog X.w X.K X.mg X.base CX k f fd ps sp)(hr:Room k X.A)(hb:Binds X.K fd ps ds)(hd:Vals dvs ds)(hx:Cg CX X E)(I:Inv X pins Y H s)(r:Vals vs us)(h:sp (vs++dvs) H Q E):wX X (call (.ref f) us) (EP X pins Y Q) X.xe s:=by
 have b:=r.append hd;have c:(us++ds).length=ps.length:=by rw [<-b.length];exact F.len _ _ _ _ h
 refine wpAny_call (K6 (F.run X.A X.stack s H ⟨us,[]⟩ (us++ds) (vs++dvs) Q E hr I.env0 (hb s us I.kIn c) b h) λr d a=>?_);cases r with
 | error e=>exact hx pins Y H s e d I a
 | ok fl=>
  cases fl with
  | ret u=>exact I.after a
  | next=>trivial
  | brk=>trivial
  | cont=>trivial
def Tc(F:FnOk X.prog X.w X.K X.mg X.base CX k f fd ps sp)(hr:Room k X.A)(hg:Gl X x)(hm:X.mg x=some (.ref f))(hk:W.keepIn X.K (.ref f)=true)(hb:Binds X.K fd ps ds)(hd:Vals dvs ds)(hx:Cg CX X E)(ha:PA X (e::es) t)(hdb:ND x:=by decide)(he:starEach (e::es) X.env=(false,eval e X.env)::starEach es X.env:=by rfl)(hpl:(backTo pos (starEach es X.env)).any (·.1)=false:=by rfl) :
  PE X (.Call (.Name x p) (e::es) [] pos) (G7 sp dvs E t):=by
 intro a s Y H Q I h;refine Ls (RL I hg hm ?_ hdb);refine K8 I.ok.mod.kin hk (thn (ha pos a s Y H _ I h) λc i zq=>?_) he hpl;obtain ⟨g,d,b,r,q⟩:=zq;refine ⟨b.kIn,?_⟩;exact Mg F hr hb hd hx b r q
def eH(he:PE X o ta)(c:Cls X.K C)(hm:Meth X.K C m f)(F:FnOk X.prog X.w X.K X.mg X.base CX k f fd ps sp)(hr:Room k X.A)(hb:Binds X.K fd ps ds)(hd:Vals dvs ds)(hx:Cg CX X E)(ha:PA X (e::es) t)(hst:starEach (e::es) X.env=(false,eval e X.env)::starEach es X.env:=by rfl)(hpl:(backTo pos (starEach es X.env)).any (·.1)=false:=by rfl) (ht:eval (.Call (.Attribute o m apos) (e::es) [] pos) X.env=(do
   let ov <-eval o X.env
   standAt apos.atName
   let (f,first) <-holding [ov] (getMethod ov m pl)
   callWith pos f first (backTo pos (starEach (e::es) X.env)) (backToKw pos (keywordEach [] X.env))):=by rfl) :
  PE X (.Call (.Attribute o m apos) (e::es) [] pos) (Fg C m sp dvs E ta t):=by
 intro b s Y H Q I h;refine W.methodCall_KW (thn (he b s Y H _ I h) λu s1 zq=>?_) ht;obtain ⟨x,H1,I1,rx,a,dx,fs,ex,ea,l,q⟩:=zq;subst ex;obtain rfl:u=Value.ref a:=rx;refine TF I1 ea c hm l ?_;refine K8 I.ok.mod.kin hm.kp (thn (ha pos b s1 Y H1 _ I1 q) λi n zq=>?_) hst hpl;obtain ⟨vs,j,d,r,g⟩:=zq;refine ⟨d.kIn,?_⟩;exact Mg (vs:=.ref a::vs) F hr hb hd hx d (.cons rfl r) g
structure Mk(K:W.Frag)(C f:Addr):Prop where
 makes:W.makesIn K C=true
 init:W.findIn K (.ref C) "__init__"=some (some (.ref f))
 fn:W.isFn K (.ref f)=true
 kp:W.keepIn K (.ref C)=true
def bJ(M:Mk X.K C f)(F:FnOk X.prog X.w X.K X.mg X.base CX k f fd ps sp)(hr:Room (k+1) X.A)(hb:Binds X.K fd ps ds)(hd:Vals dvs ds)(hx:Cg CX X E)(I:Inv X pins Y H s)(r:Vals vs us)(h:∀x dx,H x=none->H dx=none->dx≠x->sp (.ref x::(vs++dvs)) (upd (upd H dx (.own x)) x (.ins C dx [])) (λv H2=>v=.non/\Q (.ref x) H2) E) :
  wX X (call (.ref C) us) (EP X pins Y Q) X.xe s:=by
 have c:=h (s.heap.objs.size+1) s.heap.objs.size (I.hok.fresh (Nat.le_succ _)) (I.hok.fresh (Ar _)) (Bm (Nat.lt_succ_self _));have b:=Inv.made (C:=C) I;have d:Vals (V.ref (s.heap.objs.size+1)::(vs++dvs)) (Value.ref (s.heap.objs.size+1)::(us++ds)):=.cons rfl (r.append hd);have g:(Value.ref (s.heap.objs.size+1)::us++ds).length=ps.length:=by
  have e:=d.length;rw [F.len _ _ _ _ c] at e
  grind
 refine wpAny_call (ZoF I.kIn M.makes M.init (beq_iff_eq.mp M.fn) (K6 (F.run _ X.stack _ _ ⟨Value.ref (s.heap.objs.size+1)::us,[]⟩ (Value.ref (s.heap.objs.size+1)::(us++ds)) _ _ E (hr.make C us [])
  (b.env0.make C us []) (hb _ (Value.ref (s.heap.objs.size+1)::us) b.kIn g) d c) λr l a=>?_))
 cases r with
 | error e=>exact hx pins Y _ _ e l b a
 | ok fl=>
  cases fl with
  | ret u=>
   obtain ⟨v,n,j,m,i,o⟩:=b.after a;subst i;exact ⟨m,⟨V.ref (s.heap.objs.size+1),n,j,rfl,o⟩⟩
  | next=>trivial
  | brk=>trivial
  | cont=>trivial
def zz(M:Mk X.K C f)(F:FnOk X.prog X.w X.K X.mg X.base CX k f fd ps sp)(hr:Room (k+1) X.A)(hg:Gl X x)(hm:X.mg x=some (.ref C))(hb:Binds X.K fd ps ds)(hd:Vals dvs ds)(hx:Cg CX X E)(ha:PA X (e::es) t)(hdb:ND x:=by decide)(he:starEach (e::es) X.env=(false,eval e X.env)::starEach es X.env:=by rfl)(hpl:(backTo pos (starEach es X.env)).any (·.1)=false:=by rfl) :
  PE X (.Call (.Name x p) (e::es) [] pos) (G6 C sp dvs E t):=by
 intro a s Y H Q I h;refine Ls (RL I hg hm ?_ hdb);refine K8 I.ok.mod.kin M.kp (thn (ha pos a s Y H _ I h) λc i zq=>?_) he hpl;obtain ⟨g,d,b,r,q⟩:=zq;refine ⟨b.kIn,?_⟩;exact bJ M F hr hb hd hx b r q
def W9(M:Mk X.K C f)(F:FnOk X.prog X.w X.K X.mg X.base CX k f fd ps sp)(hr:Room (k+1) X.A)(hg:Gl X x)(hm:X.mg x=some (.ref C))(hb:Binds X.K fd ps ds)(hd:Vals dvs ds)(hx:Cg CX X E)(hdb:ND x:=by decide):PE X (.Call (.Name x p) [] [] pos) (G6 C sp dvs E tNil):=by
 intro a s Y H Q I h;refine Ls (RL I hg hm ?_ hdb);exact W.callWith_K0 I.kIn M.kp (bJ M F hr hb hd hx I .nil h)
end
structure Bx(N P:List Str)(sc:Scope):Prop where
 kind:sc.kind=.function
 co:sc.isCoroutine=false
 gen:sc.isGenerator=false
 nd:N.Nodup
 pre:N.take P.length=P
 par:∀x∈P,sc.names.lookup x=some .local\/sc.names.lookup x=some .cell
 nofree:∀y∈sc.names,y.2≠.free
def dz{kindOf:Str->Option NameKind}{x:Str}:∀{binds:List (Str×Value)} {m:Str->Option Value},(∀v,(x,v)∉binds)->bindL kindOf binds m x=m x
 | [],_,_=>rfl
 | (n,v)::r,m,h=>by
  unfold bindL;rw [dz λw a=>h w (Bp _ a)];split
  .grind
  .rfl
def Z6{kindOf:Str->Option NameKind}{x:Str}:∀{binds:List (Str×Value)} {m:Str->Option Value},(∀v,(x,v)∉binds)->bindC kindOf binds m x=m x
 | [],_,_=>rfl
 | (n,v)::r,m,h=>by
  unfold bindC;rw [Z6 λw a=>h w (Bp _ a)];split
  .rfl
  grind
def b8{kindOf:Str->Option NameKind}{x:Str}{v:Value}:∀{P:List Str} {vs:List Value} {i:Nat} {m:Str->Option Value},P.Nodup->P[i]?=some x->vs[i]?=some v->kindOf x=some .local ->
  bindL kindOf (P.zip vs) m x=some v
 | [],_,_,_,_,h,_,_=>by simp at h
 | _::_,[],_,_,_,_,h,_=>by simp at h
 | p::P,w::vs,0,m,nd,h1,h2,hk=>by
  simp at h1 h2;subst h1;subst h2;show bindL kindOf ((p,w)::P.zip vs) m p=_;unfold bindL;rw [dz λv a=>(Mr.mp nd).1 (Nz a).1,iP hk];simp
 | p::P,w::vs,i+1,m,nd,h1,h2,hk=>by
  show bindL kindOf ((p,w)::P.zip vs) m x=_;unfold bindL;exact b8 (i:=i) (Mr.mp nd).2 (by trivial) (by trivial) hk
def bH{kindOf:Str->Option NameKind}{x:Str}{v:Value}:∀{P:List Str} {vs:List Value} {i:Nat} {m:Str->Option Value},P.Nodup->P[i]?=some x->vs[i]?=some v->kindOf x≠some .local ->
  bindC kindOf (P.zip vs) m x=some v
 | [],_,_,_,_,h,_,_=>by simp at h
 | _::_,[],_,_,_,_,h,_=>by simp at h
 | p::P,w::vs,0,m,nd,h1,h2,hk=>by
  simp at h1 h2;subst h1;subst h2;show bindC kindOf ((p,w)::P.zip vs) m p=_;unfold bindC;rw [Z6 λv a=>(Mr.mp nd).1 (Nz a).1,iN hk];simp
 | p::P,w::vs,i+1,m,nd,h1,h2,hk=>by
  show bindC kindOf ((p,w)::P.zip vs) m x=_;unfold bindC;exact bH (i:=i) (Mr.mp nd).2 (by trivial) (by trivial) hk
def start(N:List Str)(vs:List V):St:=vs.map some++List.replicate (N.length - vs.length) none
def cxOf(CX:CXT)(P:Program)(w:World)(K:W.Frag)(mg:Str->Option Value)(base:Heap)(N:List Str)(qual:Str)(scope:Scope)(f:Addr)(cd:Value)(A:Around)(outer:List Env)(s:Shared)(H:Hp)(E:XK):Cx where
 prog:=P
 w:=w
 K:=K
 mg:=mg
 base:=base
 A:=A.deeper (envOfC qual scope s.heap.objs.size f cd)
 N:=N
 s₀:=s
 H₀:=H
 env:=envOfC qual scope s.heap.objs.size f cd
 outer:=outer
 stack:=envOfC qual scope s.heap.objs.size f cd::outer
 ex:=[]
 calm:=true
 fn:=λ_=>true
 pn:=[]
 xe:=λe c=>wpAny (model P w) (A.deeper (envOfC qual scope s.heap.objs.size f cd)) (leaving (envOfC qual scope s.heap.objs.size f cd) e) (λ_ a=>CX outer H s E e a) (λb a=>CX outer H s E b a) c
def bL{sc:Scope}(h:sc.names.lookup x=some .cell):∃c,(cellsFrom n sc.names []).lookup x=some c:=by
 have q:=W.cellsFrom_some sc.names n [] (.inl h);exact Option.isSome_iff_exists.mp q
def qG{CX:CXT}{P:Program}{w:World}{K:W.Frag}{mg:Str->Option Value}{base:Heap}{N ps:List Str}{qual:Str}{scope:Scope}{f:Addr}{cd:Value}{A:Around}{outer:List Env}{s s1:Shared}{H:Hp}{E:XK}{us:List Value}{vs:List V}(S:Bx N ps scope)(hd:A.handled=none)(e0:Env0 P w K mg base A outer s H)(hl:vs.length=ps.length)(r:Vals vs us)(x:InCallC s s.heap.objs.size (bindL (envOfC qual scope s.heap.objs.size f cd).kindOf (ps.zip us) λ_=>none) (cellsFrom (s.heap.objs.size+1) scope.names []) (bindC (envOfC qual scope s.heap.objs.size f cd).kindOf (ps.zip us) λ_=>none) s1) :
  Inv (cxOf CX P w K mg base N qual scope f cd A outer s H E) [] (start N vs) H s1:=by
 have t:ps.length<=N.length:=by have:=CP List.length S.pre;grind
 obtain ⟨j,F,rfl,n⟩:=x.done;have a:∀b:Addr,b∉(cxOf CX P w K mg base N qual scope f cd A outer s H E).ex:=λb z=>aB (show b∈([]:List Addr) from z) (by simp)
 refine ⟨⟨e0.mod,S.kind,rfl,rfl,Ar _,λy z c j l=>?_,λy hy=>?_,λy c _ h=>?_,λ_=>hd,Around.frames_deeper e0.frames,.inr ⟨rfl,rfl⟩,λb z=>aB z (a b),e0.bs,e0.bsz,λb _ _=>a b,λb z=>aB z (a b),e0.funs,e0.frf⟩,
  rfl,e0.bare,Un.kept n,⟨_,x.toInCall.ns,λi y v j l C=>?_⟩,λy c h=>⟨_,x.cell y c h⟩,e0.hok.fresh (Ar _),λy c h=>?_,λp g=>aB (show p∈([]:List (Addr×Obj)) from g) (by simp),e0.hok.kept n,?_⟩
 .exact name_of_addr x.apart (Ej j) (Ej l)
 .have hy:scope.names.lookup y=some .cell\/scope.names.lookup y=some .free:=hy;rcases hy with hy | hy
  .exact bL hy
  .exact aB rfl (S.nofree _ (Ej hy))
 .exact Lj (x.above y c (Ej h))
 .have D:i<vs.length:=by
   unfold start at l
   grind
  have o:vs[i]?=some v:=by
   unfold start at l
   grind
  obtain ⟨u,m,B⟩:=r.get o;have g:ps[i]?=some y:=by
   rw [<-S.pre,List.getElem?_take_of_lt (by omega)];exact j
  have d:ps.Nodup:=by rw [<-S.pre];exact S.nd.sublist (List.take_sublist _ _)
  refine ⟨u,B,?_⟩;rcases S.par y (Ed g) with k | k
  .exact .inl ⟨k,b8 d g m k⟩
  .obtain ⟨c,e⟩:=bL k;refine .inr ⟨.inl k,c,e,?_⟩;have q:=x.cell y c e;rw [bH d g m (by show scope.names.lookup y≠_;lia)] at q;exact q
 .exact e0.hok.fresh (Lj (x.above y c (Ej h)))
 .unfold start;show _=N.length;simp_all
def Nh{CX:CXT}{P:Program}{w:World}{K:W.Frag}{mg:Str->Option Value}{base:Heap}{k:Nat}{f:Addr}{name qual:Str}{params:Arguments}{body:List Stmt}{scope:Scope}{dV kV doc pm cdv ct oc:Value}{an od:Option Addr}{osl:Array (Option Value)}{N ps:List Str}{sp:Sp}(lk:K.lookup f=some ⟨oc,od,.func (W.fnOf name qual params body scope dV kV doc pm an cdv ct),osl⟩)(hcd:W.codeIn K cdv qual=true)(S:Bx N ps scope)(len:∀vs H Q E,sp vs H Q E->vs.length=ps.length) (hbody:∀(A:Around) (outer:List Env) (s:Shared) (H:Hp) (vs:List V) (Q:VK) (E:XK),Room k (A.deeper (envOfC qual scope s.heap.objs.size f cdv))->sp vs H Q E ->
   ∃t,PSs (cxOf CX P w K mg base N qual scope f cdv A outer s H E) body t/\t { nx:=λ_ H'=>Q .non H',rt:=Q } (start N vs) H) :
  FnOk P w K mg base CX (k+1) f (W.fnOf name qual params body scope dV kV doc pm an cdv ct) ps sp:=by
 refine ⟨len,λA outer s H B M vs Q E p g L r d=>?_⟩;have T:=len _ _ _ _ d;have C:=g.mod.kin.keeps λb o e=>(g.bs b o e).1;have j:=g.mod.nolimit.keeps λb o e=>(g.bs b o e).1;have a:∀y∈ps.zip M,scope.names.lookup y.1=some .local\/(scope.names.lookup y.1=some .cell/\((cellsFrom (s.heap.objs.size+1) scope.names []).lookup y.1).isSome=true):=λ⟨n,v⟩ U=>by
  rcases S.par n (Nz U).1 with q | q
  .lia
  .exact .inr ⟨q,W.cellsFrom_some _ _ _ (.inl q)⟩
 refine codeAny_call_function p.depth (C _ _ lk) rfl S.co S.gen rfl (W.codeRec_of C hcd) (L _ _ _ _ ?_);refine wpAny_newFunctionEnv_cells S.kind a λF D z x=>?_;subst D;refine ⟨j.keeps x.toInCall.keep,codeAny_func ?_⟩;obtain ⟨t,R,O⟩:=hbody A outer s H vs Q E (p.deeper _) d;have I:Inv (cxOf CX P w K mg base N qual scope f cdv A outer s H E) [] (start N vs) H z:=qG S p.hd g T r x;refine Cj (R [] z (start N vs) H _ I O) (λG l c=>?_) λe l c=>c;have h:∀{i:St} {H':Hp} {v:V} {u:Value},Inv (cxOf CX P w K mg base N qual scope f cdv A outer s H E) [] i H' l->RelV v u->Q v H'->CE outer P w H s Q u l :=
  λ{i H' v u} J m q=>⟨v,H',J.os,J.bare,J.base,J.hok,m,q⟩
 cases G with
 | ret u=>
  obtain ⟨v,i,H',J,m,q⟩:=c;exact h J m q
 | next=>
  obtain ⟨i,H',J,q⟩:=c;exact h (v:=V.non) J rfl q
 | brk=>
  obtain ⟨_,_,_,q⟩:=c;trivial
 | cont=>
  obtain ⟨_,_,_,q⟩:=c;trivial
section
variable{X:Cx}{x:Str}{p pos:Pos}{e:Expr}{es:List Expr}{t:TA}{id T:String}{r:List V->Hp->VK->Prop}
def tCB(r:List V->Hp->VK->Prop)(t:TA):TE:=λY H Q=>t Y H λa b=>r a b Q
def Xq(hc:Dg X (.builtin id) r)(hg:Gl X x)(hm:X.mg x=none)(hv:bootBuiltins x=some (.builtin id))(ha:PA X (e::es) t)(hn:x ≠ "__name__":=by decide)(hdb:ND x:=by decide)(he:starEach (e::es) X.env=(false,eval e X.env)::starEach es X.env:=by rfl)(hpl:(backTo pos (starEach es X.env)).any (·.1)=false:=by rfl):PE X (.Call (.Name x p) (e::es) [] pos) (tCB r t):=by
 intro a s Y H Q I h;refine Ls (Jx I hg hm hv ?_ hn hdb);exact PyProof.Rows.callWith_builtin1 (thn (ha pos a s Y H _ I h) λb i zq=>by obtain ⟨g,c,d,f,j⟩:=zq;exact hc a i Y c g b Q d f j) he hpl
def XN(hc:Dg X (.type T) r)(hg:Gl X x)(hm:X.mg x=none)(hv:bootBuiltins x=some (.type T))(ha:PA X (e::es) t)(hn:x ≠ "__name__":=by decide)(hdb:ND x:=by decide)(he:starEach (e::es) X.env=(false,eval e X.env)::starEach es X.env:=by rfl)(hpl:(backTo pos (starEach es X.env)).any (·.1)=false:=by rfl):PE X (.Call (.Name x p) (e::es) [] pos) (tCB r t):=by
 intro a s Y H Q I h;refine Ls (Jx I hg hm hv ?_ hn hdb);exact Om (thn (ha pos a s Y H _ I h) λb i zq=>by obtain ⟨g,c,d,f,j⟩:=zq;exact hc a i Y c g b Q d f j) he hpl
end
end L2
namespace HT
section
variable{prog:Program}{w:World}{A:Around}{E:Value->Shared->Prop}{s:Shared}
def ZrF(ht:IsTup s.heap t vs.toArray)(hb:IsTup s.heap b ws.toArray)(hv:vs≠[])(h1:ws=[]->Q (.ref t) s)(h2:ws≠[]->Q (.ref s.heap.objs.size) { s with heap:=s.heap.push { cls:=.type "tuple",data:=.seq (vs++ws).toArray } })(hsz:vs.length+ws.length<=sizeLine):wpAny (model prog w) A (binaryOp .Add (.ref t) (.ref b)) Q E s:=by
 obtain ⟨⟨cls,p,data,j⟩,h,o,n,m⟩:=id ht;obtain ⟨⟨k,f,i,c⟩,a,g,l,d⟩:=id hb;simp only at o m g d;subst o m g d;have e:vs.toArray++ws.toArray=(vs++ws).toArray:=by simp
 by_cases hw:ws=[]
 .exact concat_meets ⟨_,h,rfl⟩ ⟨_,a,rfl⟩ noFill_tuple_add seq_tuple_add PySem.F.slot_tuple_add PySem.F.entry_tuple_add (PySem.F.args_tuple_add_2 _ _)
   (tuple_addW1 t b vs.toArray ws.toArray n l p f j c (by simp_all) (by simp [hw])) ⟨h,a,h1 hw⟩
 .refine concat_meets ⟨_,h,rfl⟩ ⟨_,a,rfl⟩ noFill_tuple_add seq_tuple_add PySem.F.slot_tuple_add PySem.F.entry_tuple_add (PySem.F.args_tuple_add_2 _ _)
   (tuple_addW2 t b vs.toArray ws.toArray n l p f j c (by simp_all) (by simp_all) (by trivial)) ⟨h,a,?_⟩
  lia
def sIx(n d:Nat):Option Int->Nat
 | none=>d
 | some v=>if v<0 then (v+(n:Int)).toNat else min v.toNat n
def dN(v:Int)(n d:Nat):(if v<0 then max (v+(n:Int)) 0 else min v (n:Int))=((sIx n d (some v):Nat):Int):=by
 show (if v<0 then max (v+(n:Int)) 0 else min v (n:Int))=(((if v<0 then (v+(n:Int)).toNat else min v.toNat n):Nat):Int)
 lia
def vp(lo hi:Option Int)(n:Nat):Builtin.Slice.sliceAdjust lo hi 1 (n:Int)=(((sIx n 0 lo:Nat):Int),((sIx n n hi:Nat):Int)):=by
 have a:¬((1:Int)<0):=by omega
 unfold Builtin.Slice.sliceAdjust;simp only [a,Dp];refine Prod.ext ?_ ?_
 .cases lo with
  | none=>rfl
  | some v=>exact dN v n 0
 .cases hi with
  | none=>rfl
  | some v=>exact dN v n n
def uG(i j:Nat):Builtin.Slice.slicePlaces (i:Int) (j:Int) 1=j - i:=by
 unfold Builtin.Slice.slicePlaces
 lia
def dZ(p:IsPart v o)(h:Q o s):wpAny (model prog w) A (Builtin.Slice.slicePartIndex v) Q E s:=by
 cases p with
 | none=>exact slicePart_none h
 | int i t=>exact slicePart_int h
def Yd{sl:Addr}{vl vu:Value}{lo hi:Option Int}{n:Nat}{Q:Int×Int×Nat->Shared->Prop}(hs:s.heap.IsSliceOf sl vl vu .none)(pl:IsPart vl lo)(pu:IsPart vu hi)(h:Q (((sIx n 0 lo:Nat):Int),1,sIx n n hi - sIx n 0 lo) s):wpAny (model prog w) A (Builtin.Slice.sliceApplied (.ref sl) (pure (n:Int))) Q E s:=by
 obtain ⟨d,b,c,a⟩:=id hs;unfold Builtin.Slice.sliceApplied Builtin.Slice.sliceFields;refine Ac (Ac (Et b a rfl (Ac (Et b a rfl (Ac (Et b a rfl (Aj ?_)))))));refine Ac (slicePart_none ?_);rw [iN (by decide)];refine Ac (dZ pl (Ac (dZ pu (Ac (Aj ?_)))));show wpAny _ _ (match Builtin.Slice.sliceAdjust lo hi 1 (n:Int) with | (lo,hi)=>pure (lo,(1:Int),Builtin.Slice.slicePlaces lo hi 1)) _ _ s
 rw [vp lo hi n];show wpAny _ _ (pure (((sIx n 0 lo:Nat):Int),(1:Int),Builtin.Slice.slicePlaces ((sIx n 0 lo:Nat):Int) ((sIx n n hi:Nat):Int) 1)) _ _ s;rw [uG];exact Aj h
def qL(xs:Array Value)(i k:Nat):((List.range k).filterMap λ(m:Nat)=>xs[((i:Int)+(m:Int)*1).toNat]?).toArray=((xs.toList.drop i).take k).toArray:=by
 have e:(λ(m:Nat)=>xs[((i:Int)+(m:Int)*1).toNat]?)=λm=>xs[i+m]?:=by
  grind
 rw [e];have:=pick_run xs i k;rw [List.filterMap_map] at this;have a:((λx=>xs[x]?) ∘ λx=>i+x)=λm=>xs[i+m]?:=rfl
 lia
def uY{t sl:Addr}{items:Array Value}{vl vu:Value}{lo hi:Option Int}{Q:Value->Shared->Prop}(ht:IsTup s.heap t items)(hs:s.heap.IsSliceOf sl vl vu .none)(pl:IsPart vl lo)(pu:IsPart vu hi)(hw:¬(sIx items.size 0 lo=0/\sIx items.size items.size hi=items.size))(h:Q (.ref s.heap.objs.size) { s with heap:=s.heap.push { cls:=.type "tuple",data:=.seq ((items.toList.drop (sIx items.size 0 lo)).take (sIx items.size items.size hi - sIx items.size 0 lo)).toArray } })(hsz:items.size<=sizeLine):wpAny (model prog w) A (getItem (.ref t) (.ref sl)) Q E s:=by
 have a:sizeOk (.seq ((items.toList.drop (sIx items.size 0 lo)).take (sIx items.size items.size hi - sIx items.size 0 lo)).toArray):=by
  show ((items.toList.drop (sIx items.size 0 lo)).take (sIx items.size items.size hi - sIx items.size 0 lo)).toArray.size<=sizeLine
  grind
 obtain ⟨g,e,c,f⟩:=id hs;have d:s.TypeIs (.ref sl) "slice":=⟨g,e,c⟩;unfold getItem
 try with_reducible refine Dy ?_
 first | refine Ac (Aj ?_) | skip
 refine Ac (wpAny_sequenceKey ht.typeIs (by decide) ?_)
 refine Ac (Kq ht.typeIs PQ
  (KY PQ ht.typeIs entry_tuple_getitem ?_ (args_tuple_getitem _ _)))
 show wpAny _ _ (Builtin.Tuple.tupleItemsOf (.ref t) >>= _) _ _ s;refine Ac (tupleItemsOf_ ht ?_);refine Ac (Jq d ?_);rw [iP (by decide)];refine Ac (Yd hs pl pu ?_);have b:¬((((sIx items.size 0 lo:Nat):Int)==0&&(1:Int)==1&&(sIx items.size items.size hi - sIx items.size 0 lo)==items.size)=true):=by
  lia
 show wpAny _ _ (if (((sIx items.size 0 lo:Nat):Int)==0&&(1:Int)==1&&(sIx items.size items.size hi - sIx items.size 0 lo)==items.size)=true then _ else _) _ _ s
 rw [iN b,qL]
 first
  | exact Ac (Im (Aj ⟨_,rfl,Aj h⟩) a)
  | exact Ac (Im (Ac (Aj (Aj ⟨_,rfl,Aj h⟩))) a)
  | exact Ac (Ac (Im (Aj (Aj ⟨_,rfl,Aj h⟩)) a))
  | exact Ac (Ac (Im (Aj ⟨_,rfl,Aj h⟩) a))
end
end HT
namespace L2
abbrev TO:=St->Hp->(Option Int->Hp->Prop)->Prop
def PO(X:Cx)(e:Option Expr)(t:TO):Prop :=
 ∀a s Y H Q,Inv X a Y H s->t Y H Q ->
  wX X (evalPart e X.env) (λu c=>∃o b,Inv X a Y b c/\IsPart u o/\Q o b) X.xe s
def T6:TO:=λ_ H Q=>Q none H
def Tu(t:TE):TO:=λY H Q=>t Y H λx a=>∃i,x=.int i/\Q (some i) a
section
variable{X:Cx}{e:Expr}{te:TE}{lo hi:Option Expr}{tl th:TO}{pos p2:Pos}
def vY:PO X none T6:=by
 intro a s Y H Q I h;rw [evalPart_none];exact Aj ⟨none,H,I,.none,h⟩
def uV(h:PE X e te):PO X (some e) (Tu te):=by
 intro a s Y H Q I f;rw [evalPart_some];refine thn (h a s Y H _ I f) λu j zq=>?_;obtain ⟨x,b,c,d,g⟩:=zq;obtain ⟨i,rfl,q⟩:=g;obtain ⟨t,rfl⟩:=d;exact ⟨some i,b,c,.int i t,q⟩
def SlR(X:Cx)(r:V->Option Int->Option Int->Hp->VK->Prop):Prop :=
 ∀a s Y H x v e b d f c Q,Inv X a Y H s->RelV x v->s.heap.IsSliceOf c e b .none->IsPart e d->IsPart b f->r x d f H Q ->
  ∃T g,typeLookup (.type T) "__getitem__"=pure (some (.builtin g))/\s.TypeIs v T/\wX X (getItem v (.ref c)) (EP X a Y Q) X.xe s
def SlR.or(h:SlR X r)(h':SlR X r'):SlR X (λx lo hi H Q=>r x lo hi H Q\/r' x lo hi H Q):=by
 intro a s Y H x v i f lo hi b Q I e g c d q;rcases q with q | q
 .exact h a s Y H x v i f lo hi b Q I e g c d q
 .exact h' a s Y H x v i f lo hi b Q I e g c d q
def tSl(r:V->Option Int->Option Int->Hp->VK->Prop)(te:TE)(tl th:TO):TE:=λY H Q=>te Y H λx b=>tl Y b λl a=>th Y a λu c=>r x l u c Q
def Yw(hr:SlR X r)(he:PE X e te)(hl:PO X lo tl)(hu:PO X hi th):PE X (.Subscript e (.Slice lo hi none p2) pos) (tSl r te tl th):=by
 intro a s Y H Q I h;refine Subscript_ (thn (he a s Y H _ I h) λv z zq=>?_);obtain ⟨x,j,B,t,J⟩:=zq;refine wpAny_Slice (thn (hl a z Y j _ B J) λf y zq=>?_);obtain ⟨l,i,D,k,C⟩:=zq;refine thn (hu a y Y i _ D C) λd c zq=>?_;obtain ⟨u,g,m,n,p⟩:=zq;rw [evalPart_none];refine Aj ?_;have E:Inv X a Y g { c with heap:=c.heap.push { cls:=.type "slice",data:=.fields #[f,d,.none] } }:=m.kept λb K q=>BJ _ q
 obtain ⟨T,L,F,o,G⟩:=hr a { c with heap:=c.heap.push { cls:=.type "slice",data:=.fields #[f,d,.none] } } Y g x v f d l u c.heap.objs.size Q E t (Heap.IsSliceOf.new ..) k n p;show wX X (subscriptTail e (.Slice lo hi none p2) v (.ref c.heap.objs.size)) (EP X a Y Q) X.xe { c with heap:=c.heap.push { cls:=.type "slice",data:=.fields #[f,d,.none] } }
 exact tail_any (ops:=[.ref c.heap.objs.size,v]) o F G (by rfl)
def cutV(xs:List V)(lo hi:Option Int):List V:=(xs.drop (HT.sIx xs.length 0 lo)).take (HT.sIx xs.length xs.length hi - HT.sIx xs.length 0 lo)
def aZ(xs)(lo hi):(cutV xs lo hi).length<=xs.length:=by
 unfold cutV
 grind
def rSlT(K:W.Frag):V->Option Int->Option Int->Hp->VK->Prop:=λx c d H Q=>∃a b,x=.ref a/\SqT K H a b /\
 ¬(HT.sIx b.length 0 c=0/\HT.sIx b.length b.length d=b.length)/\∀p,H p=none->Q (.ref p) (upd H p (.tup (cutV b c d)))
def u5:SlR X (rSlT X.K):=by
 intro i s Y H x v z y f j t Q I n o k l h;obtain ⟨a,c,rfl,p,w,q⟩:=h;cases n;obtain ⟨e,r,g,m⟩:=I.tuple p;have d:e.toArray.size=c.length:=by rw [GR];exact r.length.symm
 refine ⟨"tuple",_,PyProof.Rows.slot_tuple_getitem.lookup,g.typeIs,?_⟩;refine HT.uY g o k l (by lia) ?_ (by lia);rw [d];refine ⟨.ref s.heap.objs.size,_,I.laid (λb u q=>BJ _ q) (Ar _) ?_,rfl,q _ (I.hok.fresh (Ar _))⟩;exact ⟨An (aZ c f j) m,_,(r.drop (HT.sIx c.length 0 f)).take (HT.sIx c.length c.length j - HT.sIx c.length 0 f),IsTup.new _ _⟩
def rM(K:W.Frag):R2:=λx y H Q=>∃a b d c,x=.ref a/\y=.ref b/\SqT K H a d/\SqT K H b c/\d≠[]/\d.length+c.length<=sizeLine /\
 (c=[]->Q (.ref a) H)/\(c≠[]->∀p,H p=none->Q (.ref p) (upd H p (.tup (d++c))))
def Vals.nil_iff(r:Vals xs us):us=[]↔xs=[]:=by
 cases r with
 | nil=>simp
 | cons _ _=>simp
def ZrJ:OpR X (binaryOp .Add) (rM X.K):=by
 intro e s Y H x y v u Q I k l h;obtain ⟨a,b,B,C,rfl,rfl,i,p,r,j,t,o⟩:=h;cases k;cases l;obtain ⟨m,d,g,_⟩:=I.tuple i;obtain ⟨f,c,n,_⟩:=I.tuple p;refine HT.ZrF g n (λz=>r (d.nil_iff.mp z)) (λz=>⟨.ref a,H,I,rfl,t (c.nil_iff.mp z)⟩) (λz=>?_) (by rw [<-d.length,<-c.length];exact j);refine ⟨.ref s.heap.objs.size,_,I.laid (λb A q=>BJ _ q) (Ar _) ?_,rfl,o (λw=>z (c.nil_iff.mpr w)) _ (I.hok.fresh (Ar _))⟩;exact ⟨by simp_all,_,d.append c,IsTup.new _ _⟩
end
def ixN(n:Nat)(i:Int):Option Nat:=if 0<=i then (if i<n then some i.toNat else none) else if -(n:Int)<=i then some (i+n).toNat else none
def atI(xs:List α)(i:Int):Option α:=(ixN xs.length i).bind λj=>xs[j]?
def cT(h:ixN n i=some j):seqIndex? i n=some j/\j<n/\-(n:Int)<=i/\i<n:=by
 unfold ixN at h;by_cases h0:0<=i
 .rw [iP h0] at h;by_cases h1:i<n
  .rw [iP h1] at h;have e:=Fy h;exact ⟨by rw [seqIndex_of h0 h1,e],by omega,by omega,h1⟩
  lia
 .rw [iN h0] at h;by_cases h1:-(n:Int)<=i
  .rw [iP h1] at h;have e:=Fy h;exact ⟨by rw [seqIndex_neg (by omega) h1,e],by omega,h1,by omega⟩
  lia
def Zo(h:atI xs i=some v):∃j,seqIndex? i xs.length=some j/\xs[j]?=some v/\j<xs.length/\-(xs.length:Int)<=i/\i<xs.length:=by
 unfold atI at h;cases e:ixN xs.length i with
 | none=>simp_all
 | some j=>
  rw [e] at h;obtain ⟨b,d,a,c⟩:=cT e;simp_all
def Zb(b:Expr):Prop:=∀o i,subscripted b false o i=operate [o,i] (getItem o i)
def IxR(X:Cx)(r:R2):Prop :=
 ∀c a b s Y H x y v u Q,Inv X b Y H s->RelV x v->RelV y u->r x y H Q ->
  subscripted a false v u=operate [v,u] (getItem v u)->wX X (subscriptTail c a v u) (EP X b Y Q) X.xe s
def MtR(X:Cx)(id:String)(r:V->List V->Hp->VK->Prop):Prop :=
 ∀a s Y H x c v b Q,Inv X a Y H s->RelV x v->Vals c b->r x c H Q ->
  wX X (call (.builtin id) (v::b)) (EP X a Y Q) X.xe s
section
variable{X:Cx}{a b:Expr}{ta tb:TE}{pos:Pos}
def IxR.or(h:IxR X r)(h':IxR X r'):IxR X (λx y H Q=>r x y H Q\/r' x y H Q):=by
 intro b a c s Y H x y v u Q I d e q f;rcases q with q | q
 .exact h b a c s Y H x y v u Q I d e q f
 .exact h' b a c s Y H x y v u Q I d e q f
def Zv(hr:IxR X r)(ha:PE X a ta)(hb:PE X b tb)(hs:Zb b):PE X (.Subscript a b pos) (tOp r ta tb):=by
 intro c s Y H Q I h;exact Subscript_ (binT ha hb I h λv u g x y d i e f q=>hr a b c g Y d x y v u Q i e f q (hs _ _))
def rIxL(K:W.Frag):R2:=λx y H Q=>∃p a i v,x=.ref p/\y=.int i/\SqL K H p a/\atI a i=some v/\Q v H
def rIxT(K:W.Frag):R2:=λx y H Q=>∃p a i v,x=.ref p/\y=.int i/\SqT K H p a/\atI a i=some v/\Q v H
def XR:IxR X (rIxL X.K):=by
 intro c f a s Y H x y v u Q I B A h l;obtain ⟨p,J,i,z,rfl,rfl,E,C,q⟩:=h;cases B;obtain ⟨t,rfl⟩:=A;obtain ⟨d,r,g,L⟩:=I.list E;obtain ⟨j,k,o,N,m,n⟩:=Zo C;obtain ⟨w,G,e⟩:=r.get o;have M:=r.length;have O:=Lq;have b:EP X a Y Q w s:=⟨z,H,I,e,q⟩;by_cases h0:0<=i
 .have F:i.toNat=j:=by
   rw [seqIndex_of h0 n] at k
   lia
  exact item_listR g.isList h0 (by omega) (by simp_all) b l
 .have F:(i+(d.toArray.size:Int)).toNat=j:=by
   rw [seqIndex_neg (by omega) m] at k;simp_all
  exact subscriptTail_builtinR g.isList.typeIs slot_list_getitem.lookup
   (wpAny_getItem_list_neg (Q:=λr D=>r=w/\EP X a Y Q r D) g.isList (by omega) (by simp_all) (by omega) (by simp_all) ⟨rfl,b⟩) l
def ZD:IxR X (rIxT X.K):=by
 intro b d a s Y H x y v u Q I l k h B;obtain ⟨p,E,i,z,rfl,rfl,A,n,q⟩:=h;cases l;obtain ⟨t,rfl⟩:=k;obtain ⟨m,r,f,G⟩:=I.tuple A;obtain ⟨j,M,g,L,C,F⟩:=Zo n;obtain ⟨w,D,c⟩:=r.get g;have J:=r.length;have N:=Lq;have e:EP X a Y Q w s:=⟨z,H,I,c,q⟩;exact subscriptTail_builtinR f.typeIs slot_tuple_getitem.lookup
  (getItem_tuple (j:=j) (Q:=λr o=>r=w/\EP X a Y Q r o) f (by omega) (by omega) (by simp_all) (by simp_all) ⟨rfl,e⟩) B
def zN(its:List Value)(n j:Nat)(u:Value):Obj.mapSeq (·.setIfInBounds j u) { cls:=.type "list",data:=.seq its.toArray n }={ cls:=.type "list",data:=.seq (its.set j u).toArray n }:=by
 simp [Obj.mapSeq]
def Inv.lst{pins:List (Addr×Obj)}{Y:St}{H:Hp}{s:Shared}{p:Addr}{xs:List V}(I:Inv X pins Y H s)(h:H p=some (.lst xs)) :
  ∃its n,Vals xs its/\s.heap.get? p=some { cls:=.type "list",data:=.seq its.toArray n }/\xs.length<=sizeLine:=by
 obtain ⟨z,its,n,r,e⟩:=I.hok p _ h;simp_all
def Inv.lstUpd{s:Shared}{ys:List V}{its its':List Value}(I:Inv X pins Y H s)(h:H p=some (.lst xs))(ho:s.heap.get? p=some { cls:=.type "list",data:=.seq its.toArray n })(hf:f { cls:=.type "list",data:=.seq its.toArray n }={ cls:=.type "list",data:=.seq its'.toArray n' })(r:Vals ys its')(hz:ys.length<=sizeLine)(t) :
  Inv X pins Y (upd H p (.lst ys)) { s with heap:=s.heap.update p f,toks:=t }:=by
 have e:(s.heap.update p f).get? p=some { cls:=.type "list",data:=.seq its'.toArray n' }:=by
  rw [QF f ho (by rw [hf]<;>rfl),hf]
 refine I.write (by rw [h];trivial) (.inl rfl) (λb u a q=>(Heap.get?_update_other _ _ (Ne.symm a)).trans q) ⟨_,e⟩ ?_;exact ⟨hz,its',n',r,e⟩
def V1:V->V->V->Hp->(Hp->Prop)->Prop:=λo i v H Q=>∃p a k j,o=.ref p/\i=.int k/\H p=some (.lst a)/\ixN a.length k=some j/\Q (upd H p (.lst (a.set j v)))
def set_list:PSet X V1:=by
 intro a s Y H o i v B G u Q I w l x h;obtain ⟨p,m,k,j,rfl,rfl,e,g,q⟩:=h;cases w;obtain ⟨t,rfl⟩:=l;obtain ⟨b,n,r,c,C⟩:=I.lst e;obtain ⟨d,A,y,f⟩:=cT g;have E:=r.length;have F:=Lq;have D:Inv X a Y (upd H p (.lst (m.set j v))) { s with heap:=s.heap.update p (Obj.mapSeq (·.setIfInBounds j u)) } :=
  I.lstUpd e c (zN b n j u) (r.set x j) (by simp_all) s.toks
 by_cases h0:0<=k
 .have z:k.toNat=j:=by
   rw [seqIndex_of h0 f] at d
   lia
  exact W.ki_setAt c h0 (by omega) (by simp_all) (by grind)
 .have z:(k+(b.toArray.size:Int)).toNat=j:=by
   rw [seqIndex_neg (by omega) y] at d;simp_all
  exact W.ki_setBack c (by omega) (by simp_all) (by omega) (by grind)
def yC(lo hi)(n):(sliceBounds lo hi none n).1=((HT.sIx n 0 lo:Nat):Int)/\(sliceBounds lo hi none n).2.1=((HT.sIx n n hi:Nat):Int)/\(sliceBounds lo hi none n).2.2=1:=by
 refine ⟨?_,?_,rfl⟩
 .cases lo with
  | none=>rfl
  | some i=>
   simp only [sliceBounds,HT.sIx,Option.getD_none,show (1:Int)>0 by decide,GD]
   lia
 .cases hi with
  | none=>rfl
  | some i=>
   simp only [sliceBounds,HT.sIx,Option.getD_none,show (1:Int)>0 by decide,GD]
   lia
def oF(its:List Value)(lo hi:Option Int):slicePick its.toArray lo hi none=((its.drop (HT.sIx its.length 0 lo)).take (HT.sIx its.length its.length hi - HT.sIx its.length 0 lo)).toArray:=by
 obtain ⟨b,c,a⟩:=yC lo hi its.toArray.size;unfold slicePick;rw [b,c,a];simp only [sliceRange_one,pick_run,GR]<;>rfl
def rSlL(K:W.Frag):V->Option Int->Option Int->Hp->VK->Prop:=λx c d H Q=>∃a b,x=.ref a/\SqL K H a b/\∀p,H p=none->Q (.ref p) (upd H p (.lst (cutV b c d)))
def qX:SlR X (rSlL X.K):=by
 intro g s Y H x v y w e i t Q I m o j k h;obtain ⟨a,d,rfl,p,q⟩:=h;cases m;obtain ⟨n,r,f,l⟩:=I.list p;have c:=r.length;refine ⟨"list",_,slot_list_getitem.lookup,f.isList.typeIs,?_⟩;refine wpAny_getItem_list_slice f.isList o j k .none (by simp) ?_ (by simp_all);rw [oF,<-c];refine ⟨.ref s.heap.objs.size,_,I.laid (λb u q=>BJ _ q) (Ar _) ?_,rfl,q _ (I.hok.fresh (Ar _))⟩;exact ⟨An (aZ d e i) l,_,0,(r.drop (HT.sIx d.length 0 e)).take (HT.sIx d.length d.length i - HT.sIx d.length 0 e),By _ rfl⟩
def N8:Dg X (.builtin "len") (λxs H Q=>∃p ys,xs=[.ref p]/\(SqL X.K H p ys\/SqT X.K H p ys)/\Q (.int ys.length) H):=by
 intro e s Y H xs i Q I r h;obtain ⟨p,ys,rfl,hq,q⟩:=h;obtain ⟨u,rfl,g⟩:=vals1 r;cases g;have j:=Lq;rcases hq with hq | hq
 .obtain ⟨c,d,b,f⟩:=I.list hq;have a:=d.length;exact Calls.call_len_list b.isList (by grind) ⟨.int ys.length,H,I.tok _,⟨s.toks+1,by simp_all⟩,q⟩
 .obtain ⟨c,d,b,f⟩:=I.tuple hq;have a:=d.length;exact len_tuple b (by grind) ⟨.int ys.length,H,I.tok _,⟨s.toks+1,by simp_all⟩,q⟩
def mQ:Dg X (.type "list") (λxs H Q=>∃p ys,xs=[.ref p]/\(SqL X.K H p ys\/SqT X.K H p ys)/\∀l,H l=none->Q (.ref l) (upd H l (.lst ys))):=by
 intro g s Y H xs B Q I r h;obtain ⟨p,ys,rfl,hq,q⟩:=h;obtain ⟨u,rfl,A⟩:=vals1 r;cases A;have m:∀a,Vals ys a->ys.length<=sizeLine->∀c f,(∀b z,s.heap.get? b=some z->c.get? b=some z) ->
   c.get? s.heap.objs.size=some { cls:=.type "list",dict:=none,data:=.seq a.toArray f,slots:=#[] }->EP X g Y Q (.ref s.heap.objs.size) { s with heap:=c }:=λa d j c f i e=>
  ⟨.ref s.heap.objs.size,_,I.laid i (Ar _) (show Dn X.prog X.w _ c _ (.lst ys) from ⟨j,a,f,d,e⟩),rfl,q _ (I.hok.fresh (Ar _))⟩
 rcases hq with hq | hq
 .obtain ⟨a,d,v,j⟩:=I.list hq;have k:=d.length;obtain ⟨o,x,y,n,t⟩:=v.isList;exact call_list_seq p (.inl rfl) x y t (λc f i e=>m a d j c f i e) (by simp_all)
 .obtain ⟨a,d,v,j⟩:=I.tuple hq;have k:=d.length;obtain ⟨o,x,y,n,t⟩:=v;exact call_list_seq p (.inr rfl) x y t (λc f i e=>m a d j c f i e) (by simp_all)
def JN:Dg X (.type "tuple") (λxs H Q=>∃p ys,xs=[.ref p]/\((SqL X.K H p ys/\∀l,H l=none->Q (.ref l) (upd H l (.tup ys)))\/(SqT X.K H p ys/\Q (.ref p) H))):=by
 intro c s Y H xs v Q I r h;obtain ⟨p,ys,rfl,h⟩:=h;obtain ⟨u,rfl,m⟩:=vals1 r;cases m;rcases h with ⟨hq,q⟩ | ⟨hq,q⟩
 .obtain ⟨a,d,g,j⟩:=I.list hq;have k:=d.length;refine call_tuple_list g.isList (λf t=>?_) (by simp_all);have i:=I.kept (t':=s.toks) t;have n:Inv X c Y (upd H f.objs.size (.tup ys)) { s with heap:=f.push { cls:=.type "tuple",data:=.seq a.toArray } } :=
   i.laid (λb o e=>BJ _ e) (Ar _) (⟨j,a,d,IsTup.new _ _⟩)
  exact ⟨.ref f.objs.size,_,n,rfl,q _ (i.hok.fresh (Ar _))⟩
 .obtain ⟨a,d,g,j⟩:=I.tuple hq;exact call_tuple_same g ⟨.ref p,H,I,rfl,q⟩
def tyV(K:W.Frag)(T:String)(x:V)(H:Hp):Prop:=match x with
 | .str _=>T = "str"
 | .int _=>T = "int"
 | .ref p=>(T = "list"/\∃b,SqL K H p b)\/(T = "tuple"/\∃o,K.lookup p=some o/\o.cls=.type "tuple"/\o.dict=none) \/False
 | _=>False
def oK(I:Inv X pins Y H s)(r:RelV x v)(ty:tyV X.K T x H) :
  s.TypeIs v T/\∀a,v=.ref a->∃ob,s.heap.get? a=some ob/\ob.dict=none:=by
 cases x with
 | str z=>
  obtain ⟨t,rfl⟩:=r;cases (ty);exact ⟨Gi s z t,λ_ e=>nomatch e⟩
 | int i=>
  obtain ⟨t,rfl⟩:=r;cases (ty);exact ⟨typeIs_int s i t,λ_ e=>nomatch e⟩
 | ref p=>
  cases r;rcases ty with ⟨rfl,xs,hq⟩ | ⟨rfl,o,hk,hc,f⟩ | c
  .obtain ⟨g,_,d,_⟩:=I.list hq;refine ⟨d.isList.typeIs,λa e=>?_⟩;cases e;obtain ⟨o,n,e,c,f,_⟩:=d;simp_all
  .refine ⟨⟨o,I.kIn p o hk,hc⟩,λa e=>?_⟩;cases e;exact ⟨o,I.kIn _ o hk,f⟩
  .exact c.elim
 | _=>exact False.elim ty
def tBM(K:W.Frag)(T:String)(r:V->List V->Hp->VK->Prop)(to:TE)(t:TA):TE:=λY H Q=>to Y H λx a=>tyV K T x a/\t Y a λc b=>r x c b Q
variable{o e:Expr}{es:List Expr}{to:TE}{t:TA}{name:Str}{apos cpos:Pos}{T id:String}{r:V->List V->Hp->VK->Prop}
def J5(pa:PlainAttrs T)(slot:Slot T name id)(hty:typeOf (.builtin id)=pure (.type "method_descriptor"))(hm:MtR X id r)(ho:PE X o to)(ha:PA X (e::es) t)(hbase:attributeBase o name X.env (eval o X.env)=eval o X.env:=by rfl) (hfew:((backTo cpos (starEach (e::es) X.env)).all (λx=>!x.1)&&(backToKw cpos (keywordEach [] X.env)).all (λx=>x.1.isSome)
   && decide ((e::es).length+([]:List Keyword).length+(if ([]:List Keyword).isEmpty then 0 else 1)<30))=true:=by rfl) (hline:(apos.endLine==cpos.line)=true:=by rfl) (hs:starEach (e::es) X.env=(false,eval e X.env)::starEach es X.env:=by rfl) (hplain:(backTo cpos (starEach es X.env)).any (·.1)=false:=by rfl) :
  PE X (.Call (.Attribute o name apos) (e::es) [] cpos) (tBM X.K T r to t):=by
 intro a s Y H Q I h;refine wpAny_Call_method_late hbase hfew hline rfl (thn (ho a s Y H _ I h) λv n zq=>?_);obtain ⟨x,i,d,b,j,y⟩:=zq;obtain ⟨k,w⟩:=oK d b j;refine ⟨T,id,pa,slot,hty,k,w,?_⟩;have c:=ha cpos a n Y i _ d y;rw [hs] at c ⊢;refine Calls.callWith_builtin (by trivial) (Calls.evalArgs_plain ?_);exact thn c λf m ⟨l,g,u,p,q⟩=>hm a m Y g x l v f Q u b p q
end
def MtM(X:Cx)(id:String)(r:V->List V->Hp->VK->Prop):Prop :=
 ∀a s Y H x c v b Q,Inv X a Y H s->RelV x v->Vals c b->r x c H Q ->
  wX X (call (.builtin id) (v::b)) (EP X a Y Q) X.xe s
def Vals.one:∀{x:V} {us:List Value},Vals [x] us->∃u,us=[u]/\RelV x u
 | _,_,.cons r .nil=>⟨_,rfl,r⟩
section
variable{X:Cx}{pins:List (Addr×Obj)}{Y:St}{H:Hp}{s:Shared}{l b:Addr}{xs ys zs:List V}
def Inv.lset{its its':List Value}(I:Inv X pins Y H s)(hH:H l=some (.lst xs))(e:s.heap.get? l=some { cls:=.type "list",data:=.seq its.toArray n })(hf:f its.toArray=its'.toArray)(hv:Vals ys its')(hz:ys.length<=sizeLine) :
  Inv X pins Y (upd H l (.lst ys)) { s with heap:=s.heap.update l (Obj.mapSeq f),toks:=t' }:=by
 have q:=PySem.IsL.update e f;rw [hf] at q;refine I.write (x:=l) (e:=l) (by rw [hH];trivial) (.inl rfl) (λc u a b=>(Heap.get?_update_other s.heap (Obj.mapSeq f) (Ne.symm a)).trans b) ⟨_,q⟩ ?_;exact ⟨hz,its',_,hv,q⟩
def Inv.lnew(I:Inv X pins Y H s)(hv:Vals ys its)(hz:ys.length<=sizeLine) :
  Inv X pins Y (upd H s.heap.objs.size (.lst ys)) { s with heap:=s.heap.push { cls:=.type "list",data:=.seq its.toArray },toks:=t' } :=
 I.laid (λ_ _ q=>BJ _ q) (Ar _) ⟨hz,its,0,hv,By _ rfl⟩
def Inv.fresh(I:Inv X pins Y H s):H s.heap.objs.size=none:=I.hok.fresh (Ar _)
def Inv.lstM(I:Inv X pins Y H s)(hH:H l=some (.lst xs)):xs.length<=sizeLine/\∃its n,Vals xs its/\xs.length=its.length/\s.heap.get? l=some { cls:=.type "list",data:=.seq its.toArray n }:=by
 obtain ⟨z,its,n,r,e⟩:=I.hok l _ hH;exact ⟨z,its,n,r,r.length,e⟩
def Zpy(h:n<=sizeLine):Builtin.List.listTooLong n=false:=by
 unfold Builtin.List.listTooLong
 lia
end
section
variable{X:Cx}
def Ik:V->List V->Hp->VK->Prop:=λx b H Q=>∃l a y,x=.ref l/\b=[y]/\H l=some (.lst a)/\a.length<sizeLine/\Q .non (upd H l (.lst (a++[y])))
def Tv:MtM X "list.append" Ik:=by
 intro b s Y H x k v i Q I f g h;obtain ⟨l,o,y,rfl,rfl,c,j,q⟩:=h;cases f;obtain ⟨u,rfl,d⟩:=g.one;obtain ⟨z,a,n,r,m,e⟩:=I.lstM c;refine HB F.slot_list_append ⟨_,e,rfl⟩ F.entry_list_append (F.args_list_append_2 _ _) (PySem.list_append l a.toArray n u (by simp_all)) ⟨e,?_⟩;refine ⟨.non,_,I.lset c e (by simp) (r.append (.cons d .nil)) ?_,rfl,q⟩
 grind
end
end L2
namespace Att
open PySem.W PySem.Calls
def mR:∀ns vs,WellAll P h vs (ns.map WData.int)->IntsAre vs ns:=by
 intro ns
 induction ns with
 | nil=>
  intro vs w;rw [List.map_nil] at w;cases w;exact .nil
 | cons n ns ih=>
  intro vs w;rw [Bg] at w;cases w with
  | cons a b=>
   cases a;exact .cons _ _ (ih _ b)
def fM{l:OpenLaw}(hn:l.most=some n){h:Heap}(hpre:l.row.toRowW.claim.pre args=true)(hwl:WellAll P h vals args) :
  ∃a vs ns,vals=[Value.ref a]/\args=[WData.list (ns.map WData.int)]/\h.get? a=some { cls:=.type "list",data:=.seq vs.toArray }/\IntsAre vs ns/\ns.length<=n:=by
 have c:=(pre_splitW hpre).1;have f:l.pre.holds [] { args:=args }=true:=(pre_splitW hpre).2;obtain ⟨d,r,rfl,i,j⟩:=hasAllW_cons c;obtain rfl:=hasAllW_nil j;obtain ⟨k,rfl,g⟩:=hasW_list i;obtain ⟨ns,rfl⟩:=items_int g;have b:ns.length<=n:=by
  unfold OpenLaw.pre at f;have e:(WTm.not (.lt (.lit (.int n)) (.len (.arg 0)))).holds [] { args:=[.list (ns.map .int)] }=true:=by
   have e:=(holds_andW f).1
   lia
  have m:=condW_of e (w_not (w_lt w_lit (w_len_list (w_arg rfl))));simp_all
 cases hwl with
 | cons w1 w2=>
  cases w2;cases w1 with
  | list ho hall=>exact ⟨_,_,ns,rfl,rfl,ho,mR ns _ hall,b⟩
def tX(l:OpenLaw)(args:List WData):l.row.toRowW.claim.post args (.bool true) args=true :=
 postW_of
  (show WShape.has [] (.bool true) .bool=true by rfl)
  (w_eq_bool (w_res rfl) w_lit) rfl
def wU{l:OpenLaw}{d:DefRec}(hn:l.most=some n)(hdf:d.params.defaults=[]) (call:∀(w:World) (s₀ s₁:Shared) (mg mb:Str->Option Value) (fa:Addr) (o:Obj) (pm cd doc:Value) (a:Addr) (vs:List Value) (ns:List Int),
   Ground q loose [] XP w s₀ mg mb s₁.heap->YP w s₁.heap ->
   s₁.heap.get? fa=some o->o.data=.func (docDef d.name d.params d.body d.scope pm cd doc)->s₁.heap.CodeRec cd d.name->mg d.name=some (.ref fa) ->
   s₁.heap.get? a=some { cls:=.type "list",data:=.seq vs.toArray }->IntsAre vs ns->ns.length<=n->s₁.gens=#[] ->
   codeAny (model l.prog w) callerA (.call (.ref fa) ⟨[.ref a],[]⟩) (λr s'=>r=.ok (.ret (.bool true))/\OldK s₁.heap s'.heap/\s'.os=s₁.os/\AllBare s'.gens) s₁) :
  WalkO q loose XP YP l.row.toRowW d [] (λf vs=>PySem.call f vs):=by
 intro w s₀ s₁ mg mb G A fa o pm cd doc H t D v h m j y p k I e s C i E;obtain rfl:H=.none:=Dflts.none m hdf;obtain rfl:t=.none:=Dflts.noKw m;obtain ⟨a,vs,ns,rfl,rfl,c,b,g⟩:=fM hn e i;refine enter_call (K6 (call w s₀ s₁ mg mb fa o pm cd doc a vs ns G A D (fd_plain v) h j c b g y) λr s' B=>?_);obtain ⟨rfl,z,F,u⟩:=B;exact ⟨.inl ⟨.bool true,.bool true,[],rfl,λ_=>rfl,.bool true,tX l _,λ_=>⟨List.Pairwise.nil,λ_ x=>(nomatch x)⟩⟩,z,F,u⟩
end Att
namespace L2
def Zj:∀{vs:List Value} {ns:List Int},IntsAre vs ns->Vals (ns.map V.int) vs
 | _,_,.nil=>.nil
 | _,_,.cons n t h=>.cons ⟨t,rfl⟩ (Zj h)
def Only(H:Hp):Prop:=∀b,H b=none\/∃o a,H b=some (.frz o (.lst a))
def wB{K:W.Frag}{s₁:Shared}{vs:List Value}{ns:List Int}(KX:K.In s₁.heap)(hns:s₁.heap.Ns mainGlobals mg)(hb:s₁.heap.Ns builtinsNs mb)(hbb:∀x:Str,x ≠ "__name__"->mb x=bootBuiltins x)(hlim:s₁.heap.NoLimit)(hg:s₁.gens=#[])(ha:s₁.heap.get? a=some { cls:=.type "list",data:=.seq vs.toArray })(hi:IntsAre vs ns)(hl:ns.length<=sizeLine)(hr:Room k callerA)(F:∀base:Heap,K.In base->base.Ns mainGlobals mg->FnOk P w K mg base CX k fa fd [x] sp)(hbind:∀(s:Shared) (u:Value),BindsTo s fd ⟨[u],[]⟩ [(x,u)])(hsp:∀H:Hp,Only H->SqL K H a (ns.map V.int)->sp [.ref a] H (λv _=>v=.bl true) λ_ _ _=>False)(hCX:∀H e s',CX [] H s₁ (λ_ _ _=>False) e s'->False) :
  codeAny (model P w) callerA (.call (.ref fa) ⟨[.ref a],[]⟩) (λr s'=>r=.ok (.ret (.bool true))/\OldK s₁.heap s'.heap/\s'.os=s₁.os/\AllBare s'.gens) s₁:=by
 have O:=Zj hi;have D:=hi.length;have g:∀H:Hp,Only H->SqL K H a (ns.map V.int)->HOk P w H s₁.heap->(∀b,H b≠none->b=a)->(H a≠none->K.lookup a=none) ->
   codeAny (model P w) callerA (.call (.ref fa) ⟨[.ref a],[]⟩) (λr s'=>r=.ok (.ret (.bool true))/\OldK s₁.heap s'.heap/\s'.os=s₁.os/\AllBare s'.gens) s₁:=by
  intro H B L i T R;have c:∀{b:Addr} {o:Obj},s₁.heap.get? b=some o->H b=none->(hidT s₁.heap H).get? b=some o:=λe n=>Zoz e n;have A:∀{b:Addr} {o:Obj} {y:Array DictEntry} {t:Nat},s₁.heap.get? b=some o->o.data=.dict y t->H b=none:=λ{b o y t} e d=>by
   grind
  have f:∀{b:Addr} {m:Str->Option Value},s₁.heap.Ns b m->(hidT s₁.heap H).Ns b m:=λ{b m} ⟨o,y,t,e,d,r⟩=>⟨o,y,t,c e (A e d),d,r⟩
  have j:K.In (hidT s₁.heap H):=λb o e=>c (KX b o e) (by
   grind)
  have E:Mod K mg (hidT s₁.heap H):=⟨j,f hns,⟨mb,f hb,hbb⟩,let ⟨mc,h1,h2⟩:=hlim;⟨mc,f h1,h2⟩⟩;have M:Env0 P w K mg (hidT s₁.heap H) callerA [] s₁ H:=⟨rfl,E,λb o e=>nu e,Nat.le_of_eq (uM _ _),trivial,λb hb=>aB (show b∈([]:List Addr) from hb) (by simp),i,.of_eq hg⟩;refine K6 ((F _ j (f hns)).run callerA [] s₁ H ⟨[.ref a],[]⟩ [.ref a] [.ref a] _ _ hr M (hbind s₁ (.ref a)) (.cons rfl .nil) (hsp H B L)) λr s' h=>?_;cases r with
  | error e=>exact (hCX H e s' h).elim
  | ok fl=>
   cases fl with
   | next=>trivial
   | brk=>trivial
   | cont=>trivial
   | ret u=>
    obtain ⟨v,S,os,l,C,p,I,q⟩:=h;have G:=q;subst G;obtain rfl:u=Value.bool true:=I;refine ⟨rfl,OldK.of_keep λb o e=>?_,os,l⟩;cases q:H b with
    | none=>exact C.keep b o e q (by intro z;trivial) (by simp)
    | some u=>
     rcases B b with z | ⟨ob,xs,z⟩
     .lia
     .have J:=C.frzs b ob _ z;obtain ⟨U,_⟩:=i b _ z;obtain ⟨Q,_⟩:=p b _ J
      lia
 cases hk:K.lookup a with
 | some o=>
  have e:=KX a o hk;rw [ha] at e;cases e;refine g (λ_=>none) (λ_=>.inl rfl) (.inr ⟨_,vs.toArray,_,hk,rfl,rfl,rfl,by simp_all,by trivial⟩) (λb u z=>by trivial) (λb z=>aB rfl z) λz=>aB rfl z
 | none=>
  refine g (λb=>if b=a then some (.frz { cls:=.type "list",data:=.seq vs.toArray } (.lst (ns.map V.int))) else none) (λb=>?_) (.inl (.inr ⟨{ cls:=.type "list",data:=.seq vs.toArray },iP rfl⟩)) (λb u z=>?_) (λb z=>?_) λ_=>hk
  .grind
  .by_cases hb:b=a
   .have N:=(iP hb).symm.trans z;cases N;subst hb;exact ⟨ha,by simp_all,vs,_,O,ha⟩
   lia
  lia
def u9{l:W.OpenLaw}{n k:Nat}{q:Program}{loose:List Str}{XP:(Str->Option Value)->Heap->Prop}{YP:World->Heap->Prop}{d:DefRec}{K:Params->W.Frag}{CX:World->CXT}{sp:World->Sp}{x:Str}(hn:l.most=some n)(hn2:n<=sizeLine)(hdf:d.params.defaults=[])(hr:Room k callerA)(hY:∀(w:World) (h:Heap),YP w h->(K w.params).In h) (F:∀(w:World) (mg:Str->Option Value) (fa:Addr) (h:Heap),(K w.params).In h->h.Ns mainGlobals mg->mg d.name=some (.ref fa) ->
   ∃fd:FuncData,(∀(s:Shared) (u:Value),BindsTo s fd ⟨[u],[]⟩ [(x,u)]) /\
    ∀base:Heap,(K w.params).In base->base.Ns mainGlobals mg->FnOk l.prog w (K w.params) mg base (CX w) k fa fd [x] (sp w)) (hsp:∀(w:World) (H:Hp) (a:Addr) (ns:List Int),ns.length<=n->Only H->SqL (K w.params) H a (ns.map V.int)->sp w [.ref a] H (λv _=>v=.bl true) λ_ _ _=>False) (hCX:∀(w:World) (H:Hp) (s:Shared) (e:Value) (s':Shared),CX w [] H s (λ_ _ _=>False) e s'->False) :
  W.WalkO q loose XP YP l.row.toRowW d [] (λf vs=>PySem.call f vs):=by
 refine Att.wU hn hdf λw t m mg O fa o L M I a vs ns G y N J B p j i c C=>?_;have r:=hY w _ y;obtain ⟨fd,D,z⟩:=F w mg fa _ r G.T.g p;exact wB r G.T.g G.T.b G.T.builtins G.T.nolimit C j i (An c hn2) hr z D (λH A E=>hsp w H a ns c A E) λH e s'=>hCX w H m e s'
abbrev E0:XK:=λ_ _ _=>False
structure Fun(K:W.Frag)(x qual:Str)(st:Stmt)(f:Addr)(fd:FuncData):Prop where
 ex:∃(oc:Value) (od:Option Addr) (kV doc pm:Value) (an:Option Addr) (cdv ct:Value) (osl:Array (Option Value)),
  fd=W.fnOf x qual (Jl st) (Ew st) (BV st) .none kV doc pm an cdv ct/\K.lookup f=some ⟨oc,od,.func fd,osl⟩/\W.codeIn K cdv qual=true
 kp:W.keepIn K (.ref f)=true
section
variable{P:Program}{w:World}{K:W.Frag}{mg:Str->Option Value}{base:Heap}
def Fun.binds{x qual:Str}{st:Stmt}{f:Addr}{fd:FuncData}{ps:List Str}(F:Fun K x qual st f fd)(h:∀(kV doc pm:Value) (an:Option Addr) (cdv ct:Value) (us:List Value),us.length=ps.length->bindArgs (W.fnOf x qual (Jl st) (Ew st) (BV st) .none kV doc pm an cdv ct) ⟨us,[]⟩=pure (ps.zip us)):Binds K fd ps []:=by
 obtain ⟨e,c,kV,doc,pm,an,cdv,ct,b,rfl,d,a⟩:=F.ex;exact .all (h kV doc pm an cdv ct)
def Cv{x qual:Str}{st:Stmt}{f:Addr}{oc:Value}{od an:Option Addr}{osl:Array (Option Value)}{kV doc pm cdv ct:Value}(l:K.lookup f=some ⟨oc,od,.func (W.fnOf x qual (Jl st) (Ew st) (BV st) .none kV doc pm an cdv ct),osl⟩)(c:W.codeIn K cdv qual=true)(k:W.keepIn K (.ref f)=true):Fun K x qual st f (W.fnOf x qual (Jl st) (Ew st) (BV st) .none kV doc pm an cdv ct):=⟨⟨oc,od,kV,doc,pm,an,cdv,ct,osl,rfl,l,c⟩,k⟩
end
def Same(H H':Hp):Prop:=∀b o,H b=some o->H' b=some o
def Same.refl(H):Same H H:=λ_ _ h=>h
def Same.trans(a:Same H H1)(b:Same H1 H2):Same H H2:=λc o h=>b c o (a c o h)
def Same.free(e:Same H H')(h:H' l=Option.none):H l=Option.none:=by
 cases q:H l with
 | none=>rfl
 | some o=>
  rw [e l o q] at h;cases h
def Same.seq{K:W.Frag}{H H':Hp}{a:Addr}{xs:List V}(e:Same H H')(h:SqL K H a xs):SqL K H' a xs:=by
 rcases h with (h | ⟨o,h⟩) | h
 .exact .inl (.inl (e _ _ h))
 .exact .inl (.inr ⟨o,e _ _ h⟩)
 .exact .inr h
end L2
section
variable{X:L2.Cx}{Y:L2.St}{H:L2.Hp}{s:PySem.Shared}{pins:List (PySem.Addr×PySem.Obj)}{us:List PySem.Value}{pos spos cpos pos':PySem.Pos}{A:PySem.Around}{i n k j:Nat}{e:PySem.Expr}{w:PySem.World}{P:PySem.Program}{K:W.Frag}{x:PySem.Str}{xs:List L2.V}{mg:PySem.Str->Option PySem.Value}{base:PySem.Heap}{ps N:List PySem.Str}{es:List PySem.Expr}{te:L2.TE}{fd:PySem.FuncData}
namespace L2
section
def gH:OpR X (binaryOp .Mult) (rI IntMulOk λi j=>.int (i*j)):=opI λ_ _ _ _ _ _ _ a q=>mul_int q a
def U3(_ j:Int):Prop:=j≠0/\j.natAbs.log2<9000
def Zpw:OpR X (binaryOp .FloorDiv) (rI U3 λi j=>.int (i.fdiv j)):=opI λ_ _ _ _ _ _ _ a q=>floordiv_int a.1 q (.inl (PyProof.noPylong_of_log2 a.2))
def yH{n:String}(hg:Gl X x)(hm:X.mg x=none)(hv:bootBuiltins x=some (.type n))(hn:x ≠ "__name__":=by decide)(hd:ND x:=by decide):PE X (.Name x pos) (tC (.ty n)) :=
 jP hg hm hv rfl hn hd
end
def pH:bootBuiltins "abs"=some (.builtin "abs"):=by decide +kernel
def Kz:bootBuiltins "all"=some (.builtin "all"):=by decide +kernel
def pX:bootBuiltins "isinstance"=some (.builtin "isinstance"):=by decide +kernel
def J6:bootBuiltins "len"=some (.builtin "len"):=by decide +kernel
def gG:bootBuiltins "max"=some (.builtin "max"):=by decide +kernel
def V9:bootBuiltins "int"=some (.type "int"):=by rfl
def qy:bootBuiltins "bool"=some (.type "bool"):=by decide +kernel
def Ij:bootBuiltins "tuple"=some (.type "tuple"):=by decide +kernel
def cJ:bootBuiltins "list"=some (.type "list"):=by decide +kernel
def Hf:bootBuiltins "str"=some (.type "str"):=by decide +kernel
def sI:bootBuiltins "zip"=some (.type "zip"):=by decide +kernel
def v9:bootBuiltins "enumerate"=some (.type "enumerate"):=by decide +kernel
def oU(K)(t):W.kitOne K t t=some true:=by
 unfold W.kitOne
 lia
def jd(K)(hne:(Value.type T==Value.type U0)=false)(hm:W.kitMeta U0=true)(h:(fastBuiltinMro T).map (·.contains (Value.type U0))=some b):W.kitOne K (.type T) (.type U0)=some b:=by
 unfold W.kitOne;rw [iN (by lia)];show (if W.kitMeta U0=true then _ else none)=_
 rw [iP hm];exact h
mutual
inductive DV(K:W.Frag)(H:Hp):V->PyData->Prop
 | non:DV K H .non .none
 | bl (b:Bool):DV K H (.bl b) (.bool b)
 | int (i:Int):DV K H (.int i) (.int i)
 | str (x:Str):DV K H (.str x) (.str x)
 | tup {a:Addr} {xs:List V} {ds:List PyData} (h:SqT K H a xs) (r:DVs K H xs ds):DV K H (.ref a) (.tuple ds)
 | lst {a:Addr} {xs:List V} {ds:List PyData} (h:SqL K H a xs) (r:DVs K H xs ds):DV K H (.ref a) (.list ds)
inductive DVs(K:W.Frag)(H:Hp):List V->List PyData->Prop
 | nil:DVs K H [] []
 | cons {x:V} {xs:List V} {d:PyData} {ds:List PyData} (h:DV K H x d) (r:DVs K H xs ds):DVs K H (x::xs) (d::ds)
end
section
mutual
def DV.reads(I:Inv X pins Y H s){x:V}{d:PyData}{u:Value}(h:DV X.K H x d)(r:RelV x u):∃as,Reads s.heap u d as:=by
 cases h with
 | non=>cases r;exact ⟨_,.none⟩
 | bl b=>cases r;exact ⟨_,.bool b⟩
 | int i=>obtain ⟨t,rfl⟩:=r;exact ⟨_,.int i t⟩
 | str i=>obtain ⟨t,rfl⟩:=r;exact ⟨_,.str i t⟩
 | tup h q=>
  cases r;obtain ⟨g,a,⟨o,e,f,n,c⟩,_⟩:=I.tuple h;obtain ⟨as,j⟩:=DVs.reads I q a;exact ⟨_,.tuple e f c (by trivial)⟩
 | lst h q=>
  cases r;obtain ⟨g,a,k,_⟩:=I.list h;obtain ⟨o,e,f,n,c⟩:=k.isList;obtain ⟨as,j⟩:=DVs.reads I q a;exact ⟨_,.list e f c (by trivial)⟩
def DVs.reads(I:Inv X pins Y H s){xs:List V}{ds:List PyData}{us:List Value}(h:DVs X.K H xs ds)(r:Vals xs us):∃as,ReadsAll s.heap us ds as:=by
 cases h with
 | nil=>cases r;exact ⟨_,.nil⟩
 | cons h q=>
  cases r with
  | cons r1 r2=>
   obtain ⟨as,b⟩:=DV.reads I h r1;obtain ⟨c,a⟩:=DVs.reads I q r2;exact ⟨_,.cons b a⟩
end
end
section
def rEqD(K:W.Frag)(f:Bool->Bool):R2:=λx y H Q=>∃a b,DV K H x a/\DV K H y b/\a.canLay0=true/\b.canLay0=true/\a.depth<=60/\Q (.bl (f (PyData.eqv a b))) H
def Th(hu:X.A.units+64<cLine):OpR X (compareOp .Eq) (rEqD X.K id):=by
 intro a s Y H x y v u Q I f g h;obtain ⟨l,o,e,c,j,b,m,q⟩:=h;obtain ⟨n,d⟩:=e.reads I f;obtain ⟨k,i⟩:=c.reads I g;exact PySem.SeqAt.compareEq_reads d i j b (by omega) (RZ I q rfl)
def NZ(hu:X.A.units+64<cLine):OpR X (compareOp .NotEq) (rEqD X.K not):=by
 intro a s Y H x y v u Q I f g h;obtain ⟨l,o,e,c,j,b,m,q⟩:=h;obtain ⟨n,d⟩:=e.reads I f;obtain ⟨k,i⟩:=c.reads I g;exact PySem.SeqAt.compareNe_reads d i j b (by omega) (RZ I q rfl)
end
structure Def(K:W.Frag)(mg:Str->Option Value)(x:Str)(st:Stmt)(ps:List Str):Prop where
 ex:∃(f:Addr) (fd:FuncData),Fun K x x st f fd/\Binds K fd ps []/\mg x=some (.ref f)
def Cp(h:H p=none)(o):Same H (upd H p o):=λb u q=>by rw [Ai (BP q h)];exact q
end L2
namespace L2
def aV(ts:List Expr)(env:Env):Sem Bool:=match ts with
 | []=>pure true
 | c::_=>isTrue c env (eval c env)
def ju(elt target iter c)(scope)(pos)(it acc)(env) :
  compTurn (.ListComp elt [⟨target,iter,[c],0⟩] scope pos) 0 it acc env=(standAt iter.pos >>= λ_=>pyNext it >>= λr=>match r with
   | none=>pure (.done .next)
   | some v=>letOwnedTupleGo target it v >>= λ_=>assign target env v >>= λ_=>
    (forIn [c] true λ(c:Expr) (s:Bool)=>if s=true then (isTrue c env (eval c env) >>= λok=>pure (ForInStep.yield ok)) else pure (ForInStep.yield s)) >>= λs=>if s=true then
     (eval elt env >>= λx=>call (.builtin "list.append") [acc,x] >>= λ_=>pure ()) >>= λ_=>
      again (.compLoop (.ListComp elt [⟨target,iter,[c],0⟩] scope pos) 0 it acc env)
     else again (.compLoop (.ListComp elt [⟨target,iter,[c],0⟩] scope pos) 0 it acc env)):=by rfl
def xJ(hts:ts.length<=1)(I:Nat->Shared->Prop) (turn:∀n s,I n s->wpAny (model prog w) A (pyNext it) (λr s₁=>match r with
   | none=>R (.ok .next) s₁
   | some v=>wpAny (model prog w) A (letOwnedTupleGo target it v) (λ_ s1'=>wpAny (model prog w) A (assign target env v) (λ_ s₂=>wpAny (model prog w) A (aV ts env) (λb s2'=>if b=true then wpAny (model prog w) A (eval elt env) (λx s₃=>
     wpAny (model prog w) A (call (.builtin "list.append") [acc,x]) (λ_ s₄=>∃m,m<n/\I m s₄) (notedBy (model prog w) A env λe s'=>R (.error e) s') s₃)
     (notedBy (model prog w) A env λe s'=>R (.error e) s') s2' else ∃m,m<n/\I m s2') (notedBy (model prog w) A env λe s'=>R (.error e) s') s₂) (notedBy (model prog w) A env λe s'=>R (.error e) s') s1') (notedBy (model prog w) A env λe s'=>R (.error e) s') s₁) (notedBy (model prog w) A env λe s'=>R (.error e) s') s) (n:Nat) (h:I n s) :
  codeAny (model prog w) A (.compLoop (.ListComp elt [⟨target,iter,ts,0⟩] scope pos) 0 it acc env) R s:=by
 refine codeAny_loop rfl I (λn s l=>?_) n h;refine wpAny_noted ?_
 match ts,hts with
 | [],_=>
  refine Ac (wpAny_standAt (Ac (Cj (turn n s l) (λr s₁ f=>?_) λ_ _ d=>d)));cases r with
  | none=>exact Aj f
  | some v=>
   refine Ac (Cj f (λ_ s1' g=>?_) λ_ _ d=>d);refine Ac (Cj g (λ_ s₂ i=>?_) λ_ _ d=>d);show wpAny _ _ ((pure true:Sem Bool) >>= λb=>if b=true then ((eval elt env >>= λx=>call (.builtin "list.append") [acc,x] >>= λ_=>pure ()) >>= λ_=>again (.compLoop (.ListComp elt [⟨target,iter,[],0⟩] scope pos) 0 it acc env)) else again (.compLoop (.ListComp elt [⟨target,iter,[],0⟩] scope pos) 0 it acc env)) _ _ s₂
   refine Ac (Cj i (λb s2' a=>?_) λ_ _ d=>d);cases b with
   | true=>
    exact Ac (Ac (Cj a (λx s₃ j=>Ac (Cj j (λ_ s₄ k=>Aj (Aj ⟨rfl,k⟩)) λ_ _ d=>d)) λ_ _ d=>d))
   | false=>
    exact Aj ⟨rfl,a⟩
 | [c],_=>
  rw [ju];refine Ac (wpAny_standAt (Ac (Cj (turn n s l) (λr s₁ f=>?_) λ_ _ d=>d)));cases r with
  | none=>exact Aj f
  | some v=>
   refine Ac (Cj f (λ_ s1' g=>?_) λ_ _ d=>d);refine Ac (Cj g (λ_ s₂ i=>?_) λ_ _ d=>d);rw [List.forIn_cons];refine Ac (Ac ?_);refine Ac (Cj i (λb s2' a=>Aj ?_) λ_ _ d=>d);refine Aj ?_;cases b with
   | true=>
    exact Ac (Ac (Cj a (λx s₃ j=>Ac (Cj j (λ_ s₄ k=>Aj (Aj ⟨rfl,k⟩)) λ_ _ d=>d)) λ_ _ d=>d))
   | false=>
    exact Aj ⟨rfl,a⟩
def Tj:∀names h acc n c,(n,c)∈PySem.cellsFrom h.objs.size names acc->(n,c)∈acc\/((PySem.pushCells h names).IsCell c none/\h.objs.size<=c)
 | [],_,_,_,_,hm=>.inl hm
 | (name,kind)::r,h,acc,n,c,hm=>by
  unfold PySem.cellsFrom at hm;unfold PySem.pushCells;split at hm
  .rename_i hk;rw [iP hk];have a:(n,c)∈PySem.cellsFrom (h.push { cls:=.type "cell",data:=.cell none }).objs.size r ((name,h.objs.size)::acc):=by simp_all
   rcases Tj r (h.push { cls:=.type "cell",data:=.cell none }) ((name,h.objs.size)::acc) n c a with z | ⟨z1,z2⟩
   .rcases Aq.mp z with e | z
    .cases e;exact .inr ⟨⟨_,PySem.pushCells_keeps r _ _ _ (By _ rfl),rfl⟩,Ar _⟩
    lia
   .rw [Eu] at z2
    lia
  .rename_i hk;rw [iN hk];exact Tj r h acc n c hm
def Sh:∀names k acc,(∀n c,(n,c)∈acc->c<k)->(∀n n' c,(n,c)∈acc->(n',c)∈acc->n=n')->∀n n' c,(n,c)∈PySem.cellsFrom k names acc->(n',c)∈PySem.cellsFrom k names acc->n=n'
 | [],_,_,_,hi,n,n',c,h1,h2=>hi n n' c h1 h2
 | (name,kind)::r,k,acc,hl,hi,n,n',c,h1,h2=>by
  unfold PySem.cellsFrom at h1 h2;split at h1
  .rename_i hk;rw [iP hk] at h2;refine Sh r (k+1) ((name,k)::acc) (λm d a=>?_) (λm e d a b=>?_) n n' c h1 h2
   .grind
   grind
  .rename_i hk;rw [iN hk] at h2;exact Sh r k acc hl hi n n' c h1 h2
def Vv:∀names k acc,(∀y∈names,y.2=.cell->y.1≠x)->(PySem.cellsFrom k names acc).lookup x=acc.lookup x
 | [],_,_,_=>rfl
 | (name,kind)::r,k,acc,h=>by
  unfold PySem.cellsFrom;split
  .rename_i hk;rw [Vv r (k+1) _ λy a=>h y (Bp _ a)];have b:name≠x:=h (name,kind) Bf (by lia)
   grind
  .exact Vv r k acc λy a=>h y (Bp _ a)
def Tn:∀names k acc,((acc.lookup x).isSome=true\/(x,NameKind.cell)∈names)->((PySem.cellsFrom k names acc).lookup x).isSome=true
 | [],_,_,h=>by
  rcases h with h | h
  .exact h
  grind
 | (name,kind)::r,k,acc,h=>by
  unfold PySem.cellsFrom;split
  .rename_i hk;refine Tn r (k+1) _ ?_
   grind
  .rename_i hk;refine Tn r k acc ?_
   grind
def n8{M:Model}{E:Value->Shared->Prop}{scope:Scope}{globals:Addr}{closure:List (Str×Addr)}{qual:Str}{func:Option Addr}{code:Value}{outer:Env}{builtins:Addr}{Q:Env->Shared->Prop} (hQ:∀h',h'.Ns s.heap.objs.size (λ_=>none)->(∀b o,s.heap.get? b=some o->h'.get? b=some o)->(∀n c,(n,c)∈PySem.cellsFrom (s.heap.objs.size+1) scope.names closure->(n,c)∈closure\/(h'.IsCell c none/\s.heap.objs.size+1<=c)) ->
   Q (newEnv scope s.heap.objs.size globals (PySem.cellsFrom (s.heap.objs.size+1) scope.names closure) qual func code (some outer) builtins) { s with heap:=h' }) :
  wpAny M A (newFunctionEnv scope globals closure [] qual func code (some outer) builtins) Q E s:=by
 simp only [newFunctionEnv,Option.isSome_some,GD];refine Ac (wpAny_alloc ?_);refine Ac (wpAny_layCells _ (λf d a=>by rfl) _ _ _ _ ?_);rw [show ({ s with heap:=s.heap.push { cls:=.type "dict",data:=.dict #[] } }:Shared).heap.objs.size=s.heap.objs.size+1 from Eu ..]
 refine Ac (Aj (Aj ?_));refine hQ _ ((Heap.Ns.new s.heap (.type "dict")).keeps (PySem.pushCells_keeps _ _)) (λb o e=>PySem.pushCells_keeps _ _ b o (BJ _ e)) λn c g=>?_;have z:=Tj scope.names (s.heap.push { cls:=.type "dict",data:=.dict #[] }) closure n c (by rw [Eu];exact g);rwa [Eu] at z
def PTs(X:Cx)(ts:List Expr)(tt:TT):Prop :=
 ∀a s Y H Q,Inv X a Y H s->tt Y H Q->wX X (aV ts X.env) (TP X a Y Q) X.xe s
def tYes:TT:=λ_ H Q=>Q true H
def ni:PTs X [] tYes:=λ_ _ _ H _ I h=>Aj ⟨H,I,h⟩
def BW(X:Cx)(N:List Str)(scope:Scope)(cl:List (Str×Addr))(C:Addr)(s₂:Shared)(H₂:Hp)(fp:List Addr)(pn:List (Addr×Obj)):Cx :=
 { X with N:=N,s₀:=s₂,H₀:=H₂,env:=compEnvC scope (PySem.cellsFrom (C+1) scope.names cl) C X.env,outer:=X.stack,ex:=fp,fn:=λx=>scope.names.lookup x==some .cell,pn:=pn,xe:=λ_ _=>False }
def Ke(X:Cx)(sc:Scope)(cl:List (Str×Addr)):List (Str×Nat)->Prop
 | []=>True
 | p::r=>(X.N[p.2]?=some p.1/\X.env.scope.names.lookup p.1=some .cell/\(sc.names.lookup p.1=some .cell)/\∃c,cl.lookup p.1=some c/\X.env.cells.lookup p.1=some c)/\Ke X sc cl r
def Ke.get:∀{cap:List (Str×Nat)} {j:Nat} {p:Str×Nat},Ke X sc cl cap->cap[j]?=some p ->
  X.N[p.2]?=some p.1/\X.env.scope.names.lookup p.1=some .cell/\(sc.names.lookup p.1=some .cell)/\∃c,cl.lookup p.1=some c/\X.env.cells.lookup p.1=some c
 | [],_,_,_,e=>by simp at e
 | _::_,0,_,h,e=>by simp at e;subst e;exact h.1
 | _::_,j+1,_,h,e=>Ke.get (j:=j) h.2 (by trivial)
def capt(Y:St)(cap:List (Str×Nat)):St:=cap.map λp=>(Y[p.2]?).join
def st0(own:List Str)(Y:St)(cap:List (Str×Nat)):St:=List.replicate own.length none++capt Y cap
def TQ(J:It)(g:TG)(tt:TT)(te:TE)(own:List Str)(cap:List (Str×Nat))(Y:St)(Q:VK)(H1:Hp):Prop:=∃W:Nat->Nat->List V->Hp->Prop,(∃m,W 0 m [] H1)/\∀i m a H,W i m a H->a.length<=sizeLine /\
 ((J.stop i H/\∀p,H p=none->Q (.ref p) (upd H p (.lst a))) \/
  (J.go i H/\∀x f,J.yld i H x f->g x (st0 own Y cap) f λd h=>d.drop own.length=capt Y cap/\tt d h λb e=>if b=true then te d e λv j=>a.length<sizeLine/\∃c,c<m/\W (i+1) c (a++[v]) j else ∃c,c<m/\W (i+1) c a e))
abbrev Fam(α:Type):=Addr->Shared->Hp->List Addr->List (Addr×Obj)->α
def O4(wi:TI)(g:Fam TG)(tt:Fam TT)(te:Fam TE)(own:List Str)(cap:List (Str×Nat)):TE:=λY H Q=>wi Y H λJ d=>∀C s a b c,TQ J (g C s a b c) (tt C s a b c) (te C s a b c) own cap Y Q d
structure Gd(X:Cx)(own:List Str)(cap:List (Str×Nat))(scope:Scope)(cl:List (Str×Addr)):Prop where
 clos:closureFor scope X.env=pure cl
 kind:scope.kind=.function
 nown:∀x c,(x,c)∈cl->∀y∈scope.names,y.2=.cell->y.1≠x
 locals:∀y∈scope.names,y.2=.local->scope.names.lookup y.1=some .local
 sub:∀x c,(x,c)∈cl->X.env.cells.lookup x=some c
 has:∀k x,((relabel scope X.env).names.lookup x=some .cell\/(relabel scope X.env).names.lookup x=some .free)->∃c,(PySem.cellsFrom k scope.names cl).lookup x=some c
 cap:Ke X (relabel scope X.env) cl cap
section
variable {own:List Str} {cap:List (Str×Nat)} {scope:Scope} {cl:List (Str×Addr)} {fp:List Addr} {tg:Expr} {J:It} {it:Addr} {tn:Nat->Heap->Prop}
def aR(e:(st0 own Y cap)[i]?=some (some v)):∃j p,i=own.length+j/\cap[j]?=some p/\Y[p.2]?=some (some v):=by
 unfold st0 at e;by_cases hi:i<own.length
 .grind
 .rw [Fq (by simpa using hi),List.length_replicate] at e;unfold capt at e;rw [Cz] at e;cases q:cap[i - own.length]? with
  | none=>rw [q] at e;cases e
  | some p=>
   rw [q] at e;have a:(Y[p.2]?).join=some v:=Fy e;refine ⟨i - own.length,p,by omega,q,?_⟩;cases z:Y[p.2]? with
   | none=>rw [z] at a;cases a
   | some o=>rw [z] at a;have b:o=some v:=a;rw [b]
def Inv.comp(I:Inv X pins Y H s)(O:Gd X own cap scope cl)(T:Turn X.prog X.w X.K tg J fp it tn)(st:tn 0 s.heap)(f:∀b∈fp,FpOk X pins H b)(hC:s.heap.objs.size<=C)(k:∀b o,s.heap.get? b=some o->h'.get? b=some o)(hn:h'.Ns C m)(hx:∀n c,(n,c)∈PySem.cellsFrom (C+1) scope.names cl->(n,c)∈cl\/(h'.IsCell c none/\C+1<=c)) :
  Inv (BW X (own++cap.map (·.1)) scope cl C s H fp (X.pn++pins)) [] (st0 own Y cap) H { s with heap:=h',toks:=t' }:=by
 have F:∀{b:Addr} {o:Obj},s.heap.get? b=some o->b≠C:=λe=>Bm (Bv (BX e) hC);have a:=λx c e=>I.cell x c (O.sub x c e);have M:∀x c,(x,c)∈cl->c<C+1:=λx c e=>by
  obtain ⟨v,o,A,_⟩:=a x c e;exact Nat.lt_succ_of_le (Lj (Bv (BX A) hC))
 have D:∀b∈fp,b≠C:=λb g=>by
  obtain ⟨o,e,_⟩:=T.obj _ _ st b g
  grind
 refine ⟨⟨I.ok.mod,O.kind,I.ok.glob,I.ok.blt,hC,λx y c B t=>Sh scope.names (C+1) cl M (λn N c Q S=>I.ok.inj n N c (O.sub n c Q) (O.sub N c S)) x y c (Ej B) (Ej t),O.has (C+1),λx c B t=>?_,I.ok.hd,I.ok.frames,.inl rfl,λb g=>⟨D b g,λx c e=>?_⟩,I.bs,An I.ok.bsz I.sz,λb o e g=>?_,λb g z=>?_,I.stack,I.stkFree⟩,
  rfl,I.bare,Un.kept k,⟨m,hn,λi x v B t e3=>?_⟩,λx c e=>?_,?_,λx c e=>?_,λp E=>?_,I.hok.kept k,?_⟩
 .have h:scope.names.lookup x=some .cell:=by simpa [BW] using B
  rcases hx x c (Ej t) with z | ⟨_,z⟩
  .exact aB rfl (O.nown x c z (x,.cell) (Ej h) rfl)
  .exact An hC (Nat.le_of_succ_le z)
 .rcases hx x c (Ej e) with z | ⟨_,z⟩
  .exact (f b g).2.2.2.2.1 x c (O.sub x c z)
  .obtain ⟨o,eo,_⟩:=T.obj _ _ st b g;exact Ib (Bv (Bv (BX eo) hC) (Nat.le_of_succ_le z))
 .rcases (f b g).2.2.2.1 with z | z
  .exact I.ok.noex b o e z
  .exact aB (Bv (BX (I.ok.bs b o e).1) z) (J2 _)
 .rcases Aq.mp (I.stkSub b z) with q | q
  .exact (f b g).2.1 q
  .exact (f b g).2.2.1 q
 .obtain ⟨j,p,rfl,E,hs⟩:=aR t;obtain ⟨W,R,V,c,P,U⟩:=O.cap.get E;have h:(own++cap.map (·.1))[own.length+j]?=some x:=B;rw [Fq (Nat.le_add_right _ _),Nat.add_sub_cancel_left,Cz,E] at h;have ex:=Fy h;subst ex;obtain ⟨m2,_,hl⟩:=I.loc;obtain ⟨u,r,l⟩:=hl p.2 p.1 v W hs (.inr (.inl R));refine ⟨u,r,.inr ⟨.inl V,c,(Vv scope.names (C+1) cl λy hy hk=>O.nown p.1 c (Ej P) y hy hk).trans P,?_⟩⟩;rcases l with ⟨z,_⟩ | ⟨_,c',z,⟨o,A,G⟩⟩
  .have z':X.env.scope.names.lookup p.1=some .local:=z
   lia
  .rw [U] at z;cases z;exact ⟨o,k _ _ A,G⟩
 .rcases hx x c (Ej e) with z | ⟨z,_⟩
  .obtain ⟨v,o,A,G⟩:=a x c z;exact ⟨v,o,k _ _ A,G⟩
  grind
 .exact I.hok.fresh hC
 .rcases hx x c (Ej e) with z | ⟨_,z⟩
  .exact I.freeC x c (O.sub x c z)
  .exact I.hok.fresh (An hC (Nat.le_of_succ_le z))
 .have L:p∈X.pn++pins:=by simpa [BW] using E
  obtain ⟨e,n,ne,Z,d⟩:=I.pin p L;exact ⟨k _ _ e,n,F e,λz=>(Aq.mp (I.stkSub p.1 z)).elim ne Z,d⟩
 .show (st0 own Y cap).length=(own++cap.map (·.1)).length;unfold st0 capt;simp
def ZV{elt iter:Expr}{ts:List Expr}{gF:Fam TG}{ttF:Fam TT}{teF:Fam TE}{E:Value->Shared->Prop}(O:Gd X own cap scope cl)(hc:X.calm=true)(hgF:∀C s H fp pn,PG (BW X (own++cap.map (·.1)) scope cl C s H fp pn) tg (gF C s H fp pn))(htF:∀C s H fp pn,PTs (BW X (own++cap.map (·.1)) scope cl C s H fp pn) ts (ttF C s H fp pn))(heF:∀C s H fp pn,PE (BW X (own++cap.map (·.1)) scope cl C s H fp pn) elt (teF C s H fp pn))(hts:ts.length<=1)(I2:Inv X pins Y H s)(T:Turn X.prog X.w X.K tg J fp it tn)(st2:tn 0 s.heap)(f2:∀b∈fp,FpOk X pins H b){Q:VK}(hw:∀C s H2 fp pn,TQ J (gF C s H2 fp pn) (ttF C s H2 fp pn) (teF C s H2 fp pn) own cap Y Q H){R:Value->Addr->Result->Shared->Prop} (fin:∀(D C:Addr) (H':Hp) (s':Shared) (m:Str->Option Value),s.heap.objs.size<=C->s'.heap.Ns C m->H' C=none ->
   (∀h',Heap.SameBut C s'.heap h'->Inv X pins Y H' { s' with heap:=h' })->Q (.ref D) H'->R (.ref D) C (.ok .next) s') :
  wX X (newList []) (λacc s₃=>wX X (newFunctionEnv scope X.env.globals cl [] X.env.qual none .none (some X.env)) (λcenv s₄=>
   codeAny (model X.prog X.w) X.A (.compStart (.ListComp elt [⟨tg,iter,ts,0⟩] scope pos) 0 (.ref it) acc { cenv with scope:=relabel scope X.env }) (R acc cenv.locals) s₄) E s₃) E s:=by
 refine Im (n8 (λh F g f=>?_));generalize hHh:s.heap.push { cls:=.type "list",dict:=none,data:=.seq ([]:List Value).toArray }=Hh at F g f ⊢;have hCs:Hh.objs.size=s.heap.objs.size+1:=by rw [<-hHh,Eu]
 generalize hCC:Hh.objs.size=C at F f hCs ⊢;generalize hDD:s.heap.objs.size=D at hCs ⊢;have t:D<C:=by omega
 have hDC:=Bm t;have hsD:=Nat.le_of_eq hDD;have hsC:s.heap.objs.size<=C:=by omega
 have L:∀{b:Addr} {o:Obj},s.heap.get? b=some o->b<D:=λe=>by rw [<-hDD];exact BX e
 have old:∀b o,s.heap.get? b=some o->h.get? b=some o:=λb o e=>by
  refine g b o ?_;rw [<-hHh];exact BJ _ e
 have hD0:h.PlainList D #[]:=by
  have z:Hh.get? D=some { cls:=.type "list",dict:=none,data:=.seq ([]:List Value).toArray }:=by
   rw [<-hHh,<-hDD];exact By _ rfl
  exact ⟨_,g D _ z⟩
 obtain ⟨W,⟨m0,w0⟩,turn⟩:=hw C s H fp (X.pn++pins);have hg:=hgF C s H fp (X.pn++pins);have ht:=htF C s H fp (X.pn++pins);have he:=heF C s H fp (X.pn++pins);have I':Inv (BW X (own++cap.map (·.1)) scope cl C s H fp (X.pn++pins)) [] (st0 own Y cap) H { s with heap:=h,toks:=s.toks }:=(I2.comp O T st2 f2 hsC old F f)
 have cne:∀x c,(PySem.cellsFrom (C+1) scope.names cl).lookup x=some c->(∃v,s.heap.IsCell c v/\X.env.cells.lookup x=some c)\/C<c:=λx c e=>by
  rcases f x c (Ej e) with z | ⟨_,z⟩
  .obtain ⟨v,hv⟩:=I2.cell x c (O.sub x c z);exact .inl ⟨v,hv,O.sub x c z⟩
  lia
 have st':=T.keep _ _ _ st2 λb hb o e=>old b o e;have nofr:∀{a:Addr},s.heap.objs.size<=a->a∉frs X.stack:=λ{a} ha z=>by
  rcases Aq.mp (I2.stkSub a z) with q | q
  .exact aB (Bv I2.lt ha) (by lia)
  .exact I2.nofs ha q
 have U:∀b∈fp,b<D:=λb hb=>by
  obtain ⟨o,e,_⟩:=T.obj _ _ st2 b hb
  grind
 have fpk:∀{N:Hp} {S:Obj},(∀b∈fp,N b=none)->∀b∈fp,FpOk (BW X (own++cap.map (·.1)) scope cl C s H fp (X.pn++pins)) [(D,S)] N b:=λ{N S} hn b hb=>by
  obtain ⟨_,f1,f3,f4,f5,f6⟩:=f2 b hb;have lb:=U b hb;refine ⟨hn b hb,(Bm (Fp lb t)),λz=>?_,.inl hb,λx c e=>?_,λp hp=>?_⟩
  .rcases Aq.mp (I2.stkSub b z) with q | q
   .lia
   trivial
  .rcases cne x c e with ⟨_,_,z⟩ | z
   .grind
   lia
  .rcases CK.mp hp with z | z
   .exact f6 p z
   grind
 have loop:∀s₃:Shared,s₃={ s with heap:=h } ->
   codeAny (model X.prog X.w) X.A (.compLoop (.ListComp elt [⟨tg,iter,ts,0⟩] scope pos) 0 (.ref it) (.ref D) (compEnvC scope (PySem.cellsFrom (C+1) scope.names cl) C X.env)) (R (.ref D) C) s₃:=by
  rintro s₃ rfl
  refine xJ hts (λn s'=>∃(i:Nat) (acc:List V) (d:List Value) (H':Hp),Inv (BW X (own++cap.map (·.1)) scope cl C s H fp (X.pn++pins)) [] (st0 own Y cap) H' s'/\tn i s'.heap/\(∀b∈fp,H' b=none)/\H' D=none /\
   s'.heap.PlainList D d.toArray/\Vals acc d/\W i n acc H') ?_ m0 ⟨0,[],[],H,I',st',λb hb=>(f2 b hb).1,I2.hok.fresh hsD,hD0,.nil,w0⟩
  rintro n s3 ⟨i,acc,d,N,I3,st3,fr3,nD,⟨Z,hD⟩,rv,w3⟩;obtain ⟨hlen,hturn⟩:=turn i n acc N w3;have lenV:=rv.length;have pinD:∀{s5:Shared} {H5:Hp},s5.heap.get? D=some { cls:=.type "list",data:=.seq d.toArray Z }->H5 D=none->∀p∈[(D,({ cls:=.type "list",data:=.seq d.toArray Z }:Obj))],s5.heap.get? p.1=some p.2/\H5 p.1=none/\p.1≠C/\p.1∉frs X.stack/\∀v,p.2.data≠.cell v:=by
   simp_all
  have I3p:=I3.pins_of (pinD hD nD);rcases hturn with ⟨stop,qn⟩ | ⟨go,step⟩
  .refine Cj (T.done (BW X (own++cap.map (·.1)) scope cl C s H fp (X.pn++pins)) rfl rfl rfl hc i _ s3 _ N (λ_ _=>False) I3p (fpk fr3) st3 stop) (λr s4 h4=>?_) (λ_ _ z=>z.elim);obtain ⟨hr,k⟩:=h4;subst hr;obtain ⟨m4,hm4,_⟩:=k.loc;have hD4:=(k.pin (D,{ cls:=.type "list",data:=.seq d.toArray Z }) (CZ _ (by simp))).1;have nC:=k.free;refine fin D C (upd N D (.lst acc)) s4 m4 hsC hm4 (by rw [Ai (Ne.symm hDC)];exact nC) (λh' sb=>?_) (qn D nD);have kc:=λb o hb e=>sb.extBut b o hb e;have neD:∀{b:Addr} {o:Obj},s.heap.get? b=some o->b≠D:=λe=>Bm (L e);have neC:∀{b:Addr} {o:Obj},s.heap.get? b=some o->b≠C:=λe=>Bm (Fp (L e) t);refine I2.call' (ch:=fp) k.os ⟨?_,?_,?_,?_,?_,?_,?_⟩ (λa o e=>?_) k.bare (λb hb=>?_)
   .exact λb o e n hb hx=>kc b o (neC e) (k.base.keep b o e n hb hx)
   .intro b o e n hb hx;obtain ⟨sl,q⟩:=k.base.slot b o e n hb hx;simp_all
   .intro b o e n hx;rw [Ai (neD e)];exact k.base.free b o e n hx
   .intro b o e hx;obtain ⟨o',q⟩:=k.base.there b o e hx;exact ⟨o',kc b _ (neC e) q⟩
   .intro b xs e;have q:=k.base.tups b xs e;rw [Ai (BP q nD)];exact q
   .intro b o u e;have q:=k.base.frzs b o u e;rw [Ai (BP q nD)];exact q
   .intro b ps e;obtain ⟨more,q⟩:=k.base.tbls b ps e;exact ⟨more,by rw [Ai (BP q nD)];exact q⟩
   .by_cases ha:a=D
    .subst ha;rw [Ay] at e;cases e;exact ⟨hlen,d,Z,rv,kc _ _ hDC hD4⟩
    .rw [Ai ha] at e;refine (k.hok a o e).stay (λb u hb q=>kc b u ?_ q) (λb q=>?_) (λb xs q=>?_)
     .rcases hb with rfl | hb
      .exact BP e nC
      .exact BP hb nC
     .rw [Ai (BP q nD)];exact q
     .rw [Ai (BP q nD)];exact q
   .obtain ⟨_,f1,_,f4,f5,f6⟩:=f2 b hb;trivial
  .refine Cj (T.item (BW X (own++cap.map (·.1)) scope cl C s H fp (X.pn++pins)) rfl rfl rfl hc i _ s3 _ N (λ_ _=>False) I3p (fpk fr3) st3 go) (λr s4 h4=>?_) (λ_ _ z=>z.elim);obtain ⟨u,hr,h4⟩:=h4;subst hr;refine Cj h4 (λ_ s5 h5=>?_) (λ_ _ z=>z.elim);obtain ⟨x,H5,I5,r5,y5,G,fr5⟩:=h5;have I5':=I5.pinned (fpk fr5) (T.obj _ _ G);refine Cj (hg _ s5 _ H5 x u _ I5' r5 (step x H5 y5)) (λ_ s6 h6=>?_) (λ_ _ z=>z.elim);obtain ⟨Y6,H6,I6,e6,q6⟩:=h6;refine Cj (ht _ s6 Y6 H6 _ I6 q6) (λbb s6' h6'=>?_) (λ_ _ z=>z.elim);obtain ⟨H6',B,q6'⟩:=h6';have P:∀{M:Hp} {s7:Shared},Inv (BW X (own++cap.map (·.1)) scope cl C s H fp (X.pn++pins)) [] Y6 M s7->Inv (BW X (own++cap.map (·.1)) scope cl C s H fp (X.pn++pins)) [] (st0 own Y cap) M s7:=λ{M s7} I8=>by
    refine I8.weak (I'.len.trans I8.len.symm) (λj v e=>?_);obtain ⟨l,p,rfl,hp,hs⟩:=aR e;have q:(Y6.drop own.length)[l]?=some (some v):=by
     rw [e6];unfold capt;simp_all
    grind
   cases bb with
   | false=>
    obtain ⟨m',hm,w7⟩:=q6';obtain ⟨hD7,I,_⟩:=B.pin (D,{ cls:=.type "list",data:=.seq d.toArray Z }) (CZ _ (by simp));have st7:=T.keep _ _ _ G λb hb o e=>(B.pin (b,o) (CZ _ (CZ _ (Ky hb e)))).1;have fr7:∀b∈fp,H6' b=none:=λb hb=>by
     obtain ⟨o,e,_⟩:=T.obj _ _ G b hb;exact (B.pin (b,o) (CZ _ (CZ _ (Ky hb e)))).2.1
    exact ⟨m',hm,i+1,acc,d,H6',P (B.pins_of λp hp=>nomatch hp),st7,fr7,I,⟨Z,hD7⟩,rv,w7⟩
   | true=>
   refine Cj (he _ s6' Y6 H6' _ B q6') (λy s7 h7=>?_) (λ_ _ z=>z.elim);obtain ⟨v,M,I7,r7,hl7,m',hm,w7⟩:=h7;obtain ⟨hD7,I,_⟩:=I7.pin (D,{ cls:=.type "list",data:=.seq d.toArray Z }) (CZ _ (by simp));have st7:=T.keep _ _ _ G λb hb o e=>(I7.pin (b,o) (CZ _ (CZ _ (Ky hb e)))).1;have fr7:∀b∈fp,M b=none:=λb hb=>by
    obtain ⟨o,e,_⟩:=T.obj _ _ G b hb;exact (I7.pin (b,o) (CZ _ (CZ _ (Ky hb e)))).2.1
   refine wpAny_list_append_plain ⟨Z,hD7⟩ (λh8 hp8 hs8=>?_) (by simp_all);have I7w:Inv (BW X (own++cap.map (·.1)) scope cl C s H fp (X.pn++pins)) [] Y6 M s7:=I7.pins_of λp hp=>nomatch hp;have I8:Inv (BW X (own++cap.map (·.1)) scope cl C s H fp (X.pn++pins)) [] Y6 M { s7 with heap:=h8 }:=by
    refine I7w.turned (λb o hb e=>hs8.extBut b o hb e) I hDC (.inr hsD) (λx c e=>?_) (λp hp=>?_)
    .rcases cne x c e with ⟨v,⟨o,ho,_⟩,_⟩ | z
     .exact Bm (L ho)
     lia
    .have hp':p∈X.pn++pins:=by simpa [BW] using hp
     exact Bm (L (I2.pin p hp').1)
   have I9:=P I8;refine ⟨m',hm,i+1,acc++[v],d++[y],M,I9,T.keep _ _ _ st7 (λb hb o e=>hs8.extBut b o (Bm (U b hb)) e),fr7,I,?_,rv.append (.cons r7 .nil),w7⟩;simp_all
 exact codeAny_compStart_list (loop _ rfl) (T.self X.A 0 _ _ _ st' (loop _ rfl))
def zK{elt iter:Expr}{wi:TI}{ts:List Expr}{g:Fam TG}{tt:Fam TT}{te:Fam TE}(hi:PI X tg iter wi)(O:Gd X own cap scope cl)(hc:X.calm=true)(hg:∀C s H fp pn,PG (BW X (own++cap.map (·.1)) scope cl C s H fp pn) tg (g C s H fp pn))(ht:∀C s H fp pn,PTs (BW X (own++cap.map (·.1)) scope cl C s H fp pn) ts (tt C s H fp pn))(he:∀C s H fp pn,PE (BW X (own++cap.map (·.1)) scope cl C s H fp pn) elt (te C s H fp pn))(hts:ts.length<=1)(hs:∀x,foldedSetIterable iter X.env x=pure x:=by intro _;rfl):PE X (.ListComp elt [⟨tg,iter,ts,0⟩] scope pos) (O4 wi g tt te own cap):=by
 intro a s Y H Q I h;refine wpAny_comprehension_free rfl hs O.clos O.kind O.locals (thn (hi a s Y H _ I h) λw f c=>thn c λj e b=>?_);obtain ⟨B,fp,z,J,v,rfl,p,T,d,o,n⟩:=b;refine ZV O hc hg ht he hts p T d o n ?_;intro D C k A m u r y l q;exact ⟨m,r,λt i=>⟨.ref D,k,l t i,rfl,q⟩⟩
def qt{elt iter:Expr}{wi:TI}{ts:List Expr}{g:Fam TG}{tt:Fam TT}{te:Fam TE}(hN:X.N.Nodup)(hix:X.N[i]?=some x)(hx:Loc X.env.scope x)(hi:PI X tg iter wi)(O:Gd X own cap scope cl)(hc:X.calm=true)(hg:∀C s H fp pn,PG (BW X (own++cap.map (·.1)) scope cl C s H fp pn) tg (g C s H fp pn))(ht:∀C s H fp pn,PTs (BW X (own++cap.map (·.1)) scope cl C s H fp pn) ts (tt C s H fp pn))(he:∀C s H fp pn,PE (BW X (own++cap.map (·.1)) scope cl C s H fp pn) elt (te C s H fp pn))(hts:ts.length<=1)(hsw:swapsWith (.ListComp elt [⟨tg,iter,ts,0⟩] scope pos) (some (.Name x pos')) spos.line X.env=pure true:=by rfl)(hs:∀x,foldedSetIterable iter X.env x=pure x:=by intro _;rfl)(hf:X.fn x=true\/X.env.scope.names.lookup x=some .local:=by first | exact .inl rfl | exact .inr rfl | assumption):PS X (.Assign [.Name x pos'] (.ListComp elt [⟨tg,iter,ts,0⟩] scope pos) spos) (tAsg (O4 wi g tt te own cap) (Bs i)):=by
 intro a s Y H D I h;rw [exec_Assign_Name_used _ _ _ _ hsw];refine Ac (wpAny_standAt (Ac ?_))
 refine Ac (Cj (wpAny_comprehension_free rfl hs O.clos O.kind O.locals
  (thn (hi a s Y H _ I h) λxv L f=>thn f λQ G k=>?_)) (λ_ t hq=>Aj (Aj hq)) λ_ _ e=>e)
 obtain ⟨it,fp,tn,J,H2,rfl,d,T,l,f2,S⟩:=k;refine ZV O hc hg ht he hts d T l f2 S ?_;intro A C K t m j V hH IV q;have F:=IV t.heap (Heap.SameBut.refl ..);obtain ⟨B,Z,M,ho,R,W⟩:=id V;have n:=Ib (Bv d.lt j);have neF:=d.nofs j;have U:Inv X (a++[(C,B)]) Y K t:=F.pins_of λp w=>by
  rcases CK.mp w with z | z
  .exact F.pin p (CZ _ z)
  simp_all
 refine wpAny_assign_Name (T7 U hN hix hx (v:=.ref A) rfl (λs5 E=>?_) hf);have u:=(E.pin (C,B) (CZ _ (CZ _ (by simp)))).1;refine ⟨m,⟨B,Z,M,u,R,W⟩,λh' P=>⟨_,K,?_,q⟩⟩;refine (E.unpinned).turned (λb o hb e=>P.extBut b o hb e) hH n (.inr (An d.sz j)) (λy c e=>?_) (λp w=>?_)
 .obtain ⟨v,o,r,_⟩:=d.cell y c e;exact Bm (Bv (BX r) j)
 .exact Bm (Bv (BX (d.pin p w).1) j)
end
def RK(scope out:Scope):List (Str×NameKind):=scope.names.map λ(n,k)=>if (k==.free&&out.kind==.function&&out.names.lookup n==some .cell) then (n,.cell) else (n,k)
def WN(scope out:Scope)(cn:List Str):Bool :=
 scope.names.all (λy=>y.2 != .cell||!cn.contains y.1)&&scope.names.all (λy=>y.2 != .local||scope.names.lookup y.1==some .local)&&(RK scope out).all (λy=>!(y.2==.cell||y.2==.free)||cn.contains y.1||scope.names.contains (y.1,.cell))&&cn.all (λn=>out.names.lookup n==some .cell&&(RK scope out).lookup n==some .cell)
def O9(X:Cx):List (Str×Addr)->Prop
 | []=>True
 | p::r=>X.env.cells.lookup p.1=some p.2/\O9 X r
def O9.mem:∀{cl:List (Str×Addr)} {p:Str×Addr},O9 X cl->p∈cl->X.env.cells.lookup p.1=some p.2
 | _::_,_,h,.head _=>h.1
 | _::_,_,h,.tail _ m=>O9.mem h.2 m
def CapN(X:Cx):List (Str×Nat)->Prop
 | []=>True
 | p::r=>X.N[p.2]?=some p.1/\CapN X r
def WD:∀{l:List (Str×α)},x∈l.map (·.1)->∃c,l.lookup x=some c
 | [],h=>by simp at h
 | (y,c)::r,h=>by
  by_cases e:x=y
  .simp_all
  .have a:x∈r.map (·.1):=by
    simp_all
   obtain ⟨d,b⟩:=WD a
   grind
def Gd.of{cap:List (Str×Nat)}{scope:Scope}{cl:List (Str×Addr)}(clos:closureFor scope X.env=pure cl)(kind:scope.kind=.function)(chk:WN scope X.env.scope (cap.map (·.1))=true)(names:cl.map (·.1)=cap.map (·.1))(sub:O9 X cl)(capn:CapN X cap):Gd X own cap scope cl:=by
 unfold WN at chk;simp only [Ln,Hu] at chk;obtain ⟨⟨⟨w,C⟩,B⟩,v⟩:=chk;have g:∀x c,cl.lookup x=some c->X.env.cells.lookup x=some c:=λx c e=>sub.mem (Ej e);have h:∀l,(∀p∈l,p.1∈cap.map (·.1))->CapN X l->Ke X (relabel scope X.env) cl l:=by
  intro l
  induction l with
  | nil=>exact λ_ _=>trivial
  | cons p r ih=>
   intro f t;have m:=f p Bf;have j:=v p.1 m;have E:X.env.scope.names.lookup p.1=some .cell:=by simpa using j.1
   have A:(RK scope X.env.scope).lookup p.1=some .cell:=by simpa using j.2
   obtain ⟨c,d⟩:=WD (by rw [names];exact m);exact ⟨⟨t.1,E,A,c,d,g _ _ d⟩,ih (λq j=>f q (Bp _ j)) t.2⟩
 refine ⟨clos,kind,λx c f y o s=>?_,λy o e=>?_,λx c f=>sub.mem f,λk x D=>?_,h cap (λp m=>BZ.mpr ⟨p,m,rfl⟩) capn⟩
 .have:=w y o;rw [s] at this;rintro rfl;have d:y.1∈cap.map (·.1):=by rw [<-names];exact BZ.mpr ⟨_,f,rfl⟩
  simp at this;simp at d;obtain ⟨a,u⟩:=d;exact this a u
 .have:=C y o;rw [e] at this;simpa using this
 .have i:∀n,(RK scope X.env.scope).lookup x=some n->(n=.cell\/n=.free)->∃c,(PySem.cellsFrom k scope.names cl).lookup x=some c:=by
   intro n e s;have:=B _ (Ej e);refine Option.isSome_iff_exists.mp (Tn scope.names k cl ?_);have b:x∈cap.map (·.1)\/(x,NameKind.cell)∈scope.names:=by
    rcases s with rfl | rfl
    .simpa using this
    .simpa using this
   rcases b with z | z
   .obtain ⟨c,d⟩:=WD (by rw [names];exact z);exact .inl (by rw [d];rfl)
   .exact .inr z
  rcases D with e | e
  .exact i _ e (.inl rfl)
  .exact i _ e (.inr rfl)
end L2
namespace L2
open PySem.Calls
structure Sk(o o':Obj):Prop where
 d:o'.dict=o.dict
 f:∀vs,o.data=.fields vs->∃vs':Array Value,o'.data=.fields vs'/\vs'[2]?=vs[2]?
def Sk.refl(o):Sk o o:=⟨rfl,λa e=>⟨a,e,rfl⟩⟩
def Sk.trans(x:Sk a b)(y:Sk b c):Sk a c:=⟨y.d.trans x.d,λh e=>by
 obtain ⟨i,g,m⟩:=x.f h e;obtain ⟨k,l,j⟩:=y.f i g
 simp_all⟩
def KD(h h':Heap):Prop:=∀(b:Nat) (o:Obj),h.objs[b]?=some o->∃a:Obj,h'.objs[b]?=some a/\Sk o a
def KD.refl(h:Heap):KD h h:=λ_ o e=>⟨o,e,.refl o⟩
def KD.trans(x:KD a b)(y:KD b c):KD a c:=λk o e=>by
 obtain ⟨h,j,d⟩:=x k o e;obtain ⟨f,i,g⟩:=y k h j;exact ⟨f,i,d.trans g⟩
def KD.push(h:Heap)(o:Obj):KD h (h.push o):=λb u e=>by
 obtain ⟨a,l⟩:=h;refine ⟨u,?_,.refl u⟩;show (a.push o)[b]?=some u
 grind
def KD.update(h:Heap)(a:Addr)(hf:∀o,Sk o (f o)):KD h (h.update a f):=λb u e=>by
 obtain ⟨c,l⟩:=h;have e:=e;show ∃d,(c.modify a f)[b]?=some d/\_;rw [Array.getElem?_modify];by_cases q:a=b
 .simp_all
 .rw [iN q];exact ⟨u,e,.refl u⟩
def aX{h:Heap}(e:h.get? a=some o):h.objs[a]?=some o:=by
 unfold Heap.get? at e
 lia
def KD.at{h h':Heap}(x:KD h h')(e:h.get? a=some o)(e':h'.get? a=some o'):Sk o o':=by
 obtain ⟨d,b,c⟩:=x a o (aX e);rw [aX e'] at b
 lia
def Dk:Sem α->Prop
 | .pure _=>True
 | .raise _=>True
 | .unsupported _=>True
 | .finish _=>True
 | .rule _ k=>Dk (k ())
 | .at _ k=>Dk (k ())
 | .load _ _ k=>∀o,Dk (k o)
 | .update _ _ f k=>(∀o,Sk o (f o))/\Dk (k ())
 | .loadIfAlive _ k=>∀o,Dk (k o)
 | .point _ k=>Dk (k ())
 | .alloc _ k=>∀a,Dk (k a)
 | .fresh k=>∀t,Dk (k t)
 | .ask k=>∀x,Dk (k x)
 | .choose _ _ k=>∀n,Dk (k n)
 | .handled _ k=>∀x,Dk (k x)
 | .stack k=>∀l,Dk (k l)
 | .thread k=>∀n,Dk (k n)
 | .register _ _=>True
 | _=>False
def Dk.bind:∀{t:Sem α} {k:α->Sem β},Dk t->(∀a,Dk (k a))->Dk (t >>= k):=by
 intro t
 induction t with
 | pure a=>intro k _ h;exact h a
 | raise e=>intro k _ h;trivial
 | unsupported w=>intro k _ h;trivial
 | finish e=>intro k _ h;trivial
 | rule t k ih=>intro k d h;exact ih () d h
 | «at» q k ih=>intro k d h;exact ih () d h
 | load a q k ih=>intro k d h o;exact ih o (d o) h
 | update a q f k ih=>intro k d h;exact ⟨d.1,ih () d.2 h⟩
 | alloc o k ih=>intro k d h a;exact ih a (d a) h
 | loadIfAlive a k ih=>intro k d h o;exact ih o (d o) h
 | point l k ih=>intro k d h;exact ih () d h
 | register a k ih=>intro k d h;trivial
 | fresh k ih=>intro k d h o;exact ih o (d o) h
 | ask k ih=>intro k d h o;exact ih o (d o) h
 | choose src n k ih=>intro k d h o;exact ih o (d o) h
 | handled o k ih=>intro k d h o;exact ih o (d o) h
 | stack k ih=>intro k d h o;exact ih o (d o) h
 | thread k ih=>intro k d h o;exact ih o (d o) h
 | _=>intro k d h;exact d.elim
end L2
namespace L2
def Dn.there(x:Dn P w H h a o):∃ob,h.get? a=some ob:=by
 cases o with
 | lst xs=>obtain ⟨_,_,_,_,e⟩:=x;simp_all
 | tup xs=>obtain ⟨_,_,_,o,e,_⟩:=x;simp_all
 | ins C dx fs=>obtain ⟨_,_,_,e,_⟩:=x;simp_all
 | own y=>trivial
 | xd fs=>obtain ⟨_,⟨_,_,_,e,_⟩,_⟩:=x;simp_all
 | frz ob u=>obtain ⟨e,_⟩:=x;simp_all
 | tbl ps=>exact ⟨_,(x)⟩
 | ext φ=>obtain ⟨_,⟨_,e⟩,_⟩:=x;simp_all
structure Fly(P:Program)(w:World)(l:List Env)(H H':Hp)(s s':Shared)(x:Addr)(cls:Value):Prop where
 os:s'.os=s.os
 bare:AllBare s'.gens
 un:Un (frs l) [] H H' s.heap s'.heap
 hok:HOk P w H' s'.heap
 frf:∀b∈frs l,H' b=none
 free:H' x=none
 ex:∃(B:Heap) (a0:Value),Heap.FlyingW B l x cls a0 s'.heap/\∀b o,s'.heap.get? b=some o->(H' b≠none\/∃o',s.heap.get? b=some o')->b∉frs l->B.get? b=some o
section
variable {H':Hp} {s':Shared} {x:Addr} {cls:Value}
def Inv.sub(I:Inv X pins Y H s):∀b∈X.fs,b∈frs X.stack:=λb a=>by
 rcases I.ok.stk with e | ⟨e,hf⟩
 .lia
 .rw [e];unfold frs;rw [List.filterMap_cons,hf];exact Bp _ a
end
def CtxN(x:Addr)(h:Heap):Prop:=∃a b,h.get? x=some a/\a.data=.fields b/\b[2]?=some .none
def CtxN.on{x:Addr}(k:CtxN x h)(kd:KD h h')(ht:∃ox,h'.get? x=some ox):CtxN x h':=by
 obtain ⟨ox,g,l,i,j⟩:=k;obtain ⟨b,a⟩:=ht;obtain ⟨c,e,d⟩:=(kd.at l a).f g i;exact ⟨b,c,a,e,d.trans j⟩
def TY(p:Option Addr)(x:Addr)(H':Hp)(h0 h:Heap):Prop:=(p=none->CtxN x h)/\∀n:Nat,p=some n->∃(ox:Obj) (d:Addr) (m:Str->Option Value),h.get? x=some ox/\ox.dict=some d/\h.Ns1 d m/\(∀g,RelO (([("at",V.int ((n/2:Nat):Int))]:List (Str×V)).lookup g) (m g))/\H' d=none/\h0.get? d=none/\d≠x/\(n%2=0->∃a:Array Value,ox.data=.fields a/\a[2]?=some .none)
def uE{h h':Heap}(x:h.UpToSlots h')(hn:h.Ns1 a m):h'.Ns1 a m:=by
 obtain ⟨o,f,b,c,e,r⟩:=hn;obtain ⟨g,d⟩:=x a o c λi q=>by lia
 exact ⟨_,f,b,d,e,r⟩
def TY.on{x:Addr}(k:TY p x H' h0 h)(kd:KD h h')(sm:h.UpToSlots h')(ht:∃ox,h'.get? x=some ox)(h01:∀b o,h1.get? b=some o->∃o',h0.get? b=some o'):TY p x H' h1 h':=⟨λe=>(k.1 e).on kd ht,λn e=>by
 obtain ⟨ox,d,m,g,t,w,s,v,B,i,r⟩:=k.2 n e;obtain ⟨c,a⟩:=ht;refine ⟨c,d,m,a,(kd.at g a).d.trans t,uE sm w,s,v,?_,i,λz=>?_⟩
 rotate_left
 .obtain ⟨l,j,C⟩:=r z;obtain ⟨u,A,y⟩:=(kd.at g a).f l j;simp_all
 cases q:h1.get? d with
 | none=>rfl
 | some o=>
  grind⟩
def CXR(P:Program)(w:World):CXT:=λ_ _ _ _ _ _=>False
section
variable {qual:Str} {scope:Scope} {f:Addr} {cd:Value} {outer:List Env} {s₀:Shared} {H₀:Hp} {E:XK}
def BK:Cg (CXR P w) (cxOf (CXR P w) P w K mg base N qual scope f cd A outer s₀ H₀ E) E:=λ_ _ _ _ _ _ _ h=>h.elim
end
def ExcAt(a:Addr)(C:Value)(h:Heap):Prop:=∃b,h.get? a=some b/\b.cls=C
def exO(a:Addr)(C:Value):HO:=.ext (ExcAt a C)
end L2
namespace L2
open PySem.Calls
def ux(a:Addr)(C:Value)(d:Addr)(h:Heap):Prop:=∃b,h.get? a=some b/\b.cls=C/\b.dict=some d/\∃c,b.data=.fields c
def exC(a:Addr)(C:Value)(d:Addr):HO:=.ext (ux a C d)
end L2
namespace L2
def tW(l)(items)(n)(sl)(b)(items2)(n2)(sl2)(hc0:items.size+items2.size<=sizeLine) :
  Meets (Builtin.«list.__add__» ⟨[.ref l,.ref b],[]⟩) (λ_ R s=>s.heap.get? l=some { cls:=.type "list",dict:=none,data:=.seq items n,slots:=sl }/\s.heap.get? b=some { cls:=.type "list",dict:=none,data:=.seq items2 n2,slots:=sl2 }/\R (.ok (.ret (Value.ref s.heap.objs.size))) { s with heap:=s.heap.push { cls:=Value.type "list",data:=Data.seq (items++items2) },toks:=s.toks }) :=
 .of_wp λa w A R s h=>by obtain ⟨p,g,d,i,k⟩:=s;obtain ⟨c,e,h⟩:=h;have m:=AutoSeq1.idx_int;have q:=AutoSeq1.sub_tuple_tuple;have f:=AutoSeq1.sub_list_list;have o:=AutoSeq1.sub_tuple_list;have j:=AutoSeq1.sub_list_tuple;wp_walk using AutoSeq1.wpAny_loadPart' c,AutoSeq1.wpAny_loadPart' e;lia
section
def fU(I:Inv X pins Y H s)(hH:SqL X.K H l xs)(hB:SqL X.K H b zs)(hz:xs.length+zs.length<=sizeLine)(q:∀p,H p=none->Q (.ref p) (upd H p (.lst (xs++zs)))) :
  wX X (binaryOp .Add (.ref l) (.ref b)) (EP X pins Y Q) X.xe s:=by
 obtain ⟨c,r,⟨⟨x,D,C,f⟩,n,e,i,h,t⟩,z⟩:=I.list hH;obtain ⟨a,k,⟨⟨B,E,y,d⟩,v,j,g,m,o⟩,G⟩:=I.list hB;simp only at i h t g m o;subst i h t g m o;refine concat_meets ⟨_,e,rfl⟩ ⟨_,j,rfl⟩ noFill_list_add seq_list_add F.slot_list_add F.entry_list_add (F.args_list_add_2 _ _) (tW l c.toArray n f b a.toArray v d (by rw [GR,GR,<-r.length,<-k.length];exact hz)) ⟨e,j,?_⟩;have u:c.toArray++a.toArray=(c++a).toArray:=by simp
 rw [u];exact ⟨.ref _,_,I.lnew (r.append k) (by simp_all),rfl,q _ I.fresh⟩
def tu(I:Inv X pins Y H s)(ha:SqT X.K H a xs)(hb:SqT X.K H b ys)(hz:xs.length+ys.length<=sizeLine)(q0:xs=[]->Q (.ref b) H)(q1:xs≠[]->ys=[]->Q (.ref a) H)(q2:xs≠[]->ys≠[]->∀p,H p=none->Q (.ref p) (upd H p (.tup (xs++ys)))) :
  wX X (binaryOp .Add (.ref a) (.ref b)) (EP X pins Y Q) X.xe s:=by
 by_cases hx:xs=[]
 .obtain ⟨v,u,q,_⟩:=I.tuple ha;obtain ⟨e,C,y,_⟩:=I.tuple hb;have B:=u.nil_iff.mpr hx;subst B;obtain ⟨⟨r,x,j,t⟩,m,o,n,l⟩:=id q;obtain ⟨⟨k,i,h,g⟩,f,d,z,c⟩:=id y;simp only at o l d c;subst o l d c;exact concat_meets ⟨_,m,rfl⟩ ⟨_,f,rfl⟩ noFill_tuple_add seq_tuple_add PySem.F.slot_tuple_add PySem.F.entry_tuple_add (PySem.F.args_tuple_add_2 _ _)
   (tuple_addW0 a b ([]:List Value).toArray e.toArray n z x i t g rfl) ⟨m,f,⟨.ref b,H,I,rfl,q0 hx⟩⟩
 .exact ZrJ pins s Y H (.ref a) (.ref b) _ _ Q I rfl rfl ⟨a,b,xs,ys,rfl,rfl,ha,hb,hx,hz,q1 hx,q2 hx⟩
end
end L2
namespace HT
section
variable{prog:Program} {E:Value->Shared->Prop}
def mG{t sl:Addr}{items:Array Value}{vl vu:Value}{lo hi:Option Int}{Q:Value->Shared->Prop}(ht:IsTup s.heap t items)(hs:s.heap.IsSliceOf sl vl vu .none)(pl:IsPart vl lo)(pu:IsPart vu hi)(hw:sIx items.size 0 lo=0/\sIx items.size items.size hi=items.size)(h:Q (.ref t) s):wpAny (model prog w) A (getItem (.ref t) (.ref sl)) Q E s:=by
 obtain ⟨e,d,b,f⟩:=id hs;have c:s.TypeIs (.ref sl) "slice":=⟨e,d,b⟩;unfold getItem
 try with_reducible refine Dy ?_
 first | refine Ac (Aj ?_) | skip
 refine Ac (wpAny_sequenceKey ht.typeIs (by decide) ?_)
 refine Ac (Kq ht.typeIs PQ
  (KY PQ ht.typeIs entry_tuple_getitem ?_ (args_tuple_getitem _ _)))
 show wpAny _ _ (Builtin.Tuple.tupleItemsOf (.ref t) >>= _) _ _ s;refine Ac (tupleItemsOf_ ht ?_);refine Ac (Jq c ?_);rw [iP (by decide)];refine Ac (Yd hs pl pu ?_);have a:(((sIx items.size 0 lo:Nat):Int)==0&&(1:Int)==1&&(sIx items.size items.size hi - sIx items.size 0 lo)==items.size)=true:=by
  simp_all
 show wpAny _ _ (if (((sIx items.size 0 lo:Nat):Int)==0&&(1:Int)==1&&(sIx items.size items.size hi - sIx items.size 0 lo)==items.size)=true then _ else _) _ _ s
 rw [iP a]
 first
  | exact Ac (Ac (Jq ht.typeIs (Aj (by rw [iP (by decide)];exact Ac (wpAny_rule (Aj ⟨_,rfl,Aj h⟩))))))
  | (refine Ac (Ac (Jq ht.typeIs (Aj ?_)))
     rw [iP (by decide)]
     trace_state
     exact Ac (wpAny_rule (Aj ⟨_,rfl,Aj h⟩)))
end
end HT
namespace L2
section
def Inv.turnNew{fp:List Addr}{T:Addr}{o:HO}{h':Heap}{t':Nat}(I:Inv X pins Y H s)(k:∀b u,b∉fp->s.heap.get? b=some u->h'.get? b=some u)(hf:∀b∈fp,FpOk X pins H b)(hT:s.heap.objs.size<=T)(new:Dn X.prog X.w (upd H T o) h' T o) :
  Inv X pins Y (upd H T o) { s with heap:=h',toks:=t' }:=by
 have a:=I.hok.fresh hT;have h:∀b u,H b=some u->b∉fp:=λb u e z=>by rw [(hf b z).1] at e;cases e
 refine I.call ⟨λb u q _ _ d=>k b u d q,λb u q _ _ d=>⟨u.slots,k b u d q⟩,λb u q n _=>?_,λb u q d=>⟨u,k b u d q⟩,λb g q=>?_,λb u g q=>?_,λb l q=>?_⟩ (λb u e=>?_) I.bare (λb f=>?_)
 .rw [Ai (Bm (Bv (BX q) hT))];exact n
 .rw [Ai (BP q a)];exact q
 .rw [Ai (BP q a)];exact q
 .exact ⟨#[],by rw [Ai (BP q a),q];simp⟩
 .by_cases f:b=T
  .subst f;rw [Ay] at e;lia
  .rw [Ai f] at e;refine (I.hok b u e).stay (λc v r q=>k c v ?_ q) (λc q=>by rw [Ai (BP q a)];exact q) λc g q=>by rw [Ai (BP q a)];exact q
   grind
 .obtain ⟨_,p,_,m,j,i⟩:=hf b f;trivial
def Inv.turnedL{fp:List Addr}{h':Heap}{t':Nat}(I:Inv X pins Y H s)(k:∀b u,b∉fp->s.heap.get? b=some u->h'.get? b=some u)(hf:∀b∈fp,FpOk X pins H b):Inv X pins Y H { s with heap:=h',toks:=t' }:=by
 have f:∀b u,H b=some u->b∉fp:=λb u e z=>by rw [(hf b z).1] at e;cases e
 refine I.call ⟨λb u q _ _ a=>k b u a q,λb u q _ _ a=>⟨u.slots,k b u a q⟩,λb u q n _=>n,λb u q a=>⟨u,k b u a q⟩,λb d q=>q,λb u d q=>q,λb j q=>⟨#[],by trivial⟩⟩ (λb u e=>?_) I.bare (λb g=>?_)
 .refine (I.hok b u e).stay (λc v o q=>k c v ?_ q) (λc q=>q) λc d q=>q
  grind
 .obtain ⟨_,m,_,l,i,h⟩:=hf b g;trivial
end
def Ite(K:W.Frag)(a:Addr):It :=
 ⟨λi H=>∃b x,SqL K H a b/\b[i]?=some x,λi H x c=>∃T p,H T=none/\x=.ref T/\c=upd H T (.tup [.int i,p])/\∀b,SqL K H a b->b[i]?=some p,λi H=>∃b,SqL K H a b/\b.length<=i⟩
def Zod{elts:List Expr}{x1:Nat}{a e it:Addr}(hei:e≠it):Turn P w K (.Tuple elts x1 pos) (Ite K a) [e,it] e (λi h=>(∃old,IsEnum h e it (i:Nat) old)/\h.IsListIter it a i) where
 mem:=by simp
 obj:=λi h g b m=>by
  obtain ⟨⟨old,v⟩,o,ho,c,d⟩:=g
  grind
 keep:=λi h h' g k=>⟨⟨g.1.choose,k e (by simp) _ g.1.choose_spec⟩,g.2.at λo q=>k it (by simp) o q⟩
 item:=by
  intro X L C D V i l s Y H E I y g F;subst L C D;obtain ⟨⟨old,v⟩,j⟩:=g;obtain ⟨W,x,A,G⟩:=F;obtain ⟨Q,M,p,hz⟩:=I.list A;obtain ⟨u,Z,ru⟩:=M.get G;refine wpAny_pyNext_enum_item v j p.isList (by simpa using Z) hei λh1 J r T hz1 R=>⟨_,rfl,?_⟩;refine wpAny_letOwnedTupleGo_enum J λh2 S N=>?_;have B:∀{c:Addr} {n:Obj},s.heap.get? c=some n->c≠s.heap.objs.size:=λq=>Bm (BX q);have eT:=B v;have iT:it≠s.heap.objs.size:=by obtain ⟨_,q,_⟩:=id j;grind
  have f:=N;have hT:=I.hok.fresh (Ar _);have I2:Inv X l Y (upd H s.heap.objs.size (.tup [.int i,x])) { s with heap:=h2,toks:=s.toks+1 }:=by
   refine I.turnNew (λb n m q=>?_) y (Ar _) ?_
   .have t:b≠e:=λz=>m (by simp [z]);have O:b≠it:=λz=>m (by simp [z]);exact f.extBut b n t (R b n t O q)
   .have U:(2:Nat)<=sizeLine:=by decide
    exact ⟨U,[.int i s.toks,u],.cons ⟨_,rfl⟩ (.cons ru .nil),⟨_,f.extBut _ _ (Ne.symm eT) T,rfl,_,rfl⟩⟩
  refine ⟨.ref s.heap.objs.size,_,I2,rfl,⟨_,x,hT,rfl,rfl,λys hy=>by rw [I.list_inj hy A];exact G⟩,⟨⟨_,S⟩,r.extBut f.extBut (Ne.symm hei)⟩,λb m=>?_⟩;have nb:b≠s.heap.objs.size:=by
   grind
  rw [Ai nb];exact (y b m).1
 done:=by
  intro X L C D V i l s Y H E I y g F;subst L C D;obtain ⟨⟨old,v⟩,j⟩:=g;obtain ⟨W,A,G⟩:=F;obtain ⟨Q,M,p,hz⟩:=I.list A;have hl:=M.length;refine wpAny_pyNext_enum_end (I.ok.hd V) v j p.isList (by grind) λh' eb=>⟨rfl,?_⟩;exact I.turnedL (λb n m q=>eb b n (λz=>m (by simp [z])) q) y
 self:=λ_ _ _ _ _ g h=>wpAny_pyIter_enum g.1.choose_spec h
def YB(K:W.Frag)(ta:TA):TI:=λY H R=>ta Y H λc b=>∃a,c=[.ref a]/\(∃d,SqL K b a d)/\R (Ite K a) b
def gM(hg:Gl X "enumerate")(hm:X.mg "enumerate"=none)(ha:PA X [a] ta)(hs:starEach [a] X.env=[(false,eval a X.env)]:=by rfl):PI X (.Tuple elts x1 tpos) (.Call (.Name "enumerate" p) [a] [] pos) (YB X.K ta):=by
 intro c s Y H R I h;refine Call_ (Jx I hg hm v9 (Om (thn (ha pos c s Y H _ I h) λy d zq=>?_) hs rfl));obtain ⟨B,n,g,t,w⟩:=zq;obtain ⟨l,e,⟨C,m⟩,q⟩:=w;subst e;cases t with
 | cons r rr=>
  cases rr;cases r;obtain ⟨u,D,o,z⟩:=g.list m;refine call_enumerate_list o.isList λA j i k x=>?_;have v:=g.kept (t':=d.toks) x;refine wpAny_pyIter_enum j ?_;refine ⟨d.heap.objs.size+1,[d.heap.objs.size+1,d.heap.objs.size],_,Ite X.K l,n,rfl,v,Zod (Nat.succ_ne_self _),⟨⟨_,j⟩,i⟩,λb E=>?_,q⟩;have f:d.heap.objs.size<=b:=by
   grind
  exact g.fpOk f (g.hok.fresh f)
section
variable{prog:Program} {E:Value->Shared->Prop}
def Xi(hne:t≠it):∀n i s Q,s.heap.IsListIter it t i->s.heap.IsList t items->i+n<=items.size ->
  (∀h',h'.IsListIter it t (i+n)->Heap.SameBut it s.heap h'->Q ((items.toList.drop i).take n) { s with heap:=h' })->wpAny (model prog w) A (draw (.ref it) n) Q E s
 | 0,i,s,Q,hit,_,_,hQ=>by
  exact Aj (by simpa using hQ s.heap hit (Heap.SameBut.refl ..))
 | n+1,i,s,Q,hit,ht,hle,hQ=>by
  have e:i<items.size:=by omega
  refine Ac (wpAny_pyNext_list_item hit ht (x:=items[i]) (by grind) λg b a=>?_);refine Ac (Dy (Xi hne n (i+1) _ _ b (ht.extBut a.extBut hne) (by omega) λd f c=>Aj ?_));have h:items.toList.drop i=items[i]::items.toList.drop (i+1):=by simp [Ka,e]
  have:=hQ d (by lia) (a.trans c);simp_all
def vQ(hh:A.handled=none)(ht:s.heap.IsList t items)(hQ:∀h',Heap.ExtBut s.heap.objs.size s.heap h'->Q items.toList { s with heap:=h' }):wpAny (model prog w) A (unpackItems (.ref t) items.size none) Q E s:=by
 have g:t≠s.heap.objs.size:=by obtain ⟨o,l,_⟩:=ht;exact Bm (BX l)
 unfold unpackItems;refine Ac ?_
 .unfold notIterableAtAll;refine Ac (wpAny_specialOf ht.typeIs F.slot_list_iter.lookup ?_);refine Aj ?_;simp only [FN,Dp];refine Ac (Dy (La ht ?_));refine Ac (Dy (Xi g items.size 0 _ _ ⟨_,By _ rfl,rfl,rfl⟩ (ht.push _) (by omega) λj c a=>?_));have i:List.take items.size (List.drop 0 items.toList)=items.toList:=by
   rw [Hn];exact GX (by simp)
  rw [i];rw [iN (by simp)];have f:=(ht.push _).extBut a.extBut g;refine Ac (Dy (wpAny_pyNext_list_end hh c f (by simp) λh d=>?_));simp only [Option.isSome_none,FN,Dp];refine Aj (hQ h λb o k e=>d b o k (a.extBut b o k (BJ _ e)))
def zQ{x1}(hh:A.handled=none)(ht:s.heap.IsList t items)(hn:(assignEach elts env).length=items.size)(hstar:(assignEach elts env).findIdx? (·.1)=none)(h:∀h',Heap.ExtBut s.heap.objs.size s.heap h'->wpAny (model prog w) A (assignInOrder ((assignEach elts env).map (·.2)) items.toList) Q E { s with heap:=h' }) :
  wpAny (model prog w) A (assign (.Tuple elts x1 pos) env (.ref t)) Q E s:=by
 rw [assign_Tuple];refine Ac (wpAny_standAt ?_);unfold unpack;rw [hn,hstar];exact Ac (Dy (vQ hh ht h))
end
def ItK:Bool->Heap->Addr->Addr->Nat->Prop
 | false,h,a,l,i=>h.IsListIter a l i
 | true,h,a,l,i=>h.IsTupleIter a l i
def SqK:Bool->Heap->Addr->Array Value->Prop
 | false,h,a,xs=>h.IsList a xs
 | true,h,a,xs=>h.IsTuple a xs
def Nj(p:Bool)(l:Addr):Obj:={ cls:=.type (if p then "tuple_iterator" else "list_iterator"),data:=.fields #[.ref l,.int 0 0] }
def ItK.extBut(x:ItK p h a l i)(hs:Heap.ExtBut b h h')(hab:a≠b):ItK p h' a l i:=by
 cases p
 .exact Heap.IsListIter.extBut x hs hab
 .exact Heap.IsTupleIter.extBut x hs hab
def ItK.at(x:ItK p h a l i)(k:∀o,h.get? a=some o->h'.get? a=some o):ItK p h' a l i:=by
 cases p
 .obtain ⟨o,e,r⟩:=(show h.IsListIter a l i from x);exact ⟨o,k o e,r⟩
 .obtain ⟨o,e,r⟩:=(show h.IsTupleIter a l i from x);exact ⟨o,k o e,r⟩
def ItK.here(x:ItK p h a l i):∃o,h.get? a=some o:=by
 cases p
 .obtain ⟨o,e,_⟩:=(show h.IsListIter a l i from x);exact ⟨o,e⟩
 .obtain ⟨o,e,_⟩:=(show h.IsTupleIter a l i from x);exact ⟨o,e⟩
def ItK.flds(x:ItK p h a l i):∃o vs,h.get? a=some o/\o.data=.fields vs:=by
 cases p
 .obtain ⟨o,e,_,d⟩:=(show h.IsListIter a l i from x);exact ⟨o,_,e,d⟩
 .obtain ⟨o,e,_,d⟩:=(show h.IsTupleIter a l i from x);exact ⟨o,_,e,d⟩
def ItK.new(e:h.get? a=some (Nj p l)):ItK p h a l 0:=by
 cases p
 .exact ⟨_,e,rfl,rfl⟩
 .exact ⟨_,e,rfl,rfl⟩
def SqK.extBut{xs:Array Value}(x:SqK p h a xs)(hs:Heap.ExtBut b h h')(hab:a≠b):SqK p h' a xs:=by
 cases p
 .exact Heap.IsList.extBut x hs hab
 .exact Heap.IsTuple.extBut x hs hab
def SqK.push{xs:Array Value}(x:SqK p h a xs)(o):SqK p (h.push o) a xs:=by
 cases p
 .exact Heap.IsList.push x o
 .exact Heap.IsTuple.push x o
section
variable{prog:Program} {E:Value->Shared->Prop}
def YK{xs:Array Value}(x:SqK p s.heap l xs)(h:Q (.ref s.heap.objs.size) { s with heap:=s.heap.push (Nj p l) }):wpAny (model prog w) A (pyIter (.ref l)) Q E s:=by
 cases p
 .exact La x h
 .exact wpAny_pyIter_tuple x h
def fP{zs}{x:Value}(ki:s.heap.IsTupleIter ia la i)(kl:s.heap.IsTuple la zs)(kx:zs[i]?=some x)(kQ:∀h',h'.IsTupleIter ia la (i+1)->Heap.SameBut ia s.heap h'->Q x { s with heap:=h' }) :
  wpAny (model prog w) A (Builtin.SmallTypes.nextOf (.ref ia)) Q E s:=by
 obtain ⟨f,b,e,a⟩:=id ki;obtain ⟨g,c,_,h,d⟩:=kl;unfold Builtin.SmallTypes.nextOf
 refine Ac (Kq (name:=Str.ofString "__next__") ki.typeIs QH
  (KY QH ki.typeIs F.entry_tuple_iterator_next ?_ (F.args_tuple_iterator_next_1 _)))
 show wpAny _ _ (field (.ref ia) 0 >>= _) _ _ s;refine Ac (Et b a (x:=.ref la) rfl ?_);show wpAny _ _ (if (Value.ref la==Value.none)=true then _ else _) _ _ s
 rw [iN (show ¬((Value.ref la==Value.none)=true) from Ek)];show wpAny _ _ (field (.ref ia) 1 >>= _) _ _ s;refine Ac (Et b a (x:=.int i 0) rfl ?_);show wpAny _ _ (seqItems? (.ref la) >>= _) _ _ s;refine Ac (Gn c d ?_);simp only [Fz,kx];refine Ac (wpAny_setField b a (by simp) (Aj ⟨x,rfl,Aj (kQ _ ?_ (Rk ..))⟩))
 exact ⟨_,QF _ b (Obj.isFreed_of_fields (Obj.data_mapFields a _)),(Obj.cls_mapFields ..).trans e,by
  rw [Obj.data_mapFields a];simp [rawInt]⟩
def rz{zs}(kh:A.handled=none)(ki:s.heap.IsTupleIter ia la i)(kl:s.heap.IsTuple la zs)(kx:zs[i]?=none)(kE:∀h' e,Heap.ExtBut ia s.heap h'->(∃ob,h'.get? e=some ob/\ob.cls=.type "StopIteration")->E (.ref e) { s with heap:=h' }) :
  wpAny (model prog w) A (Builtin.SmallTypes.nextOf (.ref ia)) Q E s:=by
 obtain ⟨ob,d,g,f⟩:=id ki;obtain ⟨h,b,_,j,c⟩:=kl;unfold Builtin.SmallTypes.nextOf
 refine Ac (Kq (name:=Str.ofString "__next__") ki.typeIs QH
  (KY QH ki.typeIs F.entry_tuple_iterator_next ?_ (F.args_tuple_iterator_next_1 _)))
 show wpAny _ _ (field (.ref ia) 0 >>= _) _ _ s;refine Ac (Et d f (x:=.ref la) rfl ?_);show wpAny _ _ (if (Value.ref la==Value.none)=true then _ else _) _ _ s
 rw [iN (show ¬((Value.ref la==Value.none)=true) from Ek)];show wpAny _ _ (field (.ref ia) 1 >>= _) _ _ s;refine Ac (Et d f (x:=.int i 0) rfl ?_);show wpAny _ _ (seqItems? (.ref la) >>= _) _ _ s;refine Ac (Gn b c ?_);simp only [Fz,kx];refine Ac (wpAny_rule (Ac (wpAny_setField d f (by simp) ?_)));show wpAny _ _ (newExc (.type "StopIteration") [] >>= _) _ _ _;refine Ac ?_;simp only [newExc,newTuple];refine Ac (Im ?_ (by size_fits));refine Ac (m:=firstArgMember _ _) (wpAny_of_eq (a:=Value.none) (by first | rfl | (simp only [firstArgMember];rfl)) ?_)
 refine Im ?_ (by size_fits);simp only [raiseNew];refine Ac (wpAny_handled ?_)
 first | rw [show A.in1.handled=none from kh] | rw [kh]
 refine Ac (Aj (wpAny_throw ?_));exact kE _ _ (((Rk ..).extBut.push _).push _) ⟨_,By _ rfl,rfl⟩
def Uu{x:Value}(ki:ItK p s.heap ia la i)(kl:SqK p s.heap la zs)(kx:zs[i]?=some x)(kQ:∀h',ItK p h' ia la (i+1)->Heap.SameBut ia s.heap h'->Q x { s with heap:=h' }):wpAny (model prog w) A (Builtin.SmallTypes.nextOf (.ref ia)) Q E s:=by
 cases p
 .exact wpAny_nextOf_list_item ki kl kx kQ
 .exact fP ki kl kx kQ
def Yt(kh:A.handled=none)(ki:ItK p s.heap ia la i)(kl:SqK p s.heap la zs)(kx:zs[i]?=none)(kE:∀h' e,Heap.ExtBut ia s.heap h'->(∃o,h'.get? e=some o/\o.cls=.type "StopIteration")->E (.ref e) { s with heap:=h' }):wpAny (model prog w) A (Builtin.SmallTypes.nextOf (.ref ia)) Q E s:=by
 cases p
 .exact wpAny_nextOf_list_end kh ki kl kx kE
 .exact rz kh ki kl kx kE
def yo{p q:Bool}{z TI TO i1 i2 l1 l2:Addr}{k1 k2:Nat}{us vs:Array Value}{x y a b:Value}{Q:Value->Shared->Prop}(Z0:ZipApart z TI TO i1 i2 l1 l2)(kz:IsZip s.heap z TI TO .none)(kTI:IsPair s.heap TI (.ref i1) (.ref i2))(kTO:IsPair s.heap TO a b)(m1:ItK p s.heap i1 l1 k1)(m2:ItK q s.heap i2 l2 k2)(n1:SqK p s.heap l1 us)(n2:SqK q s.heap l2 vs)(kx:us[k1]?=some x)(ky:vs[k2]?=some y) (kQ:∀h',IsZip h' z TI TO (rawInt s.heap.objs.size)->IsPair h' TO x y->ItK p h' i1 l1 (k1+1)->ItK q h' i2 l2 (k2+1)->IsPair h' s.heap.objs.size x y->h'.objs.size=s.heap.objs.size+1 ->
   (∀c o,c≠z->c≠TO->c≠i1->c≠i2->s.heap.get? c=some o->h'.get? c=some o)->Q (.ref s.heap.objs.size) { s with heap:=h' }) :
  wpAny (model prog w) A (Builtin.«zip.__next__» ⟨[.ref z],[]⟩) (λfin s'=>∃v,fin=.done (.ret v)/\Q v s') E s:=by
 show wpAny _ _ (field (.ref z) 2 >>= _) _ _ _;refine Ac (Et kz rfl (x:=.bool false) rfl ?_);show wpAny _ _ (field (.ref z) 3 >>= _) _ _ _;refine Ac (Et kz rfl (x:=.ref TI) rfl ?_);refine Ac (Gn kTI rfl ?_);show wpAny _ _ (Builtin.SmallTypes.ownedTupleIsFree (.ref z) >>= _) _ _ _;refine Ac ?_;unfold Builtin.SmallTypes.ownedTupleIsFree;refine Ac (Et kz rfl (x:=.none) rfl (Aj ?_));simp only [GD];refine Ac (wpAny_rule ?_);refine Ac (Et kz rfl (x:=.ref TO) rfl ?_);refine Ac (Ko kz (by simp) λO F h=>?_);replace F:IsZip O z TI TO .ellipsis:=F;refine Ac ?_;simp only [List.zipIdx_cons,List.zipIdx_nil,List.forIn_cons,List.forIn_nil];refine Ac (Ac (wpAny_onRaise ?_));show wpAny _ _ (Builtin.SmallTypes.nextOf (.ref i1) >>= _) _ _ _;refine Ac (Uu (m1.extBut h.extBut Z0.i1z) (n1.extBut h.extBut Z0.l1z) kx λP X j=>Aj ?_);have t:IsPair P TO a b:=j.extBut _ _ Z0.TOi1 (h.extBut _ _ Z0.TOz kTO);refine Ac (Gn t rfl ?_);refine Ac (wpAny_updateSeq_pair t λG m i=>?_);replace m:IsPair G TO x b:=m;refine Ac (wpAny_letGo (Aj ?_));refine Ac (Ac (wpAny_onRaise ?_));show wpAny _ _ (Builtin.SmallTypes.nextOf (.ref i2) >>= _) _ _ _
 refine Ac (Uu (((m2.extBut h.extBut Z0.i2z).extBut j.extBut Z0.i12.symm).extBut i.extBut Z0.TOi2.symm)
  (((n2.extBut h.extBut Z0.l2z).extBut j.extBut Z0.l2i1).extBut i.extBut Z0.l2TO) ky λI m24 l=>Aj ?_)
 have n:IsPair I TO x b:=l.extBut _ _ Z0.TOi2 m;refine Ac (Gn n rfl ?_);refine Ac (wpAny_updateSeq_pair n λd g k=>?_);replace g:IsPair d TO x y:=g;refine Ac (wpAny_letGo (Aj (Aj ?_)));refine Ac (Gn g rfl ?_);refine Ac (wpAny_newTuple ?_);have L:d.objs.size=s.heap.objs.size:=by rw [k.1,l.1,i.1,j.1,h.1]
 have R:IsZip d z TI TO .ellipsis:=k.extBut _ _ Z0.TOz.symm (l.extBut _ _ Z0.i2z.symm (i.extBut _ _ Z0.TOz.symm (j.extBut _ _ Z0.i1z.symm F)));have W:∀c o,c≠z->c≠TO->c≠i1->c≠i2->s.heap.get? c=some o->d.get? c=some o:=λc o D S Y c4 e=>
  k.extBut _ _ S (l.extBut _ _ c4 (i.extBut _ _ S (j.extBut _ _ Y (h.extBut _ _ D e))))
 have M:ItK p d i1 l1 (k1+1):=((X.extBut i.extBut Z0.TOi1.symm).extBut l.extBut Z0.i12).extBut k.extBut Z0.TOi1.symm;have N:ItK q d i2 l2 (k2+1):=m24.extBut k.extBut Z0.TOi2.symm;have r:z<d.objs.size:=BX R;have V:TO<d.objs.size:=BX g;have U:i1<d.objs.size:=by obtain ⟨_,e⟩:=M.here;exact BX e
 have Z:i2<d.objs.size:=by obtain ⟨_,e⟩:=N.here;exact BX e
 show wpAny _ _ (Builtin.SmallTypes.ownedTupleHandOut (.ref z) (.ref d.objs.size) >>= _) _ _ _;refine Ac ?_;unfold Builtin.SmallTypes.ownedTupleHandOut;have kz6:IsZip (d.push { cls:=.type "tuple",data:=.seq #[x,y] }) z TI TO .ellipsis:=BJ _ R;refine Ac (Ko kz6 (by simp) λg7 B u=>?_);replace B:IsZip g7 z TI TO (rawInt d.objs.size):=B;refine Ko B (by simp) λK f C=>?_;replace f:IsZip K z TI TO (rawInt d.objs.size):=f;have T:∀c o,c≠z->d.get? c=some o->K.get? c=some o:=λc o D e=>C.extBut _ _ D (u.extBut _ _ D (BJ _ e));have H:IsPair K d.objs.size x y:=C.extBut _ _ (Ib r) (u.extBut _ _ (Ib r) (By _ rfl));have J:K.objs.size=d.objs.size+1:=by rw [C.1,u.1,Eu]
 rw [L] at f H J;refine Aj ⟨_,rfl,?_⟩;show Q (.ref d.objs.size) _;rw [L];exact kQ K f (T _ _ Z0.TOz g) (M.at λo e=>T _ o Z0.i1z e) (N.at λo e=>T _ o Z0.i2z e) H J λc o D S Y c4 e=>T c o D (W c o D S Y c4 e)
def nU{p q:Bool}{z TI TO i1 i2 l1 l2:Addr}{k1 k2:Nat}{us vs:Array Value}{a b:Value}{Q:Fin->Shared->Prop}(kh:A.handled=none)(Z0:ZipApart z TI TO i1 i2 l1 l2)(kz:IsZip s.heap z TI TO .none)(kTI:IsPair s.heap TI (.ref i1) (.ref i2))(kTO:IsPair s.heap TO a b)(m1:ItK p s.heap i1 l1 k1)(m2:ItK q s.heap i2 l2 k2)(n1:SqK p s.heap l1 us)(n2:SqK q s.heap l2 vs)(kend:us[k1]?=none\/vs[k2]?=none)(kE:∀h' e,(∀c o,c≠z->c≠TO->c≠i1->c≠i2->s.heap.get? c=some o->h'.get? c=some o)->(∃o,h'.get? e=some o/\o.cls=.type "StopIteration")->E (.ref e) { s with heap:=h' }) :
  wpAny (model prog w) A (Builtin.«zip.__next__» ⟨[.ref z],[]⟩) Q E s:=by
 show wpAny _ _ (field (.ref z) 2 >>= _) _ _ _;refine Ac (Et kz rfl (x:=.bool false) rfl ?_);show wpAny _ _ (field (.ref z) 3 >>= _) _ _ _;refine Ac (Et kz rfl (x:=.ref TI) rfl ?_);refine Ac (Gn kTI rfl ?_);show wpAny _ _ (Builtin.SmallTypes.ownedTupleIsFree (.ref z) >>= _) _ _ _;refine Ac ?_;unfold Builtin.SmallTypes.ownedTupleIsFree;refine Ac (Et kz rfl (x:=.none) rfl (Aj ?_));simp only [GD];refine Ac (wpAny_rule ?_);refine Ac (Et kz rfl (x:=.ref TO) rfl ?_);refine Ac (Ko kz (by simp) λF l d=>?_);replace l:IsZip F z TI TO .ellipsis:=l;refine Ac ?_;simp only [List.zipIdx_cons,List.zipIdx_nil,List.forIn_cons,List.forIn_nil];refine Ac (Ac (wpAny_onRaise ?_));show wpAny _ _ (Builtin.SmallTypes.nextOf (.ref i1) >>= _) _ _ _;cases kx:us[k1]? with
 | none=>
  refine Ac (Yt kh (m1.extBut d.extBut Z0.i1z) (n1.extBut d.extBut Z0.l1z) kx λk e f I=>?_);obtain ⟨G,g,j⟩:=I;have C:IsZip k z TI TO .ellipsis:=f _ _ Z0.i1z.symm l;have r:e≠z:=λx=>by subst x;rw [C] at g;cases g;simp at j
  refine Ko C (by simp) λm _ i=>kE m e (λc o t _ H _ x=>i.extBut _ _ t (f _ _ H (d.extBut _ _ t x))) ⟨G,i.extBut _ _ r g,j⟩
 | some x=>
  have K:vs[k2]?=none:=by rcases kend with h | h;rw [kx] at h;cases h;exact h
  refine Ac (Uu (m1.extBut d.extBut Z0.i1z) (n1.extBut d.extBut Z0.l1z) kx λk L f=>Aj ?_);have n:IsPair k TO a b:=f.extBut _ _ Z0.TOi1 (d.extBut _ _ Z0.TOz kTO);refine Ac (Gn n rfl ?_);refine Ac (wpAny_updateSeq_pair n λm J i=>?_);refine Ac (wpAny_letGo (Aj ?_));refine Ac (Ac (wpAny_onRaise ?_));show wpAny _ _ (Builtin.SmallTypes.nextOf (.ref i2) >>= _) _ _ _
  refine Ac (Yt kh (((m2.extBut d.extBut Z0.i2z).extBut f.extBut Z0.i12.symm).extBut i.extBut Z0.TOi2.symm)
   (((n2.extBut d.extBut Z0.l2z).extBut f.extBut Z0.l2i1).extBut i.extBut Z0.l2TO) K λv e B I=>?_)
  obtain ⟨G,g,j⟩:=I;have y:IsZip v z TI TO .ellipsis:=B _ _ Z0.i2z.symm (i.extBut _ _ Z0.TOz.symm (f.extBut _ _ Z0.i1z.symm l));have r:e≠z:=λx=>by subst x;rw [y] at g;cases g;simp at j
  refine Ko y (by simp) λD _ u=>kE D e (λc o t M H N x=>u.extBut _ _ t (B _ _ N (i.extBut _ _ M (f.extBut _ _ H (d.extBut _ _ t x))))) ⟨G,u.extBut _ _ r g,j⟩
def pC{p q:Bool}{z TI TO i1 i2 l1 l2:Addr}{k1 k2:Nat}{us vs:Array Value}{x y a b:Value}{Q:Option Value->Shared->Prop}(Z0:ZipApart z TI TO i1 i2 l1 l2)(kz:IsZip s.heap z TI TO .none)(kTI:IsPair s.heap TI (.ref i1) (.ref i2))(kTO:IsPair s.heap TO a b)(m1:ItK p s.heap i1 l1 k1)(m2:ItK q s.heap i2 l2 k2)(n1:SqK p s.heap l1 us)(n2:SqK q s.heap l2 vs)(kx:us[k1]?=some x)(ky:vs[k2]?=some y) (kQ:∀h',IsZip h' z TI TO (rawInt s.heap.objs.size)->IsPair h' TO x y->ItK p h' i1 l1 (k1+1)->ItK q h' i2 l2 (k2+1)->IsPair h' s.heap.objs.size x y->h'.objs.size=s.heap.objs.size+1 ->
   (∀c o,c≠z->c≠TO->c≠i1->c≠i2->s.heap.get? c=some o->h'.get? c=some o)->Q (some (.ref s.heap.objs.size)) { s with heap:=h' }) :
  wpAny (model prog w) A (pyNext (.ref z)) Q E s:=by
 have d:s.TypeIs (.ref z) "zip":=⟨_,kz,rfl⟩;unfold pyNext
 exact Ac (wpAny_attempt (Kq (name:=Str.ofString "__next__") d F.slot_zip_next
  (KY F.slot_zip_next d F.entry_zip_next
   (yo Z0 kz kTI kTO m1 m2 n1 n2 kx ky λh' j g f k h e i=>Aj (kQ h' j g f k h e i)) (F.args_zip_next_1 _))))
def fG{p q:Bool}{z TI TO i1 i2 l1 l2:Addr}{k1 k2:Nat}{us vs:Array Value}{a b:Value}{Q:Option Value->Shared->Prop}(kh:A.handled=none)(Z0:ZipApart z TI TO i1 i2 l1 l2)(kz:IsZip s.heap z TI TO .none)(kTI:IsPair s.heap TI (.ref i1) (.ref i2))(kTO:IsPair s.heap TO a b)(m1:ItK p s.heap i1 l1 k1)(m2:ItK q s.heap i2 l2 k2)(n1:SqK p s.heap l1 us)(n2:SqK q s.heap l2 vs)(kend:us[k1]?=none\/vs[k2]?=none)(kQ:∀h',(∀c o,c≠z->c≠TO->c≠i1->c≠i2->s.heap.get? c=some o->h'.get? c=some o)->Q none { s with heap:=h' }):wpAny (model prog w) A (pyNext (.ref z)) Q E s:=by
 have d:s.TypeIs (.ref z) "zip":=⟨_,kz,rfl⟩;unfold pyNext
 refine Ac (wpAny_attempt (Kq (name:=Str.ofString "__next__") d F.slot_zip_next
  (KY F.slot_zip_next d F.entry_zip_next (nU kh Z0 kz kTI kTO m1 m2 n1 n2 kend λh' e i h=>?_) (F.args_zip_next_1 _))))
 obtain ⟨o,f,g⟩:=h;refine Ac (wpAny_isInstance (T:="StopIteration") (b:=true) ⟨o,f,g⟩ isSubtype_stop ?_);exact Aj (kQ _ i)
end
abbrev kH1(p:Bool)(h:Heap)(l1:Addr):Heap:=h.push (Nj p l1)
abbrev kH2(p q:Bool)(h:Heap)(l1 l2:Addr):Heap:=(kH1 p h l1).push (Nj q l2)
abbrev kH3(p q:Bool)(h:Heap)(l1 l2:Addr):Heap:=(kH2 p q h l1 l2).push { cls:=.type "tuple",data:=.seq #[.ref h.objs.size,.ref (kH1 p h l1).objs.size] }
abbrev kH4(p q:Bool)(h:Heap)(l1 l2:Addr):Heap:=(kH3 p q h l1 l2).push { cls:=.type "tuple",data:=.seq #[.none,.none] }
abbrev kH5(p q:Bool)(h:Heap)(l1 l2:Addr):Heap:=(kH4 p q h l1 l2).push { cls:=.type "zip",data:=.fields #[.none,.bool false,.bool false,.ref (kH2 p q h l1 l2).objs.size,.ref (kH3 p q h l1 l2).objs.size] }
def gR(p q)(l1 l2)(us vs) :
  Meets (Builtin.«zip.__new__» ⟨[.type "zip",.ref l1,.ref l2],[]⟩) (λ_ R s=>SqK p s.heap l1 us/\SqK q s.heap l2 vs /\
   R (.ok (.ret (.ref (kH4 p q s.heap l1 l2).objs.size))) { s with heap:=kH5 p q s.heap l1 l2 }) :=
 .of_wp λj w A R s h=>by
  obtain ⟨i,g,d,e,f⟩:=s;obtain ⟨k,l,h⟩:=h;have c:=sub_zip;have a:SqK p (Shared.heap ⟨i,g,d,e,f⟩) l1 us:=k;have b:SqK q (Shared.heap ⟨i.push (Nj p l1),g,d,e,f⟩) l2 vs:=SqK.push l _
  wp_walk using YK a,YK b
  exact ⟨_,rfl,h⟩
section
variable{prog:Program} {E:Value->Shared->Prop}
def ZmH{us:Array Value}(n1:SqK p s.heap l1 us)(n2:SqK q s.heap l2 vs) (h:∀h',IsZip h' (s.heap.objs.size+4) (s.heap.objs.size+2) (s.heap.objs.size+3) .none->IsPair h' (s.heap.objs.size+2) (.ref s.heap.objs.size) (.ref (s.heap.objs.size+1)) ->
   IsPair h' (s.heap.objs.size+3) .none .none->ItK p h' s.heap.objs.size l1 0->ItK q h' (s.heap.objs.size+1) l2 0->h'.objs.size=s.heap.objs.size+5 ->
   (∀c o,s.heap.get? c=some o->h'.get? c=some o)->Q (.ref (s.heap.objs.size+4)) { s with heap:=h' }) :
  wpAny (model prog w) A (call (.type "zip") [.ref l1,.ref l2]) Q E s:=by
 refine callType_new F.called_zip (by decide) (F.typeCall_zip_2 _ _) (F.newCall_zip_2 _ _) (λd=>F.args_object_init_3 d _ _) F.entry_zip_new
  (gR p q l1 l2 us vs) ⟨n1,n2,?_⟩
 have b:(kH1 p s.heap l1).objs.size=s.heap.objs.size+1:=Eu ..;have f:(kH2 p q s.heap l1 l2).objs.size=s.heap.objs.size+2:=by rw [Eu,b]
 have e:(kH3 p q s.heap l1 l2).objs.size=s.heap.objs.size+3:=by rw [Eu,f]
 have a:(kH4 p q s.heap l1 l2).objs.size=s.heap.objs.size+4:=by rw [Eu,e]
 have m:(kH5 p q s.heap l1 l2).objs.size=s.heap.objs.size+5:=by rw [Eu,a]
 have g:(kH5 p q s.heap l1 l2).get? (kH4 p q s.heap l1 l2).objs.size=some _:=By _ rfl;have k:(kH5 p q s.heap l1 l2).get? (kH3 p q s.heap l1 l2).objs.size=some _:=BJ _ (By _ rfl);have j:(kH5 p q s.heap l1 l2).get? (kH2 p q s.heap l1 l2).objs.size=some _:=BJ _ (BJ _ (By _ rfl));have i:(kH5 p q s.heap l1 l2).get? (kH1 p s.heap l1).objs.size=some _:=BJ _ (BJ _ (BJ _ (By _ rfl)));have l:(kH5 p q s.heap l1 l2).get? s.heap.objs.size=some _:=BJ _ (BJ _ (BJ _ (BJ _ (By _ rfl))));show _/\_;rw [f,e,a] at g;rw [b,f] at j;rw [e] at k;rw [b] at i;rw [a]
 exact ⟨⟨_,g,rfl⟩,h _ g j k (ItK.new l) (ItK.new i) m λc o x=>
  BJ _ (BJ _ (BJ _ (BJ _ (BJ _ x))))⟩
end
def SqB(K:W.Frag):Bool->Hp->Addr->List V->Prop
 | false,H,a,xs=>SqL K H a xs
 | true,H,a,xs=>SqT K H a xs
def SqK.here{xs:Array Value}(x:SqK p h a xs):∃o,h.get? a=some o:=by
 cases p
 .obtain ⟨o,e,_⟩:=(show h.IsList a xs from x);simp_all
 .obtain ⟨o,e,_⟩:=(show h.IsTuple a xs from x);simp_all
def Inv.seqB(I:Inv X pins Y H s)(h:SqB X.K p H a xs):∃its,Vals xs its/\SqK p s.heap a its.toArray/\xs.length<=sizeLine:=by
 cases p
 .obtain ⟨its,c,b,d⟩:=I.list h;exact ⟨its,c,b.isList,d⟩
 .obtain ⟨its,c,b,d⟩:=I.tuple h;exact ⟨its,c,b,d⟩
def Inv.seqB_inj(I:Inv X pins Y H s)(h:SqB X.K p H a xs)(h':SqB X.K p H a ys):xs=ys:=by
 cases p
 .exact I.list_inj h h'
 .exact I.tuple_inj h h'
def ItzK(K:W.Frag)(p q:Bool)(a b:Addr):It :=
 ⟨λi H=>∃d f x y,SqB K p H a d/\SqB K q H b f/\d[i]?=some x/\f[i]?=some y,λi H x g=>∃T e c,H T=none/\x=.ref T/\g=upd H T (.tup [e,c])/\(∀d,SqB K p H a d->d[i]?=some e)/\(∀f,SqB K q H b f->f[i]?=some c),
  λi H=>∃d f,SqB K p H a d/\SqB K q H b f/\(d.length<=i\/f.length<=i)⟩
def yQ{p q:Bool}{elts:List Expr}{x1:Nat}{a b z TI TO i1 i2:Addr}(D:ZipApart z TI TO i1 i2 a b):Turn P w K (.Tuple elts x1 pos) (ItzK K p q a b) [z,TI,TO,i1,i2] z
  (λi h=>IsZip h z TI TO .none/\IsPair h TI (.ref i1) (.ref i2)/\(∃u v,IsPair h TO u v)/\ItK p h i1 a i/\ItK q h i2 b i) where
 mem:=by simp
 obj:=λi h l c j=>by
  obtain ⟨t,f,⟨u,v,g⟩,f1,f2⟩:=l;obtain ⟨o1,_,e1,d1⟩:=f1.flds;obtain ⟨o2,_,e2,d2⟩:=f2.flds
  grind
 keep:=λi h h' l k=>by
  obtain ⟨t,f,⟨u,v,g⟩,J,G⟩:=l;exact ⟨k z (by simp) _ t,k TI (by simp) _ f,⟨u,v,k TO (by simp) _ g⟩,J.at λo e=>k i1 (by simp) o e,G.at λo e=>k i2 (by simp) o e⟩
 item:=by
  intro X T B Q hc i r s Y H E I O l R;subst T B Q;obtain ⟨t,f,⟨u0,v0,g⟩,J,G⟩:=l;obtain ⟨xs,ys,x,y,m,n,M,hy⟩:=R;obtain ⟨its,V,W,za⟩:=I.seqB m;obtain ⟨L,C,U,zb⟩:=I.seqB n;obtain ⟨u,hu,ru⟩:=V.get M;obtain ⟨v,hv,S⟩:=C.get hy;refine pC D t f g J G W U (x:=u) (y:=v) (by simp_all) (by simp_all) λg1 a1 a2 a3 a4 a5 a6 N=>⟨_,rfl,?_⟩;refine wpAny_letOwnedTupleGo_zip a1 λg2 hz2 hs2=>?_;have d:Heap.SameBut z g1 g2:=hs2;have A:∀{c:Addr} {F:Obj},s.heap.get? c=some F->c≠s.heap.objs.size:=λq=>Bm (BX q);have zT:=A t;have TIT:=A f;have TOT:=A g;have i1T:i1≠s.heap.objs.size:=by obtain ⟨_,q⟩:=J.here;grind
  have i2T:i2≠s.heap.objs.size:=by obtain ⟨_,q⟩:=G.here;grind
  have hT:H s.heap.objs.size=none:=I.hok.fresh (Ar _);have I2:Inv X r Y (upd H s.heap.objs.size (.tup [x,y])) { s with heap:=g2,toks:=s.toks }:=by
   refine I.turnNew (fp:=[z,TI,TO,i1,i2]) (λc F j q=>?_) O (Ar _) ?_
   .have b1:c≠z:=λe=>j (by simp [e]);have b2:c≠TO:=λe=>j (by simp [e]);have b3:c≠i1:=λe=>j (by simp [e]);have b4:c≠i2:=λe=>j (by simp [e]);exact d.extBut c F b1 (N c F b1 b2 b3 b4 q)
   .have Z:(2:Nat)<=sizeLine:=by decide
    exact ⟨Z,[u,v],.cons ru (.cons S .nil),⟨_,d.extBut _ _ (Ne.symm zT) a5,rfl,_,rfl⟩⟩
  refine ⟨.ref s.heap.objs.size,_,I2,rfl,⟨_,x,y,hT,rfl,rfl,(λws B=>by rw [I.seqB_inj B m];exact M),(λws B=>by rw [I.seqB_inj B n];exact hy)⟩,
   ⟨hz2,d.extBut _ _ D.TIz (N _ _ D.TIz D.TITO D.TIi1 D.TIi2 f),⟨_,_,d.extBut _ _ D.TOz a2⟩,a3.extBut d.extBut D.i1z,a4.extBut d.extBut D.i2z⟩,λc j=>?_⟩
  have nb:c≠s.heap.objs.size:=by
   grind
  rw [Ai nb];exact (O c j).1
 done:=by
  intro X T B Q hc i r s Y H E I O l R;subst T B Q;obtain ⟨t,f,⟨u0,v0,g⟩,J,G⟩:=l;obtain ⟨xs,ys,m,n,M⟩:=R;obtain ⟨its,V,W,za⟩:=I.seqB m;obtain ⟨L,C,U,zb⟩:=I.seqB n;have hl:=V.length;have hl2:=C.length;refine fG (I.ok.hd hc) D t f g J G W U (M.imp (λq=>by grind) (λq=>by grind)) λh' N=>⟨rfl,?_⟩;exact I.turnedL (fp:=[z,TI,TO,i1,i2]) (t':=s.toks) (λc F j q=>N c F (λe=>j (by simp [e])) (λe=>j (by simp [e])) (λe=>j (by simp [e])) (λe=>j (by simp [e])) q) O
 self:=λ_ _ _ _ _ l h=>wpAny_pyIter_zip l.1 h
def ZF(K:W.Frag)(ta:TA):TI:=λY H R=>ta Y H λd c=>∃p q a b,d=[.ref a,.ref b]/\(∃e,SqB K p c a e)/\(∃f,SqB K q c b f)/\R (ItzK K p q a b) c
def oM{elts:List Expr}{x1:Nat}{tpos:Pos}{a b:Expr}{ta:TA}{np:Pos}(hg:Gl X "zip")(hm:X.mg "zip"=none)(ha:PA X [a,b] ta)(hs:starEach [a,b] X.env=[(false,eval a X.env),(false,eval b X.env)]:=by rfl)(hs2:starEach [b] X.env=[(false,eval b X.env)]:=by rfl) :
  PI X (.Tuple elts x1 tpos) (.Call (.Name "zip" np) [a,b] [] pos) (ZF X.K ta):=by
 intro d s Y H R I h;refine Call_ (Jx I hg hm sI (Om (thn (ha pos d s Y H _ I h) λQ f zq=>?_) (by lia) (by rw [hs2];rfl)));obtain ⟨N,u,g,F,L⟩:=zq;obtain ⟨κ,μ,l,m,e,⟨O,k⟩,⟨U,j⟩,q⟩:=L;subst e;cases F with
 | cons r rr=>
  cases rr with
  | cons r' rr=>
   cases rr;cases r;cases r';obtain ⟨A,T,t,S⟩:=g.seqB k;obtain ⟨p,J,v,G⟩:=g.seqB j;have z:l<f.heap.objs.size:=by obtain ⟨_,e⟩:=t.here;exact BX e
   have D:m<f.heap.objs.size:=by obtain ⟨_,e⟩:=v.here;exact BX e
   refine ZmH t v λE w o n x C y M=>?_;have B:Inv X d Y u { f with heap:=E }:=g.kept (t':=f.toks) M
   refine wpAny_pyIter_zip w ?_;refine ⟨_,_,_,ItzK X.K κ μ l m,u,rfl,B,yQ (zipApart_new z D),⟨w,o,⟨_,_,n⟩,x,C⟩,λc P=>?_,q⟩;have i:f.heap.objs.size<=c:=by
    grind
   exact g.fpOk i (g.hok.fresh i)
end L2
namespace Dl
inductive D where
 | non | bl (b:Bool) | int (i:Int) | str (x:Str) | ty (n:String) | cls (c:Str)
 | tup (xs:List D) | lst (xs:List D) | exc (c:Str) | ins (c:Str) (ns:List Str) (vs:List D)
def pay(c:Str):Option Nat:=match c.cps.toList with
 | k::_=>if 0x110000<=k then some (k - 0x110000) else none
 | []=>none
def clsOf(c:Str):Str:=match c.cps.toList with
 | k::r=>if 0x110000<=k then ⟨r.toArray⟩ else c
 | []=>c
inductive Res(α:Type) where
 | ok (a:α) | bad
noncomputable def Res.bind:Res α->(α->Res β)->Res β
 | .ok a,f=>f a
 | .bad,_=>.bad
def K9(a:α)(f:α->Res β):(Res.ok a).bind f=f a:=rfl
inductive Cl where
 | no | im (d:D) | ow (ds:List D)
abbrev Ev:=List Cl
abbrev ME:=Ev->Res D
abbrev MB:=Ev->Res Bool
abbrev MA:=Ev->Res (List D)
def getC:Option Cl->Res D
 | some (.im d)=>.ok d
 | _=>.bad
def v(i:Nat):ME:=λZ=>getC Z[i]?
def c(d:D):ME:=λ_=>.ok d
def o1(f:D->Res D)(a:ME):ME:=λZ=>(a Z).bind f
def o2(f:D->D->Res D)(a b:ME):ME:=λZ=>(a Z).bind λx=>(b Z).bind λy=>f x y
def Ab:MA:=λ_=>.ok []
def Aa(a:ME)(r:MA):MA:=λZ=>(a Z).bind λx=>(r Z).bind λb=>.ok (x::b)
def on(f:List D->Res D)(a:MA):ME:=λZ=>(a Z).bind f
def mtp(a:MA):ME:=λZ=>(a Z).bind λb=>.ok (.tup b)
def mls(a:MA):ME:=λZ=>(a Z).bind λb=>.ok (.lst b)
def tru:D->Res Bool
 | .bl b=>.ok b
 | _=>.bad
def trb(a:ME):MB:=λZ=>(a Z).bind tru
def bAnd(a b:MB):MB:=λZ=>(a Z).bind λx=>if x=true then b Z else .ok false
def bOr(a b:MB):MB:=λZ=>(a Z).bind λx=>if x=true then .ok true else b Z
def bNot(a:MB):MB:=λZ=>(a Z).bind λx=>.ok (!x)
def eAnd(a b:ME):ME:=λZ=>(trb a Z).bind λx=>if x=true then b Z else .ok (.bl false)
def eNot(a:ME):ME:=λZ=>(trb a Z).bind λx=>.ok (.bl (!x))
def ife(t:MB)(a b:ME):ME:=λZ=>(t Z).bind λx=>if x=true then a Z else b Z
def DX(a b:Int):Bool:=decide (a.natAbs<2^64)||decide (b.natAbs<2^64)||decide (a.natAbs.log2+b.natAbs.log2<100000000)
def LIM:Nat:=1000000
def Af:D->D->Res D
 | .int a,.int b=>.ok (.int (a+b))
 | .lst a,.lst b=>if a.length+b.length<=LIM then .ok (.lst (a++b)) else .bad
 | .tup a,.tup b=>if a.length+b.length<=LIM then .ok (.tup (a++b)) else .bad
 | .str a,.str b=>if a.length+b.length<=LIM then .ok (.str (a++b)) else .bad
 | _,_=>.bad
def ii(f:Int->Int->Res D):D->D->Res D
 | .int a,.int b=>f a b
 | _,_=>.bad
def iSub(a b:Int):Res D:=.ok (.int (a - b))
def iMul(a b:Int):Res D:=if DX a b=true then .ok (.int (a*b)) else .bad
def iMod(a b:Int):Res D:=if 0<b then .ok (.int (a%b)) else if b=0 then .bad else .ok (.int (a.fmod b))
def iDiv(a b:Int):Res D:=if b.natAbs.log2<9000 then (if 0<b then .ok (.int (a/b)) else if b=0 then .bad else .ok (.int (a.fdiv b))) else .bad
def iPow(a b:Int):Res D:=if 0<=b/\b<=1000000/\a.natAbs<2^64 then .ok (.int (a^b.toNat)) else .bad
def iShl(a b:Int):Res D:=if 0<=b/\b<=1000000/\a.natAbs<2^64 then .ok (.int (a*2^b.toNat)) else .bad
def iShr(a b:Int):Res D:=if 0<=b then .ok (.int (a/2^b.toNat)) else .bad
def iLt(a b:Int):Res D:=.ok (.bl (decide (a<b)))
def iLe(a b:Int):Res D:=.ok (.bl (decide (a<=b)))
def iGt(a b:Int):Res D:=.ok (.bl (decide (b<a)))
def iGe(a b:Int):Res D:=.ok (.bl (decide (b<=a)))
abbrev dSub:=ii iSub
abbrev Bt:=ii iMul
abbrev Ao:=ii iMod
abbrev Be:=ii iDiv
abbrev dPow:=ii iPow
abbrev dShl:=ii iShl
abbrev dShr:=ii iShr
abbrev dLt:=ii iLt
abbrev dLe:=ii iLe
abbrev dGt:=ii iGt
abbrev dGe:=ii iGe
def dNeg:D->Res D
 | .int a=>.ok (.int (-a))
 | _=>.bad
mutual
def eqD:D->D->Bool
 | .non,.non=>true
 | .bl a,.bl b=>a==b
 | .bl a,.int j=>(if a then 1 else 0)==j
 | .int i,.bl b=>i==(if b then 1 else 0)
 | .int i,.int j=>i==j
 | .str x,.str y=>x==y
 | .lst xs,.lst ys=>eqDs xs ys
 | .tup xs,.tup ys=>eqDs xs ys
 | _,_=>false
def eqDs:List D->List D->Bool
 | [],[]=>true
 | x::xs,y::ys=>eqD x y&&eqDs xs ys
 | _,_=>false
end
mutual
def plain:Nat->D->Bool
 | _,.non=>true
 | _,.bl _=>true
 | _,.int _=>true
 | _,.str x=>x.cps.all (·<0x110000)
 | k+1,.tup xs=>Bc k xs
 | k+1,.lst xs=>Bc k xs
 | _,_=>false
def Bc:Nat->List D->Bool
 | _,[]=>true
 | k,x::xs=>plain k x&&Bc k xs
end
def dEq(x y:D):Res D:=if plain 50 x&&plain 50 y then .ok (.bl (eqD x y)) else .bad
def dNe(x y:D):Res D:=if plain 50 x&&plain 50 y then .ok (.bl (!eqD x y)) else .bad
def inD(x:D)(ys:List D):Bool:=ys.any λy=>eqD y x
def seqD:D->Res (List D)
 | .lst ys=>.ok ys
 | .tup ys=>.ok ys
 | _=>.bad
def dNin(x y:D):Res D:=(seqD y).bind λa=>if plain 50 x&&Bc 50 a then .ok (.bl (!inD x a)) else .bad
def at_(xs:List α)(i:Int):Option α:=if 0<=i then xs[i.toNat]? else if -(xs.length:Int)<=i then xs[(i+xs.length).toNat]? else none
def ofO:Option α->Res α
 | some a=>.ok a
 | none=>.bad
def dIx:D->D->Res D
 | .lst xs,.int i=>ofO (at_ xs i)
 | .tup xs,.int i=>ofO (at_ xs i)
 | _,_=>.bad
def cutAt(n d:Nat):Option Int->Nat
 | none=>d
 | some i=>if i<0 then (i+n).toNat else min i.toNat n
def cutL(xs:List D)(lo hi:Option Int):List D:=(xs.drop (cutAt xs.length 0 lo)).take (cutAt xs.length xs.length hi - cutAt xs.length 0 lo)
def dCut(x:D)(lo hi:Option Int):Res D:=match x with
 | .lst xs=>.ok (.lst (cutL xs lo hi))
 | .tup xs=>.ok (.tup (cutL xs lo hi))
 | _=>.bad
def pno:Ev->Res (Option Int):=λ_=>.ok none
def optI:D->Res (Option Int)
 | .int i=>.ok (some i)
 | _=>.bad
def pso(a:ME):Ev->Res (Option Int):=λZ=>(a Z).bind optI
def cut(a:ME)(lo hi:Ev->Res (Option Int)):ME:=λZ=>(a Z).bind λx=>(lo Z).bind λl=>(hi Z).bind λh=>dCut x l h
def bLen:List D->Res D
 | [.lst xs]=>.ok (.int xs.length)
 | [.tup xs]=>.ok (.int xs.length)
 | _=>.bad
def bAbs:List D->Res D
 | [.int i]=>.ok (.int (if i<0 then -i else i))
 | _=>.bad
def bMax:List D->Res D
 | [.int i,.int j]=>.ok (.int (if j>i then j else i))
 | _=>.bad
def bInt:List D->Res D
 | [.int i]=>.ok (.int i)
 | [.bl k]=>.ok (.int (if k then 1 else 0))
 | _=>.bad
def bTup:List D->Res D
 | [.lst xs]=>.ok (.tup xs)
 | [.tup xs]=>.ok (.tup xs)
 | _=>.bad
def bLst:List D->Res D
 | [.lst xs]=>.ok (.lst xs)
 | [.tup xs]=>.ok (.lst xs)
 | _=>.bad
def Ra:D->Option String
 | .non=>some "NoneType"
 | .bl _=>some "bool"
 | .int _=>some "int"
 | .str _=>some "str"
 | .tup _=>some "tuple"
 | .lst _=>some "list"
 | _=>none
def isTy(t n:String):Bool:=t==n||(t == "bool"&&n == "int")
def R8:List String:=["int","bool","str","tuple","list","dict"]
def bIsi:List D->Res D
 | [x,.ty n]=>if R8.contains n=true then (ofO (Ra x)).bind λt=>.ok (.bl (isTy t n)) else .bad
 | _=>.bad
def bools:List D->Res (List Bool)
 | []=>.ok []
 | d::r=>match d with
  | .bl b=>(bools r).bind λa=>.ok (b::a)
  | _=>.bad
def bAll:List D->Res D
 | [d]=>match d with
  | .lst xs=>(bools xs).bind λa=>.ok (.bl (a.all id))
  | _=>.bad
 | _=>.bad
abbrev MI:=Ev->Res (List D)
def items:D->Res (List D)
 | .lst xs=>.ok xs
 | .tup xs=>.ok xs
 | _=>.bad
def iv(a:ME):MI:=λZ=>(a Z).bind items
def pairs:List D->List D->List D
 | x::xs,y::ys=>.tup [x,y]::pairs xs ys
 | _,_=>[]
def numbered:Nat->List D->List D
 | _,[]=>[]
 | k,x::xs=>.tup [.int k,x]::numbered (k+1) xs
def zip2:List D->Res (List D)
 | [x,y]=>(seqD x).bind λb=>(seqD y).bind λa=>.ok (pairs b a)
 | _=>.bad
def iZip(a:MA):MI:=λZ=>(a Z).bind zip2
def RJ:List D->Res (List D)
 | [x]=>match x with
  | .lst xs=>.ok (numbered 0 xs)
  | _=>.bad
 | _=>.bad
def Us(a:MA):MI:=λZ=>(a Z).bind RJ
def Eb(lo:Int)(n:Nat):List D:=(List.range n).map λ(k:Nat)=>D.int (lo+(k:Int))
def rng1:List D->Res (List D)
 | [.int j]=>if -1000000000<=j/\j<=1000000000 then .ok (Eb 0 j.toNat) else .bad
 | _=>.bad
def r1(a:MA):MI:=λZ=>(a Z).bind rng1
abbrev MG:=D->Ev->Res Ev
abbrev MGs:=List D->Ev->Res Ev
def gN(i:Nat):MG:=λd Z=>.ok (Z.set i (.im d))
def gs0:MGs:=λa Z=>match a with
 | []=>.ok Z
 | _=>.bad
def gs1(g:MG)(r:MGs):MGs:=λa Z=>match a with
 | d::a=>(g d Z).bind λb=>r a b
 | []=>.bad
def gU(n:Nat)(g:MGs):MG:=λd Z=>(items d).bind λa=>if a.length=n then g a Z else .bad
def imOf:Option Cl->Cl
 | some (.im d)=>.im d
 | _=>.no
def DQ(Z:Ev):List Nat->Ev
 | []=>[]
 | j::r=>imOf Z[j]?::DQ Z r
def noA:Nat->Ev->Ev
 | 0,e=>e
 | k+1,e=>.no::noA k e
def Bw(g:MG)(t:MB)(e:ME)(Z0:Ev):List D->Res (List D)
 | []=>.ok []
 | x::r=>(g x Z0).bind λa=>(t a).bind λb=>if b=true then (e a).bind λy=>(Bw g t e Z0 r).bind λc=>.ok (y::c) else Bw g t e Z0 r
def yes:MB:=λ_=>.ok true
def noEx:Res α->Res α
 | r=>r
def comp(it:MI)(own:Nat)(cap:List Nat)(g:MG)(t:MB)(e:ME):ME:=λZ=>(it Z).bind λa=>
 if a.length<=LIM then (noEx (Bw g t e (noA own (DQ Z cap)) a)).bind λb=>.ok (.lst b) else .bad
inductive Fl where
 | nx (Z:Ev) | rt (d:D) | bk (Z:Ev) | ct (Z:Ev)
abbrev MS:=Ev->Res Fl
def nop:MS:=λZ=>.ok (.nx Z)
def goOn(b:MS):Fl->Res Fl
 | .nx Z=>b Z
 | f=>.ok f
def sq(a b:MS):MS:=λZ=>(a Z).bind (goOn b)
def st(i:Nat)(e:ME):MS:=λZ=>(e Z).bind λd=>.ok (.nx (Z.set i (.im d)))
def lstO:D->Res (List D)
 | .lst xs=>.ok xs
 | _=>.bad
def stO(i:Nat)(e:ME):MS:=λZ=>(e Z).bind λd=>(lstO d).bind λa=>.ok (.nx (Z.set i (.ow a)))
def getO:Option Cl->Res (List D)
 | some (.ow xs)=>.ok xs
 | _=>.bad
def frz(i:Nat)(m:MS):MS:=λZ=>(getO Z[i]?).bind λa=>m (Z.set i (.im (.lst a)))
def app(i:Nat)(e:ME):MS:=λZ=>(getO Z[i]?).bind λa=>(e Z).bind λd=>if a.length<LIM then .ok (.nx (Z.set i (.ow (a++[d])))) else .bad
def asg(g:MG)(e:ME):MS:=λZ=>(e Z).bind λd=>(g d Z).bind λa=>.ok (.nx a)
def drp(e:ME):MS:=λZ=>(e Z).bind λ_=>.ok (.nx Z)
def ret(e:ME):MS:=λZ=>(e Z).bind λd=>.ok (.rt d)
def ifs(t:MB)(a b:MS):MS:=λZ=>(t Z).bind λx=>if x=true then a Z else b Z
def JT:D->Res D
 | .non=>.ok .non
 | .bl b=>.ok (.bl b)
 | .int i=>.ok (.int i)
 | .str x=>.ok (.str x)
 | _=>.bad
def pk(i:Nat)(m:ME):ME:=λZ=>(getO Z[i]?).bind λa=>(m (Z.set i (.im (.lst a)))).bind JT
def pkB(i:Nat)(m:MB):MB:=λZ=>(getO Z[i]?).bind λa=>m (Z.set i (.im (.lst a)))
def turn(k:MS):Fl->Res Fl
 | .nx Z=>k Z
 | .ct Z=>k Z
 | .bk Z=>.ok (.nx Z)
 | .rt d=>.ok (.rt d)
def CG(g:MG)(b:MS):List D->MS
 | [],Z=>.ok (.nx Z)
 | x::r,Z=>(g x Z).bind λa=>(b a).bind (turn (CG g b r))
def for_(it:MI)(g:MG)(b:MS):MS:=λZ=>(it Z).bind λa=>CG g b a Z
def whGo(t:MB)(b:MS):Nat->MS
 | 0,_=>.bad
 | n+1,Z=>(t Z).bind λx=>if x=true then (b Z).bind (turn (whGo t b n)) else .ok (.nx Z)
def absC:Cl->Nat
 | .im (.int i)=>i.natAbs
 | _=>0
def fuel(Z:Ev):Nat:=(Z.map absC).sum+1
def whl(n:Ev->Nat)(t:MB)(b:MS):MS:=λZ=>whGo t b (n Z) Z
def evF:List D->Nat->Ev
 | [],k=>noA k []
 | d::r,k=>.im d::evF r (k - 1)
def ev0(n:Nat)(ds:List D):Ev:=evF ds n
def Rj:∀k e,noA k e=List.replicate k .no++e
 | 0,_=>rfl
 | k+1,e=>by rw [noA,Rj k e,List.replicate_succ,List.cons_append]
def Sy(Z):∀cap,DQ Z cap=cap.map λj=>imOf Z[j]?
 | []=>rfl
 | j::r=>by rw [DQ,Sy Z r,Bg]
def K4:∀ds n,ev0 n ds=ds.map .im++List.replicate (n - ds.length) .no
 | [],n=>by show noA n []=_;rw [Rj];simp
 | d::r,n=>by
  have ih:=K4 r (n - 1);show .im d::ev0 (n - 1) r=_
  grind
def endOf:Fl->Res D
 | .rt d=>.ok d
 | .nx _=>.ok .non
 | _=>.bad
def fn(n:Nat)(b:MS)(ds:List D):Res D:=(b (ev0 n ds)).bind endOf
end Dl
variable{H' F0 H0 F':L2.Hp}{E:L2.XK}{Z:Dl.Ev}{ds:List Dl.D}{me:Dl.ME}{d:Dl.D}
namespace L2.Ds
open Dl
def XcO(H:Hp)(a:Addr)(cls:Value)(d:Addr)(p:Option Addr):Prop:=match p with
 | none=>H a=some (exO a cls)
 | some n=>H a=some (exC a cls d)/\H d=some (.xd [("at",.int (((n)/2:Nat):Int))])
def XcO.same{d:Addr}(h:XcO H a cls d p)(e:∀b o,H b=some o->(∀xs,o≠.lst xs)->H' b=some o):XcO H' a cls d p:=by
 cases p with
 | none=>exact e _ _ h λ_ z=>by cases z
 | some n=>exact ⟨e _ _ h.1 (λ_ z=>by cases z),e _ _ h.2 (λ_ z=>by cases z)⟩
mutual
inductive Rp(K:W.Frag)(mg:Str->Option Value)(H:Hp):V->D->Prop
 | non:Rp K mg H .non .non
 | bl (b:Bool):Rp K mg H (.bl b) (.bl b)
 | int (i:Int):Rp K mg H (.int i) (.int i)
 | str (x:Str):Rp K mg H (.str x) (.str x)
 | ty (n:String):Rp K mg H (.ty n) (.ty n)
 | cls {c:Str} {C:Addr} (h:mg c=some (.ref C)):Rp K mg H (.ref C) (.cls c)
 | tup {a:Addr} {xs:List V} {ds:List D} (h:SqT K H a xs) (r:Rps K mg H xs ds):Rp K mg H (.ref a) (.tup ds)
 | lst {a:Addr} {xs:List V} {ds:List D} (h:SqL K H a xs) (r:Rps K mg H xs ds):Rp K mg H (.ref a) (.lst ds)
 | exc {c:Str} {C a d:Addr} (m:mg (clsOf c)=some (.ref C)) (h:XcO H a (.ref C) d (pay c)):Rp K mg H (.ref a) (.exc c)
 | ins {c:Str} {C a dx:Addr} {fs:List (Str×V)} {xs:List V} {vs:List D} (m:mg c=some (.ref C)) (h:H a=some (.ins C dx fs)) (o:H dx=some (.own a)) (e:fs.map (·.2)=xs) (r:Rps K mg H xs vs):Rp K mg H (.ref a) (.ins c (fs.map (·.1)) vs)
inductive Rps(K:W.Frag)(mg:Str->Option Value)(H:Hp):List V->List D->Prop
 | nil:Rps K mg H [] []
 | cons {x:V} {xs:List V} {d:D} {ds:List D} (h:Rp K mg H x d) (r:Rps K mg H xs ds):Rps K mg H (x::xs) (d::ds)
end
section
def Du(e:Same H H')(h:SqT K H a xs):SqT K H' a xs:=by
 rcases h with (h | ⟨o,h⟩) | h
 .exact .inl (.inl (e _ _ h))
 .exact .inl (.inr ⟨o,e _ _ h⟩)
 .exact .inr h
mutual
def Rp.same(e:Same H H'){x:V}{d:D}(h:Rp K mg H x d):Rp K mg H' x d:=by
 cases h with
 | non=>exact .non
 | bl b=>exact .bl b
 | int i=>exact .int i
 | str x=>exact .str x
 | ty n=>exact .ty n
 | cls h=>exact .cls h
 | tup h r=>exact .tup (Du e h) (Rps.same e r)
 | lst h r=>exact .lst (e.seq h) (Rps.same e r)
 | exc m h=>exact .exc m (h.same λb o z _=>e b o z)
 | ins m h o q r=>exact .ins m (e _ _ h) (e _ _ o) q (Rps.same e r)
def Rps.same(e:Same H H'){xs:List V}{ds:List D}(h:Rps K mg H xs ds):Rps K mg H' xs ds:=by
 cases h with
 | nil=>exact .nil
 | cons h r=>exact .cons (Rp.same e h) (Rps.same e r)
end
def Rps.length:∀{xs:List V} {ds:List D},Rps K mg H xs ds->xs.length=ds.length
 | _,_,.nil=>rfl
 | _,_,.cons _ r=>CP (·+1) (Rps.length r)
def Rps.get:∀{xs:List V} {ds:List D} {i:Nat} {d:D},Rps K mg H xs ds->ds[i]?=some d->∃x,xs[i]?=some x/\Rp K mg H x d
 | _,_,_,_,.nil,e=>by simp at e
 | _,_,0,_,.cons h _,e=>by simp_all
 | _,_,i+1,_,.cons _ r,e=>by
  obtain ⟨x,a,b⟩:=Rps.get r (by trivial);simp_all
def Rps.app{es:List D}(q:Rps K mg H ys es):∀{xs:List V} {ds:List D},Rps K mg H xs ds->Rps K mg H (xs++ys) (ds++es)
 | _,_,.nil=>q
 | _,_,.cons h r=>.cons h (Rps.app q r)
def Rps.rev:∀{xs:List V} {ds:List D},Rps K mg H xs ds->Rps K mg H xs.reverse ds.reverse
 | _,_,.nil=>.nil
 | _,_,.cons h r=>by
  rw [List.reverse_cons,List.reverse_cons];exact Rps.app (.cons h .nil) (Rps.rev r)
def Rps.drop:∀{xs:List V} {ds:List D} (n:Nat),Rps K mg H xs ds->Rps K mg H (xs.drop n) (ds.drop n)
 | _,_,0,r=>r
 | _,_,_+1,.nil=>.nil
 | _,_,n+1,.cons _ r=>Rps.drop n r
def Rps.take:∀{xs:List V} {ds:List D} (n:Nat),Rps K mg H xs ds->Rps K mg H (xs.take n) (ds.take n)
 | _,_,0,_=>.nil
 | _,_,_+1,.nil=>.nil
 | _,_,n+1,.cons h r=>.cons h (Rps.take n r)
def Rps.one{xs:List V}{d:D}(h:Rps K mg H xs [d]):∃x,xs=[x]/\Rp K mg H x d:=by
 cases h with | cons h r=>cases r;exact ⟨_,rfl,h⟩
def Rps.two{xs:List V}{d e:D}(h:Rps K mg H xs [d,e]):∃x y,xs=[x,y]/\Rp K mg H x d/\Rp K mg H y e:=by
 cases h with | cons h r=>obtain ⟨_,rfl,g⟩:=Rps.one r;exact ⟨_,_,rfl,h,g⟩
end
structure Gr(F H F' H':Hp):Prop where
 f:Same F F'
 s:Same F' H'
 o:∀a o,F a=none->H a=some o->F' a=none/\H' a=some o
 z:∀a o u,F' a=some (.frz o u)->F a=some (.frz o u)
def Gr.refl{F:Hp}(s:Same F H):Gr F H F H:=⟨Same.refl _,s,λ_ _ a b=>⟨a,b⟩,λ_ _ _ h=>h⟩
def Gr.trans{F:Hp}(g:Gr F H F1 H1)(h:Gr F1 H1 F2 H2):Gr F H F2 H2:=⟨g.f.trans h.f,h.s,λa o b c=>let ⟨q1,q2⟩:=g.o a o b c;h.o a o q1 q2,λa o u e=>g.z a o u (h.z a o u e)⟩
def zf{F:Hp}(s:Same F H):Same (upd F p o) (upd H p o):=λb u e=>by
 by_cases hb:b=p
 .subst hb;rw [Ay] at e ⊢;exact e
 .rw [Ai hb] at e ⊢;exact s b u e
def O3{F:Hp}(nz:∀o' u,o≠.frz o' u)(e:upd F p o a=some (.frz o' u)):F a=some (.frz o' u):=by
 by_cases ne:a=p
 .subst ne;rw [Ay] at e;simp_all
 .rw [Ai ne] at e;exact e
def Gr.new{F:Hp}(s:Same F H)(h:H p=none)(o)(nz:∀o' u,o≠.frz o' u:=by intro _ _ z;cases z):Gr F H (upd F p o) (upd H p o) :=
 ⟨Cp (s.free h) o,zf s,λa u d c=>by
  have b:=BP c h;rw [Ai b,Ai b];trivial,λa o' u e=>by
  by_cases b:a=p
  .subst b;rw [Ay] at e;simp_all
  .rw [Ai b] at e;exact e⟩
structure Rep(K:W.Frag)(mg:Str->Option Value)(F0 H0 F H:Hp)(Y:St)(Z:Ev):Prop where
 g:Gr F0 H0 F H
 len:Y.length=Z.length
 im:∀(i:Nat) (d:D),Z[i]?=some (.im d)->∃x,Y[i]?=some (some x)/\Rp K mg F x d
 ow:∀(i:Nat) (ds:List D),Z[i]?=some (.ow ds)->∃a xs,Y[i]?=some (some (.ref a))/\H0 a=none/\F a=none/\H a=some (.lst xs)/\Rps K mg F xs ds
 ne:∀(i j:Nat) (ds es:List D) (a:Addr),Z[i]?=some (.ow ds)->Z[j]?=some (.ow es)->Y[i]?=some (some (.ref a))->Y[j]?=some (some (.ref a))->i=j
section
variable {F:Hp}
def Rep.gr(r:Rep K mg F0 H0 F H Y Z)(g:Gr F H F' H'):Rep K mg F0 H0 F' H' Y Z:=by
 refine ⟨r.g.trans g,r.len,λi d e=>?_,λi h e=>?_,r.ne⟩
 .obtain ⟨x,b,c⟩:=r.im i d e;exact ⟨x,b,c.same g.f⟩
 .obtain ⟨a,j,b,c,n,k,l⟩:=r.ow i h e;obtain ⟨p,m⟩:=g.o a _ n k;exact ⟨a,j,b,c,p,m,l.same g.f⟩
def Cm{l:List α}{x:α}(h:(l.set i x)[j]?=some y):(i=j/\y=x/\i<l.length)\/(i≠j/\l[j]?=some y):=by
 grind
def R0{l:List α}{x:α}(h:i<l.length):(l.set i x)[i]?=some x:=by
 simp_all
def FP{l:List α}{x:α}(h:i≠j):(l.set i x)[j]?=l[j]?:=by
 simp_all
def Rep.set{x:V}(r:Rep K mg F0 H0 F H Y Z)(i:Nat)(h:Rp K mg F x d):Rep K mg F0 H0 F H (Y.set i (some x)) (Z.set i (.im d)):=by
 refine ⟨r.g,by rw [Eg,Eg];exact r.len,λj e q=>?_,λj b q=>?_,λj k b o a f c n m=>?_⟩
 .rcases Cm q with ⟨rfl,z,l⟩ | ⟨hij,q⟩
  .cases z;exact ⟨x,R0 (by rw [r.len];exact l),h⟩
  .rw [FP hij];exact r.im j e q
 .rcases Cm q with ⟨_,z,_⟩ | ⟨hij,q⟩
  .cases z
  .rw [FP hij];exact r.ow j b q
 .rcases Cm f with ⟨_,z,_⟩ | ⟨h1,f⟩
  .cases z
  .rcases Cm c with ⟨_,z,_⟩ | ⟨h2,c⟩
   .cases z
   .rw [FP h1] at n;rw [FP h2] at m;exact r.ne j k b o a f c n m
def Rep.own(r:Rep K mg F0 H0 F H Y Z)(i:Nat)(hn:H a=none)(h:Rps K mg F xs ds):Rep K mg F0 H0 F (upd H a (.lst xs)) (Y.set i (some (.ref a))) (Z.set i (.ow ds)):=by
 have p:=r.g.s.free hn;have m:H0 a=none:=by
  cases q:H0 a with
  | none=>rfl
  | some o=>
   cases c:F0 a with
   | none=>rw [(r.g.o a o c q).2] at hn;cases hn
   | some u=>rw [r.g.f a u c] at p;cases p
 have C:∀{j:Nat} {d:List D} {b:Addr},Z[j]?=some (.ow d)->Y[j]?=some (some (.ref b))->b≠a:=λ{j d b} n c=>by
  obtain ⟨M,B,t,_,_,v,_⟩:=r.ow j d n
  lia
 refine ⟨⟨r.g.f,λb o e=>?_,λb o J y=>?_,r.g.z⟩,by rw [Eg,Eg];exact r.len,λj e q=>?_,λj d q=>?_,λj k d E b n c A x=>?_⟩
 .rw [Ai (BP e p)];exact r.g.s b o e
 .rw [Ai (BP y m)];exact r.g.o b o J y
 .rcases Cm q with ⟨_,z,_⟩ | ⟨hij,q⟩
  .cases z
  .rw [FP hij];exact r.im j e q
 .rcases Cm q with ⟨rfl,z,l⟩ | ⟨hij,q⟩
  .cases z;exact ⟨a,xs,R0 (by rw [r.len];exact l),m,p,Ay,h⟩
  .rw [FP hij];obtain ⟨b,L,t,w,I,v,G⟩:=r.ow j d q;exact ⟨b,L,t,w,I,by rw [Ai (BP v hn)];exact v,G⟩
 .rcases Cm n with ⟨rfl,_,l1⟩ | ⟨t,n⟩
  .grind
  .rcases Cm c with ⟨rfl,_,l2⟩ | ⟨w,c⟩
   .grind
   .rw [FP t] at A;rw [FP w] at x;exact r.ne j k d E b n c A x
def Rep.app{x:V}(r:Rep K mg F0 H0 F H Y Z)(e:Z[i]?=some (.ow ds))(e2:Y[i]?=some (some (.ref a)))(e3:H a=some (.lst xs))(e4:H0 a=none)(e5:F a=none)(hr:Rps K mg F xs ds)(h:Rp K mg F x d) :
  Rep K mg F0 H0 F (upd H a (.lst (xs++[x]))) Y (Z.set i (.ow (ds++[d]))):=by
 refine ⟨⟨r.g.f,λb o q=>?_,λb o w n=>?_,r.g.z⟩,by rw [Eg];exact r.len,λj u q=>?_,λj t q=>?_,λj k t J b w n I A=>?_⟩
 .rw [Ai (BP q e5)];exact r.g.s b o q
 .rw [Ai (BP n e4)];exact r.g.o b o w n
 .rcases Cm q with ⟨_,z,_⟩ | ⟨_,q⟩
  .cases z
  .exact r.im j u q
 .rcases Cm q with ⟨rfl,z,l⟩ | ⟨hij,q⟩
  .cases z;exact ⟨a,_,e2,e4,e5,Ay,Rps.app (.cons h .nil) hr⟩
  .obtain ⟨b,E,v,G,D,y,C⟩:=r.ow j t q;have B:b≠a:=by
    rintro rfl;exact hij (r.ne i j ds t b e q e2 v)
   exact ⟨b,E,v,G,D,by rw [Ai B];exact y,C⟩
 .have m:∃c,Z[j]?=some (.ow c):=by
   grind
  have p:∃c,Z[k]?=some (.ow c):=by
   grind
  obtain ⟨_,m⟩:=m;obtain ⟨_,p⟩:=p;exact r.ne j k _ _ b m p I A
def Rep.frz{i:Nat}{ds:List D}(r:Rep K mg F0 H0 F H Y Z)(e:Z[i]?=some (.ow ds)):∃F',Same F F'/\Rep K mg F0 H0 F' H Y (Z.set i (.im (.lst ds))):=by
 obtain ⟨a,t,p,B,G,M,J⟩:=r.ow i ds e;have d:Same F (upd F a (.lst t)):=Cp G _;refine ⟨upd F a (.lst t),d,⟨r.g.f.trans d,λb o q=>?_,λb o h c=>?_,λb o u q=>r.g.z b o u (O3 (λ_ _ z=>by cases z) q)⟩,by rw [Eg];exact r.len,λj u q=>?_,λj m q=>?_,λj k m C b h c y v=>?_⟩
 .by_cases hb:b=a
  .subst hb;rw [Ay] at q;lia
  .rw [Ai hb] at q;exact r.g.s b o q
 .rw [Ai (BP c B)];exact r.g.o b o h c
 .rcases Cm q with ⟨rfl,z,_⟩ | ⟨_,q⟩
  .cases z;exact ⟨.ref a,p,.lst (SqL.of Ay) (J.same d)⟩
  .obtain ⟨x,l,n⟩:=r.im j u q;exact ⟨x,l,n.same d⟩
 .rcases Cm q with ⟨_,z,_⟩ | ⟨hij,q⟩
  .cases z
  .obtain ⟨b,L,l,n,I,w,E⟩:=r.ow j m q;have A:b≠a:=by
    rintro rfl;exact hij (r.ne i j ds m b e q p l)
   exact ⟨b,L,l,n,by rw [Ai A];exact I,w,E.same d⟩
 .rcases Cm h with ⟨_,z,_⟩ | ⟨_,h⟩
  .cases z
  .rcases Cm c with ⟨_,z,_⟩ | ⟨_,c⟩
   .cases z
   .exact r.ne j k m C b h c y v
end
def Ans(mg:Str->Option Value)(E:XK)(R:Hp->β->α->Prop)(F H:Hp)(r:Res α)(w:(β->Hp->Prop)->Prop):Prop :=
 match r with
 | .ok a=>∀Q,(∀c d b,Gr F H c d->R c b a->Q b d)->w Q
 | .bad=>True
section
variable{α β γ δ:Type} {R:Hp->β->α->Prop} {R':Hp->δ->γ->Prop} {F:Hp}
def Ans.ret{w:(β->Hp->Prop)->Prop}(s:Same F H)(r:R F b a)(h:∀Q,Q b H->w Q):Ans mg E R F H (.ok a) w:=λQ q=>h Q (q F H b (.refl s) r)
def Ans.bindE{r:Res α}{w:(β->Hp->Prop)->Prop}{k:α->Res γ}{w':β->Hp->(δ->Hp->Prop)->Prop}(h1:Ans mg E R F H r w)(h2:∀a,r=.ok a->∀F1 H1 b,Gr F H F1 H1->R F1 b a->Ans mg E R' F1 H1 (k a) (w' b H1)) :
  Ans mg E R' F H (r.bind k) (λQ=>w λb H1=>w' b H1 Q):=by
 cases r with
 | ok a=>
  show Ans mg E R' F H (k a) _;have c:=h2 a rfl;generalize k a=r2 at c;cases r2 with
  | ok d=>exact λQ q=>h1 _ λF1 H1 b g j=>c F1 H1 b g j Q λi h e f l=>q i h e (g.trans f) l
  | bad=>trivial
 | bad=>trivial
def Ans.bind{r:Res α}{w:(β->Hp->Prop)->Prop}{k:α->Res γ}{w':β->Hp->(δ->Hp->Prop)->Prop}(h1:Ans mg E R F H r w)(h2:∀F1 H1 b a,Gr F H F1 H1->R F1 b a->Ans mg E R' F1 H1 (k a) (w' b H1)) :
  Ans mg E R' F H (r.bind k) (λQ=>w λb H1=>w' b H1 Q):=h1.bindE λa _ F1 H1 b g q=>h2 F1 H1 b a g q
end
def AnsS(K:W.Frag)(mg:Str->Option Value)(E:XK)(F0 H0 F:Hp)(r:Res Fl)(w:Ends->Prop):Prop :=
 match r with
 | .ok (.nx Z)=>∀D,(∀a b c,Same F a->Rep K mg F0 H0 a b c Z->D.nx c b)->w D
 | .ok (.bk Z)=>∀D,(∀a b c,Same F a->Rep K mg F0 H0 a b c Z->D.bk c b)->w D
 | .ok (.ct Z)=>∀D,(∀a b c,Same F a->Rep K mg F0 H0 a b c Z->D.ct c b)->w D
 | .ok (.rt d)=>∀D,(∀a b x,Gr F0 H0 a b->Rp K mg a x d->D.rt x b)->w D
 | .bad=>True
abbrev RB:Hp->Bool->Bool->Prop:=λ_ b b'=>b=b'
abbrev RO:Hp->Option Int->Option Int->Prop:=λ_ b b'=>b=b'
def SE(K:W.Frag)(mg:Str->Option Value)(E:XK)(t:TE)(m:ME):Prop:=∀a b F H Y Z,Rep K mg a b F H Y Z->Ans mg E (Rp K mg) F H (m Z) (t Y H)
def STt(K:W.Frag)(mg:Str->Option Value)(E:XK)(t:TT)(m:MB):Prop:=∀a b F H Y Z,Rep K mg a b F H Y Z->Ans mg E RB F H (m Z) (t Y H)
def SA(K:W.Frag)(mg:Str->Option Value)(E:XK)(t:TA)(m:MA):Prop:=∀a b F H Y Z,Rep K mg a b F H Y Z->Ans mg E (Rps K mg) F H (m Z) (t Y H)
def SO(K:W.Frag)(mg:Str->Option Value)(E:XK)(t:TO)(m:Ev->Res (Option Int)):Prop:=∀a b F H Y Z,Rep K mg a b F H Y Z->Ans mg E RO F H (m Z) (t Y H)
def SS(K:W.Frag)(mg:Str->Option Value)(E:XK)(t:TS)(m:MS):Prop:=∀a b F H Y Z,Rep K mg a b F H Y Z->AnsS K mg E a b F (m Z) (λD=>t D Y H)
def AnsG(K:W.Frag)(mg:Str->Option Value)(F0 H0 F:Hp)(n:Nat)(Y:St)(r:Res Ev)(w:(St->Hp->Prop)->Prop):Prop :=
 match r with
 | .ok Z'=>∀Q,(∀b c a,Same F b->Rep K mg F0 H0 b c a Z'->a.drop n=Y.drop n->Q a c)->w Q
 | _=>True
def SG(K:W.Frag)(mg:Str->Option Value)(n:Nat)(t:TG)(g:MG):Prop:=∀a b F H Y Z x d,Rep K mg a b F H Y Z->Rp K mg F x d->AnsG K mg a b F n Y (g d Z) (t x Y H)
def SGs(K:W.Frag)(mg:Str->Option Value)(n:Nat)(t:TGs)(g:MGs):Prop:=∀c d F H Y Z a b,Rep K mg c d F H Y Z->Rps K mg F a b->AnsG K mg c d F n Y (g b Z) (t a Y H)
def ItOk(K:W.Frag)(mg:Str->Option Value)(F:Hp)(J:It)(ds:List D):Prop:=∀e c,Same F e->Same e c->∀i,
 (∀d,ds[i]?=some d->J.go i c/\∀x b,J.yld i c x b->∃a,Gr e c a b/\Rp K mg a x d)/\(ds.length<=i->J.stop i c)
def SI(K:W.Frag)(mg:Str->Option Value)(E:XK)(t:TI)(m:MI):Prop:=∀a b F H Y Z,Rep K mg a b F H Y Z->Ans mg E (ItOk K mg) F H (m Z) (t Y H)
def OpD(K:W.Frag)(mg:Str->Option Value)(r:R2)(f:D->D->Res D):Prop:=∀E F H x y b a,Same F H->Rp K mg F x b->Rp K mg F y a->Ans mg E (Rp K mg) F H (f b a) (r x y H)
def UnD(K:W.Frag)(mg:Str->Option Value)(r:V->Hp->VK->Prop)(f:D->Res D):Prop:=∀E F H x a,Same F H->Rp K mg F x a->Ans mg E (Rp K mg) F H (f a) (r x H)
def CallD(K:W.Frag)(mg:Str->Option Value)(r:List V->Hp->VK->Prop)(f:List D->Res D):Prop:=∀E F H a b,Same F H->Rps K mg F a b->Ans mg E (Rp K mg) F H (f b) (r a H)
section
variable {ta tb tc:TE} {ma mb mc:ME} {sa sb:TT} {na nb:MB}
def Rep.ss{F:Hp}(r:Rep K mg F0 H0 F H Y Z):Same F H:=r.g.s
def se_v(i):SE K mg E (tVar i) (v i):=by
 intro c e F H Y Z r;unfold v getC;split
 .next d h=>
  obtain ⟨x,b,a⟩:=r.im i d h;exact .ret r.ss a λQ q=>⟨x,b,q⟩
 .trivial
def se_c{x:V}(h:∀F,Rp K mg F x d):SE K mg E (tC x) (c d):=λ_ _ F _ _ _ r=>.ret r.ss (h F) λ_ q=>q
def RC(hf:OpD K mg r f)(ha:SE K mg E ta ma)(hb:SE K mg E tb mb):SE K mg E (tOp r ta tb) (o2 f ma mb):=by
 intro a b F H Y Z c;refine (ha a b F H Y Z c).bind λm h x l e j=>?_;refine (hb a b m h Y Z (c.gr e)).bind λi g y n d k=>?_;exact hf E i g x y l n d.s (j.same d.f) k
def cO(hf:UnD K mg r f)(ha:SE K mg E ta ma):SE K mg E (tUn r ta) (o1 f ma):=by
 intro d e F H Y Z c;exact (ha d e F H Y Z c).bind λh b x i a g=>hf E h b x i a.s g
def Yr:SA K mg E tNil Ab:=λ_ _ _ _ _ _ r=>.ret r.ss .nil λ_ q=>q
def ig(ha:SE K mg E ta ma)(hr:SA K mg E t m):SA K mg E (Bo ta t) (Aa ma m):=by
 intro a b F H Y Z c;refine (ha a b F H Y Z c).bind λj g x o e h=>?_;refine (hr a b j g Y Z (c.gr e)).bind λn k p l d i=>?_;exact .ret d.s (.cons (h.same d.f) i) λ_ q=>q
def Y8(hf:CallD K mg r f)(ha:SA K mg E t m):SE K mg E (tCB r t) (on f m):=by
 intro d e F H Y Z c;exact (ha d e F H Y Z c).bind λh b x i a g=>hf E h b x i a.s g
def Hx{F:Hp}{w:VK->Prop}(s:Same F H)(hr:∀p,H p=none->R (upd F p o) (.ref p) a)(h:∀Q,(∀p,H p=none->Q (.ref p) (upd H p o))->w Q)(nz:∀o' u,o≠.frz o' u:=by intro _ _ z;cases z):Ans mg E R F H (.ok a) w :=
 λQ q=>h Q λp b=>q (upd F p o) (upd H p o) (.ref p) (.new s b o nz) (hr p b)
def SAn(n:Nat)(m:MA):Prop:=∀Z a,m Z=.ok a->a.length=n
def eV:SAn 0 Ab:=λZ a h=>by cases h;rfl
def uN(h:SAn n m):SAn (n+1) (Aa ma m):=λZ c e=>by
 unfold Aa at e;cases ea:ma Z with
 | ok x=>
  rw [ea] at e;cases em:m Z with
  | ok xs=>
   have a:=e;rw [em] at a;have b:=a;cases b;exact CP (·+1) (h Z xs em)
  | bad=>
   have a:=e;rw [em] at a;cases a
 | bad=>rw [ea] at e;cases e
def wk(ha:SA K mg E t m)(hl:SAn n m)(hn:n<=sizeLine):SE K mg E (tTup t) (mtp m):=by
 intro d f F H Y Z c;have h:=ha d f F H Y Z c;unfold mtp;cases e:m Z with
 | ok ds=>
  rw [e] at h;exact λQ q=>h _ λi k j g a=>⟨by rw [a.length,hl Z ds e];exact hn,λp b=>q _ _ _ (g.trans (.new g.s b _)) (.tup (SqT.of Ay) (a.same (Cp (g.s.free b) _)))⟩
 | bad=>trivial
def pN(ha:SA K mg E t m)(hl:SAn n m)(hn:n<=sizeLine):SE K mg E (tLst t) (mls m):=by
 intro d f F H Y Z c;have h:=ha d f F H Y Z c;unfold mls;cases e:m Z with
 | ok ds=>
  rw [e] at h;exact λQ q=>h _ λi k j g a=>⟨by rw [a.length,hl Z ds e];exact hn,λp b=>q _ _ _ (g.trans (.new g.s b _)) (.lst (SqL.of Ay) (a.same (Cp (g.s.free b) _)))⟩
 | bad=>trivial
def st_b(ha:SE K mg E ta ma):STt K mg E (L2.tB ta) (trb ma):=by
 intro d e F H Y Z c;refine (ha d e F H Y Z c).bind λi h x g a f=>?_;cases g with
 | bl b=>cases f;exact .ret a.s rfl λQ q=>⟨b,rfl,q⟩
 | _=>trivial
def Zq6(ha:SE K mg E ta ma):STt K mg E (Dz ta) (trb ma):=st_b ha
def pW(ha:STt K mg E sa na)(hb:STt K mg E sb nb):STt K mg E (tAnd sa sb) (bAnd na nb):=by
 intro c d F H Y Z b;refine (ha c d F H Y Z b).bind λg e x h a f=>?_;cases (f);cases x with
 | true=>
  have z:=hb c d g e Y Z (b.gr a);trivial
 | false=>
  exact Ans.ret a.s rfl λQ q=>q
def ut(ha:STt K mg E sa na)(hb:STt K mg E sb nb):STt K mg E (tOr sa sb) (bOr na nb):=by
 intro c d F H Y Z b;refine (ha c d F H Y Z b).bind λg e x h a f=>?_;cases (f);cases x with
 | true=>
  exact Ans.ret a.s rfl λQ q=>q
 | false=>
  have z:=hb c d g e Y Z (b.gr a);trivial
def pP(ha:STt K mg E sa na):STt K mg E (tNot sa) (bNot na):=by
 intro c d F H Y Z b;refine (ha c d F H Y Z b).bind λg f x h a e=>?_;cases (e);exact Ans.ret a.s rfl λQ q=>q
def wY(ha:SE K mg E ta ma)(hb:SE K mg E tb mb):SE K mg E (Sv ta tb) (eAnd ma mb):=by
 intro e f F H Y Z d;have z:=(st_b ha e f F H Y Z d).bind (k:=λx=>if x=true then mb Z else .ok (D.bl false)) (w':=λc a Q=>if c=true then tb Y a Q else Q (V.bl false) a) λh a x i b g=>by
  cases (g);cases x with
  | true=>
   have z:=hb e f h a Y Z (d.gr b);trivial
  | false=>
   exact Ans.ret b.s (.bl false) λQ q=>q
 exact z
def jq(ha:SE K mg E ta ma):SE K mg E (T8 ta) (eNot ma):=by
 intro c d F H Y Z b;exact (st_b ha c d F H Y Z b).bind λg f x h a e=>by
  cases (e);exact Ans.ret a.s (.bl _) λQ q=>q
def rO(hc:STt K mg E sa na)(ha:SE K mg E ta ma)(hb:SE K mg E tb mb):SE K mg E (tIf sa ta tb) (ife na ma mb):=by
 intro b c F H Y Z a;refine (hc b c F H Y Z a).bind λf e x h d g=>?_;cases (g);cases x with
 | true=>
  have z:=ha b c f e Y Z (a.gr d);trivial
 | false=>
  have z:=hb b c f e Y Z (a.gr d);trivial
end
section
def Zw(h:∀E F H a b,Same F H->Ans mg E (Rp K mg) F H (f a b) (r (.int a) (.int b) H)):OpD K mg r (ii f):=by
 intro E F H x y g e s c d;unfold ii;split
 .cases c;cases d;simp_all
 .trivial
def K7(h:∀a b,(∃d,f a b=.ok d/\C a b/\∀F,Rp K mg F (g a b) d)\/f a b=.bad):OpD K mg (rI C g) (ii f):=by
 refine Zw λE F H a b s=>?_;rcases h a b with ⟨d,e,hc,hr⟩ | e
 .rw [e];exact .ret s (hr F) λQ q=>⟨a,b,rfl,rfl,hc,q⟩
 .rw [e];trivial
def Ov(h:∀a b,(∃d,f a b=.ok d/\∀F,Rp K mg F (g a b) d)\/f a b=.bad):OpD K mg (rI0 g) (ii f):=by
 refine Zw λE F H a b s=>?_;rcases h a b with ⟨d,e,hr⟩ | e
 .rw [e];exact .ret s (hr F) λQ q=>⟨a,b,rfl,rfl,q⟩
 .rw [e];trivial
def yr:OpD K mg (rI0 λi j=>.int (i - j)) dSub:=Ov λ_ _=>.inl ⟨_,rfl,λ_=>.int _⟩
def Zu4:OpD K mg (rI0 λi j=>.bl (decide (i<j))) dLt:=Ov λ_ _=>.inl ⟨_,rfl,λ_=>.bl _⟩
def bV:OpD K mg (rI0 λi j=>.bl (decide (i<=j))) dLe:=Ov λ_ _=>.inl ⟨_,rfl,λ_=>.bl _⟩
def gP:OpD K mg (rI0 λi j=>.bl (decide (j<i))) dGt:=Ov λ_ _=>.inl ⟨_,rfl,λ_=>.bl _⟩
def ZX:OpD K mg (rI0 λi j=>.bl (decide (j<=i))) dGe:=Ov λ_ _=>.inl ⟨_,rfl,λ_=>.bl _⟩
def mO:OpD K mg (rI (λ_ j=>j≠0) λi j=>.int (i.fmod j)) Ao:=K7 λa b=>by
 unfold iMod;by_cases h1:0<b
 .rw [iP h1];exact .inl ⟨_,rfl,by omega,λ_=>by rw [Int.fmod_eq_emod_of_nonneg a (by omega)];exact .int _⟩
 .rw [iN h1];by_cases h2:b=0
  .lia
  .rw [iN h2];exact .inl ⟨_,rfl,h2,λ_=>.int _⟩
def qP:OpD K mg (rI U3 λi j=>.int (i.fdiv j)) Be:=K7 λa b=>by
 unfold iDiv;by_cases h0:b.natAbs.log2<9000
 .rw [iP h0];by_cases h1:0<b
  .rw [iP h1];exact .inl ⟨_,rfl,⟨by omega,h0⟩,λ_=>by rw [Int.fdiv_eq_ediv_of_nonneg a (by omega)];exact .int _⟩
  .rw [iN h1];by_cases h2:b=0
   .lia
   .rw [iN h2];exact .inl ⟨_,rfl,⟨h2,h0⟩,λ_=>.int _⟩
 lia
def rF:OpD K mg (rI CPow λi j=>.int (i^j.toNat)) dPow:=K7 λa b=>by
 unfold iPow;by_cases h:0<=b/\b<=1000000/\a.natAbs<2^64
 .rw [iP h];exact .inl ⟨_,rfl,h,λ_=>.int _⟩
 lia
def ZsV:OpD K mg (rI CPow λi j=>.int (i*2^j.toNat)) dShl:=K7 λa b=>by
 unfold iShl;by_cases h:0<=b/\b<=1000000/\a.natAbs<2^64
 .rw [iP h];exact .inl ⟨_,rfl,h,λ_=>.int _⟩
 lia
def v5:OpD K mg (rI (λ_ j=>0<=j) λi j=>.int (i/2^j.toNat)) dShr:=K7 λa b=>by
 unfold iShr;by_cases h:0<=b
 .rw [iP h];exact .inl ⟨_,rfl,h,λ_=>.int _⟩
 lia
def qM(h:∀i H Q,Q (.int (-i)) H->r (.int i) H Q):UnD K mg r dNeg:=by
 intro E F H x b s a;unfold dNeg;split
 .cases a;exact .ret s (.int _) λQ q=>h _ _ _ q
 .trivial
def YT(K:W.Frag):R2:=λx y H Q=>∃l b a c,x=.ref l/\y=.ref b/\SqL K H l a/\SqL K H b c/\a.length+c.length<=sizeLine/\∀p,H p=none->Q (.ref p) (upd H p (.lst (a++c)))
def Wm(K:W.Frag):R2:=λx y H Q=>∃a b c d,x=.ref a/\y=.ref b/\SqT K H a c/\SqT K H b d/\c.length+d.length<=sizeLine /\
 (c=[]->Q (.ref b) H)/\(c≠[]->d=[]->Q (.ref a) H)/\(c≠[]->d≠[]->∀p,H p=none->Q (.ref p) (upd H p (.tup (c++d))))
def jN:R2:=λx y H Q=>∃i j,x=.str i/\y=.str j/\i.length+j.length<=sizeLine/\Q (.str (i++j)) H
def Q6(K:W.Frag):R2:=λx y H Q=>rI0 (λi j=>.int (i+j)) x y H Q\/YT K x y H Q\/Wm K x y H Q\/jN x y H Q
def NT(h:n<=LIM):n<=sizeLine:=An h (by decide)
def ZM:OpD K mg (Q6 K) Af:=by
 intro E F H x y k l s c d;unfold Af;split
 .cases c;cases d;exact .ret s (.int _) λQ q=>.inl ⟨_,_,rfl,rfl,q⟩
 .next i g=>
  by_cases h:i.length+g.length<=LIM
  .rw [iP h];cases c with
   | lst ha ra=>
    cases d with
    | lst hb rb=>
     refine Hx s (λp f=>.lst (SqL.of Ay) ((Rps.app rb ra).same (Cp (s.free f) _))) λQ q=>.inr (.inl ⟨_,_,_,_,rfl,rfl,s.seq ha,s.seq hb,?_,q⟩);rw [ra.length,rb.length];exact NT h
  .rw [iN h];trivial
 .next i g=>
  by_cases h:i.length+g.length<=LIM
  .rw [iP h];cases c with
   | tup ha ra=>
    cases d with
    | tup hb rb=>
     rename_i a xs b ys;have j:xs.length+ys.length<=sizeLine:=by rw [ra.length,rb.length];exact NT h
     intro Q q;refine .inr (.inr (.inl ⟨a,b,xs,ys,rfl,rfl,Du s ha,Du s hb,j,λe=>?_,λ_ e=>?_,λ_ _ p f=>?_⟩))
     .subst e;cases ra;exact q F H _ (.refl s) (.tup hb rb)
     .subst e;cases rb;rw [FJ] at q;exact q F H _ (.refl s) (.tup ha ra)
     .exact q _ _ _ (.new s f _) (.tup (SqT.of Ay) ((Rps.app rb ra).same (Cp (s.free f) _)))
  .rw [iN h];trivial
 .next a b=>
  by_cases h:a.length+b.length<=LIM
  .rw [iP h];cases c;cases d;exact .ret s (.str _) λQ q=>.inr (.inr (.inr ⟨_,_,rfl,rfl,NT h,q⟩))
  .rw [iN h];trivial
 .trivial
def XH{F:Hp}{i:Int}(r:Rps K mg F xs ds)(h:at_ ds i=some d):∃x,atI xs i=some x/\Rp K mg F x d:=by
 have b:=r.length;unfold at_ at h;unfold atI ixN;by_cases h0:0<=i
 .rw [iP h0] at h;obtain ⟨x,e,a⟩:=r.get h
  grind
 .rw [iN h0] at h;by_cases h1:-(ds.length:Int)<=i
  .rw [iP h1] at h;obtain ⟨x,e,a⟩:=r.get h
   grind
  lia
def rIxD(K:W.Frag):R2:=λx y H Q=>rIxL K x y H Q\/rIxT K x y H Q
def vo:OpD K mg (rIxD K) dIx:=by
 intro E F H x y h j s f g;unfold dIx;split
 .next a i=>
  cases e:at_ a i with
  | none=>trivial
  | some d=>
   cases f with
   | lst ha ra=>
    cases g;obtain ⟨z,c,b⟩:=XH ra e;exact Ans.ret s b λQ q=>.inl ⟨_,_,_,_,rfl,rfl,s.seq ha,c,q⟩
 .next a i=>
  cases e:at_ a i with
  | none=>trivial
  | some d=>
   cases f with
   | tup ha ra=>
    cases g;obtain ⟨z,c,b⟩:=XH ra e;exact Ans.ret s b λQ q=>.inr ⟨_,_,_,_,rfl,rfl,Du s ha,c,q⟩
 .trivial
def Y9(n d)(o):cutAt n d o=HT.sIx n d o:=by rfl
def cN{F:Hp}(r:Rps K mg F xs ds)(lo hi):Rps K mg F (cutV xs lo hi) (cutL ds lo hi):=by
 unfold cutV cutL;simp only [Y9,r.length];exact (r.drop _).take _
def rSlU(K:W.Frag):V->Option Int->Option Int->Hp->VK->Prop:=λx c d H Q=>∃a b,x=.ref a/\SqT K H a b /\
 ((HT.sIx b.length 0 c=0/\HT.sIx b.length b.length d=b.length)->Q (.ref a) H)/\(¬(HT.sIx b.length 0 c=0/\HT.sIx b.length b.length d=b.length)->∀p,H p=none->Q (.ref p) (upd H p (.tup (cutV b c d))))
def rSlD(K:W.Frag):V->Option Int->Option Int->Hp->VK->Prop:=λx a b H Q=>rSlL K x a b H Q\/rSlU K x a b H Q
def fC(ha:SE K mg E ta ma)(hl:SO K mg E tl ml)(hh:SO K mg E th mh):SE K mg E (tSl (rSlD K) ta tl th) (cut ma ml mh):=by
 intro g i F H Y Z j;refine (ha g i F H Y Z j).bind λz o x D k u=>?_;refine (hl g i z o Y Z (j.gr k)).bind λt n l C m v=>?_;cases (v);refine (hh g i t n Y Z ((j.gr k).gr m)).bind λy w h G b A=>?_;cases (A);have c:=u.same (m.f.trans b.f);unfold dCut;split
 .cases c with
  | lst hx r=>
   refine Hx b.s (λp d=>.lst (SqL.of Ay) ((cN r l h).same (Cp (b.s.free d) _))) λQ q=>.inl ⟨_,_,rfl,b.s.seq hx,q⟩
 .cases c with
  | tup hx r=>
   rename_i ds a xs;intro Q q;refine .inr ⟨a,xs,rfl,Du b.s hx,λe=>?_,λ_ p d=>q _ _ _ (.new b.s d _) (.tup (SqT.of Ay) ((cN r l h).same (Cp (b.s.free d) _)))⟩;have B:cutL ds l h=ds:=by
    unfold cutL;simp only [Y9,<-r.length,e.1,e.2];rw [Hn,Nat.sub_zero,r.length,List.take_length]
   rw [B] at q;exact q y w _ (.refl b.s) (.tup hx r)
 .trivial
def jT:SO K mg E T6 pno:=λ_ _ _ _ _ _ r=>Ans.ret (R:=RO) r.ss rfl λ_ q=>q
def lV(ha:SE K mg E ta ma):SO K mg E (Tu ta) (pso ma):=by
 intro c d F H Y Z b;refine (ha c d F H Y Z b).bind λh g x f a e=>?_;cases f with
 | int i=>cases e;exact Ans.ret a.s rfl λQ q=>⟨i,rfl,q⟩
 | _=>trivial
def O7:CallD K mg (λxs H Q=>∃p ys,xs=[.ref p]/\(SqL K H p ys\/SqT K H p ys)/\Q (.int ys.length) H) bLen:=by
 intro E F H xs b s r;unfold bLen;split
 .obtain ⟨x,rfl,a⟩:=r.one;cases a with
  | lst h q=>rw [<-q.length];exact .ret s (.int _) λQ q=>⟨_,_,rfl,.inl (s.seq h),q⟩
 .obtain ⟨x,rfl,a⟩:=r.one;cases a with
  | tup h q=>rw [<-q.length];exact .ret s (.int _) λQ q=>⟨_,_,rfl,.inr (Du s h),q⟩
 .trivial
def yP:CallD K mg (λxs H Q=>∃i,xs=[.int i]/\Q (.int (if i<0 then -i else i)) H) bAbs:=by
 intro E F H xs b s r;unfold bAbs;split
 .obtain ⟨x,rfl,a⟩:=r.one;cases a;exact .ret s (.int _) λQ q=>⟨_,rfl,q⟩
 .trivial
def fK:CallD K mg (λxs H Q=>∃i j,xs=[.int i,.int j]/\Q (.int (if j>i then j else i)) H) bMax:=by
 intro E F H xs c s r;unfold bMax;split
 .obtain ⟨x,y,rfl,b,a⟩:=r.two;cases b;cases a;exact .ret s (.int _) λQ q=>⟨_,_,rfl,q⟩
 .trivial
def xY:CallD K mg (λxs H Q=>(∃i,xs=[.int i]/\Q (.int i) H)\/∃k,xs=[.bl k]/\Q (.int (if k then 1 else 0)) H) bInt:=by
 intro E F H xs b s r;unfold bInt;split
 .obtain ⟨x,rfl,a⟩:=r.one;cases a;exact .ret s (.int _) λQ q=>.inl ⟨_,rfl,q⟩
 .obtain ⟨x,rfl,a⟩:=r.one;cases a;exact .ret s (.int _) λQ q=>.inr ⟨_,rfl,q⟩
 .trivial
def Ju:CallD K mg (λxs H Q=>∃p ys,xs=[.ref p]/\((SqL K H p ys/\∀l,H l=none->Q (.ref l) (upd H l (.tup ys)))\/(SqT K H p ys/\Q (.ref p) H))) bTup:=by
 intro E F H xs c s r;unfold bTup;split
 .obtain ⟨x,rfl,a⟩:=r.one;cases a with
  | lst h q=>exact Hx s (λp b=>.tup (SqT.of Ay) (q.same (Cp (s.free b) _))) λQ z=>⟨_,_,rfl,.inl ⟨s.seq h,z⟩⟩
 .obtain ⟨x,rfl,a⟩:=r.one;cases a with
  | tup h q=>exact .ret s (.tup h q) λQ z=>⟨_,_,rfl,.inr ⟨Du s h,z⟩⟩
 .trivial
def zB:CallD K mg (λxs H Q=>∃p ys,xs=[.ref p]/\(SqL K H p ys\/SqT K H p ys)/\∀l,H l=none->Q (.ref l) (upd H l (.lst ys))) bLst:=by
 intro E F H xs c s r;unfold bLst;split
 .obtain ⟨x,rfl,b⟩:=r.one;cases b with
  | lst h q=>exact Hx s (λp a=>.lst (SqL.of Ay) (q.same (Cp (s.free a) _))) λQ z=>⟨_,_,rfl,.inl (s.seq h),z⟩
 .obtain ⟨x,rfl,b⟩:=r.one;cases b with
  | tup h q=>exact Hx s (λp a=>.lst (SqL.of Ay) (q.same (Cp (s.free a) _))) λQ z=>⟨_,_,rfl,.inr (Du s h),z⟩
 .trivial
def spD(K:W.Frag)(mg:Str->Option Value)(n:Nat)(m:List D->Res D):Sp:=λc H Q E=>c.length=n/\∃F a,Same F H/\Rps K mg F c a/\m a≠.bad /\
 (∀d,m a=.ok d->∀b e x,Gr F H b e->Rp K mg b x d->Q x e)
def Qv{F:Hp}(s:Same F H)(r:Rps K mg F vs ds)(hl:ds.length=n):Ans mg E (Rp K mg) F H (m ds) (λQ=>spD K mg n m vs H Q E):=by
 have a:=r.length.trans hl;cases e:m ds with
 | ok d=>
  intro Q q;refine ⟨a,F,ds,s,r,λz=>?_,λc b=>?_⟩
  .lia
  grind
 | bad=>trivial
def qY(ha:SA K mg E t ma)(hl:SAn n ma):SE K mg E (G7 (spD K mg n m) [] E t) (on m ma):=by
 intro d f F H Y Z b;refine (ha d f F H Y Z b).bindE λc e j h i a g=>?_;have z:=Qv (E:=E) (m:=m) a.s g (hl Z c e);simp_all
end
section
variable {ta:TE} {ma:ME} {F:Hp}
def AnsS.mono{w:Ends->Prop}(s:Same F F1)(h:AnsS K mg E F0 H0 F1 r w):AnsS K mg E F0 H0 F r w:=by
 cases r with
 | ok f=>
  cases f with
  | nx Z=>exact λD q=>h D λa e g b c=>q a e g (s.trans b) c
  | bk Z=>exact λD q=>h D λa e g b c=>q a e g (s.trans b) c
  | ct Z=>exact λD q=>h D λa e g b c=>q a e g (s.trans b) c
  | rt d=>exact h
 | bad=>trivial
def Ans.stm{α β:Type}{R:Hp->β->α->Prop}{r:Res α}{w:(β->Hp->Prop)->Prop}{k:α->Res Fl}{w':β->Hp->Ends->Prop}(h1:Ans mg E R F H r w)(g0:Gr F0 H0 F H)(h2:∀a,r=.ok a->∀F1 H1 b,Gr F H F1 H1->R F1 b a->AnsS K mg E F0 H0 F1 (k a) (w' b H1)) :
  AnsS K mg E F0 H0 F (r.bind k) (λD=>w λb H1=>w' b H1 D):=by
 cases r with
 | ok a=>
  show AnsS K mg E F0 H0 F (k a) _;have c:=λF1 H1 b (g:Gr F H F1 H1) q=>(h2 a rfl F1 H1 b g q).mono g.f;generalize k a=r2 at c;cases r2 with
  | ok f=>
   cases f with
   | nx Z=>exact λD q=>h1 _ λF1 H1 b g e=>c F1 H1 b g e D q
   | bk Z=>exact λD q=>h1 _ λF1 H1 b g e=>c F1 H1 b g e D q
   | ct Z=>exact λD q=>h1 _ λF1 H1 b g e=>c F1 H1 b g e D q
   | rt d=>exact λD q=>h1 _ λF1 H1 b g e=>c F1 H1 b g e D q
  | bad=>trivial
 | bad=>trivial
def Zwj:SS K mg E GF nop:=λ_ _ _ _ _ _ r D q=>q _ _ _ (Same.refl _) r
def Zuz{n:MS}(h1:SS K mg E t m)(h2:SS K mg E u n):SS K mg E (tSeq t u) (sq m n):=by
 intro j k F H Y Z l;have h:=h1 j k F H Y Z l;unfold sq;cases e:m Z with
 | ok f=>
  rw [e] at h;cases f with
  | nx Z'=>
   show AnsS K mg E j k F (n Z') _;have a:=λb g c (s:Same F b) i=>(h2 j k b g c Z' i).mono s;generalize n Z'=r2 at a;cases r2 with
   | ok f=>
    cases f with
    | nx Z=>exact λD q=>h _ λb g c s i=>a b g c s i D q
    | bk Z=>exact λD q=>h _ λb g c s i=>a b g c s i D q
    | ct Z=>exact λD q=>h _ λb g c s i=>a b g c s i D q
    | rt d=>exact λD q=>h _ λb g c s i=>a b g c s i D q
   | bad=>trivial
  | bk Z'=>exact λD q=>h _ q
  | ct Z'=>exact λD q=>h _ q
  | rt d=>exact λD q=>h _ q
 | bad=>trivial
def vM(ha:SE K mg E ta ma):SS K mg E (Ep ta) (drp ma):=by
 intro e f F H Y Z a;exact (ha e f F H Y Z a).stm a.g λd _ h c x b i=>λD q=>q h c Y (Same.refl _) (a.gr b)
def iC(ha:SE K mg E ta ma):SS K mg E (tRet ta) (ret ma):=by
 intro e f F H Y Z a;exact (ha e f F H Y Z a).stm a.g λd _ i c x b h=>λD q=>q i c x (a.g.trans b) h
def pB{n:MS}(hc:STt K mg E sc nc)(h1:SS K mg E t m)(h2:SS K mg E u n):SS K mg E (tIfS sc t u) (ifs nc m n):=by
 intro c d F H Y Z a;refine (hc c d F H Y Z a).stm a.g λb _ h f x e i=>?_;cases (i);cases b with
 | true=>
  have z:=h1 c d h f Y Z (a.gr e);trivial
 | false=>
  have z:=h2 c d h f Y Z (a.gr e);trivial
def ZjE{l:List α}{x:α}(h:i<n):(l.set i x).drop n=l.drop n:=by
 rw [List.drop_set,iP h]
def wW(h:i<n):SG K mg n (Bs i) (gN i):=λ_ _ _ _ _ _ _ _ r a _ q=>q _ _ _ (Same.refl _) (r.set i a) (ZjE h)
def gf:SGs K mg n gNil gs0:=by
 intro d e F H Y Z b c r a;unfold gs0;split
 .cases a;exact λQ q=>⟨rfl,q _ _ _ (Same.refl _) r rfl⟩
 .trivial
def ql(h1:SG K mg n t g)(h2:SGs K mg n u gs):SGs K mg n (R7 t u) (gs1 g gs):=by
 intro c f F H Y Z i a r j;cases j with
 | nil=>trivial
 | cons rx j=>
  rename_i x i d a;have h:=h1 c f F H Y Z x d r rx;show AnsG K mg c f F n Y ((g d Z).bind λb=>gs a b) _;cases e:g d Z with
  | ok b=>
   rw [e] at h;show AnsG K mg c f F n Y (gs a b) _;cases e2:gs a b with
   | ok Z''=>
    refine λQ q=>⟨x,i,rfl,h _ λy p m k v A=>?_⟩;have l:=h2 c f y p m b i a v (j.same k);rw [e2] at l;exact l _ λs o B w z C=>q s o B (k.trans w) z (C.trans A)
   | bad=>trivial
  | bad=>trivial
def gLst(K:W.Frag)(n:Nat)(t:TGs):TG:=λv Y H Q=>∃a b,v=.ref a/\SqL K H a b/\b.length=n/\t b Y H Q
def gSeq(K:W.Frag)(n:Nat)(t:TGs):TG:=λv Y H Q=>gTup K n t v Y H Q\/gLst K n t v Y H Q
def jW(h:SGs K mg n t g):SG K mg n (gSeq K k t) (gU k g):=by
 intro c f F H Y Z x d r i;unfold gU items;split
 .next a=>
  show AnsG K mg c f F n Y (if a.length=k then g a Z else .bad) _
  by_cases hl:a.length=k
  .rw [iP hl];cases i with
   | lst ha ra=>
    have b:=h c f F H Y Z _ _ r ra;cases e:g a Z with
    | ok Z'=>
     rw [e] at b;exact λQ q=>.inr ⟨_,_,rfl,r.ss.seq ha,ra.length.trans hl,b Q q⟩
    | bad=>trivial
  .rw [iN hl];trivial
 .next a=>
  show AnsG K mg c f F n Y (if a.length=k then g a Z else .bad) _
  by_cases hl:a.length=k
  .rw [iP hl];cases i with
   | tup ha ra=>
    have b:=h c f F H Y Z _ _ r ra;cases e:g a Z with
    | ok Z'=>
     rw [e] at b;exact λQ q=>.inl ⟨_,_,rfl,Du r.ss ha,ra.length.trans hl,b Q q⟩
    | bad=>trivial
  .rw [iN hl];trivial
 .trivial
def jA{t:TG}{g:MG}(ha:SE K mg E ta ma)(hg:SG K mg n t g):SS K mg E (tAsg ta t) (asg g ma):=by
 intro b c F H Y Z a;refine (ha b c F H Y Z a).stm a.g λd _ p i x f k=>?_;have h:=hg b c p i Y Z x d (a.gr f) k;cases e:g d Z with
 | ok Z'=>
  rw [e] at h;exact λD q=>h _ λm j l s o _=>q m j l s o
 | bad=>trivial
def dC(ha:SE K mg E ta ma):SS K mg E (tAsg ta (Bs i)) (st i ma):=by
 intro e f F H Y Z a;exact (ha e f F H Y Z a).stm a.g λd _ j c x b h=>λD q=>q j c _ (Same.refl _) ((a.gr b).set i h)
def jJ(h:SS K mg E t m):SS K mg E t (frz i m):=by
 intro c f F H Y Z b;unfold frz getO;split
 .next g e=>
  obtain ⟨a,s,d⟩:=b.frz e;exact (h c f a H Y _ d).mono s
 .trivial
def tR(ha:SE K mg E ta ma)(hty:∀H a xs,H a=some (.lst xs)->tyV K "list" (.ref a) H):SS K mg E (Ep (tBM K "list" Ik (tVar i) (Bo ta tNil))) (app i ma):=by
 intro p r F H Y Z j;unfold app getO;split
 .next c e=>
  show AnsS K mg E p r F ((ma Z).bind λd=>if c.length<LIM then .ok (.nx (Z.set i (.ow (c++[d])))) else .bad) _
  obtain ⟨a,xs,s,y,C,v,u⟩:=j.ow i c e;have B:=u.length;have h:=(ha p r F H Y Z j).stm (K:=K) (k:=λd=>if c.length<LIM then .ok (.nx (Z.set i (.ow (c++[d])))) else .bad) (w':=λx n D=>Ik (.ref a) [x] n λ_ m=>D.nx Y m) j.g λd _ G J x l w=>?_
  .generalize ((ma Z).bind λd=>if c.length<LIM then Res.ok (Fl.nx (Z.set i (.ow (c++[d])))) else .bad)=res at h
   have b:∀D:Ends,(ta Y H λx n=>Ik (.ref a) [x] n λ_ m=>D.nx Y m)->Ep (tBM K "list" Ik (tVar i) (Bo ta tNil)) D Y H:=λD z=>⟨.ref a,s,hty H a xs v,z⟩;cases res with
   | ok f=>
    cases f with
    | nx Z=>exact λD q=>b D (h D q)
    | bk Z=>exact λD q=>b D (h D q)
    | ct Z=>exact λD q=>b D (h D q)
    | rt d=>exact λD q=>b D (h D q)
   | bad=>trivial
  .by_cases hlim:c.length<LIM
   .simp only [hlim,GD];have A:=j.gr l;obtain ⟨I,t⟩:=l.o a _ C v;exact λD q=>⟨a,xs,x,rfl,rfl,t,by rw [B];exact Bv hlim (by decide),q G _ Y (Same.refl _) (A.app e s t y I (u.same l.f) w)⟩
   .simp only [hlim,Dp];trivial
 .trivial
def iSeq(K:W.Frag)(tl:TE):TI:=λY H R=>tl Y H λx b=>∃a,x=.ref a/\(((∃c,SqL K b a c)/\R (Itl K a) b)\/((∃c,SqT K b a c)/\R (Itt K a) b))
def lD(h:SqL K F a xs)(r:Rps K mg F xs ds):ItOk K mg F (Itl K a) ds:=by
 intro k o g f i;have b:=(g.trans f).seq h;refine ⟨λd e=>?_,λl=>⟨xs,b,by rw [r.length];exact l⟩⟩;obtain ⟨x,j,n⟩:=r.get e;refine ⟨⟨xs,x,b,j⟩,λy m q=>?_⟩;obtain ⟨rfl,q⟩:=q;have c:=q xs b;rw [j] at c;cases c;exact ⟨k,.refl f,n.same g⟩
def rW(h:SqT K F a xs)(r:Rps K mg F xs ds):ItOk K mg F (Itt K a) ds:=by
 intro k o g f i;have b:=Du (g.trans f) h;refine ⟨λd e=>?_,λl=>⟨xs,b,by rw [r.length];exact l⟩⟩;obtain ⟨x,j,n⟩:=r.get e;refine ⟨⟨xs,x,b,j⟩,λy m q=>?_⟩;obtain ⟨rfl,q⟩:=q;have c:=q xs b;rw [j] at c;cases c;exact ⟨k,.refl f,n.same g⟩
def xQ(lo)(n):ItOk K mg F (Itr lo n) (Eb lo n):=by
 intro g h j f i;unfold Eb;refine ⟨λd e=>?_,λa=>?_⟩
 .rw [Cz] at e;have b:i<n:=by
   grind
  rw [List.getElem?_range b] at e;cases e;refine ⟨b,λy c q=>?_⟩;obtain ⟨rfl,rfl⟩:=q;exact ⟨g,.refl f,.int _⟩
 .rw [Ax,Jc] at a;exact a
def jz(ha:SE K mg E ta ma):SI K mg E (iSeq K ta) (iv ma):=by
 intro d e F H Y Z c;refine (ha d e F H Y Z c).bind λi g x f a b=>?_;cases f with
 | lst ds=>
  cases b with
  | lst h r=>exact Ans.ret a.s (lD h r) λQ q=>⟨_,rfl,.inl ⟨⟨_,a.s.seq h⟩,q⟩⟩
 | tup ds=>
  cases b with
  | tup h r=>exact Ans.ret a.s (rW h r) λQ q=>⟨_,rfl,.inr ⟨⟨_,Du a.s h⟩,q⟩⟩
 | _=>trivial
def iV(ha:SA K mg E t m):SI K mg E (Vx t) (r1 m):=by
 intro c d F H Y Z b;refine (ha c d F H Y Z b).bind λl g i k a f=>?_;unfold rng1;split
 .next j=>
  by_cases h:-1000000000<=j/\j<=1000000000
  .rw [iP h];obtain ⟨x,rfl,e⟩:=f.one;cases e;exact Ans.ret a.s (xQ 0 _) λQ q=>⟨j,rfl,by omega,by omega,q⟩
  .rw [iN h];trivial
 .trivial
def lW{wi:TI}{mi:MI}{t:TG}{g:MG}{u:TS}{m:MS}(hi:SI K mg E wi mi)(hg:SG K mg n t g)(hb:SS K mg E u m):SS K mg E (tFor wi t u) (for_ mi g m):=by
 intro p r F H Y Z V
 refine (hi p r F H Y Z V).stm (w':=λJ X D=>∃W:Nat->Nat->St->Hp->Prop,(∃m,W 0 m Y X)/\∀i m Y H,W i m Y H ->
  (J.stop i H/\D.nx Y H)\/(J.go i H/\∃N:St->Hp->Prop,(∀c a,N c a->∃M,M<m/\W (i+1) M c a)/\∀x a,J.yld i H x a->t x Y a λG w=>u { D with nx:=N,ct:=N,bk:=D.nx } G w)) V.g λl _ I X J g1 jo=>?_
 have r1:=V.gr g1;have v:∀(D:Ends) (b:Res Fl),b≠.bad->(∀j,b=.ok (.nx j)->∀h a c,Same I h->Rep K mg p r h a c j->D.nx c a)->(∀j,b=.ok (.bk j)->∀h a c,Same I h->Rep K mg p r h a c j->D.bk c a) ->
   (∀j,b=.ok (.ct j)->∀h a c,Same I h->Rep K mg p r h a c j->D.ct c a)->(∀d,b=.ok (.rt d)->∀h a x,Gr p r h a->Rp K mg h x d->D.rt x a) ->
   CG g m l Z=b ->
   ∃W:Nat->Nat->St->Hp->Prop,(∃m,W 0 m Y X)/\∀i m Y H,W i m Y H ->
    (J.stop i H/\D.nx Y H)\/(J.go i H/\∃N:St->Hp->Prop,(∀c a,N c a->∃M,M<m/\W (i+1) M c a)/\∀x a,J.yld i H x a->t x Y a λG w=>u { D with nx:=N,ct:=N,bk:=D.nx } G w):=by
  intro D b A qn qb qc qr e0;refine ⟨λi k c a=>k=l.length - i/\i<=l.length/\∃j h,Same I h/\Rep K mg p r h a c j/\CG g m (l.drop i) j=b,⟨l.length,by simp,Cq _,Z,I,Same.refl _,r1,e0⟩,?_⟩;rintro i k c a ⟨rfl,hi',j,h,S,T,e⟩;by_cases hlt:i<l.length
  .refine .inr ?_;have hd:=Bk hlt;obtain ⟨go,yl⟩:=(jo h a S T.ss i).1 _ hd;rw [Ka hlt] at e;refine ⟨go,λG w=>∃o C,Same I C/\Rep K mg p r C w G o/\CG g m (l.drop (i+1)) o=b,λG w zq=>by obtain ⟨o,C,s2,r2,s⟩:=zq;exact ⟨l.length - (i+1),by omega,rfl,hlt,o,C,s2,r2,s⟩,λx w y=>?_⟩;obtain ⟨C,g2,rx⟩:=yl x w y;have r2:=T.gr g2;have hG:=hg p r C w c j x _ r2 rx;have U:(g l[i] j).bind (λO=>(m O).bind (turn (CG g m (l.drop (i+1)))))=b:=e;cases eg:g l[i] j with
   | ok O=>
    rw [eg] at U hG;refine hG _ λF3 H3 Y3 s3 r3 _=>?_;have P:=hb p r F3 H3 Y3 O r3;have sF:=S.trans (g2.f.trans s3);have s:(m O).bind (turn (CG g m (l.drop (i+1))))=b:=U;cases em:m O with
    | ok f=>
     rw [em] at s P;cases f with
     | nx o=>exact P _ λB L Y4 R Q=>⟨o,B,sF.trans R,Q,s⟩
     | ct o=>exact P _ λB L Y4 R Q=>⟨o,B,sF.trans R,Q,s⟩
     | bk o=>exact P _ λB L Y4 R Q=>qn o s.symm B L Y4 (sF.trans R) Q
     | rt d=>exact P _ λB L y g4 ry=>qr d s.symm B L y g4 ry
    | bad=>rw [em] at s;exact aB s.symm A
   | bad=>rw [eg] at U;exact aB U.symm A
  .have hi2:i=l.length:=by omega
   subst hi2;rw [Jz (Ar _)] at e;exact .inl ⟨(jo h a S T.ss _).2 (Ar _),qn j e.symm h a c S T⟩
 cases e:CG g m l Z with
 | ok f=>
  cases f with
  | nx o=>exact λD q=>v D _ (λz=>by cases z) (λ_ z=>by grind) (λ_ z=>by cases z) (λ_ z=>by cases z) (λ_ z=>by cases z) e
  | bk o=>exact λD q=>v D _ (λz=>by cases z) (λ_ z=>by cases z) (λ_ z=>by grind) (λ_ z=>by cases z) (λ_ z=>by cases z) e
  | ct o=>exact λD q=>v D _ (λz=>by cases z) (λ_ z=>by cases z) (λ_ z=>by cases z) (λ_ z=>by grind) (λ_ z=>by cases z) e
  | rt d=>exact λD q=>v D _ (λz=>by cases z) (λ_ z=>by cases z) (λ_ z=>by cases z) (λ_ z=>by cases z) (λ_ z=>by grind) e
 | bad=>trivial
def gJ{n:Ev->Nat}(hc:STt K mg E sc nc)(hb:SS K mg E u m):SS K mg E (Ri sc u) (whl n nc m):=by
 intro r s F H Y Z X;have p:∀D a,a≠.bad->(∀c,a=.ok (.nx c)->∀g i j,Same F g->Rep K mg r s g i j c->D.nx j i)->(∀c,a=.ok (.bk c)->∀g i j,Same F g->Rep K mg r s g i j c->D.bk j i) ->
   (∀c,a=.ok (.ct c)->∀g i j,Same F g->Rep K mg r s g i j c->D.ct j i)->(∀d,a=.ok (.rt d)->∀g i x,Gr r s g i->Rp K mg g x d->D.rt x i) ->
   whGo nc m (n Z) Z=a->Ri sc u D Y H:=by
  intro D a l T qb qc W e0;refine ⟨λk j i=>∃c g,Same F g/\Rep K mg r s g i j c/\whGo nc m k c=a,⟨n Z,Z,F,Same.refl _,X,e0⟩,?_⟩;rintro k j i ⟨c,g,M,N,e⟩;cases k with
  | zero=>exact aB e.symm l
  | succ k=>
   have w:(nc c).bind (λx=>if x=true then (m c).bind (turn (whGo nc m k)) else .ok (.nx c))=a:=e
   have Q:=hc r s g i j c N;cases ec:nc c with
   | ok b=>
    rw [ec] at w Q;refine Q _ λV R b' G eb=>?_;cases (eb);have S:=N.gr G;cases b with
    | true=>
     have A:=hb r s V R j c S;have o:=w;refine ⟨λO L=>∃U P,Same F P/\Rep K mg r s P L O U/\whGo nc m k U=a,λO L h=>⟨k,Nat.lt_succ_self _,h⟩,?_⟩;have I:=M.trans G.f;cases em:m c with
     | ok f=>
      rw [em] at o A;cases f with
      | nx Z2=>exact A _ λt v J C B=>⟨Z2,t,I.trans C,B,o⟩
      | ct Z2=>exact A _ λt v J C B=>⟨Z2,t,I.trans C,B,o⟩
      | bk Z2=>exact A _ λt v J C B=>T Z2 o.symm t v J (I.trans C) B
      | rt d=>exact A _ λt v y g4 ry=>W d o.symm t v y g4 ry
     | bad=>rw [em] at o;exact aB o.symm l
    | false=>
     have o:=w;exact T c o.symm V R j (M.trans G.f) S
   | bad=>rw [ec] at w;exact aB w.symm l
 unfold whl;cases e:whGo nc m (n Z) Z with
 | ok f=>
  cases f with
  | nx Z2=>exact λD q=>p D _ (λz=>by cases z) (λ_ z=>by grind) (λ_ z=>by cases z) (λ_ z=>by cases z) (λ_ z=>by cases z) e
  | bk Z2=>exact λD q=>p D _ (λz=>by cases z) (λ_ z=>by cases z) (λ_ z=>by grind) (λ_ z=>by cases z) (λ_ z=>by cases z) e
  | ct Z2=>exact λD q=>p D _ (λz=>by cases z) (λ_ z=>by cases z) (λ_ z=>by cases z) (λ_ z=>by grind) (λ_ z=>by cases z) e
  | rt d=>exact λD q=>p D _ (λz=>by cases z) (λ_ z=>by cases z) (λ_ z=>by cases z) (λ_ z=>by cases z) (λ_ z=>by grind) e
 | bad=>trivial
end
section
variable {F:Hp}
def Rep.inner{own:List Str}{cap:List (Str×Nat)}(r:Rep K mg F0 H0 F H Y Z)(gb:Gr Fb Hb F H):Rep K mg Fb Hb F H (st0 own Y cap) (noA own.length (DQ Z (cap.map (·.2)))):=by
 have c:∀i b,(noA own.length (DQ Z (cap.map (·.2))))[i]?=some b->b=.no\/∃j p d,i=own.length+j/\cap[j]?=some p/\Z[p.2]?=some (.im d)/\b=.im d:=by
  intro i b e;rw [Rj,Sy] at e;by_cases hi:i<own.length
  .grind
  .rw [Fq (by simp_all),List.length_replicate] at e;rw [DK,Cz] at e;cases q:cap[i - own.length]? with
   | none=>simp_all
   | some p=>
    rw [q] at e;have g:imOf Z[p.2]?=b:=Fy e;unfold imOf at g
    grind
 refine ⟨gb,?_,λi d e=>?_,λi f e=>?_,λi j f l a e=>?_⟩
 .rw [Rj,Sy];unfold st0 capt;simp
 .rcases c i _ e with z | ⟨j,p,d',rfl,hp,hρ,z⟩
  .cases z
  .cases z;obtain ⟨x,k,h⟩:=r.im p.2 d hρ;refine ⟨x,?_,h⟩;unfold st0 capt;rw [Fq (by simp),List.length_replicate,Nat.add_sub_cancel_left,Cz,hp];show some ((Y[p.2]?).join)=_;rw [k];rfl
 .grind
 grind
def Zsu:(st0 own Y cap).drop own.length=capt Y cap:=by
 unfold st0;simp_all
def uf{own:List Str}{cap:List (Str×Nat)}(r:Rep K mg F0 H0 F H Y Z)(jo:ItOk K mg F J ds)(hg:SG K mg own.length t g)(ht:STt K mg E tt nt)(he:SE K mg E te me)(hl:ds.length<=LIM)(e0:Dl.Bw g nt me (noA own.length (DQ Z (cap.map (·.2)))) ds=.ok ys)(Q)(q:∀F' H' xs,Gr F H F' H'->Rps K mg F' xs ys->xs.length<=sizeLine->∀p,H' p=none->Q (.ref p) (upd H' p (.lst xs))) :
  TQ J t tt te own cap Y Q H:=by
 refine ⟨λi k a H'=>k=ds.length - i/\i<=ds.length/\a.length<=i/\∃F' m h,Gr F H F' H'/\Rps K mg F' a m/\Dl.Bw g nt me (noA own.length (DQ Z (cap.map (·.2)))) (ds.drop i)=.ok h/\m++h=ys,
  ⟨ds.length,by simp,Cq _,Ar _,F,[],ys,.refl r.ss,.nil,e0,rfl⟩,?_⟩
 rintro i k a H' ⟨rfl,hi,X,F',m,h,d,A,o,C⟩;have z:=An X (An hi hl);refine ⟨NT z,?_⟩;by_cases hlt:i<ds.length
 .refine .inr ?_;have S:=Bk hlt;obtain ⟨go,yl⟩:=(jo F' H' d.f d.s i).1 _ S;rw [Ka hlt] at o;refine ⟨go,λx L y=>?_⟩;obtain ⟨F2,D,rx⟩:=yl x L y;have U:=(r.gr (d.trans D)).inner (own:=own) (cap:=cap) (d.trans D);have N:=hg F H F2 L _ _ x _ U rx;have n:(g ds[i] (noA own.length (DQ Z (cap.map (·.2))))).bind (λc=>(nt c).bind λb=>if b=true then (me c).bind λy=>(Dl.Bw g nt me (noA own.length (DQ Z (cap.map (·.2)))) (ds.drop (i+1))).bind λys=>.ok (y::ys) else Dl.Bw g nt me (noA own.length (DQ Z (cap.map (·.2)))) (ds.drop (i+1)))=.ok h:=o
  cases eg:g ds[i] (noA own.length (DQ Z (cap.map (·.2)))) with
  | ok c=>
   rw [eg] at n N;refine N _ λW T O V v d3=>⟨d3.trans Zsu,?_⟩;have G:=ht F H W T O c v;have P:=D.f.trans V;have l:(nt c).bind (λb=>if b=true then (me c).bind λy=>(Dl.Bw g nt me (noA own.length (DQ Z (cap.map (·.2)))) (ds.drop (i+1))).bind λys=>.ok (y::ys) else Dl.Bw g nt me (noA own.length (DQ Z (cap.map (·.2)))) (ds.drop (i+1)))=.ok h:=n
   cases et:nt c with
   | ok b=>
    rw [et] at l G;refine G _ λM H4 b' j eb=>?_;cases (eb);cases b with
    | true=>
     have e:=l;have I:=he F H M H4 O c (v.gr j);cases em:me c with
     | ok y'=>
      rw [em] at e I;refine I _ λF5 H5 u R ru=>⟨Rr z (by decide),ds.length - (i+1),by omega,rfl,hlt,by simp_all,?_⟩;have w:=e;cases ec:Dl.Bw g nt me (noA own.length (DQ Z (cap.map (·.2)))) (ds.drop (i+1)) with
      | ok rs'=>
       rw [ec] at w;have e6:=w;cases e6;exact ⟨F5,m++[y'],rs',v.g.trans (j.trans R),Rps.app (.cons ru .nil) (A.same (P.trans (j.f.trans R.f))),rfl,by simp_all⟩
      | bad=>rw [ec] at w;cases w
     | bad=>rw [em] at e;cases e
    | false=>
     have e:=l;exact ⟨ds.length - (i+1),by omega,rfl,hlt,by omega,M,m,h,v.g.trans j,A.same (P.trans j.f),e,C⟩
   | bad=>rw [et] at l;cases l
  | bad=>rw [eg] at n;cases n
 .have B:i=ds.length:=by omega
  subst B;rw [Jz (Ar _)] at o;cases o;rw [FJ] at C;subst C;exact .inl ⟨(jo F' H' d.f d.s _).2 (Ar _),q F' H' a d A (NT z)⟩
def bK{te:Fam TE}(hi:SI K mg E wi mi)(hg:∀C s H fp pn,SG K mg own.length (t C s H fp pn) g)(ht:∀C s H fp pn,STt K mg E0 (tt C s H fp pn) nt)(he:∀C s H fp pn,SE K mg E0 (te C s H fp pn) me) :
  SE K mg E (O4 wi t tt te own cap) (comp mi own.length (cap.map (·.2)) g nt me):=by
 intro j k F H Y Z f;refine (hi j k F H Y Z f).bind λu m J c h i=>?_;by_cases hl:c.length<=LIM
 .rw [iP hl];cases e:Dl.Bw g nt me (noA own.length (DQ Z (cap.map (·.2)))) c with
  | ok ys=>exact λQ q C s a fp pn=>uf (f.gr h) i (hg C s a fp pn) (ht C s a fp pn) (he C s a fp pn) hl e Q λo n r b l _ p d=>q _ _ _ (b.trans (.new b.s d _)) (.lst (SqL.of Ay) (l.same (Cp (b.s.free d) _)))
  | bad=>trivial
 .rw [iN hl];trivial
end
structure DE(X:Cx)(E:XK)(e:Expr)(t:TE)(m:ME):Prop where
 p:PE X e t
 s:SE X.K X.mg E t m
structure DT(X:Cx)(E:XK)(e:Expr)(t:TT)(m:MB):Prop where
 p:PT X e t
 s:STt X.K X.mg E t m
structure DW(X:Cx)(E:XK)(e:Expr)(t:TT)(m:MB):Prop where
 p:PW X e t
 s:STt X.K X.mg E t m
structure DA(X:Cx)(E:XK)(n:Nat)(es:List Expr)(t:TA)(m:MA):Prop where
 p:PA X es t
 s:SA X.K X.mg E t m
 n:SAn n m
structure DO(X:Cx)(E:XK)(e:Option Expr)(t:TO)(m:Ev->Res (Option Int)):Prop where
 p:PO X e t
 s:SO X.K X.mg E t m
structure DS(X:Cx)(E:XK)(st:Stmt)(t:TS)(m:MS):Prop where
 p:PS X st t
 s:SS X.K X.mg E t m
structure DSs(X:Cx)(E:XK)(st:List Stmt)(t:TS)(m:MS):Prop where
 p:PSs X st t
 s:SS X.K X.mg E t m
structure DG(X:Cx)(n:Nat)(e:Expr)(t:TG)(g:MG):Prop where
 p:PG X e t
 s:SG X.K X.mg n t g
structure DGs(X:Cx)(n:Nat)(es:List Expr)(t:TGs)(g:MGs):Prop where
 p:PGs X es t
 s:SGs X.K X.mg n t g
structure DI(X:Cx)(E:XK)(tg e:Expr)(t:TI)(m:MI):Prop where
 p:PI X tg e t
 s:SI X.K X.mg E t m
section
variable {a b c':Expr} {ta tb tc:TE} {ma mb mc:ME} {sa sb:TT} {na nb:MB} {t:TA} {m:MA}
def d_v(i)(hN:X.N[i]?=some x:=by rfl)(hv:CQ X.env.scope x:=by first | exact Or.inl rfl | exact Or.inr (Or.inl rfl) | exact Or.inr (Or.inr rfl))(hd:ND x:=by decide)(hcd:NE x:=by decide):DE X E (.Name x pos) (tVar i) (v i):=⟨Cr hN hv hd hcd,se_v i⟩
def Ah{i j}:DE X E (.Constant (.int i) j pos) (tC (.int i)) (c (.int i)):=⟨eN,se_c λ_=>.int _⟩
def JH{i j}:DE X E (.Constant (.bool i) j pos) (tC (.bl i)) (c (.bl i)):=⟨j6,se_c λ_=>.bl _⟩
def bj{j}:DE X E (.Constant .none j pos) (tC .non) (c .non):=⟨jK,se_c λ_=>.non⟩
def BR{i j}:DE X E (.Constant (.str i) j pos) (tC (.str i)) (c (.str i)):=⟨Wg,se_c λ_=>.str _⟩
def NK{k:String}(hg:Gl X x)(hm:X.mg x=none)(hv:bootBuiltins x=some (.type k))(hn:x ≠ "__name__":=by decide)(hd:ND x:=by decide):DE X E (.Name x pos) (tC (.ty k)) (c (.ty k)) :=
 ⟨yH hg hm hv hn hd,se_c λ_=>.ty _⟩
def PJ{i:Int}(hg:Gl X x)(hm:X.mg x=some (.int i tk))(hd:ND x:=by decide):DE X E (.Name x pos) (tC (.int i)) (c (.int i)):=⟨Lx hg hm ⟨_,rfl⟩ hd,se_c λ_=>.int _⟩
def Ir(ho:OpR X (binaryOp op) r)(hf:OpD X.K X.mg r f)(ha:DE X E a ta ma)(hb:DE X E b tb mb):DE X E (.BinOp a op b pos) (tOp r ta tb) (o2 f ma mb):=⟨aH ho ha.p hb.p,RC hf ha.s hb.s⟩
def RW(ho:OpR X (compareOp op) r)(hf:OpD X.K X.mg r f)(ha:DE X E a ta ma)(hb:DE X E b tb mb)(hm:behindInMarks op b=false):DE X E (.Compare a [op] [b] pos) (tOp r ta tb) (o2 f ma mb):=⟨We ho ha.p hb.p hm,RC hf ha.s hb.s⟩
def HF(ho:OpR X (compareOp op) r)(hf:OpD X.K X.mg r f)(ha:DE X E a ta ma)(hb:DE X E b tb mb)(hm:behindInMarks op b=false):DT X E (.Compare a [op] [b] pos) (Dz (tOp r ta tb)) (trb (o2 f ma mb)):=⟨RN ho ha.p hb.p hm,Zq6 (RC hf ha.s hb.s)⟩
def OpR.or(h:OpR X f r)(h':OpR X f r'):OpR X f (λx y H Q=>r x y H Q\/r' x y H Q):=by
 intro a s Y H x y v u Q I b c q;rcases q with q | q
 .exact h a s Y H x y v u Q I b c q
 .exact h' a s Y H x y v u Q I b c q
def fV:OpR X (binaryOp .Add) (YT X.K):=by
 intro a s Y H x y v u Q I d e h;obtain ⟨l,b,j,i,rfl,rfl,g,f,c,q⟩:=h;cases d;cases e;exact fU I g f c q
def jU:OpR X (binaryOp .Add) (Wm X.K):=by
 intro c s Y H x y v u Q I f g h;obtain ⟨a,b,m,n,rfl,rfl,d,k,e,j,l,i⟩:=h;cases f;cases g;exact tu I d k e j l i
def dm:OpR X (binaryOp .Add) (Q6 X.K):=OpR.or uA (OpR.or fV (OpR.or jU wy))
def Bu(ha:DE X E a ta ma)(hb:DE X E b tb mb):DE X E (.BinOp a .Add b pos) (tOp (Q6 X.K) ta tb) (o2 Af ma mb):=Ir dm ZM ha hb
def Tf(ha:DE X E a ta ma)(hb:DE X E b tb mb):DE X E (.BinOp a .Sub b pos) (tOp (rI0 λi j=>V.int (i - j)) ta tb) (o2 dSub ma mb):=Ir vU yr ha hb
def uL{a b:Int}(h:DX a b=true):IntMulOk a b:=by
 have h':(a.natAbs<2^64\/b.natAbs<2^64)\/a.natAbs.log2+b.natAbs.log2<100000000:=by simpa [DX] using h
 rcases h' with (h' | h') | h'
 .exact .of_left (intBits_le_iff.mpr h')
 .exact .of_right (intBits_le_iff.mpr h')
 .have c:a.natAbs<2^(a.natAbs.log2+1):=Nat.lt_log2_self;have d:b.natAbs<2^(b.natAbs.log2+1):=Nat.lt_log2_self;exact IntMulOk.of_le (intBits_le_iff.mpr c) (intBits_le_iff.mpr d) (by omega)
def t7:OpD K mg (rI IntMulOk λi j=>.int (i*j)) Bt:=K7 λa b=>by
 unfold iMul;by_cases h:DX a b=true
 .rw [iP h];exact .inl ⟨_,rfl,uL h,λ_=>.int _⟩
 lia
def aq(ha:DE X E a ta ma)(hb:DE X E b tb mb):DE X E (.BinOp a .Mult b pos) (tOp (rI IntMulOk λi j=>V.int (i*j)) ta tb) (o2 Bt ma mb):=Ir gH t7 ha hb
def Fv(ha:DE X E a ta ma)(hb:DE X E b tb mb):DE X E (.BinOp a .Mod b pos) (tOp (rI (λ_ j=>j≠0) λi j=>V.int (i.fmod j)) ta tb) (o2 Ao ma mb):=Ir xZ mO ha hb
def Ng(ha:DE X E a ta ma)(hb:DE X E b tb mb):DE X E (.BinOp a .FloorDiv b pos) (tOp (rI U3 λi j=>V.int (i.fdiv j)) ta tb) (o2 Be ma mb):=Ir Zpw qP ha hb
def sU(ha:DE X E a ta ma)(hb:DE X E b tb mb):DE X E (.BinOp a .Pow b pos) (tOp (rI CPow λi j=>V.int (i^j.toNat)) ta tb) (o2 dPow ma mb):=Ir yO rF ha hb
def uF(ha:DE X E a ta ma)(hb:DE X E b tb mb):DE X E (.BinOp a .LShift b pos) (tOp (rI CPow λi j=>V.int (i*2^j.toNat)) ta tb) (o2 dShl ma mb):=Ir yu ZsV ha hb
def xK(ha:DE X E a ta ma)(hb:DE X E b tb mb):DE X E (.BinOp a .RShift b pos) (tOp (rI (λ_ j=>0<=j) λi j=>V.int (i/2^j.toNat)) ta tb) (o2 dShr ma mb):=Ir ZtS v5 ha hb
def zp(ha:DE X E a ta ma):DE X E (.UnaryOp .USub a pos) (tUn (rU λi=>V.int (-i)) ta) (o1 dNeg ma):=⟨cL Yc ha.p,cO (qM λ_ _ _ q=>⟨_,rfl,q⟩) ha.s⟩
def rm(ha:DE X E a ta ma)(hb:DE X E b tb mb):DE X E (.Compare a [.LtE] [b] pos) (tOp (rI0 λi j=>V.bl (decide (i<=j))) ta tb) (o2 dLe ma mb):=RW Xa bV ha hb (Em _)
def Zi(ha:DE X E a ta ma)(hb:DE X E b tb mb):DE X E (.Compare a [.GtE] [b] pos) (tOp (rI0 λi j=>V.bl (decide (j<=i))) ta tb) (o2 dGe ma mb):=RW ZS ZX ha hb (Em _)
def Wu(ha:DE X E a ta ma)(hb:DE X E b tb mb):DT X E (.Compare a [.Lt] [b] pos) (Dz (tOp (rI0 λi j=>V.bl (decide (i<j))) ta tb)) (trb (o2 dLt ma mb)):=HF pO Zu4 ha hb (Em _)
def sY(ha:DE X E a ta ma)(hb:DE X E b tb mb):DT X E (.Compare a [.LtE] [b] pos) (Dz (tOp (rI0 λi j=>V.bl (decide (i<=j))) ta tb)) (trb (o2 dLe ma mb)):=HF Xa bV ha hb (Em _)
def Nq(ha:DE X E a ta ma)(hb:DE X E b tb mb):DT X E (.Compare a [.Gt] [b] pos) (Dz (tOp (rI0 λi j=>V.bl (decide (j<i))) ta tb)) (trb (o2 dGt ma mb)):=HF vC gP ha hb (Em _)
def mY(ha:DE X E a ta ma)(hb:DE X E b tb mb):DT X E (.Compare a [.GtE] [b] pos) (Dz (tOp (rI0 λi j=>V.bl (decide (j<=i))) ta tb)) (trb (o2 dGe ma mb)):=HF ZS ZX ha hb (Em _)
mutual
def pyD:D->PyData
 | .non=>.none
 | .bl b=>.bool b
 | .int i=>.int i
 | .str x=>.str x
 | .tup xs=>.tuple (pyDs xs)
 | .lst xs=>.list (pyDs xs)
 | _=>.none
def pyDs:List D->List PyData
 | []=>[]
 | x::r=>pyD x::pyDs r
end
mutual
def Mj:∀x y,∀k l,Dl.plain k x=true->Dl.plain l y=true->eqD x y=PyData.eqv (pyD x) (pyD y)
 | .non,y,_,_,_,hy=>by cases y<;>first | rfl | (simp [Dl.plain] at hy)
 | .bl _,y,_,_,_,hy=>by cases y<;>first | rfl | (simp [Dl.plain] at hy)
 | .int _,y,_,_,_,hy=>by cases y<;>first | rfl | (simp [Dl.plain] at hy)
 | .str _,y,_,_,_,hy=>by cases y<;>first | rfl | (simp [Dl.plain] at hy)
 | .tup xs,y,k,l,hx,hy=>by
  cases y<;>first | rfl | (simp [Dl.plain] at hy;done) | skip
  rename_i ys;cases k with
  | zero=>trivial
  | succ k=>
   cases l with
   | zero=>trivial
   | succ l=>exact Uj xs ys k l (by trivial) (by trivial)
 | .lst xs,y,k,l,hx,hy=>by
  cases y<;>first | rfl | (simp [Dl.plain] at hy;done) | skip
  rename_i ys;cases k with
  | zero=>trivial
  | succ k=>
   cases l with
   | zero=>trivial
   | succ l=>exact Uj xs ys k l (by trivial) (by trivial)
 | .ty _,_,k,_,hx,_=>by trivial
 | .cls _,_,k,_,hx,_=>by trivial
 | .exc _,_,k,_,hx,_=>by trivial
 | .ins _ _ _,_,k,_,hx,_=>by trivial
def Uj:∀xs ys,∀k l,Dl.Bc k xs=true->Dl.Bc l ys=true->eqDs xs ys=PyData.eqvAll (pyDs xs) (pyDs ys)
 | [],[],_,_,_,_=>rfl
 | [],_::_,_,_,_,_=>rfl
 | _::_,[],_,_,_,_=>rfl
 | x::xs,y::ys,k,l,hx,hy=>by
  have a:Dl.plain k x=true/\Dl.Bc k xs=true:=by simpa [Dl.Bc] using hx
  have b:Dl.plain l y=true/\Dl.Bc l ys=true:=by simpa [Dl.Bc] using hy
  show (eqD x y&&eqDs xs ys)=(PyData.eqv (pyD x) (pyD y)&&PyData.eqvAll (pyDs xs) (pyDs ys));rw [Mj x y k l a.1 b.1,Uj xs ys k l a.2 b.2]
end
mutual
def Hr:∀x k,Dl.plain k x=true->(pyD x).canLay0=true/\(pyD x).depth<=k
 | .non,_,_=>⟨rfl,Cq _⟩
 | .bl _,_,_=>⟨rfl,Cq _⟩
 | .int _,_,_=>⟨rfl,Cq _⟩
 | .str x,_,h=>⟨by trivial,Cq _⟩
 | .tup xs,0,h=>by trivial
 | .lst xs,0,h=>by trivial
 | .tup xs,k+1,h=>by
  obtain ⟨a,b⟩:=KH xs k (by trivial);exact ⟨a,MJ b⟩
 | .lst xs,k+1,h=>by
  obtain ⟨a,b⟩:=KH xs k (by trivial);exact ⟨a,MJ b⟩
 | .ty _,k,h=>by trivial
 | .cls _,k,h=>by trivial
 | .exc _,k,h=>by trivial
 | .ins _ _ _,k,h=>by trivial
def KH:∀xs k,Dl.Bc k xs=true->PyData.canLayAll0 (pyDs xs)=true/\PyData.depthAll (pyDs xs)<=k
 | [],_,_=>⟨rfl,Cq _⟩
 | x::xs,k,h=>by
  have a:Dl.plain k x=true/\Dl.Bc k xs=true:=by simpa [Dl.Bc] using h
  obtain ⟨d,c⟩:=Hr x k a.1;obtain ⟨e,b⟩:=KH xs k a.2;refine ⟨?_,Nat.max_le.mpr ⟨c,b⟩⟩;show (PyData.canLay0 (pyD x)&&PyData.canLayAll0 (pyDs xs))=true
  lia
end
mutual
def JC{K:W.Frag}{mg:Str->Option Value}{F:Hp}{x:V}{d:D}{k:Nat}(h:Rp K mg F x d)(p:Dl.plain k d=true):DV K F x (pyD d):=by
 cases h with
 | non=>exact .non
 | bl b=>exact .bl b
 | int b=>exact .int b
 | str b=>exact .str b
 | tup h r=>
  cases k with
  | zero=>trivial
  | succ k=>exact .tup h (Lh r (by trivial))
 | lst h r=>
  cases k with
  | zero=>trivial
  | succ k=>exact .lst h (Lh r (by trivial))
 | ty _=>trivial
 | cls _=>trivial
 | exc _ _=>trivial
 | ins _ _ _ _ _=>trivial
def Lh{K:W.Frag}{mg:Str->Option Value}{F:Hp}{xs:List V}{ds:List D}{k:Nat}(h:Rps K mg F xs ds)(p:Dl.Bc k ds=true):DVs K F xs (pyDs ds):=by
 cases h with
 | nil=>exact .nil
 | cons h r=>
  have a:=(by simpa [Dl.Bc] using p);exact .cons (JC h a.1) (Lh r a.2)
end
mutual
def IW{K:W.Frag}{F H:Hp}(s:Same F H){x:V}{d:PyData}(h:DV K F x d):DV K H x d:=by
 cases h with
 | non=>exact .non
 | bl b=>exact .bl b
 | int b=>exact .int b
 | str b=>exact .str b
 | tup h r=>exact .tup (Du s h) (Kg s r)
 | lst h r=>exact .lst (s.seq h) (Kg s r)
def Kg{K:W.Frag}{F H:Hp}(s:Same F H){xs:List V}{ds:List PyData}(h:DVs K F xs ds):DVs K H xs ds:=by
 cases h with
 | nil=>exact .nil
 | cons h r=>exact .cons (IW s h) (Kg s r)
end
def Vc:OpD K mg (rEqD K id) dEq:=by
 intro E F H x y c b s f g;unfold dEq;by_cases h:(Dl.plain 50 c&&Dl.plain 50 b)=true
 .rw [iP h];have a:Dl.plain 50 c=true/\Dl.plain 50 b=true:=by lia
  obtain ⟨i,d⟩:=Hr c 50 a.1;obtain ⟨e,j⟩:=Hr b 50 a.2;exact .ret s (.bl _) λQ q=>⟨_,_,IW s (JC f a.1),IW s (JC g a.2),i,e,An d (by decide),by rw [<-Mj c b 50 50 a.1 a.2];exact q⟩
 .rw [iN h];trivial
def Ox:OpD K mg (rEqD K not) dNe:=by
 intro E F H x y c b s f g;unfold dNe;by_cases h:(Dl.plain 50 c&&Dl.plain 50 b)=true
 .rw [iP h];have a:Dl.plain 50 c=true/\Dl.plain 50 b=true:=by lia
  obtain ⟨i,d⟩:=Hr c 50 a.1;obtain ⟨e,j⟩:=Hr b 50 a.2;exact .ret s (.bl _) λQ q=>⟨_,_,IW s (JC f a.1),IW s (JC g a.2),i,e,An d (by decide),by rw [<-Mj c b 50 50 a.1 a.2];exact q⟩
 .rw [iN h];trivial
def eF(hr:Room k X.A)(ha:DE X E a ta ma)(hb:DE X E b tb mb):DE X E (.Compare a [.Eq] [b] pos) (tOp (rEqD X.K id) ta tb) (o2 dEq ma mb):=RW (Th hr.units) Vc ha hb (Em _)
def Eh(hr:Room k X.A)(ha:DE X E a ta ma)(hb:DE X E b tb mb):DT X E (.Compare a [.Eq] [b] pos) (Dz (tOp (rEqD X.K id) ta tb)) (trb (o2 dEq ma mb)):=HF (Th hr.units) Vc ha hb (Em _)
def Tz(hr:Room k X.A)(ha:DE X E a ta ma)(hb:DE X E b tb mb):DT X E (.Compare a [.NotEq] [b] pos) (Dz (tOp (rEqD X.K not) ta tb)) (trb (o2 dNe ma mb)):=HF (NZ hr.units) Ox ha hb (Em _)
def Gp(ha:DE X E a ta ma)(hb:DE X E b tb mb)(hs:Zb b:=by exact λ_ _=>rfl):DE X E (.Subscript a b pos) (tOp (rIxD X.K) ta tb) (o2 dIx ma mb):=⟨Zv (IxR.or XR ZD) ha.p hb.p hs,RC vo ha.s hb.s⟩
def IK(ha:DE X E a ta ma)(he:∀whole,isTrue a X.env whole=(do let v <-whole;standAt a.pos;holding [v] (truthy v)):=by intro _;rfl):DT X E a (L2.tB ta) (trb ma):=⟨nA ha.p he,st_b ha.s⟩
def VV(ha:DT X E a sa na):DW X E (.BoolOp .And [a] pos) sa na:=⟨xF ha.p,ha.s⟩
def Jh(ha:DT X E a sa na):DW X E (.BoolOp .Or [a] pos) sa na:=⟨Z9 ha.p,ha.s⟩
def SM{rest:List Expr}(ha:DT X E a sa na)(hb:DW X E (.BoolOp .And (b::rest) pos) sb nb):DW X E (.BoolOp .And (a::b::rest) pos) (tAnd sa sb) (bAnd na nb):=⟨Zwb ha.p hb.p,pW ha.s hb.s⟩
def Il{rest:List Expr}(ha:DT X E a sa na)(hb:DW X E (.BoolOp .Or (b::rest) pos) sb nb):DW X E (.BoolOp .Or (a::b::rest) pos) (tOr sa sb) (bOr na nb):=⟨WQ ha.p hb.p,ut ha.s hb.s⟩
def DW.dt(h:DW X E a sa na):DT X E a sa na:=⟨h.p.pt,h.s⟩
def Km(ha:DT X E a sa na):DT X E (.UnaryOp .Not a pos) (tNot sa) (bNot na):=⟨ue ha.p,pP ha.s⟩
def xW{op}(ha:DE X E a ta ma):DE X E (.BoolOp op [a] pos) ta ma:=⟨vq ha.p,ha.s⟩
def ZwX{rest:List Expr}(ha:DE X E a ta ma)(hb:DE X E (.BoolOp .And (b::rest) pos) tb mb):DE X E (.BoolOp .And (a::b::rest) pos) (Sv ta tb) (eAnd ma mb):=⟨iB ha.p hb.p,wY ha.s hb.s⟩
def rG(ha:DE X E a ta ma):DE X E (.UnaryOp .Not a pos) (T8 ta) (eNot ma):=⟨z6 ha.p,jq ha.s⟩
def Wj(hc:DT X E c' sa na)(ha:DE X E a ta ma)(hb:DE X E b tb mb):DE X E (.IfExp c' a b pos) (tIf sa ta tb) (ife na ma mb):=⟨zV hc.p ha.p hb.p,rO hc.s ha.s hb.s⟩
def Al:DA X E 0 [] tNil Ab:=⟨Dv,Yr,eV⟩
def Ae(ha:DE X E e te me)(hr:DA X E n es t m)(hs:starEach (e::es) X.env=(false,eval e X.env)::starEach es X.env:=by rfl):DA X E (n+1) (e::es) (Bo te t) (Aa me m):=⟨Ea ha.p hr.p hs,ig ha.s hr.s,uN hr.n⟩
def Dr{x1}(h:DA X E n es t m)(hn:n<=sizeLine:=by decide):DE X E (.Tuple es x1 pos) (tTup t) (mtp m):=⟨wj h.p,wk h.s h.n hn⟩
def Ga(h:DA X E n es t m)(hn:n<=sizeLine:=by decide):DE X E (.List es pos) (tLst t) (mls m):=⟨O6 h.p,pN h.s h.n hn⟩
def Ei{id:String}{r:List V->Hp->VK->Prop}{f:List D->Res D}{p:Pos}(hc:Dg X (.builtin id) r)(hf:CallD X.K X.mg r f)(hg:Gl X x)(hm:X.mg x=none)(hv:bootBuiltins x=some (.builtin id))(ha:DA X E n (e::es) t m)(hn:x ≠ "__name__":=by decide)(hdb:ND x:=by decide)(he:starEach (e::es) X.env=(false,eval e X.env)::starEach es X.env:=by rfl)(hpl:(backTo pos (starEach es X.env)).any (·.1)=false:=by rfl):DE X E (.Call (.Name x p) (e::es) [] pos) (tCB r t) (on f m):=⟨Xq hc hg hm hv ha.p hn hdb he hpl,Y8 hf ha.s⟩
def DN(hc:Dg X (.type T) r)(hf:CallD X.K X.mg r f)(hg:Gl X x)(hm:X.mg x=none)(hv:bootBuiltins x=some (.type T))(ha:DA X E n (e::es) t m)(hn:x ≠ "__name__":=by decide)(hdb:ND x:=by decide)(he:starEach (e::es) X.env=(false,eval e X.env)::starEach es X.env:=by rfl)(hpl:(backTo pos (starEach es X.env)).any (·.1)=false:=by rfl):DE X E (.Call (.Name x p) (e::es) [] pos) (tCB r t) (on f m):=⟨XN hc hg hm hv ha.p hn hdb he hpl,Y8 hf ha.s⟩
structure Cal(P:Program)(w:World)(K:W.Frag)(mg:Str->Option Value)(base:Heap)(n:Nat)(x:Str)(ps:List Str)(m:List D->Res D):Prop where
 ex:∃(f:Addr) (fd:FuncData),FnOk P w K mg base (CXR P w) n f fd ps (spD K mg ps.length m)/\Binds K fd ps []/\W.keepIn K (.ref f)=true/\mg x=some (.ref f)
def Ey(C:Cal X.prog X.w X.K X.mg X.base k x ps f)(hr:Room l X.A)(hn:k<=l)(hg:Gl X x)(hx:Cg (CXR X.prog X.w) X E)(ha:DA X E n (e::es) t m)(hps:ps.length=n:=by rfl)(hdb:ND x:=by decide)(he:starEach (e::es) X.env=(false,eval e X.env)::starEach es X.env:=by rfl)(hpl:(backTo pos (starEach es X.env)).any (·.1)=false:=by rfl) :
  DE X E (.Call (.Name x p) (e::es) [] pos) (G7 (spD X.K X.mg ps.length f) [] E t) (on f m):=by
 obtain ⟨g,d,F,b,c,a⟩:=C.ex;exact ⟨Tc F (hr.mono hn) hg a c b .nil hx ha.p hdb he hpl,by rw [hps];exact qY ha.s ha.n⟩
def aD:Cg (CXR X.prog X.w) (BW X N scope cl C s H fp pn) E0:=λ_ _ _ _ _ _ _ h=>h.elim
end
section
variable {a b c' tg:Expr} {ta tb tc:TE} {ma mb mc:ME} {sa sb:TT} {na nb:MB} {t:TA} {m:MA}
def xP:SlR X (rSlU X.K):=by
 intro c s Y H x v q p k m o Q I i l e f h;obtain ⟨a,b,rfl,n,u,t⟩:=h;by_cases hw:HT.sIx b.length 0 k=0/\HT.sIx b.length b.length m=b.length
 .cases i;obtain ⟨d,r,g,w⟩:=I.tuple n;have j:d.toArray.size=b.length:=by rw [GR];exact r.length.symm
  exact ⟨"tuple",_,PyProof.Rows.slot_tuple_getitem.lookup,g.typeIs,HT.mG g l e f (by lia) ⟨.ref a,H,I,rfl,u hw⟩⟩
 .exact u5 c s Y H (.ref a) v q p k m o Q I i l e f ⟨a,b,rfl,n,hw,t hw⟩
def Je:DO X E none T6 pno:=⟨vY,jT⟩
def HH(h:DE X E a ta ma):DO X E (some a) (Tu ta) (pso ma):=⟨uV h.p,lV h.s⟩
def J3{lo hi:Option Expr}{tl th:TO}{ml mh:Ev->Res (Option Int)}{p2:Pos}(ha:DE X E a ta ma)(hl:DO X E lo tl ml)(hh:DO X E hi th mh):DE X E (.Subscript a (.Slice lo hi none p2) pos) (tSl (rSlD X.K) ta tl th) (cut ma ml mh) :=
 ⟨Yw (SlR.or qX xP) ha.p hl.p hh.p,fC ha.s hl.s hh.s⟩
def wH{n:String}(ht:Ra d=some tn)(hn:R8.contains n=true):W.kitOne K (.type tn) (.type n)=some (isTy tn n):=by
 have b:n = "int"\/n = "bool"\/n = "str"\/n = "tuple"\/n = "list"\/n = "dict":=by
  simpa [R8] using hn
 have a:tn = "NoneType"\/tn = "bool"\/tn = "int"\/tn = "str"\/tn = "tuple"\/tn = "list":=by
  cases d<;>simp [Ra] at ht<;>subst ht<;>simp
 rcases a with rfl | rfl | rfl | rfl | rfl | rfl<;>rcases b with rfl | rfl | rfl | rfl | rfl | rfl <;>
  first
  | exact oU K _
  | exact jd K (by decide +kernel) (by decide +kernel) (by decide +kernel)
def rIsi(K:W.Frag):List V->Hp->VK->Prop:=λd H Q=>∃x n c b,d=[x,.ty n]/\W.kitOne K (.type c) (.type n)=some b/\Q (.bl b) H /\
 ((x=.non/\c = "NoneType")\/(∃y,x=.bl y/\c = "bool")\/(∃y,x=.int y/\c = "int")\/(∃y,x=.str y/\c = "str")\/(∃a d,x=.ref a/\SqT K H a d/\c = "tuple")\/(∃a d,x=.ref a/\SqL K H a d/\c = "list"))
def vf:Dg X (.builtin "isinstance") (rIsi X.K):=by
 intro d s Y H k p Q I r h;obtain ⟨x,n,t,j,rfl,e,q,h⟩:=h;obtain ⟨u,v,rfl,c,m⟩:=vals2 r;cases m;have b:∀l,EP X d Y Q (.bool j) { s with toks:=l }:=λl=>⟨.bl j,H,I.tok _,rfl,q⟩
 rcases h with ⟨rfl,rfl⟩ | ⟨y,rfl,rfl⟩ | ⟨y,rfl,rfl⟩ | ⟨y,rfl,rfl⟩ | ⟨a,k,rfl,hq,rfl⟩ | ⟨a,k,rfl,hq,rfl⟩
 .exact PX I c .non e b
 .exact PX I c (.bl y) e b
 .exact PX I c (.int y) e b
 .exact PX I c (.str y) e b
 .cases c;obtain ⟨i,_,⟨o,g,f,_⟩,_⟩:=I.tuple hq;exact G5 W.kitx_tuple I.kIn ⟨o,g,f⟩ e (λz=>nomatch z) b
 .cases c;obtain ⟨i,_,⟨o,_,g,f,_⟩,_⟩:=I.list hq;exact G5 W.kitx_list I.kIn ⟨o,g,f⟩ e (λz=>nomatch z) b
def uI:CallD K mg (rIsi K) bIsi:=by
 intro E F H f g s r;unfold bIsi;split
 .next d a=>
  obtain ⟨x,y,rfl,c,b⟩:=r.two;cases b;by_cases hn:R8.contains a=true
  .rw [iP hn];cases e:Ra d with
   | none=>trivial
   | some tn=>
    have k:=wH (K:=K) e hn;refine .ret s (.bl _) λQ q=>⟨x,a,tn,_,rfl,k,q,?_⟩;cases c with
    | non=>cases e;lia
    | bl y=>cases e;lia
    | int y=>cases e;lia
    | str y=>cases e;lia
    | ty y=>cases e
    | cls y=>cases e
    | exc y h=>cases e
    | ins m h o q r=>cases e
    | tup h r=>cases e;exact .inr (.inr (.inr (.inr (.inl ⟨_,_,rfl,Du s h,rfl⟩))))
    | lst h r=>cases e;exact .inr (.inr (.inr (.inr (.inr ⟨_,_,rfl,s.seq h,rfl⟩))))
  .rw [iN hn];trivial
 .trivial
def Ef(hN:X.N.Nodup)(hi:X.N[i]?=some x)(hx:Loc X.env.scope x)(hl:i<n)(hf:X.fn x=true\/X.env.scope.names.lookup x=some .local:=by first | exact .inl rfl | exact .inr rfl | assumption):DG X n (.Name x pos) (Bs i) (gN i) :=
 ⟨Tg hN hi hx hf,wW hl⟩
def OD:DGs X n [] gNil gs0:=⟨iU,gf⟩
def Ff{t:TG}{u:TGs}{g:MG}{gs:MGs}(h1:DG X n e t g)(h2:DGs X n es u gs)(hs:(assignEach (e::es) X.env).map (·.2)=assign e X.env::(assignEach es X.env).map (·.2):=by rfl):DGs X n (e::es) (R7 t u) (gs1 g gs) :=
 ⟨yM h1.p h2.p hs,ql h1.s h2.s⟩
def Nr(hc:X.calm=true)(h:DGs X n es u g)(hn:(assignEach es X.env).length=j:=by rfl)(hst:(assignEach es X.env).findIdx? (·.1)=none:=by rfl):DG X n (.Tuple es k pos) (gSeq X.K j u) (gU j g):=by
 refine ⟨?_,jW h.s⟩;intro c s Y H v w Q I r hw;rcases hw with hw | hw
 .exact qi hc h.p hn hst c s Y H v w Q I r hw
 .obtain ⟨a,m,y,d,l,hw⟩:=hw;subst y;cases r;obtain ⟨i,t,f,z⟩:=I.list d;refine zQ (I.ok.hd hc) f.isList (by simp [hn,<-l,t.length]) hst λA x=>?_;have q:=I.kept (t':=s.toks) λb o e=>x b o (Bm (BX e)) e;exact h.p c _ Y H m _ Q q (by trivial) hw
def CT(h:DE X E a ta ma):DI X E tg a (iSeq X.K ta) (iv ma):=by
 refine ⟨?_,jz h.s⟩;intro f s Y H R I n;refine thn (h.p f s Y H _ I n) λv d zq=>?_;obtain ⟨x,k,c,m,j⟩:=zq;obtain ⟨p,rfl,j⟩:=j;cases m;rcases j with ⟨⟨xs,hq⟩,q⟩ | ⟨⟨xs,hq⟩,q⟩
 .obtain ⟨i,r,g,l⟩:=c.list hq;refine La g.isList ?_;refine ⟨d.heap.objs.size,[d.heap.objs.size],_,_,k,rfl,c.kept λb o e=>BJ _ e,o7 p _,⟨_,By _ rfl,rfl,rfl⟩,λb t=>?_,q⟩;have e:b=d.heap.objs.size:=by simp_all
  subst e;exact c.fpOk (Ar _) (c.hok.fresh (Ar _))
 .obtain ⟨i,r,g,l⟩:=c.tuple hq;refine wpAny_pyIter_tuple (g) ?_;refine ⟨d.heap.objs.size,[d.heap.objs.size],_,_,k,rfl,c.kept λb o e=>BJ _ e,yh p _,⟨_,By _ rfl,rfl,rfl⟩,λb t=>?_,q⟩;have e:b=d.heap.objs.size:=by simp_all
  subst e;exact c.fpOk (Ar _) (c.hok.fresh (Ar _))
def dJ(hg:Gl X "range")(hm:X.mg "range"=none)(ha:DA X E n [a] t m)(hs:starEach [a] X.env=[(false,eval a X.env)]:=by rfl):DI X E tg (.Call (.Name "range" p) [a] [] pos) (Vx t) (r1 m):=⟨zu hg hm ha.p hs,iV ha.s⟩
def aW:∀(ds:List D) (k i:Nat) (d:D),(Dl.numbered k ds)[i]?=some d->∃x,ds[i]?=some x/\d=.tup [.int (k+i:Nat),x]
 | [],_,_,_,h=>by trivial
 | x::r,k,0,d,h=>by simp [Dl.numbered] at h;simp_all
 | x::r,k,i+1,d,h=>by
  obtain ⟨y,a,b⟩:=aW r (k+1) i d (by trivial)
  grind
def YJ:∀ds k,(Dl.numbered k ds).length=ds.length
 | [],_=>rfl
 | _::r,k=>CP (·+1) (YJ r (k+1))
def Yj:∀(xs ys:List D) (i:Nat) (d:D),(pairs xs ys)[i]?=some d->∃x y,xs[i]?=some x/\ys[i]?=some y/\d=.tup [x,y]
 | [],_,_,_,h=>by trivial
 | _::_,[],_,_,h=>by trivial
 | x::r,y::s,0,d,h=>by simp [pairs] at h;simp_all
 | x::r,y::s,i+1,d,h=>by
  obtain ⟨a,b,e,f,c⟩:=Yj r s i d (by trivial);simp_all
def pairs_len:∀xs ys,(pairs xs ys).length=min xs.length ys.length
 | [],_=>by rfl
 | _::_,[]=>by rfl
 | x::r,y::s=>by simp [pairs,pairs_len r s]
def yE{F:Hp}{a:Addr}(h:SqL K F a xs)(r:Rps K mg F xs ds):ItOk K mg F (Ite K a) (Dl.numbered 0 ds):=by
 intro u t g c i;have b:=(g.trans c).seq h;refine ⟨λd e=>?_,λj=>⟨xs,b,by rw [r.length];rw [YJ] at j;exact j⟩⟩;obtain ⟨v,s,rfl⟩:=aW ds 0 i d e;obtain ⟨x,l,n⟩:=r.get s;refine ⟨⟨xs,x,b,l⟩,λy m q=>?_⟩;obtain ⟨T,p,k,rfl,rfl,o⟩:=q;have f:=o xs b;rw [l] at f;cases f;refine ⟨_,.new c k _,.tup (SqT.of Ay) (.cons ?_ (.cons ((n.same g).same (Cp (c.free k) _)) .nil))⟩;rw [Nat.zero_add];exact .int _
def Rf{p:Bool}{a:Addr}(e:Same H H')(h:SqB K p H a xs):SqB K p H' a xs:=by
 cases p
 .exact e.seq h
 .exact Du e h
def yf{F:Hp}{p q:Bool}{a b:Addr}{ys:List V}{es:List D}(h:SqB K p F a xs)(r:Rps K mg F xs ds)(h':SqB K q F b ys)(r':Rps K mg F ys es):ItOk K mg F (ItzK K p q a b) (pairs ds es):=by
 intro G E g f i;have j:=Rf (g.trans f) h;have c:=Rf (g.trans f) h';refine ⟨λd e=>?_,λC=>⟨xs,ys,j,c,by rw [r.length,r'.length];rw [pairs_len] at C;omega⟩⟩;obtain ⟨J,L,B,t,rfl⟩:=Yj ds es i d e;obtain ⟨x,s,v⟩:=r.get B;obtain ⟨y,m,w⟩:=r'.get t;refine ⟨⟨xs,ys,x,y,j,c,s,m⟩,λz u q=>?_⟩;obtain ⟨T,H,I,l,rfl,rfl,A,k⟩:=q;have o:=A xs j;have n:=k ys c;rw [s] at o;cases o;rw [m] at n;cases n;exact ⟨_,.new f l _,.tup (SqT.of Ay) (.cons ((v.same g).same (Cp (f.free l) _)) (.cons ((w.same g).same (Cp (f.free l) _)) .nil))⟩
def aj{F:Hp}{x:V}(r:Rp K mg F x d)(e:seqD d=.ok ds):∃p a xs,x=.ref a/\SqB K p F a xs/\Rps K mg F xs ds:=by
 cases r with
 | tup h q=>cases e;exact ⟨true,_,_,rfl,h,q⟩
 | lst h q=>cases e;exact ⟨false,_,_,rfl,h,q⟩
 | _=>cases e
def gZ(hg:Gl X "enumerate")(hm:X.mg "enumerate"=none)(ha:DA X E n [a] t m)(hs:starEach [a] X.env=[(false,eval a X.env)]:=by rfl):DI X E (.Tuple elts x1 tpos) (.Call (.Name "enumerate" p) [a] [] pos) (YB X.K t) (Us m):=by
 refine ⟨gM hg hm ha.p hs,?_⟩;intro f g F H Y Z e;refine (ha.s f g F H Y Z e).bind λo k l c b j=>?_;unfold RJ;split
 .next d=>
  obtain ⟨x,rfl,i⟩:=j.one;cases d with
  | lst c=>
   cases i with
   | lst h r=>exact Ans.ret b.s (yE h r) λQ q=>⟨_,rfl,⟨_,b.s.seq h⟩,q⟩
  | tup c=>trivial
  | _=>trivial
 .trivial
def mU(hg:Gl X "zip")(hm:X.mg "zip"=none)(ha:DA X E n [a,b] t m)(hs:starEach [a,b] X.env=[(false,eval a X.env),(false,eval b X.env)]:=by rfl)(hs2:starEach [b] X.env=[(false,eval b X.env)]:=by rfl) :
  DI X E (.Tuple elts x1 tpos) (.Call (.Name "zip" p) [a,b] [] pos) (ZF X.K t) (iZip m):=by
 refine ⟨oM hg hm ha.p hs hs2,?_⟩;intro h i F H Y Z r;refine (ha.s h i F H Y Z r).bind λG B J D c A=>?_;unfold zip2;split
 .next d w=>
  obtain ⟨x,y,rfl,l,k⟩:=A.two;cases e1:seqD d with
  | ok us=>
   cases e2:seqD w with
   | ok ws=>
    obtain ⟨g,I,z,rfl,e,j⟩:=aj l e1;obtain ⟨v,C,o,rfl,f,u⟩:=aj k e2;exact Ans.ret c.s (yf e j f u) λQ q=>⟨g,v,_,_,rfl,⟨_,Rf c.s e⟩,⟨_,Rf c.s f⟩,q⟩
   | bad=>trivial
  | bad=>trivial
 .trivial
end
structure DTs(X:Cx)(E:XK)(ts:List Expr)(t:TT)(m:MB):Prop where
 p:PTs X ts t
 s:STt X.K X.mg E t m
section
variable {a b c' tg iter elt:Expr} {ts:List Expr} {ta tb tc:TE} {ma mb mc:ME} {sa sb:TT} {na nb:MB} {t:TA} {m:MA} {y:Str}
def oY:STt K mg E tYes yes:=λ_ _ _ _ _ _ r=>Ans.ret (R:=RB) r.ss rfl λ_ q=>q
def V2:DTs X E [] tYes yes:=⟨ni,oY⟩
def CJ(hi:DI X E tg iter wi mi)(O:Gd X own cap scope cl)(hc:X.calm=true)(hg:∀C s H fp pn,DG (BW X (own++cap.map (·.1)) scope cl C s H fp pn) own.length tg (g C s H fp pn) gm)(ht:∀C s H fp pn,DTs (BW X (own++cap.map (·.1)) scope cl C s H fp pn) E0 ts (tt C s H fp pn) na)(he:∀C s H fp pn,DE (BW X (own++cap.map (·.1)) scope cl C s H fp pn) E0 elt (tf C s H fp pn) me)(hts:ts.length<=1:=by decide)(hs:∀x,foldedSetIterable iter X.env x=pure x:=by intro _;rfl) :
  DE X E (.ListComp elt [⟨tg,iter,ts,0⟩] scope pos) (O4 wi g tt tf own cap) (comp mi own.length (cap.map (·.2)) gm na me) :=
 ⟨zK hi.p O hc (λC s H fp pn=>(hg C s H fp pn).p) (λC s H fp pn=>(ht C s H fp pn).p) (λC s H fp pn=>(he C s H fp pn).p) hts hs,
  bK hi.s (λC s H fp pn=>(hg C s H fp pn).s) (λC s H fp pn=>(ht C s H fp pn).s) (λC s H fp pn=>(he C s H fp pn).s)⟩
def Ih(hN:X.N.Nodup)(hix:X.N[i]?=some x)(hx:Loc X.env.scope x)(hi:DI X E tg iter wi mi)(O:Gd X own cap scope cl)(hc:X.calm=true)(hg:∀C s H fp pn,DG (BW X (own++cap.map (·.1)) scope cl C s H fp pn) own.length tg (g C s H fp pn) gm)(ht:∀C s H fp pn,DTs (BW X (own++cap.map (·.1)) scope cl C s H fp pn) E0 ts (tt C s H fp pn) na)(he:∀C s H fp pn,DE (BW X (own++cap.map (·.1)) scope cl C s H fp pn) E0 elt (tf C s H fp pn) me)(hts:ts.length<=1:=by decide)(hsw:swapsWith (.ListComp elt [⟨tg,iter,ts,0⟩] scope pos) (some (.Name x pos')) spos.line X.env=pure true:=by rfl)(hs:∀x,foldedSetIterable iter X.env x=pure x:=by intro _;rfl)(hf:X.fn x=true\/X.env.scope.names.lookup x=some .local:=by first | exact .inl rfl | exact .inr rfl | assumption) :
  DS X E (.Assign [.Name x pos'] (.ListComp elt [⟨tg,iter,ts,0⟩] scope pos) spos) (tAsg (O4 wi g tt tf own cap) (Bs i)) (st i (comp mi own.length (cap.map (·.2)) gm na me)) :=
 ⟨qt hN hix hx hi.p O hc (λC s H fp pn=>(hg C s H fp pn).p) (λC s H fp pn=>(ht C s H fp pn).p) (λC s H fp pn=>(he C s H fp pn).p) hts hsw hs hf,
  dC (bK hi.s (λC s H fp pn=>(hg C s H fp pn).s) (λC s H fp pn=>(ht C s H fp pn).s) (λC s H fp pn=>(he C s H fp pn).s))⟩
def FW(hN:X.N.Nodup)(hi:X.N[i]?=some x)(hx:Loc X.env.scope x)(he:DE X E e te me)(hs:swapsWith e (some (.Name x pos')) spos.line X.env=pure false:=by rfl)(hf:X.fn x=true\/X.env.scope.names.lookup x=some .local:=by first | exact .inl rfl | exact .inr rfl | assumption) :
  DS X E (.Assign [.Name x pos'] e spos) (tAsg te (Bs i)) (st i me):=⟨Hq hN hi hx he.p hs hf,dC he.s⟩
def ao(he:DE X E e te me)(hg:DG X 1000 tg g gm)(hs:swapsWithSole [tg] e spos.line X.env=pure false:=by rfl)(hw:swappedStores [tg] e X.env=pure none:=by rfl)(h1:(assignEach [tg] X.env).map (·.2)=[assign tg X.env]:=by rfl):DS X E (.Assign [tg] e spos) (tAsg te g) (asg gm me):=⟨VR he.p hg.p hs hw h1,jA he.s hg.s⟩
def WW(he:DE X E e te me)(hs:swapsWith e none spos.line X.env=pure false:=by rfl):DS X E (.Expr e spos) (Ep te) (drp me):=⟨J0 he.p hs,vM he.s⟩
def Bh(he:DE X E e te me):DS X E (.Return (some e) spos) (tRet te) (ret me):=⟨Jy he.p,iC he.s⟩
def iG{st:Stmt}{u:TS}{k:MS}(h:DS X E st u k):DS X E st u (frz i k):=⟨h.p,jJ h.s⟩
def Bb:DSs X E [] GF nop:=⟨Kr,Zwj⟩
def Az{st:Stmt}{u:TS}{k:MS}(h:DS X E st u k):DSs X E [st] u k:=⟨FQ h.p,h.s⟩
def Ag{st:Stmt}{rest:List Stmt}{u u':TS}{k k':MS}(h:DS X E st u k)(h':DSs X E rest u' k'):DSs X E (st::rest) (tSeq u u') (sq k k'):=⟨DP h.p h'.p,Zuz h.s h'.s⟩
def Ba{k:MS}(hc:DT X E c' sa na)(ha:DSs X E as u k)(hb:DSs X E bs u' k'):DS X E (.If c' as bs spos) (tIfS sa u u') (ifs na k k'):=⟨JM hc.p ha.p hb.p,pB hc.s ha.s hb.s⟩
def Hm{k:MS}(hp:PassesOwn (model X.prog X.w) X.A X.env X.xe)(hc:X.calm=true)(hi:DI X E tg iter wi mi)(hg:DG X 1000 tg g gm)(hb:DSs X E body u k)(hs:∀x,foldedSetIterable iter X.env x=pure x:=by intro _;rfl):DS X E (.For tg iter body [] spos) (tFor wi g u) (for_ mi gm k):=⟨Pg hp hc hi.p hg.p hb.p hs,lW hi.s hg.s hb.s⟩
def cG{k:MS}(hp:PassesOwn (model X.prog X.w) X.A X.env X.xe)(hc:DT X E c' sa na)(hb:DSs X E body u k):DS X E (.While c' body [] spos) (Ri sa u) (whl fu na k):=⟨ph hp hc.p hb.p,gJ hc.s hb.s⟩
end
section
variable {qual:Str} {scope:Scope} {f:Addr} {cd:Value} {outer:List Env} {s₀:Shared} {H₀:Hp} {t:TA} {m:MA}
def Wc{F:Hp}(s:Same F H)(r:Rps K mg F vs ds):Rep K mg F H F H (start N vs) (ev0 N.length ds):=by
 have k:=r.length;have g:∀(i:Nat) (c:Cl),(ev0 N.length ds)[i]?=some c->c=.no\/∃d,ds[i]?=some d/\c=.im d:=by
  intro i c e;rw [K4] at e;by_cases b:i<ds.length
  .rw [Fw (by simpa using b),Cz,Bk b] at e;exact .inr ⟨ds[i],Bk b,(Fy e).symm⟩
  .rw [Fq (by simpa using b),List.getElem?_replicate] at e;split at e
   .exact .inl (Fy e).symm
   .cases e
 refine ⟨.refl s,?_,λi d e=>?_,λi f e=>?_,λi j f m a e=>?_⟩
 .rw [K4];unfold start;simp [k]
 .rcases g i _ e with z | ⟨d',e1,z⟩
  .cases z
  .cases z;obtain ⟨v,h,l⟩:=r.get e1;refine ⟨v,?_,l⟩;have b:=(Gk.mp h).1;unfold start;rw [Fw (by simpa using b),Cz,h];rfl
 .grind
 grind
def okD{st:Stmt}{mb:MS}(F:Fun K x x st f fd)(S:Bx N ps (BV st))(h:∀(cdv:Value) (A:Around) (outer:List Env) (s:Shared) (H:Hp) (E:XK),Room k (A.deeper (envOfC x (BV st) s.heap.objs.size f cdv))->∃t,DSs (cxOf (CXR P w) P w K mg base N x (BV st) f cdv A outer s H E) E (Ew st) t mb) :
  FnOk P w K mg base (CXR P w) (k+1) f fd ps (spD K mg ps.length (fn N.length mb)):=by
 obtain ⟨U,O,L,y,R,M,cdv,ct,B,rfl,G,b⟩:=F.ex;refine Nh G b S (λo H Q E q=>q.1) λA outer s H o Q E D i=>?_;obtain ⟨t,r⟩:=h cdv A outer s H E D;refine ⟨t,r.p,?_⟩;obtain ⟨_,n,m,J,I,j,a⟩:=i;have z:=r.s n H n H (start N o) (ev0 N.length m) (Wc J I);unfold fn at j a;cases e:mb (ev0 N.length m) with
 | ok fl=>
  rw [e] at z j a;cases fl with
  | nx Z=>exact z _ λc l T _ u=>a .non rfl c l .non u.g .non
  | rt d=>exact z _ λc l v g C=>a d rfl c l v g C
  | bk Z=>trivial
  | ct Z=>trivial
 | bad=>rw [e] at j;trivial
def _root_.L2.Def.cal{st:Stmt}{mb:MS}(D:Def K mg x st ps)(S:Bx N ps (BV st))(h:∀(f:Addr) (cdv:Value) (A:Around) (outer:List Env) (s:Shared) (H:Hp) (E:XK),Room k (A.deeper (envOfC x (BV st) s.heap.objs.size f cdv))->∃t,DSs (cxOf (CXR P w) P w K mg base N x (BV st) f cdv A outer s H E) E (Ew st) t mb) :
  Cal P w K mg base (k+1) x ps (fn N.length mb):=by
 obtain ⟨f,c,F,b,a⟩:=D.ex;exact ⟨f,c,okD F S (h f),b,F.kp,a⟩
end
def rZ{e:Value}(h:CXR P w l H s (λ_ _ _=>False) e s'):False:=h
def Qo(K:W.Frag):Sp:=λb H Q _=>∃(a:Addr) (ns:List Int),b=[.ref a]/\SqL K H a (ns.map V.int)/\ns.length<=63/\∀c,Q (.bl true) c
def eY:∀ns:List Int,Rps K mg H (ns.map V.int) (ns.map D.int)
 | []=>.nil
 | n::r=>.cons (.int n) (eY r)
def wG(h:∀ns:List Int,ns.length<=63->m [.lst (ns.map .int)]=.ok (.bl true)):∀vs H Q E,Qo K vs H Q E->spD K mg 1 m vs H Q E:=by
 rintro vs H Q E ⟨a,ns,rfl,g,c,q⟩;have e:=h ns c;refine ⟨rfl,H,_,Same.refl _,.cons (.lst g (eY ns)) .nil,λz=>?_,λd b=>?_⟩
 .lia
 rw [e] at b;cases b;intro i j x _ f;cases f
 grind
def YF(C:Cal X.prog X.w X.K X.mg X.base k x ps f)(hr:Room l X.A)(hn:k<=l)(hg:Gl (BW X N scope cl C' s H fp pn) x)(ha:DA (BW X N scope cl C' s H fp pn) E0 n (e::es) t m)(hps:ps.length=n:=by rfl)(hdb:ND x:=by decide)(he:starEach (e::es) (BW X N scope cl C' s H fp pn).env=(false,eval e (BW X N scope cl C' s H fp pn).env)::starEach es (BW X N scope cl C' s H fp pn).env:=by rfl)(hpl:(backTo pos (starEach es (BW X N scope cl C' s H fp pn).env)).any (·.1)=false:=by rfl) :
  DE (BW X N scope cl C' s H fp pn) E0 (.Call (.Name x p) (e::es) [] pos) (G7 (spD X.K X.mg ps.length f) [] E0 t) (on f m) :=
 Ey C hr hn hg aD ha hps hdb he hpl
section
def all_range:∀bs:List Bool,((List.range bs.length).all λi=>bs.getD i true)=bs.all id
 | []=>rfl
 | b::r=>by
  rw [Dh,List.range_succ_eq_map,List.all_cons,List.all_map,List.all_cons,<-all_range r];rfl
def UL:∀(bs:List Bool) (its:List Value),Vals (bs.map V.bl) its->its=bs.map Value.bool
 | [],_,.nil=>rfl
 | b::r,_,.cons h t=>by
  cases h;rw [Bg,UL r _ t]
def rAll(K:W.Frag):List V->Hp->VK->Prop:=λb H Q=>∃(a:Addr) (bs:List Bool),b=[.ref a]/\SqL K H a (bs.map V.bl)/\Q (.bl (bs.all id)) H
def Ld(hc:X.calm=true):Dg X (.builtin "all") (rAll X.K):=by
 intro g s Y H y C Q I r h;obtain ⟨a,c,rfl,l,q⟩:=h;obtain ⟨u,rfl,m⟩:=vals1 r;cases m;obtain ⟨d,t,f,E⟩:=I.list l;obtain rfl:=UL c d t;have j:a<s.heap.objs.size:=by
  obtain ⟨o,_,p,_⟩:=f;exact BX p
 refine call_all_walk (La f.isList ?_);refine ⟨s.heap.objs.size,_,_,_,_,_,λi=>c.getD i true,rfl,Walks.list (A:=X.A.in1) (I.ok.hd hc) s.heap.objs.size a (Bm j) (c.map Value.bool).toArray,⟨⟨_,By _ rfl,rfl,rfl⟩,?_⟩,?_,λB G k=>?_⟩
 .exact f.isList.at λo e=>BJ _ e
 .intro i v x w D F n;have e:v=.bool (c.getD i true):=by
   grind
  subst e;exact Aj n
 .have e:(List.range (c.map Value.bool).toArray.size).all (λi=>c.getD i true)=c.all id:=by
   rw [GR,Ax];exact all_range c
  rw [e];exact ⟨.bl (c.all id),H,I.kept λb o z=>k b o (by simp;exact Bm (BX z)) (BJ _ z),rfl,q⟩
def UW{F:Hp}:∀{xs:List V} {ds:List D} {bs:List Bool},Rps K mg F xs ds->bools ds=.ok bs->xs=bs.map V.bl
 | _,_,_,.nil,e=>by cases e;rfl
 | _,_,bs,.cons (d:=d) (ds:=ds) h r,e=>by
  unfold bools at e;cases d with
  | bl b=>
   cases q:bools ds with
   | ok bs'=>
    simp only [q,Res.bind] at e;cases e;cases h;rw [Bg,UW r q]
   | bad=>simp only [q,Res.bind] at e;cases e
  | _=>cases e
def MF:CallD K mg (rAll K) bAll:=by
 intro E F H c f s r;unfold bAll;split
 .next d=>
  obtain ⟨x,rfl,b⟩:=r.one;cases d with
  | lst es=>
   cases b with
   | lst h rs=>
    show Ans mg E (Rp K mg) F H ((bools es).bind λa=>.ok (.bl (a.all id))) _;cases q:bools es with
    | ok a=>
     have e:=UW rs q;subst e;exact Ans.ret s (.bl _) λQ z=>⟨_,a,rfl,s.seq h,z⟩
    | bad=>trivial
  | _=>trivial
 .trivial
end
section
def yU(ha:SA K mg E t m)(hl:SAn n m)(hn:n<=sizeLine):SS K mg E (tAsg (tLst t) (Bs i)) (stO i (mls m)):=by
 intro d j F H Y Z a;have h:=ha d j F H Y Z a;unfold stO mls;cases e:m Z with
 | ok ds=>
  rw [e] at h;exact λD q=>h _ λc o l g b=>⟨by rw [b.length,hl Z ds e];exact hn,λp k=>q c _ _ g.f ((a.gr g).own i k b)⟩
 | bad=>trivial
end
section
variable {a b c' tg iter elt:Expr} {ts:List Expr} {ta tb tc:TE} {ma mb mc:ME} {sa sb:TT} {na nb:MB} {t:TA} {m:MA} {y:Str}
def bB(hN:X.N.Nodup)(hi:X.N[i]?=some x)(hx:Loc X.env.scope x)(ha:DA X E n es t m)(hn:n<=sizeLine:=by decide)(hs:swapsWith (.List es pos) (some (.Name x pos')) spos.line X.env=pure false:=by rfl)(hf:X.fn x=true\/X.env.scope.names.lookup x=some .local:=by first | exact .inl rfl | exact .inr rfl | assumption) :
  DS X E (.Assign [.Name x pos'] (.List es pos) spos) (tAsg (tLst t) (Bs i)) (stO i (mls m)):=⟨Hq hN hi hx (O6 ha.p) hs hf,yU ha.s ha.n hn⟩
def uD(i)(he:DE X E e te me)(hN:X.N[i]?=some x:=by rfl)(hv:CQ X.env.scope x:=by first | exact Or.inl rfl | exact Or.inr (Or.inl rfl) | exact Or.inr (Or.inr rfl))(hd:ND x:=by decide)(hcd:NE x:=by decide)(hbase:attributeBase (.Name x np) "append" X.env (eval (.Name x np) X.env)=eval (.Name x np) X.env:=by rfl) (hfew:((backTo cpos (starEach [e] X.env)).all (λx=>!x.1)&&(backToKw cpos (keywordEach [] X.env)).all (λx=>x.1.isSome)
   && decide ([e].length+([]:List Keyword).length+(if ([]:List Keyword).isEmpty then 0 else 1)<30))=true:=by rfl) (hline:(apos.endLine==cpos.line)=true:=by rfl) (hs:starEach [e] X.env=(false,eval e X.env)::starEach [] X.env:=by rfl) (hplain:(backTo cpos (starEach [] X.env)).any (·.1)=false:=by rfl) (hsw:swapsWith (.Call (.Attribute (.Name x np) "append" apos) [e] [] cpos) none spos.line X.env=pure false:=by rfl) :
  DS X E (.Expr (.Call (.Attribute (.Name x np) "append" apos) [e] [] cpos) spos) (Ep (tBM X.K "list" Ik (tVar i) (Bo te tNil))) (app i me) :=
 ⟨J0 (J5 LQ PySem.F.slot_list_append PySem.F.type_list_append Tv (Cr hN hv hd hcd) (Ea he.p Dv hs) hbase hfew hline hs hplain) hsw,
  tR he.s λH a b h=>.inl ⟨rfl,b,SqL.of h⟩⟩
end
end L2.Ds
namespace L2.Ds
open Dl
section
def del(F:Hp)(a:Addr):Hp:=λb=>if b=a then none else F b
def Gh{F:Hp}:del F a a=none:=iP rfl
def Ec{F:Hp}(h:b≠a):del F a b=F b:=iN h
def jF{F:Hp}(h:del F a b=some o):F b=some o:=by
 by_cases hb:b=a
 .subst hb;rw [Gh] at h;cases h
 .rw [Ec hb] at h;exact h
def Rep.look{F:Hp}(r:Rep K mg F0 H0 F H Y Z)(e:Z[i]?=some (.ow ds)) :
  ∃F',Rep K mg F0 H0 F' H Y (Z.set i (.im (.lst ds)))/\∀F1 H1,Gr F' H F1 H1->∃F2,Gr F H F2 H1:=by
 obtain ⟨a,t,p,C,v,L,I⟩:=r.ow i ds e;have h:Same F (upd F a (.lst t)):=Cp v _;refine ⟨upd F a (.lst t),⟨⟨r.g.f.trans h,λb o q=>?_,λb o d c=>?_,λb o u q=>r.g.z b o u (O3 (λ_ _ z=>by cases z) q)⟩,by rw [Eg];exact r.len,λj u q=>?_,λj m q=>?_,λj k m D b d c A w=>?_⟩,λF1 H1 g=>⟨del F1 a,⟨λb o q=>?_,λb o q=>?_,λb o d c=>?_,λb o u q=>O3 (λ_ _ z=>by cases z) (g.z b o u (jF q))⟩⟩⟩
 .by_cases hb:b=a
  .subst hb;rw [Ay] at q;lia
  .rw [Ai hb] at q;exact r.g.s b o q
 .rw [Ai (BP c C)];exact r.g.o b o d c
 .rcases Cm q with ⟨rfl,z,_⟩ | ⟨_,q⟩
  .cases z;exact ⟨.ref a,p,.lst (SqL.of Ay) (I.same h)⟩
  .obtain ⟨x,l,n⟩:=r.im j u q;exact ⟨x,l,n.same h⟩
 .rcases Cm q with ⟨_,z,_⟩ | ⟨hij,q⟩
  .cases z
  .obtain ⟨b,J,l,n,G,y,E⟩:=r.ow j m q;have B:b≠a:=by
    rintro rfl;exact hij (r.ne i j ds m b e q p l)
   exact ⟨b,J,l,n,by rw [Ai B];exact G,y,E.same h⟩
 .rcases Cm d with ⟨_,z,_⟩ | ⟨_,d⟩
  .cases z
  .rcases Cm c with ⟨_,z,_⟩ | ⟨_,c⟩
   .cases z
   .exact r.ne j k m D b d c A w
 .rw [Ec (BP q v)];exact g.f b o (h b o q)
 .by_cases hb:b=a
  .subst hb;rw [Gh] at q;cases q
  .rw [Ec hb] at q;exact g.s b o q
 .by_cases hb:b=a
  .subst hb;rw [L] at c;cases c;exact ⟨Gh,g.s _ _ (g.f _ _ Ay)⟩
  .rw [Ec hb];exact g.o b o (by rw [Ai hb];exact d) c
def jl{F:Hp}{x:V}(r:Rp K mg F x d)(e:JT d=.ok d'):Rp K mg F' x d':=by
 cases r with
 | non=>cases e;exact .non
 | bl b=>cases e;exact .bl b
 | int b=>cases e;exact .int b
 | str b=>cases e;exact .str b
 | _=>cases e
def sH(i)(h:SE K mg E t m):SE K mg E t (pk i m):=by
 intro j l F H Y Z n;unfold pk getO;split
 .next f e=>
  obtain ⟨p,s,a⟩:=n.look e;have z:=h j l p H Y _ s;show Ans mg E (Rp K mg) F H ((m (Z.set i (.im (.lst f)))).bind JT) _;cases em:m (Z.set i (.im (.lst f))) with
  | ok d=>
   rw [em] at z;show Ans mg E (Rp K mg) F H (JT d) _;cases es:JT d with
   | ok d'=>
    exact λQ q=>z Q λo c b g u=>by
     obtain ⟨k,r⟩:=a o c g;exact q k c b r (jl u es)
   | bad=>trivial
  | bad=>trivial
 .trivial
def ie(i)(h:STt K mg E t m):STt K mg E t (pkB i m):=by
 intro f g F H Y Z j;unfold pkB getO;split
 .next a e=>
  obtain ⟨k,l,c⟩:=j.look e;have z:=h f g k H Y _ l;show Ans mg E RB F H (m (Z.set i (.im (.lst a)))) _;cases em:m (Z.set i (.im (.lst a))) with
  | ok d=>
   rw [em] at z;exact λQ q=>z Q λp o b n r=>by
    grind
  | bad=>trivial
 .trivial
end
section
variable {l:Nat} {y:Str} {Cy:Addr} {f:List D->Res D} {t:TA} {m:MA} {u:Addr->TS} {b:MS} {p yp epos hpos:Pos} {b0:Stmt} {suite:List Stmt} {hits:List Str} {tt:TT} {mt:MB}
def SQ(i)(h:DE X E e te me):DE X E e te (pk i me):=⟨h.p,sH i h.s⟩
def ir(i)(h:DT X E e tt mt):DT X E e tt (pkB i mt):=⟨h.p,ie i h.s⟩
end
section
mutual
def bM(I:Inv X pins Y H s){x:V}{d d':PyData}(h:DV X.K H x d)(h':DV X.K H x d'):d=d':=by
 cases h with
 | non=>cases h';rfl
 | bl _=>cases h';rfl
 | int _=>cases h';rfl
 | str _=>cases h';rfl
 | tup h q=>
  cases h' with
  | tup h' q'=>
   have e:=I.tuple_inj h h';subst e;rw [Tq I q q']
  | lst h' q'=>
   obtain ⟨_,_,⟨o,g,f,_⟩,_⟩:=I.tuple h;obtain ⟨_,_,⟨c,_,a,b,_⟩,_⟩:=I.list h'
   lia
 | lst h q=>
  cases h' with
  | lst h' q'=>
   have e:=I.list_inj h h';subst e;rw [Tq I q q']
  | tup h' q'=>
   obtain ⟨_,_,⟨o,g,f,_⟩,_⟩:=I.tuple h';obtain ⟨_,_,⟨c,_,a,b,_⟩,_⟩:=I.list h
   lia
def Tq(I:Inv X pins Y H s){xs:List V}{ds ds':List PyData}(h:DVs X.K H xs ds)(h':DVs X.K H xs ds'):ds=ds':=by
 cases h with
 | nil=>cases h';rfl
 | cons h r=>
  cases h' with
  | cons h' r'=>rw [bM I h h',Tq I r r']
end
def hitE(X:Cx)(H:Hp)(dx:PyData)(u:Value):Bool:=@decide (∃y d,RelV y u/\DV X.K H y d/\PyData.eqv d dx=true) (Classical.propDecidable _)
def N5(I:Inv X pins Y H s){d:PyData}(r:RelV y u)(h:DV X.K H y d):hitE X H dx u=PyData.eqv d dx:=by
 unfold hitE;cases e:PyData.eqv d dx with
 | true=>grind
 | false=>
  refine @Bl _ (Classical.propDecidable _) ?_;rintro ⟨i,g,f,a,b⟩;have c:=r.inj f;subst c;rw [bM I h a,b] at e;cases e
def VM(I:Inv X pins Y H s):∀{ys:List V} {its:List Value} {ds:List PyData},Vals ys its->DVs X.K H ys ds->its.any (hitE X H dx)=ds.any λd=>PyData.eqv d dx
 | _,_,_,.nil,.nil=>rfl
 | _,_,_,.cons r1 r2,.cons h1 h2=>by rw [List.any_cons,List.any_cons,VM I r2 h2,N5 I r1 h1]
def S9(I:Inv X pins Y H s):∀{ys:List V} {its:List Value} {ds:List PyData} {u:Value},Vals ys its->DVs X.K H ys ds->PyData.canLayAll0 ds=true->u∈its->∃y d,RelV y u/\DV X.K H y d/\d.canLay0=true
 | _,_,_,_,.nil,.nil,_,hu=>by cases hu
 | _,_,_,u,.cons r1 r2,.cons h1 h2,hc,hu=>by
  have a:=(by simpa [PyData.canLayAll0] using hc);rcases Aq.mp hu with rfl | hu
  .grind
  .exact S9 I r2 h2 a.2 hu
def rInD(K:W.Frag)(f:Bool->Bool):R2:=λx y H Q=>∃a e c b,y=.ref a/\(SqL K H a e\/SqT K H a e)/\DV K H x c/\DVs K H e b/\c.canLay0=true/\PyData.canLayAll0 b=true/\c.depth<=50/\Q (.bl (f (b.any λd=>PyData.eqv d c))) H
end
section
def kZ(hu:X.A.units+64<cLine):OpR X (compareOp .NotIn) (rInD X.K not):=by
 intro k s Y H x y v u Q I r E h;obtain ⟨a,J,c,g,rfl,hq,p,i,G,o,M,q⟩:=h;cases E;obtain ⟨t,B⟩:=p.reads I r;have m:∀{b:List Value},Vals J b->∀u,u∈b.toArray->PySem.SeqAt.EqAt X.A.in1 s u v (hitE X H c u):=λ{b} f u w=>by
  obtain ⟨N,F,l,n,z⟩:=S9 I f i o (by simpa using w);obtain ⟨L,C⟩:=n.reads I l;rw [N5 I l n];exact PySem.SeqAt.eqAt_reads F c X.A.in1 s u v L t C B z G (by lia)
 rcases hq with hq | hq
 .obtain ⟨b,f,j,D⟩:=I.list hq;refine PySem.SeqAt.notIn_listAt (hitE X H c) j.isList (m f) ?_;have e:b.toArray.any (hitE X H c)=g.any λd=>PyData.eqv d c:=by rw [List.any_toArray];exact VM I f i
  rw [e];exact ⟨.bl _,H,I,rfl,q⟩
 .obtain ⟨b,f,j,D⟩:=I.tuple hq;refine PySem.SeqAt.notIn_tupleAt (hitE X H c) (j) (m f) ?_;have e:b.toArray.any (hitE X H c)=g.any λd=>PyData.eqv d c:=by rw [List.any_toArray];exact VM I f i
  rw [e];exact ⟨.bl _,H,I,rfl,q⟩
def cj(x)(k)(hx:Dl.plain k x=true):∀ys l,Dl.Bc l ys=true->((pyDs ys).any λd=>PyData.eqv d (pyD x))=inD x ys
 | [],_,_=>rfl
 | y::r,l,h=>by
  have a:Dl.plain l y=true/\Dl.Bc l r=true:=by simpa [Dl.Bc] using h
  show (PyData.eqv (pyD y) (pyD x)||(pyDs r).any _)=(eqD y x||inD x r);rw [cj x k hx r l a.2,<-Mj y x l k a.1 hx]
def zm{F:Hp}{x:V}(s:Same F H)(rx:Rp K mg F x dx)(ry:Rp K mg F y dy) :
  Ans mg E (Rp K mg) F H ((seqD dy).bind λys=>if Dl.plain 50 dx&&Dl.Bc 50 ys then .ok (.bl (f (inD dx ys))) else .bad) (rInD K f x y H):=by
 have c:∀a b ys,y=.ref a->(SqL K H a b\/SqT K H a b)->Rps K mg F b ys->Ans mg E (Rp K mg) F H (if Dl.plain 50 dx&&Dl.Bc 50 ys then .ok (.bl (f (inD dx ys))) else .bad) (rInD K f x y H):=by
  rintro a b ys rfl d j;by_cases hp:(Dl.plain 50 dx&&Dl.Bc 50 ys)=true
  .rw [iP hp];rw [Ln] at hp;obtain ⟨g,i⟩:=Hr dx 50 hp.1;obtain ⟨e,_⟩:=KH ys 50 hp.2;refine Ans.ret s (.bl _) λQ q=>⟨a,b,pyD dx,pyDs ys,rfl,d,IW s (JC rx hp.1),Kg s (Lh j hp.2),g,e,i,?_⟩;rw [cj dx 50 hp.1 ys 50 hp.2];exact q
  .rw [iN hp];trivial
 cases dy with
 | lst ys=>
  cases ry with
  | lst h r=>exact c _ _ ys rfl (.inl (s.seq h)) r
 | tup ys=>
  cases ry with
  | tup h r=>exact c _ _ ys rfl (.inr (Du s h)) r
 | _=>trivial
def qK:OpD K mg (rInD K not) dNin:=λ_ _ _ _ _ _ _ s a b=>zm (f:=not) s a b
variable{a b:Expr}{ta tb:TE}{ma mb:ME}
def Va(hr:Room k X.A)(ha:DE X E a ta ma)(hb:DE X E b tb mb)(hm:behindInMarks .NotIn b=false:=by rfl):DT X E (.Compare a [.NotIn] [b] pos) (Dz (tOp (rInD X.K not) ta tb)) (trb (o2 dNin ma mb)):=HF (kZ hr.units) qK ha hb hm
end
end L2.Ds
namespace Dl
def mLst(f:List D->D->Res D)(a b:ME):ME:=λZ=>(a Z).bind λx=>(lstO x).bind λc=>(b Z).bind λy=>f c y
def cntD(xs:List D)(y:D):Res D:=if (plain 50 y&&Bc 50 xs)=true then .ok (.int ((xs.countP λx=>eqD x y:Nat):Int)) else .bad
def idxD(xs:List D)(y:D):Res D:=if (plain 50 y&&Bc 50 xs)=true then (ofO (xs.findIdx? λx=>eqD x y)).bind λk=>.ok (.int k) else .bad
def ixP(n:Nat)(i:Int):Option Nat:=if 0<=i then (if i<n then some i.toNat else none) else if -(n:Int)<=i then some (i+n).toNat else none
def ext(i:Nat)(e:ME):MS:=λZ=>(getO Z[i]?).bind λb=>(e Z).bind λd=>(lstO d).bind λa=>if b.length+a.length<=LIM then .ok (.nx (Z.set i (.ow (b++a)))) else .bad
def bAny:List D->Res D
 | [d]=>match d with
  | .lst xs=>(bools xs).bind λa=>.ok (.bl (a.any id))
  | _=>.bad
 | _=>.bad
end Dl
namespace L2.Ds
open Dl
section
def V7(I:Inv X pins Y H s):∀{ys:List V} {its:List Value} {ds:List PyData},Vals ys its->DVs X.K H ys ds->∀(m:Nat) (u:Value),its[m]?=some u->∃d,ds[m]?=some d/\hitE X H dx u=PyData.eqv d dx
 | _,_,_,.nil,.nil,_,_,e=>by simp at e
 | _,_,_,.cons r1 r2,.cons h1 h2,0,u,e=>by
  simp at e;subst e;exact ⟨_,rfl,N5 I r1 h1⟩
 | _,_,_,.cons r1 r2,.cons h1 h2,m+1,u,e=>by
  obtain ⟨d,b,a⟩:=V7 I r2 h2 m u (by trivial);exact ⟨d,by trivial,a⟩
def cI(I:Inv X pins Y H s):∀{ys:List V} {its:List Value} {ds:List PyData},Vals ys its->DVs X.K H ys ds->its.countP (hitE X H dx)=ds.countP λd=>PyData.eqv d dx
 | _,_,_,.nil,.nil=>rfl
 | _,_,_,.cons r1 r2,.cons h1 h2=>by rw [List.countP_cons,List.countP_cons,cI I r2 h2,N5 I r1 h1]
def Yu:∀{ys:List V} {ds:List PyData},DVs K H ys ds->ys.length=ds.length
 | _,_,.nil=>rfl
 | _,_,.cons _ r=>CP (·+1) (Yu r)
def Ve(K:W.Frag):V->List V->Hp->VK->Prop:=λx f H Q=>∃a e y c b,x=.ref a/\f=[y]/\SqL K H a e/\DV K H y c/\DVs K H e b/\c.canLay0=true/\PyData.canLayAll0 b=true/\c.depth<=50/\Q (.int ((b.countP λd=>PyData.eqv d c:Nat):Int)) H
def At1(dys:List PyData)(dy:PyData)(j:Nat):Prop:=(∃d,dys[j]?=some d/\PyData.eqv d dy=true)/\∀m,m<j->∃d,dys[m]?=some d/\PyData.eqv d dy=false
def Uq(K:W.Frag):V->List V->Hp->VK->Prop:=λx e H Q=>∃a d y c b j,x=.ref a/\e=[y]/\SqL K H a d/\DV K H y c/\DVs K H d b/\c.canLay0=true/\PyData.canLayAll0 b=true/\c.depth<=50/\At1 b c j/\Q (.int j) H
def cZ(I:Inv X pins Y H s)(hu:X.A.units+64<cLine)(ry:RelV y u)(h1:DV X.K H y dy)(h2:DVs X.K H ys dys)(h3:dy.canLay0=true)(h4:PyData.canLayAll0 dys=true)(h5:dy.depth<=50)(rv:Vals ys its) :
  ∀v,v∈its.toArray->PySem.SeqAt.EqAt X.A.in1 s v u (hitE X H dy v):=λv d=>by
 obtain ⟨i,h⟩:=h1.reads I ry;obtain ⟨j,f,a,b,g⟩:=S9 I rv h2 h4 (by simpa using d);obtain ⟨c,e⟩:=b.reads I a;rw [N5 I a b];exact PySem.SeqAt.eqAt_reads f dy X.A.in1 s v u c i e h g h3 (by lia)
def Zs1(I:Inv X pins Y H s){its:List Value}(h2:DVs X.K H ys dys)(rv:Vals ys its)(h:At1 dys dy j) :
  ∃hj:j<its.toArray.size,hitE X H dy its.toArray[j]=true/\∀m (hm:m<its.toArray.size),m<j->hitE X H dy its.toArray[m]=false:=by
 obtain ⟨⟨d,i,n⟩,l⟩:=h;have hj:j<dys.length:=(Gk.mp i).1;have k:=rv.length;have c:=Yu h2;have a:j<its.toArray.size:=by simp_all
 refine ⟨a,?_,λm hm g=>?_⟩
 .obtain ⟨e,f,b⟩:=V7 I rv h2 (dx:=dy) j its.toArray[j] (by simp_all)
  lia
 .obtain ⟨e,f,b⟩:=V7 I rv h2 (dx:=dy) m its.toArray[m] (by simp_all)
  grind
end
section
def mX(ad)(arr)(cap)(bd)(brr)(bcap)(bsl)(short:¬(!arr.isEmpty&&Builtin.List.listTooLong (arr.size+brr.size))=true)(le1:arr.size<=sizeLine)(le2:arr.size+brr.size<=sizeLine+1) :
  Meets (Builtin.«list.extend» ⟨[.ref ad,.ref bd],[]⟩) (λ_ R s=>s.heap.get? ad=some { cls:=.type "list",dict:=none,data:=.seq arr cap,slots:=#[] }/\s.heap.get? bd=some { cls:=.type "list",dict:=none,data:=.seq brr bcap,slots:=bsl }/\R (.ok (.ret Value.none)) { s with heap:=s.heap.update ad (Obj.mapSeq λzs=>zs++brr),toks:=s.toks }) :=
 .of_wp λd w A R s h=>by
  obtain ⟨l,o,f,i,n⟩:=s;obtain ⟨a,c,e⟩:=h;have g:=PySem.AutoSeq1.idx_int;have p:=PySem.AutoSeq1.sub_tuple_tuple;have m:=PySem.AutoSeq1.sub_list_list;have j:=PySem.AutoSeq1.sub_tuple_list;have k:=PySem.AutoSeq1.sub_list_tuple;have b:(arr++brr).size<=sizeLine+1:=by simp_all
  wp_walk using (wpAny_updateSeq a rfl (hz:=le1) (_hz':=b)),wpAny_loadPart' a,wpAny_loadPart' c
  lia
def K3(K:W.Frag):V->List V->Hp->VK->Prop:=λx d H Q=>∃l b a c,x=.ref l/\d=[.ref b]/\H l=some (.lst a)/\SqL K H b c/\a.length+c.length<=sizeLine/\Q .non (upd H l (.lst (a++c)))
def gk:MtR X "list.extend" (K3 X.K):=by
 intro g s Y H x G v O Q I w D h;obtain ⟨l,b,L,R,rfl,rfl,j,B,P,q⟩:=h;cases w;obtain ⟨u,rfl,m⟩:=D.one;cases m;obtain ⟨z,c,n,r,S,e⟩:=I.lstM j;obtain ⟨a,i,⟨o,C,y,E,t,A⟩,N⟩:=I.list B;obtain ⟨M,T,J,k⟩:=o;cases E;cases t;cases A;have p:=i.length;have f:c.toArray.size+a.toArray.size<=sizeLine:=by simp_all
 have d:¬(!c.toArray.isEmpty&&Builtin.List.listTooLong (c.toArray.size+a.toArray.size))=true:=by
  rw [Zpy f,Bool.and_false];trivial
 refine HB PySem.F.slot_list_extend ⟨_,e,rfl⟩ PySem.F.entry_list_extend (PySem.F.args_list_extend_2 _ _) (mX l c.toArray n b a.toArray C k d (by lia) (by omega)) ⟨e,y,?_⟩;refine ⟨.non,_,I.lset (its':=c++a) j e (by simp) (r.append i) ?_,rfl,q⟩;simp_all
def tZ(hu:X.A.units+64<cLine):MtR X "list.count" (Ve X.K):=by
 intro g s Y H x J v N Q I t D h;obtain ⟨a,R,y,c,f,rfl,rfl,B,r,i,E,l,w,q⟩:=h;cases t;obtain ⟨u,rfl,m⟩:=D.one;obtain ⟨b,j,⟨o,n,e,G,p,C⟩,O⟩:=I.list B;obtain ⟨M,P,L,k⟩:=o;cases G;cases p;cases C;refine HB PySem.F.slot_list_count ⟨_,e,rfl⟩ PySem.F.entry_list_count (PySem.F.args_list_count_2 _ _) (PySem.SeqAt.list_countAt a b.toArray n none k u (hitE X H c)) ⟨e,cZ I hu m r i E l w j,?_⟩;have z:b.toArray.toList.countP (hitE X H c)=f.countP λd=>PyData.eqv d c:=cI I j i;rw [z];exact ⟨.int _,H,I.tok _,⟨_,rfl⟩,q⟩
def Zm2(hu:X.A.units+64<cLine):MtR X "list.index" (Uq X.K):=by
 intro i s Y H x O v T Q I w L h;obtain ⟨a,Z,y,B,J,j,rfl,rfl,C,t,k,M,m,z,G,q⟩:=h;cases w;obtain ⟨u,rfl,p⟩:=L.one;obtain ⟨b,f,⟨o,n,e,N,r,D⟩,U⟩:=I.list C;obtain ⟨R,W,P,l⟩:=o;cases N;cases r;cases D;obtain ⟨E,g,d⟩:=Zs1 I k f G;have c:(j:Int)<2^63 - 1:=by
  have S:=Lq;have V:=f.length
  grind
 refine HB PySem.F.slot_list_index ⟨_,e,rfl⟩ PySem.F.entry_list_index (PySem.F.args_list_index_2 _ _) (PySem.SeqAt.list_indexAt a b.toArray n none l u (hitE X H B) j E c g d) ⟨e,cZ I hu p t k M m z f,?_⟩;exact ⟨.int _,H,I.tok _,⟨_,rfl⟩,q⟩
end
section
variable {ta tb:TE} {ma mb:ME} {F:Hp}
def bZ(x)(k)(hx:Dl.plain k x=true):∀ys l,Dl.Bc l ys=true->((pyDs ys).countP λd=>PyData.eqv d (pyD x))=ys.countP λy=>eqD y x
 | [],_,_=>rfl
 | y::r,l,h=>by
  have a:Dl.plain l y=true/\Dl.Bc l r=true:=by simpa [Dl.Bc] using h
  show (pyD y::pyDs r).countP _=_;rw [List.countP_cons,List.countP_cons,bZ x k hx r l a.2,<-Mj y x l k a.1 hx]
def Vb(x)(k)(hx:Dl.plain k x=true):∀(ys:List D) (l:Nat),Dl.Bc l ys=true->∀(m:Nat) (y:D),ys[m]?=some y->∃d,(pyDs ys)[m]?=some d/\PyData.eqv d (pyD x)=eqD y x
 | [],_,_,_,_,e=>by simp at e
 | z::r,l,h,0,y,e=>by
  have a:Dl.plain l z=true/\Dl.Bc l r=true:=by simpa [Dl.Bc] using h
  simp at e;subst e;exact ⟨pyD z,rfl,(Mj z x l k a.1 hx).symm⟩
 | z::r,l,h,m+1,y,e=>by
  have a:Dl.plain l z=true/\Dl.Bc l r=true:=by simpa [Dl.Bc] using h
  obtain ⟨d,c,b⟩:=Vb x k hx r l a.2 m y (by trivial);exact ⟨d,by trivial,b⟩
def Ztw{x:D}{ys:List D}(hx:Dl.plain 50 x=true)(hy:Dl.Bc 50 ys=true)(e:(ys.findIdx? λy=>eqD y x)=some j):At1 (pyDs ys) (pyD x) j:=by
 obtain ⟨b,g,h⟩:=List.findIdx?_eq_some_iff_getElem.mp e;refine ⟨?_,λm f=>?_⟩
 .obtain ⟨d,c,a⟩:=Vb x 50 hx ys 50 hy j ys[j] (Bk b);simp_all
 .obtain ⟨d,c,a⟩:=Vb x 50 hx ys 50 hy m ys[m] (Bk (by omega));simp_all
def cH(hf:∀F H a ws ys y dy,Same F H->SqL K F a ws->Rps K mg F ws ys->Rp K mg F y dy->Ans mg E (Rp K mg) F H (f ys dy) (r (.ref a) [y] H))(ha:SE K mg E ta ma)(hb:SE K mg E tb mb):SE K mg E (tBM K "list" r ta (Bo tb tNil)) (mLst f ma mb):=by
 intro i j F H Y Z l;refine (ha i j F H Y Z l).bind λm g x u e o=>?_;cases u with
 | lst ys=>
  cases o with
  | lst h q=>
   show Ans mg E (Rp K mg) m g ((mb Z).bind λy=>f ys y) _;have w:=(hb i j m g Y Z (l.gr e)).bind (k:=λy=>f ys y) (w':=λy b Q=>r (.ref _) [y] b Q) λn b y dy c p=>hf n b _ _ ys y dy c.s (c.f.seq h) (q.same c.f) p;generalize ((mb Z).bind λy=>f ys y)=res at w;cases res with
   | ok d=>exact λQ t=>⟨.inl ⟨rfl,_,e.s.seq h⟩,w Q t⟩
   | bad=>trivial
 | _=>trivial
def kO(F H)(a)(ws)(ys)(y)(dy)(s:Same F H)(h:SqL K F a ws)(q:Rps K mg F ws ys)(ry:Rp K mg F y dy):Ans mg E (Rp K mg) F H (cntD ys dy) (Ve K (.ref a) [y] H):=by
 unfold cntD;by_cases hp:(Dl.plain 50 dy&&Dl.Bc 50 ys)=true
 .rw [iP hp];rw [Ln] at hp;obtain ⟨e,b⟩:=Hr dy 50 hp.1;obtain ⟨c,_⟩:=KH ys 50 hp.2;refine Ans.ret s (.int _) λQ d=>⟨a,ws,y,pyD dy,pyDs ys,rfl,rfl,s.seq h,IW s (JC ry hp.1),Kg s (Lh q hp.2),e,c,b,?_⟩;rw [bZ dy 50 hp.1 ys 50 hp.2];exact d
 .rw [iN hp];trivial
def j0(F H)(a)(ws)(ys)(y)(dy)(s:Same F H)(h:SqL K F a ws)(q:Rps K mg F ws ys)(ry:Rp K mg F y dy):Ans mg E (Rp K mg) F H (idxD ys dy) (Uq K (.ref a) [y] H):=by
 unfold idxD;by_cases hp:(Dl.plain 50 dy&&Dl.Bc 50 ys)=true
 .rw [iP hp];rw [Ln] at hp;obtain ⟨f,b⟩:=Hr dy 50 hp.1;obtain ⟨c,_⟩:=KH ys 50 hp.2;cases e:ys.findIdx? λx=>eqD x dy with
  | none=>trivial
  | some j=>exact Ans.ret (R:=Rp K mg) s (.int _) λQ d=>⟨a,ws,y,pyD dy,pyDs ys,j,rfl,rfl,s.seq h,IW s (JC ry hp.1),Kg s (Lh q hp.2),f,c,b,Ztw hp.1 hp.2 e,d⟩
 .rw [iN hp];trivial
def Rep.put{es:List D}(r:Rep K mg F0 H0 F H Y Z)(e:Z[i]?=some (.ow ds))(e2:Y[i]?=some (some (.ref a)))(e3:H a=some (.lst xs))(e4:H0 a=none)(e5:F a=none)(hr:Rps K mg F ys es) :
  Rep K mg F0 H0 F (upd H a (.lst ys)) Y (Z.set i (.ow es)):=by
 refine ⟨⟨r.g.f,λb o q=>?_,λb o p h=>?_,r.g.z⟩,by rw [Eg];exact r.len,λj u q=>?_,λj es q=>?_,λj k es C b p h B v=>?_⟩
 .rw [Ai (BP q e5)];exact r.g.s b o q
 .rw [Ai (BP h e4)];exact r.g.o b o p h
 .rcases Cm q with ⟨_,z,_⟩ | ⟨_,q⟩
  .cases z
  .exact r.im j u q
 .rcases Cm q with ⟨rfl,z,l⟩ | ⟨hij,q⟩
  .cases z;exact ⟨a,_,e2,e4,e5,Ay,hr⟩
  .obtain ⟨b,ys,n,A,y,t,x⟩:=r.ow j es q;have w:b≠a:=by
    rintro rfl;exact hij (r.ne i j ds es b e q e2 n)
   exact ⟨b,ys,n,A,y,by rw [Ai w];exact t,x⟩
 .have d:∃c,Z[j]?=some (.ow c):=by
   grind
  have m:∃c,Z[k]?=some (.ow c):=by
   grind
  obtain ⟨_,d⟩:=d;obtain ⟨_,m⟩:=m;exact r.ne j k _ _ b d m B v
def jM(ha:SE K mg E ta ma):SS K mg E (Ep (tBM K "list" (K3 K) (tVar i) (Bo ta tNil))) (ext i ma):=by
 intro p r F H Y Z m;unfold ext getO;split
 .next c e=>
  obtain ⟨a,w,v,J,L,C,A⟩:=m.ow i c e;have h:=(ha p r F H Y Z m).stm (K:=K) (k:=λd=>(lstO d).bind λb=>if c.length+b.length<=LIM then Res.ok (Fl.nx (Z.set i (.ow (c++b)))) else .bad) (w':=λx n D=>K3 K (.ref a) [x] n λ_ u=>D.nx Y u) m.g λd _ B N x l I=>?_
  .have j:∀D,(ta Y H λx n=>K3 K (.ref a) [x] n λ_ u=>D.nx Y u)->Ep (tBM K "list" (K3 K) (tVar i) (Bo ta tNil)) D Y H:=λD z=>⟨.ref a,v,.inl ⟨rfl,w,SqL.of C⟩,z⟩;show AnsS K mg E p r F ((ma Z).bind λd=>(lstO d).bind λb=>if c.length+b.length<=LIM then Res.ok (Fl.nx (Z.set i (.ow (c++b)))) else .bad) _
   generalize ((ma Z).bind λd=>(lstO d).bind λb=>if c.length+b.length<=LIM then Res.ok (Fl.nx (Z.set i (.ow (c++b)))) else .bad)=res at h
   cases res with
   | ok f=>
    cases f with
    | nx Z=>exact λD q=>j D (h D q)
    | bk Z=>exact λD q=>j D (h D q)
    | ct Z=>exact λD q=>j D (h D q)
    | rt d=>exact λD q=>j D (h D q)
   | bad=>trivial
  .cases d with
   | lst b=>
    cases I with
    | lst hb rb=>
     show AnsS K mg E p r B (if c.length+b.length<=LIM then Res.ok (Fl.nx (Z.set i (.ow (c++b)))) else .bad) _
     by_cases hl:c.length+b.length<=LIM
     .rw [iP hl];have G:=m.gr l;obtain ⟨M,y⟩:=l.o a _ L C;have t:=A.same l.f;exact λD q=>⟨a,_,w,_,rfl,rfl,y,l.s.seq hb,by rw [A.length,rb.length];exact An hl (by decide),q B _ Y (Same.refl _) (G.put e v y J M (Rps.app rb t))⟩
     .rw [iN hl];trivial
   | _=>trivial
 .trivial
end
section
variable {o k' a b c' d':Expr} {to tk ta tb tc td:TE} {mo mk ma mb mc md:ME} {np apos spos':Pos}
def fX(hr:Room k X.A)(ho:DE X E o to mo)(he:DE X E e te me)(hbase:attributeBase o "count" X.env (eval o X.env)=eval o X.env:=by rfl) (hfew:((backTo cpos (starEach [e] X.env)).all (λx=>!x.1)&&(backToKw cpos (keywordEach [] X.env)).all (λx=>x.1.isSome)
   && decide ([e].length+([]:List Keyword).length+(if ([]:List Keyword).isEmpty then 0 else 1)<30))=true:=by rfl) (hline:(apos.endLine==cpos.line)=true:=by rfl) (hs:starEach [e] X.env=(false,eval e X.env)::starEach [] X.env:=by rfl) (hplain:(backTo cpos (starEach [] X.env)).any (·.1)=false:=by rfl) :
  DE X E (.Call (.Attribute o "count" apos) [e] [] cpos) (tBM X.K "list" (Ve X.K) to (Bo te tNil)) (mLst cntD mo me) :=
 ⟨J5 LQ PySem.F.slot_list_count PySem.F.type_list_count (tZ hr.units) ho.p (Ea he.p Dv hs) hbase hfew hline hs hplain,cH kO ho.s he.s⟩
def vg(hr:Room k X.A)(ho:DE X E o to mo)(he:DE X E e te me)(hbase:attributeBase o "index" X.env (eval o X.env)=eval o X.env:=by rfl) (hfew:((backTo cpos (starEach [e] X.env)).all (λx=>!x.1)&&(backToKw cpos (keywordEach [] X.env)).all (λx=>x.1.isSome)
   && decide ([e].length+([]:List Keyword).length+(if ([]:List Keyword).isEmpty then 0 else 1)<30))=true:=by rfl) (hline:(apos.endLine==cpos.line)=true:=by rfl) (hs:starEach [e] X.env=(false,eval e X.env)::starEach [] X.env:=by rfl) (hplain:(backTo cpos (starEach [] X.env)).any (·.1)=false:=by rfl) :
  DE X E (.Call (.Attribute o "index" apos) [e] [] cpos) (tBM X.K "list" (Uq X.K) to (Bo te tNil)) (mLst idxD mo me) :=
 ⟨J5 LQ PySem.F.slot_list_index PySem.F.type_list_index (Zm2 hr.units) ho.p (Ea he.p Dv hs) hbase hfew hline hs hplain,cH j0 ho.s he.s⟩
def xf(i)(he:DE X E e te me)(hN:X.N[i]?=some x:=by rfl)(hv:CQ X.env.scope x:=by first | exact Or.inl rfl | exact Or.inr (Or.inl rfl) | exact Or.inr (Or.inr rfl))(hd:ND x:=by decide)(hcd:NE x:=by decide)(hbase:attributeBase (.Name x np) "extend" X.env (eval (.Name x np) X.env)=eval (.Name x np) X.env:=by rfl) (hfew:((backTo cpos (starEach [e] X.env)).all (λx=>!x.1)&&(backToKw cpos (keywordEach [] X.env)).all (λx=>x.1.isSome)
   && decide ([e].length+([]:List Keyword).length+(if ([]:List Keyword).isEmpty then 0 else 1)<30))=true:=by rfl) (hline:(apos.endLine==cpos.line)=true:=by rfl) (hs:starEach [e] X.env=(false,eval e X.env)::starEach [] X.env:=by rfl) (hplain:(backTo cpos (starEach [] X.env)).any (·.1)=false:=by rfl) (hsw:swapsWith (.Call (.Attribute (.Name x np) "extend" apos) [e] [] cpos) none spos.line X.env=pure false:=by rfl) :
  DS X E (.Expr (.Call (.Attribute (.Name x np) "extend" apos) [e] [] cpos) spos) (Ep (tBM X.K "list" (K3 X.K) (tVar i) (Bo te tNil))) (ext i me) :=
 ⟨J0 (J5 LQ PySem.F.slot_list_extend PySem.F.type_list_extend gk (Cr hN hv hd hcd) (Ea he.p Dv hs) hbase hfew hline hs hplain) hsw,jM he.s⟩
end
section
def any_range:∀bs:List Bool,((List.range bs.length).any λi=>bs.getD i false)=bs.any id
 | []=>rfl
 | b::r=>by
  rw [Dh,List.range_succ_eq_map,List.any_cons,List.any_map,List.any_cons,<-any_range r];rfl
def rAny(K:W.Frag):List V->Hp->VK->Prop:=λb H Q=>∃(a:Addr) (bs:List Bool),b=[.ref a]/\SqL K H a (bs.map V.bl)/\Q (.bl (bs.any id)) H
def ZmW(hc:X.calm=true):Dg X (.builtin "any") (rAny X.K):=by
 intro g s Y H y C Q I r h;obtain ⟨a,c,rfl,l,q⟩:=h;obtain ⟨u,rfl,m⟩:=vals1 r;cases m;obtain ⟨d,t,f,E⟩:=I.list l;obtain rfl:=UL c d t;have j:a<s.heap.objs.size:=by
  obtain ⟨o,_,p,_⟩:=f;exact BX p
 refine call_any_walk (La f.isList ?_);refine ⟨s.heap.objs.size,_,_,_,_,_,λi=>c.getD i false,rfl,Walks.list (A:=X.A.in1) (I.ok.hd hc) s.heap.objs.size a (Bm j) (c.map Value.bool).toArray,⟨⟨_,By _ rfl,rfl,rfl⟩,?_⟩,?_,λB G k=>?_⟩
 .exact f.isList.at λo e=>BJ _ e
 .intro i v x w D F n;have e:v=.bool (c.getD i false):=by
   grind
  subst e;exact Aj n
 .have e:(List.range (c.map Value.bool).toArray.size).any (λi=>c.getD i false)=c.any id:=by
   rw [GR,Ax];exact any_range c
  rw [e];exact ⟨.bl (c.any id),H,I.kept λb o z=>k b o (by simp;exact Bm (BX z)) (BJ _ z),rfl,q⟩
def z8:CallD K mg (rAny K) bAny:=by
 intro E F H c f s r;unfold bAny;split
 .next d=>
  obtain ⟨x,rfl,b⟩:=r.one;cases d with
  | lst es=>
   cases b with
   | lst h rs=>
    show Ans mg E (Rp K mg) F H ((bools es).bind λa=>.ok (.bl (a.any id))) _;cases q:bools es with
    | ok a=>
     have e:=UW rs q;subst e;exact Ans.ret s (.bl _) λQ z=>⟨_,a,rfl,s.seq h,z⟩
    | bad=>trivial
  | _=>trivial
 .trivial
def nj:bootBuiltins "any"=some (.builtin "any"):=by decide +kernel
end
end L2.Ds
namespace L2.Ds
open PySem.Calls Dl
def GTup(K:W.Frag)(mg:Str->Option Value)(x:Str)(ns:List Int):Prop:=∃a o b n,mg x=some (.ref a)/\K.lookup a=some o/\o.cls=.type "tuple"/\o.data=.seq b n/\b.size<=sizeLine/\Vals (ns.map V.int) b.toList
def Xv{F:Hp}:∀ns:List Int,Rps K mg F (ns.map V.int) (ns.map D.int)
 | []=>.nil
 | n::r=>.cons (.int n) (Xv r)
section
variable {a b c tg:Expr} {t:TA} {m:MA} {tb:TE} {mb:ME} {p lpos:Pos}
def Xz{ns:List Int}{A:Addr}{o:Obj}{its:Array Value}(hg:Gl X x)(hm:X.mg x=some (.ref A))(h1:X.K.lookup A=some o)(h2:o.cls=.type "tuple")(h3:o.data=.seq its n)(h4:its.size<=sizeLine)(h5:Vals (ns.map V.int) its.toList)(hd:ND x:=by decide) :
  DE X E (.Name x pos) (tC (.ref A)) (Dl.c (.tup (ns.map .int))):=⟨Lx hg hm rfl hd,se_c λ_=>.tup (.inr ⟨o,its,n,h1,h2,h3,h4,h5⟩) (Xv ns)⟩
end
end L2.Ds
namespace L2.Ds
open PySem.Calls Dl
def AnsK(i:Nat)(Y:St)(K:W.Frag)(mg:Str->Option Value)(E:XK)(F0 H0 F:Hp)(r:Res Fl)(w:Ends->Prop):Prop :=
 match r with
 | .ok (.nx Z)=>∀D,(∀a b c,Same F a->Rep K mg F0 H0 a b c Z->c[i]?=Y[i]?->D.nx c b)->w D
 | .ok (.bk Z)=>∀D,(∀a b c,Same F a->Rep K mg F0 H0 a b c Z->c[i]?=Y[i]?->D.bk c b)->w D
 | .ok (.ct Z)=>∀D,(∀a b c,Same F a->Rep K mg F0 H0 a b c Z->c[i]?=Y[i]?->D.ct c b)->w D
 | .ok (.rt d)=>∀D,(∀a b x,Gr F0 H0 a b->Rp K mg a x d->D.rt x b)->w D
 | .bad=>True
def SSk(i:Nat)(K:W.Frag)(mg:Str->Option Value)(E:XK)(t:TS)(m:MS):Prop:=∀a b F H Y Z,Rep K mg a b F H Y Z->AnsK i Y K mg E a b F (m Z) (λD=>t D Y H)
section
variable {F:Hp} {ta:TE} {ma:ME}
def AnsK.mono{w:Ends->Prop}(s:Same F F1)(h:AnsK i Y K mg E F0 H0 F1 r w):AnsK i Y K mg E F0 H0 F r w:=by
 cases r with
 | ok f=>
  cases f with
  | nx Z=>exact λD q=>h D λa e g b c=>q a e g (s.trans b) c
  | bk Z=>exact λD q=>h D λa e g b c=>q a e g (s.trans b) c
  | ct Z=>exact λD q=>h D λa e g b c=>q a e g (s.trans b) c
  | rt d=>exact h
 | bad=>trivial
def Ans.stmK{α β:Type}{R:Hp->β->α->Prop}{r:Res α}{w:(β->Hp->Prop)->Prop}{k:α->Res Fl}{w':β->Hp->Ends->Prop}(h1:Ans mg E R F H r w)(g0:Gr F0 H0 F H)(h2:∀a,r=.ok a->∀F1 H1 b,Gr F H F1 H1->R F1 b a->AnsK i Y K mg E F0 H0 F1 (k a) (w' b H1)) :
  AnsK i Y K mg E F0 H0 F (r.bind k) (λD=>w λb H1=>w' b H1 D):=by
 cases r with
 | ok a=>
  show AnsK i Y K mg E F0 H0 F (k a) _;have c:=λF1 H1 b (g:Gr F H F1 H1) q=>(h2 a rfl F1 H1 b g q).mono g.f;generalize k a=r2 at c;cases r2 with
  | ok f=>
   cases f with
   | nx Z=>exact λD q=>h1 _ λF1 H1 b g e=>c F1 H1 b g e D q
   | bk Z=>exact λD q=>h1 _ λF1 H1 b g e=>c F1 H1 b g e D q
   | ct Z=>exact λD q=>h1 _ λF1 H1 b g e=>c F1 H1 b g e D q
   | rt d=>exact λD q=>h1 _ λF1 H1 b g e=>c F1 H1 b g e D q
  | bad=>trivial
 | bad=>trivial
def wF(hj:j≠i)(ha:SE K mg E ta ma):SSk i K mg E (tAsg ta (Bs j)) (st j ma):=by
 intro e f F H Y Z a;exact (ha e f F H Y Z a).stmK a.g λd _ k c x b h=>λD q=>q k c _ (Same.refl _) ((a.gr b).set j h) (FP hj)
end
structure DSk(X:Cx)(i:Nat)(E:XK)(st:Stmt)(t:TS)(m:MS):Prop where
 p:PS X st t
 s:SSk i X.K X.mg E t m
structure DSsk(X:Cx)(i:Nat)(E:XK)(st:List Stmt)(t:TS)(m:MS):Prop where
 p:PSs X st t
 s:SSk i X.K X.mg E t m
section
variable {c' tg:Expr} {sa:TT} {na:MB} {y:Str} {ipos tpos:Pos}
def MN(hN:X.N.Nodup)(hi:X.N[j]?=some x)(hx:Loc X.env.scope x)(hj:j≠i)(he:DE X E e te me)(hs:swapsWith e (some (.Name x pos')) spos.line X.env=pure false:=by rfl)(hf:X.fn x=true\/X.env.scope.names.lookup x=some .local:=by first | exact .inl rfl | exact .inr rfl | assumption) :
  DSk X i E (.Assign [.Name x pos'] e spos) (tAsg te (Bs j)) (st j me):=⟨Hq hN hi hx he.p hs hf,wF hj he.s⟩
def fY{st:Stmt}{u:TS}{k:MS}(h:DSk X i E st u k):DSsk X i E [st] u k:=⟨FQ h.p,h.s⟩
end
end L2.Ds
namespace Dl
def dFld(cs:List Str)(f:Str):D->Res D
 | .ins c ns vs=>if cs.contains c=true then ofO ((ns.zip vs).lookup f) else .bad
 | _=>.bad
def badS:MS:=λ_=>.bad
end Dl
namespace L2.Ds
open Dl
def Ca(K:W.Frag)(mg:Str->Option Value)(cs:List Str)(f:Str):Prop:=∀c,cs.contains c=true->∀C,mg c=some (.ref C)->Cls K C/\Gg K C f
def rFld(K:W.Frag)(f:Str):V->Hp->VK->Prop:=λx H Q=>∃a C c b v,x=.ref a/\H a=some (.ins C c b)/\Cls K C/\Gg K C f/\b.lookup f=some v/\Q v H
section
def dR{F:Hp}:∀{fs:List (Str×V)} {vs:List D},Rps K mg F (fs.map (·.2)) vs->((fs.map (·.1)).zip vs).lookup f=some d->∃v,fs.lookup f=some v/\Rp K mg F v d
 | [],_,_,e=>by simp at e
 | (n,x)::r,[],q,_=>nomatch q
 | (n,x)::r,d0::vs,.cons h q,e=>by
  rw [Bg,List.zip_cons_cons,Li] at e;rw [Li];cases z:f==n with
  | true=>
   lia
  | false=>
   rw [show (f==(n,x).fst)=false from z] at e;exact dR q e
def ZsS(T:Ca K mg cs f):UnD K mg (rFld K f) (dFld cs f):=by
 intro E F H x b s l;cases b with
 | ins c ns vs=>
  show Ans mg E (Rp K mg) F H (if cs.contains c=true then ofO ((ns.zip vs).lookup f) else .bad) _
  by_cases hc:cs.contains c=true
  .rw [iP hc];cases l with
   | @ins _ C a b fs xs _ m h o e r=>
    subst e;cases q:((fs.map (·.1)).zip vs).lookup f with
    | none=>trivial
    | some d=>
     obtain ⟨v,j,i⟩:=dR r q;obtain ⟨g,k⟩:=T c hc C m;exact .ret s i λQ z=>⟨a,C,b,fs,v,rfl,s _ _ h,g,k,j,z⟩
  .rw [iN hc];trivial
 | _=>trivial
end
def Ol(T:Ca X.K X.mg cs f)(he:DE X E e te me)(hb:attributeBase e f X.env (eval e X.env)=eval e X.env:=by rfl) :
  DE X E (.Attribute e f pos) (tFld X.K te f) (o1 (dFld cs f) me):=⟨Zm he.p hb,cO (ZsS T) he.s⟩
def CN:DSs X E sts (λ_ _ _=>False) badS:=⟨λ_ _ _ _ _ _ h=>h.elim,λ_ _ _ _ _ _ _=>trivial⟩
end L2.Ds
namespace L2.Ds
open Dl
section
variable {F:Hp}
def Wn:∀{xs:List V} {ds:List D} {G:Hp},xs.length=ds.length->(∀(k:Nat) (x:V) (d:D),xs[k]?=some x->ds[k]?=some d->Rp K mg G x d)->Rps K mg G xs ds
 | [],[],_,_,_=>.nil
 | [],_::_,_,l,_=>by cases l
 | _::_,[],_,l,_=>by cases l
 | x::xs,d::ds,G,l,h=>.cons (h 0 x d rfl rfl) (Wn (by simp_all) λk y e a b=>h (k+1) y e (by trivial) (by trivial))
end
end L2.Ds
namespace Dl
abbrev Fs:=List (Str×D)
abbrev MSi:=Ev->Fs->Res Fs
def iEnd:MSi:=λ_ a=>.ok a
def iDrp(e:ME)(k:MSi):MSi:=λZ a=>(e Z).bind λ_=>k Z a
def iSet(f:Str)(e:ME)(k:MSi):MSi:=λZ a=>(e Z).bind λd=>if (a.map (·.1)).contains f=true\/100<=a.length then .bad else k Z (a++[(f,d)])
def iSup(g:List D->Fs->Res Fs)(a:MA)(k:MSi):MSi:=λZ c=>(a Z).bind λd=>(g d c).bind λb=>k Z b
def fnI(n:Nat)(k:MSi):List D->Fs->Res Fs:=λb a=>k (.no::ev0 (n - 1) b) a
def make(c:Str)(g:List D->Fs->Res Fs)(a:MA):ME:=λZ=>(a Z).bind λd=>(g d []).bind λb=>.ok (.ins c (b.map (·.1)) (b.map (·.2)))
def meth(tab:List (Str×(List D->Res D)))(m:Str)(o:ME)(a:MA):ME:=λZ=>(o Z).bind λd=>match d with
 | .ins c ns vs=>if ns.contains m=true then .bad else match tab.lookup c with
  | some f=>(a Z).bind λb=>f (.ins c ns vs::b)
  | none=>.bad
 | _=>.bad
end Dl
namespace L2.Ds
open Dl
def Ans.imp{F:Hp}{w:(β->Hp->Prop)->Prop}(h:Ans mg E R F H r w)(hw:∀Q,w Q->w' Q):Ans mg E R F H r w':=by
 cases r with
 | ok a=>exact λQ q=>hw Q (h Q q)
 | bad=>trivial
def Kp(P:Program)(w:World)(K:W.Frag)(mg:Str->Option Value)(base:Heap)(k:Nat)(m:Str)(E:XK)(ta:TE)(t:TA):TE:=λY H Q=>ta Y H λx b=>∃a C j f g d c e,x=.ref a/\b a=some (.ins C j f)/\f.lookup m=none /\
 Cls K C/\Meth K C m g/\FnOk P w K mg base (CXR P w) k g d c e/\Binds K d c []/\t Y b λi h=>e (x::i) h Q E
section
variable {m:Str} {o:Expr} {ta:TE} {t:TA} {apos:Pos} {pl:Sem Bool}
def qm(he:PE X o ta)(hr:Room k X.A)(hx:Cg (CXR X.prog X.w) X E)(ha:PA X (e::es) t)(hst:starEach (e::es) X.env=(false,eval e X.env)::starEach es X.env:=by rfl)(hpl:(backTo pos (starEach es X.env)).any (·.1)=false:=by rfl) (ht:eval (.Call (.Attribute o m apos) (e::es) [] pos) X.env=(do
   let ov <-eval o X.env
   standAt apos.atName
   let (f,first) <-holding [ov] (getMethod ov m pl)
   callWith pos f first (backTo pos (starEach (e::es) X.env)) (backToKw pos (keywordEach [] X.env))):=by rfl) :
  PE X (.Call (.Attribute o m apos) (e::es) [] pos) (Kp X.prog X.w X.K X.mg X.base k m E ta t):=by
 intro b s Y H Q I h;refine W.methodCall_KW (thn (he b s Y H _ I h) λu j i=>?_) ht;obtain ⟨x,H1,I1,rx,a,C,dx,fs,g,fd,ps,sp,ex,ea,l,c,hm,F,hb,q⟩:=i;subst ex;obtain rfl:u=Value.ref a:=rx;refine TF I1 ea c hm l ?_;refine K8 I.ok.mod.kin hm.kp (thn (ha pos b j Y H1 _ I1 q) λn y zq=>?_) hst hpl;obtain ⟨vs,p,d,r,v⟩:=zq;refine ⟨d.kIn,?_⟩;exact Mg (vs:=.ref a::vs) F hr hb .nil hx d (.cons rfl r) (by simp_all)
def v4(he:PE X o ta)(hr:Room k X.A)(hx:Cg (CXR X.prog X.w) X E) (ht:eval (.Call (.Attribute o m apos) [] [] pos) X.env=(do
   let ov <-eval o X.env
   standAt apos.atName
   let (f,first) <-holding [ov] (getMethod ov m pl)
   callWith pos f first (backTo pos (starEach [] X.env)) (backToKw pos (keywordEach [] X.env))):=by rfl) :
  PE X (.Call (.Attribute o m apos) [] [] pos) (Kp X.prog X.w X.K X.mg X.base k m E ta tNil):=by
 intro b s Y H Q I h;refine W.methodCall_KW (thn (he b s Y H _ I h) λu e d=>?_) ht;obtain ⟨x,H1,I1,rx,a,C,dx,fs,g,fd,ps,sp,ex,ea,l,c,hm,F,hb,q⟩:=d;subst ex;obtain rfl:u=Value.ref a:=rx;refine TF I1 ea c hm l ?_;exact W.callWith_K0 I1.kIn hm.kp (Mg (vs:=[.ref a]) F hr hb .nil hx I1 (.cons rfl .nil) q)
end
def Fi(P:Program)(w:World)(K:W.Frag)(mg:Str->Option Value)(base:Heap)(k n:Nat)(m:Str)(tab:List (Str×(List D->Res D))):Prop:=∀c f,tab.lookup c=some f->∀C,mg c=some (.ref C) ->
 Cls K C/\∃g b a,Meth K C m g/\FnOk P w K mg base (CXR P w) k g b a (spD K mg a.length f)/\Binds K b a []/\a.length=n+1
def Fi.nil:Fi P w K mg base k n m []:=λ_ _ e=>by cases e
def Fi.cons{P:Program}{w:World}{K:W.Frag}{mg:Str->Option Value}{base:Heap}{k n:Nat}{m c:Str}{f:List D->Res D}{tab:List (Str×(List D->Res D))}(h:∀C,mg c=some (.ref C)->Cls K C/\∃g fd ps,Meth K C m g/\FnOk P w K mg base (CXR P w) k g fd ps (spD K mg ps.length f)/\Binds K fd ps []/\ps.length=n+1)(r:Fi P w K mg base k n m tab):Fi P w K mg base k n m ((c,f)::tab):=by
 intro b a e;rw [Li] at e;split at e
 .simp_all
 .exact r b a e
def vh:∀{fs:List (Str×V)},¬(fs.map (·.1)).contains m=true->fs.lookup m=none
 | [],_=>rfl
 | (n,x)::r,h=>by
  grind
section
variable {m:Str} {tab:List (Str×(List D->Res D))} {ta:TE} {mo:ME} {t:TA} {ma:MA}
def di(T:Fi P w K mg base k n m tab)(ho:SE K mg E ta mo)(ha:SA K mg E t ma)(hl:SAn n ma):SE K mg E (Kp P w K mg base k m E ta t) (meth tab m mo ma):=by
 intro p u F H Y Z A;refine (ho p u F H Y Z A).bind λD l x d j y=>?_;cases d with
 | ins c ns vs=>
  show Ans mg E (Rp K mg) D l (if ns.contains m=true then .bad else match tab.lookup c with
   | some f=>(ma Z).bind λb=>f (.ins c ns vs::b)
   | none=>.bad) _
  by_cases hc:ns.contains m=true
  .rw [iP hc];trivial
  rw [iN hc];cases e:tab.lookup c with
  | none=>trivial
  | some f=>
   have i:=y;cases y with
   | @ins _ C a dx fs xs _ hm h o q r=>
    obtain ⟨I,g,L,v,J,G,O,M⟩:=T c f e C hm;refine Ans.imp ((ha p u D l Y Z (A.gr j)).bindE λb S V U N B R=>?_) λQ z=>⟨a,C,dx,fs,g,L,v,spD K mg v.length f,rfl,j.s _ _ h,vh hc,I,J,G,O,z⟩;exact Qv B.s (.cons (i.same B.f) R) (by rw [Dh,hl Z b S,M])
 | _=>trivial
end
section
variable {l:Nat} {m:Str} {o:Expr} {ta:TE} {mo:ME} {t:TA} {ma:MA} {apos:Pos} {pl:Sem Bool} {tab:List (Str×(List D->Res D))}
def um(T:Fi X.prog X.w X.K X.mg X.base k n m tab)(hr:Room l X.A)(hn:k<=l)(hx:Cg (CXR X.prog X.w) X E)(ho:DE X E o ta mo)(ha:DA X E n (e::es) t ma)(hst:starEach (e::es) X.env=(false,eval e X.env)::starEach es X.env:=by rfl)(hpl:(backTo pos (starEach es X.env)).any (·.1)=false:=by rfl) (ht:eval (.Call (.Attribute o m apos) (e::es) [] pos) X.env=(do
   let ov <-eval o X.env
   standAt apos.atName
   let (f,first) <-holding [ov] (getMethod ov m pl)
   callWith pos f first (backTo pos (starEach (e::es) X.env)) (backToKw pos (keywordEach [] X.env))):=by rfl) :
  DE X E (.Call (.Attribute o m apos) (e::es) [] pos) (Kp X.prog X.w X.K X.mg X.base k m E ta t) (meth tab m mo ma):=⟨qm ho.p (hr.mono hn) hx ha.p hst hpl ht,di T ho.s ha.s ha.n⟩
def Qj(T:Fi X.prog X.w X.K X.mg X.base k 0 m tab)(hr:Room l X.A)(hn:k<=l)(hx:Cg (CXR X.prog X.w) X E)(ho:DE X E o ta mo) (ht:eval (.Call (.Attribute o m apos) [] [] pos) X.env=(do
   let ov <-eval o X.env
   standAt apos.atName
   let (f,first) <-holding [ov] (getMethod ov m pl)
   callWith pos f first (backTo pos (starEach [] X.env)) (backToKw pos (keywordEach [] X.env))):=by rfl) :
  DE X E (.Call (.Attribute o m apos) [] [] pos) (Kp X.prog X.w X.K X.mg X.base k m E ta tNil) (meth tab m mo Ab):=⟨v4 ho.p (hr.mono hn) hx ht,di T ho.s Yr eV⟩
end
section
variable {scope:Scope} {cl:List (Str×Addr)} {C':Addr} {fp:List Addr} {pn:List (Addr×Obj)} {o:Expr} {ta:TE} {mo:ME} {t:TA} {ma:MA} {l:Nat} {m f:Str} {apos:Pos} {pl:Sem Bool} {tab:List (Str×(List D->Res D))} {cs:List Str}
def ZqW(T:Fi X.prog X.w X.K X.mg X.base k n m tab)(hr:Room l X.A)(hn:k<=l)(ho:DE (BW X N scope cl C' s H fp pn) E0 o ta mo)(ha:DA (BW X N scope cl C' s H fp pn) E0 n (e::es) t ma)(hst:starEach (e::es) (BW X N scope cl C' s H fp pn).env=(false,eval e (BW X N scope cl C' s H fp pn).env)::starEach es (BW X N scope cl C' s H fp pn).env:=by rfl)(hpl:(backTo pos (starEach es (BW X N scope cl C' s H fp pn).env)).any (·.1)=false:=by rfl) (ht:eval (.Call (.Attribute o m apos) (e::es) [] pos) (BW X N scope cl C' s H fp pn).env=(do
   let ov <-eval o (BW X N scope cl C' s H fp pn).env
   standAt apos.atName
   let (f,first) <-holding [ov] (getMethod ov m pl)
   callWith pos f first (backTo pos (starEach (e::es) (BW X N scope cl C' s H fp pn).env)) (backToKw pos (keywordEach [] (BW X N scope cl C' s H fp pn).env))):=by rfl) :
  DE (BW X N scope cl C' s H fp pn) E0 (.Call (.Attribute o m apos) (e::es) [] pos) (Kp X.prog X.w X.K X.mg X.base k m E0 ta t) (meth tab m mo ma):=um T hr hn aD ho ha hst hpl ht
end
def Ca.nil:Ca K mg [] f:=λ_ h=>by cases h
def Ca.cons{K:W.Frag}{mg:Str->Option Value}{c f:Str}{cs:List Str}(h:∀C,mg c=some (.ref C)->Cls K C/\Gg K C f)(r:Ca K mg cs f):Ca K mg (c::cs) f:=λb a=>by
 rw [P0] at a;cases z:b==c with
 | true=>simp_all
 | false=>
  rw [z,Bool.false_or] at a;exact r b a
structure FR(K:W.Frag)(mg:Str->Option Value)(F:Hp)(fs:List (Str×V))(fl:Fs):Prop where
 nm:fs.map (·.1)=fl.map (·.1)
 rv:Rps K mg F (fs.map (·.2)) (fl.map (·.2))
def FR.same{F:Hp}(h:FR K mg F fs fl)(s:Same F F'):FR K mg F' fs fl:=⟨h.nm,h.rv.same s⟩
def FR.len{F:Hp}(h:FR K mg F fs fl):fs.length=fl.length:=by
 have:=CP List.length h.nm;simp_all
def W0:∀{fs:List (Str×V)},¬(fs.map (·.1)).contains f=true->putF f y fs=fs++[(f,y)]
 | [],_=>rfl
 | (g,x)::r,h=>by
  rw [Bg,P0] at h;have a:g≠f:=by
   lia
  show (if g=f then (g,y)::r else (g,x)::putF f y r)=_
  rw [iN a,W0 λq=>h (by lia)];rfl
def FR.put{F:Hp}(h:FR K mg F fs fl)(hn:¬(fl.map (·.1)).contains f=true)(ry:Rp K mg F y d):FR K mg F (putF f y fs) (fl++[(f,d)]):=by
 rw [W0 (by rw [h.nm];exact hn)];refine ⟨by rw [GC,GC,h.nm];rfl,?_⟩;rw [GC,GC];exact Rps.app (.cons ry .nil) h.rv
def spI(K:W.Frag)(mg:Str->Option Value)(n:Nat)(cs:List Str)(m:List D->Fs->Res Fs):Sp:=λh H Q E=>h.length=n+1/\∃x k C c i j F e f,
 h=.ref x::i/\cs.contains c=true/\mg c=some (.ref C)/\H x=some (.ins C k j)/\F x=none/\Same F H/\Rps K mg F i e/\FR K mg F j f/\m e f≠.bad /\
 (∀a,m e f=.ok a->∀d g b,Gr F (del H x) d g->d x=none->g x=some (.ins C k b)->FR K mg d b a->Q .non g)
structure RepI(K:W.Frag)(mg:Str->Option Value)(x dx C:Addr)(F0 H0 F H:Hp)(Y:St)(Z:Ev)(fs:List (Str×V))(fl:Fs):Prop where
 rep:Rep K mg F0 H0 F H Y Z
 h0:H0 x=none
 self:Y[0]?=some (some (.ref x))
 fx:F x=none
 hx:H x=some (.ins C dx fs)
 fr:FR K mg F fs fl
section
variable {x dx C:Addr} {F:Hp} {fs fs':List (Str×V)} {fl fl':Fs}
def RepI.gr(r:RepI K mg x dx C F0 H0 F H Y Z fs fl)(g:Gr F H F' H'):RepI K mg x dx C F0 H0 F' H' Y Z fs fl:=by
 obtain ⟨b,a⟩:=g.o x _ r.fx r.hx;exact ⟨r.rep.gr g,r.h0,r.self,b,a,r.fr.same g.f⟩
def RepI.go(r:RepI K mg x dx C F0 H0 F H Y Z fs fl)(g:Gr F (del H x) F' H')(fx:F' x=none)(hx:H' x=some (.ins C dx fs'))(fr:FR K mg F' fs' fl'):RepI K mg x dx C F0 H0 F' H' Y Z fs' fl':=by
 refine ⟨⟨⟨r.rep.g.f.trans g.f,g.s,λa o c b=>?_,λa o u e=>r.rep.g.z a o u (g.z a o u e)⟩,r.rep.len,λi d e=>?_,λi l e=>?_,r.rep.ne⟩,r.h0,r.self,fx,hx,fr⟩
 .obtain ⟨k,j⟩:=r.rep.g.o a o c b;exact g.o a o k (by rw [Ec (BP b r.h0)];exact j)
 .obtain ⟨y,c,b⟩:=r.rep.im i d e;exact ⟨y,c,b.same g.f⟩
 .obtain ⟨a,m,c,b,p,h,n⟩:=r.rep.ow i l e;have q:a≠x:=by
   rintro rfl;rw [r.hx] at h;cases h
  obtain ⟨k,j⟩:=g.o a _ p (by rw [Ec q];exact h);exact ⟨a,m,c,b,k,j,n.same g.f⟩
def RepI.set(r:RepI K mg x dx C F0 H0 F H Y Z fs fl)(hn:¬(fl.map (·.1)).contains f=true)(ry:Rp K mg F y d):RepI K mg x dx C F0 H0 F (upd H x (.ins C dx (putF f y fs))) Y Z (putF f y fs) (fl++[(f,d)]):=by
 refine r.go ⟨Same.refl _,λa o e=>?_,λa o h b=>⟨h,?_⟩,λ_ _ _ e=>e⟩ r.fx Ay (r.fr.put hn ry)
 .rw [Ai (BP e r.fx)];exact r.rep.g.s a o e
 .have c:a≠x:=by
   rintro rfl;rw [Gh] at b;cases b
  rw [Ec c] at b;rw [Ai c];exact b
end
def AnsI(K:W.Frag)(mg:Str->Option Value)(E:XK)(x dx C:Addr)(F0 H0:Hp)(r:Res Fs)(w:Ends->Prop):Prop :=
 match r with
 | .ok fl=>∀D,(∀a b d c,Gr F0 H0 a b->a x=none->b x=some (.ins C dx c)->FR K mg a c fl->D.nx d b)->w D
 | .bad=>True
def SSi(K:W.Frag)(mg:Str->Option Value)(E:XK)(cs:List Str)(t:TS)(m:MSi):Prop:=∀x e C c a b F H Y Z f d,cs.contains c=true->mg c=some (.ref C)->RepI K mg x e C a b F H Y Z f d->AnsI K mg E x e C a b (m Z d) (λD=>t D Y H)
structure DSi(X:Cx)(E:XK)(cs:List Str)(sts:List Stmt)(t:TS)(m:MSi):Prop where
 p:PSs X sts t
 s:SSi X.K X.mg E cs t m
section
variable {x dx C:Addr} {F:Hp} {α β:Type} {R:Hp->β->α->Prop} {fs:List (Str×V)} {fl:Fs}
def VD{r:Res α}{w:(β->Hp->Prop)->Prop}{k:α->Res Fs}{w':β->Hp->Ends->Prop}(rr:RepI K mg x dx C F0 H0 F H Y Z fs fl)(h1:Ans mg E R F H r w)(h2:∀a,r=.ok a->∀F1 H1 b,Gr F H F1 H1->R F1 b a->AnsI K mg E x dx C F0 H0 (k a) (w' b H1)) :
  AnsI K mg E x dx C F0 H0 (r.bind k) (λD=>w λb H1=>w' b H1 D):=by
 cases r with
 | ok a=>
  show AnsI K mg E x dx C F0 H0 (k a) _;have c:=h2 a rfl;generalize k a=r2 at c;cases r2 with
  | ok d=>exact λD q=>h1 _ λF1 H1 b g e=>c F1 H1 b g e D q
  | bad=>trivial
 | bad=>trivial
end
section
variable {cs cs':List Str} {rest:List Stmt} {u:TS} {k:MSi} {o:Expr} {t:TA} {ma:MA} {apos p p':Pos} {f y m:Str} {l:Nat}
def Lp:DSi X E cs [] GF iEnd:=⟨Kr,λx f C c b d F H Y Z a e _ _ r=>λD q=>q F H Y a r.rep.g r.fx r.hx r.fr⟩
def Ip(he:DE X E e te me)(h:DSi X E cs rest u k)(hs:swapsWith e none spos.line X.env=pure false:=by rfl):DSi X E cs (.Expr e spos::rest) (tSeq (Ep te) u) (iDrp me k):=by
 refine ⟨DP (J0 he.p hs) h.p,?_⟩;intro x j C c d f F H Y Z q m n l r;exact VD r (he.s d f F H Y Z r.rep) λa _ o i b g _=>h.s x j C c d f o i Y Z q m n l (r.gr g)
def Iw(T:Ca X.K X.mg cs f)(he:DE X E e te me)(h:DSi X E cs rest u k)(hN:X.N[0]?=some x:=by rfl)(hv:CQ X.env.scope x:=by first | exact Or.inl rfl | exact Or.inr (Or.inl rfl) | exact Or.inr (Or.inr rfl))(hd:ND x:=by decide)(hcd:NE x:=by decide)(hs:swapsWith e (some (.Attribute (.Name x p) f p')) spos.line X.env=pure false:=by rfl) :
  DSi X E cs (.Assign [.Attribute (.Name x p) f p'] e spos::rest) (tSeq (sFld X.K (tVar 0) te f) u) (iSet f me k):=by
 refine ⟨DP (Ur (Cr hN hv hd hcd) he.p hs) h.p,?_⟩;intro x l C c i j F H Y Z o b n m r;refine VD r (he.s i j F H Y Z r.rep) λd _ G I y g w=>?_;have a:=r.gr g;by_cases hb:(b.map (·.1)).contains f=true\/100<=b.length
 .rw [iP hb];trivial
 rw [iN hb];obtain ⟨t,v⟩:=T c n C m;have A:=a.set (λz=>hb (.inl z)) w;have z:=h.s x l C c i j G _ Y Z _ _ n m A;have B:o.length<1000:=by have:=r.fr.len;lia
 generalize k Z (b++[(f,d)])=q0 at z;cases q0 with
 | ok fl'=>exact λD q=>⟨_,a.self,x,C,l,o,rfl,a.hx,t,v,B,z D q⟩
 | bad=>trivial
end
structure ClsM(K:W.Frag)(C:Addr)(m:Str)(f:Addr):Prop where
 sg:W.specialIn K (.ref C) "__getattribute__"=some (some (.builtin "type.__getattribute__"))
 rd:∃mc,W.readsIn K C mc=true/\W.findCls K (.ref C) mc m=some (.val (.ref f))
 hh:W.handedIn (.ref f)=true
 kp:W.keepIn K (.ref f)=true
section
variable {y m:Str} {C f:Addr} {sp:Sp} {t:TA} {p apos:Pos} {pl:Sem Bool}
def jj(hg:Gl X y)(hy:X.mg y=some (.ref C))(c:ClsM X.K C m f)(F:FnOk X.prog X.w X.K X.mg X.base (CXR X.prog X.w) k f fd ps sp)(hr:Room k X.A)(hb:Binds X.K fd ps [])(hx:Cg (CXR X.prog X.w) X E)(ha:PA X (e::es) t)(hd:ND y:=by decide)(hst:starEach (e::es) X.env=(false,eval e X.env)::starEach es X.env:=by rfl)(hpl:(backTo pos (starEach es X.env)).any (·.1)=false:=by rfl) (ht:eval (.Call (.Attribute (.Name y p) m apos) (e::es) [] pos) X.env=(do
   let ov <-eval (.Name y p) X.env
   standAt apos.atName
   let (f,first) <-holding [ov] (getMethod ov m pl)
   callWith pos f first (backTo pos (starEach (e::es) X.env)) (backToKw pos (keywordEach [] X.env))):=by rfl) :
  PE X (.Call (.Attribute (.Name y p) m apos) (e::es) [] pos) (G7 sp [] E t):=by
 intro a s Y H Q I h;refine W.methodCall_KW (thn (Lx (v:=.ref C) hg hy rfl hd a s Y H (λv b=>v=.ref C/\b=H) I ⟨rfl,rfl⟩) λu s1 zq=>?_) ht;obtain ⟨x,b,I1,rx,ex,eh⟩:=zq;subst ex eh;obtain rfl:u=Value.ref C:=rx;obtain ⟨q,g,i⟩:=c.rd;refine W.method_cls I1.kIn c.sg (W.cls_value I1.kIn g i c.hh ?_);have l:=I1.tok (s1.toks+1);refine K8 I.ok.mod.kin c.kp (thn (ha pos a _ Y b _ l h) λn B zq=>?_) hst hpl;obtain ⟨z,o,d,r,j⟩:=zq;refine ⟨d.kIn,?_⟩;exact Mg F hr hb .nil hx d r j
end
structure CalS(P:Program)(w:World)(K:W.Frag)(mg:Str->Option Value)(base:Heap)(k:Nat)(y m:Str)(n:Nat)(cs:List Str)(g:List D->Fs->Res Fs):Prop where
 ex:∃(C f:Addr) (fd:FuncData) (ps:List Str),mg y=some (.ref C)/\ClsM K C m f/\FnOk P w K mg base (CXR P w) k f fd ps (spI K mg n cs g)/\Binds K fd ps []
section
variable {cs cs':List Str} {rest:List Stmt} {u:TS} {k:MSi} {t:TA} {ma:MA} {apos p p':Pos} {y m:Str} {l:Nat} {g:List D->Fs->Res Fs} {pl:Sem Bool}
def SJ(S:CalS X.prog X.w X.K X.mg X.base j y m n cs' g)(hr:Room l X.A)(hn:j<=l)(hg:Gl X y)(hx:Cg (CXR X.prog X.w) X E)(hcs:∀c,cs.contains c=true->cs'.contains c=true)(ha:DA X E n es t ma)(h:DSi X E cs rest u k)(hN:X.N[0]?=some x:=by rfl)(hv:CQ X.env.scope x:=by first | exact Or.inl rfl | exact Or.inr (Or.inl rfl) | exact Or.inr (Or.inr rfl))(hd:ND x:=by decide)(hcd:NE x:=by decide)(hdy:ND y:=by decide)(hst:starEach (.Name x p'::es) X.env=(false,eval (.Name x p') X.env)::starEach es X.env:=by rfl)(hpl:(backTo pos (starEach es X.env)).any (·.1)=false:=by rfl) (ht:eval (.Call (.Attribute (.Name y p) m apos) (.Name x p'::es) [] pos) X.env=(do
   let ov <-eval (.Name y p) X.env
   standAt apos.atName
   let (f,first) <-holding [ov] (getMethod ov m pl)
   callWith pos f first (backTo pos (starEach (.Name x p'::es) X.env)) (backToKw pos (keywordEach [] X.env))):=by rfl) (hs:swapsWith (.Call (.Attribute (.Name y p) m apos) (.Name x p'::es) [] pos) none spos.line X.env=pure false:=by rfl) :
  DSi X E cs (.Expr (.Call (.Attribute (.Name y p) m apos) (.Name x p'::es) [] pos) spos::rest) (tSeq (Ep (G7 (spI X.K X.mg n cs' g) [] E (Bo (tVar 0) t))) u) (iSup g ma k):=by
 obtain ⟨C0,f,fd,ps,hy,cm,F,hb⟩:=S.ex;refine ⟨DP (J0 (jj hg hy cm F (hr.mono hn) hb hx (Ea (Cr hN hv hd hcd) ha.p hst) hdy hst hpl ht) hs) h.p,?_⟩;intro x J C c i o F H Y Z fs G hc hm r;have A:=ha.s i o F H Y Z r.rep;have L:=ha.n Z;show AnsI X.K X.mg E x J C i o ((ma Z).bind λb=>(g b G).bind λa=>k Z a) (λD=>∃v,Y[0]?=some (some v)/\t Y H λz M=>spI X.K X.mg n cs' g (v::z++[]) M (λ_ U=>u D Y U) E);have B:AnsI X.K X.mg E x J C i o ((ma Z).bind λb=>(g b G).bind λa=>k Z a) (λD=>t Y H λz M=>spI X.K X.mg n cs' g (.ref x::z) M (λ_ U=>u D Y U) E):=by
  refine VD r A λb R F1 M z g1 rs=>?_;have I:=r.gr g1;have hl:=rs.length.trans (L b R);cases eg:g b G with
  | bad=>trivial
  | ok a=>
   show AnsI X.K X.mg E x J C i o (k Z a) _;have W:=λP V d Q T hx O=>h.s x J C c i o P V Y Z d a hc hm (I.go Q T hx O);generalize k Z a=q0 at W;cases q0 with
   | bad=>trivial
   | ok fl2=>
    intro D q;refine ⟨by simp_all,x,J,C,c,z,fs,F1,b,G,rfl,hcs c hc,hm,I.hx,I.fx,I.rep.g.s,rs,I.fr,(by lia),λfl'' e P V d Q T hx O=>?_⟩;rw [eg] at e;cases e;exact W P V d Q T hx O D q
 generalize ((ma Z).bind λb=>(g b G).bind λa=>k Z a)=q0 at B;cases q0 with
 | bad=>trivial
 | ok a=>exact λD q=>⟨.ref x,r.self,by simpa using B D q⟩
end
section
variable {qual:Str} {f:Addr} {cs:List Str}
def T5{F:Hp}(s:Same F H)(fa:F a=none)(r:Rps K mg F vs ds)(hN:1<=N.length):Rep K mg F (del H a) F H (start N (z::vs)) (.no::ev0 (N.length - 1) ds):=by
 have u:=r.length;have p:∀(i:Nat) (c:Cl),(ev0 (N.length - 1) ds)[i]?=some c->c=.no\/∃d,ds[i]?=some d/\c=.im d:=by
  intro i c e;rw [K4] at e;by_cases f:i<ds.length
  .rw [Fw (by simpa using f),Cz,Bk f] at e;exact .inr ⟨ds[i],Bk f,(Fy e).symm⟩
  .rw [Fq (by simpa using f),List.getElem?_replicate] at e;split at e
   .exact .inl (Fy e).symm
   .cases e
 have g:∀(i:Nat) (c:Cl),(Cl.no::ev0 (N.length - 1) ds)[i]?=some c->c=.no\/∃d j,i=j+1/\ds[j]?=some d/\c=.im d:=by
  grind
 refine ⟨⟨Same.refl _,s,λb o m h=>⟨m,?_⟩,λ_ _ _ e=>e⟩,?_,λi d e=>?_,λi k e=>?_,λi j k n a e=>?_⟩
 .by_cases hb:b=a
  .subst hb;rw [Gh] at h;cases h
  .rw [Ec hb] at h;exact h
 .rw [K4];unfold start
  grind
 .rcases g i _ e with q | ⟨d',j,rfl,e1,q⟩
  .cases q
  .cases q;obtain ⟨v,l,t⟩:=r.get e1;refine ⟨v,?_,t⟩;have f:=(Gk.mp l).1;unfold start;rw [Bg,List.cons_append,List.getElem?_cons_succ,Fw (by simpa using f),Cz,l];rfl
 .grind
 grind
def okI{st:Stmt}{mb:MSi}(F:Fun K x qual st f fd)(S:Bx N ps (BV st))(hN:1<=N.length)(hp:ps.length=n+1)(h:∀(cdv:Value) (A:Around) (outer:List Env) (s:Shared) (H:Hp) (E:XK),Room k (A.deeper (envOfC qual (BV st) s.heap.objs.size f cdv))->∃t,DSi (cxOf (CXR P w) P w K mg base N qual (BV st) f cdv A outer s H E) E cs (Ew st) t mb) :
  FnOk P w K mg base (CXR P w) (k+1) f fd ps (spI K mg n cs (fnI N.length mb)):=by
 obtain ⟨oc,od,kV,L,pm,an,cdv,ct,O,rfl,V,b⟩:=F.ex;refine Nh V b S (λD H Q E q=>q.1.trans hp.symm) λA outer s H D Q E U j=>?_;obtain ⟨t,u⟩:=h cdv A outer s H E U;refine ⟨t,u.p,?_⟩;obtain ⟨_,x,T,C,c,W,R,r,o,y,rfl,X,I,J,v,Z,Y,B,hb,d⟩:=j;have z:=u.s x T C c r (del H x) r H (start N (.ref x::W)) (.no::ev0 (N.length - 1) o) R y X I ⟨T5 Z v Y hN,Gh,rfl,v,J,B⟩;cases e:mb (.no::ev0 (N.length - 1) o) y with
 | ok fl'=>
  rw [e] at z;exact z _ λG M Y' l g m i a=>d fl' e G M l g m i a
 | bad=>trivial
def okM{st:Stmt}{mb:MS}(F:Fun K x qual st f fd)(S:Bx N ps (BV st))(h:∀(cdv:Value) (A:Around) (outer:List Env) (s:Shared) (H:Hp) (E:XK),Room k (A.deeper (envOfC qual (BV st) s.heap.objs.size f cdv))->∃t,DSs (cxOf (CXR P w) P w K mg base N qual (BV st) f cdv A outer s H E) E (Ew st) t mb) :
  FnOk P w K mg base (CXR P w) (k+1) f fd ps (spD K mg ps.length (fn N.length mb)):=by
 obtain ⟨U,O,L,y,R,M,cdv,ct,B,rfl,G,b⟩:=F.ex;refine Nh G b S (λo H Q E q=>q.1) λA outer s H o Q E D i=>?_;obtain ⟨t,r⟩:=h cdv A outer s H E D;refine ⟨t,r.p,?_⟩;obtain ⟨_,n,m,J,I,j,a⟩:=i;have z:=r.s n H n H (start N o) (ev0 N.length m) (Wc J I);unfold fn at j a;cases e:mb (ev0 N.length m) with
 | ok fl=>
  rw [e] at z j a;cases fl with
  | nx Z=>exact z _ λc l T _ u=>a .non rfl c l .non u.g .non
  | rt d=>exact z _ λc l v g C=>a d rfl c l v g C
  | bk Z=>trivial
  | ct Z=>trivial
 | bad=>rw [e] at j;trivial
end
structure CalI(P:Program)(w:World)(K:W.Frag)(mg:Str->Option Value)(base:Heap)(k:Nat)(c:Str)(n:Nat)(cs:List Str)(g:List D->Fs->Res Fs):Prop where
 ex:∃(C f:Addr) (fd:FuncData) (ps:List Str),mg c=some (.ref C)/\Mk K C f/\FnOk P w K mg base (CXR P w) k f fd ps (spI K mg n cs g)/\Binds K fd ps []/\cs.contains c=true
def Xe(K:W.Frag)(mg:Str->Option Value)(c:Str)(n:Nat)(cs:List Str)(g:List D->Fs->Res Fs)(E:XK)(t:TA):TE:=λY H Q=>∃C,mg c=some (.ref C)/\G6 C (spI K mg n cs g) [] E t Y H Q
section
variable {c:Str} {cs:List Str} {g:List D->Fs->Res Fs} {t:TA} {ma:MA}
def oH(hm:mg c=some (.ref C))(hc:cs.contains c=true)(ha:SA K mg E t ma)(hl:SAn n ma):SE K mg E (Xe K mg c n cs g E t) (make c g ma):=by
 intro M N F H Y Z R;refine Ans.imp ?_ λQ q=>⟨C,hm,q⟩;refine (ha M N F H Y Z R).bindE λy A r p O w L=>?_;have hl':=L.length.trans (hl Z y A);have l:∀x b,p x=none->p b=none->b≠x->r x=none/\r b=none/\Same r (upd (upd p b (.own x)) x (.ins C b []))/\del (upd (upd p b (.own x)) x (.ins C b [])) x=upd p b (.own x):=by
  intro x b m i d;refine ⟨w.s.free m,w.s.free i,λa o e=>?_,?_⟩
  .have z:=w.s a o e;rw [Ai (BP z m),Ai (BP z i)];exact z
  .funext a;by_cases h:a=x
   .subst h;rw [Gh,Ai (Ne.symm d)];lia
   .rw [Ec h,Ai h]
 cases eg:g y [] with
 | bad=>trivial
 | ok fl=>
  intro Q q x b m i d;obtain ⟨U,f2,S,e1⟩:=l x b m i d;refine ⟨by grind,x,b,C,c,O,[],r,y,[],by simp,hc,hm,Ay,U,S,L,⟨rfl,.nil⟩,(by lia),λfl' e v W j k I T D=>?_⟩;rw [eg] at e;cases e;rw [e1] at k;obtain ⟨G,d2⟩:=k.o b _ f2 Ay;refine ⟨rfl,q (upd (upd v b (.own x)) x (.ins C b j)) W (.ref x) ⟨?_,?_,λa o P B=>?_,λa o u e=>k.z a o u (O3 (λ_ _ z=>by cases z) (O3 (λ_ _ z=>by cases z) e))⟩ ?_⟩
  .refine (k.f.trans (Cp G _)).trans (Cp ?_ _);rw [Ai (Ne.symm d)];exact I
  .intro a o e;by_cases ha:a=x
   .subst ha;rw [Ay] at e;lia
   .rw [Ai ha] at e;by_cases hb:a=b
    .subst hb;rw [Ay] at e;lia
    .rw [Ai hb] at e;exact k.s a o e
  .have X:a≠x:=BP B m;have J:=BP B i;obtain ⟨q1,q2⟩:=k.o a o P (by rw [Ai J];exact B);rw [Ai X,Ai J];trivial
  .have V:Same v (upd (upd v b (.own x)) x (.ins C b j)):=(Cp G _).trans (Cp (by rw [Ai (Ne.symm d)];exact I) _);have z:Rp K mg (upd (upd v b (.own x)) x (.ins C b j)) (.ref x) (.ins c (j.map (·.1)) (fl.map (·.2))):=.ins hm Ay (by rw [Ai d,Ay]) rfl (D.rv.same V);rw [D.nm] at z;exact z
end
section
variable {l:Nat} {c:Str} {cs:List Str} {g:List D->Fs->Res Fs} {t:TA} {ma:MA} {p:Pos}
def Di(M:CalI X.prog X.w X.K X.mg X.base k c n cs g)(hr:Room l X.A)(hn:k+1<=l)(hg:Gl X c)(hx:Cg (CXR X.prog X.w) X E)(ha:DA X E n (e::es) t ma)(hdb:ND c:=by decide)(he:starEach (e::es) X.env=(false,eval e X.env)::starEach es X.env:=by rfl)(hpl:(backTo pos (starEach es X.env)).any (·.1)=false:=by rfl) :
  DE X E (.Call (.Name c p) (e::es) [] pos) (Xe X.K X.mg c n cs g E t) (make c g ma):=by
 obtain ⟨C,f,r,q,b,i,F,m,j⟩:=M.ex;refine ⟨?_,oH b j ha.s ha.n⟩;intro a s Y H Q I ⟨o,d,h⟩;rw [b] at d;cases d;exact zz i F (hr.mono hn) hg b m .nil hx ha.p hdb he hpl a s Y H Q I h
end
end L2.Ds
namespace Dl
def LC:D->D->Res D
 | .lst xs,.lst []=>.ok (.bl (!xs.isEmpty))
 | _,_=>.bad
end Dl
namespace L2
def Uh(K:W.Frag):R2:=λx y H Q=>∃l b a,x=.ref l/\y=.ref b/\SqL K H l a/\SqL K H b []/\Q (.bl (!a.isEmpty)) H
def Zo0(hu:X.A.units+64<cLine):OpR X (compareOp .NotEq) (Uh X.K):=by
 intro a s Y H x y v u Q I z o h;obtain ⟨l,b,N,rfl,rfl,n,L,q⟩:=h;cases z;cases o;obtain ⟨d,r,⟨m,F,p,E,M,B⟩,R⟩:=I.list n;obtain ⟨c,G,⟨D,J,C,k,O,i⟩,P⟩:=I.list L;have f:s.heap.IsList l d.toArray:=⟨m,p,E,F,B⟩;have g:s.heap.IsList b c.toArray:=⟨D,C,k,J,i⟩;cases G;cases r with
 | nil=>
  refine (PySem.SeqAt.RcNeAt.lists (e:=λ_=>true) f g rfl (by omega) λj t _=>aB t (by simp)) X.prog X.w X.xe (EP X a Y Q) ?_;exact ⟨.bl false,H,I,rfl,q⟩
 | cons h r=>
  refine (PySem.SeqAt.RcNeAt.lists_lengths f g (by simp) (by omega)) X.prog X.w X.xe (EP X a Y Q) ?_;exact ⟨.bl true,H,I,rfl,q⟩
end L2
namespace L2.Ds
open PySem.Calls Dl
def wN:OpD K mg (Uh K) LC:=by
 intro E F H x y d c s a b;unfold LC;split
 .cases a with
  | lst ha ra=>
   cases b with
   | lst hb rb=>
    cases rb;refine .ret s (.bl _) λQ q=>⟨_,_,_,rfl,rfl,s.seq ha,s.seq hb,?_⟩;cases ra<;>exact q
 .trivial
section
variable {a b:Expr} {ta tb:TE} {ma mb:ME}
def qH(hr:Room k X.A)(ha:DE X E a ta ma)(hb:DE X E b tb mb):DT X E (.Compare a [.NotEq] [b] pos) (Dz (tOp (Uh X.K) ta tb)) (trb (o2 LC ma mb)):=HF (Zo0 hr.units) wN ha hb (Em _)
end
end L2.Ds
namespace L2.Ds
open Dl
section
variable {G Gb F:Hp} {x:V}
def gj(h:noEx r=.ok a):r=.ok a:=by
 cases r with
 | ok b=>exact h
 | bad=>cases h
def yw{r:Res α}(h:r.bind f=.ok b):∃a,r=.ok a/\f a=.ok b:=by
 cases r with
 | ok a=>exact ⟨a,rfl,h⟩
 | bad=>cases h
end
end L2.Ds
namespace L2.Ds
open Dl
section
def lN(hj:j≠i0)(hi:SI K mg E wi mi)(hb:SSk i0 K mg E u m):SSk i0 K mg E (tFor wi (Bs j) u) (for_ mi (gN j) m):=by
 intro t v F H Y Z U
 refine (hi t v F H Y Z U).stmK (w':=λJ V D=>∃W:Nat->Nat->St->Hp->Prop,(∃m,W 0 m Y V)/\∀i m Y H,W i m Y H ->
  (J.stop i H/\D.nx Y H)\/(J.go i H/\∃N:St->Hp->Prop,(∀b a,N b a->∃L,L<m/\W (i+1) L b a)/\∀x a,J.yld i H x a->Bs j x Y a λA s=>u { D with nx:=N,ct:=N,bk:=D.nx } A s)) U.g λl _ C V J g1 jo=>?_
 have r1:=U.gr g1;have r:∀(D:Ends) (c:Res Fl),c≠.bad->(∀n,c=.ok (.nx n)->∀h a b,Same C h->Rep K mg t v h a b n->b[i0]?=Y[i0]?->D.nx b a)->(∀n,c=.ok (.bk n)->∀h a b,Same C h->Rep K mg t v h a b n->b[i0]?=Y[i0]?->D.bk b a) ->
   (∀n,c=.ok (.ct n)->∀h a b,Same C h->Rep K mg t v h a b n->b[i0]?=Y[i0]?->D.ct b a)->(∀d,c=.ok (.rt d)->∀h a x,Gr t v h a->Rp K mg h x d->D.rt x a) ->
   CG (gN j) m l Z=c ->
   ∃W:Nat->Nat->St->Hp->Prop,(∃m,W 0 m Y V)/\∀i m Y H,W i m Y H ->
    (J.stop i H/\D.nx Y H)\/(J.go i H/\∃N:St->Hp->Prop,(∀b a,N b a->∃L,L<m/\W (i+1) L b a)/\∀x a,J.yld i H x a->Bs j x Y a λA s=>u { D with nx:=N,ct:=N,bk:=D.nx } A s):=by
  intro D c G qn qb qc qr e0;refine ⟨λi k b a=>k=l.length - i/\i<=l.length/\b[i0]?=Y[i0]?/\∃n h,Same C h/\Rep K mg t v h a b n/\CG (gN j) m (l.drop i) n=c,⟨l.length,by simp,Cq _,rfl,Z,C,Same.refl _,r1,e0⟩,?_⟩;rintro i k b a ⟨rfl,hi',I,n,h,S,T,e⟩;by_cases hlt:i<l.length
  .refine .inr ?_;have hd:l[i]?=some l[i]:=Bk hlt;obtain ⟨go,yl⟩:=(jo h a S T.ss i).1 _ hd;rw [Ka hlt] at e;refine ⟨go,λA s=>A[i0]?=Y[i0]?/\∃o w,Same C w/\Rep K mg t v w s A o/\CG (gN j) m (l.drop (i+1)) o=c,λA s zq=>by obtain ⟨h2,o,w,s2,r2,p⟩:=zq;exact ⟨l.length - (i+1),by omega,rfl,hlt,h2,o,w,s2,r2,p⟩,λx s y=>?_⟩;obtain ⟨w,g2,rx⟩:=yl x s y;have r3:=(T.gr g2).set j rx;have P:=hb t v w s (b.set j (some x)) (n.set j (.im l[i])) r3;have X:(b.set j (some x))[i0]?=Y[i0]?:=(FP hj).trans I;have sF:Same C w:=S.trans g2.f;have p:(m (n.set j (.im l[i]))).bind (turn (CG (gN j) m (l.drop (i+1))))=c:=e;show u _ (b.set j (some x)) _;cases em:m (n.set j (.im l[i])) with
   | ok f=>
    rw [em] at p P;cases f with
    | nx o=>exact P _ λB M Y4 R Q O=>⟨O.trans X,o,B,sF.trans R,Q,p⟩
    | ct o=>exact P _ λB M Y4 R Q O=>⟨O.trans X,o,B,sF.trans R,Q,p⟩
    | bk o=>exact P _ λB M Y4 R Q O=>qn o p.symm B M Y4 (sF.trans R) Q (O.trans X)
    | rt d=>exact P _ λB M y g4 ry=>qr d p.symm B M y g4 ry
   | bad=>rw [em] at p;exact aB p.symm G
  .have hi2:i=l.length:=by omega
   subst hi2;rw [Jz (Ar _)] at e;exact .inl ⟨(jo h a S T.ss _).2 (Ar _),qn n e.symm h a b S T I⟩
 cases e:CG (gN j) m l Z with
 | ok f=>
  cases f with
  | nx o=>exact λD q=>r D _ (λz=>by cases z) (λ_ z=>by grind) (λ_ z=>by cases z) (λ_ z=>by cases z) (λ_ z=>by cases z) e
  | bk o=>exact λD q=>r D _ (λz=>by cases z) (λ_ z=>by cases z) (λ_ z=>by grind) (λ_ z=>by cases z) (λ_ z=>by cases z) e
  | ct o=>exact λD q=>r D _ (λz=>by cases z) (λ_ z=>by cases z) (λ_ z=>by cases z) (λ_ z=>by grind) (λ_ z=>by cases z) e
  | rt d=>exact λD q=>r D _ (λz=>by cases z) (λ_ z=>by cases z) (λ_ z=>by cases z) (λ_ z=>by cases z) (λ_ z=>by grind) e
 | bad=>trivial
end
section
variable {iter:Expr} {tpos:Pos}
def nG{k:MS}(hp:PassesOwn (model X.prog X.w) X.A X.env X.xe)(hc:X.calm=true)(hN:X.N.Nodup)(hi:X.N[j]?=some x)(hx:Loc X.env.scope x)(hj:j≠i)(hit:DI X E (.Name x tpos) iter wi mi)(hb:DSsk X i E body u k)(hf:X.fn x=true\/X.env.scope.names.lookup x=some .local:=by first | exact .inl rfl | exact .inr rfl | assumption)(hs:∀x,foldedSetIterable iter X.env x=pure x:=by intro _;rfl):DSk X i E (.For (.Name x tpos) iter body [] spos) (tFor wi (Bs j) u) (for_ mi (gN j) k):=⟨Pg hp hc hit.p (Tg hN hi hx hf) hb.p hs,lN hj hit.s hb.s⟩
end
end L2.Ds
namespace L2
open PySem.W
def objX(a:Addr)(o:Obj):HO:=.ext λh=>h.get? a=some o
def sZ{P:Program}{w:World}{H:Hp}{h:Heap}{a:Addr}{o:Obj}(e:h.get? a=some o):Dn P w H h a (objX a o):=⟨e,⟨o,e⟩,λ_ _ x k=>k o x⟩
def gA{P:Program}{w:World}{H:Hp}{h:Heap}{a:Addr}{o:Obj}(x:HOk P w H h)(e:H a=some (objX a o)):h.get? a=some o:=(show _/\_ from x a _ e).1
end L2
namespace Dl
def firsts(kf:Nat->List Int):Nat->List (List Int)
 | 0=>[]
 | i+1=>if kf i∈firsts kf i then firsts kf i else firsts kf i++[kf i]
def intsOf:List D->Option (List Int)
 | []=>some []
 | .int n::r=>(intsOf r).map (n::·)
 | _::_=>none
def keysOf:List D->Option (List (List Int))
 | []=>some []
 | .tup ds::r=>(intsOf ds).bind λk=>(keysOf r).map (k::·)
 | _::_=>none
def S6:D->Res D
 | .lst ds=>match keysOf ds with
  | some ks=>if ds.length<=16 then .ok (.int ((firsts (λi=>ks.getD i []) ds.length).length:Nat)) else .bad
  | none=>.bad
 | _=>.bad
end Dl
namespace L2.Sx
open PySem.SetTable
def adv(m:Nat)(p:Probe):Probe :=
 if p.more>0 then { p with j:=p.j+1,more:=p.more - 1 } else
 { p with j:=(leap m p.i p.perturb).1,more:=runEnd m (leap m p.i p.perturb).1 - (leap m p.i p.perturb).1,i:=(leap m p.i p.perturb).1,perturb:=(leap m p.i p.perturb).2 }
def Zy(t:SetTable)(p:Probe):t.advance p=adv t.mask p:=rfl
def run(m i pt:Nat):Probe:={ j:=i,more:=runEnd m i - i,i,perturb:=pt,dummy:=none }
inductive Rch(m:Nat)(occ:Nat->Prop):Probe->Nat->Prop
 | here (p:Probe):Rch m occ p p.j
 | next {p:Probe} {j:Nat}:occ p.j->Rch m occ (adv m p) j->Rch m occ p j
def Rch.mono(h:∀j,occ j->occ' j)(r:Rch m occ p j):Rch m occ' p j:=by
 induction r with
 | here p=>exact .here p
 | next o _ ih=>exact .next (h _ o) ih
def Es(m:Nat)(occ:Nat->Prop):Nat->Probe->Prop
 | 0,p=>¬occ p.j
 | n+1,p=>¬occ p.j\/Es m occ n (adv m p)
def advs(m:Nat):Nat->Probe->Probe
 | 0,p=>p
 | n+1,p=>advs m n (adv m p)
def Es.of:∀{n:Nat} {p:Probe},¬occ (advs m n p).j->Es m occ n p
 | 0,_,h=>h
 | _+1,_,h=>.inr (Es.of h)
def Es.mono:∀{n n':Nat} {p:Probe},n<=n'->Es m occ n p->Es m occ n' p
 | 0,0,_,_,h=>h
 | 0,_+1,_,_,h=>.inl h
 | n+1,0,_,hl,_=>by omega
 | n+1,n'+1,_,hl,h=>h.elim .inl λh=>.inr (Es.mono (by omega) h)
def QW(m):∀a b p,advs m (a+b) p=advs m b (advs m a p)
 | 0,b,p=>by rw [Nat.zero_add];rfl
 | a+1,b,p=>by rw [Nat.add_right_comm];exact QW m a b (adv m p)
def O8(m i pt):∀k,k<=runEnd m i - i->advs m k (run m i pt)={ j:=i+k,more:=runEnd m i - i - k,i,perturb:=pt,dummy:=none }
 | 0,_=>rfl
 | k+1,h=>by
  rw [QW m k 1,O8 m i pt k (by omega)];show adv m _=_;unfold adv
  lia
def aM(m i pt):advs m (runEnd m i - i+1) (run m i pt)=run m (leap m i pt).1 (leap m i pt).2:=by
 rw [QW m (runEnd m i - i) 1,O8 m i pt _ (Ar _)];show adv m _=_;unfold adv;rw [iN (by simp)];rfl
def gn(m i):runEnd m i - i+1<=10:=by
 unfold runEnd
 lia
def DR(m:Nat):Nat->Nat×Nat->Nat×Nat
 | 0,p=>p
 | n+1,p=>DR m n (leap m p.1 p.2)
def W8(m):∀a b p,DR m (a+b) p=DR m b (DR m a p)
 | 0,b,p=>by rw [Nat.zero_add];rfl
 | a+1,b,p=>by rw [Nat.add_right_comm];exact W8 m a b _
def bu(m):∀n i pt,∃k,k<=10*n/\advs m k (run m i pt)=run m (DR m n (i,pt)).1 (DR m n (i,pt)).2
 | 0,i,pt=>⟨0,Ar _,rfl⟩
 | n+1,i,pt=>by
  obtain ⟨k,a,e⟩:=bu m n (leap m i pt).1 (leap m i pt).2;refine ⟨(runEnd m i - i+1)+k,?_,?_⟩
  .have:=gn m i;omega
  .rw [QW,aM,e];rfl
def d7(m):∀n i pt,(DR m n (i,pt)).2=pt/32^n
 | 0,i,pt=>by rw [Nat.pow_zero,Nat.div_one];rfl
 | n+1,i,pt=>by
  show (DR m n (leap m i pt)).2=_;have e:=d7 m n (leap m i pt).1 (leap m i pt).2;have z:DR m n (leap m i pt)=DR m n ((leap m i pt).1,(leap m i pt).2):=rfl;rw [z,e];show pt/32/32^n=pt/32^(n+1);rw [Nat.div_div_eq_div_mul,Nat.pow_succ,Nat.mul_comm]
def Wd(m):∀n i pt,i<=m->(DR m n (i,pt)).1<=m
 | 0,i,pt,h=>h
 | n+1,i,pt,h=>by
  show (DR m n ((leap m i pt).1,(leap m i pt).2)).1<=m;exact Wd m n _ _ (by unfold leap;have:=Nat.mod_lt (i*5+1+pt/32) (show 0<m+1 by omega);lia)
def Zu(h):bits h<2^64:=by
 unfold bits;have a:=Ja h (show ((2:Int)^64)≠0 by decide);have b:=Jk h (show (0:Int)<2^64 by decide);omega
def cyc7:∀i≤7,∀e≤7,∃k≤7,(DR 7 k (i,0)).1=e:=by trivial
def j7:∀i≤31,∀e≤31,∃k≤31,(DR 31 k (i,0)).1=e:=by decide +kernel
def Mk(m:Nat):Prop:=m=7\/m=31
def cyc(hm:Mk m):∀i≤m,∀e≤m,∃k≤m,(DR m k (i,0)).1=e:=by
 rcases hm with rfl | rfl
 .exact cyc7
 .exact j7
def cover(hm:Mk m){e:Nat}(hi:i<=m)(hp:pt<2^64)(he:e<=m):∃n,n<=13+m/\(DR m n (i,pt)).1=e:=by
 have a:(DR m 13 (i,pt)).2=0:=by
  rw [d7]
  lia
 obtain ⟨k,c,b⟩:=cyc hm _ (Wd m 13 i pt hi) e he;refine ⟨13+k,by omega,?_⟩;rw [W8]
 grind
def ends(hm:Mk m){e:Nat}(hi:i<=m)(hp:pt<2^64)(he:e<=m)(ho:¬occ e):Es m occ (10*(13+m)) (run m i pt):=by
 obtain ⟨n,d,b⟩:=cover hm hi hp he;obtain ⟨k,c,a⟩:=bu m n i pt;refine Es.mono (n:=k) (by omega) (Es.of ?_);rw [a];rw [b];exact ho
def S8(xs:Array Nat)(j:Nat)(h:xs.toList.Pairwise (· < ·)):∀fuel lo hi,lo<=hi->hi<=xs.size->hi - lo<=fuel->(∀i q,i<lo->xs[i]<j)->(∀i q,hi<=i->¬xs[i]<j) ->
  below.go xs j fuel lo hi<=xs.size/\∀i q,xs[i]<j↔i<below.go xs j fuel lo hi
 | 0,lo,hi,h1,h2,h3,h4,h5=>by
  have e:lo=hi:=by omega
  subst e;exact ⟨h2,λi hi=>⟨λz=>Nat.lt_of_not_le λq=>h5 i hi q z,λz=>h4 i hi z⟩⟩
 | fuel+1,lo,hi,h1,h2,h3,h4,h5=>by
  unfold below.go;by_cases hl:lo<hi
  .rw [iP hl];simp only [];have k:(lo+hi)/2<xs.size:=by omega
   have g:∀a b (f:a<xs.size) (m:b<xs.size),a<b->xs[a]<xs[b]:=λa b f m d=>by
    have:=Rx.mp h a b (by trivial) (by trivial) d;trivial
   have l:xs.getD ((lo+hi)/2) j=xs[(lo+hi)/2]:=by simp_all
   rw [l];by_cases hc:xs[(lo+hi)/2]<j
   .rw [iP hc];refine S8 xs j h fuel ((lo+hi)/2+1) hi (by omega) h2 (by omega) (λi c z=>?_) h5;by_cases hz:i<(lo+hi)/2
    .exact Fp (g i _ c k hz) hc
    .have:i=(lo+hi)/2:=by omega
     subst this;exact hc
   .rw [iN hc];refine S8 xs j h fuel lo ((lo+hi)/2) (by omega) (by omega) (by omega) h4 λi c z=>?_;by_cases hz:(lo+hi)/2<i
    .grind
    .have:i=(lo+hi)/2:=by omega
     lia
  grind
def dK{xs:Array Nat}(j)(h:xs.toList.Pairwise (· < ·)):below xs j<=xs.size/\∀i hi,xs[i]<j↔i<below xs j :=
 S8 xs j h xs.size 0 xs.size (Cq _) (Ar _) (by omega) (λ_ _ z=>by omega) λi hi z=>by omega
abbrev En:Type:=Nat×Int×Value
def Occ(l:List En)(j:Nat):Prop:=∃e∈l,e.1=j
abbrev st0(m:Nat)(h:Int):Probe:=run m (bits h%(m+1)) (bits h)
structure Tb(t:SetTable)(es:Array (Int×Value))(l:List En):Prop where
 ms:Mk t.mask
 pl:t.place.toList=l.map (·.1)
 el:es.toList=l.map (·.2)
 du:t.dummies=#[]
 up:l.Pairwise λa b=>a.1<b.1
 le:∀e∈l,e.1<=t.mask
 rc:∀e∈l,Rch t.mask (Occ l) (st0 t.mask e.2.1) e.1
section
variable{t:SetTable}{es:Array (Int×Value)}{l:List En}
def Tb.plP(T:Tb t es l):t.place.toList.Pairwise (· < ·):=by rw [T.pl,List.pairwise_map];exact T.up
def Tb.size(T:Tb t es l):t.place.size=l.length:=by rw [<-Array.length_toList,T.pl,Ax]
def Tb.esize(T:Tb t es l):es.size=l.length:=by rw [<-Array.length_toList,T.el,Ax]
def Tb.at(T:Tb t es l)(hi:i<t.place.size):t.place[i]=(l[i]'(by rw [<-T.size];exact hi)).1:=by
 have e:t.place.toList[i]'(by trivial)=(l.map (·.1))[i]'(by rw [Ax,<-T.size];exact hi):=by
  congr 1;exact T.pl
 simp_all
def Tb.live(T:Tb t es l){e:En}(h:l[i]?=some e):t.slot e.1=.live i:=by
 obtain ⟨d,rfl⟩:=Gk.mp h;have a:i<t.place.size:=by rw [T.size];exact d
 obtain ⟨j,b⟩:=dK l[i].1 T.plP;have g:=Rx.mp T.up;have f:below t.place l[i].1=i:=by
  rcases Nat.lt_trichotomy (below t.place l[i].1) i with z | z | z
  .have c:below t.place l[i].1<t.place.size:=by omega
   have:=g _ i (by lia) d z;have q:=(b _ c).mp (by rw [T.at c];lia);omega
  .exact z
  .have q:=(b i a).mpr z;rw [T.at a] at q;omega
 unfold slot;simp only [];rw [f,iP];rw [Array.getElem?_eq_getElem a,T.at a];simp
def Tb.noDummy(T:Tb t es l)(j):has t.dummies j=false:=by
 rw [T.du];rfl
def Tb.empty(T:Tb t es l)(h:¬Occ l j):t.slot j=.empty:=by
 unfold slot;simp only [];rw [iN,T.noDummy,iN Ek];intro z;have z:=eq_of_beq z;obtain ⟨a,e⟩:=Array.getElem?_eq_some_iff.mp z;rw [T.at a] at e;exact h ⟨_,Hz _,e⟩
def Tb.occ(T:Tb t es l)(h:Occ l j):∃i e,l[i]?=some e/\e.1=j/\t.slot j=.live i:=by
 obtain ⟨e,b,rfl⟩:=h;obtain ⟨i,a,rfl⟩:=Er.mp b;exact ⟨i,_,Bk a,rfl,T.live (Bk a)⟩
def Z4(xs:Array α)(p:Nat)(x:α)(hp:p<=xs.size):(insertAt xs p x).toList=xs.toList.take p++x::xs.toList.drop p:=by
 unfold insertAt;simp [Array.toList_extract,List.extract_eq_drop_take];exact GX (by simp)
def Tb.put(T:Tb t es l){x:Value}(hj:j<=t.mask)(ho:¬Occ l j)(hr:Rch t.mask (Occ l) (st0 t.mask h) j) :
  ∃l',List.Perm l' ((j,h,x)::l)/\Tb (t.put j).1 (insertAt es (t.put j).2 (h,x)) l':=by
 obtain ⟨r,o⟩:=dK j T.plP;have u:(t.put j).2=below t.place j:=rfl;have w:(t.put j).1={ t with place:=insertAt t.place (below t.place j) j,dummies:=t.dummies }:=by
  unfold SetTable.put;simp only [];rw [T.noDummy,iN Ek]
 have g:List.Perm (l.take (below t.place j)++(j,h,x)::l.drop (below t.place j)) ((j,h,x)::l):=by
  refine List.perm_middle.trans ?_;simp_all
 have c:∀k,Occ l k->Occ (l.take (below t.place j)++(j,h,x)::l.drop (below t.place j)) k:=λk ⟨e,he,q⟩=>⟨e,g.mem_iff.mpr (Bp _ he),q⟩;refine ⟨l.take (below t.place j)++(j,h,x)::l.drop (below t.place j),g,?_⟩;rw [u,w];refine ⟨T.ms,?_,?_,T.du,?_,λe he=>?_,λe he=>?_⟩
 .show (insertAt t.place (below t.place j) j).toList=_;rw [Z4 _ _ _ r,T.pl];simp_all
 .rw [Z4 _ _ _ (by rw [T.esize,<-T.size];exact r),T.el];simp_all
 .have n:∀e∈l.take (below t.place j),e.1<j:=λe he=>by
   obtain ⟨i,s,rfl⟩:=Er.mp he;have m:i<below t.place j/\i<l.length:=by grind
   have f:i<t.place.size:=by lia
   have:=(o i f).mpr m.1;rw [T.at f] at this;simp_all
  have d:∀e∈l.drop (below t.place j),j<e.1:=λe he=>by
   obtain ⟨i,s,rfl⟩:=Er.mp he;rw [List.length_drop] at s;have f:below t.place j+i<t.place.size:=by rw [T.size];omega
   have v:=λz=>by have:=(o _ f).mp z;omega
   rw [T.at f] at v;have y:(l[below t.place j+i]'(by lia)).1≠j:=λz=>ho ⟨_,Hz _,z⟩
   grind
  rw [List.pairwise_append];refine ⟨T.up.sublist (List.take_sublist _ _),?_,λa A b p=>?_⟩
  .rw [List.pairwise_cons];exact ⟨λb p=>d b p,T.up.sublist (List.drop_sublist _ _)⟩
  grind
 .rcases Aq.mp (g.mem_iff.mp he) with rfl | he
  .exact hj
  .exact T.le e he
 .rcases Aq.mp (g.mem_iff.mp he) with rfl | he
  .exact hr.mono c
  .exact (T.rc e he).mono c
end
section
variable{t:SetTable}{es:Array (Int×Value)}{l:List En}{h:Int}{ha:Nat->Int}
def HAt(l:List En)(ha:Nat->Int):Prop:=∀i e,l[i]?=some e->ha i=e.2.1
def Z8(T:Tb t es l)(hh:HAt l ha):∀n fuel p,p.dummy=none->Es t.mask (Occ l) n p->n<fuel ->
  (∃j,probe.go t ha h fuel p=some (.empty j none)/\¬Occ l j/\Rch t.mask (Occ l) p j/\∀e∈l,e.2.1=h->¬Rch t.mask (Occ l) p e.1) \/
  (∃i e p' n',probe.go t ha h fuel p=some (.candidate e.1 i (adv t.mask p'))/\l[i]?=some e/\e.2.1=h/\p'.j=e.1/\p'.dummy=none/\n'<n/\Es t.mask (Occ l) n' (adv t.mask p')/\(∀j,Rch t.mask (Occ l) (adv t.mask p') j->Rch t.mask (Occ l) p j)/\∀e'∈l,e'.2.1=h->e'≠e->Rch t.mask (Occ l) p e'.1->Rch t.mask (Occ l) (adv t.mask p') e'.1)
 | n,0,p,_,_,hf=>by omega
 | n,fuel+1,p,hd,hE,hf=>by
  by_cases ho:Occ l p.j
  .obtain ⟨i,e,m,g,y⟩:=T.occ ho;cases n with
   | zero=>trivial
   | succ n=>
    have f:=hE.resolve_left λz=>z ho;have d:(adv t.mask p).dummy=none:=by unfold adv;lia
    unfold probe.go;rw [y];simp only [];have v:∀e'∈l,e'.1=e.1->e'=e:=λe' b q=>by
     obtain ⟨a,x,rfl⟩:=Er.mp b;obtain ⟨B,rfl⟩:=Gk.mp m;have A:=Rx.mp T.up
     grind
    have u:∀{j:Nat},Rch t.mask (Occ l) p j->j≠p.j->Rch t.mask (Occ l) (adv t.mask p) j:=λ{j} r k=>by
     cases r with
     | here=>trivial
     | next _ r=>exact r
    by_cases hq:ha i=h
    .rw [iP (by lia)];right;refine ⟨i,e,p,n,by rw [Zy,g],m,by rw [<-hh i e m];exact hq,g.symm,hd,by omega,f,λj r=>.next ho r,λe' b _ k r=>u r λz=>k (v e' b (by lia))⟩
    .rw [iN (by lia),Zy];have w:e.2.1≠h:=by rw [<-hh i e m];exact hq
     rcases Z8 T hh n fuel (adv t.mask p) d f (by omega) with ⟨j,e1,e2,e3,e4⟩ | ⟨i',e',p',n',e1,e2,e3,e4,e5,e6,e7,e8,e9⟩
     .left;refine ⟨j,e1,e2,.next ho e3,λe' b q r=>e4 e' b q (u r λz=>?_)⟩
      grind
     .right;refine ⟨i',e',p',n',e1,e2,e3,e4,e5,by omega,e7,λj r=>.next ho (e8 j r),λs c q k r=>e9 s c q k (u r λz=>?_)⟩
      grind
  .left;unfold probe.go;rw [T.empty ho];simp only [];refine ⟨p.j,by rw [hd],ho,.here p,λe g _ r=>?_⟩;generalize hz:e.1=z at r;cases r with
   | here=>exact ho ⟨e,g,hz⟩
   | next o _=>lia
end
def cF:∀{xs ys:List α},xs.Nodup->(∀x∈xs,x∈ys)->xs.length<=ys.length
 | [],_,_,_=>Cq _
 | x::r,ys,hn,hs=>by
  obtain ⟨a,b,rfl⟩:=List.append_of_mem (hs x Bf);rw [Mr] at hn;have:=cF (ys:=a++b) hn.2 λy c=>by
   grind
  grind
def Xf{js:List Nat}(h:js.length<=m):∃e,e<=m/\e∉js:=by
 refine Jw λz=>?_;have:=cF (xs:=List.range (m+1)) List.nodup_range λx a=>Jw λq=>z ⟨x,by grind,q⟩
 grind
def V3:∀{k:Nat} {p:Probe} {j:Nat},(∀k'<k,occ (advs m k' p).j)->Rch m occ (advs m k p) j->Rch m occ p j
 | 0,_,_,_,r=>r
 | k+1,p,j,h,r=>.next (h 0 (by omega)) (V3 (k:=k) (λk' a=>h (k'+1) (by omega)) r)
def tH(hk:k<=runEnd m i - i)(h:∀k'<k,occ (i+k')):Rch m occ (run m i pt) (i+k):=by
 refine V3 (k:=k) (λk' a=>?_) ?_
 .rw [O8 m i pt k' (by omega)];simp_all
 .rw [O8 m i pt k hk];exact .here _
def vd(h:∀k'≤runEnd m i - i,occ (i+k'))(r:Rch m occ (run m (leap m i pt).1 (leap m i pt).2) j):Rch m occ (run m i pt) j:=by
 refine V3 (k:=runEnd m i - i+1) (λk' a=>?_) ?_
 .rw [O8 m i pt k' (by omega)];exact h k' (by omega)
 .rw [aM];exact r
structure Ow(m:Nat)(owner:Array (Option Nat))(js:List Nat):Prop where
 sz:owner.size=m+1
 nd:js.Nodup
 le:∀j∈js,j<=m
 is:∀j k,j<=m->(owner[j]?=some (some k)↔js[k]?=some j)
def Ow.none(O:Ow m owner js)(hj:j<=m):(owner.getD j (some 0)).isNone=true↔j∉js:=by
 have c:j<owner.size:=by rw [O.sz];omega
 have a:owner.getD j (some 0)=owner[j]:=by simp_all
 rw [a];constructor
 .intro z b;obtain ⟨k,d,e⟩:=Er.mp b;have:=(O.is j k hj).mpr (by simp_all);simp_all
 .intro z;cases q:owner[j] with
  | none=>rfl
  | some k=>
   have:=(O.is j k hj).mp (by simp_all)
   grind
def VN(h:i<=m):i<=runEnd m i/\runEnd m i<=m:=by
 unfold runEnd
 lia
def dD(O:Ow m owner js){e:Nat}(he:e<=m)(hf:e∉js):∀fuel L i pt,i<=m->L<fuel->(DR m L (i,pt)).1=e ->
  ∃j,j<=m/\layClean.free m owner fuel i pt=some j/\j∉js/\Rch m (·∈js) (run m i pt) j
 | 0,L,i,pt,_,hl,_=>by omega
 | fuel+1,L,i,pt,hi,hl,hL=>by
  obtain ⟨x,y⟩:=VN hi;unfold layClean.free;cases q:(List.range (runEnd m i+1 - i)).find? λk=>(owner.getD (i+k) (some 0)).isNone with
  | some k=>
   obtain ⟨u,g,s,p,w⟩:=List.find?_eq_some_iff_append.mp q;have B:k<runEnd m i+1 - i:=Ex.mp (by simp_all);have f:∀a<k,(owner.getD (i+a) (some 0)).isNone=false:=λa c=>by
    have o:g.length=k:=by
     have:=CP (λl=>l[g.length]?) p
     grind
    have n:a∈g:=by
     have A:(List.range (runEnd m i+1 - i))[a]?=(g++k::s)[a]?:=by rw [p]
     grind
    simp_all
   refine ⟨i+k,by omega,rfl,(O.none (by omega)).mp u,tH (by omega) λa c=>?_⟩;exact Jw λz=>by
    have d:=f a c;rw [(O.none (by omega)).mpr z] at d;trivial
  | none=>
   have b:∀a≤runEnd m i - i,i+a∈js:=λa c=>Jw λz=>by
    have d:=List.find?_eq_none.mp q a (Ex.mpr (by omega));exact d ((O.none (by omega)).mpr z)
   cases L with
   | zero=>
    have:i=e:=hL;subst this;exact aB (b 0 (by omega)) hf
   | succ L=>
    have h:(leap m i pt).1<=m:=by
     unfold leap;have:=JZ (i*5+1+pt/32) (show 0<m+1 by omega);omega
    obtain ⟨j,d,t,v,r⟩:=dD O he hf fuel L (leap m i pt).1 (leap m i pt).2 h (by omega) hL;exact ⟨j,d,t,v,vd b r⟩
def Ow.put(O:Ow m owner js)(hj:j<=m)(hf:j∉js):Ow m (owner.setIfInBounds j (some js.length)) (js++[j]):=by
 refine ⟨by rw [Array.size_setIfInBounds];exact O.sz,?_,λi c=>?_,λi k c=>?_⟩
 .rw [List.nodup_append];refine ⟨O.nd,by simp,λa f b d=>?_⟩
  grind
 .rcases CK.mp c with z | z
  .exact O.le i z
  simp_all
 .rw [Array.getElem?_setIfInBounds];have d:j<owner.size:=by rw [O.sz];omega
  by_cases e:j=i
  .grind
  .rw [iN e,O.is i k c]
   grind
def RcW(m:Nat)(hs:List Int)(js:List Nat):Prop:=∀(k:Nat) (h:Int) (j:Nat),hs[k]?=some h->js[k]?=some j->Rch m (·∈js) (st0 m h) j
def bD(hm:Mk m):∀rest done owner js,Ow m owner js->js.length=done.length->RcW m done js->done.length+rest.length<=m ->
  ∃owner' js',rest.foldl (λacc h=>do
   let (owner,k) <-acc
   let j <-layClean.free m owner (turns m) (bits h%(m+1)) (bits h)
   pure (owner.setIfInBounds j (some k),k+1)) (some (owner,js.length))=some (owner',js'.length)/\Ow m owner' js'/\js'.length=(done++rest).length/\RcW m (done++rest) js'
 | [],done,owner,js,O,hl,hr,_=>⟨owner,js,rfl,O,by simp_all,by simp_all⟩
 | h::rest,done,owner,js,O,hl,hr,hle=>by
  simp only [Dh] at hle;obtain ⟨e,f,r⟩:=Xf (m:=m) (js:=js) (by omega);have g:bits h%(m+1)<=m:=by
   have:=JZ (bits h) (show 0<m+1 by omega);omega
  obtain ⟨L,u,i⟩:=cover hm g (Zu h) f;obtain ⟨j,p,v,q,l⟩:=dD O f r (turns m) L _ (bits h) g (by unfold turns;omega) i;have s:=O.put p q;have c:RcW m (done++[h]) (js++[j]):=by
   intro k o n b a;by_cases hk:k<done.length
   .rw [Fw hk] at b;rw [Fw (by omega)] at a;exact (hr k o n b a).mono λx d=>JK _ d
   .have:k=done.length:=by
     grind
    subst this;simp at b;rw [<-hl] at a;simp at a;subst b a;exact l.mono λx d=>JK _ d
  obtain ⟨owner',js',b,a,w,t⟩:=bD hm rest (done++[h]) _ (js++[j]) s (by simp [hl]) c (by grind)
  grind
def qU(hm:Mk m)(hashes)(hl:hashes.size<=m):∃owner js,layClean m hashes=some owner/\Ow m owner js/\js.length=hashes.size/\RcW m hashes.toList js:=by
 have b:Ow m (Array.replicate (m+1) none) []:=⟨by simp,List.nodup_nil,λ_ h=>(BL h).elim,λj k f=>by
  grind⟩
 obtain ⟨owner,js,g,a,c,d⟩:=bD hm hashes.toList [] _ [] b rfl (λk h j e _=>by simp at e) (by simp_all);refine ⟨owner,js,?_,a,by trivial,by trivial⟩;unfold layClean;simp_all
section
variable{t:SetTable}{es:Array (Int×Value)}{l:List En}
def ZmI(O:Ow m owner js)(live)(hlive:live=(List.range (m+1)).filterMap λj=>(owner.getD j none).map (j,·)) :
  live.Pairwise (λa b=>a.1<b.1)/\∀j k,(j,k)∈live↔js[k]?=some j:=by
 have c:∀j k,(j,k)∈live↔js[k]?=some j:=λj k=>by
  rw [hlive,List.mem_filterMap];constructor
  .rintro ⟨i,g,e⟩;have g:=Ex.mp g;have f:i<owner.size:=by grind
   have d:owner.getD i none=owner[i]:=by simp [Array.getD,f]
   rw [d] at e;cases q:owner[i] with
   | none=>simp_all
   | some k'=>
    rw [q] at e;simp only [Option.map_some,Option.some.injEq,Prod.mk.injEq] at e;obtain ⟨rfl,rfl⟩:=e;exact (O.is i k' (by omega)).mp (by simp_all)
  .intro e;have h:=O.le j (Ed e);have f:j<owner.size:=by rw [O.sz];omega
   refine ⟨j,Ex.mpr (by omega),?_⟩;have d:owner.getD j none=owner[j]:=by simp_all
   have q:=(O.is j k h).mpr e;simp_all
 refine ⟨?_,c⟩;rw [hlive,List.pairwise_filterMap];refine List.pairwise_lt_range.imp λ{a b} l=>?_;simp_all
def Tb.relay(T:Tb t es l)(hl:l.length<=16)(hw:sizeAbove wanted=32) :
  ∃t' order l',t.relaid (es.map (·.1)) wanted=some (t',order)/\t'.mask=31/\t'.led=t.led/\t'.plain=t.plain/\Tb t' (order.filterMap (es[·]?)) l'/\List.Perm (l'.map (·.2)) (l.map (·.2)):=by
 have y:Mk 31:=.inr rfl;obtain ⟨g,v,N,O,H,B⟩:=qU y (es.map (·.1)) (by rw [Array.size_map,T.esize];omega);obtain ⟨c,i⟩ : ∃c,c=(List.range (31+1)).filterMap λj=>(g.getD j none).map (j,·):=⟨_,rfl⟩;obtain ⟨E,d⟩:=ZmI O c i;have M:v.length=l.length:=by rw [H,Array.size_map,T.esize]
 have u:∀j k,(j,k)∈c->k<l.length:=λj k h=>by
  grind
 have J:∀k,k<l.length->es[k]?=some ((l.getD k (0,0,.none)).2):=λk o=>by
  rw [<-Ni,T.el,Cz,Bk o]
  grind
 obtain ⟨l',f⟩ : ∃l':List En,l'=c.map λp=>(p.1,(l.getD p.2 (0,0,.none)).2):=⟨_,rfl⟩;have w:(c.map (·.2)).Nodup:=by
  unfold List.Nodup;rw [List.pairwise_map];refine List.Pairwise.imp_of_mem (λ{a b} F I L=>?_) E;intro z;have A:=(d a.1 a.2).mp F;have D:=(d b.1 b.2).mp I;rw [z,D] at A;have:=Fy A;omega
 have m:List.Perm (c.map (·.2)) (List.range l.length):=by
  rw [List.perm_ext_iff_of_nodup w List.nodup_range];intro k;rw [Ex];constructor
  .simp_all
  simp_all
 refine ⟨{ mask:=31,place:=(c.map (·.1)).toArray,dummies:=#[],finger:=t.finger,led:=t.led,moves:=t.movedTo 31,plain:=t.plain },(c.map (·.2)).toArray,l',?_,rfl,rfl,rfl,?_,?_⟩
 .unfold relaid;rw [hw];unfold laid;simp_all
 .have G:∀j,j∈v->Occ l' j:=λj K=>by
   obtain ⟨k,o,rfl⟩:=Er.mp K;exact ⟨_,by rw [f];exact BZ.mpr ⟨(v[k],k),(d _ _).mpr (Bk o),rfl⟩,rfl⟩
  refine ⟨y,?_,?_,rfl,?_,λe n=>?_,λe n=>?_⟩
  .simp_all
  .rw [Array.toList_filterMap];rw [f,DK,List.filterMap_map];have C:∀q:List (Nat×Nat),(∀x∈q,x.2<l.length)->q.filterMap ((es[·]?) ∘ (·.2))=q.map ((·.2) ∘ λp:Nat×Nat=>((p.1,(l.getD p.2 (0,0,Value.none)).2):En)):=by
    intro q
    induction q with
    | nil=>grind
    | cons x r ih=>
     grind
   simp_all
  .grind
  .rw [f] at n;obtain ⟨⟨j,k⟩,s,rfl⟩:=BZ.mp n;exact O.le j (Ed ((d j k).mp s))
  .rw [f] at n;obtain ⟨⟨j,k⟩,s,rfl⟩:=BZ.mp n;have o:=u j k s;refine (B k _ j ?_ ((d j k).mp s)).mono G;simp_all
 .rw [f,DK];have e:l.map (·.2)=(List.range l.length).map λk=>(l.getD k (0,0,Value.none)).2:=by
   apply List.ext_getElem?
   grind
  rw [e];have:=m.map λk=>(l.getD k (0,0,Value.none)).2;rw [DK] at this;exact this
end
section
variable{prog:Program} {E:Value->Shared->Prop}
def items_int(h:ItemsAre (intKind prog w) ks vs):∀v∈vs,∃i t,v=Value.int i t:=by
 induction h with
 | nil=>simp_all
 | @cons k v ks vs h1 _ ih=>
  intro u hu;rcases Aq.mp hu with rfl | hu
  .cases u with
   | int i t=>lia
   | _=>exact aB h1 (by intro z;exact Bool.noConfusion z)
  simp_all
def XX(hk:IsTupleKey (intKind prog w) s.heap ks a)(h:Q false s):wpAny (model prog w) A (ofAClassStatement 8 (.ref a)) Q E s:=by
 obtain ⟨o,f,n,k,p,l,q⟩:=hk;have m:s.TypeIs (.ref a) "tuple":=⟨o,k,p⟩;have d:=items_int q;unfold ofAClassStatement;refine Ac (Jq m ?_);dsimp only;rw [iP (by decide)];refine Ac (Aj ?_);simp only [Bool.not_true,FN,Dp];refine Ac (Gn k l ?_);refine Ac ?_;rw [<-Array.forIn_toList];refine wpAny_forIn_list _ (λb r g=>r.1=none/\g=s/\∀v∈b,∃i t,v=Value.int i t) _ ?_ ?_ _ _ ⟨rfl,rfl,d⟩
 .rintro v b r g ⟨j,rfl,c⟩;obtain ⟨i,t,rfl⟩:=c v Bf;refine Ac (Aj ?_);simp only [FN,Dp];exact Aj ⟨rfl,rfl,λu e=>c u (Bp _ e)⟩
 .rintro ⟨x,y⟩ g ⟨j,rfl,_⟩;simp only at j;subst j;exact Aj h
def lz{x:Addr}{ks:List Int}{stored:List Value}{Q:Bool->Shared->Prop}(hx:IsTupleKey (intKind prog w) s.heap ks x)(hs:∀y∈stored,∃b ks',y=Value.ref b/\IsTupleKey (intKind prog w) s.heap ks' b)(h:Q false s) :
  wpAny (model prog w) A (searchCouldBeSeen (.ref x) stored) Q E s:=by
 unfold searchCouldBeSeen;refine Ac ?_;refine wpAny_forIn_list _ (λc r e=>r.1=none/\e=s/\∀v∈c,∃b ks',v=Value.ref b/\IsTupleKey (intKind prog w) s.heap ks' b) _ ?_ ?_ _ _ ⟨rfl,rfl,hs⟩
 .rintro v c r e ⟨f,rfl,a⟩;obtain ⟨b,ks',rfl,g⟩:=a v Bf;dsimp only;split
  .exact Aj ⟨rfl,rfl,λu d=>a u (Bp _ d)⟩
  .refine Ac (wpAny_eqIsQuiet_tuple hx ?_);simp only [Bool.not_true,FN,Dp];refine Ac (wpAny_eqIsQuiet_tuple g ?_);simp only [Bool.not_true,FN,Dp];refine Ac (XX hx ?_);simp only [FN,Dp];refine Ac (XX g ?_);simp only [FN,Dp];exact Aj ⟨rfl,rfl,λu d=>a u (Bp _ d)⟩
 .rintro ⟨i,j⟩ e ⟨f,rfl,_⟩;simp only at f;subst f;exact Aj h
def lQ(hk:IsTupleKey (intKind prog w) s.heap ks a)(h:Q true s):wpAny (model prog w) A (hashByValue 8 (.ref a)) Q E s:=by
 have m:=hk.typeIs;obtain ⟨o,f,n,l,y,k,p⟩:=hk;have d:=items_int p;unfold hashByValue;refine Ac (wpAny_specialOf m F.slot_tuple_hash.lookup ?_);refine Ac (Gn l k ?_);refine Ac ?_;rw [<-Array.forIn_toList];refine wpAny_forIn_list _ (λb r g=>r.1=none/\g=s/\∀v∈b,∃i t,v=Value.int i t) _ ?_ ?_ _ _ ⟨rfl,rfl,d⟩
 .rintro v b r g ⟨j,rfl,c⟩;obtain ⟨i,t,rfl⟩:=c v Bf;refine Ac (Aj ?_);simp only [Bool.not_true,FN,Dp];exact Aj ⟨rfl,rfl,λu e=>c u (Bp _ e)⟩
 .rintro ⟨q,x⟩ g ⟨j,rfl,_⟩;simp only at j;subst j;exact Aj h
end
section
variable{prog:Program} {E:Value->Shared->Prop}
def El(prog:Program)(w:World)(h:Heap)(p:Int×Value)(ks:List Int):Prop:=∃x,p.2=.ref x/\IsTupleKey (intKind prog w) h ks x/\p.1=tupleKeyHash (intKind prog w) ks
def El.inj{h:Heap}{p:Int×Value}{a b:List Int}(ha:El prog w h p a)(hb:El prog w h p b):a=b:=by
 obtain ⟨x,e,d,_⟩:=ha;obtain ⟨y,c,f,_⟩:=hb;rw [e] at c;cases c;exact d.inj f
def Tb.fits{es:Array (Int×Value)}(T:Tb t es l)(hl:l.length<=t.mask):t.fits es.size=true:=by
 unfold SetTable.fits SetTable.fill;rw [T.du,T.size,T.esize];simp;exact hl
def Tb.odd{es:Array (Int×Value)}(T:Tb t es l):t.gaveWay=false:=by
 unfold SetTable.gaveWay;rcases T.ms with e | e<;>rw [e]<;>rfl
def ZuE{es:Array (Int×Value)}(T:Tb t es l):HAt l (λi=>(es[i]?.map (·.1)).getD 0):=λi e h=>by
 show ((es[i]?.map (·.1)).getD 0)=_;rw [<-Ni,T.el,Cz,h];rfl
def j9{x:Addr}{es:Array (Int×Value)}(hu:A.units<cLine)(ho:s.heap.get? a=some o)(hd:o.data=.set es ep t)(T:Tb t es l)(hl:l.length<=t.mask)(hel:∀e∈l,∃ks',El prog w s.heap e.2 ks')(hx:IsTupleKey (intKind prog w) s.heap ks x) :
  ∀n fuel stand,n<fuel->n<=10*(13+t.mask)->(stand.getD (t.probeStart (tupleKeyHash (intKind prog w) ks))).dummy=none->Es t.mask (Occ l) n (stand.getD (t.probeStart (tupleKeyHash (intKind prog w) ks))) ->
   ((∃e∈l,El prog w s.heap e.2 ks/\Rch t.mask (Occ l) (stand.getD (t.probeStart (tupleKeyHash (intKind prog w) ks))) e.1)/\R (.there none) s)\/((∀e∈l,¬El prog w s.heap e.2 ks)/\∀j,¬Occ l j->Rch t.mask (Occ l) (stand.getD (t.probeStart (tupleKeyHash (intKind prog w) ks))) j->R (.free j false) s) ->
   wpAny (model prog w) A (setSearchFrom a (.ref x) (tupleKeyHash (intKind prog w) ks) true fuel stand) R E s:=by
 intro n
 induction n using Nat.strongRecOn with
 | ind n ih=>
  intro fuel stand X W J V B;obtain ⟨fuel,rfl⟩ : ∃k,fuel=k+1:=⟨fuel - 1,by omega⟩;unfold setSearchFrom;refine Ac (KN ho hd (T.fits hl) ?_);dsimp only;rw [T.odd];simp only [FN,Dp];generalize hp:stand.getD (t.probeStart (tupleKeyHash (intKind prog w) ks))=p at *;rcases Z8 T (ZuE T) n (10*turns t.mask) p J V (by unfold turns;omega) with ⟨j,e1,e2,e3,e4⟩ | ⟨i,e,p',n',e1,e2,e3,e4,e5,e6,e7,e8,e9⟩
  .generalize hm:t.probe _ (tupleKeyHash (intKind prog w) ks) p=met;have C:=hm.symm.trans e1;subst C;refine Aj ?_;rcases B with ⟨⟨e,he,hel',H⟩,_⟩ | ⟨_,B⟩
   .obtain ⟨_,_,_,N⟩:=hel';exact aB H (e4 e he N)
   .exact B j e2 e3
  .generalize hm:t.probe _ (tupleKeyHash (intKind prog w) ks) p=met;have C:=hm.symm.trans e1;subst C;dsimp only;have v:=Ed e2;obtain ⟨ks',y,K,D,G⟩:=hel e v;have M:es[i]?=some e.2:=by rw [<-Ni,T.el,Cz,e2];rfl
   have g:es[i]?=some (e.2.1,Value.ref y):=by rw [M,<-K]
   have f:∀c,c.getD (t.probeStart (tupleKeyHash (intKind prog w) ks))=adv t.mask p'->¬ks'=ks->wpAny (model prog w) A (setSearchFrom a (.ref x) (tupleKeyHash (intKind prog w) ks) true fuel c) R E s:=λc h L=>by
    refine ih n' e6 fuel c (by omega) (by omega) ?_ ?_ ?_
    .rw [h];unfold adv;split<;>exact e5
    .rw [h];exact e7
    .rw [h];rcases B with ⟨⟨I,r,hel',H⟩,u⟩ | ⟨hno,B⟩
     .left;refine ⟨⟨I,r,hel',e9 I r hel'.choose_spec.2.2 (λz=>?_) H⟩,u⟩;subst z;exact L (El.inj ⟨y,K,D,G⟩ hel')
     .exact .inr ⟨hno,λj S H=>B j S (e8 j H)⟩
   have d:ks'=ks->R (.there none) s:=λm=>by
    subst m;rcases B with ⟨_,u⟩ | ⟨hno,_⟩
    .exact u
    .exact aB ⟨y,K,D,G⟩ (hno e v)
   rw [g];have h:∀y∈List.map (λx=>x.2) (Array.filter (λx=>x.1==tupleKeyHash (intKind prog w) ks) es).toList,∃b ks',y=Value.ref b/\IsTupleKey (intKind prog w) s.heap ks' b:=λy D=>by
    obtain ⟨q,u,rfl⟩:=BZ.mp D;rw [Array.toList_filter] at u;have u:=(List.mem_filter.mp u).1;rw [T.el] at u;obtain ⟨I,r,rfl⟩:=BZ.mp u;obtain ⟨U,Q,O,P,_⟩:=hel I r;exact ⟨Q,U,O,P⟩
   have F:t.sameMemory t.moves t.mask=some true:=by unfold SetTable.sameMemory;simp
   cases hled:t.led
   all_goals simp only [Bool.not_false,Bool.not_true,FN,Dp,GD]
   .refine Ac (lz hx h ?_);simp only [FN,Dp];refine Ac (Dy (wpAny_eqBool_tuple hu D hx ?_));refine Ac (KN ho hd (T.fits hl) ?_);by_cases m:ks'=ks
    .rw [Dj m];simp only [Bool.and_true,GD];exact Aj (d m)
    .rw [Bl m];simp only [Bool.and_false,FN,Dp];rw [F];simp only [GD];rw [T.live e2];dsimp only;rw [g];refine wpAny_bind (wpAny_of_eq (show isSame (.ref y) (.ref y)=pure true by unfold isSame;simp) ?_);refine Ac (Aj ?_);exact f (some _) rfl m
   .refine Ac (Dy (wpAny_eqBool_tuple hu D hx ?_));refine Ac (KN ho hd (T.fits hl) ?_);by_cases m:ks'=ks
    .rw [Dj m];simp only [Bool.and_true,GD];exact Aj (d m)
    .rw [Bl m];simp only [Bool.and_false,FN,Dp];rw [F];simp only [GD];rw [T.live e2];dsimp only;rw [g];refine wpAny_bind (wpAny_of_eq (show isSame (.ref y) (.ref y)=pure true by unfold isSame;simp) ?_);refine Ac (Aj ?_);exact f (some _) rfl m
end
section
variable{prog:Program} {E:Value->Shared->Prop}
def SetT(prog:Program)(w:World)(h:Heap)(a:Addr)(kss:List (List Int)):Prop:=∃o c d t l,h.get? a=some o/\o.ExactSet/\o.data=.set c d t/\Tb t c l/\(t.mask=7->l.length<=4)/\l.length<=16 /\
 (∀e∈l,∃b∈kss,El prog w h e.2 b)/\(∀b∈kss,∃e∈l,El prog w h e.2 b)/\l.length=kss.length
def El.keeps{es:Array (Int×Value)}(x:El prog w h p ks)(ho:h.get? a=some o)(hd:o.data=.set es ep t)(hs:Heap.SameBut a h h'):El prog w h' p ks:=by
 obtain ⟨x,e,⟨g,b,n,d,j,f,k⟩,i⟩:=x;have c:x≠a:=by
  lia
 exact ⟨x,e,⟨g,b,n,(hs.2 x c).trans d,j,f,k⟩,i⟩
def lA(r:Rch m occ p j):p.j+p.more<=m->j<=m:=by
 induction r with
 | here p=>lia
 | @next p j _ _ ih=>
  intro h;refine ih ?_;unfold adv;split
  .lia
  .have a:(leap m p.i p.perturb).1<=m:=by
    unfold leap;have:=JZ (p.i*5+1+p.perturb/32) (show 0<m+1 by omega);omega
   have:=VN a
   lia
def pI(t:SetTable)(j:Nat):(t.put j).1.mask=t.mask/\(t.put j).1.plain=t.plain:=⟨rfl,rfl⟩
def pD{x:Addr}(hu:A.units<cLine)(hS:SetT prog w s.heap a kss)(hx:IsTupleKey (intKind prog w) s.heap ks x)(hn:kss.length+1<=16)(h:∀b h',Heap.SameBut a s.heap h'->SetT prog w h' a (if ks∈kss then kss else kss++[ks])->Q b { s with heap:=h' }) :
  wpAny (model prog w) A (setAddHashed a (.ref x) (tupleKeyHash (intKind prog w) ks)) Q E s:=by
 obtain ⟨o,Y,X,t,l,D,J,u,T,h7,h16,F,H,p⟩:=hS;have C:l.length<=t.mask:=by rcases T.ms with e | e<;>rw [e]<;>omega
 refine Dy (Ac (KN D u (T.fits C) ?_));obtain ⟨e,he,hf⟩:=Xf (js:=l.map (·.1)) (by rw [Ax];exact C);have hE:Es t.mask (Occ l) (10*(13+t.mask)) (t.probeStart (tupleKeyHash (intKind prog w) ks)):=by
  exact ends T.ms (by have:=JZ (bits (tupleKeyHash (intKind prog w) ks)) (show 0<t.mask+1 by omega);omega) (Zu _) he λ⟨f,he',q⟩=>hf (BZ.mpr ⟨f,he',q⟩)
 have hb:10*(13+t.mask)<100000:=by rcases T.ms with e | e<;>rw [e]<;>decide
 refine Ac (j9 hu D u T C (λe he=>let ⟨k,_,q⟩:=F e he;⟨k,q⟩) hx (10*(13+t.mask)) 100000 none hb (Ar _) rfl hE ?_);by_cases hk:ks∈kss
 .left;obtain ⟨e,he,v⟩:=H ks hk;refine ⟨⟨e,he,v,?_⟩,?_⟩
  .have:=T.rc e he;rw [v.choose_spec.2.2] at this;exact this
  .refine Aj ?_;have:=h false s.heap (Heap.SameBut.refl a s.heap) (by rw [iP hk];exact ⟨o,Y,X,t,l,D,J,u,T,h7,h16,F,H,p⟩);exact this
 .right;refine ⟨λe he v=>?_,λj hj hr=>?_⟩
  .obtain ⟨ks',hk',q⟩:=F e he;have:=El.inj v q;subst this;exact hk hk'
  .dsimp only;refine Ac (KN D u (T.fits C) ?_);have hjm:j<=t.mask:=by
    have hi:bits (tupleKeyHash (intKind prog w) ks)%(t.mask+1)<=t.mask:=by
     have:=JZ (bits (tupleKeyHash (intKind prog w) ks)) (show 0<t.mask+1 by omega);omega
    refine lA hr ?_;show bits (tupleKeyHash (intKind prog w) ks)%(t.mask+1)+(runEnd t.mask (bits (tupleKeyHash (intKind prog w) ks)%(t.mask+1)) - bits (tupleKeyHash (intKind prog w) ks)%(t.mask+1))<=t.mask;have:=VN hi;omega
   obtain ⟨y,Z,B⟩:=T.put hjm hj hr;obtain ⟨em,epl⟩:=pI t j;generalize ht':(t.put j).1=t' at B em epl ⊢;generalize hes':insertAt Y (t.put j).2 (tupleKeyHash (intKind prog w) ks,Value.ref x)=es' at B ⊢;have r:y.length=l.length+1:=by rw [Z.length_eq];rfl
   have U:y.length<=t'.mask:=by rw [em,r];rcases T.ms with e | e<;>rw [e]<;>omega
   have G:wpAny (model prog w) A (do
     storeSet a es' t'
     if (!false&&t'.tooFull)=true then do
      setRelay a (grown (Y.size+1))
      pure true
     else pure true) Q E s:=by
    have N:(s.heap.update a (Obj.putSet es' t')).get? a=some { o with data:=.set es' (X+1) t' }:=by
     have:=QF (Obj.putSet es' t') D (by rw [putSet_of es' t' u];rfl);rw [putSet_of es' t' u] at this;exact this
    have n:=Rk s.heap a (Obj.putSet es' t');have S:El prog w (s.heap.update a (Obj.putSet es' t')) (tupleKeyHash (intKind prog w) ks,Value.ref x) ks:=El.keeps ⟨x,rfl,hx,rfl⟩ D u n;have g1:∀e∈y,∃k∈kss++[ks],El prog w (s.heap.update a (Obj.putSet es' t')) e.2 k:=λe he=>by
     rcases Aq.mp (Z.mem_iff.mp he) with rfl | he
     .exact ⟨ks,by simp,S⟩
     .obtain ⟨k,i,g⟩:=F e he;exact ⟨k,JK _ i,g.keeps D u n⟩
    have g2:∀k∈kss++[ks],∃e∈y,El prog w (s.heap.update a (Obj.putSet es' t')) e.2 k:=λk hk'=>by
     rcases CK.mp hk' with hk' | hk'
     .obtain ⟨e,i,g⟩:=H k hk';exact ⟨e,Z.mem_iff.mpr (Bp _ i),g.keeps D u n⟩
     .rw [GQ] at hk';subst hk';exact ⟨_,Z.mem_iff.mpr Bf,S⟩
    have hz:es'.size<=sizeLine:=by rw [B.esize,r,sizeLine_eq];omega
    refine Ac (wpAny_storeSet_of D u ?_ hz);have M:t'.fill=y.length:=by unfold SetTable.fill;rw [B.du,B.size];rfl
    by_cases c:t'.tooFull=true
    .rw [c];unfold SetTable.tooFull at c;rw [M,em,r] at c;have c:=of_decide_eq_true c;have e7:t.mask=7:=by
      rcases T.ms with e | e
      .exact e
      .rw [e] at c;omega
     have R:=h7 e7;have e4:l.length=4:=by omega
     have ew:Y.size+1=5:=by rw [T.esize,e4]
     rw [ew];obtain ⟨I,d,W,r1,r2,r3,r4,T2,K⟩:=B.relay (by omega) (wanted:=grown 5) (by decide);have P:∀e∈W,∃f∈y,f.2=e.2:=λe he=>by
      have:=K.mem_iff.mp (BZ.mpr ⟨e,he,rfl⟩);obtain ⟨f,i,g⟩:=BZ.mp this;exact ⟨f,i,g⟩
     have L:∀e∈y,∃f∈W,f.2=e.2:=λe he=>by
      have:=K.mem_iff.mpr (BZ.mpr ⟨e,he,rfl⟩);obtain ⟨f,i,g⟩:=BZ.mp this;exact ⟨f,i,g⟩
     have V:W.length=y.length:=by have:=K.length_eq;simpa using this
     refine Ac ?_;refine Ac (KN N rfl (B.fits U) ?_);dsimp only;rw [iN (by decide),r1];refine Ac ?_;have O:(d.filterMap (es'[·]?)).size=es'.size:=by rw [T2.esize,V,B.esize]
     show wpAny (model prog w) A (if ((d.filterMap (es'[·]?)).size != es'.size)=true then _ else _) _ _ _
     rw [iN (by rw [O];simp)];refine Aj ?_;have hg2:((s.heap.update a (Obj.putSet es' t')).update a (Obj.putSet (d.filterMap (es'[·]?)) I)).get? a=some { o with data:=.set (d.filterMap (es'[·]?)) (X+1+1) I }:=by
      have:=QF (Obj.putSet (d.filterMap (es'[·]?)) I) N (by rw [putSet_of _ I rfl];rfl);rw [putSet_of _ I rfl] at this;exact this
     have m:=Rk (s.heap.update a (Obj.putSet es' t')) a (Obj.putSet (d.filterMap (es'[·]?)) I);refine wpAny_storeSet_of N rfl ?_ (by rw [O];exact hz);refine Aj (h true _ (n.trans m) ?_);rw [iN hk];refine ⟨_,_,_,I,W,hg2,J,rfl,T2,λz=>by rw [r2] at z;omega,by omega,λe he=>?_,λk hk'=>?_,by rw [V,r,p];simp⟩
     .obtain ⟨f,i,g⟩:=P e he;obtain ⟨k,h3,R⟩:=g1 f i;rw [g] at R;exact ⟨k,h3,R.keeps N rfl m⟩
     .obtain ⟨e,i,g⟩:=g2 k hk';obtain ⟨f,h3,R⟩:=L e i;rw [<-R] at g;exact ⟨f,h3,g.keeps N rfl m⟩
    .rw [Bool.eq_false_iff.mpr c];refine Aj (h true _ n ?_);rw [iN hk];refine ⟨_,es',X+1,t',y,N,J,rfl,B,λz=>?_,by omega,g1,g2,by rw [r,p];simp⟩;have:=of_decide_eq_false (Bool.eq_false_iff.mpr c);omega
   split
   .refine Ac (lQ hx ?_);exact G
   .refine Ac (Aj ?_);exact G
end
end L2.Sx
namespace L2.Sx
open PySem.SetTable
open Dl (firsts)
def M6(kf):∀i,(firsts kf i).length<=i
 | 0=>Ar _
 | i+1=>by
  have:=M6 kf i;unfold firsts;split
  .omega
  .simp;omega
section
variable{prog:Program} {R:Result->Shared->Prop} {I:Addr} {fp wr:List Addr} {G:Array GenState->Array GenState->Prop} {P:Nat->Value->Prop} {St:Nat->Shared->Prop}
def SetT.keep(hS:SetT prog w h a kss)(ha:∀o,h.get? a=some o->h'.get? a=some o)(hk:∀b o,h.get? b=some o->o.cls=.type "tuple"->h'.get? b=some o):SetT prog w h' a kss:=by
 obtain ⟨o,G,z,t,l,D,i,B,T,E,m,p,g,d⟩:=hS;have y:∀{e s},El prog w h e s->El prog w h' e s:=λ{e s} q=>by
  obtain ⟨x,F,⟨u,c,n,j,v,r⟩,A⟩:=q;exact ⟨x,F,⟨u,c,n,hk x u j v,v,r⟩,A⟩
 exact ⟨o,G,z,t,l,ha o D,i,B,T,E,m,λe C=>let ⟨k,h1,h2⟩:=p e C;⟨k,h1,y h2⟩,λk f=>let ⟨e,h1,h2⟩:=g k f;⟨e,h1,y h2⟩,d⟩
def SetT.cls(hS:SetT prog w h a kss):∀o,h.get? a=some o->o.cls≠.type "tuple":=λf b d=>by
 obtain ⟨o,i,g,t,l,e,c,_⟩:=hS;rw [e] at b;cases b;rw [c.1] at d;exact aB d (by decide)
def fj(W:WalksS prog w A.in1 I fp wr G n P St)(S)(hSf:S∉fp)(hwr:∀i s,St i s->∀b∈wr,∀o,s.heap.get? b=some o->o.cls≠.type "tuple")(kf)(hu:A.in1.units<cLine)(h0)(hval:∀i v,P i v->∃x,v=.ref x/\IsTupleKey (intKind prog w) h0 (kf i) x)(hb:n<=16) :
  ∀k i s,n - i=k->i<=n->St i s->SetT prog w s.heap S (firsts kf i)->(∀b o,h0.get? b=some o->o.cls=.type "tuple"->s.heap.get? b=some o) ->
   (∀s',Moved (S::wr) G s s'->SetT prog w s'.heap S (firsts kf n)->R (.ok (.ret .none)) s')->codeAny (model prog w) A (.builtin "set.update.loop" ⟨[.ref S,.ref I],[]⟩) R s:=by
 have u:=λh=>hSf (W.sub _ h);have d:∀b∈wr,b∈S::wr:=λb hb=>Bp _ hb;have M:∀{i s s'},St i s->Moved wr G s s'->∀b o,s.heap.get? b=some o->o.cls=.type "tuple"->s'.heap.get? b=some o:=λ{i s s'} O m b o e c=>m.heap b o (λz=>hwr i s O b z o e c) e;intro k
 induction k with
 | zero=>
  intro i s Y X a K _ J;obtain rfl:i=n:=by omega
  refine PL F.entry_set_update_loop ?_;rw [Around.under_plainId F.plain_set_update_loop _];refine Ac (W.done s _ _ a λs' f=>?_);exact Aj (J s' (f.mono d) (K.keep (λo e=>f.heap S o u e) (M a f)))
 | succ k ih=>
  intro i s Y X a K E J;have t:i<n:=by omega
  refine PL F.entry_set_update_loop ?_;rw [Around.under_plainId F.plain_set_update_loop _];refine Ac (W.item i s _ _ t a λv s' T C f=>?_);obtain ⟨x,rfl,L⟩:=hval i v T;have q:=K.keep (λo e=>f.heap S o u e) (M a f);have g:=λb o e c=>M a f b o (E b o e c) c;have N:IsTupleKey (intKind prog w) s'.heap (kf i) x:=by
   obtain ⟨o,p,m,U,c,r⟩:=L;exact ⟨o,p,m,g x o U c,c,r⟩
  refine Ac (Dy ?_);unfold setAdd;refine Dy ?_;refine Ac (wpAny_pyHash_tuple hu N ?_);refine pD hu q N (by have:=M6 kf i;omega) λb Q j D=>?_;have V:∀b o,s'.heap.get? b=some o->o.cls=.type "tuple"->Q.get? b=some o:=λb o e c=>by
   rw [j.2 b (λz:b=S=>by subst z;exact q.cls o e c)];exact e
  refine Aj ⟨plainId_quiet F.plain_set_update_loop _,ih (i+1) _ (by omega) t (W.frame _ s' _ _ C (Nat.le_add_right _ _) λb l o e=>?_) D (λb o e c=>V b o (g b o e c) c) λH y B=>?_⟩
  .rw [j.2 b (λz:b=S=>hSf (by rw [<-z];exact l))];exact e
  .refine J H (Moved.trans W.gtrans ((f.mono d).then_heap (Nat.le_add_right _ _) λb o l e=>?_) y) B;rw [j.2 b (λz:b=S=>l (by rw [z];exact Bf))];exact e
end
open Dl (firsts)
section
variable{prog:Program} {E:Value->Shared->Prop}
abbrev Gq(led:Bool):Obj:={ cls:=.type "set",dict:=none,data:=.set #[] 0 (.fresh 0 0 led) }
def oZ{h:Heap}{a:Addr}{led:Bool}(ho:h.get? a=some (Gq led)):SetT prog w h a [] :=
 ⟨_,#[],0,.fresh 0 0 led,[],ho,⟨rfl,rfl,rfl⟩,rfl,⟨.inl rfl,rfl,rfl,rfl,.nil,λ_ h=>(BL h).elim,λ_ h=>(BL h).elim⟩,λ_=>by decide,by decide,λ_ h=>(BL h).elim,λ_ h=>(BL h).elim,rfl⟩
set_option maxHeartbeats 8000000 in
def call_set(hh:A.handled=none)(hu:A.units+20<cLine)(hl:s.heap.IsList l items)(hi:∀i v,items[i]?=some v->∃x,v=.ref x/\IsTupleKey (intKind prog w) s.heap (kf i) x)(hb:items.size<=16)(h:∀(h':Heap) (tk:Nat),SetT prog w h' s.heap.objs.size (firsts kf items.size)->(∀b o,b<s.heap.objs.size->s.heap.get? b=some o->h'.get? b=some o)->Q (.ref s.heap.objs.size) { s with heap:=h',toks:=tk }) :
  wpAny (model prog w) A (call (.type "set") [.ref l]) Q E s:=by
 obtain ⟨c,tl,W⟩:=F.called_set.mro;have T:=F.called_set.made;have hsub:=F.called_set.sub;refine wpAny_call (codeAny_of_tree ?_);refine Aj ⟨Code.quiet_builtin _ (by decide +kernel),PL F.entry_type_call ?_⟩;rw [Around.under_plain (weight_type_call_type "set" [.ref l] []) rfl];have h1:=F.called_set.notType;have h2:=F.called_set.canCreate;have hct:=F.typeCall_set_1 (.ref l)
 repeat (any_goals (first | assumption | wp_step))
 refine K6 (code_set_new_1 (.ref l) (E:=E) (Q₁:=λu k=>∃a,u=.ref s.heap.objs.size/\k={ s with heap:=s.heap.push (Gq a) }) λa=>⟨a,rfl,rfl⟩) λr k G=>?_
 cases r with
 | error e=>exact G
 | ok fl=>
  cases fl with
  | next=>exact G.elim
  | brk=>exact G.elim
  | cont=>exact G.elim
  | ret u=>
   obtain ⟨a,rfl,rfl⟩:=G;have hS:(s.heap.push (Gq a)).get? s.heap.objs.size=some (Gq a):=By _ rfl;have hT:Shared.TypeIs { s with heap:=s.heap.push (Gq a) } (.ref s.heap.objs.size) "set":=⟨_,hS,rfl⟩
   have hli:=F.called_set.init.lookup;have hbi:=F.called_set.init.bind (.ref s.heap.objs.size)
   repeat (any_goals (first | assumption | wp_step))
   refine K6 (codeAny_call_builtin (R:=wants (λr j=>r=.none/\∃h' tk,j={ s with heap:=h',toks:=tk }/\SetT prog w h' s.heap.objs.size (firsts kf items.size) /\
     (∀b o,b<s.heap.objs.size->s.heap.get? b=some o->h'.get? b=some o)) E) F.called_set.init.plain F.entry_set_init (check_set_init_1 hT ?_)) λp j d=>?_
   .obtain ⟨ol,t,C,nl,D⟩:=hl;obtain ⟨Z,n,U,g⟩:=ol;simp only at C D;subst C;subst D;have B:(s.heap.push (Gq a)).get? l=some { cls:=.type "list",dict:=n,data:=.seq items nl,slots:=g }:=BJ _ t;have V:=F.sub_list_set;have Y:=F.sub_list_frozenset;have y:(s.heap.push (Gq a)).IsList l items:=⟨_,B,rfl,nl,rfl⟩;unfold Builtin.«set.__init__» noKeywords Builtin.Frozenset.updateFrom;generalize hPI:pyIter=PI
    wp_walk
    subst hPI;refine La y ?_;refine Ac (wpAny_runValue ?_);have q:l<s.heap.objs.size:=BX t;have K:A.in1.in1.in1.handled=none:=by simp [hh]
    have z:l≠(s.heap.push (Gq a)).objs.size:=by
     rw [Eu];exact Bm (Nat.lt_succ_of_lt q)
    have I:s.heap.objs.size∉[(s.heap.push (Gq a)).objs.size,l]:=by
     rw [Eu];simp only [Aq,GQ,BL,Bj,not_or];exact ⟨Bm (Nat.lt_succ_self _),Ib q⟩
    refine fj ((Walks.list K _ l z items).toS) s.heap.objs.size I ?hw kf (by show A.units+1+1+1<cLine;omega) s.heap hi hb (items.size - 0) 0 _ (by omega) (Cq _)
     ⟨⟨_,By _ rfl,rfl,rfl⟩,(y.push _)⟩ ?hS0 ?hT0 ?hR
    case hw=>
     rintro i s' ⟨⟨o',P,L,_⟩,_⟩ b f o'' X hc;rw [GQ] at f;subst f;rw [P] at X;cases X;rw [L] at hc;exact aB hc (by decide)
    case hS0=>exact oZ (BJ _ hS)
    case hT0=>exact λb o e _=>BJ _ (BJ _ e)
    case hR=>
     intro s' H m;obtain ⟨h',g',d',S,O⟩:=s';have eg:g'=s.gens:=H.gens;have ed:d'=s.drawn:=H.drawn;have eo:O=s.os:=H.os;subst eg;subst ed;subst eo;refine Aj ?_;refine Aj ⟨rfl,h',S,rfl,m,λb o f e=>?_⟩;have N:=Bm f;have M:b≠(s.heap.push (Gq a)).objs.size:=by
      rw [Eu];exact Bm (Nat.lt_succ_of_lt f)
     exact H.heap b o (by simp only [Aq,GQ,BL,Bj,not_or];exact ⟨N,M⟩) (BJ _ (BJ _ e))
   .cases p with
    | error e=>exact d
    | ok fl₂=>
     cases fl₂ with
     | next=>exact d.elim
     | brk=>exact d.elim
     | cont=>exact d.elim
     | ret r=>
      obtain ⟨rfl,h',tk,rfl,m,J⟩:=d
      repeat (any_goals (first | assumption | wp_step))
      exact h _ _ m J
end
end L2.Sx
namespace L2
def Zv4:bootBuiltins "set"=some (.type "set"):=by decide +kernel
def SetN(o:Obj)(n:Nat):Prop:=o.ExactSet/\n<=16/\∃a b t,o.data=.set a b t/\t.fits a.size=true/\a.size=n
def X6(K:W.Frag)(H:Hp)(xs:List V)(kss:List (List Int)):Prop:=∀i x,xs[i]?=some x->∃a,x=.ref a/\SqT K H a ((kss.getD i []).map V.int)
def rSet(K:W.Frag):List V->Hp->VK->Prop:=λd H Q=>∃l c b,d=[.ref l]/\SqL K H l c/\X6 K H c b/\c.length<=16/\∀a o,H a=none->SetN o (Dl.firsts (λi=>b.getD i []) c.length).length->Q (.ref a) (upd H a (objX a o))
def aF:List V->Hp->VK->Prop:=λb H Q=>∃a o n,b=[.ref a]/\H a=some (objX a o)/\SetN o n/\Q (.int (n:Nat)) H
section
def W4:∀{ns:List Int} {its:List Value},Vals (ns.map V.int) its->ItemsAre (intKind prog w) ns its
 | [],_,.nil=>.nil
 | n::r,_,.cons h t=>by
  obtain ⟨a,rfl⟩:=h;exact .cons (intKind_is _ _ _ _) (W4 t)
def dX:∀{xs:List V} {us:List Value},Vals xs us->∀{i:Nat} {u:Value},us[i]?=some u->∃x,xs[i]?=some x/\RelV x u
 | _,_,.cons h _,0,_,e=>⟨_,rfl,by cases e;exact h⟩
 | _,_,.cons _ t,i+1,_,e=>dX t (by simpa using e)
 | _,_,.nil,i,_,e=>by simp at e
def YC:∀{xs:List V} {us:List Value},Vals xs us->us.length=xs.length
 | _,_,.nil=>rfl
 | _,_,.cons _ t=>by simp [YC t]
def pU(hr:Room k X.A):Dg X (.type "set") (rSet X.K):=by
 intro w s Y H vs us Q I rv ⟨l,xs,q,e,hl,hk,p,P⟩;subst e;cases rv with
 | cons r1 rr=>
  cases rr;cases r1;obtain ⟨F,r,⟨o,n,e1,E,_,e3⟩,_⟩:=I.list hl;have c:=YC r;refine L2.Sx.call_set (kf:=λi=>q.getD i []) hr.hd (by have:=hr.un;omega) ⟨o,e1,E,n,e3⟩ (λi v W=>?_) (by simpa [c] using p) λN tk O d=>?_
  .obtain ⟨x,M,C⟩:=dX r (by simpa using W);obtain ⟨a,rfl,J⟩:=hk i x M;cases C;obtain ⟨G,U,⟨g,z,Z,m,p3⟩,_⟩:=I.tuple J;exact ⟨a,rfl,g,G.toArray,m,z,Z,p3,by simpa using W4 U⟩
  .have R:∀b u,s.heap.get? b=some u->N.get? b=some u:=λb u e=>d b u (BX e) e;obtain ⟨g,L,B,t,S,ho,h,D,T,h7,y,_,_,f⟩:=O;have j:S.length<=t.mask:=by rcases T.ms with e | e<;>rw [e]<;>omega
   have V:=I.laid (t':=tk) R (Ar _) (sZ ho);refine ⟨.ref s.heap.objs.size,_,V,rfl,P _ g (I.hok.fresh (Ar _)) ⟨h,?_,L,B,t,D,T.fits j,?_⟩⟩
   .rw [<-c];have e:=f;rw [GR] at e;omega
   .rw [T.esize,f,<-c];simp
def qC:Dg X (.builtin "len") aF:=by
 intro c s Y H p l Q I i ⟨a,o,n,e,g,⟨b,f,r,m,t,d,k,j⟩,q⟩;subst e;cases i with
 | cons r1 rr=>
  cases rr;cases r1;have h:=gA I.hok g;refine call_len_set h b d k (by omega) ?_;rw [j];exact ⟨.int (n:Nat),H,I.tok _,⟨_,rfl⟩,q⟩
end
end L2
namespace L2.Ds
open Dl
section
def Yq{F:Hp}{xs:List V}{ds:List D}{ns:List Int}(h:Rps K mg F xs ds)(e:intsOf ds=some ns):xs=ns.map V.int:=by
 cases h with
 | nil=>cases e;rfl
 | @cons x xs d ds h r=>
  cases d with
  | int n=>
   cases q:intsOf ds with
   | none=>unfold intsOf at e;rw [q] at e;cases e
   | some ms=>
    unfold intsOf at e;rw [q] at e;cases e;cases h;rw [Yq r q];rfl
  | _=>cases e
def Zz{F H:Hp}(s:Same F H){xs:List V}{ds:List D}{ks:List (List Int)}(h:Rps K mg F xs ds)(e:keysOf ds=some ks):X6 K H xs ks:=by
 cases h with
 | nil=>intro i x h;simp at h
 | @cons x xs d ds h r=>
  cases d with
  | tup es=>
   cases q:intsOf es with
   | none=>unfold keysOf at e;rw [q] at e;cases e
   | some k=>
    cases q2:keysOf ds with
    | none=>unfold keysOf at e;rw [q,q2] at e;cases e
    | some kr=>
     unfold keysOf at e;rw [q,q2] at e;cases e;intro i x a;cases i with
     | zero=>
      cases a;cases h with
      | tup ht rt=>
       rw [Yq rt q] at ht;exact ⟨_,rfl,Du s ht⟩
     | succ i=>exact Zz s r q2 i x (by simpa using a)
  | _=>cases e
end
section
variable {p p1 q p2:Pos}
def qT(hr:Room k X.A)(hgl:Gl X "len")(hml:X.mg "len"=none)(hgs:Gl X "set")(hms:X.mg "set"=none)(he:DE X E e te me)(h1:starEach [e] X.env=[(false,eval e X.env)]:=by rfl)(h2:starEach [Expr.Call (.Name "set" q) [e] [] p2] X.env=[(false,eval (.Call (.Name "set" q) [e] [] p2) X.env)]:=by rfl) :
  DE X E (.Call (.Name "len" p) [.Call (.Name "set" q) [e] [] p2] [] p1) (tCB aF (Bo (tCB (rSet X.K) (Bo te tNil)) tNil)) (o1 S6 me):=by
 refine ⟨Xq qC hgl hml J6 (Ea (XN (pU hr) hgs hms Zv4 (Ea he.p Dv h1) (by decide) (by decide) h1 rfl) Dv h2) (by decide) (by decide) h2 rfl,?_⟩;intro f g F H Y Z j;refine (he.s f g F H Y Z j).bind λd c x m b h=>?_;cases m with
 | lst ds=>
  cases h with
  | lst hl rl=>
   rename_i l xs;show Ans X.mg E (Rp X.K X.mg) d c (match keysOf ds with | some ks=>if ds.length<=16 then .ok (.int ((firsts (λi=>ks.getD i []) ds.length).length:Nat)) else .bad | none=>.bad) _
   cases hk:keysOf ds with
   | none=>trivial
   | some ks=>
    by_cases h16:ds.length<=16
    .show Ans X.mg E (Rp X.K X.mg) d c (if ds.length<=16 then .ok (.int ((firsts (λi=>ks.getD i []) ds.length).length:Nat)) else .bad) _
     rw [iP h16];intro Q q;refine ⟨_,_,ks,rfl,b.s.seq hl,Zz b.s rl hk,by rw [rl.length];exact h16,λa o n r=>⟨a,o,_,rfl,Ay,r,?_⟩⟩;rw [rl.length];exact q _ _ _ (.new b.s n _) (.int _)
    .show Ans X.mg E (Rp X.K X.mg) d c (if ds.length<=16 then .ok (.int ((firsts (λi=>ks.getD i []) ds.length).length:Nat)) else .bad) _
     rw [iN h16];trivial
 | _=>trivial
end
end L2.Ds
namespace Dl
def mkS(l:List Nat):Str:=⟨l.toArray⟩
def cpL(x:Str):List Nat:=x.cps.toList
def bStr:List D->Res D
 | [.int i]=>if i.natAbs.log2<1920 then .ok (.str (Str.ofString (toString i))) else .bad
 | _=>.bad
def digB(c:Nat):Bool:=decide (48<=c)&&decide (c<=57)
def digV(l:List Nat):Nat:=l.foldl (λa c=>a*10+(c - 48)) 0
def figL(l:List Nat):Option Nat:=if l≠[]/\l.all digB=true then some (digV l) else none
def intL:List Nat->Option Int
 | []=>none
 | c::r=>if c=45 then (figL r).map (λn:Nat=>-(n:Int)) else (figL (c::r)).map λn:Nat=>(n:Int)
def RX:List D->Res D
 | [.str x]=>if x.length<=640 then ofO ((intL (cpL x)).map D.int) else .bad
 | _=>.bad
def Qf:List D->Res D
 | [.lst xs]=>.ok (.int xs.length)
 | [.tup xs]=>.ok (.int xs.length)
 | [.str x]=>if x.length<=LIM then .ok (.int x.length) else .bad
 | _=>.bad
def sD(f:Str->D->Res D)(a b:ME):ME:=λZ=>(a Z).bind λx=>match x with
 | .str z=>(b Z).bind (f z)
 | _=>.bad
def Pk(x:Str):D->Res D
 | .str y=>.ok (.bl ((cpL x).take (cpL y).length==cpL y))
 | _=>.bad
def Ci(c:Nat):List Nat->List (List Nat)
 | []=>[[]]
 | x::r=>if x=c then []::Ci c r else match Ci c r with
  | []=>[[x]]
  | w::ws=>(x::w)::ws
def G4(x:Str):D->Res D
 | .str y=>(match cpL y with
  | [c]=>if x.length<=LIM then .ok (.lst ((Ci c (cpL x)).map λl=>.str (mkS l))) else .bad
  | _=>.bad)
 | _=>.bad
def Dc(c:Nat):List Nat->Option (List Nat×List Nat)
 | []=>none
 | x::r=>if x=c then some ([],r) else (Dc c r).map λp=>(x::p.1,p.2)
def Oo(x:Str):D->Res D
 | .str y=>(match cpL y with
  | [c]=>if x.length<=LIM then (match Dc c (cpL x) with
   | some (a,b)=>.ok (.tup [.str (mkS a),.str y,.str (mkS b)])
   | none=>.ok (.tup [.str x,.str Str.empty,.str Str.empty])) else .bad
  | _=>.bad)
 | _=>.bad
def txts:List D->Option (List Str)
 | []=>some []
 | .str x::r=>(txts r).map (x::·)
 | _::_=>none
def Ak(sep:List Nat):List (List Nat)->List Nat
 | []=>[]
 | [x]=>x
 | x::y::r=>x++sep++Ak sep (y::r)
def sumL(sep:Nat)(ts:List Str):Nat:=(ts.map (·.length)).sum+ts.length*sep
def Jo(x:Str)(ds:List D):Res D:=match txts ds with
 | some ts=>if sumL x.length ts<=LIM then .ok (.str (mkS (Ak (cpL x) (ts.map cpL)))) else .bad
 | none=>.bad
def Fx(x:Str):D->Res D
 | .lst ds=>Jo x ds
 | _=>.bad
def joinRev(x:Str)(j:Nat):ME:=λZ=>(getO Z[j]?).bind λa=>Jo x a.reverse
def dInT:D->D->Res D
 | .str a,.str b=>(match cpL a with
  | [c]=>.ok (.bl ((cpL b).contains c))
  | _=>.bad)
 | _,_=>.bad
def K5:D->D->Res D
 | .str a,.str b=>(match cpL a with
  | [c]=>.ok (.bl (!(cpL b).contains c))
  | _=>.bad)
 | _,_=>.bad
def cutS(x:Str)(lo hi:Option Int):Res D:=if x.length<=LIM then (match lo,hi with
 | some i,none=>if 0<=i then .ok (.str (mkS ((cpL x).drop i.toNat))) else .bad
 | none,some j=>if 0<=j then .ok (.str (mkS ((cpL x).take j.toNat))) else .bad
 | _,_=>.bad) else .bad
def Zxf(x:D)(lo hi:Option Int):Res D:=match x with
 | .str x=>cutS x lo hi
 | _=>.bad
def cutT(a:ME)(lo hi:Ev->Res (Option Int)):ME:=λZ=>(a Z).bind λx=>(lo Z).bind λl=>(hi Z).bind λh=>Zxf x l h
def Zus:D->Res (List D)
 | .str x=>if (cpL x).all (·<128)=true then .ok ((cpL x).map λc=>.str (mkS [c])) else .bad
 | _=>.bad
def ivT(a:ME):MI:=λZ=>(a Z).bind Zus
def nOw:Ev->Bool
 | []=>true
 | .ow _::_=>false
 | _::r=>nOw r
def De(i j:Nat)(nt:MB)(Z:Ev):List D->List (List D)->List D->Res (List (List D))
 | [],gs,g=>.ok (gs++[g])
 | d::r,gs,g=>(noEx (nt ((Z.set i .no).set j (.im d)))).bind λb=>if b=true then De i j nt Z r (gs++[g]) [] else De i j nt Z r gs (g++[d])
def grp(i j k:Nat)(nt:MB):MS:=λZ=>match Z[k]? with
 | some (.im (.lst ds))=>if (nOw Z&&decide (i<Z.length)&&decide (j<Z.length)&&decide (ds.length<1000))=true then (De i j nt Z ds [] []).bind λa=>.ok (.rt (.lst (a.map .lst))) else .bad
 | _=>.bad
def JR(x):mkS (cpL x)=x:=by
 cases x;simp [mkS,cpL]
def Cu(l):cpL (mkS l)=l:=by simp [mkS,cpL]
def G3(x):(cpL x).length=x.length:=by simp [cpL,Str.length]
def RQ(x y):cpL (x++y)=cpL x++cpL y:=by
 show (x.cps++y.cps).toList=_;rw [Array.toList_append];rfl
def ZW(x y):mkS x++mkS y=mkS (x++y):=by
 rw [<-JR (mkS x++mkS y),RQ,Cu,Cu]
def Gy(l):(mkS l).length=l.length:=by rw [<-G3,Cu]
def gO(h:mkS a=mkS b):a=b:=by rw [<-Cu a,h,Cu]
def dj{c:Nat}:∀{w:List Nat},c∉w->Ci c w=[w]
 | [],_=>rfl
 | x::r,h=>by
  have a:¬x=c:=λe=>h (by rw [e];exact Bf);have b:=dj λe=>h (Bp _ e);unfold Ci;rw [iN a,b]
def Yy{c:Nat}(rest):∀{w:List Nat},c∉w->Ci c (w++c::rest)=w::Ci c rest
 | [],_=>by show Ci c (c::rest)=_;rw [Ci,iP rfl]
 | x::r,h=>by
  have a:¬x=c:=λe=>h (by rw [e];exact Bf);have b:=Yy rest λe=>h (Bp _ e);show Ci c (x::(r++c::rest))=_;rw [Ci,iN a,b]
def Gs{c:Nat}:∀{ws:List (List Nat)},ws≠[]->(∀w∈ws,c∉w)->Ci c (Ak [c] ws)=ws
 | [],h,_=>aB rfl h
 | [w],_,h=>dj (h w Bf)
 | w::v::r,_,h=>by
  have ih:=Gs (by simp) λu a=>h u (Bp _ a);show Ci c (w++[c]++Ak [c] (v::r))=_;rw [List.append_assoc];show Ci c (w++c::Ak [c] (v::r))=_;rw [Yy _ (h w Bf),ih]
end Dl
namespace L2.Ds
open Dl
def QB{y:Str}{c:Nat}(h:cpL y=[c]):y=⟨#[c]⟩:=by
 rw [<-JR y,h];rfl
def Mh(h:n<=LIM):n<=sizeLine:=An h (by decide)
section
def Hs:CallD K mg (λxs H Q=>∃i,xs=[.int i]/\i.natAbs.log2<1920/\Q (.str (toString i)) H) bStr:=by
 intro E F H xs b s r;unfold bStr;split
 .obtain ⟨x,rfl,a⟩:=r.one;cases a;split
  .next h=>exact .ret s (.str _) λQ q=>⟨_,rfl,h,q⟩
  .trivial
 .trivial
def Xk(h:figL l=some n):PySem.NumText.AllDigits l/\l≠[]/\PySem.NumText.digitsVal l=n:=by
 unfold figL at h;split at h
 .next e=>
  cases h;refine ⟨λc a=>?_,e.1,rfl⟩;have:=Hu.mp e.2 c a;unfold digB at this;simpa using this
 .cases h
def vR{n:Int}(h:intL (cpL x)=some n)(hl:x.length<=640):PySem.intText? x=some n:=by
 cases e:cpL x with
 | nil=>rw [e] at h;cases h
 | cons c r=>
  rw [e] at h;replace h:(if c=45 then (figL r).map (λn:Nat=>-(n:Int)) else (figL (c::r)).map λn:Nat=>(n:Int))=some n:=h
  split at h
  .next f=>
   subst f;cases ef:figL r with
   | none=>rw [ef] at h;cases h
   | some m=>
    rw [ef] at h;cases h;obtain ⟨b,d,a⟩:=Xk ef;rw [PySem.intText_neg e b d (by omega),a]
  .cases ef:figL (c::r) with
   | none=>rw [ef] at h;cases h
   | some m=>
    rw [ef] at h;cases h;obtain ⟨b,d,a⟩:=Xk ef;rw [<-e] at b d a;have:=PySem.intText_digits b d (by omega);rw [this];exact CP (λk:Nat=>some (k:Int)) a
def W5:List V->Hp->VK->Prop:=λa H Q=>∃x n,a=[.str x]/\PySem.intText? x=some n/\x.length<=640/\Q (.int n) H
def lL:Dg X (.type "int") W5:=by
 intro a s Y H e d Q I r h;obtain ⟨x,n,rfl,c,b,q⟩:=h;obtain ⟨u,rfl,t,rfl⟩:=vals1 r;exact W.KIN.call_text c b ⟨.int _,H,I.tok _,⟨_,rfl⟩,q⟩
def jg:CallD K mg W5 RX:=by
 intro E F H b c s r;unfold RX;split
 .obtain ⟨x,rfl,a⟩:=r.one;cases a;split
  .next z h=>
   cases e:intL (cpL z) with
   | none=>trivial
   | some n=>exact .ret s (.int _) λQ q=>⟨_,n,rfl,vR e h,h,q⟩
  .trivial
 .trivial
def qZ:CallD K mg (λxs H Q=>∃x n,xs=[x]/\LenV K x H n/\Q (.int n) H) Qf:=by
 intro E F H xs b s r;unfold Qf;split
 .obtain ⟨x,rfl,a⟩:=r.one;cases a with
  | lst h q=>exact .ret s (.int _) λQ z=>⟨_,_,rfl,.inl ⟨_,s.seq h,q.length.symm⟩,z⟩
 .obtain ⟨x,rfl,a⟩:=r.one;cases a with
  | tup h q=>exact .ret s (.int _) λQ z=>⟨_,_,rfl,.inr ⟨_,Du s h,q.length.symm⟩,z⟩
 .obtain ⟨x,rfl,a⟩:=r.one;cases a;split
  .next h=>exact .ret s (.int _) λQ z=>⟨_,_,rfl,⟨Mh h,rfl⟩,z⟩
  .trivial
 .trivial
def SmD(K:W.Frag)(mg:Str->Option Value)(r:V->List V->Hp->VK->Prop)(f:Str->D->Res D):Prop:=∀E F H z y a,Same F H->Rp K mg F y a->Ans mg E (Rp K mg) F H (f z a) (r (.str z) [y] H)
def ZxD(hf:SmD K mg r f)(ho:SE K mg E to mo)(ha:SE K mg E ta ma):SE K mg E (tBM K "str" r to (Bo ta tNil)) (sD f mo ma):=by
 intro a b F H Y Z c;refine (ho a b F H Y Z c).bind λm g x k d i=>?_;cases k with
 | str z=>
  cases i;refine Ans.imp ?_ λQ q=>⟨rfl,q⟩;exact (ha a b m g Y Z (c.gr d)).bind λh e y n l j=>hf E h e z y n l.s j
 | _=>trivial
def YL:V->List V->Hp->VK->Prop:=λx a H Q=>∃z y,x=.str z/\a=[.str y]/\Q (.bl (decide (0+y.length<=z.length)&&Builtin.Str.subAt z y 0)) H
def Xp:MtR X "str.startswith" YL:=by
 intro a s Y H x f v e Q I c d h;obtain ⟨z,y,rfl,rfl,q⟩:=h;obtain ⟨u,rfl,t,rfl⟩:=vals1 d;obtain ⟨b,rfl⟩:=c;exact call_gives PySem.F.slot_str_startswith (Gi s z b) PySem.F.entry_str_startswith (PySem.F.args_str_startswith_2 _ _) (gives_str_startswith z y b t) ⟨.bl _,H,I,rfl,q⟩
def uo(z y):(decide (0+y.length<=z.length)&&Builtin.Str.subAt z y 0)=((cpL z).take (cpL y).length==cpL y):=by
 rw [StrLaws.subAt_eq,Hn,G3];show (decide (0+y.length<=z.length)&&((cpL z).take y.length==cpL y))=_;cases h:((cpL z).take y.length==cpL y) with
 | false=>rw [Bool.and_false]
 | true=>
  have e:=CP List.length (eq_of_beq h);rw [List.length_take,G3,G3] at e;simp only [Bool.and_true,LR];omega
def eG:SmD K mg YL Pk:=by
 intro E F H z y b s a;cases b with
 | str w=>
  cases a;exact .ret s (.bl _) λQ q=>⟨z,w,rfl,rfl,by rw [uo];exact q⟩
 | _=>trivial
def bN:V->List V->Hp->VK->Prop:=λx a H Q=>∃z c,x=.str z/\a=[.str ⟨#[c]⟩]/\z.length<=LIM/\∀l,H l=none->Q (.ref l) (upd H l (.lst ((Txt.split z ⟨#[c]⟩).map V.str)))
def X4:∀l,Vals ((l.map (·.1)).map V.str) (strValues l)
 | []=>.nil
 | (x,t)::r=>.cons ⟨t,rfl⟩ (X4 r)
def split_len(x)(c):(Txt.split x ⟨#[c]⟩).length<=x.length+1:=by
 have h:=CP Str.length (StrLaws.join_split x ⟨#[c]⟩);have f:∀d,d.length<=(Str.join ⟨#[c]⟩ d).length+1:=by
  intro d
  induction d with
  | nil=>exact Cq _
  | cons a r ih=>
   cases r with
   | nil=>exact Nat.le_add_left _ _
   | cons b r=>
    show (b::r).length+1<=(a++⟨#[c]⟩++Str.join ⟨#[c]⟩ (b::r)).length+1;have e:(a++(⟨#[c]⟩ : Str)++Str.join ⟨#[c]⟩ (b::r)).length=a.length+1+(Str.join ⟨#[c]⟩ (b::r)).length:=by
     show (a.cps++#[c]++(Str.join ⟨#[c]⟩ (b::r)).cps).size=_;rw [Array.size_append,Array.size_append];rfl
    omega
 have:=f (Txt.split x ⟨#[c]⟩);rw [h] at this;exact this
def TV(x):∀ts,cpL (Str.join x ts)=Ak (cpL x) (ts.map cpL)
 | []=>rfl
 | [a]=>rfl
 | a::b::r=>by
  show cpL (a++x++Str.join x (b::r))=cpL a++cpL x++Ak (cpL x) ((b::r).map cpL);rw [RQ,RQ,TV x (b::r)]
def w5(z)(c):Txt.split z ⟨#[c]⟩≠[]:=by
 unfold Txt.split;split
 .simp
 .split
  .simp
  .rw [StrLaws.partsBetween_eq];obtain ⟨p,q,e⟩:=StrLaws.partsFrom_ne z (⟨#[c]⟩ : Str).length 0 (Builtin.Str.occurrences z ⟨#[c]⟩ 0 z.length (z.length+1));rw [e];simp
def qN(z)(c):(Txt.split z ⟨#[c]⟩).map cpL=Ci c (cpL z):=by
 have h:=CP cpL (StrLaws.join_split z ⟨#[c]⟩);rw [TV] at h;rw [<-h];refine (Gs (by simpa using w5 z c) λw b=>?_).symm;obtain ⟨p,a,rfl⟩:=BZ.mp b;exact StrLaws.split_free z c p a
def Ml:MtR X "str.split" bN:=by
 intro f s Y H x p v n Q I j m h;obtain ⟨z,c,rfl,rfl,g,q⟩:=h;obtain ⟨u,rfl,t,rfl⟩:=vals1 m;obtain ⟨a,rfl⟩:=j;have i:(Txt.split z ⟨#[c]⟩).length<=sizeLine:=An (split_len z c) (An (MJ g) (by decide));have d:∀l k,l.map (·.1)=Txt.split z ⟨#[c]⟩->EP X f Y Q (.ref s.heap.objs.size) { s with toks:=k,heap:=s.heap.push { cls:=.type "list",data:=.seq (strValues l).toArray } }:=λl k e=>
  ⟨.ref _,_,I.laid (o:=.lst ((Txt.split z ⟨#[c]⟩).map V.str)) (λb o e=>BJ _ e) (Ar _) ⟨by rw [Ax];exact i,strValues l,0,by rw [<-e];exact X4 l,By _ rfl⟩,rfl,q _ (I.hok.fresh (Ar _))⟩
 cases h1:(decide (z.length<(⟨#[c]⟩ : Str).length)||decide (Builtin.Str.strKind z<Builtin.Str.strKind ⟨#[c]⟩))
 .cases hf:(Builtin.Str.occurrences z ⟨#[c]⟩ 0 z.length (z.length+1)).isEmpty
  .have e:Txt.split z ⟨#[c]⟩=Builtin.Str.partsBetween z (Builtin.Str.occurrences z ⟨#[c]⟩ 0 z.length (z.length+1)) (⟨#[c]⟩ : Str).length:=(iN (ne_true_of_eq_false h1)).trans (iN (ne_true_of_eq_false hf));refine HB PySem.F.slot_str_split (Gi s z a) PySem.F.entry_str_split (PySem.F.args_str_split_2 _ _) (meets_str_split_sep z ⟨#[c]⟩ a t h1 rfl hf (Mh g) (by rw [<-e];exact i)) ?_;rw [strsFrom_eq];exact d (numbered s.toks _) _ ((numbered_texts _ _).trans e.symm)
  .exact HB PySem.F.slot_str_split (Gi s z a) PySem.F.entry_str_split (PySem.F.args_str_split_2 _ _) (meets_str_split_not_found z ⟨#[c]⟩ a t h1 rfl hf) (d [(z,a)] _ ((iN (ne_true_of_eq_false h1)).trans (iP hf)).symm)
 .exact HB PySem.F.slot_str_split (Gi s z a) PySem.F.entry_str_split (PySem.F.args_str_split_2 _ _) (meets_str_split_cannot_occur z ⟨#[c]⟩ a t h1) (d [(z,a)] _ (iP h1).symm)
def ZZ{F:Hp}:∀ts:List Str,Rps K mg F (ts.map V.str) ((ts.map cpL).map λl=>D.str (mkS l))
 | []=>.nil
 | t::r=>.cons (by show Rp K mg F (V.str t) (D.str (mkS (cpL t)));rw [JR];exact .str t) (ZZ r)
def KR:SmD K mg bN G4:=by
 intro E F H z y f s b;cases f with
 | str w=>
  cases b;unfold G4;dsimp only;split
  .next c e=>
   split
   .next a=>
    have d:=QB e;subst d;refine Hx s (λp g=>?_) λQ q=>⟨z,c,rfl,rfl,a,q⟩;rw [<-qN];exact .lst (SqL.of Ay) (ZZ _)
   .trivial
  .trivial
 | _=>trivial
def rJoin(K:W.Frag):V->List V->Hp->VK->Prop:=λx b H Q=>∃z l a,x=.str z/\b=[.ref l]/\SqL K H l (a.map V.str)/\sumL z.length a<=LIM/\Q (.str (Str.join z a)) H
def Ue:∀{ts:List Str} {us:List Value},Vals (ts.map V.str) us->∃l,strValues l=us/\l.map (·.1)=ts
 | [],_,h=>by cases h;exact ⟨[],rfl,rfl⟩
 | t::r,_,h=>by
  cases h with
  | cons h1 h2=>
   obtain ⟨k,rfl⟩:=h1;obtain ⟨l,rfl,e⟩:=Ue h2;exact ⟨(t,k)::l,rfl,by rw [<-e];rfl⟩
def Wa{z:Str}{ts:List Str}(h:sumL z.length ts<=LIM):Builtin.Str.tooLong (ts.toArray.foldl (·+·.length+z.length) 0)=false:=by
 rw [StrLaws.joinTotal];exact Bl (Nat.not_lt.mpr (Mh h))
def HS:MtR X "str.join" (rJoin X.K):=by
 intro c s Y H x y v p Q I i n h;obtain ⟨z,a,w,rfl,rfl,m,g,q⟩:=h;obtain ⟨u,rfl,f⟩:=vals1 n;cases f;obtain ⟨t,rfl⟩:=i;obtain ⟨j,r,e,_⟩:=I.list m;obtain ⟨l,rfl,d⟩:=Ue r;have b:=Wa g;rw [<-d] at b;refine HB PySem.F.slot_str_join (Gi s z t) PySem.F.entry_str_join (PySem.F.args_str_join_2 _ _) (meets_str_join_list z t a l b) ⟨e.isList,?_⟩;refine post_join l ⟨joinFit_length b,λo k=>?_⟩;refine ⟨.str _,H,I.tok _,⟨o,rfl⟩,?_⟩;unfold Txt.join;rw [StrLaws.glued_eq_join,d];exact q
def Yv{F:Hp}:∀{xs:List V} {ds:List D} {ts:List Str},Rps K mg F xs ds->txts ds=some ts->xs=ts.map V.str
 | _,[],_,r,e=>by cases r;cases e;rfl
 | _,d::ds,ts,r,e=>by
  cases r with
  | cons h r=>
   cases d with
   | str x=>
    have a:(txts ds).map (x::·)=some ts:=e;cases q:txts ds with
    | none=>rw [q] at a;cases a
    | some us=>
     rw [q] at a;cases a;cases h;rw [Yv r q];rfl
   | _=>cases e
def bz{F:Hp}{w:VK->Prop}(s:Same F H)(r:Rps K mg F xs ds)(h:∀ts,xs=ts.map V.str->sumL z.length ts<=LIM->∀Q,Q (.str (Str.join z ts)) H->w Q):Ans mg E (Rp K mg) F H (Jo z ds) w:=by
 unfold Jo;split
 .next ts e=>
  split
  .next a=>
   have b:=Yv r e;refine .ret s ?_ λQ q=>h ts b a Q q;rw [<-TV,JR];exact .str _
  .trivial
 .trivial
def HR:SmD K mg (rJoin K) Fx:=by
 intro E F H z y e s b;cases e with
 | lst ds=>
  cases b with
  | lst h r=>
   exact bz s r λd c a Q q=>⟨z,_,d,rfl,rfl,by rw [<-c];exact s.seq h,a,q⟩
 | _=>trivial
def Xm:V->List V->Hp->VK->Prop:=λx d H Q=>∃z c,x=.str z/\d=[.str ⟨#[c]⟩]/\z.length<=LIM/\∀l,H l=none->Q (.ref l) (upd H l (.tup (match Dc c (cpL z) with
 | some (a,b)=>[.str (mkS a),.str ⟨#[c]⟩,.str (mkS b)]
 | none=>[.str z,.str Str.empty,.str Str.empty])))
def Xj{c:Nat}:∀{l:List Nat},Dc c l=none->c∉l
 | [],_=>by simp
 | x::r,h=>by
  unfold Dc at h;split at h
  .cases h
  .next a=>
   cases e:Dc c r with
   | none=>
    have:=Xj e;intro b;rcases Aq.mp b with z | z
    .exact a z.symm
    .exact this z
   | some p=>rw [e] at h;cases h
def T4{c:Nat}:∀{l a b:List Nat},Dc c l=some (a,b)->c∉a/\l=a++c::b
 | [],_,_,h=>by cases h
 | x::r,a,b,h=>by
  unfold Dc at h;split at h
  .next d=>cases h;exact ⟨by simp,by rw [d];rfl⟩
  .next d=>
   cases e:Dc c r with
   | none=>rw [e] at h;cases h
   | some p=>
    rw [e] at h;cases h;obtain ⟨f,i⟩:=T4 e;refine ⟨λg=>?_,by rw [i];rfl⟩;rcases Aq.mp g with z | z
    .exact d z.symm
    .exact f z
def Tw(x)(c i):StrLaws.At x ⟨#[c]⟩ x.length i↔(cpL x)[i]?=some c:=StrLaws.subAt_one x c i
def Zf(x)(i j):Builtin.Str.strSub x i j=mkS (((cpL x).drop i).take (j - i)):=by
 exact CP mkS (StrLaws.strSub_toList x i j)
def yc:MtR X "str.partition" Xm:=by
 intro f s Y H x L v M Q I J D h;obtain ⟨z,c,rfl,rfl,B,q⟩:=h;obtain ⟨u,rfl,t,rfl⟩:=vals1 D;obtain ⟨n,rfl⟩:=J;refine HB PySem.F.slot_str_partition (Gi s z n) PySem.F.entry_str_partition (PySem.F.args_str_partition_2 _ _) (meets_str_partition z ⟨#[c]⟩ n t rfl (Mh B)) ?_;have m:∀(k:Nat) (j:List V) (d:List Value),Vals j d->j.length<=3->(∀l,H l=none->Q (.ref l) (upd H l (.tup j)))->EP X f Y Q (.ref s.heap.objs.size) { s with toks:=k,heap:=s.heap.push { cls:=.type "tuple",data:=.seq d.toArray } }:=λk j d r C q=>
  ⟨.ref _,_,I.laid (o:=.tup j) (λb o e=>BJ _ e) (Ar _) ⟨An C (by decide),d,r,IsTup.new _ _⟩,rfl,q _ (I.hok.fresh (Ar _))⟩
 rcases StrLaws.occ_head z ⟨#[c]⟩ 1 (Ar 1) with ⟨e,hn⟩ | ⟨i,r,e,ha,hn⟩
 .rw [e];have A:Dc c (cpL z)=none:=by
   cases ep:Dc c (cpL z) with
   | none=>rfl
   | some p=>
    obtain ⟨_,g⟩:=T4 ep;refine aB ((Tw z c p.1.length).mpr ?_) (hn _);rw [g];simp
  rw [A] at q;exact m _ [.str z,.str Str.empty,.str Str.empty] [.str z n,.str Str.empty s.toks,.str Str.empty s.toks] (.cons ⟨_,rfl⟩ (.cons ⟨_,rfl⟩ (.cons ⟨_,rfl⟩ .nil))) (by simp) q
 .rw [e];have w:=(Tw z c i).mp ha;cases ep:Dc c (cpL z) with
  | none=>exact aB (Ed w) (Xj ep)
  | some p=>
   rw [ep] at q;obtain ⟨a,b⟩:=p;obtain ⟨G,g⟩:=T4 ep;have y:i=a.length:=by
    rcases Nat.lt_trichotomy i a.length with l | l | l
    .rw [g,Fw l] at w;exact aB (Ed w) G
    .exact l
    .refine aB ((Tw z c a.length).mpr ?_) (hn _ l);rw [g];simp
   subst y;have E:Builtin.Str.strSub z 0 a.length=mkS a:=by
    rw [Zf,g,Hn,Nat.sub_zero,List.take_left' rfl]
   have K:Builtin.Str.strSub z (a.length+1) z.length=mkS b:=by
    rw [Zf,<-G3 z,g];have:(a++c::b).drop (a.length+1)=b:=by
     rw [show a++c::b=(a++[c])++b by simp];exact List.drop_left' (by simp)
    rw [this];refine CP mkS (GX ?_);simp;omega
   show EP X f Y Q (.ref s.heap.objs.size) { s with toks:=_,heap:=s.heap.push { cls:=.type "tuple",data:=.seq [.str (Builtin.Str.strSub z 0 a.length) s.toks,.str ⟨#[c]⟩ t,.str (Builtin.Str.strSub z (a.length+1) z.length) (s.toks+1)].toArray } }
   rw [E,K];exact m _ [.str (mkS a),.str ⟨#[c]⟩,.str (mkS b)] [_,_,_] (.cons ⟨_,rfl⟩ (.cons ⟨_,rfl⟩ (.cons ⟨_,rfl⟩ .nil))) (by simp) q
def lB:SmD K mg Xm Oo:=by
 intro E F H z y i s f;cases i with
 | str w=>
  cases f;unfold Oo;dsimp only;split
  .next c e=>
   split
   .next d=>
    have g:=QB e;subst g;cases ep:Dc c (cpL z) with
    | none=>
     exact Hx s (λp h=>.tup (.inl (.inl Ay)) (.cons (.str _) (.cons (.str _) (.cons (.str _) .nil)))) λQ q=>⟨z,c,rfl,rfl,d,by rw [ep];exact q⟩
    | some p=>
     obtain ⟨a,b⟩:=p;exact Hx s (λp h=>.tup (.inl (.inl Ay)) (.cons (.str _) (.cons (.str _) (.cons (.str _) .nil)))) λQ q=>⟨z,c,rfl,rfl,d,by rw [ep];exact q⟩
   .trivial
  .trivial
 | _=>trivial
def f9:OpD K mg (λx y H Q=>∃i j,x=.str i/\y=.str j/\Q (.bl (!(Builtin.Str.occurrences j i 0 j.length 1).isEmpty)) H) dInT:=by
 intro E F H x y h g s d f;unfold dInT;split
 .next a b=>
  cases d;cases f;split
  .next c e=>
   refine .ret s (.bl _) λQ q=>⟨_,_,rfl,rfl,?_⟩;rw [QB e,StrLaws.found_one];rw [Qz] at q;exact q
  .trivial
 .trivial
def nJ:OpD K mg (λx y H Q=>∃i j,x=.str i/\y=.str j/\Q (.bl (!(!(Builtin.Str.occurrences j i 0 j.length 1).isEmpty))) H) K5:=by
 intro E F H x y h g s d f;unfold K5;split
 .next a b=>
  cases d;cases f;split
  .next c e=>
   refine .ret s (.bl _) λQ q=>⟨_,_,rfl,rfl,?_⟩;rw [QB e,StrLaws.found_one];rw [Qz] at q;exact q
  .trivial
 .trivial
def rSlT:V->Option Int->Option Int->Hp->VK->Prop:=λx a b H Q=>∃z,x=.str z/\z.length<=sizeLine/\Q (.str (Txt.slice z a b)) H
def ZvA:SlR X rSlT:=by
 intro b s Y H x v r p y C e Q I m B f c h;obtain ⟨z,rfl,g,q⟩:=h;obtain ⟨t,rfl⟩:=m;refine ⟨"str",_,PySem.F.slot_str_getitem.lookup,Gi _ _ _,?_⟩;have a:∀l u,r=partValue l->p=partValue u->y=l.map (·.1)->C=u.map (·.1)->wX X (getItem (.str z t) (.ref e)) (EP X b Y Q) X.xe s:=by
  intro l u D o d n;subst D o d n;exact wpAny_getItem_str_slice (st:=none) B rfl
   (post_val_or_str ⟨An (Txt.slice_le z _ _) g,λE k=>⟨.str _,H,I.tok _,⟨E,rfl⟩,q⟩⟩)
 cases f with
 | none=>
  cases c with
  | none=>exact a none none rfl rfl rfl rfl
  | int j tj=>exact a none (some (j,tj)) rfl rfl rfl rfl
 | int i ti=>
  cases c with
  | none=>exact a (some (i,ti)) none rfl rfl rfl rfl
  | int j tj=>exact a (some (i,ti)) (some (j,tj)) rfl rfl rfl rfl
def jt{i:Int}(h0:0<=i):Txt.slice z (some i) none=mkS ((cpL z).drop i.toNat):=by
 by_cases h:(z.length:Int)<=i
 .rw [slice_beyond h];have:(cpL z).drop i.toNat=[]:=Jz (by rw [G3];omega);rw [this];rfl
 .rw [slice_from_eq h0 (by omega) rfl];refine CP mkS (GX ?_);show ((cpL z).drop i.toNat).length<=_;rw [List.length_drop,G3];omega
def sS{j:Int}(h0:0<=j):Txt.slice z none (some j)=mkS ((cpL z).take j.toNat):=by
 have a:∀j:Int,0<=j->j<=z.length->Txt.slice z none (some j)=mkS ((cpL z).take j.toNat):=λj h0 b=>by
  have c:j<=z.cps.toList.length:=by rw [show z.cps.toList.length=z.length from G3 z];exact b
  have:=beq_iff_eq.mp (slice_closes_to ⟨h0,c⟩);rw [this,show (0:Int).toNat=0 from rfl,Hn,Int.sub_zero];rfl
 by_cases h:j<=z.length
 .exact a j h0 h
 .have f:Txt.slice z none (some j)=Txt.slice z none (some (z.length:Int)):=by
   unfold Txt.slice;have e:Builtin.Str.strSliceIndices none (some j) 1 z.length=Builtin.Str.strSliceIndices none (some (z.length:Int)) 1 z.length:=by
    have b:¬j<0:=by omega
    have c:¬((z.length:Int)<0):=by omega
    have d:(1:Int)>0:=by decide
    simp only [Builtin.Str.strSliceIndices,b,c,d,Dp,GD,Int.min_eq_right (show (z.length:Int)<=j by omega),Int.min_self]
   rw [e]
  rw [f,a _ (by omega) (Int.le_refl _),GX (by rw [G3];omega),GX (by rw [G3];omega)]
def Zrr(ha:SE K mg E ta ma)(hl:SO K mg E tl ml)(hh:SO K mg E th mh):SE K mg E (tSl rSlT ta tl th) (cutT ma ml mh):=by
 intro a b F H Y Z c;refine (ha a b F H Y Z c).bind λv j x p d n=>?_;refine (hl a b v j Y Z (c.gr d)).bind λm i l w r g=>?_;refine (hh a b m i Y Z ((c.gr d).gr r)).bind λt o u y f k=>?_;cases g;cases k;cases p with
 | str z=>
  cases n;show Ans mg E (Rp K mg) t o (cutS z l u) _;unfold cutS;split
  .next e=>
   split
   .split
    .next h=>exact .ret f.s (.str _) λQ q=>⟨z,rfl,Mh e,by rw [jt h];exact q⟩
    .trivial
   .split
    .next h=>exact .ret f.s (.str _) λQ q=>⟨z,rfl,Mh e,by rw [sS h];exact q⟩
    .trivial
   .trivial
  .trivial
 | _=>trivial
def ItS(x:Str):It:=⟨λi _=>∃c,(cpL x)[i]?=some c,λi H y a=>a=H/\∀c,(cpL x)[i]?=some c->y=.str (mkS [c]),λi _=>(cpL x)[i]?=none⟩
def fJ(x)(t)(it):Turn P w K tg (ItS x) [it] it (λi h=>h.IsStrIter it "str_ascii_iterator" x t i) where
 mem:=by simp
 obj:=λi h a b f=>by
  have e:b=it:=by simpa using f
  subst e;obtain ⟨o,e,c,d⟩:=a;exact ⟨o,e,λv z=>by rw [d] at z;cases z⟩
 keep:=λi h C a k=>by
  obtain ⟨o,e,r⟩:=a;exact ⟨o,k it (by simp) o e,r⟩
 item:=by
  intro X Q G J D i g s Y H E I l a u;obtain ⟨c,A⟩:=u;obtain ⟨n,q,O,p,m,y⟩:=l it (by simp);refine wpAny_pyNext_ascii_item a (by simpa [cpL] using A) λC j F=>?_;have L:=I.turned (t':=s.toks+1) (λb o f e=>(F.2 b f).trans e) n q p m y;obtain ⟨o,e,M,d⟩:=id j;exact ⟨_,rfl,QK e M d (by decide) ⟨.str (mkS [c]),H,L,⟨_,rfl⟩,⟨rfl,λR B=>by rw [A] at B;cases B;rfl⟩,j,λb f=>(l b f).1⟩⟩
 done:=by
  intro X Q G J D i g s Y H E I l a u;obtain ⟨n,q,O,p,m,y⟩:=l it (by simp)
  exact wpAny_pyNext_ascii_end (I.ok.hd D) a (by
   have h:(cpL x)[i]?=none:=u
   simpa [cpL] using h) λC N=>⟨rfl,I.turned (λb o f e=>N b o f e) n q p m y⟩
 self:=λ_ _ _ _ _ a h=>wpAny_pyIter_striter_ascii a h
def Zh(tl:TE):TI:=λY H R=>tl Y H λx a=>∃z,x=.str z/\(cpL z).all (·<128)=true/\R (ItS z) a
def iz{F:Hp}(z):ItOk K mg F (ItS z) ((cpL z).map λc=>.str (mkS [c])):=by
 intro b j k g i;refine ⟨λd e=>?_,λa=>?_⟩
 .rw [Cz] at e;cases q:(cpL z)[i]? with
  | none=>rw [q] at e;cases e
  | some c=>
   rw [q] at e;cases e;refine ⟨⟨c,q⟩,λy f h=>?_⟩;obtain ⟨rfl,h⟩:=h;rw [h c q];exact ⟨b,.refl g,.str _⟩
 .rw [Ax] at a;exact Qn a
def qJ(ha:SE K mg E ta ma):SI K mg E (Zh ta) (ivT ma):=by
 intro e f F H Y Z d;refine (ha e f F H Y Z d).bind λi b x j a g=>?_;cases j with
 | str z=>
  cases g;show Ans mg E (ItOk K mg) i b (if (cpL z).all (·<128)=true then .ok ((cpL z).map λc=>.str (mkS [c])) else .bad) _
  split
  .next h=>exact Ans.ret a.s (iz z) λQ q=>⟨z,rfl,h,q⟩
  .trivial
 | _=>trivial
end
section
variable {a b o tg:Expr} {ta tb to:TE} {ma mb mo:ME} {apos:Pos}
def ZvL(h:DE X E a ta ma):DI X E tg a (Zh ta) (ivT ma):=by
 refine ⟨?_,qJ h.s⟩;intro c s Y H R I k;refine thn (h.p c s Y H _ I k) λv d zq=>?_;obtain ⟨x,g,f,j,m⟩:=zq;obtain ⟨z,rfl,i,q⟩:=m;obtain ⟨t,rfl⟩:=j;refine wpAny_pyIter_ascii (by rw [<-i];simp [cpL]) ?_;refine ⟨d.heap.objs.size,[d.heap.objs.size],_,_,g,rfl,f.kept λb o e=>BJ _ e,fJ z t _,⟨_,By _ rfl,rfl,rfl⟩,λb l=>?_,q⟩;have e:b=d.heap.objs.size:=by simpa using l
 subst e;exact f.fpOk (Ar _) (f.hok.fresh (Ar _))
end
def vz:typeLookup (.type "list_reverseiterator") "__len__"=pure none:=by rw [typeLookup_type,builtinLookup_eq_fast];kernel_rfl
def pK:typeLookup (.type "list_reverseiterator") "__length_hint__"=pure (some (.builtin "list_reverseiterator.__length_hint__")):=by rw [typeLookup_type,builtinLookup_eq_fast];kernel_rfl
def gD:isSubtype (.type "list_reverseiterator") (.type "list_reverseiterator")=pure true:=by rw [isSubtype_type];kernel_rfl
section
variable{prog:Program} {E:Value->Shared->Prop}
def rE(hT:s.TypeIs (.ref I) "list_reverseiterator")(h:Q false s):wpAny (model prog w) A (Builtin.List.listLengthHint (.ref I)) Q E s:=by
 refine Ac (wpAny_specialOf hT vz ?_);refine Ac (wpAny_specialOf hT pK ?_);generalize hid:("list_reverseiterator.__length_hint__" : String)=id0;subst hid;refine Ac (wpAny_isInstance hT gD ?_);exact Aj h
def fO{items:Array Value}(hh:A.handled=none)(hne:l≠I)(hit:s.heap.IsRevIter I l ((items.size:Int) - 1))(hl:s.heap.IsList l items)(hn:items.size<=sizeLine)(hQ:∀s',Moved [I] (λa b=>b=a) s s'->Q items.toList.reverse s'):wpAny (model prog w) A (collect (.ref I)) Q E s:=by
 have W:=(Walks.listRev (prog:=prog) (w:=w) (A:=A.in1) hh I l hne items).toS;have t:∀i s,(i<=items.size/\Heap.IsRevIter s.heap I l ((items.size:Int) - 1 - (i:Int))/\s.heap.IsList l items)->Shared.TypeIs s (.ref I) "list_reverseiterator":=λ_ _ h=>h.2.1.typeIs;have m:0<=items.size/\Heap.IsRevIter s.heap I l ((items.size:Int) - 1 - ((0:Nat):Int))/\s.heap.IsList l items:=⟨Cq _,by simpa using hit,hl⟩;have r:∀b∈[I,l],b<s.heap.objs.size:=λb hb=>by
  rcases Aq.mp hb with rfl | hb
  .obtain ⟨o,p,_⟩:=hit;exact BX p
  .rw [GQ.mp hb];obtain ⟨o,p,_⟩:=hl;exact BX p
 have f:=λn=>J2 _ (r _ n);have q:s.heap.objs.size≠I:=λe=>f (e▸Bf);refine Ac (wpAny_runValue (PL F.entry_proto_collect ?_));refine Ac (Im ?_);refine Aj ⟨plainId_quiet F.plain_list_iadd _,PL F.entry_list_iadd ?_⟩;have c:=W.frame 0 s (s.heap.push { cls:=.type "list",data:=.seq ([]:List Value).toArray }) s.toks m (Ar _) λb _ o e=>BJ _ e;have j:(s.heap.push { cls:=.type "list",data:=.seq ([]:List Value).toArray }).get? s.heap.objs.size=some { cls:=.type "list",data:=.seq ([]:List Value).toArray }:=By _ rfl;have u:Builtin.List.listSameRef (.ref s.heap.objs.size) (.ref I)=false:=by simp [Builtin.List.listSameRef,q]
 show wpAny _ A.in1 (Builtin.List.listExtendWith (.ref s.heap.objs.size) (.ref I) (.ref s.heap.objs.size)) _ _ _;refine Ac (Jq (t 0 _ c) ?_);rw [iN (by rw [u];decide)];refine Ac (W.self 0 _ _ _ c ?_);refine Ac (Dy ?_);refine rE (t 0 _ c) ?_;refine Aj ⟨plainId_quiet F.plain_extend_loop _,codeAny_extend_loopS W hn _ f _ items.size 0 _ _ _ rfl (Cq _) c j (ItemsOf.nil _) λs' d z n k g=>?_⟩;refine Ac (wpAny_load k ?_);have x:d.toList=items.toList.reverse:=by
  apply List.ext_getElem?;intro i;obtain ⟨B,y⟩:=g;by_cases hi:i<items.size
  .have e:d[i]?=some d[i]:=Array.getElem?_eq_getElem (by omega);have v:=y i _ e;rw [List.getElem?_reverse (by simpa using hi)];rw [Ni,Ni,e,Array.length_toList];exact v.symm
  .rw [Qn (by simp;omega),Qn (by simp;omega)]
 have:=hQ s' (Moved.drop_new n (Ar _));rw [<-x] at this;exact Aj this
end
def wL(z):∀m,Builtin.Str.tooLong ((m.map (·.1)).toArray.foldl (·+·.length+z.length) 0)=false->Gives (joinTail z (strValues m)) (joinMade z m)
 | [],h=>gives_joinTail z [] h
 | [p],h=>gives_joinTail z [p] h
 | p::q::r,h=>gives_joinTail z (p::q::r) h
def lE{z:Str}{ts:List Str}(hc:X.calm=true)(I:Inv X pins Y H s)(hz:sumL z.length ts<=LIM)(ha:H a=some (.lst (ts.map V.str)))(hn:it≠a)(hf:FpOk X pins H it)(hit:s.heap.IsRevIter it a ((ts.length:Int) - 1))(q:Q (.str (Str.join z ts.reverse)) H):wX X (call (.builtin "str.join") [.str z t,.ref it]) (EP X pins Y Q) X.xe s:=by
 obtain ⟨y,r,n,c⟩:=I.list (SqL.of ha);obtain ⟨l,rfl,C⟩:=Ue r;refine wpAny_call (codeAny_call_builtin F.slot_str_join.plain F.entry_str_join (F.slot_str_join.check _ _ _ _ _ _ _ _ (Gi _ _ _) (F.args_str_join_2 _ _) ?_));rw [join_tree_other];refine Ac (Jq hit.typeIs ?_);refine Ac (wpAny_tryCatch (wpAny_pyIter_revIter hit ?_));have f:(strValues l).toArray.size=ts.length:=by
  have:=r.length;rw [Ax] at this;exact this.symm
 refine Ac (fO (I.ok.hd hc) (Ne.symm hn) (by rw [f];exact hit) n.isList (by rw [f];rw [Ax] at c;exact c) λm h=>?_);have L:(strValues l).toArray.toList.reverse=strValues l.reverse:=by
  show (l.map _).reverse=l.reverse.map _;rw [Ma]
 rw [L];have j:l.reverse.map (·.1)=ts.reverse:=by rw [Ma,C]
 have i:sumL z.length ts.reverse<=LIM:=by
  unfold sumL at hz ⊢;rw [Ma,List.sum_reverse,List.length_reverse];exact hz
 have d:=Wa i;rw [<-j] at d;have g:=wL z l.reverse d;refine g X.prog X.w X.A (wants (EP X pins Y Q) X.xe) m (post_join l.reverse ⟨joinFit_length d,λt' k=>?_⟩);obtain ⟨x,E,O,B,u,p⟩:=hf;have D:=I.turned (t':=k) (λb o K e=>h.heap b o (by simpa using K) e) x E B u p;refine ⟨.str _,H,?_,⟨t',rfl⟩,?_⟩
 .have v:=h.gens;have J:=h.drawn;have G:=h.os;obtain ⟨N,S,R,P,M⟩:=m;cases v;cases J;cases G;exact D
 .unfold Txt.join;rw [StrLaws.glued_eq_join,j];exact q
def Vk(z:Str)(j:Nat):TE:=λY H Q=>∃a b,Y[j]?=some (some (.ref a))/\H a=some (.lst (b.map V.str))/\sumL z.length b<=LIM/\Q (.str (Str.join z b.reverse)) H
def wA(z)(j):SE K mg E (Vk z j) (joinRev z j):=by
 intro m n F H Y Z b;unfold joinRev getO;split
 .next f e=>
  obtain ⟨a,k,g,p,o,d,l⟩:=b.ow j f e;refine bz b.ss l.rev λi h c Q q=>⟨a,i.reverse,g,?_,?_,by rw [List.reverse_reverse];exact q⟩
  .rw [d,<-List.reverse_reverse k,h,<-Ma]
  .unfold sumL at c ⊢;rw [Ma,List.sum_reverse,List.length_reverse];exact c
 .trivial
section
variable {a b o:Expr} {ta tb to:TE} {ma mb mo:ME} {apos p1 p2 p3 p4:Pos} {z:Str}
def iR(j)(hc:X.calm=true)(hg:Gl X "reversed")(hm:X.mg "reversed"=none)(hN:X.N[j]?=some x)(hv:CQ X.env.scope x)(hd:ND x)(hcd:NE x)(hbase:attributeBase (.Constant (.str z) k p1) "join" X.env (eval (.Constant (.str z) k p1) X.env)=eval (.Constant (.str z) k p1) X.env)(hline:(apos.endLine==cpos.line)=true):PE X (.Call (.Attribute (.Constant (.str z) k p1) "join" apos) [.Call (.Name "reversed" p2) [.Name x p3] [] p4] [] cpos) (Vk z j):=by
 intro c s Y H Q I h;obtain ⟨a,D,B,m,L,q⟩:=h;refine wpAny_Call_method_late hbase (by rfl) hline rfl (thn (Wg c s Y H (λv f=>v=.str z/\f=H) I ⟨rfl,rfl⟩) λv G zq=>?_);obtain ⟨U,f,l,M,S,C⟩:=zq;subst S C;obtain ⟨t,rfl⟩:=M;refine ⟨"str","str.join",PySem.F.plainAttrs_str,PySem.F.slot_str_join,PySem.F.type_str_join,Gi _ _ _,(λ_ e=>nomatch e),?_⟩;refine Calls.callWith_builtin (by rfl) (Calls.evalArgs_plain ?_);refine Calls.spliced_cons ?_;refine Ls (Jx l hg hm rfl ?_ (by decide) (by decide));refine Om (thn ((Ea (Cr hN hv hd hcd) Dv) p4 c G Y f (λK n=>K=[.ref a]/\n=f) l ⟨.ref a,B,rfl,rfl⟩) λV E zq=>?_) rfl (by rfl);obtain ⟨T,n,d,P,J,R⟩:=zq;subst J R;obtain ⟨u,rfl,y⟩:=vals1 P;cases y;obtain ⟨i,r,p,w⟩:=d.list (SqL.of m);refine call_reversed_list p.isList ?_;refine Calls.spliced_nil ?_;have g:(i.toArray.size:Int)=(D.length:Int):=by
  have:=r.length;rw [Ax] at this;rw [GR,this]
 have A:a<E.heap.objs.size:=by
  obtain ⟨o,O,_⟩:=p.isList;exact BX O
 refine lE hc (d.kept λb o e=>BJ _ e) L m (Ib A) (d.fpOk (Ar _) (d.hok.fresh (Ar _))) ?_ q;rw [<-g];exact ⟨_,By _ rfl,rfl,rfl⟩
def oE(j)(hc:X.calm=true)(hg:Gl X "reversed")(hm:X.mg "reversed"=none)(hN:X.N[j]?=some x:=by rfl)(hv:CQ X.env.scope x:=by first | exact Or.inl rfl | exact Or.inr (Or.inl rfl) | exact Or.inr (Or.inr rfl))(hd:ND x:=by decide)(hcd:NE x:=by decide)(hbase:attributeBase (.Constant (.str z) k p1) "join" X.env (eval (.Constant (.str z) k p1) X.env)=eval (.Constant (.str z) k p1) X.env:=by rfl)(hline:(apos.endLine==cpos.line)=true:=by rfl) :
  DE X E (.Call (.Attribute (.Constant (.str z) k p1) "join" apos) [.Call (.Name "reversed" p2) [.Name x p3] [] p4] [] cpos) (Vk z j) (joinRev z j):=⟨iR j hc hg hm hN hv hd hcd hbase hline,wA z j⟩
def tU(hg:Gl X x)(hm:X.mg x=some (.str y tk))(hd:ND x:=by decide):DE X E (.Name x pos) (tC (.str y)) (c (.str y)):=⟨Lx hg hm ⟨_,rfl⟩ hd,se_c λ_=>.str _⟩
def Df{id:String}{name:Str}{r:V->List V->Hp->VK->Prop}{f:Str->D->Res D}(slot:Slot "str" name id)(hty:typeOf (.builtin id)=pure (.type "method_descriptor"))(hm:MtR X id r)(hf:SmD X.K X.mg r f)(ho:DE X E o to mo)(ha:DE X E a ta ma)(hbase:attributeBase o name X.env (eval o X.env)=eval o X.env:=by rfl) (hfew:((backTo cpos (starEach [a] X.env)).all (λx=>!x.1)&&(backToKw cpos (keywordEach [] X.env)).all (λx=>x.1.isSome)
   && decide ([a].length+([]:List Keyword).length+(if ([]:List Keyword).isEmpty then 0 else 1)<30))=true:=by rfl) (hline:(apos.endLine==cpos.line)=true:=by rfl) (hs:starEach [a] X.env=(false,eval a X.env)::starEach [] X.env:=by rfl) (hplain:(backTo cpos (starEach [] X.env)).any (·.1)=false:=by rfl) :
  DE X E (.Call (.Attribute o name apos) [a] [] cpos) (tBM X.K "str" r to (Bo ta tNil)) (sD f mo ma):=⟨J5 PySem.F.plainAttrs_str slot hty hm ho.p (Ea ha.p Dv hs) hbase hfew hline hs hplain,ZxD hf ho.s ha.s⟩
def tK(ha:DE X E a ta ma)(hb:DE X E b tb mb)(hm:behindInMarks .In b=false:=by rfl):DE X E (.Compare a [.In] [b] pos) (tOp (λx y H Q=>∃i j,x=.str i/\y=.str j/\Q (.bl (!(Builtin.Str.occurrences j i 0 j.length 1).isEmpty)) H) ta tb) (o2 dInT ma mb):=RW jf f9 ha hb hm
def fW(ha:DE X E a ta ma)(hb:DE X E b tb mb)(hm:behindInMarks .NotIn b=false:=by rfl):DT X E (.Compare a [.NotIn] [b] pos) (Dz (tOp (λx y H Q=>∃i j,x=.str i/\y=.str j/\Q (.bl (!(!(Builtin.Str.occurrences j i 0 j.length 1).isEmpty))) H) ta tb)) (trb (o2 K5 ma mb)):=HF Zji nJ ha hb hm
def vA{lo hi:Option Expr}{tl th:TO}{ml mh:Ev->Res (Option Int)}{p2:Pos}(ha:DE X E a ta ma)(hl:DO X E lo tl ml)(hh:DO X E hi th mh):DE X E (.Subscript a (.Slice lo hi none p2) pos) (tSl rSlT ta tl th) (cutT ma ml mh) :=
 ⟨Yw ZvA ha.p hl.p hh.p,Zrr ha.s hl.s hh.s⟩
end
section
variable {F:Hp}
def Mf:∀{Z:Ev} {i:Nat} {ds:List D},nOw Z=true->Z[i]?≠some (.ow ds)
 | [],_,_,_,e=>by simp at e
 | .ow _::_,_,_,h,_=>by cases h
 | .no::r,0,_,_,e=>by simp at e
 | .im _::r,0,_,_,e=>by simp at e
 | .no::r,i+1,_,h,e=>Mf (Z:=r) h (by simpa using e)
 | .im _::r,i+1,_,h,e=>Mf (Z:=r) h (by simpa using e)
def K1:∀{Z:Ev} {i:Nat} {c:Cl},nOw Z=true->(∀ds,c≠.ow ds)->nOw (Z.set i c)=true
 | [],_,_,_,_=>rfl
 | .ow _::_,_,_,h,_=>by cases h
 | .no::r,0,c,h,hc=>by cases c<;>first | exact h | exact aB rfl (hc _)
 | .im _::r,0,c,h,hc=>by cases c<;>first | exact h | exact aB rfl (hc _)
 | .no::r,i+1,c,h,hc=>K1 (Z:=r) h hc
 | .im _::r,i+1,c,h,hc=>K1 (i:=i) h hc
def Rep.putE{g:Addr}{o:HO}(r:Rep K mg F0 H0 F H Y Z)(hn:nOw Z=true)(h0:H0 g=none)(hf:F g=none):Rep K mg F0 H0 F (upd H g o) Y Z:=by
 refine ⟨⟨r.g.f,λb u e=>?_,λb u h c=>?_,r.g.z⟩,r.len,r.im,λi d e=>aB e (Mf hn),λi j d k a e=>aB e (Mf hn)⟩
 .rw [Ai (BP e hf)];exact r.g.s b u e
 .rw [Ai (BP c h0)];exact r.g.o b u h c
def Rep.forg{x:V}(r:Rep K mg F0 H0 F H Y Z)(hn:nOw Z=true)(i):Rep K mg F0 H0 F H (Y.set i (some x)) (Z.set i .no):=by
 have b:nOw (Z.set i .no)=true:=K1 hn (by simp);refine ⟨r.g,by rw [Eg,Eg];exact r.len,λj e q=>?_,λj c e=>aB e (Mf b),λj k c d a e=>aB e (Mf b)⟩;rcases Cm q with ⟨_,z,_⟩ | ⟨hij,q⟩
 .cases z
 .rw [FP hij];exact r.im j e q
def Rep.h0(r:Rep K mg F0 H0 F H Y Z)(hn:H a=none):H0 a=none:=by
 have b:=r.g.s.free hn;cases q:H0 a with
 | none=>rfl
 | some o=>
  cases q2:F0 a with
  | none=>rw [(r.g.o a o q2 q).2] at hn;cases hn
  | some u=>rw [r.g.f a u q2] at b;cases b
def Mine(K:W.Frag)(mg:Str->Option Value)(H0 F H:Hp)(q:Addr)(ds:List D):Prop:=H0 q=none/\F q=none/\∃a,H q=some (.lst a)/\Rps K mg F a ds
def Mine.gr(h:Mine K mg H0 F H q ds)(g:Gr F H F' H'):Mine K mg H0 F' H' q ds:=by
 obtain ⟨b,c,e,a,d⟩:=h;obtain ⟨i,j⟩:=g.o q _ c a;exact ⟨b,i,e,j,d.same g.f⟩
def Mine.put(h:Mine K mg H0 F H q ds)(hn:q≠g):Mine K mg H0 F (upd H g o) q ds:=by
 obtain ⟨b,c,e,a,d⟩:=h;exact ⟨b,c,e,by rw [Ai hn];exact a,d⟩
structure Gst(K:W.Frag)(mg:Str->Option Value)(H0:Hp)(i:Nat)(g:Addr)(rs:List Addr)(r:Addr)(gs:List (List D))(cur:List D)(F H:Hp)(Y:St):Prop where
 a:Y[i]?=some (some (.ref g))
 z:H0 g=none
 f:F g=none
 h:H g=some (.lst ((rs++[r]).map V.ref))
 n:∀q∈rs++[r],q≠g
 m:∀q∈rs,q≠r
 l:rs.length=gs.length
 d:∀(k:Nat) (q:Addr) (ds:List D),rs[k]?=some q->gs[k]?=some ds->Mine K mg H0 F H q ds
 c:Mine K mg H0 F H r cur
variable {g r:Addr} {rs:List Addr} {gs:List (List D)} {cur:List D}
def Gst.gr(s:Gst K mg H0 i g rs r gs cur F H Y)(q:Gr F H F' H'):Gst K mg H0 i g rs r gs cur F' H' Y:=by
 obtain ⟨b,t⟩:=q.o g _ s.f s.h;exact ⟨s.a,s.z,b,t,s.n,s.m,s.l,λk p e u j=>(s.d k p e u j).gr q,s.c.gr q⟩
def Gst.st(s:Gst K mg H0 i g rs r gs cur F H Y)(e:Y'[i]?=Y[i]?):Gst K mg H0 i g rs r gs cur F H Y' :=
 ⟨e.trans s.a,s.z,s.f,s.h,s.n,s.m,s.l,s.d,s.c⟩
def Gst.new(s:Gst K mg H0 i g rs r gs cur F H Y)(hp:H p=none)(h0:H0 p=none)(hf:F p=none) :
  Gst K mg H0 i g (rs++[r]) p (gs++[cur]) [] F (upd (upd H p (.lst [])) g (.lst ((rs++[r]).map V.ref++[.ref p]))) Y:=by
 have w:=BP s.h hp;have v:∀{q:Addr} {e:List D},Mine K mg H0 F H q e->q≠p:=λh=>by
  obtain ⟨_,_,A,y,_⟩:=h;exact BP y hp
 have o:∀{q:Addr} {e:List D},q≠g->Mine K mg H0 F H q e->Mine K mg H0 F (upd (upd H p (.lst [])) g (.lst ((rs++[r]).map V.ref++[.ref p]))) q e:=λx h=>(h.put (v h)).put x;refine ⟨s.a,s.z,s.f,by rw [Ay,GC (l₁:=rs++[r])];rfl,λq u=>?_,λq u=>?_,by rw [Cd,Cd,s.l];rfl,λk q e b m=>?_,⟨h0,hf,[],by rw [Ai (Ne.symm w)];exact Ay,.nil⟩⟩
 .rcases CK.mp u with h | h
  .exact s.n q h
  .rw [GQ.mp h];exact Ne.symm w
 .rcases CK.mp u with h | h
  .obtain ⟨k,t,rfl⟩:=Er.mp h;exact v (s.d k rs[k] (gs[k]'(by rw [<-s.l];exact t)) (Bk t) (Bk _))
  .rw [GQ.mp h];exact v s.c
 .by_cases t:k<rs.length
  .rw [Fw t] at b;rw [Fw (by rw [<-s.l];exact t)] at m;exact o (s.n q (JK _ (Ed b))) (s.d k q e b m)
  .rw [Fq (by omega)] at b;rw [Fq (by rw [<-s.l];omega)] at m;have j:k - rs.length=0:=by
    have:=(Gk.mp b).1;simp at this;omega
   rw [j] at b;rw [show k - gs.length=0 by rw [<-s.l];exact j] at m;cases b;cases m;exact o (s.n _ (CZ _ Bf)) s.c
def Gst.app{x:V}(s:Gst K mg H0 i g rs r gs cur F H Y)(hr:H r=some (.lst xs))(hx:Rp K mg F x d):Gst K mg H0 i g rs r gs (cur++[d]) F (upd H r (.lst (xs++[x]))) Y:=by
 have j:=s.n r (CZ _ Bf);obtain ⟨p,u,w,b,o⟩:=s.c;rw [hr] at b;cases b;exact ⟨s.a,s.z,s.f,by rw [Ai (Ne.symm j)];exact s.h,s.n,s.m,s.l,λk q t e v=>(s.d k q t e v).put (s.m q (Ed e)),⟨p,u,_,Ay,Rps.app (.cons hx .nil) o⟩⟩
def Gst.ret(s:Gst K mg H0 i g rs r gs cur F H Y)(rr:Rep K mg F0 H0 F H Y Z):∃F',Gr F0 H0 F' H/\Rp K mg F' (.ref g) (.lst ((gs++[cur]).map D.lst)):=by
 let F':Hp:=λb=>match F b with
  | some o=>some o
  | none=>if b=g\/b∈rs++[r] then H b else none
 have B:Same F F':=λb o e=>by show (match F b with | some o=>some o | none=>_)=some o;rw [e]
 have t:∀{b:Addr},F b=none->(b=g\/b∈rs++[r])->F' b=H b:=λ{b} e h=>by
  show (match F b with | some o=>some o | none=>_)=_
  rw [e];exact iP h
 have A:∀{q:Addr} {ds:List D},q∈rs++[r]->Mine K mg H0 F H q ds->Rp K mg F' (.ref q) (.lst ds):=λhm h=>by
  obtain ⟨P,M,m,x,G⟩:=h;exact .lst (SqL.of ((t M (.inr hm)).trans x)) (G.same B)
 have E:∀b,b=g\/b∈rs++[r]->∃m,H b=some (.lst m):=λb h=>by
  rcases h with rfl | h
  .exact ⟨_,s.h⟩
  .rcases CK.mp h with h | h
   .obtain ⟨k,p,e⟩:=Er.mp h;have C:k<gs.length:=by have:=s.l;omega
    obtain ⟨_,_,m,x,_⟩:=s.d k b gs[k] (by rw [Bk p,e]) (Bk C);exact ⟨m,x⟩
   .have:b=r:=by simpa using h
    subst this;obtain ⟨_,_,m,x,_⟩:=s.c;exact ⟨m,x⟩
 refine ⟨F',⟨rr.g.f.trans B,λb o e=>?_,λb o n j=>?_,λb o u e=>by
  cases q:F b with
  | some w=>
   rw [B b w q] at e;cases e;exact rr.g.z b o u q
  | none=>
   have a:(match F b with | some o=>some o | none=>if b=g\/b∈rs++[r] then H b else none)=some (.frz o u):=e
   rw [q] at a;dsimp only at a;split at a
   .next N=>
    obtain ⟨m,O⟩:=E b N;rw [O] at a;cases a
   .cases a⟩,.lst (SqL.of ((t s.f (.inl rfl)).trans s.h)) (Wn (by rw [Ax,Ax,Cd,Cd,s.l];rfl) λk y d n j=>?_)⟩
 .cases q:F b with
  | some u=>
   rw [B b u q] at e;cases e;exact rr.g.s b _ q
  | none=>
   have a:(match F b with | some o=>some o | none=>if b=g\/b∈rs++[r] then H b else none)=some o:=e
   rw [q] at a;dsimp only at a;split at a
   .exact a
   .cases a
 .obtain ⟨L,I⟩:=rr.g.o b o n j;refine ⟨?_,I⟩;show (match F b with | some o=>some o | none=>if b=g\/b∈rs++[r] then H b else none)=none
  rw [L];refine iN ?_;rintro (rfl | hm)
  .rw [s.z] at j;cases j
  .have J:H0 b=none:=by
    rcases CK.mp hm with h | h
    .obtain ⟨k,p,rfl⟩:=Er.mp h;exact (s.d k rs[k] (gs[k]'(by rw [<-s.l];exact p)) (Bk p) (Bk _)).1
    .rw [GQ.mp h];exact s.c.1
   rw [J] at j;cases j
 .rw [Cz] at n j;cases q1:(rs++[r])[k]? with
  | none=>rw [q1] at n;cases n
  | some q=>
   rw [q1] at n;cases n;cases q2:(gs++[cur])[k]? with
   | none=>rw [q2] at j;cases j
   | some ds=>
    rw [q2] at j;cases j;refine A (Ed q1) ?_;by_cases p:k<rs.length
    .rw [Fw p] at q1;rw [Fw (by rw [<-s.l];exact p)] at q2;exact s.d k q ds q1 q2
    .rw [Fq (by omega)] at q1;rw [Fq (by rw [<-s.l];omega)] at q2;have v:k - rs.length=0:=by
      have:=(Gk.mp q1).1;simp at this;omega
     rw [v] at q1;rw [show k - gs.length=0 by rw [<-s.l];exact v] at q2;cases q1;cases q2;exact s.c
def tGrp(K:W.Frag)(i j k:Nat)(sc:TT):TS:=tSeq (tAsg (tLst (Bo (tLst tNil) tNil)) (Bs i)) (tSeq (tFor (iSeq K (tVar k)) (Bs j) (tIfS sc (Ep (tBM K "list" Ik (tVar i) (Bo (tLst tNil) tNil))) (Ep (tBM K "list" Ik (tOp (rIxD K) (tVar i) (tUn (rU λi=>V.int (-i)) (tC (.int 1)))) (Bo (tVar j) tNil))))) (tRet (tVar i)))
def m7(hij:i≠j)(hik:i≠k)(ht:STt K mg E sc nt):SS K mg E (tGrp K i j k sc) (grp i j k nt):=by
 intro X N F H Y Z O;unfold grp;split
 .next B ek=>
  split
  .next hc=>
   simp only [Ln,LR] at hc;obtain ⟨⟨⟨U,li⟩,lj⟩,hl⟩:=hc;cases er:De i j nt Z B [] [] with
   | bad=>trivial
   | ok res=>
   intro D q;obtain ⟨x,ex,rx⟩:=O.im k _ ek;cases rx with
   | lst hq hrs=>
   rename_i aw xs;refine ⟨(Cq _),λP R=>⟨(show 1<=sizeLine by decide),λp hp=>?_⟩⟩;have n1:p≠P:=by
    rintro rfl;rw [Ay] at hp;cases hp
   have W:H p=none:=by rwa [Ai n1] at hp
   have z1:=O.h0 R;have z2:=O.h0 W;have f1:=O.g.s.free R;have f2:=O.g.s.free W;have r1:Rep K mg X N F (upd (upd H P (.lst [])) p (.lst [.ref P])) (Y.set i (some (.ref p))) (Z.set i .no):=((O.putE U z1 f1).putE U z2 f2).forg U i;have s1:Gst K mg N i p [] P [] [] F (upd (upd H P (.lst [])) p (.lst [.ref P])) (Y.set i (some (.ref p))) :=
    ⟨R0 (by rw [O.len];exact li),z2,f2,Ay,λu hu=>by rw [GQ.mp hu];exact Ne.symm n1,λu hu=>by simp at hu,rfl,λk u es e=>by simp at e,⟨z1,f1,[],by rw [Ai (Ne.symm n1)];exact Ay,.nil⟩⟩
   refine ⟨.ref aw,by rw [FP hik];exact ex,aw,rfl,.inl ⟨⟨xs,r1.ss.seq hq⟩,?_⟩⟩
   refine ⟨λm fu Y' H'=>fu=B.length - m/\m<=B.length/\∃I C g v r A t,Same F I/\Rep K mg X N I H' Y' C/\nOw C=true/\(∀d,C.set j (.im d)=(Z.set i .no).set j (.im d))/\Gst K mg N i g v r A t I H' Y'/\A.length<=m/\t.length<=m/\De i j nt Z (B.drop m) A t=.ok res,
    ⟨_,rfl,Cq _,F,Z.set i .no,p,[],P,[],[],Same.refl _,r1,K1 U (by simp),λ_=>rfl,s1,Ar _,Ar _,er⟩,?_⟩
   rintro m fu Y' H' ⟨rfl,hm,I,C,g,v,r,A,t,sF,r',hn',L,st,lg,lc,J⟩;have M:=r'.ss.seq (sF.seq hq);by_cases hlt:m<B.length
   .refine .inr ?_;have hd:=Bk hlt;obtain ⟨y,ey,ry⟩:=hrs.get hd;rw [Ka hlt] at J;generalize B[m]=d at J ry hd;obtain ⟨b,eb,J⟩:=yw J;have eb:=gj eb
    refine ⟨⟨xs,y,M,ey⟩,λY2 S=>∃I C g v r A t,Same F I/\Rep K mg X N I S Y2 C/\nOw C=true/\(∀d,C.set j (.im d)=(Z.set i .no).set j (.im d))/\Gst K mg N i g v r A t I S Y2/\A.length<=m+1/\t.length<=m+1/\De i j nt Z (B.drop (m+1)) A t=.ok res,
     λY2 S z=>⟨B.length - (m+1),by omega,rfl,hlt,z⟩,?_⟩
    rintro y' S ⟨rfl,hy⟩;have e2:=hy xs M;rw [ey] at e2;cases e2;have Q:=ry.same sF;have r2:=r'.set j Q;rw [L d] at r2;have st2:=st.st (Y':=Y'.set j (some y)) (FP (Ne.symm hij));have hT:=ht X N I S _ _ r2;rw [eb] at hT;refine hT _ λF3 H3 b' T hb=>?_;cases (hb);have r3:=r2.gr T;have o:=st2.gr T;have w:nOw ((Z.set i .no).set j (.im d))=true:=K1 (K1 U (by simp)) (by simp)
    have sj:(Y'.set j (some y))[j]?=some (some y):=R0 (by
     have:=r'.len;have e3:C.length=Z.length:=by
      have:=CP List.length (L d);simpa using this
     omega)
    have bd:∀n,n<=m+1->n<sizeLine:=λn h=>Rr (An h hlt) (Bv hl (by decide));cases b with
    | true=>
     refine ⟨.ref g,o.a,.inl ⟨rfl,_,SqL.of o.h⟩,by decide,λp3 G=>?_⟩;have gp:=BP o.h G;refine ⟨g,(v++[r]).map V.ref,.ref p3,rfl,rfl,by rw [Ai gp];exact o.h,bd _ (by rw [Ax,Cd,st.l];exact MJ lg),?_⟩;have w0:=r3.h0 G;have wf:=r3.g.s.free G;exact ⟨F3,_,g,v++[r],p3,A++[t],[],sF.trans T.f,(r3.putE w w0 wf).putE w o.z o.f,w,λd'=>by rw [List.set_set],o.new G w0 wf,by rw [Cd];exact MJ lg,Cq _,J⟩
    | false=>
     obtain ⟨c1,c2,cs,c3,c4⟩:=o.c;refine ⟨.ref g,o.a,1,rfl,.inl ⟨g,(v++[r]).map V.ref,-1,.ref r,rfl,rfl,SqL.of o.h,?_,.inl ⟨rfl,cs,SqL.of c3⟩,y,sj,r,cs,y,rfl,rfl,c3,bd _ (by rw [c4.length];exact Nat.le_succ_of_le lc),?_⟩⟩
     .unfold atI ixN;rw [iN (by decide),iP (by rw [Ax,Cd];simp;omega)];show ((v++[r]).map V.ref)[(-1+(((v++[r]).map V.ref).length:Int)).toNat]?=_;rw [Ax,Cd,QD,show (-1+((v.length+1:Nat):Int)).toNat=v.length by omega,Cz,Fq (Ar _),Nat.sub_self];rfl
     .exact ⟨F3,_,g,v,r,A,t++[d],sF.trans T.f,r3.putE w c1 c2,w,λd'=>by rw [List.set_set],o.app c3 (Q.same T.f),Nat.le_succ_of_le lg,by rw [Cd];exact MJ lc,J⟩
   .refine .inl ⟨⟨xs,M,by rw [hrs.length];omega⟩,?_⟩;have e0:B.drop m=[]:=Jz (by omega);rw [e0] at J;cases J;obtain ⟨F5,g5,x5⟩:=st.ret r';exact ⟨.ref g,st.a,q F5 H' (.ref g) g5 x5⟩
  .trivial
 .trivial
end
section
variable {y z:Str} {t':Expr} {sc:TT} {nt:MB} {p1 p2 p3 p4 p5 p6 p7 p8 p9 q1 q2 q3 q4 q5 q6 q7 q8 q9:Pos} {n1:Nat}
def zr(hN:X.N.Nodup)(hp:PassesOwn (model X.prog X.w) X.A X.env X.xe)(hc:X.calm=true)(hij:i≠j)(hik:i≠k)(hi:X.N[i]?=some x)(hx:Loc X.env.scope x)(hj:X.N[j]?=some y)(hy:Loc X.env.scope y)(hk:X.N[k]?=some z)(ht:DT X E t' sc nt)(hv:CQ X.env.scope x:=by first | exact Or.inl rfl | exact Or.inr (Or.inl rfl) | exact Or.inr (Or.inr rfl))(hd:ND x:=by decide)(hcd:NE x:=by decide)(hvy:CQ X.env.scope y:=by first | exact Or.inl rfl | exact Or.inr (Or.inl rfl) | exact Or.inr (Or.inr rfl))(hdy:ND y:=by decide)(hcdy:NE y:=by decide)(hvz:CQ X.env.scope z:=by first | exact Or.inl rfl | exact Or.inr (Or.inl rfl) | exact Or.inr (Or.inr rfl))(hdz:ND z:=by decide)(hcdz:NE z:=by decide)(hs:swapsWith (.List [.List [] p1] p2) (some (.Name x p3)) p4.line X.env=pure false:=by rfl)(hf:X.fn x=true\/X.env.scope.names.lookup x=some .local:=by first | exact .inl rfl | exact .inr rfl | assumption)(hfy:X.fn y=true\/X.env.scope.names.lookup y=some .local:=by first | exact .inl rfl | exact .inr rfl | assumption)(hse:starEach [.List [] p1] X.env=(false,eval (.List [] p1) X.env)::starEach [] X.env:=by rfl)(hfs:∀u,foldedSetIterable (.Name z p6) X.env u=pure u:=by intro _;rfl)(hb1:attributeBase (.Name x p7) "append" X.env (eval (.Name x p7) X.env)=eval (.Name x p7) X.env:=by rfl) (hw1:((backTo p9 (starEach [.List [] q1] X.env)).all (λx=>!x.1)&&(backToKw p9 (keywordEach [] X.env)).all (λx=>x.1.isSome)
   && decide (([.List [] q1]:List Expr).length+([]:List Keyword).length+(if ([]:List Keyword).isEmpty then 0 else 1)<30))=true:=by rfl) (hl1:(p8.endLine==p9.line)=true:=by rfl) (hs1:starEach [.List [] q1] X.env=(false,eval (.List [] q1) X.env)::starEach [] X.env:=by rfl) (hp1:(backTo p9 (starEach [] X.env)).any (·.1)=false:=by rfl) (hsw1:swapsWith (.Call (.Attribute (.Name x p7) "append" p8) [.List [] q1] [] p9) none q2.line X.env=pure false:=by rfl) (hb2:attributeBase (.Subscript (.Name x q3) (.UnaryOp .USub (.Constant (.int 1) n1 q4) q5) q6) "append" X.env (eval (.Subscript (.Name x q3) (.UnaryOp .USub (.Constant (.int 1) n1 q4) q5) q6) X.env)=eval (.Subscript (.Name x q3) (.UnaryOp .USub (.Constant (.int 1) n1 q4) q5) q6) X.env:=by rfl) (hw2:((backTo q8 (starEach [.Name y q9] X.env)).all (λx=>!x.1)&&(backToKw q8 (keywordEach [] X.env)).all (λx=>x.1.isSome)
   && decide (([.Name y q9]:List Expr).length+([]:List Keyword).length+(if ([]:List Keyword).isEmpty then 0 else 1)<30))=true:=by rfl) (hl2:(q7.endLine==q8.line)=true:=by rfl) (hs2:starEach [.Name y q9] X.env=(false,eval (.Name y q9) X.env)::starEach [] X.env:=by rfl) (hp2:(backTo q8 (starEach [] X.env)).any (·.1)=false:=by rfl) {r1 r2 r3 r4 r5:Pos} (hsw2:swapsWith (.Call (.Attribute (.Subscript (.Name x q3) (.UnaryOp .USub (.Constant (.int 1) n1 q4) q5) q6) "append" q7) [.Name y q9] [] q8) none r1.line X.env=pure false:=by rfl) :
  DSs X E [.Assign [.Name x p3] (.List [.List [] p1] p2) p4,.For (.Name y p5) (.Name z p6) [.If t' [.Expr (.Call (.Attribute (.Name x p7) "append" p8) [.List [] q1] [] p9) q2] [.Expr (.Call (.Attribute (.Subscript (.Name x q3) (.UnaryOp .USub (.Constant (.int 1) n1 q4) q5) q6) "append" q7) [.Name y q9] [] q8) r1] r2] [] r3,.Return (some (.Name x r4)) r5]
   (tGrp X.K i j k sc) (grp i j k nt) :=
 ⟨DP (Hq hN hi hx (O6 (Ea (O6 Dv) Dv hse)) hs hf) (DP (Pg hp hc (CT (E:=E) (d_v k hk hvz hdz hcdz)).p (Tg hN hj hy hfy) (FQ (JM ht.p
   (FQ (J0 (J5 LQ PySem.F.slot_list_append PySem.F.type_list_append Tv (Cr hi hv hd hcd) (Ea (O6 Dv) Dv hs1) hb1 hw1 hl1 hs1 hp1) hsw1))
   (FQ (J0 (J5 LQ PySem.F.slot_list_append PySem.F.type_list_append Tv (Zv (IxR.or XR ZD) (Cr hi hv hd hcd) (cL Yc eN) (λ_ _=>rfl)) (Ea (Cr hj hvy hdy hcdy) Dv hs2) hb2 hw2 hl2 hs2 hp2) hsw2)))) hfs) (FQ (Jy (Cr hi hv hd hcd)))),
m7 hij hik ht.s⟩
end
end L2.Ds
namespace Dl
def intY:D->Option Int
 | .int k=>some k
 | _=>none
def setO(i:Nat)(mv mb:ME):MS:=λZ=>(getO Z[i]?).bind λa=>(noEx (mv Z)).bind λw=>(noEx (mb Z)).bind λb=>match (intY b).bind λk=>ixP a.length k with
 | some c=>.ok (.nx (Z.set i (.ow (a.set c w))))
 | none=>.bad
end Dl
namespace L2.Ds
open Dl
def agr(J:List Nat)(Y Y':St):Prop:=∀j∈J,Y'[j]?=Y[j]?
def agr.refl:agr J Y Y:=λ_ _=>rfl
def agr.trans(h:agr J Y Y1)(h2:agr J Y1 Y2):agr J Y Y2:=λj m=>(h2 j m).trans (h j m)
def agr.set{x:Option V}(h:j∉J):agr J Y (Y.set j x):=λk m=>FP λe=>h (e▸m)
def agD(J:List Nat)(Y:St)(D:Ends):Ends:=⟨λa b=>agr J Y a->D.nx a b,λ_ _=>True,λa b=>agr J Y a->D.bk a b,λa b=>agr J Y a->D.ct a b⟩
def Kpt(J:List Nat)(t:TS):Prop:=∀D Y H,t (agD J Y D) Y H->t D Y H
def o8:Kpt J (Ep te):=λD Y H h=>by
 have e:(λ(_:V) a=>(agD J Y D).nx Y a)=λ_ a=>D.nx Y a:=by funext _ a;exact propext ⟨λh=>h agr.refl,λh _=>h⟩
 unfold Ep at h ⊢;rw [e] at h;exact h
def Pb(hj:j∉J):Kpt J (tAsg te (Bs j)):=λD Y H h=>by
 have e:(λ(x:V) a=>Bs j x Y a (agD J Y D).nx)=λx a=>Bs j x Y a D.nx:=by funext x a;exact propext ⟨λh=>h (agr.set hj),λh _=>h⟩
 unfold tAsg at h ⊢;rw [e] at h;exact h
def Hi:Kpt J (tAsg te (gSub to ti ts)):=λD Y H h=>by
 have e:(λa=>(agD J Y D).nx Y a)=λa=>D.nx Y a:=by funext a;exact propext ⟨λh=>h agr.refl,λh _=>h⟩
 unfold tAsg gSub at h ⊢;rw [e] at h;exact h
section
variable {J:List Nat}
def KpG(J:List Nat)(t:TG):Prop:=∀x b Y H P d,agr J b Y->(∀a c,agr J b a->P a c->d a c)->t x Y H P->t x Y H d
def KpGs(J:List Nat)(t:TGs):Prop:=∀x b Y H P d,agr J b Y->(∀a c,agr J b a->P a c->d a c)->t x Y H P->t x Y H d
def HX(hj:j∉J):KpG J (Bs j):=λ_ _ _ _ _ _ a w h=>w _ _ (a.trans (agr.set hj)) h
def Yz:KpGs J gNil:=λ_ _ _ _ _ _ a w h=>⟨h.1,w _ _ a h.2⟩
def Ho(h1:KpG J t)(h2:KpGs J u):KpGs J (R7 t u):=λx b Y H P g a w h=>by
 obtain ⟨v,r,e,z⟩:=h;exact ⟨v,r,e,h1 v b Y H _ _ a (λf d c q=>h2 r b f d P g c w q) z⟩
def Xh(h1:KpGs J t):KpG J (gSeq K n t):=λx c Y H P d a w h=>by
 rcases h with ⟨b,xs,e1,e2,e3,z⟩ | ⟨b,xs,e1,e2,e3,z⟩
 .exact .inl ⟨b,xs,e1,e2,e3,h1 xs c Y H P d a w z⟩
 .exact .inr ⟨b,xs,e1,e2,e3,h1 xs c Y H P d a w z⟩
end
section
variable {J:List Nat} {F:Hp} {a:Addr} {rows:List Addr} {dss:List (List D)}
def Rps.set{x:V}(h:Rp K mg F x d):∀{xs:List V} {ds:List D} (c:Nat),Rps K mg F xs ds->Rps K mg F (xs.set c x) (ds.set c d)
 | _,_,_,.nil=>.nil
 | _,_,0,.cons _ r=>.cons h r
 | _,_,c+1,.cons q r=>.cons q (Rps.set h c r)
end
section
variable {F:Hp} {Y':St} {Z2:Ev} {a:Addr} {rows:List Addr} {dss:List (List D)} {l:Nat} {J:List Nat}
def wK(hv:SE K mg E tv mv)(hb:SE K mg E tb mb):SS K mg E (tAsg tv (gSub (tVar i) tb V1)) (setO i mv mb):=by
 intro g j F H Y Z n;unfold setO getO;split
 .next b e=>
  obtain ⟨a,C,u,B,M,O,z⟩:=n.ow i b e;have t:=hv g j F H Y Z n
  show AnsS K mg E g j F ((noEx (mv Z)).bind λw=>(noEx (mb Z)).bind λl=>match (intY l).bind λk=>ixP b.length k with
   | some c=>Res.ok (Fl.nx (Z.set i (.ow (b.set c w))))
   | none=>.bad) _
  cases q1:mv Z with
  | bad=>trivial
  | ok w=>
  rw [q1] at t;have v:=λp s I=>hb g j p s Y Z I
  show AnsS K mg E g j F ((noEx (mb Z)).bind λl=>match (intY l).bind λk=>ixP b.length k with
   | some c=>Res.ok (Fl.nx (Z.set i (.ow (b.set c w))))
   | none=>.bad) _
  cases q2:mb Z with
  | bad=>trivial
  | ok l=>
   rw [q2] at v;cases l with
   | int k=>
    show AnsS K mg E g j F (match ixP b.length k with
     | some c=>Res.ok (Fl.nx (Z.set i (.ow (b.set c w))))
     | none=>.bad) _
    cases q3:ixP b.length k with
    | none=>trivial
    | some c=>
     exact λD q=>t _ λp s x d A=>⟨.ref a,u,v p s (n.gr d) _ λN P y m J=>by
      cases J;obtain ⟨G,r⟩:=d.o a _ M O;obtain ⟨L,h⟩:=m.o a _ G r
      exact ⟨a,C,k,c,rfl,rfl,h,by rw [z.length];exact q3,q N _ Y (d.f.trans m.f) (((n.gr d).gr m).put e u h B L (Rps.set (A.same m.f) c (z.same (d.f.trans m.f))))⟩⟩
   | _=>trivial
 .trivial
end
section
variable {l:Nat} {J:List Nat} {st:Stmt} {sts rest:List Stmt} {tv ta tb to ti:TE} {ts:TSet} {t u u':TS} {m:MS} {k k':MY} {mv ma mb:ME} {sa:TT} {na:MB} {ev ea eb c' tg iter elt:Expr} {y:Str} {np ip ip2 apos p:Pos}
def HD(hw:DE X E e tv mv)(hb:DE X E eb tb mb)(hi:X.N[i]?=some y:=by rfl)(hv:CQ X.env.scope y:=by first | exact Or.inl rfl | exact Or.inr (Or.inl rfl) | exact Or.inr (Or.inr rfl))(hd:ND y:=by decide)(hcd:NE y:=by decide) (has:∀v,assign (.Subscript (.Name y np) eb ip2) X.env v=(do
   let ov <-holding [v] (eval (.Name y np) X.env)
   let iv <-holding [v,ov] (eval eb X.env)
   standAt ip2
   holding [v,ov,iv] (setItem ov iv v)
   release [v,ov,iv] []):=by intro _;rfl) (hs2:swapsWithSole [.Subscript (.Name y np) eb ip2] e spos.line X.env=pure false:=by rfl) (hw2:swappedStores [.Subscript (.Name y np) eb ip2] e X.env=pure none:=by rfl) :
  DS X E (.Assign [.Subscript (.Name y np) eb ip2] e spos) (tAsg tv (gSub (tVar i) tb V1)) (setO i mv mb) :=
 ⟨VR hw.p (pY (Cr hi hv hd hcd) hb.p set_list has) hs2 hw2,wK hw.s hb.s⟩
end
end L2.Ds
namespace Dl
abbrev MW:=Ev->Res (D×Ev)
def wRet(e:ME):MW:=λZ=>(e Z).bind λd=>.ok (d,Z)
def wSeq(s:MS)(k:MW):MW:=λZ=>(s Z).bind λa=>match a with
 | .nx Z'=>k Z'
 | _=>.bad
def wIf(c:MB)(a k:MW):MW:=λZ=>(c Z).bind λb=>if b=true then a Z else k Z
def wEnd:D×Ev->Res (D×List D)
 | (d,.ow ys::_)=>.ok (d,ys)
 | _=>.bad
def fnWo(n:Nat)(m:MW):List D->List D->Res (D×List D):=λa b=>(m (.ow a::ev0 (n - 1) b)).bind wEnd
def unpO(i j:Nat)(g:MGs):MS:=λZ=>match Z[i]? with
 | some (.ow ds)=>if ds.length=j then (match g ds Z with | .ok Z'=>.ok (.nx Z') | _=>.bad) else .bad
 | _=>.bad
end Dl
namespace L2.Ds
open Dl
def AnsW(Y:St)(K:W.Frag)(mg:Str->Option Value)(F0 H0:Hp)(r:Res (D×Ev))(w:Ends->Prop):Prop :=
 match r with
 | .ok (d,Z)=>∀D:Ends,(∀a b c x,Rep K mg F0 H0 a b c Z->c[0]?=Y[0]?->Rp K mg a x d->D.rt x b)->w D
 | _=>True
def SW(K:W.Frag)(mg:Str->Option Value)(t:TS)(m:MW):Prop:=∀a b F H Y Z,Rep K mg a b F H Y Z->AnsW Y K mg a b (m Z) (λD=>t D Y H)
structure DSW(X:Cx)(E:XK)(sts:List Stmt)(t:TS)(m:MW):Prop where
 p:PSs X sts t
 s:SW X.K X.mg t m
section
variable {F:Hp} {i0:Nat}
def X8{J:List Nat}{te:TE}{g:TG}(k:KpG J g):Kpt J (tAsg te g):=λD Y H h=>by
 have e:(λ(x:V) b=>g x Y b (agD J Y D).nx)=λx b=>g x Y b D.nx:=by
  funext x b;exact propext ⟨λh=>k x Y Y b _ _ agr.refl (λ_ _ a q=>q a) h,λh=>k x Y Y b _ _ agr.refl (λ_ _ _ q _=>q) h⟩
 unfold tAsg at h ⊢;rw [e] at h;exact h
def uJ{t:TS}{m:MS}(h:SS K mg E t m)(kp:Kpt [i0] t):SSk i0 K mg E t m:=by
 intro j k F H Y Z l;have z:=h j k F H Y Z l;cases e:m Z with
 | ok f=>
  rw [e] at z;cases f with
  | nx Z'=>exact λD q=>kp D Y H (z _ λc b i s g a=>q c b i s g (a i0 (by simp)))
  | bk Z'=>exact λD q=>kp D Y H (z _ λc b i s g a=>q c b i s g (a i0 (by simp)))
  | ct Z'=>exact λD q=>kp D Y H (z _ λc b i s g a=>q c b i s g (a i0 (by simp)))
  | rt d=>exact λD q=>z D q
 | bad=>trivial
def Ans.stw{Y:St}{α β:Type}{R:Hp->β->α->Prop}{r:Res α}{w:(β->Hp->Prop)->Prop}{k:α->Res (D×Ev)}{w':β->Hp->Ends->Prop}(h1:Ans mg E R F H r w)
  (h2:∀a,r=.ok a->∀F1 H1 b,Gr F H F1 H1->R F1 b a->AnsW Y K mg F0 H0 (k a) (w' b H1)):AnsW Y K mg F0 H0 (r.bind k) (λD=>w λb H1=>w' b H1 D):=by
 cases r with
 | ok a=>
  show AnsW Y K mg F0 H0 (k a) _;have c:=h2 a rfl;generalize k a=r2 at c;cases r2 with
  | ok z=>exact λD q=>h1 _ λF1 H1 b g d=>c F1 H1 b g d D q
  | bad=>trivial
 | bad=>trivial
def xV{te:TE}{me:ME}(h:SE K mg E te me):SW K mg (tRet te) (wRet me):=by
 intro e f F H Y Z b;exact (h e f F H Y Z b).stw (w':=λx a D=>D.rt x a) λd _ i a x c g=>λD q=>q i a Y x (b.gr c) rfl g
def rA{t u:TS}{m:MS}{k:MW}(h1:SSk 0 K mg E t m)(h2:SW K mg u k):SW K mg (tSeq t u) (wSeq m k):=by
 intro a b F H Y Z i;have z:=h1 a b F H Y Z i;unfold wSeq;cases e:m Z with
 | ok fl=>
  rw [e] at z;cases fl with
  | nx Z'=>
   show AnsW Y K mg a b (k Z') _;cases e2:k Z' with
   | ok r=>
    intro D q;refine z _ λl g s _ n v=>?_;have y:=h2 a b l g s Z' n;rw [e2] at y;exact y D λf c o x j p h=>q f c o x j (p.trans v) h
   | bad=>trivial
  | rt d=>trivial
  | bk Z'=>trivial
  | ct Z'=>trivial
 | bad=>trivial
def jZ{sc:TT}{nc:MB}{t u:TS}{a k:MW}(hc:STt K mg E sc nc)(h1:SW K mg t a)(h2:SW K mg u k):SW K mg (tSeq (tIfS sc t GF) u) (wIf nc a k):=by
 intro f g F H Y Z d;refine (hc f g F H Y Z d).stw (w':=λb c D=>if b=true then t { D with nx:=u D } Y c else u D Y c) λb _ i c x h j=>?_
 cases j;cases b with
 | true=>
  have z:=h1 f g i c Y Z (d.gr h);cases e:a Z with
  | ok r=>
   rw [e] at z;exact λD q=>z { D with nx:=u D } q
  | bad=>trivial
 | false=>exact h2 f g i c Y Z (d.gr h)
def lG{i j n:Nat}{u:TGs}{g:MGs}(hg:SGs K mg n u g):SS K mg E (tAsg (tVar i) (gSeq K j u)) (unpO i j g):=by
 intro k l F H Y Z c;unfold unpO;split
 .next b e=>
  split
  .next r=>
   obtain ⟨a,d,m,w,x,h,f⟩:=c.ow i b e;have z:=hg k l F H Y Z d b c f;cases eg:g b Z with
   | ok Z'=>
    rw [eg] at z;intro D q;refine ⟨_,m,.inr ⟨a,d,rfl,.inl (.inl h),f.length.trans r,z _ λp o v s t _=>q p o v s t⟩⟩
   | bad=>trivial
  .trivial
 .trivial
end
section
variable {st:Stmt} {rest body:List Stmt} {t u:TS} {m:MS} {a k:MW} {c:Expr} {tc:TT} {mc:MB}
def Ji(h:DE X E e te me):DSW X E [.Return (some e) spos] (tRet te) (wRet me):=⟨FQ (Jy h.p),xV h.s⟩
def Ez(h:DSk X 0 E st t m)(r:DSW X E rest u k):DSW X E (st::rest) (tSeq t u) (wSeq m k):=⟨DP h.p r.p,rA h.s r.s⟩
def Kl(h:DT X E c tc mc)(b:DSW X E body t a)(r:DSW X E rest u k):DSW X E (.If c body [] spos::rest) (tSeq (tIfS tc t GF) u) (wIf mc a k):=⟨DP (JM h.p b.p Kr) r.p,jZ h.s b.s r.s⟩
def Ge(h:DS X E st t m)(kp:Kpt [i] t):DSk X i E st t m:=⟨h.p,uJ h.s kp⟩
end
section
variable {qual:Str} {f:Addr}
def spWo(K:W.Frag)(mg:Str->Option Value)(n:Nat)(m:List D->List D->Res (D×List D)):Sp:=λf H Q _=>f.length=n+1/\∃(a:Addr) (ys xs:List V) (F:Hp) (ds bs:List D),
 f=.ref a::ys/\H a=some (.lst xs)/\F a=none/\Same F H/\Rps K mg F ys ds/\Rps K mg F xs bs/\∃d g,m bs ds=.ok (d,g) /\
 ∀c e b y,Gr F (del H a) c e->c a=none->e a=some (.lst b)->Rps K mg c b g->Rp K mg c y d->Q y e
def mW{F H:Hp}{a:Addr}{vs xs:List V}{ds bs:List D}(s:Same F H)(fa:F a=none)(ha:H a=some (.lst xs))(r:Rps K mg F vs ds)(rb:Rps K mg F xs bs)(hN:1<=N.length):Rep K mg F (del H a) F H (start N (.ref a::vs)) (.ow bs::ev0 (N.length - 1) ds):=by
 have z:=T5 (K:=K) (mg:=mg) (N:=N) (z:=.ref a) s fa r hN;refine ⟨z.g,by simpa using z.len,λi d e=>?_,λi f e=>?_,λi j f k b l h _ _=>?_⟩
 .cases i with
  | zero=>cases e
  | succ i=>exact z.im (i+1) d e
 .cases i with
  | zero=>cases e;exact ⟨a,xs,rfl,Gh,fa,ha,rb⟩
  | succ i=>exact z.ow (i+1) f e
 .have c:∀(i:Nat) (f:List D),(Cl.ow bs::ev0 (N.length - 1) ds)[i]?=some (.ow f)->i=0:=by
   intro i f e;cases i with
   | zero=>rfl
   | succ i=>
    rw [List.getElem?_cons_succ,K4] at e;by_cases hi:i<ds.length
    .rw [Fw (by simpa using hi),Cz,Bk hi] at e;cases e
    .rw [Fq (by simpa using hi),List.getElem?_replicate] at e;split at e<;>cases e
  rw [c i _ l,c j _ h]
def okWo{st:Stmt}{fd:FuncData}{k n:Nat}{mb:MW}(F:Fun K x qual st f fd)(S:Bx N ps (BV st))(hN:1<=N.length)(hp:ps.length=n+1)
  (h:∀(cdv:Value) (A:Around) (outer:List Env) (s:Shared) (H:Hp) (E:XK),Room k (A.deeper (envOfC qual (BV st) s.heap.objs.size f cdv))->∃t,DSW (cxOf (CXR P w) P w K mg base N qual (BV st) f cdv A outer s H E) E (Ew st) t mb) :
  FnOk P w K mg base (CXR P w) (k+1) f fd ps (spWo K mg n (fnWo N.length mb)):=by
 obtain ⟨oc,od,kV,X,pm,an,cdv,ct,osl,rfl,lk,l⟩:=F.ex;refine Nh lk l S (λO H Q E q=>q.1.trans hp.symm) λA outer s H O Q E hr u=>?_;obtain ⟨t,D⟩:=h cdv A outer s H E hr;refine ⟨t,D.p,?_⟩;obtain ⟨_,a,ys,xs,C,B,I,rfl,Y,Z,s0,rs,V,d,cs,i,o⟩:=u;have z:=D.s C (del H a) C H (start N (.ref a::ys)) (.ow I::ev0 (N.length - 1) B) (mW s0 Z Y rs V hN);unfold fnWo at i;cases e:mb (.ow I::ev0 (N.length - 1) B) with
 | ok r=>
  rw [e] at z i;obtain ⟨R,Z1⟩:=r;have c:wEnd (R,Z1)=.ok (d,cs):=i;unfold wEnd at c;split at c
  .next d2 L v e1=>
   cases e1;cases c;refine z _ λT H' W y J ks ry=>?_;obtain ⟨b,j,G,h2,h3,M,U⟩:=J.ow 0 _ rfl;have m:W[0]?=some (some (.ref a)):=ks;rw [m] at G;cases G;exact o T H' j y J.g h3 M U ry
  .cases c
 | bad=>rw [e] at i;cases i
end
end L2.Ds
namespace Dl
abbrev MO:=Ev->Fs->Res (D×Fs)
abbrev MEo:=Ev->Fs->Res D
abbrev MAo:=Ev->Fs->Res (List D)
def putD(f:Str)(d:D):Fs->Fs
 | []=>[(f,d)]
 | (g,x)::r=>if g=f then (g,d)::r else (g,x)::putD f d r
def oOf(e:ME):MEo:=λZ _=>e Z
def oFld(f:Str):MEo:=λ_ a=>match a.lookup f with
 | some d=>.ok d
 | none=>.bad
def oNil:MAo:=λ_ _=>.ok []
def Dt(e:MEo)(m:MAo):MAo:=λZ a=>(e Z a).bind λd=>(m Z a).bind λb=>.ok (d::b)
def oOn(g:List D->Res D)(m:MAo):MEo:=λZ a=>(m Z a).bind g
def oO2(g:D->D->Res D)(a b:MEo):MEo:=λZ c=>(a Z c).bind λx=>(b Z c).bind λy=>g x y
def oRet(e:MEo):MO:=λZ a=>(e Z a).bind λd=>.ok (d,a)
def oSeq(s:MS)(k:MO):MO:=λZ a=>(s Z).bind λf=>match f with
 | .nx Z'=>k Z' a
 | _=>.bad
def oIf(c:MB)(a k:MO):MO:=λZ d=>(c Z).bind λb=>if b=true then a Z d else k Z d
def oSet(f:Str)(e:MEo)(k:MO):MO:=λZ a=>(e Z a).bind λd=>if 100<=a.length then .bad else k Z (putD f d a)
def fnO2(n:Nat)(m:MO):List D->Fs->Res (D×Fs):=λb a=>m (.no::ev0 (n - 1) b) a
end Dl
namespace L2.Ds
open Dl
section
variable {x dx C:Addr} {F:Hp} {Y':St} {Z':Ev} {fs fs':List (Str×V)} {fl fl':Fs}
def FR.putD{f:Str}{y:V}{d:D}:∀{fs:List (Str×V)} {fl:Fs},FR K mg F fs fl->Rp K mg F y d->FR K mg F (putF f y fs) (Dl.putD f d fl)
 | [],fl,h,ry=>by
  have e:=h.nm;cases fl with
  | nil=>exact ⟨rfl,.cons ry .nil⟩
  | cons p r=>cases e
 | (g,v)::r,fl,h,ry=>by
  have e:=h.nm;have b:=h.rv;cases fl with
  | nil=>cases e
  | cons p q=>
   obtain ⟨i,j⟩:=p;rw [Bg,Bg] at e;obtain ⟨k,c⟩:=List.cons.inj e;have a:g=i:=k;subst a;rw [Bg,Bg] at b;cases b with
   | cons r1 r2=>
   show FR K mg F (if g=f then (g,y)::r else (g,v)::putF f y r) (if g=f then (g,d)::q else (g,j)::Dl.putD f d q)
   by_cases hg:g=f
   .rw [iP hg,iP hg];exact ⟨by rw [Bg,Bg,c],.cons ry r2⟩
   .rw [iN hg,iN hg];have z:=FR.putD (f:=f) (fs:=r) (fl:=q) ⟨c,r2⟩ ry;exact ⟨by rw [Bg,Bg,z.nm],.cons r1 z.rv⟩
def FR.look{f:Str}{d:D}:∀{fs:List (Str×V)} {fl:Fs},FR K mg F fs fl->fl.lookup f=some d->∃y,fs.lookup f=some y/\Rp K mg F y d
 | [],fl,h,e=>by
  have n:=h.nm;cases fl with
  | nil=>cases e
  | cons p r=>cases n
 | (g,v)::r,fl,h,e=>by
  have n:=h.nm;have b:=h.rv;cases fl with
  | nil=>cases e
  | cons p q=>
   obtain ⟨i,k⟩:=p;rw [Bg,Bg] at n b;obtain ⟨j,c⟩:=List.cons.inj n;have a:g=i:=j;subst a;cases b with
   | cons r1 r2=>
   rw [Li] at e ⊢;cases hb:f==g with
   | true=>
    rw [hb] at e;cases e;exact ⟨v,rfl,r1⟩
   | false=>
    rw [hb] at e;exact FR.look (fs:=r) (fl:=q) ⟨c,r2⟩ e
def RepI.frame(r:RepI K mg x dx C F0 H0 F H Y Z fs fl):Rep K mg F0 (upd H0 x (.ins C dx fs)) F H Y Z:=by
 refine ⟨⟨r.rep.g.f,r.rep.g.s,λa o d b=>?_,r.rep.g.z⟩,r.rep.len,r.rep.im,λi j e=>?_,r.rep.ne⟩
 .by_cases ha:a=x
  .subst ha;rw [Ay] at b;cases b;exact ⟨r.fx,r.hx⟩
  .rw [Ai ha] at b;exact r.rep.g.o a o d b
 .obtain ⟨a,h,d,b,l,c,k⟩:=r.rep.ow i j e;have m:a≠x:=by
   rintro rfl;rw [r.hx] at c;cases c
  exact ⟨a,h,d,by rw [Ai m];exact b,l,c,k⟩
def RepI.back(r:RepI K mg x dx C F0 H0 F H Y Z fs fl)(s:Same F F')(r':Rep K mg F0 (upd H0 x (.ins C dx fs)) F' H' Y' Z')(k:Y'[0]?=Y[0]?):RepI K mg x dx C F0 H0 F' H' Y' Z' fs fl:=by
 have q:F0 x=none:=r.rep.g.f.free r.fx;obtain ⟨t,l⟩:=r'.g.o x _ q Ay;refine ⟨⟨⟨r'.g.f,r'.g.s,λa o c b=>?_,r'.g.z⟩,r'.len,r'.im,λi j e=>?_,r'.ne⟩,r.h0,k.trans r.self,t,l,r.fr.same s⟩
 .have d:a≠x:=BP b r.h0;exact r'.g.o a o c (by rw [Ai d];exact b)
 .obtain ⟨a,h,c,b,p,m,n⟩:=r'.ow i j e;have d:a≠x:=by
   rintro rfl;rw [Ay] at b;cases b
  exact ⟨a,h,c,by rw [Ai d] at b;exact b,p,m,n⟩
def RepI.put{f:Str}{y:V}{d:D}(r:RepI K mg x dx C F0 H0 F H Y Z fs fl)(ry:Rp K mg F y d):RepI K mg x dx C F0 H0 F (upd H x (.ins C dx (putF f y fs))) Y Z (putF f y fs) (Dl.putD f d fl):=by
 refine r.go ⟨Same.refl _,λa o e=>?_,λa o h b=>⟨h,?_⟩,λ_ _ _ e=>e⟩ r.fx Ay (r.fr.putD ry)
 .rw [Ai (BP e r.fx)];exact r.rep.g.s a o e
 .have c:a≠x:=by
   rintro rfl;rw [Gh] at b;cases b
  rw [Ec c] at b;rw [Ai c];exact b
end
def SEo(K:W.Frag)(mg:Str->Option Value)(E:XK)(cs:List Str)(t:TE)(m:MEo):Prop:=∀x e C c b d F H Y Z f a,cs.contains c=true->mg c=some (.ref C)->RepI K mg x e C b d F H Y Z f a->Ans mg E (Rp K mg) F H (m Z a) (t Y H)
def SAo(K:W.Frag)(mg:Str->Option Value)(E:XK)(cs:List Str)(t:TA)(m:MAo):Prop:=∀x e C c b d F H Y Z f a,cs.contains c=true->mg c=some (.ref C)->RepI K mg x e C b d F H Y Z f a->Ans mg E (Rps K mg) F H (m Z a) (t Y H)
def Fj(K:W.Frag)(mg:Str->Option Value)(x dx C:Addr)(F0 H0:Hp)(r:Res (D×Fs))(w:Ends->Prop):Prop :=
 match r with
 | .ok (d,fl)=>∀D:Ends,(∀a b c y,Gr F0 H0 a b->a x=none->b x=some (.ins C dx c)->FR K mg a c fl->Rp K mg a y d->D.rt y b)->w D
 | _=>True
def SO2(K:W.Frag)(mg:Str->Option Value)(cs:List Str)(t:TS)(m:MO):Prop:=∀x e C c a b F H Y Z f d,cs.contains c=true->mg c=some (.ref C)->RepI K mg x e C a b F H Y Z f d->Fj K mg x e C a b (m Z d) (λD=>t D Y H)
section
variable {cs:List Str}
def u6{t:TE}{m:ME}(h:SE K mg E t m):SEo K mg E cs t (oOf m):=λx e C c a b F H Y Z f d _ _ r=>h a b F H Y Z r.rep
def jD{f:Str}(T:Ca K mg cs f):SEo K mg E cs (tFld K (tVar 0) f) (oFld f):=by
 intro x h C c m n F H Y Z k o j i r;unfold oFld;split
 .next d e=>
  obtain ⟨y,l,g⟩:=r.fr.look e;obtain ⟨a,b⟩:=T c j C i;exact λQ q=>⟨_,r.self,x,C,h,k,y,rfl,r.hx,a,b,l,q F H y (.refl r.rep.ss) g⟩
 .trivial
def uT:SAo K mg E cs tNil oNil:=λx e C c a b F H Y Z f d _ _ r=>λQ q=>q F H [] (.refl r.rep.ss) .nil
def ye{t:TE}{m:MEo}{u:TA}{k:MAo}(h:SEo K mg E cs t m)(r:SAo K mg E cs u k):SAo K mg E cs (Bo t u) (Dt m k):=by
 intro x g C c a b F H Y Z o l n j e;refine (h x g C c a b F H Y Z o l n j e).bindE λd _ G y v p D=>?_;refine (r x g C c a b G y Y Z o l n j (e.gr p)).bindE λI _ z w A i B=>?_;exact λQ q=>q z w (v::A) (.refl i.s) (.cons (D.same i.f) B)
def Ans.sto{x dx C:Addr}{F0 H0 F H:Hp}{α β:Type}{R:Hp->β->α->Prop}{r:Res α}{w:(β->Hp->Prop)->Prop}{k:α->Res (D×Fs)}{w':β->Hp->Ends->Prop}(h1:Ans mg E R F H r w)
  (h2:∀a,r=.ok a->∀F1 H1 b,Gr F H F1 H1->R F1 b a->Fj K mg x dx C F0 H0 (k a) (w' b H1)):Fj K mg x dx C F0 H0 (r.bind k) (λD=>w λb H1=>w' b H1 D):=by
 cases r with
 | ok a=>
  show Fj K mg x dx C F0 H0 (k a) _;have c:=h2 a rfl;generalize k a=r2 at c;cases r2 with
  | ok z=>exact λD q=>h1 _ λF1 H1 b g d=>c F1 H1 b g d D q
  | bad=>trivial
 | bad=>trivial
def lZ{t:TE}{m:MEo}(h:SEo K mg E cs t m):SO2 K mg cs (tRet t) (oRet m):=by
 intro x n C c j k F H Y Z f p r o e;refine (h x n C c j k F H Y Z f p r o e).sto (w':=λy b D=>D.rt y b) λd _ s b y i l=>?_;have a:=e.gr i;exact λD q=>q s b f y a.rep.g a.fx a.hx a.fr l
def rP{t u:TS}{m:MS}{k:MO}(h1:SSk 0 K mg E t m)(h2:SO2 K mg cs u k):SO2 K mg cs (tSeq t u) (oSeq m k):=by
 intro x g C c a b F H Y Z j h w p i;have z:=h1 a (upd b x (.ins C g j)) F H Y Z i.frame;unfold oSeq;cases e:m Z with
 | ok f=>
  rw [e] at z;cases f with
  | nx Z'=>
   show Fj K mg x g C a b (k Z' h) _;cases e2:k Z' h with
   | ok r=>
    intro D q;refine z _ λo l A s v n=>?_;have y:=h2 x g C c a b o l A Z' j h w p (i.back s v n);rw [e2] at y;exact y D q
   | bad=>trivial
  | rt d=>trivial
  | bk Z'=>trivial
  | ct Z'=>trivial
 | bad=>trivial
def vB{sc:TT}{nc:MB}{t u:TS}{a k:MO}(hc:STt K mg E sc nc)(h1:SO2 K mg cs t a)(h2:SO2 K mg cs u k):SO2 K mg cs (tSeq (tIfS sc t GF) u) (oIf nc a k):=by
 intro x l C c g h F H Y Z p i f n j;refine (hc g h F H Y Z j.rep).sto (w':=λb d D=>if b=true then t { D with nx:=u D } Y d else u D Y d) λb _ o d y m s=>?_
 cases s;cases b with
 | true=>
  have z:=h1 x l C c g h o d Y Z p i f n (j.gr m);show Fj K mg x l C g h (a Z i) _;cases e:a Z i with
  | ok r=>
   rw [e] at z;exact λD q=>z { D with nx:=u D } q
  | bad=>trivial
 | false=>exact h2 x l C c g h o d Y Z p i f n (j.gr m)
def mC{f:Str}{t:TE}{m:MEo}{u:TS}{k:MO}(T:Ca K mg cs f)(h:SEo K mg E cs t m)(r:SO2 K mg cs u k):SO2 K mg cs (tSeq (sFld K (tVar 0) t f) u) (oSet f m k):=by
 intro x b C c s v F H Y Z g l n j A;refine (h x b C c s v F H Y Z g l n j A).sto (w':=λy p D=>tVar 0 Y p λx o=>∃a C b g,x=.ref a/\o a=some (.ins C b g)/\Cls K C/\Gg K C f/\g.length<1000/\u D Y (upd o a (.ins C b (putF f y g)))) λd _ L p y B J=>?_;have i:=A.gr B;obtain ⟨G,I⟩:=T c n C j;by_cases hl:100<=l.length
 .rw [iP hl];trivial
 rw [iN hl];have z:=r x b C c s v L _ Y Z _ _ n j (i.put (f:=f) J);cases e:k Z (putD f d l) with
 | ok w=>
  rw [e] at z;exact λD q=>⟨_,i.self,x,C,b,g,rfl,i.hx,G,I,by have:=i.fr.len;omega,z D q⟩
 | bad=>trivial
end
def SAno(n:Nat)(m:MAo):Prop:=∀Z b a,m Z b=.ok a->a.length=n
def ZoZ:SAno 0 oNil:=λ_ _ _ e=>by cases e;rfl
def ZlS{n:Nat}{e:MEo}{m:MAo}(h:SAno n m):SAno (n+1) (Dt e m):=λZ c a b=>by
 unfold Dt at b;cases e1:e Z c with
 | ok d=>
  rw [e1] at b;cases e2:m Z c with
  | ok es=>
   have f:(m Z c).bind (λa=>Res.ok (d::a))=.ok a:=b;rw [e2] at f;cases f;exact CP (·+1) (h Z c es e2)
  | bad=>
   have f:(m Z c).bind (λa=>Res.ok (d::a))=.ok a:=b;rw [e2] at f;cases f
 | bad=>rw [e1] at b;cases b
section
variable {cs:List Str}
def wu{n:Nat}{m:List D->Res D}{t:TA}{ma:MAo}(ha:SAo K mg E cs t ma)(hl:SAno n ma):SEo K mg E cs (G7 (spD K mg n m) [] E t) (oOn m ma):=by
 intro x i C c f g F H Y Z o a k j h;refine (ha x i C c f g F H Y Z o a k j h).bindE λd e r p q b l=>?_;have z:=Qv (E:=E) (m:=m) b.s l (hl Z a d e);simp_all
def zE{r:R2}{f:D->D->Res D}{ta tb:TE}{ma mb:MEo}(hf:OpD K mg r f)(ha:SEo K mg E cs ta ma)(hb:SEo K mg E cs tb mb):SEo K mg E cs (tOp r ta tb) (oO2 f ma mb):=by
 intro x e C c a b F H Y Z k i j h d;refine (ha x e C c a b F H Y Z k i j h d).bindE λu _ y n p l q=>?_;refine (hb x e C c a b y n Y Z k i j h (d.gr l)).bindE λw _ o m v g t=>?_;exact hf E o m p v u w g.s (q.same g.f) t
end
structure DEo(X:Cx)(E:XK)(cs:List Str)(e:Expr)(t:TE)(m:MEo):Prop where
 p:PE X e t
 s:SEo X.K X.mg E cs t m
structure DAo(X:Cx)(E:XK)(cs:List Str)(n:Nat)(es:List Expr)(t:TA)(m:MAo):Prop where
 p:PA X es t
 s:SAo X.K X.mg E cs t m
 n:SAno n m
structure DMo(X:Cx)(E:XK)(cs:List Str)(sts:List Stmt)(t:TS)(m:MO):Prop where
 p:PSs X sts t
 s:SO2 X.K X.mg cs t m
section
variable {cs:List Str} {st:Stmt} {rest body:List Stmt} {t u:TS} {m:MS} {a k:MO} {c b:Expr} {tb:TE} {me mb:MEo} {ta:TA} {ma:MAo} {tc:TT} {mc:MB} {p p':Pos} {f:Str}
def Jb{m:ME}(h:DE X E e te m):DEo X E cs e te (oOf m):=⟨h.p,u6 h.s⟩
def Qc(T:Ca X.K X.mg cs f)(hN:X.N[0]?=some x:=by rfl)(hv:CQ X.env.scope x:=by first | exact Or.inl rfl | exact Or.inr (Or.inl rfl) | exact Or.inr (Or.inr rfl))(hd:ND x:=by decide)
  (hcd:NE x:=by decide) (hb:attributeBase (.Name x p) f X.env (eval (.Name x p) X.env)=eval (.Name x p) X.env:=by rfl):DEo X E cs (.Attribute (.Name x p) f pos) (tFld X.K (tVar 0) f) (oFld f) :=
 ⟨Zm (Cr hN hv hd hcd) hb,jD T⟩
def QJ:DAo X E cs 0 [] tNil oNil:=⟨Dv,uT,ZoZ⟩
def Jr(h:DEo X E cs e te me)(r:DAo X E cs n es ta ma)(hs:starEach (e::es) X.env=(false,eval e X.env)::starEach es X.env:=by rfl):DAo X E cs (n+1) (e::es) (Bo te ta) (Dt me ma):=⟨Ea h.p r.p hs,ye h.s r.s,ZlS r.n⟩
def gY{k l:Nat}{y:Str}{ps:List Str}{f:List D->Res D}(C:Cal X.prog X.w X.K X.mg X.base k y ps f)(hr:Room l X.A)(hn:k<=l)(hg:Gl X y)(hx:Cg (CXR X.prog X.w) X E)(ha:DAo X E cs n (e::es) ta ma)(hps:ps.length=n:=by rfl)
  (hdb:ND y:=by decide) (he:starEach (e::es) X.env=(false,eval e X.env)::starEach es X.env:=by rfl) (hpl:(backTo pos (starEach es X.env)).any (·.1)=false:=by rfl) :
  DEo X E cs (.Call (.Name y p) (e::es) [] pos) (G7 (spD X.K X.mg ps.length f) [] E ta) (oOn f ma):=by
 obtain ⟨g,d,F,b,c,a⟩:=C.ex;exact ⟨Tc F (hr.mono hn) hg a c b .nil hx ha.p hdb he hpl,by rw [hps];exact wu ha.s ha.n⟩
def Uc(h:DEo X E cs e te me):DMo X E cs [.Return (some e) spos] (tRet te) (oRet me):=⟨FQ (Jy h.p),lZ h.s⟩
def ZR(h:DSk X 0 E st t m)(r:DMo X E cs rest u k):DMo X E cs (st::rest) (tSeq t u) (oSeq m k):=⟨DP h.p r.p,rP h.s r.s⟩
def Xw(h:DT X E c tc mc)(b:DMo X E cs body t a)(r:DMo X E cs rest u k):DMo X E cs (.If c body [] spos::rest) (tSeq (tIfS tc t GF) u) (oIf mc a k):=⟨DP (JM h.p b.p Kr) r.p,vB h.s b.s r.s⟩
def jk(T:Ca X.K X.mg cs f)(h:DEo X E cs e te me)(r:DMo X E cs rest u k)(hN:X.N[0]?=some x:=by rfl)(hv:CQ X.env.scope x:=by first | exact Or.inl rfl | exact Or.inr (Or.inl rfl) | exact Or.inr (Or.inr rfl))(hd:ND x:=by decide)
  (hcd:NE x:=by decide) (hs:swapsWith e (some (.Attribute (.Name x p) f p')) spos.line X.env=pure false:=by rfl) :
  DMo X E cs (.Assign [.Attribute (.Name x p) f p'] e spos::rest) (tSeq (sFld X.K (tVar 0) te f) u) (oSet f me k):=⟨DP (Ur (Cr hN hv hd hcd) h.p hs) r.p,mC T h.s r.s⟩
end
section
variable {qual:Str} {f:Addr} {cs:List Str}
def spO2(K:W.Frag)(mg:Str->Option Value)(n:Nat)(cs:List Str)(m:List D->Fs->Res (D×Fs)):Sp:=λg H Q _=>g.length=n+1/\∃(x dx C:Addr) (c:Str) (ys:List V) (fs:List (Str×V)) (F:Hp) (ds:List D) (fl:Fs),
 g=.ref x::ys/\cs.contains c=true/\mg c=some (.ref C)/\H x=some (.ins C dx fs)/\F x=none/\Same F H/\Rps K mg F ys ds/\FR K mg F fs fl/\∃d a,m ds fl=.ok (d,a) /\
 ∀e f b y,Gr F (del H x) e f->e x=none->f x=some (.ins C dx b)->FR K mg e b a->Rp K mg e y d->Q y f
def okO2{st:Stmt}{fd:FuncData}{k n:Nat}{mb:MO}(F:Fun K x qual st f fd)(S:Bx N ps (BV st))(hN:1<=N.length)(hp:ps.length=n+1)
  (h:∀(cdv:Value) (A:Around) (outer:List Env) (s:Shared) (H:Hp) (E:XK),Room k (A.deeper (envOfC qual (BV st) s.heap.objs.size f cdv))->∃t,DMo (cxOf (CXR P w) P w K mg base N qual (BV st) f cdv A outer s H E) E cs (Ew st) t mb) :
  FnOk P w K mg base (CXR P w) (k+1) f fd ps (spO2 K mg n cs (fnO2 N.length mb)):=by
 obtain ⟨oc,od,kV,T,pm,an,cdv,ct,W,rfl,lk,b⟩:=F.ex;refine Nh lk b S (λJ H Q E q=>q.1.trans hp.symm) λA outer s H J Q E Z l=>?_;obtain ⟨t,B⟩:=h cdv A outer s H E Z;refine ⟨t,B.p,?_⟩;obtain ⟨_,x,Y,C,c,ys,X,v,u,G,rfl,hc,O,R,D,s0,rs,I,d,r,M,i⟩:=l;have z:=B.s x Y C c v (del H x) v H (start N (.ref x::ys)) (.no::ev0 (N.length - 1) u) X G hc O ⟨T5 s0 D rs hN,Gh,rfl,D,R,I⟩;have e:mb (.no::ev0 (N.length - 1) u) G=.ok (d,r):=M;rw [e] at z;exact z _ λL U m y g o j a V=>i L U m y g o j a V
end
end L2.Ds
namespace Dl
def mInT(i:Nat)(ws:List Str):MB:=λZ=>match Z[i]? with
 | some (.im (.str s))=>.ok (ws.contains s)
 | _=>.bad
def oTab(i:Nat)(tab:List (Str×(List D->Res D)))(ma:MAo):MEo:=λZ a=>match Z[i]? with
 | some (.im (.str s))=>(match tab.lookup s with
  | some m=>(ma Z a).bind m
  | none=>.bad)
 | _=>.bad
end Dl
namespace L2.Ds
open PySem.Calls Dl
structure TabF(P:Program)(w:World)(K:W.Frag)(a:Addr)(vs:List (Str×Value)):Prop where
 ne:(a==sysModules)=false
 ex:∀h:Heap,K.In h->h.DictOf (strKind P w) a vs
def rInT(P:Program)(w:World)(K:W.Frag):R2:=λx y H Q=>∃s a b,x=.str s/\y=.ref a/\TabF P w K a b/\Q (.bl (valueAt b s).isSome) H
def Zvz{X:Cx}:OpR X (compareOp .In) (rInT X.prog X.w X.K):=by
 intro b s Y H x y v u Q I c d h;obtain ⟨z,a,f,rfl,rfl,T,q⟩:=h;cases d;obtain ⟨t,rfl⟩:=c;exact wpAny_in_of (strKind_is X.prog X.w z t) T.ne (T.ex _ I.kIn).mapOf ⟨.bl _,H,I.kept λ_ _ e=>e,rfl,q⟩
def lJ{vs:List (Str×Value)}{s:Str}:(valueAt vs s).isSome=(vs.map (·.1)).contains s:=by
 unfold valueAt;rw [Option.isSome_map]
 induction vs with
 | nil=>rfl
 | cons p r ih=>
  rw [List.find?_cons,Bg,P0];by_cases h:p.1=s
  .simp [h]
  .have a:(s==p.1)=false:=by simpa using λe=>h e.symm
   rw [a,Bool.false_or,<-ih];simp [h]
section
variable {cs:List Str} {l:Nat} {a:Addr} {vs:List (Str×Value)} {ws:List Str} {g:Str} {t:TA} {ma:MAo} {p q sp:Pos} {tab:List (Str×(List D->Res D))}
def bG(T:TabF X.prog X.w X.K a vs)(hg:Gl X g)(hm:X.mg g=some (.ref a))(hw:vs.map (·.1)=ws)(hi:X.N[i]?=some x:=by rfl)(hv:CQ X.env.scope x:=by first | exact Or.inl rfl | exact Or.inr (Or.inl rfl) | exact Or.inr (Or.inr rfl))
  (hd:ND x:=by decide) (hcd:NE x:=by decide) (hdb:ND g:=by decide) (hb:behindInMarks .In (.Name g q)=false:=by rfl) :
  DT X E (.Compare (.Name x p) [.In] [.Name g q] pos) (Dz (tOp (rInT X.prog X.w X.K) (tVar i) (tC (.ref a)))) (mInT i ws):=by
 refine ⟨RN Zvz (Cr hi hv hd hcd) (Lx (v:=.ref a) hg hm rfl hdb) hb,?_⟩;intro f h F H Y Z b;unfold mInT;split
 .next s c=>
  obtain ⟨y,d,e⟩:=b.im i _ c;cases e;exact λQ q=>⟨_,d,s,a,vs,rfl,rfl,T,_,rfl,q F H _ (.refl b.ss) (by rw [lJ,hw])⟩
 .trivial
def FnD(X:Cx)(k n:Nat)(f:Addr)(m:List D->Res D):Prop:=∃b a,FnOk X.prog X.w X.K X.mg X.base (CXR X.prog X.w) k f b a (spD X.K X.mg a.length m)/\Binds X.K b a []/\W.keepIn X.K (.ref f)=true/\a.length=n
def tTab(K:W.Frag)(mg:Str->Option Value)(n i:Nat)(vs:List (Str×Value))(tab:List (Str×(List D->Res D)))(E:XK)(t:TA):TE:=λY H Q=>∃s f m,Y[i]?=some (some (.str s))/\valueAt vs s=some (.ref f)/\tab.lookup s=some m/\t Y H λa b=>spD K mg n m a b Q E
def Zuf(T:TabF X.prog X.w X.K a vs)(hg:Gl X g)(hm:X.mg g=some (.ref a))(Fn:∀s f m,valueAt vs s=some (.ref f)->tab.lookup s=some m->FnD X k n f m)(hr:Room k X.A)(hx:Cg (CXR X.prog X.w) X E)(ha:PA X (e::es) t)
  (hi:X.N[i]?=some x:=by rfl) (hv:CQ X.env.scope x:=by first | exact Or.inl rfl | exact Or.inr (Or.inl rfl) | exact Or.inr (Or.inr rfl))
  (hd:ND x:=by decide) (hcd:NE x:=by decide) (hdb:ND g:=by decide)
  (he:starEach (e::es) X.env=(false,eval e X.env)::starEach es X.env:=by rfl) (hpl:(backTo pos (starEach es X.env)).any (·.1)=false:=by rfl)
  (hc:eval (.Call (.Subscript (.Name g p) (.Name x q) sp) (e::es) [] pos) X.env=(do callWith pos (<-eval (.Subscript (.Name g p) (.Name x q) sp) X.env) [] (backTo pos (starEach (e::es) X.env)) (backToKw pos (keywordEach [] X.env))):=by rfl) :
  PE X (.Call (.Subscript (.Name g p) (.Name x q) sp) (e::es) [] pos) (tTab X.K X.mg n i vs tab E t):=by
 intro b s Y H Q I h;obtain ⟨z,f,m,d,D,U,h⟩:=h;refine Call_ (Subscript_ (binT (R:=λx y P=>x=.ref a/\y=.str z/\t Y P λC c=>spD X.K X.mg n m C c Q E) (Lx (v:=.ref a) hg hm rfl hdb) (Cr hi hv hd hcd) I ⟨_,d,rfl,rfl,h⟩ λv u l x y c o F V q=>?_)) hc;obtain ⟨rfl,rfl,q⟩:=q;cases F;obtain ⟨W,rfl⟩:=V;have j:=T.ex _ o.kIn;refine subscriptTail_builtin j.typeIs slot_dict_getitem.lookup (wpAny_getItem_of (strKind_is X.prog X.w z W) j.mapOf D ?_) (by with_unfolding_all rfl) (by intro _;with_unfolding_all rfl);have S:Inv X b Y c { l with toks:=l.toks+1 }:=o.kept λ_ _ e=>e
 obtain ⟨fd,ps,L,O,Z,M⟩:=Fn z f m D U;refine K8 (h₀:=X.base) I.ok.mod.kin Z (thn (ha pos b _ Y c _ S q) λC s1 zq=>?_) he hpl;obtain ⟨J,H3,B,r,G⟩:=zq;refine ⟨B.kIn,?_⟩;refine Mg (dvs:=[]) (ds:=[]) L hr O .nil hx B r ?_;rw [FJ,M];exact G
def fZ(T:TabF X.prog X.w X.K a vs)(hg:Gl X g)(hm:X.mg g=some (.ref a))(Fn:∀s f m,valueAt vs s=some (.ref f)->tab.lookup s=some m->FnD X k n f m)(hT:∀s m,tab.lookup s=some m->∃f,valueAt vs s=some (.ref f))(hr:Room l X.A)(hl:k<=l)(hx:Cg (CXR X.prog X.w) X E)(ha:DAo X E cs n (e::es) t ma)
  (hi:X.N[i]?=some x:=by rfl) (hv:CQ X.env.scope x:=by first | exact Or.inl rfl | exact Or.inr (Or.inl rfl) | exact Or.inr (Or.inr rfl))
  (hd:ND x:=by decide) (hcd:NE x:=by decide) (hdb:ND g:=by decide)
  (he:starEach (e::es) X.env=(false,eval e X.env)::starEach es X.env:=by rfl) (hpl:(backTo pos (starEach es X.env)).any (·.1)=false:=by rfl)
  (hc:eval (.Call (.Subscript (.Name g p) (.Name x q) sp) (e::es) [] pos) X.env=(do callWith pos (<-eval (.Subscript (.Name g p) (.Name x q) sp) X.env) [] (backTo pos (starEach (e::es) X.env)) (backToKw pos (keywordEach [] X.env))):=by rfl) :
  DEo X E cs (.Call (.Subscript (.Name g p) (.Name x q) sp) (e::es) [] pos) (tTab X.K X.mg n i vs tab E t) (oTab i tab ma):=by
 refine ⟨Zuf T hg hm Fn (hr.mono hl) hx ha.p hi hv hd hcd hdb he hpl hc,?_⟩;intro x I C c z B F H Y Z O j hc hm d;unfold oTab;split
 .next s J=>
  obtain ⟨y,D,G⟩:=d.rep.im i _ J;cases G;split
  .next m b=>
   obtain ⟨f,L⟩:=hT s m b;have h:=(ha.s x I C c z B F H Y Z O j hc hm d).bindE (k:=m) (R':=Rp X.K X.mg) (w':=λr u Q=>spD X.K X.mg n m r u Q E) λv e R P vs o M=>Qv (E:=E) (m:=m) o.s M (ha.n Z j v e);exact h.imp λQ q=>⟨s,f,m,D,L,b,q⟩
  .trivial
 .trivial
end
end L2.Ds
namespace Dl
def NP(j:Nat)(mn:Str)(g:List D->Fs->Res (D×Fs))(ma:MAo)(k:MO):MO:=λZ a=>(ma Z a).bind λb=>if (a.map (·.1)).contains mn=true then .bad else match g b a with
 | .ok (d,fl')=>k (Z.set j (.im d)) fl'
 | _=>.bad
end Dl
namespace L2.Ds
open PySem.Calls Dl
section
variable {body:List Stmt} {t:TS} {h0:ExceptHandler} {hs:List ExceptHandler}
def nW(h:PSs X.nox body t):PS X (.Try body (h0::hs) [] [] pos) t:=by
 intro a s Y H D I q;refine wpAny_Try_except (Cj (h a s Y H D (I.wish _) q) (λf b z=>?_) λd b z=>z.elim);have c:SP X a D f b:=SP.unwish z;cases f with
 | next=>exact Ou c
 | _=>exact c
end
def ZG{fs:List (Str×V)}{f:Str}(h:¬(fs.map (·.1)).contains f=true):fs.lookup f=none:=by
 induction fs with
 | nil=>rfl
 | cons p r ih=>
  rw [Bg,P0] at h;rw [Li];cases hb:f==p.1 with
  | true=>rw [hb] at h;exact aB rfl h
  | false=>exact ih λz=>h (by rw [z,Bool.or_true])
section
variable {x dx C:Addr} {F:Hp} {fs:List (Str×V)} {fl:Fs}
def RepI.setv{j:Nat}{y:V}{d:D}(r:RepI K mg x dx C F0 H0 F H Y Z fs fl)(ry:Rp K mg F y d)(hj:j≠0):RepI K mg x dx C F0 H0 F H (Y.set j (some y)) (Z.set j (.im d)) fs fl :=
 ⟨r.rep.set j ry,r.h0,by rw [GK hj];exact r.self,r.fx,r.hx,r.fr⟩
def g8{c mn:Str}{cs:List Str}{n j:Nat}{g:List D->Fs->Res (D×Fs)}{t:TA}{ma:MAo}{u:TS}{k:MO}(hcs:cs=[c])(hm:mg c=some (.ref C))(ha:SAo K mg E0 cs t ma)(hl:SAno n ma)(hj:j≠0)(r:SO2 K mg cs u k) :
  SO2 K mg cs (tSeq (tAsg (Fg C mn (spO2 K mg n cs g) [] E0 (tVar 0) t) (Bs j)) u) (NP j mn g ma k):=by
 intro x a C' B f i F H Y Z I l v p o;have R:B=c:=by
  rw [hcs] at v;simpa using v
 subst R;rw [hm] at p;cases p;by_cases hn:(l.map (·.1)).contains mn=true
 .unfold NP;cases e:ma Z l with
  | ok A=>show Fj K mg x a C f i (if _ then _ else _) _;rw [iP hn];trivial
  | bad=>trivial
 have O:I.lookup mn=none:=ZG (by rw [o.fr.nm];exact hn);have h:Fj K mg x a C f i (NP j mn g ma k Z l) λD=>t Y H λm G=>spO2 K mg n cs g (.ref x::(m++[])) G (λy Q=>u D (Y.set j (some y)) Q) E0:=by
  refine Ans.sto (K:=K) (E:=E0) (w':=λm G D=>spO2 K mg n cs g (.ref x::(m++[])) G (λy Q=>u D (Y.set j (some y)) Q) E0) (ha x a C B f i F H Y Z I l v hm o) λA L F1 G m T S=>?_;show Fj K mg x a C f i (if (l.map (·.1)).contains mn=true then .bad else _) _
  rw [iN hn];have s:=o.gr T;cases eg:g A l with
  | ok z=>
   obtain ⟨d,b⟩:=z;show Fj K mg x a C f i (k (Z.set j (.im d)) b) _;cases ek:k (Z.set j (.im d)) b with
   | ok w=>
    intro D q;refine ⟨by rw [FJ,Dh,S.length,hl Z l A L],x,a,C,B,m,I,F1,A,l,by rw [FJ],v,hm,s.hx,s.fx,s.rep.ss,S,s.fr,d,b,eg,λV X N y W P M J ry=>?_⟩;have r2:=(s.go W P M J).setv ry hj;have z:=r x a C B f i V X _ _ N b v hm r2;rw [ek] at z;exact z D q
   | bad=>trivial
  | bad=>trivial
 have e:∀(r:Res (D×Fs)) (w w':Ends->Prop),(∀D,w D->w' D)->Fj K mg x a C f i r w->Fj K mg x a C f i r w':=by
  intro r w w' U hr;cases r with
  | ok z=>exact λD q=>U D (hr D q)
  | bad=>trivial
 exact e _ _ _ (λD q=>⟨_,o.self,x,a,I,rfl,o.hx,O,q⟩) h
end
section
variable {cs:List Str} {rest:List Stmt} {u:TS} {k:MO} {t:TA} {ma:MAo} {g:List D->Fs->Res (D×Fs)} {y mn c:Str} {C f:Addr} {kk l:Nat} {p yp ap cp asp tp:Pos} {h0:ExceptHandler} {hs:List ExceptHandler} {pl:Sem Bool}
def km(hcs:cs=[c])(hm:X.mg c=some (.ref C))(hC:Cls X.K C)(hM:Meth X.K C mn f)(Fo:FnOk X.prog X.w X.K X.mg X.base (CXR X.prog X.w) kk f fd ps (spO2 X.K X.mg n cs g))(hb:Binds X.K fd ps [])(hr:Room l X.A)(hl:kk<=l)(ha:DAo X.nox E0 cs n (e::es) t ma)(r:DMo X E cs rest u k)
  (hN:X.N.Nodup) (hy:X.N[j]?=some y) (hyl:Loc X.env.scope y) (hx:X.N[0]?=some x) (hv:CQ X.env.scope x) (hj:j≠0:=by decide) (hd:ND x:=by decide) (hcd:NE x:=by decide)
  (hf:X.fn y=true\/X.env.scope.names.lookup y=some .local:=by first | exact .inl rfl | exact .inr rfl | assumption)
  (hs2:swapsWith (.Call (.Attribute (.Name x p) mn ap) (e::es) [] cp) (some (.Name y yp)) asp.line X.env=pure false:=by rfl)
  (hst:starEach (e::es) X.env=(false,eval e X.env)::starEach es X.env:=by rfl) (hpl:(backTo cp (starEach es X.env)).any (·.1)=false:=by rfl)
  (ht:eval (.Call (.Attribute (.Name x p) mn ap) (e::es) [] cp) X.env=(do
   let ov <-eval (.Name x p) X.env
   standAt ap.atName
   let (f,first) <-holding [ov] (getMethod ov mn pl)
   callWith cp f first (backTo cp (starEach (e::es) X.env)) (backToKw cp (keywordEach [] X.env))):=by rfl) :
  DMo X E cs (.Try [.Assign [.Name y yp] (.Call (.Attribute (.Name x p) mn ap) (e::es) [] cp) asp] (h0::hs) [] [] tp::rest) (tSeq (tAsg (Fg C mn (spO2 X.K X.mg n cs g) [] E0 (tVar 0) t) (Bs j)) u) (NP j mn g ma k):=by
 have a:PE X.nox (.Call (.Attribute (.Name x p) mn ap) (e::es) [] cp) (Fg C mn (spO2 X.K X.mg n cs g) [] E0 (tVar 0) t) :=
  eH (X:=X.nox) (pl:=pl) (Cr (X:=X.nox) hx hv hd hcd) hC hM Fo (hr.mono hl) hb .nil (λ_ _ _ _ _ _ _ z=>by first | exact z.elim | (obtain ⟨_,_,_,_,_,_,_,q⟩:=z;exact q.elim)) ha.p hst hpl ht
 exact ⟨DP (nW (FQ (Hq (X:=X.nox) hN hy hyl a hs2 hf))) r.p,g8 hcs hm ha.s ha.n hj r.s⟩
end
end L2.Ds
namespace Dl
def Kh(i j:Nat)(g:List D->List D->Res (D×List D))(ma:MA):MS:=λZ=>match Z[i]? with
 | some (.ow bs)=>(ma Z).bind λa=>(match g bs a with
  | .ok (d,cs)=>.ok (.nx ((Z.set i (.ow cs)).set j (.im d)))
  | _=>.bad)
 | _=>.bad
end Dl
namespace L2.Ds
open PySem.Calls Dl
section
variable {cs:List Str} {c:Expr} {tb:TE} {me mb:MEo}
def gB{op:Operator}{r:R2}{f:D->D->Res D}(ho:OpR X (binaryOp op) r)(hf:OpD X.K X.mg r f)(ha:DEo X E cs e te me)(hb:DEo X E cs c tb mb):DEo X E cs (.BinOp e op c pos) (tOp r te tb) (oO2 f me mb):=⟨aH ho ha.p hb.p,zE hf ha.s hb.s⟩
def iY(ha:DEo X E cs e te me)(hb:DEo X E cs c tb mb):DEo X E cs (.BinOp e .Add c pos) (tOp (Q6 X.K) te tb) (oO2 Af me mb):=gB dm ZM ha hb
end
section
variable {F:Hp} {a:Addr} {xs':List V} {bs cs:List D}
def Rep.goL(r:Rep K mg F0 H0 F H Y Z)(e:Z[i]?=some (.ow bs))(hs:Y[i]?=some (some (.ref a)))(h0:H0 a=none)(g:Gr F (del H a) F' H')(fa:F' a=none)(ha:H' a=some (.lst xs'))(rv:Rps K mg F' xs' cs):Rep K mg F0 H0 F' H' Y (Z.set i (.ow cs)):=by
 have x:i<Z.length:=(Gk.mp e).1;have q:∀(k:Nat) (h:List D),(Z.set i (.ow cs))[k]?=some (.ow h)->(k=i/\h=cs)\/(k≠i/\Z[k]?=some (.ow h)):=by
  intro k h c;by_cases j:i=k
  .subst j;rw [JP x] at c;cases c;exact .inl ⟨rfl,rfl⟩
  .rw [GK j] at c;exact .inr ⟨λz=>j z.symm,c⟩
 refine ⟨⟨r.g.f.trans g.f,g.s,λb o m n=>?_,λb o u e=>r.g.z b o u (g.z b o u e)⟩,by rw [Eg];exact r.len,λk d c=>?_,λk h c=>?_,λk l h P b c G j C=>?_⟩
 .obtain ⟨w,v⟩:=r.g.o b o m n;exact g.o b o w (by rw [Ec (BP n h0)];exact v)
 .by_cases j:i=k
  .subst j;rw [JP x] at c;cases c
  .rw [GK j] at c;obtain ⟨y,m,n⟩:=r.im k d c;exact ⟨y,m,n.same g.f⟩
 .rcases q k h c with ⟨rfl,rfl⟩ | ⟨j,ek'⟩
  .exact ⟨a,xs',hs,h0,fa,ha,rv⟩
  .obtain ⟨b,L,m,n,I,A,E⟩:=r.ow k h ek';have M:b≠a:=by
    rintro rfl;exact j (r.ne k i _ _ b ek' e m hs)
   obtain ⟨w,v⟩:=g.o b _ I (by rw [Ec M];exact A);exact ⟨b,L,m,n,w,v,E.same g.f⟩
 .have p:∀(k:Nat) (h:List D),(Z.set i (.ow cs))[k]?=some (.ow h)->∃t,Z[k]?=some (.ow t):=by
   intro k h c;rcases q k h c with ⟨rfl,_⟩ | ⟨_,z⟩
   .exact ⟨_,e⟩
   .exact ⟨_,z⟩
  obtain ⟨N,J⟩:=p k _ c;obtain ⟨O,B⟩:=p l _ G;exact r.ne k l _ _ b J B j C
def AnsS.mp{r:Res Fl}{w w':Ends->Prop}(h:AnsS K mg E F0 H0 F r w)(f:∀D,w D->w' D):AnsS K mg E F0 H0 F r w':=by
 cases r with
 | ok fl=>cases fl<;>exact λD q=>f D (h D q)
 | bad=>trivial
def kj{n j:Nat}{g:List D->List D->Res (D×List D)}{t:TA}{ma:MA}(ha:SA K mg E t ma)(hl:SAn n ma):SS K mg E (tAsg (G7 (spWo K mg n g) [] E (Bo (tVar i) t)) (Bs j)) (Kh i j g ma):=by
 intro L M F H Y Z l;unfold Kh;split
 .next h e=>
  obtain ⟨a,O,A,Q,V,J,P⟩:=l.ow i h e;have z:=(ha L M F H Y Z l).stm (K:=K) l.g (k:=λb=>match g h b with | .ok (d,x)=>.ok (.nx ((Z.set i (.ow x)).set j (.im d))) | _=>.bad)
   (w':=λm C D=>spWo K mg n g (.ref a::m++[]) C (λy R=>D.nx (Y.set j (some y)) R) E) λb p W C m c G=>?_
  .exact AnsS.mp z λD q=>⟨_,A,q⟩
  .cases eg:g h b with
   | ok w=>
    obtain ⟨d,x⟩:=w;obtain ⟨X,U⟩:=c.o a _ V J;intro D q;refine ⟨by simp [G.length,hl Z b p],a,m,O,W,b,h,by simp,U,X,c.s,G,P.same c.f,d,x,eg,λN S I y B u v r T=>?_⟩;exact q N S _ B.f (((l.gr c).goL e A Q B u v r).set j T)
   | bad=>trivial
 .trivial
end
section
variable {l:Nat} {y fn:Str} {t:TA} {ma:MA} {g:List D->List D->Res (D×List D)} {p fp yp cp asp:Pos}
structure Ua(P:Program)(w:World)(K:W.Frag)(mg:Str->Option Value)(base:Heap)(k:Nat)(x:Str)(n:Nat)(m:List D->List D->Res (D×List D)):Prop where
 ex:∃(f:Addr) (fd:FuncData) (ps:List Str),FnOk P w K mg base (CXR P w) k f fd ps (spWo K mg n m)/\Binds K fd ps []/\W.keepIn K (.ref f)=true/\mg x=some (.ref f)
def lC(C:Ua X.prog X.w X.K X.mg X.base k fn n g)(hr:Room l X.A)(hn:k<=l)(hg:Gl X fn)(hx:Cg (CXR X.prog X.w) X E)(ha:DA X E n es t ma)(hN:X.N.Nodup)(hy:X.N[j]?=some y)(hyl:Loc X.env.scope y)
  (hi:X.N[i]?=some x:=by rfl) (hv:CQ X.env.scope x:=by first | exact Or.inl rfl | exact Or.inr (Or.inl rfl) | exact Or.inr (Or.inr rfl)) (hd:ND x:=by decide) (hcd:NE x:=by decide) (hdb:ND fn:=by decide)
  (hf:X.fn y=true\/X.env.scope.names.lookup y=some .local:=by first | exact .inl rfl | exact .inr rfl | assumption)
  (hs:swapsWith (.Call (.Name fn fp) (.Name x p::es) [] cp) (some (.Name y yp)) asp.line X.env=pure false:=by rfl)
  (he:starEach (.Name x p::es) X.env=(false,eval (.Name x p) X.env)::starEach es X.env:=by rfl) (hpl:(backTo cp (starEach es X.env)).any (·.1)=false:=by rfl) :
  DS X E (.Assign [.Name y yp] (.Call (.Name fn fp) (.Name x p::es) [] cp) asp) (tAsg (G7 (spWo X.K X.mg n g) [] E (Bo (tVar i) t)) (Bs j)) (Kh i j g ma):=by
 obtain ⟨f,e,d,F,b,c,a⟩:=C.ex;exact ⟨Hq hN hy hyl (Tc F (hr.mono hn) hg a c b .nil hx (Ea (Cr hi hv hd hcd) ha.p he) hdb he hpl) hs hf,kj ha.s ha.n⟩
end
end L2.Ds
namespace Dl
inductive Lf where
 | nx (Z:Ev) (a b:Fs) | rt (d:D)
abbrev ML:=Ev->Fs->Fs->Res Lf
abbrev MLB:=Ev->Fs->Fs->Res (Bool×Fs×Fs)
def lPl(m:MS):ML:=λZ a b=>(m Z).bind λf=>match f with
 | .nx Z'=>.ok (.nx Z' a b)
 | _=>.bad
def lSq(m k:ML):ML:=λZ a b=>(m Z a b).bind λf=>match f with
 | .nx Z' a' b'=>k Z' a' b'
 | .rt d=>.ok (.rt d)
def lIf(c:MLB)(e:ME):ML:=λZ a b=>(c Z a b).bind λr=>if r.1=true then (e Z).bind λd=>.ok (.rt d) else .ok (.nx Z r.2.1 r.2.2)
def lRet(c:MLB):ML:=λZ a b=>(c Z a b).bind λr=>.ok (.rt (.bl r.1))
def lSay(sec:Bool)(mn:Str)(g:List D->Fs->Res (D×Fs))(op:D->D->Res D)(e e':ME):MLB:=λZ a b=>(e Z).bind λd=>if ((cond sec b a).map (·.1)).contains mn=true then .bad else match g [d] (cond sec b a) with
 | .ok (r,fl)=>(e' Z).bind λc=>(match op r c with
  | .ok (.bl v)=>.ok (v,cond sec a fl,cond sec fl b)
  | _=>.bad)
 | _=>.bad
def lOr(c c':MLB):MLB:=λZ a b=>(c Z a b).bind λr=>if r.1=true then .ok r else c' Z r.2.1 r.2.2
def lGo(g:MG)(m:ML):List D->ML
 | []=>λZ a b=>.ok (.nx Z a b)
 | d::r=>λZ a b=>(g d Z).bind λc=>(m c a b).bind λf=>match f with
  | .nx Z2 a2 b2=>lGo g m r Z2 a2 b2
  | .rt d=>.ok (.rt d)
def lFor(mi:MI)(g:MG)(m:ML):ML:=λZ a b=>(mi Z).bind λc=>lGo g m c Z a b
end Dl
namespace L2.Ds
open PySem.Calls Dl
structure RepD(K:W.Frag)(mg:Str->Option Value)(i1 i2:Nat)(C x1 d1 x2 d2:Addr)(F0 H0 F H:Hp)(Y:St)(Z:Ev)(fs1 fs2:List (Str×V))(fl1 fl2:Fs):Prop where
 rep:Rep K mg F0 H0 F H Y Z
 n1:H0 x1=none
 n2:H0 x2=none
 ne:x1≠x2
 s1:Y[i1]?=some (some (.ref x1))
 s2:Y[i2]?=some (some (.ref x2))
 f1:F x1=none
 f2:F x2=none
 e1:H x1=some (.ins C d1 fs1)
 e2:H x2=some (.ins C d2 fs2)
 r1:FR K mg F fs1 fl1
 r2:FR K mg F fs2 fl2
section
variable {i1 i2:Nat} {C x1 d1 x2 d2:Addr} {F:Hp} {Y':St} {Z':Ev} {fs1 fs2 fs1':List (Str×V)} {fl1 fl2 fl1':Fs}
def RepD.swap(r:RepD K mg i1 i2 C x1 d1 x2 d2 F0 H0 F H Y Z fs1 fs2 fl1 fl2):RepD K mg i2 i1 C x2 d2 x1 d1 F0 H0 F H Y Z fs2 fs1 fl2 fl1:=⟨r.rep,r.n2,r.n1,r.ne.symm,r.s2,r.s1,r.f2,r.f1,r.e2,r.e1,r.r2,r.r1⟩
def RepD.gr(r:RepD K mg i1 i2 C x1 d1 x2 d2 F0 H0 F H Y Z fs1 fs2 fl1 fl2)(g:Gr F H F' H'):RepD K mg i1 i2 C x1 d1 x2 d2 F0 H0 F' H' Y Z fs1 fs2 fl1 fl2:=by
 obtain ⟨b,d⟩:=g.o x1 _ r.f1 r.e1;obtain ⟨c,a⟩:=g.o x2 _ r.f2 r.e2;exact ⟨r.rep.gr g,r.n1,r.n2,r.ne,r.s1,r.s2,b,c,d,a,r.r1.same g.f,r.r2.same g.f⟩
def RepD.go1(r:RepD K mg i1 i2 C x1 d1 x2 d2 F0 H0 F H Y Z fs1 fs2 fl1 fl2)(g:Gr F (del H x1) F' H')(fx:F' x1=none)(hx:H' x1=some (.ins C d1 fs1'))(fr:FR K mg F' fs1' fl1'):RepD K mg i1 i2 C x1 d1 x2 d2 F0 H0 F' H' Y Z fs1' fs2 fl1' fl2:=by
 obtain ⟨m,h⟩:=g.o x2 _ r.f2 (by rw [Ec r.ne.symm];exact r.e2);refine ⟨⟨⟨r.rep.g.f.trans g.f,g.s,λa o c b=>?_,λa o u e=>r.rep.g.z a o u (g.z a o u e)⟩,r.rep.len,λi d e=>?_,λi l e=>?_,r.rep.ne⟩,r.n1,r.n2,r.ne,r.s1,r.s2,fx,m,hx,h,fr,r.r2.same g.f⟩
 .obtain ⟨k,h⟩:=r.rep.g.o a o c b;exact g.o a o k (by rw [Ec (BP b r.n1)];exact h)
 .obtain ⟨y,c,b⟩:=r.rep.im i d e;exact ⟨y,c,b.same g.f⟩
 .obtain ⟨a,n,c,b,q,j,p⟩:=r.rep.ow i l e;have t:a≠x1:=by
   rintro rfl;rw [r.e1] at j;cases j
  obtain ⟨k,h⟩:=g.o a _ q (by rw [Ec t];exact j);exact ⟨a,n,c,b,k,h,p.same g.f⟩
def RepD.frame(r:RepD K mg i1 i2 C x1 d1 x2 d2 F0 H0 F H Y Z fs1 fs2 fl1 fl2):Rep K mg F0 (upd (upd H0 x1 (.ins C d1 fs1)) x2 (.ins C d2 fs2)) F H Y Z:=by
 refine ⟨⟨r.rep.g.f,r.rep.g.s,λa o h b=>?_,r.rep.g.z⟩,r.rep.len,r.rep.im,λi l e=>?_,r.rep.ne⟩
 .by_cases ha:a=x2
  .subst ha;rw [Ay] at b;cases b;exact ⟨r.f2,r.e2⟩
  .rw [Ai ha] at b;by_cases hb:a=x1
   .subst hb;rw [Ay] at b;cases b;exact ⟨r.f1,r.e1⟩
   .rw [Ai hb] at b;exact r.rep.g.o a o h b
 .obtain ⟨a,k,h,b,n,c,m⟩:=r.rep.ow i l e;have j:a≠x1:=by
   rintro rfl;rw [r.e1] at c;cases c
  have d:a≠x2:=by
   rintro rfl;rw [r.e2] at c;cases c
  exact ⟨a,k,h,by rw [Ai d,Ai j];exact b,n,c,m⟩
def RepD.back(r:RepD K mg i1 i2 C x1 d1 x2 d2 F0 H0 F H Y Z fs1 fs2 fl1 fl2)(s:Same F F')(r':Rep K mg F0 (upd (upd H0 x1 (.ins C d1 fs1)) x2 (.ins C d2 fs2)) F' H' Y' Z')(k:agr [i1,i2] Y Y'):RepD K mg i1 i2 C x1 d1 x2 d2 F0 H0 F' H' Y' Z' fs1 fs2 fl1 fl2:=by
 have u:upd (upd H0 x1 (.ins C d1 fs1)) x2 (.ins C d2 fs2) x1=some (.ins C d1 fs1):=by rw [Ai r.ne,Ay]
 obtain ⟨j,w⟩:=r'.g.o x1 _ (r.rep.g.f.free r.f1) u;obtain ⟨n,t⟩:=r'.g.o x2 _ (r.rep.g.f.free r.f2) Ay;refine ⟨⟨⟨r'.g.f,r'.g.s,λa o d b=>?_,r'.g.z⟩,r'.len,r'.im,λi m e=>?_,r'.ne⟩,r.n1,r.n2,r.ne,(k i1 (by simp)).trans r.s1,(k i2 (by simp)).trans r.s2,j,n,w,t,r.r1.same s,r.r2.same s⟩
 .exact r'.g.o a o d (by rw [Ai (BP b r.n2),Ai (BP b r.n1)];exact b)
 .obtain ⟨a,p,d,b,v,l,q⟩:=r'.ow i m e;have c:a≠x2:=by
   rintro rfl;rw [Ay] at b;cases b
  rw [Ai c] at b;have h:a≠x1:=by
   rintro rfl;rw [Ay] at b;cases b
  rw [Ai h] at b;exact ⟨a,p,d,b,v,l,q⟩
end
def AnsL(K:W.Frag)(mg:Str->Option Value)(i1 i2:Nat)(C x1 d1 x2 d2:Addr)(F0 H0 F:Hp)(r:Res Lf)(w:Ends->Prop):Prop :=
 match r with
 | .ok (.nx Z a b)=>∀D:Ends,(∀c e h f g,Same F c->RepD K mg i1 i2 C x1 d1 x2 d2 F0 H0 c e h Z f g a b->D.nx h e)->w D
 | .ok (.rt d)=>∀D:Ends,(∀c e y,Gr F0 H0 c e->Rp K mg c y d->D.rt y e)->w D
 | _=>True
def AnsB(K:W.Frag)(mg:Str->Option Value)(i1 i2:Nat)(C x1 d1 x2 d2:Addr)(F0 H0 F:Hp)(Y:St)(Z:Ev)(r:Res (Bool×Fs×Fs))(w:(Bool->Hp->Prop)->Prop):Prop :=
 match r with
 | .ok (v,a,b)=>∀Q:Bool->Hp->Prop,(∀e f c d,Same F e->RepD K mg i1 i2 C x1 d1 x2 d2 F0 H0 e f Y Z c d a b->Q v f)->w Q
 | _=>True
def SL(K:W.Frag)(mg:Str->Option Value)(i1 i2:Nat)(C:Addr)(t:TS)(m:ML):Prop:=∀g e f j h i F H Y Z c d a b,RepD K mg i1 i2 C g e f j h i F H Y Z c d a b->AnsL K mg i1 i2 C g e f j h i F (m Z a b) (λD=>t D Y H)
def SLB(K:W.Frag)(mg:Str->Option Value)(i1 i2:Nat)(C:Addr)(t:TT)(m:MLB):Prop:=∀g e f j h i F H Y Z c d a b,RepD K mg i1 i2 C g e f j h i F H Y Z c d a b->AnsB K mg i1 i2 C g e f j h i F Y Z (m Z a b) (t Y H)
section
variable {i1 i2:Nat} {C:Addr}
def jb{t:TS}{m:MS}(h:SS K mg E t m)(kp:Kpt [i1,i2] t):SL K mg i1 i2 C t (lPl m):=by
 intro r v w x g u F H Y Z a b l j c;have z:=h g _ F H Y Z c.frame;unfold lPl;cases e:m Z with
 | ok f=>
  rw [e] at z;cases f with
  | nx Z'=>exact λD q=>kp D Y H (z _ λn k p s o i=>q n k p a b s (c.back s o i))
  | rt d=>trivial
  | bk Z'=>trivial
  | ct Z'=>trivial
 | bad=>trivial
def VB{t u:TS}{m k:ML}(h1:SL K mg i1 i2 C t m)(h2:SL K mg i1 i2 C u k):SL K mg i1 i2 C (tSeq t u) (lSq m k):=by
 intro o w A x p v F H Y Z E B n l J;have z:=h1 o w A x p v F H Y Z E B n l J;unfold lSq;cases e:m Z n l with
 | ok f=>
  rw [e] at z;cases f with
  | nx Z' a b=>
   show AnsL K mg i1 i2 C o w A x p v F (k Z' a b) _;have y:=λc j i g h (s:Same F c) (r:RepD K mg i1 i2 C o w A x p v c j i Z' g h a b)=>h2 o w A x p v c j i Z' g h a b r;generalize k Z' a b=G at y;cases G with
   | ok f2=>
    cases f2 with
    | nx Z2 a2 b2=>exact λD q=>z _ λc j i g h s r=>y c j i g h s r D λP N M L O I G=>q P N M L O (s.trans I) G
    | rt d=>exact λD q=>z _ λc j i g h s r=>y c j i g h s r D q
   | bad=>trivial
  | rt d=>exact λD q=>z _ q
 | bad=>trivial
def Yi{c:TT}{mc:MLB}{te:TE}{me:ME}(h:SLB K mg i1 i2 C c mc)(he:SE K mg E te me):SL K mg i1 i2 C (tIfS c (tRet te) GF) (lIf mc me):=by
 intro p u w A n o F H Y Z t x l k I;have z:=h p u w A n o F H Y Z t x l k I;unfold lIf;cases e:mc Z l k with
 | ok r=>
  obtain ⟨v,a,b⟩:=r;rw [e] at z;cases v with
  | false=>exact λD q=>z _ λf i j m s r=>q f i Y j m s r
  | true=>
   show AnsL K mg i1 i2 C p u w A n o F ((me Z).bind λd=>.ok (.rt d)) _;have y:=λf i j m (s:Same F f) (r:RepD K mg i1 i2 C p u w A n o f i Y Z j m a b)=>he n o f i Y Z r.rep;cases ee:me Z with
   | ok d=>
    rw [ee] at y;exact λD q=>z _ λf i j m s r=>y f i j m s r _ λL B J g G=>q L B J (r.rep.g.trans g) G
   | bad=>trivial
 | bad=>trivial
def lO{c c':TT}{mc mc':MLB}(h:SLB K mg i1 i2 C c mc)(h':SLB K mg i1 i2 C c' mc'):SLB K mg i1 i2 C (tOr c c') (lOr mc mc'):=by
 intro l o p t m n F H Y Z u A k j E;have z:=h l o p t m n F H Y Z u A k j E;unfold lOr;cases e:mc Z k j with
 | ok r=>
  obtain ⟨v,a,b⟩:=r;rw [e] at z;cases v with
  | true=>exact λQ q=>z _ λd g f i s r=>q d g f i s r
  | false=>
   show AnsB K mg i1 i2 C l o p t m n F Y Z (mc' Z a b) _;have y:=λd g f i (s:Same F d) (r:RepD K mg i1 i2 C l o p t m n d g Y Z f i a b)=>h' l o p t m n d g Y Z f i a b r;generalize mc' Z a b=x at y;cases x with
   | ok w=>exact λQ q=>z _ λd g f i s r=>y d g f i s r _ λJ B G I D x=>q J B G I (s.trans D) x
   | bad=>trivial
 | bad=>trivial
end
def AnsE(K:W.Frag)(mg:Str->Option Value)(i1 i2:Nat)(C x1 d1 x2 d2:Addr)(F0 H0 F:Hp)(Y:St)(Z:Ev)(r:Res (Bool×Fs×Fs))(w:VK->Prop):Prop :=
 match r with
 | .ok (v,a,b)=>∀Q:VK,(∀e f c d,Same F e->RepD K mg i1 i2 C x1 d1 x2 d2 F0 H0 e f Y Z c d a b->Q (.bl v) f)->w Q
 | _=>True
def SLE(K:W.Frag)(mg:Str->Option Value)(i1 i2:Nat)(C:Addr)(t:TE)(m:MLB):Prop:=∀g e f j h i F H Y Z c d a b,RepD K mg i1 i2 C g e f j h i F H Y Z c d a b->AnsE K mg i1 i2 C g e f j h i F Y Z (m Z a b) (t Y H)
section
variable {i1 i2:Nat} {C:Addr} {c mn:Str} {cs:List Str} {g:List D->Fs->Res (D×Fs)} {r:R2} {op:D->D->Res D} {te':TE} {e e':ME}
def eZ(hcs:cs=[c])(hm:mg c=some (.ref C))(hop:OpD K mg r op)(he:SE K mg E te e)(he':SE K mg E te' e') :
  SLE K mg i1 i2 C (tOp r (Fg C mn (spO2 K mg 1 cs g) [] E (tVar i1) (Bo te tNil)) te') (lSay false mn g op e e'):=by
 intro k n L I l m F H Y Z j A a b t;have z:=he l m F H Y Z t.rep;unfold lSay;cases ee:e Z with
 | bad=>trivial
 | ok d=>
 rw [ee] at z
 show AnsE K mg i1 i2 C k n L I l m F Y Z (if (a.map (·.1)).contains mn=true then .bad else match g [d] a with
  | .ok (r,fl)=>(e' Z).bind λp=>(match op r p with
   | .ok (.bl v)=>.ok (v,fl,b)
   | _=>.bad)
  | _=>.bad) _
 by_cases hn:(a.map (·.1)).contains mn=true
 .rw [iP hn];trivial
 rw [iN hn];have O:j.lookup mn=none:=ZG (by rw [t.r1.nm];exact hn);cases eg:g [d] a with
 | bad=>trivial
 | ok w=>
 obtain ⟨J,h⟩:=w
 show AnsE K mg i1 i2 C k n L I l m F Y Z ((e' Z).bind λp=>(match op J p with
   | .ok (.bl v)=>.ok (v,h,b)
   | _=>.bad)) _
 have y:=λx D G (r:RepD K mg i1 i2 C k n L I l m x D Y Z G A h b)=>he' l m x D Y Z r.rep;cases ee':e' Z with
 | bad=>trivial
 | ok p=>
 rw [ee'] at y
 show AnsE K mg i1 i2 C k n L I l m F Y Z (match op J p with
   | .ok (.bl v)=>.ok (v,h,b)
   | _=>.bad) _
 have o:=λx D u R (s:Same x D) N P=>hop E x D u R J p s N P;split
 .next v eo=>
  rw [eo] at o;intro Q q;refine ⟨_,t.s1,k,n,j,rfl,t.e1,O,z _ λF1 H1 yv G ry=>?_⟩;have B:=t.gr G;refine ⟨rfl,k,n,C,c,[yv],j,F1,[d],a,rfl,(by rw [hcs];simp),hm,B.e1,B.f1,B.rep.ss,.cons ry .nil,B.r1,J,h,eg,λW H2 i u S fx hx V N=>?_⟩;have U:=B.go1 S fx hx V;refine y W H2 i U _ λF3 X R M P=>?_;refine o F3 X u R M.s (N.same M.f) P _ λF4 H4 bv T rb=>?_;cases rb;exact q F4 H4 i A (G.f.trans (S.f.trans (M.f.trans T.f))) ((U.gr M).gr T)
 .trivial
def ZK(hcs:cs=[c])(hm:mg c=some (.ref C))(hop:OpD K mg r op)(he:SE K mg E te e)(he':SE K mg E te' e') :
  SLE K mg i1 i2 C (tOp r (Fg C mn (spO2 K mg 1 cs g) [] E (tVar i2) (Bo te tNil)) te') (lSay true mn g op e e'):=by
 intro p y J G t u F H Y Z n m i f x;have z:=eZ (i1:=i2) (i2:=i1) (mn:=mn) (g:=g) hcs hm hop he he' J G p y t u F H Y Z m n f i x.swap;have l:∀v a b,lSay true mn g op e e' Z i f=.ok (v,a,b)->lSay false mn g op e e' Z f i=.ok (v,b,a):=by
  intro v a b h;unfold lSay at h ⊢;cases ee:e Z with
  | bad=>rw [ee] at h;cases h
  | ok d=>
  rw [ee] at h
  have h:(if (f.map (·.1)).contains mn=true then Res.bad else match g [d] f with
   | .ok (r,fl)=>(e' Z).bind λj=>(match op r j with
    | .ok (.bl v)=>.ok (v,i,fl)
    | _=>.bad)
   | _=>.bad)=.ok (v,a,b):=h
  show (if (f.map (·.1)).contains mn=true then Res.bad else match g [d] f with
   | .ok (r,fl)=>(e' Z).bind λj=>(match op r j with
    | .ok (.bl v)=>.ok (v,fl,i)
    | _=>.bad)
   | _=>.bad)=.ok (v,b,a)
  split at h
  .cases h
  .next D=>
   rw [iN D];cases eg:g [d] f with
   | bad=>rw [eg] at h;cases h
   | ok w=>
    rw [eg] at h;obtain ⟨o,k⟩:=w;cases ee':e' Z with
    | bad=>rw [ee'] at h;cases h
    | ok j=>
     rw [ee'] at h
     have h:(match op o j with
      | .ok (.bl v)=>Res.ok (v,i,k)
      | _=>.bad)=.ok (v,a,b):=h
     show (match op o j with
      | .ok (.bl v)=>Res.ok (v,k,i)
      | _=>.bad)=.ok (v,b,a)
     split at h
     .cases h;rfl
     .cases h
 cases er:lSay true mn g op e e' Z i f with
 | bad=>trivial
 | ok w=>
  obtain ⟨v,a,b⟩:=w;rw [l v a b er] at z;exact λQ q=>z Q λA I B L s r=>q A I L B s r.swap
def YD{t:TE}{m:MLB}(h:SLE K mg i1 i2 C t m):SLB K mg i1 i2 C (Dz t) m:=by
 intro i o p y j k F H Y Z f g d c n;have z:=h i o p y j k F H Y Z f g d c n;cases e:m Z d c with
 | ok w=>
  obtain ⟨v,a,b⟩:=w;rw [e] at z;exact λQ q=>z _ λu l x A s r=>⟨v,rfl,q u l x A s r⟩
 | bad=>trivial
def xX{t:TE}{m:MLB}(h:SLE K mg i1 i2 C t m):SL K mg i1 i2 C (tRet t) (lRet m):=by
 intro j p u y k l F H Y Z f i d c o;have z:=h j p u y k l F H Y Z f i d c o;unfold lRet;cases e:m Z d c with
 | ok w=>
  obtain ⟨v,a,b⟩:=w;rw [e] at z;exact λD q=>z _ λx n A B s r=>q x n (.bl v) r.rep.g (.bl v)
 | bad=>trivial
def rB{wi:TI}{mi:MI}{n:Nat}{t:TG}{gm:MG}{u:TS}{m:ML}(hi:SI K mg E wi mi)(hg:SG K mg n t gm)(kg:KpG [i1,i2] t)(hb:SL K mg i1 i2 C u m):SL K mg i1 i2 C (tFor wi t u) (lFor mi gm m):=by
 intro R L Q O w A F H Y Z fs1 fs2 v s rr;have hI:=hi w A F H Y Z rr.rep;unfold lFor;cases ei:mi Z with
 | bad=>trivial
 | ok ds=>
 rw [ei] at hI;show AnsL K mg i1 i2 C R L Q O w A F (lGo gm m ds Z v s) _;have N:∀(D:Ends) (c:Res Lf),(∃f,c=.ok f)->(∀l a b,c=.ok (.nx l a b)->∀g j r o p,Same F g->RepD K mg i1 i2 C R L Q O w A g j r l o p a b->D.nx r j)->(∀d,c=.ok (.rt d)->∀g j y,Gr w A g j->Rp K mg g y d->D.rt y j) ->
   lGo gm m ds Z v s=c->tFor wi t u D Y H:=by
  intro D c M qn qr e0;refine hI _ λF1 H1 J g1 jo=>?_;refine ⟨λi k r j=>k=ds.length - i/\i<=ds.length/\∃l g o p a b,Same F1 g/\RepD K mg i1 i2 C R L Q O w A g j r l o p a b/\lGo gm m (ds.drop i) l a b=c,⟨ds.length,by simp,Cq _,Z,F1,fs1,fs2,v,s,Same.refl _,rr.gr g1,e0⟩,?_⟩;rintro i k r j ⟨rfl,hi',l,g,o,p,a,b,U,W,e⟩;by_cases hlt:i<ds.length
  .refine .inr ?_;have hd:=Bk hlt;obtain ⟨go,yl⟩:=(jo g j U W.rep.ss i).1 _ hd;rw [Ka hlt] at e;refine ⟨go,λY2 G=>∃h I o p a b,Same F1 I/\RepD K mg i1 i2 C R L Q O w A I G Y2 h o p a b/\lGo gm m (ds.drop (i+1)) h a b=c,λY2 G zq=>by obtain ⟨h,I,o,p,a,b,s2,X,B⟩:=zq;exact ⟨ds.length - (i+1),by omega,rfl,hlt,h,I,o,p,a,b,s2,X,B⟩,λx G y=>?_⟩;obtain ⟨I,g2,rx⟩:=yl x G y;have X:=W.gr g2;have hG:=hg w _ I G r l x _ X.frame rx
   have V:(gm ds[i] l).bind (λP=>(m P a b).bind λf=>match f with
    | .nx h a2 b2=>lGo gm m (ds.drop (i+1)) h a2 b2
    | .rt d=>.ok (.rt d))=c:=e
   cases eg:gm ds[i] l with
   | bad=>rw [eg] at V;obtain ⟨_,rfl⟩:=M;cases V
   | ok P=>
    rw [eg] at V hG;refine kg x r r G (λS T=>agr [i1,i2] r S->u _ S T) _ agr.refl (λS T ag q=>q ag) (hG _ λF3 T S s3 r3 _ ag=>?_);have r4:=X.back s3 r3 ag;have hB:=hb R L Q O w A F3 T S P o p a b r4;have sF:=U.trans (g2.f.trans s3)
    have B:(m P a b).bind (λf=>match f with
     | .nx h a2 b2=>lGo gm m (ds.drop (i+1)) h a2 b2
     | .rt d=>.ok (.rt d))=c:=V
    cases em:m P a b with
    | bad=>rw [em] at B;obtain ⟨_,rfl⟩:=M;cases B
    | ok f=>
     rw [em] at B hB;cases f with
     | nx h a2 b2=>exact hB _ λF4 H4 Y4 j1 j2 s4 r5=>⟨h,F4,j1,j2,a2,b2,sF.trans s4,r5,B⟩
     | rt d=>exact hB _ λF4 H4 y g4 ry=>qr d B.symm F4 H4 y g4 ry
  .have hi2:i=ds.length:=by omega
   subst hi2;rw [Jz (Ar _)] at e;exact .inl ⟨(jo g j U W.rep.ss _).2 (Ar _),qn l a b e.symm g j r o p (g1.f.trans U) W⟩
 cases e:lGo gm m ds Z v s with
 | bad=>trivial
 | ok f=>
  cases f with
  | nx h a b=>exact λD q=>N D _ ⟨_,rfl⟩ (λ_ _ _ z=>by cases z;exact q) (λ_ z=>(by cases z)) e
  | rt d=>exact λD q=>N D _ ⟨_,rfl⟩ (λ_ _ _ z=>by cases z) (λ_ z=>by cases z;exact q) e
end
end L2.Ds
namespace Dl
def lLaw(i1 i2:Nat)(g0:List D->Fs->Res Fs)(k:ML):MS:=λZ=>if ¬(i1<Z.length/\i2<Z.length/\i1≠i2) then .bad else match g0 [] [] with
 | .ok fl=>(match k ((Z.set i1 .no).set i2 .no) fl fl with
  | .ok (.rt d)=>.ok (.rt d)
  | _=>.bad)
 | _=>.bad
end Dl
namespace L2.Ds
open PySem.Calls Dl
structure DLE(X:Cx)(i1 i2:Nat)(C:Addr)(e:Expr)(t:TE)(m:MLB):Prop where
 p:PE X e t
 s:SLE X.K X.mg i1 i2 C t m
structure DLT(X:Cx)(i1 i2:Nat)(C:Addr)(e:Expr)(t:TT)(m:MLB):Prop where
 p:PT X e t
 s:SLB X.K X.mg i1 i2 C t m
structure DLW(X:Cx)(i1 i2:Nat)(C:Addr)(e:Expr)(t:TT)(m:MLB):Prop where
 p:PW X e t
 s:SLB X.K X.mg i1 i2 C t m
structure DL(X:Cx)(i1 i2:Nat)(C:Addr)(sts:List Stmt)(t:TS)(m:ML):Prop where
 p:PSs X sts t
 s:SL X.K X.mg i1 i2 C t m
section
variable {i1 i2:Nat} {C f:Addr} {a b c:Expr} {ta tb:TT} {ma mb:MLB} {te':TE} {me':ME} {st:Stmt} {rest body:List Stmt} {t u:TS} {m:MS} {k k':ML} {p ap cp rp:Pos} {mn cn:Str} {cs:List Str} {g:List D->Fs->Res (D×Fs)} {kk l:Nat} {op:CmpOp} {r:R2} {od:D->D->Res D} {pl:Sem Bool}
def Oi{i:Nat}(hi:X.N[i]?=some x)(hv:CQ X.env.scope x)(hC:Cls X.K C)(hM:Meth X.K C mn f)(Fo:FnOk X.prog X.w X.K X.mg X.base (CXR X.prog X.w) kk f fd ps (spO2 X.K X.mg 1 cs g))(hb:Binds X.K fd ps [])(hr:Room l X.A)(hl:kk<=l)(hx:Cg (CXR X.prog X.w) X E)(he:PE X e te)
  (hd:ND x:=by decide) (hcd:NE x:=by decide) (hs:starEach [e] X.env=(false,eval e X.env)::starEach [] X.env:=by rfl) (hpl:(backTo cp (starEach [] X.env)).any (·.1)=false:=by rfl)
  (ht:eval (.Call (.Attribute (.Name x p) mn ap) [e] [] cp) X.env=(do
   let ov <-eval (.Name x p) X.env
   standAt ap.atName
   let (f,first) <-holding [ov] (getMethod ov mn pl)
   callWith cp f first (backTo cp (starEach [e] X.env)) (backToKw cp (keywordEach [] X.env))):=by rfl) :
  PE X (.Call (.Attribute (.Name x p) mn ap) [e] [] cp) (Fg C mn (spO2 X.K X.mg 1 cs g) [] E (tVar i) (Bo te tNil)) :=
 eH (pl:=pl) (Cr hi hv hd hcd) hC hM Fo (hr.mono hl) hb .nil hx (Ea he Dv hs) hs hpl ht
def mq(hcs:cs=[cn])(hm:X.mg cn=some (.ref C))(ho:OpR X (compareOp op) r)(hf:OpD X.K X.mg r od)(h:PE X e te->PE X a (Fg C mn (spO2 X.K X.mg 1 cs g) [] E (tVar i2) (Bo te tNil)))(he:DE X E e te me)(he':DE X E b te' me')(hmk:behindInMarks op b=false) :
  DLE X i1 i2 C (.Compare a [op] [b] pos) (tOp r (Fg C mn (spO2 X.K X.mg 1 cs g) [] E (tVar i2) (Bo te tNil)) te') (lSay true mn g od me me'):=⟨We ho (h he.p) he'.p hmk,ZK hcs hm hf he.s he'.s⟩
def Vl(hcs:cs=[cn])(hm:X.mg cn=some (.ref C))(ho:OpR X (compareOp op) r)(hf:OpD X.K X.mg r od)(h:PE X e te->PE X a (Fg C mn (spO2 X.K X.mg 1 cs g) [] E (tVar i1) (Bo te tNil)))(he:DE X E e te me)(he':DE X E b te' me')(hmk:behindInMarks op b=false) :
  DLT X i1 i2 C (.Compare a [op] [b] pos) (Dz (tOp r (Fg C mn (spO2 X.K X.mg 1 cs g) [] E (tVar i1) (Bo te tNil)) te')) (lSay false mn g od me me'):=⟨RN ho (h he.p) he'.p hmk,YD (eZ hcs hm hf he.s he'.s)⟩
def uB(hcs:cs=[cn])(hm:X.mg cn=some (.ref C))(ho:OpR X (compareOp op) r)(hf:OpD X.K X.mg r od)(h:PE X e te->PE X a (Fg C mn (spO2 X.K X.mg 1 cs g) [] E (tVar i2) (Bo te tNil)))(he:DE X E e te me)(he':DE X E b te' me')(hmk:behindInMarks op b=false) :
  DLT X i1 i2 C (.Compare a [op] [b] pos) (Dz (tOp r (Fg C mn (spO2 X.K X.mg 1 cs g) [] E (tVar i2) (Bo te tNil)) te')) (lSay true mn g od me me'):=⟨RN ho (h he.p) he'.p hmk,YD (ZK hcs hm hf he.s he'.s)⟩
def WT(h:DLT X i1 i2 C a ta ma):DLW X i1 i2 C (.BoolOp .Or [a] pos) ta ma:=⟨Z9 h.p,h.s⟩
def eE{more:List Expr}(h:DLT X i1 i2 C a ta ma)(h':DLW X i1 i2 C (.BoolOp .Or (b::more) pos) tb mb):DLW X i1 i2 C (.BoolOp .Or (a::b::more) pos) (tOr ta tb) (lOr ma mb):=⟨WQ h.p h'.p,lO h.s h'.s⟩
def DLW.lt(h:DLW X i1 i2 C a ta ma):DLT X i1 i2 C a ta ma:=⟨h.p.pt,h.s⟩
def Ny(h:DS X E st t m)(kp:Kpt [i1,i2] t)(r:DL X i1 i2 C rest u k):DL X i1 i2 C (st::rest) (tSeq t u) (lSq (lPl m) k):=⟨DP h.p r.p,VB (jb h.s kp) r.s⟩
def rR(h:DLT X i1 i2 C c ta ma)(he:DE X E e te me)(r:DL X i1 i2 C rest u k):DL X i1 i2 C (.If c [.Return (some e) rp] [] spos::rest) (tSeq (tIfS ta (tRet te) GF) u) (lSq (lIf ma me) k):=⟨DP (JM h.p (FQ (Jy he.p)) Kr) r.p,VB (Yi h.s he.s) r.s⟩
def qz(h:DLT X i1 i2 C c ta ma)(he:DE X E e te me):DL X i1 i2 C [.If c [.Return (some e) rp] [] spos] (tIfS ta (tRet te) GF) (lIf ma me):=⟨FQ (JM h.p (FQ (Jy he.p)) Kr),Yi h.s he.s⟩
def qD(h:DLE X i1 i2 C e te ma):DL X i1 i2 C [.Return (some e) spos] (tRet te) (lRet ma):=⟨FQ (Jy h.p),xX h.s⟩
def kI{tg iter:Expr}{wi:TI}{mi:MI}{n:Nat}{tgt:TG}{gm:MG}(hp:PassesOwn (model X.prog X.w) X.A X.env X.xe)(hc:X.calm=true)(hi:DI X E tg iter wi mi)(hg:DG X n tg tgt gm)(kg:KpG [i1,i2] tgt)(hb:DL X i1 i2 C body t k)(r:DL X i1 i2 C rest u k')
  (hs:∀x,foldedSetIterable iter X.env x=pure x:=by intro _;rfl):DL X i1 i2 C (.For tg iter body [] spos::rest) (tSeq (tFor wi tgt t) u) (lSq (lFor mi gm k) k'):=⟨DP (Pg hp hc hi.p hg.p hb.p hs) r.p,VB (rB hi.s hg.s kg hb.s) r.s⟩
end
section
variable {F:Hp}
def Rep.setN{i:Nat}{y:V}(r:Rep K mg F0 H0 F H Y Z):Rep K mg F0 H0 F H (Y.set i (some y)) (Z.set i .no):=by
 have b:∀(k:Nat) (c:Cl),c≠.no->(Z.set i .no)[k]?=some c->k≠i/\Z[k]?=some c:=by
  intro k c A e;by_cases f:i=k
  .subst f;by_cases hi:i<Z.length
   .rw [JP hi] at e;cases e;exact aB rfl A
   .rw [Qn (by rw [Eg];omega)] at e;cases e
  .rw [GK f] at e;exact ⟨λz=>f z.symm,e⟩
 refine ⟨r.g,by rw [Eg,Eg];exact r.len,λk d e=>?_,λk m e=>?_,λk l m B a C s h j=>?_⟩
 .obtain ⟨f,p⟩:=b k _ (λz=>by cases z) e;obtain ⟨x,h,j⟩:=r.im k d p;exact ⟨x,by rw [GK λz=>f z.symm];exact h,j⟩
 .obtain ⟨f,p⟩:=b k _ (λz=>by cases z) e;obtain ⟨a,u,h,j,w,q,v⟩:=r.ow k m p;exact ⟨a,u,by rw [GK λz=>f z.symm];exact h,j,w,q,v⟩
 .obtain ⟨f,n⟩:=b k _ (λz=>by cases z) C;obtain ⟨t,o⟩:=b l _ (λz=>by cases z) s;rw [GK λz=>f z.symm] at h;rw [GK λz=>t z.symm] at j;exact r.ne k l m B a n o h j
def Gr.new0{F0 H0 F H:Hp}{x:Addr}(g:Gr F0 H0 F H)(h:H x=none):H0 x=none:=by
 cases e0:H0 x with
 | none=>rfl
 | some o=>
  cases f0:F0 x with
  | none=>have:=(g.o x o f0 e0).2;rw [h] at this;cases this
  | some o'=>have:=g.s x _ (g.f x o' f0);rw [h] at this;cases this
def dY{C:Addr}{c:Str}{cs:List Str}{g0:List D->Fs->Res Fs}{fl:Fs}(s:Same F H)(hc:cs.contains c=true)(hm:mg c=some (.ref C))(eg:g0 [] []=.ok fl)(Y:St)(Q:VK)
  (q:∀x dx F' H' fs,H x=none->F' x=none->H' x=some (.ins C dx fs)->Gr F H F' H'->FR K mg F' fs fl->Q (.ref x) H'):G6 C (spI K mg 0 cs g0) [] E tNil Y H Q:=by
 intro x dx j d l;have u:F x=none:=s.free j;have v:del (upd (upd H dx (.own x)) x (.ins C dx [])) x=upd H dx (.own x):=by
  funext a;by_cases h:a=x
  .subst h;rw [Gh,Ai (Ne.symm l)];exact j.symm
  .rw [Ec h,Ai h]
 refine ⟨rfl,x,dx,C,c,[],[],F,[],[],rfl,hc,hm,Ay,u,λa o e=>?_,.nil,⟨rfl,.nil⟩,(by rw [eg];intro z;cases z),?_⟩
 .have z:=s a o e;rw [Ai (BP z j),Ai (BP z d)];exact z
 .first | refine ⟨λk e F' H' i b r g m=>⟨rfl,?_⟩,λw p=>by rw [eg] at p;cases p⟩ | refine λk e F' H' i b r g m=>⟨rfl,?_⟩
  rw [eg] at e;cases e;rw [v] at b;exact q x dx F' H' i j r g ⟨b.f,b.s,λa o t n=>b.o a o t (by rw [Ai (BP n d)];exact n),b.z⟩ m
def zj{i1 i2:Nat}{C:Addr}{c:Str}{cs:List Str}{g0:List D->Fs->Res Fs}{u:TS}{k:ML}(hc:cs.contains c=true)(hm:mg c=some (.ref C))(h:SL K mg i1 i2 C u k) :
  SS K mg E (tSeq (tAsg (G6 C (spI K mg 0 cs g0) [] E tNil) (Bs i1)) (tSeq (tAsg (G6 C (spI K mg 0 cs g0) [] E tNil) (Bs i2)) u)) (lLaw i1 i2 g0 k):=by
 intro L M F H Y Z l;unfold lLaw;by_cases hb':¬(i1<Z.length/\i2<Z.length/\i1≠i2)
 .rw [iP hb'];trivial
 rw [iN hb'];have hb:=Jw hb';obtain ⟨O,b2,b3⟩:=hb;cases eg:g0 [] [] with
 | bad=>trivial
 | ok fl=>
 show AnsS K mg E L M F (match k ((Z.set i1 .no).set i2 .no) fl fl with
  | .ok (.rt d)=>.ok (.rt d)
  | _=>.bad) _
 have y:=λe V m d2 W H' Y' s J r=>h e V m d2 L M W H' Y' ((Z.set i1 .no).set i2 .no) s J fl fl r;generalize k ((Z.set i1 .no).set i2 .no) fl fl=r2 at y;cases r2 with
 | bad=>trivial
 | ok f=>
 cases f with
 | nx Z' a b=>trivial
 | rt d=>
 intro D q;show G6 C (spI K mg 0 cs g0) [] E tNil Y H λv N=>G6 C (spI K mg 0 cs g0) [] E tNil (Y.set i1 (some v)) N λX x=>u D ((Y.set i1 (some v)).set i2 (some X)) x;refine dY (mg:=mg) (F:=F) l.ss hc hm eg Y _ λe G F1 N s n w P Q z=>?_;have A:=(l.gr Q).setN (i:=i1) (y:=.ref e);refine dY (mg:=mg) (F:=F1) A.ss hc hm eg _ _ λm p S x J j B U t I=>?_;obtain ⟨R,T⟩:=t.o e _ w P;have ne:e≠m:=by
  rintro rfl;rw [P] at j;cases j
 have l1:i1<(Y.set i1 (some (.ref e))).length:=by rw [Eg,l.len];exact O
 refine y e G m p S x _ s J ⟨(A.gr t).setN,l.g.new0 n,A.g.new0 j,ne,?_,?_,R,B,T,U,z.same t.f,I⟩ D q
 .rw [GK b3.symm,JP (by rw [l.len];exact O)]
 .rw [JP (by rw [Eg,l.len];exact b2)]
end
section
variable {i1 i2 l:Nat} {C f:Addr} {cs:List Str} {g0:List D->Fs->Res Fs} {rest:List Stmt} {u:TS} {m:ML} {c y:Str} {p p' q q' yp xp sp sp':Pos}
def nQ(M:Mk X.K C f)(Fo:FnOk X.prog X.w X.K X.mg X.base (CXR X.prog X.w) k f fd ps (spI X.K X.mg 0 cs g0))(hb:Binds X.K fd ps [])(hr:Room l X.A)(hl:k+1<=l)(hg:Gl X c)(hm:X.mg c=some (.ref C))(hc:cs.contains c=true)(hx:Cg (CXR X.prog X.w) X E)(r:DL X i1 i2 C rest u m)
  (hN:X.N.Nodup) (h1:X.N[i1]?=some x) (h1l:Loc X.env.scope x) (h2:X.N[i2]?=some y) (h2l:Loc X.env.scope y) (hdb:ND c:=by decide)
  (hf1:X.fn x=true\/X.env.scope.names.lookup x=some .local:=by first | exact .inl rfl | exact .inr rfl | assumption) (hf2:X.fn y=true\/X.env.scope.names.lookup y=some .local:=by first | exact .inl rfl | exact .inr rfl | assumption)
  (hs1:swapsWith (.Call (.Name c p) [] [] q) (some (.Name x xp)) sp.line X.env=pure false:=by rfl) (hs2:swapsWith (.Call (.Name c p') [] [] q') (some (.Name y yp)) sp'.line X.env=pure false:=by rfl) :
  DSs X E (.Assign [.Name x xp] (.Call (.Name c p) [] [] q) sp::.Assign [.Name y yp] (.Call (.Name c p') [] [] q') sp'::rest) (tSeq (tAsg (G6 C (spI X.K X.mg 0 cs g0) [] E tNil) (Bs i1)) (tSeq (tAsg (G6 C (spI X.K X.mg 0 cs g0) [] E tNil) (Bs i2)) u)) (lLaw i1 i2 g0 m) :=
 ⟨DP (Hq hN h1 h1l (W9 M Fo (hr.mono hl) hg hm hb .nil hx hdb) hs1 hf1) (DP (Hq hN h2 h2l (W9 M Fo (hr.mono hl) hg hm hb .nil hx hdb) hs2 hf2) r.p),zj hc hm r.s⟩
end
end L2.Ds
namespace Dl
abbrev MOs:=Ev->Fs->Res (Ev×Fs)
def J1(f:Str)(e:MEo):MOs:=λZ a=>(e Z a).bind λd=>if 100<=a.length then .bad else .ok (Z,putD f d a)
def osIf(c:MB)(a b:MOs):MOs:=λZ d=>(c Z).bind λv=>if v=true then a Z d else b Z d
def Sq:MOs:=λ_ _=>.bad
def oBad:MO:=λ_ _=>.bad
def oSt(s:MOs)(k:MO):MO:=λZ a=>(s Z a).bind λr=>k r.1 r.2
end Dl
namespace L2.Ds
open PySem.Calls Dl
def Qw(K:W.Frag)(mg:Str->Option Value)(x dx C:Addr)(F0 H0:Hp)(r:Res (Ev×Fs))(w:Ends->Prop):Prop :=
 match r with
 | .ok (Z,fl)=>∀D:Ends,(∀c a b d,RepI K mg x dx C F0 H0 c a b Z d fl->D.nx b a)->w D
 | _=>True
def SOs(K:W.Frag)(mg:Str->Option Value)(cs:List Str)(t:TS)(m:MOs):Prop:=∀x e C c a b F H Y Z f d,cs.contains c=true->mg c=some (.ref C)->RepI K mg x e C a b F H Y Z f d->Qw K mg x e C a b (m Z d) (λD=>t D Y H)
structure DOs(X:Cx)(E:XK)(cs:List Str)(st:Stmt)(t:TS)(m:MOs):Prop where
 p:PS X st t
 s:SOs X.K X.mg cs t m
structure DOss(X:Cx)(E:XK)(cs:List Str)(st:List Stmt)(t:TS)(m:MOs):Prop where
 p:PSs X st t
 s:SOs X.K X.mg cs t m
section
variable {cs:List Str}
def Ans.sts{x dx C:Addr}{F0 H0 F H:Hp}{α β:Type}{R:Hp->β->α->Prop}{r:Res α}{w:(β->Hp->Prop)->Prop}{k:α->Res (Ev×Fs)}{w':β->Hp->Ends->Prop}(h1:Ans mg E R F H r w)
  (h2:∀a,r=.ok a->∀F1 H1 b,Gr F H F1 H1->R F1 b a->Qw K mg x dx C F0 H0 (k a) (w' b H1)):Qw K mg x dx C F0 H0 (r.bind k) (λD=>w λb H1=>w' b H1 D):=by
 cases r with
 | ok a=>
  show Qw K mg x dx C F0 H0 (k a) _;have c:=h2 a rfl;generalize k a=r2 at c;cases r2 with
  | ok z=>exact λD q=>h1 _ λF1 H1 b g d=>c F1 H1 b g d D q
  | bad=>trivial
 | bad=>trivial
def ZqG{f:Str}{t:TE}{m:MEo}(T:Ca K mg cs f)(h:SEo K mg E cs t m):SOs K mg cs (sFld K (tVar 0) t f) (J1 f m):=by
 intro x e C c r u F H Y Z b n o l k;refine (h x e C c r u F H Y Z b n o l k).sts (w':=λy j D=>tVar 0 Y j λx i=>∃a C e b,x=.ref a/\i a=some (.ins C e b)/\Cls K C/\Gg K C f/\b.length<1000/\D.nx Y (upd i a (.ins C e (putF f y b)))) λd _ z j y p w=>?_;have g:=k.gr p;obtain ⟨s,v⟩:=T c o C l;by_cases hl:100<=n.length
 .rw [iP hl];trivial
 rw [iN hl];exact λD q=>⟨_,g.self,x,C,e,b,rfl,g.hx,s,v,by have:=g.fr.len;omega,q _ _ Y _ (g.put (f:=f) w)⟩
def ZuL{sc:TT}{nc:MB}{t u:TS}{a b:MOs}(hc:STt K mg E sc nc)(h1:SOs K mg cs t a)(h2:SOs K mg cs u b):SOs K mg cs (tIfS sc t u) (osIf nc a b):=by
 intro x j C c f g F H Y Z n l e k h;refine (hc f g F H Y Z h.rep).sts (w':=λv d D=>if v=true then t D Y d else u D Y d) λv _ m d y i o=>?_
 cases o;cases v with
 | true=>exact h1 x j C c f g m d Y Z n l e k (h.gr i)
 | false=>exact h2 x j C c f g m d Y Z n l e k (h.gr i)
def vI{t u:TS}{m:MOs}{k:MO}(h1:SOs K mg cs t m)(h2:SO2 K mg cs u k):SO2 K mg cs (tSeq t u) (oSt m k):=by
 intro x g C c b d F H Y Z A j l i o;have z:=h1 x g C c b d F H Y Z A j l i o;unfold oSt;cases e:m Z j with
 | ok r=>
  obtain ⟨f,a⟩:=r;rw [e] at z;show Fj K mg x g C b d (k f a) _;cases e2:k f a with
  | ok w=>
   intro D q;refine z _ λp n v h s=>?_;have y:=h2 x g C c b d p n v f h a l i s;rw [e2] at y;exact y D q
  | bad=>trivial
 | bad=>trivial
end
section
variable {cs:List Str} {st:Stmt} {sts rest as bs:List Stmt} {t u:TS} {m m':MOs} {k:MO} {c:Expr} {me:MEo} {tc:TT} {mc:MB} {p p':Pos} {f:Str}
def Y5(T:Ca X.K X.mg cs f)(h:DEo X E cs e te me)(hN:X.N[0]?=some x:=by rfl)(hv:CQ X.env.scope x:=by first | exact Or.inl rfl | exact Or.inr (Or.inl rfl) | exact Or.inr (Or.inr rfl))(hd:ND x:=by decide)
  (hcd:NE x:=by decide) (hs:swapsWith e (some (.Attribute (.Name x p) f p')) spos.line X.env=pure false:=by rfl) :
  DOs X E cs (.Assign [.Attribute (.Name x p) f p'] e spos) (sFld X.K (tVar 0) te f) (J1 f me):=⟨Ur (Cr hN hv hd hcd) h.p hs,ZqG T h.s⟩
def T9(h:DOs X E cs st t m):DOss X E cs [st] t m:=⟨FQ h.p,h.s⟩
def mK:DOss X E cs sts (λ_ _ _=>False) Sq:=⟨λ_ _ _ _ _ _ h=>h.elim,λ_ _ _ _ _ _ _ _ _ _ _ _ _ _ _=>trivial⟩
def Zn(h:DT X E c tc mc)(a:DOss X E cs as t m)(b:DOss X E cs bs u m'):DOs X E cs (.If c as bs spos) (tIfS tc t u) (osIf mc m m'):=⟨JM h.p a.p b.p,ZuL h.s a.s b.s⟩
def sG(h:DOs X E cs st t m)(r:DMo X E cs rest u k):DMo X E cs (st::rest) (tSeq t u) (oSt m k):=⟨DP h.p r.p,vI h.s r.s⟩
def tQ:DMo X E cs sts (λ_ _ _=>False) oBad:=⟨λ_ _ _ _ _ _ h=>h.elim,λ_ _ _ _ _ _ _ _ _ _ _ _ _ _ _=>trivial⟩
end
section
variable {u:TGs} {g:MGs} {p tp:Pos}
def xU(hc:X.calm=true)(h:DGs X n es u g)(hi:X.N[i]?=some x:=by rfl)(hv:CQ X.env.scope x:=by first | exact Or.inl rfl | exact Or.inr (Or.inl rfl) | exact Or.inr (Or.inr rfl))(hd:ND x:=by decide)(hcd:NE x:=by decide)
  (hn:(assignEach es X.env).length=j:=by rfl) (hst:(assignEach es X.env).findIdx? (·.1)=none:=by rfl) (hs:swapsWithSole [.Tuple es k tp] (.Name x p) spos.line X.env=pure false:=by rfl) (hw:swappedStores [.Tuple es k tp] (.Name x p) X.env=pure none:=by rfl)
  (h1:(assignEach [.Tuple es k tp] X.env).map (·.2)=[assign (.Tuple es k tp) X.env]:=by rfl):DS X E (.Assign [.Tuple es k tp] (.Name x p) spos) (tAsg (tVar i) (gSeq X.K j u)) (unpO i j g) :=
 ⟨VR (Cr hi hv hd hcd) (Nr hc h hn hst).p hs hw h1,lG h.s⟩
end
section
variable {cs:List Str} {l:Nat} {a f:Addr} {vs:List (Str×Value)} {g w:Str} {m:List D->Res D} {tab:List (Str×(List D->Res D))} {t:TA} {ma:MAo} {p q sp:Pos}
def Lb(C:Cal X.prog X.w X.K X.mg X.base k x ps m)(h:X.mg x=some (.ref f))(hp:ps.length=n)(hl:k<=l):FnD X l n f m:=by
 obtain ⟨e,c,F,b,d,a⟩:=C.ex;rw [h] at a;cases a;exact ⟨c,ps,F.mono hl,b,d,hp⟩
def TbOk(X:Cx)(k n:Nat)(vs:List (Str×Value))(tab:List (Str×(List D->Res D))):Prop:=∀s m,tab.lookup s=some m->∃f,valueAt vs s=some (.ref f)/\FnD X k n f m
def TbOk.nil:TbOk X k n vs []:=λ_ _ h=>by cases h
def TbOk.cons(h:valueAt vs w=some (.ref f))(F:FnD X k n f m)(r:TbOk X k n vs tab):TbOk X k n vs ((w,m)::tab):=by
 intro s b a;rw [Li] at a;cases hb:s==w with
 | true=>
  rw [hb] at a;cases a;rw [eq_of_beq hb];exact ⟨f,h,F⟩
 | false=>
  rw [hb] at a;exact r s b a
def Wo(T:TabF X.prog X.w X.K a vs)(hg:Gl X g)(hm:X.mg g=some (.ref a))(O:TbOk X k n vs tab)(hr:Room l X.A)(hl:k<=l)(hx:Cg (CXR X.prog X.w) X E)(ha:DAo X E cs n (e::es) t ma)
  (hi:X.N[i]?=some x:=by rfl) (hv:CQ X.env.scope x:=by first | exact Or.inl rfl | exact Or.inr (Or.inl rfl) | exact Or.inr (Or.inr rfl))
  (hd:ND x:=by decide) (hcd:NE x:=by decide) (hdb:ND g:=by decide)
  (he:starEach (e::es) X.env=(false,eval e X.env)::starEach es X.env:=by rfl) (hpl:(backTo pos (starEach es X.env)).any (·.1)=false:=by rfl)
  (hc:eval (.Call (.Subscript (.Name g p) (.Name x q) sp) (e::es) [] pos) X.env=(do callWith pos (<-eval (.Subscript (.Name g p) (.Name x q) sp) X.env) [] (backTo pos (starEach (e::es) X.env)) (backToKw pos (keywordEach [] X.env))):=by rfl) :
  DEo X E cs (.Call (.Subscript (.Name g p) (.Name x q) sp) (e::es) [] pos) (tTab X.K X.mg n i vs tab E t) (oTab i tab ma) :=
 fZ T hg hm (λs f m h c=>by obtain ⟨d,b,F⟩:=O s m c;rw [b] at h;cases h;exact F) (λs m c=>by obtain ⟨d,b,_⟩:=O s m c;exact ⟨d,b⟩) hr hl hx ha hi hv hd hcd hdb he hpl hc
end
section
def xu{mb:MW}{n k:Nat}(st:Stmt)(N:List Str)(D:Def K mg x st ps/\Bx N ps (BV st))(hN:1<=N.length)(hp:ps.length=k+1)
  (h:N.Nodup->∀(f:Addr) (cdv:Value) (A:Around) (outer:List Env) (s:Shared) (H:Hp) (E:XK),Room n (A.deeper (envOfC x (BV st) s.heap.objs.size f cdv))->∃t,DSW (cxOf (CXR P w) P w K mg base N x (BV st) f cdv A outer s H E) E (Ew st) t mb):Ua P w K mg base (n+1) x k (fnWo N.length mb):=by
 obtain ⟨f,c,F,b,a⟩:=D.1.ex;exact ⟨f,c,ps,okWo F D.2 hN hp (h D.2.nd f),b,F.kp,a⟩
end
def tab_of{P:Program}{w:World}{K:W.Frag}{a n:Nat}(es:List (Str×Nat×Value))(hl:K.lookup a=some ⟨.type "dict",none,.dict (List.toArray (es.map λe=>⟨PyData.keyHash w.params e.1,.str e.1 e.2.1,e.2.2⟩)) n,#[]⟩)(ne:(a==sysModules)=false)(nd:(es.map (·.1)).Nodup):TabF P w K a (es.map λe=>(e.1,e.2.2)):=by
 refine ⟨ne,λh c=>⟨_,_,_,c a _ hl,?_,rfl,?_,?_,?_⟩⟩
 .exact ⟨rfl,rfl,rfl⟩
 .intro e d;have b:e∈es.map λe:Str×Nat×Value=>(⟨PyData.keyHash w.params e.1,.str e.1 e.2.1,e.2.2⟩ : DictEntry):=by simpa using d
  obtain ⟨z,_,rfl⟩:=BZ.mp b;exact ⟨z.1,strKind_is P w z.1 z.2.1,rfl⟩
 .show Pairs (strKind P w) (es.map _) _;clear hl nd
  induction es with
  | nil=>exact .nil
  | cons z r ih=>exact .cons (strKind_is P w z.1 z.2.1) rfl ih
 .rw [DK];exact nd
end L2.Ds
namespace Dl
def Sm(k:Nat)(x:Int):Prop:=x.natAbs<2^k
def Sm.mono{k n:Nat}{x:Int}(h:Sm k x)(hn:k<=n):Sm n x:=Bv h (Nat.pow_le_pow_right (by decide) hn)
def Sm.mul{m n:Nat}{x y:Int}(h:Sm m x)(g:Sm n y):Sm (m+n) (x*y):=by
 unfold Sm at *;rw [JQ,Nat.pow_add];rcases Nat.eq_zero_or_pos x.natAbs with z | z
 .rw [z,Nat.zero_mul];exact Nat.mul_pos (Nat.two_pow_pos _) (Nat.two_pow_pos _)
 .exact Rr (Nat.mul_le_mul_left _ (Lj g)) (Nat.mul_lt_mul_of_pos_right h (Nat.two_pow_pos _))
def Sm.add{m n:Nat}{x y:Int}(h:Sm m x)(g:Sm n y):Sm (max m n+1) (x+y):=by
 have b:=h.mono (Nat.le_max_left m n);have a:=g.mono (Nat.le_max_right m n);unfold Sm at *;rw [Nat.pow_succ];have:=Int.natAbs_add_le x y;omega
def Sm.neg{m:Nat}{x:Int}(h:Sm m x):Sm m (-x):=by
 unfold Sm at *
 lia
def Sm.le{m:Nat}{x y:Int}(h:Sm m x)(e:y.natAbs<=x.natAbs):Sm m y:=Rr e h
def Sm.of64{x:Int}(h1:-18446744073709551616<x)(h2:x<18446744073709551616):Sm 64 x:=by
 unfold Sm;have:(2:Nat)^64=18446744073709551616:=by decide
 omega
def QL{n k:Nat}(h:n<2^k)(hk:0<k):n.log2<k:=by
 rcases Nat.eq_zero_or_pos n with z | z
 .rw [z];simpa using hk
 .exact (Nat.log2_lt (Ib z)).mpr h
def Sm.log{m:Nat}{x:Int}(h:Sm m x)(hm:m<9000):x.natAbs.log2<9000:=QL (h.mono (Lj hm)) (by decide)
def xn{a b:Int}(h:Sm 64 a):DX a b=true:=by
 unfold DX;rw [Dj (show a.natAbs<2^64 from h)];rfl
def uW{a b:Int}(h:Sm 64 b):DX a b=true:=by
 unfold DX;rw [Dj (show b.natAbs<2^64 from h)];simp
def Jm{a b:Int}{m n:Nat}(h:Sm m a)(g:Sm n b)(hk:m+n<99999990):DX a b=true:=by
 have c:=QL (h.mono (Nat.le_succ m)) (Nat.succ_pos _);have d:=QL (g.mono (Nat.le_succ n)) (Nat.succ_pos _);unfold DX;rw [Dj (show a.natAbs.log2+b.natAbs.log2<100000000 by omega)];simp
def ZqR{a b:Int}(h:DX a b=true):iMul a b=.ok (.int (a*b)):=by unfold iMul;rw [iP h]
def vD{a b:Int}(h:0<b):iMod a b=.ok (.int (a%b)):=by unfold iMod;rw [iP h]
def wR{a b:Int}(h:0<b)(hl:b.natAbs.log2<9000):iDiv a b=.ok (.int (a/b)):=by unfold iDiv;rw [iP hl,iP h]
def zW{a b:Int}(h:b<0)(hl:b.natAbs.log2<9000):iDiv a b=.ok (.int (a.fdiv b)):=by unfold iDiv;rw [iP hl,iN (by omega),iN (by omega)]
def nR{a b:Int}(h0:0<=b)(h1:b<=1000000)(h2:a.natAbs<2^64):iPow a b=.ok (.int (a^b.toNat)):=by unfold iPow;rw [iP ⟨h0,h1,h2⟩]
def mH{a b:Int}(h0:0<=b)(h1:b<=1000000)(h2:a.natAbs<2^64):iShl a b=.ok (.int (a*2^b.toNat)):=by unfold iShl;rw [iP ⟨h0,h1,h2⟩]
def wQ{a b:Int}(h0:0<=b):iShr a b=.ok (.int (a/2^b.toNat)):=by unfold iShr;rw [iP h0]
def rT(a b:Int):dEq (.int a) (.int b)=.ok (.bl (decide (a=b))):=by
 show Res.ok (D.bl (a==b))=_;rw [Bool.beq_eq_decide_eq]
def sJ(a b:Int):dNe (.int a) (.int b)=.ok (.bl (!decide (a=b))):=by
 show Res.ok (D.bl (!(a==b)))=_;rw [Bool.beq_eq_decide_eq]
def sX{a b:List D}(h:a.length+b.length<=1000000):Af (.lst a) (.lst b)=.ok (.lst (a++b)):=by
 show (if a.length+b.length<=LIM then Res.ok (D.lst (a++b)) else .bad)=_
 rw [iP (show a.length+b.length<=LIM from h)]
def wz{a b:List D}(h:a.length+b.length<=1000000):Af (.tup a) (.tup b)=.ok (.tup (a++b)):=by
 show (if a.length+b.length<=LIM then Res.ok (D.tup (a++b)) else .bad)=_
 rw [iP (show a.length+b.length<=LIM from h)]
def Ys(xs:List D)(i:Int):dIx (.lst xs) (.int i)=ofO (at_ xs i):=rfl
def zX(xs:List D):bLen [.lst xs]=.ok (.int xs.length):=rfl
def iw(xs:List D):bLen [.tup xs]=.ok (.int xs.length):=rfl
def zU(i:Int):bAbs [.int i]=.ok (.int i.natAbs):=by
 show Res.ok (D.int (if i<0 then -i else i))=_
 have:(if i<0 then -i else i)=(i.natAbs:Int):=by split<;>omega
 rw [this]
def v6(i j:Int):bMax [.int i,.int j]=.ok (.int (max i j)):=by
 show Res.ok (D.int (if j>i then j else i))=_
 have:(if j>i then j else i)=max i j:=by split<;>omega
 rw [this]
def vm{j:Int}(h0:-1000000000<=j)(h1:j<=1000000000):rng1 [.int j]=.ok (Eb 0 j.toNat):=by
 show (if -1000000000<=j/\j<=1000000000 then Res.ok (Eb 0 j.toNat) else .bad)=_
 rw [iP ⟨h0,h1⟩]
def cR{g:MG}{b:MS}(I:List D->Ev->Prop):∀(xs pre:List D),(∀p x r,xs=p++x::r->∀Z,I (pre++p) Z->∃Z1 Z2,g x Z=.ok Z1/\b Z1=.ok (.nx Z2)/\I (pre++p++[x]) Z2)->∀Z,I pre Z->∃Z',CG g b xs Z=.ok (.nx Z')/\I (pre++xs) Z'
 | [],pre,_,Z,i=>⟨Z,rfl,by rw [FJ];exact i⟩
 | x::r,pre,h,Z,i=>by
  obtain ⟨Z1,Z2,f,c,a⟩:=h [] x r rfl Z (by rw [FJ];exact i);rw [FJ] at a
  obtain ⟨Z',d,j⟩:=cR I r (pre++[x]) (λp y s e Z i=>by
   have z:=h (x::p) y s (by rw [e];rfl) Z (by simpa using i)
   simpa using z) Z2 a
  refine ⟨Z',?_,by simpa using j⟩;show (g x Z).bind (λZ1=>(b Z1).bind (turn (CG g b r)))=_;rw [f];show (b Z1).bind (turn (CG g b r))=_;rw [c];exact d
def lY(t:MB)(b:MS)(n:Nat)(Z:Ev):whGo t b (n+1) Z=(t Z).bind λx=>if x=true then (b Z).bind (turn (whGo t b n)) else .ok (.nx Z):=rfl
def WP(g:MG)(t:MB)(e:ME)(Z:Ev)(x:D)(r:List D):Bw g t e Z (x::r)=(g x Z).bind λZ1=>(t Z1).bind λb=>if b=true then (e Z1).bind λy=>(Bw g t e Z r).bind λys=>.ok (y::ys) else Bw g t e Z r:=rfl
def eU{g:MG}{e:ME}{Z:Ev}(P:D->D->Prop):∀xs:List D,(∀x∈xs,∃Z1 y,g x Z=.ok Z1/\e Z1=.ok y/\P x y)->∃ys,Bw g yes e Z xs=.ok ys/\ys.length=xs.length/\∀(i:Nat) x y,xs[i]?=some x->ys[i]?=some y->P x y
 | [],_=>⟨[],rfl,rfl,λi x y h=>by simp at h⟩
 | x::r,h=>by
  obtain ⟨Z1,y,l,j,m⟩:=h x Bf;obtain ⟨ys,f,n,q⟩:=eU P r λz k=>h z (Bp _ k);refine ⟨y::ys,?_,CP (·+1) n,λi a b c d=>?_⟩
  .rw [WP,l,K9];unfold yes at f ⊢;rw [K9,iP rfl,j,K9,f];rfl
  .cases i with
   | zero=>simp at c d;subst c d;exact m
   | succ i=>exact q i a b (by simpa using c) (by simpa using d)
def Tl{α:Type}(r:Res α)(U:α->Prop):Prop:=∃a,r=.ok a/\U a
section
variable{α β:Type}{U:α->Prop} {a b d:ME} {s t:MB}
def Ad{r:Res α}{x:α}(e:r=.ok x)(h:U x):Tl r U:=⟨x,e,h⟩
def Aw{x:α}(h:U x):Tl (.ok x) U:=⟨x,rfl,h⟩
def Av{r:Res β}{f:β->Res α}(h:Tl r λx=>Tl (f x) U):Tl (r.bind f) U:=by
 obtain ⟨x,rfl,y,e,q⟩:=h;exact ⟨y,e,q⟩
def Tl.mono{r:Res α}{Ψ:α->Prop}(h:Tl r Ψ)(k:∀x,Ψ x->U x):Tl r U:=by
 obtain ⟨x,e,q⟩:=h;exact ⟨x,e,k x q⟩
def Tl.eq{r:Res α}{x:α}(h:Tl r (·=x)):r=.ok x:=by
 obtain ⟨y,e,rfl⟩:=h;exact e
def U5{c:Bool}{A B:Res α}(hc:c=true)(h:Tl A U):Tl (if c=true then A else B) U:=by rw [iP hc];exact h
def Vq{c:Bool}{A B:Res α}(hc:c=false)(h:Tl B U):Tl (if c=true then A else B) U:=by rw [iN (by rw [hc];exact Ek)];exact h
def w_dT{P:Prop} [Decidable P] {A B:Res α} (hc:P) (h:Tl A U):Tl (if decide P=true then A else B) U:=U5 (Dj hc) h
def w_dF{P:Prop} [Decidable P] {A B:Res α} (hc:¬P) (h:Tl B U):Tl (if decide P=true then A else B) U:=Vq (Bl hc) h
def w_nT{P:Prop} [Decidable P] {A B:Res α} (hc:¬P) (h:Tl A U):Tl (if (!decide P)=true then A else B) U:=U5 (by rw [Bl hc];rfl) h
def w_nF{P:Prop} [Decidable P] {A B:Res α} (hc:P) (h:Tl B U):Tl (if (!decide P)=true then A else B) U:=Vq (by rw [Dj hc];rfl) h
def Ce{P:Prop} [Decidable P] {A B:Res α} (h1:P->Tl A U) (h2:¬P->Tl B U):Tl (if decide P=true then A else B) U:=by
 by_cases h:P
 .exact w_dT h (h1 h)
 .exact w_dF h (h2 h)
def qd{P:Prop} [Decidable P] {A B:Res α} (h1:¬P->Tl A U) (h2:P->Tl B U):Tl (if (!decide P)=true then A else B) U:=by
 by_cases h:P
 .exact w_nF h (h2 h)
 .exact w_nT h (h1 h)
end
section
variable{U:D->Prop} {a b d:ME} {s t:MB} {m:MA}
def w_v'(h:Tl (getC Z[i]?) U):Tl (v i Z) U:=h
def w_gC{o:Option Cl}{x:D}(e:o=some (.im x))(h:U x):Tl (getC o) U:=Ad (by rw [e];rfl) h
def w_c{x:D}(h:U x):Tl (c x Z) U:=Aw h
def w_o1{f:D->Res D}(h:Tl (a Z) λx=>Tl (f x) U):Tl (o1 f a Z) U:=Av h
def w_o2{f:D->D->Res D}(h:Tl (a Z) λx=>Tl (b Z) λy=>Tl (f x y) U):Tl (o2 f a b Z) U:=Av (h.mono λ_ q=>Av q)
def w_on{f:List D->Res D}(h:Tl (m Z) λxs=>Tl (f xs) U):Tl (on f m Z) U:=Av h
def yK(h:Tl (m Z) λxs=>U (.tup xs)):Tl (mtp m Z) U:=Av (h.mono λ_ q=>Aw q)
def jX(h:Tl (m Z) λxs=>U (.lst xs)):Tl (mls m Z) U:=Av (h.mono λ_ q=>Aw q)
def lq(h:Tl (trb a Z) λx=>Tl (if x=true then b Z else .ok (.bl false)) U):Tl (eAnd a b Z) U:=Av h
def ZuG(h:Tl (trb a Z) λx=>U (.bl (!x))):Tl (eNot a Z) U:=Av (h.mono λ_ q=>Aw q)
def lw(h:Tl (t Z) λx=>Tl (if x=true then a Z else b Z) U):Tl (ife t a b Z) U:=Av h
def Uo{lo hi:Ev->Res (Option Int)}(h:Tl (a Z) λx=>Tl (lo Z) λl=>Tl (hi Z) λu=>Tl (dCut x l u) U):Tl (cut a lo hi Z) U:=Av (h.mono λ_ q=>Av (q.mono λ_ q=>Av q))
def zG{it:MI}{own:Nat}{cap:List Nat}{g:MG}{e:ME}(h:Tl (it Z) λxs=>xs.length<=1000000/\Tl (Bw g t e (noA own (DQ Z cap)) xs) λys=>U (.lst ys)):Tl (comp it own cap g t e Z) U:=by
 refine Av (h.mono λxs q=>?_);rw [iP (show xs.length<=LIM from q.1)];obtain ⟨ys,b,a⟩:=q.2;rw [b];exact Aw a
def w_fn{k:MS}{ds:List D}(h:Tl (k (ev0 n ds)) λf=>Tl (endOf f) U):Tl (fn n k ds) U:=Av h
def jc{x y:Int}(h:U (.int (x+y))):Tl (Af (.int x) (.int y)) U:=Aw h
def FZ{x y:List D}(hl:x.length+y.length<=1000000)(h:U (.lst (x++y))):Tl (Af (.lst x) (.lst y)) U:=Ad (sX hl) h
def xg{x y:List D}(hl:x.length+y.length<=1000000)(h:U (.tup (x++y))):Tl (Af (.tup x) (.tup y)) U:=Ad (wz hl) h
def w_sub{x y:Int}(h:U (.int (x - y))):Tl (dSub (.int x) (.int y)) U:=Aw h
def w_mul{x y:Int}(hm:DX x y=true)(h:U (.int (x*y))):Tl (Bt (.int x) (.int y)) U:=Ad (ZqR hm) h
def w_mod{x y:Int}(hy:0<y)(h:U (.int (x%y))):Tl (Ao (.int x) (.int y)) U:=Ad (vD hy) h
def w_div{x y:Int}(hy:0<y)(hl:y.natAbs.log2<9000)(h:U (.int (x/y))):Tl (Be (.int x) (.int y)) U:=Ad (wR hy hl) h
def w_divN{x y:Int}(hy:y<0)(hl:y.natAbs.log2<9000)(h:U (.int (x.fdiv y))):Tl (Be (.int x) (.int y)) U:=Ad (zW hy hl) h
def w_pow{x y:Int}(h0:0<=y)(h1:y<=1000000)(h2:x.natAbs<2^64)(h:U (.int (x^y.toNat))):Tl (dPow (.int x) (.int y)) U:=Ad (nR h0 h1 h2) h
def w_shl{x y:Int}(h0:0<=y)(h1:y<=1000000)(h2:x.natAbs<2^64)(h:U (.int (x*2^y.toNat))):Tl (dShl (.int x) (.int y)) U:=Ad (mH h0 h1 h2) h
def w_shr{x y:Int}(h0:0<=y)(h:U (.int (x/2^y.toNat))):Tl (dShr (.int x) (.int y)) U:=Ad (wQ h0) h
def vX{x:Int}(h:U (.int (-x))):Tl (dNeg (.int x)) U:=Aw h
def w_lt{x y:Int}(h:U (.bl (decide (x<y)))):Tl (dLt (.int x) (.int y)) U:=Aw h
def w_le{x y:Int}(h:U (.bl (decide (x<=y)))):Tl (dLe (.int x) (.int y)) U:=Aw h
def w_gt{x y:Int}(h:U (.bl (decide (y<x)))):Tl (dGt (.int x) (.int y)) U:=Aw h
def w_ge{x y:Int}(h:U (.bl (decide (y<=x)))):Tl (dGe (.int x) (.int y)) U:=Aw h
def jQ{x y:Int}(h:U (.bl (decide (x=y)))):Tl (dEq (.int x) (.int y)) U:=Ad (rT x y) h
def yD{x y:Int}(h:U (.bl (!decide (x=y)))):Tl (dNe (.int x) (.int y)) U:=Ad (sJ x y) h
def ou{xs:List D}(h:U (.int xs.length)):Tl (bLen [.lst xs]) U:=Aw h
def xG{xs:List D}(h:U (.int xs.length)):Tl (bLen [.tup xs]) U:=Aw h
def qu{ns:List Int}(h:U (.int ns.length)):Tl (bLen [.tup (ns.map .int)]) U:=Ad (by rw [iw,Ax]) h
def ZrA{ns:List Int}(h:U (.int ns.length)):Tl (bLen [.lst (ns.map .int)]) U:=Ad (by rw [zX,Ax]) h
def nF{x:Int}(h:U (.int x.natAbs)):Tl (bAbs [.int x]) U:=Ad (zU x) h
def jH{x y:Int}(h:U (.int (max x y))):Tl (bMax [.int x,.int y]) U:=Ad (v6 x y) h
def ZtN{xs:List D}(h:U (.tup xs)):Tl (bTup [.lst xs]) U:=Aw h
def gC{xs:List D}(h:U (.lst xs)):Tl (bLst [.lst xs]) U:=Aw h
def ZtT{xs:List D}(h:U (.lst xs)):Tl (bLst [.tup xs]) U:=Aw h
def zL{xs:List D}{lo hi:Option Int}(h:U (.lst (cutL xs lo hi))):Tl (dCut (.lst xs) lo hi) U:=Aw h
def m8{xs:List D}{lo hi:Option Int}(h:U (.tup (cutL xs lo hi))):Tl (dCut (.tup xs) lo hi) U:=Aw h
end
section
variable{U:Bool->Prop} {a:ME} {s t:MB}
def uU(h:Tl (a Z) λx=>Tl (tru x) U):Tl (trb a Z) U:=Av h
def xr{b:Bool}(h:U b):Tl (tru (.bl b)) U:=Aw h
def wg(h:Tl (s Z) λx=>Tl (if x=true then t Z else .ok false) U):Tl (bAnd s t Z) U:=Av h
def xH(h:Tl (s Z) λx=>Tl (if x=true then .ok true else t Z) U):Tl (bOr s t Z) U:=Av h
def ji(h:Tl (s Z) λx=>U (!x)):Tl (bNot s Z) U:=Av (h.mono λ_ q=>Aw q)
def iJ(h:U true):Tl (yes Z) U:=Aw h
end
section
variable{U:List D->Prop} {a:ME} {m:MA}
def iK(h:U []):Tl (Ab Z) U:=Aw h
def oO(h:Tl (a Z) λx=>Tl (m Z) λxs=>U (x::xs)):Tl (Aa a m Z) U:=Av (h.mono λ_ q=>Av (q.mono λ_ q=>Aw q))
def w_iv(h:Tl (a Z) λx=>Tl (items x) U):Tl (iv a Z) U:=Av h
def jV{xs:List D}(h:U xs):Tl (items (.lst xs)) U:=Aw h
def yG{xs:List D}(h:U xs):Tl (items (.tup xs)) U:=Aw h
def w_r1(h:Tl (m Z) λxs=>Tl (rng1 xs) U):Tl (r1 m Z) U:=Av h
def Zte{j:Int}(h0:-1000000000<=j/\j<=1000000000)(h:U (Eb 0 j.toNat)):Tl (rng1 [.int j]) U:=Ad (vm h0.1 h0.2) h
def jw(h:Tl (m Z) λxs=>Tl (zip2 xs) U):Tl (iZip m Z) U:=Av h
def Zwm{xs ys:List D}(h:U (pairs xs ys)):Tl (zip2 [.lst xs,.lst ys]) U:=Aw h
def jR(h:Tl (m Z) λxs=>Tl (RJ xs) U):Tl (Us m Z) U:=Av h
def iH{xs:List D}(h:U (numbered 0 xs)):Tl (RJ [.lst xs]) U:=Aw h
def Ug{g:MG}{t:MB}{e:ME}(h:U []):Tl (Bw g t e Z []) U:=Aw h
def HN{g:MG}{t:MB}{e:ME}{x:D}{r:List D}(h:Tl (g x Z) λZ1=>Tl (t Z1) λb=>Tl (if b=true then (e Z1).bind λy=>(Bw g t e Z r).bind λys=>.ok (y::ys) else Bw g t e Z r) U):Tl (Bw g t e Z (x::r)) U :=
 Av (h.mono λ_ q=>Av q)
end
section
variable{U:Option Int->Prop} {a:ME}
def uR(h:U none):Tl (pno Z) U:=Aw h
def pL(h:Tl (a Z) λx=>Tl (optI x) U):Tl (pso a Z) U:=Av h
def qx{i:Int}(h:U (some i)):Tl (optI (.int i)) U:=Aw h
end
section
variable{U:Ev->Prop} {x:D}
def w_gN(h:U (Z.set i (.im x))):Tl (gN i x Z) U:=Aw h
def m9(h:U Z):Tl (gs0 [] Z) U:=Aw h
def gw{g:MG}{r:MGs}{ds:List D}(h:Tl (g x Z) λZ'=>Tl (r ds Z') U):Tl (gs1 g r (x::ds) Z) U:=Av h
def zP{g:MGs}{xs:List D}(hl:xs.length=n)(h:Tl (g xs Z) U):Tl (gU n g (.lst xs) Z) U:=by
 show Tl (if xs.length=n then g xs Z else .bad) U
 rw [iP hl];exact h
def ZwC{g:MGs}{xs:List D}(hl:xs.length=n)(h:Tl (g xs Z) U):Tl (gU n g (.tup xs) Z) U:=by
 show Tl (if xs.length=n then g xs Z else .bad) U
 rw [iP hl];exact h
end
section
variable{U:Fl->Prop} {a b:ME} {k l:MS} {t:MB}
def w_sq(h:Tl (k Z) λf=>Tl (goOn l f) U):Tl (sq k l Z) U:=Av h
def w_gx(h:Tl (l Z) U):Tl (goOn l (.nx Z)) U:=h
def w_gr{x:D}(h:U (.rt x)):Tl (goOn l (.rt x)) U:=Aw h
def w_st(h:Tl (a Z) λx=>U (.nx (Z.set i (.im x)))):Tl (st i a Z) U:=Av (h.mono λ_ q=>Aw q)
def pA(h:Tl (a Z) λx=>U (.rt x)):Tl (ret a Z) U:=Av (h.mono λ_ q=>Aw q)
def uH(h:U (.nx Z)):Tl (nop Z) U:=Aw h
def zA(h:Tl (a Z) λ_=>U (.nx Z)):Tl (drp a Z) U:=Av (h.mono λ_ q=>Aw q)
def t6{g:MG}(h:Tl (a Z) λx=>Tl (g x Z) λZ'=>U (.nx Z')):Tl (asg g a Z) U:=Av (h.mono λ_ q=>Av (q.mono λ_ q=>Aw q))
def ZwV(h:Tl (t Z) λx=>Tl (if x=true then k Z else l Z) U):Tl (ifs t k l Z) U:=Av h
def qg{it:MI}{g:MG}(h:Tl (it Z) λxs=>Tl (CG g k xs Z) U):Tl (for_ it g k Z) U:=Av h
def jC{fu:Ev->Nat}(h:Tl (whGo t k (fu Z) Z) U):Tl (whl fu t k Z) U:=h
def je(h:Tl (a Z) λx=>Tl (lstO x) λxs=>U (.nx (Z.set i (.ow xs)))):Tl (stO i a Z) U:=Av (h.mono λ_ q=>Av (q.mono λ_ q=>Aw q))
def ZvE{Ψ:List D->Prop}{xs:List D}(h:Ψ xs):Tl (lstO (.lst xs)) Ψ:=Aw h
def yR(h:Tl (getO Z[i]?) λxs=>Tl (k (Z.set i (.im (.lst xs)))) U):Tl (frz i k Z) U:=Av h
def oX(h:Tl (getO Z[i]?) λxs=>Tl (a Z) λd=>xs.length<1000000/\U (.nx (Z.set i (.ow (xs++[d]))))):Tl (app i a Z) U:=by
 refine Av (h.mono λxs q=>Av (q.mono λd q=>?_));rw [iP (show xs.length<LIM from q.1)];exact Aw q.2
def w_gO{Ψ:List D->Prop}{o:Option Cl}{xs:List D}(e:o=some (.ow xs))(h:Ψ xs):Tl (getO o) Ψ:=Ad (by rw [e];rfl) h
def w_eR{Ψ:D->Prop}{x:D}(h:Ψ x):Tl (endOf (.rt x)) Ψ:=Aw h
def w_eN{Ψ:D->Prop}(h:Ψ .non):Tl (endOf (.nx Z)) Ψ:=Aw h
def w_tx(h:Tl (k Z) U):Tl (turn k (.nx Z)) U:=h
def w_f0{g:MG}(h:U (.nx Z)):Tl (CG g k [] Z) U:=Aw h
def w_f1{g:MG}{x:D}{r:List D}(h:Tl (g x Z) λZ1=>Tl (k Z1) λf=>Tl (turn (CG g k r) f) U):Tl (CG g k (x::r) Z) U:=Av (h.mono λ_ q=>Av q)
def Oe{g:MG}{xs:List D}(I:List D->Ev->Prop)(h0:I [] Z)(h:∀p x r,xs=p++x::r->∀Z,I p Z->Tl (g x Z) λZ1=>Tl (k Z1) λf=>∃Z2,f=.nx Z2/\I (p++[x]) Z2)(hd:∀Z,I xs Z->U (.nx Z)):Tl (CG g k xs Z) U:=by
 obtain ⟨c,e,i⟩:=cR (g:=g) (b:=k) I xs [] (λp x r j Z i=>by
  obtain ⟨Z1,l,f,d,Z2,rfl,a⟩:=h p x r j Z i
  exact ⟨Z1,Z2,l,d,a⟩) Z h0
 exact ⟨_,e,hd c i⟩
def w_wh{n:Nat}(I:Ev->Prop)(μ:Ev->Nat)(h0:I Z)(hm:μ Z<n)(h:∀Z,I Z->Tl (t Z) λb=>(b=true->Tl (k Z) λf=>∃Z2,f=.nx Z2/\I Z2/\μ Z2<μ Z)/\(b=false->U (.nx Z))):Tl (whGo t k n Z) U:=by
 induction n generalizing Z with
 | zero=>exact aB hm (Nat.not_lt_zero _)
 | succ n ih=>
  rw [lY];obtain ⟨b,e,q⟩:=h Z h0;rw [e];cases b with
  | true=>
   obtain ⟨f,c,Z2,rfl,a,d⟩:=q.1 rfl;show Tl ((k Z).bind (turn (whGo t k n))) U;rw [c];exact ih a (by omega)
  | false=>exact Aw (q.2 rfl)
def Sw:∀{ns ms:List Int},ns.map D.int=ms.map D.int->ns=ms
 | [],[],_=>rfl
 | [],_::_,h=>by cases h
 | _::_,[],h=>by cases h
 | n::r,m::s,h=>by
  have a:D.int n=D.int m/\r.map D.int=s.map D.int:=by simpa using h
  rw [Sw a.2];cases a.1;rfl
end
def CW{α:Type}{U:List D->Prop}{g:MG}{e:ME}{Z:Ev}{enc:α->D}(f:α->D):∀{l:List α},(∀a∈l,Tl (g (enc a) Z) λZ1=>Tl (e Z1) λy=>y=f a)->U (l.map f)->Tl (Bw g yes e Z (l.map enc)) U:=by
 intro l h q;have c:∀l:List α,(∀a∈l,Tl (g (enc a) Z) λZ1=>Tl (e Z1) λy=>y=f a)->Bw g yes e Z (l.map enc)=.ok (l.map f):=by
  intro l
  induction l with
  | nil=>exact λ_=>rfl
  | cons a r ih=>
   intro h;obtain ⟨Z1,d,y,j,rfl⟩:=h a Bf;have z:=ih λb i=>h b (Bp _ i);rw [Bg,WP,d,K9];unfold yes at z ⊢;rw [K9,iP rfl,j,K9,z];rfl
 exact Ad (c l h) q
def w_all{U:List D->Prop}{g:MG}{e:ME}{Z:Ev}{xs:List D}(P:D->D->Prop)(h:∀x∈xs,Tl (g x Z) λZ1=>Tl (e Z1) λy=>P x y)(q:∀ys:List D,ys.length=xs.length->(∀(i:Nat) x y,xs[i]?=some x->ys[i]?=some y->P x y)->U ys):Tl (Bw g yes e Z xs) U:=by
 obtain ⟨ys,b,l,a⟩:=eU (g:=g) (e:=e) (Z:=Z) P xs λx d=>by
  obtain ⟨Z1,b,y,c,a⟩:=h x d;exact ⟨Z1,y,b,c,a⟩
 exact ⟨ys,b,q ys l a⟩
section
variable{U:D->Prop}
def yg{x y:D}(h:Tl (dIx x y) U):Tl (dIx x y) U:=h
def uP{xs:List D}(h:Tl (bLen xs) U):Tl (bLen xs) U:=h
def zF{xs:List D}(h:Tl (bIsi xs) U):Tl (bIsi xs) U:=h
def yS{α:Type}{xs:List α}{i:Nat}:at_ xs (i:Int)=xs[i]?:=by
 unfold at_;rw [iP (Int.natCast_nonneg i),Fz]
def Gv{xs:List D}{i:Int}(h:0<=i/\i<xs.length)(q:∀x∈xs,U x):Tl (dIx (.lst xs) (.int i)) U:=by
 obtain ⟨n,rfl⟩:=Int.eq_ofNat_of_zero_le h.1;have a:n<xs.length:=by omega
 rw [Ys,yS,Bk a];exact Aw (q _ (Hz a))
def Ob{ns:List Int}{i:Int}(h:-(ns.length:Int)<=i/\i<ns.length)(q:∀n∈ns,U (.int n)):Tl (dIx (.lst (ns.map .int)) (.int i)) U:=by
 rw [Ys];unfold at_;rw [Ax];by_cases h0:0<=i
 .have a:i.toNat<ns.length:=by omega
  rw [iP h0,Cz,Bk a];exact Aw (q _ (Hz a))
 .have a:(i+ns.length).toNat<ns.length:=by omega
  rw [iN h0,iP h.1,Cz,Bk a];exact Aw (q _ (Hz a))
end
def aO:∀(ns ms:List Int),pairs (ns.map .int) (ms.map .int)=(ns.zip ms).map λp=>.tup [.int p.1,.int p.2]
 | [],_=>by simp [pairs]
 | _::_,[]=>by simp [pairs]
 | n::r,m::s=>by simp [pairs,aO r s]
def Lk(i:Nat)(Z:Ev):Nat:=((Z[i]?).map absC).getD 0
def T3:∀(Z:Ev) (i:Nat),Lk i Z<fuel Z
 | [],i=>by simp [Lk,fuel]
 | c::r,0=>by simp [Lk,fuel];omega
 | c::r,i+1=>by
  have:=T3 r i;simp [Lk,fuel] at this ⊢;omega
def mem_range{n:Nat}{x:D}(h:x∈Eb 0 n):∃k:Nat,k<n/\x=.int k:=by
 unfold Eb at h;obtain ⟨k,a,rfl⟩:=BZ.mp h;exact ⟨k,Ex.mp a,by rw [Int.zero_add]⟩
def QG{U:D->Prop}{ys:List D}(h:∀y∈ys,y=.bl true)(q:U (.bl true)):Tl (bAll [.lst ys]) U:=by
 have b:∀ys:List D,(∀y∈ys,y=.bl true)->∃a,bools ys=.ok a/\a.all id=true:=by
  intro ys
  induction ys with
  | nil=>exact λ_=>⟨[],rfl,rfl⟩
  | cons y r ih=>
   intro h;obtain ⟨a,c,d⟩:=ih λz e=>h z (Bp _ e);obtain rfl:=h y Bf;exact ⟨true::a,by show (bools r).bind _=_;rw [c];rfl,by simpa using d⟩
 obtain ⟨a,c,d⟩:=b ys h;refine Ad (x:=.bl true) ?_ q;show (bools ys).bind (λa=>Res.ok (D.bl (a.all id)))=_;rw [c];show Res.ok (D.bl (a.all id))=_;rw [d]
section
variable{U:D->Prop}
def w_pk{m:ME}(h:Tl (getO Z[i]?) λxs=>Tl (m (Z.set i (.im (.lst xs)))) λd=>Tl (JT d) U):Tl (pk i m Z) U:=Av (h.mono λ_ q=>Av q)
def yj{Ψ:Bool->Prop}{m:MB}(h:Tl (getO Z[i]?) λxs=>Tl (m (Z.set i (.im (.lst xs)))) Ψ):Tl (pkB i m Z) Ψ:=Av h
def vJ{x:D}{ys:List D}(h1:plain 50 x=true)(h2:Bc 50 ys=true)(h:U (.bl (!inD x ys))):Tl (dNin x (.lst ys)) U:=by
 refine Ad (x:=.bl (!inD x ys)) ?_ h;show (if (plain 50 x&&Bc 50 ys)=true then Res.ok (D.bl (!inD x ys)) else .bad)=_
 rw [h1,h2];rfl
end
end Dl
namespace Dl
section
variable{U:D->Prop}
def w_p6(h:U (.int 1000000)):Tl (dPow (.int 10) (.int 6)) U:=Ad rfl h
end
end Dl
namespace Dl
section
variable{Ψ:List D->Prop}{U:D->Prop} {m:MA} {xs ys zs:List D} {a b:ME}
def yW{f:List D->D->Res D}(h:Tl (a Z) λx=>Tl (lstO x) λus=>Tl (b Z) λy=>Tl (f us y) U):Tl (mLst f a b Z) U:=Av (h.mono λ_ q=>Av (q.mono λ_ q=>Av q))
end
end Dl
namespace Mt
def gcdL(g:Nat):List Int->Nat
 | []=>g
 | x::r=>gcdL (Nat.gcd g x.natAbs) r
def cC(a b:Nat):Nat.gcd b (a%b)=Nat.gcd a b:=by
 rw [Nat.gcd_comm a b,Nat.gcd_rec b a,Nat.gcd_comm]
def W3(t b:Int):gcdL 0 [t,b]=Int.gcd t b:=by
 show Nat.gcd (Nat.gcd 0 t.natAbs) b.natAbs=_;rw [Nat.gcd_zero_left];rfl
def frT(t b:Int):Int:=if b<0 then t.fdiv (-(Int.gcd t b:Int)) else t.fdiv (Int.gcd t b:Int)
def frB(t b:Int):Int:=if b<0 then b.fdiv (-(Int.gcd t b:Int)) else b.fdiv (Int.gcd t b:Int)
def Ul{t b:Int}(h:b≠0):0<Int.gcd t b:=Int.gcd_pos_of_ne_zero_right t h
def Qa{a d q:Int}(h:a=d*q)(hd:d≠0):a.fdiv d=q:=by
 subst h;exact Int.mul_fdiv_cancel_left q hd
structure Fr(t b p q:Int):Prop where
 pos:1<=q
 low:Int.gcd p q=1
 same:p*b=t*q
 np:p.natAbs<=t.natAbs
 nq:q.natAbs<=b.natAbs
def jy{t b:Int}(h:b≠0):Fr t b (frT t b) (frB t b):=by
 have l:=Ul (t:=t) h;obtain ⟨p,i⟩:=Int.gcd_dvd_left t b;obtain ⟨q,f⟩:=Int.gcd_dvd_right t b;have k:(0:Int)<(Int.gcd t b:Int):=Int.natCast_pos.mpr l;have d:Int.gcd p q=1:=by
  have e:Int.gcd ((Int.gcd t b:Int)*p) ((Int.gcd t b:Int)*q)=Int.gcd t b*Int.gcd p q:=by
   rw [Int.gcd_mul_left,EY]
  rw [<-i,<-f] at e;have n:Int.gcd t b*Int.gcd p q=Int.gcd t b*1:=by rw [Nat.mul_one];exact e.symm
  exact Nat.eq_of_mul_eq_mul_left l n
 unfold frT frB;generalize Int.gcd t b=g at *;have a:∀{x y:Int},x=(g:Int)*y->y.natAbs<=x.natAbs:=λ{x y} e=>by
  rw [e,JQ,EY];exact Nat.le_mul_of_pos_left _ l
 have c:p*b=t*q:=by
  rw [f,i,Int.mul_left_comm,Int.mul_assoc]
 have j:-(g:Int)≠0:=by omega
 by_cases hb:b<0
 .rw [iP hb,iP hb,Qa (q:=-p) (by rw [Int.neg_mul_neg];exact i) j,Qa (q:=-q) (by rw [Int.neg_mul_neg];exact f) j];have m:q<0:=by
   rcases Int.lt_or_le q 0 with z | z
   .exact z
   .have o:0<=(g:Int)*q:=Int.mul_nonneg (Int.le_of_lt k) z;omega
  exact ⟨by omega,by rw [Int.gcd_neg,Int.neg_gcd];exact d,by rw [Int.neg_mul,Int.mul_neg,c],by rw [Int.natAbs_neg];exact a i,by rw [Int.natAbs_neg];exact a f⟩
 .rw [iN hb,iN hb,Qa (q:=p) i (Int.ne_of_gt k),Qa (q:=q) f (Int.ne_of_gt k)];have m:1<=q:=by
   rcases Int.lt_or_le 0 q with z | z
   .exact z
   .have o:(g:Int)*q<=0:=Int.mul_nonpos_of_nonneg_of_nonpos (Int.le_of_lt k) z;omega
  exact ⟨m,d,c,a i,a f⟩
def o5{p q r s:Int}(h1:1<=q)(h2:Int.gcd p q=1)(h3:1<=s)(h4:Int.gcd r s=1)(e:p*s=r*q):p=r/\q=s:=by
 have b:q∣s:=by
  have z:q∣p*s:=⟨r,by rw [e,Int.mul_comm]⟩;have a:q.natAbs∣p.natAbs*s.natAbs:=by rw [<-JQ];exact M5.mpr z
  exact M5.mp (Nat.Coprime.dvd_of_dvd_mul_left (k:=q.natAbs) (m:=p.natAbs) (by show Nat.gcd _ _=1;rw [Nat.gcd_comm];exact h2) a)
 have c:s∣q:=by
  have z:s∣r*q:=⟨p,by rw [<-e,Int.mul_comm]⟩;have a:s.natAbs∣r.natAbs*q.natAbs:=by rw [<-JQ];exact M5.mpr z
  exact M5.mp (Nat.Coprime.dvd_of_dvd_mul_left (k:=s.natAbs) (m:=r.natAbs) (by show Nat.gcd _ _=1;rw [Nat.gcd_comm];exact h4) a)
 have d:q=s:=Int.le_antisymm (Int.le_of_dvd (by omega) b) (Int.le_of_dvd (by omega) c);subst d;exact ⟨Int.eq_of_mul_eq_mul_right (by omega) e,rfl⟩
def aQ{a d:Int}(h:0<d):(a.fdiv d).natAbs<=a.natAbs:=by
 rw [Int.fdiv_eq_ediv_of_nonneg a (Int.le_of_lt h)];have e:=Int.emod_add_mul_ediv a d;have f:=Ja a (Int.ne_of_gt h);have g:=Jk a h;rcases Int.lt_or_le a 0 with z | z
 .have c:a/d<0:=Int.ediv_neg_of_neg_of_pos z h;have:a<=a/d:=by
   have i:a=a%d+d*(a/d):=e.symm;have:d*(a/d)<=1*(a/d):=Int.mul_le_mul_of_nonpos_right (by omega) (by omega);rcases Int.lt_or_le a (a/d+1) with z | z
   .omega
   .exfalso;have b:(d - 1)*(a/d)<=(d - 1)*(-1):=Vm (by omega) (by omega);rw [Int.sub_mul] at b;omega
  omega
 .have c:0<=a/d:=Int.ediv_nonneg z (Int.le_of_lt h);have:a/d<=a:=Int.ediv_le_self d z;omega
end Mt
end
end
local macro_rules|`(tactic|ac_rfl)=>`(tactic|first|lia|omega)
local macro_rules | `(tactic| walk_at "sm")=>`(tactic| first | assumption | exact Dl.Sm.of64 (by ac_rfl) (by ac_rfl) | exact Dl.Sm.mul (by walk_at "sm") (by walk_at "sm") | exact Dl.Sm.add (by walk_at "sm") (by walk_at "sm") | exact Dl.Sm.sub (by walk_at "sm") (by walk_at "sm") | exact Dl.Sm.neg (by walk_at "sm") | exact Dl.Sm.min (by walk_at "sm") (by walk_at "sm") | exact Dl.Sm.max (by walk_at "sm") (by walk_at "sm"))
local macro_rules | `(tactic| walk_at "mo")=>`(tactic| first | assumption | exact Dl.xn (Dl.Sm.of64 (by ac_rfl) (by ac_rfl)) | exact Dl.uW (Dl.Sm.of64 (by ac_rfl) (by ac_rfl)) | exact Dl.Jm (by walk_at "sm") (by walk_at "sm") (by decide))
local macro_rules | `(tactic| walk_at "lg")=>`(tactic| first | assumption | decide | exact Dl.Sm.log (by walk_at "sm") (by decide))
local macro_rules | `(tactic| walk_at "w1")=>`(tactic| first
 | ((with_reducible refine Dl.w_v' ?_);refine Dl.w_gC rfl ?_) |(with_reducible first |refine Dl.w_o2 ?_ |refine Dl.w_c ?_ |refine Dl.w_on ?_ |refine Dl.oO ?_ |refine Dl.iK ?_ |refine Dl.w_sq ?_ |refine Dl.w_gx ?_ |refine Dl.w_st ?_ |refine Dl.ZwV ?_ |refine Dl.uU ?_ |refine Dl.xr ?_) 
 | with_reducible refine Dl.jc ?_ | with_reducible refine Dl.w_sub ?_ | ((with_reducible refine Dl.w_mul ?_ ?_);walk_at "mo") | ((with_reducible refine Dl.w_mod ?_ ?_);(first | decide | ac_rfl)) | ((with_reducible refine Dl.w_div ?_ ?_ ?_);(first | decide | ac_rfl);walk_at "lg")
 |(with_reducible first |refine Dl.w_lt ?_ |refine Dl.w_le ?_ |refine Dl.w_gt ?_ |refine Dl.w_ge ?_ |refine Dl.jQ ?_ |refine Dl.yD ?_ |refine Dl.wg ?_ |refine Dl.xH ?_ |refine Dl.ji ?_) 
 |(with_reducible first |refine Dl.pA ?_ |refine Dl.w_gr ?_ |refine Dl.w_eR ?_ |refine Dl.uH ?_ |refine Dl.yK ?_ |refine Dl.jX ?_ |refine Dl.w_fn ?_ |refine Dl.w_o1 ?_ |refine Dl.lq ?_ |refine Dl.w_eOr ?_ |refine Dl.ZuG ?_ |refine Dl.lw ?_ |refine Dl.w_chain ?_) 
 |(with_reducible first |refine Dl.qu ?_ |refine Dl.ZrA ?_ |refine Dl.ou ?_ |refine Dl.xG ?_ |refine Dl.nF ?_ |refine Dl.jH ?_ |refine Dl.w_min ?_ |refine Dl.ZtN ?_ |refine Dl.w_tupT ?_ |refine Dl.gC ?_ |refine Dl.ZtT ?_ |refine Dl.vX ?_) 
 |(with_reducible first |refine Dl.Uo ?_ |refine Dl.uR ?_ |refine Dl.pL ?_ |refine Dl.qx ?_ |refine Dl.zL ?_ |refine Dl.m8 ?_ |refine Dl.w_iv ?_ |refine Dl.jV ?_ |refine Dl.yG ?_ |refine Dl.w_r1 ?_) | ((with_reducible refine Dl.Zte ?_ ?_);ac_rfl) |(with_reducible first |refine Dl.w_gN ?_ |refine Dl.m9 ?_ |refine Dl.gw ?_) 
 | ((with_reducible refine Dl.ZwC ?_ ?_);exact rfl) | ((with_reducible refine Dl.zP ?_ ?_);exact rfl) |(with_reducible first |refine Dl.zA ?_ |refine Dl.t6 ?_ |refine Dl.w_par ?_ |refine Dl.qg ?_ |refine Dl.jC ?_ |refine Dl.jw ?_ |refine Dl.Zwm ?_ |refine Dl.w_zipTL ?_ |refine Dl.w_zipLT ?_ |refine Dl.w_zipTT ?_ |refine Dl.w_iz3 ?_ |refine Dl.w_zip3T ?_ |refine Dl.w_lz3T ?_ |refine Dl.yW ?_ |refine Dl.jR ?_ |refine Dl.iH ?_ |refine Dl.zG ?_) 
 |(with_reducible first |refine Dl.w_retN ?_ |refine Dl.w_eN ?_ |refine Dl.w_brk ?_ |refine Dl.w_cnt ?_ |refine Dl.w_gb ?_ |refine Dl.w_gc ?_ |refine Dl.w_isN ?_ |refine Dl.w_notN ?_ |refine Dl.w_p6 ?_ |refine Dl.w_p8 ?_ |refine Dl.w_p20 ?_) | ((with_reducible refine Dl.w_pow ?_ ?_ ?_ ?_);decide;decide;decide) | ((with_reducible refine Dl.w_shl ?_ ?_ ?_ ?_);decide;decide;decide) | ((with_reducible refine Dl.w_shr ?_ ?_);ac_rfl) | with_reducible refine Dl.iJ ?_
 |(with_reducible first |refine Dl.w_tx ?_ |refine Dl.w_tc ?_ |refine Dl.w_tb ?_ |refine Dl.w_tr ?_ |refine Dl.w_max3 ?_ |refine Dl.w_sum ?_ |refine Dl.w_rev ?_) | ((with_reducible refine Dl.yj ?_);refine Dl.w_gO rfl ?_) | ((with_reducible refine Dl.w_pk ?_);refine Dl.w_gO rfl ?_) |(with_reducible first |refine Dl.w_scI ?_ |refine Dl.w_scB ?_ |refine Dl.w_endT ?_ |refine Dl.je ?_ |refine Dl.ZvE ?_) | ((with_reducible refine Dl.yR ?_);refine Dl.w_gO rfl ?_) | ((with_reducible refine Dl.oX ?_);refine Dl.w_gO rfl ?_) | ((with_reducible refine Dl.yg ?_);refine Dl.Ad rfl ?_) | ((with_reducible refine Dl.zF ?_);refine Dl.Ad rfl ?_) | ((with_reducible refine Dl.uP ?_);refine Dl.Ad rfl ?_) | with_reducible refine Dl.Aw ?_ | with_reducible refine Dl.Av ?_)
local macro_rules | `(tactic| walk_at "wi")=>`(tactic| first | ((with_reducible refine Dl.U5 ?_ ?_);exact rfl) | ((with_reducible refine Dl.Vq ?_ ?_);exact rfl) | ((with_reducible refine Dl.w_dT ?_ ?_);first | assumption | ac_rfl) | ((with_reducible refine Dl.w_dF ?_ ?_);first | assumption | ac_rfl) | ((with_reducible refine Dl.w_nT ?_ ?_);first | assumption | ac_rfl) | ((with_reducible refine Dl.w_nF ?_ ?_);first | assumption | ac_rfl))
local macro_rules | `(tactic| walk_at "wr")=>`(tactic| (refine Dl.Ad rfl ?_))
local macro_rules | `(tactic| walk_at "w")=>`(tactic| (repeat (first | walk_at "w1" | walk_at "wi"));try dsimp only [List.set_cons_zero,List.set_cons_succ,Dl.ev0,Dl.evF,Dl.noA,Dl.DQ,Dl.imOf,List.getElem?_cons_zero,List.getElem?_cons_succ,Nat.reduceAdd,Nat.reduceSub])
local macro_rules | `(tactic| symm)=>`(tactic| walk_at "w")
namespace My
open PySem Dl
def objs:List Str:=["Plain","Shaded","Patterned","Glass"]
def QM:List D->Res D:=fn 2
  (for_ (iv (v 0)) (gN 1)
  (ifs (trb (o2 dLe (o2 dIx (v 1) (c (.int 2))) (c (.int 0))))
  badS
  nop))
def Gm:List D->Res D:=fn 1
  (ret (eAnd (on bIsi (Aa (v 0) (Aa (c (.ty "int")) Ab))) (eNot (on bIsi (Aa (v 0) (Aa (c (.ty "bool")) Ab))))))
def QS:List D->Res D:=fn 1
  (sq (ifs (bOr (bNot (trb (on bIsi (Aa (v 0) (Aa (c (.ty "tuple")) Ab))))) (trb (o2 dGt (on bLen (Aa (v 0) Ab)) (c (.int 3)))))
  (ret (c (.bl false)))
  nop)
  (ret (on bAll (Aa (comp (iv (v 0)) 1 [] (gN 0) yes (on Gm (Aa (v 0) Ab))) Ab))))
def Pz:List D->Res D:=fn 1
  (sq (ifs (bOr (bNot (trb (on bIsi (Aa (v 0) (Aa (c (.ty "tuple")) Ab))))) (trb (o2 dNe (on bLen (Aa (v 0) Ab)) (c (.int 5)))))
  (ret (c (.bl false)))
  nop)
  (sq (ifs (bNot (trb (on bAll (Aa (comp (iv (cut (v 0) pno (pso (c (.int 4))))) 1 [] (gN 0) yes (on Gm (Aa (v 0) Ab))) Ab))))
  (ret (c (.bl false)))
  nop)
  (ret (eAnd (o2 dGe (o2 dIx (v 0) (c (.int 3))) (c (.int 1))) (on QS (Aa (o2 dIx (v 0) (c (.int 4))) Ab))))))
def QT:List D->Res D:=fn 2
  (sq (ifs (bOr (bNot (trb (on bIsi (Aa (v 0) (Aa (c (.ty "tuple")) Ab))))) (trb (o2 dNe (on bLen (Aa (v 0) Ab)) (c (.int 3)))))
  badS
  nop)
  (for_ (iv (v 0)) (gN 1)
  (sq (ifs (bNot (trb (on Pz (Aa (v 1) Ab))))
  badS
  nop)
  (ifs (trb (o2 dNe (on bLen (Aa (o2 dIx (v 1) (c (.int 4))) Ab)) (on bLen (Aa (o2 dIx (o2 dIx (v 0) (c (.int 0))) (c (.int 4))) Ab))))
  badS
  nop))))
def H9:List D->Fs->Res Fs:=fnI 2
  (iDrp (on QT (Aa (v 1) Ab))
  (iDrp (on QM (Aa (v 1) Ab))
  (iSet "triangle" (v 1)
  iEnd)))
def Ht:List D->Res D:=fn 5
  (sq (st 1 (c (.int 0)))
  (sq (for_ (iv (v 0)) (gN 2)
  (sq (st 3 (on bAbs (Aa (v 2) Ab)))
  (whl fuel (trb (o2 dNe (v 3) (c (.int 0))))
  (sq (st 4 (o2 Ao (v 1) (v 3)))
  (sq (st 1 (v 3))
  (st 3 (v 4)))))))
  (ret (v 1))))
def Jj:List D->Res D:=fn 1
  (sq (ifs (bOr (bNot (trb (on bIsi (Aa (v 0) (Aa (c (.ty "tuple")) Ab))))) (trb (o2 dNe (on bLen (Aa (v 0) Ab)) (c (.int 2)))))
  (ret (c (.bl false)))
  nop)
  (sq (ifs (bOr (bNot (trb (on Gm (Aa (o2 dIx (v 0) (c (.int 0))) Ab)))) (bNot (trb (on Gm (Aa (o2 dIx (v 0) (c (.int 1))) Ab)))))
  (ret (c (.bl false)))
  nop)
  (ret (eAnd (o2 dGe (o2 dIx (v 0) (c (.int 1))) (c (.int 1))) (o2 dEq (on Ht (Aa (v 0) Ab)) (c (.int 1)))))))
def M4:List D->Res D:=fn 1
  (ifs (bNot (trb (on Jj (Aa (v 0) Ab))))
  badS
  nop)
def HQ:List D->Fs->Res Fs:=fnI 3
  (iSup H9 (Aa (v 1) Ab)
  (iDrp (on M4 (Aa (v 2) Ab))
  (iSet "colour" (v 2)
  iEnd)))
def Ig:List D->Res D:=fn 2
  (sq (ifs (trb (o2 dLt (v 1) (on bLen (Aa (v 0) Ab))))
  (ret (o2 dIx (v 0) (v 1)))
  nop)
  (ret (c (.int 0))))
def Ot:List D->Res D:=fn 3
  (sq (ifs (bAnd (trb (o2 dGe (v 0) (o2 dShl (c (.int 1)) (c (.int 90))))) (bAnd (trb (o2 dEq (o2 Ao (v 0) (c (.int 2))) (c (.int 1)))) (trb (o2 dGt (o2 dShr (v 0) (o2 Af (c (.int 1)) (o2 Bt (c (.int 31)) (v 1)))) (c (.int 0))))))
  (ret (o2 Ao (o2 dShr (v 0) (o2 Af (c (.int 1)) (o2 Bt (c (.int 31)) (v 1)))) (c (.int 2147483648))))
  nop)
  (sq (st 2 (o2 Ao (o2 Bt (o2 Af (o2 Af (v 0) (o2 Bt (c (.int 7919)) (v 1))) (c (.int 1))) (c (.int 48271))) (c (.int 2147483647))))
  (sq (st 2 (o2 Ao (o2 Bt (v 2) (o2 Af (o2 Be (v 2) (c (.int 1009))) (c (.int 69621)))) (c (.int 2147483647))))
  (ret (o2 Ao (o2 Bt (v 2) (o2 Af (o2 Af (o2 Be (v 2) (c (.int 2003))) (c (.int 39373))) (v 1))) (c (.int 2147483629)))))))
def Ia:List D->Res D:=fn 2
  (ret (comp (r1 (Aa (v 1) Ab)) 1 [0] (gN 0) yes (on Ot (Aa (v 1) (Aa (v 0) Ab)))))
def Ly:List D->Res D:=fn 1
  (ret (c (.str "glass")))
def Kw:List D->Res D:=fn 1
  (ret (c (.str "patterned")))
def Ku:List D->Res D:=fn 1
  (ret (c (.str "plain")))
def Kv:List D->Res D:=fn 1
  (ret (c (.str "shaded")))
def J9:List (Str×(List D->Res D)):=[("Plain",Ku),("Shaded",Kv),("Patterned",Kw),("Glass",Ly)]
def Rc:List D->Res D:=fn 1
  (ifs (bOr (bNot (trb (on Jj (Aa (v 0) Ab)))) (bOr (trb (o2 dLt (o2 dIx (v 0) (c (.int 0))) (c (.int 0)))) (trb (o2 dGt (o2 dIx (v 0) (c (.int 0))) (o2 dIx (v 0) (c (.int 1)))))))
  badS
  nop)
def H7:List D->Fs->Res Fs:=fnI 4
  (iSup H9 (Aa (v 1) Ab)
  (iDrp (on M4 (Aa (v 2) Ab))
  (iDrp (on Rc (Aa (v 3) Ab))
  (iSet "colour" (v 2)
  (iSet "part" (v 3)
  iEnd)))))
def M8:List D->Res D:=fn 2
  (sq (ifs (bOr (bNot (trb (on bIsi (Aa (v 0) (Aa (c (.ty "list")) Ab))))) (trb (o2 dNin (on bLen (Aa (v 0) Ab)) (c (.tup [.int 1,.int 2,.int 4,.int 8,.int 16])))))
  badS
  nop)
  (for_ (iv (v 0)) (gN 1)
  (sq (ifs (bOr (bNot (trb (on bIsi (Aa (v 1) (Aa (c (.ty "list")) Ab))))) (trb (o2 dNin (on bLen (Aa (v 1) Ab)) (c (.tup [.int 1,.int 2,.int 4,.int 8,.int 16])))))
  badS
  nop)
  (sq (ifs (trb (o2 dNe (on bLen (Aa (v 1) Ab)) (on bLen (Aa (o2 dIx (v 0) (c (.int 0))) Ab))))
  badS
  nop)
  (ifs (bNot (trb (on bAll (Aa (comp (iv (v 1)) 1 [] (gN 0) yes (on Jj (Aa (v 0) Ab))) Ab))))
  badS
  nop)))))
def O5:List D->Res D:=fn 2
  (ifs (trb (o2 dLt (on bLen (Aa (o2 dIx (o2 dIx (v 0) (c (.int 0))) (c (.int 4))) Ab)) (v 1)))
  badS
  nop)
def M3:List D->Res D:=fn 1
  (ret (comp (iv (v 0)) 1 [] (gN 0) yes (on bLst (Aa (v 0) Ab))))
def Ii:List D->Fs->Res Fs:=fnI 3
  (iSup H9 (Aa (v 1) Ab)
  (iDrp (on O5 (Aa (v 1) (Aa (c (.int 2)) Ab)))
  (iDrp (on M8 (Aa (v 2) Ab))
  (iSet "pattern" (on M3 (Aa (v 2) Ab))
  iEnd))))
def H8:List D->Fs->Res Fs:=fnI 2
  (iSup H9 (Aa (v 1) Ab)
  (iDrp (on O5 (Aa (v 1) (Aa (c (.int 1)) Ab)))
  iEnd))
def Lw:List D->Res D:=fn 2
  (sq (ifs (trb (o2 dEq (meth J9 "word" (v 0) Ab) (c (.str "glass"))))
  (ret (make "Glass" H7 (Aa (v 1) (Aa (o1 (dFld objs "colour") (v 0)) (Aa (o1 (dFld objs "part") (v 0)) Ab)))))
  nop)
  (sq (ifs (trb (o2 dEq (meth J9 "word" (v 0) Ab) (c (.str "plain"))))
  (ret (make "Plain" HQ (Aa (v 1) (Aa (o1 (dFld objs "colour") (v 0)) Ab))))
  nop)
  (sq (ifs (trb (o2 dEq (meth J9 "word" (v 0) Ab) (c (.str "shaded"))))
  (ret (make "Shaded" H8 (Aa (v 1) Ab)))
  nop)
  (ret (make "Patterned" Ii (Aa (v 1) (Aa (o1 (dFld objs "pattern") (v 0)) Ab)))))))
def Nm:List D->Res D:=fn 5
  (sq (st 1 (on Ia (Aa (v 0) (Aa (c (.int 17)) Ab))))
  (sq (stO 2 (mls Ab))
  (sq (for_ (iv (cut (v 1) (pso (c (.int 1))) (pso (o2 Af (c (.int 2)) (o2 dIx (mls (Aa (o2 Ao (o2 Be (o2 dIx (v 1) (c (.int 0))) (c (.int 8))) (c (.int 3))) (Aa (o2 Ao (o2 Be (o2 dIx (v 1) (c (.int 0))) (c (.int 8))) (c (.int 16))) Ab))) (on bInt (Aa (o2 dEq (o2 Ao (o2 dIx (v 1) (c (.int 0))) (c (.int 8))) (c (.int 7))) Ab))))))) (gN 3)
  (sq (st 4 (mtp (Aa (o2 Af (c (.int 1)) (o2 Ao (v 3) (c (.int 7)))) (Aa (o2 Af (c (.int 1)) (o2 Ao (o2 Be (v 3) (c (.int 7))) (c (.int 7)))) Ab))))
  (sq (ifs (trb (o2 dEq (o2 Ao (o2 Be (v 3) (c (.int 64))) (c (.int 3))) (c (.int 0))))
  (st 4 (mtp (Aa (c (.int 4)) (Aa (c (.int 4)) Ab))))
  nop)
  (ifs (pkB 2 (trb (o2 dNin (v 4) (v 2))))
  (app 2 (v 4))
  nop))))
  (frz 2 (ret (v 2))))))
def Hw:List D->Res D:=fn 3
  (sq (st 2 (on Ht (Aa (mls (Aa (v 0) (Aa (v 1) Ab))) Ab)))
  (sq (ifs (trb (o2 dLt (v 1) (c (.int 0))))
  (st 2 (o1 dNeg (v 2)))
  nop)
  (ret (mtp (Aa (o2 Be (v 0) (v 2)) (Aa (o2 Be (v 1) (v 2)) Ab))))))
def PP:List D->Res D:=fn 9
  (sq (st 2 (o2 dIx (mls (Aa (c (.int 1)) (Aa (c (.int 2)) (Aa (c (.int 4)) (Aa (c (.int 16)) Ab))))) (o2 Ao (v 0) (c (.int 4)))))
  (sq (st 3 (o2 dIx (mls (Aa (c (.int 1)) (Aa (c (.int 2)) (Aa (c (.int 8)) (Aa (c (.int 4)) Ab))))) (o2 Ao (o2 Be (v 0) (c (.int 4))) (c (.int 4)))))
  (sq (stO 4 (mls Ab))
  (sq (for_ (r1 (Aa (v 2) Ab)) (gN 5)
  (sq (stO 6 (mls Ab))
  (sq (for_ (r1 (Aa (v 3) Ab)) (gN 7)
  (sq (st 8 (on Ot (Aa (v 1) (Aa (o2 Af (o2 Bt (c (.int 20)) (v 5)) (v 7)) Ab))))
  (app 6 (o2 dIx (mls (Aa (mtp (Aa (o2 Ao (v 8) (c (.int 7))) (Aa (c (.int 1)) Ab))) (Aa (on Hw (Aa (o2 dSub (v 8) (o2 dPow (c (.int 10)) (c (.int 9)))) (Aa (o2 Af (c (.int 1)) (o2 Ao (o2 Be (v 8) (c (.int 9))) (c (.int 99)))) Ab))) Ab))) (o2 Ao (o2 Be (v 0) (c (.int 16))) (c (.int 2)))))))
  (frz 6 (app 4 (v 6))))))
  (frz 4 (ret (v 4)))))))
def RM:List D->Res D:=fn 10
  (sq (asg (gU 4 (gs1 (gN 2) (gs1 (gN 3) (gs1 (gN 4) (gs1 (gN 5) gs0))))) (v 0))
  (sq (st 6 (mls (Aa (mtp (Aa (o2 dSub (o2 Ao (o2 Be (v 2) (c (.int 8))) (c (.int 9))) (c (.int 2))) (Aa (c (.int 1)) Ab))) (Aa (on Hw (Aa (o2 Af (o2 Bt (c (.int 2)) (o2 Ao (o2 Be (v 2) (c (.int 8))) (c (.int 9)))) (c (.int 1))) (Aa (c (.int 2)) Ab))) (Aa (on Hw (Aa (o2 dSub (v 3) (o2 dPow (c (.int 10)) (c (.int 9)))) (Aa (o2 Af (c (.int 1)) (v 4)) Ab))) Ab)))))
  (sq (st 6 (o2 dIx (v 6) (o2 Ao (o2 Be (v 2) (c (.int 128))) (c (.int 3)))))
  (sq (st 7 (o2 Ao (v 2) (c (.int 5))))
  (sq (ifs (trb (o2 dEq (v 7) (c (.int 0))))
  (sq (st 8 (o2 Af (c (.int 1)) (o2 Ao (o2 Be (v 2) (c (.int 8))) (c (.int 3)))))
  (ret (make "Shaded" H8 (Aa (on bTup (Aa (comp (iv (v 1)) 1 [8] (gN 0) yes (o2 Af (cut (v 0) pno (pso (c (.int 4)))) (mtp (Aa (cut (o2 dIx (v 0) (c (.int 4))) pno (pso (v 1))) Ab)))) Ab)) Ab))))
  nop)
  (sq (ifs (trb (o2 dEq (v 7) (c (.int 1))))
  (ret (make "Patterned" Ii (Aa (v 1) (Aa (on PP (Aa (o2 Be (v 2) (c (.int 512))) (Aa (v 5) Ab))) Ab))))
  nop)
  (sq (ifs (trb (o2 dEq (v 7) (c (.int 2))))
  (ret (make "Plain" HQ (Aa (v 1) (Aa (v 6) Ab))))
  nop)
  (sq (st 9 (o2 dIx (mls (Aa (mtp (Aa (c (.int 0)) (Aa (c (.int 1)) Ab))) (Aa (mtp (Aa (c (.int 1)) (Aa (c (.int 2)) Ab))) (Aa (mtp (Aa (c (.int 1)) (Aa (c (.int 3)) Ab))) (Aa (mtp (Aa (c (.int 2)) (Aa (c (.int 3)) Ab))) (Aa (mtp (Aa (c (.int 1)) (Aa (c (.int 1)) Ab))) (Aa (on Hw (Aa (o2 Ao (v 5) (o2 Af (c (.int 1)) (v 3))) (Aa (o2 Af (c (.int 1)) (v 3)) Ab))) Ab))))))) (o2 Ao (o2 Be (v 2) (c (.int 512))) (c (.int 6)))))
  (ret (make "Glass" H7 (Aa (v 1) (Aa (v 6) (Aa (v 9) Ab)))))))))))))
def Nt:List D->Res D:=fn 11
  (sq (asg (gU 2 (gs1 (gN 2) (gs1 (gN 3) gs0))) (cut (v 0) pno (pso (c (.int 2)))))
  (sq (st 4 (o2 dIx (mls (Aa (c (.int 2)) (Aa (c (.int 8)) (Aa (c (.int 1)) (Aa (c (.int 2)) Ab))))) (o2 Ao (o2 Be (v 2) (c (.int 4))) (c (.int 4)))))
  (sq (st 5 (o2 Af (c (.int 1)) (o2 Ao (o2 Be (v 2) (c (.int 16))) (c (.int 3)))))
  (sq (st 6 (o2 Bt (v 5) (o2 dSub (o2 Ao (o2 Be (v 2) (c (.int 64))) (o2 Af (o2 Bt (v 4) (c (.int 8))) (c (.int 1)))) (v 4))))
  (sq (st 7 (o2 Bt (v 5) (o2 dSub (o2 Ao (v 3) (o2 Af (o2 Bt (v 4) (c (.int 8))) (c (.int 1)))) (v 4))))
  (sq (st 8 (o2 Bt (v 4) (v 5)))
  (sq (st 9 (o2 dIx (mls (Aa (c (.int 1)) (Aa (v 8) (Aa (o2 Af (c (.int 1)) (o2 Ao (o2 Be (v 3) (c (.int 512))) (c (.int 9)))) (Aa (v 8) Ab))))) (o2 Ao (o2 Be (v 3) (c (.int 32))) (c (.int 4)))))
  (sq (st 10 (on bTup (Aa (comp (r1 (Aa (v 1) Ab)) 1 [0] (gN 0) yes (o2 dSub (o2 Ao (o2 dIx (v 1) (o2 Af (c (.int 6)) (v 0))) (c (.int 41))) (c (.int 10)))) Ab)))
  (sq (ifs (trb (o2 dEq (o2 Ao (v 2) (c (.int 4))) (c (.int 3))))
  (sq (st 6 (o2 dSub (o2 Ao (o2 dIx (v 0) (c (.int 2))) (c (.int 2000001))) (o2 dPow (c (.int 10)) (c (.int 6)))))
  (sq (st 7 (o2 dSub (o2 Ao (o2 dIx (v 0) (c (.int 3))) (c (.int 2000001))) (o2 dPow (c (.int 10)) (c (.int 6)))))
  (sq (st 8 (o2 Af (c (.int 1)) (o2 Ao (o2 dIx (v 0) (c (.int 4))) (o2 dPow (c (.int 10)) (c (.int 6))))))
  (sq (st 9 (o2 Af (c (.int 1)) (o2 Ao (o2 dIx (v 0) (c (.int 5))) (o2 dPow (c (.int 10)) (c (.int 6))))))
  (st 10 (on bTup (Aa (comp (r1 (Aa (v 1) Ab)) 1 [0] (gN 0) yes (o2 dSub (o2 Ao (o2 dIx (v 1) (o2 Af (c (.int 6)) (v 0))) (c (.int 2000001))) (o2 dPow (c (.int 10)) (c (.int 6))))) Ab)))))))
  nop)
  (sq (ifs (trb (o2 dEq (o2 Ao (v 2) (c (.int 4))) (c (.int 2))))
  (sq (st 8 (o2 Af (c (.int 1)) (o2 Ao (o2 Be (v 3) (c (.int 4096))) (c (.int 300)))))
  (st 6 (o2 dSub (o2 Ao (o2 dIx (v 0) (c (.int 2))) (c (.int 2001))) (c (.int 1000)))))
  nop)
  (ret (mtp (Aa (v 6) (Aa (v 7) (Aa (v 8) (Aa (v 9) (Aa (v 10) Ab)))))))))))))))))
def Rw:List D->Res D:=fn 12
  (sq (st 4 (o2 Af (c (.int 6)) (v 3)))
  (sq (st 5 (comp (r1 (Aa (c (.int 6)) Ab)) 1 [4,0,1] (gN 0) yes (on Ia (Aa (on Ig (Aa (v 2) (Aa (o2 Af (v 3) (v 0)) Ab))) (Aa (o2 Bt (c (.int 3)) (v 1)) Ab)))))
  (sq (st 6 (comp (iv (v 5)) 1 [4,3] (gN 0) yes (on Nt (Aa (cut (v 0) pno (pso (v 1))) (Aa (v 2) Ab)))))
  (sq (st 7 (on Ia (Aa (on Ig (Aa (v 0) (Aa (o2 Af (v 1) (c (.int 6))) Ab))) (Aa (o2 Af (v 2) (c (.int 1))) Ab))))
  (sq (stO 8 (mls Ab))
  (sq (for_ (r1 (Aa (o2 Ao (o2 dIx (v 7) (c (.int 0))) (o2 Af (v 2) (c (.int 1)))) Ab)) (gN 9)
  (sq (st 10 (o2 dIx (v 7) (o2 Af (c (.int 1)) (v 9))))
  (sq (st 11 (mls (Aa (o2 dIx (v 6) (o2 Ao (v 10) (c (.int 6)))) (Aa (o2 dIx (v 6) (o2 Ao (o2 Be (v 10) (c (.int 6))) (c (.int 6)))) (Aa (o2 dIx (v 6) (o2 Ao (o2 Be (v 10) (c (.int 36))) (c (.int 6)))) Ab)))))
  (sq (ifs (trb (o2 dEq (o2 Ao (o2 Be (v 10) (c (.int 216))) (c (.int 4))) (c (.int 1))))
  (st 11 (comp (r1 (Aa (c (.int 3)) Ab)) 1 [4,5,3,9] (gN 0) yes (on Nt (Aa (cut (o2 dIx (v 2) (v 4)) (pso (o2 Bt (v 1) (v 0))) (pso (o2 Af (o2 Bt (v 1) (v 0)) (v 1)))) (Aa (v 3) Ab)))))
  nop)
  (app 8 (mtp (Aa (o2 dIx (v 11) (c (.int 0))) (Aa (o2 dIx (v 11) (c (.int 1))) (Aa (o2 dIx (v 11) (c (.int 2))) Ab)))))))))
  (frz 8 (ret (v 8)))))))))
def Q5:List D->Res D:=fn 8
  (sq (st 3 (on Ia (Aa (on Ig (Aa (v 0) (Aa (o2 Af (v 1) (c (.int 7))) Ab))) (Aa (o2 Bt (c (.int 4)) (v 2)) Ab))))
  (sq (stO 4 (mls Ab))
  (sq (st 5 (o2 Af (c (.int 2)) (o2 Ao (o2 Be (on Ig (Aa (v 0) (Aa (o2 Af (v 1) (c (.int 7))) Ab))) (c (.int 2))) (c (.int 2)))))
  (sq (for_ (Us (Aa (on Rw (Aa (v 0) (Aa (v 1) (Aa (v 2) (Aa (v 5) Ab))))) Ab)) (gU 2 (gs1 (gN 6) (gs1 (gN 7) gs0)))
  (app 4 (on RM (Aa (cut (v 3) (pso (o2 Bt (c (.int 4)) (v 6))) (pso (o2 Af (o2 Bt (c (.int 4)) (v 6)) (c (.int 4))))) (Aa (v 7) Ab)))))
  (frz 4 (ret (v 4)))))))
def Mu:List D->Res D:=fn 1
  (sq (ifs (trb (o2 dEq (o2 dIx (v 0) (c (.int 1))) (c (.int 1))))
  (ret (on bStr (Aa (o2 dIx (v 0) (c (.int 0))) Ab)))
  nop)
  (ret (o2 Af (o2 Af (on bStr (Aa (o2 dIx (v 0) (c (.int 0))) Ab)) (c (.str "/"))) (on bStr (Aa (o2 dIx (v 0) (c (.int 1))) Ab)))))
def Nv:List D->Res D:=fn 1
  (ifs (bNot (trb (on bIsi (Aa (v 0) (Aa (c (.ty "str")) Ab)))))
  badS
  nop)
def Jp:List D->Res D:=fn 2
  (ret (o2 Af (cut (v 0) (pso (v 1)) pno) (cut (v 0) pno (pso (v 1)))))
def Rv:List D->Res D:=fn 2
  (ret (o2 Af (o2 Af (o2 Af (o2 Bt (o2 dIx (v 0) (c (.int 0))) (o2 dIx (v 1) (c (.int 0)))) (o2 Bt (o2 dIx (v 0) (c (.int 1))) (o2 dIx (v 1) (c (.int 1))))) (o2 Bt (o2 dIx (v 0) (c (.int 2))) (o2 dIx (v 1) (c (.int 2))))) (o2 Bt (o2 dIx (v 0) (c (.int 3))) (o2 dIx (v 1) (c (.int 3))))))
def JS:List D->Res D:=fn 1
  (ret (o2 Af (on bLst (Aa (cut (v 0) pno (pso (c (.int 4)))) Ab)) (on bLst (Aa (o2 dIx (v 0) (c (.int 4))) Ab))))
def Sd:List D->Res D:=fn 7
  (sq (st 4 (comp (iZip (Aa (on JS (Aa (v 0) Ab)) (Aa (on JS (Aa (v 1) Ab)) Ab))) 2 [3,2] (gU 2 (gs1 (gN 0) (gs1 (gN 1) gs0))) yes (o2 Af (o2 Bt (v 3) (v 0)) (o2 Bt (v 2) (v 1)))))
  (sq (st 5 (on Ht (Aa (v 4) Ab)))
  (sq (st 6 (comp (iv (v 4)) 1 [5] (gN 0) yes (o2 Be (v 0) (v 1))))
  (ret (mtp (Aa (o2 dIx (v 6) (c (.int 0))) (Aa (o2 dIx (v 6) (c (.int 1))) (Aa (o2 dIx (v 6) (c (.int 2))) (Aa (o2 dIx (v 6) (c (.int 3))) (Aa (on bTup (Aa (cut (v 6) (pso (c (.int 4))) pno) Ab)) Ab))))))))))
def PB:List D->Res D:=fn 4
  (ret (on Sd (Aa (v 0) (Aa (v 1) (Aa (on bAbs (Aa (v 3) Ab)) (Aa (on bAbs (Aa (v 2) Ab)) Ab))))))
def Q7:List D->Res D:=fn 7
  (sq (st 2 (o2 dIx (v 0) (c (.int 0))))
  (sq (st 3 (o2 dIx (v 0) (c (.int 1))))
  (sq (st 4 (o2 dIx (v 0) (c (.int 2))))
  (sq (st 5 (on PB (Aa (v 2) (Aa (v 3) (Aa (o2 dIx (v 1) (c (.int 0))) (Aa (o2 dIx (v 1) (c (.int 1))) Ab))))))
  (sq (st 6 (on PB (Aa (v 4) (Aa (v 2) (Aa (o2 dIx (v 1) (c (.int 2))) (Aa (o2 dIx (v 1) (c (.int 0))) Ab))))))
  (ret (mls (Aa (mtp (Aa (v 2) (Aa (v 5) (Aa (v 6) Ab)))) (Aa (mtp (Aa (v 5) (Aa (v 3) (Aa (v 4) Ab)))) (Aa (mtp (Aa (v 5) (Aa (v 4) (Aa (v 6) Ab)))) Ab))))))))))
def GJ:List D->Res D:=fn 7
  (sq (st 2 (comp (iv (v 0)) 1 [1] (gN 0) yes (on Rv (Aa (v 1) (Aa (v 0) Ab)))))
  (sq (st 3 (comp (iv (v 2)) 1 [] (gN 0) yes (o2 dGe (v 0) (c (.int 0)))))
  (sq (ifs (trb (on bAll (Aa (v 3) Ab)))
  (ret (mtp (Aa (mls (Aa (v 0) Ab)) (Aa (mls Ab) Ab))))
  nop)
  (sq (ifs (bNot (trb (on bAny (Aa (v 3) Ab))))
  (ret (mtp (Aa (mls Ab) (Aa (mls (Aa (v 0) Ab)) Ab))))
  nop)
  (sq (st 4 (o2 dEq (mLst cntD (v 3) (c (.bl true))) (c (.int 1))))
  (sq (st 5 (mLst idxD (v 3) (v 4)))
  (sq (st 6 (on Q7 (Aa (on Jp (Aa (v 0) (Aa (v 5) Ab))) (Aa (on Jp (Aa (v 2) (Aa (v 5) Ab))) Ab))))
  (sq (ifs (trb (v 4))
  (ret (mtp (Aa (cut (v 6) pno (pso (c (.int 1)))) (Aa (cut (v 6) (pso (c (.int 1))) pno) Ab))))
  nop)
  (ret (mtp (Aa (cut (v 6) (pso (c (.int 1))) pno) (Aa (cut (v 6) pno (pso (c (.int 1)))) Ab))))))))))))
def RV:List D->Res D:=fn 2
  (ret (make "Glass" H7 (Aa (v 1) (Aa (o1 (dFld objs "colour") (v 0)) (Aa (o1 (dFld objs "part") (v 0)) Ab)))))
def RD:List D->Res D:=fn 2
  (ret (make "Patterned" Ii (Aa (v 1) (Aa (o1 (dFld objs "pattern") (v 0)) Ab))))
def R6:List D->Res D:=fn 2
  (ret (make "Plain" HQ (Aa (v 1) (Aa (o1 (dFld objs "colour") (v 0)) Ab))))
def Q9:List D->Res D:=fn 2
  (ret (make "Shaded" H8 (Aa (v 1) Ab)))
def Rn:List (Str×(List D->Res D)):=[("Plain",R6),("Shaded",Q9),("Patterned",RD),("Glass",RV)]
def JG:List D->Res D:=fn 3
  (ret (eAnd (on Gm (Aa (v 0) Ab)) (eAnd (o2 dGe (v 0) (v 1)) (o2 dLe (v 0) (v 2)))))
def Oh:List D->Res D:=fn 3
  (ifs (bNot (trb (on JG (Aa (v 0) (Aa (v 1) (Aa (v 2) Ab))))))
  badS
  nop)
def Np:List D->Res D:=fn 3
  (sq (st 2 (sD G4 (v 1) (c (.str " "))))
  (sq (ifs (trb (o2 dNe (o2 dIx (v 2) (c (.int 0))) (v 0)))
  badS
  nop)
  (ret (cut (v 2) (pso (c (.int 1))) pno))))
def Lg:List D->Res D:=fn 4
  (sq (st 3 (on Np (Aa (v 0) (Aa (v 1) Ab))))
  (sq (ifs (trb (o2 dNe (on bLen (Aa (v 3) Ab)) (v 2)))
  badS
  nop)
  (ret (v 3))))
def Oa:List D->Res D:=fn 1
  (sq (ifs (bOr (trb (o2 dEq (v 0) (c (.str "")))) (trb (o2 dGt (on Qf (Aa (v 0) Ab)) (c (.int 30)))))
  (ret (c (.bl false)))
  nop)
  (sq (ifs (bAnd (trb (sD Pk (v 0) (c (.str "0")))) (trb (o2 dNe (v 0) (c (.str "0")))))
  (ret (c (.bl false)))
  nop)
  (ret (on bAll (Aa (comp (ivT (v 0)) 1 [] (gN 0) yes (o2 dInT (v 0) (c (.str "0123456789")))) Ab)))))
def G8:List D->Res D:=fn 2
  (sq (st 1 (ife (trb (sD Pk (v 0) (c (.str "-")))) (cutT (v 0) (pso (c (.int 1))) pno) (v 0)))
  (sq (ifs (bOr (bNot (trb (on Oa (Aa (v 1) Ab)))) (trb (o2 dEq (v 0) (c (.str "-0")))))
  badS
  nop)
  (ret (on RX (Aa (v 0) Ab)))))
def Jg:List D->Res D:=fn 3
  (ret (comp (iv (on Lg (Aa (v 0) (Aa (v 1) (Aa (v 2) Ab))))) 1 [] (gN 0) yes (on G8 (Aa (v 0) Ab))))
def KC:List D->Res D:=fn 2
  (ret (mtp (Aa (o2 dIx (v 0) (c (.int 0))) (Aa (o2 dIx (v 0) (c (.int 1))) (Aa (o2 dIx (v 0) (c (.int 2))) (Aa (o2 dIx (v 0) (c (.int 3))) (Aa (v 1) Ab)))))))
def O2:List D->Res D:=fn 7
  (sq (st 2 (on Jg (Aa (c (.str "near")) (Aa (v 1) (Aa (c (.int 2)) Ab)))))
  (sq (for_ (iv (v 2)) (gN 3)
  (drp (on Oh (Aa (v 3) (Aa (c (.int 1)) (Aa (o2 dPow (c (.int 10)) (c (.int 6))) Ab))))))
  (sq (st 4 (mtp (Aa (c (.int 0)) (Aa (c (.int 0)) (Aa (o2 dIx (v 2) (c (.int 1))) (Aa (o1 dNeg (o2 dIx (v 2) (c (.int 0)))) Ab))))))
  (sq (stO 5 (mls Ab))
  (sq (for_ (iv (o2 dIx (v 0) (c (.int 4)))) (gN 6)
  (ext 5 (comp (iv (o2 dIx (on GJ (Aa (o1 (dFld objs "triangle") (v 6)) (Aa (v 4) Ab))) (c (.int 0)))) 1 [6] (gN 0) yes (meth Rn "like" (v 1) (Aa (v 0) Ab)))))
  (frz 5 (ret (on KC (Aa (v 0) (Aa (v 5) Ab))))))))))
def GP:List D->Res D:=fn 3
  (sq (stO 1 (mls Ab))
  (sq (st 2 (on bAbs (Aa (v 0) Ab)))
  (sq (whl fuel (trb (o2 dGe (v 2) (o2 dPow (c (.int 10)) (c (.int 60)))))
  badS)
  (sq (app 1 (on bStr (Aa (v 2) Ab)))
  (sq (ifs (trb (o2 dLt (v 0) (c (.int 0))))
  (app 1 (c (.str "-")))
  nop)
  (ret (joinRev "" 1)))))))
def Hv:List D->Res D:=fn 1
  (sq (ifs (trb (o2 dEq (o2 dIx (v 0) (c (.int 1))) (c (.int 1))))
  (ret (on GP (Aa (o2 dIx (v 0) (c (.int 0))) Ab)))
  nop)
  (ret (o2 Af (o2 Af (on GP (Aa (o2 dIx (v 0) (c (.int 0))) Ab)) (c (.str "/"))) (on GP (Aa (o2 dIx (v 0) (c (.int 1))) Ab)))))
def Vn:List D->Res D:=fn 1
  (ret (o2 Af (o2 Af (on GP (Aa (o2 dIx (v 0) (c (.int 0))) Ab)) (c (.str ","))) (on GP (Aa (o2 dIx (v 0) (c (.int 1))) Ab))))
def Qg:List D->Res D:=fn 1
  (ret (sD Fx (c (.str " ")) (o2 Af (mls (Aa (c (.str "/")) Ab)) (comp (iv (on JS (Aa (v 0) Ab))) 1 [] (gN 0) yes (on GP (Aa (v 0) Ab))))))
def Qd:List D->Res D:=fn 1
  (ret (sD Fx (c (.str ";")) (comp (iv (v 0)) 1 [] (gN 0) yes (sD Fx (c (.str ",")) (comp (iv (v 0)) 1 [] (gN 0) yes (on Hv (Aa (v 0) Ab)))))))
def Rg:List D->Res D:=fn 2
  (sq (st 1 (meth J9 "word" (v 0) Ab))
  (sq (ifs (trb (o2 dEq (v 1) (c (.str "plain"))))
  (ret (mls (Aa (v 1) (Aa (on Hv (Aa (o1 (dFld objs "colour") (v 0)) Ab)) Ab))))
  nop)
  (sq (ifs (trb (o2 dEq (v 1) (c (.str "patterned"))))
  (ret (mls (Aa (v 1) (Aa (on Qd (Aa (o1 (dFld objs "pattern") (v 0)) Ab)) Ab))))
  nop)
  (sq (ifs (trb (o2 dEq (v 1) (c (.str "glass"))))
  (ret (mls (Aa (v 1) (Aa (on Hv (Aa (o1 (dFld objs "colour") (v 0)) Ab)) (Aa (on Hv (Aa (o1 (dFld objs "part") (v 0)) Ab)) Ab)))))
  nop)
  (ret (mls (Aa (v 1) Ab)))))))
def Hc:List D->Res D:=fn 1
  (ret (sD Fx (c (.str " ")) (o2 Af (on Rg (Aa (v 0) Ab)) (comp (iv (o1 (dFld objs "triangle") (v 0))) 1 [] (gN 0) yes (on Qg (Aa (v 0) Ab))))))
def Io:List D->Res D:=fn 2
  (sq (st 1 (mls (Aa (sD Fx (c (.str " ")) (mls (Aa (c (.str "floor")) (Aa (on GP (Aa (o2 dIx (v 0) (c (.int 0))) Ab)) (Aa (on GP (Aa (o2 dIx (v 0) (c (.int 1))) Ab)) Ab))))) (Aa (sD Fx (c (.str " ")) (mls (Aa (c (.str "ground")) (Aa (on Hv (Aa (o2 dIx (v 0) (c (.int 2))) Ab)) Ab)))) (Aa (sD Fx (c (.str " ")) (o2 Af (mls (Aa (c (.str "spots")) Ab)) (comp (iv (o2 dIx (v 0) (c (.int 3)))) 1 [] (gN 0) yes (on Vn (Aa (v 0) Ab))))) Ab)))))
  (ret (sD Fx (c (.str "\n")) (o2 Af (v 1) (comp (iv (o2 dIx (v 0) (c (.int 4)))) 1 [] (gN 0) yes (on Hc (Aa (v 0) Ab)))))))
def R9:List D->Res D:=fn 2
  (sq (drp (on Lg (Aa (c (.str "show")) (Aa (v 1) (Aa (c (.int 0)) Ab)))))
  (ret (on Io (Aa (v 0) Ab))))
def Rt:List D->Res D:=fn 2
  (ifs (bOr (bNot (trb (on JG (Aa (v 0) (Aa (c (.int 1)) (Aa (c (.int 64)) Ab)))))) (bNot (trb (on JG (Aa (v 1) (Aa (c (.int 1)) (Aa (c (.int 64)) Ab)))))))
  badS
  nop)
def Qx:List D->Res D:=fn 2
  (sq (st 1 (on Jg (Aa (c (.str "floor")) (Aa (v 0) (Aa (c (.int 2)) Ab)))))
  (sq (drp (on Rt (Aa (o2 dIx (v 1) (c (.int 0))) (Aa (o2 dIx (v 1) (c (.int 1))) Ab))))
  (ret (v 1))))
def Qe:List D->Res D:=fn 3
  (sq (st 2 (on Qx (Aa (v 1) Ab)))
  (ret (mtp (Aa (o2 dIx (v 2) (c (.int 0))) (Aa (o2 dIx (v 2) (c (.int 1))) (Aa (o2 dIx (v 0) (c (.int 2))) (Aa (o2 dIx (v 0) (c (.int 3))) (Aa (o2 dIx (v 0) (c (.int 4))) Ab))))))))
def Iz:List D->Res D:=fn 3
  (sq (ifs (trb (o2 K5 (c (.str "/")) (v 0)))
  (ret (mtp (Aa (on G8 (Aa (v 0) Ab)) (Aa (c (.int 1)) Ab))))
  nop)
  (sq (st 1 (sD Oo (v 0) (c (.str "/"))))
  (sq (st 2 (mtp (Aa (on G8 (Aa (o2 dIx (v 1) (c (.int 0))) Ab)) (Aa (on G8 (Aa (o2 dIx (v 1) (c (.int 2))) Ab)) Ab))))
  (sq (ifs (bOr (trb (o2 dEq (o2 dIx (v 2) (c (.int 1))) (c (.int 1)))) (bNot (trb (on Jj (Aa (v 2) Ab)))))
  badS
  nop)
  (ret (v 2))))))
def Pj:List D->Res D:=fn 1
  (ret (on Iz (Aa (o2 dIx (on Lg (Aa (c (.str "ground")) (Aa (v 0) (Aa (c (.int 1)) Ab)))) (c (.int 0))) Ab)))
def Qq:List D->Res D:=fn 2
  (ret (mtp (Aa (o2 dIx (v 0) (c (.int 0))) (Aa (o2 dIx (v 0) (c (.int 1))) (Aa (on Pj (Aa (v 1) Ab)) (Aa (o2 dIx (v 0) (c (.int 3))) (Aa (o2 dIx (v 0) (c (.int 4))) Ab)))))))
def Rh:List D->Res D:=fn 1
  (sq (ifs (bOr (bNot (trb (on bIsi (Aa (v 0) (Aa (c (.ty "tuple")) Ab))))) (trb (o2 dNe (on bLen (Aa (v 0) Ab)) (c (.int 2)))))
  (ret (c (.bl false)))
  nop)
  (ret (eAnd (on JG (Aa (o2 dIx (v 0) (c (.int 0))) (Aa (c (.int 1)) (Aa (c (.int 7)) Ab)))) (on JG (Aa (o2 dIx (v 0) (c (.int 1))) (Aa (c (.int 1)) (Aa (c (.int 7)) Ab)))))))
def R1:List D->Res D:=fn 1
  (sq (ifs (bOr (bNot (trb (on bIsi (Aa (v 0) (Aa (c (.ty "list")) Ab))))) (bOr (trb (o2 dLt (on bLen (Aa (v 0) Ab)) (c (.int 1)))) (trb (o2 dGt (on bLen (Aa (v 0) Ab)) (c (.int 16))))))
  badS
  nop)
  (sq (ifs (bNot (trb (on bAll (Aa (comp (iv (v 0)) 1 [] (gN 0) yes (on Rh (Aa (v 0) Ab))) Ab))))
  badS
  nop)
  (ifs (trb (o2 dNe (o1 S6 (v 0)) (on bLen (Aa (v 0) Ab))))
  badS
  nop)))
def Vp:List D->Res D:=fn 1
  (ret (on bTup (Aa (comp (iv (sD G4 (v 0) (c (.str ",")))) 1 [] (gN 0) yes (on G8 (Aa (v 0) Ab))) Ab)))
def Sg:List D->Res D:=fn 2
  (sq (st 1 (comp (iv (on Np (Aa (c (.str "spots")) (Aa (v 0) Ab)))) 1 [] (gN 0) yes (on Vp (Aa (v 0) Ab))))
  (sq (drp (on R1 (Aa (v 1) Ab)))
  (ret (v 1))))
def RP:List D->Res D:=fn 2
  (ret (mtp (Aa (o2 dIx (v 0) (c (.int 0))) (Aa (o2 dIx (v 0) (c (.int 1))) (Aa (o2 dIx (v 0) (c (.int 2))) (Aa (on Sg (Aa (v 1) Ab)) (Aa (o2 dIx (v 0) (c (.int 4))) Ab)))))))
def Q0:List D->Res D:=fn 3
  (grp 1 2 0 (trb (o2 dEq (v 2) (c (.str "/")))))
def QX:List D->Res D:=fn 2
  (sq (ifs (trb (o2 dLt (on bLen (Aa (v 0) Ab)) (c (.int 4))))
  badS
  nop)
  (sq (st 1 (comp (iv (v 0)) 1 [] (gN 0) yes (on G8 (Aa (v 0) Ab))))
  (ret (mtp (Aa (o2 dIx (v 1) (c (.int 0))) (Aa (o2 dIx (v 1) (c (.int 1))) (Aa (o2 dIx (v 1) (c (.int 2))) (Aa (o2 dIx (v 1) (c (.int 3))) (Aa (on bTup (Aa (cut (v 1) (pso (c (.int 4))) pno) Ab)) Ab)))))))))
def Qy:List D->Res D:=fn 1
  (ret (comp (iv (sD G4 (v 0) (c (.str ";")))) 1 [] (gN 0) yes (comp (iv (sD G4 (v 0) (c (.str ",")))) 1 [] (gN 0) yes (on Iz (Aa (v 0) Ab)))))
def Pq:List D->Res D:=fn 2
  (sq (ifs (bAnd (trb (o2 dEq (cut (v 0) pno (pso (c (.int 1)))) (mls (Aa (c (.str "plain")) Ab)))) (trb (o2 dEq (on bLen (Aa (v 0) Ab)) (c (.int 2)))))
  (ret (make "Plain" HQ (Aa (v 1) (Aa (on Iz (Aa (o2 dIx (v 0) (c (.int 1))) Ab)) Ab))))
  nop)
  (sq (ifs (trb (o2 dEq (v 0) (mls (Aa (c (.str "shaded")) Ab))))
  (ret (make "Shaded" H8 (Aa (v 1) Ab)))
  nop)
  (sq (ifs (bAnd (trb (o2 dEq (cut (v 0) pno (pso (c (.int 1)))) (mls (Aa (c (.str "patterned")) Ab)))) (trb (o2 dEq (on bLen (Aa (v 0) Ab)) (c (.int 2)))))
  (ret (make "Patterned" Ii (Aa (v 1) (Aa (on Qy (Aa (o2 dIx (v 0) (c (.int 1))) Ab)) Ab))))
  nop)
  (sq (ifs (bAnd (trb (o2 dEq (cut (v 0) pno (pso (c (.int 1)))) (mls (Aa (c (.str "glass")) Ab)))) (trb (o2 dEq (on bLen (Aa (v 0) Ab)) (c (.int 3)))))
  (ret (make "Glass" H7 (Aa (v 1) (Aa (on Iz (Aa (o2 dIx (v 0) (c (.int 1))) Ab)) (Aa (on Iz (Aa (o2 dIx (v 0) (c (.int 2))) Ab)) Ab)))))
  nop)
  badS))))
def Mv:List D->Res D:=fn 2
  (sq (drp (on Nv (Aa (v 0) Ab)))
  (sq (st 1 (on Q0 (Aa (sD G4 (v 0) (c (.str " "))) Ab)))
  (sq (ifs (trb (o2 dNe (on bLen (Aa (v 1) Ab)) (c (.int 4))))
  badS
  nop)
  (ret (on Pq (Aa (o2 dIx (v 1) (c (.int 0))) (Aa (on bTup (Aa (comp (iv (cut (v 1) (pso (c (.int 1))) pno)) 1 [] (gN 0) yes (on QX (Aa (v 0) Ab))) Ab)) Ab)))))))
def JW:List D->Res D:=fn 2
  (ret (on KC (Aa (v 0) (Aa (o2 Af (o2 dIx (v 0) (c (.int 4))) (mls (Aa (on Mv (Aa (v 1) Ab)) Ab))) Ab))))
def OJ:List D->Res D:=fn 3
  (sq (st 2 (o2 dIx (on Jg (Aa (c (.str "drop")) (Aa (v 1) (Aa (c (.int 1)) Ab)))) (c (.int 0))))
  (sq (drp (on Oh (Aa (v 2) (Aa (c (.int 0)) (Aa (o2 dSub (on bLen (Aa (o2 dIx (v 0) (c (.int 4))) Ab)) (c (.int 1))) Ab)))))
  (ret (on KC (Aa (v 0) (Aa (o2 Af (cut (o2 dIx (v 0) (c (.int 4))) pno (pso (v 2))) (cut (o2 dIx (v 0) (c (.int 4))) (pso (o2 Af (v 2) (c (.int 1)))) pno)) Ab))))))
abbrev Hg:List Str:=["Desk"]
abbrev Gx:List Str:=["show","paint","tiles","doubt","at","who"]
def Vy:List (Str×(List D->Res D)):=[("show",R9)]
abbrev Ha:List Str:=["floor","ground","spots","drop","near"]
def Py:List (Str×(List D->Res D)):=[("floor",Qe),("ground",Qq),("spots",RP),("drop",OJ),("near",O2)]
def QR:List D->Fs->Res Fs:=fnI 1
  (iSet "scene" (mtp (Aa (c (.int 8)) (Aa (c (.int 8)) (Aa (mtp (Aa (c (.int 0)) (Aa (c (.int 1)) Ab))) (Aa (mls (Aa (mtp (Aa (c (.int 4)) (Aa (c (.int 4)) Ab))) Ab)) (Aa (mls Ab) Ab))))))
  (iSet "kept" (c .non)
  (iSet "answered" (c (.int 0))
  iEnd)))
def Do:List D->Fs->Res (D×Fs):=fnO2 3
  (oSeq (drp (on Nv (Aa (v 1) Ab)))
  (oSeq (st 2 (o2 dIx (sD G4 (v 1) (c (.str " "))) (c (.int 0))))
  (oIf (mInT 2 Gx)
  (oRet (oTab 2 Vy (Dt (oFld "scene") (Dt (oOf (v 1)) oNil))))
  (oIf (trb (o2 dEq (v 2) (c (.str "part"))))
  oBad
  (oSt (osIf (trb (o2 dEq (v 2) (c (.str "keep"))))
  Sq
  (osIf (mInT 2 Ha)
  (J1 "scene" (oTab 2 Py (Dt (oFld "scene") (Dt (oOf (v 1)) oNil))))
  (J1 "scene" (oOn JW (Dt (oFld "scene") (Dt (oOf (v 1)) oNil))))))
  (oRet (oOf (c (.str "ok")))))))))
def GZ:List D->Fs->Res (D×Fs):=fnO2 3
  (NP 2 "answer_to" Do (Dt (oOf (v 1)) oNil)
  (oSet "answered" (oO2 Af (oFld "answered") (oOf (c (.int 1))))
  (oRet (oOf (v 2)))))
def Qh:List D->List D->Res (D×List D):=fnWo 15
  (wSeq (unpO 0 6 (gs1 (gN 4) (gs1 (gN 5) (gs1 (gN 6) (gs1 (gN 7) (gs1 (gN 8) (gs1 (gN 9) gs0)))))))
  (wIf (trb (o2 dEq (v 1) (c (.int 0))))
  (wSeq (setO 0 (o2 Af (c (.int 1)) (o2 Ao (v 2) (c (.int 5)))) (c (.int 0)))
  (wSeq (setO 0 (o2 Af (c (.int 1)) (o2 Ao (o2 Be (v 2) (c (.int 8))) (c (.int 4)))) (c (.int 1)))
  (wRet (pk 0 (o2 Af (o2 Af (o2 Af (c (.str "floor ")) (on bStr (Aa (o2 dIx (v 0) (c (.int 0))) Ab))) (c (.str " "))) (on bStr (Aa (o2 dIx (v 0) (c (.int 1))) Ab)))))))
  (wIf (trb (o2 dEq (v 1) (c (.int 1))))
  (wSeq (setO 0 (o2 dIx (mls (Aa (mtp (Aa (o2 dSub (o2 Ao (v 2) (c (.int 9))) (c (.int 2))) (Aa (c (.int 1)) Ab))) (Aa (mtp (Aa (o2 Af (o2 Bt (c (.int 2)) (o2 Ao (v 2) (c (.int 9)))) (c (.int 1))) (Aa (c (.int 2)) Ab))) Ab))) (o2 Ao (o2 Be (v 2) (c (.int 16))) (c (.int 2)))) (c (.int 2)))
  (wRet (pk 0 (o2 Af (c (.str "ground ")) (on Mu (Aa (o2 dIx (v 0) (c (.int 2))) Ab))))))
  (wIf (trb (o2 dEq (v 1) (c (.int 2))))
  (wSeq (setO 0 (cut (on Nm (Aa (v 2) Ab)) pno (pso (c (.int 2)))) (c (.int 3)))
  (wRet (pk 0 (o2 Af (c (.str "spots ")) (sD Fx (c (.str " ")) (comp (iv (o2 dIx (v 0) (c (.int 3)))) 2 [] (gU 2 (gs1 (gN 0) (gs1 (gN 1) gs0))) yes (o2 Af (o2 Af (on bStr (Aa (v 0) Ab)) (c (.str ","))) (on bStr (Aa (v 1) Ab)))))))))
  (wIf (bAnd (trb (o2 dEq (v 1) (c (.int 3)))) (trb (o2 LC (v 8) (mls Ab))))
  (wSeq (st 10 (o2 Ao (v 2) (on bLen (Aa (v 8) Ab))))
  (wSeq (setO 0 (o2 Af (cut (v 8) pno (pso (v 10))) (cut (v 8) (pso (o2 Af (v 10) (c (.int 1)))) pno)) (c (.int 4)))
  (wRet (o2 Af (c (.str "drop ")) (on bStr (Aa (v 10) Ab))))))
  (wIf (bAnd (trb (o2 dEq (v 1) (c (.int 4)))) (trb (o2 dLt (v 9) (c (.int 2)))))
  (wSeq (st 11 (o2 Af (c (.int 1)) (o2 Ao (v 2) (c (.int 6)))))
  (wSeq (st 12 (o2 Af (c (.int 1)) (o2 Ao (o2 Be (v 2) (c (.int 8))) (c (.int 4)))))
  (wSeq (st 13 (mls Ab))
  (wSeq (for_ (iv (v 8)) (gN 14)
  (st 13 (o2 Af (v 13) (comp (iv (o2 dIx (on GJ (Aa (o1 (dFld objs "triangle") (v 14)) (Aa (mtp (Aa (c (.int 0)) (Aa (c (.int 0)) (Aa (v 12) (Aa (o2 dSub (c (.int 0)) (v 11)) Ab))))) Ab))) (c (.int 0)))) 1 [14] (gN 0) yes (on Lw (Aa (v 1) (Aa (v 0) Ab)))))))
  (wSeq (setO 0 (v 13) (c (.int 4)))
  (wSeq (setO 0 (o2 Af (v 9) (c (.int 1))) (c (.int 5)))
  (wRet (o2 Af (o2 Af (o2 Af (c (.str "near ")) (on bStr (Aa (v 11) Ab))) (c (.str " "))) (on bStr (Aa (v 12) Ab))))))))))
  (wIf (trb (o2 dGt (on bLen (Aa (v 8) Ab)) (c (.int 4))))
  (wSeq (setO 0 (cut (v 8) (pso (c (.int 1))) pno) (c (.int 4)))
  (wRet (c (.str "drop 0"))))
  (wSeq (setO 0 (o2 Af (v 8) (mls (Aa (v 3) Ab))) (c (.int 4)))
  (wRet (on Hc (Aa (v 3) Ab)))))))))))
def VP:List D->Res D:=fn 10
  (lLaw 1 2 QR
  (lSq (lPl (st 3 (c (.str "floor 8 8\nground 0\nspots 4,4"))))
  (lSq (lIf (lOr (lSay false "say" GZ dNe (c (.str "show")) (v 3)) (lSay true "say" GZ dNe (c (.str "ground 7/2")) (c (.str "ok")))) (c (.bl false)))
  (lSq (lPl (st 4 (o2 Af (on Q5 (Aa (v 0) (Aa (c (.int 0)) (Aa (c (.int 5)) Ab)))) (mls (Aa (make "Plain" HQ (Aa (mtp (Aa (mtp (Aa (c (.int 0)) (Aa (c (.int 0)) (Aa (c (.int 1)) (Aa (c (.int 2)) (Aa (mtp Ab) Ab)))))) (Aa (mtp (Aa (c (.int 5)) (Aa (c (.int 0)) (Aa (c (.int 2)) (Aa (c (.int 1)) (Aa (mtp Ab) Ab)))))) (Aa (mtp (Aa (c (.int 0)) (Aa (c (.int 5)) (Aa (c (.int 3)) (Aa (c (.int 4)) (Aa (mtp Ab) Ab)))))) Ab)))) (Aa (mtp (Aa (c (.int 3)) (Aa (c (.int 1)) Ab))) Ab))) Ab)))))
  (lSq (lPl (stO 5 (mls (Aa (c (.int 8)) (Aa (c (.int 8)) (Aa (mtp (Aa (c (.int 0)) (Aa (c (.int 1)) Ab))) (Aa (mls (Aa (mtp (Aa (c (.int 4)) (Aa (c (.int 4)) Ab))) Ab)) (Aa (mls Ab) (Aa (c (.int 0)) Ab)))))))))
  (lSq (lFor (r1 (Aa (on bMax (Aa (c (.int 6)) (Aa (on bLen (Aa (cut (v 0) (pso (c (.int 8))) (pso (c (.int 20)))) Ab)) Ab))) Ab)) (gN 6)
  (lSq (lPl (asg (gU 2 (gs1 (gN 7) (gs1 (gN 8) gs0))) (on Ia (Aa (o2 Af (on Ig (Aa (v 0) (Aa (o2 Af (c (.int 8)) (v 6)) Ab))) (o2 Ao (v 6) (c (.int 3)))) (Aa (c (.int 2)) Ab)))))
  (lSq (lPl (Kh 5 9 Qh (Aa (o2 Ao (v 7) (c (.int 8))) (Aa (v 8) (Aa (o2 dIx (v 4) (o2 Ao (v 6) (on bLen (Aa (v 4) Ab)))) Ab)))))
  (lIf (lOr (lSay false "say" GZ dNe (v 9) (c (.str "ok"))) (lSay false "say" GZ dNe (c (.str "show")) (pk 5 (on Io (Aa (on bTup (Aa (cut (v 5) pno (pso (c (.int 5)))) Ab)) Ab))))) (c (.bl false))))))
  (lRet (lSay true "say" GZ dEq (c (.str "show")) (c (.str "floor 8 8\nground 7/2\nspots 4,4"))))))))))
variable{U:Dl.D->Prop}{Z:Dl.Ev}{t w:List Nat}{Ψ:Dl.Fl->Prop}{ns:List Int}{cs:List (List Int)}{e:Dl.ME}{k i:Nat}
def X7{k:Int}(hk:0<=k/\k<=1000)(h:∀r,0<=r/\r<2147483648->U (.int r)):Tl (Ot [.int cc,.int k]) U:=by
 unfold Ot;symm;refine Ce (λ_=>?_) (λ_=>?_)
 .symm;refine Ce (λ_=>?_) (λ_=>?_)
  .symm;refine Ce (λ_=>?_) (λ_=>?_)
   .symm
    grind
   .symm
    grind
  .symm
   grind
 .symm
  grind
def cor(x y w h:Int)(vs:List Int):D:=.tup [.int x,.int y,.int w,.int h,.tup (vs.map .int)]
def Bd(x:Int):Prop:=-1000000<=x/\x<=1000000
def Zsg{ys:List D}{n:Nat}(hl:ys.length=n)(h:∀y∈ys,∃v:Int,y=.int v/\Bd v):∃vs:List Int,ys=vs.map .int/\vs.length=n/\∀v∈vs,Bd v:=by
 induction ys generalizing n with
 | nil=>simp_all
 | cons y r ih=>
  obtain ⟨v,rfl,d⟩:=h y Bf;obtain ⟨vs,rfl,l,c⟩:=ih (n:=r.length) rfl λz a=>h z (Bp _ a);refine ⟨v::vs,rfl,by grind,λu b=>?_⟩
  grind
def cA{U:List D->Prop}{g:MG}{e:ME}{Z:Ev}{n:Nat}(h:∀k:Nat,k<n->Tl (g (.int k) Z) λZ1=>Tl (e Z1) λy=>∃v:Int,y=.int v/\Bd v)(q:∀vs:List Int,vs.length=n->(∀v∈vs,Bd v)->U (vs.map .int)):Tl (Bw g yes e Z (Eb 0 n)) U:=by
 have a:(Eb 0 n).length=n:=by unfold Eb;simp
 refine w_all (λ_ y=>∃v:Int,y=.int v/\Bd v) (λx d=>?_) λm l b=>?_
 .obtain ⟨k,p,rfl⟩:=mem_range d
  grind
 .obtain ⟨vs,rfl,j,o⟩:=Zsg (n:=n) (l.trans a) λy f=>by
   obtain ⟨i,c,rfl⟩:=Er.mp f;exact b i _ _ (Bk (by ac_rfl)) (Bk c)
  simp_all
def nZ(ns:List Int)(lo hi:Option Int):∃ms:List Int,cutL (ns.map .int) lo hi=ms.map .int/\ms.length<=ns.length/\∀m∈ms,m∈ns:=by
 refine ⟨(ns.drop (cutAt ns.length 0 lo)).take (cutAt ns.length ns.length hi - cutAt ns.length 0 lo),?_,?_,λm a=>Qu (Gj a)⟩
 .unfold cutL;simp_all
 grind
def Oq{k:Int}(hk:0<=k)(h:∀n,U (.int n)):Tl (Ig [.lst (ns.map .int),.int k]) U:=by
 unfold Ig;symm;refine Ce (λa=>?_) (λ_=>?_)
 .symm;refine Ob (by ac_rfl) λn _=>?_;symm;exact h n
 .symm;exact h 0
end My
namespace Mt
def Zk:∀(ns:List Int) (g:Nat),gcdL g ns∣g
 | [],g=>Nat.dvd_refl g
 | n::r,g=>Nat.dvd_trans (Zk r _) (Nat.gcd_dvd_left g n.natAbs)
def Mz:∀(ns:List Int) (g:Nat) (n:Int),n∈ns->(gcdL g ns:Int)∣n
 | m::r,g,n,h=>by
  rcases Aq.mp h with rfl | h
  .exact Int.ofNat_dvd_left.mpr (Nat.dvd_trans (Zk r _) (Nat.gcd_dvd_right g n.natAbs))
  .exact Mz r _ n h
def dB:∀(ns:List Int) (g c:Nat),gcdL (c*g) (ns.map λn=>(c:Int)*n)=c*gcdL g ns
 | [],_,_=>rfl
 | n::r,g,c=>by
  show gcdL (Nat.gcd (c*g) ((c:Int)*n).natAbs) (r.map λn=>(c:Int)*n)=c*gcdL (Nat.gcd g n.natAbs) r;rw [JQ,EY,Nat.gcd_mul_left];exact dB r _ c
def nT{ns:List Int}{n:Int}(h:n∈ns)(hn:n≠0):0<gcdL 0 ns:=by
 rcases Nat.eq_zero_or_pos (gcdL 0 ns) with z | z
 .have:=Mz ns 0 n h;simp_all
 lia
def low(s:List Int):List Int:=s.map λn=>n/(gcdL 0 s:Int)
def ZL(s:List Int):(low s).length=s.length:=by unfold low;simp
def gV(s:List Int):(low s).map (λn=>(gcdL 0 s:Int)*n)=s:=by
 unfold low;rw [DK]
 conv=>rhs;rw [<-List.map_id s]
 refine Rq λn a=>?_;exact Int.mul_ediv_cancel' (Mz s 0 n a)
def oh{s:List Int}(h:0<gcdL 0 s):gcdL 0 (low s)=1:=by
 have e:=dB (low s) 0 (gcdL 0 s);rw [gV,Nat.mul_zero] at e;exact Nat.eq_of_mul_eq_mul_left h (by lia)
def eQ{s:List Int}{i:Nat}{f:Int}(h:(low s)[i]?=some f):∃n,s[i]?=some n/\(gcdL 0 s:Int)*f=n:=by
 unfold low at h;rw [Cz] at h;cases e:s[i]? with
 | none=>simp_all
 | some n=>
  rw [e] at h;have a:n/(gcdL 0 s:Int)=f:=Fy h;refine ⟨n,rfl,?_⟩;rw [<-a];exact Int.mul_ediv_cancel' (Mz s 0 n (Ed e))
def sums(p q:Int)(a b:List Int):List Int:=List.zipWith (λx y=>p*x+q*y) a b
def Q8{p q:Int}:∀{a b:List Int} {i:Nat} {n:Int},(sums p q a b)[i]?=some n->∃x y,a[i]?=some x/\b[i]?=some y/\n=p*x+q*y
 | [],_,_,_,h=>by trivial
 | _::_,[],_,_,h=>by trivial
 | x::a,y::b,0,n,h=>by simp [sums] at h;simp_all
 | x::a,y::b,i+1,n,h=>by
  obtain ⟨u,w,d,e,c⟩:=Q8 (a:=a) (b:=b) (i:=i) (n:=n) (p:=p) (q:=q) (by simpa [sums] using h);exact ⟨u,w,by simpa using d,by simpa using e,c⟩
def YH(p q:Int)(a b:List Int)(h:a.length=b.length):(sums p q a b).length=a.length:=by unfold sums;simp [h]
end Mt
namespace My
open PySem Dl
variable{U:Dl.D->Prop}{Z:Dl.Ev}{t w:List Nat}{Ψ:Dl.Fl->Prop}{ns:List Int}{cs:List (List Int)}{e:Dl.ME}{k i:Nat}
def Z5(h:U (.int (Mt.gcdL 0 ns))):Tl (Ht [.lst (ns.map .int)]) U:=by
 unfold Ht;symm;refine Oe (λp Z=>∃(a:List Int) (d i b:Cl),p=a.map .int/\Z=[.im (.lst (ns.map .int)),.im (.int (Mt.gcdL 0 a)),d,i,b]) ⟨[],_,_,_,rfl,rfl⟩ ?_ ?_
 .rintro p x r s Z ⟨a,d,i,b,rfl,rfl⟩;obtain ⟨n,rfl⟩ : ∃n:Int,x=.int n:=by
   have:x∈ns.map .int:=by simp_all
   grind
  symm;refine w_wh (λZ=>∃(f m:Nat) (b:Cl),Z=[.im (.lst (ns.map .int)),.im (.int f),.im (.int n),.im (.int m),b]/\Nat.gcd f m=Nat.gcd (Mt.gcdL 0 a) n.natAbs) (Lk 3) ⟨_,_,_,rfl,rfl⟩ (T3 _ _) ?_;rintro Z ⟨f,m,b,rfl,e⟩;symm;refine ⟨λo=>?_,λo=>?_⟩
  .have c:m≠0:=by lia
   symm;refine ⟨_,rfl,⟨m,f%m,_,rfl,?_⟩,?_⟩
   .rw [<-e,Mt.cC]
   .have:=JZ f (Nat.pos_of_ne_zero c);trivial
  .have c:m=0:=by lia
   subst c;rw [Nat.gcd_zero_right] at e;have q:Mt.gcdL 0 (a++[n])=Nat.gcd (Mt.gcdL 0 a) n.natAbs:=by
    have k:∀(l:List Int) (g:Nat),Mt.gcdL g (l++[n])=Nat.gcd (Mt.gcdL g l) n.natAbs:=by
     intro l
     induction l with
     | nil=>exact λg=>rfl
     | cons y l ih=>exact λg=>ih _
    simp_all
   exact ⟨_,rfl,a++[n],.im (.int n),.im (.int ((0:Nat):Int)),b,by simp,by lia⟩
 .rintro Z ⟨a,d,i,b,j,rfl⟩;symm;have:ns=a:=Sw j
  lia
def xN(h:U (.int (Mt.gcdL 0 ns))):Tl (Ht [.tup (ns.map .int)]) U:=by
 unfold Ht;symm;refine Oe (λp Z=>∃(a:List Int) (d i b:Cl),p=a.map .int/\Z=[.im (.tup (ns.map .int)),.im (.int (Mt.gcdL 0 a)),d,i,b]) ⟨[],_,_,_,rfl,rfl⟩ ?_ ?_
 .rintro p x r s Z ⟨a,d,i,b,rfl,rfl⟩;obtain ⟨n,rfl⟩ : ∃n:Int,x=.int n:=by
   have:x∈ns.map .int:=by simp_all
   grind
  symm;refine w_wh (λZ=>∃(f m:Nat) (b:Cl),Z=[.im (.tup (ns.map .int)),.im (.int f),.im (.int n),.im (.int m),b]/\Nat.gcd f m=Nat.gcd (Mt.gcdL 0 a) n.natAbs) (Lk 3) ⟨_,_,_,rfl,rfl⟩ (T3 _ _) ?_;rintro Z ⟨f,m,b,rfl,e⟩;symm;refine ⟨λo=>?_,λo=>?_⟩
  .have c:m≠0:=by lia
   symm;refine ⟨_,rfl,⟨m,f%m,_,rfl,?_⟩,?_⟩
   .rw [<-e,Mt.cC]
   .have:=JZ f (Nat.pos_of_ne_zero c);trivial
  .have c:m=0:=by lia
   subst c;rw [Nat.gcd_zero_right] at e;have q:Mt.gcdL 0 (a++[n])=Nat.gcd (Mt.gcdL 0 a) n.natAbs:=by
    have k:∀(l:List Int) (g:Nat),Mt.gcdL g (l++[n])=Nat.gcd (Mt.gcdL g l) n.natAbs:=by
     intro l
     induction l with
     | nil=>exact λg=>rfl
     | cons y l ih=>exact λg=>ih _
    simp_all
   exact ⟨_,rfl,a++[n],.im (.int n),.im (.int ((0:Nat):Int)),b,by simp,by lia⟩
 .rintro Z ⟨a,d,i,b,j,rfl⟩;symm;have:ns=a:=Sw j
  lia
def fra(t b:Int):D:=.tup [.int (Mt.frT t b),.int (Mt.frB t b)]
def ZuI{t b:Int}(h:b≠0):Int.gcd t b<=b.natAbs:=Nat.le_of_dvd (by ac_rfl) (M5.mpr (Int.gcd_dvd_right t b) |> λy=>by trivial)
def Wq{U:D->Prop}{x y:Int}{k:Nat}(hy:0<y)(s:Sm k y)(hk:k<=8900)(h:U (.int (x.fdiv y))):Tl (Be (.int x) (.int y)) U:=by
 refine w_div hy (s.log (by ac_rfl)) ?_
 grind
def d9{U:D->Prop}{x y:Int}{k:Nat}(hy:y<0)(s:Sm k y)(hk:k<=8900)(h:U (.int (x.fdiv y))):Tl (Be (.int x) (.int y)) U:=w_divN hy (s.log (by ac_rfl)) h
def kJ{U:D->Prop}{t b:Int}{k:Nat}(hb:b≠0)(sb:Sm k b)(hk:k<=8900)(h:U (fra t b)):Tl (Hw [.int t,.int b]) U:=by
 have d:=Mt.Ul (t:=t) hb;have c:Sm k (Int.gcd t b:Int):=sb.le (by rw [EY];exact ZuI hb);unfold Hw;symm;refine Z5 (ns:=[t,b]) ?_;rw [Mt.W3];symm;unfold fra Mt.frT Mt.frB at h;refine Ce (λa=>?_) (λa=>?_)
 .symm;rw [iP a,iP a] at h;refine d9 (by ac_rfl) c.neg hk ?_;symm;refine d9 (by ac_rfl) c.neg hk ?_;symm;exact h
 .symm;rw [iN a,iN a] at h;refine Wq (by ac_rfl) c hk ?_;symm;refine Wq (by ac_rfl) c hk ?_;symm;exact h
def corL(ns:List Int):D:=.tup ((ns.take 4).map .int++[.tup ((ns.drop 4).map .int)])
def wJ(x y w h:Int)(vs:List Int):cor x y w h vs=corL (x::y::w::h::vs):=rfl
def WX{U:D->Prop}{x y w h:Int}{vs:List Int}(hv:vs.length<=1000)(q:U (.lst ((x::y::w::h::vs).map .int))):Tl (JS [corL (x::y::w::h::vs)]) U:=by
 unfold JS;symm;show Tl (dCut (.tup [.int x,.int y,.int w,.int h,.tup (vs.map .int)]) _ _) _;symm;show Tl (Af (.lst [.int x,.int y,.int w,.int h]) (.lst (vs.map .int))) _;refine FZ (by simp;ac_rfl) ?_;symm;exact q
structure Cn(k:Nat)(a:List Int):Prop where
 ex:∃x y w h vs,a=x::y::w::h::vs/\1<=h/\vs.length<=3
 sm:∀n∈a,Sm k n
def ZxJ{U:D->Prop}{a b:List Int}{p q:Int}{k:Nat}(ha:Cn k a)(hb:Cn k b)(hk:k<=1000)(hl:a.length=b.length)(hp:Sm 200 p)(hq:Sm 200 q)(hg:0<Mt.gcdL 0 (Mt.sums p q a b))(h:U (corL (Mt.low (Mt.sums p q a b)))) :
  Tl (Sd [corL a,corL b,.int p,.int q]) U:=by
 obtain ⟨x,y,w,t,o,rfl,R,W⟩:=ha.ex;obtain ⟨A,E,C,j,g,rfl,M,K⟩:=hb.ex;have f:(Mt.sums p q (x::y::w::t::o) (A::E::C::j::g)).length=o.length+4:=by
  rw [Mt.YH _ _ _ _ hl];simp
 have B:∀n∈Mt.sums p q (x::y::w::t::o) (A::E::C::j::g),Sm 1300 n:=by
  intro n s;obtain ⟨i,Q,rfl⟩:=Er.mp s;obtain ⟨u,v,J,G,I⟩:=Mt.Q8 (Bk Q);have H:=ha.sm u (Ed J);have F:=hb.sm v (Ed G);rw [I];exact ((hp.mul H).add (hq.mul F)).mono (by ac_rfl)
 unfold Sd;symm;refine WX (by ac_rfl) ?_;symm;refine WX (by ac_rfl) ?_;symm;rw [aO];refine ⟨by simp;ac_rfl,?_⟩;refine CW (λd=>D.int (p*d.1+q*d.2)) (λ⟨u,v⟩ z=>?_) ?_
 .have H:=ha.sm u (Nz z).1;have F:=hb.sm v (Nz z).2;have V:DX p u=true:=Jm hp H (by ac_rfl);have T:DX q v=true:=Jm hq F (by ac_rfl);symm
 have J:((x::y::w::t::o).zip (A::E::C::j::g)).map (λd=>D.int (p*d.1+q*d.2))=(Mt.sums p q (x::y::w::t::o) (A::E::C::j::g)).map .int:=by
  unfold Mt.sums;rw [List.zip,List.map_zipWith,List.map_zipWith]
 rw [J];generalize hS:Mt.sums p q (x::y::w::t::o) (A::E::C::j::g)=S at *;symm;refine Z5 ?_;symm;refine ⟨by simp;ac_rfl,?_⟩;have N:Sm 1300 (Mt.gcdL 0 S:Int):=by
  have ⟨n,s,n0⟩ : ∃n∈S,n≠0:=by
   by_cases hz:∀n∈S,n=0
   .exfalso;have:∀l:List Int,(∀n∈l,n=0)->Mt.gcdL 0 l=0:=by
     intro l
     induction l with
     | nil=>exact λ_=>rfl
     | cons n r ih=>
      intro h;have e:=h n Bf;subst e;exact ih λm z=>h m (Bp _ z)
    rw [this S hz] at hg;exact aB hg (by decide)
   .exact Jw λP=>hz λn s=>Jw λO=>P ⟨n,s,O⟩
  refine (B n s).le ?_;have:=Mt.Mz S 0 n s;rw [EY];exact Nat.le_of_dvd (by ac_rfl) (Int.ofNat_dvd_left.mp this)
 refine CW (λu=>D.int (u/(Mt.gcdL 0 S:Int))) (λu z=>?_) ?_
 .symm
 have G:S.map (λu=>D.int (u/(Mt.gcdL 0 S:Int)))=(Mt.low S).map .int:=by
  unfold Mt.low;rw [DK];rfl
 rw [G];have c:=Mt.ZL S;generalize Mt.low S=L at *
 match L,c with
 | a0::a1::a2::a3::r,c=>
  symm;have I:cutL ((a0::a1::a2::a3::r).map D.int) (some 4) none=r.map .int:=by
   unfold cutL cutAt;simp;exact GX (by simp)
  rw [I];exact h
 | [],c=>rw [f] at c;simp at c
 | [_],c=>rw [f] at c;simp at c
 | [_,_],c=>rw [f] at c;simp at c
 | [_,_,_],c=>rw [f] at c;simp at c
structure Mx(p q:Int)(a b f:List Int):Prop where
 la:a.length=f.length
 lb:b.length=f.length
 g:∃g:Int,0<g/\∀(i:Nat) (n x y:Int),f[i]?=some n->a[i]?=some x->b[i]?=some y->g*n=p*x+q*y
def Cn.mono{k n:Nat}{a:List Int}(h:Cn k a)(hn:k<=n):Cn n a:=⟨h.ex,λm b=>(h.sm m b).mono hn⟩
structure aC(p q:Int)(k:Nat)(a b:List Int):Prop where
 pos:0<Mt.gcdL 0 (Mt.sums p q a b)
 mx:Mx p q a b (Mt.low (Mt.sums p q a b))
 cn:Cn (k+201) (Mt.low (Mt.sums p q a b))
 one:Mt.gcdL 0 (Mt.low (Mt.sums p q a b))=1
 len:(Mt.low (Mt.sums p q a b)).length=a.length
def zH{a b:List Int}{p q:Int}{k:Nat}(ha:Cn k a)(hb:Cn k b)(hl:a.length=b.length)(hp:0<=p)(hq:0<=q)(hpq:0<p+q)(sp:Sm 200 p)(sq:Sm 200 q):aC p q k a b:=by
 obtain ⟨x,y,w,h,J,E,S,A⟩:=ha.ex;obtain ⟨U,Y,X,o,M,G,O,j⟩:=hb.ex;have t:=Mt.YH p q a b hl;have Q:(Mt.sums p q a b)[3]?=some (p*h+q*o):=by rw [E,G];rfl
 have m:0<p*h+q*o:=by
  rcases Int.lt_or_eq_of_le hp with z | z
  .have:=Int.mul_pos z (show 0<h by ac_rfl);have:=Int.mul_nonneg hq (show 0<=o by ac_rfl);ac_rfl
  .have:0<q:=by ac_rfl
   have:=Int.mul_pos this (show 0<o by ac_rfl);have:=Int.mul_nonneg hp (show 0<=h by ac_rfl);ac_rfl
 have f:0<Mt.gcdL 0 (Mt.sums p q a b):=Mt.nT (Ed Q) (by ac_rfl);have d:(Mt.low (Mt.sums p q a b)).length=a.length:=(Mt.ZL _).trans t;have H:Mx p q a b (Mt.low (Mt.sums p q a b)):=by
  refine ⟨d.symm,hl.symm.trans d.symm,_,Int.ofNat_lt.mpr f,λi n u v C B A=>?_⟩;obtain ⟨s,F,e⟩:=Mt.eQ C;obtain ⟨V,W,l,j,D⟩:=Mt.Q8 F;rw [B] at l;cases l;rw [A] at j;cases j;rw [<-D,<-e]
 refine ⟨f,H,⟨?_,?_⟩,Mt.oh f,d⟩
 .have c:(Mt.low (Mt.sums p q a b)).length=J.length+4:=by rw [d,E];simp
  obtain ⟨g,T,N⟩:=H.g;generalize Mt.low (Mt.sums p q a b)=L at *
  match L,c with
  | a0::a1::a2::a3::r,c=>
   have e:=N 3 a3 h o rfl (by rw [E];rfl) (by rw [G];rfl);refine ⟨a0,a1,a2,a3,r,rfl,?_,?_⟩
   .have:0<g*a3:=by rw [e];exact m
    have:=Int.pos_of_mul_pos_right this (by ac_rfl);ac_rfl
   .simp at c;ac_rfl
  | [],c=>simp at c
  | [_],c=>simp at c
  | [_,_],c=>simp at c
  | [_,_,_],c=>simp at c
 .intro n C;obtain ⟨i,R,rfl⟩:=Er.mp C;obtain ⟨s,F,e⟩:=Mt.eQ (Bk R);obtain ⟨u,v,B,A,D⟩:=Mt.Q8 F;have P:=ha.sm u (Ed B);have I:=hb.sm v (Ed A);have K:Sm (k+201) s:=by rw [D];exact ((sp.mul P).add (sq.mul I)).mono (by ac_rfl)
  refine K.le ?_;rw [<-e,JQ,EY];exact Nat.le_mul_of_pos_left _ f
def fm(A B C G:Int):List Int->Int
 | x::y::w::h::_=>A*x+B*y+C*w+G*h
 | _=>0
abbrev wl(A B C G:Int):D:=.tup [.int A,.int B,.int C,.int G]
structure Wk(k:Nat)(A B C G:Int):Prop where
 a:Sm k A
 b:Sm k B
 c:Sm k C
 g:Sm k G
def Lz{A B C G:Int}{a:List Int}{j k:Nat}(hw:Wk j A B C G)(ha:Cn k a):Sm (j+k+3) (fm A B C G a):=by
 obtain ⟨x,y,w,h,l,rfl,m,n⟩:=ha.ex;have f:=ha.sm x (by simp);have e:=ha.sm y (by simp);have d:=ha.sm w (by simp);have i:=ha.sm h (by simp);exact ((((hw.a.mul f).add (hw.b.mul e)).add (hw.c.mul d)).add (hw.g.mul i)).mono (by ac_rfl)
def Uy{U:D->Prop}{A B C G:Int}{a:List Int}{j k:Nat}(hw:Wk j A B C G)(hj:j<=1000)(ha:Cn k a)(hk:k<=1000)(q:U (.int (fm A B C G a))):Tl (Rv [wl A B C G,corL a]) U:=by
 obtain ⟨x,y,w,h,e,rfl,f,i⟩:=ha.ex;have d:DX A x=true:=Jm hw.a (ha.sm x (by simp)) (by ac_rfl);have l:DX B y=true:=Jm hw.b (ha.sm y (by simp)) (by ac_rfl);have m:DX C w=true:=Jm hw.c (ha.sm w (by simp)) (by ac_rfl);have n:DX G h=true:=Jm hw.g (ha.sm h (by simp)) (by ac_rfl);rw [<-wJ];unfold Rv cor wl;symm;exact q
def met(a b:List Int)(fa fb:Int):List Int:=Mt.low (Mt.sums (fb.natAbs:Int) (fa.natAbs:Int) a b)
def tri(a b c:List Int):D:=.tup [corL a,corL b,corL c]
def three(w:Bool)(a b c:List Int)(fa fb fc:Int):D :=
 if w=true then .tup [.lst [tri a (met a b fa fb) (met c a fc fa)],.lst [tri (met a b fa fb) b c,tri (met a b fa fb) c (met c a fc fa)]]
 else .tup [.lst [tri (met a b fa fb) b c,tri (met a b fa fb) c (met c a fc fa)],.lst [tri a (met a b fa fb) (met c a fc fa)]]
def cutB(a b c:List Int)(fa fb fc:Int):Bool->Bool->Bool->D
 | true,true,true=>.tup [.lst [tri a b c],.lst []]
 | false,false,false=>.tup [.lst [],.lst [tri a b c]]
 | true,false,false=>three true a b c fa fb fc
 | false,true,false=>three true b c a fb fc fa
 | false,false,true=>three true c a b fc fa fb
 | false,true,true=>three false a b c fa fb fc
 | true,false,true=>three false b c a fb fc fa
 | true,true,false=>three false c a b fc fa fb
def Mq{k:Nat}{x:Int}(h:Sm k x):Sm k (x.natAbs:Int):=h.le (by rw [EY];exact Ar _)
def Ym{a b:List Int}{fa fb:Int}{k:Nat}(ha:Cn k a)(hb:Cn k b)(hl:a.length=b.length)(hf:0<fa.natAbs+fb.natAbs)(sa:Sm 200 fa)(sb:Sm 200 fb):aC (fb.natAbs:Int) (fa.natAbs:Int) k a b :=
 zH ha hb hl (by ac_rfl) (by ac_rfl) (by ac_rfl) (Mq sb) (Mq sa)
def YQ{U:D->Prop}{a b:List Int}{fa fb:Int}{k:Nat}(ha:Cn k a)(hb:Cn k b)(hk:k<=900)(hl:a.length=b.length)(hf:0<fa.natAbs+fb.natAbs)(sa:Sm 200 fa)(sb:Sm 200 fb)(q:U (corL (met a b fa fb))):Tl (PB [corL a,corL b,.int fa,.int fb]) U:=by
 unfold PB;symm;refine ZxJ ha hb (by ac_rfl) hl (Mq sb) (Mq sa) (Ym ha hb hl hf sa sb).pos ?_;symm;exact q
def MT{U:D->Prop}{a b c:List Int}{fa fb fc:Int}{k:Nat}(ha:Cn k a)(hb:Cn k b)(hc:Cn k c)(hk:k<=900)(hab:a.length=b.length)(hca:c.length=a.length)(f1:0<fa.natAbs+fb.natAbs)(f2:0<fc.natAbs+fa.natAbs)(sa:Sm 200 fa)(sb:Sm 200 fb)(sc:Sm 200 fc)
  (q:U (.lst [tri a (met a b fa fb) (met c a fc fa),tri (met a b fa fb) b c,tri (met a b fa fb) c (met c a fc fa)])):Tl (Q7 [.tup [corL a,corL b,corL c],.lst [.int fa,.int fb,.int fc]]) U:=by
 unfold Q7;symm;refine YQ ha hb hk hab f1 sa sb ?_;symm;refine YQ hc ha hk hca f2 sc sa ?_;symm;exact q
def KZ{U:D->Prop}{xs ds:List D}{i:Int}(e:cutL xs (some i) none++cutL xs none (some i)=ds)(hl:ds.length<=1000000)(q:U (.tup ds)):Tl (Jp [.tup xs,.int i]) U:=by
 unfold Jp;symm;refine xg (by rw [<-Cd,e];exact hl) ?_;symm;rw [e];exact q
def Lr{U:D->Prop}{xs ds:List D}{i:Int}(e:cutL xs (some i) none++cutL xs none (some i)=ds)(hl:ds.length<=1000000)(q:U (.lst ds)):Tl (Jp [.lst xs,.int i]) U:=by
 unfold Jp;symm;refine FZ (by rw [<-Cd,e];exact hl) ?_;symm;rw [e];exact q
def dT{p:Prop} [Decidable p] (h:p):decide p=true:=Dj h
def dF{p:Prop} [Decidable p] (h:¬p):decide p=false:=Bl h
def Uo{U:D->Prop}{A B C G:Int}{a b c:List Int}{j k:Nat}(hw:Wk j A B C G)(ha:Cn k a)(hb:Cn k b)(hc:Cn k c)(hj:j+k+3<=200)(hab:a.length=b.length)(hca:c.length=a.length)
  (q:U (cutB a b c (fm A B C G a) (fm A B C G b) (fm A B C G c) (decide (0<=fm A B C G a)) (decide (0<=fm A B C G b)) (decide (0<=fm A B C G c)))):Tl (GJ [tri a b c,wl A B C G]) U:=by
 have f:=(Lz hw ha).mono hj;have d:=(Lz hw hb).mono hj;have e:=(Lz hw hc).mono hj;unfold GJ tri;symm;refine ⟨by show (3:Nat)<=_;ac_rfl,?_⟩;refine HN ?_;symm;refine Uy hw (by ac_rfl) ha (by ac_rfl) ?_;symm;refine HN ?_;symm;refine Uy hw (by ac_rfl) hb (by ac_rfl) ?_;symm;refine HN ?_;symm;refine Uy hw (by ac_rfl) hc (by ac_rfl) ?_;symm;refine Ug ?_;symm;generalize fm A B C G a=fa at *;generalize fm A B C G b=fb at *;generalize fm A B C G c=fc at *;refine ⟨by show (3:Nat)<=_;ac_rfl,?_⟩;refine HN ?_;symm;refine HN ?_;symm;refine HN ?_;symm;refine Ug ?_;symm;by_cases h1:0<=fa<;>by_cases h2:0<=fb<;>by_cases h3:0<=fc
 .rw [dT h1,dT h2,dT h3] at q ⊢;refine Ad (x:=.bl true) rfl ?_;symm;exact q
 .rw [dT h1,dT h2,dF h3] at q ⊢;refine Ad (x:=.bl false) rfl ?_;symm;refine Ad (x:=.bl true) rfl ?_;symm;refine Ad (x:=.int 2) rfl ?_;symm;refine Ad (x:=.int 2) rfl ?_;symm;refine KZ (ds:=[corL c,corL a,corL b]) rfl (Fe rfl) ?_;symm;refine Lr (ds:=[.int fc,.int fa,.int fb]) rfl (Fe rfl) ?_;symm;refine MT (k:=k) hc ha hb (by ac_rfl) hca (by ac_rfl) (by ac_rfl) (by ac_rfl) e f d ?_;symm;exact q
 .rw [dT h1,dF h2,dT h3] at q ⊢;refine Ad (x:=.bl false) rfl ?_;symm;refine Ad (x:=.bl true) rfl ?_;symm;refine Ad (x:=.int 2) rfl ?_;symm;refine Ad (x:=.int 1) rfl ?_;symm;refine KZ (ds:=[corL b,corL c,corL a]) rfl (Fe rfl) ?_;symm;refine Lr (ds:=[.int fb,.int fc,.int fa]) rfl (Fe rfl) ?_;symm;refine MT (k:=k) hb hc ha (by ac_rfl) (by ac_rfl) hab (by ac_rfl) (by ac_rfl) d e f ?_;symm;exact q
 .rw [dT h1,dF h2,dF h3] at q ⊢;refine Ad (x:=.bl false) rfl ?_;symm;refine Ad (x:=.bl true) rfl ?_;symm;refine Ad (x:=.int 1) rfl ?_;symm;refine Ad (x:=.int 0) rfl ?_;symm;refine KZ (ds:=[corL a,corL b,corL c]) rfl (Fe rfl) ?_;symm;refine Lr (ds:=[.int fa,.int fb,.int fc]) rfl (Fe rfl) ?_;symm;refine MT (k:=k) ha hb hc (by ac_rfl) hab hca (by ac_rfl) (by ac_rfl) f d e ?_;symm;exact q
 .rw [dF h1,dT h2,dT h3] at q ⊢;refine Ad (x:=.bl false) rfl ?_;symm;refine Ad (x:=.bl true) rfl ?_;symm;refine Ad (x:=.int 2) rfl ?_;symm;refine Ad (x:=.int 0) rfl ?_;symm;refine KZ (ds:=[corL a,corL b,corL c]) rfl (Fe rfl) ?_;symm;refine Lr (ds:=[.int fa,.int fb,.int fc]) rfl (Fe rfl) ?_;symm;refine MT (k:=k) ha hb hc (by ac_rfl) hab hca (by ac_rfl) (by ac_rfl) f d e ?_;symm;exact q
 .rw [dF h1,dT h2,dF h3] at q ⊢;refine Ad (x:=.bl false) rfl ?_;symm;refine Ad (x:=.bl true) rfl ?_;symm;refine Ad (x:=.int 1) rfl ?_;symm;refine Ad (x:=.int 1) rfl ?_;symm;refine KZ (ds:=[corL b,corL c,corL a]) rfl (Fe rfl) ?_;symm;refine Lr (ds:=[.int fb,.int fc,.int fa]) rfl (Fe rfl) ?_;symm;refine MT (k:=k) hb hc ha (by ac_rfl) (by ac_rfl) hab (by ac_rfl) (by ac_rfl) d e f ?_;symm;exact q
 .rw [dF h1,dF h2,dT h3] at q ⊢;refine Ad (x:=.bl false) rfl ?_;symm;refine Ad (x:=.bl true) rfl ?_;symm;refine Ad (x:=.int 1) rfl ?_;symm;refine Ad (x:=.int 2) rfl ?_;symm;refine KZ (ds:=[corL c,corL a,corL b]) rfl (Fe rfl) ?_;symm;refine Lr (ds:=[.int fc,.int fa,.int fb]) rfl (Fe rfl) ?_;symm;refine MT (k:=k) hc ha hb (by ac_rfl) hca (by ac_rfl) (by ac_rfl) (by ac_rfl) e f d ?_;symm;exact q
 .rw [dF h1,dF h2,dF h3] at q ⊢;refine Ad (x:=.bl false) rfl ?_;symm;refine Ad (x:=.bl false) rfl ?_;symm;exact q
abbrev Q4:=Int×Int×Int×Int
abbrev L3:=List Int×List Int×List Int
def wlQ(w:Q4):D:=wl w.1 w.2.1 w.2.2.1 w.2.2.2
def fmQ(w:Q4)(a:List Int):Int:=fm w.1 w.2.1 w.2.2.1 w.2.2.2 a
def WkQ(w:Q4):Prop:=Wk 21 w.1 w.2.1 w.2.2.1 w.2.2.2
def tr3(t:L3):D:=tri t.1 t.2.1 t.2.2
structure Ok3(k:Nat)(t:L3):Prop where
 a:Cn k t.1
 b:Cn k t.2.1
 c:Cn k t.2.2
 ab:t.1.length=t.2.1.length
 ca:t.2.2.length=t.1.length
structure In3(w:Q4)(t:L3):Prop where
 a:0<=fmQ w t.1
 b:0<=fmQ w t.2.1
 c:0<=fmQ w t.2.2
def pJ{g n s:Int}{k:Nat}(hg:0<g)(e:g*n=s)(hs:Sm k s):Sm k n:=by
 refine hs.le ?_;rw [<-e,JQ];have:1<=g.natAbs:=by ac_rfl
 calc n.natAbs=1*n.natAbs:=(Nat.one_mul _).symm
  _<=g.natAbs*n.natAbs:=Nat.mul_le_mul_right _ this
def aG{a b:List Int}{fa fb:Int}{k s:Nat}(ha:Cn k a)(hb:Cn k b)(hl:a.length=b.length)(hf:0<fa.natAbs+fb.natAbs)(sa:Sm s fa)(sb:Sm s fb)(hs:s<=200) :
  Cn (k+s+1) (met a b fa fb)/\(met a b fa fb).length=a.length/\∃g:Int,0<g/\∀A B C G:Int,g*fm A B C G (met a b fa fb)=(fb.natAbs:Int)*fm A B C G a+(fa.natAbs:Int)*fm A B C G b:=by
 have M:=Ym ha hb hl hf (sa.mono hs) (sb.mono hs);obtain ⟨N,K,F,I,r,o,W,X⟩:=M.cn.ex;obtain ⟨g,f,c⟩:=M.mx.g;have L:=M.len;refine ⟨⟨M.cn.ex,λn z=>?_⟩,M.len,g,f,λA B C G=>?_⟩
 .obtain ⟨i,P,rfl⟩:=Er.mp z;have d:i<(Mt.low (Mt.sums (fb.natAbs:Int) (fa.natAbs:Int) a b)).length:=P;have l:i<a.length:=by rw [<-L];exact d
  have j:i<b.length:=by ac_rfl
  have e:=c i _ _ _ (Bk d) (Bk l) (Bk j);have t:=(Mq sb).mul (ha.sm _ (Hz l));have u:=(Mq sa).mul (hb.sm _ (Hz j));exact pJ f e ((t.add u).mono (by ac_rfl))
 .unfold met;obtain ⟨x,y,w,h,R,rfl,S,V⟩:=ha.ex;obtain ⟨H,E,O,J,v,rfl,D,m⟩:=hb.ex;rw [o] at c ⊢;have U:=c 0 N x H rfl rfl rfl;have Q:=c 1 K y E rfl rfl rfl;have T:=c 2 F w O rfl rfl rfl;have Y:=c 3 I h J rfl rfl rfl;generalize (fb.natAbs:Int)=p at *;generalize (fa.natAbs:Int)=q at *;simp only [fm]
  grind
def Wh{g fa fb z:Int}(hg:0<g)(e:g*z=(fb.natAbs:Int)*fa+(fa.natAbs:Int)*fb)(h:(0<=fa/\fb<0)\/(fa<0/\0<=fb)):z=0:=by
 have s:(fb.natAbs:Int)*fa+(fa.natAbs:Int)*fb=0:=by
  rcases h with ⟨h1,h2⟩ | ⟨h1,h2⟩
  .rw [show (fb.natAbs:Int)=-fb by ac_rfl,show (fa.natAbs:Int)=fa by ac_rfl];grind
  .rw [show (fb.natAbs:Int)=fb by ac_rfl,show (fa.natAbs:Int)=-fa by ac_rfl];grind
 rw [s] at e;rcases Int.mul_eq_zero.mp e with z | z
 .ac_rfl
 .exact z
structure Ct3(k:Nat)(w:Q4)(t:L3)(d:D)(P R:List L3):Prop where
 e:d=.tup [.lst (P.map tr3),.lst (R.map tr3)]
 lp:P.length<=2
 lr:R.length<=2
 ok:∀u∈P++R,Ok3 k u
 inn:∀u∈P,In3 w u
 ln:∀n,t.1.length=n->t.2.1.length=n->t.2.2.length=n->∀u∈P++R,u.1.length=n
def Ct3.rot1{k:Nat}{w:Q4}{a b c:List Int}{d:D}{P R:List L3}(h:Ct3 k w (b,c,a) d P R):Ct3 k w (a,b,c) d P R:=⟨h.e,h.lp,h.lr,h.ok,h.inn,λn a b c=>h.ln n b c a⟩
def Ct3.rot2{k:Nat}{w:Q4}{a b c:List Int}{d:D}{P R:List L3}(h:Ct3 k w (c,a,b) d P R):Ct3 k w (a,b,c) d P R:=⟨h.e,h.lp,h.lr,h.ok,h.inn,λn a b c=>h.ln n c a b⟩
def Le{w:Q4}{a b c:List Int}{k s:Nat}(ha:Cn k a)(hb:Cn k b)(hc:Cn k c)(hab:a.length=b.length)(hca:c.length=a.length)(sa:Sm s (fmQ w a))(sb:Sm s (fmQ w b))(sc:Sm s (fmQ w c))(hs:s<=200)(z:Bool)
  (hz:(z=true/\0<=fmQ w a/\fmQ w b<0/\fmQ w c<0)\/(z=false/\fmQ w a<0/\0<=fmQ w b/\0<=fmQ w c)):∃P R,Ct3 (k+s+1) w (a,b,c) (three z a b c (fmQ w a) (fmQ w b) (fmQ w c)) P R:=by
 obtain ⟨o,C,G,B,E⟩:=aG ha hb hab (by ac_rfl) sa sb hs;obtain ⟨v,H,I,F,D⟩:=aG hc ha hca (by ac_rfl) sc sa hs;have K:fmQ w (met a b (fmQ w a) (fmQ w b))=0:=Wh B (E _ _ _ _) (show (0<=fmQ w a/\fmQ w b<0)\/(fmQ w a<0/\0<=fmQ w b) by ac_rfl);have J:fmQ w (met c a (fmQ w c) (fmQ w a))=0:=Wh F (D _ _ _ _) (show (0<=fmQ w c/\fmQ w a<0)\/(fmQ w c<0/\0<=fmQ w a) by ac_rfl);have t:=ha.mono (show k<=k+s+1 by ac_rfl);have q:=hb.mono (show k<=k+s+1 by ac_rfl);have i:=hc.mono (show k<=k+s+1 by ac_rfl);unfold three;generalize met a b (fmQ w a) (fmQ w b)=p at *;generalize met c a (fmQ w c) (fmQ w a)=r at *;have x:Ok3 (k+s+1) (a,p,r):=⟨t,o,v,C.symm,by show r.length=a.length;ac_rfl⟩;have y:Ok3 (k+s+1) (p,b,c):=⟨o,q,i,by show p.length=b.length;ac_rfl,by show c.length=p.length;ac_rfl⟩;have A:Ok3 (k+s+1) (p,c,r):=⟨o,i,v,by show p.length=c.length;ac_rfl,by show r.length=p.length;ac_rfl⟩;have h:∀n,a.length=n->b.length=n->c.length=n->(a,p,r).1.length=n/\(p,b,c).1.length=n/\(p,c,r).1.length=n:=λn j m l=>⟨j,by show p.length=n;ac_rfl,by show p.length=n;ac_rfl⟩;rcases hz with ⟨rfl,j,m,l⟩ | ⟨rfl,j,m,l⟩
 .refine ⟨[(a,p,r)],[(p,b,c),(p,c,r)],rfl,by simp,by simp,λu d=>?_,λu d=>?_,λn e f g u d=>?_⟩
  .simp only [CK,Aq,BL,Bj] at d;rcases d with rfl | rfl | rfl
   .exact x
   .exact y
   .exact A
  .simp only [Aq,BL,Bj] at d;subst d;exact ⟨j,by show 0<=fmQ w p;ac_rfl,by show 0<=fmQ w r;ac_rfl⟩
  .simp only [CK,Aq,BL,Bj] at d;rcases d with rfl | rfl | rfl
   .exact (h n e f g).1
   .exact (h n e f g).2.1
   .exact (h n e f g).2.2
 .refine ⟨[(p,b,c),(p,c,r)],[(a,p,r)],rfl,by simp,by simp,λu d=>?_,λu d=>?_,λn e f g u d=>?_⟩
  .simp only [CK,Aq,BL,Bj] at d;rcases d with (rfl | rfl) | rfl
   .exact y
   .exact A
   .exact x
  .simp only [Aq,BL,Bj] at d;rcases d with rfl | rfl
   .exact ⟨by show 0<=fmQ w p;ac_rfl,m,l⟩
   .exact ⟨by show 0<=fmQ w p;ac_rfl,l,by show 0<=fmQ w r;ac_rfl⟩
  .simp only [CK,Aq,BL,Bj] at d;rcases d with (rfl | rfl) | rfl
   .exact (h n e f g).2.1
   .exact (h n e f g).2.2
   .exact (h n e f g).1
def o9{w:Q4}{t:L3}{k:Nat}(hw:WkQ w)(o:Ok3 k t)(hk:k<=176):∃d P R,GJ [tr3 t,wlQ w]=.ok d/\Ct3 (2*k+25) w t d P R:=by
 obtain ⟨a,b,c⟩:=t;obtain ⟨l,j,m,g,i⟩:=o;dsimp only at l j m g i;have q:Sm (21+k+3) (fmQ w a):=Lz hw l;have p:Sm (21+k+3) (fmQ w b):=Lz hw j;have s:Sm (21+k+3) (fmQ w c):=Lz hw m;have r:k+(21+k+3)+1=2*k+25:=by ac_rfl
 obtain ⟨d,e,z⟩:=Uo (U:=λd=>d=cutB a b c (fmQ w a) (fmQ w b) (fmQ w c) (decide (0<=fmQ w a)) (decide (0<=fmQ w b)) (decide (0<=fmQ w c))) hw l j m (by ac_rfl) g i rfl;subst z;have v:∃P R,Ct3 (2*k+25) w (a,b,c) (cutB a b c (fmQ w a) (fmQ w b) (fmQ w c) (decide (0<=fmQ w a)) (decide (0<=fmQ w b)) (decide (0<=fmQ w c))) P R:=by
  have y:Ok3 (2*k+25) (a,b,c):=⟨l.mono (by ac_rfl),j.mono (by ac_rfl),m.mono (by ac_rfl),g,i⟩;by_cases h1:0<=fmQ w a<;>by_cases h2:0<=fmQ w b<;>by_cases h3:0<=fmQ w c
  .rw [dT h1,dT h2,dT h3];refine ⟨[(a,b,c)],[],rfl,by simp,by simp,λu f=>?_,λu f=>?_,λn x A B u f=>?_⟩
   .simp at f;subst f;exact y
   .simp at f;subst f;exact ⟨h1,h2,h3⟩
   .simp at f;subst f;exact x
  .rw [dT h1,dT h2,dF h3];obtain ⟨P,R,h⟩:=Le m l j i (by ac_rfl) s q p (by ac_rfl) false (.inr ⟨rfl,by ac_rfl,h1,h2⟩);exact ⟨P,R,(r▸h).rot2⟩
  .rw [dT h1,dF h2,dT h3];obtain ⟨P,R,h⟩:=Le j m l (by ac_rfl) g p s q (by ac_rfl) false (.inr ⟨rfl,by ac_rfl,h3,h1⟩);exact ⟨P,R,(r▸h).rot1⟩
  .rw [dT h1,dF h2,dF h3];obtain ⟨P,R,h⟩:=Le l j m g i q p s (by ac_rfl) true (.inl ⟨rfl,h1,by ac_rfl,by ac_rfl⟩);exact ⟨P,R,r▸h⟩
  .rw [dF h1,dT h2,dT h3];obtain ⟨P,R,h⟩:=Le l j m g i q p s (by ac_rfl) false (.inr ⟨rfl,by ac_rfl,h2,h3⟩);exact ⟨P,R,r▸h⟩
  .rw [dF h1,dT h2,dF h3];obtain ⟨P,R,h⟩:=Le j m l (by ac_rfl) g p s q (by ac_rfl) true (.inl ⟨rfl,h2,by ac_rfl,by ac_rfl⟩);exact ⟨P,R,(r▸h).rot1⟩
  .rw [dF h1,dF h2,dT h3];obtain ⟨P,R,h⟩:=Le m l j i (by ac_rfl) s q p (by ac_rfl) true (.inl ⟨rfl,h3,by ac_rfl,by ac_rfl⟩);exact ⟨P,R,(r▸h).rot2⟩
  .rw [dF h1,dF h2,dF h3];refine ⟨[],[(a,b,c)],rfl,by simp,by simp,λu f=>?_,λu f=>?_,λn x A B u f=>?_⟩
   .simp at f;subst f;exact y
   .simp at f
   .simp at f;subst f;exact x
 obtain ⟨P,R,h⟩:=v;exact ⟨_,P,R,e,h⟩
def Ph{U:Fl->Prop}{g:MG}{k:MS}{Z:Ev}{enc:Nat->D}{n:Nat}(I:Nat->Ev->Prop)(h0:I 0 Z)(h:∀j,j<n->∀Z,I j Z->Tl (g (enc j) Z) λZ1=>Tl (k Z1) λf=>∃Z2,f=.nx Z2/\I (j+1) Z2)(hd:∀Z,I n Z->U (.nx Z)):Tl (CG g k ((List.range n).map enc) Z) U:=by
 refine Oe (λp Z=>I p.length Z) h0 (λp x r e Z i=>?_) λZ i=>?_
 .have l:p.length<n:=by
   have:=CP List.length e
   grind
  have ex:x=enc p.length:=by
   have z:=CP (λl=>l[p.length]?) e
   grind
  simp_all
 simp_all
def R3(n:Nat):Eb 0 n=(List.range n).map λ(k:Nat)=>D.int k:=by
 unfold Eb;simp
def Dw(r:Int):Prop:=0<=r/\r<2147483648
def Nx{U:D->Prop}{cc:Int}{n:Nat}(hn:n<=900)(q:∀rs:List Int,rs.length=n->(∀r∈rs,Dw r)->U (.lst (rs.map .int))):Tl (Ia [.int cc,.int n]) U:=by
 unfold Ia;symm;refine ⟨by simp [Eb];ac_rfl,?_⟩;rw [R3,Fz];refine w_all (λ_ y=>∃r:Int,y=.int r/\Dw r) (λx o=>?_) λb h e=>?_
 .obtain ⟨k,f,rfl⟩:=BZ.mp o;have f:=Ex.mp f;symm;exact X7 (by ac_rfl) λr d=>⟨r,rfl,d⟩
 .have l:b.length=n:=by simp_all
  have a:∀y∈b,∃r:Int,y=.int r/\Dw r:=λy j=>by
   obtain ⟨i,m,rfl⟩:=Er.mp j;exact e i _ _ (Bk (by ac_rfl)) (Bk m)
  obtain ⟨rs,rfl,c⟩ : ∃rs:List Int,b=rs.map .int/\∀r∈rs,Dw r:=by
   clear l e h q
   induction b with
   | nil=>simp_all
   | cons y t ih=>
    obtain ⟨r,rfl,d⟩:=a y Bf;obtain ⟨rs,rfl,c⟩:=ih λz g=>a z (Bp _ g);refine ⟨r::rs,rfl,λu p=>?_⟩
    grind
  symm;simp_all
structure Ck(x y w h:Int):Prop where
 x:Bd x
 y:Bd y
 w:1<=w/\w<=1000000
 h:1<=h/\h<=1000000
def cut2(a b:D)(r:List D):cutL (a::b::r) none (some 2)=[a,b]:=by
 rfl
def six{rs:List Int}(h:6<=rs.length):∃n0 n1 n2 n3 n4 n5 t,rs=n0::n1::n2::n3::n4::n5::t:=by
 rcases rs with _ | ⟨n0,_ | ⟨n1,_ | ⟨n2,_ | ⟨n3,_ | ⟨n4,_ | ⟨n5,t⟩⟩⟩⟩⟩⟩<;>first | exact ⟨_,_,_,_,_,_,_,rfl⟩ | (exfalso;simp at h)
def dG{s t e:Int}(hs:1<=s/\s<=8)(ht:1<=t/\t<=3)(he:0<=e/\e<=s*8):Bd (t*(e - s)):=by
 have b:t*(-8)<=t*(e - s):=Vm (by ac_rfl) (by ac_rfl);have a:t*(e - s)<=t*64:=Vm (by ac_rfl) (by ac_rfl);exact ⟨by ac_rfl,by ac_rfl⟩
def aK{U:D->Prop}{rs:List Int}{many:Nat}(hm:many<=3)(hl:rs.length=6+many)(hr:∀r∈rs,Dw r)(q:∀(x y w h:Int) (vs:List Int),Ck x y w h->vs.length=many->(∀v∈vs,Bd v)->U (cor x y w h vs)):Tl (Nt [.lst (rs.map .int),.int many]) U:=by
 obtain ⟨a,b,j,m,i,l,t,rfl⟩:=six (rs:=rs) (by ac_rfl);have N:t.length=many:=by simp at hl;ac_rfl
 have I:=hr a (by simp);have C:=hr b (by simp);have F:=hr j (by simp);have J:=hr m (by simp);have K:=hr i (by simp);have H:=hr l (by simp);unfold Dw at I C F J K H;unfold Nt;symm;rw [show cutL ((a::b::j::m::i::l::t).map D.int) none (some 2)=[.int a,.int b] from cut2 _ _ _];symm;refine Gv (by grind) λd A=>?_;have c:∃s:Int,d=.int s/\1<=s/\s<=8:=by
  grind
 obtain ⟨s,rfl,p⟩:=c;symm;have o:1<=1+a/16%3/\1+a/16%3<=3:=by ac_rfl
 generalize 1+a/16%3=tm at *
 have G:Bd (tm*(a/64%(s*8+1) - s)):=dG p o (by
  grind)
 have L:Bd (tm*(b%(s*8+1) - s)):=dG p o (by
  grind)
 have B:1<=s*tm/\s*tm<=1000000:=by
  grind
 generalize tm*(a/64%(s*8+1) - s)=x at *;generalize tm*(b%(s*8+1) - s)=y at *;generalize s*tm=w at *;refine Gv (by grind) λd A=>?_;have c:∃h:Int,d=.int h/\1<=h/\h<=1000000:=by
  grind
 obtain ⟨h,rfl,z⟩:=c;symm;refine ⟨by simp [Eb];ac_rfl,?_⟩;rw [Fz];refine cA (λk M=>?_) λvs g e=>?_
 .symm;show Tl (dIx (.lst ((a::b::j::m::i::l::t).map .int)) _) _;refine Ob (by lia) λu E=>?_;symm;exact ⟨_,rfl,by ac_rfl,by ac_rfl⟩
 symm;refine Tl.mono (Ψ:=λf=>∃(x y w h:Int) (vs:List Int),Ck x y w h/\vs.length=many/\(∀v∈vs,Bd v)/\f=Fl.nx [.im (.lst ((a::b::j::m::i::l::t).map .int)),.im (.int many),.im (.int a),.im (.int b),.im (.int s),.im (.int tm),.im (.int x),.im (.int y),.im (.int w),.im (.int h),.im (.tup (vs.map .int))]) ?_ ?_
 .refine Ce (λ_=>?_) (λ_=>?_)
  .symm;refine ⟨by simp [Eb];ac_rfl,?_⟩;rw [Fz];refine cA (λk M=>?_) λvs g e=>?_
   .symm;show Tl (dIx (.lst ((a::b::j::m::i::l::t).map .int)) _) _;refine Ob (by lia) λu E=>?_;symm;exact ⟨_,rfl,by ac_rfl,by ac_rfl⟩
   symm;exact ⟨_,_,_,_,vs,⟨⟨by ac_rfl,by ac_rfl⟩,⟨by ac_rfl,by ac_rfl⟩,by ac_rfl,by ac_rfl⟩,g,e,rfl⟩
  .symm;exact ⟨_,_,_,_,vs,⟨G,L,B,z⟩,g,e,rfl⟩
 rintro f ⟨x,y,w,h,vs,n,g,e,rfl⟩;symm;refine Ce (λ_=>?_) (λ_=>?_)
 .symm;exact q _ _ _ _ vs ⟨⟨by ac_rfl,by ac_rfl⟩,n.y,by ac_rfl,n.h⟩ g e
 .symm;exact q _ _ _ _ vs n g e
def vL{rs:List Int}{k:Nat}(h:k<=rs.length):cutL (rs.map .int) none (some (k:Int))=(rs.take k).map .int:=by
 unfold cutL cutAt;rw [Ax];simp only [];rw [iN (by ac_rfl),Fz,N6 h,Hn,Nat.sub_zero,List.map_take]
def U8{rs:List Int}{i k:Nat}(h0:i<=k)(h:k<=rs.length):cutL (rs.map .int) (some (i:Int)) (some (k:Int))=((rs.drop i).take (k - i)).map .int:=by
 unfold cutL cutAt;rw [Ax];simp only [];rw [iN (by ac_rfl),iN (by ac_rfl),Fz,Fz,N6 h,N6 (An h0 h),List.map_take,List.map_drop]
def isC(k:Nat)(d:D):Prop:=∃(x y w h:Int) (vs:List Int),d=cor x y w h vs/\Ck x y w h/\vs.length=k/\∀v∈vs,Bd v
def isT(k:Nat)(d:D):Prop:=∃a b c:D,d=.tup [a,b,c]/\isC k a/\isC k b/\isC k c
def isR(n:Nat)(d:D):Prop:=∃a:List Int,d=.lst (a.map .int)/\a.length=n/\∀r∈a,Dw r
def R5{U:D->Prop}{xs:List D}{i:Int}{P:D->Prop}(h:0<=i/\i<xs.length)(hp:∀x∈xs,P x)(q:∀x,P x->U x):Tl (dIx (.lst xs) (.int i)) U:=Gv h λx a=>q x (hp x a)
def Ub{xs ys:List D}{P:D->Prop}(ly:ys.length=xs.length)(hy:∀(i:Nat) x y,xs[i]?=some x->ys[i]?=some y->P y):∀y∈ys,P y:=λy b=>by
 obtain ⟨i,a,rfl⟩:=Er.mp b;exact hy i _ _ (Bk (by ac_rfl)) (Bk a)
def xO{U:D->Prop}{ns:List Int}{first:Int}{most many:Nat}(hf:0<=first/\first<=100)(hmo:most<=6)(hm:many<=3)(q:∀ts:List D,ts.length<=most->(∀t∈ts,isT many t)->U (.lst ts)):Tl (Rw [.lst (ns.map .int),.int first,.int most,.int many]) U:=by
 unfold Rw;symm;refine ⟨by trivial,?_⟩;refine w_all (λ_ y=>isR (3*(6+many)) y) (λx e=>?_) λN o n=>?_
 .obtain ⟨k,X,rfl⟩:=mem_range e;symm;refine Oq (by ac_rfl) λY=>?_;symm;rw [show (3*(6+(many:Int)))=((3*(6+many):Nat):Int) by ac_rfl];exact Nx (by ac_rfl) λO v l=>⟨O,rfl,v,l⟩
 have n:=Ub o n;have o:N.length=6:=o;symm;refine ⟨by lia,?_⟩;refine w_all (λ_ y=>isC many y) (λx e=>?_) λJ M i=>?_
 .obtain ⟨O,rfl,v,l⟩:=n x e;symm;rw [show (6+(many:Int))=((6+many:Nat):Int) by ac_rfl,vL (by ac_rfl)];exact aK hm (by grind) (λr h=>l r (Gj h)) λx y w h u H K F=>⟨x,y,w,h,u,rfl,H,K,F⟩
 have i:=Ub M i;have M:J.length=6:=M.trans o;symm;refine Oq (by ac_rfl) λY=>?_;symm;rw [show ((most:Int)+1)=((most+1:Nat):Int) by ac_rfl];refine Nx (by ac_rfl) λP ld Q=>?_;symm;refine Ob (by lia) λb L=>?_;have E:Dw b:=Q b L;unfold Dw at E;symm;have hn:0<=b%((most:Int)+1)/\b%((most:Int)+1)<=most:=by
  have:=Ja b (show (most:Int)+1≠0 by ac_rfl);have:=Jk b (show (0:Int)<(most:Int)+1 by ac_rfl);ac_rfl
 generalize b%((most:Int)+1)=m at hn ⊢;symm;rw [R3];refine Ph (λj Z=>∃(ts:List D) (s a c:Cl),ts.length=j/\(∀t∈ts,isT many t)/\Z=[.im (.lst (ns.map .int)),.im (.int first),.im (.int most),.im (.int many),.im (.int (6+(many:Int))),.im (.lst N),.im (.lst J),.im (.lst (P.map .int)),.ow ts,s,a,c]) ⟨[],_,_,_,rfl,λ_ h=>(BL h).elim,rfl⟩ ?_ ?_
 .rintro j hj Z ⟨ts,s,a,c,R,ht,rfl⟩;symm;refine Ob (by lia) λG z=>?_;have I:Dw G:=Q G z;unfold Dw at I;symm;refine R5 (by lia) i λA W=>?_;symm;refine R5 (by lia) i λB V=>?_;symm;refine R5 (by lia) i λC S=>?_;symm;refine Tl.mono (Ψ:=λf=>∃A B C:D,isC many A/\isC many B/\isC many C/\f=Fl.nx [.im (.lst (ns.map .int)),.im (.int first),.im (.int most),.im (.int many),.im (.int (6+(many:Int))),.im (.lst N),.im (.lst J),.im (.lst (P.map .int)),.ow ts,.im (.int j),.im (.int G),.im (.lst [A,B,C])]) ?_ ?_
  .refine Ce (λ_=>?_) (λ_=>?_)
   .symm;refine ⟨by trivial,?_⟩;refine w_all (λ_ y=>isC many y) (λx e=>?_) λT p d=>?_
    .obtain ⟨k,X,rfl⟩:=mem_range e;symm;refine R5 (by lia) n λrow g=>?_;obtain ⟨O,rfl,v,l⟩:=g;have k3:k<3:=X;have ka:(6+many)*k<=(6+many)*2:=Nat.mul_le_mul_left _ (by ac_rfl);symm;rw [show (6+(many:Int))*(k:Int)=(((6+many)*k:Nat):Int) by rfl,show (((6+many)*k:Nat):Int)+(6+(many:Int))=(((6+many)*k+(6+many):Nat):Int) by ac_rfl,U8 (by ac_rfl) (by ac_rfl)];exact aK hm (by grind) (λr h=>l r (Qu (Gj h))) λx y w h u H K F=>⟨x,y,w,h,u,rfl,H,K,F⟩
    have d:=Ub p d;have p:T.length=3:=p;symm
    match T,p with
    | [A,B,C],_=>exact ⟨A,B,C,d A (by simp),d B (by simp),d C (by simp),rfl⟩
   .symm
    lia
  rintro f ⟨A,B,C,W,V,S,rfl⟩;symm;refine ⟨by ac_rfl,_,rfl,ts++[.tup [A,B,C]],_,_,_,by simp [R],λt h=>?_,rfl⟩;rcases CK.mp h with h | h
  .grind
  .simp only [Aq,BL,Bj] at h;subst h;exact ⟨A,B,C,rfl,W,V,S⟩
 .rintro Z ⟨ts,s,a,c,R,ht,rfl⟩;symm
  grind
def frD(q:Rat):D:=.tup [.int q.num,.int (q.den:Int)]
def dh{t b:Int}(hb:b≠0):fra t b=frD (Rat.divInt t b):=by
 have F:=Mt.jy (t:=t) hb;have c:((Rat.divInt t b).den:Int)≠0:=by have:=(Rat.divInt t b).den_nz;ac_rfl
 have e:=(Rat.divInt_eq_divInt_iff c hb).mp (Rat.num_divInt_den (Rat.divInt t b));have r:=(Rat.divInt t b).reduced;have p:=(Rat.divInt t b).den_pos;generalize Rat.divInt t b=q at *;have a:Int.gcd q.num (q.den:Int)=1:=by
  trivial
 have s:=F.same
 obtain ⟨d,f⟩:=Mt.o5 F.pos F.low (show 1<=(q.den:Int) by ac_rfl) a (by
  generalize Mt.frT t b=T at *;generalize Mt.frB t b=B at *;refine Int.eq_of_mul_eq_mul_left hb ?_
  grind)
 unfold fra frD
 lia
structure Bq(k:Nat)(q:Rat):Prop where
 n:Sm k q.num
 d:Sm k (q.den:Int)
def Xy{t b:Int}{k:Nat}(hb:0<b)(st:Sm k t)(sb:Sm k b):Bq k (Rat.divInt t b):=by
 have e:=dh (t:=t) (b:=b) (by ac_rfl);unfold fra frD Mt.frT Mt.frB at e;rw [iN (by ac_rfl),iN (by ac_rfl)] at e;have a:0<(Int.gcd t b:Int):=by have:=Mt.Ul (t:=t) (b:=b) (by ac_rfl);ac_rfl
 injection e with e
 injection e with e1 e2
 injection e1 with e1
 injection e2 with e2 _
 injection e2 with e2
 refine ⟨st.le ?_,sb.le ?_⟩
 .rw [<-e1];exact Mt.aQ a
 .rw [<-e2];exact Mt.aQ a
def Qi{U:D->Prop}{t b:Int}{k:Nat}(hb:0<b)(st:Sm k t)(sb:Sm k b)(hk:k<=8000)(h:Bq k (Rat.divInt t b)->U (frD (Rat.divInt t b))):Tl (Hw [.int t,.int b]) U:=by
 refine kJ (by ac_rfl) sb (by ac_rfl) ?_;rw [dh (by ac_rfl)];exact h (Xy hb st sb)
def den1(q:Rat):0<(q.den:Int):=by have:=q.den_pos;ac_rfl
def oN{α:Type}{U:Fl->Prop}{g:MG}{k:MS}{Z:Ev}{enc:α->D}{l:List α}(I:List α->Ev->Prop)(h0:I [] Z)(h:∀p a r,p++a::r=l->∀Z,I p Z->Tl (g (enc a) Z) λZ1=>Tl (k Z1) λf=>∃Z2,f=.nx Z2/\I (p++[a]) Z2)(hd:∀Z,I l Z->U (.nx Z)):Tl (CG g k (l.map enc) Z) U:=by
 have c:∀(r p:List α),p++r=l->∀Z,I p Z->Tl (CG g k (r.map enc) Z) U:=by
  intro r
  induction r with
  | nil=>
   intro p e Z i;rw [FJ] at e;exact w_f0 (hd Z (e▸i))
  | cons a r ih=>
   intro p e Z i;rw [Bg];refine w_f1 ((h p a r e Z i).mono λZ1 t=>t.mono λf zq=>?_);obtain ⟨Z2,d,b⟩:=zq;subst d;exact ih (p++[a]) (by simp_all) Z2 b
 simp_all
def rowD(w:Nat)(R:Nat->Rat):D:=.lst ((List.range w).map λj=>frD (R j))
def patD(h w:Nat)(P:Nat->Nat->Rat):D:=.lst ((List.range h).map λi=>rowD w (P i))
def Ct(n:Nat):Prop:=n=1\/n=2\/n=4\/n=8\/n=16
def Ct.le{n:Nat}(h:Ct n):1<=n/\n<=16:=by unfold Ct at h;ac_rfl
def bQ{U:D->Prop}{n:Nat}(hn:Ct n)(h:U (.bl false)):Tl (dNin (.int n) (.tup [.int 1,.int 2,.int 4,.int 8,.int 16])) U:=by
 refine Ad ?_ h;rcases hn with rfl | rfl | rfl | rfl | rfl<;>rfl
def R4{U:D->Prop}{n:Int}(h:U (.bl true)):Tl (Gm [.int n]) U:=by
 unfold Gm;symm;exact h
def Ru{U:D->Prop}{q:Rat}(h:U (.bl true)):Tl (Jj [frD q]) U:=by
 have d:=den1 q;unfold Jj frD;symm;refine R4 ?_;symm;refine R4 ?_;symm;refine xN (ns:=[q.num,(q.den:Int)]) ?_;rw [Mt.W3,show Int.gcd q.num (q.den:Int)=1 by show Nat.gcd q.num.natAbs (q.den:Int).natAbs=1;rw [EY];exact q.reduced];symm;exact h
def mL{U:D->Prop}{h w:Nat}{P:Nat->Nat->Rat}(hh:Ct h)(hw:Ct w)(q:U .non):Tl (M8 [patD h w P]) U:=by
 have e:=hh.le;have c:=hw.le;have b:patD h w P=.lst (rowD w (P 0)::((List.range (h - 1)).map λi=>rowD w (P (i+1)))):=by
  unfold patD;obtain ⟨k,rfl⟩ : ∃k,h=k+1:=⟨h - 1,by ac_rfl⟩;rw [List.range_succ_eq_map,Bg,DK];rfl
 unfold M8;unfold patD;symm;rw [Ax,Jc];refine bQ hh ?_;symm;refine Ph (λj Z=>∃a:Cl,Z=[.im (patD h w P),a]) ⟨_,rfl⟩ ?_ ?_
 .rintro j d Z ⟨a,rfl⟩;unfold rowD;symm;rw [Ax,Jc];refine bQ hw ?_;symm;rw [b];symm;unfold rowD;symm;rw [Ax,Jc,Ax,Jc];symm;refine ⟨by grind,?_⟩;refine CW (λ_:Nat=>D.bl true) (λk g=>?_) ?_
  .symm;exact Ru rfl
  symm;refine QG (λy f=>?_) ?_
  .simp_all
  symm
  lia
 .rintro Z ⟨a,rfl⟩;symm;exact q
def xR{U:D->Prop}{vs:List Int}(hl:vs.length<=3)(h:U (.bl true)):Tl (QS [.tup (vs.map .int)]) U:=by
 unfold QS;symm;rw [Ax];symm;refine ⟨by ac_rfl,?_⟩;refine CW (λ_:Int=>D.bl true) (λk b=>?_) ?_
 .symm;exact R4 rfl
 symm;refine QG (λy a=>?_) ?_
 .simp_all
 symm;exact h
def Uv{U:D->Prop}{x y w h:Int}{vs:List Int}(hh:1<=h)(hl:vs.length<=3)(q:U (.bl true)):Tl (Pz [cor x y w h vs]) U:=by
 unfold Pz cor;symm;rw [show cutL [D.int x,D.int y,D.int w,D.int h,D.tup (List.map D.int vs)] none (some 4)=[x,y,w,h].map D.int from rfl];refine ⟨by simp_all,?_⟩;refine CW (λ_:Int=>D.bl true) (λk b=>?_) ?_
 .symm;exact R4 rfl
 symm;refine QG (λy a=>?_) ?_
 .simp_all
 symm;refine xR hl ?_;symm;exact q
structure Cw(B:Nat)(x y w h:Int):Prop where
 x:Sm B x
 y:Sm B y
 sw:Sm B w
 sh:Sm B h
 w:1<=w
 h:1<=h
structure Tr(B k:Nat)(T:D):Prop where
 ex:∃(ax ay aw ah bx bY bw bh cx cy cw ch:Int) (av bv cv:List Int),T=.tup [cor ax ay aw ah av,cor bx bY bw bh bv,cor cx cy cw ch cv]/\Cw B ax ay aw ah/\Cw B bx bY bw bh/\Cw B cx cy cw ch /\
  av.length=k/\bv.length=k/\cv.length=k/\(∀v∈av,Sm B v)/\(∀v∈bv,Sm B v)/\(∀v∈cv,Sm B v)
def qO{B k:Nat}{T:D}(hk:k<=3)(h:Tr B k T):QT [T]=.ok .non:=by
 obtain ⟨o,r,q,l,s,u,m,w,d,g,i,f,e,p,n,rfl,b,c,a,j,v,t,_⟩:=h;refine Tl.eq ?_;unfold QT;symm;refine w_f1 ?_;symm;refine Uv b.h (by ac_rfl) ?_;unfold cor;symm;refine w_f1 ?_;symm;refine Uv c.h (by ac_rfl) ?_;symm;refine w_f1 ?_;symm;refine Uv a.h (by ac_rfl) ?_;symm;refine w_f0 ?_;symm
def qw{B k:Nat}{T:D}(h:Tr B k T):QM [T]=.ok .non:=by
 obtain ⟨q,t,s,n,u,y,o,A,d,i,j,g,e,r,p,rfl,b,c,a,l,z,x,_⟩:=h;have m:=b.w;have f:=c.w;have v:=a.w;refine Tl.eq ?_;unfold QM cor;symm;refine w_f1 ?_;symm;refine w_f1 ?_;symm;refine w_f1 ?_;symm;refine w_f0 ?_;symm
def aL(q:Rat):M4 [frD q]=.ok .non:=by
 refine Tl.eq ?_;unfold M4;symm;refine Ru ?_;symm
def zg{q:Rat}(h0:0<=q.num)(h1:q.num<=q.den):Rc [frD q]=.ok .non:=by
 refine Tl.eq ?_;unfold Rc;symm;refine Ru ?_;unfold frD;symm
def Wy{B k:Nat}{T:D}{n:Int}(h:Tr B k T)(hn:n<=k):O5 [T,.int n]=.ok .non:=by
 obtain ⟨o,r,q,j,t,v,l,x,a,d,f,c,b,p,m,rfl,i,s,e,g,w,u,_⟩:=h;refine Tl.eq ?_;unfold O5 cor;symm
def Ms{f:Str}{d:D}{k:MSi}{Z:Ev}{fl:Fs}{e:ME}(he:e Z=.ok d)(hn:(fl.map (·.1)).contains f=false)(hl:fl.length<100):iSet f e k Z fl=k Z (fl++[(f,d)]):=by
 unfold iSet;rw [he];show (if (fl.map (·.1)).contains f=true\/100<=fl.length then Res.bad else k Z (fl++[(f,d)]))=_
 lia
def JB{d:D}{k:MSi}{Z:Ev}{fl:Fs}{e:ME}(he:e Z=.ok d):iDrp e k Z fl=k Z fl:=by
 unfold iDrp;rw [he];rfl
def RG{g:List D->Fs->Res Fs}{a:MA}{ds:List D}{k:MSi}{Z:Ev}{fl fl':Fs}(ha:a Z=.ok ds)(hg:g ds fl=.ok fl'):iSup g a k Z fl=k Z fl':=by
 unfold iSup;rw [ha];show (g ds fl).bind _=_;rw [hg];rfl
def no_c:([("triangle" : Str)]:List Str).contains "colour"=false:=by rfl
def mz:([("triangle" : Str)]:List Str).contains "pattern"=false:=by rfl
def xx:([("triangle" : Str),"colour"]:List Str).contains "part"=false:=by rfl
abbrev fsT(T:D):Fs:=[(("triangle" : Str),T)]
def Px{B k:Nat}{T:D}(hk:k<=3)(h:Tr B k T):H9 [T] []=.ok (fsT T):=by
 unfold H9 fnI;rw [JB (d:=.non) (qO hk h),JB (d:=.non) (qw h),Ms (d:=T) rfl rfl (by decide)];rfl
def PN{B k:Nat}{T:D}{q:Rat}(hk:k<=3)(h:Tr B k T):HQ [T,frD q] []=.ok [(("triangle" : Str),T),(("colour" : Str),frD q)]:=by
 unfold HQ fnI;rw [RG (ds:=[T]) rfl (Px hk h),JB (d:=.non) (aL q),Ms (d:=frD q) rfl no_c (by simp_all)];rfl
def Pa{B k:Nat}{T:D}(hk:k<=3)(h:Tr B k T)(h1:1<=k):H8 [T] []=.ok (fsT T):=by
 unfold H8 fnI;rw [RG (ds:=[T]) rfl (Px hk h),JB (d:=.non) (Wy h (by ac_rfl))];rfl
def Q3{B k:Nat}{T:D}{q r:Rat}(hk:k<=3)(h:Tr B k T)(h0:0<=r.num)(h1:r.num<=r.den):H7 [T,frD q,frD r] []=.ok [(("triangle" : Str),T),(("colour" : Str),frD q),(("part" : Str),frD r)]:=by
 unfold H7 fnI;rw [RG (ds:=[T]) rfl (Px hk h),JB (d:=.non) (aL q),JB (d:=.non) (zg h0 h1),Ms (d:=frD q) rfl no_c (by simp_all),Ms (d:=frD r) rfl xx (by simp_all)];rfl
def ur{U:D->Prop}{h w:Nat}{P:Nat->Nat->Rat}(hh:h<=100)(q:U (patD h w P)):Tl (M3 [patD h w P]) U:=by
 unfold M3 patD;symm;refine ⟨by grind,?_⟩;refine CW (λi:Nat=>rowD w (P i)) (λi a=>?_) ?_
 .unfold rowD;symm
 symm;exact q
def Rb{B k h w:Nat}{T:D}{P:Nat->Nat->Rat}(hk:k<=3)(ht:Tr B k T)(h2:2<=k)(hh:Ct h)(hw:Ct w):Ii [T,patD h w P] []=.ok [(("triangle" : Str),T),(("pattern" : Str),patD h w P)]:=by
 have c:=hh.le;have a:M8 [patD h w P]=.ok .non:=Tl.eq (mL hh hw rfl);have b:M3 [patD h w P]=.ok (patD h w P):=Tl.eq (ur (by ac_rfl) rfl);unfold Ii fnI;rw [RG (ds:=[T]) rfl (Px hk ht),JB (d:=.non) (Wy ht (by ac_rfl)),JB (d:=.non) a,Ms (d:=patD h w P) b mz (by simp_all)];rfl
inductive Thg:D->Prop
 | plain {k:Nat} {T:D} {q:Rat}:Tr 20 k T->k<=3->Bq 32 q->Thg (.ins "Plain" ["triangle","colour"] [T,frD q])
 | shaded {k:Nat} {T:D}:Tr 20 k T->k<=3->1<=k->Thg (.ins "Shaded" ["triangle"] [T])
 | patt {k h w:Nat} {T:D} {P:Nat->Nat->Rat}:Tr 20 k T->k<=3->2<=k->Ct h->Ct w->(∀i,i<h->∀j,j<w->Bq 32 (P i j))->Thg (.ins "Patterned" ["triangle","pattern"] [T,patD h w P])
 | glass {k:Nat} {T:D} {q r:Rat}:Tr 20 k T->k<=3->Bq 32 q->Bq 32 r->0<=r.num->r.num<=r.den->Thg (.ins "Glass" ["triangle","colour","part"] [T,frD q,frD r])
def fC1(T q:D):dFld objs "colour" (.ins "Plain" ["triangle","colour"] [T,q])=.ok q:=rfl
def fC4(T q r:D):dFld objs "colour" (.ins "Glass" ["triangle","colour","part"] [T,q,r])=.ok q:=rfl
def fP4(T q r:D):dFld objs "part" (.ins "Glass" ["triangle","colour","part"] [T,q,r])=.ok r:=rfl
def fN3(T q:D):dFld objs "pattern" (.ins "Patterned" ["triangle","pattern"] [T,q])=.ok q:=rfl
def Wf{α β:Type}(f:α->β)(R:Nat->α)(x:α)(n:Nat):(List.range n).map (λi=>f (R i))++[f x]=(List.range (n+1)).map λi=>f ((λi=>if i=n then x else R i) i):=by
 rw [List.range_succ,GC];show _=_++[f (if n=n then x else R n)]
 rw [iP rfl,show (List.range n).map (λi=>f ((λi=>if i=n then x else R i) i))=(List.range n).map (λi=>f (R i)) from Rq λi a=>by
  grind]
def Ux(a:Int):D.tup [.int a,.int 1]=frD (a:Rat):=rfl
def Td{a:Int}{k:Nat}(h:Sm k a)(hk:1<=k):Bq k (a:Rat):=⟨h,by
 show (1:Int).natAbs<2^k
 grind⟩
def uZ{U:D->Prop}{n more:Int}(hn:0<=n)(q:∀(h w:Nat) (P:Nat->Nat->Rat),Ct h->Ct w->(∀i,i<h->∀j,j<w->Bq 32 (P i j))->U (patD h w P)):Tl (PP [.int n,.int more]) U:=by
 unfold PP;symm;refine Gv ⟨by ac_rfl,by grind⟩ λd a=>?_;obtain ⟨h,rfl,l⟩ : ∃n:Nat,d=.int n/\Ct n:=by
  simp only [Aq,BL,Bj] at a;rcases a with rfl | rfl | rfl | rfl
  .exact ⟨1,rfl,by unfold Ct;ac_rfl⟩
  .exact ⟨2,rfl,by unfold Ct;ac_rfl⟩
  .exact ⟨4,rfl,by unfold Ct;ac_rfl⟩
  .exact ⟨16,rfl,by unfold Ct;ac_rfl⟩
 symm;refine Gv ⟨by ac_rfl,by grind⟩ λd a=>?_;obtain ⟨w,rfl,m⟩ : ∃n:Nat,d=.int n/\Ct n:=by
  simp only [Aq,BL,Bj] at a;rcases a with rfl | rfl | rfl | rfl
  .exact ⟨1,rfl,by unfold Ct;ac_rfl⟩
  .exact ⟨2,rfl,by unfold Ct;ac_rfl⟩
  .exact ⟨8,rfl,by unfold Ct;ac_rfl⟩
  .exact ⟨4,rfl,by unfold Ct;ac_rfl⟩
 have v:=l.le;have z:=m.le;symm;rw [R3,Fz];refine Ph (λj Z=>∃(P:Nat->Nat->Rat) (f e c b:Cl),(∀i,i<j->∀t,t<w->Bq 32 (P i t))/\Z=[.im (.int n),.im (.int more),.im (.int h),.im (.int w),.ow ((List.range j).map λi=>rowD w (P i)),f,e,c,b]) ⟨λ_ _=>0,_,_,_,_,(λi g=>aB g (Nat.not_lt_zero i)),rfl⟩ ?_ ?_
 .rintro j u Z ⟨P,f,e,c,b,o,rfl⟩;symm;rw [R3,Fz];refine Ph (λt Z=>∃(R:Nat->Rat) (c b:Cl),(∀i,i<t->Bq 32 (R i))/\Z=[.im (.int n),.im (.int more),.im (.int h),.im (.int w),.ow ((List.range j).map λi=>rowD w (P i)),.im (.int j),.ow ((List.range t).map λi=>frD (R i)),c,b]) ⟨λ_=>0,_,_,(λi g=>aB g (Nat.not_lt_zero i)),rfl⟩ ?_ ?_
  .rintro t s Z ⟨R,c,b,p,rfl⟩;symm;refine X7 (by ac_rfl) λr A=>?_;symm;refine Qi (k:=32) (by ac_rfl) (by show (r - 10^9).natAbs<2^32;ac_rfl) (by show (1+r/9%99).natAbs<2^32;ac_rfl) (by decide) λy=>?_;symm;rw [Ux];refine Gv ⟨by ac_rfl,by grind⟩ λd a=>?_;obtain ⟨x,rfl,B⟩ : ∃x:Rat,d=frD x/\Bq 32 x:=by
    simp only [Aq,BL,Bj] at a;rcases a with rfl | rfl
    .exact ⟨_,rfl,Td (by show (r%7).natAbs<2^32;ac_rfl) (by decide)⟩
    lia
   refine ⟨by grind,?_⟩;rw [Wf frD R x t]
   grind
  .rintro Z ⟨R,c,b,p,rfl⟩;symm;refine ⟨by grind,?_⟩;rw [show D.lst ((List.range w).map λi=>frD (R i))=rowD w R from rfl,Wf (rowD w) P R j]
   grind
 .rintro Z ⟨P,f,e,c,b,o,rfl⟩;symm;exact q h w P l m o
def Dm{U:D->Prop}{c:Str}{g:List D->Fs->Res Fs}{a:MA}{Z:Ev}(h:Tl (a Z) λds=>∃fl,g ds []=.ok fl/\U (.ins c (fl.map (·.1)) (fl.map (·.2)))):Tl (make c g a Z) U:=by
 obtain ⟨ds,d,fl,b,q⟩:=h;refine Ad ?_ q;unfold make;rw [d];show (g ds []).bind _=_;rw [b];rfl
def wZ{rs:List Int}{k:Nat}:cutL (rs.map .int) none (some (k:Int))=(rs.take k).map .int:=by
 unfold cutL cutAt;rw [Ax];simp only [];rw [iN (by ac_rfl),Fz,Hn,Nat.sub_zero,List.map_take];by_cases h:k<=rs.length
 .rw [N6 h]
 .rw [Nat.min_eq_right (by ac_rfl),GX (by simp),GX (by simp;ac_rfl)]
def bd20{x:Int}(h:Bd x):Sm 20 x:=by
 unfold Bd at h;show x.natAbs<2^20;ac_rfl
def cw_of{x y w h:Int}(c:Ck x y w h):Cw 20 x y w h:=⟨bd20 c.x,bd20 c.y,bd20 (by have:=c.w;unfold Bd;ac_rfl),bd20 (by have:=c.h;unfold Bd;ac_rfl),c.w.1,c.h.1⟩
def LK{k:Nat}{d:D}(h:isT k d):Tr 20 k d:=by
 obtain ⟨a,b,c,rfl,⟨t,y,x,q,g,rfl,p,n,C⟩,⟨A,F,s,G,w,rfl,z,E,u⟩,⟨f,j,m,i,r,rfl,l,B,o⟩⟩:=h;exact ⟨t,y,x,q,A,F,s,G,f,j,m,i,g,w,r,rfl,cw_of p,cw_of z,cw_of l,n,E,B,λv e=>bd20 (C v e),λv e=>bd20 (u v e),λv e=>bd20 (o v e)⟩
def uy{x y w h:Int}{vs:List Int}{f:Nat}:∃d1,dCut (cor x y w h vs) none (some 4)=.ok d1/\Af d1 (.tup [.tup (cutL (vs.map .int) none (some (f:Int)))])=.ok (cor x y w h (vs.take f)):=by
 refine ⟨.tup [.int x,.int y,.int w,.int h],rfl,?_⟩;rw [wZ];rfl
def qW{U:D->Prop}{k:Nat}{T:D}{n0 n1 n2 n3:Int}(d0:Dw n0)(d1:Dw n1)(d2:Dw n2)(d3:Dw n3)(hk:2<=k/\k<=3)(ht:isT k T)(q:∀d,Thg d->U d):Tl (RM [.lst [.int n0,.int n1,.int n2,.int n3],T]) U:=by
 unfold Dw at d0 d1 d2 d3;unfold RM;symm;refine Qi (k:=32) (by ac_rfl) (by show (2*(n0/8%9)+1).natAbs<2^32;ac_rfl) (by show (2:Int).natAbs<2^32;decide) (by decide) λhB1=>?_;symm;refine Qi (k:=32) (by ac_rfl) (by show (n1 - 10^9).natAbs<2^32;ac_rfl) (by show (1+n2).natAbs<2^32;ac_rfl) (by decide) λhB2=>?_;symm;rw [Ux];refine Gv ⟨by ac_rfl,by grind⟩ λd j=>?_;obtain ⟨cq,rfl,Y⟩ : ∃x:Rat,d=frD x/\Bq 32 x:=by
  simp only [Aq,BL,Bj] at j;rcases j with rfl | rfl | rfl
  .exact ⟨_,rfl,Td (by show (n0/8%9 - 2).natAbs<2^32;ac_rfl) (by decide)⟩
  .lia
  lia
 clear j;symm;refine Ce (λw0=>?_) (λw0=>?_)
 .obtain ⟨a,b,c,rfl,⟨R,C,s,O,W,rfl,ca,la,ba⟩,⟨S,z,B,Q,V,rfl,cb,lb,bb⟩,⟨L,G,I,u,cv,rfl,cc,lc,bc⟩⟩:=ht;obtain ⟨f,hf⟩ : ∃f:Nat,1+n0/8%3=(f:Int):=⟨(1+n0/8%3).toNat,by ac_rfl⟩;symm;refine Dm ?_;symm;refine ⟨by simp_all,?_⟩;rw [hf];have i:=λ(x y w h:Int) (vs:List Int)=>uy (x:=x) (y:=y) (w:=w) (h:=h) (vs:=vs) (f:=f);obtain ⟨a1,J,K⟩:=i R C s O W;obtain ⟨b1,E,N⟩:=i S z B Q V;obtain ⟨c1,F,H⟩:=i L G I u cv;have X:Tr 20 (min f k) (.tup [cor R C s O (W.take f),cor S z B Q (V.take f),cor L G I u (cv.take f)]):=⟨R,C,s,O,S,z,B,Q,L,G,I,u,_,_,_,rfl,cw_of ca,cw_of cb,cw_of cc,by simp_all,by simp_all,by simp_all,λv r=>bd20 (ba v (Gj r)),λv r=>bd20 (bb v (Gj r)),λv r=>bd20 (bc v (Gj r))⟩;refine HN ?_;symm;refine Ad J ?_;symm;refine Ad K ?_;symm;refine HN ?_;symm;refine Ad E ?_;symm;refine Ad N ?_;symm;refine HN ?_;symm;refine Ad F ?_;symm;refine Ad H ?_;symm;refine Ug ?_;symm;exact ⟨_,Pa (by ac_rfl) X (by ac_rfl),by symm; exact q _ (.shaded X (by ac_rfl) (by ac_rfl))⟩
 symm;refine Ce (λw1=>?_) (λw1=>?_)
 .symm;refine Dm ?_;symm;refine uZ (by ac_rfl) λh w P Z hw hP=>?_;symm;exact ⟨_,Rb hk.2 (LK ht) hk.1 Z hw,by symm; exact q _ (.patt (LK ht) hk.2 hk.1 Z hw hP)⟩
 symm;refine Ce (λw2=>?_) (λw2=>?_)
 .symm;refine Dm ?_;symm;exact ⟨_,PN hk.2 (LK ht),by symm; exact q _ (.plain (LK ht) hk.2 Y)⟩
 symm;refine Qi (k:=32) (t:=n3%(1+n1)) (by ac_rfl) (by have:=Ja n3 (show 1+n1≠0 by ac_rfl);have:=Jk n3 (show 0<1+n1 by ac_rfl);show (n3%(1+n1)).natAbs<2^32;ac_rfl) (by show (1+n1).natAbs<2^32;ac_rfl) (by decide) λhB3=>?_;symm;have r0:=Ja n3 (show 1+n1≠0 by ac_rfl);have r1:=Jk n3 (show 0<1+n1 by ac_rfl);have lo:∀{t b:Int},0<=t->t<=b->0<b->0<=(Rat.divInt t b).num/\(Rat.divInt t b).num<=(Rat.divInt t b).den:=by
  intro t b M A o;have d0:=den1 (Rat.divInt t b);have e:=(Rat.divInt_eq_divInt_iff (by ac_rfl) (by ac_rfl)).mp (Rat.num_divInt_den (Rat.divInt t b));generalize (Rat.divInt t b).num=p at *;generalize ((Rat.divInt t b).den:Int)=m at *;have g0:0<=t*m:=Int.mul_nonneg M (by ac_rfl);have g1:t*m<=b*m:=Int.mul_le_mul_of_nonneg_right A (by ac_rfl);constructor
  .by_cases c:0<=p
   .exact c
   .exfalso;have:=Int.mul_lt_mul_of_pos_right (show p<0 by ac_rfl) o;ac_rfl
  .by_cases c:p<=m
   .exact c
   .exfalso;have:=Int.mul_lt_mul_of_pos_right (show m<p by ac_rfl) o
    lia
 refine Gv ⟨by ac_rfl,by grind⟩ λd j=>?_;obtain ⟨pq,rfl,hp,l,n⟩ : ∃x:Rat,d=frD x/\Bq 32 x/\0<=x.num/\x.num<=x.den:=by
  have g:∀{t b:Int},D.tup [.int t,.int b]=frD (Rat.divInt t b)->0<=t->t<=b->0<b->b<2^30->∃x:Rat,D.tup [.int t,.int b]=frD x/\Bq 32 x/\0<=x.num/\x.num<=x.den:=λ{t b} e M A o h2=>⟨_,e,Xy o (by show t.natAbs<2^32;ac_rfl) (by show b.natAbs<2^32;ac_rfl),lo M A o⟩;simp only [Aq,BL,Bj] at j;rcases j with rfl | rfl | rfl | rfl | rfl | rfl
  .exact g (t:=0) (b:=1) (by rfl) (by decide) (by decide) (by decide) (by decide)
  .exact g (t:=1) (b:=2) (by rfl) (by decide) (by decide) (by decide) (by decide)
  .exact g (t:=1) (b:=3) (by rfl) (by decide) (by decide) (by decide) (by decide)
  .exact g (t:=2) (b:=3) (by rfl) (by decide) (by decide) (by decide) (by decide)
  .exact g (t:=1) (b:=1) (by rfl) (by decide) (by decide) (by decide) (by decide)
  grind
 symm;refine Dm ?_;symm;exact ⟨_,Q3 hk.2 (LK ht) l n,by symm; exact q _ (.glass (LK ht) hk.2 Y hp l n)⟩
def fL{U:D->Prop}{ns:List Int}(q:∀ts:List D,ts.length<=5->(∀t∈ts,Thg t)->U (.lst ts)):Tl (Q5 [.lst (ns.map .int),.int 0,.int 5]) U:=by
 unfold Q5;symm;refine Oq (by ac_rfl) λW=>?_;symm;refine Nx (n:=20) (by decide) λg V F=>?_;symm;refine Oq (by ac_rfl) λE=>?_;symm;obtain ⟨k,R⟩ : ∃k:Nat,2+E/2%2=(k:Int):=⟨(2+E/2%2).toNat,by ac_rfl⟩;rw [R];refine xO (first:=0) (most:=5) (many:=k) (by ac_rfl) (by decide) (by ac_rfl) λj S N=>?_
 symm;have L:Dl.numbered 0 j=j.zipIdx.map λy=>D.tup [.int (y.2:Int),y.1]:=by
  have J:∀(l:List D) (k:Nat),Dl.numbered k l=(l.zipIdx k).map λy=>D.tup [.int (y.2:Int),y.1]:=by
   intro l
   induction l with
   | nil=>intro k;rfl
   | cons a r ih=>
    intro k;rw [List.zipIdx_cons,Bg,<-ih (k+1)];rfl
  simp_all
 rw [L];refine oN (enc:=λy:D×Nat=>D.tup [.int (y.2:Int),y.1]) (λf Z=>∃(ts:List D) (w p:Cl),ts.length=f.length/\(∀t∈ts,Thg t)/\Z=[.im (.lst (ns.map .int)),.im (.int 0),.im (.int 5),.im (.lst (g.map .int)),.ow ts,.im (.int k),w,p]) ⟨[],_,_,rfl,(λ_ h=>(BL h).elim),rfl⟩ ?_ ?_
 .rintro f ⟨T,i⟩ r e Z ⟨ts,w,p,s,v,rfl⟩;have X:j.zipIdx[f.length]?=some (T,i):=by grind
  have A:j[f.length]?=some T/\i=f.length:=by
   grind
  obtain ⟨u,rfl⟩:=A;have G:f.length<j.length:=by
   grind
  obtain ⟨o,z,B,C,H,O,I,K,Q⟩ : ∃o z B C:Int,(g.drop (4*f.length)).take 4=[o,z,B,C]/\Dw o/\Dw z/\Dw B/\Dw C:=by
   have m:∀x∈(g.drop (4*f.length)).take 4,Dw x:=λx M=>F x (Qu (Gj M));have P:((g.drop (4*f.length)).take 4).length=4:=by grind
   generalize (g.drop (4*f.length)).take 4=l at *
   match l,P,m with
   | [a,b,c,d],_,h=>grind
  symm;rw [show (4*(f.length:Int))=((4*f.length:Nat):Int) by ac_rfl,show (((4*f.length:Nat):Int)+4)=((4*f.length+4:Nat):Int) by ac_rfl,U8 (by ac_rfl) (by ac_rfl),show 4*f.length+4 - 4*f.length=4 by ac_rfl,H];refine qW O I K Q (by ac_rfl) (N T (Ed u)) λd F=>?_
  grind
 .rintro Z ⟨ts,w,p,s,v,rfl⟩;symm;simp_all
def J8{U:D->Prop}{tab:List (Str×(List D->Res D))}{m:Str}{o:ME}{a:MA}{Z:Ev}(h:Tl (o Z) λd=>∃(c:Str) (ns:List Str) (vs:List D) (f:List D->Res D),d=.ins c ns vs/\ns.contains m=false/\tab.lookup c=some f/\Tl (a Z) λds=>Tl (f (.ins c ns vs::ds)) U):Tl (meth tab m o a Z) U:=by
 obtain ⟨d,i,c,ns,vs,f,rfl,e,b,ds,g,q⟩:=h;unfold meth;rw [i]
 show Tl (if ns.contains m=true then .bad else match tab.lookup c with
  | some f=>(a Z).bind λds=>f (.ins c ns vs::ds)
  | none=>.bad) U
 rw [e,iN Ek,b];show Tl ((a Z).bind λds=>f (.ins c ns vs::ds)) U;rw [g];exact q
def D10(m:Nat):List Nat:=(Nat.toDigits 10 m).map Char.toNat
def tI(n:Int):List Nat:=if n<0 then 45::D10 n.natAbs else D10 n.natAbs
def j4(a b):Str.ofString (a++b)=Str.ofString a++Str.ofString b:=by
 rw [<-JR (Str.ofString a++Str.ofString b),RQ,<-JR (Str.ofString (a++b))];refine CP mkS ?_;show (Str.ofString (a++b)).cps.toList=(Str.ofString a).cps.toList++(Str.ofString b).cps.toList;rw [Tp,Tp,Tp,String.toList_append,GC]
def Vo(m:Nat):Str.ofString (toString (m:Int))=mkS (D10 m):=by
 rw [<-JR (Str.ofString _)];exact CP mkS (W.KIN.signs_num m)
def gW(n):Str.ofString (toString n)=mkS (tI n):=by
 unfold tI;split
 .next h=>
  rw [PyProof.Rows.toString_neg h,j4,show (0:Int) - n=(n.natAbs:Int) by ac_rfl,Vo,show Str.ofString "-"=mkS [45] by decide +kernel,ZW];rfl
 .next h=>
  have e:n=(n.natAbs:Int):=by ac_rfl
  rw [e,Vo];rfl
def JX{m c:Nat}(h:c∈D10 m):48<=c/\c<=57:=by
 obtain ⟨b,a,e⟩:=BZ.mp h;rw [<-e];exact PyProof.Rows.digit_range (Nat.isDigit_of_mem_toDigits (by decide) (by decide) a)
def tV(m):digV (D10 m)=m:=W.KIN.val_back m
def UT(hk:0<k)(h:m<10^k):(D10 m).length<=k:=by
 have:=PyProof.Rows.toString_length_le (v:=(m:Int)) (by ac_rfl) hk (by exact_mod_cast h);rw [Vo,Gy] at this;exact this
def Oz(m):D10 m≠[]:=by
 unfold D10;intro e;have:=PySem.toDigits_len_ge 10 m;rw [List.map_eq_nil_iff.mp e] at this;exact aB this (by decide)
def rH(h:10<=m):D10 m=D10 (m/10)++D10 (m%10):=by
 unfold D10;rw [<-GC];have t:Nat.toDigits 10 (m/10)++Nat.toDigits 10 (m%10)=Nat.toDigits 10 (10*(m/10)+m%10):=Nat.toDigits_append_toDigits (by decide) (by ac_rfl) (by ac_rfl);rw [Nat.div_add_mod] at t;rw [t]
def c7:∀(m:Nat) {c:Nat} {r:List Nat},D10 m=c::r->c=48->m=0:=by
 intro m
 induction m using Nat.strongRecOn with
 | _ m ih=>
  intro c r e f;by_cases h:m<10
  .have g:D10 m=[(Nat.digitChar m).toNat]:=by unfold D10;rw [Nat.toDigits_of_lt_base h];rfl
   rw [g] at e;have d:(Nat.digitChar m).toNat=c:=by injection e
   subst f;have:∀m,m<10->(Nat.digitChar m).toNat=48->m=0:=by decide
   exact this m h d
  .rw [rH (by ac_rfl)] at e;cases e1:D10 (m/10) with
   | nil=>exact aB e1 (Oz _)
   | cons a b=>
    rw [e1] at e;have d:a=c:=by injection e
    have:=ih (m/10) (by ac_rfl) e1 (d.trans f);ac_rfl
def Ft{n:Int}{c:Nat}(h:c∈tI n):c=45\/(48<=c/\c<=57):=by
 unfold tI at h;split at h
 .rcases Aq.mp h with h | h
  .exact .inl h
  .exact .inr (JX h)
 .exact .inr (JX h)
def zR(n):tI n≠[]:=by
 unfold tI;split
 .simp
 .exact Oz _
def HJ(hk:0<k)(h:n.natAbs<10^k):(tI n).length<=k+1:=by
 unfold tI;have:=UT hk h;split
 .simpa using this
 .ac_rfl
def Ta(l:List Nat):Prop:=∀c∈l,c<128
def Ta.pl{l:List Nat}(h:Ta l):(mkS l).cps.all (·<0x110000)=true:=by
 rw [Array.all_eq_true];intro i b;have:(mkS l).cps[i]∈l:=by
  have a:i<l.length:=by simpa [mkS] using b
  have e:(mkS l).cps[i]=l[i]:=by simp [mkS]
  exact e▸Hz a
 have:=h _ this;simp only [LR];ac_rfl
def S5(n):Ta (tI n):=λc h=>by have:=Ft h;ac_rfl
def U4(a b):(mkS a==mkS b)=decide (a=b):=by
 rw [Bool.eq_iff_iff,beq_iff_eq,LR];exact ⟨gO,λh=>by rw [h]⟩
def CV(ha:Ta a)(hb:Ta b)(h:U (.bl (decide (a=b)))):Tl (dEq (.str (mkS a)) (.str (mkS b))) U:=by
 refine Ad (x:=.bl (decide (a=b))) ?_ h;unfold dEq;have d:plain 50 (.str (mkS a))=true:=ha.pl;have c:plain 50 (.str (mkS b))=true:=hb.pl;rw [d,c];show Res.ok (D.bl (mkS a==mkS b))=_;rw [U4]
def Vh(ha:Ta a)(hb:Ta b)(h:U (.bl (!decide (a=b)))):Tl (dNe (.str (mkS a)) (.str (mkS b))) U:=by
 refine Ad (x:=.bl (!decide (a=b))) ?_ h;unfold dNe;have d:plain 50 (.str (mkS a))=true:=ha.pl;have c:plain 50 (.str (mkS b))=true:=hb.pl;rw [d,c];show Res.ok (D.bl (!(mkS a==mkS b)))=_;rw [U4]
def w_sD(h:Tl (a Z) λx=>∃z,x=.str z/\Tl (b Z) λd=>Tl (f z d) U):Tl (sD f a b Z) U:=by
 obtain ⟨x,e,z,rfl,d,c,q⟩:=h;unfold sD;rw [e];show Tl ((b Z).bind (f z)) U;rw [c];exact q
def Yo(h:U (.bl (a.take b.length==b))):Tl (Pk (mkS a) (.str (mkS b))) U:=by
 refine Ad (x:=.bl (a.take b.length==b)) ?_ h;show Res.ok (D.bl ((cpL (mkS a)).take (cpL (mkS b)).length==cpL (mkS b)))=_;rw [Cu,Cu]
def Mi{a:List Nat}{c:Nat}(hl:a.length<=1000000)(h:U (.lst ((Ci c a).map λl=>.str (mkS l)))):Tl (G4 (mkS a) (.str (mkS [c]))) U:=by
 refine Ad ?_ h;unfold G4;dsimp only;rw [Cu [c]];dsimp only;rw [Gy,iP (show _<=LIM from hl),Cu]
def Zq:∀ls:List (List Nat),txts (ls.map λl=>D.str (mkS l))=some (ls.map mkS)
 | []=>rfl
 | l::r=>by
  show (txts (r.map λl=>D.str (mkS l))).map (mkS l::·)=_;rw [Zq r];rfl
def totL(s:Nat)(ls:List (List Nat)):Nat:=(ls.map List.length).sum+ls.length*s
def sV(s)(ls):sumL s (ls.map mkS)=totL s ls:=by
 unfold sumL totL;rw [DK,Ax];rw [show ls.map ((λx:Str=>x.length) ∘ mkS)=ls.map List.length from Rq λl _=>Gy l]
def W6{s:List Nat}{ls:List (List Nat)}(hl:totL s.length ls<=1000000):Jo (mkS s) (ls.map λl=>D.str (mkS l))=.ok (.str (mkS (Ak s ls))):=by
 unfold Jo;rw [Zq];dsimp only;rw [Gy,sV,iP (show _<=LIM from hl),Cu,DK];have:(cpL ∘ mkS)=id:=funext Cu;rw [this,List.map_id]
def G9(hl:totL s.length ls<=1000000)(h:U (.str (mkS (Ak s ls)))):Tl (Fx (mkS s) (.lst (ls.map λl=>.str (mkS l)))) U:=Ad (W6 hl) h
def Dq(hl:a.length+b.length<=1000000)(h:U (.str (mkS (a++b)))):Tl (Af (.str (mkS a)) (.str (mkS b))) U:=by
 refine Ad ?_ h;show (if (mkS a).length+(mkS b).length<=LIM then Res.ok (D.str (mkS a++mkS b)) else .bad)=_
 rw [Gy,Gy,iP (show _<=LIM from hl),ZW]
def oG(hl:a.length<=1000000)(h:U (.int a.length)):Tl (Qf [.str (mkS a)]) U:=by
 refine Ad ?_ h;show (if (mkS a).length<=LIM then Res.ok (D.int (mkS a).length) else .bad)=_
 rw [Gy,iP (show _<=LIM from hl)]
def w_inS{c:Nat}{b:List Nat}(h:U (.bl (b.contains c))):Tl (dInT (.str (mkS [c])) (.str (mkS b))) U:=by
 refine Ad (x:=.bl (b.contains c)) ?_ h;unfold dInT;dsimp only;rw [Cu [c]];dsimp only;rw [Cu]
def t8{c:Nat}{b:List Nat}(h:U (.bl (!b.contains c))):Tl (K5 (.str (mkS [c])) (.str (mkS b))) U:=by
 refine Ad (x:=.bl (!b.contains c)) ?_ h;unfold K5;dsimp only;rw [Cu [c]];dsimp only;rw [Cu]
def ZqP{a b:List Nat}{c:Nat}(hc:c∉a)(hl:(a++c::b).length<=1000000)(h:U (.tup [.str (mkS a),.str (mkS [c]),.str (mkS b)])):Tl (Oo (mkS (a++c::b)) (.str (mkS [c]))) U:=by
 refine Ad ?_ h;have e:∀a:List Nat,c∉a->Dc c (a++c::b)=some (a,b):=by
  intro a
  induction a with
  | nil=>intro _;show Dc c (c::b)=_;unfold Dc;rw [iP rfl]
  | cons x r ih=>
   intro h;have d:¬x=c:=λe=>h (by rw [e];exact Bf);show Dc c (x::(r++c::b))=_;unfold Dc;rw [iN d,ih λm=>h (Bp _ m)];rfl
 unfold Oo;dsimp only;rw [Cu [c]];dsimp only;rw [Gy,iP (show _<=LIM from hl),Cu,e a hc]
def gq{i:Int}(ha:a Z=.ok (.str (mkS l)))(hi:0<=i)(hl:l.length<=1000000)(h:U (.str (mkS (l.drop i.toNat)))):Tl (cutT a (pso (c (.int i))) pno Z) U:=by
 refine Ad ?_ h;unfold cutT;rw [ha];show cutS (mkS l) (some i) none=_;unfold cutS;rw [Gy,iP (show _<=LIM from hl)];dsimp only;rw [iP hi,Cu]
def Gf(s:Sm k n)(hk:k<=1900)(h:U (.str (mkS (tI n)))):Tl (bStr [.int n]) U:=by
 refine Ad ?_ h;show (if n.natAbs.log2<1920 then Res.ok (D.str (Str.ofString (toString n))) else .bad)=_
 rw [iP (show n.natAbs.log2<1920 from Bv (QL (s.mono (show k<=1900 from hk)) (by decide)) (by decide)),gW]
def ul{U:List D->Prop}(ha:a Z=.ok (.str (mkS l)))(hl:Ta l)(h:U (l.map λc=>.str (mkS [c]))):Tl (ivT a Z) U:=by
 refine Ad ?_ h;unfold ivT;rw [ha];show (if (cpL (mkS l)).all (·<128)=true then Res.ok ((cpL (mkS l)).map λc=>D.str (mkS [c])) else .bad)=_
 rw [Cu,iP (Hu.mpr λc b=>by simpa using hl c b)]
def lit0:Str.ofString ""=mkS []:=by decide +kernel
def litM:Str.ofString "-"=mkS [45]:=by decide +kernel
def litZ:Str.ofString "0"=mkS [48]:=by decide +kernel
def cX:Str.ofString "-0"=mkS [45,48]:=by decide +kernel
def litF:Str.ofString "0123456789"=mkS [48,49,50,51,52,53,54,55,56,57]:=by decide +kernel
def litS:Str.ofString "/"=mkS [47]:=by decide +kernel
def Am(h:l.all (·<128)=true):Ta l:=λc a=>by simpa using Hu.mp h c a
def z7{U:D->Prop}{l:List Nat}(hd:∀c∈l,48<=c/\c<=57)(hn:l≠[])(hl:l.length<=30)(hh:∀r,l=48::r->r=[])(q:U (.bl true)):Tl (Oa [.str (mkS l)]) U:=by
 have d:Ta l:=λc g=>by have:=hd c g;ac_rfl
 unfold Oa;symm;rw [lit0];refine CV d (Am rfl) ?_;rw [Bl hn];symm;refine oG (by ac_rfl) ?_;symm;refine w_sD ?_;symm;refine ⟨_,rfl,?_⟩;symm;rw [litZ];refine Yo ?_;symm;have b:Tl (ivT (v 0) [Cl.im (D.str (mkS l))]) λf=>f.length<=1000000/\Tl (Bw (gN 0) yes (o2 dInT (v 0) (c (D.str (Str.ofString "0123456789")))) [Cl.no] f) λi=>Tl (Ab [Cl.im (D.str (mkS l))]) λf=>Tl (bAll (D.lst i::f)) λx=>Tl (endOf (Fl.rt x)) U:=by
  refine ul rfl d ?_;refine ⟨by simp;ac_rfl,?_⟩;refine CW (enc:=λc=>D.str (mkS [c])) (λ_=>.bl true) (λc g=>?_) ?_
  .symm;rw [litF];refine w_inS ?_;have:=hd c g;have e:[48,49,50,51,52,53,54,55,56,57].contains c=true:=by
    obtain ⟨k,m⟩:=this;have:c=48\/c=49\/c=50\/c=51\/c=52\/c=53\/c=54\/c=55\/c=56\/c=57:=by ac_rfl
    rcases this with rfl | rfl | rfl | rfl | rfl | rfl | rfl | rfl | rfl | rfl<;>rfl
   rw [e]
  .symm;refine QG (λy j=>?_) ?_
   .obtain ⟨_,_,rfl⟩:=BZ.mp j;rfl
   .symm;exact q
 by_cases h:l=[48]
 .subst h;symm;refine Vh d d ?_;symm;exact b
 .have e:(List.take [48].length l==[48])=false:=by
   rw [beq_eq_false_iff_ne];intro e;cases l with
   | nil=>exact hn rfl
   | cons a r=>
    have:a=48:=by simpa using e
    subst this;exact h (by rw [hh r rfl])
  rw [e];symm;exact b
def Z3(hl:l.length<=640)(e:intL l=some n)(h:U (.int n)):Tl (RX [.str (mkS l)]) U:=by
 refine Ad ?_ h;show (if (mkS l).length<=640 then ofO ((intL (cpL (mkS l))).map D.int) else .bad)=_
 rw [Gy,iP hl,Cu,e];rfl
def XF(m):figL (D10 m)=some m:=by
 unfold figL;rw [iP ⟨Oz m,Hu.mpr λc a=>by have:=JX a;simp [digB];ac_rfl⟩,tV]
def Wb(n):intL (tI n)=some n:=by
 unfold tI;split
 .next h=>
  show (if 45=45 then (figL (D10 n.natAbs)).map (λn:Nat=>-(n:Int)) else (figL (45::D10 n.natAbs)).map λn:Nat=>(n:Int))=_
  rw [iP rfl,XF];show some (-(n.natAbs:Int))=_;congr 1;ac_rfl
 .next h=>
  have a:=XF n.natAbs;cases e:D10 n.natAbs with
  | nil=>exact aB e (Oz _)
  | cons c r=>
   have b:¬c=45:=by
    have:=JX (m:=n.natAbs) (c:=c) (by rw [e];exact Bf);ac_rfl
   show (if c=45 then (figL r).map (λn:Nat=>-(n:Int)) else (figL (c::r)).map λn:Nat=>(n:Int))=_
   rw [iN b,<-e,a];show some ((n.natAbs:Int))=_;congr 1;ac_rfl
def Xg{U:D->Prop}{m:Nat}(h:m<10^30)(q:U (.bl true)):Tl (Oa [.str (mkS (D10 m))]) U :=
 z7 (λc a=>JX a) (Oz m) (UT (by decide) h) (λr e=>by
  have:=c7 m e rfl;subst this;have b:D10 0=[48]:=by decide +kernel
  rw [b] at e;injection e with _ e
  exact e.symm) q
def J4{U:D->Prop}{n:Int}(h:n.natAbs<10^30)(q:U (.int n)):Tl (G8 [.str (mkS (tI n))]) U:=by
 unfold G8;symm;refine w_sD ?_;symm;refine ⟨_,rfl,?_⟩;symm;rw [litM];refine Yo ?_;symm;have d:tI n≠[45,48]:=by
  intro e;unfold tI at e;split at e
  .next a=>
   injection e with _ e
   have:=c7 n.natAbs e rfl;ac_rfl
  .have:=JX (m:=n.natAbs) (c:=45) (by rw [e];exact Bf);ac_rfl
 have j:(tI n).length<=31:=HJ (by decide) h;by_cases a:n<0
 .have e:tI n=45::D10 n.natAbs:=by unfold tI;rw [iP a]
  have b:(List.take [45].length (tI n)==[45])=true:=by rw [e];rfl
  rw [b,iP rfl];refine gq (l:=tI n) rfl (by decide) (by ac_rfl) ?_;rw [show (tI n).drop (1:Int).toNat=D10 n.natAbs by rw [e];rfl];symm;refine Xg h ?_;symm;rw [cX];refine CV (S5 n) (Am rfl) ?_;rw [Bl d];symm;exact Z3 (by ac_rfl) (Wb n) (by symm; exact q)
 .have e:tI n=D10 n.natAbs:=by unfold tI;rw [iN a]
  have b:(List.take [45].length (tI n)==[45])=false:=by
   rw [beq_eq_false_iff_ne,e];intro f
   have:=JX (m:=n.natAbs) (c:=45) (Gj (i:=1) (by
    have g:List.take 1 (D10 n.natAbs)=[45]:=f
    rw [g];exact Bf))
   ac_rfl
  rw [b,iN Ek];symm;rw [e];refine Xg h ?_;rw [<-e];symm;rw [cX];refine CV (S5 n) (Am rfl) ?_;rw [Bl d];symm;exact Z3 (by ac_rfl) (Wb n) (by symm; exact q)
def bO{s:List Nat}{ls:List (List Nat)}(e:Z[j]?=some (.ow (ls.map λl=>D.str (mkS l))))(hl:totL s.length ls.reverse<=1000000)(h:U (.str (mkS (Ak s ls.reverse)))):Tl (joinRev (mkS s) j Z) U:=by
 refine Ad ?_ h;unfold joinRev;rw [e];show Jo (mkS s) ((ls.map λl=>D.str (mkS l)).reverse)=_;rw [<-Ma];exact W6 hl
def JD{n:Int}(h:n.natAbs<10^60)(q:U (.str (mkS (tI n)))):Tl (GP [.int n]) U:=by
 unfold GP;symm;refine w_wh (λZ=>Z=[Cl.im (D.int n),Cl.ow [],Cl.im (D.int (n.natAbs:Int))]) (λ_=>0) rfl (by unfold fuel;ac_rfl) ?_;rintro Z rfl;symm;have d:((10:Int)^(60:Int).toNat<=(n.natAbs:Int))=False:=by
  rw [eq_iff_iff,iff_false,show ((10:Int)^(60:Int).toNat)=((10^60:Nat):Int) by decide];ac_rfl
 simp only [d,decide_false];refine ⟨(λz=>nomatch z),λ_=>?_⟩;have c:Sm 256 ((n.natAbs:Int)):=by
  unfold Sm;rw [EY];exact Fp h (by decide)
 symm;refine Gf c (by decide) ?_;have e:tI (n.natAbs:Int)=D10 n.natAbs:=by
  unfold tI;rw [iN (by ac_rfl),EY]
 rw [e];symm;refine ⟨by simp,?_⟩;symm;have b:=UT (m:=n.natAbs) (by decide) h;refine Ce (λa=>?_) (λa=>?_)
 .symm;refine ⟨by simp,?_⟩;symm;rw [lit0,litM];refine bO (ls:=[D10 n.natAbs,[45]]) rfl (by simp [totL];ac_rfl) ?_;symm;have:tI n=Ak [] [D10 n.natAbs,[45]].reverse:=by unfold tI;rw [iP a];rfl
  rw [<-this];exact q
 .symm;rw [lit0];refine bO (ls:=[D10 n.natAbs]) rfl (by simp [totL];ac_rfl) ?_;symm;have:tI n=Ak [] [D10 n.natAbs].reverse:=by unfold tI;rw [iN a];rfl
  rw [<-this];exact q
def fT(q:Rat):List Nat:=if q.den=1 then tI q.num else tI q.num++47::tI (q.den:Int)
structure B30(q:Rat):Prop where
 n:q.num.natAbs<10^30
 d:q.den<10^30
def sm30(h:n.natAbs<10^30):Sm 128 n:=Fp h (by decide)
def Gw{q:Rat}{c:Nat}(h:c∈fT q):c=45\/c=47\/(48<=c/\c<=57):=by
 unfold fT at h;split at h
 .have:=Ft h;ac_rfl
 .rcases CK.mp h with h | h
  .have:=Ft h;ac_rfl
  .rcases Aq.mp h with h | h
   .ac_rfl
   .have:=Ft h;ac_rfl
def qp(q):Ta (fT q):=λc h=>by have:=Gw h;ac_rfl
def Jv(h:B30 q):(fT q).length<=63:=by
 have a:=HJ (n:=q.num) (by decide) h.n;have b:=HJ (n:=(q.den:Int)) (k:=30) (by decide) (by rw [EY];exact h.d);unfold fT;split
 .ac_rfl
 .rw [Cd,Dh];ac_rfl
def bI:fT q≠[47]:=by
 unfold fT;split
 .intro e;have:=Ft (n:=q.num) (c:=47) (by rw [e];exact Bf);ac_rfl
 .intro e;have:=CP List.length e;rw [Cd,Dh] at this;have a:tI q.num≠[]:=zR _;have:0<(tI q.num).length:=List.length_pos_iff.mpr a;simp at *;ac_rfl
def M7(h:B30 q)(k:U (.str (mkS (fT q)))):Tl (Hv [frD q]) U:=by
 have b:=HJ (n:=q.num) (by decide) h.n;have c:=HJ (n:=(q.den:Int)) (k:=30) (by decide) (by rw [EY];exact h.d);unfold Hv frD;symm;refine Ce (λa=>?_) (λa=>?_)
 .symm;refine JD (Fp h.n (by decide)) ?_;symm;have e:fT q=tI q.num:=by unfold fT;rw [iP (by ac_rfl)]
  rw [<-e];exact k
 .symm;refine JD (Fp h.n (by decide)) ?_;symm;rw [litS];refine Dq (by simp;ac_rfl) ?_;symm;refine JD (by rw [EY];exact Fp h.d (by decide)) ?_;refine Dq (by simp;ac_rfl) ?_;symm;have e:fT q=tI q.num++[47]++tI (q.den:Int):=by unfold fT;rw [iN (by ac_rfl)];simp
  rw [<-e];exact k
def ik{U:D->Prop}{q:Rat}(h:B30 q)(k:U (.str (mkS (fT q)))):Tl (Mu [frD q]) U:=by
 have c:=HJ (n:=q.num) (by decide) h.n;have f:=HJ (n:=(q.den:Int)) (k:=30) (by decide) (by rw [EY];exact h.d);have b:Sm 128 (q.den:Int):=sm30 (by rw [EY];exact h.d);unfold Mu frD;symm;refine Ce (λa=>?_) (λa=>?_)
 .symm;refine Gf (sm30 h.n) (by decide) ?_;symm;have e:fT q=tI q.num:=by unfold fT;rw [iP (by ac_rfl)]
  rw [<-e];exact k
 .symm;refine Gf (sm30 h.n) (by decide) ?_;symm;rw [litS];refine Dq (by simp;ac_rfl) ?_;symm;refine Gf b (by decide) ?_;refine Dq (by simp;ac_rfl) ?_;symm;have e:fT q=tI q.num++[47]++tI (q.den:Int):=by unfold fT;rw [iN (by ac_rfl)];simp
  rw [<-e];exact k
def Oj{U:D->Prop}{q:Rat}(h:B30 q)(k:U (frD q)):Tl (Iz [.str (mkS (fT q))]) U:=by
 unfold Iz;symm;rw [litS];refine t8 ?_;by_cases hd:q.den=1
 .have e:fT q=tI q.num:=by unfold fT;rw [iP hd]
  have b:(fT q).contains 47=false:=by
   rw [Qz,decide_eq_false_iff_not,e];intro a;have:=Ft a;ac_rfl
  rw [b];symm;rw [e];refine J4 h.n ?_;symm;have:frD q=.tup [.int q.num,.int 1]:=by unfold frD;rw [hd];rfl
  rw [<-this];exact k
 .have e:fT q=tI q.num++47::tI (q.den:Int):=by unfold fT;rw [iN hd]
  have b:(fT q).contains 47=true:=by
   rw [Qz,LR,e];exact CZ _ Bf
  rw [b];symm;refine w_sD ?_;symm;refine ⟨_,rfl,?_⟩;symm;rw [e];have c:=Jv h;rw [e] at c;refine ZqP (λa=>by have:=Ft a;ac_rfl) (by ac_rfl) ?_;symm;refine J4 h.n ?_;symm;refine J4 (by rw [EY];exact h.d) ?_;symm;refine Ru (q:=q) ?_;symm;exact k
abbrev S(l:List Nat):D:=.str (mkS l)
def MP{s x:List Nat}{r:List (List Nat)}(h:r≠[]):Ak s (x::r)=x++s++Ak s r:=by
 cases r with
 | nil=>exact aB rfl h
 | cons y r=>rfl
def JV{s:List Nat}{b:List (List Nat)}(hb:b≠[]):∀{a:List (List Nat)},a≠[]->Ak s (a++b)=Ak s a++s++Ak s b
 | [],h=>aB rfl h
 | [x],_=>MP hb
 | x::y::r,_=>by
  have ih:=JV (s:=s) hb (a:=y::r) (by simp);show Ak s (x::((y::r)++b))=_;rw [MP (by simp),ih,MP (s:=s) (x:=x) (r:=y::r) (by simp)];simp [List.append_assoc]
def V4{α:Type}{s:List Nat}(f:α->List (List Nat))(hf:∀a,f a≠[]):∀(l:List α) {ws:List (List Nat)},ws≠[]->Ak s (ws++l.map λa=>Ak s (f a))=Ak s (ws++l.flatMap f)
 | [],ws,_=>rfl
 | a::r,ws,h=>by
  have d:ws++(a::r).map (λa=>Ak s (f a))=(ws++[Ak s (f a)])++r.map λa=>Ak s (f a):=by simp
  have c:ws++(a::r).flatMap f=(ws++f a)++r.flatMap f:=by simp
  rw [d,V4 f hf r (by simp),c];cases hr:r.flatMap f with
  | nil=>rw [FJ,FJ,JV (by simp) h,JV (hf a) h];rfl
  | cons p q=>
   rw [JV (a:=ws++[Ak s (f a)]) (b:=p::q) (by simp) (by simp),JV (a:=ws++f a) (b:=p::q) (by simp) (by simp [h]),JV (a:=ws) (b:=[Ak s (f a)]) (by simp) h,JV (a:=ws) (b:=f a) (hf a) h];rfl
def Fd{s:List Nat}{c:Nat}:∀{ls:List (List Nat)},c∈Ak s ls->c∈s\/∃l∈ls,c∈l
 | [],h=>(BL h).elim
 | [x],h=>.inr ⟨x,Bf,h⟩
 | x::y::r,h=>by
  rw [MP (by simp)] at h;rcases CK.mp h with h | h
  .rcases CK.mp h with h | h
   .exact .inr ⟨x,Bf,h⟩
   .exact .inl h
  .rcases Fd h with h | ⟨l,hl,h⟩
   .exact .inl h
   .exact .inr ⟨l,Bp _ hl,h⟩
def Dd{s:List Nat}:∀(ls:List (List Nat)),(Ak s ls).length<=totL s.length ls
 | []=>Cq _
 | [x]=>by unfold totL;simp [Ak]
 | x::y::r=>by
  have ih:=Dd (s:=s) (y::r);rw [MP (by simp),Cd,Cd];unfold totL at ih ⊢;simp only [Bg,List.sum_cons,Dh,Nat.add_mul] at ih ⊢;ac_rfl
def Hl{s B:Nat}:∀{ls:List (List Nat)},(∀l∈ls,l.length<=B)->totL s ls<=ls.length*(B+s)
 | [],_=>by simp [totL]
 | x::r,h=>by
  have ih:=Hl (s:=s) (B:=B) (ls:=r) λl a=>h l (Bp _ a);have b:=h x Bf;unfold totL at ih ⊢;simp only [Bg,List.sum_cons,Dh,Nat.add_mul] at ih ⊢;ac_rfl
def rwT(w:Nat)(R:Nat->Rat):List Nat:=Ak [44] ((List.range w).map λj=>fT (R j))
def patT(h w:Nat)(P:Nat->Nat->Rat):List Nat:=Ak [59] ((List.range h).map λi=>rwT w (P i))
def litC:Str.ofString ","=mkS [44]:=by decide +kernel
def Zd:Str.ofString ";"=mkS [59]:=by decide +kernel
def litB:Str.ofString " "=mkS [32]:=by decide +kernel
def Su{w:Nat}{R:Nat->Rat}(hw:w<=16)(hR:∀j,j<w->B30 (R j)):totL 1 ((List.range w).map λj=>fT (R j))<=1024:=by
 refine An (Hl (B:=63) λl a=>?_) (by rw [Ax,Jc];ac_rfl);obtain ⟨j,b,rfl⟩:=BZ.mp a;exact Jv (hR j (Ex.mp b))
def V6{h w:Nat}{P:Nat->Nat->Rat}(hh:h<=16)(hw:w<=16)(hP:∀i,i<h->∀j,j<w->B30 (P i j)):totL 1 ((List.range h).map λi=>rwT w (P i))<=16400:=by
 refine An (Hl (B:=1024) λl b=>?_) (by rw [Ax,Jc];ac_rfl);obtain ⟨i,a,rfl⟩:=BZ.mp b;exact An (Dd _) (Su hw (hP i (Ex.mp a)))
def uq{U:D->Prop}{h w:Nat}{P:Nat->Nat->Rat}(hh:h<=16)(hw:w<=16)(hP:∀i,i<h->∀j,j<w->B30 (P i j))(q:U (S (patT h w P))):Tl (Qd [patD h w P]) U:=by
 unfold Qd patD;symm;refine w_sD ?_;symm;refine ⟨_,rfl,?_⟩;symm;refine ⟨by simp;ac_rfl,?_⟩;refine CW (λi=>S (rwT w (P i))) (λi a=>?_) ?_
 .unfold rowD;symm;refine w_sD ?_;symm;refine ⟨_,rfl,?_⟩;symm;refine ⟨by simp;ac_rfl,?_⟩;refine CW (λj=>S (fT (P i j))) (λj b=>?_) ?_
  .symm;exact M7 (hP i (Ex.mp a) j (Ex.mp b)) rfl
  .symm;rw [litC,show (List.range w).map (λj=>S (fT (P i j)))=((List.range w).map λj=>fT (P i j)).map S by rw [DK];rfl];exact G9 (An (Su hw (hP i (Ex.mp a))) (by decide)) rfl
 .symm;rw [Zd,show (List.range h).map (λi=>S (rwT w (P i)))=((List.range h).map λi=>rwT w (P i)).map S by rw [DK];rfl];exact G9 (An (V6 hh hw hP) (by decide)) (by symm; exact q)
def nsC(x y w h:Int)(vs:List Int):List Int:=x::y::w::h::vs
def wdC(ns:List Int):List (List Nat):=[47]::ns.map tI
def tI7{n:Int}(h:n.natAbs<10^60):(tI n).length<=61:=HJ (by decide) h
def dg{ns:List Int}(hl:ns.length<=7)(hb:∀n∈ns,n.natAbs<10^60):totL 1 (wdC ns)<=500:=by
 refine Nat.le_trans (Hl (B:=61) λl hl=>?_) (by unfold wdC;rw [List.length_cons,List.length_map];ac_rfl);rcases Aq.mp hl with rfl | hl
 .simp
 .obtain ⟨n,a,rfl⟩:=BZ.mp hl;exact tI7 (hb n a)
def yI{U:D->Prop}{x y w h:Int}{vs:List Int}(hl:vs.length<=3)(hb:∀n∈nsC x y w h vs,n.natAbs<10^60)(q:U (S (Ak [32] (wdC (nsC x y w h vs))))):Tl (Qg [cor x y w h vs]) U:=by
 unfold Qg cor;symm;refine w_sD ?_;symm;refine ⟨_,rfl,?_⟩;symm;unfold JS;symm;rw [show cutL [D.int x,D.int y,D.int w,D.int h,D.tup (List.map D.int vs)] none (some 4)=[D.int x,D.int y,D.int w,D.int h] from rfl];refine FZ (by simp;ac_rfl) ?_;rw [show [D.int x,D.int y,D.int w,D.int h]++vs.map D.int=(nsC x y w h vs).map D.int from rfl];symm;have a:(nsC x y w h vs).length<=7:=by simp [nsC];ac_rfl
 generalize nsC x y w h vs=ns at *;refine ⟨by simp;ac_rfl,?_⟩;refine CW (λn=>S (tI n)) (λn b=>?_) ?_
 .symm;exact JD (hb n b) rfl
 rw [litS,litB];refine FZ (by simp;ac_rfl) ?_;rw [show [D.str (mkS [47])]++ns.map (λn=>S (tI n))=(wdC ns).map S by unfold wdC;simp];refine G9 (An (dg a hb) (by decide)) ?_;symm;exact q
inductive Kd where
 | pl (q:Rat) | sh | pa (h w:Nat) (P:Nat->Nat->Rat) | gl (q r:Rat)
def thD:Kd->D->D
 | .pl q,T=>.ins "Plain" ["triangle","colour"] [T,frD q]
 | .sh,T=>.ins "Shaded" ["triangle"] [T]
 | .pa h w P,T=>.ins "Patterned" ["triangle","pattern"] [T,patD h w P]
 | .gl q r,T=>.ins "Glass" ["triangle","colour","part"] [T,frD q,frD r]
def lPl:List Nat:=[112,108,97,105,110]
def lSh:List Nat:=[115,104,97,100,101,100]
def lPa:List Nat:=[112,97,116,116,101,114,110,101,100]
def lGl:List Nat:=[103,108,97,115,115]
def Gz:Str.ofString "plain"=mkS lPl:=by decide +kernel
def J7:Str.ofString "shaded"=mkS lSh:=by decide +kernel
def Kc:Str.ofString "patterned"=mkS lPa:=by decide +kernel
def M9:Str.ofString "glass"=mkS lGl:=by decide +kernel
def hdW:Kd->List (List Nat)
 | .pl q=>[lPl,fT q]
 | .sh=>[lSh]
 | .pa h w P=>[lPa,patT h w P]
 | .gl q r=>[lGl,fT q,fT r]
def KOk(k:Nat):Kd->Prop
 | .pl q=>B30 q
 | .sh=>1<=k
 | .pa h w P=>2<=k/\Ct h/\Ct w/\∀i,i<h->∀j,j<w->B30 (P i j)
 | .gl q r=>B30 q/\B30 r/\0<=r.num/\r.num<=r.den
def qj{U:D->Prop}{k:Nat}{K:Kd}{T:D}(hk:KOk k K)(q:U (.lst ((hdW K).map S))):Tl (Rg [thD K T]) U:=by
 unfold Rg;cases K with
 | pl c0=>
  unfold thD;symm;refine J8 ?_;symm;refine ⟨_,_,_,Ku,rfl,by decide +kernel,by rfl,?_⟩;symm;unfold Ku;symm;rw [Gz];refine CV (Am rfl) (Am rfl) ?_;symm;refine Ad (fC1 _ _) ?_;symm;refine M7 hk ?_;symm;exact q
 | sh=>
  unfold thD;symm;refine J8 ?_;symm;refine ⟨_,_,_,Kv,rfl,by decide +kernel,by rfl,?_⟩;symm;unfold Kv;symm;rw [Gz,J7];refine CV (Am rfl) (Am rfl) ?_;rw [Bl (show lSh≠lPl by decide)];symm;rw [Kc];refine CV (Am rfl) (Am rfl) ?_;rw [Bl (show lSh≠lPa by decide)];symm;rw [M9];refine CV (Am rfl) (Am rfl) ?_;rw [Bl (show lSh≠lGl by decide)];symm;exact q
 | pa h w P=>
  obtain ⟨i,a,d,e⟩:=hk;unfold thD;symm;refine J8 ?_;symm;refine ⟨_,_,_,Kw,rfl,by decide +kernel,by rfl,?_⟩;symm;unfold Kw;symm;rw [Gz,Kc];refine CV (Am rfl) (Am rfl) ?_;rw [Bl (show lPa≠lPl by decide)];symm;refine CV (Am rfl) (Am rfl) ?_;symm;refine Ad (fN3 _ _) ?_;symm;refine uq a.le.2 d.le.2 e ?_;symm;exact q
 | gl c0 r=>
  obtain ⟨b,c,g,f⟩:=hk;unfold thD;symm;refine J8 ?_;symm;refine ⟨_,_,_,Ly,rfl,by decide +kernel,by rfl,?_⟩;symm;unfold Ly;symm;rw [Gz,M9];refine CV (Am rfl) (Am rfl) ?_;rw [Bl (show lGl≠lPl by decide)];symm;rw [Kc];refine CV (Am rfl) (Am rfl) ?_;rw [Bl (show lGl≠lPa by decide)];symm;refine CV (Am rfl) (Am rfl) ?_;symm;refine Ad (fC4 _ _ _) ?_;symm;refine M7 b ?_;symm;refine Ad (fP4 _ _ _) ?_;symm;refine M7 c ?_;symm;exact q
def fTri(K:Kd)(T:D):dFld objs "triangle" (thD K T)=.ok T:=by cases K<;>rfl
def Uk(K:Kd):hdW K≠[]:=by cases K<;>simp [hdW]
def Xc{k:Nat}{K:Kd}(hk:KOk k K):totL 1 (hdW K)<=17000:=by
 cases K with
 | pl q=>have:=Jv hk;simp [totL,hdW,lPl];ac_rfl
 | sh=>simp [totL,hdW,lSh]
 | pa h w P=>
  obtain ⟨g,a,d,f⟩:=hk;have:=An (Dd (s:=[59]) ((List.range h).map λi=>rwT w (P i))) (V6 a.le.2 d.le.2 f);have e:(patT h w P).length<=16400:=this;simp [totL,hdW,lPa];ac_rfl
 | gl q r=>
  obtain ⟨b,c,_⟩:=hk;have:=Jv b;have:=Jv c;simp [totL,hdW,lGl];ac_rfl
abbrev C5:=Int×Int×Int×Int×List Int
def encC(c:C5):D:=cor c.1 c.2.1 c.2.2.1 c.2.2.2.1 c.2.2.2.2
def nsOf(c:C5):List Int:=nsC c.1 c.2.1 c.2.2.1 c.2.2.2.1 c.2.2.2.2
structure C5k(k:Nat)(c:C5):Prop where
 l:c.2.2.2.2.length=k
 k3:k<=3
 b:∀n∈nsOf c,n.natAbs<10^60
structure Cs(k:Nat)(T:D)(cs:List C5):Prop where
 e:T=.tup (cs.map encC)
 l:cs.length=3
 b:∀c∈cs,C5k k c
def sm60{n:Int}{B:Nat}(h:Sm B n)(hB:B<=190):n.natAbs<10^60:=Fp (h.mono hB) (by decide)
def W2{B k:Nat}{T:D}(hk:k<=3)(hB:B<=190)(h:Tr B k T):∃cs,Cs k T cs/\∀c∈cs,∀n∈nsOf c,Sm B n:=by
 obtain ⟨t,u,o,j,z,A,l,p,q,g,i,r,f,m,s,rfl,I,K,C,E,G,L,H,M,F⟩:=h;have b:∀{x y w h:Int} {e:List Int},Cw B x y w h->(∀v∈e,Sm B v)->∀n∈nsC x y w h e,Sm B n:=by
  intro x y w h e c J n hn;unfold nsC at hn;simp only [Aq] at hn;rcases hn with rfl | rfl | rfl | rfl | hn
  .exact c.x
  .exact c.y
  .exact c.sw
  .exact c.sh
  .exact J n hn
 have a:∀c∈[(t,u,o,j,f),(z,A,l,p,m),(q,g,i,r,s)],(c.2.2.2.2).length=k/\∀n∈nsOf c,Sm B n:=λc d=>by
  simp only [Aq,BL,Bj] at d;rcases d with rfl | rfl | rfl
  .exact ⟨E,b I H⟩
  .exact ⟨G,b K M⟩
  .exact ⟨L,b C F⟩
 exact ⟨[(t,u,o,j,f),(z,A,l,p,m),(q,g,i,r,s)],⟨rfl,rfl,λc d=>⟨(a c d).1,hk,λn hn=>sm60 ((a c d).2 n hn) hB⟩⟩,λc d=>(a c d).2⟩
def C5k.n7{k:Nat}{c:C5}(h:C5k k c):(nsOf c).length=4+k:=by
 have:=h.l;unfold nsOf nsC;simp only [Dh];ac_rfl
def wdO(c:C5):List (List Nat):=wdC (nsOf c)
def aJ(c:C5):wdO c≠[]:=by simp [wdO,wdC]
def C5k.tot{k:Nat}{c:C5}(h:C5k k c):totL 1 (wdO c)<=500:=dg (by rw [h.n7];have:=h.k3;ac_rfl) h.b
def rowW(K:Kd)(cs:List C5):List (List Nat):=hdW K++cs.flatMap wdO
def ZP{U:D->Prop}{k:Nat}{K:Kd}{T:D}{cs:List C5}(hk:KOk k K)(h:Cs k T cs)(q:U (S (Ak [32] (rowW K cs)))):Tl (Hc [thD K T]) U:=by
 obtain ⟨rfl,i,f⟩:=h;have d:=Xc hk;have e:(hdW K).length<=3:=by cases K<;>simp [hdW]
 unfold Hc;symm;refine w_sD ?_;symm;refine ⟨_,rfl,?_⟩;symm;refine qj hk ?_;symm;refine Ad (fTri _ _) ?_;symm;refine ⟨by simp;ac_rfl,?_⟩;refine CW (λc=>S (Ak [32] (wdO c))) (λc a=>?_) ?_
 .symm;have:=f c a;exact yI (by rw [this.l];exact this.k3) this.b rfl
 rw [litB];refine FZ (by simp;ac_rfl) ?_;rw [show (hdW K).map S++cs.map (λc=>S (Ak [32] (wdO c)))=(hdW K++cs.map λc=>Ak [32] (wdO c)).map S by simp];refine G9 ?_ ?_
 .unfold totL at d ⊢;have g:totL 1 (cs.map λc=>Ak [32] (wdO c))<=3*501:=by
   refine An (Hl (B:=500) λl e=>?_) (by rw [Ax];ac_rfl);obtain ⟨c,a,rfl⟩:=BZ.mp e;exact An (Dd _) (f c a).tot
  unfold totL at g;simp only [GC,List.sum_append,Cd,QD,Nat.mul_one] at d g ⊢;ac_rfl
 .symm;rw [V4 wdO aJ cs (Uk K)];exact q
def nsW(c:C5):List (List Nat):=(nsOf c).map tI
def gh(c:C5):wdO c=[47]::nsW c:=rfl
section
variable{nt:MB}{Z:Ev}
def Vt:∀(l:List (List Nat)) (rest:List D) (gs:List (List D)) (g:List D),(∀w∈l,nt ((Z.set 1 .no).set 2 (.im (S w)))=.ok false)->De 1 2 nt Z (l.map S++rest) gs g=De 1 2 nt Z rest gs (g++l.map S)
 | [],rest,gs,g,_=>by simp
 | w::r,rest,gs,g,h=>by
  show De 1 2 nt Z (S w::(r.map S++rest)) gs g=_;rw [De,h w Bf];show De 1 2 nt Z (r.map S++rest) gs (g++[S w])=_;rw [Vt r rest gs (g++[S w]) λu a=>h u (Bp _ a)];simp
def Yh(hs:nt ((Z.set 1 .no).set 2 (.im (S [47])))=.ok true):∀(cs:List C5) (gs:List (List D)) (g:List D),(∀c∈cs,∀w∈nsW c,nt ((Z.set 1 .no).set 2 (.im (S w)))=.ok false)->De 1 2 nt Z ((cs.flatMap wdO).map S) gs g=.ok (gs++[g]++cs.map λc=>(nsW c).map S)
 | [],gs,g,_=>by simp [De]
 | c::r,gs,g,h=>by
  have e:((c::r).flatMap wdO).map S=S [47]::((nsW c).map S++(r.flatMap wdO).map S):=by rw [NB,gh];simp
  rw [e,De,hs];show De 1 2 nt Z ((nsW c).map S++(r.flatMap wdO).map S) (gs++[g]) []=_;rw [Vt _ _ _ _ (h c Bf),Yh hs r _ _ λc a=>h c (Bp _ a)];simp
end
def iZ{U:D->Prop}{ws:List (List Nat)}{cs:List C5}(hw:∀w∈ws,Ta w/\w≠[47])(hl:(ws++cs.flatMap wdO).length<1000)(q:U (.lst (.lst (ws.map S)::cs.map λc=>.lst ((nsW c).map S)))):Tl (Q0 [.lst ((ws++cs.flatMap wdO).map S)]) U:=by
 have a:∀w:List Nat,Ta w->trb (o2 dEq (v 2) (c (.str "/"))) (([Cl.im (.lst ((ws++cs.flatMap wdO).map S)),.no,.no].set 1 .no).set 2 (.im (S w)))=.ok (decide (w=[47])):=by
  intro w hw;refine Tl.eq ?_;dsimp only [List.set_cons_zero,List.set_cons_succ];symm;rw [litS];refine CV hw (Am rfl) ?_;symm
 have b:grp 1 2 0 (trb (o2 dEq (v 2) (c (.str "/")))) [Cl.im (.lst ((ws++cs.flatMap wdO).map S)),.no,.no]=.ok (.rt (.lst (.lst (ws.map S)::cs.map λc=>.lst ((nsW c).map S)))):=by
  unfold grp;show (if (true&&decide (1<3)&&decide (2<3)&&decide (((ws++cs.flatMap wdO).map S).length<1000))=true then (De 1 2 (trb (o2 dEq (v 2) (c (.str "/")))) [Cl.im (.lst ((ws++cs.flatMap wdO).map S)),.no,.no] ((ws++cs.flatMap wdO).map S) [] []).bind λd=>Res.ok (Fl.rt (D.lst (d.map D.lst))) else Res.bad)=_
  rw [Ax,Dj hl];show (De 1 2 (trb (o2 dEq (v 2) (c (.str "/")))) [Cl.im (.lst ((ws++cs.flatMap wdO).map S)),.no,.no] ((ws++cs.flatMap wdO).map S) [] []).bind (λd=>Res.ok (Fl.rt (D.lst (d.map D.lst))))=_;have e:De 1 2 (trb (o2 dEq (v 2) (c (.str "/")))) [Cl.im (.lst ((ws++cs.flatMap wdO).map S)),.no,.no] ((ws++cs.flatMap wdO).map S) [] []=.ok (ws.map S::cs.map λc=>(nsW c).map S):=by
   have g:(ws++cs.flatMap wdO).map S=ws.map S++(cs.flatMap wdO).map S:=GC
   conv=>lhs;arg 5;rw [g]
   rw [Vt ws _ _ _ λw h=>by rw [a w (hw w h).1,Bl (hw w h).2]]
   rw [Yh (a [47] (Am rfl)) cs _ _ λc j w f=>by
    obtain ⟨n,i,rfl⟩:=BZ.mp f
    rw [a _ (S5 n),Bl λe=>by
     have:=Ft (n:=n) (c:=47) (by rw [e];exact Bf)
     ac_rfl]]
   simp
  rw [e];show Res.ok (Fl.rt (D.lst ((ws.map S::cs.map λc=>(nsW c).map S).map D.lst)))=_;rw [Bg,DK];rfl
 unfold Q0;symm;refine Ad b ?_;symm;exact q
def cut4(a b c d:D)(r:List D):cutL (a::b::c::d::r) (some 4) none=r:=by
 unfold cutL cutAt;have:min (4:Int).toNat (a::b::c::d::r).length=4:=by simp
 simp only [];rw [iN (by decide),this];simp
def xM{U:D->Prop}{k:Nat}{c:C5}(h:C5k k c)(hr:∀n∈nsOf c,n.natAbs<10^30)(q:U (encC c)):Tl (QX [.lst ((nsW c).map S)]) U:=by
 have d:=h.n7;have f:=h.k3;have e:=h.b;unfold QX;symm;rw [show ((nsW c).map S).length=4+k by rw [List.length_map];unfold nsW;rw [List.length_map];exact d];symm;refine ⟨by ac_rfl,?_⟩;rw [show (nsW c).map S=(nsOf c).map (λn=>S (tI n)) by unfold nsW;rw [List.map_map];rfl];refine CW (λn=>D.int n) (λn a=>?_) ?_
 .symm;exact J4 (hr n a) rfl
 rw [show (nsOf c).map (λn=>D.int n)=.int c.1::.int c.2.1::.int c.2.2.1::.int c.2.2.2.1::c.2.2.2.2.map .int from rfl];symm;rw [cut4];symm;exact q
def Xo:∀as bs:List (List Nat),eqDs (as.map S) (bs.map S)=decide (as=bs)
 | [],[]=>by simp [eqDs]
 | [],_::_=>by simp [eqDs]
 | _::_,[]=>by simp [eqDs]
 | a::as,b::bs=>by
  show (eqD (S a) (S b)&&eqDs (as.map S) (bs.map S))=_;rw [Xo as bs];show ((mkS a==mkS b)&&_)=_;rw [U4,Bool.eq_iff_iff];simp
def aY{as:List (List Nat)}(h:∀a∈as,Ta a):∀k,Bc k (as.map S)=true:=by
 intro k
 induction as with
 | nil=>simp [Bc]
 | cons a r ih=>
  show (plain k (S a)&&Bc k (r.map S))=true;rw [ih λx b=>h x (Bp _ b),Bool.and_true];cases k<;>exact (h a Bf).pl
def Z7{U:D->Prop}{as bs:List (List Nat)}(ha:∀a∈as,Ta a)(hb:∀b∈bs,Ta b)(h:U (.bl (decide (as=bs)))):Tl (dEq (.lst (as.map S)) (.lst (bs.map S))) U:=by
 refine Ad (x:=.bl (decide (as=bs))) ?_ h;unfold dEq;have d:plain 50 (.lst (as.map S))=true:=aY ha 49;have c:plain 50 (.lst (bs.map S))=true:=aY hb 49;rw [d,c];show Res.ok (D.bl (eqDs (as.map S) (bs.map S)))=_;rw [Xo]
def qI{U:D->Prop}{h w:Nat}{P:Nat->Nat->Rat}(hh:Ct h)(hw:Ct w)(hP:∀i,i<h->∀j,j<w->B30 (P i j))(q:U (patD h w P)):Tl (Qy [S (patT h w P)]) U:=by
 have n:=hh.le;have d:=hw.le;have g:=V6 n.2 d.2 hP;have f:=An (Dd (s:=[59]) ((List.range h).map λi=>rwT w (P i))) g;unfold Qy;symm;symm;refine w_sD ?_;symm;refine ⟨_,rfl,?_⟩;symm;rw [Zd];refine Mi (by show (patT h w P).length<=_;exact An f (by decide)) ?_;have o:Ci 59 (patT h w P)=(List.range h).map λi=>rwT w (P i):=by
  refine Gs (by simp;ac_rfl) λr c=>?_;obtain ⟨i,_,rfl⟩:=BZ.mp c;intro a;rcases Fd a with a | ⟨l,hl,a⟩
  .simp at a
  .obtain ⟨j,_,rfl⟩:=BZ.mp hl;have:=Gw a;ac_rfl
 rw [o,DK];symm;refine ⟨by simp;ac_rfl,?_⟩;refine CW (enc:=(λl=>D.str (mkS l)) ∘ λi=>rwT w (P i)) (λi=>rowD w (P i)) (λi b=>?_) ?_
 .have b:=Ex.mp b;have e:=An (Dd (s:=[44]) ((List.range w).map λj=>fT (P i j))) (Su d.2 (hP i b));dsimp only [Function.comp];symm;refine w_sD ?_;symm;refine ⟨_,rfl,?_⟩;symm;rw [litC];refine Mi (by show (rwT w (P i)).length<=_;exact An e (by decide)) ?_;have k:Ci 44 (rwT w (P i))=(List.range w).map λj=>fT (P i j):=by
   refine Gs (by simp;ac_rfl) λr c=>?_;obtain ⟨j,_,rfl⟩:=BZ.mp c;intro a;have:=Gw a;ac_rfl
  rw [k,DK];symm;refine ⟨by simp;ac_rfl,?_⟩;refine CW (enc:=(λl=>D.str (mkS l)) ∘ λj=>fT (P i j)) (λj=>frD (P i j)) (λj m=>?_) ?_
  .dsimp only [Function.comp];symm;exact Oj (hP i b j (Ex.mp m)) rfl
  .rfl
 .symm;exact q
def TJ{h w:Nat}{P:Nat->Nat->Rat}{c:Nat}(hc:c∈patT h w P):c=44\/c=45\/c=47\/c=59\/(48<=c/\c<=57):=by
 rcases Fd hc with hm | ⟨l,hl,hm⟩
 .simp at hm;ac_rfl
 .obtain ⟨i,_,rfl⟩:=BZ.mp hl;rcases Fd hm with hm | ⟨l,hl,hm⟩
  .simp at hm;ac_rfl
  .obtain ⟨j,_,rfl⟩:=BZ.mp hl;have:=Gw hm;ac_rfl
def rn(h w:Nat)(P:Nat->Nat->Rat):Ta (patT h w P):=λc a=>by have:=TJ a;ac_rfl
def iu{h w:Nat}{P:Nat->Nat->Rat}(hh:0<h)(hw:0<w):patT h w P≠[47]:=by
 intro e;have d:Ci 59 (patT h w P)=(List.range h).map λi=>rwT w (P i):=by
  refine Gs (by simp;ac_rfl) λr b=>?_;obtain ⟨i,_,rfl⟩:=BZ.mp b;intro a;rcases Fd a with a | ⟨l,hl,a⟩
  .simp at a
  .obtain ⟨j,_,rfl⟩:=BZ.mp hl;have:=Gw a;ac_rfl
 rw [e,show Ci 59 [47]=[[47]] by decide] at d;have k:h=1:=by
  have:=CP List.length d;simpa using this.symm
 subst k;have g:rwT w (P 0)=[47]:=by simpa using d.symm
 have c:Ci 44 (rwT w (P 0))=(List.range w).map λj=>fT (P 0 j):=by
  refine Gs (by simp;ac_rfl) λr b=>?_;obtain ⟨j,_,rfl⟩:=BZ.mp b;intro a;have:=Gw a;ac_rfl
 rw [g,show Ci 44 [47]=[[47]] by decide] at c;have f:w=1:=by
  have:=CP List.length c;simpa using this.symm
 subst f;exact bI (q:=P 0 0) (by simpa using c.symm)
def Ql{k:Nat}{K:Kd}(hk:KOk k K):∀w∈hdW K,Ta w/\w≠[47]/\32∉w:=by
 have f:∀q:Rat,Ta (fT q)/\fT q≠[47]/\32∉fT q:=λq=>⟨qp q,bI,λh=>by have:=Gw h;ac_rfl⟩;intro w a;cases K with
 | pl q=>
  simp only [hdW,Aq,BL,Bj] at a;rcases a with rfl | rfl
  .exact ⟨Am rfl,by decide,by decide⟩
  .exact f _
 | sh=>
  simp only [hdW,Aq,BL,Bj] at a;subst a;exact ⟨Am rfl,by decide,by decide⟩
 | pa h w P=>
  obtain ⟨d,c,b,e⟩:=hk;simp only [hdW,Aq,BL,Bj] at a;rcases a with rfl | rfl
  .exact ⟨Am rfl,by decide,by decide⟩
  .exact ⟨rn _ _ _,iu (by have:=c.le;ac_rfl) (by have:=b.le;ac_rfl),λh=>by have:=TJ h;ac_rfl⟩
 | gl q r=>
  simp only [hdW,Aq,BL,Bj] at a;rcases a with rfl | rfl | rfl
  .exact ⟨Am rfl,by decide,by decide⟩
  .exact f _
  .exact f _
def Iu{U:D->Prop}{a b:List Nat}(ha:Ta a)(hb:Ta b)(h:U (.bl (decide (a=b)))):Tl (dEq (.lst [S a]) (.lst [S b])) U:=by
 refine Z7 (as:=[a]) (bs:=[b]) (by simpa using ha) (by simpa using hb) ?_;rw [show decide ([a]=[b])=decide (a=b) by simp];exact h
def Ye{U:D->Prop}{as:List D}{b:List Nat}{ws:List (List Nat)}(e:as=ws.map S)(hw:∀a∈ws,Ta a)(hb:Ta b)(hne:ws≠[b])(h:U (.bl false)):Tl (dEq (.lst as) (.lst [S b])) U:=by
 subst e;refine Z7 (bs:=[b]) hw (by simpa using hb) ?_;rw [Bl hne];exact h
def cut1(a:D)(r:List D):cutL (a::r) none (some 1)=[a]:=by
 unfold cutL cutAt;have:min (1:Int).toNat (a::r).length=1:=by simp
 simp only [];rw [iN (by decide),this];simp
def lR{U:D->Prop}{B k:Nat}{K:Kd}{T:D}(hk:KOk k K)(k3:k<=3)(ht:Tr B k T)(q:U (thD K T)):Tl (Pq [.lst ((hdW K).map S),T]) U:=by
 have ok:=λw h=>(Ql hk w h).1;unfold Pq;cases K with
 | pl c0=>
  show Tl (fn 2 _ [.lst [S lPl,S (fT c0)],T]) U;symm;rw [Gz,cut1];refine Iu (Am rfl) (Am rfl) ?_;symm;refine Dm ?_;symm;refine Oj hk ?_;symm;refine ⟨_,PN k3 ht,?_⟩;symm;exact q
 | sh=>
  show Tl (fn 2 _ [.lst [S lSh],T]) U;symm;rw [Gz,cut1];refine Iu (Am rfl) (Am rfl) ?_;rw [Bl (show lSh≠lPl by decide)];symm;rw [J7];refine Iu (Am rfl) (Am rfl) ?_;symm;refine Dm ?_;symm;refine ⟨_,Pa k3 ht hk,?_⟩;symm;exact q
 | pa h w P=>
  obtain ⟨g,a,b,i⟩:=hk;show Tl (fn 2 _ [.lst [S lPa,S (patT h w P)],T]) U;symm;rw [Gz,cut1];refine Iu (Am rfl) (Am rfl) ?_;rw [Bl (show lPa≠lPl by decide)];symm;rw [J7];refine Ye (ws:=[lPa,patT h w P]) rfl ok (Am rfl) (by simp) ?_;symm;rw [Kc,cut1];refine Iu (Am rfl) (Am rfl) ?_;symm;refine Dm ?_;symm;refine qI a b i ?_;symm;refine ⟨_,Rb k3 ht g a b,?_⟩;symm;exact q
 | gl c0 r=>
  obtain ⟨f,c,e,d⟩:=hk;show Tl (fn 2 _ [.lst [S lGl,S (fT c0),S (fT r)],T]) U;symm;rw [Gz,cut1];refine Iu (Am rfl) (Am rfl) ?_;rw [Bl (show lGl≠lPl by decide)];symm;rw [J7];refine Ye (ws:=[lGl,fT c0,fT r]) rfl ok (Am rfl) (by simp) ?_;symm;rw [Kc,cut1];refine Iu (Am rfl) (Am rfl) ?_;rw [Bl (show lGl≠lPa by decide)];symm;rw [M9,cut1];refine Iu (Am rfl) (Am rfl) ?_;symm;refine Dm ?_;symm;refine Oj f ?_;symm;refine Oj c ?_;symm;refine ⟨_,Q3 k3 ht e d,?_⟩;symm;exact q
def Xd(a:D)(r:List D):cutL (a::r) (some 1) none=r:=by
 unfold cutL cutAt;have:min (1:Int).toNat (a::r).length=1:=by simp
 simp only [];rw [iN (by decide),this];simp
def rJ{k:Nat}{K:Kd}{T:D}{cs:List C5}(h:Cs k T cs):(rowW K cs).length<=30:=by
 obtain ⟨_,m,g⟩:=h;have i:(hdW K).length<=3:=by cases K<;>simp [hdW]
 have a:∀l:List C5,(∀c∈l,C5k k c)->(l.flatMap wdO).length<=l.length*8:=by
  intro l
  induction l with
  | nil=>intro _;simp
  | cons c r ih=>
   intro e;have:=ih λd f=>e d (Bp _ f);have b:=e c Bf;have j:=b.n7;have n:=b.k3;rw [NB,Cd,Dh];have:(wdO c).length=(nsOf c).length+1:=by simp [wdO,wdC]
   ac_rfl
 have:=a cs g;unfold rowW;rw [Cd];ac_rfl
def Vs{k:Nat}{K:Kd}{T:D}{cs:List C5}(hk:KOk k K)(h:Cs k T cs):(Ak [32] (rowW K cs)).length<=19000:=by
 obtain ⟨_,i,g⟩:=h;have a:=Xc hk;have e:Ak [32] (rowW K cs)=Ak [32] (hdW K++cs.map λc=>Ak [32] (wdO c)):=(V4 wdO aJ cs (Uk K)).symm;rw [e];refine An (Dd _) ?_;have b:totL 1 (cs.map λc=>Ak [32] (wdO c))<=3*501:=by
  refine An (Hl (B:=500) λl d=>?_) (by rw [Ax];ac_rfl);obtain ⟨c,f,rfl⟩:=BZ.mp d;exact An (Dd _) (g c f).tot
 unfold totL at b a ⊢;simp only [GC,List.sum_append,Cd,QD,Nat.mul_one] at a b ⊢;ac_rfl
def aU{k:Nat}{K:Kd}{cs:List C5}(hk:KOk k K):∀w∈rowW K cs,32∉w:=by
 intro w hw;rcases CK.mp hw with hw | hw
 .exact (Ql hk w hw).2.2
 .obtain ⟨c,_,hw⟩:=List.mem_flatMap.mp hw;rcases Aq.mp hw with rfl | hw
  .decide
  .obtain ⟨n,_,rfl⟩:=BZ.mp hw;intro a;have:=Ft a;ac_rfl
def jL{U:D->Prop}{B k:Nat}{K:Kd}{T:D}{cs:List C5}(hk:KOk k K)(ht:Tr B k T)(h:Cs k T cs)(hr:∀c∈cs,∀n∈nsOf c,n.natAbs<10^30)(q:U (thD K T)):Tl (Mv [S (Ak [32] (rowW K cs))]) U:=by
 have m:=Vs hk h;have j:=rJ (K:=K) h;have d:=aU (cs:=cs) hk;have i:=h.l;have f:=h.b;unfold Mv;symm;unfold Nv;symm;refine w_sD ?_;symm;refine ⟨_,rfl,?_⟩;symm;rw [litB];refine Mi (by ac_rfl) ?_;rw [Gs (by unfold rowW;simp [Uk]) d];symm;unfold rowW at j ⊢;refine iZ (λw g=>⟨(Ql hk w g).1,(Ql hk w g).2.1⟩) (by ac_rfl) ?_;symm;rw [Dh,Ax,i];symm;symm;rw [Xd];symm;refine ⟨by simp;ac_rfl,?_⟩;refine CW (λc=>encC c) (λc a=>?_) ?_
 .symm;exact xM (f c a) (hr c a) rfl
 symm;rw [<-h.e];refine lR hk ?_ ht ?_
 .obtain ⟨c,a⟩ : ∃c,c∈cs:=by
   cases cs with
   | nil=>simp at i
   | cons c r=>exact ⟨c,Bf⟩
  exact (f c a).k3
 symm;exact q
def QZ(kf:Nat->List Int):∀(n:Nat) (k:List Int),k∈firsts kf n↔∃i,i<n/\kf i=k
 | 0,k=>by simp [firsts]
 | n+1,k=>by
  have ih:=QZ kf n k;unfold firsts;split
  .next h=>
   rw [ih];constructor
   .rintro ⟨i,a,e⟩;exact ⟨i,by ac_rfl,e⟩
   .rintro ⟨i,a,e⟩;by_cases z:i=n
    .subst z;obtain ⟨j,b,c⟩:=(QZ kf i (kf i)).mp h;exact ⟨j,b,c.trans e⟩
    .exact ⟨i,by ac_rfl,e⟩
  .rw [CK,ih,GQ];constructor
   .rintro (⟨i,a,e⟩ | e)
    .exact ⟨i,by ac_rfl,e⟩
    .exact ⟨n,by ac_rfl,e.symm⟩
   .rintro ⟨i,a,e⟩;by_cases z:i=n
    .subst z;exact .inr e.symm
    .exact .inl ⟨i,by ac_rfl,e⟩
def M6(kf:Nat->List Int):∀n,(firsts kf n).length<=n
 | 0=>Ar _
 | n+1=>by
  have:=M6 kf n;unfold firsts;split
  .ac_rfl
  .simp;ac_rfl
def X3(kf:Nat->List Int):∀n,(firsts kf n).length=n↔∀i j,i<j->j<n->kf i≠kf j
 | 0=>by simp [firsts]
 | n+1=>by
  have ih:=X3 kf n;have g:=M6 kf n;unfold firsts;split
  .next h=>
   obtain ⟨i,b,e⟩:=(QZ kf n (kf n)).mp h;constructor
   .intro z;ac_rfl
   .intro z;exact aB e (z i n b (by ac_rfl))
  .next h=>
   have f:∀i,i<n->kf i≠kf n:=λi b e=>h ((QZ kf n (kf n)).mpr ⟨i,b,e⟩);rw [Cd,QD];constructor
   .intro z i j a d;have c:=ih.mp (by ac_rfl);by_cases q:j=n
    .subst q;exact f i a
    .exact c i j a (by ac_rfl)
   .intro z;have:=ih.mpr λi j a d=>z i j a (by ac_rfl);ac_rfl
def Xb{α:Type}{enc:α->D}{key:α->List Int}(h:∀a,∃ds,enc a=.tup ds/\intsOf ds=some (key a)):∀l:List α,keysOf (l.map enc)=some (l.map key)
 | []=>rfl
 | a::r=>by
  obtain ⟨ds,c,b⟩:=h a;rw [Bg,c];unfold keysOf;rw [b,Xb h r];rfl
def wO{α:Type} [DecidableEq α] {enc:α->D} {key:α->List Int} (h:∀a,∃ds,enc a=.tup ds/\intsOf ds=some (key a)) (inj:∀a b,key a=key b->a=b) {l:List α} (hl:l.length<=16) :
  ∃n:Nat,S6 (.lst (l.map enc))=.ok (.int n)/\(n=l.length↔l.Nodup):=by
 refine ⟨(firsts (λi=>(l.map key).getD i []) (l.map enc).length).length,?_,?_⟩
 .show (match keysOf (l.map enc) with | some ks=>if (l.map enc).length<=16 then Res.ok (D.int ((firsts (λi=>ks.getD i []) (l.map enc).length).length:Nat)) else Res.bad | none=>Res.bad)=_
  rw [Xb h];show (if _ then _ else _)=_
  rw [iP (by rw [Ax];exact hl)]
 .rw [Ax,X3];unfold List.Nodup;rw [Rx];have c:∀i (g:i<l.length),(l.map key).getD i []=key l[i]:=λi g=>by simp [List.getD,g]
  constructor
  .intro z i j g f d e;exact z i j d f (by rw [c i g,c j f,e])
  .intro z i j d f e;rw [c i (by ac_rfl),c j f] at e;exact z i j (by ac_rfl) f d (inj _ _ e)
def rY{α:Type}{U:Fl->Prop}{g:MG}{k:MS}{enc:α->D}{ts:List α}(I:List α->Ev->Prop)(h:∀us t vs,ts=us++t::vs->∀Z,I us Z->Tl (g (enc t) Z) λZ1=>Tl (k Z1) λf=>(∃Z2,f=.nx Z2/\I (us++[t]) Z2)\/∃d,f=.rt d/\U (.rt d))(hd:∀Z,I ts Z->U (.nx Z)){Z:Ev}(h0:I [] Z):Tl (CG g k (ts.map enc) Z) U:=by
 have a:∀(vs us:List α) (Z:Ev),ts=us++vs->I us Z->Tl (CG g k (vs.map enc) Z) U:=by
  intro vs
  induction vs with
  | nil=>
   intro us Z e i;rw [FJ] at e;subst e;exact w_f0 (hd Z i)
  | cons t vs ih=>
   intro us Z e i;obtain ⟨Z1,c,f,b,q⟩:=h us t vs e Z i;rw [Bg];refine w_f1 ⟨Z1,c,_,b,?_⟩;rcases q with ⟨Z2,rfl,i2⟩ | ⟨d,rfl,q⟩
   .exact ih (us++[t]) Z2 (by rw [e];simp) i2
   .exact Aw q
 exact a ts [] Z rfl h0
abbrev encP(d:Int×Int):D:=.tup [.int d.1,.int d.2]
def kW{U:D->Prop}{x:Int}(q:U (.bl true)):Tl (Gm [.int x]) U:=by
 unfold Gm;symm;exact q
def Nu{U:D->Prop}{x a b:Int}(h:a<=x/\x<=b)(q:U (.bl true)):Tl (JG [.int x,.int a,.int b]) U:=by
 unfold JG;symm;refine kW ?_;symm;rw [Dj h.2];exact q
def sO{U:D->Prop}{w h:Nat}(hw:1<=w/\w<=64)(hh:1<=h/\h<=64)(q:U .non):Tl (Rt [.int w,.int h]) U:=by
 unfold Rt;symm;refine Nu (by ac_rfl) ?_;symm;refine Nu (by ac_rfl) ?_;symm;exact q
def WK{α:Type}(f:α->Bool):∀l:List α,bools (l.map λa=>D.bl (f a))=.ok (l.map f)
 | []=>rfl
 | a::r=>by
  rw [Bg];show (bools (r.map λa=>D.bl (f a))).bind _=_;rw [WK f r];rfl
def mV{U:D->Prop}{d:Int×Int}(hd:(1<=d.1/\d.1<=7)/\1<=d.2/\d.2<=7)(q:U (.bl true)):Tl (Rh [encP d]) U:=by
 unfold Rh;symm;refine Nu hd.1 ?_;symm;refine Nu hd.2 ?_;symm;exact q
def sr{α:Type}{U:D->Prop}{f:α->Bool}{l:List α}(h:∀a∈l,f a=true)(q:U (.bl true)):Tl (bAll [.lst (l.map λa=>D.bl (f a))]) U:=by
 refine Ad ?_ q;show (bools (l.map λa=>D.bl (f a))).bind _=_;rw [WK f l];show Res.ok (D.bl ((l.map f).all id))=_;rw [List.all_map,Hu.mpr λa b=>(show (id ∘ f) a=true from h a b)]
def wI{U:D->Prop}{dots:List (Int×Int)}(h1:1<=dots.length/\dots.length<=16)(hd:∀d∈dots,(1<=d.1/\d.1<=7)/\1<=d.2/\d.2<=7)(hnd:dots.Nodup)(q:U .non):Tl (R1 [.lst (dots.map encP)]) U:=by
 unfold R1;symm;rw [Ax];refine Ce (λz=>by ac_rfl) (λ_=>?_);symm;rw [Ax];rw [Bl (by ac_rfl)];symm;refine ⟨by rw [Ax];ac_rfl,?_⟩;refine CW (enc:=encP) (λd:Int×Int=>D.bl ((λ_=>true) d)) (λd c=>?_) ?_
 .symm;exact mV (hd d c) rfl
 symm;refine sr (f:=λ_:Int×Int=>true) (λ_ _=>rfl) ?_;symm
 obtain ⟨n,e,g⟩:=wO (enc:=encP) (key:=λd:Int×Int=>[d.1,d.2]) (λa=>⟨_,rfl,rfl⟩) (λa b h=>by
  injection h with h1 h2
  injection h2 with h2 _
  exact Prod.ext h1 h2) h1.2
 refine Ad e ?_;symm;rw [g.mpr hnd,Ax];symm;exact q
def iD(a b:Int×Int):eqD (encP a) (encP b)=decide (a=b):=by
 unfold eqD eqDs eqDs eqDs;show ((a.1==b.1)&&((a.2==b.2)&&true))=_;rw [Bool.and_true,Bool.eq_iff_iff,Ln,beq_iff_eq,beq_iff_eq,LR];constructor
 .rintro ⟨c,d⟩;exact Prod.ext c d
 .rintro rfl;exact ⟨rfl,rfl⟩
def aP(q:Int×Int):∀qs:List (Int×Int),inD (encP q) (qs.map encP)=decide (q∈qs)
 | []=>rfl
 | a::r=>by
  have ih:=aP q r;unfold inD at ih ⊢;rw [Bg,List.any_cons,ih,iD,<-Bool.decide_or,decide_eq_decide,Aq];constructor
  .rintro (rfl | h)
   .exact .inl rfl
   .exact .inr h
  .rintro (rfl | h)
   .exact .inl rfl
   .exact .inr h
def WL(k:Nat):∀qs:List (Int×Int),Bc (k+1) (qs.map encP)=true
 | []=>rfl
 | a::r=>by
  rw [Bg];show (plain (k+1) (encP a)&&Bc (k+1) (r.map encP))=true;rw [WL k r];rfl
def Dots(dots:List (Int×Int)):Prop:=(∀d∈dots,(1<=d.1/\d.1<=7)/\1<=d.2/\d.2<=7)/\dots.Nodup
def b30{q:Rat}(h:Bq 32 q):B30 q:=⟨Fp h.n (by decide),Fp (by simpa [Sm] using h.d) (show 2^32<10^30 by decide)⟩
def oA{k:Nat}{K:Kd}{cs:List C5}(hk:KOk k K):∀c∈Ak [32] (rowW K cs),32<=c/\c<128:=by
 have f:∀(n:Int),∀c∈tI n,32<=c/\c<128:=λn c h=>by have:=Ft h;ac_rfl
 have b:∀(q:Rat),∀c∈fT q,32<=c/\c<128:=λq c h=>by have:=Gw h;ac_rfl
 have a:∀l:List Nat,l.all (λc=>decide (32<=c/\c<128))=true->∀c∈l,32<=c/\c<128:=λl h c e=>of_decide_eq_true (Hu.mp h c e);intro c e;rcases Fd e with hm | ⟨l,hl,hm⟩
 .simp at hm;ac_rfl
 .rcases CK.mp hl with hl | hl
  .cases K with
   | pl q=>
    simp only [hdW,Aq,BL,Bj] at hl;rcases hl with rfl | rfl
    .exact a _ (by decide) c hm
    .exact b _ c hm
   | sh=>
    simp only [hdW,Aq,BL,Bj] at hl;subst hl;exact a _ (by decide) c hm
   | pa h w P=>
    simp only [hdW,Aq,BL,Bj] at hl;rcases hl with rfl | rfl
    .exact a _ (by decide) c hm
    .have:=TJ hm;ac_rfl
   | gl q r=>
    simp only [hdW,Aq,BL,Bj] at hl;rcases hl with rfl | rfl | rfl
    .exact a _ (by decide) c hm
    .exact b _ c hm
    .exact b _ c hm
  .obtain ⟨d,_,hw⟩:=List.mem_flatMap.mp hl;rcases Aq.mp hw with rfl | hw
   .simp at hm;ac_rfl
   .obtain ⟨n,_,rfl⟩:=BZ.mp hw;exact f n c hm
structure Wt(B:Nat)(d:D):Prop where
 ex:∃(K:Kd) (k:Nat) (T:D),d=thD K T/\KOk k K/\k<=3/\Tr B k T
structure Tx(d:D)(l:List Nat):Prop where
 t:Hc [d]=.ok (S l)
 c:∀c∈l,32<=c/\c<128
 l:l.length<=19000
def Zw2{B:Nat}{d:D}(hB:B<=190)(h:Wt B d):∃l,Tx d l:=by
 obtain ⟨K,k,T,rfl,a,e,c⟩:=h;obtain ⟨f,b,_⟩:=W2 e hB c;exact ⟨_,Tl.eq (ZP a b rfl),oA a,Vs a b⟩
abbrev DL:=D×List Nat
def yq{B:Nat}{ts:List D}(hB:B<=190)(h:∀t∈ts,Wt B t):∃L:List DL,ts=L.map (·.1)/\∀p∈L,Tx p.1 p.2:=by
 induction ts with
 | nil=>exact ⟨[],rfl,by simp⟩
 | cons t r ih=>
  obtain ⟨L,rfl,e⟩:=ih λt d=>h t (Bp _ d);obtain ⟨l,c⟩:=Zw2 hB (h t Bf);exact ⟨(t,l)::L,rfl,by simpa using ⟨c,λa b=>e (a,b)⟩⟩
def lFl:List Nat:=[102,108,111,111,114]
def lGr:List Nat:=[103,114,111,117,110,100]
def lSp:List Nat:=[115,112,111,116,115]
def VF:Str.ofString "floor"=mkS lFl:=by decide +kernel
def Vw:Str.ofString "ground"=mkS lGr:=by decide +kernel
def UJ:Str.ofString "spots"=mkS lSp:=by decide +kernel
def litN:Str.ofString "\n"=mkS [10]:=by decide +kernel
def nY:Str.ofString "floor "=mkS (lFl++[32]):=by decide +kernel
def lF:Str.ofString "ground "=mkS (lGr++[32]):=by decide +kernel
def ZwL:Str.ofString "spots "=mkS (lSp++[32]):=by decide +kernel
def pT(d:Int×Int):List Nat:=Ak [44] [tI d.1,tI d.2]
def rwF(w h:Nat):List Nat:=Ak [32] [lFl,tI w,tI h]
def rwG(g:Rat):List Nat:=Ak [32] [lGr,fT g]
def rwS(dots:List (Int×Int)):List Nat:=Ak [32] (lSp::dots.map pT)
def rws(w h:Nat)(g:Rat)(dots:List (Int×Int))(L:List DL):List (List Nat):=rwF w h::rwG g::rwS dots::L.map (·.2)
structure Sc(w h:Nat)(g:Rat)(dots:List (Int×Int))(L:List DL):Prop where
 w:1<=w/\w<=64
 h:1<=h/\h<=64
 g:Bq 32 g
 d:Dots dots
 n:1<=dots.length/\dots.length<=16
 l:L.length<=20
 t:∀p∈L,Tx p.1 p.2
def ti3{n:Int}(h:-999<=n/\n<=999):(tI n).length<=4:=HJ (k:=3) (by decide) (by ac_rfl)
section
variable{w h:Nat}{g:Rat}{dots:List (Int×Int)}{L:List DL}
def Sc.pt(s:Sc w h g dots L){d:Int×Int}(hd:d∈dots):(tI d.1).length<=4/\(tI d.2).length<=4:=by
 have:=s.d.1 d hd;exact ⟨ti3 (by ac_rfl),ti3 (by ac_rfl)⟩
def Sc.pl(s:Sc w h g dots L){l:List Nat}(hl:l∈dots.map pT):l.length<=9:=by
 obtain ⟨d,a,rfl⟩:=BZ.mp hl;have:=s.pt a;simp [pT,Ak];ac_rfl
def Sc.tS(s:Sc w h g dots L):totL 1 (lSp::dots.map pT)<=200:=by
 have:=Hl (s:=1) (B:=9) λl=>s.pl (l:=l);have n:=s.n;unfold totL at this ⊢;rw [Ax] at this;simp only [Bg,List.sum_cons,Dh,Ax];show lSp.length+_+_<=_;show 5+_+_<=_;ac_rfl
def Sc.tF(s:Sc w h g dots L):totL 1 [lFl,tI w,tI h]<=200:=by
 have a:=s.w;have b:=s.h;have:=ti3 (n:=w) (by ac_rfl);have:=ti3 (n:=h) (by ac_rfl);simp [totL,lFl];ac_rfl
def Sc.tG(s:Sc w h g dots L):totL 1 [lGr,fT g]<=200:=by
 have:=Jv (b30 s.g);simp [totL,lGr];ac_rfl
def Sc.tot(s:Sc w h g dots L):totL 1 (rws w h g dots L)<=400000:=by
 have e:=An (Dd (s:=[32]) [lFl,tI w,tI h]) s.tF;have f:=An (Dd (s:=[32]) [lGr,fT g]) s.tG;have d:=An (Dd (s:=[32]) (lSp::dots.map pT)) s.tS;have a:=Hl (s:=1) (B:=19000) (ls:=L.map (·.2)) λl b=>by
  obtain ⟨p,c,rfl⟩:=BZ.mp b;exact (s.t p c).l
 have:=s.l;unfold totL at a ⊢;rw [Ax] at a;unfold rws rwF rwG rwS;simp only [Bg,List.sum_cons,Dh,Ax];simp only [DK] at a ⊢;ac_rfl
def uc{U:List D->Prop}(s:Sc w h g dots L){e:ME}{Z:Ev}(he:∀d,e (Z.set 0 (.im d))=Hc [d])(q:U ((L.map (·.2)).map S)):Tl (Bw (gN 0) yes e Z (L.map (·.1))) U:=by
 refine CW (λp=>S p.2) (λp a=>?_) (by rw [DK] at q;exact q);symm;rw [he];exact Ad (s.t p a).t rfl
def Br(w h:Nat)(g:Rat)(dots:List (Int×Int))(ts:List D):D:=.tup [.int w,.int h,frD g,.lst (dots.map encP),.lst ts]
def ak{U:D->Prop}(s:Sc w h g dots L)(q:U (S (Ak [10] (rws w h g dots L)))):Tl (Io [Br w h g dots (L.map (·.1))]) U:=by
 have e:=s.w;have c:=s.h;have f:=s.n;have b:=s.l;unfold Io Br;symm;refine w_sD ?_;symm;refine ⟨_,rfl,?_⟩;symm;refine JD (by ac_rfl) ?_;symm;refine JD (by ac_rfl) ?_;symm;rw [VF,litB,Vw,UJ,litN];refine G9 (ls:=[lFl,tI w,tI h]) (An s.tF (by decide)) ?_;symm;refine w_sD ?_;symm;refine ⟨_,rfl,?_⟩;symm;refine M7 (b30 s.g) ?_;symm;refine G9 (ls:=[lGr,fT g]) (An s.tG (by decide)) ?_;symm;refine w_sD ?_;symm;refine ⟨_,rfl,?_⟩;symm;refine ⟨by simp;ac_rfl,?_⟩;refine CW (λd=>S (pT d)) (λd a=>?_) ?_
 .have:=s.d.1 d a;symm;unfold Vn;symm;refine JD (by ac_rfl) ?_;symm;have:=s.pt a;rw [litC];refine Dq (by simp;ac_rfl) ?_;symm;refine JD (by ac_rfl) ?_;symm;refine Dq (by simp;ac_rfl) ?_;symm;simp [pT,Ak]
 refine FZ (by simp;ac_rfl) ?_;rw [show [D.str (mkS lSp)]++dots.map (λd=>S (pT d))=(lSp::dots.map pT).map S by simp];refine G9 (An s.tS (by decide)) ?_;symm;refine w_sD ?_;symm;refine ⟨_,rfl,?_⟩;symm;refine ⟨by simp;ac_rfl,?_⟩;refine uc s (λd=>rfl) ?_;refine FZ (by simp;ac_rfl) ?_;refine G9 (ls:=rws w h g dots L) (An s.tot (by decide)) ?_;symm;exact q
end
def WM{U:D->Prop}{hd:List Nat}{ws:List (List Nat)}(ha:Ta hd)(h32:∀w∈hd::ws,32∉w)(hl:totL 1 (hd::ws)<=1000)(q:U (.lst (ws.map S))):Tl (Np [S hd,S (Ak [32] (hd::ws))]) U:=by
 unfold Np;symm;refine w_sD ?_;symm;refine ⟨_,rfl,?_⟩;symm;rw [litB];refine Mi (An (Dd _) (An hl (by decide))) ?_;rw [Gs (by simp) h32];symm;refine Vh ha ha ?_;rw [Dj rfl];symm;rw [Bg,Xd];exact q
def QV{U:D->Prop}{hd:List Nat}{ws:List (List Nat)}{n:Int}(ha:Ta hd)(h32:∀w∈hd::ws,32∉w)(hl:totL 1 (hd::ws)<=1000)(hn:n=ws.length)(q:U (.lst (ws.map S))):Tl (Lg [S hd,S (Ak [32] (hd::ws)),.int n]) U:=by
 unfold Lg;symm;refine WM ha h32 hl ?_;symm;rw [Ax];symm;exact q
def FT{n:Int}{c:Nat}(h:c<45\/57<c):c∉tI n:=λz=>by have:=Ft z;ac_rfl
def Xu{n:Rat}{c:Nat}(h:c<45\/57<c):c∉fT n:=λz=>by have:=Gw z;ac_rfl
section
variable{w h:Nat}{g:Rat}{dots:List (Int×Int)}{L:List DL}
def gQ(s:Sc w h g dots L):Qx [S (rwF w h)]=.ok (.lst [.int w,.int h]):=by
 have d:=s.w;have c:=s.h;refine Tl.eq ?_;unfold Qx Jg;symm;rw [VF];refine QV (ws:=[tI w,tI h]) (Am rfl) (λl a=>?_) (An s.tF (by decide)) rfl ?_
 .simp only [Aq,BL,Bj] at a;rcases a with rfl | rfl | rfl
  .decide
  .exact FT (by decide)
  .exact FT (by decide)
 symm;refine ⟨by simp,?_⟩;refine CW (l:=[(w:Int),(h:Int)]) (enc:=λn=>S (tI n)) D.int (λn b=>?_) ?_
 .symm;refine J4 ?_ rfl;simp only [Aq,BL,Bj] at b;rcases b with rfl | rfl<;>ac_rfl
 symm;refine sO d c ?_;symm;rfl
def qF(s:Sc w h g dots L):Pj [S (rwG g)]=.ok (frD g):=by
 refine Tl.eq ?_;unfold Pj;symm;rw [Vw];refine QV (ws:=[fT g]) (Am rfl) (λl a=>?_) (An s.tG (by decide)) rfl ?_
 .simp only [Aq,BL,Bj] at a;rcases a with rfl | rfl
  .decide
  .exact Xu (by decide)
 symm;refine Oj (b30 s.g) ?_;symm
def Zpa(s:Sc w h g dots L):Sg [S (rwS dots)]=.ok (.lst (dots.map encP)):=by
 have a:=s.n;refine Tl.eq ?_;unfold Sg;symm;rw [UJ];refine WM (ws:=dots.map pT) (Am rfl) (λl hl=>?_) (An s.tS (by decide)) ?_
 .rcases Aq.mp hl with rfl | hl
  .decide
  .obtain ⟨d,_,rfl⟩:=BZ.mp hl;intro z;rcases Fd z with z | ⟨l,hl,z⟩
   .simp at z
   .simp only [Aq,BL,Bj] at hl;rcases hl with rfl | rfl
    .exact FT (by decide) z
    .exact FT (by decide) z
 symm;refine ⟨by simp;ac_rfl,?_⟩;rw [DK];refine CW encP (λd b=>?_) ?_
 .have:=s.d.1 d b;have c:=s.pt b;symm;unfold Vp;symm;refine w_sD ?_;symm;refine ⟨_,rfl,?_⟩;symm;rw [litC];refine Mi (An (s.pl (List.mem_map_of_mem b)) (by decide)) ?_;unfold pT
  rw [Gs (by simp) λl hl=>by
   simp only [Aq,BL,Bj] at hl;rcases hl with rfl | rfl
   .exact FT (by decide)
   .exact FT (by decide)]
  symm;refine ⟨by simp,?_⟩;refine CW (l:=[d.1,d.2]) (enc:=λn=>S (tI n)) D.int (λn a=>?_) ?_
  .symm;refine J4 ?_ rfl;simp only [Aq,BL,Bj] at a;rcases a with rfl | rfl<;>ac_rfl
  symm;rfl
 symm;refine wI a s.d.1 s.d.2 ?_;symm
def vW(s:Sc w h g dots L):∀l∈rws w h g dots L,∀c∈l,32<=c/\c<128:=by
 have b:∀(n:Int),∀c∈tI n,32<=c/\c<128:=λn c h=>by have:=Ft h;ac_rfl
 intro l hl c a;unfold rws at hl;simp only [Aq] at hl;have e:∀l:List Nat,l.all (λc=>decide (32<=c/\c<128))=true->∀c∈l,32<=c/\c<128:=λl h c a=>of_decide_eq_true (Hu.mp h c a);rcases hl with rfl | rfl | rfl | hl
 .rcases Fd a with hm | ⟨l,hl,hm⟩
  .simp at hm;ac_rfl
  .simp only [Aq,BL,Bj] at hl;rcases hl with rfl | rfl | rfl
   .exact e _ (by decide) c hm
   .exact b _ c hm
   .exact b _ c hm
 .rcases Fd a with hm | ⟨l,hl,hm⟩
  .simp at hm;ac_rfl
  .simp only [Aq,BL,Bj] at hl;rcases hl with rfl | rfl
   .exact e _ (by decide) c hm
   .have:=Gw hm;ac_rfl
 .rcases Fd a with hm | ⟨l,hl,hm⟩
  .simp at hm;ac_rfl
  .rcases Aq.mp hl with rfl | hl
   .exact e _ (by decide) c hm
   .obtain ⟨d,_,rfl⟩:=BZ.mp hl;rcases Fd hm with hm | ⟨l,hl,hm⟩
    .simp at hm;ac_rfl
    .simp only [Aq,BL,Bj] at hl;rcases hl with rfl | rfl
     .exact b _ c hm
     .exact b _ c hm
 .obtain ⟨p,f,rfl⟩:=BZ.mp hl;exact (s.t p f).c c a
end
def iQ{U:D->Prop}{cc:Int}(q:∀dots:List (Int×Int),1<=dots.length->dots.length<=16->Dots dots->U (.lst (dots.map encP))):Tl (Nm [.int cc]) U:=by
 unfold Nm;symm;refine Nx (n:=17) (by decide) λw l C=>?_;obtain ⟨c,i,rfl⟩ : ∃c i,w=c::i:=by
  cases w with
  | nil=>simp at l
  | cons a r=>exact ⟨a,r,rfl⟩
 have I:Dw c:=C c Bf;unfold Dw at I;have L:i.length=16:=by simpa using l
 symm;have F:Tl (bInt [.bl (decide (c%8=7))]) λy=>Tl (dIx (.lst [.int (c/8%3),.int (c/8%16)]) y) λx=>∃n:Nat,x=.int n/\n<=15:=by
  by_cases z:c%8=7
  .rw [Dj z];exact Ad rfl (Ad rfl ⟨(c/8%16).toNat,by rw [Int.toNat_of_nonneg (by ac_rfl)],by ac_rfl⟩)
  .rw [Bl z];exact Ad rfl (Ad rfl ⟨(c/8%3).toNat,by rw [Int.toNat_of_nonneg (by ac_rfl)],by ac_rfl⟩)
 obtain ⟨y,B,x,A,n,rfl,M⟩:=F;refine Ad B (Ad A ?_);clear B A y;symm;rw [show (2+(n:Int))=((2+n:Nat):Int) by ac_rfl,show (some (1:Int))=some (((1:Nat):Int)) from rfl,U8 (by ac_rfl) (by rw [l];ac_rfl)];have m:((c::i).drop 1).take (2+n - 1)≠[]:=by
  intro z;have:=CP List.length z;rw [List.length_take,List.length_drop,l,List.length_nil] at this;ac_rfl
 have H:(((c::i).drop 1).take (2+n - 1)).length<=16:=by simp;ac_rfl
 generalize ((c::i).drop 1).take (2+n - 1)=us at *;refine rY (enc:=D.int) (λg Z=>∃(dots:List (Int×Int)) (t v:Cl),(g≠[]->1<=dots.length)/\dots.length<=g.length/\Dots dots/\Z=[.im (.int cc),.im (.lst ((c::i).map .int)),.ow (dots.map encP),t,v]) ?_ ?_ ⟨[],_,_,λz=>aB rfl z,Ar _,⟨λ_ h=>(BL h).elim,List.nodup_nil⟩,rfl⟩
 .rintro g x K e Z ⟨dots,t,v,k,u,j,rfl⟩;have E:g.length<us.length:=by rw [e];simp
  symm;refine Tl.mono (Ψ:=λf=>∃p:Int×Int,((1<=p.1/\p.1<=7)/\1<=p.2/\p.2<=7)/\f=Fl.nx [.im (.int cc),.im (.lst ((c::i).map .int)),.ow (dots.map encP),.im (.int x),.im (encP p)]) ?_ ?_
  .refine Ce (λ_=>?_) (λ_=>?_)
   .symm;exact ⟨(4,4),by decide,rfl⟩
   .symm;exact ⟨(1+x%7,1+x/7%7),⟨⟨by show 1<=1+x%7;ac_rfl,by show 1+x%7<=7;ac_rfl⟩,by show 1<=1+x/7%7;ac_rfl,by show 1+x/7%7<=7;ac_rfl⟩,rfl⟩
  rintro f ⟨p,J,rfl⟩;symm;refine vJ rfl (WL _ _) ?_;rw [aP];symm;refine qd (λz=>?_) (λz=>?_)
  .symm;refine ⟨by rw [Ax];ac_rfl,?_⟩;left;refine ⟨_,rfl,dots++[p],_,_,λ_=>by simp,by simp;ac_rfl,⟨λd o=>?_,?_⟩,by rw [GC];rfl⟩
   .rcases CK.mp o with h | h
    .exact j.1 d h
    .have:d=p:=by simpa using h
     subst this;exact J
   .rw [List.nodup_append];refine ⟨j.2,by simp,λa G b s=>?_⟩;have s:b=p:=by simpa using s
    rintro rfl;subst s;exact z G
  .symm;left;refine ⟨_,rfl,dots,_,_,λ_=>?_,by simp;ac_rfl,j,rfl⟩;have:=List.length_pos_of_mem z;ac_rfl
 .rintro Z ⟨dots,t,v,k,u,j,rfl⟩;symm;exact q dots (k m) (by ac_rfl) j
def lM{U:Fl->Prop}(e:Z[i]?=some (.ow xs))(h:Tl (a Z) λd=>Tl (lstO d) λys=>xs.length+ys.length<=LIM/\U (.nx (Z.set i (.ow (xs++ys))))):Tl (ext i a Z) U:=by
 obtain ⟨d,c,ys,b,f,q⟩:=h;refine Ad ?_ q;unfold ext;rw [e];show (a Z).bind _=_;rw [c];show (lstO d).bind _=_;rw [b];show (if xs.length+ys.length<=LIM then _ else _)=_
 lia
def wdK:Kd->List Nat
 | .pl _=>lPl
 | .sh=>lSh
 | .pa _ _ _=>lPa
 | .gl _ _=>lGl
def JL:∀K:Kd,Ta (wdK K)
 | .pl _=>Am (l:=lPl) rfl
 | .sh=>Am (l:=lSh) rfl
 | .pa _ _ _=>Am (l:=lPa) rfl
 | .gl _ _=>Am (l:=lGl) rfl
def Mm{U:D->Prop}{K:Kd}{T:D}{o:ME}{Z:Ev}(ho:o Z=.ok (thD K T))(q:U (S (wdK K))):Tl (meth J9 "word" o Ab Z) U:=by
 refine J8 (Ad ho ?_);cases K with
 | pl c0=>
  refine ⟨_,_,_,Ku,rfl,by decide +kernel,by rfl,Ad rfl ?_⟩;unfold Ku;symm;rw [Gz];exact q
 | sh=>
  refine ⟨_,_,_,Kv,rfl,by decide +kernel,by rfl,Ad rfl ?_⟩;unfold Kv;symm;rw [J7];exact q
 | pa h w P=>
  refine ⟨_,_,_,Kw,rfl,by decide +kernel,by rfl,Ad rfl ?_⟩;unfold Kw;symm;rw [Kc];exact q
 | gl c0 r=>
  refine ⟨_,_,_,Ly,rfl,by decide +kernel,by rfl,Ad rfl ?_⟩;unfold Ly;symm;rw [M9];exact q
section
variable{U:D->Prop}{B k:Nat}{K:Kd}{T T':D}
def n6(hk:KOk k K)(k3:k<=3)(ht:Tr B k T')(q:U (thD K T')):Tl (Lw [thD K T,T']) U:=by
 unfold Lw;symm;refine Mm rfl ?_;symm;rw [M9,Gz,J7];refine CV (JL K) (Am rfl) ?_;cases K with
 | pl c0=>
  rw [Bl (show wdK (.pl c0)≠lGl by show lPl≠lGl;decide)];symm;refine Mm (K:=.pl c0) rfl ?_;symm;refine CV (JL _) (Am rfl) ?_;rw [Dj (show wdK (.pl c0)=lPl from rfl)];symm;refine Dm ?_;symm;refine Ad (fC1 _ _) ?_;symm;refine ⟨_,PN k3 ht,?_⟩;symm;exact q
 | sh=>
  rw [Bl (show wdK .sh≠lGl by show lSh≠lGl;decide)];symm;refine Mm (K:=.sh) rfl ?_;symm;refine CV (JL _) (Am rfl) ?_;rw [Bl (show wdK .sh≠lPl by show lSh≠lPl;decide)];symm;refine Mm (K:=.sh) rfl ?_;symm;refine CV (JL _) (Am rfl) ?_;rw [Dj (show wdK .sh=lSh from rfl)];symm;refine Dm ?_;symm;refine ⟨_,Pa k3 ht hk,?_⟩;symm;exact q
 | pa h w P=>
  obtain ⟨d,b,e,i⟩:=hk;rw [Bl (show wdK (.pa h w P)≠lGl by show lPa≠lGl;decide)];symm;refine Mm (K:=.pa h w P) rfl ?_;symm;refine CV (JL _) (Am rfl) ?_;rw [Bl (show wdK (.pa h w P)≠lPl by show lPa≠lPl;decide)];symm;refine Mm (K:=.pa h w P) rfl ?_;symm;refine CV (JL _) (Am rfl) ?_;rw [Bl (show wdK (.pa h w P)≠lSh by show lPa≠lSh;decide)];symm;refine Dm ?_;symm;refine Ad (fN3 _ _) ?_;symm;refine ⟨_,Rb k3 ht d b e,?_⟩;symm;exact q
 | gl c0 r=>
  obtain ⟨f,g,c,a⟩:=hk;rw [Dj (show wdK (.gl c0 r)=lGl from rfl)];symm;refine Dm ?_;symm;refine Ad (fC4 _ _ _) ?_;symm;refine Ad (fP4 _ _ _) ?_;symm;refine ⟨_,Q3 k3 ht c a,?_⟩;symm;exact q
def wD{o:ME}{a:MA}{Z:Ev}(ho:o Z=.ok (thD K T))(ha:a Z=.ok [T'])(hk:KOk k K)(k3:k<=3)(ht:Tr B k T')(q:U (thD K T')):Tl (meth Rn "like" o a Z) U:=by
 refine J8 (Ad ho ?_);cases K with
 | pl c0=>
  refine ⟨_,_,_,R6,rfl,by decide +kernel,by rfl,Ad ha ?_⟩;unfold R6;symm;refine Dm ?_;symm;refine Ad (fC1 _ _) ?_;symm;refine ⟨_,PN k3 ht,?_⟩;symm;exact q
 | sh=>
  refine ⟨_,_,_,Q9,rfl,by decide +kernel,by rfl,Ad ha ?_⟩;unfold Q9;symm;refine Dm ?_;symm;refine ⟨_,Pa k3 ht hk,?_⟩;symm;exact q
 | pa h w P=>
  obtain ⟨e,c,f,j⟩:=hk;refine ⟨_,_,_,RD,rfl,by decide +kernel,by rfl,Ad ha ?_⟩;unfold RD;symm;refine Dm ?_;symm;refine Ad (fN3 _ _) ?_;symm;refine ⟨_,Rb k3 ht e c f,?_⟩;symm;exact q
 | gl c0 r=>
  obtain ⟨g,i,d,b⟩:=hk;refine ⟨_,_,_,RV,rfl,by decide +kernel,by rfl,Ad ha ?_⟩;unfold RV;symm;refine Dm ?_;symm;refine Ad (fC4 _ _ _) ?_;symm;refine Ad (fP4 _ _ _) ?_;symm;refine ⟨_,Q3 k3 ht d b,?_⟩;symm;exact q
end
def reT:D->D->D
 | .ins c ns (_::vs),T=>.ins c ns (T::vs)
 | d,_=>d
def tiT:D->D
 | .ins _ _ (T::_)=>T
 | d=>d
def vG(K:Kd)(T T':D):reT (thD K T) T'=thD K T':=by cases K<;>rfl
def Ry(K:Kd)(T:D):tiT (thD K T)=T:=by cases K<;>rfl
def cP(d w:D):List D:=match GJ [d,w] with
 | .ok (.tup [.lst P,_])=>P
 | _=>[]
def pcD(w d:D):List D:=(cP (tiT d) w).map (reT d)
abbrev wal(tp bt:Int):D:=wl 0 0 bt (-tp)
def uK{x y b t w h:Int}(hb:1<=b)(ht:1<=t)(hh:1<=h)(e:0<=0*x+0*y+b*w+-t*h):1<=w:=by
 have a:=Int.mul_pos (show 0<t by ac_rfl) (show 0<h by ac_rfl);have c:-t*h=-(t*h):=Int.neg_mul t h;rcases (show w<=0\/1<=w by ac_rfl) with z | z
 .have:=Int.mul_nonpos_of_nonneg_of_nonpos (show 0<=b by ac_rfl) z;ac_rfl
 .exact z
def o4{B k:Nat}{T:D}(k3:k<=3)(h:Tr B k T):∃t:L3,T=tr3 t/\Ok3 B t/\t.1.length=4+k/\t.2.1.length=4+k/\t.2.2.length=4+k:=by
 obtain ⟨r,z,u,o,A,C,q,E,g,l,m,j,i,s,p,rfl,I,K,F,d,f,e,G,L,H⟩:=h;have a:∀{x y w h:Int} {b:List Int},Cw B x y w h->b.length=k->(∀v∈b,Sm B v)->Cn B (x::y::w::h::b):=by
  intro x y w h b c M J;refine ⟨⟨x,y,w,h,b,rfl,c.h,by ac_rfl⟩,λn hn=>?_⟩;simp only [Aq] at hn;rcases hn with rfl | rfl | rfl | rfl | hn
  .exact c.x
  .exact c.y
  .exact c.sw
  .exact c.sh
  .exact J n hn
 refine ⟨(r::z::u::o::i,A::C::q::E::s,g::l::m::j::p),rfl,⟨a I d G,a K f L,a F e H,by simp [d,f],by simp [d,e]⟩,?_,?_,?_⟩
 .show (r::z::u::o::i).length=_;simp [d];ac_rfl
 .show (A::C::q::E::s).length=_;simp [f];ac_rfl
 .show (g::l::m::j::p).length=_;simp [e];ac_rfl
def vH{B k:Nat}{u:L3}{tp bt:Int}(ht:1<=tp)(hb:1<=bt)(o:Ok3 B u)(ln:u.1.length=4+k)(inn:In3 (0,0,bt,-tp) u):Tr B k (tr3 u):=by
 obtain ⟨a,b,c⟩:=u;obtain ⟨g,f,j,r,m⟩:=o;obtain ⟨p,n,q⟩:=inn;dsimp only at g f j r m p n q ln;obtain ⟨M,N,E,C,s,rfl,A,S⟩:=g.ex;obtain ⟨P,Q,D,G,F,rfl,O,T⟩:=f.ex;obtain ⟨H,t,z,I,L,rfl,J,R⟩:=j.ex;simp only [Dh] at ln r m;have e:∀{x y w h:Int} {vs:List Int},Cn B (x::y::w::h::vs)->1<=h->0<=fmQ (0,0,bt,-tp) (x::y::w::h::vs)->Cw B x y w h:=λc l i=>⟨c.sm _ (by simp),c.sm _ (by simp),c.sm _ (by simp),c.sm _ (by simp),uK hb ht l i,l⟩;have d:∀{x y w h:Int} {vs:List Int},Cn B (x::y::w::h::vs)->∀v∈vs,Sm B v:=λc v K=>c.sm _ (by simp [K]);exact ⟨M,N,E,C,P,Q,D,G,H,t,z,I,s,F,L,rfl,e g A p,e f O n,e j J q,by ac_rfl,by ac_rfl,by ac_rfl,d g,d f,d j⟩
structure Ctd(B:Nat)(w d:D):Prop where
 f:dFld objs "triangle" d=.ok (tiT d)
 e:∃R,GJ [tiT d,w]=.ok (.tup [.lst (cP (tiT d) w),R])
 l:(cP (tiT d) w).length<=2
 p:∀T∈cP (tiT d) w,Lw [d,T]=.ok (reT d T)/\(∀(o:ME) (a:MA) (Z:Ev),o Z=.ok d->a Z=.ok [T]->meth Rn "like" o a Z=.ok (reT d T))/\Wt B (reT d T)
def fQ{B:Nat}{d:D}{tp bt:Int}(h:Wt B d)(hB:B<=176)(ht:1<=tp/\tp<=6)(hb:1<=bt/\bt<=6):Ctd (2*B+25) (wal tp bt) d:=by
 obtain ⟨K,k,T,rfl,j,b,n⟩:=h;obtain ⟨t,rfl,o,q,m,p⟩:=o4 b n;have r:WkQ (0,0,bt,-tp):=⟨show (0:Int).natAbs<2^21 by decide,show (0:Int).natAbs<2^21 by decide,show bt.natAbs<2^21 by ac_rfl,show (-tp).natAbs<2^21 by ac_rfl⟩;obtain ⟨d,P,R,e,c⟩:=o9 r o hB;have g:cP (tr3 t) (wal tp bt)=P.map tr3:=by
  unfold cP;rw [show GJ [tr3 t,wal tp bt]=.ok d from e,c.e]
 have s:GJ [tr3 t,wal tp bt]=.ok d:=e;refine ⟨?_,⟨.lst (R.map tr3),?_⟩,?_,λT l=>?_⟩
 .rw [Ry];exact fTri _ _
 .rw [Ry,g,s,c.e]
 .rw [Ry,g,Ax];exact c.lp
 .rw [Ry,g] at l;obtain ⟨u,f,rfl⟩:=BZ.mp l;have i:=vH (k:=k) ht.1 hb.1 (c.ok u (JK _ f)) (c.ln _ q m p u (JK _ f)) (c.inn u f);rw [vG];exact ⟨Tl.eq (n6 j b i rfl),λo a Z w v=>Tl.eq (wD w v j b i rfl),⟨K,k,_,rfl,j,b,i⟩⟩
def Yg{U:List D->Prop}{g:MG}{e:ME}{Z:Ev}{l:List D}(f:D->D)(h:∀a∈l,Tl (g a Z) λZ1=>Tl (e Z1) λy=>y=f a)(q:U (l.map f)):Tl (Bw g yes e Z l) U:=by
 have:=CW (enc:=λd:D=>d) (g:=g) (e:=e) (Z:=Z) f h q;rwa [List.map_id'] at this
def Qs{B:Nat}{w:D}:∀{ts:List D},(∀d∈ts,Ctd B w d)->(ts.flatMap (pcD w)).length<=2*ts.length
 | [],_=>by simp
 | d::r,h=>by
  have ih:=Qs λx a=>h x (Bp _ a);have:=(h d Bf).l;rw [NB,Cd,Dh];unfold pcD at ih ⊢;rw [Ax];ac_rfl
def pQ{B:Nat}{w:D}{ts:List D}(h:∀d∈ts,Ctd B w d):∀d∈ts.flatMap (pcD w),Wt B d:=λd b=>by
 obtain ⟨x,e,c⟩:=List.mem_flatMap.mp b;obtain ⟨T,a,rfl⟩:=BZ.mp c;exact ((h x e).p T a).2.2
def lDr:List Nat:=[100,114,111,112]
def lNe:List Nat:=[110,101,97,114]
def Zr:Str.ofString "drop"=mkS lDr:=by decide +kernel
def ZJ:Str.ofString "near"=mkS lNe:=by decide +kernel
def cD{U:D->Prop}{hd:List Nat}{ns:List Int}{n:Int}(ha:Ta hd)(h32:32∉hd)(hl:totL 1 (hd::ns.map tI)<=1000)(hn:n=ns.length)(hb:∀n∈ns,n.natAbs<10^30)(q:U (.lst (ns.map .int))):Tl (Jg [S hd,S (Ak [32] (hd::ns.map tI)),.int n]) U:=by
 have a:ns.length<=1000:=by
  unfold totL at hl;simp at hl;ac_rfl
 unfold Jg;symm;refine QV (ws:=ns.map tI) ha (λl hm=>?_) hl (by rw [Ax];exact hn) ?_
 .rcases Aq.mp hm with rfl | hm
  .exact h32
  .obtain ⟨n,_,rfl⟩:=BZ.mp hm;exact FT (by decide)
 symm;refine ⟨by simp;ac_rfl,?_⟩;rw [DK];refine CW (enc:=S ∘ tI) D.int (λn hn=>?_) ?_
 .dsimp only [Function.comp];symm;exact J4 (hb n hn) rfl
 symm;exact q
def tot3{hd:List Nat}{ns:List Int}(h1:hd.length<=10)(h2:ns.length<=3)(hb:∀n∈ns,-999<=n/\n<=999):totL 1 (hd::ns.map tI)<=1000:=by
 have:=Hl (s:=1) (B:=4) (ls:=ns.map tI) λl a=>by
  obtain ⟨n,b,rfl⟩:=BZ.mp a;exact ti3 (hb n b)
 unfold totL at this ⊢;rw [Ax] at this;simp only [Bg,List.sum_cons,Dh,Ax];ac_rfl
def Ut{U:D->Prop}{x a b:Int}(h:a<=x/\x<=b)(q:U .non):Tl (Oh [.int x,.int a,.int b]) U:=by
 unfold Oh;symm;refine Nu h ?_;symm;exact q
def rwD(n:Int):List Nat:=Ak [32] (lDr::[n].map tI)
def rwN(a b:Int):List Nat:=Ak [32] (lNe::[a,b].map tI)
section
variable{w h:Nat}{g:Rat}{dots:List (Int×Int)}{ts us:List D}{B:Nat}{tp bt i:Int}
def U6{U:D->Prop}(q:U (Br w h g dots us)):Tl (KC [Br w h g dots ts,.lst us]) U:=by
 unfold KC Br;symm;exact q
def iW(hi:0<=i/\i<ts.length)(hl:ts.length<=20):OJ [Br w h g dots ts,S (rwD i)]=.ok (Br w h g dots (cutL ts none (some i)++cutL ts (some (i+1)) none)):=by
 refine Tl.eq ?_;unfold OJ rwD;symm;rw [Zr];refine cD (ns:=[i]) (Am rfl) (by decide) (tot3 (by decide) (by simp) (by simp;ac_rfl)) rfl (by simp;ac_rfl) ?_;symm;refine Ut (by ac_rfl) ?_;symm;refine FZ (by simp [cutL];ac_rfl) ?_;symm;refine U6 ?_;symm
def qe(ht:1<=tp/\tp<=6)(hb:1<=bt/\bt<=6)(hc:∀d∈ts,Ctd B (wal tp bt) d)(hl:ts.length<=20):O2 [Br w h g dots ts,S (rwN tp bt)]=.ok (Br w h g dots (ts.flatMap (pcD (wal tp bt)))):=by
 refine Tl.eq ?_;unfold O2 rwN;symm;rw [ZJ];refine cD (ns:=[tp,bt]) (Am rfl) (by decide) (tot3 (by decide) (by simp) (by simp;ac_rfl)) rfl (by simp;ac_rfl) ?_;symm;refine w_f1 ?_;symm;refine Ut (by ac_rfl) ?_;symm;refine w_f1 ?_;symm;refine Ut (by ac_rfl) ?_;symm;refine w_f0 ?_;symm;refine Oe (λa Z=>∃c:Cl,Z=[.im (Br w h g dots ts),.im (S (Ak [32] (lNe::[tp,bt].map tI))),.im (.lst [.int tp,.int bt]),.im (.int bt),.im (wal tp bt),.ow (a.flatMap (pcD (wal tp bt))),c]) ⟨_,rfl⟩ ?_ ?_
 .rintro a x r e Z ⟨c,rfl⟩;have b:=hc x (by rw [e];simp);have k:∀d∈a,Ctd B (wal tp bt) d:=λd i=>hc d (by rw [e];simp [i]);have o:a.length<=20:=by rw [e] at hl;simp at hl;ac_rfl
  have q:=Qs k;obtain ⟨R,j⟩:=b.e;have n:=b.l;symm;refine lM rfl ?_;symm;refine Ad b.f ?_;symm;refine Ad j ?_;symm;refine ⟨by ac_rfl,?_⟩;refine Yg (reT x) (λT m=>?_) ?_
  .symm;exact Ad (((b.p T m).2.1) _ _ _ rfl rfl) rfl
  symm;refine ⟨by unfold LIM;rw [List.length_map];ac_rfl,_,rfl,.im x,?_⟩;rw [List.flatMap_append,NB,List.flatMap_nil,FJ];rfl
 .rintro Z ⟨c,rfl⟩;symm;refine U6 ?_;symm
end
def lSw:List Nat:=[115,104,111,119]
def lOk:List Nat:=[111,107]
def lPt:List Nat:=[112,97,114,116]
def lKp:List Nat:=[107,101,101,112]
def Vf:Str.ofString "show"=mkS lSw:=by decide +kernel
def litOk:Str.ofString "ok"=mkS lOk:=by decide +kernel
def Zx:Str.ofString "part"=mkS lPt:=by decide +kernel
def WR:Str.ofString "keep"=mkS lKp:=by decide +kernel
abbrev flD(sc:D)(n:Int):Fs:=[("scene",sc),("kept",.non),("answered",.int n)]
section
variable{Ψ:D×Fs->Prop}{Z:Ev}{fl:Fs}
def Yx{s:MS}{k:MO}(h:Tl (s Z) λf=>∃Z',f=.nx Z'/\Tl (k Z' fl) Ψ):Tl (oSeq s k Z fl) Ψ:=by
 obtain ⟨f,e,Z',rfl,q⟩:=h;unfold oSeq;rw [e];exact q
def Nf{t:MB}{a k:MO}(h:Tl (t Z) λb=>Tl (if b=true then a Z fl else k Z fl) Ψ):Tl (oIf t a k Z fl) Ψ:=Av h
def VH{e:MEo}(h:Tl (e Z fl) λd=>Ψ (d,fl)):Tl (oRet e Z fl) Ψ:=Av (h.mono λ_ q=>Aw q)
def aa{s:MOs}{k:MO}(h:Tl (s Z fl) λr=>Tl (k r.1 r.2) Ψ):Tl (oSt s k Z fl) Ψ:=Av h
def Rm{U:Ev×Fs->Prop}{t:MB}{a b:MOs}(h:Tl (t Z) λv=>Tl (if v=true then a Z fl else b Z fl) U):Tl (osIf t a b Z fl) U:=Av h
def Yk{U:Ev×Fs->Prop}{f:Str}{e:MEo}(hl:fl.length<100)(h:Tl (e Z fl) λd=>U (Z,putD f d fl)):Tl (J1 f e Z fl) U:=Av (h.mono λ_ q=>by rw [iN (by ac_rfl)];exact Aw q)
def dI{U:D->Prop}{i:Nat}{tab:List (Str×(List D->Res D))}{ma:MAo}{s:Str}{m:List D->Res D}{ds:List D}(hi:Z[i]?=some (.im (.str s)))(hm:tab.lookup s=some m)(ha:ma Z fl=.ok ds)(h:Tl (m ds) U):Tl (oTab i tab ma Z fl) U:=by
 unfold oTab;rw [hi];simp only [hm,ha];exact h
def Mw{U:Bool->Prop}{i:Nat}{ws:List Str}{s:Str}(hi:Z[i]?=some (.im (.str s)))(q:U (ws.contains s)):Tl (mInT i ws Z) U:=by
 unfold mInT;rw [hi];exact Aw q
end
abbrev ansR:MO:=oIf (mInT 2 Gx)
  (oRet (oTab 2 Vy (Dt (oFld "scene") (Dt (oOf (v 1)) oNil))))
  (oIf (trb (o2 dEq (v 2) (c (.str "part"))))
  oBad
  (oSt (osIf (trb (o2 dEq (v 2) (c (.str "keep"))))
  Sq
  (osIf (mInT 2 Ha)
  (J1 "scene" (oTab 2 Py (Dt (oFld "scene") (Dt (oOf (v 1)) oNil))))
  (J1 "scene" (oOn JW (Dt (oFld "scene") (Dt (oOf (v 1)) oNil))))))
  (oRet (oOf (c (.str "ok"))))))
def V5{Ψ:D×Fs->Prop}{fl:Fs}{hd:List Nat}{ws:List (List Nat)}(h32:∀w∈hd::ws,32∉w)(hl:(Ak [32] (hd::ws)).length<=1000000)(q:Tl (ansR [.no,.im (S (Ak [32] (hd::ws))),.im (S hd)] fl) Ψ):Tl (Do [S (Ak [32] (hd::ws))] fl) Ψ:=by
 unfold Do fnO2;refine Yx ?_;symm;unfold Nv;symm;refine ⟨_,rfl,Yx ?_⟩;symm;refine w_sD ?_;symm;refine ⟨_,rfl,?_⟩;symm;rw [litB];refine Mi hl ?_;rw [Gs (by simp) h32,Bg];symm;exact ⟨_,rfl,q⟩
def Te{sc:D}{n:Int}{l:List Nat}(h:Io [sc]=.ok (S l)):Do [S lSw] (flD sc n)=.ok (S l,flD sc n):=by
 refine Tl.eq ?_;refine V5 (hd:=lSw) (ws:=[]) (by decide) (by decide) ?_;refine Nf (Mw rfl ?_);rw [show Gx.contains (mkS lSw)=true by decide +kernel,iP rfl];refine VH (dI (m:=R9) (ds:=[sc,S lSw]) rfl (by rw [<-Vf];rfl) rfl ?_);unfold R9;symm;rw [Vf];refine QV (hd:=lSw) (ws:=[]) (Am rfl) (by decide) (by decide) rfl ?_;symm;refine Ad h ?_;symm
def NQ{sc sc':D}{n:Int}{hd:List Nat}{ws:List (List Nat)}{m:List D->Res D}(ha:Ta hd)(h32:∀w∈hd::ws,32∉w)(hl:(Ak [32] (hd::ws)).length<=1000000)(h1:Gx.contains (mkS hd)=false)(h2:hd≠lPt)(h3:hd≠lKp)(h4:Ha.contains (mkS hd)=true)(hm:Py.lookup (mkS hd)=some m)(h:m [sc,S (Ak [32] (hd::ws))]=.ok sc'):Do [S (Ak [32] (hd::ws))] (flD sc n)=.ok (S lOk,flD sc' n):=by
 refine Tl.eq ?_;refine V5 h32 hl ?_;refine Nf (Mw rfl ?_);rw [h1,iN Ek];refine Nf ?_;symm;rw [Zx];refine CV ha (Am rfl) ?_;rw [Bl h2];symm;refine aa (Rm ?_);symm;rw [WR];refine CV ha (Am rfl) ?_;rw [Bl h3];symm;refine Rm (Mw rfl ?_);rw [h4,iP rfl];refine Yk (show 3<100 by decide) (dI (m:=m) (ds:=[sc,S (Ak [32] (hd::ws))]) rfl hm rfl (Ad h ?_));refine VH (Ad rfl ?_);rw [litOk];rfl
def xq{sc sc':D}{n:Int}{hd:List Nat}{ws:List (List Nat)}(ha:Ta hd)(h32:∀w∈hd::ws,32∉w)(hl:(Ak [32] (hd::ws)).length<=1000000)(h1:Gx.contains (mkS hd)=false)(h2:hd≠lPt)(h3:hd≠lKp)(h4:Ha.contains (mkS hd)=false)(h:JW [sc,S (Ak [32] (hd::ws))]=.ok sc'):Do [S (Ak [32] (hd::ws))] (flD sc n)=.ok (S lOk,flD sc' n):=by
 refine Tl.eq ?_;refine V5 h32 hl ?_;refine Nf (Mw rfl ?_);rw [h1,iN Ek];refine Nf ?_;symm;rw [Zx];refine CV ha (Am rfl) ?_;rw [Bl h2];symm;refine aa (Rm ?_);symm;rw [WR];refine CV ha (Am rfl) ?_;rw [Bl h3];symm;refine Rm (Mw rfl ?_);rw [h4,iN Ek];refine Yk (show 3<100 by decide) (show Tl (JW [sc,S (Ak [32] (hd::ws))]) _ from Ad h ?_);refine VH (Ad rfl ?_);rw [litOk];rfl
def PK{row r sc sc':D}{n:Int}(h:Do [row] (flD sc n)=.ok (r,flD sc' n)):GZ [row] (flD sc n)=.ok (r,flD sc' (n+1)):=by
 unfold GZ fnO2
 show (if ((flD sc n).map (·.1)).contains ("answer_to" : Str)=true then Res.bad else match Do [row] (flD sc n) with
  | .ok (d,fl')=>oSet "answered" (oO2 Af (oFld "answered") (oOf (c (.int 1)))) (oRet (oOf (v 2))) [.no,.im row,.im d] fl'
  | _=>.bad)=_
 rw [show ((flD sc n).map (·.1)).contains ("answer_to" : Str)=false by rfl,iN Ek,h];rfl
def bts:Nat->Nat
 | 0=>20
 | c+1=>2*bts c+25
def cB{c:Nat}(h:c<=2):20<=bts c/\bts c<=155:=by
 rcases (show c=0\/c=1\/c=2 by ac_rfl) with rfl | rfl | rfl<;>decide
def ug{c:Nat}(h:c<2):bts c<=65:=by
 rcases (show c=0\/c=1 by ac_rfl) with rfl | rfl<;>decide
def Wt.mono{B C:Nat}{d:D}(h:Wt B d)(hb:B<=C):Wt C d:=by
 obtain ⟨K,k,T,rfl,N,r,u,E,A,p,G,J,s,M,b,g,j,f,e,z,t,rfl,q,F,i,l,L,H,n,I,o⟩:=h;have m:∀{x y w h:Int},Cw B x y w h->Cw C x y w h:=λc=>⟨c.x.mono hb,c.y.mono hb,c.sw.mono hb,c.sh.mono hb,c.w,c.h⟩;exact ⟨K,k,_,rfl,N,r,u,E,A,p,G,J,s,M,b,g,j,f,e,z,t,rfl,m q,m F,m i,l,L,H,λv a=>(n v a).mono hb,λv a=>(I v a).mono hb,λv a=>(o v a).mono hb⟩
structure Iv(c w h:Nat)(g:Rat)(dots:List (Int×Int))(ts:List D):Prop where
 w:1<=w/\w<=64
 h:1<=h/\h<=64
 g:Bq 32 g
 d:Dots dots
 n:1<=dots.length/\dots.length<=16
 l:ts.length<=5*2^c
 t:∀d∈ts,Wt (bts c) d
 c:c<=2
abbrev stL(c w h:Nat)(g:Rat)(dots:List (Int×Int))(ts:List D):List D:=[.int w,.int h,frD g,.lst (dots.map encP),.lst ts,.int c]
structure Nxt(c w h:Nat)(g:Rat)(dots:List (Int×Int))(ts:List D)(r:D×List D):Prop where
 ex:∃(l:List Nat) (c' w' h':Nat) (g':Rat) (dots':List (Int×Int)) (ts':List D),r=(S l,stL c' w' h' g' dots' ts')/\Iv c' w' h' g' dots' ts'/\∀n,Do [S l] (flD (Br w h g dots ts) n)=.ok (S lOk,flD (Br w' h' g' dots' ts') n)
section
variable{Ψ:D×Ev->Prop}{Z:Ev}
def Eo{s:MS}{k:MW}(h:Tl (s Z) λf=>∃Z',f=.nx Z'/\Tl (k Z') Ψ):Tl (wSeq s k Z) Ψ:=by
 obtain ⟨f,e,Z',rfl,q⟩:=h;unfold wSeq;rw [e];exact q
def KQ{t:MB}{a k:MW}(h:Tl (t Z) λb=>Tl (if b=true then a Z else k Z) Ψ):Tl (wIf t a k Z) Ψ:=Av h
def Js{e:ME}(h:Tl (e Z) λd=>Ψ (d,Z)):Tl (wRet e Z) Ψ:=Av (h.mono λ_ q=>Aw q)
def HY{U:Fl->Prop}{i:Nat}{mv mb:ME}{ds:List D}(hi:Z[i]?=some (.ow ds))(h:Tl (mv Z) λd=>Tl (mb Z) λx=>∃k:Nat,x=.int k/\k<ds.length/\U (.nx (Z.set i (.ow (ds.set k d))))):Tl (setO i mv mb Z) U:=by
 obtain ⟨d,b,x,a,k,rfl,e,q⟩:=h;refine Ad ?_ q;unfold setO;rw [hi,b,a]
 show (match (some (k:Int)).bind λk=>ixP ds.length k with
  | some c=>Res.ok (Fl.nx (Z.set i (.ow (ds.set c d))))
  | none=>.bad)=_
 have:((some (k:Int)).bind λk=>ixP ds.length k)=some k:=by
  show ixP ds.length (k:Int)=_;unfold ixP;rw [iP (by ac_rfl),iP (by ac_rfl)];rfl
 rw [this]
end
def QQ{U:D->Prop}{x:Str}(h:U (.str x)):Tl (JT (.str x)) U:=Aw h
section
variable{c w h:Nat}{g:Rat}{dots:List (Int×Int)}{ts:List D}
def Iv.sc(i:Iv c w h g dots ts):∃L:List DL,ts=L.map (·.1)/\Sc w h g dots L:=by
 have b:=cB i.c;obtain ⟨L,rfl,a⟩:=yq (show bts c<=190 by ac_rfl) i.t;have l:=i.l;rw [Ax] at l;have:2^c<=4:=by
  have:=i.c;rcases (show c=0\/c=1\/c=2 by ac_rfl) with rfl | rfl | rfl<;>decide
 exact ⟨L,rfl,i.w,i.h,i.g,i.d,i.n,by ac_rfl,a⟩
def Iv.l20(i:Iv c w h g dots ts):ts.length<=20:=by
 have l:=i.l;have:2^c<=4:=by
  have:=i.c;rcases (show c=0\/c=1\/c=2 by ac_rfl) with rfl | rfl | rfl<;>decide
 ac_rfl
def VG{L:List DL}(s:Sc w h g dots L):Ta (Ak [10] (rws w h g dots L)):=λc a=>by
 rcases Fd a with z | ⟨l,hl,z⟩
 .simp at z;ac_rfl
 .exact (vW s l hl c z).2
def Iv.txt(i:Iv c w h g dots ts):∃l,Io [Br w h g dots ts]=.ok (S l)/\Ta l:=by
 obtain ⟨L,rfl,s⟩:=i.sc;exact ⟨_,Tl.eq (ak s rfl),VG s⟩
def Uw{lo hi:Option Int}{d:D}(hd:d∈cutL ts lo hi):d∈ts:=Qu (Gj hd)
def Vu{i:Int}(hi:0<=i/\i<ts.length):(cutL ts none (some i)++cutL ts (some (i+1)) none).length<=ts.length:=by
 rw [Cd];unfold cutL cutAt;simp only [List.length_take,List.length_drop];rw [iN (by ac_rfl),iN (by ac_rfl)];ac_rfl
def Wv:cutL ts none (some 0)++cutL ts (some (0+1)) none=cutL ts (some 1) none:=by
 have:cutL ts none (some 0)=[]:=by
  unfold cutL cutAt;simp
 rw [this];rfl
def au{i n:Int}(hi:0<=i/\i<ts.length)(hl:ts.length<=20):Do [S (rwD i)] (flD (Br w h g dots ts) n)=.ok (S lOk,flD (Br w h g dots (cutL ts none (some i)++cutL ts (some (i+1)) none)) n):=by
 refine NQ (hd:=lDr) (ws:=[i].map tI) (Am rfl) (λl a=>?_) (An (Dd _) (An (tot3 (by decide) (by simp) (by simp;ac_rfl)) (by decide))) (by decide +kernel) (by decide) (by decide) (by decide +kernel) (m:=OJ) (by rw [<-Zr];rfl) (iW hi hl);simp only [Bg,List.map_nil,Aq,BL,Bj] at a;rcases a with rfl | rfl
 .decide
 .exact FT (by decide)
def rK{B:Nat}{tp bt n:Int}(ht:1<=tp/\tp<=6)(hb:1<=bt/\bt<=6)(hc:∀d∈ts,Ctd B (wal tp bt) d)(hl:ts.length<=20):Do [S (rwN tp bt)] (flD (Br w h g dots ts) n)=.ok (S lOk,flD (Br w h g dots (ts.flatMap (pcD (wal tp bt)))) n):=by
 refine NQ (hd:=lNe) (ws:=[tp,bt].map tI) (Am rfl) (λl a=>?_) (An (Dd _) (An (tot3 (by decide) (by simp) (by simp;ac_rfl)) (by decide))) (by decide +kernel) (by decide) (by decide) (by decide +kernel) (m:=O2) (by rw [<-ZJ];rfl) (qe ht hb hc hl);simp only [Bg,List.map_nil,Aq,BL,Bj] at a;rcases a with rfl | rfl | rfl
 .decide
 .exact FT (by decide)
 .exact FT (by decide)
def zJ{w' h':Nat}{L:List DL}{n:Int}(s:Sc w' h' g dots L):Do [S (rwF w' h')] (flD (Br w h g dots ts) n)=.ok (S lOk,flD (Br w' h' g dots ts) n):=by
 refine NQ (hd:=lFl) (ws:=[tI w',tI h']) (Am rfl) (λl a=>?_) (An (Dd _) (An s.tF (by decide))) (by decide +kernel) (by decide) (by decide) (by decide +kernel) (m:=Qe) (by rw [<-VF];rfl) ?_
 .simp only [Aq,BL,Bj] at a;rcases a with rfl | rfl | rfl
  .decide
  .exact FT (by decide)
  .exact FT (by decide)
 refine Tl.eq ?_;unfold Qe;symm;refine Ad (gQ s) ?_;symm;rfl
def cU{g':Rat}{L:List DL}{n:Int}(s:Sc w h g' dots L):Do [S (rwG g')] (flD (Br w h g dots ts) n)=.ok (S lOk,flD (Br w h g' dots ts) n):=by
 refine NQ (hd:=lGr) (ws:=[fT g']) (Am rfl) (λl a=>?_) (An (Dd _) (An s.tG (by decide))) (by decide +kernel) (by decide) (by decide) (by decide +kernel) (m:=Qq) (by rw [<-Vw];rfl) ?_
 .simp only [Aq,BL,Bj] at a;rcases a with rfl | rfl
  .decide
  .exact Xu (by decide)
 refine Tl.eq ?_;unfold Qq;symm;refine Ad (qF s) ?_;symm;rfl
def xm{d:Int×Int}:32∉pT d:=by
 intro z;rcases Fd z with z | ⟨l,hl,z⟩
 .simp at z
 .simp only [Aq,BL,Bj] at hl;rcases hl with rfl | rfl
  .exact FT (by decide) z
  .exact FT (by decide) z
def jx{dots':List (Int×Int)}{L:List DL}{n:Int}(s:Sc w h g dots' L):Do [S (rwS dots')] (flD (Br w h g dots ts) n)=.ok (S lOk,flD (Br w h g dots' ts) n):=by
 refine NQ (hd:=lSp) (ws:=dots'.map pT) (Am rfl) (λl hm=>?_) (An (Dd _) (An s.tS (by decide))) (by decide +kernel) (by decide) (by decide) (by decide +kernel) (m:=RP) (by rw [<-UJ];rfl) ?_
 .rcases Aq.mp hm with rfl | hm
  .decide
  .obtain ⟨d,_,rfl⟩:=BZ.mp hm;exact xm
 refine Tl.eq ?_;unfold RP;symm;refine Ad (Zpa s) ?_;symm;rfl
end
def yz(K:Kd):Gx.contains (mkS (wdK K))=false/\Ha.contains (mkS (wdK K))=false/\wdK K≠lPt/\wdK K≠lKp:=by
 cases K with
 | pl _=>exact ⟨show Gx.contains (mkS lPl)=false by decide +kernel,show Ha.contains (mkS lPl)=false by decide +kernel,show lPl≠lPt by decide,show lPl≠lKp by decide⟩
 | sh=>exact ⟨show Gx.contains (mkS lSh)=false by decide +kernel,show Ha.contains (mkS lSh)=false by decide +kernel,show lSh≠lPt by decide,show lSh≠lKp by decide⟩
 | pa _ _ _=>exact ⟨show Gx.contains (mkS lPa)=false by decide +kernel,show Ha.contains (mkS lPa)=false by decide +kernel,show lPa≠lPt by decide,show lPa≠lKp by decide⟩
 | gl _ _=>exact ⟨show Gx.contains (mkS lGl)=false by decide +kernel,show Ha.contains (mkS lGl)=false by decide +kernel,show lGl≠lPt by decide,show lGl≠lKp by decide⟩
def pF(K:Kd):∃r,hdW K=wdK K::r:=by cases K<;>exact ⟨_,rfl⟩
def ww{w h:Nat}{g:Rat}{dots:List (Int×Int)}{ts:List D}{d:D}(hd:Wt 20 d)(hl:ts.length<=20):∃l,Hc [d]=.ok (S l)/\∀n,Do [S l] (flD (Br w h g dots ts) n)=.ok (S lOk,flD (Br w h g dots (ts++[d])) n):=by
 obtain ⟨K,k,T,rfl,b,t,i⟩:=hd;obtain ⟨cs,e,u⟩:=W2 t (by decide) i;have f:=Vs b e;have a:=aU (cs:=cs) b;have q:Mv [S (Ak [32] (rowW K cs))]=.ok (thD K T):=Tl.eq (jL b i e (λc o n p=>Fp (u c o n p) (by decide)) rfl);refine ⟨_,Tl.eq (ZP b e rfl),λn=>?_⟩;obtain ⟨r,s⟩:=pF K;have m:rowW K cs=wdK K::(r++cs.flatMap wdO):=by unfold rowW;rw [s];rfl
 have ok:=yz K;have j:JW [Br w h g dots ts,S (Ak [32] (rowW K cs))]=.ok (Br w h g dots (ts++[thD K T])):=by
  refine Tl.eq ?_;unfold JW;symm;refine Ad q ?_;symm;refine FZ (by simp;ac_rfl) ?_;symm;refine U6 ?_;symm
 rw [m] at j a f ⊢;exact xq (JL K) a (by ac_rfl) ok.1 ok.2.2.1 ok.2.2.2 ok.2.1 j
abbrev tE:MW:=wIf (trb (o2 dGt (on bLen (Aa (v 8) Ab)) (c (.int 4))))
  (wSeq (setO 0 (cut (v 8) (pso (c (.int 1))) pno) (c (.int 4)))
  (wRet (c (.str "drop 0"))))
  (wSeq (setO 0 (o2 Af (v 8) (mls (Aa (v 3) Ab))) (c (.int 4)))
  (wRet (on Hc (Aa (v 3) Ab))))
abbrev tN:MW:=wSeq (st 11 (o2 Af (c (.int 1)) (o2 Ao (v 2) (c (.int 6)))))
  (wSeq (st 12 (o2 Af (c (.int 1)) (o2 Ao (o2 Be (v 2) (c (.int 8))) (c (.int 4)))))
  (wSeq (st 13 (mls Ab))
  (wSeq (for_ (iv (v 8)) (gN 14)
  (st 13 (o2 Af (v 13) (comp (iv (o2 dIx (on GJ (Aa (o1 (dFld objs "triangle") (v 14)) (Aa (mtp (Aa (c (.int 0)) (Aa (c (.int 0)) (Aa (v 12) (Aa (o2 dSub (c (.int 0)) (v 11)) Ab))))) Ab))) (c (.int 0)))) 1 [14] (gN 0) yes (on Lw (Aa (v 1) (Aa (v 0) Ab)))))))
  (wSeq (setO 0 (v 13) (c (.int 4)))
  (wSeq (setO 0 (o2 Af (v 9) (c (.int 1))) (c (.int 5)))
  (wRet (o2 Af (o2 Af (o2 Af (c (.str "near ")) (on bStr (Aa (v 11) Ab))) (c (.str " "))) (on bStr (Aa (v 12) Ab)))))))))
abbrev tD:MW:=wSeq (st 10 (o2 Ao (v 2) (on bLen (Aa (v 8) Ab))))
  (wSeq (setO 0 (o2 Af (cut (v 8) pno (pso (v 10))) (cut (v 8) (pso (o2 Af (v 10) (c (.int 1)))) pno)) (c (.int 4)))
  (wRet (o2 Af (c (.str "drop ")) (on bStr (Aa (v 10) Ab)))))
abbrev tS:MW:=wSeq (setO 0 (cut (on Nm (Aa (v 2) Ab)) pno (pso (c (.int 2)))) (c (.int 3)))
  (wRet (pk 0 (o2 Af (c (.str "spots ")) (sD Fx (c (.str " ")) (comp (iv (o2 dIx (v 0) (c (.int 3)))) 2 [] (gU 2 (gs1 (gN 0) (gs1 (gN 1) gs0))) yes (o2 Af (o2 Af (on bStr (Aa (v 0) Ab)) (c (.str ","))) (on bStr (Aa (v 1) Ab))))))))
abbrev tG:MW:=wSeq (setO 0 (o2 dIx (mls (Aa (mtp (Aa (o2 dSub (o2 Ao (v 2) (c (.int 9))) (c (.int 2))) (Aa (c (.int 1)) Ab))) (Aa (mtp (Aa (o2 Af (o2 Bt (c (.int 2)) (o2 Ao (v 2) (c (.int 9)))) (c (.int 1))) (Aa (c (.int 2)) Ab))) Ab))) (o2 Ao (o2 Be (v 2) (c (.int 16))) (c (.int 2)))) (c (.int 2)))
  (wRet (pk 0 (o2 Af (c (.str "ground ")) (on Mu (Aa (o2 dIx (v 0) (c (.int 2))) Ab)))))
abbrev tF:MW:=wSeq (setO 0 (o2 Af (c (.int 1)) (o2 Ao (v 2) (c (.int 5)))) (c (.int 0)))
  (wSeq (setO 0 (o2 Af (c (.int 1)) (o2 Ao (o2 Be (v 2) (c (.int 8))) (c (.int 4)))) (c (.int 1)))
  (wRet (pk 0 (o2 Af (o2 Af (o2 Af (c (.str "floor ")) (on bStr (Aa (o2 dIx (v 0) (c (.int 0))) Ab))) (c (.str " "))) (on bStr (Aa (o2 dIx (v 0) (c (.int 1))) Ab))))))
def lX:Qh=fnWo 15 (wSeq (unpO 0 6 (gs1 (gN 4) (gs1 (gN 5) (gs1 (gN 6) (gs1 (gN 7) (gs1 (gN 8) (gs1 (gN 9) gs0)))))))
  (wIf (trb (o2 dEq (v 1) (c (.int 0)))) tF
  (wIf (trb (o2 dEq (v 1) (c (.int 1)))) tG
  (wIf (trb (o2 dEq (v 1) (c (.int 2)))) tS
  (wIf (bAnd (trb (o2 dEq (v 1) (c (.int 3)))) (trb (o2 LC (v 8) (mls Ab)))) tD
  (wIf (bAnd (trb (o2 dEq (v 1) (c (.int 4)))) (trb (o2 dLt (v 9) (c (.int 2))))) tN tE)))))):=rfl
def yX:Str.ofString "drop "=mkS (lDr++[32]):=by decide +kernel
def lU:Str.ofString "near "=mkS (lNe++[32]):=by decide +kernel
def zc:Str.ofString "drop 0"=mkS (rwD 0):=by decide +kernel
abbrev evT(c w h:Nat)(g:Rat)(dots:List (Int×Int))(ts:List D)(way n:Int)(d:D):Ev:=[.ow (stL c w h g dots ts),.im (.int way),.im (.int n),.im d,.im (.int w),.im (.int h),.im (frD g),.im (.lst (dots.map encP)),.im (.lst ts),.im (.int c),.no,.no,.no,.no,.no]
abbrev EndT(c w h:Nat)(g:Rat)(dots:List (Int×Int))(ts:List D)(r:D×Ev):Prop:=Tl (wEnd r) (Nxt c w h g dots ts)
section
variable{c w h:Nat}{g:Rat}{dots:List (Int×Int)}{ts:List D}{way n:Int}{d:D}
def t_E(i:Iv c w h g dots ts)(hd:Wt 20 d):Tl (tE (evT c w h g dots ts way n d)) (EndT c w h g dots ts):=by
 have b:=i.l20;have f:=(cB i.c).1;refine KQ ?_;symm;refine Ce (λz=>?_) λz=>?_
 .refine Eo (HY rfl ?_);symm;refine ⟨4,rfl,show 4<6 by decide,_,rfl,Js ?_⟩;symm;refine Ad rfl ⟨rwD 0,c,w,h,g,dots,cutL ts (some 1) none,by rw [zc],⟨i.w,i.h,i.g,i.d,i.n,?_,λx hx=>i.t x (Uw hx),i.c⟩,λn=>?_⟩
  .have:=Vu (ts:=ts) (i:=0) (by ac_rfl);rw [Wv] at this;exact An this i.l
  .have:=au (w:=w) (h:=h) (g:=g) (dots:=dots) (ts:=ts) (i:=0) (n:=n) (by ac_rfl) b;rw [Wv] at this;exact this
 .obtain ⟨l,e,a⟩:=ww (w:=w) (h:=h) (g:=g) (dots:=dots) (ts:=ts) hd b;refine Eo (HY rfl ?_);symm;refine FZ (by simp;ac_rfl) ?_;symm;refine ⟨4,rfl,show 4<6 by decide,_,rfl,Js ?_⟩;symm;refine Ad e ?_;refine Ad rfl ⟨l,c,w,h,g,dots,ts++[d],rfl,⟨i.w,i.h,i.g,i.d,i.n,?_,λx hx=>?_,i.c⟩,a⟩
  .have:1<=2^c:=Nat.one_le_two_pow;simp;ac_rfl
  .rcases CK.mp hx with hx | hx
   .exact i.t x hx
   .have:x=d:=by simpa using hx
    subst this;exact hd.mono f
def t_D(i:Iv c w h g dots ts)(hn:0<=n)(hne:ts≠[]):Tl (tD (evT c w h g dots ts way n d)) (EndT c w h g dots ts):=by
 have b:=i.l20;have f:0<ts.length:=List.length_pos_iff.mpr hne;refine Eo ?_;symm;have a:=Ja n (show (ts.length:Int)≠0 by ac_rfl);have e:=Jk n (show (0:Int)<ts.length by ac_rfl);generalize n%(ts.length:Int)=k at *;refine ⟨_,rfl,Eo (HY rfl ?_)⟩;symm;refine FZ (by have:=Vu (ts:=ts) ⟨a,e⟩;rw [Cd] at this;ac_rfl) ?_;symm;refine ⟨4,rfl,show 4<6 by decide,_,rfl,Js ?_⟩;symm;rw [yX];refine Gf (k:=64) (Sm.of64 (by ac_rfl) (by ac_rfl)) (by decide) ?_;have j:=ti3 (n:=k) (by ac_rfl);refine Dq (by simp [lDr];ac_rfl) ?_;refine Ad rfl ⟨rwD k,c,w,h,g,dots,cutL ts none (some k)++cutL ts (some (k+1)) none,by simp [rwD,Ak],⟨i.w,i.h,i.g,i.d,i.n,An (Vu ⟨a,e⟩) i.l,λx hx=>?_,i.c⟩,λn=>au ⟨a,e⟩ b⟩;rcases CK.mp hx with hx | hx
 .exact i.t x (Uw hx)
 .exact i.t x (Uw hx)
end
section
variable{c w h:Nat}{g:Rat}{dots:List (Int×Int)}{ts:List D}{way n:Int}{d:D}
def t_N(i:Iv c w h g dots ts)(c2:c<2)(hn:0<=n):Tl (tN (evT c w h g dots ts way n d)) (EndT c w h g dots ts):=by
 have m:=i.l20;have b:=ug c2;refine Eo ?_;symm;refine ⟨_,rfl,Eo ?_⟩;symm;have u:1<=1+n%6/\1+n%6<=6:=by ac_rfl
 have v:1<=1+n/8%4/\1+n/8%4<=6:=by ac_rfl
 generalize 1+n%6=tp at *;generalize 1+n/8%4=bt at *;have o:∀d∈ts,Ctd (2*bts c+25) (wal tp bt) d:=λd s=>fQ (i.t d s) (by ac_rfl) u v;refine ⟨_,rfl,Eo ?_⟩;symm;refine ⟨_,rfl,Eo ?_⟩;symm;refine Oe (λa Z=>∃j:Cl,Z=[.ow (stL c w h g dots ts),.im (.int way),.im (.int n),.im d,.im (.int w),.im (.int h),.im (frD g),.im (.lst (dots.map encP)),.im (.lst ts),.im (.int c),.no,.im (.int tp),.im (.int bt),.im (.lst (a.flatMap (pcD (wal tp bt)))),j]) ⟨_,rfl⟩ ?_ ?_
 .rintro a x r e Z ⟨j,rfl⟩;have q:=o x (by rw [e];simp);have z:∀d∈a,Ctd (2*bts c+25) (wal tp bt) d:=λd s=>o d (by rw [e];simp [s]);have G:a.length<=20:=by rw [e] at m;simp at m;ac_rfl
  have B:=Qs z;obtain ⟨R,y⟩:=q.e;have F:=q.l;symm;refine Ad q.f ?_;symm;rw [show (0 - tp)=-tp by ac_rfl];refine Ad y ?_;symm;refine ⟨by ac_rfl,?_⟩;refine Yg (reT x) (λT A=>?_) ?_
  .symm;exact Ad (q.p T A).1 rfl
  refine FZ (by rw [Ax];ac_rfl) ?_;refine ⟨_,rfl,.im x,?_⟩;rw [List.flatMap_append,NB,List.flatMap_nil,FJ];rfl
 rintro Z ⟨j,rfl⟩;refine ⟨_,rfl,Eo (HY rfl ?_)⟩;symm;refine ⟨4,rfl,show 4<6 by decide,_,rfl,Eo (HY rfl ?_)⟩;symm;refine ⟨5,rfl,show 5<6 by decide,_,rfl,Js ?_⟩;symm;rw [lU,litB];have E:=ti3 (n:=tp) (by ac_rfl);have C:=ti3 (n:=bt) (by ac_rfl);refine Gf (k:=64) (Sm.of64 (by ac_rfl) (by ac_rfl)) (by decide) ?_;refine Dq (by simp [lNe];ac_rfl) ?_;symm;refine Dq (by simp [lNe];ac_rfl) ?_;symm;refine Gf (k:=64) (Sm.of64 (by ac_rfl) (by ac_rfl)) (by decide) ?_;refine Dq (by simp [lNe];ac_rfl) ?_;have B:=Qs o;have D:=i.l;refine Ad rfl ⟨rwN tp bt,c+1,w,h,g,dots,ts.flatMap (pcD (wal tp bt)),?_,⟨i.w,i.h,i.g,i.d,i.n,by rw [Nat.pow_succ];ac_rfl,pQ o,by ac_rfl⟩,λn=>rK u v o m⟩;simp [rwN,Ak]
def t_F(i:Iv c w h g dots ts)(hn:0<=n):Tl (tF (evT c w h g dots ts way n d)) (EndT c w h g dots ts):=by
 obtain ⟨a,m,o⟩ : ∃k:Nat,1+n%5=(k:Int)/\1<=k/\k<=64:=⟨(1+n%5).toNat,by ac_rfl,by ac_rfl⟩;obtain ⟨b,j,f⟩ : ∃k:Nat,1+n/8%4=(k:Int)/\1<=k/\k<=64:=⟨(1+n/8%4).toNat,by ac_rfl,by ac_rfl⟩;have e:Iv c a b g dots ts:=⟨o,f,i.g,i.d,i.n,i.l,i.t,i.c⟩;obtain ⟨L,_,s⟩:=e.sc;refine Eo (HY rfl ?_);symm;refine ⟨0,rfl,show 0<6 by decide,_,rfl,Eo (HY rfl ?_)⟩;symm;refine ⟨1,rfl,show 1<6 by decide,_,rfl,Js ?_⟩;symm;rw [m,j,nY,litB];have q:=ti3 (n:=a) (by ac_rfl);have p:=ti3 (n:=b) (by ac_rfl);refine Gf (k:=64) (Sm.of64 (by ac_rfl) (by ac_rfl)) (by decide) ?_;refine Dq (by simp [lFl];ac_rfl) ?_;symm;refine Dq (by simp [lFl];ac_rfl) ?_;symm;refine Gf (k:=64) (Sm.of64 (by ac_rfl) (by ac_rfl)) (by decide) ?_;refine Dq (by simp [lFl];ac_rfl) ?_;refine QQ ?_;refine Ad rfl ⟨rwF a b,c,a,b,g,dots,ts,?_,e,λn=>zJ s⟩;simp [rwF,Ak]
def zY{m:Int}(hm:0<=m/\m<=8):∃q:Rat,D.tup [.int (2*m+1),.int 2]=frD q/\Bq 32 q:=by
 have e:D.tup [.int (2*m+1),.int 2]=frD ⟨2*m+1,2,by decide,by
  rcases (show m=0\/m=1\/m=2\/m=3\/m=4\/m=5\/m=6\/m=7\/m=8 by ac_rfl) with rfl | rfl | rfl | rfl | rfl | rfl | rfl | rfl | rfl<;>decide⟩:=rfl
 exact ⟨_,e,⟨show (2*m+1).natAbs<2^32 by ac_rfl,show (2:Int).natAbs<2^32 by decide⟩⟩
def t_G(i:Iv c w h g dots ts)(hn:0<=n):Tl (tG (evT c w h g dots ts way n d)) (EndT c w h g dots ts):=by
 refine Eo (HY rfl ?_);symm;refine Gv (by simp;ac_rfl) λx e=>?_;obtain ⟨b,rfl,a⟩ : ∃q:Rat,x=frD q/\Bq 32 q:=by
  simp only [Aq,BL,Bj] at e;rcases e with rfl | rfl
  .exact ⟨_,Ux _,Td (by show (n%9 - 2).natAbs<2^32;ac_rfl) (by decide)⟩
  .exact zY (by ac_rfl)
 clear e;have f:Iv c w h b dots ts:=⟨i.w,i.h,a,i.d,i.n,i.l,i.t,i.c⟩;obtain ⟨L,_,s⟩:=f.sc;symm;refine ⟨2,rfl,show 2<6 by decide,_,rfl,Js ?_⟩;symm;rw [lF];have j:=Jv (b30 a);refine ik (b30 a) ?_;refine Dq (by simp [lGr];ac_rfl) ?_;refine QQ ?_;refine Ad rfl ⟨rwG b,c,w,h,b,dots,ts,?_,f,λn=>cU s⟩;simp [rwG,Ak]
def t_S(i:Iv c w h g dots ts):Tl (tS (evT c w h g dots ts way n d)) (EndT c w h g dots ts):=by
 refine Eo (HY rfl ?_);symm;refine iQ λa v u m=>?_;symm;have q:cutL (a.map encP) none (some 2)=(a.take 2).map encP:=by
  unfold cutL cutAt;rw [Ax,List.map_take];simp only [];rw [iN (by decide),Hn,Nat.sub_zero];by_cases z:2<=a.length
  .rw [show min (2:Int).toNat a.length=2 from N6 z]
  .rw [Nat.min_eq_right (by show a.length<=2;ac_rfl),GX (by simp),GX (by simp;ac_rfl)]
 rw [q];have j:Dots (a.take 2):=⟨λd b=>m.1 d (Gj b),m.2.sublist (List.take_sublist _ _)⟩;have f:1<=(a.take 2).length/\(a.take 2).length<=16:=by rw [List.length_take];ac_rfl
 generalize a.take 2=dots' at *;have o:Iv c w h g dots' ts:=⟨i.w,i.h,i.g,j,f,i.l,i.t,i.c⟩;obtain ⟨L,_,s⟩:=o.sc;refine ⟨3,rfl,show 3<6 by decide,_,rfl,Js ?_⟩;symm;refine w_sD ?_;symm;refine ⟨_,rfl,?_⟩;symm;refine ⟨by simp;ac_rfl,?_⟩;refine CW (λd=>S (pT d)) (λd b=>?_) ?_
 .have:=s.d.1 d b;have:=s.pt b;symm;refine Gf (k:=64) (Sm.of64 (by ac_rfl) (by ac_rfl)) (by decide) ?_;symm;rw [litC];refine Dq (by simp;ac_rfl) ?_;symm;refine Gf (k:=64) (Sm.of64 (by ac_rfl) (by ac_rfl)) (by decide) ?_;symm;refine Dq (by simp;ac_rfl) ?_;symm;simp [pT,Ak]
 rw [show dots'.map (λd=>S (pT d))=(dots'.map pT).map S by simp,litB,ZwL];have tS:=s.tS;have r:=Dd (s:=[32]) (dots'.map pT);have p:totL 1 (dots'.map pT)<=200:=by unfold totL at tS ⊢;simp at tS ⊢;ac_rfl
 refine G9 (An p (by decide)) ?_;refine Dq (by have:=An r p;simp [lSp];ac_rfl) ?_;refine QQ ?_;refine Ad rfl ⟨rwS dots',c,w,h,g,dots',ts,?_,o,λn=>jx s⟩;have e:dots'.map pT≠[]:=λz=>by rw [List.map_eq_nil_iff] at z;rw [z] at f;simp at f
 unfold rwS;rw [MP e]
def xT(i:Iv c w h g dots ts)(hn:0<=n)(hd:Wt 20 d):Tl (Qh (stL c w h g dots ts) [.int way,.int n,d]) (Nxt c w h g dots ts):=by
 rw [lX];refine Av (Tl.mono (Ψ:=EndT c w h g dots ts) ?_ λ_ q=>q);refine Eo (Ad rfl ⟨evT c w h g dots ts way n d,rfl,?_⟩);have b:=t_E (way:=way) (n:=n) i hd;refine KQ ?_;symm;refine Ce (λz=>t_F i hn) λz=>?_;refine KQ ?_;symm;refine Ce (λz=>t_G i hn) λz=>?_;refine KQ ?_;symm;refine Ce (λz=>t_S i) λz=>?_;refine KQ ?_;have e:Tl (wIf (bAnd (trb (o2 dEq (v 1) (Dl.c (.int 4)))) (trb (o2 dLt (v 9) (Dl.c (.int 2))))) tN tE (evT c w h g dots ts way n d)) (EndT c w h g dots ts):=by
  refine KQ ?_;symm;refine Ce (λz=>?_) λz=>?_
  .symm;refine Ce (λz=>t_N i (by ac_rfl) hn) λz=>b
  .symm;exact b
 symm;refine Ce (λz=>?_) λz=>?_
 .symm;refine Ad (show LC (.lst ts) (.lst [])=.ok (.bl (!ts.isEmpty)) from rfl) ?_;symm;cases ts with
  | nil=>exact e
  | cons a r=>exact t_D i hn (by simp)
 .symm;exact e
end
section
variable{U:Lf->Prop}{Z:Ev}{a b:Fs}
def Oc{m:MS}(h:Tl (m Z) λf=>∃Z',f=.nx Z'/\U (.nx Z' a b)):Tl (Dl.lPl m Z a b) U:=by
 obtain ⟨f,e,Z',rfl,q⟩:=h;refine Ad ?_ q;unfold Dl.lPl;rw [e];rfl
def Jt{m k:ML}(h:Tl (m Z a b) λf=>∃Z' a' b',f=.nx Z' a' b'/\Tl (k Z' a' b') U):Tl (lSq m k Z a b) U:=by
 obtain ⟨f,e,Z',a',b',rfl,q⟩:=h;unfold lSq;rw [e];exact q
def ZQ{t:MLB}{e:ME}(h:Tl (t Z a b) λr=>r.1=false/\U (.nx Z r.2.1 r.2.2)):Tl (lIf t e Z a b) U:=Av (h.mono λr q=>by rw [q.1,iN Ek];exact Aw q.2)
def sW{t:MLB}(h:Tl (t Z a b) λr=>U (.rt (.bl r.1))):Tl (lRet t Z a b) U:=Av (h.mono λr q=>Aw q)
def cV{Ψ:Bool×Fs×Fs->Prop}{t u:MLB}(h:Tl (t Z a b) λr=>r.1=false/\Tl (u Z r.2.1 r.2.2) Ψ):Tl (lOr t u Z a b) Ψ:=Av (h.mono λr q=>by rw [q.1,iN Ek];exact q.2)
def N7{Ψ:Bool×Fs×Fs->Prop}{sec:Bool}{e e':ME}{op:D->D->Res D}{d r d':D}{fl:Fs}{v:Bool}(he:e Z=.ok d)(hf:((cond sec b a).map (·.1)).contains ("say" : Str)=false)(hg:GZ [d] (cond sec b a)=.ok (r,fl))(he':e' Z=.ok d')(ho:op r d'=.ok (.bl v))(q:Ψ (v,cond sec a fl,cond sec fl b)):Tl (lSay sec "say" GZ op e e' Z a b) Ψ:=by
 refine Ad ?_ q;unfold lSay;rw [he];show (if ((cond sec b a).map (·.1)).contains ("say" : Str)=true then Res.bad else _)=_
 rw [hf,iN Ek,hg];show (e' Z).bind _=_;rw [he']
 show (match op r d' with
  | .ok (.bl v)=>Res.ok (v,cond sec a fl,cond sec fl b)
  | _=>.bad)=_
 rw [ho]
def cu{g:MG}{m:ML}(I:Ev->Fs->Fs->Prop)(hd:∀Z a b,I Z a b->U (.nx Z a b)):∀{ds:List D},(∀d∈ds,∀Z a b,I Z a b->Tl (g d Z) λZ'=>Tl (m Z' a b) λf=>∃Z2 a2 b2,f=.nx Z2 a2 b2/\I Z2 a2 b2)->∀Z a b,I Z a b->Tl (lGo g m ds Z a b) U
 | [],_,Z,a,b,i=>Aw (hd Z a b i)
 | d::r,h,Z,a,b,i=>by
  obtain ⟨Z',k,f,e,Z2,a2,b2,rfl,c⟩:=h d Bf Z a b i;unfold lGo;rw [k];show Tl ((m Z' a b).bind _) U;rw [e];exact cu I hd (λx j=>h x (Bp _ j)) Z2 a2 b2 c
def ym{Ψ:Fl->Prop}{i j:Nat}{g:List D->List D->Res (D×List D)}{ma:MA}{bs:List D}(hi:Z[i]?=some (.ow bs))(h:Tl (ma Z) λds=>Tl (g bs ds) λr=>Ψ (.nx ((Z.set i (.ow r.2)).set j (.im r.1)))):Tl (Kh i j g ma Z) Ψ:=by
 obtain ⟨ds,b,r,a,q⟩:=h;refine Ad ?_ q;unfold Kh;rw [hi];show (ma Z).bind _=_;rw [b]
 show (match g bs ds with
  | .ok (d,cs)=>Res.ok (Fl.nx ((Z.set i (.ow cs)).set j (.im d)))
  | _=>.bad)=_
 rw [a]
end
def tY{d:D}(h:Thg d):Wt 20 d:=by
 cases h with
 | @plain k T q ht hk hq=>exact ⟨.pl q,k,T,rfl,b30 hq,hk,ht⟩
 | @shaded k T ht hk h1=>exact ⟨.sh,k,T,rfl,h1,hk,ht⟩
 | @patt k h w T P ht hk h2 hh hw hP=>exact ⟨.pa h w P,k,T,rfl,⟨h2,hh,hw,λi a j b=>b30 (hP i a j b)⟩,hk,ht⟩
 | @glass k T q r ht hk hq hr h0 h1=>exact ⟨.gl q r,k,T,rfl,⟨b30 hq,b30 hr,h0,h1⟩,hk,ht⟩
def q72:Rat:=⟨7,2,by decide,by decide⟩
def q0:Rat:=⟨0,1,by decide,by decide⟩
def q3:Rat:=⟨3,1,by decide,by decide⟩
def bq0:Bq 32 q0:=⟨show (0:Int).natAbs<2^32 by decide,show (1:Int).natAbs<2^32 by decide⟩
def bq72:Bq 32 q72:=⟨show (7:Int).natAbs<2^32 by decide,show (2:Int).natAbs<2^32 by decide⟩
def bq3:Bq 32 q3:=⟨show (3:Int).natAbs<2^32 by decide,show (1:Int).natAbs<2^32 by decide⟩
def iv0{g:Rat}(hg:Bq 32 g):Iv 0 8 8 g [(4,4)] []:=⟨by decide,by decide,hg,⟨by decide,by decide⟩,by decide,by simp,(λd a=>(BL a).elim),by decide⟩
def sc0{g:Rat}(hg:Bq 32 g):Sc 8 8 g [(4,4)] []:=by
 obtain ⟨L,e,s⟩:=(iv0 hg).sc;have:L=[]:=by simpa using e.symm
 rwa [this] at s
def lit1:Str.ofString "floor 8 8\nground 0\nspots 4,4"=mkS (Ak [10] (rws 8 8 q0 [(4,4)] [])):=by decide +kernel
def lit2:Str.ofString "floor 8 8\nground 7/2\nspots 4,4"=mkS (Ak [10] (rws 8 8 q72 [(4,4)] [])):=by decide +kernel
def lit3:Str.ofString "ground 7/2"=mkS (rwG q72):=by decide +kernel
def txt0{g:Rat}(hg:Bq 32 g):Io [Br 8 8 g [(4,4)] []]=.ok (S (Ak [10] (rws 8 8 g [(4,4)] []))):=Tl.eq (ak (sc0 hg) rfl)
def yJ:QR [] []=.ok (flD (Br 8 8 q0 [(4,4)] []) 0):=rfl
def tri0:Tr 20 0 (.tup [cor 0 0 1 2 [],cor 5 0 2 1 [],cor 0 5 3 4 []]):=by
 have s:∀x:Int,0<=x/\x<=9->Sm 20 x:=λx h=>by show x.natAbs<2^20;ac_rfl
 have z:∀v∈([]:List Int),Sm 20 v:=λv a=>(BL a).elim;exact ⟨0,0,1,2,5,0,2,1,0,5,3,4,[],[],[],rfl,⟨s _ (by decide),s _ (by decide),s _ (by decide),s _ (by decide),by decide,by decide⟩,⟨s _ (by decide),s _ (by decide),s _ (by decide),s _ (by decide),by decide,by decide⟩,⟨s _ (by decide),s _ (by decide),s _ (by decide),s _ (by decide),by decide,by decide⟩,rfl,rfl,rfl,z,z,z⟩
def bC:Ta lOk:=Am rfl
def ne_S{l:List Nat}(h:Ta l):dNe (S l) (S l)=.ok (.bl false):=Tl.eq (Vh h h (by rw [Dj rfl];rfl))
def eq_S{l:List Nat}(h:Ta l):dEq (S l) (S l)=.ok (.bl true):=Tl.eq (CV h h (by rw [Dj rfl]))
def O1(sc:D)(n:Int):((flD sc n).map (·.1)).contains ("say" : Str)=false:=rfl
def yV{U:Fl->Prop}{i1 i2:Nat}{g0:List D->Fs->Res Fs}{k:ML}{Z:Ev}{fl:Fs}(hi:i1<Z.length/\i2<Z.length/\i1≠i2)(h0:g0 [] []=.ok fl)(h:Tl (k ((Z.set i1 .no).set i2 .no) fl fl) λf=>∃d,f=.rt d/\U (.rt d)):Tl (lLaw i1 i2 g0 k Z) U:=by
 obtain ⟨f,e,d,rfl,q⟩:=h;refine Ad ?_ q;unfold lLaw;rw [iN (λz=>z hi),h0]
 show (match k ((Z.set i1 .no).set i2 .no) fl fl with
  | .ok (.rt d)=>Res.ok (Fl.rt d)
  | _=>.bad)=_
 rw [e]
def wM(ns:List Int)(h63:ns.length<=63):VP [.lst (ns.map .int)]=.ok (.bl true):=by
 refine Tl.eq ?_;unfold VP;symm;refine yV (show 1<10/\2<10/\1≠2 by decide) yJ ?_;dsimp only [List.set_cons_zero,List.set_cons_succ,Dl.ev0,Dl.evF,Dl.noA,Nat.reduceSub];refine Jt (Oc ?_);symm;rw [lit1];refine ⟨_,rfl,_,_,_,rfl,Jt (ZQ (cV ?_))⟩;have L:=VG (sc0 bq0);have U:=VG (sc0 bq72);rw [Vf,litOk,lit2,lit3];refine N7 (sec:=false) rfl (O1 _ _) (PK (Te (txt0 bq0))) rfl (ne_S L) ⟨rfl,?_⟩;refine N7 (sec:=true) rfl (O1 _ _) (PK (cU (sc0 bq72))) rfl (ne_S bC) ⟨rfl,_,_,_,rfl,?_⟩;refine Jt (Oc ?_);symm;refine fL λf l5 A=>?_;symm;refine Dm ?_;symm;refine ⟨_,PN (k:=0) (q:=q3) (by decide) tri0,?_⟩;symm;refine FZ (y:=[thD (.pl q3) (.tup [cor 0 0 1 2 [],cor 5 0 2 1 [],cor 0 5 3 4 []])]) (by simp;ac_rfl) ?_;have W:∀d∈f++[thD (.pl q3) (.tup [cor 0 0 1 2 [],cor 5 0 2 1 [],cor 0 5 3 4 []])],Wt 20 d:=λd hd=>by
  rcases CK.mp hd with hd | hd
  .exact tY (A d hd)
  .have:=GQ.mp hd;subst this;exact ⟨.pl q3,0,_,rfl,b30 bq3,by decide,tri0⟩
 have Y:1<=(f++[thD (.pl q3) (.tup [cor 0 0 1 2 [],cor 5 0 2 1 [],cor 0 5 3 4 []])]).length:=by simp
 generalize f++[thD (.pl q3) (.tup [cor 0 0 1 2 [],cor 5 0 2 1 [],cor 0 5 3 4 []])]=som at *;refine ⟨_,rfl,_,_,_,rfl,Jt (Oc ?_)⟩;symm;refine ⟨_,rfl,_,_,_,rfl,Jt ?_⟩;refine Av ?_;symm;obtain ⟨ms,M,lm,_⟩:=nZ ns (some 8) (some 20);rw [M,Ax];symm;refine cu (λZ a b=>∃(c w h:Nat) (g:Rat) (e:List (Int×Int)) (f:List D) (n:Int) (B z u s:Cl),Iv c w h g e f/\Z=[.im (.lst (ns.map .int)),.no,.no,.im (S (Ak [10] (rws 8 8 q0 [(4,4)] []))),.im (.lst som),.ow (stL c w h g e f),B,z,u,s]/\a=flD (Br w h g e f) n/\b=flD (Br 8 8 q72 [(4,4)] []) 1) ?_ ?_ _ _ _ ⟨0,8,8,q0,[(4,4)],[],_,_,_,_,_,iv0 bq0,rfl,rfl,rfl⟩
 .rintro Z a b ⟨c,w,h,g,e,f,n,B,z,u,s,i,rfl,rfl,rfl⟩;refine ⟨_,_,_,rfl,sW ?_⟩;refine N7 (sec:=true) rfl (O1 _ _) (PK (Te (txt0 bq72))) rfl (eq_S U) ?_;exact ⟨_,rfl,by symm⟩
 .rintro x Q Z a b ⟨c,w,h,g,e,f,n,B,z,u,s,i,rfl,rfl,rfl⟩;obtain ⟨k,hk,rfl⟩:=mem_range Q;symm;refine Jt (Oc ?_);symm;refine Oq (by ac_rfl) λcc=>?_;symm;refine Nx (n:=2) (by decide) λH K G=>?_;obtain ⟨m,o,rfl⟩ : ∃m o,H=[m,o]:=by
   match H,K with
   | [p,q],_=>exact ⟨p,q,rfl⟩
  have V:=G m (by simp);have E:=G o (by simp);unfold Dw at V E;symm;rw [show List.map D.int [m,o]=[.int m,.int o] from rfl];symm;refine ⟨_,rfl,_,_,_,rfl,Jt (Oc (ym rfl ?_))⟩;symm;have J:=Ja (k:Int) (show (som.length:Int)≠0 by ac_rfl);have N:=Jk (k:Int) (show (0:Int)<som.length by ac_rfl);refine Gv ⟨J,N⟩ λd hd=>?_;symm;refine (xT i E.1 (W d hd)).mono λr q=>?_;obtain ⟨l,O,X,R,P,j,v,rfl,F,I⟩:=q;obtain ⟨T,C,t⟩:=F.txt;refine ⟨_,rfl,_,_,_,rfl,ZQ (cV ?_)⟩;refine N7 (sec:=false) rfl (O1 _ _) (PK (I _)) rfl (ne_S bC) ⟨rfl,?_⟩;refine N7 (sec:=false) (d':=S T) rfl (O1 _ _) (PK (Te C)) ?_ (ne_S t) ⟨rfl,_,_,_,rfl,O,X,R,P,j,v,_,_,_,_,_,F,rfl,rfl,rfl⟩;refine Tl.eq ?_;symm;refine Ad C ?_;exact QQ rfl
end My
namespace My
open PySem L2 Ds Dl
def top(i:Nat):Stmt:=PySem.Challenge.pw_sampleyard_k86_desk_told.main.body.getD i (.Pass ⟨0,0,0,0⟩)
abbrev cz:Stmt:=(inClass (top 69) 0)
abbrev bA:Stmt:=(inClass (top 70) 0)
abbrev aA:Stmt:=(inClass (top 73) 1)
abbrev YW:Stmt:=(inClass (top 72) 1)
abbrev Ze:Stmt:=(inClass (top 70) 1)
abbrev XQ:Stmt:=(inClass (top 71) 1)
abbrev aN:Stmt:=(inClass (top 73) 0)
abbrev bT:Stmt:=(inClass (top 72) 0)
abbrev Wx:Stmt:=(inClass (top 71) 0)
abbrev eO:Stmt:=(inClass (top 73) 4)
abbrev YG:Stmt:=(inClass (top 72) 3)
abbrev Wz:Stmt:=(inClass (top 70) 3)
abbrev XD:Stmt:=(inClass (top 71) 3)
abbrev cW:Stmt:=(inClass (top 146) 0)
abbrev YM:Stmt:=(inClass (top 146) 1)
abbrev Xx:Stmt:=(inClass (top 146) 2)
abbrev Za:List (Str×Nat×Value):=[("show",1456,.ref 953),("paint",1457,.ref 960),("tiles",1458,.ref 965),("doubt",1459,.ref 970),("at",1460,.ref 977),("who",1461,.ref 982)]
abbrev mJ:List (Str×Value):=Za.map λe=>(e.1,e.2.2)
abbrev XS:List (Str×Nat×Value):=[("floor",1445,.ref 892),("ground",1446,.ref 899),("spots",1447,.ref 906),("drop",1448,.ref 927),("near",1449,.ref 932)]
abbrev xj:List (Str×Value):=XS.map λe=>(e.1,e.2.2)
abbrev Mp:Stmt:=top 160
local macro_rules | `(tactic| walk_at "sc")=>`(tactic| exact ⟨rfl,rfl,rfl,by decide +kernel,rfl,by decide +kernel,by decide +kernel⟩)
def dU:Bx ["self","triangle"] ["self","triangle"] (BV cz):=by walk_at "sc"
def d8:Bx ["self","triangle","colour"] ["self","triangle","colour"] (BV bA):=by walk_at "sc"
def cY:Bx ["self"] ["self"] (BV aA):=by walk_at "sc"
def az:Bx ["self"] ["self"] (BV YW):=by walk_at "sc"
def Xn:Bx ["self"] ["self"] (BV Ze):=by walk_at "sc"
def bF:Bx ["self"] ["self"] (BV XQ):=by walk_at "sc"
def Wi:Bx ["self","triangle","colour","part"] ["self","triangle","colour","part"] (BV aN):=by walk_at "sc"
def bU:Bx ["self","triangle","pattern"] ["self","triangle","pattern"] (BV bT):=by walk_at "sc"
def XM:Bx ["self","triangle"] ["self","triangle"] (BV Wx):=by walk_at "sc"
def b7:Bx ["self","triangle"] ["self","triangle"] (BV eO):=by walk_at "sc"
def Zc:Bx ["self","triangle"] ["self","triangle"] (BV YG):=by walk_at "sc"
def Yn:Bx ["self","triangle"] ["self","triangle"] (BV Wz):=by walk_at "sc"
def Yb:Bx ["self","triangle"] ["self","triangle"] (BV XD):=by walk_at "sc"
def Ws:Bx ["self"] ["self"] (BV cW):=by walk_at "sc"
def S7:Bx ["self","row","answer"] ["self","row"] (BV YM):=by walk_at "sc"
def UV:Bx ["self","row","head"] ["self","row"] (BV Xx):=by walk_at "sc"
def HW:Bx ["_law_script","_law_desk","_law_beside","_law_first","_law_some","_law_state","_law_k","_law_way","_law_number","_law_row"] ["_law_script"] (BV Mp):=by walk_at "sc"
def fil:∀p,Hd.heap p=Hd.heap p/\PySem.Challenge.rw_sampleyard_k86_desk_told=PySem.Challenge.rw_sampleyard_k86_desk_told:=by
 k_fill;exact λ_=>⟨rfl,rfl⟩
def YY(P:Program)(w:World)(K:W.Frag)(mg:Str->Option Value)(base:Heap):Prop:=K=Hd.heap w.params/\∀{x:Str} {v:Option Value},W.nsIn K mainGlobals x=some v->mg x=v
abbrev BtT(x q:Str)(st:Stmt)(ps:List Str):Prop:=∀(kV doc pm:Value) (an:Option Addr) (cdv ct:Value) (us:List Value),us.length=ps.length->bindArgs (W.fnOf x q (Jl st) (Ew st) (BV st) .none kV doc pm an cdv ct) ⟨us,[]⟩=pure (ps.zip us)
section
variable{P:Program}{w:World}{K:W.Frag}{mg:Str->Option Value}{base:Heap}{c x q m:Str}{st:Stmt}{ps:List Str}{f C:Addr}{fd:FuncData}{n j l:Nat}
def ln1{P:List Value->Prop}(q:∀a,P [a]):∀us,us.length=1->P us:=by intro us h;rcases us with _|⟨a,_|_⟩<;>first | exact q _ | cases h
def ln2{P:List Value->Prop}(q:∀a b,P [a,b]):∀us,us.length=2->P us:=by intro us h;rcases us with _|⟨a,_|⟨b,_|_⟩⟩<;>first | exact q _ _ | cases h
def ln3{P:List Value->Prop}(q:∀a b c,P [a,b,c]):∀us,us.length=3->P us:=by intro us h;rcases us with _|⟨a,_|⟨b,_|⟨c,_|_⟩⟩⟩<;>first | exact q _ _ _ | cases h
def ln4{P:List Value->Prop}(q:∀a b c d,P [a,b,c,d]):∀us,us.length=4->P us:=by intro us h;rcases us with _|⟨a,_|⟨b,_|⟨c,_|⟨d,_|_⟩⟩⟩⟩<;>first | exact q _ _ _ _ | cases h
def exI{α:Type}{φ:α->Prop}{a:α}(h:φ a):∃a,φ a:=⟨a,h⟩
def Um{φ:Addr->Prop}(a:mg c=some (.ref C))(h:φ C):∀C,mg c=some (.ref C)->φ C:=by
 intro C e;cases a.symm.trans e;exact h
def Wl(T:YY P w K mg base)(a:W.nsIn (Hd.heap w.params) mainGlobals x=some (some (.ref f)))(F:Fun (Hd.heap w.params) x x st f fd)(b:BtT x x st ps):Def K mg x st ps:=by
 obtain ⟨rfl,g⟩:=T;exact ⟨f,fd,F,F.binds b,g a⟩
def Nb{cs:List Str}{i:List D->Fs->Res Fs}(a:mg c=some (.ref C))(h1:W.makesIn K C=true)(h2:W.findIn K (.ref C) "__init__"=some (some (.ref f)))(h3:W.isFn K (.ref f)=true)(h4:W.keepIn K (.ref C)=true)(F:Fun K x q st f fd)(o:Fun K x q st f fd->FnOk P w K mg base (CXR P w) j f fd ps (spI K mg n cs i))(b:BtT x q st ps)(e:cs.contains c=true):CalI P w K mg base j c n cs i:=⟨_,_,_,_,a,⟨h1,h2,h3,h4⟩,o F,F.binds b,e⟩
def my{cs:List Str}{i:List D->Fs->Res Fs}(a:mg c=some (.ref C))(h1:W.specialIn K (.ref C) "__getattribute__"=some (some (.builtin "type.__getattribute__")))(h2:W.readsIn K C (.type "type")=true)(h3:W.findCls K (.ref C) (.type "type") "__init__"=some (.val (.ref f)))(h4:W.handedIn (.ref f)=true)(F:Fun K x q st f fd)(o:Fun K x q st f fd->FnOk P w K mg base (CXR P w) j f fd ps (spI K mg n cs i))(b:BtT x q st ps):CalS P w K mg base j c "__init__" n cs i:=⟨_,_,_,_,a,⟨h1,⟨_,h2,h3⟩,h4,F.kp⟩,o F,F.binds b⟩
def Hy{i:List D->Res D}(a:mg c=some (.ref C))(p:Cls K C)(h1:W.findIn K (.ref C) m=some (some (.ref f)))(h2:W.isFn K (.ref f)=true)(F:Fun K x q st f fd)(o:Fun K x q st f fd->FnOk P w K mg base (CXR P w) j f fd ps (spD K mg ps.length i))(b:BtT x q st ps)(hj:j<=l)(e:ps.length=n+1):∀C,mg c=some (.ref C)->Cls K C/\∃g fd ps,Meth K C m g/\FnOk P w K mg base (CXR P w) l g fd ps (spD K mg ps.length i)/\Binds K fd ps []/\ps.length=n+1:=Um a ⟨p,_,_,_,⟨h1,h2,F.kp⟩,(o F).mono hj,F.binds b,e⟩
def YX{n:Nat}{cs:List Str}{i:List D->Fs->Res (D×Fs)}(a:mg c=some (.ref C))(p:Cls K C)(h1:W.findIn K (.ref C) m=some (some (.ref f)))(h2:W.isFn K (.ref f)=true)(F:Fun K x q st f fd)(o:Fun K x q st f fd->FnOk P w K mg base (CXR P w) j f fd ps (spO2 K mg n cs i))(b:BtT x q st ps):∀C,mg c=some (.ref C)->Cls K C/\∃g fd ps,Meth K C m g/\FnOk P w K mg base (CXR P w) j g fd ps (spO2 K mg n cs i)/\Binds K fd ps []:=Um a ⟨p,_,_,_,⟨h1,h2,F.kp⟩,o F,F.binds b⟩
def lawK{oc kV dc pm cd ct:Value}{od an:Option Addr}{sl:Array (Option Value)}{fa:Addr}{sp:Sp}(a:mg "law"=some (.ref f))(hfa:mg "law"=some (.ref fa))(l:K.lookup f=some ⟨oc,od,.func (W.fnOf "law" "law" (Jl Mp) (Ew Mp) (BV Mp) .none kV dc pm an cd ct),sl⟩)(h1:W.codeIn K cd "law"=true)(h2:W.keepIn K (.ref f)=true)(o:∀base fd,Fun K "law" "law" Mp f fd->FnOk P w K mg base (CXR P w) n f fd ["_law_script"] sp):∃fd:FuncData,(∀(s:Shared) (v:Value),BindsTo s fd ⟨[v],[]⟩ [("_law_script",v)])/\∀base:Heap,K.In base->base.Ns mainGlobals mg->FnOk P w K mg base (CXR P w) n fa fd ["_law_script"] sp:=by
 cases a.symm.trans hfa;exact ⟨_,λs v=>.of_eq rfl,λbase _ _=>o base _ (Cv l h1 h2)⟩
def cal1{mb:MS}(st:Stmt)(N:List Str)(D:Def K mg x st ps/\Bx N ps (BV st))(h:N.Nodup->∀(f:Addr) (cdv:Value) (A:Around) (outer:List Env) (s:Shared) (H:Hp) (E:XK),Room n (A.deeper (PyProof.Rows.envOfC x (BV st) s.heap.objs.size f cdv))->∃t,DSs (cxOf (CXR P w) P w K mg base N x (BV st) f cdv A outer s H E) E (Ew st) t mb):Cal P w K mg base (n+1) x ps (fn N.length mb):=D.1.cal D.2 (h D.2.nd)
end
local macro_rules | `(tactic| walk_at "b")=>`(tactic| first | (exact λ_ _ _ _ _ _=>My.ln1 λ_=>rfl) | (exact λ_ _ _ _ _ _=>My.ln2 λ_ _=>rfl) | (exact λ_ _ _ _ _ _=>My.ln3 λ_ _ _=>rfl) | (exact λ_ _ _ _ _ _=>My.ln4 λ_ _ _ _=>rfl))
set_option hygiene false
local macro_rules | `(tactic| walk_at "y")=>`(tactic| obtain ⟨rfl,g⟩:=id T)
local macro_rules | `(tactic| walk_at "q")=>`(tactic| all_goals first | k_is | k_exc | kit_is | kts_exm | kernel_rfl | rfl | skip)
local macro_rules | `(tactic| walk_at "z")=>`(tactic| (walk_at "y"; refine' g ?_;k_is))
local macro_rules | `(tactic| walk_at "z1")=>`(tactic| (walk_at "y"; refine' My.exI (g ?_);walk_at "q"))
local macro_rules | `(tactic| walk_at "z2")=>`(tactic| (walk_at "y"; refine' My.exI ⟨g ?_,?_⟩;walk_at "q"))
local macro_rules | `(tactic| walk_at "fl")=>`(tactic| (walk_at "y"; (repeat' first | exact Ca.nil | refine' Ca.cons (My.Um (g ?_) ⟨⟨?_,?_,?_,?_⟩,?_⟩) ?_);walk_at "q"))
local macro_rules | `(tactic| walk_at "d")=>`(tactic| (refine' My.Wl T ?_ (L2.Cv ?_ ?_ ?_) (by walk_at "b");walk_at "q"))
local macro_rules | `(tactic| walk_at "D")=>`(tactic| (refine' ⟨My.Wl T ?_ (L2.Cv ?_ ?_ ?_) (by walk_at "b"),by walk_at "sc"⟩;walk_at "q"))
set_option hygiene true
section
variable{P:Program}{w:World}{K:W.Frag}{mg:Str->Option Value}{base:Heap}(T:YY P w K mg base)
include T
def Zxs:mg "abs"=none:=by walk_at "z"
def MK:mg "all"=none:=by walk_at "z"
def ZwR:mg "any"=none:=by walk_at "z"
def oW:mg "bool"=none:=by walk_at "z"
def mF:mg "enumerate"=none:=by walk_at "z"
def UG:mg "int"=none:=by walk_at "z"
def vO:mg "isinstance"=none:=by walk_at "z"
def Jf:mg "len"=none:=by walk_at "z"
def bR:mg "list"=none:=by walk_at "z"
def dw:mg "range"=none:=by walk_at "z"
def ud:mg "reversed"=none:=by walk_at "z"
def yt:mg "set"=none:=by walk_at "z"
def Hk:mg "str"=none:=by walk_at "z"
def Ie:mg "tuple"=none:=by walk_at "z"
def oR:mg "zip"=none:=by walk_at "z"
def Vr:∃tk,mg "FIGURES"=some (.str "0123456789" tk):=by walk_at "z1"
def Qp:∃tk,mg "MOST_CELLS"=some (.int 64 tk):=by walk_at "z1"
def Ui:∃tk,mg "MOST_FIGURES"=some (.int 30 tk):=by walk_at "z1"
def Vi:∃tk,mg "MOST_SPOTS"=some (.int 16 tk):=by walk_at "z1"
def Vg:∃tk,mg "MOST_VALUES"=some (.int 3 tk):=by walk_at "z1"
def Zl7{gtk0_0:Tok}{gtk0_1:Tok}{gtk0_2:Tok}{gtk0_3:Tok}{gtk0_4:Tok}{GA0:Addr}{godt0:Option Addr}{gnn0:Nat}{gsl0:Array (Option Value)}(gta0:W.nsIn K mainGlobals "COUNTS"=some (some (.ref GA0)))(gtl0:K.lookup GA0=some ⟨.type "tuple",godt0,.seq #[.int 1 gtk0_0,.int 2 gtk0_1,.int 4 gtk0_2,.int 8 gtk0_3,.int 16 gtk0_4] gnn0,gsl0⟩):GTup K mg "COUNTS" [1,2,4,8,16]:=⟨_,_,_,_,T.2 gta0,gtl0,rfl,rfl,show (5:Nat)<=sizeLine by decide,(.cons ⟨_,rfl⟩ (.cons ⟨_,rfl⟩ (.cons ⟨_,rfl⟩ (.cons ⟨_,rfl⟩ (.cons ⟨_,rfl⟩ .nil)))))⟩
def iI:GTup K mg "COUNTS" [1,2,4,8,16]:=by walk_at "y"; refine' Zl7 T ?_ ?_;walk_at "q"
def Vj:Ca K mg objs "colour":=by walk_at "fl"
def dW:Ca K mg objs "part":=by walk_at "fl"
def cQ:Ca K mg objs "pattern":=by walk_at "fl"
def Ss:Ca K mg objs "triangle":=by walk_at "fl"
set_option hygiene false in
local macro_rules | `(tactic| walk_at "e")=>`(tactic| repeat' first
 | exact Ah
 | exact bj
 | exact JH
 | exact BR
 | exact Al
 | exact Je
 | exact d_v _
 | refine' Ae ?_ ?_
 | refine' Gp ?_ ?_
 | refine' Ey (by first | assumption | exact CalO.cal (by assumption) | exact CalN.cal (by assumption)) hr (by decide) rfl BK ?_
 | refine' YF (by first | assumption | exact CalO.cal (by assumption) | exact CalN.cal (by assumption)) hr (by decide) rfl ?_
 | refine' d_callX (by first | assumption | exact CalO.cal (by assumption) | exact CalN.cal (by assumption)) hr (by decide) rfl ?_
 | refine' Bu ?_ ?_
 | refine' Tf ?_ ?_
 | refine' aq ?_ ?_
 | refine' Fv ?_ ?_
 | refine' Ng ?_ ?_
 | refine' sU ?_ ?_
 | refine' xK ?_ ?_
 | refine' uF ?_ ?_
 | refine' Nq ?_ ?_
 | refine' Wu ?_ ?_
 | refine' mY ?_ ?_
 | refine' sY ?_ ?_
 | refine' d_lt ?_ ?_
 | refine' rm ?_ ?_
 | refine' d_gt ?_ ?_
 | refine' Zi ?_ ?_
 | refine' Il ?_ ?_
 | refine' SM ?_ ?_
 | refine' ZwX ?_ ?_
 | refine' d_or ?_ ?_
 | refine' Tz hr ?_ ?_
 | refine' Eh hr ?_ ?_
 | refine' dt_in hr ?_ ?_
 | refine' Va hr ?_ ?_
 | refine' eF hr ?_ ?_
 | refine' d_ne hr ?_ ?_
 | refine' d_in hr ?_ ?_
 | refine' d_nin hr ?_ ?_
 | exact NK rfl (oW T) qy
 | exact NK rfl (UG T) V9
 | exact NK rfl (bR T) cJ
 | exact NK rfl (Hk T) Hf
 | exact NK rfl (Ie T) Ij
 | refine' Ei (Ld rfl) MF rfl (MK T) Kz ?_
 | refine' Ei (ZmW rfl) z8 rfl (ZwR T) nj ?_
 | refine' Ei j5 yP rfl (Zxs T) pH ?_
 | refine' Ei vf uI rfl (vO T) pX ?_
 | refine' Ei rQ qZ rfl (Jf T) J6 ?_
 | refine' Ei N8 O7 rfl (Jf T) J6 ?_
 | refine' DN gK xY rfl (UG T) V9 ?_
 | refine' DN lL jg rfl (UG T) V9 ?_
 | refine' DN mQ zB rfl (bR T) cJ ?_
 | refine' DN JF Hs rfl (Hk T) Hf ?_
 | refine' DN JN Ju rfl (Ie T) Ij ?_
 | refine' Ol (Vj T) ?_
 | refine' Ol (dW T) ?_
 | refine' Ol (cQ T) ?_
 | refine' Ol (Ss T) ?_
 | refine' Dr ?_ ?_
 | refine' Ga ?_ ?_
 | refine' J3 ?_ ?_ ?_
 | refine' Wj ?_ ?_ ?_
 | refine' zp ?_
 | refine' Km ?_
 | refine' rG ?_
 | refine' dt_isN ?_
 | refine' dt_notN ?_
 | refine' d_isN ?_
 | refine' d_notN ?_
 | refine' HH ?_
 | refine' xW ?_
 | refine' Jh ?_
 | refine' VV ?_
 | refine' IK ?_
 | refine' DW.dt ?_
 | exact Bb
 | exact OD
 | exact ds_retN
 | exact ds_cnt
 | exact ds_brk
 | exact ds_pass
 | refine' Az ?_
 | refine' Ag ?_ ?_
 | refine' Bh ?_
 | refine' Ba ?_ ?_ ?_
 | refine' FW hN rfl (by first | exact Or.inl rfl | exact Or.inr rfl) ?_
 | refine' bB hN rfl (by first | exact Or.inl rfl | exact Or.inr rfl) ?_ ?_
 | refine' uD _ ?_
 | refine' WW ?_
 | refine' ao ?_ ?_
 | refine' Hm PassesOwn.leaving rfl ?_ ?_ ?_
 | exact Ef hN rfl (by first | exact Or.inl rfl | exact Or.inr rfl) (by decide)
 | refine' Nr rfl ?_
 | refine' Ff ?_ ?_
 | refine' dJ rfl (dw T) ?_
 | refine' CT ?_
 | refine' iG ?_
 | decide
 | fail)
local macro_rules | `(tactic| walk_at "co")=>`(tactic| exact Gd.of rfl rfl (by kernel_rfl) rfl (by repeat' (first | exact trivial | refine ⟨rfl,?_⟩)) (by repeat' (first | exact trivial | refine ⟨rfl,?_⟩)))
local macro_rules | `(tactic| walk_at "cg")=>`(tactic| exact λ_ _ _ _ _=>Ef (by show List.Nodup ((_:List Str) ++ (_:List Str));decide +kernel) rfl (by first | exact Or.inl rfl | exact Or.inr rfl) (by decide))
local macro_rules | `(tactic| walk_at "ct")=>`(tactic| exact λ_ _ _ _ _=>V2)
local macro_rules | `(tactic| walk_at "ce")=>`(tactic| (intro _ _ _ _ _;walk_at "e"))
def tM:Cal P w K mg base 1 "check_before_eye" ["corners"] QM:=by
 exact cal1 (top 27) ["corners","corner"] (by walk_at "D") (λhN f cdv A outer s H E hr=>⟨_,(Az (Hm PassesOwn.leaving rfl (CT (d_v 0)) (by walk_at "e")
  (Az (Ba (by walk_at "e")
  CN
  Bb))))⟩)
def Rz:Cal P w K mg base 1 "is_whole" ["thing"] Gm:=by
 exact cal1 (top 8) ["thing"] (by walk_at "D") (λhN f cdv A outer s H E hr=>⟨_,(by walk_at "e")⟩)
def Zh2:Cal P w K mg base 2 "are_values" ["thing"] QS:=by
 have yat:=Rz T;obtain ⟨tk_MOST_VALUES,Vg⟩:=(Vg T)
 exact cal1 (top 60) ["thing"] (by walk_at "D") (λhN f cdv A outer s H E hr=>⟨_,(Ag (Ba (DW.dt (Il (by walk_at "e") (Jh (Nq (by walk_at "e") (PJ rfl Vg)))))
  (Az (Bh JH))
  Bb)
  (Az (Bh (Ei (Ld rfl) MF rfl (MK T) Kz (Ae (CJ (own:=["number"]) (cap:=[]) (CT (d_v 0)) (by walk_at "co") rfl (by walk_at "cg") (by walk_at "ct") (by walk_at "ce")) Al)))))⟩)
def nH:Cal P w K mg base 3 "is_corner" ["thing"] Pz:=by
 have yat:=Rz T;have c_are_values:=Zh2 T
 exact cal1 (top 59) ["thing"] (by walk_at "D") (λhN f cdv A outer s H E hr=>⟨_,(Ag (by walk_at "e")
  (Ag (Ba (Km (IK (Ei (Ld rfl) MF rfl (MK T) Kz (Ae (CJ (own:=["number"]) (cap:=[]) (by walk_at "e") (by walk_at "co") rfl (by walk_at "cg") (by walk_at "ct") (by walk_at "ce")) Al))))
  (Az (Bh JH))
  Bb)
  (by walk_at "e")))⟩)
def fB:Cal P w K mg base 4 "check_triangle" ["triangle"] QT:=by
 have c_is_corner:=nH T
 exact cal1 (top 58) ["triangle","corner"] (by walk_at "D") (λhN f cdv A outer s H E hr=>⟨_,(Ag (Ba (by walk_at "e")
  CN
  Bb)
  (Az (Hm PassesOwn.leaving rfl (CT (d_v 0)) (by walk_at "e")
  (Ag (Ba (by walk_at "e")
  CN
  Bb)
  (Az (Ba (by walk_at "e")
  CN
  Bb))))))⟩)
theorem oJ{f:Addr}{fd:FuncData}(F:Fun K "__init__" "Thing.__init__" cz f fd):FnOk P w K mg base (CXR P w) 5 f fd ["self","triangle"] (spI K mg 1 objs H9):=by
 have c_check_before_eye:=tM T;have c_check_triangle:=fB T
 exact okI F dU (by decide) rfl (λcdv A outer s H E hr=>have hN:=dU.nd;⟨_,(Ip (by walk_at "e")
  (Ip (by walk_at "e")
  (Iw (Ss T) (d_v 1)
  Lp)))⟩)
def SN:CalS P w K mg base 5 "Thing" "__init__" 1 objs H9:=by
 walk_at "y"; refine' my (g ?_) ?_ ?_ ?_ ?_ (Cv ?_ ?_ ?_) (oJ T) (by walk_at "b");walk_at "q"
def Uz:Cal P w K mg base 1 "greatest_divisor" ["numbers"] Ht:=by
 exact cal1 (top 10) ["numbers","found","number","rest","left"] (by walk_at "D") (λhN f cdv A outer s H E hr=>⟨_,(Ag (by walk_at "e")
  (Ag (Hm PassesOwn.leaving rfl (CT (d_v 0)) (by walk_at "e")
  (Ag (by walk_at "e")
  (Az (cG PassesOwn.leaving (Tz hr (d_v 3) Ah)
  (by walk_at "e")))))
  (by walk_at "e")))⟩)
def SX:Cal P w K mg base 2 "is_fraction" ["thing"] Jj:=by
 have yat:=Rz T;have yae:=Uz T;exact cal1 (top 22) ["thing"] (by walk_at "D") (λhN f cdv A outer s H E hr=>⟨_,(by walk_at "e")⟩)
def Zt:Cal P w K mg base 3 "check_colour" ["colour"] M4:=by
 have yaj:=SX T
 exact cal1 (top 75) ["colour"] (by walk_at "D") (λhN f cdv A outer s H E hr=>⟨_,(Az (Ba (by walk_at "e")
  CN
  Bb))⟩)
theorem Zpc{f:Addr}{fd:FuncData}(F:Fun K "__init__" "Plain.__init__" bA f fd):FnOk P w K mg base (CXR P w) 7 f fd ["self","triangle","colour"] (spI K mg 2 objs HQ):=by
 have yak:=SN T;have yay:=Zt T
 exact okI F d8 (by decide) rfl (λcdv A outer s H E hr=>have hN:=d8.nd;⟨_,(SJ yak hr (by decide) rfl BK (λ_ h=>h) (Ae (d_v 1) Al)
  (Ip (by walk_at "e")
  (Iw (Vj T) (d_v 2)
  Lp)))⟩)
def Od:CalI P w K mg base 7 "Plain" 2 objs HQ:=by
 walk_at "y"; refine' Nb (g ?_) ?_ ?_ ?_ ?_ (Cv ?_ ?_ ?_) (Zpc T) (by walk_at "b") rfl;walk_at "q"
def VL:Cal P w K mg base 1 "_law_cell_at" ["_law_script","_law_k"] Ig:=by
 exact cal1 (top 148) ["_law_script","_law_k"] (by walk_at "D") (λhN f cdv A outer s H E hr=>⟨_,(by walk_at "e")⟩)
def dO:Cal P w K mg base 1 "_law_mixed" ["_law_cell","_law_k"] Ot:=by
 exact cal1 (top 149) ["_law_cell","_law_k","_law_number"] (by walk_at "D") (λhN f cdv A outer s H E hr=>⟨_,(by walk_at "e")⟩)
def QC:Cal P w K mg base 2 "_law_draws" ["_law_cell","_law_many"] Ia:=by
 have yaH:=dO T;exact cal1 (top 150) ["_law_cell","_law_many"] (by walk_at "D") (λhN f cdv A outer s H E hr=>⟨_,(Az (Bh (CJ (own:=["_law_k"]) (cap:=[("_law_cell",0)]) (by walk_at "e") (by walk_at "co") rfl (by walk_at "cg") (by walk_at "ct") (by walk_at "ce"))))⟩)
theorem w6{f:Addr}{fd:FuncData}(F:Fun K "word" "Plain.word" Ze f fd):FnOk P w K mg base (CXR P w) 1 f fd ["self"] (spD K mg 1 Ku):=by
 exact okM F Xn (λb A a s H E c=>have d:=Xn.nd;⟨_,(Az (Bh BR))⟩)
theorem uC{f:Addr}{fd:FuncData}(F:Fun K "word" "Shaded.word" XQ f fd):FnOk P w K mg base (CXR P w) 1 f fd ["self"] (spD K mg 1 Kv):=by
 exact okM F bF (λb A a s H E c=>have d:=bF.nd;⟨_,(Az (Bh BR))⟩)
theorem ZeQ{f:Addr}{fd:FuncData}(F:Fun K "word" "Patterned.word" YW f fd):FnOk P w K mg base (CXR P w) 1 f fd ["self"] (spD K mg 1 Kw):=by
 exact okM F az (λb A a s H E c=>have d:=az.nd;⟨_,(Az (Bh BR))⟩)
theorem oV{f:Addr}{fd:FuncData}(F:Fun K "word" "Glass.word" aA f fd):FnOk P w K mg base (CXR P w) 1 f fd ["self"] (spD K mg 1 Ly):=by
 exact okM F cY (λb A a s H E c=>have d:=cY.nd;⟨_,(Az (Bh BR))⟩)
def W7:Fi P w K mg base 1 0 "word" J9:=by
 walk_at "y"; refine' Fi.cons (Hy (g ?_) ⟨?_,?_,?_,?_⟩ ?_ ?_ (Cv ?_ ?_ ?_) (w6 T) (by walk_at "b") (by decide) rfl) (.cons (Hy (g ?_) ⟨?_,?_,?_,?_⟩ ?_ ?_ (Cv ?_ ?_ ?_) (uC T) (by walk_at "b") (by decide) rfl) (.cons (Hy (g ?_) ⟨?_,?_,?_,?_⟩ ?_ ?_ (Cv ?_ ?_ ?_) (ZeQ T) (by walk_at "b") (by decide) rfl) (.cons (Hy (g ?_) ⟨?_,?_,?_,?_⟩ ?_ ?_ (Cv ?_ ?_ ?_) (oV T) (by walk_at "b") (by decide) rfl) .nil)));walk_at "q"
def qR:Cal P w K mg base 3 "check_part" ["part"] Rc:=by
 have yaj:=SX T
 exact cal1 (top 76) ["part"] (by walk_at "D") (λhN f cdv A outer s H E hr=>⟨_,(Az (Ba (by walk_at "e")
  CN
  Bb))⟩)
theorem uO{f:Addr}{fd:FuncData}(F:Fun K "__init__" "Glass.__init__" aN f fd):FnOk P w K mg base (CXR P w) 7 f fd ["self","triangle","colour","part"] (spI K mg 3 objs H7):=by
 have yak:=SN T;have yay:=Zt T;have c_check_part:=qR T
 exact okI F Wi (by decide) rfl (λcdv A outer s H E hr=>have hN:=Wi.nd;⟨_,(SJ yak hr (by decide) rfl BK (λ_ h=>h) (Ae (d_v 1) Al)
  (Ip (by walk_at "e")
  (Ip (by walk_at "e")
  (Iw (Vj T) (d_v 2)
  (Iw (dW T) (d_v 3)
  Lp)))))⟩)
def Qk:CalI P w K mg base 7 "Glass" 3 objs H7:=by
 walk_at "y"; refine' Nb (g ?_) ?_ ?_ ?_ ?_ (Cv ?_ ?_ ?_) (uO T) (by walk_at "b") rfl;walk_at "q"
def o6:Cal P w K mg base 3 "check_pattern" ["pattern"] M8:=by
 have yaj:=SX T;obtain ⟨ga_COUNTS,go_COUNTS,gi_COUNTS,gn_COUNTS,yaI,yaJ,yaK,yaL,yaM,yaN⟩:=(iI T)
 exact cal1 (top 65) ["pattern","row"] (by walk_at "D") (λhN f cdv A outer s H E hr=>⟨_,(Ag (Ba (DW.dt (Il (by walk_at "e") (Jh (Va hr (by walk_at "e") (Xz (ns:=[1,2,4,8,16]) rfl yaI yaJ yaK yaL yaM yaN)))))
  CN
  Bb)
  (Az (Hm PassesOwn.leaving rfl (CT (d_v 0)) (by walk_at "e")
  (Ag (Ba (DW.dt (Il (by walk_at "e") (Jh (Va hr (by walk_at "e") (Xz (ns:=[1,2,4,8,16]) rfl yaI yaJ yaK yaL yaM yaN)))))
  CN
  Bb)
  (Ag (Ba (by walk_at "e")
  CN
  Bb)
  (Az (Ba (Km (IK (Ei (Ld rfl) MF rfl (MK T) Kz (Ae (CJ (own:=["entry"]) (cap:=[]) (CT (d_v 1)) (by walk_at "co") rfl (by walk_at "cg") (by walk_at "ct") (by walk_at "ce")) Al))))
  CN
  Bb)))))))⟩)
def YZ:Cal P w K mg base 1 "check_values" ["triangle","least"] O5:=by
 exact cal1 (top 74) ["triangle","least"] (by walk_at "D") (λhN f cdv A outer s H E hr=>⟨_,(Az (Ba (by walk_at "e")
  CN
  Bb))⟩)
def ZnK:Cal P w K mg base 1 "copied" ["pattern"] M3:=by
 exact cal1 (top 66) ["pattern"] (by walk_at "D") (λhN f cdv A outer s H E hr=>⟨_,(Az (Bh (CJ (own:=["row"]) (cap:=[]) (CT (d_v 0)) (by walk_at "co") rfl (by walk_at "cg") (by walk_at "ct") (by walk_at "ce"))))⟩)
theorem z9{f:Addr}{fd:FuncData}(F:Fun K "__init__" "Patterned.__init__" bT f fd):FnOk P w K mg base (CXR P w) 7 f fd ["self","triangle","pattern"] (spI K mg 2 objs Ii):=by
 have yak:=SN T;have c_check_pattern:=o6 T;have yaz:=YZ T;have c_copied:=ZnK T
 exact okI F bU (by decide) rfl (λcdv A outer s H E hr=>have hN:=bU.nd;⟨_,(SJ yak hr (by decide) rfl BK (λ_ h=>h) (Ae (d_v 1) Al)
  (Ip (by walk_at "e")
  (Ip (by walk_at "e")
  (Iw (cQ T) (by walk_at "e")
  Lp))))⟩)
def Pr:CalI P w K mg base 7 "Patterned" 2 objs Ii:=by
 walk_at "y"; refine' Nb (g ?_) ?_ ?_ ?_ ?_ (Cv ?_ ?_ ?_) (z9 T) (by walk_at "b") rfl;walk_at "q"
theorem Znp{f:Addr}{fd:FuncData}(F:Fun K "__init__" "Shaded.__init__" Wx f fd):FnOk P w K mg base (CXR P w) 7 f fd ["self","triangle"] (spI K mg 1 objs H8):=by
 have yak:=SN T;have yaz:=YZ T
 exact okI F XM (by decide) rfl (λcdv A outer s H E hr=>have hN:=XM.nd;⟨_,(SJ yak hr (by decide) rfl BK (λ_ h=>h) (Ae (d_v 1) Al)
  (Ip (by walk_at "e")
  Lp))⟩)
def RT:CalI P w K mg base 7 "Shaded" 1 objs H8:=by
 walk_at "y"; refine' Nb (g ?_) ?_ ?_ ?_ ?_ (Cv ?_ ?_ ?_) (Znp T) (by walk_at "b") rfl;walk_at "q"
def lK:Cal P w K mg base 9 "_law_like" ["_law_thing_here","_law_triangle"] Lw:=by
 have ci_Plain:=Od T;have cm_word:=W7 T;have ci_Glass:=Qk T;have ci_Patterned:=Pr T;have ci_Shaded:=RT T
 exact cal1 (top 158) ["_law_thing_here","_law_triangle"] (by walk_at "D") (λhN f cdv A outer s H E hr=>⟨_,(Ag (Ba (Eh hr (Qj cm_word hr (by decide) BK (d_v 0)) BR)
  (Az (Bh (Di ci_Glass hr (by decide) rfl BK (by walk_at "e"))))
  Bb)
  (Ag (Ba (Eh hr (Qj cm_word hr (by decide) BK (d_v 0)) BR)
  (Az (Bh (Di ci_Plain hr (by decide) rfl BK (by walk_at "e"))))
  Bb)
  (Ag (Ba (Eh hr (Qj cm_word hr (by decide) BK (d_v 0)) BR)
  (Az (Bh (Di ci_Shaded hr (by decide) rfl BK (Ae (d_v 1) Al))))
  Bb)
  (Az (Bh (Di ci_Patterned hr (by decide) rfl BK (by walk_at "e")))))))⟩)
def uw:Cal P w K mg base 3 "_law_spots" ["_law_cell"] Nm:=by
 have yaf:=QC T
 exact cal1 (top 156) ["_law_cell","_law_draws_here","_law_found","_law_more","_law_spot"] (by walk_at "D") (λhN f cdv A outer s H E hr=>⟨_,(Ag (by walk_at "e")
  (Ag (by walk_at "e")
  (Ag (Hm PassesOwn.leaving rfl (by walk_at "e") (by walk_at "e")
  (Ag (by walk_at "e")
  (Ag (by walk_at "e")
  (Az (Ba (ir 2 (by walk_at "e"))
  (by walk_at "e")
  Bb)))))
  (by walk_at "e"))))⟩)
def dM:Cal P w K mg base 2 "ratio" ["top","bottom"] Hw:=by
 have yae:=Uz T;exact cal1 (top 13) ["top","bottom","divisor"] (by walk_at "D") (λhN f cdv A outer s H E hr=>⟨_,(by walk_at "e")⟩)
def mD:Cal P w K mg base 3 "_law_pattern" ["_law_number","_law_more"] PP:=by
 have yaH:=dO T;have ya2:=dM T;exact cal1 (top 153) ["_law_number","_law_more","_law_rows","_law_columns","_law_found","_law_r","_law_line","_law_c","_law_one"] (by walk_at "D") (λhN f cdv A outer s H E hr=>⟨_,(by walk_at "e")⟩)
def ZhK:Cal P w K mg base 9 "_law_thing" ["_law_draws_here","_law_triangle"] RM:=by
 have ci_Plain:=Od T;have ci_Glass:=Qk T;have ci_Patterned:=Pr T;have ci_Shaded:=RT T;have ya2:=dM T;have c__law_pattern:=mD T
 exact cal1 (top 154) ["_law_draws_here","_law_triangle","_law_number","_law_top","_law_bottom","_law_more","_law_colour","_law_way","_law_few","_law_part"] (by walk_at "D") (λhN f cdv A outer s H E hr=>⟨_,(Ag (by walk_at "e")
  (Ag (by walk_at "e")
  (Ag (by walk_at "e")
  (Ag (by walk_at "e")
  (Ag (Ba (Eh hr (d_v 7) Ah)
  (Ag (by walk_at "e")
  (Az (Bh (Di ci_Shaded hr (by decide) rfl BK (Ae (DN JN Ju rfl (Ie T) Ij (Ae (CJ (own:=["_law_corner_here"]) (cap:=[("_law_few",8)]) (CT (d_v 1)) (by walk_at "co") rfl (by walk_at "cg") (by walk_at "ct") (by walk_at "ce")) Al)) Al)))))
  Bb)
  (Ag (Ba (Eh hr (d_v 7) Ah)
  (Az (Bh (Di ci_Patterned hr (by decide) rfl BK (by walk_at "e"))))
  Bb)
  (Ag (Ba (Eh hr (d_v 7) Ah)
  (Az (Bh (Di ci_Plain hr (by decide) rfl BK (by walk_at "e"))))
  Bb)
  (Ag (by walk_at "e")
  (Az (Bh (Di ci_Glass hr (by decide) rfl BK (by walk_at "e"))))))))))))⟩)
def Zg4:Cal P w K mg base 1 "_law_corner" ["_law_draws_here","_law_many"] Nt:=by
 exact cal1 (top 151) ["_law_draws_here","_law_many","_law_number","_law_more","_law_scale","_law_times","_law_x","_law_y","_law_w","_law_h","_law_values"] (by walk_at "D") (λhN f cdv A outer s H E hr=>⟨_,(Ag (by walk_at "e")
  (Ag (by walk_at "e")
  (Ag (by walk_at "e")
  (Ag (by walk_at "e")
  (Ag (by walk_at "e")
  (Ag (by walk_at "e")
  (Ag (by walk_at "e")
  (Ag (FW (i:=10) hN rfl (Or.inl rfl) (DN JN Ju rfl (Ie T) Ij (Ae (CJ (own:=["_law_j"]) (cap:=[("_law_draws_here",0)]) (by walk_at "e") (by walk_at "co") rfl (by walk_at "cg") (by walk_at "ct") (by walk_at "ce")) Al)))
  (Ag (Ba (by walk_at "e")
  (Ag (by walk_at "e")
  (Ag (by walk_at "e")
  (Ag (by walk_at "e")
  (Ag (by walk_at "e")
  (Az (FW (i:=10) hN rfl (Or.inl rfl) (DN JN Ju rfl (Ie T) Ij (Ae (CJ (own:=["_law_j"]) (cap:=[("_law_draws_here",0)]) (by walk_at "e") (by walk_at "co") rfl (by walk_at "cg") (by walk_at "ct") (by walk_at "ce")) Al))))))))
  Bb)
  (by walk_at "e"))))))))))⟩)
def zy:Cal P w K mg base 3 "_law_triangles" ["_law_script","_law_first","_law_most","_law_many"] Rw:=by
 have yah:=VL T;have yaf:=QC T;have c__law_corner:=Zg4 T
 exact cal1 (top 152) ["_law_script","_law_first","_law_most","_law_many","_law_size","_law_rows","_law_pool","_law_draws_here","_law_found","_law_k","_law_number","_law_one"] (by walk_at "D") (λhN f cdv A outer s H E hr=>⟨_,(Ag (by walk_at "e")
  (Ag (FW (i:=5) hN rfl (Or.inr rfl) (CJ (own:=["_law_k"]) (cap:=[("_law_size",4),("_law_script",0),("_law_first",1)]) (by walk_at "e") (by walk_at "co") rfl (by walk_at "cg") (by walk_at "ct") (by walk_at "ce")))
  (Ag (Ih (i:=6) hN rfl (Or.inl rfl) (own:=["_law_row"]) (cap:=[("_law_size",4),("_law_many",3)]) (CT (d_v 5)) (by walk_at "co") rfl (by walk_at "cg") (by walk_at "ct") (by walk_at "ce"))
  (Ag (by walk_at "e")
  (Ag (by walk_at "e")
  (Ag (Hm PassesOwn.leaving rfl (by walk_at "e") (by walk_at "e")
  (Ag (by walk_at "e")
  (Ag (by walk_at "e")
  (Ag (Ba (by walk_at "e")
  (Az (Ih (i:=11) hN rfl (Or.inl rfl) (own:=["_law_j"]) (cap:=[("_law_size",4),("_law_rows",5),("_law_many",3),("_law_k",9)]) (by walk_at "e") (by walk_at "co") rfl (by walk_at "cg") (by walk_at "ct") (by walk_at "ce")))
  Bb)
  (by walk_at "e")))))
  (by walk_at "e")))))))⟩)
def sE:Cal P w K mg base 10 "_law_things" ["_law_script","_law_first","_law_most"] Q5:=by
 have yah:=VL T;have yaf:=QC T;have c__law_thing:=ZhK T;have c__law_triangles:=zy T
 exact cal1 (top 155) ["_law_script","_law_first","_law_most","_law_draws_here","_law_found","_law_many","_law_k","_law_triangle"] (by walk_at "D") (λhN f cdv A outer s H E hr=>⟨_,(Ag (by walk_at "e")
  (Ag (by walk_at "e")
  (Ag (by walk_at "e")
  (Ag (Hm PassesOwn.leaving rfl (gZ rfl (mF T) (by walk_at "e")) (by walk_at "e")
  (by walk_at "e"))
  (by walk_at "e")))))⟩)
def pZ:Cal P w K mg base 1 "_law_word" ["_law_fraction"] Mu:=by
 exact cal1 (top 157) ["_law_fraction"] (by walk_at "D") (λhN f cdv A outer s H E hr=>⟨_,(by walk_at "e")⟩)
def dq:Cal P w K mg base 1 "check_text" ["text"] Nv:=by
 exact cal1 (top 93) ["text"] (by walk_at "D") (λhN f cdv A outer s H E hr=>⟨_,(Az (Ba (by walk_at "e")
  CN
  Bb))⟩)
def yd:Cal P w K mg base 1 "begun_at" ["three","place"] Jp:=by
 exact cal1 (top 122) ["three","place"] (by walk_at "D") (λhN f cdv A outer s H E hr=>⟨_,(by walk_at "e")⟩)
def nO:Cal P w K mg base 1 "form" ["wall","corner"] Rv:=by
 exact cal1 (top 120) ["wall","corner"] (by walk_at "D") (λhN f cdv A outer s H E hr=>⟨_,(by walk_at "e")⟩)
def Wr:Cal P w K mg base 1 "numbers_of" ["corner"] JS:=by
 exact cal1 (top 62) ["corner"] (by walk_at "D") (λhN f cdv A outer s H E hr=>⟨_,(by walk_at "e")⟩)
def rD:Cal P w K mg base 2 "mixed" ["one","other","first","second"] Sd:=by
 have yae:=Uz T;have yaO:=Wr T
 exact cal1 (top 61) ["one","other","first","second","sums","divisor","lowest"] (by walk_at "D") (λhN f cdv A outer s H E hr=>⟨_,(Ag (Ih (i:=4) hN rfl (Or.inl rfl) (own:=["a","b"]) (cap:=[("second",3),("first",2)]) (mU rfl (oR T) (by walk_at "e")) (by walk_at "co") rfl (λ_ _ _ _ _=>(Nr rfl (Ff (Ef (i:=0) (show List.Nodup (["a","b","second","first"]:List Str) by decide +kernel) rfl (Or.inl rfl) (by decide)) (Ff (Ef (i:=1) (show List.Nodup (["a","b","second","first"]:List Str) by decide +kernel) rfl (Or.inl rfl) (by decide)) OD)))) (by walk_at "ct") (by walk_at "ce"))
  (Ag (by walk_at "e")
  (Ag (Ih (i:=6) hN rfl (Or.inl rfl) (own:=["number"]) (cap:=[("divisor",5)]) (CT (d_v 4)) (by walk_at "co") rfl (by walk_at "cg") (by walk_at "ct") (λ_ _ _ _ _=>(Ng (d_v 0) (d_v 1))))
  (by walk_at "e"))))⟩)
def yN:Cal P w K mg base 3 "met" ["one","other","form_of_one","form_of_other"] PB:=by
 have c_mixed:=rD T;exact cal1 (top 124) ["one","other","form_of_one","form_of_other"] (by walk_at "D") (λhN f cdv A outer s H E hr=>⟨_,(by walk_at "e")⟩)
def nM:Cal P w K mg base 4 "parted" ["corners","forms"] Q7:=by
 have c_met:=yN T;exact cal1 (top 123) ["corners","forms","a","b","c","ab","ca"] (by walk_at "D") (λhN f cdv A outer s H E hr=>⟨_,(by walk_at "e")⟩)
def Xr:Cal P w K mg base 5 "cut" ["triangle","wall"] GJ:=by
 have c_begun_at:=yd T;have c_form:=nO T;have c_parted:=nM T
 exact cal1 (top 121) ["triangle","wall","forms","are_within","alone_is_within","place","pieces"] (by walk_at "D") (λhN f cdv A outer s H E hr=>⟨_,(Ag (Ih (i:=2) hN rfl (Or.inl rfl) (own:=["corner"]) (cap:=[("wall",1)]) (CT (d_v 0)) (by walk_at "co") rfl (by walk_at "cg") (by walk_at "ct") (by walk_at "ce"))
  (Ag (Ih (i:=3) hN rfl (Or.inl rfl) (own:=["number"]) (cap:=[]) (CT (d_v 2)) (by walk_at "co") rfl (by walk_at "cg") (by walk_at "ct") (λ_ _ _ _ _=>(Zi (d_v 0) Ah)))
  (Ag (by walk_at "e")
  (Ag (by walk_at "e")
  (Ag (FW (i:=4) hN rfl (Or.inl rfl) (eF hr (fX hr (d_v 3) JH) Ah))
  (Ag (FW (i:=5) hN rfl (Or.inl rfl) (vg hr (d_v 3) (d_v 4)))
  (by walk_at "e")))))))⟩)
theorem uQ{f:Addr}{fd:FuncData}(F:Fun K "like" "Plain.like" Wz f fd):FnOk P w K mg base (CXR P w) 9 f fd ["self","triangle"] (spD K mg 2 R6):=by
 have ci_Plain:=Od T;exact okM F Yn (λcdv A outer s H E hr=>have hN:=Yn.nd;⟨_,(Az (Bh (Di ci_Plain hr (by decide) rfl BK (by walk_at "e"))))⟩)
theorem jG{f:Addr}{fd:FuncData}(F:Fun K "like" "Shaded.like" XD f fd):FnOk P w K mg base (CXR P w) 9 f fd ["self","triangle"] (spD K mg 2 Q9):=by
 have a:=RT T;exact okM F Yb (λd A b s H E c=>have e:=Yb.nd;⟨_,(Az (Bh (Di a c (by decide) rfl BK (Ae (d_v 1) Al))))⟩)
theorem lH{f:Addr}{fd:FuncData}(F:Fun K "like" "Patterned.like" YG f fd):FnOk P w K mg base (CXR P w) 9 f fd ["self","triangle"] (spD K mg 2 RD):=by
 have ci_Patterned:=Pr T;exact okM F Zc (λcdv A outer s H E hr=>have hN:=Zc.nd;⟨_,(Az (Bh (Di ci_Patterned hr (by decide) rfl BK (by walk_at "e"))))⟩)
theorem mZ{f:Addr}{fd:FuncData}(F:Fun K "like" "Glass.like" eO f fd):FnOk P w K mg base (CXR P w) 9 f fd ["self","triangle"] (spD K mg 2 RV):=by
 have ci_Glass:=Qk T;exact okM F b7 (λcdv A outer s H E hr=>have hN:=b7.nd;⟨_,(Az (Bh (Di ci_Glass hr (by decide) rfl BK (by walk_at "e"))))⟩)
def sy:Fi P w K mg base 9 1 "like" Rn:=by
 walk_at "y"; refine' Fi.cons (Hy (g ?_) ⟨?_,?_,?_,?_⟩ ?_ ?_ (Cv ?_ ?_ ?_) (uQ T) (by walk_at "b") (by decide) rfl) (.cons (Hy (g ?_) ⟨?_,?_,?_,?_⟩ ?_ ?_ (Cv ?_ ?_ ?_) (jG T) (by walk_at "b") (by decide) rfl) (.cons (Hy (g ?_) ⟨?_,?_,?_,?_⟩ ?_ ?_ (Cv ?_ ?_ ?_) (lH T) (by walk_at "b") (by decide) rfl) (.cons (Hy (g ?_) ⟨?_,?_,?_,?_⟩ ?_ ?_ (Cv ?_ ?_ ?_) (mZ T) (by walk_at "b") (by decide) rfl) .nil)));walk_at "q"
def Ud:Cal P w K mg base 2 "is_between" ["thing","least","most"] JG:=by
 have yat:=Rz T;exact cal1 (top 9) ["thing","least","most"] (by walk_at "D") (λhN f cdv A outer s H E hr=>⟨_,(by walk_at "e")⟩)
def WY:Cal P w K mg base 3 "check_number" ["number","least","most"] Oh:=by
 have yag:=Ud T
 exact cal1 (top 133) ["number","least","most"] (by walk_at "D") (λhN f cdv A outer s H E hr=>⟨_,(Az (Ba (by walk_at "e")
  CN
  Bb))⟩)
def XJ:Cal P w K mg base 1 "words_behind" ["head","row"] Np:=by
 exact cal1 (top 85) ["head","row","words"] (by walk_at "D") (λhN f cdv A outer s H E hr=>⟨_,(Ag (FW (i:=2) hN rfl (Or.inl rfl) (Df PySem.F.slot_str_split PySem.F.type_str_split Ml KR (d_v 1) BR))
  (Ag (Ba (by walk_at "e")
  CN
  Bb)
  (by walk_at "e")))⟩)
def V8:Cal P w K mg base 2 "just_words_behind" ["head","row","count"] Lg:=by
 have yaA:=XJ T
 exact cal1 (top 86) ["head","row","count","words"] (by walk_at "D") (λhN f cdv A outer s H E hr=>⟨_,(Ag (by walk_at "e")
  (Ag (Ba (by walk_at "e")
  CN
  Bb)
  (by walk_at "e")))⟩)
def m5:Cal P w K mg base 1 "are_figures" ["word"] Oa:=by
 obtain ⟨tk_FIGURES,Vr⟩:=(Vr T);obtain ⟨tk_MOST_FIGURES,Ui⟩:=(Ui T)
 exact cal1 (top 83) ["word"] (by walk_at "D") (λhN f cdv A outer s H E hr=>⟨_,(Ag (Ba (DW.dt (Il (Eh hr (d_v 0) BR) (Jh (Nq (by walk_at "e") (PJ rfl Ui)))))
  (Az (Bh JH))
  Bb)
  (Ag (Ba (DW.dt (SM (IK (Df PySem.F.slot_str_startswith PySem.F.type_str_startswith Xp eG (d_v 0) BR)) (by walk_at "e")))
  (Az (Bh JH))
  Bb)
  (Az (Bh (Ei (Ld rfl) MF rfl (MK T) Kz (Ae (CJ (own:=["sign"]) (cap:=[]) (ZvL (d_v 0)) (by walk_at "co") rfl (by walk_at "cg") (by walk_at "ct") (λ_ _ _ _ _=>(tK (d_v 0) (tU rfl Vr)))) Al))))))⟩)
def Qm:Cal P w K mg base 2 "read_number" ["word"] G8:=by
 have c_are_figures:=m5 T
 exact cal1 (top 82) ["word","figures"] (by walk_at "D") (λhN f cdv A outer s H E hr=>⟨_,(Ag (FW (i:=1) hN rfl (Or.inl rfl) (Wj (IK (Df PySem.F.slot_str_startswith PySem.F.type_str_startswith Xp eG (d_v 0) BR)) (vA (d_v 0) (HH Ah) Je) (d_v 0)))
  (Ag (Ba (by walk_at "e")
  CN
  Bb)
  (by walk_at "e")))⟩)
def VJ:Cal P w K mg base 3 "numbers_behind" ["head","row","count"] Jg:=by
 have yad:=V8 T;have yal:=Qm T;exact cal1 (top 87) ["head","row","count"] (by walk_at "D") (λhN f cdv A outer s H E hr=>⟨_,(Az (Bh (CJ (own:=["word"]) (cap:=[]) (by walk_at "e") (by walk_at "co") rfl (by walk_at "cg") (by walk_at "ct") (by walk_at "ce"))))⟩)
def Vd:Cal P w K mg base 1 "with_things" ["scene","things"] KC:=by
 exact cal1 (top 129) ["scene","things"] (by walk_at "D") (λhN f cdv A outer s H E hr=>⟨_,(by walk_at "e")⟩)
def jO:Cal P w K mg base 10 "cut_near" ["scene","row"] O2:=by
 have ya6:=Xr T;have cm_like:=sy T;have yaB:=WY T;have yan:=VJ T;have yas:=Vd T
 exact cal1 (top 132) ["scene","row","numbers","number","wall","things","thing"] (by walk_at "D") (λhN f cdv A outer s H E hr=>⟨_,(Ag (by walk_at "e")
  (Ag (by walk_at "e")
  (Ag (by walk_at "e")
  (Ag (by walk_at "e")
  (Ag (Hm PassesOwn.leaving rfl (by walk_at "e") (by walk_at "e")
  (Az (xf 5 (CJ (own:=["piece"]) (cap:=[("thing",6)]) (by walk_at "e") (by walk_at "co") rfl (by walk_at "cg") (by walk_at "ct") (λ_ _ _ _ _=>(ZqW cm_like hr (by decide) (d_v 1) (Ae (d_v 0) Al)))))))
  (by walk_at "e"))))))⟩)
def Pu:Cal P w K mg base 1 "number_word" ["number"] GP:=by
 exact cal1 (top 80) ["number","pieces","rest"] (by walk_at "D") (λhN f cdv A outer s H E hr=>⟨_,(Ag (by walk_at "e")
  (Ag (by walk_at "e")
  (Ag (cG PassesOwn.leaving (by walk_at "e")
  CN)
  (Ag (by walk_at "e")
  (Ag (by walk_at "e")
  (Az (Bh (oE 1 rfl rfl (ud T)))))))))⟩)
def fD:Cal P w K mg base 2 "corner_text" ["corner"] Qg:=by
 have yaO:=Wr T;have yam:=Pu T;exact cal1 (top 91) ["corner"] (by walk_at "D") (λhN f cdv A outer s H E hr=>⟨_,(Az (Bh (Df PySem.F.slot_str_join PySem.F.type_str_join HS HR BR (Bu (by walk_at "e") (CJ (own:=["number"]) (cap:=[]) (by walk_at "e") (by walk_at "co") rfl (by walk_at "cg") (by walk_at "ct") (by walk_at "ce"))))))⟩)
def U9:Cal P w K mg base 2 "fraction_word" ["fraction"] Hv:=by
 have yam:=Pu T;exact cal1 (top 81) ["fraction"] (by walk_at "D") (λhN f cdv A outer s H E hr=>⟨_,(by walk_at "e")⟩)
def jB:Cal P w K mg base 3 "pattern_word" ["pattern"] Qd:=by
 have yao:=U9 T;exact cal1 (top 90) ["pattern"] (by walk_at "D") (λhN f cdv A outer s H E hr=>⟨_,(Az (Bh (Df PySem.F.slot_str_join PySem.F.type_str_join HS HR BR (CJ (own:=["row"]) (cap:=[]) (CT (d_v 0)) (by walk_at "co") rfl (by walk_at "cg") (by walk_at "ct") (λ_ _ _ _ _=>(Df PySem.F.slot_str_join PySem.F.type_str_join HS HR BR (CJ (own:=["entry"]) (cap:=[]) (CT (d_v 0)) (by walk_at "co") rfl (by walk_at "cg") (by walk_at "ct") (by walk_at "ce"))))))))⟩)
def Zh3:Cal P w K mg base 4 "head_words" ["thing"] Rg:=by
 have cm_word:=W7 T;have yao:=U9 T;have c_pattern_word:=jB T
 exact cal1 (top 89) ["thing","word"] (by walk_at "D") (λhN f cdv A outer s H E hr=>⟨_,(Ag (FW (i:=1) hN rfl (Or.inl rfl) (Qj cm_word hr (by decide) BK (d_v 0)))
  (by walk_at "e"))⟩)
def bW:Cal P w K mg base 5 "thing_text" ["thing"] Hc:=by
 have c_corner_text:=fD T;have c_head_words:=Zh3 T;exact cal1 (top 88) ["thing"] (by walk_at "D") (λhN f cdv A outer s H E hr=>⟨_,(Az (Bh (Df PySem.F.slot_str_join PySem.F.type_str_join HS HR BR (Bu (by walk_at "e") (CJ (own:=["corner"]) (cap:=[]) (by walk_at "e") (by walk_at "co") rfl (by walk_at "cg") (by walk_at "ct") (by walk_at "ce"))))))⟩)
def Zix:Cal P w K mg base 2 "pair_word" ["pair"] Vn:=by
 have yam:=Pu T;exact cal1 (top 99) ["pair"] (by walk_at "D") (λhN f cdv A outer s H E hr=>⟨_,(by walk_at "e")⟩)
def ZC:Cal P w K mg base 6 "scene_text" ["scene"] Io:=by
 have yam:=Pu T;have yao:=U9 T;have c_pair_word:=Zix T;have yau:=bW T
 exact cal1 (top 98) ["scene","rows"] (by walk_at "D") (λhN f cdv A outer s H E hr=>⟨_,(Ag (FW (i:=1) hN rfl (Or.inl rfl) (Ga (Ae (Df PySem.F.slot_str_join PySem.F.type_str_join HS HR BR (by walk_at "e")) (Ae (Df PySem.F.slot_str_join PySem.F.type_str_join HS HR BR (by walk_at "e")) (Ae (Df PySem.F.slot_str_join PySem.F.type_str_join HS HR BR (Bu (by walk_at "e") (CJ (own:=["spot"]) (cap:=[]) (by walk_at "e") (by walk_at "co") rfl (by walk_at "cg") (by walk_at "ct") (by walk_at "ce")))) Al)))))
  (Az (Bh (Df PySem.F.slot_str_join PySem.F.type_str_join HS HR BR (Bu (d_v 1) (CJ (own:=["thing"]) (cap:=[]) (by walk_at "e") (by walk_at "co") rfl (by walk_at "cg") (by walk_at "ct") (by walk_at "ce")))))))⟩)
def rC:Cal P w K mg base 7 "shown" ["scene","row"] R9:=by
 have yad:=V8 T;have yav:=ZC T;exact cal1 (top 135) ["scene","row"] (by walk_at "D") (λhN f cdv A outer s H E hr=>⟨_,(by walk_at "e")⟩)
def mj:Cal P w K mg base 3 "check_floor" ["width","height"] Rt:=by
 have yag:=Ud T;obtain ⟨tk_MOST_CELLS,Qp⟩:=(Qp T)
 exact cal1 (top 39) ["width","height"] (by walk_at "D") (λhN f cdv A outer s H E hr=>⟨_,(Az (Ba (DW.dt (Il (Km (IK (Ey yag hr (by decide) rfl BK (Ae (d_v 0) (Ae Ah (Ae (PJ rfl Qp) Al)))))) (Jh (Km (IK (Ey yag hr (by decide) rfl BK (Ae (d_v 1) (Ae Ah (Ae (PJ rfl Qp) Al)))))))))
  CN
  Bb))⟩)
def ZhO:Cal P w K mg base 4 "read_floor" ["row"] Qx:=by
 have yan:=VJ T;have c_check_floor:=mj T;exact cal1 (top 100) ["row","size"] (by walk_at "D") (λhN f cdv A outer s H E hr=>⟨_,(by walk_at "e")⟩)
def ZhZ:Cal P w K mg base 5 "with_floor" ["scene","row"] Qe:=by
 have c_read_floor:=ZhO T;exact cal1 (top 126) ["scene","row","size"] (by walk_at "D") (λhN f cdv A outer s H E hr=>⟨_,(by walk_at "e")⟩)
def TX:Cal P w K mg base 3 "read_fraction" ["word"] Iz:=by
 have yaj:=SX T;have yal:=Qm T
 exact cal1 (top 84) ["word","pieces","fraction"] (by walk_at "D") (λhN f cdv A outer s H E hr=>⟨_,(Ag (Ba (fW BR (d_v 0))
  (by walk_at "e")
  Bb)
  (Ag (FW (i:=1) hN rfl (Or.inl rfl) (Df PySem.F.slot_str_partition PySem.F.type_str_partition yc lB (d_v 0) BR))
  (Ag (by walk_at "e")
  (Ag (Ba (by walk_at "e")
  CN
  Bb)
  (by walk_at "e")))))⟩)
def zM:Cal P w K mg base 4 "read_ground" ["row"] Pj:=by
 have yad:=V8 T;have yap:=TX T;exact cal1 (top 101) ["row"] (by walk_at "D") (λhN f cdv A outer s H E hr=>⟨_,(by walk_at "e")⟩)
def ZgZ:Cal P w K mg base 5 "with_ground" ["scene","row"] Qq:=by
 have c_read_ground:=zM T;exact cal1 (top 127) ["scene","row"] (by walk_at "D") (λhN f cdv A outer s H E hr=>⟨_,(by walk_at "e")⟩)
def jh:Cal P w K mg base 3 "is_spot" ["thing"] Rh:=by
 have yag:=Ud T;exact cal1 (top 41) ["thing"] (by walk_at "D") (λhN f cdv A outer s H E hr=>⟨_,(by walk_at "e")⟩)
def vK:Cal P w K mg base 4 "check_spots" ["spots"] R1:=by
 have c_is_spot:=jh T;obtain ⟨tk_MOST_SPOTS,Vi⟩:=(Vi T)
 exact cal1 (top 40) ["spots"] (by walk_at "D") (λhN f cdv A outer s H E hr=>⟨_,(Ag (Ba (DW.dt (Il (by walk_at "e") (Il (by walk_at "e") (Jh (Nq (by walk_at "e") (PJ rfl Vi))))))
  CN
  Bb)
  (Ag (Ba (Km (IK (Ei (Ld rfl) MF rfl (MK T) Kz (Ae (CJ (own:=["spot"]) (cap:=[]) (CT (d_v 0)) (by walk_at "co") rfl (by walk_at "cg") (by walk_at "ct") (by walk_at "ce")) Al))))
  CN
  Bb)
  (Az (Ba (Tz hr (qT hr rfl (Jf T) rfl (yt T) (d_v 0)) (by walk_at "e"))
  CN
  Bb))))⟩)
def kY:Cal P w K mg base 3 "read_spot" ["word"] Vp:=by
 have yal:=Qm T;exact cal1 (top 103) ["word"] (by walk_at "D") (λhN f cdv A outer s H E hr=>⟨_,(Az (Bh (DN JN Ju rfl (Ie T) Ij (Ae (CJ (own:=["number"]) (cap:=[]) (CT (Df PySem.F.slot_str_split PySem.F.type_str_split Ml KR (d_v 0) BR)) (by walk_at "co") rfl (by walk_at "cg") (by walk_at "ct") (by walk_at "ce")) Al))))⟩)
def vV:Cal P w K mg base 5 "read_spots" ["row"] Sg:=by
 have yaA:=XJ T;have c_check_spots:=vK T;have c_read_spot:=kY T
 exact cal1 (top 102) ["row","spots"] (by walk_at "D") (λhN f cdv A outer s H E hr=>⟨_,(Ag (Ih (i:=1) hN rfl (Or.inl rfl) (own:=["word"]) (cap:=[]) (by walk_at "e") (by walk_at "co") rfl (by walk_at "cg") (by walk_at "ct") (by walk_at "ce"))
  (by walk_at "e"))⟩)
def jm:Cal P w K mg base 6 "with_spots" ["scene","row"] RP:=by
 have c_read_spots:=vV T;exact cal1 (top 128) ["scene","row"] (by walk_at "D") (λhN f cdv A outer s H E hr=>⟨_,(by walk_at "e")⟩)
def ZiT:Cal P w K mg base 1 "groups_of" ["words"] Q0:=by
 exact cal1 (top 94) ["words","groups","word"] (by walk_at "D") (λhN f cdv A outer s H E hr=>⟨_,(zr (i:=1) (j:=2) (k:=0) hN PassesOwn.leaving rfl (by decide) (by decide) rfl (Or.inl rfl) rfl (Or.inl rfl) rfl (Eh hr (d_v 2) BR))⟩)
def uX:Cal P w K mg base 3 "read_corner" ["words"] QX:=by
 have yal:=Qm T
 exact cal1 (top 95) ["words","numbers"] (by walk_at "D") (λhN f cdv A outer s H E hr=>⟨_,(Ag (Ba (by walk_at "e")
  CN
  Bb)
  (Ag (Ih (i:=1) hN rfl (Or.inl rfl) (own:=["word"]) (cap:=[]) (CT (d_v 0)) (by walk_at "co") rfl (by walk_at "cg") (by walk_at "ct") (by walk_at "ce"))
  (by walk_at "e")))⟩)
def rN:Cal P w K mg base 4 "read_pattern" ["word"] Qy:=by
 have yap:=TX T;exact cal1 (top 97) ["word"] (by walk_at "D") (λhN f cdv A outer s H E hr=>⟨_,(Az (Bh (CJ (own:=["row"]) (cap:=[]) (CT (Df PySem.F.slot_str_split PySem.F.type_str_split Ml KR (d_v 0) BR)) (by walk_at "co") rfl (by walk_at "cg") (by walk_at "ct") (λ_ _ _ _ _=>(CJ (own:=["entry"]) (cap:=[]) (CT (Df PySem.F.slot_str_split PySem.F.type_str_split Ml KR (d_v 0) BR)) (by walk_at "co") rfl (by walk_at "cg") (by walk_at "ct") (by walk_at "ce"))))))⟩)
def qQ:Cal P w K mg base 9 "thing_of" ["head","triangle"] Pq:=by
 have ci_Plain:=Od T;have ci_Glass:=Qk T;have ci_Patterned:=Pr T;have ci_Shaded:=RT T;have yap:=TX T;have c_read_pattern:=rN T
 exact cal1 (top 96) ["head","triangle"] (by walk_at "D") (λhN f cdv A outer s H E hr=>⟨_,(Ag (Ba (by walk_at "e")
  (Az (Bh (Di ci_Plain hr (by decide) rfl BK (by walk_at "e"))))
  Bb)
  (Ag (Ba (by walk_at "e")
  (Az (Bh (Di ci_Shaded hr (by decide) rfl BK (Ae (d_v 1) Al))))
  Bb)
  (Ag (Ba (by walk_at "e")
  (Az (Bh (Di ci_Patterned hr (by decide) rfl BK (by walk_at "e"))))
  Bb)
  (Ag (Ba (by walk_at "e")
  (Az (Bh (Di ci_Glass hr (by decide) rfl BK (by walk_at "e"))))
  Bb)
  CN))))⟩)
def vy:Cal P w K mg base 10 "read_thing" ["row"] Mv:=by
 have yaw:=dq T;have yaU:=ZiT T;have c_read_corner:=uX T;have yaY:=qQ T
 exact cal1 (top 92) ["row","groups"] (by walk_at "D") (λhN f cdv A outer s H E hr=>⟨_,(Ag (by walk_at "e")
  (Ag (FW (i:=1) hN rfl (Or.inl rfl) (Ey yaU hr (by decide) rfl BK (Ae (Df PySem.F.slot_str_split PySem.F.type_str_split Ml KR (d_v 0) BR) Al)))
  (Ag (Ba (by walk_at "e")
  CN
  Bb)
  (Az (Bh (Ey yaY hr (by decide) rfl BK (Ae (Gp (d_v 1) Ah) (Ae (DN JN Ju rfl (Ie T) Ij (Ae (CJ (own:=["words"]) (cap:=[]) (by walk_at "e") (by walk_at "co") rfl (by walk_at "cg") (by walk_at "ct") (by walk_at "ce")) Al)) Al))))))))⟩)
def iM:Cal P w K mg base 11 "with_thing" ["scene","row"] JW:=by
 have yas:=Vd T;have c_read_thing:=vy T;exact cal1 (top 130) ["scene","row"] (by walk_at "D") (λhN f cdv A outer s H E hr=>⟨_,(by walk_at "e")⟩)
def jr:Cal P w K mg base 4 "without_thing" ["scene","row"] OJ:=by
 have yaB:=WY T;have yan:=VJ T;have yas:=Vd T;exact cal1 (top 131) ["scene","row","number"] (by walk_at "D") (λhN f cdv A outer s H E hr=>⟨_,(by walk_at "e")⟩)
def zZ:mg "max"=none:=by walk_at "z"
def XC:mg "ASKED"=some (.ref 1003):=by walk_at "z"
def uz:mg "shown"=some (.ref 953):=by walk_at "z"
def Ww:TabF P w K 1003 mJ:=by
 walk_at "y"; refine' tab_of Za ?_ rfl (by decide);walk_at "q"
def Xl:mg "TOLD"=some (.ref 1002):=by walk_at "z"
def il:mg "with_floor"=some (.ref 892):=by walk_at "z"
def vP:mg "with_ground"=some (.ref 899):=by walk_at "z"
def tL:mg "with_spots"=some (.ref 906):=by walk_at "z"
def lu:mg "without_thing"=some (.ref 927):=by walk_at "z"
def jn:mg "cut_near"=some (.ref 932):=by walk_at "z"
def YS:TabF P w K 1002 xj:=by
 walk_at "y"; refine' tab_of XS ?_ rfl (by decide);walk_at "q"
def Kf:Ca K mg Hg "scene":=by walk_at "fl"
def uv:Ca K mg Hg "kept":=by walk_at "fl"
def Tt:Ca K mg Hg "answered":=by walk_at "fl"
theorem zO{f:Addr}{fd:FuncData}(F:Fun K "__init__" "Desk.__init__" cW f fd):FnOk P w K mg base (CXR P w) 1 f fd ["self"] (spI K mg 0 Hg QR) :=
 okI F Ws (by decide) rfl (λb A a s H E c=>have d:=Ws.nd;⟨_,(Iw (Kf T) (Dr (Ae Ah (Ae Ah (Ae (Dr (Ae Ah (Ae Ah Al))) (Ae (Ga (Ae (Dr (Ae Ah (Ae Ah Al))) Al)) (Ae (Ga Al) Al))))))
  (Iw (uv T) bj
  (Iw (Tt T) Ah
  Lp)))⟩)
def cM:CalI P w K mg base 1 "Desk" 0 Hg QR:=by
 walk_at "y"; refine' Nb (g ?_) ?_ ?_ ?_ ?_ (Cv ?_ ?_ ?_) (zO T) (by walk_at "b") rfl;walk_at "q"
theorem yF{f:Addr}{fd:FuncData}(F:Fun K "answer_to" "Desk.answer_to" Xx f fd):FnOk P w K mg base (CXR P w) 12 f fd ["self","row"] (spO2 K mg 1 Hg Do):=by
 have b:=dq T;have c:=jO T;have d:=rC T;have e:=ZhZ T;have n:=ZgZ T;have l:=jm T;have h:=iM T;have g:=jr T
 exact okO2 F UV (by decide) rfl (λo A m s H E a=>have p:=UV.nd;⟨_,(ZR (Ge (WW (Ey b a (by decide) rfl BK (Ae (d_v 1) Al))) o8)
  (ZR (MN (j:=2) UV.nd rfl (Or.inl rfl) (by decide) (Gp (Df PySem.F.slot_str_split PySem.F.type_str_split Ml KR (d_v 1) BR) Ah))
  (Xw (bG (i:=2) (Ww T) rfl (XC T) rfl)
  (Uc (Wo (k:=10) (i:=2) (tab:=Vy) (Ww T) rfl (XC T) (TbOk.cons (by kernel_rfl) (Lb d (uz T) rfl (by decide)) .nil) a (by decide) BK (Jr (Qc (Kf T)) (Jr (Jb (d_v 1)) QJ))))
  (Xw (Eh a (d_v 2) BR)
  tQ
  (sG (Zn (Eh a (d_v 2) BR)
  mK
  (T9 (Zn (bG (i:=2) (YS T) rfl (Xl T) rfl)
  (T9 (Y5 (Kf T) (Wo (k:=10) (i:=2) (tab:=Py) (YS T) rfl (Xl T) (TbOk.cons (by kernel_rfl) (Lb e (il T) rfl (by decide)) (TbOk.cons (by kernel_rfl) (Lb n (vP T) rfl (by decide)) (TbOk.cons (by kernel_rfl) (Lb l (tL T) rfl (by decide)) (TbOk.cons (by kernel_rfl) (Lb g (lu T) rfl (by decide)) (TbOk.cons (by kernel_rfl) (Lb c (jn T) rfl (by decide)) .nil))))) a (by decide) BK (Jr (Qc (Kf T)) (Jr (Jb (d_v 1)) QJ)))))
  (T9 (Y5 (Kf T) (gY h a (by decide) rfl BK (Jr (Qc (Kf T)) (Jr (Jb (d_v 1)) QJ))))))))
  (Uc (Jb BR)))))))⟩)
def m6:∀C,mg "Desk"=some (.ref C)->Cls K C/\∃g fd ps,Meth K C "answer_to" g/\FnOk P w K mg base (CXR P w) 12 g fd ps (spO2 K mg 1 Hg Do)/\Binds K fd ps []:=by
 walk_at "y"; refine' YX (g ?_) ⟨?_,?_,?_,?_⟩ ?_ ?_ (Cv ?_ ?_ ?_) (yF T) (by walk_at "b");walk_at "q"
theorem ZvR{f:Addr}{fd:FuncData}(F:Fun K "say" "Desk.say" YM f fd):FnOk P w K mg base (CXR P w) 13 f fd ["self","row"] (spO2 K mg 1 Hg GZ):=by
 obtain ⟨C,_,_,_,e,_⟩:=(cM T).ex;obtain ⟨d,_,_,_,b,a,c⟩:=m6 T C e
 exact okO2 F S7 (by decide) rfl (λi A g s H E h=>have k:=S7.nd;⟨_,(km (j:=2) rfl e d b a c h (by decide) (Jr (Jb (d_v 1)) QJ)
  (jk (Tt T) (iY (Qc (Tt T)) (Jb Ah))
  (Uc (Jb (d_v 2)))) S7.nd rfl (Or.inl rfl) rfl (Or.inl rfl))⟩)
def wC:∀C,mg "Desk"=some (.ref C)->Cls K C/\∃g fd ps,Meth K C "say" g/\FnOk P w K mg base (CXR P w) 13 g fd ps (spO2 K mg 1 Hg GZ)/\Binds K fd ps []:=by
 walk_at "y"; refine' YX (g ?_) ⟨?_,?_,?_,?_⟩ ?_ ?_ (Cv ?_ ?_ ?_) (ZvR T) (by walk_at "b");walk_at "q"
def tO:Ua P w K mg base 10 "_law_told" 3 Qh:=by
 have yaV:=lK T;have yaS:=uw T;have yaW:=pZ T;have ya6:=Xr T;have yau:=bW T
 exact xu (ps:=["_law_state","_law_way","_law_number","_law_thing_here"]) (top 159) ["_law_state","_law_way","_law_number","_law_thing_here","_law_width","_law_height","_law_ground","_law_spots_here","_law_things_here","_law_cuts","_law_at","_law_top","_law_bottom","_law_found","_law_one"] (by walk_at "D") (by decide) rfl (λhN f cdv A outer s H E hr=>⟨_,(Ez (Ge (xU (n:=1000) (i:=0) rfl (Ff (Ef (i:=4) hN rfl (Or.inl rfl) (by decide)) (Ff (Ef (i:=5) hN rfl (Or.inl rfl) (by decide)) (Ff (Ef (i:=6) hN rfl (Or.inl rfl) (by decide)) (Ff (Ef (i:=7) hN rfl (Or.inl rfl) (by decide)) (Ff (Ef (i:=8) hN rfl (Or.inl rfl) (by decide)) (Ff (Ef (i:=9) hN rfl (Or.inl rfl) (by decide)) OD))))))) (X8 (Xh (Ho (HX (by decide)) (Ho (HX (by decide)) (Ho (HX (by decide)) (Ho (HX (by decide)) (Ho (HX (by decide)) (Ho (HX (by decide)) Yz)))))))))
  (Kl (Eh hr (d_v 1) Ah)
  (Ez (Ge (HD (i:=0) (Bu Ah (Fv (d_v 2) Ah)) Ah) Hi)
  (Ez (Ge (HD (i:=0) (Bu Ah (Fv (Ng (d_v 2) Ah) Ah)) Ah) Hi)
  (Ji (SQ 0 (Bu (Bu (Bu BR (DN JF Hs rfl (Hk T) Hf (Ae (Gp (d_v 0) Ah) Al))) BR) (DN JF Hs rfl (Hk T) Hf (Ae (Gp (d_v 0) Ah) Al)))))))
  (Kl (Eh hr (d_v 1) Ah)
  (Ez (Ge (HD (i:=0) (Gp (Ga (Ae (Dr (Ae (Tf (Fv (d_v 2) Ah) Ah) (Ae Ah Al))) (Ae (Dr (Ae (Bu (aq Ah (Fv (d_v 2) Ah)) Ah) (Ae Ah Al))) Al))) (Fv (Ng (d_v 2) Ah) Ah)) Ah) Hi)
  (Ji (SQ 0 (Bu BR (Ey yaW hr (by decide) rfl BK (Ae (Gp (d_v 0) Ah) Al))))))
  (Kl (Eh hr (d_v 1) Ah)
  (Ez (Ge (HD (i:=0) (J3 (Ey yaS hr (by decide) rfl BK (Ae (d_v 2) Al)) Je (HH Ah)) Ah) Hi)
  (Ji (SQ 0 (Bu BR (Df PySem.F.slot_str_join PySem.F.type_str_join HS HR BR (CJ (own:=["_law_dx","_law_dy"]) (cap:=[]) (CT (Gp (d_v 0) Ah)) (Gd.of rfl rfl (by kernel_rfl) rfl trivial trivial) rfl (λ_ _ _ _ _=>(Nr rfl (Ff (Ef (i:=0) (show List.Nodup (["_law_dx","_law_dy"]:List Str) by decide +kernel) rfl (Or.inl rfl) (by decide)) (Ff (Ef (i:=1) (show List.Nodup (["_law_dx","_law_dy"]:List Str) by decide +kernel) rfl (Or.inl rfl) (by decide)) OD)))) (λ_ _ _ _ _=>V2) (λ_ _ _ _ _=>(Bu (Bu (DN JF Hs rfl (Hk T) Hf (Ae (d_v 0) Al)) BR) (DN JF Hs rfl (Hk T) Hf (Ae (d_v 1) Al))))))))))
  (Kl (DW.dt (SM (Eh hr (d_v 1) Ah) (VV (qH hr (d_v 8) (Ga Al)))))
  (Ez (MN (j:=10) hN rfl (Or.inl rfl) (by decide) (Fv (d_v 2) (Ei N8 O7 rfl (Jf T) J6 (Ae (d_v 8) Al))))
  (Ez (Ge (HD (i:=0) (Bu (J3 (d_v 8) Je (HH (d_v 10))) (J3 (d_v 8) (HH (Bu (d_v 10) Ah)) Je)) Ah) Hi)
  (Ji (Bu BR (DN JF Hs rfl (Hk T) Hf (Ae (d_v 10) Al))))))
  (Kl (DW.dt (SM (Eh hr (d_v 1) Ah) (VV (Wu (d_v 9) Ah))))
  (Ez (MN (j:=11) hN rfl (Or.inl rfl) (by decide) (Bu Ah (Fv (d_v 2) Ah)))
  (Ez (MN (j:=12) hN rfl (Or.inl rfl) (by decide) (Bu Ah (Fv (Ng (d_v 2) Ah) Ah)))
  (Ez (MN (j:=13) hN rfl (Or.inl rfl) (by decide) (Ga Al))
  (Ez (nG (j:=14) PassesOwn.leaving rfl hN rfl (Or.inr rfl) (by decide) (CT (d_v 8))
  (fY (MN (j:=13) hN rfl (Or.inl rfl) (by decide) (Bu (d_v 13) (CJ (own:=["_law_piece"]) (cap:=[("_law_one",14)]) (CT (Gp (Ey ya6 hr (by decide) rfl BK (Ae (Ol (Ss T) (d_v 14)) (Ae (Dr (Ae Ah (Ae Ah (Ae (d_v 12) (Ae (Tf Ah (d_v 11)) Al))))) Al))) Ah)) (Gd.of rfl rfl (by kernel_rfl) rfl ⟨rfl,trivial⟩ ⟨rfl,trivial⟩) rfl (λ_ _ _ _ _=>(Ef (i:=0) (show List.Nodup (["_law_piece","_law_one"]:List Str) by decide +kernel) rfl (Or.inl rfl) (by decide))) (λ_ _ _ _ _=>V2) (λ_ _ _ _ _=>(YF yaV hr (by decide) rfl (Ae (d_v 1) (Ae (d_v 0) Al)))))))))
  (Ez (Ge (HD (i:=0) (d_v 13) Ah) Hi)
  (Ez (Ge (HD (i:=0) (Bu (d_v 9) Ah) Ah) Hi)
  (Ji (Bu (Bu (Bu BR (DN JF Hs rfl (Hk T) Hf (Ae (d_v 11) Al))) BR) (DN JF Hs rfl (Hk T) Hf (Ae (d_v 12) Al))))))))))
  (Kl (Nq (Ei N8 O7 rfl (Jf T) J6 (Ae (d_v 8) Al)) Ah)
  (Ez (Ge (HD (i:=0) (J3 (d_v 8) (HH Ah) Je) Ah) Hi)
  (Ji BR))
  (Ez (Ge (HD (i:=0) (Bu (d_v 8) (Ga (Ae (d_v 3) Al))) Ah) Hi)
  (Ji (Ey yau hr (by decide) rfl BK (Ae (d_v 3) Al)))))))))))⟩)
theorem fH{f:Addr}{fd:FuncData}(F:Fun K "law" "law" Mp f fd):FnOk P w K mg base (CXR P w) 15 f fd ["_law_script"] (spD K mg 1 VP):=by
 have l:=VL T;have r:=QC T;have v:=sE T;have t:=ZC T;have p:=tO T;have h:=Od T;obtain ⟨C,G,y,x,g,m,k,q,o⟩:=(cM T).ex;obtain ⟨a,_,_,_,b,d,c⟩:=wC T C g
 exact okD F HW (λB A u s H E e=>have D:=HW.nd;⟨_,(nQ (i1:=1) (i2:=2) m k q e (by decide) rfl g o BK
  (Ny (E:=E) (FW (i:=3) HW.nd rfl (Or.inl rfl) BR) (Pb (by decide))
  (rR (E:=E) (DLW.lt (eE (Vl rfl g ((NZ (e.units))) (Ox) (λz=>Oi (i:=1) rfl (Or.inl rfl) a b d c e (by decide) BK z) BR (d_v 3) (Em _)) (WT (uB rfl g ((NZ (e.units))) (Ox) (λz=>Oi (i:=2) rfl (Or.inl rfl) a b d c e (by decide) BK z) BR BR (Em _))))) JH
  (Ny (E:=E) (FW (i:=4) HW.nd rfl (Or.inl rfl) (Bu (Ey v e (by decide) rfl BK (Ae (d_v 0) (Ae Ah (Ae Ah Al)))) (Ga (Ae (Di h e (by decide) rfl BK (Ae (Dr (Ae (Dr (Ae Ah (Ae Ah (Ae Ah (Ae Ah (Ae (Dr Al) Al)))))) (Ae (Dr (Ae Ah (Ae Ah (Ae Ah (Ae Ah (Ae (Dr Al) Al)))))) (Ae (Dr (Ae Ah (Ae Ah (Ae Ah (Ae Ah (Ae (Dr Al) Al)))))) Al)))) (Ae (Dr (Ae Ah (Ae Ah Al))) Al))) Al)))) (Pb (by decide))
  (Ny (E:=E) (bB (i:=5) HW.nd rfl (Or.inl rfl) (Ae Ah (Ae Ah (Ae (Dr (Ae Ah (Ae Ah Al))) (Ae (Ga (Ae (Dr (Ae Ah (Ae Ah Al))) Al)) (Ae (Ga Al) (Ae Ah Al))))))) (Pb (by decide))
  (kI (E:=E) (n:=1000) PassesOwn.leaving rfl (dJ rfl (dw T) (Ae (Ei (ZmV rfl) fK rfl (zZ T) gG (Ae Ah (Ae (Ei N8 O7 rfl (Jf T) J6 (Ae (J3 (d_v 0) (HH Ah) (HH Ah)) Al)) Al))) Al)) (Ef (i:=6) HW.nd rfl (Or.inl rfl) (by decide)) (HX (by decide))
  (Ny (E:=E) (ao (Ey r e (by decide) rfl BK (Ae (Bu (Ey l e (by decide) rfl BK (Ae (d_v 0) (Ae (Bu Ah (d_v 6)) Al))) (Fv (d_v 6) Ah)) (Ae Ah Al))) (Nr rfl (Ff (Ef (i:=7) HW.nd rfl (Or.inl rfl) (by decide)) (Ff (Ef (i:=8) HW.nd rfl (Or.inl rfl) (by decide)) OD)))) (X8 (Xh (Ho (HX (by decide)) (Ho (HX (by decide)) Yz))))
  (Ny (E:=E) (lC (i:=5) (j:=9) p e (by decide) rfl BK (Ae (Fv (d_v 7) Ah) (Ae (d_v 8) (Ae (Gp (d_v 4) (Fv (d_v 6) (Ei N8 O7 rfl (Jf T) J6 (Ae (d_v 4) Al)))) Al))) HW.nd rfl (Or.inl rfl)) (Pb (by decide))
  (qz (E:=E) (DLW.lt (eE (Vl rfl g ((NZ (e.units))) (Ox) (λz=>Oi (i:=1) rfl (Or.inl rfl) a b d c e (by decide) BK z) (d_v 9) BR (Em _)) (WT (Vl rfl g ((NZ (e.units))) (Ox) (λz=>Oi (i:=1) rfl (Or.inl rfl) a b d c e (by decide) BK z) BR (SQ 5 (Ey t e (by decide) rfl BK (Ae (DN JN Ju rfl (Ie T) Ij (Ae (J3 (d_v 5) Je (HH Ah)) Al)) Al))) (Em _))))) JH)))
  (qD (mq rfl g ((Th (e.units))) (Vc) (λz=>Oi (i:=2) rfl (Or.inl rfl) a b d c e (by decide) BK z) BR BR (Em _)))))))) D rfl (Or.inl rfl) rfl (Or.inl rfl))⟩)
end
def pG{w:World}{h:Heap}{mg:Str->Option Value}{fa:Addr}(X:(Hd.heap w.params).In h)(G:h.Ns mainGlobals mg)(hfa:mg "law"=some (.ref fa)):∃fd:FuncData,(∀(s:Shared) (v:Value),BindsTo s fd ⟨[v],[]⟩ [("_law_script",v)])/\∀base:Heap,(Hd.heap w.params).In base->base.Ns mainGlobals mg->FnOk PySem.Challenge.rw_sampleyard_k86_desk_told.prog w (Hd.heap w.params) mg base (CXR PySem.Challenge.rw_sampleyard_k86_desk_told.prog w) 15 fa fd ["_law_script"] (Qo (Hd.heap w.params)):=by
 have g:∀{x:Str} {v:Option Value},W.nsIn (Hd.heap w.params) mainGlobals x=some v->mg x=v:=λ{x v} e=>by
  cases v with
  | none=>exact W.mg_none_of X G e
  | some u=>exact W.mg_of X G e
 refine' lawK (g ?_) hfa ?_ ?_ ?_ λbase fd F=>(fH ⟨rfl,g⟩ F).imp (wG wM);walk_at "q"
def walk{l:W.OpenLaw}{q:Program}{loose:List Str}{XP:(Str->Option Value)->Heap->Prop}{YP:World->Heap->Prop}{d:DefRec}{K:Params->W.Frag}(hn:l.most=some 63)(hdf:d.params.defaults=[])
  (hY:∀(w:World) (h:Heap),YP w h->(K w.params).In h)
  (F:∀(w:World) (mg:Str->Option Value) (fa:Addr) (h:Heap),(K w.params).In h->h.Ns mainGlobals mg->mg d.name=some (.ref fa) ->
   ∃fd:FuncData,(∀(s:Shared) (u:Value),BindsTo s fd ⟨[u],[]⟩ [("_law_script",u)])/\∀base:Heap,(K w.params).In base->base.Ns mainGlobals mg->FnOk l.prog w (K w.params) mg base (CXR l.prog w) 15 fa fd ["_law_script"] (Qo (K w.params))) :
  W.WalkO q loose XP YP l.row.toRowW d [] (λf vs=>PySem.call f vs) :=
 L2.u9 (n:=63) (k:=15) (x:="_law_script") (CX:=λw=>CXR l.prog w) (sp:=λw=>Qo (K w.params)) hn (by decide) hdf ⟨rfl,by decide,by decide⟩ hY F (λ_ _ a c b _ e=>⟨a,c,rfl,e,b,λ_=>rfl⟩) λ_ _ _ _ _ z=>rZ z
end My
open PySem PySem.W PyProof.Rows
set_option maxRecDepth 100000 in
set_option maxHeartbeats 0 in
theorem PySem.Challenge.cw_sampleyard_k86_desk_told_holds : PySem.Challenge.rw_sampleyard_k86_desk_told.Holds := by
 w_on;refine holds_law Hd.said λsaid=>?_
 refine holds_open (r:=PySem.Challenge.rw_sampleyard_k86_desk_told.row) (q:=Hd.view) (loose:=["paint","doubtful","paint_tiles","TOLD","ASKED"]) (Xt:=(λs=>xlAt Hd.view [] s&&recOk (RowW.records PySem.Challenge.rw_sampleyard_k86_desk_told.row.toRowW) s)) (XP:=XL Hd.view []) (Yf:=Hook.obs (kHook Hd.heap Hd.addrs Hd.KJ)) (Ya:=Hook.val (kHook Hd.heap Hd.addrs Hd.KJ)) (YP:=Hook.says (kHook Hd.heap Hd.addrs Hd.KJ)) (N:=Hd.most) Hd.left (Hook.of (kHook Hd.heap Hd.addrs Hd.KJ)) (Hook.keeps (kHook Hd.heap Hd.addrs Hd.KJ)) (λs e=>xl_of s (Bool.and_eq_true_iff.mp e).1) XL.keeps (by rfl) (by rfl) (by rfl) (λs e=>recFacts_of (Bool.and_eq_true_iff.mp e).2) (by rfl) (by assumption) Hd.okO Hd.bar ?hw ?hc
 case hw=>w_witness2
 exact My.walk (l:=PySem.Challenge.rw_sampleyard_k86_desk_told) rfl rfl (λw h Y0=>W.kIn_of Y0) λw mg fa h KX G hmg=>My.pG KX G hmg
