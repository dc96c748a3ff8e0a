import PyProof.Rows.All
import Wide.All
import OpenK.AllK
import Wide.FinOn
import Lean
import KE.KSortTup
import KE.KLam
import KE.KNestM
import PyProof.EqAt
import PyProof.EqKinds
import PyProof.TupleCall
import PyProof.P3Eq
import PyProof.NeData
import PySem.Challenge.RW_sampleyard_k64_whole_one_picture
set_option Elab.async false
set_option linter.all false
set_option maxRecDepth 100000
set_option compiler.extract_closed false
local macro_rules | `(tactic| walk_at "vv")=>`(tactic| first | exact Or.inl rfl | exact Or.inr (Or.inl rfl) | exact Or.inr (Or.inr rfl))
local macro_rules | `(tactic| walk_at "ff")=>`(tactic| first | exact .inl rfl | exact .inr rfl | assumption)
noncomputable section
abbrev iP:=@if_pos
abbrev iN:=@if_neg
abbrev aB:=@absurd
def Hd.said:PySem.W.OpenLaw.wellSaid PySem.Challenge.rw_sampleyard_k64_whole_one_picture=true:=by kernel_rfl
abbrev Gf:=@List.map_congr_left
abbrev Jy:=@Bool.eq_false_iff
abbrev CW:=@Option.some.inj
abbrev Gn:=@Prod.ext
abbrev Jg:=@decide_eq_false
abbrev BP:=@PySem.Heap.lt_size
abbrev Aw:=@Nat.lt_of_lt_of_le
abbrev Kv:=@Nat.lt_irrefl
abbrev Am:=@Nat.ne_of_lt
abbrev FP:=@List.mem_range
abbrev Ak:=@Nat.le_trans
abbrev Ay:=@Nat.le_of_lt
abbrev U9:=@List.filterMap_cons
abbrev Bf:=@List.mem_cons_of_mem
abbrev BV:=@List.mem_cons
abbrev Gv:=@List.mem_append
abbrev QL:=@List.mem_append_left
abbrev Dc:=@List.getElem?_eq_some_iff
abbrev Ce:=@PySem.wpAny_mono
abbrev Ac:=@PySem.wpAny_bind
abbrev Cw:=@PySem.wpAny_holding
abbrev Lr:=@PySem.wpAny_standAt
abbrev Ju:=@PySem.wpAny_passesOwn
abbrev GC:=@Bool.false_ne_true
abbrev CK:=@Nat.ne_of_gt
abbrev Ad:=@PySem.wpAny_pure
abbrev Bj:=@PySem.Heap.get?_push_of_some
abbrev CJ:=@PySem.Heap.get?_push_size
abbrev Ae:=@Nat.le_refl
abbrev Ip:=@PyProof.Rows.callWith_type1
abbrev Qh:=@List.mem_filterMap
abbrev DR:=@List.mem_append_right
abbrev Xm:=@Int.fdiv_eq_ediv_of_nonneg
abbrev Al:=@List.length_map
abbrev Hs:=@PySem.sizeLine_eq
abbrev HD:=@Nat.le_of_eq
abbrev Ex:=@PySem.Heap.size_push
abbrev Ha:=@Nat.lt_succ_self
abbrev Bw:=@Nat.zero_le
abbrev Hg:=@PySem.W.kia_one
abbrev CN:=@List.append_nil
abbrev Kc:=@PySem.codeAny_mono
abbrev O5:=@PySem.wpAny_Call_Name_kw
abbrev Kq:=@Nat.le_succ
abbrev Hy:=@List.nodup_cons
abbrev Nt:=@List.of_mem_zip
abbrev Ew:=@congrArg
abbrev Eo:=@PySem.mem_of_lookup
abbrev Gg:=@List.mem_of_getElem?
abbrev Ca:=@if_false
abbrev Gk:=@PySem.wpAny_field
abbrev HY:=@List.length_drop
abbrev Fy:=@Nat.sub_le
abbrev Nz:=@PySem.wpAny_callSpecial?_slot
abbrev UV:=@PyProof.Rows.slot_tuple_getitem
abbrev Kd:=@PySem.wpAny_call_entry
abbrev Mh:=@PySem.wpAny_typeOf
abbrev PQ:=@Bool.and_eq_true
abbrev KR:=@PySem.wpAny_newObj_type
abbrev Eb:=@List.length_take
abbrev Ht:=@List.size_toArray
abbrev MN:=@PySem.Heap.get?_update_self
abbrev Lz:=@PySem.Heap.get?_update_other
abbrev GZ:=@if_true
abbrev K9:=@List.replicate_succ
abbrev Bk:=@List.map_cons
abbrev BX:=@List.mem_cons_self
abbrev Fv:=@List.getElem?_append_left
abbrev NK:=@List.getElem?_replicate
abbrev GJ:=@List.getElem?_append_right
abbrev PP:=@List.length_replicate
abbrev Cj:=@List.getElem?_map
abbrev Dz:=@Nat.le_add_right
abbrev Lf:=@Nat.add_sub_cancel_left
abbrev FW:=@Nat.lt_trans
abbrev By:=@List.mem_map
abbrev Gj:=@PySem.wpAny_rule
abbrev J9:=@List.drop_eq_getElem_cons
abbrev DQ:=@Bool.false_eq_true
abbrev QK:=@PySem.wpAny_pyIter_list
abbrev NB:=@List.drop_zero
abbrev Hv:=@List.take_of_length_le
abbrev Sw:=@PySem.F.slot_tuple_iterator_next
abbrev Hm:=@PySem.wpAny_seqItems
abbrev Ei:=@Int.toNat_natCast
abbrev TQ:=@PySem.Heap.SameBut.update
abbrev Ga:=@List.length_set
abbrev Ff:=@List.length_range
abbrev BL:=@List.getElem?_eq_getElem
abbrev O1:=@List.drop_eq_nil_of_le
abbrev DX:=@List.map_map
abbrev DN:=@Nat.lt_of_le_of_lt
abbrev JL:=@Nat.succ_le_succ
abbrev Hn:=@Nat.zero_add
abbrev Gp:=@List.length_cons
abbrev Ob:=@List.range_succ_eq_map
abbrev JS:=@PySem.F.plainAttrs_list
abbrev O3:=@PySem.F.slot_list_append
abbrev Oz:=@PySem.F.type_list_append
abbrev M7:=@PySem.wpAny_updateSeq
abbrev QS:=@PySem.wpAny_setField_rec
abbrev Hq:=@Nat.zero_lt_of_lt
abbrev Nu:=@PySem.codeAny_builtin
abbrev T5:=@PySem.Around.under_plainId
abbrev UL:=@PySem.F.plain_extend_loop
abbrev UJ:=@List.length_eq_zero_iff
abbrev KN:=@List.take_append_drop
abbrev Ft:=@List.map_append
abbrev Di:=@List.length_append
abbrev Fx:=@List.append_assoc
abbrev Ef:=@List.mem_iff_getElem
abbrev Jl:=@Int.not_lt
abbrev G6:=@Nat.min_eq_left
abbrev Oq:=@Nat.add_right_comm
abbrev Jm:=@Nat.mod_lt
abbrev JF:=@Int.emod_nonneg
abbrev Jd:=@Int.emod_lt_of_pos
abbrev JZ:=@Nat.lt_of_not_le
abbrev Jc:=@List.pairwise_iff_getElem
abbrev Jz:=@List.pairwise_map
abbrev Ea:=@Array.length_toList
abbrev Fp:=@Array.getElem?_eq_getElem
abbrev Ls:=@Array.getElem?_eq_some_iff
abbrev Km:=@List.getElem_mem
abbrev JG:=@Array.toList_extract
abbrev NP:=@List.pairwise_append
abbrev Dq:=@List.pairwise_cons
abbrev GQ:=@Array.getElem?_toList
abbrev N8:=@PySem.wpAny_setState_of
abbrev Dv:=@decide_eq_true
abbrev HR:=@List.mem_singleton
abbrev K6:=@of_decide_eq_true
abbrev Cg:=@List.not_mem_nil
abbrev Dm:=@Nat.lt_succ_of_lt
abbrev HX:=@or_false
abbrev Qm:=@List.getElem_of_mem
abbrev O7:=@Nat.le_of_succ_le_succ
abbrev Ox:=@PyProof.Rows.get?_update_seq
abbrev Du:=@PySem.Heap.get?_push_ne
abbrev Hr:=@PyProof.Rows.size_push'
abbrev Gu:=@PySem.Heap.size_update
abbrev JB:=@PySem.Heap.get?_update_ne
abbrev Jx:=@Int.toNat_of_nonneg
abbrev Aj:=@PyProof.Rows.wpS_bind
abbrev Ai:=@PyProof.Rows.wpS_pure
abbrev HW:=@Nat.le_antisymm
abbrev S9:=@Nat.add_lt_of_lt_sub'
abbrev G7:=@Nat.sub_pos_of_lt
abbrev Dj:=@Nat.add_le_add_left
abbrev Ja:=@Nat.add_comm
abbrev Kg:=@List.extract_eq_take_drop
abbrev Jq:=@Int.le_refl
abbrev Np:=@List.drop_of_length_le
abbrev Fg:=@Int.le_trans
abbrev Hi:=@Array.toList_append
abbrev Le:=@List.mem_of_mem_drop
abbrev Jb:=@PyProof.Rows.wpS_modify
abbrev J6:=@Nat.add_lt_add_left
abbrev GX:=@Nat.le_sub_one_of_lt
abbrev Dg:=@Nat.sub_lt
abbrev Hj:=@Nat.add_sub_cancel'
abbrev HN:=@Nat.lt_of_le_of_ne
abbrev J2:=@Nat.lt_of_succ_lt
abbrev Dt:=@Int.le_of_lt
abbrev JM:=@Nat.le_succ_of_le
abbrev Rt:=@Nat.eq_zero_of_not_pos
abbrev Pq:=@Nat.le_add_left
abbrev G5:=@List.mem_of_mem_take
abbrev IK:=@Nat.pos_of_ne_zero
abbrev Oh:=@Array.perm_iff_toList_perm
abbrev Ii:=@Nat.lt_add_of_pos_right
abbrev KY:=@Nat.le_of_lt_succ
abbrev N7:=@List.ext_getElem?
abbrev Qv:=@Int.natAbs_natCast
abbrev Pk:=@Int.natAbs_dvd_natAbs
abbrev V4:=@Int.mul_le_mul_of_nonneg_left
abbrev J4:=@Int.mul_pos
abbrev Wl:=@Int.mul_le_mul_of_nonneg_right
abbrev Ji:=@List.map_take
abbrev J3:=@Rat.num_divInt_den
abbrev Je:=@List.filter_cons
abbrev OD:=@List.filter_append
abbrev MK:=@List.length_singleton
abbrev Ol:=@List.range_succ
abbrev Qe:=@Nat.mul_le_mul_right
abbrev Kz:=@Nat.succ_mul
abbrev Qc:=@List.zipWith_cons_cons
abbrev JX:=@List.flatMap_cons
abbrev Pz:=@List.flatMap_append
abbrev Jt:=@List.mem_flatMap
abbrev JH:=@Nat.mul_le_mul
abbrev K7:=@Int.natCast_mul
abbrev MgT:=PySem.Str->Option PySem.Value
local macro_rules|`(tactic|nofun)=>`(tactic|walk_at "e")
abbrev W1:=PySem.W.Frag
abbrev VS:=PySem.Value->PySem.Shared->Prop
open PySem PySem.Spec PyProof.Rows in
abbrev wP{α}(p:Program)(w:World)(A:Around):=@wpAny α (model p w) A
abbrev sH0(s:PySem.Shared)(g:PySem.Heap):PySem.Shared:={ s with heap:=g }
abbrev Hb0:=@PySem.Heap.SameBut
namespace L2
open PySem
def inClass(s:Stmt)(j:Nat):Stmt:=match s with
 | .ClassDef _ _ _ body _ _ _ _ _ _ _=>body.getD j (.Pass ⟨0,0,0,0⟩)
 | _=>.Pass ⟨0,0,0,0⟩
noncomputable def Gy(s:Stmt):Arguments:=match s with
 | .FunctionDef _ a _ _ _ _ _ _ _ _=>a
 | _=>{ posonlyargs:=[],args:=[],vararg:=none,kwonlyargs:=[],kw_defaults:=[],kwarg:=none,defaults:=[] }
def De(s:Stmt):List Stmt:=match s with
 | .FunctionDef _ _ b _ _ _ _ _ _ _=>b
 | _=>[]
def BJ(s:Stmt):Scope:=match s with
 | .FunctionDef _ _ _ _ _ _ sc _ _ _=>sc
 | _=>{ kind:=.function,names:=[],isGenerator:=false,isCoroutine:=false }
end L2
local macro_rules | `(tactic| ext)=>`(tactic| trivial)
namespace Hd
open PySem PySem.W L2
abbrev top(i:Nat):Stmt:=PySem.Challenge.pw_sampleyard_k64_whole_one_picture.main.body.getD i (.Pass ⟨0,0,0,0⟩)
noncomputable abbrev st(x:String)(t:Nat):Value:=.str (Str.ofString x) t
abbrev en(P:Params)(x:String)(t:Nat)(v:Value):DictEntry:=⟨PyData.keyHash P (Str.ofString x),.str (Str.ofString x) t,v⟩
abbrev fd(s:Stmt)(n q:String)(an:Option Addr)(d k c e m t:Value):Data:=.func { name:=Str.ofString n,qualname:=Str.ofString q,params:=Gy s,body:=.stmts (De s),scope:=BJ s,globals:=mainGlobals,closure:=[],defaults:=d,kwdefaults:=k,doc:=e,pyModule:=m,annotations:=an,code:=c,closureTuple:=t,builtins:=builtinsNs }
abbrev T(xs:List Value):Obj:=⟨.type "tuple",none,.seq (List.toArray xs) 0,#[]⟩
abbrev F(s:Stmt)(n q:String)(an:Option Addr)(d k c e m t:Value):Obj:=⟨.type "function",none,fd s n q an d k c e m t,#[]⟩
abbrev D(es:List DictEntry)(n:Nat):Obj:=⟨.type "dict",none,.dict (List.toArray es) n,#[]⟩
abbrev Q(n:String)(t:Nat)(a:Addr)(x:String)(y:Value):Obj:=⟨.type "getset_descriptor",none,.fields #[st n t,.ref a,.builtin x,y],#[]⟩
abbrev C(n:String)(a:Nat)(q:String)(b c:Nat)(d e f g h:Int)(i:Value)(j:Bool)(k:Int)(l m o p r:Value)(s t:Int)(u:Nat):Obj:=⟨.type "code",none,.fields #[st n a,st q b,st "/claim/cut.py" c,.int d 0,.int e 0,.int f 0,.int g 0,.int h 0,i,.bool j,.int k 0,l,m,o,p,r,.int s 0,.int t 0,st "/claim/cut.py" u],#[]⟩
abbrev L(n:String)(b m:List Value)(a:Addr)(s:List Value)(sl:List (Option Value)):Obj:=⟨.type "type",none,.cls { name:=Str.ofString n,bases:=b,mro:=m,ns:=a,qualname:=Str.ofString n,hasDict:=true,slotNames:=[],subclasses:=s,abstract:=false,collection:=none,hasDel:=false },List.toArray sl⟩
abbrev B1(n q:String)(a:Nat)(d e:Int)(i s:Nat):Obj:=C n a q (a+1) (a+2) d e 0 0 3 (.ref i) true 181 (.ref (i+1)) .none (.ref (i+2)) (.ref (i+3)) (.ref (i+4)) (Int.ofNat s) d (s+1)
abbrev E1(n q:String)(a:Nat)(d e:Int)(i s:Nat):Obj:=C n a q (a+1) (a+2) d e 0 0 3 (.ref i) true 181 (.ref (i+1)) .none .none .none (.ref (i+2)) (Int.ofNat s) d (s+1)
abbrev G1(s:Stmt)(n q:String)(c:Nat)(m:Value):Obj:=F s n q none .none .none (.ref c) .none m .none
abbrev o0_:Value:=st "__main__" 164
abbrev o1_:Value:=st "sampleyard.whole" 278
abbrev o2_:Value:=st "sampleyard.fractions" 315
abbrev o3_:Value:=st "sampleyard.edges" 399
abbrev o4_:Value:=st "sampleyard.seen" 454
abbrev o5_:Value:=st "sampleyard.spots" 476
abbrev o6_:Value:=st "sampleyard.paint" 487
abbrev o7_:Value:=st "sampleyard.tiles" 598
abbrev o8_:Value:=st "sampleyard.corners" 705
abbrev o9_:Value:=st "sampleyard.patterns" 729
abbrev o10_:Value:=st "sampleyard.things" 759
abbrev o11_:Value:=st "law_sampleyard_k64_whole_one_picture" 1022
def tb:="0 15 187 0  _wall 1 1 4|8 83 280 1  is_whole 16 1 4 is_between 18 3 6 greatest_divisor 20 1 8 summed_products 29 2 5|13 111 317 2  ratio 32 2 6 plus 37 2 5 minus 39 2 5 product 41 2 5 mean_of 43 1 6 under 48 2 5 least_of 50 1 6 greatest_of 56 1 6 down 62 1 4 is_fraction 64 1 4|24 181 401 3  side 71 3 8 edge_numbers 77 2 5 edge_sum 79 3 6 check_before_eye 81 1 5 had 85 2 6 weights 91 2 5|31 223 456 4  seen_at 94 2 5 depth_and_values 98 2 3 weighed_h 103 2 3|35 240 478 5  spot_at 106 3 6|39 247 493 6  check_floor 111 2 5 check_spots 114 1 3 is_spot 121 1 4 spots_or_middle 125 1 4 ground_or_none 130 1 4 sights_at 132 2 8 colour_of 139 2 8 nearest_of 147 1 6 layers_over 155 2 3 laid_over 162 2 6|50 319 580 6  painted_row 170 5 3 sights_in 172 4 3 cell_colour 174 2 3|55 334 602 7  tiles_along 178 2 5 tile_cells 180 4 13 near_depth 189 1 3 check_wide 191 1 4 order_or_rising 194 2 3|61 371 651 7  points_in 216 2 3 looked_at 221 2 3 far_depth 233 1 4 look_at 237 4 10 lesser 245 2 5 paint_cells 247 4 11|69 409 709 8  check_triangle 254 1 5 is_corner 262 1 3 are_values 268 1 3|74 427 737 9  check_pattern 274 1 3 copied 284 1 3 entry_at 286 3 7|78 451 773 10 Thing. __init__ 292 2 5 is_glass 297 1 4|79 479 809 10 Plain. __init__ 301 3 6 word 306 1 4 colour_at 309 2 5 like 312 2 5|80 519 858 10 Shaded. __init__ 316 2 5 word 320 1 4 colour_at 323 2 5 like 326 2 5|81 559 905 10 Patterned. __init__ 330 3 6 word 336 1 4 colour_at 339 2 5 like 342 2 5|82 599 954 10 Glass. __init__ 346 4 7 word 353 1 4 is_glass 356 1 4 colour_at 359 2 5 like 362 2 5|83 639 1000 10  check_values 364 2 5 check_colour 367 1 4 check_part 370 1 4|87 660 1024 11  _law_cell_at 374 2 5 _law_mixed 378 2 6 _law_draws 384 2 3 _law_corner 386 2 3 _law_triangles 405 4 3 _law_pattern 418 2 12 _law_thing 429 2 3 _law_things 443 3 11 _law_spots 450 1 8 _law_cover 460 1 5 _law_order 463 2 8 law 471 1 18"
def eS(x t v:String):=s!"P '{x} {t} {v} *4en "
def rS(a:Nat):=s!"{a} ~.ref"
def J(b:Bool)(z:Nat):String:=Id.run do
 let w:=((tb.splitOn "|")[z]!.splitOn " ").toArray
 let g k:=w[k]!.toNat!
 let mut v:=g 1
 let mut a:=g 2
 let mut o:=""
 for j in [0:w.size/4-1] do
  let k:=g (4*j+8)
  let n:=w[4*j+5]!
  let c:=v+if k=3 then 3 else 5
  let y:=s!"'{n} '{w[4]!}{n} "
  let f:=if w[4]! ="" then s!"{g 0+j} ~top" else s!"{g 0} ~top {j} *2inClass"
  o:=o++if b then eS n s!"{a+k+2}" (rS (c+1)) else y++s!"{a} {w[4*j+6]!} {w[4*j+7]!} {v} {a+k} *7{if k=3 then "E" else "B"}1 !{c} {f} {y}{c} o{w[3]!}_ *5G1 !{c+1} "
  a:=a+k+3
  v:=c+2
 return o
def cS(n:String)(a t l s d c:Nat)(m j x z b r u q:String):=s!"[ {eS "__module__" s!"{t+7}" m}{eS "__firstlineno__" s!"{t+11}" s!"{l} {t+10} *2.int"}{j}{eS "__static_attributes__" s!"{s}" (rS (a-2))}{x}{eS "__doc__" s!"{d}" ".none"}] {c} *2D !{a-1} '{n} [ {b}] [ {rS a} {r}'object ~.type ] {a-1} [ {u} ] [ {z} none '{n} {t} *2st ~some '{n} {t+8} *2st ~some '{q}.__new__ ~.builtin ~some true ~.bool ~some ] *6L !{a} "
def mS:="'sampleyard.errors 194 *2st"
def vS:="'ValueError ~.type "
def wS:=vS++"'Exception ~.type 'BaseException ~.type "
def X(n:String)(a t l:Nat):=s!"[ {rS 31} ] ~T !{a-9} "++cS n a t l (t+12) (t+13) 2 mS "" "" (rS (a-9)++" ~some") "31 ~.ref " ("31 ~.ref "++wS) "" "ValueError"
def Y(n:String)(g b a t l s:Nat):=s!"[ {rS 467} ] ~T !{b} {J false g}"++cS n a t l s (s+1) 2 "o10_" (J true g) "" (rS b++" ~some") "467 ~.ref " "467 ~.ref " "" "object"
def xS(n:String)(t a:Nat):=eS n s!"{t}" (rS a)
def rows:String:=
let r:=J false
let d:=J true
s!"[ .none none [ ] ~List.toArray 0 *2Data.dict [ ] ~List.toArray *4Obj.mk !2 [ {eS "__name__" "165" "o11_"}{eS "__doc__" "166" ".none"}{eS "__package__" "167" ".none"}{eS "__loader__" "168" "'__main__.__loader__#opaque ~.builtin"}{eS "__spec__" "169" ".none"}{xS "__annotations__" 170 6}{xS "__builtins__" 171 4}{eS "__file__" "173" "'/claim/cut.py 172 *2st"}{eS "__cached__" "174" ".none"}{d 0}{xS "YardError" 213 31}{xS "BadTriangle" 229 44}{xS "BadThing" 245 56}{xS "BadFloor" 261 68}{xS "BadPattern" 277 80}{d 1}{d 2}{d 3}{d 4}{d 5}{eS "MOST_CELLS" "490" "64 489 *2.int"}{eS "MOST_SPOTS" "492" "16 491 *2.int"}{d 6}{xS "paint" 579 318}{d 7}{eS "MOST_WIDE" "601" "64 600 *2.int"}{d 8}{xS "paint_tiles" 650 370}{d 9}{eS "MOST_VALUES" "708" "3 707 *2.int"}{d 10}{xS "COUNTS" 736 426}{d 11}{xS "Thing" 796 467}{xS "Plain" 845 509}{xS "Shaded" 892 549}{xS "Patterned" 941 589}{xS "Glass" 999 636}{d 17}{d 18}] 96 *2D !3 {r 0}[ {vS}] ~T !22 {cS "YardError" 31 196 5 208 211 3 mS "" (xS "__weakref__" 210 32) "22 ~.ref ~some" vS wS "44 ~.ref 56 ~.ref 68 ~.ref 80 ~.ref" "ValueError"}'__weakref__ 209 31 'ExceptionGroup.__weakref__ .none *5Q !32 {X "BadTriangle" 44 214 7}{X "BadThing" 56 230 9}{X "BadFloor" 68 246 11}{X "BadPattern" 80 262 13}{r 1}{r 2}{r 3}{r 4}{r 5}{r 6}[ .none .none ] ~T !313 'paint 'paint 574 165 5 314 577 *7E1 !317 49 ~top 'paint 'paint none {rS 313} .none {rS 317} .none o6_ .none *:F !318 {r 7}{r 8}[ .none .none .none ] ~T !365 'paint_tiles 'paint_tiles 645 202 7 366 648 *7E1 !369 60 ~top 'paint_tiles 'paint_tiles none {rS 365} .none {rS 369} .none o7_ .none *:F !370 {r 9}{r 10}[ 1 731 *2.int 2 732 *2.int 4 733 *2.int 8 734 *2.int 16 735 *2.int ] ~T !426 {r 11}{r 12}{cS "Thing" 467 761 290 789 794 4 "o10_" (d 12) (xS "__dict__" 791 468++xS "__weakref__" 793 469) "none" "'object ~.type " "" "509 ~.ref 549 ~.ref 589 ~.ref 636 ~.ref" "object"}'__dict__ 790 467 'function.__dict__ 'function.__dict__#set ~.builtin *5Q !468 '__weakref__ 792 467 'ExceptionGroup.__weakref__ .none *5Q !469 {Y "Plain" 13 472 509 797 299 842}{Y "Shaded" 14 512 549 846 314 889}{Y "Patterned" 15 552 589 893 328 938}{Y "Glass" 16 592 636 942 344 996}{r 17}{r 18}]"
open Lean Syntax in
def rd(s:String):Term:=
let i t:Term:=mkIdent (match t with|'.'::t=>`Value++.mkSimple (.ofList t)|t=>(String.ofList t).toName)
let c f a:=mkApp (mkIdent f) a
((s.splitOn " ").foldl (λk w=>match w.toList with
|[]=>k
|'\''::t=>mkStrLit (.ofList t)::k
|'!'::t=>c `Prod.mk #[⟨mkNode `rawNatLit #[mkAtom "nat_lit ",mkNumLit (.ofList t)]⟩,k.head!]::k.tail
|['[']=>⟨.missing⟩::k
|[']']=>let (a,b):=k.span (!·.raw.isMissing);a.foldl (λr x=>c `List.cons #[x,r]) (mkIdent `List.nil)::b.tail
|'~'::t=>mkApp (i t) #[k.head!]::k.tail
|'*'::n::t=>let n:=n.toNat-48;mkApp (i t) (k.take n).reverse.toArray::k.drop n
|x::t=>(if x.isDigit then mkNumLit w else i (x::t))::k) []).head!
open Lean in
local macro_rules
|`(tactic|walk_at "v0")=>`(tactic|exact $(rd s!"[ {" ".intercalate (((List.range 99).filter (![1,7,12,23,30,34,36,49,53,60,67,72,77,86].contains ·)).map (s!"{·} ~top"))} ]"))
|`(tactic|walk_at "h0")=>`(tactic|exact λ$(mkIdent `P)=>$(rd rows))
|`(tactic|walk_at "a0")=>`(tactic|exact $(rd s!"[ {" ".intercalate ((rows.splitOn " ").filterMap λw=>match w.toList with|'!'::t=>some (.ofList t)|_=>none)} ]"))
noncomputable def view:Program:={ PySem.Challenge.pw_sampleyard_k64_whole_one_picture with main:={ PySem.Challenge.pw_sampleyard_k64_whole_one_picture.main with body:=by walk_at "v0" } }
noncomputable def heap:Params->Frag:=by walk_at "h0"
noncomputable abbrev addrs:List Addr:=by walk_at "a0"
abbrev most:Nat:=10102
def Mr(P:Params):addrs=(heap P).map (·.1):=rfl
abbrev hook:Hook:=kHook heap addrs Mr
end Hd
namespace Hd
open PySem PySem.W PyProof.Rows
set_option maxHeartbeats 0
abbrev AT{β:Type}(U:Program->Program->List Str->(Shared->Bool)->Nat->Nat->Option Value->Bool->β):β:=U PySem.Challenge.pw_sampleyard_k64_whole_one_picture view ["paint","paint_tiles"] (λs=>xlAt view [] s&&recOk (RowW.records PySem.Challenge.rw_sampleyard_k64_whole_one_picture.row.toRowW) s) most 11 (some (.ref 6)) true
noncomputable def Nb(tb:String->Option Builtin)(p:Program)(w:World)(n₀:Nat)(ann:Option Value):Nat->SharedT->Thread->Option SharedT
 | 0,_,_=>none
 | n+1,s,t=>match through t with
  | true=>some s
  | false=>match stepOk n₀ ann t with
   | false=>none
   | true=>match stepT (denote tb) p w s t with
    | some (s',t')=>Nb tb p w n₀ ann n s' t'
    | none=>none
theorem iz{tb:String->Option Builtin}{p:Program}{w:World}{n₀:Nat}{ann:Option Value}:∀{n:Nat} {s s':SharedT} {t:Thread},Nb tb p w n₀ ann n s t=some s'->topRun tb p w n₀ ann n s.abs t=some s'.abs
 | 0,_,_,_,h=>by cases h
 | n+1,s,s',t,h=>by
  unfold Nb at h;unfold topRun;cases he:through t with
  | true=>rw [he] at h;cases h;rfl
  | false=>
   rw [he] at h;cases hk:stepOk n₀ ann t with
   | false=>rw [hk] at h;cases h
   | true=>
    rw [hk] at h;cases hs:stepT (denote tb) p w s t with
    | none=>rw [hs] at h;cases h
    | some r=>obtain ⟨s₂,t₂⟩:=r;rw [hs] at h;rw [stepT_spec hs];exact iz h
def Tq(p:Program)(w:World)(n₀:Nat)(ann:Option Value):Nat->SharedT->Thread->Option SharedT
 | 0,_,_=>none
 | n+1,s,t=>match through t with
  | true=>some s
  | false=>match Fast.tw6613529449190102663 n₀ ann t with
   | false=>none
   | true=>match Fast.tw10156331382660048174 (Fast.tw11892475500146522536 Fast.tw14364793385576792824) p w s t with
    | some (s',t')=>Tq p w n₀ ann n s' t'
    | none=>none
theorem Yp(p:Program)(w:World)(n₀:Nat)(ann:Option Value):∀(n:Nat) (s:SharedT) (t:Thread),Nb treeTable p w n₀ ann n s t=Tq p w n₀ ann n s t
 | 0,_,_=>rfl
 | n+1,s,t=>by
  unfold Nb Tq;rw [Fast.te6613529449190102663,Fast.te10156331382660048174,Fast.te11892475500146522536,Fast.te14364793385576792824];cases through t with
  | true=>rfl
  | false=>
   cases Fast.tw6613529449190102663 n₀ ann t with
   | false=>rfl
   | true=>
    cases Fast.tw10156331382660048174 (Fast.tw11892475500146522536 Fast.tw14364793385576792824) p w s t with
    | none=>rfl
    | some r=>
     obtain ⟨b,a⟩:=r;have:=Yp p w n₀ ann n b a;rw [Fast.te14364793385576792824] at this;exact this
def bT(i:Nat)(t:BT):List Obj->BT
 | []=>t
 | o::r=>bT (i+1) (t.ins i o) r
def aP(w:World)(os:OsState):SharedT:=⟨bT 0 .nil (boot_heap w.params).objs.toList,(boot_heap w.params).objs.size,(boot_heap w.params).life,Array.mk [],boot_drawn,boot_toks,os⟩
def ZmE(w:World)(os:OsState):(aP w os).abs=⟨boot_heap w.params,Array.mk [],boot_drawn,boot_toks,os⟩:=by kernel_rfl
def obsT(as:List Addr)(s:SharedT):List (Option Obj):=as.map λa=>match Nat.blt a s.n with
 | true=>alive ((s.tree.get a).getD default)
 | false=>none
def vB(as:List Addr)(s:SharedT):as.map s.abs.heap.get?=obsT as s:=by
 unfold obsT;refine Gf λa _=>?_;show (absHeap s.tree s.n s.life).get? a=_;unfold Heap.get?;rw [absHeap_at];by_cases h:a<s.n
 .rw [iP h,show Nat.blt a s.n=true from Nat.ble_eq.mpr h];generalize (s.tree.get a).getD default=o;obtain ⟨c,d,b,e⟩:=o;cases b<;>rfl
 .rw [iN h,show Nat.blt a s.n=false from Jy.mpr λz=>h (Nat.le_of_ble_eq_true z)]
abbrev U0{α:Type}(p:Program)(N m₀:Nat)(ann:Option Value)(f:SharedT->α)(d:α)(w:World)(os:OsState):Prop:=(Tq p w m₀ ann N (aP w os) (topStub p)).map f=some d
variable{α:Type}(p q:Program)(loose:List Str)(Xt:Shared->Bool)(N m₀:Nat)(ann:Option Value)(g0:Bool)
abbrev V0(s:SharedT):=Fast.tw4187177175401517315 q loose (importedModules p.main.body) Xt g0 s.abs
abbrev U1(Yt:SharedT->α)(Ya:World->α):Prop:=∀w os,U0 p N m₀ ann (λs=>((staticsOk (importedModules p.main.body) (boot_heap w.params) s.abs.heap&&namesBound p s.abs.heap&&gensDone s.abs&&laidKept (boot_heap w.params) s.abs.heap),Yt s,(V0 p q loose Xt g0 s).1)) (true,Ya w,expectedOf q) w os
abbrev U2:Prop:=∀w os,U0 p N m₀ ann (λs=>((V0 p q loose Xt g0 s).2.1,(V0 p q loose Xt g0 s).2.2.1)) (bltViewBooted,true) w os
abbrev U3:Prop:=∀w os,U0 p N m₀ ann (λs=>(V0 p q loose Xt g0 s).2.2.2.1) true w os
abbrev U4:Prop:=∀w os,U0 p N m₀ ann (λs=>((V0 p q loose Xt g0 s).2.2.2.2.1,(V0 p q loose Xt g0 s).2.2.2.2.2.2.1,(V0 p q loose Xt g0 s).2.2.2.2.2.2.2.2)) (pinGoodD (drecsOf q),plainGoodD q loose,clsGoodW q loose) w os
abbrev U5:Prop:=∀w os,U0 p N m₀ ann (λs=>(V0 p q loose Xt g0 s).2.2.2.2.2.2.2.1) (wideGood q) w os
abbrev U6:Prop:=∀w os,U0 p N m₀ ann (λs=>(V0 p q loose Xt g0 s).2.2.2.2.2.1) (plainGoodE q (Fast.tw821141287760084731 q loose)) w os
variable{p q loose Xt N m₀ ann g0}
def ZlB{Yf:Shared->α}{Yt:SharedT->α}{Ya:World->α}(hY:∀s,Yf s.abs=Yt s)
  (e:opening p=plainProg p.main.scope.names) (hN:Nat.ble 600 N=true) (f:∀s,fenceModules? p s=some s)
  (hz:∀w:World,((boot_heap w.params).isNs mainGlobals,(boot_heap w.params).objs.size,(boot_heap w.params).nsMap mainGlobals "__annotations__")=(true,m₀,ann))
  (h:U1 p q loose Xt N m₀ ann g0 Yt Ya) (hh:U2 p q loose Xt N m₀ ann g0) (g3:U3 p q loose Xt N m₀ ann g0) (g4:U4 p q loose Xt N m₀ ann g0) (g5:U5 p q loose Xt N m₀ ann g0) (g6:U6 p q loose Xt N m₀ ann g0) :
  LeftO p q loose Xt Yf Ya N g0:=λw=>by
 obtain ⟨s,x,B⟩:=Option.map_eq_some_iff.mp (boot_open e hN f w);unfold openEnds;rw [x];obtain ⟨t,g,d,k,b⟩:=s;obtain ⟨rfl,rfl,rfl,rfl⟩ : t=boot_heap w.params/\g=Array.mk []/\d=boot_drawn/\k=boot_toks:=by simpa using B
 obtain ⟨a,m,o⟩:=Option.map_eq_some_iff.mp (h w b);have n:(_:Option _).map _=_:=hh w b;have j:(_:Option _).map _=_:=g3 w b;have l:(_:Option _).map _=_:=g4 w b;have i:(_:Option _).map _=_:=g5 w b;have c:(_:Option _).map _=_:=g6 w b;rw [m] at n j l i c;rw [<-Yp] at m;unfold V0 at o n j l i c;rw [<-Fast.te4187177175401517315] at o n j l i c;rw [<-Fast.te821141287760084731] at c;have r:=iz m;rw [ZmE] at r;obtain ⟨E,A,y⟩ : _/\_/\_:=by simpa only [Prod.mk.injEq] using hz w
 obtain ⟨C,I,u⟩ : _/\_/\_:=by simpa only [Prod.mk.injEq] using o
 obtain ⟨z,D⟩ : _/\_:=by simpa only [Prod.mk.injEq] using CW n
 obtain ⟨H,G,v⟩ : _/\_/\_:=by simpa only [Prod.mk.injEq] using CW l
 have F:openSeen q loose (importedModules p.main.body) Xt g0 a.abs=openGood q loose:=Gn u (Gn z (Gn D (Gn (CW j) (Gn H (Gn (CW c) (Gn G (Gn (CW i) v)))))));show (topFrom treeTable p w N ⟨boot_heap w.params,Array.mk [],boot_drawn,boot_toks,b⟩).map _=_;unfold topFrom;dsimp only;rw [E]
 show (((topRun treeTable p w (boot_heap w.params).objs.size ((boot_heap w.params).nsMap mainGlobals "__annotations__") N ⟨boot_heap w.params,Array.mk [],boot_drawn,boot_toks,b⟩ (topStub p)).bind λa=>match staticsOk (importedModules p.main.body) (boot_heap w.params) a.heap&&namesBound p a.heap&&gensDone a&&laidKept (boot_heap w.params) a.heap with
   | true=>some a
   | false=>none).map _)=_
 rw [A,y,r]
 show ((match staticsOk (importedModules p.main.body) (boot_heap w.params) a.abs.heap&&namesBound p a.abs.heap&&gensDone a.abs&&laidKept (boot_heap w.params) a.abs.heap with
   | true=>some a.abs
   | false=>none).map _)=_
 rw [C];show some (openSeen q loose (importedModules p.main.body) Xt g0 a.abs,Yf a.abs)=_;rw [F,hY,I]
def l1:AT U1 (obsT addrs) (Hook.val hook):=λw a=>by kernel_rfl
def l2:AT U2:=λw a=>by kernel_rfl
def l3:AT U3:=λw a=>by kernel_rfl
def l4:AT U4:=λw a=>by kernel_rfl
def l5:AT U5:=λw a=>by kernel_rfl
def l6:AT U6:=λw a=>by kernel_rfl
def left:LeftO PySem.Challenge.pw_sampleyard_k64_whole_one_picture view ["paint","paint_tiles"] (λs=>xlAt view [] s&&recOk (RowW.records PySem.Challenge.rw_sampleyard_k64_whole_one_picture.row.toRowW) s) (Hook.obs hook) (Hook.val hook) most :=
 ZlB (vB addrs) (by kernel_rfl) (by decide) (λs=>by kernel_rfl) (λw=>by kernel_rfl) l1 l2 l3 l4 l5 l6
def okO:(chainsOk view&&opensWell PySem.Challenge.rw_sampleyard_k64_whole_one_picture.row.prog&&(frees PySem.Challenge.rw_sampleyard_k64_whole_one_picture.row.toRowW&&PySem.Challenge.rw_sampleyard_k64_whole_one_picture.row.within.isEmpty))=true:=by decide +kernel
def bar:PySem.Challenge.rw_sampleyard_k64_whole_one_picture.row.prog.bare:=⟨rfl,rfl,rfl,rfl,rfl,by decide +kernel⟩
end Hd
set_option maxHeartbeats 4000000
section
open PySem PySem.Spec PyProof.Rows
abbrev ND(x:PySem.Str):=(x==("__debug__" : PySem.Str))=false
abbrev NE(x:PySem.Str):=(x==("__classdict__" : PySem.Str))=false
namespace L2
inductive V where
 | non | bl (b:Bool) | int (i:Int) | str (x:Str) | ref (a:Addr) | ty (n:String)
 deriving DecidableEq
def RelV:V->Value->Prop
 | .non,u=>u=Value.none
 | .bl b,u=>u=Value.bool b
 | .int i,u=>∃t,u=Value.int i t
 | .str x,u=>∃t,u=Value.str x t
 | .ref a,u=>u=Value.ref a
 | .ty n,u=>u=Value.type n
abbrev Vals:List V->List Value->Prop:=Paired RelV
def Vals.length(r:Vals xs us):xs.length=us.length:=Paired.length r
def Vals.get:∀{xs:List V} {us:List Value} {i:Nat} {x:V},Vals xs us->xs[i]?=some x->∃u,us[i]?=some u/\RelV x u
 | _,_,_,_,.nil,e=>by simp at e
 | _,_,0,_,.cons r _,e=>by simp_all
 | _,_,i+1,x,.cons _ t,e=>by
  obtain ⟨u,a,b⟩:=Vals.get (i:=i) (x:=x) t (by ext);simp_all
def Vals.set(r:RelV x u):∀{xs:List V} {us:List Value} (i:Nat),Vals xs us->Vals (xs.set i x) (us.set i u)
 | _,_,_,.nil=>.nil
 | _,_,0,.cons _ t=>.cons r t
 | _,_,i+1,.cons q t=>.cons q (Vals.set r i t)
def Vals.append:∀{xs ys:List V} {us ws:List Value},Vals xs us->Vals ys ws->Vals (xs++ys) (us++ws)
 | _,_,_,_,.nil,s=>s
 | _,_,_,_,.cons r t,s=>.cons r (Vals.append t s)
def Vals.take:∀{xs:List V} {us:List Value} (n:Nat),Vals xs us->Vals (xs.take n) (us.take n)
 | _,_,0,_=>.nil
 | _,_,_+1,.nil=>.nil
 | _,_,n+1,.cons r t=>.cons r (Vals.take n t)
def Vals.drop:∀{xs:List V} {us:List Value} (n:Nat),Vals xs us->Vals (xs.drop n) (us.drop n)
 | _,_,0,r=>r
 | _,_,_+1,.nil=>.nil
 | _,_,n+1,.cons _ t=>Vals.drop n t
def RelO:Option V->Option Value->Prop
 | some v,some u=>RelV v u
 | none,none=>True
 | _,_=>False
inductive HO where
 | lst (xs:List V)
 | tup (xs:List V)
 | ins (C dx:Addr) (fs:List (Str×V))
 | own (x:Addr)
 | xd (fs:List (Str×V))
 | frz (o:Obj) (u:HO)
 | tbl (ps:Array Value)
 | ext (φ:Heap->Prop)
abbrev Hp:=Addr->Option HO
def upd(H:Hp)(a:Addr)(o:HO):Hp:=λb=>if b=a then some o else H b
def Ar:upd H a o a=some o:=by unfold upd;lia
def Af(h:b≠a):upd H a o b=H b:=by unfold upd;lia
def BZ{H:Hp}{a b:Addr}{o:HO}(h:H a=some o)(h':H b=none):a≠b:=by
 lia
section
variable(P:Program)(w:World)
def Ec(P:Program)(w:World)(H:Hp)(h:Heap)(a:Addr):HO->Prop
 | .lst c=>c.length<=sizeLine/\∃b n,Vals c b/\h.get? a=some { cls:=.type "list",data:=.seq b.toArray n }
 | .tup c=>c.length<=sizeLine/\∃b,Vals c b/\IsTup h a b.toArray
 | .ins C dx fs=>H dx=some (.own a)/\fs.length<=1000/\dx≠a/\h.get? a=some (W.instObj C dx) /\
   ∃d,h.Ns1 dx d/\(∀f,RelO (fs.lookup f) (d f))/\PySem.Within d (fs.map (·.1))
 | .own _=>∃o,h.get? a=some o
 | .xd fs=>∃d,h.Ns1 a d/\∀f,RelO (fs.lookup f) (d f)
 | .frz o u=>h.get? a=some o/\Ec P w H h a u
 | .tbl ps=>h.get? a=some { cls:=.none,data:=.fields ps }
 | .ext φ=>φ h/\(∃o,h.get? a=some o)/\∀j e,φ j->(∀o,j.get? a=some o->e.get? a=some o)->φ e
def HOk(H:Hp)(h:Heap):Prop:=∀a o,H a=some o->Ec P w H h a o
end
section
variable{P:Program}{w:World}{H H':Hp}{h h':Heap}{a:Addr}{o:HO}
def Ec.lt(x:Ec P w H h a o):a<h.objs.size:=by
 cases o with
 | lst xs=>obtain ⟨_,_,_,_,e⟩:=x;exact BP e
 | tup xs=>obtain ⟨_,_,_,p⟩:=x;exact p.lt
 | ins C dx fs=>obtain ⟨_,_,_,e,_⟩:=x;exact BP e
 | own y=>obtain ⟨_,e⟩:=x;exact BP e
 | xd fs=>obtain ⟨_,⟨_,_,_,e,_⟩,_⟩:=x;exact BP e
 | frz ob u=>obtain ⟨e,_⟩:=x;exact BP e
 | tbl ps=>exact BP (x)
 | ext φ=>obtain ⟨_,⟨_,e⟩,_⟩:=x;exact BP e
def Ec.stay(x:Ec P w H h a o)(k:∀b u,(b=a\/H b=some (.own a))->h.get? b=some u->h'.get? b=some u)(ho:∀b,H b=some (.own a)->H' b=some (.own a))(ht:∀b xs,H b=some (.tup xs)->H' b=some (.tup xs)):Ec P w H' h' a o:=by
 induction o with
 | lst xs=>obtain ⟨z,its,n,r,e⟩:=x;exact ⟨z,its,n,r,k _ _ (.inl rfl) e⟩
 | tup xs=>obtain ⟨z,its,r,g,e,c⟩:=x;exact ⟨z,its,r,g,k _ _ (.inl rfl) e,c⟩
 | ins C dx fs=>
  obtain ⟨d,z,s,e,l,⟨m,i,j,A,c⟩,r⟩:=x;exact ⟨ho _ d,z,s,k _ _ (.inl rfl) e,l,⟨m,i,j,k _ _ (.inr d) A,c⟩,r⟩
 | own y=>obtain ⟨g,e⟩:=x;exact ⟨g,k _ _ (.inl rfl) e⟩
 | xd fs=>obtain ⟨l,⟨m,i,j,e,c⟩,r⟩:=x;exact ⟨l,⟨m,i,j,k _ _ (.inl rfl) e,c⟩,r⟩
 | frz g u ih=>obtain ⟨e,q⟩:=x;exact ⟨k _ _ (.inl rfl) e,ih q⟩
 | tbl ps=>exact k _ _ (.inl rfl) x
 | ext φ=>obtain ⟨p,⟨o,e⟩,st⟩:=x;exact ⟨st _ _ p λo q=>k _ _ (.inl rfl) q,⟨o,k _ _ (.inl rfl) e⟩,st⟩
def HOk.lt(x:HOk P w H h)(e:H a=some o):a<h.objs.size:=(x a o e).lt
def HOk.fresh(x:HOk P w H h)(e:h.objs.size<=a):H a=none:=by
 cases q:H a with
 | none=>rfl
 | some u=>exact aB (Aw (x.lt q) e) (Kv _)
def HOk.kept(x:HOk P w H h)(k:∀b u,h.get? b=some u->h'.get? b=some u):HOk P w H h':=λa o e=>
 (x a o e).stay (λb u _ q=>k b u q) (λ_ q=>q) λ_ _ q=>q
def HOk.laid(x:HOk P w H h)(k:∀b u,h.get? b=some u->h'.get? b=some u)(hp:h.objs.size<=a)(new:Ec P w (upd H a o) h' a o):HOk P w (upd H a o) h':=λb u e=>by
 have d:=x.fresh hp;by_cases hb:b=a
 .subst hb;rw [Ar] at e;lia
 .rw [Af hb] at e;exact (x b u e).stay (λc v _ q=>k c v q) (λc q=>by rw [Af (BZ q d)];exact q) λc f q=>by rw [Af (BZ q d)];exact q
end
def Rd(H:Hp)(a:Addr)(u:HO):Prop:=H a=some u\/∃o,H a=some (.frz o u)
def Rd.ok(r:Rd H a u)(x:HOk P w H h):Ec P w H h a u:=by
 rcases r with r | ⟨o,r⟩
 .exact x a u r
 .obtain ⟨_,q⟩:=x a _ r;exact q
def Mut:Option HO->Prop
 | some (.lst _)=>True
 | some (.ins _ _ _)=>True
 | some (.ext _)=>True
 | _=>False
section
variable{P:Program}{w:World}{H:Hp}{h h':Heap}{x e:Addr}{o':HO}
def HOk.write(ok:HOk P w H h)(mu:Mut (H x))(he:e=x\/H e=some (.own x))(k:∀b u,b≠e->h.get? b=some u->h'.get? b=some u)(heo:∃u,h'.get? e=some u)(new:Ec P w (upd H x o') h' x o'):HOk P w (upd H x o') h':=λb u q=>by
 have d:∀c y,H c=some (.own y)->c≠x:=λc y r z=>by subst z;rw [r] at mu;exact mu
 have a:∀c f,H c=some (.tup f)->c≠x:=λc f r z=>by subst z;rw [r] at mu;exact mu
 by_cases hb:b=x
 .subst hb;rw [Ar] at q;lia
 .rw [Af hb] at q;by_cases hbe:b=e
  .have g:H b=some (.own x):=by
    lia
   rw [q] at g;cases g;obtain ⟨v,i⟩:=heo;exact ⟨v,by lia⟩
  .refine (ok b u q).stay (λc v j r=>k c v ?_ r) (λc r=>by rw [Af (d c b r)];exact r) λc f r=>by rw [Af (a c f r)];exact r
   grind
end
structure Un(fs ex:List Addr)(H H':Hp)(h h':Heap):Prop where
 keep:∀b o,h.get? b=some o->H b=none->b∉fs->b∉ex->h'.get? b=some o
 slot:∀b o,h.get? b=some o->H b=none->b∈fs->b∉ex->∃sl,h'.get? b=some { o with slots:=sl }
 free:∀b o,h.get? b=some o->H b=none->b∉ex->H' b=none
 there:∀b o,h.get? b=some o->b∉ex->∃o',h'.get? b=some o'
 tups:∀b xs,H b=some (.tup xs)->H' b=some (.tup xs)
 frzs:∀b o u,H b=some (.frz o u)->H' b=some (.frz o u)
 tbls:∀b ps,H b=some (.tbl ps)->∃more,H' b=some (.tbl (ps++more))
section
variable{fs fs' ex ex':List Addr}{H H1 H2:Hp}{h h1 h2 h':Heap}{a x e:Addr}{o:HO}
def Un.any(u:Un fs ex H H1 h h1)(q:h.get? b=some ob)(n:H b=none)(hx:b∉ex):∃sl,h1.get? b=some { ob with slots:=sl }:=by
 by_cases hb:b∈fs
 .exact u.slot b ob q n hb hx
 .exact ⟨ob.slots,u.keep b ob q n hb hx⟩
def Un.trans(a:Un fs ex H H1 h h1)(b:Un fs ex H1 H2 h1 h2):Un fs ex H H2 h h2 where
 keep:=λc d q n i e=>b.keep c d (a.keep c d q n i e) (a.free c d q n e) i e
 slot:=λc d q n i e=>by
  obtain ⟨o,f⟩:=a.slot c d q n i e;obtain ⟨l,m⟩:=b.slot c _ f (a.free c d q n e) i e;simp_all
 free:=λc d q n e=>by
  obtain ⟨j,f⟩:=a.there c d q e;exact b.free c j f (a.free c d q n e) e
 there:=λc d q e=>by
  obtain ⟨j,f⟩:=a.there c d q e;exact b.there c j f e
 tups:=λc g q=>b.tups c g (a.tups c g q)
 frzs:=λc d g q=>b.frzs c d g (a.frzs c d g q)
 tbls:=λc k q=>by
  obtain ⟨r,f⟩:=a.tbls c k q;obtain ⟨p,m⟩:=b.tbls c _ f
  grind
def Un.kept(k:∀b u,h.get? b=some u->h'.get? b=some u):Un fs ex H H h h' :=
 ⟨λb a q _ _ _=>k b a q,λb a q _ _ _=>⟨a.slots,k b a q⟩,λ_ _ _ n _=>n,λb a q _=>⟨a,k b a q⟩,λ_ _ q=>q,λ_ _ _ q=>q,λ_ c q=>⟨#[],by ext⟩⟩
def Un.refl:Un fs ex H H h h:=Un.kept λ_ _ q=>q
def Un.laid(k:∀b u,h.get? b=some u->h'.get? b=some u)(hp:h.objs.size<=a)(hn:H a=none):Un fs ex H (upd H a o) h h' where
 keep:=λb u q _ _ _=>k b u q
 slot:=λb u q _ _ _=>⟨u.slots,k b u q⟩
 free:=λb u q n _=>by rw [Af (Am (Aw (BP q) hp))];exact n
 there:=λb u q _=>⟨u,k b u q⟩
 tups:=λb c q=>by rw [Af (BZ q hn)];exact q
 frzs:=λb u c q=>by rw [Af (BZ q hn)];exact q
 tbls:=λb d q=>⟨#[],by rw [Af (BZ q hn),q];simp⟩
def Un.write(mu:Mut (H x))(he:e=x\/H e=some (.own x))(k:∀b u,b≠e->h.get? b=some u->h'.get? b=some u)(heo:∃u,h'.get? e=some u):Un fs ex H (upd H x o) h h':=by
 have f:∀b,H b=none->b≠x:=λb n z=>by subst z;rw [n] at mu;exact mu
 have c:∀b,H b=none->b≠e:=λb n z=>by
  lia
 have a:∀b u,H b=some u->¬Mut (some u)->b≠x:=λb u q g z=>by lia
 refine ⟨λb u q n _ _=>k b u (c b n) q,λb u q n _ _=>⟨u.slots,k b u (c b n) q⟩,λb u q n _=>by rw [Af (f b n)];exact n,λb u q _=>?_,
  λb d q=>by rw [Af (a b _ q λz=>z)];exact q,λb u d q=>by rw [Af (a b _ q λz=>z)];exact q,λb i q=>⟨#[],by rw [Af (a b _ q λz=>z),q];simp⟩⟩
 grind
def Un.mono(u:Un fs ex H H1 h h1)(hs:∀b∈fs,b∈fs')(hx:∀b∈ex,b∈ex'):Un fs' ex' H H1 h h1 :=
 ⟨λb c q n d a=>u.keep b c q n (λz=>d (hs b z)) λz=>a (hx b z),λ_ _ q n _ a=>u.any q n λz=>a (hx _ z),λb c q n a=>u.free b c q n λz=>a (hx b z),λb c q a=>u.there b c q λz=>a (hx b z),u.tups,u.frzs,u.tbls⟩
end
noncomputable def trk(h:Heap)(H:Hp):List Addr:=(List.range h.objs.size).filter λa=>(H a).isSome
def hidT(h:Heap)(H:Hp):Heap:=W.hideAll h (trk h H)
def sH(h)(H):(hidT h H).objs.size=h.objs.size:=W.hideAll_size _ _
def Zpc(e:h.get? b=some o)(n:H b=none):(hidT h H).get? b=some o :=
 W.hideAll_get _ e λa=>by
  have q:=(List.mem_filter.mp a).2;simp_all
def wj(e:(hidT h H).get? b=some o):h.get? b=some o/\H b=none:=by
 have a:=W.of_hideAll (trk h H) e;refine ⟨a,?_⟩;cases q:H b with
 | none=>rfl
 | some x=>
  have c:b∈trk h H:=List.mem_filter.mpr ⟨FP.mpr (BP a),by simp [q]⟩;have z:(hidT h H).get? b=none:=W.hideAll_none (trk h H) c
  lia
structure Mod(K:W1)(mg:MgT)(base:Heap):Prop where
 kin:K.In base
 glob:base.Ns mainGlobals mg
 blt:∃mb,base.Ns builtinsNs mb/\∀x:Str,x ≠ "__name__"->mb x=bootBuiltins x
 nolimit:base.NoLimit
structure Cx where
 p:Program
 w:World
 K:W1
 m:Str->Option Value
 B:Heap
 A:Around
 N:List Str
 s₀:Shared
 H₀:Hp
 v:Env
 outer:List Env
 k:List Env
 ex:List Addr
 fn:Str->Bool
 c:Bool
 pn:List (Addr×Obj)
 e:VS
noncomputable def frs(l:List Env):List Addr:=l.filterMap (·.frame)
abbrev Cx.fs(X:Cx):List Addr:=frs X.outer
def Dr(sc:Scope)(x:Str):Prop:=sc.names.lookup x=some .local\/sc.names.lookup x=some .cell\/sc.names.lookup x=some .free
def Loc(sc:Scope)(x:Str):Prop:=sc.names.lookup x=some .local\/sc.names.lookup x=some .cell
def Look(env:Env)(h:Heap)(m:Str->Option Value)(x:Str)(u:Value):Prop :=
 (env.kindOf x=some .local/\m x=some u)\/((env.kindOf x=some .cell\/env.kindOf x=some .free)/\∃c,env.cells.lookup x=some c/\h.IsCell c (some u))
structure Cx.Ok(X:Cx):Prop where
 mod:Mod X.K X.m X.B
 kind:X.v.scope.kind=.function
 glob:X.v.globals=mainGlobals
 blt:X.v.builtins=builtinsNs
 above:X.s₀.heap.objs.size<=X.v.locals
 inj:∀x y c,X.v.cells.lookup x=some c->X.v.cells.lookup y=some c->x=y
 has:∀x,(X.v.kindOf x=some .cell\/X.v.kindOf x=some .free)->∃c,X.v.cells.lookup x=some c
 cab:∀x c,X.fn x=true->X.v.cells.lookup x=some c->X.s₀.heap.objs.size<=c
 hd:X.c=true->X.A.handled=none
 frames:X.A.frames=some X.k
 stk:X.k=X.outer\/(X.k=X.v::X.outer/\X.v.frame=some X.v.locals)
 exf:∀b∈X.ex,b≠X.v.locals/\∀x c,X.v.cells.lookup x=some c->c≠b
 bs:∀b o,X.B.get? b=some o->X.s₀.heap.get? b=some o/\X.H₀ b=none
 bsz:X.B.objs.size<=X.s₀.heap.objs.size
 noex:∀b o,X.B.get? b=some o->b∉X.ex
 exfs:∀b∈X.ex,b∉X.fs
 funs:X.s₀.heap.FunFrames X.B X.outer
 frf:∀b∈X.fs,X.H₀ b=none
structure Inv(X:Cx)(pins:List (Addr×Obj))(Y:List (Option V))(H:Hp)(s:Shared):Prop where
 ok:X.Ok
 os:s.os=X.s₀.os
 bare:AllBare s.gens
 base:Un X.fs X.ex X.H₀ H X.s₀.heap s.heap
 loc:∃m,s.heap.Ns X.v.locals m/\∀(i:Nat) (x:Str) (v:V),X.N[i]?=some x->Y[i]?=some (some v)->Dr X.v.scope x->∃u,RelV v u/\Look X.v s.heap m x u
 cell:∀x c,X.v.cells.lookup x=some c->∃v,s.heap.IsCell c v
 free:H X.v.locals=none
 freeC:∀x c,X.v.cells.lookup x=some c->H c=none
 pin:∀p∈X.pn++pins,s.heap.get? p.1=some p.2/\H p.1=none/\p.1≠X.v.locals/\p.1∉X.fs/\∀v,p.2.data≠.cell v
 hok:HOk X.p X.w H s.heap
 len:Y.length=X.N.length
section
variable{X:Cx}{pins:List (Addr×Obj)}{Y:List (Option V)}{H H':Hp}{s:Shared}{h':Heap}
def Cx.Ok.nofr(ok:X.Ok)(e:X.B.get? b=some o):b∉X.fs:=λa=>by
 have:=(ok.funs.mem a).1
 lia
def Inv.bs(I:Inv X pins Y H s):∀b o,X.B.get? b=some o->s.heap.get? b=some o/\H b=none:=λb o e=>
 ⟨I.base.keep b o (I.ok.bs b o e).1 (I.ok.bs b o e).2 (I.ok.nofr e) (I.ok.noex b o e),I.base.free b o (I.ok.bs b o e).1 (I.ok.bs b o e).2 (I.ok.noex b o e)⟩
def Inv.bk(I:Inv X pins Y H s):∀b o,X.B.get? b=some o->s.heap.get? b=some o:=λb o e=>(I.bs b o e).1
def Inv.mod(I:Inv X pins Y H s):Mod X.K X.m X.B:=I.ok.mod
def Inv.kIn(I:Inv X pins Y H s):X.K.In s.heap:=I.ok.mod.kin.keeps I.bk
def Inv.lt(I:Inv X pins Y H s):X.v.locals<s.heap.objs.size:=let ⟨_,hn,_⟩:=I.loc;hn.lt
def Inv.sz(I:Inv X pins Y H s):X.s₀.heap.objs.size<=s.heap.objs.size:=Ak I.ok.above (Ay I.lt)
def Inv.nofs(I:Inv X pins Y H s)(h:s.heap.objs.size<=a):a∉X.fs:=λc=>by
 obtain ⟨_,o,b,_⟩:=I.ok.funs.mem c;exact aB (Aw (BP b) (Ak I.sz h)) (Kv _)
def Inv.cne(I:Inv X pins Y H s):∀x c,X.v.cells.lookup x=some c->c≠X.v.locals:=λx c e z=>by
 obtain ⟨v,o,g,d⟩:=I.cell x c e;obtain ⟨m,⟨i,h,f,b,a,_⟩,_⟩:=I.loc
 lia
def Inv.funs(I:Inv X pins Y H s):s.heap.FunFrames X.B X.outer:=by
 have c:∀l,(∀b∈frs l,b∈X.fs)->X.s₀.heap.FunFrames X.B l->s.heap.FunFrames X.B l:=by
  intro l
  induction l with
  | nil=>intro _ _;ext
  | cons env r ih=>
   intro g j;obtain ⟨n,⟨L,o,f,m,i,h⟩,k⟩:=j;have d:L∈X.fs:=g L (by unfold frs;simp_all);obtain ⟨p,e⟩:=I.base.slot L o i (I.ok.frf L d) d λz=>I.ok.exfs L z d;exact ⟨n,⟨L,_,f,m,e,h⟩,ih (λb a=>g b (by unfold frs;rw [List.filterMap_cons,f];exact List.mem_cons_of_mem _ a)) k⟩
 exact c X.outer (λ_ a=>a) I.ok.funs
def Inv.stack(I:Inv X pins Y H s):s.heap.FunFrames X.B X.k:=by
 rcases I.ok.stk with e | ⟨e,hf⟩
 .rw [e];exact I.funs
 .rw [e];obtain ⟨m,a,_⟩:=I.loc;refine .cons (by rw [I.ok.kind];decide) hf a ?_ I.funs;exact Heap.get?_none_of_le (Ak I.ok.bsz I.ok.above)
def Inv.stkSub(I:Inv X pins Y H s):∀b∈frs X.k,b∈X.v.locals::X.fs:=λb a=>by
 rcases I.ok.stk with e | ⟨e,hf⟩
 .simp_all
 .rw [e] at a;unfold frs at a;rw [U9,hf] at a;exact a
def Inv.stkFree(I:Inv X pins Y H s):∀b∈frs X.k,H b=none:=λb hb=>by
 rcases BV.mp (I.stkSub b hb) with e | hb
 .rw [e];exact I.free
 .obtain ⟨_,o,a,_⟩:=I.ok.funs.mem hb;exact I.base.free b o a (I.ok.frf b hb) λz=>I.ok.exfs b z hb
def Inv.step{g':Array GenState}{t':Nat}{d':Drawn}{ch:List Addr}(I:Inv X pins Y H s)(hch:∀b∈ch,(b∈X.ex\/X.s₀.heap.objs.size<=b)/\b≠X.v.locals/\(∀x c,X.v.cells.lookup x=some c->c≠b)/\∀p∈X.pn++pins,p.1≠b)(keep:∀b o,b≠X.v.locals->b∉X.fs->b∉ch->s.heap.get? b=some o->H b=none->h'.get? b=some o)(slot:∀b o,b≠X.v.locals->b∈X.fs->b∉ch->s.heap.get? b=some o->H b=none->∃sl,h'.get? b=some { o with slots:=sl })(free:∀b o,b∉ch->s.heap.get? b=some o->H b=none->H' b=none)(there:∀b o,b∉ch->s.heap.get? b=some o->∃o',h'.get? b=some o')(tups:∀b xs,H b=some (.tup xs)->H' b=some (.tup xs))(frzs:∀b o u,H b=some (.frz o u)->H' b=some (.frz o u))(tbls:∀b ps,H b=some (.tbl ps)->∃more,H' b=some (.tbl (ps++more)))(ns:∀m,s.heap.Ns X.v.locals m->h'.Ns X.v.locals m)(hok:HOk X.p X.w H' h')(hg:AllBare g') :
  Inv X pins Y H' { s with heap:=h',gens:=g',drawn:=d',toks:=t' }:=by
 have y:∀b o,X.s₀.heap.get? b=some o->b≠X.v.locals:=λb o e=>Am (Aw (BP e) I.ok.above);have j:∀b o,X.s₀.heap.get? b=some o->b∉X.ex->b∉ch:=λb o e a f=>by
  rcases (hch b f).1 with z | z
  .lia
  .exact aB (Aw (BP e) z) (Kv _)
 have g:∀x c,X.v.cells.lookup x=some c->∀v,s.heap.IsCell c v->h'.IsCell c v:=λx c e v ⟨o,t,B⟩=>by
  have A:=λz=>(hch c z).2.2.1 x c e rfl;by_cases hc:c∈X.fs
  .obtain ⟨sl,q⟩:=slot c o (I.cne x c e) hc A t (I.freeC x c e);exact ⟨_,q,B⟩
  .exact ⟨o,keep c o (I.cne x c e) hc A t (I.freeC x c e),B⟩
 refine ⟨I.ok,I.os,hg,⟨λb o e n f a=>?_,λb o e n f a=>?_,λb o e n a=>?_,λb o e a=>?_,λb xs e=>tups b xs (I.base.tups b xs e),λb o xs e=>frzs b o xs (I.base.frzs b o xs e),λb ps e=>?_⟩,?_,λx c e=>?_,?_,λx c e=>?_,λp D=>?_,hok,I.len⟩
 .exact keep b o (y b o e) f (j b o e a) (I.base.keep b o e n f a) (I.base.free b o e n a)
 .obtain ⟨sl,h⟩:=I.base.slot b o e n f a;obtain ⟨J,C⟩:=slot b _ (y b o e) f (j b o e a) h (I.base.free b o e n a);simp_all
 .obtain ⟨o',h⟩:=I.base.there b o e a;exact free b o' (j b o e a) h (I.base.free b o e n a)
 .obtain ⟨o',h⟩:=I.base.there b o e a;simp_all
 .obtain ⟨L,h⟩:=I.base.tbls b ps e
  grind
 .obtain ⟨m,F,E⟩:=I.loc;refine ⟨m,ns m F,λi x v h C G=>?_⟩;obtain ⟨u,r,l⟩:=E i x v h C G;refine ⟨u,r,?_⟩;rcases l with l | ⟨k,c,e,z⟩
  .exact .inl l
  .exact .inr ⟨k,c,e,g x c e _ z⟩
 .obtain ⟨v,z⟩:=I.cell x c e
  grind
 .obtain ⟨m,⟨o,_,_,t,_⟩,_⟩:=I.loc;exact free _ o (λz=>(hch _ z).2.1 rfl) t I.free
 .obtain ⟨v,o,t,B⟩:=I.cell x c e;exact free c o (λz=>(hch c z).2.2.1 x c e rfl) t (I.freeC x c e)
 .obtain ⟨e,n,K,M,d⟩:=I.pin p D
  grind
def Inv.un{t':Nat}(I:Inv X pins Y H s)(u:Un X.fs [] H H' s.heap h')(hok:HOk X.p X.w H' h'):Inv X pins Y H' { s with heap:=h',toks:=t' }:=by
 obtain ⟨m,⟨o,k,q,g,r⟩,_⟩:=id I.loc;obtain ⟨t,j⟩:=u.any g I.free (by simp)
 exact I.step (ch:=[]) (λ_ z=>nomatch z) (λb o _ c _ e n=>u.keep b o e n c (by simp)) (λb o _ c _ e n=>u.slot b o e n c (by simp)) (λb o _ e n=>u.free b o e n (by simp)) (λb o _ e=>u.there b o e (by simp)) u.tups u.frzs u.tbls (λp i=>by
  obtain ⟨l,f,d,a,h⟩:=i;rw [g] at a;cases a
  exact ⟨_,f,d,j,h⟩) hok I.bare
def Inv.call{g':Array GenState}{t':Nat}{d':Drawn}{ch:List Addr}(I:Inv X pins Y H s)(u:Un (frs X.k) ch H H' s.heap h')(hok:HOk X.p X.w H' h')(hg:AllBare g')(hch:∀b∈ch,(b∈X.ex\/X.s₀.heap.objs.size<=b)/\b≠X.v.locals/\(∀x c,X.v.cells.lookup x=some c->c≠b)/\∀p∈X.pn++pins,p.1≠b) :
  Inv X pins Y H' { s with heap:=h',gens:=g',drawn:=d',toks:=t' }:=by
 obtain ⟨m,⟨o,q,y,i,r⟩,_⟩:=id I.loc;obtain ⟨A,f⟩:=u.any i I.free λz=>(hch _ z).2.1 rfl
 exact I.step hch (λb o f k a e n=>u.keep b o e n (λz=>(BV.mp (I.stkSub b z)).elim f k) a) (λb o _ _ a e n=>u.any e n a) (λb o a e n=>u.free b o e n a) (λb o a e=>u.there b o e a) u.tups u.frzs u.tbls (λv l=>by
  obtain ⟨t,h,g,d,j⟩:=l;rw [i] at d;cases d
  exact ⟨_,h,g,f,j⟩) hok hg
def Inv.turned{t':Nat}{it:Addr}(I:Inv X pins Y H s)(k:∀b o,b≠it->s.heap.get? b=some o->h'.get? b=some o)(hn:H it=none)(hL:it≠X.v.locals)(h1:it∈X.ex\/X.s₀.heap.objs.size<=it)(h2:∀x c,X.v.cells.lookup x=some c->c≠it)(h3:∀p∈X.pn++pins,p.1≠it):Inv X pins Y H { s with heap:=h',toks:=t' }:=by
 have i:∀b u,H b=some u->b≠it:=λb u e z=>by lia
 refine I.step (ch:=[it]) (λb j=>?_) (λb o _ _ a e _=>k b o (λz=>a (by simp [z])) e) (λb o _ _ a e _=>⟨o.slots,k b o (λz=>a (by simp [z])) e⟩) (λ_ _ _ _ n=>n)
  (λb o a e=>⟨o,k b o (λz=>a (by simp [z])) e⟩) (λ_ _ e=>e) (λ_ _ _ e=>e) (λb l e=>⟨#[],by ext⟩) (λm g=>?_) (λb u e=>?_) I.bare
 .grind
 .obtain ⟨o,f,h,d,r⟩:=g;exact ⟨o,f,h,k _ o (Ne.symm hL) d,r⟩
 .refine (I.hok b u e).stay (λc v a q=>k c v ?_ q) (λ_ q=>q) λ_ _ q=>q
  lia
def Inv.tok(I:Inv X pins Y H s)(t):Inv X pins Y H { s with toks:=t }:=I.un (h':=s.heap) (t':=t) Un.refl I.hok
def Inv.kept(I:Inv X pins Y H s)(k:∀b u,s.heap.get? b=some u->h'.get? b=some u):Inv X pins Y H { s with heap:=h',toks:=t' }:=I.un (Un.kept k) (I.hok.kept k)
def Inv.laid(I:Inv X pins Y H s)(k:∀b u,s.heap.get? b=some u->h'.get? b=some u)(hp:s.heap.objs.size<=a)(new:Ec X.p X.w (upd H a o) h' a o) :
  Inv X pins Y (upd H a o) { s with heap:=h',toks:=t' }:=I.un (Un.laid k hp (I.hok.fresh hp)) (I.hok.laid k hp new)
def Inv.write(I:Inv X pins Y H s)(mu:Mut (H x))(he:e=x\/H e=some (.own x))(k:∀b u,b≠e->s.heap.get? b=some u->h'.get? b=some u)(heo:∃u,h'.get? e=some u)(new:Ec X.p X.w (upd H x o) h' x o):Inv X pins Y (upd H x o) { s with heap:=h',toks:=t' }:=I.un (Un.write mu he k heo) (I.hok.write mu he k heo new)
def Inv.weak{Y':List (Option V)}(I:Inv X pins Y H s)(hl:Y'.length=Y.length)(w:∀(i:Nat) v,Y'[i]?=some (some v)->Y[i]?=some (some v)):Inv X pins Y' H s :=
 ⟨I.ok,I.os,I.bare,I.base,let ⟨m,hn,hl'⟩:=I.loc;⟨m,hn,λi x v a c b=>hl' i x v a (w i v c) b⟩,I.cell,I.free,I.freeC,I.pin,I.hok,hl.trans I.len⟩
def Inv.pins_of(I:Inv X pins Y H s)(h:∀p∈pins',s.heap.get? p.1=some p.2/\H p.1=none/\p.1≠X.v.locals/\p.1∉X.fs/\∀v,p.2.data≠.cell v):Inv X pins' Y H s :=
 ⟨I.ok,I.os,I.bare,I.base,I.loc,I.cell,I.free,I.freeC,λp a=>(Gv.mp a).elim (λz=>I.pin p (QL _ z)) (h p),I.hok,I.len⟩
def QT{N:List Str}(hN:N.Nodup){i j:Nat}{x:Str}(a:N[i]?=some x)(b:N[j]?=some x):i=j:=by
 obtain ⟨e,d⟩:=Dc.mp a;obtain ⟨f,c⟩:=Dc.mp b;exact (List.getElem_inj hN).mp (d.trans c.symm)
abbrev FnL(X:Cx)(x:Str):Prop:=X.fn x=true\/X.v.scope.names.lookup x=some .local
def ZnJ(I:Inv X pins Y H s)(hN:X.N.Nodup)(hi:X.N[i]?=some x)(hx:Loc X.v.scope x)(r:RelV v u)(h:∀s',Inv X pins (Y.set i (some v)) H s'->(∃a,Hb0 a s.heap s'.heap/\(a=X.v.locals\/X.v.cells.lookup x=some a))->Q () s')(hf:FnL X x:=by walk_at "ff"):wpAny M A (storeName X.v x u) Q E s:=by
 obtain ⟨m,hn,hl⟩:=id I.loc;have hcls:(X.v.scope.kind==.class||(X.v.scope.kind==.module&&X.v.locals != X.v.globals))=false:=by rw [I.ok.kind];rfl
 have hiσ:i<Y.length:=by rw [I.len];grind
 have cne:=I.cne;have tracked:∀{a:Addr} {h':Heap},(∃o,s.heap.get? a=some o/\H a=none)->Hb0 a s.heap h'->HOk X.p X.w H h':=λ{a h'} ha hs b ob e=>by
  obtain ⟨_,_,hfree⟩:=ha;refine (I.hok b ob e).stay (λc w' hc q=>(hs.2 c ?_).trans q) (λ_ q=>q) λ_ _ q=>q
  lia
 rcases hx with hk | hk
 .refine wpAny_storeName_local hk hn (λh' hn' hs=>?_) hcls;obtain ⟨oL,_,_,hoL,_⟩:=id hn;refine h _ ⟨I.ok,I.os,I.bare,⟨λb o e n hb hx=>?_,λb o e n hb hx=>?_,I.base.free,λb o e hx=>?_,I.base.tups,I.base.frzs,I.base.tbls⟩,⟨_,hn',λj y v' e1 e2 e3=>?_⟩,λy c e=>?_,I.free,I.freeC,λp hp=>?_,tracked ⟨oL,hoL,I.free⟩ hs,by simpa using I.len⟩ ⟨_,hs,.inl rfl⟩
  .exact (hs.2 b (Am (Aw (BP e) I.ok.above))).trans (I.base.keep b o e n hb hx)
  .obtain ⟨sl,e1⟩:=I.base.slot b o e n hb hx;exact ⟨sl,(hs.2 b (Am (Aw (BP e) I.ok.above))).trans e1⟩
  .obtain ⟨o',e1⟩:=I.base.there b o e hx;exact ⟨o',(hs.2 b (Am (Aw (BP e) I.ok.above))).trans e1⟩
  .by_cases hj:j=i
   .subst hj;rw [hi] at e1;cases e1;rw [List.getElem?_set_self hiσ] at e2;cases e2;exact ⟨u,r,.inl ⟨hk,by simp⟩⟩
   .rw [List.getElem?_set_ne (Ne.symm hj)] at e2;obtain ⟨u',r',q⟩:=hl j y v' e1 e2 e3;refine ⟨u',r',?_⟩;rcases q with ⟨k,e⟩ | ⟨k,c,e,z⟩
    .refine .inl ⟨k,?_⟩;have:y≠x:=λe=>hj (QT hN e1 (e▸hi))
     lia
    .exact .inr ⟨k,c,e,z.sameBut hs (cne y c e)⟩
  .obtain ⟨w',z⟩:=I.cell y c e;exact ⟨w',z.sameBut hs (cne y c e)⟩
  .obtain ⟨e,n,ne,nf,d⟩:=I.pin p hp;exact ⟨(hs.2 p.1 ne).trans e,n,ne,nf,d⟩
 .have hfn:X.fn x=true:=by
   lia
  obtain ⟨c,hc⟩:=I.ok.has x (.inl hk);obtain ⟨w',z⟩:=I.cell x c hc;refine wpAny_storeName_cell I.ok.kind hk hc z (λh' hc' hs=>?_);obtain ⟨oc,hoc,hocd⟩:=id z;refine h (sH0 s h') ⟨I.ok,I.os,I.bare,⟨λb o e n hb hx=>?_,λb o e n hb hx=>?_,I.base.free,λb o e hx=>?_,I.base.tups,I.base.frzs,I.base.tbls⟩,⟨m,hn.sameBut hs (Ne.symm (cne x c hc)),λj y v' e1 e2 e3=>?_⟩,λy c' e=>?_,I.free,I.freeC,λp hp=>?_,tracked ⟨oc,hoc,I.freeC x c hc⟩ hs,by simpa using I.len⟩ ⟨c,hs,.inr hc⟩
  .exact (hs.2 b (Am (Aw (BP e) (I.ok.cab x c hfn hc)))).trans (I.base.keep b o e n hb hx)
  .obtain ⟨sl,e1⟩:=I.base.slot b o e n hb hx;exact ⟨sl,(hs.2 b (Am (Aw (BP e) (I.ok.cab x c hfn hc)))).trans e1⟩
  .obtain ⟨o',e1⟩:=I.base.there b o e hx;exact ⟨o',(hs.2 b (Am (Aw (BP e) (I.ok.cab x c hfn hc)))).trans e1⟩
  .by_cases hj:j=i
   .subst hj;rw [hi] at e1;cases e1;rw [List.getElem?_set_self hiσ] at e2;cases e2;exact ⟨u,r,.inr ⟨.inl hk,c,hc,hc'⟩⟩
   .rw [List.getElem?_set_ne (Ne.symm hj)] at e2;obtain ⟨u',r',q⟩:=hl j y v' e1 e2 e3;refine ⟨u',r',?_⟩;rcases q with q | ⟨k,c',e,z'⟩
    .exact .inl q
    .refine .inr ⟨k,c',e,z'.sameBut hs ?_⟩;rintro rfl;exact hj (QT hN e1 (I.ok.inj _ _ _ e hc▸hi))
  .by_cases hcc:c'=c
   .grind
   .obtain ⟨w2,z2⟩:=I.cell y c' e;exact ⟨w2,z2.sameBut hs hcc⟩
  .obtain ⟨e,n,ne,nf,d⟩:=I.pin p hp;refine ⟨(hs.2 p.1 ?_).trans e,n,ne,nf,d⟩
   grind
def We(I:Inv X pins Y H s)(hN:X.N.Nodup)(hi:X.N[i]?=some x)(hx:Loc X.v.scope x)(r:RelV v u)(h:∀s',Inv X pins (Y.set i (some v)) H s'->Q () s')(hf:FnL X x:=by walk_at "ff"):wpAny M A (storeName X.v x u) Q E s :=
 ZnJ I hN hi hx r (λs' I' _=>h s' I') hf
def Inv.call'(I:Inv X pins Y H s)(ho:s'.os=s.os)(u:Un (frs X.k) ch H H' s.heap s'.heap)(hok:HOk X.p X.w H' s'.heap)(hg:AllBare s'.gens)(hch:∀b∈ch,(b∈X.ex\/X.s₀.heap.objs.size<=b)/\b≠X.v.locals/\(∀x c,X.v.cells.lookup x=some c->c≠b)/\∀p∈X.pn++pins,p.1≠b):Inv X pins Y H' s':=by
 obtain ⟨d,f,h,a,g⟩:=s';have e:=ho;subst e;exact I.call u hok hg hch
end
abbrev XK:=Value->Option Addr->Hp->Prop
abbrev St:=List (Option V)
abbrev VK:=V->Hp->Prop
abbrev TE:=St->Hp->VK->Prop
abbrev TT:=St->Hp->(Bool->Hp->Prop)->Prop
abbrev TA:=St->Hp->(List V->Hp->Prop)->Prop
structure Ends where
 nx:St->Hp->Prop
 rt:VK
 bk:St->Hp->Prop:=λ_ _=>False
 ct:St->Hp->Prop:=λ_ _=>False
abbrev TS:=Ends->St->Hp->Prop
def EP(X:Cx)(pins:List (Addr×Obj))(Y:St)(Q:VK)(u:Value)(s':Shared):Prop:=∃v a,Inv X pins Y a s'/\RelV v u/\Q v a
def TP(X:Cx)(pins:List (Addr×Obj))(Y:St)(Q:Bool->Hp->Prop)(b:Bool)(s':Shared):Prop:=∃a,Inv X pins Y a s'/\Q b a
def AP(X:Cx)(pins:List (Addr×Obj))(Y:St)(Q:List V->Hp->Prop)(us:List Value)(s':Shared):Prop:=∃b a,Inv X pins Y a s'/\Vals b us/\Q b a
def SP(X:Cx)(pins:List (Addr×Obj))(D:Ends)(f:Flow)(s':Shared):Prop :=
 match f with
 | .next=>∃b a,Inv X pins b a s'/\D.nx b a
 | .brk=>∃b a,Inv X pins b a s'/\D.bk b a
 | .cont=>∃b a,Inv X pins b a s'/\D.ct b a
 | .ret u=>∃v b a,Inv X pins b a s'/\RelV v u/\D.rt v a
abbrev wX{α}(X:Cx):=@wpAny α (model X.p X.w) X.A
def PE(X:Cx)(e:Expr)(t:TE):Prop :=
 ∀a s Y H Q,Inv X a Y H s->t Y H Q->wX X (eval e X.v) (EP X a Y Q) X.e s
def PT(X:Cx)(e:Expr)(t:TT):Prop :=
 ∀a s Y H Q,Inv X a Y H s->t Y H Q->wX X (isTrue e X.v (eval e X.v)) (TP X a Y Q) X.e s
def PW(X:Cx)(e:Expr)(t:TT):Prop :=
 ∀b a s Y H Q,Inv X a Y H s->t Y H Q->wX X (isTrue e X.v b) (TP X a Y Q) X.e s
def PW.pt(h:PW X e t):PT X e t:=h _
def PA(X:Cx)(es:List Expr)(t:TA):Prop :=
 ∀b a s Y H Q,Inv X a Y H s->t Y H Q->wX X (spliced (backTo b (starEach es X.v))) (AP X a Y Q) X.e s
def PS(X:Cx)(st:Stmt)(t:TS):Prop :=
 ∀a s Y H D,Inv X a Y H s->t D Y H->wX X (exec st X.v) (SP X a D) X.e s
def PSs(X:Cx)(st:List Stmt)(t:TS):Prop :=
 ∀a s Y H D,Inv X a Y H s->t D Y H->wX X (execs st X.v) (SP X a D) X.e s
def thn(h:wpAny M A t Q E s)(hQ:∀a s,Q a s->Q' a s):wpAny M A t Q' E s:=Ce h hQ λ_ _ x=>x
section
variable{X:Cx}
def tVar(i:Nat):TE:=λY H Q=>∃v,Y[i]?=some (some v)/\Q v H
def tC(v:V):TE:=λ_ H Q=>Q v H
def Ek(hN:X.N[i]?=some x)(hv:Dr X.v.scope x)(hd:ND x:=by decide)(hcd:NE x:=by decide):PE X (.Name x pos) (tVar i):=by
 intro b s Y H Q I h;obtain ⟨v,e,h⟩:=h;obtain ⟨m,f,d⟩:=I.loc;obtain ⟨u,r,l⟩:=d i x v hN e hv;have a:EP X b Y Q u s:=⟨v,H,I,r,h⟩;rcases l with ⟨hk,hm⟩ | ⟨hk,c,hc,hcell⟩
 .exact wpAny_Name (wpAny_loadName_local I.ok.kind hk f hm a) hd
 .rcases hk with hk | hk
  .exact wpAny_Name (wpAny_loadName_cell I.ok.kind hk hc hcell a) hd
  .exact wpAny_Name (wpAny_loadName_free I.ok.kind hk hc hcell a hcd) hd
def Zm{i j pos}:PE X (.Constant (.int i) j pos) (tC (.int i)):=λ_ _ _ H _ I h=>wpAny_Constant_int ⟨.int i,H,I.tok _,⟨_,rfl⟩,h⟩
def Zyq{b j pos}:PE X (.Constant (.bool b) j pos) (tC (.bl b)):=λ_ _ _ H _ I h=>Constant_bool ⟨.bl b,H,I,rfl,h⟩
def Vz{j pos}:PE X (.Constant .none j pos) (tC .non):=λ_ _ _ H _ I h=>Constant_none ⟨.non,H,I,rfl,h⟩
def Gl(X:Cx)(x:Str):Prop:=X.v.kindOf x=some .globalImplicit
def Tf(I:Inv X pins Y H s)(hg:Gl X x)(hm:X.m x=some u)(h:Q u s)(hd:ND x:=by decide):wX X (eval (.Name x pos) X.v) Q E s :=
 Calls.Name_function_global I.ok.kind hg (Calls.loadGlobal_global (by rw [I.ok.glob];exact I.mod.glob.keeps I.bk) hm h) hd
def Hl(I:Inv X pins Y H s)(hg:Gl X x)(hm:X.m x=none)(hv:bootBuiltins x=some u)(h:Q u s)(hn:x ≠ "__name__":=by decide)(hd:ND x:=by decide):wX X (eval (.Name x pos) X.v) Q E s:=by
 obtain ⟨c,a,b⟩:=I.mod.blt;exact Calls.Name_function_global I.ok.kind hg (Calls.loadGlobal_builtin (by rw [I.ok.glob];exact I.mod.glob.keeps I.bk) hm (by rw [I.ok.blt];exact a.keeps I.bk) ((b x hn).trans hv) h) hd
def Uu(hg:Gl X x)(hm:X.m x=some u)(r:RelV v u)(hd:ND x:=by decide):PE X (.Name x pos) (tC v) :=
 λ_ _ _ H _ I h=>Tf I hg hm ⟨v,H,I,r,h⟩ hd
def rF(hg:Gl X x)(hm:X.m x=none)(hv:bootBuiltins x=some u)(r:RelV v u)(hn:x ≠ "__name__":=by decide)(hd:ND x:=by decide):PE X (.Name x pos) (tC v) :=
 λ_ _ _ H _ I h=>Hl I hg hm hv ⟨v,H,I,r,h⟩ hn hd
variable{a b:Expr}{ta tb:TE}{pos:Pos}
def tB(t:TE):TT:=λY H Q=>t Y H λx a=>∃c,x=.bl c/\Q c a
def Zww(h:PE X e t)(he:∀whole,isTrue e X.v whole=(do let v <-whole;standAt e.pos;holding [v] (truthy v)):=by intro _;rfl):PT X e (tB t):=by
 intro a s Y H Q I b;refine isTrue_plain (thn (h a s Y H _ I b) λv j zq=>?_) (he _);obtain ⟨x,c,i,f,g⟩:=zq;obtain ⟨d,rfl,q⟩:=g;cases f;exact wpAny_truthy_bool ⟨c,i,q⟩
variable{tA tB':TT}{rest:List Expr}
def tAnd(t u:TT):TT:=λY H Q=>t Y H λc a=>if c=true then u Y a Q else Q false a
def tOr(t u:TT):TT:=λY H Q=>t Y H λc a=>if c=true then Q true a else u Y a Q
def tNot(t:TT):TT:=λY H Q=>t Y H λc a=>Q (!c) a
def zB(ha:PT X a tA):PW X (.BoolOp .And [a] pos) tA:=by
 intro d b s Y H Q I h;refine isTrue_and (thn (ha b s Y H Q I h) λc f e=>?_);cases c with
 | true=>exact isTrue_and_nil e
 | false=>exact e
def yj(ha:PT X a tA):PW X (.BoolOp .Or [a] pos) tA:=by
 intro d b s Y H Q I h;refine isTrue_or (thn (ha b s Y H Q I h) λc f e=>?_);cases c with
 | false=>exact isTrue_or_nil e
 | true=>exact e
def wD(ha:PT X a tA)(hb:PW X (.BoolOp .And (b::rest) pos) tB'):PW X (.BoolOp .And (a::b::rest) pos) (tAnd tA tB'):=by
 intro i d s Y H Q I h;refine isTrue_and (thn (ha d s Y H _ I h) λc j zq=>?_);obtain ⟨e,g,f⟩:=zq;cases c with
 | true=>exact hb i d j Y e Q g f
 | false=>exact ⟨e,g,f⟩
def rm(ha:PT X a tA)(hb:PW X (.BoolOp .Or (b::rest) pos) tB'):PW X (.BoolOp .Or (a::b::rest) pos) (tOr tA tB'):=by
 intro i d s Y H Q I h;refine isTrue_or (thn (ha d s Y H _ I h) λc j zq=>?_);obtain ⟨e,g,f⟩:=zq;cases c with
 | true=>exact ⟨e,g,f⟩
 | false=>exact hb i d j Y e Q g f
def ZuQ(ha:PT X a tA):PT X (.UnaryOp .Not a pos) (tNot tA):=by
 intro b s Y H Q I h;exact isTrue_not (ha b s Y H (λc d=>Q (!c) d) I h)
def Xj(ta tb:TE):TE:=λY H Q=>ta Y H λx a=>∃c,x=.bl c/\if c=true then tb Y a Q else Q (.bl false) a
def VN(ta:TE):TE:=λY H Q=>ta Y H λx a=>∃c,x=.bl c/\Q (.bl (!c)) a
def xj{op}(h:PE X a t):PE X (.BoolOp op [a] pos) t:=λb s Y H Q I c=>BoolOp_one (h b s Y H Q I c)
def yr(ha:PE X a ta)(hb:PE X (.BoolOp .And (b::rest) pos) tb):PE X (.BoolOp .And (a::b::rest) pos) (Xj ta tb):=by
 intro d s Y H Q I h;refine BoolOp_and (thn (ha d s Y H _ I h) λv j zq=>?_);obtain ⟨x,f,g,i,e⟩:=zq;obtain ⟨c,rfl,e⟩:=e;cases i;refine wpAny_truthy_bool ?_;cases c with
 | true=>exact hb d j Y f Q g e
 | false=>exact ⟨.bl false,f,g,rfl,e⟩
def uL(ha:PE X a ta):PE X (.UnaryOp .Not a pos) (VN ta):=by
 intro b s Y H Q I h;refine UnaryOp_ (thn (ha b s Y H _ I h) λv i zq=>?_);obtain ⟨x,e,g,f,d⟩:=zq;obtain ⟨c,rfl,d⟩:=d;cases f;exact not_of (wpAny_truthy_bool ⟨.bl (!c),e,g,rfl,d⟩)
def tIf(t:TT)(ta tb:TE):TE:=λY H Q=>t Y H λc a=>if c=true then ta Y a Q else tb Y a Q
def mj(hc:PT X c tA)(ha:PE X a ta)(hb:PE X b tb):PE X (.IfExp c a b pos) (tIf tA ta tb):=by
 intro e s Y H Q I h;refine wpAny_IfExp (thn (hc e s Y H _ I h) λd i zq=>?_);obtain ⟨f,j,g⟩:=zq;cases d with
 | true=>exact ha e i Y f Q j g
 | false=>exact hb e i Y f Q j g
end
def SqL(K:W1)(H:Hp)(a:Addr)(xs:List V):Prop :=
 Rd H a (.lst xs) \/
  ∃o b n,K.lookup a=some o/\o.cls=.type "list"/\o.dict=none/\o.data=.seq b n/\b.size<=sizeLine/\Vals xs b.toList
def SqT(K:W1)(H:Hp)(a:Addr)(xs:List V):Prop :=
 Rd H a (.tup xs) \/
  ∃o b n,K.lookup a=some o/\o.cls=.type "tuple"/\o.data=.seq b n/\b.size<=sizeLine/\Vals xs b.toList
noncomputable def absV:Value->Option V
 | .none=>some .non
 | .bool b=>some (.bl b)
 | .int i _=>some (.int i)
 | .str x _=>some (.str x)
 | .ref a=>some (.ref a)
 | .type n=>some (.ty n)
 | _=>none
def RelV.abs(r:RelV x u):absV u=some x:=by
 cases x with
 | non=>cases r;rfl
 | bl _=>cases r;rfl
 | int _=>obtain ⟨t,rfl⟩:=r;rfl
 | str _=>obtain ⟨t,rfl⟩:=r;rfl
 | ref _=>cases r;rfl
 | ty _=>cases r;rfl
def RelV.inj(r:RelV x u)(q:RelV y u):x=y:=CW (r.abs.symm.trans q.abs)
def Vals.inj:∀{xs ys:List V} {us:List Value},Vals xs us->Vals ys us->xs=ys
 | _,_,_,.nil,.nil=>rfl
 | _,_,_,.cons r t,.cons r' t'=>by rw [r.inj r',Vals.inj t t']
section
variable{X:Cx}{pins:List (Addr×Obj)}{Y:St}{H:Hp}{s:Shared}{a:Addr}{xs ys:List V}
def SqL.of{K:W1}(h:H a=some (.lst xs)):SqL K H a xs:=.inl (.inl h)
def SqT.of{K:W1}(h:H a=some (.tup xs)):SqT K H a xs:=.inl (.inl h)
def Inv.list(I:Inv X pins Y H s)(h:SqL X.K H a xs):∃its,Vals xs its/\PlainL s.heap a its.toArray/\xs.length<=sizeLine:=by
 rcases h with h | ⟨o,its,n,hk,hc,hd,hs,hz,r⟩
 .obtain ⟨z,its,n,r,e⟩:=h.ok I.hok;exact ⟨its,r,⟨_,n,e,rfl,rfl,rfl⟩,z⟩
 .refine ⟨its.toList,r,⟨o,n,I.kIn a o hk,hc,hd,by ext⟩,?_⟩;have e:=r.length;simp_all
def Inv.tuple(I:Inv X pins Y H s)(h:SqT X.K H a xs):∃its,Vals xs its/\IsTup s.heap a its.toArray/\xs.length<=sizeLine:=by
 rcases h with h | ⟨o,its,n,hk,hc,hs,hz,r⟩
 .obtain ⟨z,its,r,p⟩:=h.ok I.hok
  grind
 .refine ⟨its.toList,r,⟨o,I.kIn a o hk,hc,n,by ext⟩,?_⟩;have e:=r.length;simp_all
def Inv.list_inj(I:Inv X pins Y H s)(h:SqL X.K H a xs)(h':SqL X.K H a ys):xs=ys:=by
 obtain ⟨c,r,⟨o,n,e,_,_,d⟩,_⟩:=I.list h;obtain ⟨b,i,⟨k,j,g,_,_,f⟩,_⟩:=I.list h';rw [e] at g;cases g;rw [d] at f;injection f with d1 _
 have:c=b:=by lia
 subst this;exact r.inj i
def Inv.tuple_inj(I:Inv X pins Y H s)(h:SqT X.K H a xs)(h':SqT X.K H a ys):xs=ys:=by
 obtain ⟨c,r,⟨o,e,_,n,d⟩,_⟩:=I.tuple h;obtain ⟨b,i,⟨k,g,_,j,f⟩,_⟩:=I.tuple h';rw [e] at g;cases g;rw [d] at f;injection f with d1 _
 have:c=b:=by lia
 subst this;exact r.inj i
end
section
variable{X:Cx}{st:Stmt}{rest:List Stmt}{t u:TS}{e:Expr}{te:TE}{pos:Pos}
def JR:TS:=λD Y H=>D.nx Y H
def tSeq(t u:TS):TS:=λD Y H=>t { D with nx:=u D } Y H
def Ru:PSs X [] JR:=λ_ _ Y H _ I h=>wpAny_execs_nil ⟨Y,H,I,h⟩
def Gh(h1:PS X st t)(h2:PSs X rest u):PSs X (st::rest) (tSeq t u):=by
 intro a s Y H D I h;refine wpAny_execs_cons (thn (h1 a s Y H { D with nx:=u D } I h) λf d q=>?_)
 cases f with
 | next=>
  obtain ⟨b,e,c,q⟩:=q;exact h2 a d b e D c q
 | ret v=>exact q
 | brk=>exact q
 | cont=>exact q
def iU(h1:PS X st t):PSs X [st] t:=by
 intro a s Y H D I h;refine wpAny_execs_cons (thn (h1 a s Y H D I h) λf b q=>?_);cases f with
 | next=>exact wpAny_execs_nil q
 | ret v=>exact q
 | brk=>exact q
 | cont=>exact q
def Mp:TS:=λD Y H=>D.ct Y H
def Zjv:PS X (.Continue pos) Mp:=λ_ _ Y H _ I h=>wpAny_Continue ⟨Y,H,I,h⟩
def Inv.quiet(I:Inv X pins Y H s):interactive X.v=false:=by simp [interactive,I.ok.kind]
def Bx(te:TE):TS:=λD Y H=>te Y H λ_ a=>D.nx Y a
def HJ(he:PE X e te)(hs:swapsWith e none pos.line X.v=pure false:=by rfl):PS X (.Expr e pos) (Bx te):=by
 intro a s Y H D I h;exact wpAny_Expr_any (thn (he a s Y H _ I h) λv g zq=>by obtain ⟨x,b,d,f,c⟩:=zq;exact ⟨Y,b,d,c⟩) I.quiet hs
def tRet(te:TE):TS:=λD Y H=>te Y H D.rt
def d8(he:PE X e te):PS X (.Return (some e) pos) (tRet te):=by
 intro a s Y H D I h;exact wpAny_Return_some (thn (he a s Y H _ I h) λv g zq=>by obtain ⟨x,b,f,c,d⟩:=zq;exact ⟨x,Y,b,f,c,d⟩)
def tIfS(c:TT)(t u:TS):TS:=λD Y H=>c Y H λb a=>if b=true then t D Y a else u D Y a
def W0(hc:PT X c tc)(ha:PSs X a t)(hb:PSs X b u):PS X (.If c a b pos) (tIfS tc t u):=by
 intro e s Y H D I h;refine wpAny_If (thn (hc e s Y H _ I h) λd i zq=>?_);obtain ⟨f,j,g⟩:=zq;cases d with
 | true=>exact ha e i Y f D j g
 | false=>exact hb e i Y f D j g
end
abbrev TG:=V->St->Hp->(St->Hp->Prop)->Prop
abbrev TGs:=List V->St->Hp->(St->Hp->Prop)->Prop
def PG(X:Cx)(target:Expr)(t:TG):Prop :=
 ∀a s Y H v u Q,Inv X a Y H s->RelV v u->t v Y H Q ->
  wX X (assign target X.v u) (λ_ d=>∃b c,Inv X a b c d/\Q b c) X.e s
def PGs(X:Cx)(ts:List Expr)(t:TGs):Prop :=
 ∀a s Y H c b Q,Inv X a Y H s->Vals c b->t c Y H Q ->
  wX X (assignInOrder ((assignEach ts X.v).map (·.2)) b) (λ_ f=>∃d e,Inv X a d e f/\Q d e) X.e s
abbrev TSet:=V->V->V->Hp->(Hp->Prop)->Prop
def PSet(X:Cx)(t:TSet):Prop :=
 ∀a s Y H o i v d b u Q,Inv X a Y H s->RelV o d->RelV i b->RelV v u->t o i v H Q ->
  wX X (setItem d b u) (λ_ e=>∃c,Inv X a Y c e/\Q c) X.e s
section
variable{X:Cx}{pos:Pos}
def Bt(i:Nat):TG:=λv Y H Q=>Q (Y.set i (some v)) H
def Zt6(hN:X.N.Nodup)(hi:X.N[i]?=some x)(hx:Loc X.v.scope x)(hf:FnL X x:=by walk_at "ff"):PG X (.Name x pos) (Bt i):=by
 intro pins s Y H v u Q I r h;exact wpAny_assign_Name (We I hN hi hx r (λs' I'=>⟨_,H,I',h⟩) hf)
def gNil:TGs:=λa Y H Q=>a=[]/\Q Y H
def Gx(t:TG)(u:TGs):TGs:=λa Y H Q=>∃v r,a=v::r/\t v Y H λb c=>u r b c Q
def Zto:PGs X [] gNil:=by
 intro a s Y H c b Q I r h;obtain ⟨e,h⟩:=h;subst e;cases r;exact assignInOrder_nil ⟨Y,H,I,h⟩
def wY(h1:PG X e t)(h2:PGs X es u)(hs:(assignEach (e::es) X.v).map (·.2)=assign e X.v::(assignEach es X.v).map (·.2):=by rfl):PGs X (e::es) (Gx t u):=by
 intro a s Y H l k Q I r h;obtain ⟨v,j,f,h⟩:=h;subst f;cases r with
 | cons r rr=>
  rw [hs];refine assignInOrder_cons (thn (h1 a s Y H _ _ _ I r h) λ_ c zq=>?_);obtain ⟨g,b,d,i⟩:=zq;exact h2 a c g b _ _ Q d rr i
def gTup(K:W1)(n:Nat)(t:TGs):TG:=λv Y H Q=>∃a b,v=.ref a/\SqT K H a b/\b.length=n/\t b Y H Q
def xK(hc:X.c=true)(h:PGs X es t)(hn:(assignEach es X.v).length=n:=by rfl)(hst:(assignEach es X.v).findIdx? (·.1)=none:=by rfl):PG X (.Tuple es k pos) (gTup X.K n t):=by
 intro c s Y H v u Q I r d;obtain ⟨a,g,p,m,f,d⟩:=d;subst p;cases r;obtain ⟨q,w,i,y⟩:=I.tuple m;refine assign_Tuple_tuple (I.ok.hd hc) i (by simp [hn,<-f,w.length]) hst λx l=>?_;have j:=I.kept (t':=s.toks) λb o e=>l b o (Am (BP e)) e;exact h c _ Y H g _ Q j (by ext) d
def gSub(to ti:TE)(t:TSet):TG:=λv Y H Q=>to Y H λo b=>ti Y b λi a=>t o i v a λc=>Q Y c
def Yj(ho:PE X o to)(hi:PE X i ti)(hs:PSet X t) (ha:∀v,assign (.Subscript o i pos) X.v v=(do
   let ov <-holding [v] (eval o X.v)
   let iv <-holding [v,ov] (eval i X.v)
   standAt pos
   holding [v,ov,iv] (setItem ov iv v)
   release [v,ov,iv] []):=by intro _;rfl):PG X (.Subscript o i pos) (gSub to ti t):=by
 intro a s Y H v u Q I r h;rw [ha];refine Ac (Cw (thn (ho a s Y H _ I h) λov d zq=>?_));obtain ⟨x,b,e,c,m⟩:=zq;refine Ac (Cw (thn (hi a d Y b _ e m) λiv l zq=>?_));obtain ⟨y,j,p,g,q⟩:=zq;refine Ac (Lr (Ac (Cw (thn (hs a l Y j x y v ov iv u _ p c g r q) λ_ w zq=>?_))));obtain ⟨f,k,n⟩:=zq;exact wpAny_release ⟨Y,f,k,n⟩
def tAsg(te:TE)(g:TG):TS:=λD Y H=>te Y H λx a=>g x Y a D.nx
def Rz(he:PE X e te)(hg:PG X tg g)(hs:swapsWithSole [tg] e pos.line X.v=pure false:=by rfl)(hw:swappedStores [tg] e X.v=pure none:=by rfl)(h1:(assignEach [tg] X.v).map (·.2)=[assign tg X.v]:=by rfl):PS X (.Assign [tg] e pos) (tAsg te g):=by
 intro a s Y H D I h;refine wpAny_Assign_stores (thn (he a s Y H _ I h) λv f zq=>?_) hs hw;obtain ⟨x,b,i,c,d⟩:=zq;rw [h1];exact thn (hg a f Y b x v _ i c d) λ_ j q=>q
def Wr(hN:X.N.Nodup)(hi:X.N[i]?=some x)(hx:Loc X.v.scope x)(he:PE X e te)(hs:swapsWith e (some (.Name x pos')) pos.line X.v=pure false:=by rfl)(hf:FnL X x:=by walk_at "ff") :
  PS X (.Assign [.Name x pos'] e pos) (tAsg te (Bt i)):=by
 intro pins s Y H D I h;refine wpAny_Assign_Name (thn (he pins s Y H _ I h) λv s1 zq=>?_) hs;obtain ⟨y,H1,I1,r1,q1⟩:=zq;exact We I1 hN hi hx r1 (λs2 I2=>⟨_,H1,I2,q1⟩) hf
end
section
variable{X:Cx}{pos:Pos}
def Q3(c:TT)(tb:TS):TS:=λD Y H=>∃W:Nat->St->Hp->Prop,(∃m,W m Y H)/\∀m Y H,W m Y H ->
 c Y H λb d=>if b=true then ∃N:St->Hp->Prop,(∀a e,N a e->∃f,f<m/\W f a e)/\tb { D with nx:=N,ct:=N,bk:=D.nx } Y d else D.nx Y d
def ut(hp:PassesOwn (model X.p X.w) X.A X.v X.e)(hc:PT X c tc)(hb:PSs X body tb):PS X (.While c body [] pos) (Q3 tc tb):=by
 intro a s Y H D I h;obtain ⟨W,⟨z,C⟩,d⟩:=h;refine wpAny_While (codeAny_whileLoop (λn p=>∃k o,Inv X a k o p/\W n k o) ?_ z ⟨Y,H,I,C⟩);rintro n E ⟨e,l,t,q⟩;refine Ju hp (thn (hc a E e l _ t (d n e l q)) λb y zq=>?_);obtain ⟨m,j,i⟩:=zq;cases b with
 | true=>
  obtain ⟨N,G,i⟩:=i;rw [iP rfl];refine Ju hp (thn (hb a y e m _ j i) λf F g=>?_);cases f with
  | next=>
   obtain ⟨B,u,x,r⟩:=g
   grind
  | cont=>
   obtain ⟨B,u,x,r⟩:=g
   grind
  | brk=>exact g
  | ret v=>exact g
 | false=>
  rw [iN GC];exact wpAny_execs_nil ⟨e,m,j,i⟩
end
structure It where
 go:Nat->Hp->Prop
 yld:Nat->Hp->V->Hp->Prop
 stop:Nat->Hp->Prop
def FpOk(X:Cx)(pins:List (Addr×Obj))(H:Hp)(b:Addr):Prop :=
 H b=none/\b≠X.v.locals/\b∉X.fs/\(b∈X.ex\/X.s₀.heap.objs.size<=b)/\(∀x c,X.v.cells.lookup x=some c->c≠b)/\∀p∈X.pn++pins,p.1≠b
def Inv.fpOk(I:Inv X pins Y H s)(hb:s.heap.objs.size<=b)(hn:H' b=none):FpOk X pins H' b:=by
 refine ⟨hn,CK (Aw I.lt hb),I.nofs hb,.inr (Ak I.sz hb),λx c e z=>?_,λp a z=>?_⟩
 .obtain ⟨v,q⟩:=I.cell x c e;exact aB (Aw q.lt (by lia)) (Kv _)
 .exact aB (Aw (BP (I.pin p a).1) (by lia)) (Kv _)
structure Turn(P:Program)(w:World)(K:W1)(tg:Expr)(J:It)(fp:List Addr)(it:Addr)(tn:Nat->Heap->Prop):Prop where
 mem:it∈fp
 obj:∀i h,tn i h->∀b∈fp,∃o,h.get? b=some o/\∀v,o.data≠.cell v
 keep:∀i h h',tn i h->(∀b∈fp,∀o,h.get? b=some o->h'.get? b=some o)->tn i h'
 item:∀(X:Cx),X.p=P->X.w=w->X.K=K->X.c=true->∀(i:Nat) (pins:List (Addr×Obj)) (s:Shared) (Y:St) (H:Hp) (E:VS),Inv X pins Y H s->(∀b∈fp,FpOk X pins H b)->tn i s.heap->J.go i H ->
  wpAny (model P w) X.A (pyNext (.ref it)) (λr s1=>∃u,r=some u /\
   wpAny (model P w) X.A (letOwnedTupleGo tg (.ref it) u) (λ_ s2=>∃x H',Inv X pins Y H' s2/\RelV x u/\J.yld i H x H'/\tn (i+1) s2.heap/\∀b∈fp,H' b=none) E s1) E s
 done:∀(X:Cx),X.p=P->X.w=w->X.K=K->X.c=true->∀(i:Nat) (pins:List (Addr×Obj)) (s:Shared) (Y:St) (H:Hp) (E:VS),Inv X pins Y H s->(∀b∈fp,FpOk X pins H b)->tn i s.heap->J.stop i H ->
  wpAny (model P w) X.A (pyNext (.ref it)) (λr s1=>r=none/\Inv X pins Y H s1) E s
 self:∀(A:Around) (i:Nat) (s:Shared) (Q:VS) (E:VS),tn i s.heap->Q (.ref it) s->wpAny (model P w) A (pyIter (.ref it)) Q E s
abbrev TI:=St->Hp->(It->Hp->Prop)->Prop
def PIE(X:Cx)(pins:List (Addr×Obj))(Y:St)(tg:Expr)(R:It->Hp->Prop)(itv:Value)(s2:Shared):Prop :=
 ∃c e d J a,itv=.ref c/\Inv X pins Y a s2/\Turn X.p X.w X.K tg J e c d/\d 0 s2.heap/\(∀b∈e,FpOk X pins a b)/\R J a
def PI(X:Cx)(tg iter:Expr)(wi:TI):Prop :=
 ∀a s Y H R,Inv X a Y H s->wi Y H R ->
  wX X (eval iter X.v) (λv b=>wX X (pyIter v) (PIE X a Y tg R) X.e b) X.e s
def Ws(ho:s.heap.get? it=some o)(hc:o.cls=.type n)(hd:o.data=.fields vs)(hn:["enumerate","zip","dict_itemiterator","dict_reverseitemiterator","odict_iterator","itertools.zip_longest","itertools.pairwise"].contains n=false)(hQ:Q () s):wpAny M A (letOwnedTupleGo tg (.ref it) u) Q E s:=by
 unfold letOwnedTupleGo;cases tg<;>first
  | exact Ad hQ
  | (cases u<;>first
    | exact Ad hQ
    | (refine Ac (wpAny_load ho ?_)
       rw [hc,hd];show wpAny M A (if (["enumerate","zip","dict_itemiterator","dict_reverseitemiterator","odict_iterator","itertools.zip_longest","itertools.pairwise"].contains n&&vs[0]?==some (rawInt _))=true then _ else _) Q E s
       rw [iN (by intro h;lia)]
       exact Ad hQ))
def Itl(K:W1)(a:Addr):It :=
 ⟨λi H=>∃b x,SqL K H a b/\b[i]?=some x,λi H x c=>c=H/\∀b,SqL K H a b->b[i]?=some x,λi H=>∃b,SqL K H a b/\b.length<=i⟩
def Itt(K:W1)(a:Addr):It :=
 ⟨λi H=>∃b x,SqT K H a b/\b[i]?=some x,λi H x c=>c=H/\∀b,SqT K H a b->b[i]?=some x,λi H=>∃b,SqT K H a b/\b.length<=i⟩
def Itr(lo:Int)(n:Nat):It:=⟨λi _=>i<n,λi H x a=>a=H/\x=.int (lo+i),λi _=>n<=i⟩
def Zm6{P:Program}{w:World}{K:W1}{tg:Expr}(a it):Turn P w K tg (Itl K a) [it] it (λi h=>h.IsListIter it a i) where
 mem:=by simp
 obj:=λi h f b g=>by
  have e:b=it:=by simp_all
  subst e;obtain ⟨o,e,c,d⟩:=f;simp_all
 keep:=λi h J f k=>f.at λo e=>k it (by simp) o e
 item:=by
  intro X F A y L i l s Y H E I n f q;subst F A y;obtain ⟨R,x,m,C⟩:=q;obtain ⟨v,z,p,O⟩:=I.list m;obtain ⟨u,Z,T⟩:=z.get C;obtain ⟨r,t,S,G,D,B⟩:=n it (by simp);refine wpAny_pyNext_list_item f p.isList (x:=u) (by simp_all) λJ j U=>?_;have M:=I.turned (t':=s.toks) (λb o g e=>(U.2 b g).trans e) r t G D B;obtain ⟨o,e,c,d⟩:=id j;exact ⟨u,rfl,Ws e c d (by decide) ⟨x,H,M,T,⟨rfl,λys Q=>by rw [I.list_inj Q m];exact C⟩,j,λb g=>(n b g).1⟩⟩
 done:=by
  intro X F A y L i l s Y H E I n f q;subst F A y;obtain ⟨R,m,C⟩:=q;obtain ⟨v,z,p,O⟩:=I.list m;obtain ⟨r,t,S,G,D,B⟩:=n it (by simp);have V:=z.length;exact wpAny_pyNext_list_end (I.ok.hd L) f p.isList (by grind) λJ N=>⟨rfl,I.turned (t':=s.toks) (λb o g e=>N b o g e) r t G D B⟩
 self:=λ_ _ _ _ _ f h=>wpAny_pyIter_listiter f h
def wJ{P:Program}{w:World}{K:W1}{tg:Expr}(a it):Turn P w K tg (Itt K a) [it] it (λi h=>h.IsTupleIter it a i) where
 mem:=by simp
 obj:=λi h f b j=>by
  have e:b=it:=by simp_all
  subst e;obtain ⟨o,e,c,d⟩:=f;simp_all
 keep:=λi h J f k=>f.at λo e=>k it (by simp) o e
 item:=by
  intro X F A y L i m s Y H E I q f r;subst F A y;obtain ⟨R,x,n,C⟩:=r;obtain ⟨g,z,p,O⟩:=I.tuple n;obtain ⟨u,Z,T⟩:=z.get C;obtain ⟨t,v,S,G,D,B⟩:=q it (by simp);refine wpAny_pyNext_tuple_item f (show s.heap.IsTuple a g.toArray from p) (x:=u) (by simp_all) λJ l U=>?_;have M:=I.turned (t':=s.toks) (λb o j e=>(U.2 b j).trans e) t v G D B;obtain ⟨o,e,c,d⟩:=id l;exact ⟨u,rfl,Ws e c d (by decide) ⟨x,H,M,T,⟨rfl,λys Q=>by rw [I.tuple_inj Q n];exact C⟩,l,λb j=>(q b j).1⟩⟩
 done:=by
  intro X F A y L i m s Y H E I q f r;subst F A y;obtain ⟨R,n,C⟩:=r;obtain ⟨g,z,p,O⟩:=I.tuple n;obtain ⟨t,v,S,G,D,B⟩:=q it (by simp);have V:=z.length;exact wpAny_pyNext_tuple_end (I.ok.hd L) f (show s.heap.IsTuple a g.toArray from p) (by grind) λJ N=>⟨rfl,I.turned (t':=s.toks) (λb o j e=>N b o j e) t v G D B⟩
 self:=λ_ _ _ _ _ f h=>wpAny_pyIter_tupleiter f h
def vJ{P:Program}{w:World}{K:W1}{tg:Expr}(it)(lo)(n):Turn P w K tg (Itr lo n) [it] it (λi h=>IsRangeIter h it (lo+(i:Nat)*1) ((n:Int) - (i:Nat)) 1) where
 mem:=by simp
 obj:=λi h c b d=>by
  simp_all
 keep:=λi h m c k=>k it (by simp) _ c
 item:=by
  intro X y r q A i a s Y H E I g c j;subst y r q;obtain ⟨l,p,G,z,x,u⟩:=g it (by simp);have W:=Walks.range (prog:=X.p) (w:=X.w) (I.ok.hd A) it lo 1 n;refine W.item i s _ _ j c λv m C J f D=>?_;obtain ⟨t,rfl⟩:=J;have B:Inv X a Y H { s with heap:=m,toks:=C }:=I.turned (λb o d e=>D b o (by simp_all) e) l p z x u
  refine ⟨_,rfl,Ws f rfl rfl (by decide) ⟨.int (lo+i),H,B,⟨t,?_⟩,⟨rfl,rfl⟩,f,λb d=>(g b d).1⟩⟩
  lia
 done:=by
  intro X y r q A i a s Y H E I g c j;subst y r q;obtain ⟨l,p,G,z,x,u⟩:=g it (by simp);exact wpAny_pyNext_range_end (I.ok.hd A) c (by have:n<=i:=j;lia) λm F=>⟨rfl,I.turned (λb o d e=>F b o d e) l p z x u⟩
 self:=λ_ _ _ _ _ c h=>wpAny_pyIter_rangeiter c h
section
variable{X:Cx}{tg:Expr}
def bN{pins:List (Addr×Obj)}{Y:St}{H:Hp}{s:Shared}{R:It->Hp->Prop}{E:VS}{lo hi:Int}{t u v:Tok}{tk:Nat}(I:Inv X pins Y H s)(h1:-(2^62)<=lo)(h2:lo<2^62)(h3:-(2^62)<=hi)(h4:hi<2^62)(q:R (Itr lo (hi - lo).toNat) H):wX X (pyIter (.ref s.heap.objs.size)) (PIE X pins Y tg R) E { s with heap:=s.heap.push { cls:=.type "range",data:=.fields #[.int lo t,.int hi u,.int 1 v] },toks:=tk }:=by
 refine wpAny_pyIter_range (IsRange.new ..) (small_one h1 h2 h3 h4) ?_;have a:Inv X pins Y H { s with heap:=s.heap.push { cls:=.type "range",data:=.fields #[.int lo t,.int hi u,.int 1 v] },toks:=tk }:=I.kept λb o e=>Bj _ e
 refine ⟨(s.heap.push { cls:=.type "range",data:=.fields #[.int lo t,.int hi u,.int 1 v] }).objs.size,[(s.heap.push { cls:=.type "range",data:=.fields #[.int lo t,.int hi u,.int 1 v] }).objs.size],_,_,H,rfl,
  a.kept λb o e=>Bj _ e,vJ _ lo (hi - lo).toNat,?_,λb f=>?_,q⟩
 .have c:lo+((0:Nat):Int)*1=lo:=by simp
  have d:(((hi - lo).toNat:Nat):Int) - ((0:Nat):Int)=Builtin.Range.rangeSize lo hi 1:=by rw [rangeSize_one];lia
  rw [c,d];exact CJ _ rfl
 .have e:b=(s.heap.push { cls:=.type "range",data:=.fields #[.int lo t,.int hi u,.int 1 v] }).objs.size:=by simp_all
  subst e;exact a.fpOk (Ae _) (a.hok.fresh (Ae _))
def Vm(ta:TA):TI:=λY H R=>ta Y H λa b=>∃j,a=[.int j]/\-(2^62)<=j/\j<2^62/\R (Itr 0 j.toNat) b
def XX(ta:TA):TI:=λY H R=>ta Y H λa b=>∃i j,a=[.int i,.int j]/\(-(2^62)<=i/\i<2^62/\-(2^62)<=j/\j<2^62)/\R (Itr i (j - i).toNat) b
def Zof{a:Expr}{ta:TA}{p pos:Pos}(hg:Gl X "range")(hm:X.m "range"=none)(ha:PA X [a] ta)(hs:starEach [a] X.v=[(false,eval a X.v)]:=by rfl):PI X tg (.Call (.Name "range" p) [a] [] pos) (Vm ta):=by
 intro b s Y H R I h;refine Call_ (Hl I hg hm boot_range (Ip (thn (ha pos b s Y H _ I h) λl k zq=>?_) hs rfl));obtain ⟨m,i,f,d,c⟩:=zq;obtain ⟨j,e,c,g,q⟩:=c;subst e;cases d with
 | cons r rr=>
  cases rr;obtain ⟨t,rfl⟩:=r;exact call_range_1 (bN f (by lia) (by lia) c g (by lia))
def wV(hg:Gl X "range")(hm:X.m "range"=none)(ha:PA X [a,b] ta)(hs:starEach [a,b] X.v=[(false,eval a X.v),(false,eval b X.v)]:=by rfl)(hs2:starEach [b] X.v=[(false,eval b X.v)]:=by rfl) :
  PI X tg (.Call (.Name "range" p) [a,b] [] pos) (XX ta):=by
 intro c s Y H R I h;refine Call_ (Hl I hg hm boot_range (Ip (thn (ha pos c s Y H _ I h) λv u zq=>?_) (by lia) (by rw [hs2];rfl)));obtain ⟨w,n,k,g,d⟩:=zq;obtain ⟨i,j,e,⟨d,m,l,f⟩,q⟩:=d;subst e;cases g with
 | cons r rr=>
  cases rr with
  | cons r' rr=>
   cases rr;obtain ⟨t,rfl⟩:=r;obtain ⟨o,rfl⟩:=r';exact call_range_2 (bN k d m l f q)
def tFor(wi:TI)(g:TG)(tb:TS):TS:=λD Y H=>wi Y H λJ d=>∃W:Nat->Nat->St->Hp->Prop,(∃m,W 0 m Y d)/\∀i m Y H,W i m Y H ->
 (J.stop i H/\D.nx Y H)\/(J.go i H/\∃N:St->Hp->Prop,(∀b a,N b a->∃c,c<m/\W (i+1) c b a)/\∀x a,J.yld i H x a->g x Y a λe f=>tb { D with nx:=N,ct:=N,bk:=D.nx } e f)
def Q5(fp:List Addr)(h:Heap):List (Addr×Obj):=fp.filterMap λb=>(h.get? b).map λo=>(b,o)
def Mj(hb:b∈fp)(e:h.get? b=some o):(b,o)∈Q5 fp h:=Qh.mpr ⟨b,hb,by grind⟩
def ZmG(hp:p∈Q5 fp h):p.1∈fp/\h.get? p.1=some p.2:=by
 obtain ⟨b,a,e⟩:=Qh.mp hp;cases q:h.get? b with
 | none=>simp_all
 | some o=>
  grind
def Inv.pinned(I:Inv X pins Y H s)(hf:∀b∈fp,FpOk X pins H b)(ho:∀b∈fp,∃o,s.heap.get? b=some o/\∀v,o.data≠.cell v):Inv X (pins++Q5 fp s.heap) Y H s :=
 I.pins_of λp a=>(Gv.mp a).elim (λz=>I.pin p (DR _ z)) λz=>by
  obtain ⟨c,e⟩:=ZmG z;obtain ⟨g,f,d,_⟩:=hf p.1 c
  grind
def Inv.unpinned(I:Inv X (pins++pl) Y H s):Inv X pins Y H s:=I.pins_of λp a=>I.pin p (DR _ (QL _ a))
abbrev Fsi(iter:Expr)(X:Cx):Prop:=∀x,foldedSetIterable iter X.v x=pure x
def cN(hp:PassesOwn (model X.p X.w) X.A X.v X.e)(hc:X.c=true)(hi:PI X tg iter wi)(hg:PG X tg g)(hb:PSs X body tb)(hs:Fsi iter X:=by intro _;rfl):PS X (.For tg iter body [] pos) (tFor wi g tb):=by
 intro a s Y H D I h;refine wpAny_For (thn (hi a s Y H _ I h) λv s1 h1=>thn h1 λitv s2 h2=>?_) hs;obtain ⟨it,E,Z,J,H2,e,I2,T,M,V,W,⟨m0,w0⟩,K⟩:=h2;subst e;have j:∀{q:Hp},(∀b∈E,q b=none)->∀b∈E,FpOk X a q b:=λhn b hb=>⟨hn b hb,(V b hb).2⟩;refine codeAny_forLoop_any (λn s'=>∃i B q,Inv X a B q s'/\Z i s'.heap/\(∀b∈E,q b=none)/\W i n B q) ?_ m0 ⟨0,Y,H2,I2,M,λb hb=>(V b hb).1,w0⟩;rintro n s3 ⟨i,G,L,U,F,z,w3⟩;rcases K i n G L w3 with ⟨stop,qn⟩ | ⟨go,N,hN,step⟩
 .refine Ju hp (thn (T.done X rfl rfl rfl hc i a s3 G L X.e U (j z) F stop) λr s4 ⟨P,I4⟩=>?_);subst P;exact wpAny_execs_nil ⟨G,L,I4,qn⟩
 .refine Ju hp (thn (T.item X rfl rfl rfl hc i a s3 G L X.e U (j z) F go) λr s4 zq=>?_);obtain ⟨u,P,h4⟩:=zq;subst P;refine Ju hp (thn h4 λ_ s5 zq=>?_);obtain ⟨x,S,I5,r5,y5,y,Q⟩:=zq;have R:=I5.pinned (j Q) (T.obj _ _ y);refine Ju hp (thn (hg _ s5 G S x u _ R r5 (step x S y5)) λ_ s6 zq=>?_);obtain ⟨Y6,H6,I6,q6⟩:=zq;refine Ju hp (thn (hb _ s6 Y6 H6 _ I6 q6) λf O t=>?_);have k:∀{p:St} {l:Hp},Inv X (a++Q5 E s5.heap) p l O->N p l->∃m,m<n/\∃i B q,Inv X a B q O/\Z i O.heap/\(∀b∈E,q b=none)/\W i m B q:=λ{p l} c C=>by
   obtain ⟨m',hm,w7⟩:=hN p l C;refine ⟨m',hm,i+1,p,l,c.unpinned,T.keep _ _ _ y λb hb o e=>(c.pin (b,o) (DR _ (DR _ (Mj hb e)))).1,λb hb=>?_,w7⟩;obtain ⟨o,e,d⟩:=T.obj _ _ y b hb;exact (c.pin (b,o) (DR _ (DR _ (Mj hb e)))).2.1
  cases f with
  | next=>obtain ⟨p,l,c,C⟩:=t;exact k c C
  | cont=>obtain ⟨p,l,c,C⟩:=t;exact k c C
  | brk=>obtain ⟨p,l,c,t⟩:=t;exact ⟨p,l,c.unpinned,t⟩
  | ret v=>obtain ⟨x7,p,l,c,r7,t⟩:=t;exact ⟨x7,p,l,c.unpinned,r7,t⟩
end
abbrev R2:=V->V->Hp->VK->Prop
def OpR(X:Cx)(f:Value->Value->Sem Value)(r:R2):Prop :=
 ∀a s Y H x y v u Q,Inv X a Y H s->RelV x v->RelV y u->r x y H Q ->
  wX X (f v u) (EP X a Y Q) X.e s
def UnR(X:Cx)(f:Value->Sem Value)(r:V->Hp->VK->Prop):Prop :=
 ∀a s Y H x v Q,Inv X a Y H s->RelV x v->r x H Q ->
  wX X (f v) (EP X a Y Q) X.e s
def Ep(X:Cx)(f:Value)(r:List V->Hp->VK->Prop):Prop :=
 ∀a s Y H c b Q,Inv X a Y H s->Vals c b->r c H Q ->
  wX X (call f b) (EP X a Y Q) X.e s
def tOp(r:R2)(ta tb:TE):TE:=λY H Q=>ta Y H λx b=>tb Y b λy a=>r x y a Q
def tUn(r:V->Hp->VK->Prop)(ta:TE):TE:=λY H Q=>ta Y H λx a=>r x a Q
def rI(C:Int->Int->Prop)(g:Int->Int->V):R2:=λx y H Q=>∃i j,x=.int i/\y=.int j/\C i j/\Q (g i j) H
def rI0(g:Int->Int->V):R2:=λx y H Q=>∃i j,x=.int i/\y=.int j/\Q (g i j) H
def rU(g:Int->V):V->Hp->VK->Prop:=λx H Q=>∃i,x=.int i/\Q (g i) H
section
variable{X:Cx}{a b c:Expr}{ta tb tc:TE}{pos:Pos}
def binT(ha:PE X a ta)(hb:PE X b tb){pins:List (Addr×Obj)}{s:Shared}{Y:St}{H:Hp}{R:V->V->Hp->Prop}(I:Inv X pins Y H s)(h:ta Y H λx H1=>tb Y H1 λy H2=>R x y H2){Q:VS}{f:Value->Value->Sem Value}(hf:∀v u s2 x y H2,Inv X pins Y H2 s2->RelV x v->RelV y u->R x y H2->wX X (f v u) Q X.e s2) :
  wX X (eval a X.v) (λv s₁=>wX X (eval b X.v) (λu s₂=>wX X (f v u) Q X.e s₂) X.e s₁) X.e s:=by
 refine thn (ha pins s Y H _ I h) λv d zq=>?_;obtain ⟨x,H1,e,j,c⟩:=zq;refine thn (hb pins d Y H1 _ e c) λu s2 zq=>?_;obtain ⟨y,H2,i,g,k⟩:=zq
 grind
def gY(ho:OpR X (binaryOp op) r)(ha:PE X a ta)(hb:PE X b tb):PE X (.BinOp a op b pos) (tOp r ta tb):=by
 intro c s Y H Q I h;exact wpAny_BinOp (binT ha hb I h λv u g x y f i d e q=>ho c g Y f x y v u Q i d e q)
def ZyB(ho:UnR X (unaryOp op) r)(ha:PE X a ta):PE X (.UnaryOp op a pos) (tUn r ta):=by
 intro b s Y H Q I h;exact UnaryOp_ (thn (ha b s Y H _ I h) λv f zq=>by obtain ⟨x,c,g,d,e⟩:=zq;exact ho b f Y c x v Q g d e)
def opI{f:Value->Value->Sem Value}{C:Int->Int->Prop}{g:Int->Int->Int}(rule:∀(i j:Int) (t u:Tok) (s:Shared) (Q:VS) (E:VS),C i j->Q (.int (g i j) s.toks) { s with toks:=s.toks+1 }->wX X (f (.int i t) (.int j u)) Q E s) :
  OpR X f (rI C λi j=>.int (g i j)):=by
 intro a s Y H x y v u Q I c d h;obtain ⟨i,j,rfl,rfl,e,q⟩:=h;obtain ⟨t,rfl⟩:=c;obtain ⟨b,rfl⟩:=d;exact rule i j t b s _ _ e ⟨.int (g i j),H,I.tok _,⟨_,rfl⟩,q⟩
def opI0{f:Value->Value->Sem Value}{g:Int->Int->Int}(rule:∀(i j:Int) (t u:Tok) (s:Shared) (Q:VS) (E:VS),Q (.int (g i j) s.toks) { s with toks:=s.toks+1 }->wX X (f (.int i t) (.int j u)) Q E s) :
  OpR X f (rI0 λi j=>.int (g i j)):=by
 intro a s Y H x y v u Q I c d h;obtain ⟨i,j,rfl,rfl,q⟩:=h;obtain ⟨t,rfl⟩:=c;obtain ⟨b,rfl⟩:=d;exact rule i j t b s _ _ ⟨.int (g i j),H,I.tok _,⟨_,rfl⟩,q⟩
def opB0{f:Value->Value->Sem Value}{g:Int->Int->Bool}(rule:∀(i j:Int) (t u:Tok) (s:Shared) (Q:VS) (E:VS),Q (.bool (g i j)) s->wX X (f (.int i t) (.int j u)) Q E s) :
  OpR X f (rI0 λi j=>.bl (g i j)):=by
 intro a s Y H x y v u Q I c d h;obtain ⟨i,j,rfl,rfl,q⟩:=h;obtain ⟨t,rfl⟩:=c;obtain ⟨b,rfl⟩:=d;exact rule i j t b s _ _ ⟨.bl (g i j),H,I,rfl,q⟩
def CPow(i j:Int):Prop:=0<=j/\j<=1000000/\i.natAbs<2^64
def ZkR(k):(0:Int)<=2^k:=by
 lia
def qR:OpR X (binaryOp .Add) (rI0 λi j=>.int (i+j)):=opI0 λ_ _ _ _ _ _ _ q=>add_int q
def pL:OpR X (binaryOp .Sub) (rI0 λi j=>.int (i - j)):=opI0 λ_ _ _ _ _ _ _ q=>sub_int q
def mK:OpR X (binaryOp .Mod) (rI (λ_ j=>j≠0) λi j=>.int (i.fmod j)):=opI λ_ _ _ _ _ _ _ a q=>mod_int' a q
def ZwE:OpR X (binaryOp .Pow) (rI CPow λi j=>.int (i^j.toNat)):=opI λ_ _ _ _ _ _ _ a q=>pow_int_small a.1 a.2.1 a.2.2 q
def yH:OpR X (binaryOp .LShift) (rI CPow λi j=>.int (i*2^j.toNat)):=opI λ_ _ _ _ _ _ _ a q=>lshift_int_small a.1 a.2.1 a.2.2 q
def Zu3:OpR X (binaryOp .RShift) (rI (λ_ j=>0<=j) λi j=>.int (i/2^j.toNat)):=opI λi j _ _ _ _ _ a q=>
 rshift_int a (by rw [Xm i (ZkR _)];exact q)
def unI{f:Value->Sem Value}{g:Int->Int}(rule:∀(i:Int) (t:Tok) (s:Shared) (Q:VS) (E:VS),Q (.int (g i) s.toks) { s with toks:=s.toks+1 }->wX X (f (.int i t)) Q E s) :
  UnR X f (rU λi=>.int (g i)):=by
 intro a s Y H x v Q I b h;obtain ⟨i,rfl,q⟩:=h;obtain ⟨t,rfl⟩:=b;exact rule i t s _ _ ⟨.int (g i),H,I.tok _,⟨_,rfl⟩,q⟩
def Zva:UnR X (unaryOp .USub) (rU λi=>.int (-i)):=unI λ_ _ _ _ _ q=>neg_int q
end
section
variable{X:Cx}{a b c:Expr}{ta tb tc:TE}{pos:Pos}
def T8(I:Inv X pins Y H s)(q:Q (.bl k) H)(e:k=k'):EP X pins Y Q (.bool k') s:=by
 subst e;exact ⟨.bl k,H,I,rfl,q⟩
def cG:OpR X (compareOp .Lt) (rI0 λi j=>.bl (decide (i<j))):=opB0 λ_ _ _ _ _ _ _ q=>lt_int q
def ZR:OpR X (compareOp .LtE) (rI0 λi j=>.bl (decide (i<=j))):=opB0 λ_ _ _ _ _ _ _ q=>le_int q
def m9:OpR X (compareOp .Gt) (rI0 λi j=>.bl (decide (j<i))):=opB0 λ_ _ _ _ _ _ _ q=>gt_int q
def bL:OpR X (compareOp .GtE) (rI0 λi j=>.bl (decide (j<=i))):=opB0 λ_ _ _ _ _ _ _ q=>ge_int q
def Zuf:OpR X (compareOp .Is) (λx y H Q=>y=.non/\Q (.bl (decide (x=.non))) H):=by
 intro a s Y H x y v u Q I b c h;obtain ⟨rfl,q⟩:=h;cases c;refine is_none_gen (T8 I q ?_);cases x<;>first
  | (cases b;rfl)
  | (obtain ⟨t,rfl⟩:=b;rfl)
def Zsj:OpR X (compareOp .IsNot) (λx y H Q=>y=.non/\Q (.bl (!decide (x=.non))) H):=by
 intro a s Y H x y v u Q I b c h;obtain ⟨rfl,q⟩:=h;cases c;refine isnot_none_gen (T8 I q ?_);cases x<;>first
  | (cases b;rfl)
  | (obtain ⟨t,rfl⟩:=b;rfl)
def GK(b)(h:op≠.In:=by decide)(h2:op≠.NotIn:=by decide):behindInMarks op b=false:=by
 have c:(op==CmpOp.In)=false:=by lia
 have a:(op==CmpOp.NotIn)=false:=by lia
 cases b<;>simp [behindInMarks,c,a]
def uR(ho:OpR X (compareOp op) r)(ha:PE X a ta)(hb:PE X b tb)(hm:behindInMarks op b=false):PE X (.Compare a [op] [b] pos) (tOp r ta tb):=by
 intro c s Y H Q I h;exact wpAny_Compare1 (binT ha hb I h λv u g x y f i d e q=>ho c g Y f x y v u Q i d e q) hm
def Fw(t:TE):TT:=λY H Q=>t Y H λx a=>∃k,x=.bl k/\Q k a
def Vh(ho:OpR X (compareOp op) r)(ha:PE X a ta)(hb:PE X b tb)(hm:behindInMarks op b=false):PT X (.Compare a [op] [b] pos) (Fw (tOp r ta tb)):=by
 intro d s Y H Q I h
 refine wpAny_isTrue_Compare1 (thn (ha d s Y H _ I h) λv j zq=>?_) hm;obtain ⟨x,f,l,i,t⟩:=zq;refine thn (hb d j Y f _ l t) λu q zq=>?_;obtain ⟨y,o,A,n,B⟩:=zq;refine thn (ho d q Y o x y v u _ A i n B) λc C zq=>?_;obtain ⟨z,m,p,g,k,e,w⟩:=zq
 subst e;cases g;exact wpAny_truthy_bool ⟨m,p,w⟩
def S6:(sizeLine:Nat)<2^63:=by ext
def ZkY:OpR X (binaryOp .Add) (λx y H Q=>∃i j,x=.str i/\y=.str j/\i.length+j.length<=sizeLine/\Q (.str (i++j)) H):=by
 intro a s Y H x y v u Q I c d h;obtain ⟨i,j,rfl,rfl,e,q⟩:=h;obtain ⟨t,rfl⟩:=c;obtain ⟨b,rfl⟩:=d;exact add_str (λb f=>⟨.str (i++j),H,I.tok _,⟨_,rfl⟩,q⟩) e
def vals1(r:Vals [x] us):∃u,us=[u]/\RelV x u:=by
 cases r with
 | cons r1 r2=>cases r2;lia
def vals2(r:Vals [x,y] us):∃u w',us=[u,w']/\RelV x u/\RelV y w':=by
 cases r with
 | cons r1 r2=>
  cases r2 with
  | cons r3 r4=>cases r4;lia
def lK:Ep X (.builtin "abs") (λxs H Q=>∃i,xs=[.int i]/\Q (.int (if i<0 then -i else i)) H):=by
 intro a s Y H xs b Q I r h;obtain ⟨i,rfl,q⟩:=h;obtain ⟨u,rfl,t,rfl⟩:=vals1 r;exact call_abs_int λu c=>⟨.int (if i<0 then -i else i),H,I.tok _,⟨_,rfl⟩,q⟩
def ZlM(hc:X.c=true):Ep X (.builtin "min") (λxs H Q=>∃i j,xs=[.int i,.int j]/\Q (.int (if j<i then j else i)) H):=by
 intro a s Y H xs d Q I r h;obtain ⟨i,j,rfl,q⟩:=h;obtain ⟨u,b,rfl,⟨t,rfl⟩,⟨c,rfl⟩⟩:=vals2 r;refine min_two_ints (I.ok.hd hc) λe f k=>⟨_,H,I.kept k,?_,q⟩;by_cases hj:j<i
 .rw [iP hj,iP hj];exact ⟨_,rfl⟩
 .rw [iN hj,iN hj];exact ⟨_,rfl⟩
def n6:Ep X (.type "int") (λxs H Q=>(∃i,xs=[.int i]/\Q (.int i) H)\/∃k,xs=[.bl k]/\Q (.int (if k then 1 else 0)) H):=by
 intro a s Y H xs c Q I r h;rcases h with ⟨i,rfl,q⟩ | ⟨k,rfl,q⟩
 .obtain ⟨u,rfl,t,rfl⟩:=vals1 r;exact call_int_int ⟨.int i,H,I,⟨_,rfl⟩,q⟩
 .obtain ⟨u,rfl,b⟩:=vals1 r;cases b;exact call_int_bool ⟨.int (if k then 1 else 0),H,I.tok _,⟨_,rfl⟩,q⟩
end
structure ObjM(h:Heap)(x dx C:Addr)(mA:Str->Option Value):Prop where
 obj:h.get? x=some (W.instObj C dx)
 ns:h.Ns1 dx mA
 ne:dx≠x
def u9{h:Heap}(n:h.Ns1 dx mA):∃od,h.get? dx=some od/\∀name,W.lookIn name od=some (mA name):=by
 obtain ⟨o,j,k,g,c,f,_,d⟩:=n;refine ⟨o,g,λname=>?_⟩;have e:=d name;unfold nsFind findBy at e;rw [<-Array.find?_toList] at e;unfold W.lookIn;rw [c];dsimp only;split
 .simp_all
 .rename_i q;rw [q] at e;have a:j.toList.any (·.refKey)=false:=by
   rw [List.any_eq_false];intro y i;obtain ⟨z,t,b⟩:=f y (Array.mem_toList_iff.mp i);simp [DictEntry.refKey,b]
  simp_all
def ObjM.look(I:ObjM h x dx C mA):∃od,W.InstAt h x (W.instObj C dx) C (some od)/\∀name,W.lookIn name od=some (mA name) :=
 let ⟨od,ho,hl⟩:=u9 I.ns
 ⟨od,⟨I.obj,rfl,rfl,ho⟩,hl⟩
section
variable{prog:Program}{w:World}{A:Around}{E:VS}{s:Shared}{K:W1}{x dx C f:Addr}{mA:Str->Option Value}{name:Str}{v:Value}
def p6(X:K.In s.heap)(I:ObjM s.heap x dx C mA)(hg:W.plainGet K C name=true)(hh:W.hasDictIn K C=true)(ha:W.findIn K (.ref C) name=some none)(hv:mA name=some v)(hv':W.handedIn v=true)(h:Q v { s with toks:=s.toks+1 }) :
  wP prog w A (getAttr (.ref x) name expr) Q E s:=by
 obtain ⟨a,J,b⟩:=I.look;exact W.get_value X J (W.plainGet_of hg).1 (W.findObj_own hh ha rfl (by grind)) hv' h
def rR(X:K.In s.heap)(I:ObjM s.heap x dx C mA)(hg:W.plainGet K C name=true)(hf:W.findIn K (.ref C) name=some (some (.ref f)))(ht:W.isFn K (.ref f)=true)(hv:mA name=none)(h:Q (.ref f,[.ref x]) s) :
  wP prog w A (getMethod (.ref x) name pl) Q E s:=by
 obtain ⟨a,J,b⟩:=I.look;exact W.method_fn X J (W.plainGet_of hg).1 (W.plainGet_of hg).2 hf (beq_iff_eq.mp ht) (by show (W.lookIn name a).map (·.isSome)=some false;simp_all) h
def ZsZ(X:K.In s.heap)(I:ObjM s.heap x dx C mA)(hs:W.findIn K (.ref C) "__setattr__"=some (some (.builtin "object.__setattr__")))(hp:W.plainOver K C=true)(ht:W.takerIn K C name=some none)(hh:W.hasDictIn K C=true)(hw:PySem.Within mA ns)(hsz:ns.length<=sizeLine)(h:∀h',ObjM h' x dx C (λy=>if y=name then some v else mA y)->Hb0 dx s.heap h'->Q () { s with heap:=h',toks:=s.toks+2 }) :
  wP prog w A (setAttr (.ref x) name v) Q E s:=by
 obtain ⟨o,J,p⟩:=I.look;refine W.set_plain X J hs (W.osa_open X J hp ht λb=>?_);obtain ⟨m,k,e⟩:=W.any_some hh;have l:=I.obj;refine Ac (Ad (Ac (Ac (wpAny_loadPart l (Ac (W.Looks.here (W.looks_clsIn X k) ?_))))));rw [e];refine Ad (Ac (Ad (Ac ?_)));refine wpAny_nsSet1 I.ns λh' a c=>?_;obtain ⟨n,j,i,d,f,g⟩:=a.count (PySem.Within.cons name v hw);refine Ac (wpAny_lookBehind d (by rw [f];exact pastItsLine_dict (Ak g (by simp_all))) ?_);exact Ad (h _ ⟨(c.2 _ (Ne.symm I.ne)).trans I.obj,a,I.ne⟩ c)
def ZpQ(X:K.In s.heap)(hm:W.makesIn K C=true)(hi:W.findIn K (.ref C) "__init__"=some (some (.ref f)))(hf:W.typeIn K (.ref f)=some (.type "function")) (h:codeAny (model prog w) (A.under (.builtin "type.__call__" ⟨.ref C::vs,kw⟩)) (.call (.ref f) ⟨.ref (s.heap.objs.size+1)::vs,kw⟩) (W.InitBack (s.heap.objs.size+1) R)
   (sH0 s ((s.heap.push W.emptyDict).push (W.instObj C s.heap.objs.size)))) :
  codeAny (model prog w) A (.call (.ref C) ⟨vs,kw⟩) R s:=by
 obtain ⟨c,g,d,t,b⟩:=s;exact W.make_core (W.makes_of X hm) (W.looks_findIn X hi) (λa=>W.bind_fn X a hf) (.inl rfl) h
end
noncomputable def putF(f:Str)(v:V):List (Str×V)->List (Str×V)
 | []=>[(f,v)]
 | (g,x)::r=>if g=f then (g,v)::r else (g,x)::putF f v r
def iR(f g)(v):∀fs,(putF f v fs).lookup g=if g=f then some v else fs.lookup g
 | []=>by
  show List.lookup g [(f,v)]=_
  grind
 | (k,x)::r=>by
  have ih:=iR f g v r;rw [show putF f v ((k,x)::r)=(if k=f then (k,v)::r else (k,x)::putF f v r) from rfl]
  grind
def XH(f)(v):∀fs,f∈(putF f v fs).map (·.1)/\∀g,g∈fs.map (·.1)->g∈(putF f v fs).map (·.1)
 | []=>⟨by simp [putF],λg h=>by simp at h⟩
 | (k,x)::r=>by
  obtain ⟨a,b⟩:=XH f v r;rw [show putF f v ((k,x)::r)=(if k=f then (k,v)::r else (k,x)::putF f v r) from rfl]
  grind
def Yy(f)(v):∀fs,(putF f v fs).length<=fs.length+1
 | []=>by simp [putF]
 | (k,x)::r=>by
  have ih:=Yy f v r;rw [show putF f v ((k,x)::r)=(if k=f then (k,v)::r else (k,x)::putF f v r) from rfl]
  grind
def RelO.some_of(r:RelO (some v) o):∃u,o=some u/\RelV v u:=by
 cases o with
 | none=>ext
 | some u=>exact ⟨u,rfl,r⟩
def RelO.none_of(r:RelO none o):o=none:=by
 cases o with
 | none=>rfl
 | some u=>ext
def Zob(r:RelV v u):W.handedIn u=true:=by
 cases v with
 | non=>cases (r);rfl
 | bl b=>cases (r);rfl
 | int i=>obtain ⟨t,e⟩:=(r);cases e;rfl
 | str x=>obtain ⟨t,e⟩:=(r);cases e;rfl
 | ref a=>cases (r);rfl
 | ty n=>cases (r);rfl
section
variable{P:Program}{w:World}{H H':Hp}{h h':Heap}{a C dx:Addr}{fs fs':List (Str×V)}
def SN(hok:HOk P w H h)(e:H a=some (.ins C dx fs)):∃mA,ObjM h a dx C mA/\(∀f,RelO (fs.lookup f) (mA f))/\PySem.Within mA (fs.map (·.1))/\fs.length<=1000/\H dx=some (.own a):=by
 obtain ⟨d,z,b,c,mA,n,r,q⟩:=(hok a _ e);exact ⟨mA,⟨c,n,b⟩,r,q,z,d⟩
end
structure Cls(K:W1)(C:Addr):Prop where
 pg:W.plainGet K C Str.empty=true
 hd:W.hasDictIn K C=true
 po:W.plainOver K C=true
 sa:W.findIn K (.ref C) "__setattr__"=some (some (.builtin "object.__setattr__"))
def Cls.get{K:W1}{C:Addr}(c:Cls K C)(f):W.plainGet K C f=true:=c.pg
def Ie(K:W1)(C:Addr)(f:Str):Prop:=W.findIn K (.ref C) f=some none
def Ie.taker{K:W1}{C:Addr}{f:Str}(n:Ie K C f):W.takerIn K C f=some none:=by
 unfold W.takerIn;rw [show W.findIn K (.ref C) f=some none from n];rfl
structure Meth(K:W1)(C:Addr)(m:Str)(f:Addr):Prop where
 at_:W.findIn K (.ref C) m=some (some (.ref f))
 fn:W.isFn K (.ref f)=true
 kp:W.keepIn K (.ref f)=true
section
variable{X:Cx}{pins:List (Addr×Obj)}{Y:St}{H:Hp}{s:Shared}{a C dx:Addr}{fs:List (Str×V)}{f:Str}{v:V}{A:Around}{E:VS}
def Zli(I:Inv X pins Y H s)(e:H a=some (.ins C dx fs))(c:Cls X.K C)(n:Ie X.K C f)(l:fs.lookup f=some v)(h:∀u s',Inv X pins Y H s'->RelV v u->Q u s'):wpAny (model X.p X.w) A (getAttr (.ref a) f b) Q E s:=by
 obtain ⟨i,O,r,_,_,_⟩:=SN I.hok e;obtain ⟨u,g,d⟩:=RelO.some_of (v:=v) (o:=i f) (by grind);exact p6 I.kIn O (c.get f) c.hd n g (Zob d) (h u _ (I.tok _) d)
def eG(I:Inv X pins Y H s)(e:H a=some (.ins C dx fs))(c:Cls X.K C)(k:Meth X.K C m g)(l:fs.lookup m=none)(h:Q (.ref g,[.ref a]) s):wpAny (model X.p X.w) A (getMethod (.ref a) m pl) Q E s:=by
 obtain ⟨d,O,r,_,_,_⟩:=SN I.hok e;have b:d m=none:=RelO.none_of (by grind);exact rR I.kIn O (c.get m) k.at_ k.fn b h
def Zlc(I:Inv X pins Y H s)(e:H a=some (.ins C dx fs))(c:Cls X.K C)(n:Ie X.K C f)(hl:fs.length<1000)(ry:RelV y u)(h:∀s',Inv X pins Y (upd H a (.ins C dx (putF f y fs))) s'->Q () s'):wpAny (model X.p X.w) A (setAttr (.ref a) f u) Q E s:=by
 obtain ⟨p,O,r,i,_,j⟩:=SN I.hok e;have B:(fs.map (·.1)).length<=sizeLine:=by rw [Al,Hs];lia
 refine ZsZ I.kIn O c.sa c.po n.taker c.hd i B λt d v=>h _ ?_;have k:∃o,t.get? dx=some o:=let ⟨o,_,_,e',_⟩:=d.ns;⟨o,e'⟩;refine I.write (x:=a) (e:=dx) (by rw [e];ext) (.inr j) (λb q l z=>(v.2 b l).trans z) k ?_;refine ⟨by rw [Af O.ne];exact j,?_,O.ne,d.obj,_,d.ns,λg=>?_,λg m=>?_⟩
 .have:=Yy f y fs;lia
 .show RelO ((putF f y fs).lookup g) (if g=f then some u else p g)
  rw [iR];by_cases q:g=f
  .rw [iP q,iP q];exact ry
  simp_all
 .by_cases q:g=f
  .rw [q];exact (XH f y fs).1
  .refine (XH f y fs).2 g (i g λz=>m ?_)
   lia
def Inv.made(I:Inv X pins Y H s):Inv X pins Y (upd (upd H s.heap.objs.size (.own (s.heap.objs.size+1))) (s.heap.objs.size+1) (.ins C s.heap.objs.size []))
  (sH0 s ((s.heap.push W.emptyDict).push (W.instObj C s.heap.objs.size))):=by
 have a:(s.heap.push W.emptyDict).get? s.heap.objs.size=some W.emptyDict:=CJ s.heap rfl;have i:((s.heap.push W.emptyDict).push (W.instObj C s.heap.objs.size)).get? (s.heap.objs.size+1)=some (W.instObj C s.heap.objs.size):=by
  have:=CJ (s.heap.push W.emptyDict) (o:=W.instObj C s.heap.objs.size) rfl;simp_all
 have d:(s.heap.push W.emptyDict).Ns s.heap.objs.size (λ_=>none):=⟨W.emptyDict,#[],_,a,rfl,(λe f=>aB f (by simp)),λ_=>rfl⟩;have h:=I.laid (o:=.own (s.heap.objs.size+1)) (t':=s.toks) (λb u q=>Bj _ q) (Ae _) ⟨_,a⟩;refine h.laid (λb u q=>Bj _ q) (HD (Ex _ _)) ?_;have c:s.heap.objs.size≠s.heap.objs.size+1:=Am (Ha _);refine ⟨by rw [Af c,Ar],Bw _,c,i,λ_=>none,(Heap.Ns1.of_empty d).at λo q=>Bj _ q,λ_=>True.intro,λy g=>aB rfl g⟩
def zH(hb:attributeBase e f env (eval e env)=eval e env)(h:wP prog w A (eval e env) (λo s₁=>wP prog w A (getAttr o f true) Q E s₁) E s):wP prog w A (eval (.Attribute e f pos) env) Q E s :=
 Attribute_any_ h (by rw [arm_eval_Attribute,hb])
end
def tFld(K:W1)(ta:TE)(f:Str):TE:=λY H Q=>ta Y H λx b=>∃a C d c v,x=.ref a/\b a=some (.ins C d c)/\Cls K C/\Ie K C f/\c.lookup f=some v/\Q v b
def sFld(K:W1)(ta tv:TE)(f:Str):TS:=λD Y H=>tv Y H λy e=>ta Y e λx c=>∃a C d b,x=.ref a/\c a=some (.ins C d b)/\Cls K C/\Ie K C f/\b.length<1000 /\
 D.nx Y (upd c a (.ins C d (putF f y b)))
section
variable{X:Cx}{o e value:Expr}{f:Str}{pos pos' tpos:Pos}{ta tv:TE}
def rD(he:PE X e ta)(hb:attributeBase e f X.v (eval e X.v)=eval e X.v):PE X (.Attribute e f pos) (tFld X.K ta f):=by
 intro b s Y H Q I h;refine zH hb (thn (he b s Y H _ I h) λu s1 zq=>?_);obtain ⟨x,H1,I1,rx,a,C,dx,fs,v,ex,ea,c,n,l,q⟩:=zq;subst ex;obtain rfl:u=Value.ref a:=rx;exact Zli I1 ea c n l λj i g d=>⟨v,H1,g,d,q⟩
def yP(ha:PE X o ta)(hv:PE X value tv)(hs:swapsWith value (some (.Attribute o f pos')) pos.line X.v=pure false):PS X (.Assign [.Attribute o f pos'] value pos) (sFld X.K ta tv f):=by
 intro b s Y H D I h;refine plainObj_wpAny_Assign_Attribute (thn (hv b s Y H _ I h) λu i zq=>?_) hs;obtain ⟨y,e,g,j,q⟩:=zq;refine thn (ha b i Y e _ g q) λov s2 zq=>?_;obtain ⟨x,H2,I2,rx,a,C,dx,fs,ex,ea,c,n,l,q2⟩:=zq;subst ex;obtain rfl:ov=Value.ref a:=rx;exact Zlc I2 ea c n l j λk d=>⟨Y,_,d,q2⟩
end
section
variable{X:Cx}{pins:List (Addr×Obj)}{Y:St}{H:Hp}{s:Shared}{A:Around}{E:VS}{Q:VS}{c:Value}{b:Bool}
inductive TyOf(K:W1)(H:Hp):V->Value->Prop where
 | non:TyOf K H .non (.type "NoneType")
 | bl (x:Bool):TyOf K H (.bl x) (.type "bool")
 | int (i:Int):TyOf K H (.int i) (.type "int")
 | str (x:Str):TyOf K H (.str x) (.type "str")
 | lst {a:Addr} {xs:List V} (e:H a=some (.lst xs)):TyOf K H (.ref a) (.type "list")
 | frz {a:Addr} {o:Obj} {xs:List V} (e:H a=some (.frz o (.lst xs))):TyOf K H (.ref a) (.type "list")
 | tup {a:Addr} {xs:List V} (e:H a=some (.tup xs)):TyOf K H (.ref a) (.type "tuple")
 | ins {a C dx:Addr} {fs:List (Str×V)} (e:H a=some (.ins C dx fs)) (cl:Cls K C) (ha:W.findIn K (.ref C) "__class__"=some (some (.builtin "object.__class__")))
   (hn:W.specialIn K (.builtin "object.__class__") "__get__"=some (some (.builtin "getset_descriptor.__get__"))) (htk:W.takesIn K (.builtin "object.__class__")=some true)
   (hm:W.mroIn K C (.type "object")=some true):TyOf K H (.ref a) (.ref C)
def Rr(I:Inv X pins Y H s)(rx:RelV x u)(ty:TyOf X.K H x t)(e:W.kitOne X.K t c=some b)(h:∀tk,Q (.bool b) { s with toks:=tk }) :
  wpAny (model X.p X.w) A (call (.builtin "isinstance") [u,c]) Q E s:=by
 cases ty with
 | non=>cases (show u=Value.none from rx);exact Hg W.kitx_none I.kIn True.intro e (λz=>nomatch z) h
 | bl y=>cases (rx);exact Hg W.kitx_bool I.kIn True.intro e (λz=>nomatch z) h
 | int i=>obtain ⟨t,q⟩:=(rx);cases q;exact Hg W.kitx_int I.kIn True.intro e (λz=>nomatch z) h
 | str y=>obtain ⟨t,q⟩:=(rx);cases q;exact Hg W.kitx_str I.kIn True.intro e (λz=>nomatch z) h
 | @lst a g ea=>
  cases (rx);obtain ⟨_,_,n,_,d⟩:=(I.hok a _ ea);exact Hg W.kitx_list I.kIn ⟨_,d,rfl⟩ e (λz=>nomatch z) h
 | @frz a ob g ea=>
  cases (rx);obtain ⟨_,_,_,n,_,d⟩:=(I.hok a _ ea);exact Hg W.kitx_list I.kIn ⟨_,d,rfl⟩ e (λz=>nomatch z) h
 | @tup a g ea=>
  cases (rx);obtain ⟨_,_,_,p⟩:=(I.hok a _ ea);obtain ⟨o,d,f,_⟩:=p;exact Hg W.kitx_tuple I.kIn ⟨o,d,f⟩ e (λz=>nomatch z) h
 | @ins a C dx fs ea cl ha hn htk hm=>
  cases (show u=Value.ref a from rx);obtain ⟨r,O,_⟩:=SN I.hok ea;obtain ⟨m,J,_⟩:=O.look;exact Hg (W.kitx_own (cl.get _) cl.hd ha hn htk hm) I.kIn J e (λz=>nomatch z) h
end
structure Room(k:Nat)(A:Around):Prop where
 hd:A.handled=none
 dp:A.depth+3*k+5<recursionLimit
 un:A.units+16*k+200<cLine
def Room.mono(r:Room k A)(h:j<=k):Room j A:=⟨r.hd,by have:=r.dp;lia,by have:=r.un;lia⟩
def Room.deeper(r:Room (k+1) A)(env):Room k (A.deeper env) :=
 ⟨r.hd,by have:=r.dp;show A.depth+1+3*k+5<_;lia,by have:=r.un;show A.units+3+16*k+200<_;lia⟩
def pF{A:Around}:(A.under (.builtin "type.__call__" ⟨.ref C::us,kw⟩)).depth=A.depth+1:=by
 rfl
def Zll{A:Around}:(A.under (.builtin "type.__call__" ⟨.ref C::us,kw⟩)).units=A.units+1:=by
 rfl
def Room.make(r:Room (k+1) A)(C)(us)(kw):Room k (A.under (.builtin "type.__call__" ⟨.ref C::us,kw⟩)) :=
 ⟨r.hd,by have:=r.dp;rw [pF];lia,by have:=r.un;rw [Zll];lia⟩
def Room.depth(r:Room k A):A.depth<recursionLimit:=by have:=r.dp;lia
def Room.units(r:Room k A):A.units+64<cLine:=by have:=r.un;lia
def tNil:TA:=λ_ H Q=>Q [] H
def Bc(ta:TE)(tr:TA):TA:=λY H Q=>ta Y H λx c=>tr Y c λa b=>Q (x::a) b
section
variable{X:Cx}{e:Expr}{es:List Expr}{te:TE}{t:TA}{pos:Pos}
def GD:PA X [] tNil:=λ_ _ _ _ H Q I h=>Calls.spliced_nil ⟨[],H,I,.nil,h⟩
abbrev StE(X:Cx)(e:Expr)(es:List Expr):Prop:=starEach (e::es) X.v=(false,eval e X.v)::starEach es X.v
abbrev PlE(X:Cx)(p:Pos)(es:List Expr):Prop:=(backTo p (starEach es X.v)).any (·.1)=false
def EY(ha:PE X e te)(hr:PA X es t)(hs:StE X e es:=by rfl):PA X (e::es) (Bc te t):=by
 intro b a s Y H Q I h;rw [hs];refine Calls.spliced_cons (thn (ha a s Y H _ I h) λu g zq=>?_);obtain ⟨x,c,i,d,l⟩:=zq;exact thn (hr b a g Y c _ i l) λo p ⟨f,k,m,j,n⟩=>⟨x::f,k,m,.cons d j,n⟩
def tTup(t:TA):TE:=λY H Q=>t Y H λa b=>a.length<=sizeLine/\∀p,b p=none->Q (.ref p) (upd b p (.tup a))
def tLst(t:TA):TE:=λY H Q=>t Y H λa b=>a.length<=sizeLine/\∀p,b p=none->Q (.ref p) (upd b p (.lst a))
def cM{x1}(h:PA X es t):PE X (.Tuple es x1 pos) (tTup t):=by
 intro a s Y H Q I k;refine wpAny_Tuple_spliced (thn (h pos a s Y H _ I k) λj c zq=>?_);obtain ⟨i,g,d,r,z,q⟩:=zq;refine ⟨by rw [<-r.length];exact z,?_⟩;have f:=d.hok.fresh (Ae _);refine ⟨.ref c.heap.objs.size,upd g c.heap.objs.size (.tup i),d.laid (λb u e=>Bj _ e) (Ae _) ?_,rfl,q _ f⟩;exact ⟨z,j,r,⟨_,CJ _ rfl,rfl,_,rfl⟩⟩
def Pr(h:PA X es t):PE X (.List es pos) (tLst t):=by
 intro a s Y H Q I k;refine wpAny_List_spliced (thn (h pos a s Y H _ I k) λj c zq=>?_);obtain ⟨i,g,d,r,z,q⟩:=zq;refine ⟨by rw [<-r.length];exact z,?_⟩;have f:=d.hok.fresh (Ae _);refine ⟨.ref c.heap.objs.size,upd g c.heap.objs.size (.lst i),d.laid (λb u e=>Bj _ e) (Ae _) ?_,rfl,q _ f⟩;exact ⟨z,j,0,r,CJ _ rfl⟩
end
abbrev Sp:=List V->Hp->VK->XK->Prop
abbrev CXT:=List Env->Hp->Shared->XK->Value->Shared->Prop
structure Env0(P:Program)(w:World)(K:W1)(mg:MgT)(base:Heap)(A:Around)(outer:List Env)(s:Shared)(H:Hp):Prop where
 frames:A.frames=some outer
 mod:Mod K mg base
 bs:∀b o,base.get? b=some o->s.heap.get? b=some o/\H b=none
 bsz:base.objs.size<=s.heap.objs.size
 funs:s.heap.FunFrames base outer
 frf:∀b∈frs outer,H b=none
 hok:HOk P w H s.heap
 bare:AllBare s.gens
def CE(outer:List Env)(P:Program)(w:World)(H:Hp)(s:Shared)(Q:VK)(u:Value)(s':Shared):Prop :=
 ∃v a,s'.os=s.os/\AllBare s'.gens/\Un (frs outer) [] H a s.heap s'.heap/\HOk P w a s'.heap/\RelV v u/\Q v a
def CR(CX:CXT)(outer:List Env)(P:Program)(w:World)(H:Hp)(s:Shared)(Q:VK)(E:XK)(r:Result)(s':Shared):Prop :=
 match r with
 | .ok (.ret u)=>CE outer P w H s Q u s'
 | .ok _=>False
 | .error e=>CX outer H s E e s'
structure FnOk(P:Program)(w:World)(K:W1)(mg:MgT)(base:Heap)(CX:CXT)(k:Nat)(f:Addr)(fd:FuncData)(ps:List Str)(sp:Sp):Prop where
 len:∀vs H Q E,sp vs H Q E->vs.length=ps.length
 run:∀(A:Around) (outer:List Env) (s:Shared) (H:Hp) (args:Args) (us:List Value) (vs:List V) (Q:VK) (E:XK),Room k A->Env0 P w K mg base A outer s H->BindsTo s fd args (ps.zip us)->Vals vs us->sp vs H Q E ->
  codeAny (model P w) A (.call (.ref f) args) (CR CX outer P w H s Q E) s
def FnOk.mono{P:Program}{w:World}{K:W1}{mg:MgT}{base:Heap}{CX:CXT}{j k:Nat}{f:Addr}{fd:FuncData}{ps:List Str}{sp:Sp}(F:FnOk P w K mg base CX j f fd ps sp)(h:j<=k) :
  FnOk P w K mg base CX k f fd ps sp:=⟨F.len,λA a s H b c d Q E e=>F.run A a s H b c d Q E (e.mono h)⟩
def FnOk.imp{P:Program}{w:World}{K:W1}{mg:MgT}{base:Heap}{CX:CXT}{k:Nat}{f:Addr}{fd:FuncData}{ps:List Str}{sp sp':Sp}(F:FnOk P w K mg base CX k f fd ps sp)(h:∀vs H Q E,sp' vs H Q E->sp vs H Q E):FnOk P w K mg base CX k f fd ps sp' :=
 ⟨λvs H Q E q=>F.len vs H Q E (h _ _ _ _ q),λA a s H b g vs Q E c i d j e=>F.run A a s H b g vs Q E c i d j (h _ _ _ _ e)⟩
def Env0.make{P:Program}{w:World}{K:W1}{mg:MgT}{base:Heap}{A:Around}{outer:List Env}{s:Shared}{H:Hp}(e:Env0 P w K mg base A outer s H)(C)(us)(kw) :
  Env0 P w K mg base (A.under (.builtin "type.__call__" ⟨.ref C::us,kw⟩)) outer s H:=⟨by first | exact e.frames | (simpa [Around.under,Code.envs,Code.isFrame,pushEnvs] using e.frames),e.mod,e.bs,e.bsz,e.funs,e.frf,e.hok,e.bare⟩
section
variable{X:Cx}{pins:List (Addr×Obj)}{Y:St}{H:Hp}{s s':Shared}
def Inv.env0(I:Inv X pins Y H s):Env0 X.p X.w X.K X.m X.B X.A X.k s H :=
 ⟨I.ok.frames,I.ok.mod,I.bs,Ak I.ok.bsz I.sz,I.stack,I.stkFree,I.hok,I.bare⟩
def Inv.after(I:Inv X pins Y H s)(h:CE X.k X.p X.w H s Q u s'):EP X pins Y Q u s':=by
 obtain ⟨v,j,f,a,i,c,r,q⟩:=h;obtain ⟨k,g,d,t,e⟩:=s';obtain rfl:e=s.os:=f;exact ⟨v,j,I.call i c a (λb z=>aB z (by simp)),r,q⟩
end
def Hf(sp:Sp)(dvs:List V)(E:XK)(t:TA):TE:=λY H Q=>t Y H λa b=>sp (a++dvs) b Q E
def jH(C:Addr)(sp:Sp)(dvs:List V)(E:XK)(t:TA):TE:=λY H Q=>t Y H λd b=>∀x a,b x=none->b a=none->a≠x ->
 sp (.ref x::(d++dvs)) (upd (upd b a (.own x)) x (.ins C a [])) (λv c=>v=.non/\Q (.ref x) c) E
def Binds(K:W1)(fd:FuncData)(ps:List Str)(ds:List Value):Prop :=
 ∀s a,K.In s.heap->(a++ds).length=ps.length->BindsTo s fd ⟨a,[]⟩ (ps.zip (a++ds))
def Binds.all{K:W1}{fd:FuncData}{ps:List Str}(h:∀us:List Value,us.length=ps.length->bindArgs fd ⟨us,[]⟩=pure (ps.zip us)):Binds K fd ps []:=λs us _ a=>by
 rw [CN] at a ⊢;exact .of_eq (h us a)
def Dp(CX:CXT)(X:Cx)(E:XK):Prop:=∀a Y H s e b,Inv X a Y H s->CX X.k H s E e b->X.e e b
section
variable{X:Cx}{CX:CXT}{k:Nat}{f C:Addr}{fd:FuncData}{ps:List Str}{sp:Sp}{dvs:List V}{ds:List Value}{E:XK}{x m:Str}{p pos apos:Pos}{e o:Expr}{es:List Expr}{ta:TE}{t:TA}
def Sd(F:FnOk X.p X.w X.K X.m X.B CX k f fd ps sp)(hr:Room k X.A)(hb:Binds X.K fd ps ds)(hd:Vals dvs ds)(hx:Dp CX X E)(I:Inv X pins Y H s)(r:Vals vs us)(h:sp (vs++dvs) H Q E):wX X (call (.ref f) us) (EP X pins Y Q) X.e s:=by
 have a:=r.append hd;have d:(us++ds).length=ps.length:=by rw [<-a.length];exact F.len _ _ _ _ h
 refine wpAny_call (Kc (F.run X.A X.k s H ⟨us,[]⟩ (us++ds) (vs++dvs) Q E hr I.env0 (hb s us I.kIn d) a h) λr c b=>?_);cases r with
 | error e=>exact hx pins Y H s e c I b
 | ok fl=>
  cases fl with
  | ret u=>exact I.after b
  | next=>ext
  | brk=>ext
  | cont=>ext
def Vb(F:FnOk X.p X.w X.K X.m X.B CX k f fd ps sp)(hr:Room k X.A)(hg:Gl X x)(hm:X.m x=some (.ref f))(hk:W.keepIn X.K (.ref f)=true)(hb:Binds X.K fd ps ds)(hd:Vals dvs ds)(hx:Dp CX X E)(ha:PA X (e::es) t)(hdb:ND x:=by decide)(he:StE X e es:=by rfl)(hpl:PlE X pos es:=by rfl) :
  PE X (.Call (.Name x p) (e::es) [] pos) (Hf sp dvs E t):=by
 intro a s Y H Q I h;refine O5 (Tf I hg hm ?_ hdb);refine W.callWith_K I.ok.mod.kin hk (thn (ha pos a s Y H _ I h) λc i zq=>?_) he hpl;obtain ⟨d,g,b,r,q⟩:=zq;refine ⟨b.kIn,?_⟩;exact Sd F hr hb hd hx b r q
structure Mk(K:W1)(C f:Addr):Prop where
 makes:W.makesIn K C=true
 init:W.findIn K (.ref C) "__init__"=some (some (.ref f))
 fn:W.isFn K (.ref f)=true
 kp:W.keepIn K (.ref C)=true
def Zox(M:Mk X.K C f)(F:FnOk X.p X.w X.K X.m X.B CX k f fd ps sp)(hr:Room (k+1) X.A)(hb:Binds X.K fd ps ds)(hd:Vals dvs ds)(hx:Dp CX X E)(I:Inv X pins Y H s)(r:Vals vs us)(h:∀x dx,H x=none->H dx=none->dx≠x->sp (.ref x::(vs++dvs)) (upd (upd H dx (.own x)) x (.ins C dx [])) (λv H2=>v=.non/\Q (.ref x) H2) E) :
  wX X (call (.ref C) us) (EP X pins Y Q) X.e s:=by
 have d:=h (s.heap.objs.size+1) s.heap.objs.size (I.hok.fresh (Kq _)) (I.hok.fresh (Ae _)) (Am (Ha _));have b:=Inv.made (C:=C) I;have c:Vals (V.ref (s.heap.objs.size+1)::(vs++dvs)) (Value.ref (s.heap.objs.size+1)::(us++ds)):=.cons rfl (r.append hd);have l:(Value.ref (s.heap.objs.size+1)::us++ds).length=ps.length:=by
  have e:=c.length;rw [F.len _ _ _ _ d] at e
  grind
 refine wpAny_call (ZpQ I.kIn M.makes M.init (beq_iff_eq.mp M.fn) (Kc (F.run _ X.k _ _ ⟨Value.ref (s.heap.objs.size+1)::us,[]⟩ (Value.ref (s.heap.objs.size+1)::(us++ds)) _ _ E (hr.make C us [])
  (b.env0.make C us []) (hb _ (Value.ref (s.heap.objs.size+1)::us) b.kIn l) c d) λr i a=>?_))
 cases r with
 | error e=>exact hx pins Y _ _ e i b a
 | ok fl=>
  cases fl with
  | ret u=>
   obtain ⟨v,m,j,o,g,n⟩:=b.after a;subst g;exact ⟨o,⟨V.ref (s.heap.objs.size+1),m,j,rfl,n⟩⟩
  | next=>ext
  | brk=>ext
  | cont=>ext
def tE(M:Mk X.K C f)(F:FnOk X.p X.w X.K X.m X.B CX k f fd ps sp)(hr:Room (k+1) X.A)(hg:Gl X x)(hm:X.m x=some (.ref C))(hb:Binds X.K fd ps ds)(hd:Vals dvs ds)(hx:Dp CX X E)(ha:PA X (e::es) t)(hdb:ND x:=by decide)(he:StE X e es:=by rfl)(hpl:PlE X pos es:=by rfl) :
  PE X (.Call (.Name x p) (e::es) [] pos) (jH C sp dvs E t):=by
 intro a s Y H Q I h;refine O5 (Tf I hg hm ?_ hdb);refine W.callWith_K I.ok.mod.kin M.kp (thn (ha pos a s Y H _ I h) λc i zq=>?_) he hpl;obtain ⟨d,g,b,r,q⟩:=zq;refine ⟨b.kIn,?_⟩;exact Zox M F hr hb hd hx b r q
end
def PK(X:Cx)(kws:List Keyword)(t:TA):Prop :=
 ∀b a s Y H Q,Inv X a Y H s->t Y H Q->wX X (evalAll ((backToKw b (keywordEach kws X.v)).map (·.2))) (AP X a Y Q) X.e s
section
variable{X:Cx}{CX:CXT}{k:Nat}{f C:Addr}{fd:FuncData}{ps ks:List Str}{sp:Sp}{E:XK}{x m:Str}{p pos apos kpos:Pos}{e o:Expr}{es:List Expr}{kws:List Keyword}{te ta:TE}{t tk:TA}{nm:Option Str}
def yw:PK X [] tNil:=λ_ _ _ _ H Q I h=>wpAny_evalAll_nil ⟨[],H,I,.nil,h⟩
def ZsX(ha:PE X e te)(hr:PK X kws t):PK X (⟨nm,e,kpos⟩::kws) (Bc te t):=by
 intro b a s Y H Q I h;refine wpAny_evalAll_cons (Ac (thn (ha a s Y H _ I h) λu g zq=>?_));obtain ⟨x,c,i,d,l⟩:=zq;refine Ac (Lr (Ad ?_));exact thn (hr b a g Y c _ i l) λo p ⟨f,k,m,j,n⟩=>⟨x::f,k,m,.cons d j,n⟩
structure XF(K:W1)(fd:FuncData)(ps ks:List Str)(g:List Value->List Value->List Value)(gV:List V->List V->List V):Prop where
 to:∀(s:Shared) (us ws:List Value),K.In s.heap->(g us ws).length=ps.length->BindsTo s fd ⟨us,ks.zip ws⟩ (ps.zip (g us ws))
 rel:∀{vs:List V} {us:List Value} {zs:List V} {ws:List Value},Vals vs us->Vals zs ws->Vals (gV vs zs) (g us ws)
def WT(sp:Sp)(gV:List V->List V->List V)(E:XK)(t tk:TA):TE:=λY H Q=>t Y H λc d=>tk Y d λb a=>sp (gV c b) a Q E
variable{g:List Value->List Value->List Value}{gV:List V->List V->List V}
def xx(F:FnOk X.p X.w X.K X.m X.B CX k f fd ps sp)(hr:Room k X.A)(hb:XF X.K fd ps ks g gV)(hx:Dp CX X E)(I:Inv X pins Y H s)(r:Vals vs us)(rz:Vals zs ws)(h:sp (gV vs zs) H Q E):wX X (call (.ref f) us (ks.zip ws)) (EP X pins Y Q) X.e s:=by
 have a:=hb.rel r rz;have d:(g us ws).length=ps.length:=by rw [<-a.length];exact F.len _ _ _ _ h
 refine wpAny_call (Kc (F.run X.A X.k s H ⟨us,ks.zip ws⟩ (g us ws) (gV vs zs) Q E hr I.env0 (hb.to s us ws I.kIn d) a h) λr c b=>?_);cases r with
 | error e=>exact hx pins Y H s e c I b
 | ok fl=>
  cases fl with
  | ret u=>exact I.after b
  | next=>ext
  | brk=>ext
  | cont=>ext
def kY(F:FnOk X.p X.w X.K X.m X.B CX k f fd ps sp)(hr:Room k X.A)(hg:Gl X x)(hm:X.m x=some (.ref f))(hk:W.keepIn X.K (.ref f)=true)(hb:XF X.K fd ps ks g gV)(hx:Dp CX X E)(ha:PA X (e::es) t)(hkw:PK X kws tk)(hall:(backToKw pos (keywordEach kws X.v)).all (·.1.isSome)=true:=by rfl)(hks:(backToKw pos (keywordEach kws X.v)).filterMap (·.1)=ks:=by rfl)(hdb:ND x:=by decide)(he:StE X e es:=by rfl)(hpl:((backTo pos (starEach (e::es) X.v)).any (·.1)||(backToKw pos (keywordEach kws X.v)).any (·.1.isNone))=false:=by rfl) :
  PE X (.Call (.Name x p) (e::es) kws pos) (WT sp gV E t tk):=by
 intro a s Y H Q I h;refine O5 (Tf I hg hm ?_ hdb);refine W.callWith_KW I.ok.mod.kin hk hall (thn (ha pos a s Y H _ I h) λu d zq=>?_) hpl he;obtain ⟨v,c,i,r,q⟩:=zq;refine thn (hkw pos a d Y c _ i q) λo y zq=>?_;obtain ⟨m,n,b,j,l⟩:=zq;refine ⟨b.kIn,?_⟩;rw [hks];exact xx F hr hb hx b r j l
end
structure CT(N P:List Str)(sc:Scope):Prop where
 kind:sc.kind=.function
 co:sc.isCoroutine=false
 gen:sc.isGenerator=false
 nd:N.Nodup
 pre:N.take P.length=P
 par:∀x∈P,sc.names.lookup x=some .local\/sc.names.lookup x=some .cell
 nofree:∀y∈sc.names,y.2≠.free
def X7{kindOf:Str->Option NameKind}{x:Str}:∀{binds:List (Str×Value)} {m:Str->Option Value},(∀v,(x,v)∉binds)->bindL kindOf binds m x=m x
 | [],_,_=>rfl
 | (n,v)::r,m,h=>by
  unfold bindL;rw [X7 λw a=>h w (Bf _ a)];split
  .grind
  .rfl
def cY{kindOf:Str->Option NameKind}{x:Str}:∀{binds:List (Str×Value)} {m:Str->Option Value},(∀v,(x,v)∉binds)->bindC kindOf binds m x=m x
 | [],_,_=>rfl
 | (n,v)::r,m,h=>by
  unfold bindC;rw [cY λw a=>h w (Bf _ a)];split
  .rfl
  grind
theorem X5{kindOf:Str->Option NameKind}{x:Str}{v:Value}:∀{P:List Str} {vs:List Value} {i:Nat} {m:Str->Option Value},P.Nodup->P[i]?=some x->vs[i]?=some v->kindOf x=some .local ->
  bindL kindOf (P.zip vs) m x=some v
 | [],_,_,_,_,h,_,_=>by simp at h
 | _::_,[],_,_,_,_,h,_=>by simp at h
 | p::P,w::vs,0,m,nd,h1,h2,hk=>by
  simp at h1 h2;subst h1;subst h2;show bindL kindOf ((p,w)::P.zip vs) m p=_;unfold bindL;rw [X7 λv a=>(Hy.mp nd).1 (Nt a).1,iP hk];simp
 | p::P,w::vs,i+1,m,nd,h1,h2,hk=>by
  show bindL kindOf ((p,w)::P.zip vs) m x=_;unfold bindL;exact X5 (i:=i) (Hy.mp nd).2 (by ext) (by ext) hk
theorem jF{kindOf:Str->Option NameKind}{x:Str}{v:Value}:∀{P:List Str} {vs:List Value} {i:Nat} {m:Str->Option Value},P.Nodup->P[i]?=some x->vs[i]?=some v->kindOf x≠some .local ->
  bindC kindOf (P.zip vs) m x=some v
 | [],_,_,_,_,h,_,_=>by simp at h
 | _::_,[],_,_,_,_,h,_=>by simp at h
 | p::P,w::vs,0,m,nd,h1,h2,hk=>by
  simp at h1 h2;subst h1;subst h2;show bindC kindOf ((p,w)::P.zip vs) m p=_;unfold bindC;rw [cY λv a=>(Hy.mp nd).1 (Nt a).1,iN hk];simp
 | p::P,w::vs,i+1,m,nd,h1,h2,hk=>by
  show bindC kindOf ((p,w)::P.zip vs) m x=_;unfold bindC;exact jF (i:=i) (Hy.mp nd).2 (by ext) (by ext) hk
noncomputable def start(N:List Str)(vs:List V):St:=vs.map some++List.replicate (N.length - vs.length) none
noncomputable def cxOf(CX:CXT)(P:Program)(w:World)(K:W1)(mg:MgT)(base:Heap)(N:List Str)(qual:Str)(scope:Scope)(f:Addr)(cd:Value)(A:Around)(outer:List Env)(s:Shared)(H:Hp)(E:XK):Cx where
 p:=P
 w:=w
 K:=K
 m:=mg
 B:=base
 A:=A.deeper (envOfC qual scope s.heap.objs.size f cd)
 N:=N
 s₀:=s
 H₀:=H
 v:=envOfC qual scope s.heap.objs.size f cd
 outer:=outer
 k:=envOfC qual scope s.heap.objs.size f cd::outer
 ex:=[]
 c:=true
 fn:=λ_=>true
 pn:=[]
 e:=λe b=>wpAny (model P w) (A.deeper (envOfC qual scope s.heap.objs.size f cd)) (leaving (envOfC qual scope s.heap.objs.size f cd) e) (λ_ a=>CX outer H s E e a) (λc a=>CX outer H s E c a) b
def jf{sc:Scope}(h:sc.names.lookup x=some .cell):∃c,(cellsFrom n sc.names []).lookup x=some c:=by
 have q:=W.cellsFrom_some sc.names n [] (.inl h);exact Option.isSome_iff_exists.mp q
def rJ{CX:CXT}{P:Program}{w:World}{K:W1}{mg:MgT}{base:Heap}{N ps:List Str}{qual:Str}{scope:Scope}{f:Addr}{cd:Value}{A:Around}{outer:List Env}{s s1:Shared}{H:Hp}{E:XK}{us:List Value}{vs:List V}(S:CT N ps scope)(hd:A.handled=none)(e0:Env0 P w K mg base A outer s H)(hl:vs.length=ps.length)(r:Vals vs us)(x:InCallC s s.heap.objs.size (bindL (envOfC qual scope s.heap.objs.size f cd).kindOf (ps.zip us) λ_=>none) (cellsFrom (s.heap.objs.size+1) scope.names []) (bindC (envOfC qual scope s.heap.objs.size f cd).kindOf (ps.zip us) λ_=>none) s1) :
  Inv (cxOf CX P w K mg base N qual scope f cd A outer s H E) [] (start N vs) H s1:=by
 have o:ps.length<=N.length:=by have:=Ew List.length S.pre;grind
 obtain ⟨l,F,rfl,n⟩:=x.done;have a:∀b:Addr,b∉(cxOf CX P w K mg base N qual scope f cd A outer s H E).ex:=λb z=>aB (show b∈([]:List Addr) from z) (by simp)
 refine ⟨⟨e0.mod,S.kind,rfl,rfl,Ae _,λy z c l j=>?_,λy hy=>?_,λy c _ h=>?_,λ_=>hd,Around.frames_deeper e0.frames,.inr ⟨rfl,rfl⟩,λb z=>aB z (a b),e0.bs,e0.bsz,λb _ _=>a b,λb z=>aB z (a b),e0.funs,e0.frf⟩,
  rfl,e0.bare,Un.kept n,⟨_,x.toInCall.ns,λi y v l j C=>?_⟩,λy c h=>⟨_,x.cell y c h⟩,e0.hok.fresh (Ae _),λy c h=>?_,λp d=>aB (show p∈([]:List (Addr×Obj)) from d) (by simp),e0.hok.kept n,?_⟩
 .exact name_of_addr x.apart (Eo l) (Eo j)
 .have hy:scope.names.lookup y=some .cell\/scope.names.lookup y=some .free:=hy;rcases hy with hy | hy
  .exact jf hy
  .exact aB rfl (S.nofree _ (Eo hy))
 .exact Ay (x.above y c (Eo h))
 .have D:i<vs.length:=by
   unfold start at j
   grind
  have t:vs[i]?=some v:=by
   unfold start at j
   grind
  obtain ⟨u,m,B⟩:=r.get t;have d:ps[i]?=some y:=by
   rw [<-S.pre,List.getElem?_take_of_lt (by lia)];exact l
  have g:ps.Nodup:=by rw [<-S.pre];exact S.nd.sublist (List.take_sublist _ _)
  refine ⟨u,B,?_⟩;rcases S.par y (Gg d) with k | k
  .exact .inl ⟨k,X5 g d m k⟩
  .obtain ⟨c,e⟩:=jf k;refine .inr ⟨.inl k,c,e,?_⟩;have q:=x.cell y c e;rw [jF g d m (by show scope.names.lookup y≠_;lia)] at q;exact q
 .exact e0.hok.fresh (Ay (x.above y c (Eo h)))
 .unfold start;show _=N.length;simp_all
def Lx{CX:CXT}{P:Program}{w:World}{K:W1}{mg:MgT}{base:Heap}{k:Nat}{f:Addr}{name qual:Str}{params:Arguments}{body:List Stmt}{scope:Scope}{dV kV doc pm cdv ct oc:Value}{an od:Option Addr}{osl:Array (Option Value)}{N ps:List Str}{sp:Sp}(lk:K.lookup f=some ⟨oc,od,.func (W.fnOf name qual params body scope dV kV doc pm an cdv ct),osl⟩)(hcd:W.codeIn K cdv qual=true)(S:CT N ps scope)(len:∀vs H Q E,sp vs H Q E->vs.length=ps.length) (hbody:∀(A:Around) (outer:List Env) (s:Shared) (H:Hp) (vs:List V) (Q:VK) (E:XK),Room k (A.deeper (envOfC qual scope s.heap.objs.size f cdv))->sp vs H Q E ->
   ∃t,PSs (cxOf CX P w K mg base N qual scope f cdv A outer s H E) body t/\t { nx:=λ_ H'=>Q .non H',rt:=Q } (start N vs) H) :
  FnOk P w K mg base CX (k+1) f (W.fnOf name qual params body scope dV kV doc pm an cdv ct) ps sp:=by
 refine ⟨len,λA outer s H z T vs Q E p d F r h=>?_⟩;have M:=len _ _ _ _ h;have B:=d.mod.kin.keeps λb o e=>(d.bs b o e).1;have l:=d.mod.nolimit.keeps λb o e=>(d.bs b o e).1;have a:∀y∈ps.zip T,scope.names.lookup y.1=some .local\/(scope.names.lookup y.1=some .cell/\((cellsFrom (s.heap.objs.size+1) scope.names []).lookup y.1).isSome=true):=λ⟨n,v⟩ O=>by
  rcases S.par n (Nt O).1 with q | q
  .lia
  .exact .inr ⟨q,W.cellsFrom_some _ _ _ (.inl q)⟩
 refine codeAny_call_function p.depth (B _ _ lk) rfl S.co S.gen rfl (W.codeRec_of B hcd) (F _ _ _ _ ?_);refine wpAny_newFunctionEnv_cells S.kind a λL U C x=>?_;subst U;refine ⟨l.keeps x.toInCall.keep,codeAny_func ?_⟩;obtain ⟨t,D,G⟩:=hbody A outer s H vs Q E (p.deeper _) h;have I:Inv (cxOf CX P w K mg base N qual scope f cdv A outer s H E) [] (start N vs) H C:=rJ S p.hd d M r x;refine Ce (D [] C (start N vs) H _ I G) (λR j c=>?_) λe j c=>c;have g:∀{i:St} {H':Hp} {v:V} {u:Value},Inv (cxOf CX P w K mg base N qual scope f cdv A outer s H E) [] i H' j->RelV v u->Q v H'->CE outer P w H s Q u j :=
  λ{i H' v u} J m q=>⟨v,H',J.os,J.bare,J.base,J.hok,m,q⟩
 cases R with
 | ret u=>
  obtain ⟨v,i,H',J,m,q⟩:=c;exact g J m q
 | next=>
  obtain ⟨i,H',J,q⟩:=c;exact g (v:=V.non) J rfl q
 | brk=>
  obtain ⟨_,_,_,q⟩:=c
  ext
 | cont=>
  obtain ⟨_,_,_,q⟩:=c
  ext
section
variable{X:Cx}{x:Str}{p pos:Pos}{e:Expr}{es:List Expr}{t:TA}{id T:String}{r:List V->Hp->VK->Prop}
def tCB(r:List V->Hp->VK->Prop)(t:TA):TE:=λY H Q=>t Y H λa b=>r a b Q
def YJ(hc:Ep X (.builtin id) r)(hg:Gl X x)(hm:X.m x=none)(hv:bootBuiltins x=some (.builtin id))(ha:PA X (e::es) t)(hn:x ≠ "__name__":=by decide)(hdb:ND x:=by decide)(he:StE X e es:=by rfl)(hpl:PlE X pos es:=by rfl):PE X (.Call (.Name x p) (e::es) [] pos) (tCB r t):=by
 intro a s Y H Q I h;refine O5 (Hl I hg hm hv ?_ hn hdb);exact PyProof.Rows.callWith_builtin1 (thn (ha pos a s Y H _ I h) λb i zq=>by obtain ⟨c,d,j,f,g⟩:=zq;exact hc a i Y d c b Q j f g) he hpl
def fW(hc:Ep X (.type T) r)(hg:Gl X x)(hm:X.m x=none)(hv:bootBuiltins x=some (.type T))(ha:PA X (e::es) t)(hn:x ≠ "__name__":=by decide)(hdb:ND x:=by decide)(he:StE X e es:=by rfl)(hpl:PlE X pos es:=by rfl):PE X (.Call (.Name x p) (e::es) [] pos) (tCB r t):=by
 intro a s Y H Q I h;refine O5 (Hl I hg hm hv ?_ hn hdb);exact Ip (thn (ha pos a s Y H _ I h) λb i zq=>by obtain ⟨c,d,j,f,g⟩:=zq;exact hc a i Y d c b Q j f g) he hpl
end
end L2
namespace HT
section
variable{prog:Program}{w:World}{A:Around}{E:VS}{s:Shared}
def oW(ht:IsTup s.heap t vs.toArray)(hb:IsTup s.heap b ws.toArray)(hv:vs≠[])(h1:ws=[]->Q (.ref t) s)(h2:ws≠[]->Q (.ref s.heap.objs.size) { s with heap:=s.heap.push { cls:=.type "tuple",data:=.seq (vs++ws).toArray } })(hsz:vs.length+ws.length<=sizeLine):wP prog w A (binaryOp .Add (.ref t) (.ref b)) Q E s:=by
 obtain ⟨⟨cls,p,data,l⟩,h,o,n,j⟩:=id ht;obtain ⟨⟨k,f,i,g⟩,a,d,m,c⟩:=id hb;simp only at o j d c;subst o j d c;have e:vs.toArray++ws.toArray=(vs++ws).toArray:=by simp
 by_cases hw:ws=[]
 .exact concat_meets ⟨_,h,rfl⟩ ⟨_,a,rfl⟩ noFill_tuple_add seq_tuple_add PySem.F.slot_tuple_add PySem.F.entry_tuple_add (PySem.F.args_tuple_add_2 _ _)
   (tuple_addW1 t b vs.toArray ws.toArray n m p f l g (by simp_all) (by simp [hw])) ⟨h,a,h1 hw⟩
 .refine concat_meets ⟨_,h,rfl⟩ ⟨_,a,rfl⟩ noFill_tuple_add seq_tuple_add PySem.F.slot_tuple_add PySem.F.entry_tuple_add (PySem.F.args_tuple_add_2 _ _)
   (tuple_addW2 t b vs.toArray ws.toArray n m p f l g (by simp_all) (by simp_all) (by ext)) ⟨h,a,?_⟩
  lia
noncomputable def sIx(n d:Nat):Option Int->Nat
 | none=>d
 | some v=>if v<0 then (v+(n:Int)).toNat else min v.toNat n
def iV(v:Int)(n d:Nat):(if v<0 then max (v+(n:Int)) 0 else min v (n:Int))=((sIx n d (some v):Nat):Int):=by
 show (if v<0 then max (v+(n:Int)) 0 else min v (n:Int))=(((if v<0 then (v+(n:Int)).toNat else min v.toNat n):Nat):Int)
 lia
def mJ(lo hi:Option Int)(n:Nat):Builtin.Slice.sliceAdjust lo hi 1 (n:Int)=(((sIx n 0 lo:Nat):Int),((sIx n n hi:Nat):Int)):=by
 have a:¬((1:Int)<0):=by lia
 unfold Builtin.Slice.sliceAdjust;simp only [a,Ca];refine Gn ?_ ?_
 .cases lo with
  | none=>rfl
  | some v=>exact iV v n 0
 .cases hi with
  | none=>rfl
  | some v=>exact iV v n n
def xU(i j:Nat):Builtin.Slice.slicePlaces (i:Int) (j:Int) 1=j - i:=by
 unfold Builtin.Slice.slicePlaces
 lia
def ZG(p:IsPart v o)(h:Q o s):wP prog w A (Builtin.Slice.slicePartIndex v) Q E s:=by
 cases p with
 | none=>exact slicePart_none h
 | int i t=>exact slicePart_int h
def Y5{sl:Addr}{vl vu:Value}{lo hi:Option Int}{n:Nat}{Q:Int×Int×Nat->Shared->Prop}(hs:s.heap.IsSliceOf sl vl vu .none)(pl:IsPart vl lo)(pu:IsPart vu hi)(h:Q (((sIx n 0 lo:Nat):Int),1,sIx n n hi - sIx n 0 lo) s):wP prog w A (Builtin.Slice.sliceApplied (.ref sl) (pure (n:Int))) Q E s:=by
 obtain ⟨d,b,c,a⟩:=id hs;unfold Builtin.Slice.sliceApplied Builtin.Slice.sliceFields;refine Ac (Ac (Gk b a rfl (Ac (Gk b a rfl (Ac (Gk b a rfl (Ad ?_)))))));refine Ac (slicePart_none ?_);rw [iN (by decide)];refine Ac (ZG pl (Ac (ZG pu (Ac (Ad ?_)))));show wpAny _ _ (match Builtin.Slice.sliceAdjust lo hi 1 (n:Int) with | (lo,hi)=>pure (lo,(1:Int),Builtin.Slice.slicePlaces lo hi 1)) _ _ s
 rw [mJ lo hi n];show wpAny _ _ (pure (((sIx n 0 lo:Nat):Int),(1:Int),Builtin.Slice.slicePlaces ((sIx n 0 lo:Nat):Int) ((sIx n n hi:Nat):Int) 1)) _ _ s;rw [xU];exact Ad h
def Zpn(xs:Array Value)(i k:Nat):((List.range k).filterMap λ(m:Nat)=>xs[((i:Int)+(m:Int)*1).toNat]?).toArray=((xs.toList.drop i).take k).toArray:=by
 have e:(λ(m:Nat)=>xs[((i:Int)+(m:Int)*1).toNat]?)=λm=>xs[i+m]?:=by
  grind
 rw [e];have:=pick_run xs i k;rw [List.filterMap_map] at this;have a:((λx=>xs[x]?) ∘ λx=>i+x)=λm=>xs[i+m]?:=rfl
 lia
def ZeT{t sl:Addr}{items:Array Value}{vl vu:Value}{lo hi:Option Int}{Q:VS}(ht:IsTup s.heap t items)(hs:s.heap.IsSliceOf sl vl vu .none)(pl:IsPart vl lo)(pu:IsPart vu hi)(hw:¬(sIx items.size 0 lo=0/\sIx items.size items.size hi=items.size))(h:Q (.ref s.heap.objs.size) { s with heap:=s.heap.push { cls:=.type "tuple",data:=.seq ((items.toList.drop (sIx items.size 0 lo)).take (sIx items.size items.size hi - sIx items.size 0 lo)).toArray } })(hsz:items.size<=sizeLine):wP prog w A (getItem (.ref t) (.ref sl)) Q E s:=by
 have a:sizeOk (.seq ((items.toList.drop (sIx items.size 0 lo)).take (sIx items.size items.size hi - sIx items.size 0 lo)).toArray):=by
  show ((items.toList.drop (sIx items.size 0 lo)).take (sIx items.size items.size hi - sIx items.size 0 lo)).toArray.size<=sizeLine;exact Ak (Ak (List.length_take_le' ..) (by rw [HY];exact Fy _ _)) hsz
 obtain ⟨g,c,d,f⟩:=id hs;have e:s.TypeIs (.ref sl) "slice":=⟨g,c,d⟩;unfold getItem
 try with_reducible refine Cw ?_
 first | refine Ac (Ad ?_) | skip
 refine Ac (wpAny_sequenceKey ht.typeIs (by decide) ?_)
 refine Ac (Nz ht.typeIs UV
  (Kd UV ht.typeIs entry_tuple_getitem ?_ (args_tuple_getitem _ _)))
 show wpAny _ _ (Builtin.Tuple.tupleItemsOf (.ref t) >>= _) _ _ s;refine Ac (tupleItemsOf_ ht ?_);refine Ac (Mh e ?_);rw [iP (by decide)];refine Ac (Y5 hs pl pu ?_);have b:¬((((sIx items.size 0 lo:Nat):Int)==0&&(1:Int)==1&&(sIx items.size items.size hi - sIx items.size 0 lo)==items.size)=true):=by
  exact λz=>hw (by simp only [PQ,beq_iff_eq] at z;lia)
 show wpAny _ _ (if (((sIx items.size 0 lo:Nat):Int)==0&&(1:Int)==1&&(sIx items.size items.size hi - sIx items.size 0 lo)==items.size)=true then _ else _) _ _ s
 rw [iN b,Zpn]
 first
  | exact Ac (KR (Ad ⟨_,rfl,Ad h⟩) a)
  | exact Ac (KR (Ac (Ad (Ad ⟨_,rfl,Ad h⟩))) a)
  | exact Ac (Ac (KR (Ad (Ad ⟨_,rfl,Ad h⟩)) a))
  | exact Ac (Ac (KR (Ad ⟨_,rfl,Ad h⟩) a))
end
end HT
namespace L2
abbrev TO:=St->Hp->(Option Int->Hp->Prop)->Prop
def PO(X:Cx)(e:Option Expr)(t:TO):Prop :=
 ∀a s Y H Q,Inv X a Y H s->t Y H Q ->
  wX X (evalPart e X.v) (λu c=>∃o b,Inv X a Y b c/\IsPart u o/\Q o b) X.e s
def Wn:TO:=λ_ H Q=>Q none H
def V0(t:TE):TO:=λY H Q=>t Y H λx a=>∃i,x=.int i/\Q (some i) a
section
variable{X:Cx}{e:Expr}{te:TE}{lo hi:Option Expr}{tl th:TO}{pos p2:Pos}
def Zsq:PO X none Wn:=by
 intro a s Y H Q I h;rw [evalPart_none];exact Ad ⟨none,H,I,.none,h⟩
def ZsY(h:PE X e te):PO X (some e) (V0 te):=by
 intro a s Y H Q I b;rw [evalPart_some];refine thn (h a s Y H _ I b) λu j zq=>?_;obtain ⟨x,c,g,d,f⟩:=zq;obtain ⟨i,rfl,q⟩:=f;obtain ⟨t,rfl⟩:=d;exact ⟨some i,c,g,.int i t,q⟩
def SlR(X:Cx)(r:V->Option Int->Option Int->Hp->VK->Prop):Prop :=
 ∀a s Y H x v d c e f b Q,Inv X a Y H s->RelV x v->s.heap.IsSliceOf b d c .none->IsPart d e->IsPart c f->r x e f H Q ->
  ∃T g,typeLookup (.type T) "__getitem__"=pure (some (.builtin g))/\s.TypeIs v T/\wX X (getItem v (.ref b)) (EP X a Y Q) X.e s
def SlR.or(h:SlR X r)(h':SlR X r'):SlR X (λx lo hi H Q=>r x lo hi H Q\/r' x lo hi H Q):=by
 intro a s Y H x v d b lo hi i Q I f g c e q;rcases q with q | q
 .exact h a s Y H x v d b lo hi i Q I f g c e q
 .exact h' a s Y H x v d b lo hi i Q I f g c e q
def tSl(r:V->Option Int->Option Int->Hp->VK->Prop)(te:TE)(tl th:TO):TE:=λY H Q=>te Y H λx b=>tl Y b λl a=>th Y a λu c=>r x l u c Q
def Zph(hr:SlR X r)(he:PE X e te)(hl:PO X lo tl)(hu:PO X hi th):PE X (.Subscript e (.Slice lo hi none p2) pos) (tSl r te tl th):=by
 intro a s Y H Q I h;refine Subscript_ (thn (he a s Y H _ I h) λv m zq=>?_);obtain ⟨x,i,p,j,E⟩:=zq;refine wpAny_Slice (thn (hl a m Y i _ p E) λd C zq=>?_);obtain ⟨l,z,G,k,J⟩:=zq;refine thn (hu a C Y z _ G J) λf c zq=>?_;obtain ⟨u,g,B,n,F⟩:=zq;rw [evalPart_none];refine Ad ?_;have o:Inv X a Y g { c with heap:=c.heap.push { cls:=.type "slice",data:=.fields #[d,f,.none] } }:=B.kept λb L q=>Bj _ q
 obtain ⟨T,K,D,t,y⟩:=hr a { c with heap:=c.heap.push { cls:=.type "slice",data:=.fields #[d,f,.none] } } Y g x v d f l u c.heap.objs.size Q o j (Heap.IsSliceOf.new ..) k n F;show wX X (subscriptTail e (.Slice lo hi none p2) v (.ref c.heap.objs.size)) (EP X a Y Q) X.e { c with heap:=c.heap.push { cls:=.type "slice",data:=.fields #[d,f,.none] } }
 exact tail_any (ops:=[.ref c.heap.objs.size,v]) t D y (by rfl)
def cutV(xs:List V)(lo hi:Option Int):List V:=(xs.drop (HT.sIx xs.length 0 lo)).take (HT.sIx xs.length xs.length hi - HT.sIx xs.length 0 lo)
def c7(xs)(lo hi):(cutV xs lo hi).length<=xs.length:=by
 unfold cutV;rw [Eb,HY]
 lia
def rSlT(K:W1):V->Option Int->Option Int->Hp->VK->Prop:=λx c d H Q=>∃a b,x=.ref a/\SqT K H a b /\
 ¬(HT.sIx b.length 0 c=0/\HT.sIx b.length b.length d=b.length)/\∀p,H p=none->Q (.ref p) (upd H p (.tup (cutV b c d)))
def Zvd:SlR X (rSlT X.K):=by
 intro g s Y H x v w u f j y Q I m n k l h;obtain ⟨a,c,rfl,o,t,q⟩:=h;cases m;obtain ⟨e,r,i,p⟩:=I.tuple o;have d:e.toArray.size=c.length:=by rw [Ht];exact r.length.symm
 refine ⟨"tuple",_,PyProof.Rows.slot_tuple_getitem.lookup,i.typeIs,?_⟩;refine HT.ZeT i n k l (by lia) ?_ (by lia);rw [d];refine ⟨.ref s.heap.objs.size,_,I.laid (λb z q=>Bj _ q) (Ae _) ?_,rfl,q _ (I.hok.fresh (Ae _))⟩;exact ⟨Ak (c7 c f j) p,_,(r.drop (HT.sIx c.length 0 f)).take (HT.sIx c.length c.length j - HT.sIx c.length 0 f),IsTup.new _ _⟩
def ux(K:W1):R2:=λx y H Q=>∃a b d c,x=.ref a/\y=.ref b/\SqT K H a d/\SqT K H b c/\d≠[]/\d.length+c.length<=sizeLine /\
 (c=[]->Q (.ref a) H)/\(c≠[]->∀p,H p=none->Q (.ref p) (upd H p (.tup (d++c))))
def Vals.nil_iff(r:Vals xs us):us=[]↔xs=[]:=by
 cases r with
 | nil=>simp
 | cons _ _=>simp
def Zse:OpR X (binaryOp .Add) (ux X.K):=by
 intro e s Y H x y v u Q I j l h;obtain ⟨a,b,A,B,rfl,rfl,n,k,m,t,p,r⟩:=h;cases j;cases l;obtain ⟨o,d,g,_⟩:=I.tuple n;obtain ⟨f,c,i,_⟩:=I.tuple k;refine HT.oW g i (λz=>m (d.nil_iff.mp z)) (λz=>⟨.ref a,H,I,rfl,p (c.nil_iff.mp z)⟩) (λz=>?_) (by rw [<-d.length,<-c.length];exact t);refine ⟨.ref s.heap.objs.size,_,I.laid (λb C q=>Bj _ q) (Ae _) ?_,rfl,r (λw=>z (c.nil_iff.mpr w)) _ (I.hok.fresh (Ae _))⟩;exact ⟨by simp_all,_,d.append c,IsTup.new _ _⟩
end
noncomputable def ixN(n:Nat)(i:Int):Option Nat:=if 0<=i then (if i<n then some i.toNat else none) else if -(n:Int)<=i then some (i+n).toNat else none
def atI(xs:List α)(i:Int):Option α:=(ixN xs.length i).bind λj=>xs[j]?
def bj(h:ixN n i=some j):seqIndex? i n=some j/\j<n/\-(n:Int)<=i/\i<n:=by
 unfold ixN at h;by_cases h0:0<=i
 .rw [iP h0] at h;by_cases h1:i<n
  .rw [iP h1] at h;have e:=CW h;exact ⟨by rw [seqIndex_of h0 h1,e],by lia,by lia,h1⟩
  lia
 .rw [iN h0] at h;by_cases h1:-(n:Int)<=i
  .rw [iP h1] at h;have e:=CW h;exact ⟨by rw [seqIndex_neg (by lia) h1,e],by lia,h1,by lia⟩
  lia
def aQ(h:atI xs i=some v):∃j,seqIndex? i xs.length=some j/\xs[j]?=some v/\j<xs.length/\-(xs.length:Int)<=i/\i<xs.length:=by
 unfold atI at h;cases e:ixN xs.length i with
 | none=>simp_all
 | some j=>
  rw [e] at h;obtain ⟨a,b,d,c⟩:=bj e;simp_all
def Tw(b:Expr):Prop:=∀o i,subscripted b false o i=operate [o,i] (getItem o i)
def IxR(X:Cx)(r:R2):Prop :=
 ∀c a b s Y H x y v u Q,Inv X b Y H s->RelV x v->RelV y u->r x y H Q ->
  subscripted a false v u=operate [v,u] (getItem v u)->wX X (subscriptTail c a v u) (EP X b Y Q) X.e s
def MtR(X:Cx)(id:String)(r:V->List V->Hp->VK->Prop):Prop :=
 ∀a s Y H x c v b Q,Inv X a Y H s->RelV x v->Vals c b->r x c H Q ->
  wX X (call (.builtin id) (v::b)) (EP X a Y Q) X.e s
section
variable{X:Cx}{a b:Expr}{ta tb:TE}{pos:Pos}
def IxR.or(h:IxR X r)(h':IxR X r'):IxR X (λx y H Q=>r x y H Q\/r' x y H Q):=by
 intro b a c s Y H x y v u Q I d f q e;rcases q with q | q
 .exact h b a c s Y H x y v u Q I d f q e
 .exact h' b a c s Y H x y v u Q I d f q e
def Rx(hr:IxR X r)(ha:PE X a ta)(hb:PE X b tb)(hs:Tw b):PE X (.Subscript a b pos) (tOp r ta tb):=by
 intro c s Y H Q I h;exact Subscript_ (binT ha hb I h λv u g x y f i d e q=>hr a b c g Y f x y v u Q i d e q (hs _ _))
def rIxL(K:W1):R2:=λx y H Q=>∃p a i v,x=.ref p/\y=.int i/\SqL K H p a/\atI a i=some v/\Q v H
def rIxT(K:W1):R2:=λx y H Q=>∃p a i v,x=.ref p/\y=.int i/\SqT K H p a/\atI a i=some v/\Q v H
def Q4:IxR X (rIxL X.K):=by
 intro d c a s Y H x y v u Q I F o h l;obtain ⟨p,N,i,z,rfl,rfl,D,A,q⟩:=h;cases F;obtain ⟨t,rfl⟩:=o;obtain ⟨g,r,f,J⟩:=I.list D;obtain ⟨j,k,m,M,n,E⟩:=aQ A;obtain ⟨w,G,e⟩:=r.get m;have L:=r.length;have O:=S6;have b:EP X a Y Q w s:=⟨z,H,I,e,q⟩;by_cases h0:0<=i
 .have B:i.toNat=j:=by
   rw [seqIndex_of h0 E] at k
   lia
  exact item_listR f.isList h0 (by lia) (by simp_all) b l
 .have B:(i+(g.toArray.size:Int)).toNat=j:=by
   rw [seqIndex_neg (by lia) n] at k;simp_all
  exact subscriptTail_builtinR f.isList.typeIs slot_list_getitem.lookup
   (wpAny_getItem_list_neg (Q:=λr C=>r=w/\EP X a Y Q r C) f.isList (by lia) (by simp_all) (by lia) (by simp_all) ⟨rfl,b⟩) l
def Ua:IxR X (rIxT X.K):=by
 intro c b a s Y H x y v u Q I A k h B;obtain ⟨p,M,i,z,rfl,rfl,n,l,q⟩:=h;cases A;obtain ⟨t,rfl⟩:=k;obtain ⟨o,r,f,E⟩:=I.tuple n;obtain ⟨j,J,g,G,C,L⟩:=aQ l;obtain ⟨w,D,d⟩:=r.get g;have F:=r.length;have N:=S6;have e:EP X a Y Q w s:=⟨z,H,I,d,q⟩;exact subscriptTail_builtinR f.typeIs slot_tuple_getitem.lookup
  (getItem_tuple (j:=j) (Q:=λr m=>r=w/\EP X a Y Q r m) f (by lia) (by lia) (by simp_all) (by simp_all) ⟨rfl,e⟩) B
def um(its:List Value)(n j:Nat)(u:Value):Obj.mapSeq (·.setIfInBounds j u) { cls:=.type "list",data:=.seq its.toArray n }={ cls:=.type "list",data:=.seq (its.set j u).toArray n }:=by
 simp [Obj.mapSeq]
def Inv.lst{pins:List (Addr×Obj)}{Y:St}{H:Hp}{s:Shared}{p:Addr}{xs:List V}(I:Inv X pins Y H s)(h:H p=some (.lst xs)) :
  ∃its n,Vals xs its/\s.heap.get? p=some { cls:=.type "list",data:=.seq its.toArray n }/\xs.length<=sizeLine:=by
 obtain ⟨z,its,n,r,e⟩:=I.hok p _ h;exact ⟨its,n,r,e,z⟩
def Inv.lstUpd{s:Shared}{ys:List V}{its its':List Value}(I:Inv X pins Y H s)(h:H p=some (.lst xs))(ho:s.heap.get? p=some { cls:=.type "list",data:=.seq its.toArray n })(hf:f { cls:=.type "list",data:=.seq its.toArray n }={ cls:=.type "list",data:=.seq its'.toArray n' })(r:Vals ys its')(hz:ys.length<=sizeLine)(t) :
  Inv X pins Y (upd H p (.lst ys)) { s with heap:=s.heap.update p f,toks:=t }:=by
 have e:(s.heap.update p f).get? p=some { cls:=.type "list",data:=.seq its'.toArray n' }:=by
  rw [MN f ho (by rw [hf]<;>rfl),hf]
 refine I.write (by rw [h];ext) (.inl rfl) (λb u a q=>(Lz _ _ (Ne.symm a)).trans q) ⟨_,e⟩ ?_;exact ⟨hz,its',n',r,e⟩
def PJ:V->V->V->Hp->(Hp->Prop)->Prop:=λo i v H Q=>∃p a k j,o=.ref p/\i=.int k/\H p=some (.lst a)/\ixN a.length k=some j/\Q (upd H p (.lst (a.set j v)))
def set_list:PSet X PJ:=by
 intro a s Y H o i v C E u Q I f m z h;obtain ⟨p,g,k,j,rfl,rfl,d,x,q⟩:=h;cases f;obtain ⟨t,rfl⟩:=m;obtain ⟨b,n,r,c,G⟩:=I.lst d;obtain ⟨e,B,l,y⟩:=bj x;have A:=r.length;have D:=S6;have F:Inv X a Y (upd H p (.lst (g.set j v))) (sH0 s (s.heap.update p (Obj.mapSeq (·.setIfInBounds j u)))) :=
  I.lstUpd d c (um b n j u) (r.set z j) (by simp_all) s.toks
 by_cases h0:0<=k
 .have w:k.toNat=j:=by
   rw [seqIndex_of h0 y] at e
   lia
  exact W.ki_setAt c h0 (by lia) (by simp_all) (by grind)
 .have w:(k+(b.toArray.size:Int)).toNat=j:=by
   rw [seqIndex_neg (by lia) l] at e;simp_all
  exact W.ki_setBack c (by lia) (by simp_all) (by lia) (by grind)
def wk(lo hi)(n):(sliceBounds lo hi none n).1=((HT.sIx n 0 lo:Nat):Int)/\(sliceBounds lo hi none n).2.1=((HT.sIx n n hi:Nat):Int)/\(sliceBounds lo hi none n).2.2=1:=by
 refine ⟨?_,?_,rfl⟩
 .cases lo with
  | none=>rfl
  | some i=>
   simp only [sliceBounds,HT.sIx,Option.getD_none,show (1:Int)>0 by decide,GZ]
   lia
 .cases hi with
  | none=>rfl
  | some i=>
   simp only [sliceBounds,HT.sIx,Option.getD_none,show (1:Int)>0 by decide,GZ]
   lia
def qM(its:List Value)(lo hi:Option Int):slicePick its.toArray lo hi none=((its.drop (HT.sIx its.length 0 lo)).take (HT.sIx its.length its.length hi - HT.sIx its.length 0 lo)).toArray:=by
 obtain ⟨a,b,c⟩:=wk lo hi its.toArray.size;unfold slicePick;rw [a,b,c];simp only [sliceRange_one,pick_run,Ht]<;>rfl
def rSlL(K:W1):V->Option Int->Option Int->Hp->VK->Prop:=λx c d H Q=>∃a b,x=.ref a/\SqL K H a b/\∀p,H p=none->Q (.ref p) (upd H p (.lst (cutV b c d)))
def qD:SlR X (rSlL X.K):=by
 intro f s Y H x v u t e i w Q I l m j k h;obtain ⟨a,c,rfl,n,q⟩:=h;cases l;obtain ⟨o,r,g,p⟩:=I.list n;have d:=r.length;refine ⟨"list",_,slot_list_getitem.lookup,g.isList.typeIs,?_⟩;refine wpAny_getItem_list_slice g.isList m j k .none (by simp) ?_ (by simp_all);rw [qM,<-d];refine ⟨.ref s.heap.objs.size,_,I.laid (λb y q=>Bj _ q) (Ae _) ?_,rfl,q _ (I.hok.fresh (Ae _))⟩;exact ⟨Ak (c7 c e i) p,_,0,(r.drop (HT.sIx c.length 0 e)).take (HT.sIx c.length c.length i - HT.sIx c.length 0 e),CJ _ rfl⟩
def dK:Ep X (.builtin "len") (λxs H Q=>∃p ys,xs=[.ref p]/\(SqL X.K H p ys\/SqT X.K H p ys)/\Q (.int ys.length) H):=by
 intro e s Y H xs j Q I r h;obtain ⟨p,ys,rfl,hq,q⟩:=h;obtain ⟨u,rfl,f⟩:=vals1 r;cases f;have i:=S6;rcases hq with hq | hq
 .obtain ⟨d,b,c,g⟩:=I.list hq;have a:=b.length;exact Calls.call_len_list c.isList (by grind) ⟨.int ys.length,H,I.tok _,⟨s.toks+1,by simp_all⟩,q⟩
 .obtain ⟨d,b,c,g⟩:=I.tuple hq;have a:=b.length;exact len_tuple c (by grind) ⟨.int ys.length,H,I.tok _,⟨s.toks+1,by simp_all⟩,q⟩
def zx:Ep X (.type "list") (λxs H Q=>∃p ys,xs=[.ref p]/\(SqL X.K H p ys\/SqT X.K H p ys)/\∀l,H l=none->Q (.ref l) (upd H l (.lst ys))):=by
 intro m s Y H xs B Q I r h;obtain ⟨p,ys,rfl,hq,q⟩:=h;obtain ⟨u,rfl,A⟩:=vals1 r;cases A;have i:∀a,Vals ys a->ys.length<=sizeLine->∀c f,(∀b z,s.heap.get? b=some z->c.get? b=some z) ->
   c.get? s.heap.objs.size=some { cls:=.type "list",dict:=none,data:=.seq a.toArray f,slots:=#[] }->EP X m Y Q (.ref s.heap.objs.size) (sH0 s c):=λa d k c f g e=>
  ⟨.ref s.heap.objs.size,_,I.laid g (Ae _) (show Ec X.p X.w _ c _ (.lst ys) from ⟨k,a,f,d,e⟩),rfl,q _ (I.hok.fresh (Ae _))⟩
 rcases hq with hq | hq
 .obtain ⟨a,d,x,k⟩:=I.list hq;have j:=d.length;obtain ⟨o,v,y,n,t⟩:=x.isList;exact call_list_seq p (.inl rfl) v y t (λc f g e=>i a d k c f g e) (by simp_all)
 .obtain ⟨a,d,x,k⟩:=I.tuple hq;have j:=d.length;obtain ⟨o,v,y,n,t⟩:=x;exact call_list_seq p (.inr rfl) v y t (λc f g e=>i a d k c f g e) (by simp_all)
def Te:Ep X (.type "tuple") (λxs H Q=>∃p ys,xs=[.ref p]/\((SqL X.K H p ys/\∀l,H l=none->Q (.ref l) (upd H l (.tup ys)))\/(SqT X.K H p ys/\Q (.ref p) H))):=by
 intro c s Y H xs v Q I r h;obtain ⟨p,ys,rfl,h⟩:=h;obtain ⟨u,rfl,t⟩:=vals1 r;cases t;rcases h with ⟨hq,q⟩ | ⟨hq,q⟩
 .obtain ⟨a,d,g,k⟩:=I.list hq;have j:=d.length;refine call_tuple_list g.isList (λf m=>?_) (by simp_all);have i:=I.kept (t':=s.toks) m;have n:Inv X c Y (upd H f.objs.size (.tup ys)) { s with heap:=f.push { cls:=.type "tuple",data:=.seq a.toArray } } :=
   i.laid (λb o e=>Bj _ e) (Ae _) (⟨k,a,d,IsTup.new _ _⟩)
  exact ⟨.ref f.objs.size,_,n,rfl,q _ (i.hok.fresh (Ae _))⟩
 .obtain ⟨a,d,g,k⟩:=I.tuple hq;exact call_tuple_same g ⟨.ref p,H,I,rfl,q⟩
def tyV(K:W1)(T:String)(x:V)(H:Hp):Prop:=match x with
 | .str _=>T = "str"
 | .int _=>T = "int"
 | .ref p=>(T = "list"/\∃b,SqL K H p b)\/(T = "tuple"/\∃o,K.lookup p=some o/\o.cls=.type "tuple"/\o.dict=none) \/False
 | _=>False
def Zu1(I:Inv X pins Y H s)(r:RelV x v)(ty:tyV X.K T x H) :
  s.TypeIs v T/\∀a,v=.ref a->∃ob,s.heap.get? a=some ob/\ob.dict=none:=by
 cases x with
 | str z=>
  obtain ⟨t,rfl⟩:=r;cases (ty);exact ⟨typeIs_str s z t,λ_ e=>nomatch e⟩
 | int i=>
  obtain ⟨t,rfl⟩:=r;cases (ty);exact ⟨typeIs_int s i t,λ_ e=>nomatch e⟩
 | ref p=>
  cases r;rcases ty with ⟨rfl,xs,hq⟩ | ⟨rfl,o,hk,hc,d⟩ | c
  .obtain ⟨g,_,f,_⟩:=I.list hq;refine ⟨f.isList.typeIs,λa e=>?_⟩;cases e;obtain ⟨o,n,e,c,d,_⟩:=f;simp_all
  .refine ⟨⟨o,I.kIn p o hk,hc⟩,λa e=>?_⟩;cases e;exact ⟨o,I.kIn _ o hk,d⟩
  .exact c.elim
 | _=>exact False.elim ty
def tBM(K:W1)(T:String)(r:V->List V->Hp->VK->Prop)(to:TE)(t:TA):TE:=λY H Q=>to Y H λx a=>tyV K T x a/\t Y a λb c=>r x b c Q
variable{o e:Expr}{es:List Expr}{to:TE}{t:TA}{name:Str}{apos cpos:Pos}{T id:String}{r:V->List V->Hp->VK->Prop}
abbrev Few(X:Cx)(p:Pos)(es:List Expr):Prop:=((backTo p (starEach es X.v)).all (λx=>!x.1)&&(backToKw p (keywordEach [] X.v)).all (λx=>x.1.isSome)&&decide (es.length+([]:List Keyword).length+(if ([]:List Keyword).isEmpty then 0 else 1)<30))=true
def JV(pa:PlainAttrs T)(slot:Slot T name id)(hty:typeOf (.builtin id)=pure (.type "method_descriptor"))(hm:MtR X id r)(ho:PE X o to)(ha:PA X (e::es) t)(hbase:attributeBase o name X.v (eval o X.v)=eval o X.v:=by rfl) (hfew:Few X cpos (e::es):=by rfl) (hline:(apos.endLine==cpos.line)=true:=by rfl) (hs:StE X e es:=by rfl) (hplain:PlE X cpos es:=by rfl) :
  PE X (.Call (.Attribute o name apos) (e::es) [] cpos) (tBM X.K T r to t):=by
 intro a s Y H Q I h;refine wpAny_Call_method_late hbase hfew hline rfl (thn (ho a s Y H _ I h) λv i zq=>?_);obtain ⟨x,f,c,b,j,q⟩:=zq;obtain ⟨u,g⟩:=Zu1 c b j;refine ⟨T,id,pa,slot,hty,u,g,?_⟩;have d:=ha cpos a i Y f _ c q;rw [hs] at d ⊢;refine Calls.callWith_builtin (by ext) (Calls.evalArgs_plain ?_);exact thn d λm p ⟨n,l,w,k,y⟩=>hm a p Y l x n v m Q w b k y
end
def MtM(X:Cx)(id:String)(r:V->List V->Hp->VK->Prop):Prop :=
 ∀a s Y H x c v b Q,Inv X a Y H s->RelV x v->Vals c b->r x c H Q ->
  wX X (call (.builtin id) (v::b)) (EP X a Y Q) X.e s
def Vals.one:∀{x:V} {us:List Value},Vals [x] us->∃u,us=[u]/\RelV x u
 | _,_,.cons r .nil=>⟨_,rfl,r⟩
def Vals.eraseIdx:∀{xs:List V} {us:List Value} (i:Nat),Vals xs us->Vals (xs.eraseIdx i) (us.eraseIdx i)
 | _,_,_,.nil=>.nil
 | _,_,0,.cons _ t=>t
 | _,_,i+1,.cons r t=>.cons r (Vals.eraseIdx i t)
def Vals.rep(h:Vals xs us):∀k,Vals (List.replicate k xs).flatten (List.replicate k us).flatten
 | 0=>.nil
 | k+1=>by
  rw [K9,K9,List.flatten_cons,List.flatten_cons];exact Vals.append h (Vals.rep h k)
theorem foldl_rep(its:List Value):∀k acc,
  List.foldl (λx1 x2=>x1++x2) acc.toArray (List.replicate k its.toArray)=(acc++(List.replicate k its).flatten).toArray
 | 0,acc=>by simp
 | k+1,acc=>by
  have e:acc.toArray++its.toArray=(acc++its).toArray:=by simp
  have a:(acc++its)++(List.replicate k its).flatten=acc++(List.replicate (k+1) its).flatten:=by
   grind
  rw [<-a,<-foldl_rep its k (acc++its),<-e,K9,List.foldl_cons]
section
variable{X:Cx}{pins:List (Addr×Obj)}{Y:St}{H:Hp}{s:Shared}{l b:Addr}{xs ys zs:List V}
def Inv.lset{its its':List Value}(I:Inv X pins Y H s)(hH:H l=some (.lst xs))(e:s.heap.get? l=some { cls:=.type "list",data:=.seq its.toArray n })(hf:f its.toArray=its'.toArray)(hv:Vals ys its')(hz:ys.length<=sizeLine) :
  Inv X pins Y (upd H l (.lst ys)) { s with heap:=s.heap.update l (Obj.mapSeq f),toks:=t' }:=by
 have q:=PySem.IsL.update e f;rw [hf] at q;refine I.write (x:=l) (e:=l) (by rw [hH];ext) (.inl rfl) (λc u b a=>(Lz s.heap (Obj.mapSeq f) (Ne.symm b)).trans a) ⟨_,q⟩ ?_;exact ⟨hz,its',_,hv,q⟩
def Inv.lnew(I:Inv X pins Y H s)(hv:Vals ys its)(hz:ys.length<=sizeLine) :
  Inv X pins Y (upd H s.heap.objs.size (.lst ys)) { s with heap:=s.heap.push { cls:=.type "list",data:=.seq its.toArray },toks:=t' } :=
 I.laid (λ_ _ q=>Bj _ q) (Ae _) ⟨hz,its,0,hv,CJ _ rfl⟩
def Inv.fresh(I:Inv X pins Y H s):H s.heap.objs.size=none:=I.hok.fresh (Ae _)
def Inv.lstM(I:Inv X pins Y H s)(hH:H l=some (.lst xs)):xs.length<=sizeLine/\∃its n,Vals xs its/\xs.length=its.length/\s.heap.get? l=some { cls:=.type "list",data:=.seq its.toArray n }:=by
 obtain ⟨z,its,n,r,e⟩:=I.hok l _ hH;exact ⟨z,its,n,r,r.length,e⟩
def gG(h:n<=sizeLine):Builtin.List.listTooLong n=false:=by
 unfold Builtin.List.listTooLong
 lia
end
section
variable{X:Cx}
def Fi:V->List V->Hp->VK->Prop:=λx b H Q=>∃l a y,x=.ref l/\b=[y]/\H l=some (.lst a)/\a.length<sizeLine/\Q .non (upd H l (.lst (a++[y])))
def QC:MtM X "list.append" Fi:=by
 intro c s Y H x m v k Q I d g h;obtain ⟨l,j,y,rfl,rfl,b,o,q⟩:=h;cases d;obtain ⟨u,rfl,f⟩:=g.one;obtain ⟨z,a,n,r,i,e⟩:=I.lstM b;refine call_meets F.slot_list_append ⟨_,e,rfl⟩ F.entry_list_append (F.args_list_append_2 _ _) (PySem.list_append l a.toArray n u (by simp_all)) ⟨e,?_⟩;refine ⟨.non,_,I.lset b e (by simp) (r.append (.cons f .nil)) ?_,rfl,q⟩
 grind
def WF:V->List V->Hp->VK->Prop:=λx b H Q=>∃l a i k y,x=.ref l/\b=[.int i]/\H l=some (.lst a)/\-(2^63)<=i/\i<2^63/\seqIndex? i a.length=some k/\a[k]?=some y/\Q y (upd H l (.lst (a.eraseIdx k)))
def qw:MtM X "list.pop" WF:=by
 intro d s Y H x G v E Q I j p h;obtain ⟨l,C,i,k,y,rfl,rfl,c,o,f,D,g,q⟩:=h;cases j;obtain ⟨u,rfl,m⟩:=p.one;obtain ⟨t,rfl⟩:=m;obtain ⟨z,b,n,r,B,e⟩:=I.lstM c;obtain ⟨w,A,a⟩:=r.get g;refine call_meets F.slot_list_pop ⟨_,e,rfl⟩ F.entry_list_pop (F.args_list_pop_2 _ _)
  (MeetsSeq.list_pop_at l b.toArray n i t k w (fitsIndex_both o f) (by simp_all) (by simp_all) (by simp_all)) ⟨e,?_⟩
 refine ⟨y,_,I.lset c e ?_ (r.eraseIdx k) ?_,a,q⟩
 .simp_all
 grind
def rRep:R2:=λx y H Q=>∃l k a,x=.ref l/\y=.int k/\H l=some (.lst a)/\-(2^63)<=k/\k<2^63/\a.length*k.toNat<=sizeLine /\
 ∀p,H p=none->Q (.ref p) (upd H p (.lst (List.replicate k.toNat a).flatten))
def len_rep(xs:List α)(k:Nat):(List.replicate k xs).flatten.length=k*xs.length:=by
 simp_all
def ZuU:OpR X (binaryOp .Mult) rRep:=by
 intro p s Y H x y v u Q I G J h;obtain ⟨l,k,L,rfl,rfl,E,C,A,D,q⟩:=h;cases G;obtain ⟨t,rfl⟩:=J;obtain ⟨z,b,n,r,K,e⟩:=I.lstM E;have f:b.toArray.size*k.toNat<=sizeLine:=by simp_all
 have d:¬b.toArray.size*k.toNat>(2^63 - 1)/8:=by
  have:(sizeLine:Nat)<=(2^63 - 1)/8:=by decide
  lia
 have i:¬(!Builtin.List.listFitsIndex k)=true:=by
  rw [fitsIndex_both C A]
  ext
 have c:¬Builtin.List.listTooLong (b.toArray.size*k.toNat)=true:=by
  rw [gG f]
  ext
 have g:List.foldl (λo j=>o++j) #[] (List.replicate (if b.toArray.isEmpty=true then 0 else k.toNat) b.toArray)=(List.replicate k.toNat b).flatten.toArray:=by
  have B:∀m:Nat,List.foldl (λo j=>o++j) #[] (List.replicate m b.toArray)=(List.replicate m b).flatten.toArray:=λm=>by
   have:=foldl_rep b m []
   ext
  rw [B];cases b with
  | nil=>simp
  | cons a r'=>rfl
 refine wpAny_binaryOp_repeat_ref (by decide) ⟨_,e,rfl⟩ (λw=>typeIs_int w k t) noFill_list_mul F.fills_int_mul F.slot_int_rmul repeat_list F.slot_int_index.lookup
  (call_meets F.slot_int_rmul (typeIs_int s k t) F.entry_int_rmul (F.args_int_rmul_2 _ _) (int___rmul___int_list k t l b.toArray n)
   ⟨e,rfl,⟨_,e,rfl⟩,call_meets F.slot_list_mul ⟨_,e,rfl⟩ F.entry_list_mul (F.args_list_mul_2 _ _) (AutoListH.list___mul___list_int_3 l b.toArray n k t i d c) ⟨e,?_⟩⟩)
 rw [g];exact ⟨.ref _,_,I.lnew (r.rep k.toNat) (by rw [len_rep,Nat.mul_comm];exact D),rfl,q _ I.fresh⟩
end
end L2
namespace Att
open PySem.W PySem.Calls
def uC:∀ns vs,WellAll P h vs (ns.map WData.int)->IntsAre vs ns:=by
 intro ns
 induction ns with
 | nil=>
  intro vs w;rw [List.map_nil] at w;cases w;exact .nil
 | cons n ns ih=>
  intro vs w;rw [Bk] at w;cases w with
  | cons a b=>
   cases a;exact .cons _ _ (ih _ b)
def yV{l:OpenLaw}(hn:l.most=some n){h:Heap}(hpre:l.row.toRowW.claim.pre args=true)(hwl:WellAll P h vals args) :
  ∃a vs ns,vals=[Value.ref a]/\args=[WData.list (ns.map WData.int)]/\h.get? a=some { cls:=.type "list",data:=.seq vs.toArray }/\IntsAre vs ns/\ns.length<=n:=by
 have c:=(pre_splitW hpre).1;have f:l.pre.holds [] { args:=args }=true:=(pre_splitW hpre).2;obtain ⟨d,r,rfl,i,g⟩:=hasAllW_cons c;obtain rfl:=hasAllW_nil g;obtain ⟨k,rfl,j⟩:=hasW_list i;obtain ⟨ns,rfl⟩:=items_int j;have b:ns.length<=n:=by
  unfold OpenLaw.pre at f;have e:(WTm.not (.lt (.lit (.int n)) (.len (.arg 0)))).holds [] { args:=[.list (ns.map .int)] }=true:=by
   have e:=(holds_andW f).1
   lia
  have m:=condW_of e (w_not (w_lt w_lit (w_len_list (w_arg rfl))));simp_all
 cases hwl with
 | cons w1 w2=>
  cases w2;cases w1 with
  | list ho hall=>exact ⟨_,_,ns,rfl,rfl,ho,uC ns _ hall,b⟩
def uB(l:OpenLaw)(args:List WData):l.row.toRowW.claim.post args (.bool true) args=true :=
 postW_of
  (show WShape.has [] (.bool true) .bool=true by rfl)
  (w_eq_bool (w_res rfl) w_lit) rfl
def qI{l:OpenLaw}{d:DefRec}(hn:l.most=some n)(hdf:d.params.defaults=[]) (call:∀(w:World) (s₀ s₁:Shared) (mg mb:Str->Option Value) (fa:Addr) (o:Obj) (pm cd doc:Value) (a:Addr) (vs:List Value) (ns:List Int),
   Ground q loose [] XP w s₀ mg mb s₁.heap->YP w s₁.heap ->
   s₁.heap.get? fa=some o->o.data=.func (docDef d.name d.params d.body d.scope pm cd doc)->s₁.heap.CodeRec cd d.name->mg d.name=some (.ref fa) ->
   s₁.heap.get? a=some { cls:=.type "list",data:=.seq vs.toArray }->IntsAre vs ns->ns.length<=n->s₁.gens=#[] ->
   codeAny (model l.prog w) callerA (.call (.ref fa) ⟨[.ref a],[]⟩) (λr s'=>r=.ok (.ret (.bool true))/\OldK s₁.heap s'.heap/\s'.os=s₁.os/\AllBare s'.gens) s₁) :
  WalkO q loose XP YP l.row.toRowW d [] (λf vs=>PySem.call f vs):=by
 intro w s₀ s₁ mg mb G z fa o pm cd doc H F A t j p i v k m I g s B h E;obtain rfl:H=.none:=Dflts.none p hdf;obtain rfl:F=.none:=Dflts.noKw p;obtain ⟨a,vs,ns,rfl,rfl,c,b,e⟩:=yV hn g h;refine enter_call (Kc (call w s₀ s₁ mg mb fa o pm cd doc a vs ns G z A (fd_plain t) j i c b e v) λr s' x=>?_);obtain ⟨rfl,u,C,y⟩:=x;exact ⟨.inl ⟨.bool true,.bool true,[],rfl,λ_=>rfl,.bool true,uB l _,λ_=>⟨List.Pairwise.nil,λ_ D=>(nomatch D)⟩⟩,u,C,y⟩
end Att
namespace L2
def XC:∀{vs:List Value} {ns:List Int},IntsAre vs ns->Vals (ns.map V.int) vs
 | _,_,.nil=>.nil
 | _,_,.cons n t h=>.cons ⟨t,rfl⟩ (XC h)
def Only(H:Hp):Prop:=∀b,H b=none\/∃o a,H b=some (.frz o (.lst a))
def v9{K:W1}{s₁:Shared}{vs:List Value}{ns:List Int}(KX:K.In s₁.heap)(hns:s₁.heap.Ns mainGlobals mg)(hb:s₁.heap.Ns builtinsNs mb)(hbb:∀x:Str,x ≠ "__name__"->mb x=bootBuiltins x)(hlim:s₁.heap.NoLimit)(hg:s₁.gens=#[])(ha:s₁.heap.get? a=some { cls:=.type "list",data:=.seq vs.toArray })(hi:IntsAre vs ns)(hl:ns.length<=sizeLine)(hr:Room k callerA)(F:∀base:Heap,K.In base->base.Ns mainGlobals mg->FnOk P w K mg base CX k fa fd [x] sp)(hbind:∀(s:Shared) (u:Value),BindsTo s fd ⟨[u],[]⟩ [(x,u)])(hsp:∀H:Hp,Only H->SqL K H a (ns.map V.int)->sp [.ref a] H (λv _=>v=.bl true) λ_ _ _=>False)(hCX:∀H e s',CX [] H s₁ (λ_ _ _=>False) e s'->False) :
  codeAny (model P w) callerA (.call (.ref fa) ⟨[.ref a],[]⟩) (λr s'=>r=.ok (.ret (.bool true))/\OldK s₁.heap s'.heap/\s'.os=s₁.os/\AllBare s'.gens) s₁:=by
 have M:=XC hi;have D:=hi.length;have g:∀H:Hp,Only H->SqL K H a (ns.map V.int)->HOk P w H s₁.heap->(∀b,H b≠none->b=a)->(H a≠none->K.lookup a=none) ->
   codeAny (model P w) callerA (.call (.ref fa) ⟨[.ref a],[]⟩) (λr s'=>r=.ok (.ret (.bool true))/\OldK s₁.heap s'.heap/\s'.os=s₁.os/\AllBare s'.gens) s₁:=by
  intro H B N l R Q;have c:∀{b:Addr} {o:Obj},s₁.heap.get? b=some o->H b=none->(hidT s₁.heap H).get? b=some o:=λe n=>Zpc e n;have A:∀{b:Addr} {o:Obj} {t:Array DictEntry} {y:Nat},s₁.heap.get? b=some o->o.data=.dict t y->H b=none:=λ{b o t y} e d=>by
   grind
  have f:∀{b:Addr} {m:Str->Option Value},s₁.heap.Ns b m->(hidT s₁.heap H).Ns b m:=λ{b m} ⟨o,t,y,e,d,r⟩=>⟨o,t,y,c e (A e d),d,r⟩
  have p:K.In (hidT s₁.heap H):=λb o e=>c (KX b o e) (by
   grind)
  have I:Mod K mg (hidT s₁.heap H):=⟨p,f hns,⟨mb,f hb,hbb⟩,let ⟨mc,h1,h2⟩:=hlim;⟨mc,f h1,h2⟩⟩;have E:Env0 P w K mg (hidT s₁.heap H) callerA [] s₁ H:=⟨rfl,I,λb o e=>wj e,HD (sH _ _),trivial,λb hb=>aB (show b∈([]:List Addr) from hb) (by simp),l,.of_eq hg⟩;refine Kc ((F _ p (f hns)).run callerA [] s₁ H ⟨[.ref a],[]⟩ [.ref a] [.ref a] _ _ hr E (hbind s₁ (.ref a)) (.cons rfl .nil) (hsp H B N)) λr s' h=>?_;cases r with
  | error e=>exact (hCX H e s' h).elim
  | ok fl=>
   cases fl with
   | next=>ext
   | brk=>ext
   | cont=>ext
   | ret u=>
    obtain ⟨v,U,os,i,C,j,G,q⟩:=h;have O:=q;subst O;obtain rfl:u=Value.bool true:=G;refine ⟨rfl,OldK.of_keep λb o e=>?_,os,i⟩;cases q:H b with
    | none=>exact C.keep b o e q (by intro z;ext) (by simp)
    | some u=>
     rcases B b with z | ⟨ob,xs,z⟩
     .lia
     .have L:=C.frzs b ob _ z;obtain ⟨T,_⟩:=l b _ z;obtain ⟨S,_⟩:=j b _ L
      lia
 cases hk:K.lookup a with
 | some o=>
  have e:=KX a o hk;rw [ha] at e;cases e;refine g (λ_=>none) (λ_=>.inl rfl) (.inr ⟨_,vs.toArray,_,hk,rfl,rfl,rfl,by simp_all,by ext⟩) (λb u z=>by ext) (λb z=>aB rfl z) λz=>aB rfl z
 | none=>
  refine g (λb=>if b=a then some (.frz { cls:=.type "list",data:=.seq vs.toArray } (.lst (ns.map V.int))) else none) (λb=>?_) (.inl (.inr ⟨{ cls:=.type "list",data:=.seq vs.toArray },iP rfl⟩)) (λb u z=>?_) (λb z=>?_) λ_=>hk
  .grind
  .by_cases hb:b=a
   .have J:=(iP hb).symm.trans z;cases J;subst hb;exact ⟨ha,by simp_all,vs,_,M,ha⟩
   lia
  lia
def xq{l:W.OpenLaw}{n k:Nat}{q:Program}{loose:List Str}{XP:(Str->Option Value)->Heap->Prop}{YP:World->Heap->Prop}{d:DefRec}{K:Params->W1}{CX:World->CXT}{sp:World->Sp}{x:Str}(hn:l.most=some n)(hn2:n<=sizeLine)(hdf:d.params.defaults=[])(hr:Room k callerA)(hY:∀(w:World) (h:Heap),YP w h->(K w.params).In h) (F:∀(w:World) (mg:MgT) (fa:Addr) (h:Heap),(K w.params).In h->h.Ns mainGlobals mg->mg d.name=some (.ref fa) ->
   ∃fd:FuncData,(∀(s:Shared) (u:Value),BindsTo s fd ⟨[u],[]⟩ [(x,u)]) /\
    ∀base:Heap,(K w.params).In base->base.Ns mainGlobals mg->FnOk l.prog w (K w.params) mg base (CX w) k fa fd [x] (sp w)) (hsp:∀(w:World) (H:Hp) (a:Addr) (ns:List Int),ns.length<=n->Only H->SqL (K w.params) H a (ns.map V.int)->sp w [.ref a] H (λv _=>v=.bl true) λ_ _ _=>False) (hCX:∀(w:World) (H:Hp) (s:Shared) (e:Value) (s':Shared),CX w [] H s (λ_ _ _=>False) e s'->False) :
  W.WalkO q loose XP YP l.row.toRowW d [] (λf vs=>PySem.call f vs):=by
 refine Att.qI hn hdf λw t m mg O fa o L N z a vs ns G y M J D p j i c B=>?_;have r:=hY w _ y;obtain ⟨fd,A,I⟩:=F w mg fa _ r G.T.g p;exact v9 r G.T.g G.T.b G.T.builtins G.T.nolimit B j i (Ak c hn2) hr I A (λH E C=>hsp w H a ns c E C) λH e s'=>hCX w H m e s'
abbrev E0:XK:=λ_ _ _=>False
structure Fun(K:W1)(x qual:Str)(st:Stmt)(f:Addr)(fd:FuncData):Prop where
 ex:∃(oc:Value) (od:Option Addr) (kV doc pm:Value) (an:Option Addr) (cdv ct:Value) (osl:Array (Option Value)),
  fd=W.fnOf x qual (Gy st) (De st) (BJ st) .none kV doc pm an cdv ct/\K.lookup f=some ⟨oc,od,.func fd,osl⟩/\W.codeIn K cdv qual=true
 kp:W.keepIn K (.ref f)=true
section
variable{P:Program}{w:World}{K:W1}{mg:MgT}{base:Heap}
def Fun.binds{x qual:Str}{st:Stmt}{f:Addr}{fd:FuncData}{ps:List Str}(F:Fun K x qual st f fd)(h:∀(kV doc pm:Value) (an:Option Addr) (cdv ct:Value) (us:List Value),us.length=ps.length->bindArgs (W.fnOf x qual (Gy st) (De st) (BJ st) .none kV doc pm an cdv ct) ⟨us,[]⟩=pure (ps.zip us)):Binds K fd ps []:=by
 obtain ⟨e,c,kV,doc,pm,an,cdv,ct,b,rfl,d,a⟩:=F.ex;exact .all (h kV doc pm an cdv ct)
def Em{x qual:Str}{st:Stmt}{f:Addr}{oc:Value}{od an:Option Addr}{osl:Array (Option Value)}{kV doc pm cdv ct:Value}(l:K.lookup f=some ⟨oc,od,.func (W.fnOf x qual (Gy st) (De st) (BJ st) .none kV doc pm an cdv ct),osl⟩)(c:W.codeIn K cdv qual=true)(k:W.keepIn K (.ref f)=true):Fun K x qual st f (W.fnOf x qual (Gy st) (De st) (BJ st) .none kV doc pm an cdv ct):=⟨⟨oc,od,kV,doc,pm,an,cdv,ct,osl,rfl,l,c⟩,k⟩
end
def Same(H H':Hp):Prop:=∀b o,H b=some o->H' b=some o
def Same.refl(H):Same H H:=λ_ _ h=>h
def Same.trans(a:Same H H1)(b:Same H1 H2):Same H H2:=λc o h=>b c o (a c o h)
def Same.free(e:Same H H')(h:H' l=Option.none):H l=Option.none:=by
 cases q:H l with
 | none=>rfl
 | some o=>
  rw [e l o q] at h;cases h
def Same.seq{K:W1}{H H':Hp}{a:Addr}{xs:List V}(e:Same H H')(h:SqL K H a xs):SqL K H' a xs:=by
 rcases h with (h | ⟨o,h⟩) | h
 .exact .inl (.inl (e _ _ h))
 .exact .inl (.inr ⟨o,e _ _ h⟩)
 .exact .inr h
end L2
section
variable{X:L2.Cx}{Y:L2.St}{H:L2.Hp}{s:PySem.Shared}{pins:List (PySem.Addr×PySem.Obj)}{us:List PySem.Value}{pos spos cpos pos':PySem.Pos}{A:PySem.Around}{i n k j:Nat}{e:PySem.Expr}{w:PySem.World}{P:PySem.Program}{K:W1}{x:PySem.Str}{xs:List L2.V}{mg:MgT}{base:PySem.Heap}{ps N:List PySem.Str}{es:List PySem.Expr}{te:L2.TE}{fd:PySem.FuncData}
namespace L2
section
def Zs6:OpR X (binaryOp .Mult) (rI IntMulOk λi j=>.int (i*j)):=opI λ_ _ _ _ _ _ _ a q=>mul_int q a
def Xi(_ j:Int):Prop:=j≠0/\j.natAbs.log2<9000
def qz:OpR X (binaryOp .FloorDiv) (rI Xi λi j=>.int (i.fdiv j)):=opI λ_ _ _ _ _ _ _ a q=>floordiv_int a.1 q (.inl (PyProof.noPylong_of_log2 a.2))
def p7{n:String}(hg:Gl X x)(hm:X.m x=none)(hv:bootBuiltins x=some (.type n))(hn:x ≠ "__name__":=by decide)(hd:ND x:=by decide):PE X (.Name x pos) (tC (.ty n)) :=
 rF hg hm hv rfl hn hd
end
def nZ:bootBuiltins "abs"=some (.builtin "abs"):=by decide +kernel
def QV:bootBuiltins "all"=some (.builtin "all"):=by decide +kernel
def mQ:bootBuiltins "isinstance"=some (.builtin "isinstance"):=by decide +kernel
def WQ:bootBuiltins "len"=some (.builtin "len"):=by decide +kernel
def vZ:bootBuiltins "min"=some (.builtin "min"):=by decide +kernel
def cJ:bootBuiltins "sorted"=some (.builtin "sorted"):=by decide +kernel
def YQ:bootBuiltins "int"=some (.type "int"):=by rfl
def oE:bootBuiltins "bool"=some (.type "bool"):=by decide +kernel
def QB:bootBuiltins "tuple"=some (.type "tuple"):=by decide +kernel
def Tt:bootBuiltins "list"=some (.type "list"):=by decide +kernel
def ZvU:bootBuiltins "zip"=some (.type "zip"):=by decide +kernel
def t6:bootBuiltins "enumerate"=some (.type "enumerate"):=by decide +kernel
def Zo8(K)(t):W.kitOne K t t=some true:=by
 unfold W.kitOne
 lia
def mV(K)(hne:(Value.type T==Value.type U00)=false)(hm:W.kitMeta U00=true)(h:(fastBuiltinMro T).map (·.contains (Value.type U00))=some b):W.kitOne K (.type T) (.type U00)=some b:=by
 unfold W.kitOne;rw [iN (by lia)];show (if W.kitMeta U00=true then _ else none)=_
 rw [iP hm];exact h
mutual
inductive DV(K:W1)(H:Hp):V->PyData->Prop
 | non:DV K H .non .none
 | bl (b:Bool):DV K H (.bl b) (.bool b)
 | int (i:Int):DV K H (.int i) (.int i)
 | str (x:Str):DV K H (.str x) (.str x)
 | tup {a:Addr} {xs:List V} {ds:List PyData} (h:SqT K H a xs) (r:DVs K H xs ds):DV K H (.ref a) (.tuple ds)
 | lst {a:Addr} {xs:List V} {ds:List PyData} (h:SqL K H a xs) (r:DVs K H xs ds):DV K H (.ref a) (.list ds)
inductive DVs(K:W1)(H:Hp):List V->List PyData->Prop
 | nil:DVs K H [] []
 | cons {x:V} {xs:List V} {d:PyData} {ds:List PyData} (h:DV K H x d) (r:DVs K H xs ds):DVs K H (x::xs) (d::ds)
end
section
mutual
theorem DV.reads(I:Inv X pins Y H s){x:V}{d:PyData}{u:Value}(h:DV X.K H x d)(r:RelV x u):∃as,Reads s.heap u d as:=by
 cases h with
 | non=>cases r;exact ⟨_,.none⟩
 | bl b=>cases r;exact ⟨_,.bool b⟩
 | int i=>obtain ⟨t,rfl⟩:=r;exact ⟨_,.int i t⟩
 | str i=>obtain ⟨t,rfl⟩:=r;exact ⟨_,.str i t⟩
 | tup h q=>
  cases r;obtain ⟨a,g,⟨o,e,c,n,f⟩,_⟩:=I.tuple h;obtain ⟨as,j⟩:=DVs.reads I q g;exact ⟨_,.tuple e c f (by ext)⟩
 | lst h q=>
  cases r;obtain ⟨a,g,k,_⟩:=I.list h;obtain ⟨o,e,c,n,f⟩:=k.isList;obtain ⟨as,j⟩:=DVs.reads I q g;exact ⟨_,.list e c f (by ext)⟩
theorem DVs.reads(I:Inv X pins Y H s){xs:List V}{ds:List PyData}{us:List Value}(h:DVs X.K H xs ds)(r:Vals xs us):∃as,ReadsAll s.heap us ds as:=by
 cases h with
 | nil=>cases r;exact ⟨_,.nil⟩
 | cons h q=>
  cases r with
  | cons r1 r2=>
   obtain ⟨as,a⟩:=DV.reads I h r1;obtain ⟨c,b⟩:=DVs.reads I q r2;exact ⟨_,.cons a b⟩
end
end
section
def rEqD(K:W1)(f:Bool->Bool):R2:=λx y H Q=>∃a b,DV K H x a/\DV K H y b/\a.canLay0=true/\b.canLay0=true/\a.depth<=60/\Q (.bl (f (PyData.eqv a b))) H
def Yo(hu:X.A.units+64<cLine):OpR X (compareOp .Eq) (rEqD X.K id):=by
 intro a s Y H x y v u Q I e g h;obtain ⟨o,m,j,b,f,i,n,q⟩:=h;obtain ⟨k,c⟩:=j.reads I e;obtain ⟨l,d⟩:=b.reads I g;exact PySem.SeqAt.compareEq_reads c d f i (by lia) (T8 I q rfl)
def sE(hu:X.A.units+64<cLine):OpR X (compareOp .NotEq) (rEqD X.K not):=by
 intro a s Y H x y v u Q I e g h;obtain ⟨o,m,j,b,f,i,n,q⟩:=h;obtain ⟨k,c⟩:=j.reads I e;obtain ⟨l,d⟩:=b.reads I g;exact PySem.SeqAt.compareNe_reads c d f i (by lia) (T8 I q rfl)
end
structure Def(K:W1)(mg:MgT)(x:Str)(st:Stmt)(ps:List Str):Prop where
 ex:∃(f:Addr) (fd:FuncData),Fun K x x st f fd/\Binds K fd ps []/\mg x=some (.ref f)
def Cp(h:H p=none)(o):Same H (upd H p o):=λb u q=>by rw [Af (BZ q h)];exact q
end L2
namespace L2
def eO(ts:List Expr)(env:Env):Sem Bool:=match ts with
 | []=>pure true
 | c::_=>isTrue c env (eval c env)
def xM(elt target iter c)(scope)(pos)(it acc)(env) :
  compTurn (.ListComp elt [⟨target,iter,[c],0⟩] scope pos) 0 it acc env=(standAt iter.pos >>= λ_=>pyNext it >>= λr=>match r with
   | none=>pure (.done .next)
   | some v=>letOwnedTupleGo target it v >>= λ_=>assign target env v >>= λ_=>
    (forIn [c] true λ(c:Expr) (s:Bool)=>if s=true then (isTrue c env (eval c env) >>= λok=>pure (ForInStep.yield ok)) else pure (ForInStep.yield s)) >>= λs=>if s=true then
     (eval elt env >>= λx=>call (.builtin "list.append") [acc,x] >>= λ_=>pure ()) >>= λ_=>
      again (.compLoop (.ListComp elt [⟨target,iter,[c],0⟩] scope pos) 0 it acc env)
     else again (.compLoop (.ListComp elt [⟨target,iter,[c],0⟩] scope pos) 0 it acc env)):=by rfl
def pC(hts:ts.length<=1)(I:Nat->Shared->Prop) (turn:∀n s,I n s->wP prog w A (pyNext it) (λr s₁=>match r with
   | none=>R (.ok .next) s₁
   | some v=>wP prog w A (letOwnedTupleGo target it v) (λ_ s1'=>wP prog w A (assign target env v) (λ_ s₂=>wP prog w A (eO ts env) (λb s2'=>if b=true then wP prog w A (eval elt env) (λx s₃=>
     wP prog w A (call (.builtin "list.append") [acc,x]) (λ_ s₄=>∃m,m<n/\I m s₄) (notedBy (model prog w) A env λe s'=>R (.error e) s') s₃)
     (notedBy (model prog w) A env λe s'=>R (.error e) s') s2' else ∃m,m<n/\I m s2') (notedBy (model prog w) A env λe s'=>R (.error e) s') s₂) (notedBy (model prog w) A env λe s'=>R (.error e) s') s1') (notedBy (model prog w) A env λe s'=>R (.error e) s') s₁) (notedBy (model prog w) A env λe s'=>R (.error e) s') s) (n:Nat) (h:I n s) :
  codeAny (model prog w) A (.compLoop (.ListComp elt [⟨target,iter,ts,0⟩] scope pos) 0 it acc env) R s:=by
 refine codeAny_loop rfl I (λn s l=>?_) n h;refine wpAny_noted ?_
 match ts,hts with
 | [],_=>
  refine Ac (Lr (Ac (Ce (turn n s l) (λr s₁ f=>?_) λ_ _ d=>d)));cases r with
  | none=>exact Ad f
  | some v=>
   refine Ac (Ce f (λ_ s1' g=>?_) λ_ _ d=>d);refine Ac (Ce g (λ_ s₂ j=>?_) λ_ _ d=>d);show wpAny _ _ ((pure true:Sem Bool) >>= λb=>if b=true then ((eval elt env >>= λx=>call (.builtin "list.append") [acc,x] >>= λ_=>pure ()) >>= λ_=>again (.compLoop (.ListComp elt [⟨target,iter,[],0⟩] scope pos) 0 it acc env)) else again (.compLoop (.ListComp elt [⟨target,iter,[],0⟩] scope pos) 0 it acc env)) _ _ s₂
   refine Ac (Ce j (λb s2' a=>?_) λ_ _ d=>d);cases b with
   | true=>
    exact Ac (Ac (Ce a (λx s₃ k=>Ac (Ce k (λ_ s₄ i=>Ad (Ad ⟨rfl,i⟩)) λ_ _ d=>d)) λ_ _ d=>d))
   | false=>
    exact Ad ⟨rfl,a⟩
 | [c],_=>
  rw [xM];refine Ac (Lr (Ac (Ce (turn n s l) (λr s₁ f=>?_) λ_ _ d=>d)));cases r with
  | none=>exact Ad f
  | some v=>
   refine Ac (Ce f (λ_ s1' g=>?_) λ_ _ d=>d);refine Ac (Ce g (λ_ s₂ j=>?_) λ_ _ d=>d);rw [List.forIn_cons];refine Ac (Ac ?_);refine Ac (Ce j (λb s2' a=>Ad ?_) λ_ _ d=>d);refine Ad ?_;cases b with
   | true=>
    exact Ac (Ac (Ce a (λx s₃ k=>Ac (Ce k (λ_ s₄ i=>Ad (Ad ⟨rfl,i⟩)) λ_ _ d=>d)) λ_ _ d=>d))
   | false=>
    exact Ad ⟨rfl,a⟩
theorem Vx:∀names h acc n c,(n,c)∈PySem.cellsFrom h.objs.size names acc->(n,c)∈acc\/((PySem.pushCells h names).IsCell c none/\h.objs.size<=c)
 | [],_,_,_,_,hm=>.inl hm
 | (name,kind)::r,h,acc,n,c,hm=>by
  unfold PySem.cellsFrom at hm;unfold PySem.pushCells;split at hm
  .rename_i hk;rw [iP hk];have a:(n,c)∈PySem.cellsFrom (h.push { cls:=.type "cell",data:=.cell none }).objs.size r ((name,h.objs.size)::acc):=by simp_all
   rcases Vx r (h.push { cls:=.type "cell",data:=.cell none }) ((name,h.objs.size)::acc) n c a with z | ⟨z1,z2⟩
   .rcases BV.mp z with e | z
    .cases e;exact .inr ⟨⟨_,PySem.pushCells_keeps r _ _ _ (CJ _ rfl),rfl⟩,Ae _⟩
    lia
   .rw [Ex] at z2
    lia
  .rename_i hk;rw [iN hk];exact Vx r h acc n c hm
theorem Wf:∀names k acc,(∀n c,(n,c)∈acc->c<k)->(∀n n' c,(n,c)∈acc->(n',c)∈acc->n=n')->∀n n' c,(n,c)∈PySem.cellsFrom k names acc->(n',c)∈PySem.cellsFrom k names acc->n=n'
 | [],_,_,_,hi,n,n',c,h1,h2=>hi n n' c h1 h2
 | (name,kind)::r,k,acc,hl,hi,n,n',c,h1,h2=>by
  unfold PySem.cellsFrom at h1 h2;split at h1
  .rename_i hk;rw [iP hk] at h2;refine Wf r (k+1) ((name,k)::acc) (λm d a=>?_) (λm e d a b=>?_) n n' c h1 h2
   .grind
   grind
  .rename_i hk;rw [iN hk] at h2;exact Wf r k acc hl hi n n' c h1 h2
def XD:∀names k acc,(∀y∈names,y.2=.cell->y.1≠x)->(PySem.cellsFrom k names acc).lookup x=acc.lookup x
 | [],_,_,_=>rfl
 | (name,kind)::r,k,acc,h=>by
  unfold PySem.cellsFrom;split
  .rename_i hk;rw [XD r (k+1) _ λy a=>h y (Bf _ a)];have b:name≠x:=h (name,kind) BX (by lia)
   grind
  .exact XD r k acc λy a=>h y (Bf _ a)
def W5:∀names k acc,((acc.lookup x).isSome=true\/(x,NameKind.cell)∈names)->((PySem.cellsFrom k names acc).lookup x).isSome=true
 | [],_,_,h=>by
  rcases h with h | h
  .exact h
  grind
 | (name,kind)::r,k,acc,h=>by
  unfold PySem.cellsFrom;split
  .rename_i hk;refine W5 r (k+1) _ ?_
   grind
  .rename_i hk;refine W5 r k acc ?_
   grind
def Zlp{M:Model}{E:VS}{scope:Scope}{globals:Addr}{closure:List (Str×Addr)}{qual:Str}{func:Option Addr}{code:Value}{outer:Env}{builtins:Addr}{Q:Env->Shared->Prop} (hQ:∀h',h'.Ns s.heap.objs.size (λ_=>none)->(∀b o,s.heap.get? b=some o->h'.get? b=some o)->(∀n c,(n,c)∈PySem.cellsFrom (s.heap.objs.size+1) scope.names closure->(n,c)∈closure\/(h'.IsCell c none/\s.heap.objs.size+1<=c)) ->
   Q (newEnv scope s.heap.objs.size globals (PySem.cellsFrom (s.heap.objs.size+1) scope.names closure) qual func code (some outer) builtins) (sH0 s h')) :
  wpAny M A (newFunctionEnv scope globals closure [] qual func code (some outer) builtins) Q E s:=by
 simp only [newFunctionEnv,Option.isSome_some,GZ];refine Ac (wpAny_alloc ?_);refine Ac (wpAny_layCells _ (λd f a=>by rfl) _ _ _ _ ?_);rw [show ({ s with heap:=s.heap.push { cls:=.type "dict",data:=.dict #[] } }:Shared).heap.objs.size=s.heap.objs.size+1 from Ex ..]
 refine Ac (Ad (Ad ?_));refine hQ _ ((Heap.Ns.new s.heap (.type "dict")).keeps (PySem.pushCells_keeps _ _)) (λb o e=>PySem.pushCells_keeps _ _ b o (Bj _ e)) λn c g=>?_;have z:=Vx scope.names (s.heap.push { cls:=.type "dict",data:=.dict #[] }) closure n c (by rw [Ex];exact g);rwa [Ex] at z
def PTs(X:Cx)(ts:List Expr)(tt:TT):Prop :=
 ∀a s Y H Q,Inv X a Y H s->tt Y H Q->wX X (eO ts X.v) (TP X a Y Q) X.e s
def tYes:TT:=λ_ H Q=>Q true H
def Zsl:PTs X [] tYes:=λ_ _ _ H _ I h=>Ad ⟨H,I,h⟩
def oH(h:PT X c tt):PTs X [c] tt:=h
noncomputable def BR(X:Cx)(N:List Str)(scope:Scope)(cl:List (Str×Addr))(C:Addr)(s₂:Shared)(H₂:Hp)(fp:List Addr)(pn:List (Addr×Obj)):Cx :=
 { X with N:=N,s₀:=s₂,H₀:=H₂,v:=compEnvC scope (PySem.cellsFrom (C+1) scope.names cl) C X.v,outer:=X.k,ex:=fp,fn:=λx=>scope.names.lookup x==some .cell,pn:=pn,e:=λ_ _=>False }
def Lg(X:Cx)(sc:Scope)(cl:List (Str×Addr)):List (Str×Nat)->Prop
 | []=>True
 | p::r=>(X.N[p.2]?=some p.1/\X.v.scope.names.lookup p.1=some .cell/\(sc.names.lookup p.1=some .cell)/\∃c,cl.lookup p.1=some c/\X.v.cells.lookup p.1=some c)/\Lg X sc cl r
def Lg.get:∀{cap:List (Str×Nat)} {j:Nat} {p:Str×Nat},Lg X sc cl cap->cap[j]?=some p ->
  X.N[p.2]?=some p.1/\X.v.scope.names.lookup p.1=some .cell/\(sc.names.lookup p.1=some .cell)/\∃c,cl.lookup p.1=some c/\X.v.cells.lookup p.1=some c
 | [],_,_,_,e=>by simp at e
 | _::_,0,_,h,e=>by simp at e;subst e;exact h.1
 | _::_,j+1,_,h,e=>Lg.get (j:=j) h.2 (by ext)
noncomputable def capt(Y:St)(cap:List (Str×Nat)):St:=cap.map λp=>(Y[p.2]?).join
def st0(own:List Str)(Y:St)(cap:List (Str×Nat)):St:=List.replicate own.length none++capt Y cap
def Uc(J:It)(g:TG)(tt:TT)(te:TE)(own:List Str)(cap:List (Str×Nat))(Y:St)(Q:VK)(H1:Hp):Prop:=∃W:Nat->Nat->List V->Hp->Prop,(∃m,W 0 m [] H1)/\∀i m a H,W i m a H->a.length<=sizeLine /\
 ((J.stop i H/\∀p,H p=none->Q (.ref p) (upd H p (.lst a))) \/
  (J.go i H/\∀x e,J.yld i H x e->g x (st0 own Y cap) e λd h=>d.drop own.length=capt Y cap/\tt d h λb f=>if b=true then te d f λv j=>a.length<sizeLine/\∃c,c<m/\W (i+1) c (a++[v]) j else ∃c,c<m/\W (i+1) c a f))
abbrev Fam(α:Type):=Addr->Shared->Hp->List Addr->List (Addr×Obj)->α
def Gs(wi:TI)(g:Fam TG)(tt:Fam TT)(te:Fam TE)(own:List Str)(cap:List (Str×Nat)):TE:=λY H Q=>wi Y H λJ d=>∀C s c b a,Uc J (g C s c b a) (tt C s c b a) (te C s c b a) own cap Y Q d
structure Gw(X:Cx)(own:List Str)(cap:List (Str×Nat))(scope:Scope)(cl:List (Str×Addr)):Prop where
 clos:closureFor scope X.v=pure cl
 kind:scope.kind=.function
 nown:∀x c,(x,c)∈cl->∀y∈scope.names,y.2=.cell->y.1≠x
 locals:∀y∈scope.names,y.2=.local->scope.names.lookup y.1=some .local
 sub:∀x c,(x,c)∈cl->X.v.cells.lookup x=some c
 has:∀k x,((relabel scope X.v).names.lookup x=some .cell\/(relabel scope X.v).names.lookup x=some .free)->∃c,(PySem.cellsFrom k scope.names cl).lookup x=some c
 cap:Lg X (relabel scope X.v) cl cap
section
variable {own:List Str} {cap:List (Str×Nat)} {scope:Scope} {cl:List (Str×Addr)} {fp:List Addr} {tg:Expr} {J:It} {it:Addr} {tn:Nat->Heap->Prop}
def jY(e:(st0 own Y cap)[i]?=some (some v)):∃j p,i=own.length+j/\cap[j]?=some p/\Y[p.2]?=some (some v):=by
 unfold st0 at e;by_cases hi:i<own.length
 .rw [Fv (by simpa using hi),NK,iP hi] at e;cases e
 .rw [GJ (by simpa using hi),PP] at e;unfold capt at e;rw [Cj] at e;cases q:cap[i - own.length]? with
  | none=>rw [q] at e;cases e
  | some p=>
   rw [q] at e;have a:(Y[p.2]?).join=some v:=CW e;refine ⟨i - own.length,p,by lia,q,?_⟩;cases z:Y[p.2]? with
   | none=>rw [z] at a;cases a
   | some o=>rw [z] at a;have b:o=some v:=a;rw [b]
abbrev Bj0(X:Cx)(own:List Str)(cap:List (Str×Nat))(scope:Scope)(cl:List (Str×Addr))(C:Addr)(s:Shared)(H:Hp)(fp:List Addr):=BR X (own++cap.map (·.1)) scope cl C s H fp
def Inv.comp(I:Inv X pins Y H s)(O:Gw X own cap scope cl)(T:Turn X.p X.w X.K tg J fp it tn)(st:tn 0 s.heap)(f:∀b∈fp,FpOk X pins H b)(hC:s.heap.objs.size<=C)(k:∀b o,s.heap.get? b=some o->h'.get? b=some o)(hn:h'.Ns C m)(hx:∀n c,(n,c)∈PySem.cellsFrom (C+1) scope.names cl->(n,c)∈cl\/(h'.IsCell c none/\C+1<=c)) :
  Inv (Bj0 X own cap scope cl C s H fp (X.pn++pins)) [] (st0 own Y cap) H { s with heap:=h',toks:=t' }:=by
 have M:∀{b:Addr} {o:Obj},s.heap.get? b=some o->b≠C:=λe=>Am (Aw (BP e) hC);have a:=λx c e=>I.cell x c (O.sub x c e);have L:∀x c,(x,c)∈cl->c<C+1:=λx c e=>by
  obtain ⟨v,o,A,_⟩:=a x c e;exact Nat.lt_succ_of_le (Ay (Aw (BP A) hC))
 have B:∀b∈fp,b≠C:=λb g=>by
  obtain ⟨o,e,_⟩:=T.obj _ _ st b g
  grind
 refine ⟨⟨I.ok.mod,O.kind,I.ok.glob,I.ok.blt,hC,λx y c D t=>Wf scope.names (C+1) cl L (λn N c U Q=>I.ok.inj n N c (O.sub n c U) (O.sub N c Q)) x y c (Eo D) (Eo t),O.has (C+1),λx c D t=>?_,I.ok.hd,I.ok.frames,.inl rfl,λb g=>⟨B b g,λx c e=>?_⟩,I.bs,Ak I.ok.bsz I.sz,λb o e g=>?_,λb g z=>?_,I.stack,I.stkFree⟩,
  rfl,I.bare,Un.kept k,⟨m,hn,λi x v D t e3=>?_⟩,λx c e=>?_,?_,λx c e=>?_,λp E=>?_,I.hok.kept k,?_⟩
 .have h:scope.names.lookup x=some .cell:=by simpa [BR] using D
  rcases hx x c (Eo t) with z | ⟨_,z⟩
  .exact aB rfl (O.nown x c z (x,.cell) (Eo h) rfl)
  .exact Ak hC (Nat.le_of_succ_le z)
 .rcases hx x c (Eo e) with z | ⟨_,z⟩
  .exact (f b g).2.2.2.2.1 x c (O.sub x c z)
  .obtain ⟨o,eo,_⟩:=T.obj _ _ st b g;exact CK (Aw (Aw (BP eo) hC) (Nat.le_of_succ_le z))
 .rcases (f b g).2.2.2.1 with z | z
  .exact I.ok.noex b o e z
  .exact aB (Aw (BP (I.ok.bs b o e).1) z) (Kv _)
 .rcases BV.mp (I.stkSub b z) with q | q
  .exact (f b g).2.1 q
  .exact (f b g).2.2.1 q
 .obtain ⟨j,p,rfl,E,hs⟩:=jY t;obtain ⟨V,W,c3,c,P,c5⟩:=O.cap.get E;have h:(own++cap.map (·.1))[own.length+j]?=some x:=D;rw [GJ (Dz _ _),Lf,Cj,E] at h;have ex:=CW h;subst ex;obtain ⟨m2,_,Z⟩:=I.loc;obtain ⟨u,r,l⟩:=Z p.2 p.1 v V hs (.inr (.inl W));refine ⟨u,r,.inr ⟨.inl c3,c,(XD scope.names (C+1) cl λy hy R=>O.nown p.1 c (Eo P) y hy R).trans P,?_⟩⟩;rcases l with ⟨z,_⟩ | ⟨_,c',z,⟨o,A,F⟩⟩
  .have z':X.v.scope.names.lookup p.1=some .local:=z
   lia
  .rw [c5] at z;cases z;exact ⟨o,k _ _ A,F⟩
 .rcases hx x c (Eo e) with z | ⟨z,_⟩
  .obtain ⟨v,o,A,F⟩:=a x c z;exact ⟨v,o,k _ _ A,F⟩
  grind
 .exact I.hok.fresh hC
 .rcases hx x c (Eo e) with z | ⟨_,z⟩
  .exact I.freeC x c (O.sub x c z)
  .exact I.hok.fresh (Ak hC (Nat.le_of_succ_le z))
 .have G:p∈X.pn++pins:=by simpa [BR] using E
  obtain ⟨e,n,S,nf,d⟩:=I.pin p G;exact ⟨k _ _ e,n,M e,λz=>(BV.mp (I.stkSub p.1 z)).elim S nf,d⟩
 .show (st0 own Y cap).length=(own++cap.map (·.1)).length;unfold st0 capt;simp
def aK{elt iter:Expr}{ts:List Expr}{gF:Fam TG}{ttF:Fam TT}{teF:Fam TE}{E:VS}(O:Gw X own cap scope cl)(hc:X.c=true)(hgF:∀C s H fp pn,PG (Bj0 X own cap scope cl C s H fp pn) tg (gF C s H fp pn))(htF:∀C s H fp pn,PTs (Bj0 X own cap scope cl C s H fp pn) ts (ttF C s H fp pn))(heF:∀C s H fp pn,PE (Bj0 X own cap scope cl C s H fp pn) elt (teF C s H fp pn))(hts:ts.length<=1)(I2:Inv X pins Y H s)(T:Turn X.p X.w X.K tg J fp it tn)(st2:tn 0 s.heap)(f2:∀b∈fp,FpOk X pins H b){Q:VK}(hw:∀C s H2 fp pn,Uc J (gF C s H2 fp pn) (ttF C s H2 fp pn) (teF C s H2 fp pn) own cap Y Q H){R:Value->Addr->Result->Shared->Prop} (fin:∀(D C:Addr) (H':Hp) (s':Shared) (m:Str->Option Value),s.heap.objs.size<=C->s'.heap.Ns C m->H' C=none ->
   (∀h',Hb0 C s'.heap h'->Inv X pins Y H' { s' with heap:=h' })->Q (.ref D) H'->R (.ref D) C (.ok .next) s') :
  wX X (newList []) (λacc s₃=>wX X (newFunctionEnv scope X.v.globals cl [] X.v.qual none .none (some X.v)) (λcenv s₄=>
   codeAny (model X.p X.w) X.A (.compStart (.ListComp elt [⟨tg,iter,ts,0⟩] scope pos) 0 (.ref it) acc { cenv with scope:=relabel scope X.v }) (R acc cenv.locals) s₄) E s₃) E s:=by
 refine KR (Zlp (λh B g f=>?_));generalize hHh:s.heap.push { cls:=.type "list",dict:=none,data:=.seq ([]:List Value).toArray }=Hh at B g f ⊢;have hCs:Hh.objs.size=s.heap.objs.size+1:=by rw [<-hHh,Ex]
 generalize hCC:Hh.objs.size=C at B f hCs ⊢;generalize hDD:s.heap.objs.size=D at hCs ⊢;have F:D<C:=by lia
 have hDC:=Am F;have hsD:=HD hDD;have hsC:s.heap.objs.size<=C:=by lia
 have L:∀{b:Addr} {o:Obj},s.heap.get? b=some o->b<D:=λe=>by rw [<-hDD];exact BP e
 have old:∀b o,s.heap.get? b=some o->h.get? b=some o:=λb o e=>by
  refine g b o ?_;rw [<-hHh];exact Bj _ e
 have hD0:h.PlainList D #[]:=by
  have z:Hh.get? D=some { cls:=.type "list",dict:=none,data:=.seq ([]:List Value).toArray }:=by
   rw [<-hHh,<-hDD];exact CJ _ rfl
  exact ⟨_,g D _ z⟩
 obtain ⟨W,⟨m0,w0⟩,turn⟩:=hw C s H fp (X.pn++pins);have hg:=hgF C s H fp (X.pn++pins);have ht:=htF C s H fp (X.pn++pins);have he:=heF C s H fp (X.pn++pins);have I':Inv (Bj0 X own cap scope cl C s H fp (X.pn++pins)) [] (st0 own Y cap) H { s with heap:=h,toks:=s.toks }:=(I2.comp O T st2 f2 hsC old B f)
 have cne:∀x c,(PySem.cellsFrom (C+1) scope.names cl).lookup x=some c->(∃v,s.heap.IsCell c v/\X.v.cells.lookup x=some c)\/C<c:=λx c e=>by
  rcases f x c (Eo e) with z | ⟨_,z⟩
  .obtain ⟨v,hv⟩:=I2.cell x c (O.sub x c z);exact .inl ⟨v,hv,O.sub x c z⟩
  lia
 have st':=T.keep _ _ _ st2 λb hb o e=>old b o e;have nofr:∀{a:Addr},s.heap.objs.size<=a->a∉frs X.k:=λ{a} ha z=>by
  rcases BV.mp (I2.stkSub a z) with q | q
  .exact aB (Aw I2.lt ha) (by lia)
  .exact I2.nofs ha q
 have S:∀b∈fp,b<D:=λb hb=>by
  obtain ⟨o,e,_⟩:=T.obj _ _ st2 b hb
  grind
 have fpk:∀{M:Hp} {objD:Obj},(∀b∈fp,M b=none)->∀b∈fp,FpOk (Bj0 X own cap scope cl C s H fp (X.pn++pins)) [(D,objD)] M b:=λ{M objD} hn b hb=>by
  obtain ⟨_,f1,f3,f4,f5,f6⟩:=f2 b hb;have lb:=S b hb;refine ⟨hn b hb,(Am (FW lb F)),λz=>?_,.inl hb,λx c e=>?_,λp hp=>?_⟩
  .rcases BV.mp (I2.stkSub b z) with q | q
   .lia
   ext
  .rcases cne x c e with ⟨_,_,z⟩ | z
   .grind
   lia
  .rcases Gv.mp hp with z | z
   .exact f6 p z
   grind
 have U:∀s₃:Shared,s₃=(sH0 s h) ->
   codeAny (model X.p X.w) X.A (.compLoop (.ListComp elt [⟨tg,iter,ts,0⟩] scope pos) 0 (.ref it) (.ref D) (compEnvC scope (PySem.cellsFrom (C+1) scope.names cl) C X.v)) (R (.ref D) C) s₃:=by
  rintro s₃ rfl
  refine pC hts (λn s'=>∃(i:Nat) (acc:List V) (d:List Value) (H':Hp),Inv (Bj0 X own cap scope cl C s H fp (X.pn++pins)) [] (st0 own Y cap) H' s'/\tn i s'.heap/\(∀b∈fp,H' b=none)/\H' D=none /\
   s'.heap.PlainList D d.toArray/\Vals acc d/\W i n acc H') ?_ m0 ⟨0,[],[],H,I',st',λb hb=>(f2 b hb).1,I2.hok.fresh hsD,hD0,.nil,w0⟩
  rintro n s3 ⟨i,acc,d,M,I3,st3,fr3,nD,⟨P,hD⟩,rv,w3⟩;obtain ⟨hlen,hturn⟩:=turn i n acc M w3;have lenV:=rv.length;have pinD:∀{s5:Shared} {H5:Hp},s5.heap.get? D=some { cls:=.type "list",data:=.seq d.toArray P }->H5 D=none->∀p∈[(D,({ cls:=.type "list",data:=.seq d.toArray P }:Obj))],s5.heap.get? p.1=some p.2/\H5 p.1=none/\p.1≠C/\p.1∉frs X.k/\∀v,p.2.data≠.cell v:=by
   simp_all
  have I3p:=I3.pins_of (pinD hD nD);rcases hturn with ⟨stop,qn⟩ | ⟨go,step⟩
  .refine Ce (T.done (Bj0 X own cap scope cl C s H fp (X.pn++pins)) rfl rfl rfl hc i _ s3 _ M (λ_ _=>False) I3p (fpk fr3) st3 stop) (λr s4 h4=>?_) (λ_ _ z=>z.elim);obtain ⟨hr,k⟩:=h4;subst hr;obtain ⟨m4,hm4,_⟩:=k.loc;have hD4:=(k.pin (D,{ cls:=.type "list",data:=.seq d.toArray P }) (DR _ (by simp))).1;have nC:=k.free;refine fin D C (upd M D (.lst acc)) s4 m4 hsC hm4 (by rw [Af (Ne.symm hDC)];exact nC) (λh' sb=>?_) (qn D nD);have kc:=λb o hb e=>sb.extBut b o hb e;have neD:∀{b:Addr} {o:Obj},s.heap.get? b=some o->b≠D:=λe=>Am (L e);have neC:∀{b:Addr} {o:Obj},s.heap.get? b=some o->b≠C:=λe=>Am (FW (L e) F);refine I2.call' (ch:=fp) k.os ⟨?_,?_,?_,?_,?_,?_,?_⟩ (λa o e=>?_) k.bare (λb hb=>?_)
   .exact λb o e n hb hx=>kc b o (neC e) (k.base.keep b o e n hb hx)
   .intro b o e n hb hx;obtain ⟨sl,q⟩:=k.base.slot b o e n hb hx;simp_all
   .intro b o e n hx;rw [Af (neD e)];exact k.base.free b o e n hx
   .intro b o e hx;obtain ⟨o',q⟩:=k.base.there b o e hx;exact ⟨o',kc b _ (neC e) q⟩
   .intro b xs e;have q:=k.base.tups b xs e;rw [Af (BZ q nD)];exact q
   .intro b o u e;have q:=k.base.frzs b o u e;rw [Af (BZ q nD)];exact q
   .intro b ps e;obtain ⟨more,q⟩:=k.base.tbls b ps e;exact ⟨more,by rw [Af (BZ q nD)];exact q⟩
   .by_cases ha:a=D
    .subst ha;rw [Ar] at e;cases e;exact ⟨hlen,d,P,rv,kc _ _ hDC hD4⟩
    .rw [Af ha] at e;refine (k.hok a o e).stay (λb u hb q=>kc b u ?_ q) (λb q=>?_) (λb xs q=>?_)
     .rcases hb with rfl | hb
      .exact BZ e nC
      .exact BZ hb nC
     .rw [Af (BZ q nD)];exact q
     .rw [Af (BZ q nD)];exact q
   .obtain ⟨_,f1,_,f4,f5,f6⟩:=f2 b hb
    ext
  .refine Ce (T.item (Bj0 X own cap scope cl C s H fp (X.pn++pins)) rfl rfl rfl hc i _ s3 _ M (λ_ _=>False) I3p (fpk fr3) st3 go) (λr s4 h4=>?_) (λ_ _ z=>z.elim);obtain ⟨u,hr,h4⟩:=h4;subst hr;refine Ce h4 (λ_ s5 h5=>?_) (λ_ _ z=>z.elim);obtain ⟨x,H5,I5,r5,y5,t,fr5⟩:=h5;have I5':=I5.pinned (fpk fr5) (T.obj _ _ t);refine Ce (hg _ s5 _ H5 x u _ I5' r5 (step x H5 y5)) (λ_ s6 h6=>?_) (λ_ _ z=>z.elim);obtain ⟨Y6,H6,I6,e6,q6⟩:=h6;refine Ce (ht _ s6 Y6 H6 _ I6 q6) (λbb s6' h6'=>?_) (λ_ _ z=>z.elim);obtain ⟨H6',G,q6'⟩:=h6';have N:∀{Z:Hp} {s7:Shared},Inv (Bj0 X own cap scope cl C s H fp (X.pn++pins)) [] Y6 Z s7->Inv (Bj0 X own cap scope cl C s H fp (X.pn++pins)) [] (st0 own Y cap) Z s7:=λ{Z s7} I8=>by
    refine I8.weak (I'.len.trans I8.len.symm) (λj v e=>?_);obtain ⟨l,p,rfl,hp,hs⟩:=jY e;have q:(Y6.drop own.length)[l]?=some (some v):=by
     rw [e6];unfold capt;simp_all
    grind
   cases bb with
   | false=>
    obtain ⟨m',hm,w7⟩:=q6';obtain ⟨hD7,I,_⟩:=G.pin (D,{ cls:=.type "list",data:=.seq d.toArray P }) (DR _ (by simp));have st7:=T.keep _ _ _ t λb hb o e=>(G.pin (b,o) (DR _ (DR _ (Mj hb e)))).1;have fr7:∀b∈fp,H6' b=none:=λb hb=>by
     obtain ⟨o,e,_⟩:=T.obj _ _ t b hb;exact (G.pin (b,o) (DR _ (DR _ (Mj hb e)))).2.1
    exact ⟨m',hm,i+1,acc,d,H6',N (G.pins_of λp hp=>nomatch hp),st7,fr7,I,⟨P,hD7⟩,rv,w7⟩
   | true=>
   refine Ce (he _ s6' Y6 H6' _ G q6') (λy s7 h7=>?_) (λ_ _ z=>z.elim);obtain ⟨v,Z,I7,r7,hl7,m',hm,w7⟩:=h7;obtain ⟨hD7,I,_⟩:=I7.pin (D,{ cls:=.type "list",data:=.seq d.toArray P }) (DR _ (by simp));have st7:=T.keep _ _ _ t λb hb o e=>(I7.pin (b,o) (DR _ (DR _ (Mj hb e)))).1;have fr7:∀b∈fp,Z b=none:=λb hb=>by
    obtain ⟨o,e,_⟩:=T.obj _ _ t b hb;exact (I7.pin (b,o) (DR _ (DR _ (Mj hb e)))).2.1
   refine wpAny_list_append_plain ⟨P,hD7⟩ (λh8 hp8 hs8=>?_) (by simp_all);have I7w:Inv (Bj0 X own cap scope cl C s H fp (X.pn++pins)) [] Y6 Z s7:=I7.pins_of λp hp=>nomatch hp;have I8:Inv (Bj0 X own cap scope cl C s H fp (X.pn++pins)) [] Y6 Z { s7 with heap:=h8 }:=by
    refine I7w.turned (λb o hb e=>hs8.extBut b o hb e) I hDC (.inr hsD) (λx c e=>?_) (λp hp=>?_)
    .rcases cne x c e with ⟨v,⟨o,ho,_⟩,_⟩ | z
     .exact Am (L ho)
     lia
    .have hp':p∈X.pn++pins:=by simpa [BR] using hp
     exact Am (L (I2.pin p hp').1)
   have I9:=N I8;refine ⟨m',hm,i+1,acc++[v],d++[y],Z,I9,T.keep _ _ _ st7 (λb hb o e=>hs8.extBut b o (Am (S b hb)) e),fr7,I,?_,rv.append (.cons r7 .nil),w7⟩;simp_all
 exact codeAny_compStart_list (U _ rfl) (T.self X.A 0 _ _ _ st' (U _ rfl))
def ZsC{elt iter:Expr}{wi:TI}{ts:List Expr}{g:Fam TG}{tt:Fam TT}{te:Fam TE}(hi:PI X tg iter wi)(O:Gw X own cap scope cl)(hc:X.c=true)(hg:∀C s H fp pn,PG (Bj0 X own cap scope cl C s H fp pn) tg (g C s H fp pn))(ht:∀C s H fp pn,PTs (Bj0 X own cap scope cl C s H fp pn) ts (tt C s H fp pn))(he:∀C s H fp pn,PE (Bj0 X own cap scope cl C s H fp pn) elt (te C s H fp pn))(hts:ts.length<=1)(hs:Fsi iter X:=by intro _;rfl):PE X (.ListComp elt [⟨tg,iter,ts,0⟩] scope pos) (Gs wi g tt te own cap):=by
 intro b s Y H Q I h;refine wpAny_comprehension_free rfl hs O.clos O.kind O.locals (thn (hi b s Y H _ I h) λy f a=>thn a λj e c=>?_);obtain ⟨A,fp,B,J,z,rfl,r,T,d,l,i⟩:=c;refine aK O hc hg ht he hts r T d l i ?_;intro D C o u m v k w t q;exact ⟨m,k,λn p=>⟨.ref D,o,t n p,rfl,q⟩⟩
def RL{elt iter:Expr}{wi:TI}{ts:List Expr}{g:Fam TG}{tt:Fam TT}{te:Fam TE}(hN:X.N.Nodup)(hix:X.N[i]?=some x)(hx:Loc X.v.scope x)(hi:PI X tg iter wi)(O:Gw X own cap scope cl)(hc:X.c=true)(hg:∀C s H fp pn,PG (Bj0 X own cap scope cl C s H fp pn) tg (g C s H fp pn))(ht:∀C s H fp pn,PTs (Bj0 X own cap scope cl C s H fp pn) ts (tt C s H fp pn))(he:∀C s H fp pn,PE (Bj0 X own cap scope cl C s H fp pn) elt (te C s H fp pn))(hts:ts.length<=1)(hsw:swapsWith (.ListComp elt [⟨tg,iter,ts,0⟩] scope pos) (some (.Name x pos')) spos.line X.v=pure true:=by rfl)(hs:Fsi iter X:=by intro _;rfl)(hf:FnL X x:=by walk_at "ff"):PS X (.Assign [.Name x pos'] (.ListComp elt [⟨tg,iter,ts,0⟩] scope pos) spos) (tAsg (Gs wi g tt te own cap) (Bt i)):=by
 intro pins s Y H D I h;rw [exec_Assign_Name_used _ _ _ _ hsw];refine Ac (Lr (Ac ?_))
 refine Ac (Ce (wpAny_comprehension_free rfl hs O.clos O.kind O.locals
  (thn (hi pins s Y H _ I h) λxv s₁ h₁=>thn h₁ λitv s₂ h₂=>?_)) (λ_ s' hq=>Ad (Ad hq)) λ_ _ e=>e)
 obtain ⟨it,fp,tn,J,H2,rfl,I2,T,st2,f2,hw⟩:=h₂;refine aK O hc hg ht he hts I2 T st2 f2 hw ?_;intro A C H' s' m hC hn hH IV q;have I3:=IV s'.heap (Heap.SameBut.refl ..);obtain ⟨oc,es,ep,ho,hd,hk⟩:=id hn;have neL:=CK (Aw I2.lt hC);have neF:=I2.nofs hC;have I4:Inv X (pins++[(C,oc)]) Y H' s':=I3.pins_of λp hp=>by
  rcases Gv.mp hp with z | z
  .exact I3.pin p (DR _ z)
  simp_all
 refine wpAny_assign_Name (We I4 hN hix hx (v:=.ref A) rfl (λs5 I5=>?_) hf);have ho5:=(I5.pin (C,oc) (DR _ (DR _ (by simp)))).1;refine ⟨m,⟨oc,es,ep,ho5,hd,hk⟩,λh' sb=>⟨_,H',?_,q⟩⟩;refine (I5.unpinned).turned (λb o hb e=>sb.extBut b o hb e) hH neL (.inr (Ak I2.sz hC)) (λy c e=>?_) (λp hp=>?_)
 .obtain ⟨v,o,hc',_⟩:=I2.cell y c e;exact Am (Aw (BP hc') hC)
 .exact Am (Aw (BP (I2.pin p hp).1) hC)
end
noncomputable def Rf(scope out:Scope):List (Str×NameKind):=scope.names.map λ(n,k)=>if (k==.free&&out.kind==.function&&out.names.lookup n==some .cell) then (n,.cell) else (n,k)
def Yq(scope out:Scope)(cn:List Str):Bool :=
 scope.names.all (λy=>y.2 != .cell||!cn.contains y.1)&&scope.names.all (λy=>y.2 != .local||scope.names.lookup y.1==some .local)&&(Rf scope out).all (λy=>!(y.2==.cell||y.2==.free)||cn.contains y.1||scope.names.contains (y.1,.cell))&&cn.all (λn=>out.names.lookup n==some .cell&&(Rf scope out).lookup n==some .cell)
def QH(X:Cx):List (Str×Addr)->Prop
 | []=>True
 | p::r=>X.v.cells.lookup p.1=some p.2/\QH X r
def QH.mem:∀{cl:List (Str×Addr)} {p:Str×Addr},QH X cl->p∈cl->X.v.cells.lookup p.1=some p.2
 | _::_,_,h,.head _=>h.1
 | _::_,_,h,.tail _ m=>QH.mem h.2 m
def CapN(X:Cx):List (Str×Nat)->Prop
 | []=>True
 | p::r=>X.N[p.2]?=some p.1/\CapN X r
def Wv:∀{l:List (Str×α)},x∈l.map (·.1)->∃c,l.lookup x=some c
 | [],h=>by simp at h
 | (y,c)::r,h=>by
  by_cases e:x=y
  .simp_all
  .have a:x∈r.map (·.1):=by
    simp_all
   obtain ⟨d,b⟩:=Wv a
   grind
def Gw.of{cap:List (Str×Nat)}{scope:Scope}{cl:List (Str×Addr)}(clos:closureFor scope X.v=pure cl)(kind:scope.kind=.function)(chk:Yq scope X.v.scope (cap.map (·.1))=true)(names:cl.map (·.1)=cap.map (·.1))(sub:QH X cl)(capn:CapN X cap):Gw X own cap scope cl:=by
 unfold Yq at chk;simp only [PQ,List.all_eq_true] at chk;obtain ⟨⟨⟨D,u⟩,v⟩,C⟩:=chk;have h:∀x c,cl.lookup x=some c->X.v.cells.lookup x=some c:=λx c e=>sub.mem (Eo e);have i:∀l,(∀p∈l,p.1∈cap.map (·.1))->CapN X l->Lg X (relabel scope X.v) cl l:=by
  intro l
  induction l with
  | nil=>exact λ_ _=>trivial
  | cons p r ih=>
   intro f t;have j:=f p BX;have m:=C p.1 j;have A:X.v.scope.names.lookup p.1=some .cell:=by simpa using m.1
   have E:(Rf scope X.v.scope).lookup p.1=some .cell:=by simpa using m.2
   obtain ⟨c,d⟩:=Wv (by rw [names];exact j);exact ⟨⟨t.1,A,E,c,d,h _ _ d⟩,ih (λq m=>f q (Bf _ m)) t.2⟩
 refine ⟨clos,kind,λx c f y o s=>?_,λy o e=>?_,λx c f=>sub.mem f,λk x w=>?_,i cap (λp j=>By.mpr ⟨p,j,rfl⟩) capn⟩
 .have:=D y o;rw [s] at this;rintro rfl;have d:y.1∈cap.map (·.1):=by rw [<-names];exact By.mpr ⟨_,f,rfl⟩
  simp at this;simp at d;obtain ⟨a,B⟩:=d;exact this a B
 .have:=u y o;rw [e] at this;simpa using this
 .have g:∀n,(Rf scope X.v.scope).lookup x=some n->(n=.cell\/n=.free)->∃c,(PySem.cellsFrom k scope.names cl).lookup x=some c:=by
   intro n e s;have:=v _ (Eo e);refine Option.isSome_iff_exists.mp (W5 scope.names k cl ?_);have b:x∈cap.map (·.1)\/(x,NameKind.cell)∈scope.names:=by
    rcases s with rfl | rfl
    .simpa using this
    .simpa using this
   rcases b with z | z
   .obtain ⟨c,d⟩:=Wv (by rw [names];exact z);exact .inl (by rw [d];rfl)
   .exact .inr z
  rcases w with e | e
  .exact g _ e (.inl rfl)
  .exact g _ e (.inr rfl)
end L2
namespace L2
open PySem.Calls
structure Sk(o o':Obj):Prop where
 d:o'.dict=o.dict
 f:∀vs,o.data=.fields vs->∃vs':Array Value,o'.data=.fields vs'/\vs'[2]?=vs[2]?
def Sk.refl(o):Sk o o:=⟨rfl,λa e=>⟨a,e,rfl⟩⟩
def Sk.trans(x:Sk a b)(y:Sk b c):Sk a c:=⟨y.d.trans x.d,λi e=>by
 obtain ⟨g,h,m⟩:=x.f i e;obtain ⟨j,l,k⟩:=y.f g h
 simp_all⟩
def KD(h h':Heap):Prop:=∀(b:Nat) (o:Obj),h.objs[b]?=some o->∃a:Obj,h'.objs[b]?=some a/\Sk o a
def KD.refl(h:Heap):KD h h:=λ_ o e=>⟨o,e,.refl o⟩
def KD.trans(x:KD a b)(y:KD b c):KD a c:=λk o e=>by
 obtain ⟨j,f,g⟩:=x k o e;obtain ⟨h,i,d⟩:=y k j f;exact ⟨h,i,g.trans d⟩
def KD.push(h:Heap)(o:Obj):KD h (h.push o):=λb u e=>by
 obtain ⟨a,l⟩:=h;refine ⟨u,?_,.refl u⟩;show (a.push o)[b]?=some u
 grind
def KD.update(h:Heap)(a:Addr)(hf:∀o,Sk o (f o)):KD h (h.update a f):=λb u e=>by
 obtain ⟨c,l⟩:=h;have e:=e;show ∃d,(c.modify a f)[b]?=some d/\_;rw [Array.getElem?_modify];by_cases q:a=b
 .simp_all
 .rw [iN q];exact ⟨u,e,.refl u⟩
def iY{h:Heap}(e:h.get? a=some o):h.objs[a]?=some o:=by
 unfold Heap.get? at e
 lia
def KD.at{h h':Heap}(x:KD h h')(e:h.get? a=some o)(e':h'.get? a=some o'):Sk o o':=by
 obtain ⟨d,b,c⟩:=x a o (iY e);rw [iY e'] at b
 lia
def Dk:Sem α->Prop
 | .pure _=>True
 | .raise _=>True
 | .unsupported _=>True
 | .finish _=>True
 | .rule _ k=>Dk (k ())
 | .at _ k=>Dk (k ())
 | .load _ _ k=>∀o,Dk (k o)
 | .update _ _ f k=>(∀o,Sk o (f o))/\Dk (k ())
 | .loadIfAlive _ k=>∀o,Dk (k o)
 | .point _ k=>Dk (k ())
 | .alloc _ k=>∀a,Dk (k a)
 | .fresh k=>∀t,Dk (k t)
 | .ask k=>∀x,Dk (k x)
 | .choose _ _ k=>∀n,Dk (k n)
 | .handled _ k=>∀x,Dk (k x)
 | .stack k=>∀l,Dk (k l)
 | .thread k=>∀n,Dk (k n)
 | .register _ _=>True
 | _=>False
def Dk.bind:∀{t:Sem α} {k:α->Sem β},Dk t->(∀a,Dk (k a))->Dk (t >>= k):=by
 intro t
 induction t with
 | pure a=>intro k _ h;exact h a
 | raise e=>intro k _ h;ext
 | unsupported w=>intro k _ h;ext
 | finish e=>intro k _ h;ext
 | rule t k ih=>intro k d h;exact ih () d h
 | «at» q k ih=>intro k d h;exact ih () d h
 | load a q k ih=>intro k d h o;exact ih o (d o) h
 | update a q f k ih=>intro k d h;exact ⟨d.1,ih () d.2 h⟩
 | alloc o k ih=>intro k d h a;exact ih a (d a) h
 | loadIfAlive a k ih=>intro k d h o;exact ih o (d o) h
 | point l k ih=>intro k d h;exact ih () d h
 | register a k ih=>intro k d h;ext
 | fresh k ih=>intro k d h o;exact ih o (d o) h
 | ask k ih=>intro k d h o;exact ih o (d o) h
 | choose src n k ih=>intro k d h o;exact ih o (d o) h
 | handled o k ih=>intro k d h o;exact ih o (d o) h
 | stack k ih=>intro k d h o;exact ih o (d o) h
 | thread k ih=>intro k d h o;exact ih o (d o) h
 | _=>intro k d h;exact d.elim
end L2
namespace L2
def Ec.there(x:Ec P w H h a o):∃ob,h.get? a=some ob:=by
 cases o with
 | lst xs=>obtain ⟨_,_,_,_,e⟩:=x;simp_all
 | tup xs=>obtain ⟨_,_,_,o,e,_⟩:=x;simp_all
 | ins C dx fs=>obtain ⟨_,_,_,e,_⟩:=x;simp_all
 | own y=>ext
 | xd fs=>obtain ⟨_,⟨_,_,_,e,_⟩,_⟩:=x;simp_all
 | frz ob u=>obtain ⟨e,_⟩:=x;simp_all
 | tbl ps=>exact ⟨_,(x)⟩
 | ext φ=>obtain ⟨_,⟨_,e⟩,_⟩:=x;simp_all
structure Fly(P:Program)(w:World)(l:List Env)(H H':Hp)(s s':Shared)(x:Addr)(cls:Value):Prop where
 os:s'.os=s.os
 bare:AllBare s'.gens
 un:Un (frs l) [] H H' s.heap s'.heap
 hok:HOk P w H' s'.heap
 frf:∀b∈frs l,H' b=none
 free:H' x=none
 ex:∃(B:Heap) (a0:Value),Heap.FlyingW B l x cls a0 s'.heap/\∀b o,s'.heap.get? b=some o->(H' b≠none\/∃o',s.heap.get? b=some o')->b∉frs l->B.get? b=some o
section
variable {H':Hp} {s':Shared} {x:Addr} {cls:Value}
def Inv.sub(I:Inv X pins Y H s):∀b∈X.fs,b∈frs X.k:=λb a=>by
 rcases I.ok.stk with e | ⟨e,hf⟩
 .lia
 .rw [e];unfold frs;rw [U9,hf];exact Bf _ a
end
def CtxN(x:Addr)(h:Heap):Prop:=∃a b,h.get? x=some a/\a.data=.fields b/\b[2]?=some .none
def CtxN.on{x:Addr}(k:CtxN x h)(kd:KD h h')(ht:∃ox,h'.get? x=some ox):CtxN x h':=by
 obtain ⟨ox,e,i,l,g⟩:=k;obtain ⟨b,a⟩:=ht;obtain ⟨c,d,j⟩:=(kd.at i a).f e l;exact ⟨b,c,a,d,j.trans g⟩
def WK(p:Option Addr)(x:Addr)(H':Hp)(h0 h:Heap):Prop:=(p=none->CtxN x h)/\∀n:Nat,p=some n->∃(ox:Obj) (d:Addr) (m:Str->Option Value),h.get? x=some ox/\ox.dict=some d/\h.Ns1 d m/\(∀g,RelO (([("at",V.int ((n/2:Nat):Int))]:List (Str×V)).lookup g) (m g))/\H' d=none/\h0.get? d=none/\d≠x/\(n%2=0->∃a:Array Value,ox.data=.fields a/\a[2]?=some .none)
def Zos{h h':Heap}(x:h.UpToSlots h')(hn:h.Ns1 a m):h'.Ns1 a m:=by
 obtain ⟨o,e,c,d,b,r⟩:=hn;obtain ⟨g,f⟩:=x a o d λi q=>by lia
 exact ⟨_,e,c,f,b,r⟩
def WK.on{x:Addr}(k:WK p x H' h0 h)(kd:KD h h')(sm:h.UpToSlots h')(ht:∃ox,h'.get? x=some ox)(h01:∀b o,h1.get? b=some o->∃o',h0.get? b=some o'):WK p x H' h1 h':=⟨λe=>(k.1 e).on kd ht,λn e=>by
 obtain ⟨ox,d,m,g,w,s,u,i,A,j,l⟩:=k.2 n e;obtain ⟨c,a⟩:=ht;refine ⟨c,d,m,a,(kd.at g a).d.trans w,Zos sm s,u,i,?_,j,λz=>?_⟩
 rotate_left
 .obtain ⟨t,v,C⟩:=l z;obtain ⟨r,B,y⟩:=(kd.at g a).f t v;simp_all
 cases q:h1.get? d with
 | none=>rfl
 | some o=>
  grind⟩
def CXR(P:Program)(w:World):CXT:=λ_ _ _ _ _ _=>False
section
variable {qual:Str} {scope:Scope} {f:Addr} {cd:Value} {outer:List Env} {s₀:Shared} {H₀:Hp} {E:XK}
def CQ:Dp (CXR P w) (cxOf (CXR P w) P w K mg base N qual scope f cd A outer s₀ H₀ E) E:=λ_ _ _ _ _ _ _ h=>h.elim
end
def ExcAt(a:Addr)(C:Value)(h:Heap):Prop:=∃b,h.get? a=some b/\b.cls=C
def exO(a:Addr)(C:Value):HO:=.ext (ExcAt a C)
end L2
namespace L2
open PySem.Calls
def Zvz(a:Addr)(C:Value)(d:Addr)(h:Heap):Prop:=∃b,h.get? a=some b/\b.cls=C/\b.dict=some d/\∃c,b.data=.fields c
def exC(a:Addr)(C:Value)(d:Addr):HO:=.ext (Zvz a C d)
end L2
namespace L2
def Zn5(l)(items)(n)(sl)(b)(items2)(n2)(sl2)(hc0:items.size+items2.size<=sizeLine) :
  Meets (Builtin.«list.__add__» ⟨[.ref l,.ref b],[]⟩) (λ_ R s=>s.heap.get? l=some { cls:=.type "list",dict:=none,data:=.seq items n,slots:=sl }/\s.heap.get? b=some { cls:=.type "list",dict:=none,data:=.seq items2 n2,slots:=sl2 }/\R (.ok (.ret (Value.ref s.heap.objs.size))) { s with heap:=s.heap.push { cls:=Value.type "list",data:=Data.seq (items++items2) },toks:=s.toks }) :=
 .of_wp λa w A R s h=>by obtain ⟨f,g,d,j,k⟩:=s;obtain ⟨c,e,h⟩:=h;have m:=AutoSeq1.idx_int;have i:=AutoSeq1.sub_tuple_tuple;have o:=AutoSeq1.sub_list_list;have p:=AutoSeq1.sub_tuple_list;have q:=AutoSeq1.sub_list_tuple;wp_walk using AutoSeq1.wpAny_loadPart' c,AutoSeq1.wpAny_loadPart' e;lia
section
def yI(I:Inv X pins Y H s)(hH:SqL X.K H l xs)(hB:SqL X.K H b zs)(hz:xs.length+zs.length<=sizeLine)(q:∀p,H p=none->Q (.ref p) (upd H p (.lst (xs++zs)))) :
  wX X (binaryOp .Add (.ref l) (.ref b)) (EP X pins Y Q) X.e s:=by
 obtain ⟨c,r,⟨⟨G,E,C,f⟩,n,e,m,h,i⟩,z⟩:=I.list hH;obtain ⟨a,j,⟨⟨x,B,y,d⟩,v,o,g,k,t⟩,D⟩:=I.list hB;simp only at m h i g k t;subst m h i g k t;refine concat_meets ⟨_,e,rfl⟩ ⟨_,o,rfl⟩ noFill_list_add seq_list_add F.slot_list_add F.entry_list_add (F.args_list_add_2 _ _) (Zn5 l c.toArray n f b a.toArray v d (by rw [Ht,Ht,<-r.length,<-j.length];exact hz)) ⟨e,o,?_⟩;have u:c.toArray++a.toArray=(c++a).toArray:=by simp
 rw [u];exact ⟨.ref _,_,I.lnew (r.append j) (by simp_all),rfl,q _ I.fresh⟩
def ZpB(I:Inv X pins Y H s)(ha:SqT X.K H a xs)(hb:SqT X.K H b ys)(hz:xs.length+ys.length<=sizeLine)(q0:xs=[]->Q (.ref b) H)(q1:xs≠[]->ys=[]->Q (.ref a) H)(q2:xs≠[]->ys≠[]->∀p,H p=none->Q (.ref p) (upd H p (.tup (xs++ys)))) :
  wX X (binaryOp .Add (.ref a) (.ref b)) (EP X pins Y Q) X.e s:=by
 by_cases hx:xs=[]
 .obtain ⟨z,u,q,_⟩:=I.tuple ha;obtain ⟨e,C,t,_⟩:=I.tuple hb;have v:=u.nil_iff.mpr hx;subst v;obtain ⟨⟨r,x,m,y⟩,l,o,n,j⟩:=id q;obtain ⟨⟨k,i,h,g⟩,f,d,B,c⟩:=id t;simp only at o j d c;subst o j d c;exact concat_meets ⟨_,l,rfl⟩ ⟨_,f,rfl⟩ noFill_tuple_add seq_tuple_add PySem.F.slot_tuple_add PySem.F.entry_tuple_add (PySem.F.args_tuple_add_2 _ _)
   (tuple_addW0 a b ([]:List Value).toArray e.toArray n B x i y g rfl) ⟨l,f,⟨.ref b,H,I,rfl,q0 hx⟩⟩
 .exact Zse pins s Y H (.ref a) (.ref b) _ _ Q I rfl rfl ⟨a,b,xs,ys,rfl,rfl,ha,hb,hx,hz,q1 hx,q2 hx⟩
end
end L2
namespace HT
section
variable{prog:Program} {E:VS}
def Zed{t sl:Addr}{items:Array Value}{vl vu:Value}{lo hi:Option Int}{Q:VS}(ht:IsTup s.heap t items)(hs:s.heap.IsSliceOf sl vl vu .none)(pl:IsPart vl lo)(pu:IsPart vu hi)(hw:sIx items.size 0 lo=0/\sIx items.size items.size hi=items.size)(h:Q (.ref t) s):wP prog w A (getItem (.ref t) (.ref sl)) Q E s:=by
 obtain ⟨e,b,d,f⟩:=id hs;have c:s.TypeIs (.ref sl) "slice":=⟨e,b,d⟩;unfold getItem
 try with_reducible refine Cw ?_
 first | refine Ac (Ad ?_) | skip
 refine Ac (wpAny_sequenceKey ht.typeIs (by decide) ?_)
 refine Ac (Nz ht.typeIs UV
  (Kd UV ht.typeIs entry_tuple_getitem ?_ (args_tuple_getitem _ _)))
 show wpAny _ _ (Builtin.Tuple.tupleItemsOf (.ref t) >>= _) _ _ s;refine Ac (tupleItemsOf_ ht ?_);refine Ac (Mh c ?_);rw [iP (by decide)];refine Ac (Y5 hs pl pu ?_);have a:(((sIx items.size 0 lo:Nat):Int)==0&&(1:Int)==1&&(sIx items.size items.size hi - sIx items.size 0 lo)==items.size)=true:=by
  simp_all
 show wpAny _ _ (if (((sIx items.size 0 lo:Nat):Int)==0&&(1:Int)==1&&(sIx items.size items.size hi - sIx items.size 0 lo)==items.size)=true then _ else _) _ _ s
 rw [iP a]
 first
  | exact Ac (Ac (Mh ht.typeIs (Ad (by rw [iP (by decide)];exact Ac (Gj (Ad ⟨_,rfl,Ad h⟩))))))
  | (refine Ac (Ac (Mh ht.typeIs (Ad ?_)))
     rw [iP (by decide)]
     trace_state
     exact Ac (Gj (Ad ⟨_,rfl,Ad h⟩)))
end
end HT
namespace L2
section
def Inv.turnNew{fp:List Addr}{T:Addr}{o:HO}{h':Heap}{t':Nat}(I:Inv X pins Y H s)(k:∀b u,b∉fp->s.heap.get? b=some u->h'.get? b=some u)(hf:∀b∈fp,FpOk X pins H b)(hT:s.heap.objs.size<=T)(new:Ec X.p X.w (upd H T o) h' T o) :
  Inv X pins Y (upd H T o) { s with heap:=h',toks:=t' }:=by
 have d:=I.hok.fresh hT;have h:∀b u,H b=some u->b∉fp:=λb u e z=>by rw [(hf b z).1] at e;cases e
 refine I.call ⟨λb u q _ _ a=>k b u a q,λb u q _ _ a=>⟨u.slots,k b u a q⟩,λb u q n _=>?_,λb u q a=>⟨u,k b u a q⟩,λb g q=>?_,λb u g q=>?_,λb j q=>?_⟩ (λb u e=>?_) I.bare (λb f=>?_)
 .rw [Af (Am (Aw (BP q) hT))];exact n
 .rw [Af (BZ q d)];exact q
 .rw [Af (BZ q d)];exact q
 .exact ⟨#[],by rw [Af (BZ q d),q];simp⟩
 .by_cases f:b=T
  .subst f;rw [Ar] at e;lia
  .rw [Af f] at e;refine (I.hok b u e).stay (λc v r q=>k c v ?_ q) (λc q=>by rw [Af (BZ q d)];exact q) λc g q=>by rw [Af (BZ q d)];exact q
   grind
 .obtain ⟨_,m,_,p,l,i⟩:=hf b f
  ext
def Inv.turnedL{fp:List Addr}{h':Heap}{t':Nat}(I:Inv X pins Y H s)(k:∀b u,b∉fp->s.heap.get? b=some u->h'.get? b=some u)(hf:∀b∈fp,FpOk X pins H b):Inv X pins Y H { s with heap:=h',toks:=t' }:=by
 have g:∀b u,H b=some u->b∉fp:=λb u e z=>by rw [(hf b z).1] at e;cases e
 refine I.call ⟨λb u q _ _ a=>k b u a q,λb u q _ _ a=>⟨u.slots,k b u a q⟩,λb u q n _=>n,λb u q a=>⟨u,k b u a q⟩,λb d q=>q,λb u d q=>q,λb i q=>⟨#[],by ext⟩⟩ (λb u e=>?_) I.bare (λb f=>?_)
 .refine (I.hok b u e).stay (λc v o q=>k c v ?_ q) (λc q=>q) λc d q=>q
  grind
 .obtain ⟨_,l,_,m,j,h⟩:=hf b f
  ext
end
def Ite(K:W1)(a:Addr):It :=
 ⟨λi H=>∃b x,SqL K H a b/\b[i]?=some x,λi H x c=>∃T p,H T=none/\x=.ref T/\c=upd H T (.tup [.int i,p])/\∀b,SqL K H a b->b[i]?=some p,λi H=>∃b,SqL K H a b/\b.length<=i⟩
def wF{elts:List Expr}{x1:Nat}{a e it:Addr}(hei:e≠it):Turn P w K (.Tuple elts x1 pos) (Ite K a) [e,it] e (λi h=>(∃old,IsEnum h e it (i:Nat) old)/\h.IsListIter it a i) where
 mem:=by simp
 obj:=λi h f b m=>by
  obtain ⟨⟨old,r⟩,o,ho,c,d⟩:=f
  grind
 keep:=λi h h' f k=>⟨⟨f.1.choose,k e (by simp) _ f.1.choose_spec⟩,f.2.at λo q=>k it (by simp) o q⟩
 item:=by
  intro X M D R V i l s Y H E I A f O;subst M D R;obtain ⟨⟨old,r⟩,j⟩:=f;obtain ⟨xs,x,y,L⟩:=O;obtain ⟨Q,T,p,hz⟩:=I.list y;obtain ⟨u,hu,ru⟩:=T.get L;refine wpAny_pyNext_enum_item r j p.isList (by simpa using hu) hei λh1 B t G hz1 N=>⟨_,rfl,?_⟩;refine wpAny_letOwnedTupleGo_enum B λW U J=>?_;have C:∀{c:Addr} {n:Obj},s.heap.get? c=some n->c≠s.heap.objs.size:=λq=>Am (BP q);have Z:=C r;have iT:it≠s.heap.objs.size:=by obtain ⟨_,q,_⟩:=id j;grind
  have g:=J;have hT:=I.hok.fresh (Ae _);have I2:Inv X l Y (upd H s.heap.objs.size (.tup [.int i,x])) { s with heap:=W,toks:=s.toks+1 }:=by
   refine I.turnNew (λb n m q=>?_) A (Ae _) ?_
   .have v:b≠e:=λz=>m (by simp [z]);have F:b≠it:=λz=>m (by simp [z]);exact g.extBut b n v (N b n v F q)
   .have S:(2:Nat)<=sizeLine:=by decide
    exact ⟨S,[.int i s.toks,u],.cons ⟨_,rfl⟩ (.cons ru .nil),⟨_,g.extBut _ _ (Ne.symm Z) G,rfl,_,rfl⟩⟩
  refine ⟨.ref s.heap.objs.size,_,I2,rfl,⟨_,x,hT,rfl,rfl,λys hy=>by rw [I.list_inj hy y];exact L⟩,⟨⟨_,U⟩,t.extBut g.extBut (Ne.symm hei)⟩,λb m=>?_⟩;have nb:b≠s.heap.objs.size:=by
   grind
  rw [Af nb];exact (A b m).1
 done:=by
  intro X M D R V i l s Y H E I A f O;subst M D R;obtain ⟨⟨old,r⟩,j⟩:=f;obtain ⟨xs,y,L⟩:=O;obtain ⟨Q,T,p,hz⟩:=I.list y;have hl:=T.length;refine wpAny_pyNext_enum_end (I.ok.hd V) r j p.isList (by grind) λh' eb=>⟨rfl,?_⟩;exact I.turnedL (λb n m q=>eb b n (λz=>m (by simp [z])) q) A
 self:=λ_ _ _ _ _ f h=>wpAny_pyIter_enum f.1.choose_spec h
def Z8(K:W1)(ta:TA):TI:=λY H R=>ta Y H λd b=>∃a,d=[.ref a]/\(∃c,SqL K b a c)/\R (Ite K a) b
def Zsk(hg:Gl X "enumerate")(hm:X.m "enumerate"=none)(ha:PA X [a] ta)(hs:starEach [a] X.v=[(false,eval a X.v)]:=by rfl):PI X (.Tuple elts x1 tpos) (.Call (.Name "enumerate" p) [a] [] pos) (Z8 X.K ta):=by
 intro c s Y H R I h;refine Call_ (Hl I hg hm t6 (Ip (thn (ha pos c s Y H _ I h) λA d zq=>?_) hs rfl));obtain ⟨B,m,g,n,x⟩:=zq;obtain ⟨l,e,⟨y,u⟩,q⟩:=x;subst e;cases n with
 | cons r rr=>
  cases rr;cases r;obtain ⟨v,D,o,E⟩:=g.list u;refine call_enumerate_list o.isList λC j i w t=>?_;have k:=g.kept (t':=d.toks) t;refine wpAny_pyIter_enum j ?_;refine ⟨d.heap.objs.size+1,[d.heap.objs.size+1,d.heap.objs.size],_,Ite X.K l,m,rfl,k,wF (Nat.succ_ne_self _),⟨⟨_,j⟩,i⟩,λb z=>?_,q⟩;have f:d.heap.objs.size<=b:=by
   grind
  exact g.fpOk f (g.hok.fresh f)
section
variable{prog:Program} {E:VS}
theorem YZ(hne:t≠it):∀n i s Q,s.heap.IsListIter it t i->s.heap.IsList t items->i+n<=items.size ->
  (∀h',h'.IsListIter it t (i+n)->Hb0 it s.heap h'->Q ((items.toList.drop i).take n) (sH0 s h'))->wP prog w A (draw (.ref it) n) Q E s
 | 0,i,s,Q,hit,_,_,hQ=>by
  exact Ad (by simpa using hQ s.heap hit (Heap.SameBut.refl ..))
 | n+1,i,s,Q,hit,ht,hle,hQ=>by
  have e:i<items.size:=by lia
  refine Ac (wpAny_pyNext_list_item hit ht (x:=items[i]) (by grind) λf b a=>?_);refine Ac (Cw (YZ hne n (i+1) _ _ b (ht.extBut a.extBut hne) (by lia) λd g c=>Ad ?_));have h:items.toList.drop i=items[i]::items.toList.drop (i+1):=by simp [J9,e]
  have:=hQ d (by lia) (a.trans c);simp_all
def vW(hh:A.handled=none)(ht:s.heap.IsList t items)(hQ:∀h',Heap.ExtBut s.heap.objs.size s.heap h'->Q items.toList (sH0 s h')):wP prog w A (unpackItems (.ref t) items.size none) Q E s:=by
 have g:t≠s.heap.objs.size:=by obtain ⟨o,l,_⟩:=ht;exact Am (BP l)
 unfold unpackItems;refine Ac ?_
 .unfold notIterableAtAll;refine Ac (wpAny_specialOf ht.typeIs F.slot_list_iter.lookup ?_);refine Ad ?_;simp only [DQ,Ca];refine Ac (Cw (QK ht ?_));refine Ac (Cw (YZ g items.size 0 _ _ ⟨_,CJ _ rfl,rfl,rfl⟩ (ht.push _) (by lia) λj c a=>?_));have h:List.take items.size (List.drop 0 items.toList)=items.toList:=by
   rw [NB];exact Hv (by simp)
  rw [h];rw [iN (by simp)];have f:=(ht.push _).extBut a.extBut g;refine Ac (Cw (wpAny_pyNext_list_end hh c f (by simp) λi d=>?_));simp only [Option.isSome_none,DQ,Ca];refine Ad (hQ i λb o k e=>d b o k (a.extBut b o k (Bj _ e)))
def ZeQ{x1}(hh:A.handled=none)(ht:s.heap.IsList t items)(hn:(assignEach elts env).length=items.size)(hstar:(assignEach elts env).findIdx? (·.1)=none)(h:∀h',Heap.ExtBut s.heap.objs.size s.heap h'->wP prog w A (assignInOrder ((assignEach elts env).map (·.2)) items.toList) Q E (sH0 s h')) :
  wP prog w A (assign (.Tuple elts x1 pos) env (.ref t)) Q E s:=by
 rw [assign_Tuple];refine Ac (Lr ?_);unfold unpack;rw [hn,hstar];exact Ac (Cw (vW hh ht h))
end
def ItK:Bool->Heap->Addr->Addr->Nat->Prop
 | false,h,a,l,i=>h.IsListIter a l i
 | true,h,a,l,i=>h.IsTupleIter a l i
def SqK:Bool->Heap->Addr->Array Value->Prop
 | false,h,a,xs=>h.IsList a xs
 | true,h,a,xs=>h.IsTuple a xs
noncomputable def Jh(p:Bool)(l:Addr):Obj:={ cls:=.type (if p then "tuple_iterator" else "list_iterator"),data:=.fields #[.ref l,.int 0 0] }
def ItK.extBut(x:ItK p h a l i)(hs:Heap.ExtBut b h h')(hab:a≠b):ItK p h' a l i:=by
 cases p
 .exact Heap.IsListIter.extBut x hs hab
 .exact Heap.IsTupleIter.extBut x hs hab
def ItK.at(x:ItK p h a l i)(k:∀o,h.get? a=some o->h'.get? a=some o):ItK p h' a l i:=by
 cases p
 .obtain ⟨o,e,r⟩:=(show h.IsListIter a l i from x);exact ⟨o,k o e,r⟩
 .obtain ⟨o,e,r⟩:=(show h.IsTupleIter a l i from x);exact ⟨o,k o e,r⟩
def ItK.flds(x:ItK p h a l i):∃o vs,h.get? a=some o/\o.data=.fields vs:=by
 cases p
 .obtain ⟨o,e,_,d⟩:=(show h.IsListIter a l i from x);exact ⟨o,_,e,d⟩
 .obtain ⟨o,e,_,d⟩:=(show h.IsTupleIter a l i from x);exact ⟨o,_,e,d⟩
def ItK.new(e:h.get? a=some (Jh p l)):ItK p h a l 0:=by
 cases p
 .exact ⟨_,e,rfl,rfl⟩
 .exact ⟨_,e,rfl,rfl⟩
def SqK.extBut{xs:Array Value}(x:SqK p h a xs)(hs:Heap.ExtBut b h h')(hab:a≠b):SqK p h' a xs:=by
 cases p
 .exact Heap.IsList.extBut x hs hab
 .exact Heap.IsTuple.extBut x hs hab
def SqK.push{xs:Array Value}(x:SqK p h a xs)(o):SqK p (h.push o) a xs:=by
 cases p
 .exact Heap.IsList.push x o
 .exact Heap.IsTuple.push x o
section
variable{prog:Program} {E:VS}
def Uw{xs:Array Value}(x:SqK p s.heap l xs)(h:Q (.ref s.heap.objs.size) (sH0 s (s.heap.push (Jh p l)))):wP prog w A (pyIter (.ref l)) Q E s:=by
 cases p
 .exact QK x h
 .exact wpAny_pyIter_tuple x h
def Zlh{zs}{x:Value}(ki:s.heap.IsTupleIter ia la i)(kl:s.heap.IsTuple la zs)(kx:zs[i]?=some x)(kQ:∀h',h'.IsTupleIter ia la (i+1)->Hb0 ia s.heap h'->Q x (sH0 s h')) :
  wP prog w A (Builtin.SmallTypes.nextOf (.ref ia)) Q E s:=by
 obtain ⟨g,b,e,a⟩:=id ki;obtain ⟨f,c,_,h,d⟩:=kl;unfold Builtin.SmallTypes.nextOf
 refine Ac (Nz (name:=Str.ofString "__next__") ki.typeIs Sw
  (Kd Sw ki.typeIs F.entry_tuple_iterator_next ?_ (F.args_tuple_iterator_next_1 _)))
 show wpAny _ _ (field (.ref ia) 0 >>= _) _ _ s;refine Ac (Gk b a (x:=.ref la) rfl ?_);show wpAny _ _ (if (Value.ref la==Value.none)=true then _ else _) _ _ s
 rw [iN (show ¬((Value.ref la==Value.none)=true) from GC)];show wpAny _ _ (field (.ref ia) 1 >>= _) _ _ s;refine Ac (Gk b a (x:=.int i 0) rfl ?_);show wpAny _ _ (seqItems? (.ref la) >>= _) _ _ s;refine Ac (Hm c d ?_);simp only [Ei,kx];refine Ac (wpAny_setField b a (by simp) (Ad ⟨x,rfl,Ad (kQ _ ?_ (TQ ..))⟩))
 exact ⟨_,MN _ b (Obj.isFreed_of_fields (Obj.data_mapFields a _)),(Obj.cls_mapFields ..).trans e,by
  rw [Obj.data_mapFields a];simp [rawInt]⟩
def Znu{zs}(kh:A.handled=none)(ki:s.heap.IsTupleIter ia la i)(kl:s.heap.IsTuple la zs)(kx:zs[i]?=none)(kE:∀h' e,Heap.ExtBut ia s.heap h'->(∃ob,h'.get? e=some ob/\ob.cls=.type "StopIteration")->E (.ref e) (sH0 s h')) :
  wP prog w A (Builtin.SmallTypes.nextOf (.ref ia)) Q E s:=by
 obtain ⟨ob,d,g,f⟩:=id ki;obtain ⟨h,b,_,j,c⟩:=kl;unfold Builtin.SmallTypes.nextOf
 refine Ac (Nz (name:=Str.ofString "__next__") ki.typeIs Sw
  (Kd Sw ki.typeIs F.entry_tuple_iterator_next ?_ (F.args_tuple_iterator_next_1 _)))
 show wpAny _ _ (field (.ref ia) 0 >>= _) _ _ s;refine Ac (Gk d f (x:=.ref la) rfl ?_);show wpAny _ _ (if (Value.ref la==Value.none)=true then _ else _) _ _ s
 rw [iN (show ¬((Value.ref la==Value.none)=true) from GC)];show wpAny _ _ (field (.ref ia) 1 >>= _) _ _ s;refine Ac (Gk d f (x:=.int i 0) rfl ?_);show wpAny _ _ (seqItems? (.ref la) >>= _) _ _ s;refine Ac (Hm b c ?_);simp only [Ei,kx];refine Ac (Gj (Ac (wpAny_setField d f (by simp) ?_)));show wpAny _ _ (newExc (.type "StopIteration") [] >>= _) _ _ _;refine Ac ?_;simp only [newExc,newTuple];refine Ac (KR ?_ (by size_fits));refine Ac (m:=firstArgMember _ _) (wpAny_of_eq (a:=Value.none) (by first | rfl | (simp only [firstArgMember];rfl)) ?_)
 refine KR ?_ (by size_fits);simp only [raiseNew];refine Ac (wpAny_handled ?_)
 first | rw [show A.in1.handled=none from kh] | rw [kh]
 refine Ac (Ad (wpAny_throw ?_));exact kE _ _ (((TQ ..).extBut.push _).push _) ⟨_,CJ _ rfl,rfl⟩
def Ln{x:Value}(ki:ItK p s.heap ia la i)(kl:SqK p s.heap la zs)(kx:zs[i]?=some x)(kQ:∀h',ItK p h' ia la (i+1)->Hb0 ia s.heap h'->Q x (sH0 s h')):wP prog w A (Builtin.SmallTypes.nextOf (.ref ia)) Q E s:=by
 cases p
 .exact wpAny_nextOf_list_item ki kl kx kQ
 .exact Zlh ki kl kx kQ
def Ld(kh:A.handled=none)(ki:ItK p s.heap ia la i)(kl:SqK p s.heap la zs)(kx:zs[i]?=none)(kE:∀h' e,Heap.ExtBut ia s.heap h'->(∃o,h'.get? e=some o/\o.cls=.type "StopIteration")->E (.ref e) (sH0 s h')):wP prog w A (Builtin.SmallTypes.nextOf (.ref ia)) Q E s:=by
 cases p
 .exact wpAny_nextOf_list_end kh ki kl kx kE
 .exact Znu kh ki kl kx kE
end
def SqB(K:W1):Bool->Hp->Addr->List V->Prop
 | false,H,a,xs=>SqL K H a xs
 | true,H,a,xs=>SqT K H a xs
def SqK.here{xs:Array Value}(x:SqK p h a xs):∃o,h.get? a=some o:=by
 cases p
 .obtain ⟨o,e,_⟩:=(show h.IsList a xs from x);simp_all
 .obtain ⟨o,e,_⟩:=(show h.IsTuple a xs from x);simp_all
def Inv.seqB(I:Inv X pins Y H s)(h:SqB X.K p H a xs):∃its,Vals xs its/\SqK p s.heap a its.toArray/\xs.length<=sizeLine:=by
 cases p
 .obtain ⟨its,c,b,d⟩:=I.list h;exact ⟨its,c,b.isList,d⟩
 .obtain ⟨its,c,b,d⟩:=I.tuple h;exact ⟨its,c,b,d⟩
end L2
namespace Dl
inductive D where
 | non | bl (b:Bool) | int (i:Int) | str (x:Str) | ty (n:String) | cls (c:Str)
 | tup (xs:List D) | lst (xs:List D) | exc (c:Str) | ins (c:Str) (ns:List Str) (vs:List D)
noncomputable def pay(c:Str):Option Nat:=match c.cps.toList with
 | k::_=>if 0x110000<=k then some (k - 0x110000) else none
 | []=>none
def clsOf(c:Str):Str:=match c.cps.toList with
 | k::r=>if 0x110000<=k then ⟨r.toArray⟩ else c
 | []=>c
inductive Res(α:Type) where
 | ok (a:α) | bad
noncomputable def Res.bind:Res α->(α->Res β)->Res β
 | .ok a,f=>f a
 | .bad,_=>.bad
def H7(a:α)(f:α->Res β):(Res.ok a).bind f=f a:=rfl
inductive Cl where
 | no | im (d:D) | ow (ds:List D)
abbrev Ev:=List Cl
abbrev ME:=Ev->Res D
abbrev MB:=Ev->Res Bool
abbrev MA:=Ev->Res (List D)
noncomputable def getC:Option Cl->Res D
 | some (.im d)=>.ok d
 | _=>.bad
def v(i:Nat):ME:=λZ=>getC Z[i]?
def c(d:D):ME:=λ_=>.ok d
abbrev cI(i:Int):ME:=c (.int i)
def o1(f:D->Res D)(a:ME):ME:=λZ=>(a Z).bind f
def o2(f:D->D->Res D)(a b:ME):ME:=λZ=>(a Z).bind λx=>(b Z).bind λy=>f x y
def Ab:MA:=λ_=>.ok []
def Aa(a:ME)(r:MA):MA:=λZ=>(a Z).bind λx=>(r Z).bind λb=>.ok (x::b)
def on(f:List D->Res D)(a:MA):ME:=λZ=>(a Z).bind f
def mtp(a:MA):ME:=λZ=>(a Z).bind λb=>.ok (.tup b)
def mls(a:MA):ME:=λZ=>(a Z).bind λb=>.ok (.lst b)
noncomputable def tru:D->Res Bool
 | .bl b=>.ok b
 | _=>.bad
def trb(a:ME):MB:=λZ=>(a Z).bind tru
def bAnd(a b:MB):MB:=λZ=>(a Z).bind λx=>if x=true then b Z else .ok false
def bOr(a b:MB):MB:=λZ=>(a Z).bind λx=>if x=true then .ok true else b Z
def bNot(a:MB):MB:=λZ=>(a Z).bind λx=>.ok (!x)
def eAnd(a b:ME):ME:=λZ=>(trb a Z).bind λx=>if x=true then b Z else .ok (.bl false)
def eNot(a:ME):ME:=λZ=>(trb a Z).bind λx=>.ok (.bl (!x))
def ife(t:MB)(a b:ME):ME:=λZ=>(t Z).bind λx=>if x=true then a Z else b Z
noncomputable def Bp(a b:Int):Bool:=decide (a.natAbs<2^64)||decide (b.natAbs<2^64)||decide (a.natAbs.log2+b.natAbs.log2<100000000)
noncomputable def LIM:Nat:=1000000
def An:D->D->Res D
 | .int a,.int b=>.ok (.int (a+b))
 | .lst a,.lst b=>if a.length+b.length<=LIM then .ok (.lst (a++b)) else .bad
 | .tup a,.tup b=>if a.length+b.length<=LIM then .ok (.tup (a++b)) else .bad
 | .str a,.str b=>if a.length+b.length<=LIM then .ok (.str (a++b)) else .bad
 | _,_=>.bad
noncomputable def ii(f:Int->Int->Res D):D->D->Res D
 | .int a,.int b=>f a b
 | _,_=>.bad
def iSub(a b:Int):Res D:=.ok (.int (a - b))
def iMul(a b:Int):Res D:=if Bp a b=true then .ok (.int (a*b)) else .bad
def iMod(a b:Int):Res D:=if 0<b then .ok (.int (a%b)) else if b=0 then .bad else .ok (.int (a.fmod b))
noncomputable def iDiv(a b:Int):Res D:=if b.natAbs.log2<9000 then (if 0<b then .ok (.int (a/b)) else if b=0 then .bad else .ok (.int (a.fdiv b))) else .bad
noncomputable def iPow(a b:Int):Res D:=if 0<=b/\b<=1000000/\a.natAbs<2^64 then .ok (.int (a^b.toNat)) else .bad
noncomputable def iShl(a b:Int):Res D:=if 0<=b/\b<=1000000/\a.natAbs<2^64 then .ok (.int (a*2^b.toNat)) else .bad
def iShr(a b:Int):Res D:=if 0<=b then .ok (.int (a/2^b.toNat)) else .bad
def iLt(a b:Int):Res D:=.ok (.bl (decide (a<b)))
def iLe(a b:Int):Res D:=.ok (.bl (decide (a<=b)))
def iGt(a b:Int):Res D:=.ok (.bl (decide (b<a)))
def iGe(a b:Int):Res D:=.ok (.bl (decide (b<=a)))
abbrev dSub:=ii iSub
abbrev BK:=ii iMul
abbrev Aq:=ii iMod
abbrev Az:=ii iDiv
abbrev dPow:=ii iPow
abbrev dShl:=ii iShl
abbrev dShr:=ii iShr
abbrev dLt:=ii iLt
abbrev dLe:=ii iLe
abbrev dGt:=ii iGt
abbrev dGe:=ii iGe
noncomputable def dNeg:D->Res D
 | .int a=>.ok (.int (-a))
 | _=>.bad
mutual
def eqD:D->D->Bool
 | .non,.non=>true
 | .bl a,.bl b=>a==b
 | .bl a,.int j=>(if a then 1 else 0)==j
 | .int i,.bl b=>i==(if b then 1 else 0)
 | .int i,.int j=>i==j
 | .str x,.str y=>x==y
 | .lst xs,.lst ys=>eqDs xs ys
 | .tup xs,.tup ys=>eqDs xs ys
 | _,_=>false
def eqDs:List D->List D->Bool
 | [],[]=>true
 | x::xs,y::ys=>eqD x y&&eqDs xs ys
 | _,_=>false
end
mutual
def plain:Nat->D->Bool
 | _,.non=>true
 | _,.bl _=>true
 | _,.int _=>true
 | _,.str x=>x.cps.all (·<0x110000)
 | k+1,.tup xs=>Bb k xs
 | k+1,.lst xs=>Bb k xs
 | _,_=>false
def Bb:Nat->List D->Bool
 | _,[]=>true
 | k,x::xs=>plain k x&&Bb k xs
end
def dEq(x y:D):Res D:=if plain 50 x&&plain 50 y then .ok (.bl (eqD x y)) else .bad
def dNe(x y:D):Res D:=if plain 50 x&&plain 50 y then .ok (.bl (!eqD x y)) else .bad
def inD(x:D)(ys:List D):Bool:=ys.any λy=>eqD y x
noncomputable def seqD:D->Res (List D)
 | .lst ys=>.ok ys
 | .tup ys=>.ok ys
 | _=>.bad
def dIn(x y:D):Res D:=(seqD y).bind λa=>if plain 50 x&&Bb 50 a then .ok (.bl (inD x a)) else .bad
def dNin(x y:D):Res D:=(seqD y).bind λa=>if plain 50 x&&Bb 50 a then .ok (.bl (!inD x a)) else .bad
noncomputable def JP:D->Bool
 | .non=>true
 | _=>false
def dIsN(x:D):Res D:=.ok (.bl (JP x))
def Ih(x:D):Res D:=.ok (.bl (!JP x))
noncomputable def at_(xs:List α)(i:Int):Option α:=if 0<=i then xs[i.toNat]? else if -(xs.length:Int)<=i then xs[(i+xs.length).toNat]? else none
noncomputable def ofO:Option α->Res α
 | some a=>.ok a
 | none=>.bad
def dIx:D->D->Res D
 | .lst xs,.int i=>ofO (at_ xs i)
 | .tup xs,.int i=>ofO (at_ xs i)
 | _,_=>.bad
def cutAt(n d:Nat):Option Int->Nat
 | none=>d
 | some i=>if i<0 then (i+n).toNat else min i.toNat n
def cutL(xs:List D)(lo hi:Option Int):List D:=(xs.drop (cutAt xs.length 0 lo)).take (cutAt xs.length xs.length hi - cutAt xs.length 0 lo)
def dCut(x:D)(lo hi:Option Int):Res D:=match x with
 | .lst xs=>.ok (.lst (cutL xs lo hi))
 | .tup xs=>.ok (.tup (cutL xs lo hi))
 | _=>.bad
def pno:Ev->Res (Option Int):=λ_=>.ok none
def optI:D->Res (Option Int)
 | .int i=>.ok (some i)
 | _=>.bad
def pso(a:ME):Ev->Res (Option Int):=λZ=>(a Z).bind optI
def cut(a:ME)(lo hi:Ev->Res (Option Int)):ME:=λZ=>(a Z).bind λx=>(lo Z).bind λl=>(hi Z).bind λh=>dCut x l h
noncomputable def bLen:List D->Res D
 | [.lst xs]=>.ok (.int xs.length)
 | [.tup xs]=>.ok (.int xs.length)
 | _=>.bad
noncomputable def bAbs:List D->Res D
 | [.int i]=>.ok (.int (if i<0 then -i else i))
 | _=>.bad
noncomputable def bMin:List D->Res D
 | [.int i,.int j]=>.ok (.int (if j<i then j else i))
 | _=>.bad
noncomputable def bInt:List D->Res D
 | [.int i]=>.ok (.int i)
 | [.bl k]=>.ok (.int (if k then 1 else 0))
 | _=>.bad
def bTup:List D->Res D
 | [.lst xs]=>.ok (.tup xs)
 | [.tup xs]=>.ok (.tup xs)
 | _=>.bad
def bLst:List D->Res D
 | [.lst xs]=>.ok (.lst xs)
 | [.tup xs]=>.ok (.lst xs)
 | _=>.bad
noncomputable def T9:D->Option String
 | .non=>some "NoneType"
 | .bl _=>some "bool"
 | .int _=>some "int"
 | .str _=>some "str"
 | .tup _=>some "tuple"
 | .lst _=>some "list"
 | _=>none
def isTy(t n:String):Bool:=t==n||(t == "bool"&&n == "int")
def Qs:List String:=["int","bool","str","tuple","list","dict"]
def bIsi:List D->Res D
 | [x,.ty n]=>if Qs.contains n=true then (ofO (T9 x)).bind λt=>.ok (.bl (isTy t n)) else .bad
 | _=>.bad
def bools:List D->Res (List Bool)
 | []=>.ok []
 | d::r=>match d with
  | .bl b=>(bools r).bind λa=>.ok (b::a)
  | _=>.bad
def bAll:List D->Res D
 | [d]=>match d with
  | .lst xs=>(bools xs).bind λa=>.ok (.bl (a.all id))
  | _=>.bad
 | _=>.bad
def Ia:List D->Res (List Int)
 | []=>.ok []
 | d::r=>match d with
  | .int n=>(Ia r).bind λa=>.ok (n::a)
  | _=>.bad
abbrev MI:=Ev->Res (List D)
def items:D->Res (List D)
 | .lst xs=>.ok xs
 | .tup xs=>.ok xs
 | _=>.bad
def iv(a:ME):MI:=λZ=>(a Z).bind items
noncomputable def numbered:Nat->List D->List D
 | _,[]=>[]
 | k,x::xs=>.tup [.int k,x]::numbered (k+1) xs
def Uj:List D->Res (List D)
 | [x]=>match x with
  | .lst xs=>.ok (numbered 0 xs)
  | _=>.bad
 | _=>.bad
def Ks(a:MA):MI:=λZ=>(a Z).bind Uj
noncomputable def Ci(lo:Int)(n:Nat):List D:=(List.range n).map λ(k:Nat)=>D.int (lo+(k:Int))
def rng1:List D->Res (List D)
 | [.int j]=>if -1000000000<=j/\j<=1000000000 then .ok (Ci 0 j.toNat) else .bad
 | _=>.bad
def r1(a:MA):MI:=λZ=>(a Z).bind rng1
def rng2:List D->Res (List D)
 | [.int i,.int j]=>if (-1000000000<=i/\i<=1000000000)/\(-1000000000<=j/\j<=1000000000) then .ok (Ci i (j - i).toNat) else .bad
 | _=>.bad
def r2(a:MA):MI:=λZ=>(a Z).bind rng2
abbrev MG:=D->Ev->Res Ev
abbrev MGs:=List D->Ev->Res Ev
def gN(i:Nat):MG:=λd Z=>.ok (Z.set i (.im d))
def gs0:MGs:=λa Z=>match a with
 | []=>.ok Z
 | _=>.bad
def gs1(g:MG)(r:MGs):MGs:=λa Z=>match a with
 | d::a=>(g d Z).bind λb=>r a b
 | []=>.bad
def gU(n:Nat)(g:MGs):MG:=λd Z=>(items d).bind λa=>if a.length=n then g a Z else .bad
def imOf:Option Cl->Cl
 | some (.im d)=>.im d
 | _=>.no
def Br(Z:Ev):List Nat->Ev
 | []=>[]
 | j::r=>imOf Z[j]?::Br Z r
noncomputable def noA:Nat->Ev->Ev
 | 0,e=>e
 | k+1,e=>.no::noA k e
def Bg(g:MG)(t:MB)(e:ME)(Z0:Ev):List D->Res (List D)
 | []=>.ok []
 | x::r=>(g x Z0).bind λa=>(t a).bind λb=>if b=true then (e a).bind λy=>(Bg g t e Z0 r).bind λc=>.ok (y::c) else Bg g t e Z0 r
def yes:MB:=λ_=>.ok true
def noEx:Res α->Res α
 | r=>r
def comp(it:MI)(own:Nat)(cap:List Nat)(g:MG)(t:MB)(e:ME):ME:=λZ=>(it Z).bind λa=>
 if a.length<=LIM then (noEx (Bg g t e (noA own (Br Z cap)) a)).bind λb=>.ok (.lst b) else .bad
inductive Fl where
 | nx (Z:Ev) | rt (d:D) | bk (Z:Ev) | ct (Z:Ev)
abbrev MS:=Ev->Res Fl
def nop:MS:=λZ=>.ok (.nx Z)
def goOn(b:MS):Fl->Res Fl
 | .nx Z=>b Z
 | f=>.ok f
def sq(a b:MS):MS:=λZ=>(a Z).bind (goOn b)
def st(i:Nat)(e:ME):MS:=λZ=>(e Z).bind λd=>.ok (.nx (Z.set i (.im d)))
def lstO:D->Res (List D)
 | .lst xs=>.ok xs
 | _=>.bad
def stO(i:Nat)(e:ME):MS:=λZ=>(e Z).bind λd=>(lstO d).bind λa=>.ok (.nx (Z.set i (.ow a)))
def getO:Option Cl->Res (List D)
 | some (.ow xs)=>.ok xs
 | _=>.bad
def frz(i:Nat)(m:MS):MS:=λZ=>(getO Z[i]?).bind λa=>m (Z.set i (.im (.lst a)))
def app(i:Nat)(e:ME):MS:=λZ=>(getO Z[i]?).bind λa=>(e Z).bind λd=>if a.length<LIM then .ok (.nx (Z.set i (.ow (a++[d])))) else .bad
def asg(g:MG)(e:ME):MS:=λZ=>(e Z).bind λd=>(g d Z).bind λa=>.ok (.nx a)
def drp(e:ME):MS:=λZ=>(e Z).bind λ_=>.ok (.nx Z)
def ret(e:ME):MS:=λZ=>(e Z).bind λd=>.ok (.rt d)
def ifs(t:MB)(a b:MS):MS:=λZ=>(t Z).bind λx=>if x=true then a Z else b Z
def cnt:MS:=λZ=>.ok (.ct Z)
def KH:D->Res D
 | .non=>.ok .non
 | .bl b=>.ok (.bl b)
 | .int i=>.ok (.int i)
 | .str x=>.ok (.str x)
 | _=>.bad
def pk(i:Nat)(m:ME):ME:=λZ=>(getO Z[i]?).bind λa=>(m (Z.set i (.im (.lst a)))).bind KH
def pkB(i:Nat)(m:MB):MB:=λZ=>(getO Z[i]?).bind λa=>m (Z.set i (.im (.lst a)))
def turn(k:MS):Fl->Res Fl
 | .nx Z=>k Z
 | .ct Z=>k Z
 | .bk Z=>.ok (.nx Z)
 | .rt d=>.ok (.rt d)
def CZ(g:MG)(b:MS):List D->MS
 | [],Z=>.ok (.nx Z)
 | x::r,Z=>(g x Z).bind λa=>(b a).bind (turn (CZ g b r))
def for_(it:MI)(g:MG)(b:MS):MS:=λZ=>(it Z).bind λa=>CZ g b a Z
def whGo(t:MB)(b:MS):Nat->MS
 | 0,_=>.bad
 | n+1,Z=>(t Z).bind λx=>if x=true then (b Z).bind (turn (whGo t b n)) else .ok (.nx Z)
noncomputable def absC:Cl->Nat
 | .im (.int i)=>i.natAbs
 | _=>0
def fuel(Z:Ev):Nat:=(Z.map absC).sum+1
def whl(n:Ev->Nat)(t:MB)(b:MS):MS:=λZ=>whGo t b (n Z) Z
def evF:List D->Nat->Ev
 | [],k=>noA k []
 | d::r,k=>.im d::evF r (k - 1)
def ev0(n:Nat)(ds:List D):Ev:=evF ds n
def Rb:∀k e,noA k e=List.replicate k .no++e
 | 0,_=>rfl
 | k+1,e=>by rw [noA,Rb k e,K9,List.cons_append]
def Xc(Z):∀cap,Br Z cap=cap.map λj=>imOf Z[j]?
 | []=>rfl
 | j::r=>by rw [Br,Xc Z r,Bk]
def Oe:∀ds n,ev0 n ds=ds.map .im++List.replicate (n - ds.length) .no
 | [],n=>by show noA n []=_;rw [Rb];simp
 | d::r,n=>by
  have ih:=Oe r (n - 1);show .im d::ev0 (n - 1) r=_
  grind
noncomputable def endOf:Fl->Res D
 | .rt d=>.ok d
 | .nx _=>.ok .non
 | _=>.bad
def fn(n:Nat)(b:MS)(ds:List D):Res D:=(b (ev0 n ds)).bind endOf
end Dl
variable{H' F0 H0 F':L2.Hp}{E:L2.XK}{Z:Dl.Ev}{ds:List Dl.D}{me:Dl.ME}{d:Dl.D}
namespace L2.Ds
open Dl
def XcO(H:Hp)(a:Addr)(cls:Value)(d:Addr)(p:Option Addr):Prop:=match p with
 | none=>H a=some (exO a cls)
 | some n=>H a=some (exC a cls d)/\H d=some (.xd [("at",.int (((n)/2:Nat):Int))])
def XcO.same{d:Addr}(h:XcO H a cls d p)(e:∀b o,H b=some o->(∀xs,o≠.lst xs)->H' b=some o):XcO H' a cls d p:=by
 cases p with
 | none=>exact e _ _ h λ_ z=>by cases z
 | some n=>exact ⟨e _ _ h.1 (λ_ z=>by cases z),e _ _ h.2 (λ_ z=>by cases z)⟩
mutual
inductive Rp(K:W1)(mg:MgT)(H:Hp):V->D->Prop
 | non:Rp K mg H .non .non
 | bl (b:Bool):Rp K mg H (.bl b) (.bl b)
 | int (i:Int):Rp K mg H (.int i) (.int i)
 | str (x:Str):Rp K mg H (.str x) (.str x)
 | ty (n:String):Rp K mg H (.ty n) (.ty n)
 | cls {c:Str} {C:Addr} (h:mg c=some (.ref C)):Rp K mg H (.ref C) (.cls c)
 | tup {a:Addr} {xs:List V} {ds:List D} (h:SqT K H a xs) (r:Rps K mg H xs ds):Rp K mg H (.ref a) (.tup ds)
 | lst {a:Addr} {xs:List V} {ds:List D} (h:SqL K H a xs) (r:Rps K mg H xs ds):Rp K mg H (.ref a) (.lst ds)
 | exc {c:Str} {C a d:Addr} (m:mg (clsOf c)=some (.ref C)) (h:XcO H a (.ref C) d (pay c)):Rp K mg H (.ref a) (.exc c)
 | ins {c:Str} {C a dx:Addr} {fs:List (Str×V)} {xs:List V} {vs:List D} (m:mg c=some (.ref C)) (h:H a=some (.ins C dx fs)) (o:H dx=some (.own a)) (e:fs.map (·.2)=xs) (r:Rps K mg H xs vs):Rp K mg H (.ref a) (.ins c (fs.map (·.1)) vs)
inductive Rps(K:W1)(mg:MgT)(H:Hp):List V->List D->Prop
 | nil:Rps K mg H [] []
 | cons {x:V} {xs:List V} {d:D} {ds:List D} (h:Rp K mg H x d) (r:Rps K mg H xs ds):Rps K mg H (x::xs) (d::ds)
end
section
def Eg(e:Same H H')(h:SqT K H a xs):SqT K H' a xs:=by
 rcases h with (h | ⟨o,h⟩) | h
 .exact .inl (.inl (e _ _ h))
 .exact .inl (.inr ⟨o,e _ _ h⟩)
 .exact .inr h
mutual
theorem Rp.same(e:Same H H'){x:V}{d:D}(h:Rp K mg H x d):Rp K mg H' x d:=by
 cases h with
 | non=>exact .non
 | bl b=>exact .bl b
 | int i=>exact .int i
 | str x=>exact .str x
 | ty n=>exact .ty n
 | cls h=>exact .cls h
 | tup h r=>exact .tup (Eg e h) (Rps.same e r)
 | lst h r=>exact .lst (e.seq h) (Rps.same e r)
 | exc m h=>exact .exc m (h.same λb o z _=>e b o z)
 | ins m h o q r=>exact .ins m (e _ _ h) (e _ _ o) q (Rps.same e r)
theorem Rps.same(e:Same H H'){xs:List V}{ds:List D}(h:Rps K mg H xs ds):Rps K mg H' xs ds:=by
 cases h with
 | nil=>exact .nil
 | cons h r=>exact .cons (Rp.same e h) (Rps.same e r)
end
noncomputable def scV:D->Option V
 | .non=>some .non
 | .bl b=>some (.bl b)
 | .int i=>some (.int i)
 | .str x=>some (.str x)
 | .ty n=>some (.ty n)
 | _=>none
def Rp.z{x v:V}{d:D}(h:Rp K mg H x d)(e:scV d=some v:=by rfl):x=v:=by
 cases h<;>first | exact CW e | cases e
def Rp.l{x:V}{ds:List D}(h:Rp K mg H x (.lst ds)):∃a xs,x=.ref a/\SqL K H a xs/\Rps K mg H xs ds:=by
 cases h with
 | lst h q=>exact ⟨_,_,rfl,h,q⟩
def Rp.t{x:V}{ds:List D}(h:Rp K mg H x (.tup ds)):∃a xs,x=.ref a/\SqT K H a xs/\Rps K mg H xs ds:=by
 cases h with
 | tup h q=>exact ⟨_,_,rfl,h,q⟩
def Rps.c{xs:List V}{d:D}{ds:List D}(h:Rps K mg H xs (d::ds)):∃x r,xs=x::r/\Rp K mg H x d/\Rps K mg H r ds:=by
 cases h with
 | cons h r=>exact ⟨_,_,rfl,h,r⟩
def Rps.length:∀{xs:List V} {ds:List D},Rps K mg H xs ds->xs.length=ds.length
 | _,_,.nil=>rfl
 | _,_,.cons _ r=>Ew (·+1) (Rps.length r)
def Rps.get:∀{xs:List V} {ds:List D} {i:Nat} {d:D},Rps K mg H xs ds->ds[i]?=some d->∃x,xs[i]?=some x/\Rp K mg H x d
 | _,_,_,_,.nil,e=>by simp at e
 | _,_,0,_,.cons h _,e=>by simp_all
 | _,_,i+1,_,.cons _ r,e=>by
  obtain ⟨x,a,b⟩:=Rps.get r (by ext);simp_all
def Rps.app{es:List D}(q:Rps K mg H ys es):∀{xs:List V} {ds:List D},Rps K mg H xs ds->Rps K mg H (xs++ys) (ds++es)
 | _,_,.nil=>q
 | _,_,.cons h r=>.cons h (Rps.app q r)
def Rps.drop:∀{xs:List V} {ds:List D} (n:Nat),Rps K mg H xs ds->Rps K mg H (xs.drop n) (ds.drop n)
 | _,_,0,r=>r
 | _,_,_+1,.nil=>.nil
 | _,_,n+1,.cons _ r=>Rps.drop n r
def Rps.take:∀{xs:List V} {ds:List D} (n:Nat),Rps K mg H xs ds->Rps K mg H (xs.take n) (ds.take n)
 | _,_,0,_=>.nil
 | _,_,_+1,.nil=>.nil
 | _,_,n+1,.cons h r=>.cons h (Rps.take n r)
def Rps.one{xs:List V}{d:D}(h:Rps K mg H xs [d]):∃x,xs=[x]/\Rp K mg H x d:=by
 cases h with | cons h r=>cases r;exact ⟨_,rfl,h⟩
def Rps.two{xs:List V}{d e:D}(h:Rps K mg H xs [d,e]):∃x y,xs=[x,y]/\Rp K mg H x d/\Rp K mg H y e:=by
 cases h with | cons h r=>obtain ⟨_,rfl,g⟩:=Rps.one r;exact ⟨_,_,rfl,h,g⟩
end
structure Gr(F H F' H':Hp):Prop where
 f:Same F F'
 s:Same F' H'
 o:∀a o,F a=none->H a=some o->F' a=none/\H' a=some o
 z:∀a o u,F' a=some (.frz o u)->F a=some (.frz o u)
def Gr.refl{F:Hp}(s:Same F H):Gr F H F H:=⟨Same.refl _,s,λ_ _ a b=>⟨a,b⟩,λ_ _ _ h=>h⟩
def Gr.trans{F:Hp}(g:Gr F H F1 H1)(h:Gr F1 H1 F2 H2):Gr F H F2 H2:=⟨g.f.trans h.f,h.s,λa o c b=>let ⟨q1,q2⟩:=g.o a o c b;h.o a o q1 q2,λa o u e=>g.z a o u (h.z a o u e)⟩
def oJ{F:Hp}(s:Same F H):Same (upd F p o) (upd H p o):=λb u e=>by
 by_cases hb:b=p
 .subst hb;rw [Ar] at e ⊢;exact e
 .rw [Af hb] at e ⊢;exact s b u e
def Ka{F:Hp}(nz:∀o' u,o≠.frz o' u)(e:upd F p o a=some (.frz o' u)):F a=some (.frz o' u):=by
 by_cases ne:a=p
 .subst ne;rw [Ar] at e;simp_all
 .rw [Af ne] at e;exact e
def Gr.new{F:Hp}(s:Same F H)(h:H p=none)(o)(nz:∀o' u,o≠.frz o' u:=by intro _ _ z;cases z):Gr F H (upd F p o) (upd H p o) :=
 ⟨Cp (s.free h) o,oJ s,λa u d c=>by
  have b:=BZ c h;rw [Af b,Af b];trivial,λa o' u e=>by
  by_cases b:a=p
  .subst b;rw [Ar] at e;simp_all
  .rw [Af b] at e;exact e⟩
structure Rep(K:W1)(mg:MgT)(F0 H0 F H:Hp)(Y:St)(Z:Ev):Prop where
 g:Gr F0 H0 F H
 len:Y.length=Z.length
 im:∀(i:Nat) (d:D),Z[i]?=some (.im d)->∃x,Y[i]?=some (some x)/\Rp K mg F x d
 ow:∀(i:Nat) (ds:List D),Z[i]?=some (.ow ds)->∃a xs,Y[i]?=some (some (.ref a))/\H0 a=none/\F a=none/\H a=some (.lst xs)/\Rps K mg F xs ds
 ne:∀(i j:Nat) (ds es:List D) (a:Addr),Z[i]?=some (.ow ds)->Z[j]?=some (.ow es)->Y[i]?=some (some (.ref a))->Y[j]?=some (some (.ref a))->i=j
section
variable {F:Hp}
def Rep.gr(r:Rep K mg F0 H0 F H Y Z)(g:Gr F H F' H'):Rep K mg F0 H0 F' H' Y Z:=by
 refine ⟨r.g.trans g,r.len,λi d e=>?_,λi h e=>?_,r.ne⟩
 .obtain ⟨x,c,b⟩:=r.im i d e;exact ⟨x,c,b.same g.f⟩
 .obtain ⟨a,k,c,b,n,j,l⟩:=r.ow i h e;obtain ⟨m,p⟩:=g.o a _ n j;exact ⟨a,k,c,b,m,p,l.same g.f⟩
def Bm{l:List α}{x:α}(h:(l.set i x)[j]?=some y):(i=j/\y=x/\i<l.length)\/(i≠j/\l[j]?=some y):=by
 grind
def QX{l:List α}{x:α}(h:i<l.length):(l.set i x)[i]?=some x:=by
 simp_all
def Eu{l:List α}{x:α}(h:i≠j):(l.set i x)[j]?=l[j]?:=by
 simp_all
def Rep.set{x:V}(r:Rep K mg F0 H0 F H Y Z)(i:Nat)(h:Rp K mg F x d):Rep K mg F0 H0 F H (Y.set i (some x)) (Z.set i (.im d)):=by
 refine ⟨r.g,by rw [Ga,Ga];exact r.len,λj e q=>?_,λj b q=>?_,λj k b o a c f n m=>?_⟩
 .rcases Bm q with ⟨rfl,z,l⟩ | ⟨hij,q⟩
  .cases z;exact ⟨x,QX (by rw [r.len];exact l),h⟩
  .rw [Eu hij];exact r.im j e q
 .rcases Bm q with ⟨_,z,_⟩ | ⟨hij,q⟩
  .cases z
  .rw [Eu hij];exact r.ow j b q
 .rcases Bm c with ⟨_,z,_⟩ | ⟨h1,c⟩
  .cases z
  .rcases Bm f with ⟨_,z,_⟩ | ⟨h2,f⟩
   .cases z
   .rw [Eu h1] at n;rw [Eu h2] at m;exact r.ne j k b o a c f n m
def Rep.own(r:Rep K mg F0 H0 F H Y Z)(i:Nat)(hn:H a=none)(h:Rps K mg F xs ds):Rep K mg F0 H0 F (upd H a (.lst xs)) (Y.set i (some (.ref a))) (Z.set i (.ow ds)):=by
 have y:=r.g.s.free hn;have v:H0 a=none:=by
  cases q:H0 a with
  | none=>rfl
  | some o=>
   cases c:F0 a with
   | none=>rw [(r.g.o a o c q).2] at hn;cases hn
   | some u=>rw [r.g.f a u c] at y;cases y
 have x:∀{j:Nat} {d:List D} {b:Addr},Z[j]?=some (.ow d)->Y[j]?=some (some (.ref b))->b≠a:=λ{j d b} p c=>by
  obtain ⟨M,C,m,_,_,A,_⟩:=r.ow j d p;rw [c] at m;cases m;exact BZ A hn
 refine ⟨⟨r.g.f,λb o e=>?_,λb o G B=>?_,r.g.z⟩,by rw [Ga,Ga];exact r.len,λj e q=>?_,λj d q=>?_,λj k d J b p c t n=>?_⟩
 .rw [Af (BZ e y)];exact r.g.s b o e
 .rw [Af (BZ B v)];exact r.g.o b o G B
 .rcases Bm q with ⟨_,z,_⟩ | ⟨hij,q⟩
  .cases z
  .rw [Eu hij];exact r.im j e q
 .rcases Bm q with ⟨rfl,z,l⟩ | ⟨hij,q⟩
  .cases z;exact ⟨a,xs,QX (by rw [r.len];exact l),v,y,Ar,h⟩
  .rw [Eu hij];obtain ⟨b,I,m,w,E,A,L⟩:=r.ow j d q;exact ⟨b,I,m,w,E,by rw [Af (BZ A hn)];exact A,L⟩
 .rcases Bm p with ⟨rfl,_,l1⟩ | ⟨m,p⟩
  .rcases Bm c with ⟨rfl,_,_⟩ | ⟨w,c⟩
   .rfl
   .rw [QX (by rw [r.len];exact l1)] at t;rw [Eu w] at n;cases t;exact aB rfl (x c n)
  .rcases Bm c with ⟨rfl,_,l2⟩ | ⟨w,c⟩
   .rw [QX (by rw [r.len];exact l2)] at n;rw [Eu m] at t;cases n;exact aB rfl (x p t)
   .rw [Eu m] at t;rw [Eu w] at n;exact r.ne j k d J b p c t n
def Rep.app{x:V}(r:Rep K mg F0 H0 F H Y Z)(e:Z[i]?=some (.ow ds))(e2:Y[i]?=some (some (.ref a)))(e3:H a=some (.lst xs))(e4:H0 a=none)(e5:F a=none)(hr:Rps K mg F xs ds)(h:Rp K mg F x d) :
  Rep K mg F0 H0 F (upd H a (.lst (xs++[x]))) Y (Z.set i (.ow (ds++[d]))):=by
 refine ⟨⟨r.g.f,λb o q=>?_,λb o v p=>?_,r.g.z⟩,by rw [Ga];exact r.len,λj u q=>?_,λj m q=>?_,λj k m J b v p I y=>?_⟩
 .rw [Af (BZ q e5)];exact r.g.s b o q
 .rw [Af (BZ p e4)];exact r.g.o b o v p
 .rcases Bm q with ⟨_,z,_⟩ | ⟨_,q⟩
  .cases z
  .exact r.im j u q
 .rcases Bm q with ⟨rfl,z,l⟩ | ⟨hij,q⟩
  .cases z;exact ⟨a,_,e2,e4,e5,Ar,Rps.app (.cons h .nil) hr⟩
  .obtain ⟨b,D,w,A,B,E,G⟩:=r.ow j m q;have C:b≠a:=by
    rintro rfl;exact hij (r.ne i j ds m b e q e2 w)
   exact ⟨b,D,w,A,B,by rw [Af C];exact E,G⟩
 .have t:∃c,Z[j]?=some (.ow c):=by
   grind
  have n:∃c,Z[k]?=some (.ow c):=by
   grind
  obtain ⟨_,t⟩:=t;obtain ⟨_,n⟩:=n;exact r.ne j k _ _ b t n I y
def Rep.frz{i:Nat}{ds:List D}(r:Rep K mg F0 H0 F H Y Z)(e:Z[i]?=some (.ow ds)):∃F',Same F F'/\Rep K mg F0 H0 F' H Y (Z.set i (.im (.lst ds))):=by
 obtain ⟨a,p,t,I,v,M,y⟩:=r.ow i ds e;have d:Same F (upd F a (.lst p)):=Cp v _;refine ⟨upd F a (.lst p),d,⟨r.g.f.trans d,λb o q=>?_,λb o h c=>?_,λb o u q=>r.g.z b o u (Ka (λ_ _ z=>by cases z) q)⟩,by rw [Ga];exact r.len,λj u q=>?_,λj l q=>?_,λj k l E b h c L w=>?_⟩
 .by_cases hb:b=a
  .subst hb;rw [Ar] at q;lia
  .rw [Af hb] at q;exact r.g.s b o q
 .rw [Af (BZ c I)];exact r.g.o b o h c
 .rcases Bm q with ⟨rfl,z,_⟩ | ⟨_,q⟩
  .cases z;exact ⟨.ref a,t,.lst (SqL.of Ar) (y.same d)⟩
  .obtain ⟨x,m,n⟩:=r.im j u q;exact ⟨x,m,n.same d⟩
 .rcases Bm q with ⟨_,z,_⟩ | ⟨hij,q⟩
  .cases z
  .obtain ⟨b,C,m,n,A,G,J⟩:=r.ow j l q;have B:b≠a:=by
    rintro rfl;exact hij (r.ne i j ds l b e q t m)
   exact ⟨b,C,m,n,by rw [Af B];exact A,G,J.same d⟩
 .rcases Bm h with ⟨_,z,_⟩ | ⟨_,h⟩
  .cases z
  .rcases Bm c with ⟨_,z,_⟩ | ⟨_,c⟩
   .cases z
   .exact r.ne j k l E b h c L w
end
def Ans(mg:MgT)(E:XK)(R:Hp->β->α->Prop)(F H:Hp)(r:Res α)(w:(β->Hp->Prop)->Prop):Prop :=
 match r with
 | .ok a=>∀Q,(∀d c b,Gr F H d c->R d b a->Q b c)->w Q
 | .bad=>True
section
variable{α β γ δ:Type} {R:Hp->β->α->Prop} {R':Hp->δ->γ->Prop} {F:Hp}
def Ans.ret{w:(β->Hp->Prop)->Prop}(s:Same F H)(r:R F b a)(h:∀Q,Q b H->w Q):Ans mg E R F H (.ok a) w:=λQ q=>h Q (q F H b (.refl s) r)
def Ans.bindE{r:Res α}{w:(β->Hp->Prop)->Prop}{k:α->Res γ}{w':β->Hp->(δ->Hp->Prop)->Prop}(h1:Ans mg E R F H r w)(h2:∀a,r=.ok a->∀F1 H1 b,Gr F H F1 H1->R F1 b a->Ans mg E R' F1 H1 (k a) (w' b H1)) :
  Ans mg E R' F H (r.bind k) (λQ=>w λb H1=>w' b H1 Q):=by
 cases r with
 | ok a=>
  show Ans mg E R' F H (k a) _;have c:=h2 a rfl;generalize k a=r2 at c;cases r2 with
  | ok d=>exact λQ q=>h1 _ λF1 H1 b g i=>c F1 H1 b g i Q λl f e h j=>q l f e (g.trans h) j
  | bad=>ext
 | bad=>ext
def Ans.bind{r:Res α}{w:(β->Hp->Prop)->Prop}{k:α->Res γ}{w':β->Hp->(δ->Hp->Prop)->Prop}(h1:Ans mg E R F H r w)(h2:∀F1 H1 b a,Gr F H F1 H1->R F1 b a->Ans mg E R' F1 H1 (k a) (w' b H1)) :
  Ans mg E R' F H (r.bind k) (λQ=>w λb H1=>w' b H1 Q):=h1.bindE λa _ F1 H1 b g q=>h2 F1 H1 b a g q
end
def AnsS(K:W1)(mg:MgT)(E:XK)(F0 H0 F:Hp)(r:Res Fl)(w:Ends->Prop):Prop :=
 match r with
 | .ok (.nx Z)=>∀D,(∀a b c,Same F a->Rep K mg F0 H0 a b c Z->D.nx c b)->w D
 | .ok (.bk Z)=>∀D,(∀a b c,Same F a->Rep K mg F0 H0 a b c Z->D.bk c b)->w D
 | .ok (.ct Z)=>∀D,(∀a b c,Same F a->Rep K mg F0 H0 a b c Z->D.ct c b)->w D
 | .ok (.rt d)=>∀D,(∀a b x,Gr F0 H0 a b->Rp K mg a x d->D.rt x b)->w D
 | .bad=>True
abbrev RB:Hp->Bool->Bool->Prop:=λ_ b b'=>b=b'
abbrev RO:Hp->Option Int->Option Int->Prop:=λ_ b b'=>b=b'
def SE(K:W1)(mg:MgT)(E:XK)(t:TE)(m:ME):Prop:=∀a b F H Y Z,Rep K mg a b F H Y Z->Ans mg E (Rp K mg) F H (m Z) (t Y H)
def STt(K:W1)(mg:MgT)(E:XK)(t:TT)(m:MB):Prop:=∀a b F H Y Z,Rep K mg a b F H Y Z->Ans mg E RB F H (m Z) (t Y H)
def SA(K:W1)(mg:MgT)(E:XK)(t:TA)(m:MA):Prop:=∀a b F H Y Z,Rep K mg a b F H Y Z->Ans mg E (Rps K mg) F H (m Z) (t Y H)
def SO(K:W1)(mg:MgT)(E:XK)(t:TO)(m:Ev->Res (Option Int)):Prop:=∀a b F H Y Z,Rep K mg a b F H Y Z->Ans mg E RO F H (m Z) (t Y H)
def SS(K:W1)(mg:MgT)(E:XK)(t:TS)(m:MS):Prop:=∀a b F H Y Z,Rep K mg a b F H Y Z->AnsS K mg E a b F (m Z) (λD=>t D Y H)
def AnsG(K:W1)(mg:MgT)(F0 H0 F:Hp)(n:Nat)(Y:St)(r:Res Ev)(w:(St->Hp->Prop)->Prop):Prop :=
 match r with
 | .ok Z'=>∀Q,(∀c b a,Same F c->Rep K mg F0 H0 c b a Z'->a.drop n=Y.drop n->Q a b)->w Q
 | _=>True
def SG(K:W1)(mg:MgT)(n:Nat)(t:TG)(g:MG):Prop:=∀a b F H Y Z x d,Rep K mg a b F H Y Z->Rp K mg F x d->AnsG K mg a b F n Y (g d Z) (t x Y H)
def SGs(K:W1)(mg:MgT)(n:Nat)(t:TGs)(g:MGs):Prop:=∀a b F H Y Z c d,Rep K mg a b F H Y Z->Rps K mg F c d->AnsG K mg a b F n Y (g d Z) (t c Y H)
def ItOk(K:W1)(mg:MgT)(F:Hp)(J:It)(ds:List D):Prop:=∀e c,Same F e->Same e c->∀i,
 (∀d,ds[i]?=some d->J.go i c/\∀x a,J.yld i c x a->∃b,Gr e c b a/\Rp K mg b x d)/\(ds.length<=i->J.stop i c)
def SI(K:W1)(mg:MgT)(E:XK)(t:TI)(m:MI):Prop:=∀a b F H Y Z,Rep K mg a b F H Y Z->Ans mg E (ItOk K mg) F H (m Z) (t Y H)
def OpD(K:W1)(mg:MgT)(r:R2)(f:D->D->Res D):Prop:=∀E F H x y b a,Same F H->Rp K mg F x b->Rp K mg F y a->Ans mg E (Rp K mg) F H (f b a) (r x y H)
def UnD(K:W1)(mg:MgT)(r:V->Hp->VK->Prop)(f:D->Res D):Prop:=∀E F H x a,Same F H->Rp K mg F x a->Ans mg E (Rp K mg) F H (f a) (r x H)
def CallD(K:W1)(mg:MgT)(r:List V->Hp->VK->Prop)(f:List D->Res D):Prop:=∀E F H a b,Same F H->Rps K mg F a b->Ans mg E (Rp K mg) F H (f b) (r a H)
section
variable {ta tb tc:TE} {ma mb mc:ME} {sa sb:TT} {na nb:MB}
def Rep.ss{F:Hp}(r:Rep K mg F0 H0 F H Y Z):Same F H:=r.g.s
def se_v(i):SE K mg E (tVar i) (v i):=by
 intro c e F H Y Z r;unfold v getC;split
 .next d h=>
  obtain ⟨x,b,a⟩:=r.im i d h;exact .ret r.ss a λQ q=>⟨x,b,q⟩
 .ext
def se_c{x:V}(h:∀F,Rp K mg F x d):SE K mg E (tC x) (c d):=λ_ _ F _ _ _ r=>.ret r.ss (h F) λ_ q=>q
def R0(hf:OpD K mg r f)(ha:SE K mg E ta ma)(hb:SE K mg E tb mb):SE K mg E (tOp r ta tb) (o2 f ma mb):=by
 intro b a F H Y Z d;refine (ha b a F H Y Z d).bind λh g x n e i=>?_;refine (hb b a h g Y Z (d.gr e)).bind λk m y l c j=>?_;exact hf E k m x y n l c.s (i.same c.f) j
def jk(hf:UnD K mg r f)(ha:SE K mg E ta ma):SE K mg E (tUn r ta) (o1 f ma):=by
 intro a c F H Y Z i;exact (ha a c F H Y Z i).bind λe d x g b h=>hf E e d x g b.s h
def VB:SA K mg E tNil Ab:=λ_ _ _ _ _ _ r=>.ret r.ss .nil λ_ q=>q
def Zn(ha:SE K mg E ta ma)(hr:SA K mg E t m):SA K mg E (Bc ta t) (Aa ma m):=by
 intro b a F H Y Z d;refine (ha b a F H Y Z d).bind λi h x o g j=>?_;refine (hr b a i h Y Z (d.gr g)).bind λl n k p c e=>?_;exact .ret c.s (.cons (j.same c.f) e) λ_ q=>q
def cH(hf:CallD K mg r f)(ha:SA K mg E t m):SE K mg E (tCB r t) (on f m):=by
 intro a c F H Y Z i;exact (ha a c F H Y Z i).bind λe d x g b h=>hf E e d x g b.s h
def KZ{F:Hp}{w:VK->Prop}(s:Same F H)(hr:∀p,H p=none->R (upd F p o) (.ref p) a)(h:∀Q,(∀p,H p=none->Q (.ref p) (upd H p o))->w Q)(nz:∀o' u,o≠.frz o' u:=by intro _ _ z;cases z):Ans mg E R F H (.ok a) w :=
 λQ q=>h Q λp b=>q (upd F p o) (upd H p o) (.ref p) (.new s b o nz) (hr p b)
def SAn(n:Nat)(m:MA):Prop:=∀Z a,m Z=.ok a->a.length=n
def jQ:SAn 0 Ab:=λZ a h=>by cases h;rfl
def vo(h:SAn n m):SAn (n+1) (Aa ma m):=λZ c e=>by
 unfold Aa at e;cases ea:ma Z with
 | ok x=>
  rw [ea] at e;cases em:m Z with
  | ok xs=>
   have a:=e;rw [em] at a;have b:=a;cases b;exact Ew (·+1) (h Z xs em)
  | bad=>
   have a:=e;rw [em] at a;cases a
 | bad=>rw [ea] at e;cases e
def zr(ha:SA K mg E t m)(hl:SAn n m)(hn:n<=sizeLine):SE K mg E (tTup t) (mtp m):=by
 intro c d F H Y Z f;have h:=ha c d F H Y Z f;unfold mtp;cases e:m Z with
 | ok ds=>
  rw [e] at h;exact λQ q=>h _ λi k j g a=>⟨by rw [a.length,hl Z ds e];exact hn,λp b=>q _ _ _ (g.trans (.new g.s b _)) (.tup (SqT.of Ar) (a.same (Cp (g.s.free b) _)))⟩
 | bad=>ext
def yQ(ha:SA K mg E t m)(hl:SAn n m)(hn:n<=sizeLine):SE K mg E (tLst t) (mls m):=by
 intro c d F H Y Z f;have h:=ha c d F H Y Z f;unfold mls;cases e:m Z with
 | ok ds=>
  rw [e] at h;exact λQ q=>h _ λi k j g a=>⟨by rw [a.length,hl Z ds e];exact hn,λp b=>q _ _ _ (g.trans (.new g.s b _)) (.lst (SqL.of Ar) (a.same (Cp (g.s.free b) _)))⟩
 | bad=>ext
def st_b(ha:SE K mg E ta ma):STt K mg E (L2.tB ta) (trb ma):=by
 intro a d F H Y Z g;refine (ha a d F H Y Z g).bind λi h x e c f=>?_;cases e with
 | bl b=>obtain rfl:=f.z;exact .ret c.s rfl λQ q=>⟨b,rfl,q⟩
 | _=>ext
def Vy(ha:SE K mg E ta ma):STt K mg E (Fw ta) (trb ma):=st_b ha
def Zw2(ha:STt K mg E sa na)(hb:STt K mg E sb nb):STt K mg E (tAnd sa sb) (bAnd na nb):=by
 intro a c F H Y Z d;refine (ha a c F H Y Z d).bind λf e x h b g=>?_;cases (g);cases x with
 | true=>
  have z:=hb a c f e Y Z (d.gr b)
  ext
 | false=>
  exact Ans.ret b.s rfl λQ q=>q
def ZxK(ha:STt K mg E sa na)(hb:STt K mg E sb nb):STt K mg E (tOr sa sb) (bOr na nb):=by
 intro a c F H Y Z d;refine (ha a c F H Y Z d).bind λf e x h b g=>?_;cases (g);cases x with
 | true=>
  exact Ans.ret b.s rfl λQ q=>q
 | false=>
  have z:=hb a c f e Y Z (d.gr b)
  ext
def uW(ha:STt K mg E sa na):STt K mg E (tNot sa) (bNot na):=by
 intro a c F H Y Z e;refine (ha a c F H Y Z e).bind λg f x h b d=>?_;cases (d);exact Ans.ret b.s rfl λQ q=>q
def Zuu(ha:SE K mg E ta ma)(hb:SE K mg E tb mb):SE K mg E (Xj ta tb) (eAnd ma mb):=by
 intro b d F H Y Z f;have z:=(st_b ha b d F H Y Z f).bind (k:=λx=>if x=true then mb Z else .ok (D.bl false)) (w':=λc a Q=>if c=true then tb Y a Q else Q (V.bl false) a) λg a x i e h=>by
  cases (h);cases x with
  | true=>
   have z:=hb b d g a Y Z (f.gr e)
   ext
  | false=>
   exact Ans.ret e.s (.bl false) λQ q=>q
 exact z
def ZvB(ha:SE K mg E ta ma):SE K mg E (VN ta) (eNot ma):=by
 intro a c F H Y Z e;exact (st_b ha a c F H Y Z e).bind λg f x h b d=>by
  cases (d);exact Ans.ret b.s (.bl _) λQ q=>q
def uJ(hc:STt K mg E sa na)(ha:SE K mg E ta ma)(hb:SE K mg E tb mb):SE K mg E (tIf sa ta tb) (ife na ma mb):=by
 intro a b F H Y Z c;refine (hc a b F H Y Z c).bind λf e x h d g=>?_;cases (g);cases x with
 | true=>
  have z:=ha a b f e Y Z (c.gr d)
  ext
 | false=>
  have z:=hb a b f e Y Z (c.gr d)
  ext
end
section
def cV(h:∀E F H a b,Same F H->Ans mg E (Rp K mg) F H (f a b) (r (.int a) (.int b) H)):OpD K mg r (ii f):=by
 intro E F H x y g e s c d;unfold ii;split
 .obtain rfl:=c.z;obtain rfl:=d.z;simp_all
 .ext
def Ml(h:∀a b,(∃d,f a b=.ok d/\C a b/\∀F,Rp K mg F (g a b) d)\/f a b=.bad):OpD K mg (rI C g) (ii f):=by
 refine cV λE F H a b s=>?_;rcases h a b with ⟨d,e,hc,hr⟩ | e
 .rw [e];exact .ret s (hr F) λQ q=>⟨a,b,rfl,rfl,hc,q⟩
 .rw [e];ext
def QZ(h:∀a b,(∃d,f a b=.ok d/\∀F,Rp K mg F (g a b) d)\/f a b=.bad):OpD K mg (rI0 g) (ii f):=by
 refine cV λE F H a b s=>?_;rcases h a b with ⟨d,e,hr⟩ | e
 .rw [e];exact .ret s (hr F) λQ q=>⟨a,b,rfl,rfl,q⟩
 .rw [e];ext
def xR:OpD K mg (rI0 λi j=>.int (i - j)) dSub:=QZ λ_ _=>.inl ⟨_,rfl,λ_=>.int _⟩
def Z9:OpD K mg (rI0 λi j=>.bl (decide (i<j))) dLt:=QZ λ_ _=>.inl ⟨_,rfl,λ_=>.bl _⟩
def j7:OpD K mg (rI0 λi j=>.bl (decide (i<=j))) dLe:=QZ λ_ _=>.inl ⟨_,rfl,λ_=>.bl _⟩
def ZwQ:OpD K mg (rI0 λi j=>.bl (decide (j<i))) dGt:=QZ λ_ _=>.inl ⟨_,rfl,λ_=>.bl _⟩
def jN:OpD K mg (rI0 λi j=>.bl (decide (j<=i))) dGe:=QZ λ_ _=>.inl ⟨_,rfl,λ_=>.bl _⟩
def sy:OpD K mg (rI (λ_ j=>j≠0) λi j=>.int (i.fmod j)) Aq:=Ml λa b=>by
 unfold iMod;by_cases h1:0<b
 .rw [iP h1];exact .inl ⟨_,rfl,by lia,λ_=>by rw [Int.fmod_eq_emod_of_nonneg a (by lia)];exact .int _⟩
 .rw [iN h1];by_cases h2:b=0
  .lia
  .rw [iN h2];exact .inl ⟨_,rfl,h2,λ_=>.int _⟩
def qX:OpD K mg (rI Xi λi j=>.int (i.fdiv j)) Az:=Ml λa b=>by
 unfold iDiv;by_cases h0:b.natAbs.log2<9000
 .rw [iP h0];by_cases h1:0<b
  .rw [iP h1];exact .inl ⟨_,rfl,⟨by lia,h0⟩,λ_=>by rw [Xm a (by lia)];exact .int _⟩
  .rw [iN h1];by_cases h2:b=0
   .lia
   .rw [iN h2];exact .inl ⟨_,rfl,⟨h2,h0⟩,λ_=>.int _⟩
 lia
def qx:OpD K mg (rI CPow λi j=>.int (i^j.toNat)) dPow:=Ml λa b=>by
 unfold iPow;by_cases h:0<=b/\b<=1000000/\a.natAbs<2^64
 .rw [iP h];exact .inl ⟨_,rfl,h,λ_=>.int _⟩
 lia
def yC:OpD K mg (rI CPow λi j=>.int (i*2^j.toNat)) dShl:=Ml λa b=>by
 unfold iShl;by_cases h:0<=b/\b<=1000000/\a.natAbs<2^64
 .rw [iP h];exact .inl ⟨_,rfl,h,λ_=>.int _⟩
 lia
def tH:OpD K mg (rI (λ_ j=>0<=j) λi j=>.int (i/2^j.toNat)) dShr:=Ml λa b=>by
 unfold iShr;by_cases h:0<=b
 .rw [iP h];exact .inl ⟨_,rfl,h,λ_=>.int _⟩
 lia
def Zts(h:∀i H Q,Q (.int (-i)) H->r (.int i) H Q):UnD K mg r dNeg:=by
 intro E F H x b s a;unfold dNeg;split
 .obtain rfl:=a.z;exact .ret s (.int _) λQ q=>h _ _ _ q
 .ext
def Zr(K:W1):R2:=λx y H Q=>∃l b a c,x=.ref l/\y=.ref b/\SqL K H l a/\SqL K H b c/\a.length+c.length<=sizeLine/\∀p,H p=none->Q (.ref p) (upd H p (.lst (a++c)))
def cC(K:W1):R2:=λx y H Q=>∃a b c d,x=.ref a/\y=.ref b/\SqT K H a c/\SqT K H b d/\c.length+d.length<=sizeLine /\
 (c=[]->Q (.ref b) H)/\(c≠[]->d=[]->Q (.ref a) H)/\(c≠[]->d≠[]->∀p,H p=none->Q (.ref p) (upd H p (.tup (c++d))))
def nO:R2:=λx y H Q=>∃i j,x=.str i/\y=.str j/\i.length+j.length<=sizeLine/\Q (.str (i++j)) H
def Vi(K:W1):R2:=λx y H Q=>rI0 (λi j=>.int (i+j)) x y H Q\/Zr K x y H Q\/cC K x y H Q\/nO x y H Q
def Jv(h:n<=LIM):n<=sizeLine:=Ak h (by decide)
def zW:OpD K mg (Vi K) An:=by
 intro E F H x y u r s g j;unfold An;split
 .obtain rfl:=g.z;obtain rfl:=j.z;exact .ret s (.int _) λQ q=>.inl ⟨_,_,rfl,rfl,q⟩
 .next m n=>
  by_cases h:m.length+n.length<=LIM
  .rw [iP h];obtain ⟨_,_,rfl,k,c⟩:=g.l;obtain ⟨_,_,rfl,i,d⟩:=j.l;refine KZ s (λp f=>.lst (SqL.of Ar) ((Rps.app d c).same (Cp (s.free f) _))) λQ q=>.inr (.inl ⟨_,_,_,_,rfl,rfl,s.seq k,s.seq i,?_,q⟩);rw [c.length,d.length];exact Jv h
  .rw [iN h];ext
 .next m n=>
  by_cases h:m.length+n.length<=LIM
  .rw [iP h];obtain ⟨_,_,rfl,k,c⟩:=g.t;obtain ⟨_,_,rfl,i,d⟩:=j.t;rename_i a xs b ys;have o:xs.length+ys.length<=sizeLine:=by rw [c.length,d.length];exact Jv h
   intro Q q;refine .inr (.inr (.inl ⟨a,b,xs,ys,rfl,rfl,Eg s k,Eg s i,o,λe=>?_,λ_ e=>?_,λ_ _ p f=>?_⟩))
   .subst e;cases c;exact q F H _ (.refl s) (.tup i d)
   .subst e;cases d;rw [CN] at q;exact q F H _ (.refl s) (.tup k c)
   .exact q _ _ _ (.new s f _) (.tup (SqT.of Ar) ((Rps.app d c).same (Cp (s.free f) _)))
  .rw [iN h];ext
 .next a b=>
  by_cases h:a.length+b.length<=LIM
  .rw [iP h];obtain rfl:=g.z;obtain rfl:=j.z;exact .ret s (.str _) λQ q=>.inr (.inr (.inr ⟨_,_,rfl,rfl,Jv h,q⟩))
  .rw [iN h];ext
 .ext
def Zut(ha:SE K mg E ta ma):SE K mg E (tOp (λx y H Q=>y=.non/\Q (.bl (decide (x=.non))) H) ta (tC .non)) (o1 dIsN ma):=by
 intro a c F H Y Z g;refine (ha a c F H Y Z g).bind λi h x d b f=>?_;have e:decide (x=V.non)=JP d:=by cases f<;>rfl
 exact .ret b.s (.bl _) λQ q=>⟨rfl,by lia⟩
def uG(ha:SE K mg E ta ma):SE K mg E (tOp (λx y H Q=>y=.non/\Q (.bl (!decide (x=.non))) H) ta (tC .non)) (o1 Ih ma):=by
 intro a c F H Y Z g;refine (ha a c F H Y Z g).bind λi h x d b f=>?_;have e:decide (x=V.non)=JP d:=by cases f<;>rfl
 exact .ret b.s (.bl _) λQ q=>⟨rfl,by rw [e];exact q⟩
def iM{F:Hp}{i:Int}(r:Rps K mg F xs ds)(h:at_ ds i=some d):∃x,atI xs i=some x/\Rp K mg F x d:=by
 have b:=r.length;unfold at_ at h;unfold atI ixN;by_cases h0:0<=i
 .rw [iP h0] at h;obtain ⟨x,e,a⟩:=r.get h;have c:=(Dc.mp e).1;exact ⟨x,by rw [iP h0,iP (by lia)];exact e,a⟩
 .rw [iN h0] at h;by_cases h1:-(ds.length:Int)<=i
  .rw [iP h1] at h;obtain ⟨x,e,a⟩:=r.get h;exact ⟨x,by rw [iN h0,iP (by lia),b];exact e,a⟩
  .rw [iN h1] at h;cases h
def rIxD(K:W1):R2:=λx y H Q=>rIxL K x y H Q\/rIxT K x y H Q
def nG:OpD K mg (rIxD K) dIx:=by
 intro E F H x y m k s h j;unfold dIx;split
 .next g i=>
  cases e:at_ g i with
  | none=>ext
  | some d=>
   obtain ⟨_,_,rfl,f,a⟩:=h.l;obtain rfl:=j.z;obtain ⟨z,c,b⟩:=iM a e;exact Ans.ret s b λQ q=>.inl ⟨_,_,_,_,rfl,rfl,s.seq f,c,q⟩
 .next g i=>
  cases e:at_ g i with
  | none=>ext
  | some d=>
   obtain ⟨_,_,rfl,f,a⟩:=h.t;obtain rfl:=j.z;obtain ⟨z,c,b⟩:=iM a e;exact Ans.ret s b λQ q=>.inr ⟨_,_,_,_,rfl,rfl,Eg s f,c,q⟩
 .ext
def YT(n d)(o):cutAt n d o=HT.sIx n d o:=by rfl
def Ze{F:Hp}(r:Rps K mg F xs ds)(lo hi):Rps K mg F (cutV xs lo hi) (cutL ds lo hi):=by
 unfold cutV cutL;simp only [YT,r.length];exact (r.drop _).take _
def rSlU(K:W1):V->Option Int->Option Int->Hp->VK->Prop:=λx c d H Q=>∃a b,x=.ref a/\SqT K H a b /\
 ((HT.sIx b.length 0 c=0/\HT.sIx b.length b.length d=b.length)->Q (.ref a) H)/\(¬(HT.sIx b.length 0 c=0/\HT.sIx b.length b.length d=b.length)->∀p,H p=none->Q (.ref p) (upd H p (.tup (cutV b c d))))
def rSlD(K:W1):V->Option Int->Option Int->Hp->VK->Prop:=λx a b H Q=>rSlL K x a b H Q\/rSlU K x a b H Q
def ZvS(ha:SE K mg E ta ma)(hl:SO K mg E tl ml)(hh:SO K mg E th mh):SE K mg E (tSl (rSlD K) ta tl th) (cut ma ml mh):=by
 intro i g F H Y Z j;refine (ha i g F H Y Z j).bind λo n x G k u=>?_;refine (hl i g o n Y Z (j.gr k)).bind λv y l D m B=>?_;cases (B);refine (hh i g v y Y Z ((j.gr k).gr m)).bind λA w h C b z=>?_;cases (z);have c:=u.same (m.f.trans b.f);unfold dCut;split
 .cases c with
  | lst hx r=>
   refine KZ b.s (λp d=>.lst (SqL.of Ar) ((Ze r l h).same (Cp (b.s.free d) _))) λQ q=>.inl ⟨_,_,rfl,b.s.seq hx,q⟩
 .cases c with
  | tup hx r=>
   rename_i ds a xs;intro Q q;refine .inr ⟨a,xs,rfl,Eg b.s hx,λe=>?_,λ_ p d=>q _ _ _ (.new b.s d _) (.tup (SqT.of Ar) ((Ze r l h).same (Cp (b.s.free d) _)))⟩;have t:cutL ds l h=ds:=by
    unfold cutL;simp only [YT,<-r.length,e.1,e.2];rw [NB,Nat.sub_zero,r.length,List.take_length]
   rw [t] at q;exact q A w _ (.refl b.s) (.tup hx r)
 .ext
def M6:SO K mg E Wn pno:=λ_ _ _ _ _ _ r=>Ans.ret (R:=RO) r.ss rfl λ_ q=>q
def Mf(ha:SE K mg E ta ma):SO K mg E (V0 ta) (pso ma):=by
 intro a c F H Y Z f;refine (ha a c F H Y Z f).bind λh g x d b e=>?_;cases d with
 | int i=>obtain rfl:=e.z;exact Ans.ret b.s rfl λQ q=>⟨i,rfl,q⟩
 | _=>ext
def dR:CallD K mg (λxs H Q=>∃p ys,xs=[.ref p]/\(SqL K H p ys\/SqT K H p ys)/\Q (.int ys.length) H) bLen:=by
 intro E F H xs b s r;unfold bLen;split
 .obtain ⟨x,rfl,a⟩:=r.one;obtain ⟨_,_,rfl,h,q⟩:=a.l;rw [<-q.length];exact .ret s (.int _) λQ q=>⟨_,_,rfl,.inl (s.seq h),q⟩
 .obtain ⟨x,rfl,a⟩:=r.one;obtain ⟨_,_,rfl,h,q⟩:=a.t;rw [<-q.length];exact .ret s (.int _) λQ q=>⟨_,_,rfl,.inr (Eg s h),q⟩
 .ext
def vz:CallD K mg (λxs H Q=>∃i,xs=[.int i]/\Q (.int (if i<0 then -i else i)) H) bAbs:=by
 intro E F H xs b s r;unfold bAbs;split
 .obtain ⟨x,rfl,a⟩:=r.one;obtain rfl:=a.z;exact .ret s (.int _) λQ q=>⟨_,rfl,q⟩
 .ext
def Zl2:CallD K mg (λxs H Q=>∃i j,xs=[.int i,.int j]/\Q (.int (if j<i then j else i)) H) bMin:=by
 intro E F H xs c s r;unfold bMin;split
 .obtain ⟨x,y,rfl,a,b⟩:=r.two;obtain rfl:=a.z;obtain rfl:=b.z;exact .ret s (.int _) λQ q=>⟨_,_,rfl,q⟩
 .ext
def wg:CallD K mg (λxs H Q=>(∃i,xs=[.int i]/\Q (.int i) H)\/∃k,xs=[.bl k]/\Q (.int (if k then 1 else 0)) H) bInt:=by
 intro E F H xs b s r;unfold bInt;split
 .obtain ⟨x,rfl,a⟩:=r.one;obtain rfl:=a.z;exact .ret s (.int _) λQ q=>.inl ⟨_,rfl,q⟩
 .obtain ⟨x,rfl,a⟩:=r.one;obtain rfl:=a.z;exact .ret s (.int _) λQ q=>.inr ⟨_,rfl,q⟩
 .ext
def S7:CallD K mg (λxs H Q=>∃p ys,xs=[.ref p]/\((SqL K H p ys/\∀l,H l=none->Q (.ref l) (upd H l (.tup ys)))\/(SqT K H p ys/\Q (.ref p) H))) bTup:=by
 intro E F H xs c s r;unfold bTup;split
 .obtain ⟨x,rfl,a⟩:=r.one;obtain ⟨_,_,rfl,h,q⟩:=a.l;exact KZ s (λp b=>.tup (SqT.of Ar) (q.same (Cp (s.free b) _))) λQ z=>⟨_,_,rfl,.inl ⟨s.seq h,z⟩⟩
 .obtain ⟨x,rfl,a⟩:=r.one;obtain ⟨_,_,rfl,h,q⟩:=a.t;exact .ret s (.tup h q) λQ z=>⟨_,_,rfl,.inr ⟨Eg s h,z⟩⟩
 .ext
def ZkU:CallD K mg (λxs H Q=>∃p ys,xs=[.ref p]/\(SqL K H p ys\/SqT K H p ys)/\∀l,H l=none->Q (.ref l) (upd H l (.lst ys))) bLst:=by
 intro E F H xs c s r;unfold bLst;split
 .obtain ⟨x,rfl,b⟩:=r.one;obtain ⟨_,_,rfl,h,q⟩:=b.l;exact KZ s (λp a=>.lst (SqL.of Ar) (q.same (Cp (s.free a) _))) λQ z=>⟨_,_,rfl,.inl (s.seq h),z⟩
 .obtain ⟨x,rfl,b⟩:=r.one;obtain ⟨_,_,rfl,h,q⟩:=b.t;exact KZ s (λp a=>.lst (SqL.of Ar) (q.same (Cp (s.free a) _))) λQ z=>⟨_,_,rfl,.inr (Eg s h),z⟩
 .ext
def spD(K:W1)(mg:MgT)(n:Nat)(m:List D->Res D):Sp:=λc H Q E=>c.length=n/\∃F a,Same F H/\Rps K mg F c a/\m a≠.bad /\
 (∀d,m a=.ok d->∀b e x,Gr F H b e->Rp K mg b x d->Q x e)
def cZ{F:Hp}(s:Same F H)(r:Rps K mg F vs ds)(hl:ds.length=n):Ans mg E (Rp K mg) F H (m ds) (λQ=>spD K mg n m vs H Q E):=by
 have a:=r.length.trans hl;cases e:m ds with
 | ok d=>
  intro Q q;refine ⟨a,F,ds,s,r,λz=>?_,λc b=>?_⟩
  .lia
  grind
 | bad=>ext
def xO(ha:SA K mg E t ma)(hl:SAn n ma):SE K mg E (Hf (spD K mg n m) [] E t) (on m ma):=by
 intro b c F H Y Z g;refine (ha b c F H Y Z g).bindE λf e j i h d a=>?_;have z:=cZ (E:=E) (m:=m) d.s a (hl Z f e);simp_all
end
section
variable {ta:TE} {ma:ME} {F:Hp}
def AnsS.mono{w:Ends->Prop}(s:Same F F1)(h:AnsS K mg E F0 H0 F1 r w):AnsS K mg E F0 H0 F r w:=by
 cases r with
 | ok f=>
  cases f with
  | nx Z=>exact λD q=>h D λb g c a e=>q b g c (s.trans a) e
  | bk Z=>exact λD q=>h D λb g c a e=>q b g c (s.trans a) e
  | ct Z=>exact λD q=>h D λb g c a e=>q b g c (s.trans a) e
  | rt d=>exact h
 | bad=>ext
def Ans.stm{α β:Type}{R:Hp->β->α->Prop}{r:Res α}{w:(β->Hp->Prop)->Prop}{k:α->Res Fl}{w':β->Hp->Ends->Prop}(h1:Ans mg E R F H r w)(g0:Gr F0 H0 F H)(h2:∀a,r=.ok a->∀F1 H1 b,Gr F H F1 H1->R F1 b a->AnsS K mg E F0 H0 F1 (k a) (w' b H1)) :
  AnsS K mg E F0 H0 F (r.bind k) (λD=>w λb H1=>w' b H1 D):=by
 cases r with
 | ok a=>
  show AnsS K mg E F0 H0 F (k a) _;have c:=λF1 H1 b (g:Gr F H F1 H1) q=>(h2 a rfl F1 H1 b g q).mono g.f;generalize k a=r2 at c;cases r2 with
  | ok f=>
   cases f with
   | nx Z=>exact λD q=>h1 _ λF1 H1 b g e=>c F1 H1 b g e D q
   | bk Z=>exact λD q=>h1 _ λF1 H1 b g e=>c F1 H1 b g e D q
   | ct Z=>exact λD q=>h1 _ λF1 H1 b g e=>c F1 H1 b g e D q
   | rt d=>exact λD q=>h1 _ λF1 H1 b g e=>c F1 H1 b g e D q
  | bad=>ext
 | bad=>ext
def Xy:SS K mg E JR nop:=λ_ _ _ _ _ _ r D q=>q _ _ _ (Same.refl _) r
def oX{n:MS}(h1:SS K mg E t m)(h2:SS K mg E u n):SS K mg E (tSeq t u) (sq m n):=by
 intro k j F H Y Z l;have h:=h1 k j F H Y Z l;unfold sq;cases e:m Z with
 | ok f=>
  rw [e] at h;cases f with
  | nx Z'=>
   show AnsS K mg E k j F (n Z') _;have a:=λb c i (s:Same F b) g=>(h2 k j b c i Z' g).mono s;generalize n Z'=r2 at a;cases r2 with
   | ok f=>
    cases f with
    | nx Z=>exact λD q=>h _ λb c i s g=>a b c i s g D q
    | bk Z=>exact λD q=>h _ λb c i s g=>a b c i s g D q
    | ct Z=>exact λD q=>h _ λb c i s g=>a b c i s g D q
    | rt d=>exact λD q=>h _ λb c i s g=>a b c i s g D q
   | bad=>ext
  | bk Z'=>exact λD q=>h _ q
  | ct Z'=>exact λD q=>h _ q
  | rt d=>exact λD q=>h _ q
 | bad=>ext
def ZrD(ha:SE K mg E ta ma):SS K mg E (Bx ta) (drp ma):=by
 intro b e F H Y Z a;exact (ha b e F H Y Z a).stm a.g λd _ h f x c i=>λD q=>q h f Y (Same.refl _) (a.gr c)
def Zun(ha:SE K mg E ta ma):SS K mg E (tRet ta) (ret ma):=by
 intro b e F H Y Z a;exact (ha b e F H Y Z a).stm a.g λd _ h f x c i=>λD q=>q h f x (a.g.trans c) i
def Zvv:SS K mg E Mp cnt:=λ_ _ _ _ _ _ r D q=>q _ _ _ (Same.refl _) r
def q7{n:MS}(hc:STt K mg E sc nc)(h1:SS K mg E t m)(h2:SS K mg E u n):SS K mg E (tIfS sc t u) (ifs nc m n):=by
 intro c d F H Y Z a;refine (hc c d F H Y Z a).stm a.g λb _ h f x e i=>?_;cases (i);cases b with
 | true=>
  have z:=h1 c d h f Y Z (a.gr e)
  ext
 | false=>
  have z:=h2 c d h f Y Z (a.gr e)
  ext
def rK{l:List α}{x:α}(h:i<n):(l.set i x).drop n=l.drop n:=by
 rw [List.drop_set,iP h]
def zU(h:i<n):SG K mg n (Bt i) (gN i):=λ_ _ _ _ _ _ _ _ r a _ q=>q _ _ _ (Same.refl _) (r.set i a) (rK h)
def Zs9:SGs K mg n gNil gs0:=by
 intro b c F H Y Z d e r a;unfold gs0;split
 .cases a;exact λQ q=>⟨rfl,q _ _ _ (Same.refl _) r rfl⟩
 .ext
def sU(h1:SG K mg n t g)(h2:SGs K mg n u gs):SGs K mg n (Gx t u) (gs1 g gs):=by
 intro f c F H Y Z j b r i;cases i with
 | nil=>ext
 | cons rx i=>
  rename_i x j d b;have h:=h1 f c F H Y Z x d r rx;show AnsG K mg f c F n Y ((g d Z).bind λa=>gs b a) _;cases e:g d Z with
  | ok a=>
   rw [e] at h;show AnsG K mg f c F n Y (gs b a) _;cases e2:gs b a with
   | ok Z''=>
    refine λQ q=>⟨x,j,rfl,h _ λp o A k s C=>?_⟩;have l:=h2 f c p o A a j b s (i.same k);rw [e2] at l;exact l _ λw z v B y m=>q w z v (k.trans B) y (m.trans C)
   | bad=>ext
  | bad=>ext
def gLst(K:W1)(n:Nat)(t:TGs):TG:=λv Y H Q=>∃a b,v=.ref a/\SqL K H a b/\b.length=n/\t b Y H Q
def gSeq(K:W1)(n:Nat)(t:TGs):TG:=λv Y H Q=>gTup K n t v Y H Q\/gLst K n t v Y H Q
def Zwv(h:SGs K mg n t g):SG K mg n (gSeq K k t) (gU k g):=by
 intro i f F H Y Z x d r m;unfold gU items;split
 .next a=>
  show AnsG K mg i f F n Y (if a.length=k then g a Z else .bad) _
  by_cases hl:a.length=k
  .rw [iP hl];obtain ⟨_,_,rfl,j,b⟩:=m.l;have c:=h i f F H Y Z _ _ r b;cases e:g a Z with
   | ok Z'=>
    rw [e] at c;exact λQ q=>.inr ⟨_,_,rfl,r.ss.seq j,b.length.trans hl,c Q q⟩
   | bad=>ext
  .rw [iN hl];ext
 .next a=>
  show AnsG K mg i f F n Y (if a.length=k then g a Z else .bad) _
  by_cases hl:a.length=k
  .rw [iP hl];obtain ⟨_,_,rfl,j,b⟩:=m.t;have c:=h i f F H Y Z _ _ r b;cases e:g a Z with
   | ok Z'=>
    rw [e] at c;exact λQ q=>.inl ⟨_,_,rfl,Eg r.ss j,b.length.trans hl,c Q q⟩
   | bad=>ext
  .rw [iN hl];ext
 .ext
def rG{t:TG}{g:MG}(ha:SE K mg E ta ma)(hg:SG K mg n t g):SS K mg E (tAsg ta t) (asg g ma):=by
 intro c b F H Y Z a;refine (ha c b F H Y Z a).stm a.g λd _ l j x i m=>?_;have h:=hg c b l j Y Z x d (a.gr i) m;cases e:g d Z with
 | ok Z'=>
  rw [e] at h;exact λD q=>h _ λo p f s k _=>q o p f s k
 | bad=>ext
def jO(ha:SE K mg E ta ma):SS K mg E (tAsg ta (Bt i)) (st i ma):=by
 intro b e F H Y Z a;exact (ha b e F H Y Z a).stm a.g λd _ h f x c j=>λD q=>q h f _ (Same.refl _) ((a.gr c).set i j)
def lU(h:SS K mg E t m):SS K mg E t (frz i m):=by
 intro a d F H Y Z f;unfold frz getO;split
 .next g e=>
  obtain ⟨b,s,c⟩:=f.frz e;exact (h a d b H Y _ c).mono s
 .ext
def wy(ha:SE K mg E ta ma)(hty:∀H a xs,H a=some (.lst xs)->tyV K "list" (.ref a) H):SS K mg E (Bx (tBM K "list" Fi (tVar i) (Bc ta tNil))) (app i ma):=by
 intro r p F H Y Z j;unfold app getO;split
 .next c e=>
  show AnsS K mg E r p F ((ma Z).bind λd=>if c.length<LIM then .ok (.nx (Z.set i (.ow (c++[d])))) else .bad) _
  obtain ⟨a,xs,s,I,w,u,t⟩:=j.ow i c e;have B:=t.length;have h:=(ha r p F H Y Z j).stm (K:=K) (k:=λd=>if c.length<LIM then .ok (.nx (Z.set i (.ow (c++[d])))) else .bad) (w':=λx n D=>Fi (.ref a) [x] n λ_ l=>D.nx Y l) j.g λd _ C J x m G=>?_
  .generalize ((ma Z).bind λd=>if c.length<LIM then Res.ok (Fl.nx (Z.set i (.ow (c++[d])))) else .bad)=res at h
   have b:∀D:Ends,(ta Y H λx n=>Fi (.ref a) [x] n λ_ l=>D.nx Y l)->Bx (tBM K "list" Fi (tVar i) (Bc ta tNil)) D Y H:=λD z=>⟨.ref a,s,hty H a xs u,z⟩;cases res with
   | ok f=>
    cases f with
    | nx Z=>exact λD q=>b D (h D q)
    | bk Z=>exact λD q=>b D (h D q)
    | ct Z=>exact λD q=>b D (h D q)
    | rt d=>exact λD q=>b D (h D q)
   | bad=>ext
  .by_cases hlim:c.length<LIM
   .simp only [hlim,GZ];have y:=j.gr m;obtain ⟨A,v⟩:=m.o a _ w u;exact λD q=>⟨a,xs,x,rfl,rfl,v,by rw [B];exact Aw hlim (by decide),q C _ Y (Same.refl _) (y.app e s v I A (t.same m.f) G)⟩
   .simp only [hlim,Ca];ext
 .ext
def iSeq(K:W1)(tl:TE):TI:=λY H R=>tl Y H λx b=>∃a,x=.ref a/\(((∃c,SqL K b a c)/\R (Itl K a) b)\/((∃c,SqT K b a c)/\R (Itt K a) b))
def xQ(h:SqL K F a xs)(r:Rps K mg F xs ds):ItOk K mg F (Itl K a) ds:=by
 intro k o g f i;have b:=(g.trans f).seq h;refine ⟨λd e=>?_,λl=>⟨xs,b,by rw [r.length];exact l⟩⟩;obtain ⟨x,c,n⟩:=r.get e;refine ⟨⟨xs,x,b,c⟩,λy m q=>?_⟩;obtain ⟨rfl,q⟩:=q;have j:=q xs b;rw [c] at j;cases j;exact ⟨k,.refl f,n.same g⟩
def pY(h:SqT K F a xs)(r:Rps K mg F xs ds):ItOk K mg F (Itt K a) ds:=by
 intro k o g f i;have b:=Eg (g.trans f) h;refine ⟨λd e=>?_,λl=>⟨xs,b,by rw [r.length];exact l⟩⟩;obtain ⟨x,c,n⟩:=r.get e;refine ⟨⟨xs,x,b,c⟩,λy m q=>?_⟩;obtain ⟨rfl,q⟩:=q;have j:=q xs b;rw [c] at j;cases j;exact ⟨k,.refl f,n.same g⟩
def Zh(lo)(n):ItOk K mg F (Itr lo n) (Ci lo n):=by
 intro f j h g i;unfold Ci;refine ⟨λd e=>?_,λa=>?_⟩
 .rw [Cj] at e;have b:i<n:=by
   grind
  rw [List.getElem?_range b] at e;cases e;refine ⟨b,λy c q=>?_⟩;obtain ⟨rfl,rfl⟩:=q;exact ⟨f,.refl g,.int _⟩
 .rw [Al,Ff] at a;exact a
def oh(ha:SE K mg E ta ma):SI K mg E (iSeq K ta) (iv ma):=by
 intro d c F H Y Z f;refine (ha d c F H Y Z f).bind λi g x e a b=>?_;cases e with
 | lst ds=>
  obtain ⟨_,_,rfl,h,r⟩:=b.l;exact Ans.ret a.s (xQ h r) λQ q=>⟨_,rfl,.inl ⟨⟨_,a.s.seq h⟩,q⟩⟩
 | tup ds=>
  obtain ⟨_,_,rfl,h,r⟩:=b.t;exact Ans.ret a.s (pY h r) λQ q=>⟨_,rfl,.inr ⟨⟨_,Eg a.s h⟩,q⟩⟩
 | _=>ext
def ZxH(ha:SA K mg E t m):SI K mg E (Vm t) (r1 m):=by
 intro b d F H Y Z f;refine (ha b d F H Y Z f).bind λi g k l c a=>?_;unfold rng1;split
 .next j=>
  by_cases h:-1000000000<=j/\j<=1000000000
  .rw [iP h];obtain ⟨x,rfl,e⟩:=a.one;obtain rfl:=e.z;exact Ans.ret c.s (Zh 0 _) λQ q=>⟨j,rfl,by lia,by lia,q⟩
  .rw [iN h];ext
 .ext
def yK(ha:SA K mg E t m):SI K mg E (XX t) (r2 m):=by
 intro f c F H Y Z g;refine (ha f c F H Y Z g).bind λl k n o b a=>?_;unfold rng2;split
 .next i j=>
  by_cases h:(-1000000000<=i/\i<=1000000000)/\(-1000000000<=j/\j<=1000000000)
  .rw [iP h];obtain ⟨x,y,rfl,d,e⟩:=a.two;obtain rfl:=d.z;obtain rfl:=e.z;exact Ans.ret b.s (Zh i _) λQ q=>⟨i,j,rfl,by lia,q⟩
  .rw [iN h];ext
 .ext
def lO{wi:TI}{mi:MI}{t:TG}{g:MG}{u:TS}{m:MS}(hi:SI K mg E wi mi)(hg:SG K mg n t g)(hb:SS K mg E u m):SS K mg E (tFor wi t u) (for_ mi g m):=by
 intro r p F H Y Z X
 refine (hi r p F H Y Z X).stm (w':=λJ H1 D=>∃W:Nat->Nat->St->Hp->Prop,(∃m,W 0 m Y H1)/\∀i m Y H,W i m Y H ->
  (J.stop i H/\D.nx Y H)\/(J.go i H/\∃N:St->Hp->Prop,(∀c a,N c a->∃Q,Q<m/\W (i+1) Q c a)/\∀x a,J.yld i H x a->t x Y a λC w=>u { D with nx:=N,ct:=N,bk:=D.nx } C w)) X.g λl _ I H1 J g1 jo=>?_
 have r1:=X.gr g1;have v:∀(D:Ends) (b:Res Fl),b≠.bad->(∀j,b=.ok (.nx j)->∀h a c,Same I h->Rep K mg r p h a c j->D.nx c a)->(∀j,b=.ok (.bk j)->∀h a c,Same I h->Rep K mg r p h a c j->D.bk c a) ->
   (∀j,b=.ok (.ct j)->∀h a c,Same I h->Rep K mg r p h a c j->D.ct c a)->(∀d,b=.ok (.rt d)->∀h a x,Gr r p h a->Rp K mg h x d->D.rt x a) ->
   CZ g m l Z=b ->
   ∃W:Nat->Nat->St->Hp->Prop,(∃m,W 0 m Y H1)/\∀i m Y H,W i m Y H ->
    (J.stop i H/\D.nx Y H)\/(J.go i H/\∃N:St->Hp->Prop,(∀c a,N c a->∃Q,Q<m/\W (i+1) Q c a)/\∀x a,J.yld i H x a->t x Y a λC w=>u { D with nx:=N,ct:=N,bk:=D.nx } C w):=by
  intro D b A qn qb qc qr e0;refine ⟨λi k c a=>k=l.length - i/\i<=l.length/\∃j h,Same I h/\Rep K mg r p h a c j/\CZ g m (l.drop i) j=b,⟨l.length,by simp,Bw _,Z,I,Same.refl _,r1,e0⟩,?_⟩;rintro i k c a ⟨rfl,hi',j,h,U,S,e⟩;by_cases hlt:i<l.length
  .refine .inr ?_;have hd:=BL hlt;obtain ⟨go,yl⟩:=(jo h a U S.ss i).1 _ hd;rw [J9 hlt] at e;refine ⟨go,λC w=>∃o G,Same I G/\Rep K mg r p G w C o/\CZ g m (l.drop (i+1)) o=b,λC w zq=>by obtain ⟨o,G,s2,r2,s⟩:=zq;exact ⟨l.length - (i+1),by lia,rfl,hlt,o,G,s2,r2,s⟩,λx w y=>?_⟩;obtain ⟨G,g2,rx⟩:=yl x w y;have r2:=S.gr g2;have hG:=hg r p G w c j x _ r2 rx;have T:(g l[i] j).bind (λP=>(m P).bind (turn (CZ g m (l.drop (i+1)))))=b:=e;cases eg:g l[i] j with
   | ok P=>
    rw [eg] at T hG;refine hG _ λF3 H3 Y3 s3 r3 _=>?_;have R:=hb r p F3 H3 Y3 P r3;have sF:=U.trans (g2.f.trans s3);have s:(m P).bind (turn (CZ g m (l.drop (i+1))))=b:=T;cases em:m P with
    | ok f=>
     rw [em] at s R;cases f with
     | nx o=>exact R _ λB O Y4 L M=>⟨o,B,sF.trans L,M,s⟩
     | ct o=>exact R _ λB O Y4 L M=>⟨o,B,sF.trans L,M,s⟩
     | bk o=>exact R _ λB O Y4 L M=>qn o s.symm B O Y4 (sF.trans L) M
     | rt d=>exact R _ λB O y g4 ry=>qr d s.symm B O y g4 ry
    | bad=>rw [em] at s;exact aB s.symm A
   | bad=>rw [eg] at T;exact aB T.symm A
  .have V:i=l.length:=by lia
   subst V;rw [O1 (Ae _)] at e;exact .inl ⟨(jo h a U S.ss _).2 (Ae _),qn j e.symm h a c U S⟩
 cases e:CZ g m l Z with
 | ok f=>
  cases f with
  | nx o=>exact λD q=>v D _ (λz=>by cases z) (λ_ z=>by grind) (λ_ z=>by cases z) (λ_ z=>by cases z) (λ_ z=>by cases z) e
  | bk o=>exact λD q=>v D _ (λz=>by cases z) (λ_ z=>by cases z) (λ_ z=>by grind) (λ_ z=>by cases z) (λ_ z=>by cases z) e
  | ct o=>exact λD q=>v D _ (λz=>by cases z) (λ_ z=>by cases z) (λ_ z=>by cases z) (λ_ z=>by grind) (λ_ z=>by cases z) e
  | rt d=>exact λD q=>v D _ (λz=>by cases z) (λ_ z=>by cases z) (λ_ z=>by cases z) (λ_ z=>by cases z) (λ_ z=>by grind) e
 | bad=>ext
def Zpl{n:Ev->Nat}(hc:STt K mg E sc nc)(hb:SS K mg E u m):SS K mg E (Q3 sc u) (whl n nc m):=by
 intro s r F H Y Z rr;have p:∀D a,a≠.bad->(∀c,a=.ok (.nx c)->∀g i j,Same F g->Rep K mg s r g i j c->D.nx j i)->(∀c,a=.ok (.bk c)->∀g i j,Same F g->Rep K mg s r g i j c->D.bk j i) ->
   (∀c,a=.ok (.ct c)->∀g i j,Same F g->Rep K mg s r g i j c->D.ct j i)->(∀d,a=.ok (.rt d)->∀g i x,Gr s r g i->Rp K mg g x d->D.rt x i) ->
   whGo nc m (n Z) Z=a->Q3 sc u D Y H:=by
  intro D a l O qb qc qr W;refine ⟨λk j i=>∃c g,Same F g/\Rep K mg s r g i j c/\whGo nc m k c=a,⟨n Z,Z,F,Same.refl _,rr,W⟩,?_⟩;rintro k j i ⟨c,g,S,N,e⟩;cases k with
  | zero=>exact aB e.symm l
  | succ k=>
   have B:(nc c).bind (λx=>if x=true then (m c).bind (turn (whGo nc m k)) else .ok (.nx c))=a:=e
   have M:=hc s r g i j c N;cases ec:nc c with
   | ok b=>
    rw [ec] at B M;refine M _ λP U b' I X=>?_;cases (X);have T:=N.gr I;cases b with
    | true=>
     have G:=hb s r P U j c T;have o:=B;refine ⟨λR Q=>∃C V,Same F V/\Rep K mg s r V Q R C/\whGo nc m k C=a,λR Q h=>⟨k,Ha _,h⟩,?_⟩;have L:=S.trans I.f;cases em:m c with
     | ok f=>
      rw [em] at o G;cases f with
      | nx Z2=>exact G _ λt A J v w=>⟨Z2,t,L.trans v,w,o⟩
      | ct Z2=>exact G _ λt A J v w=>⟨Z2,t,L.trans v,w,o⟩
      | bk Z2=>exact G _ λt A J v w=>O Z2 o.symm t A J (L.trans v) w
      | rt d=>exact G _ λt A y g4 ry=>qr d o.symm t A y g4 ry
     | bad=>rw [em] at o;exact aB o.symm l
    | false=>
     have o:=B;exact O c o.symm P U j (S.trans I.f) T
   | bad=>rw [ec] at B;exact aB B.symm l
 unfold whl;cases e:whGo nc m (n Z) Z with
 | ok f=>
  cases f with
  | nx Z2=>exact λD q=>p D _ (λz=>by cases z) (λ_ z=>by grind) (λ_ z=>by cases z) (λ_ z=>by cases z) (λ_ z=>by cases z) e
  | bk Z2=>exact λD q=>p D _ (λz=>by cases z) (λ_ z=>by cases z) (λ_ z=>by grind) (λ_ z=>by cases z) (λ_ z=>by cases z) e
  | ct Z2=>exact λD q=>p D _ (λz=>by cases z) (λ_ z=>by cases z) (λ_ z=>by cases z) (λ_ z=>by grind) (λ_ z=>by cases z) e
  | rt d=>exact λD q=>p D _ (λz=>by cases z) (λ_ z=>by cases z) (λ_ z=>by cases z) (λ_ z=>by cases z) (λ_ z=>by grind) e
 | bad=>ext
end
section
variable {F:Hp}
def Rep.inner{own:List Str}{cap:List (Str×Nat)}(r:Rep K mg F0 H0 F H Y Z)(gb:Gr Fb Hb F H):Rep K mg Fb Hb F H (st0 own Y cap) (noA own.length (Br Z (cap.map (·.2)))):=by
 have b:∀i c,(noA own.length (Br Z (cap.map (·.2))))[i]?=some c->c=.no\/∃j p d,i=own.length+j/\cap[j]?=some p/\Z[p.2]?=some (.im d)/\c=.im d:=by
  intro i c e;rw [Rb,Xc] at e;by_cases hi:i<own.length
  .rw [Fv (by simpa using hi),NK,iP hi] at e;cases e;exact .inl rfl
  .rw [GJ (by simpa using hi),PP] at e;rw [DX,Cj] at e;cases q:cap[i - own.length]? with
   | none=>rw [q] at e;cases e
   | some p=>
    rw [q] at e;have f:imOf Z[p.2]?=c:=CW e;unfold imOf at f;split at f
    .next d h=>exact .inr ⟨i - own.length,p,d,by lia,q,h,f.symm⟩
    .exact .inl f.symm
 refine ⟨gb,?_,λi d e=>?_,λi g e=>?_,λi j g m a e=>?_⟩
 .rw [Rb,Xc];unfold st0 capt;simp
 .rcases b i _ e with z | ⟨j,p,d',rfl,hp,hρ,z⟩
  .cases z
  .cases z;obtain ⟨x,l,k⟩:=r.im p.2 d hρ;refine ⟨x,?_,k⟩;unfold st0 capt;rw [GJ (by simp),PP,Lf,Cj,hp];show some ((Y[p.2]?).join)=_;rw [l];rfl
 .rcases b i _ e with z | ⟨j,p,d',rfl,hp,hρ,z⟩<;>cases z
 .rcases b i _ e with z | ⟨j,p,d',rfl,hp,hρ,z⟩<;>cases z
def gJ:(st0 own Y cap).drop own.length=capt Y cap:=by
 unfold st0;simp_all
abbrev nB(own:List Str)(Z:Ev)(cap:List (Str×Nat)):Ev:=noA own.length (Br Z (cap.map (·.2)))
def bV{own:List Str}{cap:List (Str×Nat)}(r:Rep K mg F0 H0 F H Y Z)(jo:ItOk K mg F J ds)(hg:SG K mg own.length t g)(ht:STt K mg E tt nt)(he:SE K mg E te me)(hl:ds.length<=LIM)(e0:Dl.Bg g nt me (nB own Z cap) ds=.ok ys)(Q)(q:∀F' H' xs,Gr F H F' H'->Rps K mg F' xs ys->xs.length<=sizeLine->∀p,H' p=none->Q (.ref p) (upd H' p (.lst xs))) :
  Uc J t tt te own cap Y Q H:=by
 refine ⟨λi k a H'=>k=ds.length - i/\i<=ds.length/\a.length<=i/\∃F' j h,Gr F H F' H'/\Rps K mg F' a j/\Dl.Bg g nt me (nB own Z cap) (ds.drop i)=.ok h/\j++h=ys,
  ⟨ds.length,by simp,Bw _,Ae _,F,[],ys,.refl r.ss,.nil,e0,rfl⟩,?_⟩
 rintro i k a H' ⟨rfl,V,X,F',j,h,d,B,v,A⟩;have D:=Ak X (Ak V hl);refine ⟨Jv D,?_⟩;by_cases hlt:i<ds.length
 .refine .inr ?_;have hd:=BL hlt;obtain ⟨go,yl⟩:=(jo F' H' d.f d.s i).1 _ hd;rw [J9 hlt] at v;refine ⟨go,λx M y=>?_⟩;obtain ⟨S,C,rx⟩:=yl x M y;have rr:=(r.gr (d.trans C)).inner (own:=own) (cap:=cap) (d.trans C);have L:=hg F H S M _ _ x _ rr rx;have w:(g ds[i] (nB own Z cap)).bind (λc=>(nt c).bind λb=>if b=true then (me c).bind λy=>(Dl.Bg g nt me (nB own Z cap) (ds.drop (i+1))).bind λys=>.ok (y::ys) else Dl.Bg g nt me (nB own Z cap) (ds.drop (i+1)))=.ok h:=v
  cases eg:g ds[i] (nB own Z cap) with
  | ok c=>
   rw [eg] at w L;refine L _ λF3 T P W o d3=>⟨d3.trans gJ,?_⟩;have N:=ht F H F3 T P c o;have I:=C.f.trans W;have m:(nt c).bind (λb=>if b=true then (me c).bind λy=>(Dl.Bg g nt me (nB own Z cap) (ds.drop (i+1))).bind λys=>.ok (y::ys) else Dl.Bg g nt me (nB own Z cap) (ds.drop (i+1)))=.ok h:=w
   cases et:nt c with
   | ok b=>
    rw [et] at m N;refine N _ λG U b' l eb=>?_;cases (eb);cases b with
    | true=>
     have e:=m;have O:=he F H G U P c (o.gr l);cases em:me c with
     | ok y'=>
      rw [em] at e O;refine O _ λF5 H5 u R ru=>⟨DN D (by decide),ds.length - (i+1),by lia,rfl,hlt,by simp_all,?_⟩;have n:=e;cases ec:Dl.Bg g nt me (nB own Z cap) (ds.drop (i+1)) with
      | ok rs'=>
       rw [ec] at n;have e6:=n;cases e6;exact ⟨F5,j++[y'],rs',o.g.trans (l.trans R),Rps.app (.cons ru .nil) (B.same (I.trans (l.f.trans R.f))),rfl,by simp_all⟩
      | bad=>rw [ec] at n;cases n
     | bad=>rw [em] at e;cases e
    | false=>
     have e:=m;exact ⟨ds.length - (i+1),by lia,rfl,hlt,by lia,G,j,h,o.g.trans l,B.same (I.trans l.f),e,A⟩
   | bad=>rw [et] at m;cases m
  | bad=>rw [eg] at w;cases w
 .have z:i=ds.length:=by lia
  subst z;rw [O1 (Ae _)] at v;cases v;rw [CN] at A;subst A;exact .inl ⟨(jo F' H' d.f d.s _).2 (Ae _),q F' H' a d B (Jv D)⟩
def Yg{te:Fam TE}(hi:SI K mg E wi mi)(hg:∀C s H fp pn,SG K mg own.length (t C s H fp pn) g)(ht:∀C s H fp pn,STt K mg E0 (tt C s H fp pn) nt)(he:∀C s H fp pn,SE K mg E0 (te C s H fp pn) me) :
  SE K mg E (Gs wi t tt te own cap) (comp mi own.length (cap.map (·.2)) g nt me):=by
 intro l j F H Y Z f;refine (hi l j F H Y Z f).bind λn m J d i k=>?_;by_cases hl:d.length<=LIM
 .rw [iP hl];cases e:Dl.Bg g nt me (nB own Z cap) d with
  | ok ys=>exact λQ q C s a fp pn=>bV (f.gr i) k (hg C s a fp pn) (ht C s a fp pn) (he C s a fp pn) hl e Q λr u o b h _ p c=>q _ _ _ (b.trans (.new b.s c _)) (.lst (SqL.of Ar) (h.same (Cp (b.s.free c) _)))
  | bad=>ext
 .rw [iN hl];ext
end
structure DE(X:Cx)(E:XK)(e:Expr)(t:TE)(m:ME):Prop where
 p:PE X e t
 s:SE X.K X.m E t m
structure DT(X:Cx)(E:XK)(e:Expr)(t:TT)(m:MB):Prop where
 p:PT X e t
 s:STt X.K X.m E t m
structure DW(X:Cx)(E:XK)(e:Expr)(t:TT)(m:MB):Prop where
 p:PW X e t
 s:STt X.K X.m E t m
structure DA(X:Cx)(E:XK)(n:Nat)(es:List Expr)(t:TA)(m:MA):Prop where
 p:PA X es t
 s:SA X.K X.m E t m
 n:SAn n m
structure DO(X:Cx)(E:XK)(e:Option Expr)(t:TO)(m:Ev->Res (Option Int)):Prop where
 p:PO X e t
 s:SO X.K X.m E t m
structure DS(X:Cx)(E:XK)(st:Stmt)(t:TS)(m:MS):Prop where
 p:PS X st t
 s:SS X.K X.m E t m
structure DSs(X:Cx)(E:XK)(st:List Stmt)(t:TS)(m:MS):Prop where
 p:PSs X st t
 s:SS X.K X.m E t m
structure DG(X:Cx)(n:Nat)(e:Expr)(t:TG)(g:MG):Prop where
 p:PG X e t
 s:SG X.K X.m n t g
structure DGs(X:Cx)(n:Nat)(es:List Expr)(t:TGs)(g:MGs):Prop where
 p:PGs X es t
 s:SGs X.K X.m n t g
structure DI(X:Cx)(E:XK)(tg e:Expr)(t:TI)(m:MI):Prop where
 p:PI X tg e t
 s:SI X.K X.m E t m
section
variable {a b c':Expr} {ta tb tc:TE} {ma mb mc:ME} {sa sb:TT} {na nb:MB} {t:TA} {m:MA}
def d_v(i)(hN:X.N[i]?=some x:=by rfl)(hv:Dr X.v.scope x:=by walk_at "vv")(hd:ND x:=by decide)(hcd:NE x:=by decide):DE X E (.Name x pos) (tVar i) (v i):=⟨Ek hN hv hd hcd,se_v i⟩
def Es{i j}:DE X E (.Constant (.int i) j pos) (tC (.int i)) (c (.int i)):=⟨Zm,se_c λ_=>.int _⟩
def La{i j}:DE X E (.Constant (.bool i) j pos) (tC (.bl i)) (c (.bl i)):=⟨Zyq,se_c λ_=>.bl _⟩
def jw{j}:DE X E (.Constant .none j pos) (tC .non) (c .non):=⟨Vz,se_c λ_=>.non⟩
def Qk{k:String}(hg:Gl X x)(hm:X.m x=none)(hv:bootBuiltins x=some (.type k))(hn:x ≠ "__name__":=by decide)(hd:ND x:=by decide):DE X E (.Name x pos) (tC (.ty k)) (c (.ty k)) :=
 ⟨p7 hg hm hv hn hd,se_c λ_=>.ty _⟩
def Ng{i:Int}(hg:Gl X x)(hm:X.m x=some (.int i tk))(hd:ND x:=by decide):DE X E (.Name x pos) (tC (.int i)) (c (.int i)):=⟨Uu hg hm ⟨_,rfl⟩ hd,se_c λ_=>.int _⟩
def JD(ho:OpR X (binaryOp op) r)(hf:OpD X.K X.m r f)(ha:DE X E a ta ma)(hb:DE X E b tb mb):DE X E (.BinOp a op b pos) (tOp r ta tb) (o2 f ma mb):=⟨gY ho ha.p hb.p,R0 hf ha.s hb.s⟩
def Td(ho:OpR X (compareOp op) r)(hf:OpD X.K X.m r f)(ha:DE X E a ta ma)(hb:DE X E b tb mb)(hm:behindInMarks op b=false):DE X E (.Compare a [op] [b] pos) (tOp r ta tb) (o2 f ma mb):=⟨uR ho ha.p hb.p hm,R0 hf ha.s hb.s⟩
def Ig(ho:OpR X (compareOp op) r)(hf:OpD X.K X.m r f)(ha:DE X E a ta ma)(hb:DE X E b tb mb)(hm:behindInMarks op b=false):DT X E (.Compare a [op] [b] pos) (Fw (tOp r ta tb)) (trb (o2 f ma mb)):=⟨Vh ho ha.p hb.p hm,Vy (R0 hf ha.s hb.s)⟩
def OpR.or(h:OpR X f r)(h':OpR X f r'):OpR X f (λx y H Q=>r x y H Q\/r' x y H Q):=by
 intro a s Y H x y v u Q I b c q;rcases q with q | q
 .exact h a s Y H x y v u Q I b c q
 .exact h' a s Y H x y v u Q I b c q
def Zrk:OpR X (binaryOp .Add) (Zr X.K):=by
 intro a s Y H x y v u Q I d e h;obtain ⟨l,b,i,j,rfl,rfl,c,f,g,q⟩:=h;cases d;cases e;exact yI I c f g q
def yO:OpR X (binaryOp .Add) (cC X.K):=by
 intro c s Y H x y v u Q I e g h;obtain ⟨a,b,m,n,rfl,rfl,i,f,l,d,j,k⟩:=h;cases e;cases g;exact ZpB I i f l d j k
def uY:OpR X (binaryOp .Add) (Vi X.K):=OpR.or qR (OpR.or Zrk (OpR.or yO ZkY))
def qT(ha:DE X E a ta ma)(hb:DE X E b tb mb):DE X E (.BinOp a .Add b pos) (tOp (Vi X.K) ta tb) (o2 An ma mb):=JD uY zW ha hb
def u5(ha:DE X E a ta ma)(hb:DE X E b tb mb):DE X E (.BinOp a .Sub b pos) (tOp (rI0 λi j=>V.int (i - j)) ta tb) (o2 dSub ma mb):=JD pL xR ha hb
def ZuV{a b:Int}(h:Bp a b=true):IntMulOk a b:=by
 have h':(a.natAbs<2^64\/b.natAbs<2^64)\/a.natAbs.log2+b.natAbs.log2<100000000:=by simpa [Bp] using h
 rcases h' with (h' | h') | h'
 .exact .of_left (intBits_le_iff.mpr h')
 .exact .of_right (intBits_le_iff.mpr h')
 .have d:a.natAbs<2^(a.natAbs.log2+1):=Nat.lt_log2_self;have c:b.natAbs<2^(b.natAbs.log2+1):=Nat.lt_log2_self;exact IntMulOk.of_le (intBits_le_iff.mpr d) (intBits_le_iff.mpr c) (by lia)
def su:OpD K mg (rI IntMulOk λi j=>.int (i*j)) BK:=Ml λa b=>by
 unfold iMul;by_cases h:Bp a b=true
 .rw [iP h];exact .inl ⟨_,rfl,ZuV h,λ_=>.int _⟩
 lia
def nP(ha:DE X E a ta ma)(hb:DE X E b tb mb):DE X E (.BinOp a .Mult b pos) (tOp (rI IntMulOk λi j=>V.int (i*j)) ta tb) (o2 BK ma mb):=JD Zs6 su ha hb
def oN(ha:DE X E a ta ma)(hb:DE X E b tb mb):DE X E (.BinOp a .Mod b pos) (tOp (rI (λ_ j=>j≠0) λi j=>V.int (i.fmod j)) ta tb) (o2 Aq ma mb):=JD mK sy ha hb
def vV(ha:DE X E a ta ma)(hb:DE X E b tb mb):DE X E (.BinOp a .FloorDiv b pos) (tOp (rI Xi λi j=>V.int (i.fdiv j)) ta tb) (o2 Az ma mb):=JD qz qX ha hb
def ZyO(ha:DE X E a ta ma)(hb:DE X E b tb mb):DE X E (.BinOp a .Pow b pos) (tOp (rI CPow λi j=>V.int (i^j.toNat)) ta tb) (o2 dPow ma mb):=JD ZwE qx ha hb
def lw(ha:DE X E a ta ma)(hb:DE X E b tb mb):DE X E (.BinOp a .LShift b pos) (tOp (rI CPow λi j=>V.int (i*2^j.toNat)) ta tb) (o2 dShl ma mb):=JD yH yC ha hb
def ZxG(ha:DE X E a ta ma)(hb:DE X E b tb mb):DE X E (.BinOp a .RShift b pos) (tOp (rI (λ_ j=>0<=j) λi j=>V.int (i/2^j.toNat)) ta tb) (o2 dShr ma mb):=JD Zu3 tH ha hb
def ZyH(ha:DE X E a ta ma):DE X E (.UnaryOp .USub a pos) (tUn (rU λi=>V.int (-i)) ta) (o1 dNeg ma):=⟨ZyB Zva ha.p,jk (Zts λ_ _ _ q=>⟨_,rfl,q⟩) ha.s⟩
def yaU(ha:DE X E a ta ma)(hb:DE X E b tb mb):DE X E (.Compare a [.Lt] [b] pos) (tOp (rI0 λi j=>V.bl (decide (i<j))) ta tb) (o2 dLt ma mb):=Td cG Z9 ha hb (GK _)
def lX(ha:DE X E a ta ma)(hb:DE X E b tb mb):DE X E (.Compare a [.LtE] [b] pos) (tOp (rI0 λi j=>V.bl (decide (i<=j))) ta tb) (o2 dLe ma mb):=Td ZR j7 ha hb (GK _)
def pX(ha:DE X E a ta ma)(hb:DE X E b tb mb):DE X E (.Compare a [.GtE] [b] pos) (tOp (rI0 λi j=>V.bl (decide (j<=i))) ta tb) (o2 dGe ma mb):=Td bL jN ha hb (GK _)
def mq(ha:DE X E a ta ma)(hb:DE X E b tb mb):DT X E (.Compare a [.Lt] [b] pos) (Fw (tOp (rI0 λi j=>V.bl (decide (i<j))) ta tb)) (trb (o2 dLt ma mb)):=Ig cG Z9 ha hb (GK _)
def qm(ha:DE X E a ta ma)(hb:DE X E b tb mb):DT X E (.Compare a [.LtE] [b] pos) (Fw (tOp (rI0 λi j=>V.bl (decide (i<=j))) ta tb)) (trb (o2 dLe ma mb)):=Ig ZR j7 ha hb (GK _)
def Wm(ha:DE X E a ta ma)(hb:DE X E b tb mb):DT X E (.Compare a [.Gt] [b] pos) (Fw (tOp (rI0 λi j=>V.bl (decide (j<i))) ta tb)) (trb (o2 dGt ma mb)):=Ig m9 ZwQ ha hb (GK _)
def Zx0(ha:DE X E a ta ma)(hb:DE X E b tb mb):DT X E (.Compare a [.GtE] [b] pos) (Fw (tOp (rI0 λi j=>V.bl (decide (j<=i))) ta tb)) (trb (o2 dGe ma mb)):=Ig bL jN ha hb (GK _)
mutual
def pyD:D->PyData
 | .non=>.none
 | .bl b=>.bool b
 | .int i=>.int i
 | .str x=>.str x
 | .tup xs=>.tuple (pyDs xs)
 | .lst xs=>.list (pyDs xs)
 | _=>.none
def pyDs:List D->List PyData
 | []=>[]
 | x::r=>pyD x::pyDs r
end
mutual
theorem Qp:∀x y,∀k l,Dl.plain k x=true->Dl.plain l y=true->eqD x y=PyData.eqv (pyD x) (pyD y)
 | .non,y,_,_,_,hy=>by cases y<;>first | rfl | (simp [Dl.plain] at hy)
 | .bl _,y,_,_,_,hy=>by cases y<;>first | rfl | (simp [Dl.plain] at hy)
 | .int _,y,_,_,_,hy=>by cases y<;>first | rfl | (simp [Dl.plain] at hy)
 | .str _,y,_,_,_,hy=>by cases y<;>first | rfl | (simp [Dl.plain] at hy)
 | .tup xs,y,k,l,hx,hy=>by
  cases y<;>first | rfl | (simp [Dl.plain] at hy;done) | skip
  rename_i ys;cases k with
  | zero=>ext
  | succ k=>
   cases l with
   | zero=>ext
   | succ l=>exact Va xs ys k l (by ext) (by ext)
 | .lst xs,y,k,l,hx,hy=>by
  cases y<;>first | rfl | (simp [Dl.plain] at hy;done) | skip
  rename_i ys;cases k with
  | zero=>ext
  | succ k=>
   cases l with
   | zero=>ext
   | succ l=>exact Va xs ys k l (by ext) (by ext)
 | .ty _,_,k,_,hx,_=>by ext
 | .cls _,_,k,_,hx,_=>by ext
 | .exc _,_,k,_,hx,_=>by ext
 | .ins _ _ _,_,k,_,hx,_=>by ext
theorem Va:∀xs ys,∀k l,Dl.Bb k xs=true->Dl.Bb l ys=true->eqDs xs ys=PyData.eqvAll (pyDs xs) (pyDs ys)
 | [],[],_,_,_,_=>rfl
 | [],_::_,_,_,_,_=>rfl
 | _::_,[],_,_,_,_=>rfl
 | x::xs,y::ys,k,l,hx,hy=>by
  have a:Dl.plain k x=true/\Dl.Bb k xs=true:=by simpa [Dl.Bb] using hx
  have b:Dl.plain l y=true/\Dl.Bb l ys=true:=by simpa [Dl.Bb] using hy
  show (eqD x y&&eqDs xs ys)=(PyData.eqv (pyD x) (pyD y)&&PyData.eqvAll (pyDs xs) (pyDs ys));rw [Qp x y k l a.1 b.1,Va xs ys k l a.2 b.2]
end
mutual
theorem Kr:∀x k,Dl.plain k x=true->(pyD x).canLay0=true/\(pyD x).depth<=k
 | .non,_,_=>⟨rfl,Bw _⟩
 | .bl _,_,_=>⟨rfl,Bw _⟩
 | .int _,_,_=>⟨rfl,Bw _⟩
 | .str x,_,h=>⟨by ext,Bw _⟩
 | .tup xs,0,h=>by ext
 | .lst xs,0,h=>by ext
 | .tup xs,k+1,h=>by
  obtain ⟨a,b⟩:=TX xs k (by ext);exact ⟨a,JL b⟩
 | .lst xs,k+1,h=>by
  obtain ⟨a,b⟩:=TX xs k (by ext);exact ⟨a,JL b⟩
 | .ty _,k,h=>by ext
 | .cls _,k,h=>by ext
 | .exc _,k,h=>by ext
 | .ins _ _ _,k,h=>by ext
theorem TX:∀xs k,Dl.Bb k xs=true->PyData.canLayAll0 (pyDs xs)=true/\PyData.depthAll (pyDs xs)<=k
 | [],_,_=>⟨rfl,Bw _⟩
 | x::xs,k,h=>by
  have a:Dl.plain k x=true/\Dl.Bb k xs=true:=by simpa [Dl.Bb] using h
  obtain ⟨e,c⟩:=Kr x k a.1;obtain ⟨d,b⟩:=TX xs k a.2;refine ⟨?_,Nat.max_le.mpr ⟨c,b⟩⟩;show (PyData.canLay0 (pyD x)&&PyData.canLayAll0 (pyDs xs))=true
  lia
end
mutual
theorem LK{K:W1}{mg:MgT}{F:Hp}{x:V}{d:D}{k:Nat}(h:Rp K mg F x d)(p:Dl.plain k d=true):DV K F x (pyD d):=by
 cases h with
 | non=>exact .non
 | bl b=>exact .bl b
 | int b=>exact .int b
 | str b=>exact .str b
 | tup h r=>
  cases k with
  | zero=>ext
  | succ k=>exact .tup h (RJ r (by ext))
 | lst h r=>
  cases k with
  | zero=>ext
  | succ k=>exact .lst h (RJ r (by ext))
 | ty _=>ext
 | cls _=>ext
 | exc _ _=>ext
 | ins _ _ _ _ _=>ext
theorem RJ{K:W1}{mg:MgT}{F:Hp}{xs:List V}{ds:List D}{k:Nat}(h:Rps K mg F xs ds)(p:Dl.Bb k ds=true):DVs K F xs (pyDs ds):=by
 cases h with
 | nil=>exact .nil
 | cons h r=>
  have a:=(by simpa [Dl.Bb] using p);exact .cons (LK h a.1) (RJ r a.2)
end
mutual
theorem Mm{K:W1}{F H:Hp}(s:Same F H){x:V}{d:PyData}(h:DV K F x d):DV K H x d:=by
 cases h with
 | non=>exact .non
 | bl b=>exact .bl b
 | int b=>exact .int b
 | str b=>exact .str b
 | tup h r=>exact .tup (Eg s h) (Qz s r)
 | lst h r=>exact .lst (s.seq h) (Qz s r)
theorem Qz{K:W1}{F H:Hp}(s:Same F H){xs:List V}{ds:List PyData}(h:DVs K F xs ds):DVs K H xs ds:=by
 cases h with
 | nil=>exact .nil
 | cons h r=>exact .cons (Mm s h) (Qz s r)
end
def Zw:OpD K mg (rEqD K id) dEq:=by
 intro E F H x y c b s g i;unfold dEq;by_cases h:(Dl.plain 50 c&&Dl.plain 50 b)=true
 .rw [iP h];have a:Dl.plain 50 c=true/\Dl.plain 50 b=true:=by simpa using h
  obtain ⟨e,f⟩:=Kr c 50 a.1;obtain ⟨d,j⟩:=Kr b 50 a.2;exact .ret s (.bl _) λQ q=>⟨_,_,Mm s (LK g a.1),Mm s (LK i a.2),e,d,Ak f (by decide),by rw [<-Qp c b 50 50 a.1 a.2];exact q⟩
 .rw [iN h];ext
def ZvV:OpD K mg (rEqD K not) dNe:=by
 intro E F H x y c b s g i;unfold dNe;by_cases h:(Dl.plain 50 c&&Dl.plain 50 b)=true
 .rw [iP h];have a:Dl.plain 50 c=true/\Dl.plain 50 b=true:=by lia
  obtain ⟨e,f⟩:=Kr c 50 a.1;obtain ⟨d,j⟩:=Kr b 50 a.2;exact .ret s (.bl _) λQ q=>⟨_,_,Mm s (LK g a.1),Mm s (LK i a.2),e,d,Ak f (by decide),by rw [<-Qp c b 50 50 a.1 a.2];exact q⟩
 .rw [iN h];ext
def pM(hr:Room k X.A)(ha:DE X E a ta ma)(hb:DE X E b tb mb):DE X E (.Compare a [.Eq] [b] pos) (tOp (rEqD X.K id) ta tb) (o2 dEq ma mb):=Td (Yo hr.units) Zw ha hb (GK _)
def T3(hr:Room k X.A)(ha:DE X E a ta ma)(hb:DE X E b tb mb):DT X E (.Compare a [.Eq] [b] pos) (Fw (tOp (rEqD X.K id) ta tb)) (trb (o2 dEq ma mb)):=Ig (Yo hr.units) Zw ha hb (GK _)
def Rq(hr:Room k X.A)(ha:DE X E a ta ma)(hb:DE X E b tb mb):DT X E (.Compare a [.NotEq] [b] pos) (Fw (tOp (rEqD X.K not) ta tb)) (trb (o2 dNe ma mb)):=Ig (sE hr.units) ZvV ha hb (GK _)
def W2{j pos'}(ha:DE X E a ta ma):DT X E (.Compare a [.Is] [.Constant .none j pos'] pos) (Fw (tOp (λx y H Q=>y=V.non/\Q (V.bl (decide (x=V.non))) H) ta (tC .non))) (trb (o1 dIsN ma)):=⟨Vh Zuf ha.p Vz (GK _),Vy (Zut ha.s)⟩
def gh{j pos'}(ha:DE X E a ta ma):DT X E (.Compare a [.IsNot] [.Constant .none j pos'] pos) (Fw (tOp (λx y H Q=>y=V.non/\Q (V.bl (!decide (x=V.non))) H) ta (tC .non))) (trb (o1 Ih ma)):=⟨Vh Zsj ha.p Vz (GK _),Vy (uG ha.s)⟩
def Hz(ha:DE X E a ta ma)(hb:DE X E b tb mb)(hs:Tw b:=by exact λ_ _=>rfl):DE X E (.Subscript a b pos) (tOp (rIxD X.K) ta tb) (o2 dIx ma mb):=⟨Rx (IxR.or Q4 Ua) ha.p hb.p hs,R0 nG ha.s hb.s⟩
def HS(ha:DE X E a ta ma)(he:∀whole,isTrue a X.v whole=(do let v <-whole;standAt a.pos;holding [v] (truthy v)):=by intro _;rfl):DT X E a (L2.tB ta) (trb ma):=⟨Zww ha.p he,st_b ha.s⟩
def nj(ha:DT X E a sa na):DW X E (.BoolOp .And [a] pos) sa na:=⟨zB ha.p,ha.s⟩
def J0(ha:DT X E a sa na):DW X E (.BoolOp .Or [a] pos) sa na:=⟨yj ha.p,ha.s⟩
def iC{rest:List Expr}(ha:DT X E a sa na)(hb:DW X E (.BoolOp .And (b::rest) pos) sb nb):DW X E (.BoolOp .And (a::b::rest) pos) (tAnd sa sb) (bAnd na nb):=⟨wD ha.p hb.p,Zw2 ha.s hb.s⟩
def Ir{rest:List Expr}(ha:DT X E a sa na)(hb:DW X E (.BoolOp .Or (b::rest) pos) sb nb):DW X E (.BoolOp .Or (a::b::rest) pos) (tOr sa sb) (bOr na nb):=⟨rm ha.p hb.p,ZxK ha.s hb.s⟩
def DW.dt(h:DW X E a sa na):DT X E a sa na:=⟨h.p.pt,h.s⟩
def Il(ha:DT X E a sa na):DT X E (.UnaryOp .Not a pos) (tNot sa) (bNot na):=⟨ZuQ ha.p,uW ha.s⟩
def pK{op}(ha:DE X E a ta ma):DE X E (.BoolOp op [a] pos) ta ma:=⟨xj ha.p,ha.s⟩
def pH{rest:List Expr}(ha:DE X E a ta ma)(hb:DE X E (.BoolOp .And (b::rest) pos) tb mb):DE X E (.BoolOp .And (a::b::rest) pos) (Xj ta tb) (eAnd ma mb):=⟨yr ha.p hb.p,Zuu ha.s hb.s⟩
def ZyI(ha:DE X E a ta ma):DE X E (.UnaryOp .Not a pos) (VN ta) (eNot ma):=⟨uL ha.p,ZvB ha.s⟩
def xV(hc:DT X E c' sa na)(ha:DE X E a ta ma)(hb:DE X E b tb mb):DE X E (.IfExp c' a b pos) (tIf sa ta tb) (ife na ma mb):=⟨mj hc.p ha.p hb.p,uJ hc.s ha.s hb.s⟩
def Bo:DA X E 0 [] tNil Ab:=⟨GD,VB,jQ⟩
def Ba(ha:DE X E e te me)(hr:DA X E n es t m)(hs:StE X e es:=by rfl):DA X E (n+1) (e::es) (Bc te t) (Aa me m):=⟨EY ha.p hr.p hs,Zn ha.s hr.s,vo hr.n⟩
def bG{x1}(h:DA X E n es t m)(hn:n<=sizeLine:=by decide):DE X E (.Tuple es x1 pos) (tTup t) (mtp m):=⟨cM h.p,zr h.s h.n hn⟩
def fZ(h:DA X E n es t m)(hn:n<=sizeLine:=by decide):DE X E (.List es pos) (tLst t) (mls m):=⟨Pr h.p,yQ h.s h.n hn⟩
def Gm{id:String}{r:List V->Hp->VK->Prop}{f:List D->Res D}{p:Pos}(hc:Ep X (.builtin id) r)(hf:CallD X.K X.m r f)(hg:Gl X x)(hm:X.m x=none)(hv:bootBuiltins x=some (.builtin id))(ha:DA X E n (e::es) t m)(hn:x ≠ "__name__":=by decide)(hdb:ND x:=by decide)(he:StE X e es:=by rfl)(hpl:PlE X pos es:=by rfl):DE X E (.Call (.Name x p) (e::es) [] pos) (tCB r t) (on f m):=⟨YJ hc hg hm hv ha.p hn hdb he hpl,cH hf ha.s⟩
def Mv(hc:Ep X (.type T) r)(hf:CallD X.K X.m r f)(hg:Gl X x)(hm:X.m x=none)(hv:bootBuiltins x=some (.type T))(ha:DA X E n (e::es) t m)(hn:x ≠ "__name__":=by decide)(hdb:ND x:=by decide)(he:StE X e es:=by rfl)(hpl:PlE X pos es:=by rfl):DE X E (.Call (.Name x p) (e::es) [] pos) (tCB r t) (on f m):=⟨fW hc hg hm hv ha.p hn hdb he hpl,cH hf ha.s⟩
abbrev FnO(P:Program)(w:World)(K)(mg:MgT)(base:Heap):=FnOk P w K mg base (CXR P w)
structure Cal(P:Program)(w:World)(K:W1)(mg:MgT)(base:Heap)(n:Nat)(x:Str)(ps:List Str)(m:List D->Res D):Prop where
 ex:∃(f:Addr) (fd:FuncData),FnO P w K mg base n f fd ps (spD K mg ps.length m)/\Binds K fd ps []/\W.keepIn K (.ref f)=true/\mg x=some (.ref f)
def Hx(C:Cal X.p X.w X.K X.m X.B k x ps f)(hr:Room l X.A)(hn:k<=l)(hg:Gl X x)(hx:Dp (CXR X.p X.w) X E)(ha:DA X E n (e::es) t m)(hps:ps.length=n:=by rfl)(hdb:ND x:=by decide)(he:StE X e es:=by rfl)(hpl:PlE X pos es:=by rfl) :
  DE X E (.Call (.Name x p) (e::es) [] pos) (Hf (spD X.K X.m ps.length f) [] E t) (on f m):=by
 obtain ⟨g,d,F,b,c,a⟩:=C.ex;exact ⟨Vb F (hr.mono hn) hg a c b .nil hx ha.p hdb he hpl,by rw [hps];exact xO ha.s ha.n⟩
def Zvx:Dp (CXR X.p X.w) (BR X N scope cl C s H fp pn) E0:=λ_ _ _ _ _ _ _ h=>h.elim
end
section
variable {a b c' tg:Expr} {ta tb tc:TE} {ma mb mc:ME} {sa sb:TT} {na nb:MB} {t:TA} {m:MA}
def ZsT:SlR X (rSlU X.K):=by
 intro c s Y H x v p o n l q Q I i j f g h;obtain ⟨a,b,rfl,m,t,u⟩:=h;by_cases hw:HT.sIx b.length 0 n=0/\HT.sIx b.length b.length l=b.length
 .cases i;obtain ⟨e,r,k,w⟩:=I.tuple m;have d:e.toArray.size=b.length:=by rw [Ht];exact r.length.symm
  exact ⟨"tuple",_,PyProof.Rows.slot_tuple_getitem.lookup,k.typeIs,HT.Zed k j f g (by rw [d];exact hw) ⟨.ref a,H,I,rfl,t hw⟩⟩
 .exact Zvd c s Y H (.ref a) v p o n l q Q I i j f g ⟨a,b,rfl,m,hw,u hw⟩
def ZsH:DO X E none Wn pno:=⟨Zsq,M6⟩
def Zrw(h:DE X E a ta ma):DO X E (some a) (V0 ta) (pso ma):=⟨ZsY h.p,Mf h.s⟩
def ZxS{lo hi:Option Expr}{tl th:TO}{ml mh:Ev->Res (Option Int)}{p2:Pos}(ha:DE X E a ta ma)(hl:DO X E lo tl ml)(hh:DO X E hi th mh):DE X E (.Subscript a (.Slice lo hi none p2) pos) (tSl (rSlD X.K) ta tl th) (cut ma ml mh) :=
 ⟨Zph (SlR.or qD ZsT) ha.p hl.p hh.p,ZvS ha.s hl.s hh.s⟩
def Zsh{n:String}(ht:T9 d=some tn)(hn:Qs.contains n=true):W.kitOne K (.type tn) (.type n)=some (isTy tn n):=by
 have b:n = "int"\/n = "bool"\/n = "str"\/n = "tuple"\/n = "list"\/n = "dict":=by
  simpa [Qs] using hn
 have a:tn = "NoneType"\/tn = "bool"\/tn = "int"\/tn = "str"\/tn = "tuple"\/tn = "list":=by
  cases d<;>simp [T9] at ht<;>subst ht<;>simp
 rcases a with rfl | rfl | rfl | rfl | rfl | rfl<;>rcases b with rfl | rfl | rfl | rfl | rfl | rfl <;>
  first
  | exact Zo8 K _
  | exact mV K (by decide +kernel) (by decide +kernel) (by decide +kernel)
def rIsi(K:W1):List V->Hp->VK->Prop:=λd H Q=>∃x n c b,d=[x,.ty n]/\W.kitOne K (.type c) (.type n)=some b/\Q (.bl b) H /\
 ((x=.non/\c = "NoneType")\/(∃y,x=.bl y/\c = "bool")\/(∃y,x=.int y/\c = "int")\/(∃y,x=.str y/\c = "str")\/(∃a d,x=.ref a/\SqT K H a d/\c = "tuple")\/(∃a d,x=.ref a/\SqL K H a d/\c = "list"))
def ZlG:Ep X (.builtin "isinstance") (rIsi X.K):=by
 intro d s Y H j t Q I r h;obtain ⟨x,n,v,k,rfl,e,q,h⟩:=h;obtain ⟨u,p,rfl,c,m⟩:=vals2 r;cases m;have b:∀l,EP X d Y Q (.bool k) { s with toks:=l }:=λl=>⟨.bl k,H,I.tok _,rfl,q⟩
 rcases h with ⟨rfl,rfl⟩ | ⟨y,rfl,rfl⟩ | ⟨y,rfl,rfl⟩ | ⟨y,rfl,rfl⟩ | ⟨a,j,rfl,hq,rfl⟩ | ⟨a,j,rfl,hq,rfl⟩
 .exact Rr I c .non e b
 .exact Rr I c (.bl y) e b
 .exact Rr I c (.int y) e b
 .exact Rr I c (.str y) e b
 .cases c;obtain ⟨g,_,⟨o,i,f,_⟩,_⟩:=I.tuple hq;exact Hg W.kitx_tuple I.kIn ⟨o,i,f⟩ e (λz=>nomatch z) b
 .cases c;obtain ⟨g,_,⟨o,_,i,f,_⟩,_⟩:=I.list hq;exact Hg W.kitx_list I.kIn ⟨o,i,f⟩ e (λz=>nomatch z) b
def ZlK:CallD K mg (rIsi K) bIsi:=by
 intro E F H f g s r;unfold bIsi;split
 .next d a=>
  obtain ⟨x,y,rfl,b,c⟩:=r.two;obtain rfl:=c.z;by_cases hn:Qs.contains a=true
  .rw [iP hn];cases e:T9 d with
   | none=>ext
   | some tn=>
    have k:=Zsh (K:=K) e hn;refine .ret s (.bl _) λQ q=>⟨x,a,tn,_,rfl,k,q,?_⟩;cases b with
    | non=>cases e;exact .inl ⟨rfl,rfl⟩
    | bl y=>cases e;exact .inr (.inl ⟨y,rfl,rfl⟩)
    | int y=>cases e;exact .inr (.inr (.inl ⟨y,rfl,rfl⟩))
    | str y=>cases e;exact .inr (.inr (.inr (.inl ⟨y,rfl,rfl⟩)))
    | ty y=>cases e
    | cls y=>cases e
    | exc y h=>cases e
    | ins m h o q r=>cases e
    | tup h r=>cases e;exact .inr (.inr (.inr (.inr (.inl ⟨_,_,rfl,Eg s h,rfl⟩))))
    | lst h r=>cases e;exact .inr (.inr (.inr (.inr (.inr ⟨_,_,rfl,s.seq h,rfl⟩))))
  .rw [iN hn];ext
 .ext
def iK(hN:X.N.Nodup)(hi:X.N[i]?=some x)(hx:Loc X.v.scope x)(hl:i<n)(hf:FnL X x:=by walk_at "ff"):DG X n (.Name x pos) (Bt i) (gN i) :=
 ⟨Zt6 hN hi hx hf,zU hl⟩
def uh:DGs X n [] gNil gs0:=⟨Zto,Zs9⟩
def yD{t:TG}{u:TGs}{g:MG}{gs:MGs}(h1:DG X n e t g)(h2:DGs X n es u gs)(hs:(assignEach (e::es) X.v).map (·.2)=assign e X.v::(assignEach es X.v).map (·.2):=by rfl):DGs X n (e::es) (Gx t u) (gs1 g gs) :=
 ⟨wY h1.p h2.p hs,sU h1.s h2.s⟩
def ZvX(hc:X.c=true)(h:DGs X n es u g)(hn:(assignEach es X.v).length=j:=by rfl)(hst:(assignEach es X.v).findIdx? (·.1)=none:=by rfl):DG X n (.Tuple es k pos) (gSeq X.K j u) (gU j g):=by
 refine ⟨?_,Zwv h.s⟩;intro c s Y H v w Q I r hw;rcases hw with hw | hw
 .exact xK hc h.p hn hst c s Y H v w Q I r hw
 .obtain ⟨a,f,t,q,d,hw⟩:=hw;subst t;cases r;obtain ⟨x,y,i,A⟩:=I.list q;refine ZeQ (I.ok.hd hc) i.isList (by simp [hn,<-d,y.length]) hst λz m=>?_;have l:=I.kept (t':=s.toks) λb o e=>m b o (Am (BP e)) e;exact h.p c _ Y H f _ Q l (by ext) hw
def CP(h:DE X E a ta ma):DI X E tg a (iSeq X.K ta) (iv ma):=by
 refine ⟨?_,oh h.s⟩;intro f s Y H R I l;refine thn (h.p f s Y H _ I l) λv d zq=>?_;obtain ⟨x,k,c,m,j⟩:=zq;obtain ⟨p,rfl,j⟩:=j;cases m;rcases j with ⟨⟨xs,hq⟩,q⟩ | ⟨⟨xs,hq⟩,q⟩
 .obtain ⟨i,r,g,t⟩:=c.list hq;refine QK g.isList ?_;refine ⟨d.heap.objs.size,[d.heap.objs.size],_,_,k,rfl,c.kept λb o e=>Bj _ e,Zm6 p _,⟨_,CJ _ rfl,rfl,rfl⟩,λb n=>?_,q⟩;have e:b=d.heap.objs.size:=by simp_all
  subst e;exact c.fpOk (Ae _) (c.hok.fresh (Ae _))
 .obtain ⟨i,r,g,t⟩:=c.tuple hq;refine wpAny_pyIter_tuple (g) ?_;refine ⟨d.heap.objs.size,[d.heap.objs.size],_,_,k,rfl,c.kept λb o e=>Bj _ e,wJ p _,⟨_,CJ _ rfl,rfl,rfl⟩,λb n=>?_,q⟩;have e:b=d.heap.objs.size:=by simp_all
  subst e;exact c.fpOk (Ae _) (c.hok.fresh (Ae _))
def ZxE(hg:Gl X "range")(hm:X.m "range"=none)(ha:DA X E n [a] t m)(hs:starEach [a] X.v=[(false,eval a X.v)]:=by rfl):DI X E tg (.Call (.Name "range" p) [a] [] pos) (Vm t) (r1 m):=⟨Zof hg hm ha.p hs,ZxH ha.s⟩
def b7(hg:Gl X "range")(hm:X.m "range"=none)(ha:DA X E n [a,b] t m)(hs:starEach [a,b] X.v=[(false,eval a X.v),(false,eval b X.v)]:=by rfl)(hs2:starEach [b] X.v=[(false,eval b X.v)]:=by rfl) :
  DI X E tg (.Call (.Name "range" p) [a,b] [] pos) (XX t) (r2 m):=⟨wV hg hm ha.p hs hs2,yK ha.s⟩
def fX:∀(ds:List D) (k i:Nat) (d:D),(Dl.numbered k ds)[i]?=some d->∃x,ds[i]?=some x/\d=.tup [.int (k+i:Nat),x]
 | [],_,_,_,h=>by ext
 | x::r,k,0,d,h=>by simp [Dl.numbered] at h;simp_all
 | x::r,k,i+1,d,h=>by
  obtain ⟨y,a,b⟩:=fX r (k+1) i d (by ext)
  grind
def jz:∀ds k,(Dl.numbered k ds).length=ds.length
 | [],_=>rfl
 | _::r,k=>Ew (·+1) (jz r (k+1))
def rA{F:Hp}{a:Addr}(h:SqL K F a xs)(r:Rps K mg F xs ds):ItOk K mg F (Ite K a) (Dl.numbered 0 ds):=by
 intro t u g c i;have b:=(g.trans c).seq h;refine ⟨λd e=>?_,λf=>⟨xs,b,by rw [r.length];rw [jz] at f;exact f⟩⟩;obtain ⟨v,s,rfl⟩:=fX ds 0 i d e;obtain ⟨x,j,o⟩:=r.get s;refine ⟨⟨xs,x,b,j⟩,λy n q=>?_⟩;obtain ⟨T,p,k,rfl,rfl,m⟩:=q;have l:=m xs b;rw [j] at l;cases l;refine ⟨_,.new c k _,.tup (SqT.of Ar) (.cons ?_ (.cons ((o.same g).same (Cp (c.free k) _)) .nil))⟩;rw [Hn];exact .int _
def WX{p:Bool}{a:Addr}(e:Same H H')(h:SqB K p H a xs):SqB K p H' a xs:=by
 cases p
 .exact e.seq h
 .exact Eg e h
def Wd{F:Hp}{x:V}(r:Rp K mg F x d)(e:seqD d=.ok ds):∃p a xs,x=.ref a/\SqB K p F a xs/\Rps K mg F xs ds:=by
 cases r with
 | tup h q=>cases e;exact ⟨true,_,_,rfl,h,q⟩
 | lst h q=>cases e;exact ⟨false,_,_,rfl,h,q⟩
 | _=>cases e
def R3(hg:Gl X "enumerate")(hm:X.m "enumerate"=none)(ha:DA X E n [a] t m)(hs:starEach [a] X.v=[(false,eval a X.v)]:=by rfl):DI X E (.Tuple elts x1 tpos) (.Call (.Name "enumerate" p) [a] [] pos) (Z8 X.K t) (Ks m):=by
 refine ⟨Zsk hg hm ha.p hs,?_⟩;intro i f F H Y Z j;refine (ha.s i f F H Y Z j).bind λo k u c b e=>?_;unfold Uj;split
 .next d=>
  obtain ⟨x,rfl,g⟩:=e.one;cases d with
  | lst c=>
   obtain ⟨_,_,rfl,h,r⟩:=g.l;exact Ans.ret b.s (rA h r) λQ q=>⟨_,rfl,⟨_,b.s.seq h⟩,q⟩
  | tup c=>ext
  | _=>ext
 .ext
end
structure DTs(X:Cx)(E:XK)(ts:List Expr)(t:TT)(m:MB):Prop where
 p:PTs X ts t
 s:STt X.K X.m E t m
section
variable {a b c' tg iter elt:Expr} {ts:List Expr} {ta tb tc:TE} {ma mb mc:ME} {sa sb:TT} {na nb:MB} {t:TA} {m:MA} {y:Str}
def Zwd:STt K mg E tYes yes:=λ_ _ _ _ _ _ r=>Ans.ret (R:=RB) r.ss rfl λ_ q=>q
def pU:DTs X E [] tYes yes:=⟨Zsl,Zwd⟩
def Ztr(h:DT X E a sa na):DTs X E [a] sa na:=⟨oH h.p,h.s⟩
def Cq(hi:DI X E tg iter wi mi)(O:Gw X own cap scope cl:=by walk_at "co")(hc:X.c=true:=by rfl)(hg:∀C s H fp pn,DG (Bj0 X own cap scope cl C s H fp pn) own.length tg (g C s H fp pn) gm:=by walk_at "cg")(ht:∀C s H fp pn,DTs (Bj0 X own cap scope cl C s H fp pn) E0 ts (tt C s H fp pn) na:=by walk_at "ct")(he:∀C s H fp pn,DE (Bj0 X own cap scope cl C s H fp pn) E0 elt (tf C s H fp pn) me:=by walk_at "ce")(hts:ts.length<=1:=by decide)(hs:Fsi iter X:=by intro _;rfl) :
  DE X E (.ListComp elt [⟨tg,iter,ts,0⟩] scope pos) (Gs wi g tt tf own cap) (comp mi own.length (cap.map (·.2)) gm na me) :=
 ⟨ZsC hi.p O hc (λC s H fp pn=>(hg C s H fp pn).p) (λC s H fp pn=>(ht C s H fp pn).p) (λC s H fp pn=>(he C s H fp pn).p) hts hs,
  Yg hi.s (λC s H fp pn=>(hg C s H fp pn).s) (λC s H fp pn=>(ht C s H fp pn).s) (λC s H fp pn=>(he C s H fp pn).s)⟩
def ZP(hN:X.N.Nodup)(hix:X.N[i]?=some x)(hx:Loc X.v.scope x)(hi:DI X E tg iter wi mi)(O:Gw X own cap scope cl)(hc:X.c=true)(hg:∀C s H fp pn,DG (Bj0 X own cap scope cl C s H fp pn) own.length tg (g C s H fp pn) gm)(ht:∀C s H fp pn,DTs (Bj0 X own cap scope cl C s H fp pn) E0 ts (tt C s H fp pn) na)(he:∀C s H fp pn,DE (Bj0 X own cap scope cl C s H fp pn) E0 elt (tf C s H fp pn) me)(hts:ts.length<=1:=by decide)(hsw:swapsWith (.ListComp elt [⟨tg,iter,ts,0⟩] scope pos) (some (.Name x pos')) spos.line X.v=pure true:=by rfl)(hs:Fsi iter X:=by intro _;rfl)(hf:FnL X x:=by walk_at "ff") :
  DS X E (.Assign [.Name x pos'] (.ListComp elt [⟨tg,iter,ts,0⟩] scope pos) spos) (tAsg (Gs wi g tt tf own cap) (Bt i)) (st i (comp mi own.length (cap.map (·.2)) gm na me)) :=
 ⟨RL hN hix hx hi.p O hc (λC s H fp pn=>(hg C s H fp pn).p) (λC s H fp pn=>(ht C s H fp pn).p) (λC s H fp pn=>(he C s H fp pn).p) hts hsw hs hf,
  jO (Yg hi.s (λC s H fp pn=>(hg C s H fp pn).s) (λC s H fp pn=>(ht C s H fp pn).s) (λC s H fp pn=>(he C s H fp pn).s))⟩
def Ib(hN:X.N.Nodup)(hi:X.N[i]?=some x)(hx:Loc X.v.scope x)(he:DE X E e te me)(hs:swapsWith e (some (.Name x pos')) spos.line X.v=pure false:=by rfl)(hf:FnL X x:=by walk_at "ff") :
  DS X E (.Assign [.Name x pos'] e spos) (tAsg te (Bt i)) (st i me):=⟨Wr hN hi hx he.p hs hf,jO he.s⟩
def d9(he:DE X E e te me)(hg:DG X 1000 tg g gm)(hs:swapsWithSole [tg] e spos.line X.v=pure false:=by rfl)(hw:swappedStores [tg] e X.v=pure none:=by rfl)(h1:(assignEach [tg] X.v).map (·.2)=[assign tg X.v]:=by rfl):DS X E (.Assign [tg] e spos) (tAsg te g) (asg gm me):=⟨Rz he.p hg.p hs hw h1,rG he.s hg.s⟩
def Zvp(he:DE X E e te me)(hs:swapsWith e none spos.line X.v=pure false:=by rfl):DS X E (.Expr e spos) (Bx te) (drp me):=⟨HJ he.p hs,ZrD he.s⟩
def Cm(he:DE X E e te me):DS X E (.Return (some e) spos) (tRet te) (ret me):=⟨d8 he.p,Zun he.s⟩
def W3:DS X E (.Continue spos) Mp cnt:=⟨Zjv,Zvv⟩
def Zvw{st:Stmt}{u:TS}{k:MS}(h:DS X E st u k):DS X E st u (frz i k):=⟨h.p,lU h.s⟩
def Bu:DSs X E [] JR nop:=⟨Ru,Xy⟩
def BW{st:Stmt}{u:TS}{k:MS}(h:DS X E st u k):DSs X E [st] u k:=⟨iU h.p,h.s⟩
def Be{st:Stmt}{rest:List Stmt}{u u':TS}{k k':MS}(h:DS X E st u k)(h':DSs X E rest u' k'):DSs X E (st::rest) (tSeq u u') (sq k k'):=⟨Gh h.p h'.p,oX h.s h'.s⟩
def Av{st:Stmt}{rest:List Stmt}{u u':TS}{k k':MS}(h':DSs X E rest u' k')(h:DS X E st u k:=by nofun):DSs X E (st::rest) (tSeq u u') (sq k k'):=Be h h'
def Bv{k:MS}(hc:DT X E c' sa na)(ha:DSs X E as u k)(hb:DSs X E bs u' k'):DS X E (.If c' as bs spos) (tIfS sa u u') (ifs na k k'):=⟨W0 hc.p ha.p hb.p,q7 hc.s ha.s hb.s⟩
def Ge{k:MS}(hp:PassesOwn (model X.p X.w) X.A X.v X.e)(hc:X.c=true)(hi:DI X E tg iter wi mi)(hg:DG X 1000 tg g gm)(hb:DSs X E body u k)(hs:Fsi iter X:=by intro _;rfl):DS X E (.For tg iter body [] spos) (tFor wi g u) (for_ mi gm k):=⟨cN hp hc hi.p hg.p hb.p hs,lO hi.s hg.s hb.s⟩
def jq{k:MS}(hp:PassesOwn (model X.p X.w) X.A X.v X.e)(hc:DT X E c' sa na)(hb:DSs X E body u k):DS X E (.While c' body [] spos) (Q3 sa u) (whl fu na k):=⟨ut hp hc.p hb.p,Zpl hc.s hb.s⟩
end
section
variable {qual:Str} {scope:Scope} {f:Addr} {cd:Value} {outer:List Env} {s₀:Shared} {H₀:Hp} {t:TA} {m:MA}
def RP{F:Hp}(s:Same F H)(r:Rps K mg F vs ds):Rep K mg F H F H (start N vs) (ev0 N.length ds):=by
 have k:=r.length;have b:∀(i:Nat) (c:Cl),(ev0 N.length ds)[i]?=some c->c=.no\/∃d,ds[i]?=some d/\c=.im d:=by
  intro i c e;rw [Oe] at e;by_cases f:i<ds.length
  .rw [Fv (by simpa using f),Cj,BL f] at e;exact .inr ⟨ds[i],BL f,(CW e).symm⟩
  .rw [GJ (by simpa using f),NK] at e;split at e
   .exact .inl (CW e).symm
   .cases e
 refine ⟨.refl s,?_,λi d e=>?_,λi g e=>?_,λi j g m a e=>?_⟩
 .rw [Oe];unfold start;simp [k]
 .rcases b i _ e with z | ⟨d',e1,z⟩
  .cases z
  .cases z;obtain ⟨v,h,l⟩:=r.get e1;refine ⟨v,?_,l⟩;have f:=(Dc.mp h).1;unfold start;rw [Fv (by simpa using f),Cj,h];rfl
 .rcases b i _ e with z | ⟨d',e1,z⟩<;>cases z
 .rcases b i _ e with z | ⟨d',e1,z⟩<;>cases z
def okD{st:Stmt}{mb:MS}(F:Fun K x x st f fd)(S:CT N ps (BJ st))(h:∀(cdv:Value) (A:Around) (outer:List Env) (s:Shared) (H:Hp) (E:XK),Room k (A.deeper (envOfC x (BJ st) s.heap.objs.size f cdv))->∃t,DSs (cxOf (CXR P w) P w K mg base N x (BJ st) f cdv A outer s H E) E (De st) t mb) :
  FnO P w K mg base (k+1) f fd ps (spD K mg ps.length (fn N.length mb)):=by
 obtain ⟨M,T,U,I,L,R,cdv,ct,J,rfl,y,j⟩:=F.ex;refine Lx y j S (λo H Q E q=>q.1) λA outer s H o Q E G i=>?_;obtain ⟨t,m⟩:=h cdv A outer s H E G;refine ⟨t,m.p,?_⟩;obtain ⟨_,n,r,B,D,b,a⟩:=i;have z:=m.s n H n H (start N o) (ev0 N.length r) (RP B D);unfold fn at b a;cases e:mb (ev0 N.length r) with
 | ok fl=>
  rw [e] at z b a;cases fl with
  | nx Z=>exact z _ λc l O _ u=>a .non rfl c l .non u.g .non
  | rt d=>exact z _ λc l v g C=>a d rfl c l v g C
  | bk Z=>ext
  | ct Z=>ext
 | bad=>rw [e] at b;ext
def _root_.L2.Def.cal{st:Stmt}{mb:MS}(D:Def K mg x st ps)(S:CT N ps (BJ st))(h:∀(f:Addr) (cdv:Value) (A:Around) (outer:List Env) (s:Shared) (H:Hp) (E:XK),Room k (A.deeper (envOfC x (BJ st) s.heap.objs.size f cdv))->∃t,DSs (cxOf (CXR P w) P w K mg base N x (BJ st) f cdv A outer s H E) E (De st) t mb) :
  Cal P w K mg base (k+1) x ps (fn N.length mb):=by
 obtain ⟨f,c,F,b,a⟩:=D.ex;exact ⟨f,c,okD F S (h f),b,F.kp,a⟩
end
def qu{e:Value}(h:CXR P w l H s (λ_ _ _=>False) e s'):False:=h
def RM(K:W1):Sp:=λb H Q _=>∃(a:Addr) (ns:List Int),b=[.ref a]/\SqL K H a (ns.map V.int)/\ns.length<=63/\∀c,Q (.bl true) c
def Z6:∀ns:List Int,Rps K mg H (ns.map V.int) (ns.map D.int)
 | []=>.nil
 | n::r=>.cons (.int n) (Z6 r)
def mY(h:∀ns:List Int,ns.length<=63->m [.lst (ns.map .int)]=.ok (.bl true)):∀vs H Q E,RM K vs H Q E->spD K mg 1 m vs H Q E:=by
 rintro vs H Q E ⟨a,ns,rfl,f,c,q⟩;have e:=h ns c;refine ⟨rfl,H,_,Same.refl _,.cons (.lst f (Z6 ns)) .nil,λz=>?_,λd b=>?_⟩
 .lia
 rw [e] at b;cases b;intro i j x _ g;obtain rfl:=g.z
 grind
def Zsp(C:Cal X.p X.w X.K X.m X.B k x ps f)(hr:Room l X.A)(hn:k<=l)(hg:Gl (BR X N scope cl C' s H fp pn) x)(ha:DA (BR X N scope cl C' s H fp pn) E0 n (e::es) t m)(hps:ps.length=n:=by rfl)(hdb:ND x:=by decide)(he:starEach (e::es) (BR X N scope cl C' s H fp pn).v=(false,eval e (BR X N scope cl C' s H fp pn).v)::starEach es (BR X N scope cl C' s H fp pn).v:=by rfl)(hpl:(backTo pos (starEach es (BR X N scope cl C' s H fp pn).v)).any (·.1)=false:=by rfl) :
  DE (BR X N scope cl C' s H fp pn) E0 (.Call (.Name x p) (e::es) [] pos) (Hf (spD X.K X.m ps.length f) [] E0 t) (on f m) :=
 Hx C hr hn hg Zvx ha hps hdb he hpl
section
def all_range:∀bs:List Bool,((List.range bs.length).all λi=>bs.getD i true)=bs.all id
 | []=>rfl
 | b::r=>by
  rw [Gp,Ob,List.all_cons,List.all_map,List.all_cons,<-all_range r];rfl
def iI:∀(bs:List Bool) (its:List Value),Vals (bs.map V.bl) its->its=bs.map Value.bool
 | [],_,.nil=>rfl
 | b::r,_,.cons h t=>by
  cases h;rw [Bk,iI r _ t]
def rAll(K:W1):List V->Hp->VK->Prop:=λb H Q=>∃(a:Addr) (bs:List Bool),b=[.ref a]/\SqL K H a (bs.map V.bl)/\Q (.bl (bs.all id)) H
def Ny(hc:X.c=true):Ep X (.builtin "all") (rAll X.K):=by
 intro g s Y H D E Q I r h;obtain ⟨a,c,rfl,m,q⟩:=h;obtain ⟨u,rfl,j⟩:=vals1 r;cases j;obtain ⟨d,n,f,C⟩:=I.list m;obtain rfl:=iI c d n;have t:a<s.heap.objs.size:=by
  obtain ⟨o,_,p,_⟩:=f;exact BP p
 refine call_all_walk (QK f.isList ?_);refine ⟨s.heap.objs.size,_,_,_,_,_,λi=>c.getD i true,rfl,Walks.list (A:=X.A.in1) (I.ok.hd hc) s.heap.objs.size a (Am t) (c.map Value.bool).toArray,⟨⟨_,CJ _ rfl,rfl,rfl⟩,?_⟩,?_,λw x k=>?_⟩
 .exact f.isList.at λo e=>Bj _ e
 .intro i v y G B F l;have e:v=.bool (c.getD i true):=by
   grind
  subst e;exact Ad l
 .have e:(List.range (c.map Value.bool).toArray.size).all (λi=>c.getD i true)=c.all id:=by
   rw [Ht,Al];exact all_range c
  rw [e];exact ⟨.bl (c.all id),H,I.kept λb o z=>k b o (by simp;exact Am (BP z)) (Bj _ z),rfl,q⟩
def dF{F:Hp}:∀{xs:List V} {ds:List D} {bs:List Bool},Rps K mg F xs ds->bools ds=.ok bs->xs=bs.map V.bl
 | _,_,_,.nil,e=>by cases e;rfl
 | _,_,bs,.cons (d:=d) (ds:=ds) h r,e=>by
  unfold bools at e;cases d with
  | bl b=>
   cases q:bools ds with
   | ok bs'=>
    simp only [q,Res.bind] at e;cases e;cases h;rw [Bk,dF r q]
   | bad=>simp only [q,Res.bind] at e;cases e
  | _=>cases e
def Nh:CallD K mg (rAll K) bAll:=by
 intro E F H f g s r;unfold bAll;split
 .next d=>
  obtain ⟨x,rfl,c⟩:=r.one;cases d with
  | lst es=>
   obtain ⟨_,_,rfl,h,b⟩:=c.l;show Ans mg E (Rp K mg) F H ((bools es).bind λa=>.ok (.bl (a.all id))) _;cases q:bools es with
   | ok a=>
    have e:=dF b q;subst e;exact Ans.ret s (.bl _) λQ z=>⟨_,a,rfl,s.seq h,z⟩
   | bad=>ext
  | _=>ext
 .ext
def Rps.three{K:W1}{mg:MgT}{H:Hp}{xs:List V}{d e f:D}(h:Rps K mg H xs [d,e,f]):∃x y z,xs=[x,y,z]/\Rp K mg H x d/\Rp K mg H y e/\Rp K mg H z f:=by
 cases h with | cons h r=>obtain ⟨_,_,rfl,g⟩:=Rps.two r;exact ⟨_,_,_,rfl,h,g⟩
end
section
def gK{F:Hp}:∀{xs:List V} {ds:List D} {ns:List Int},Rps K mg F xs ds->Ia ds=.ok ns->xs=ns.map V.int
 | _,_,_,.nil,e=>by cases e;rfl
 | _,_,ns,.cons (d:=d) (ds:=ds) h r,e=>by
  unfold Ia at e;cases d with
  | int b=>
   cases q:Ia ds with
   | ok bs'=>
    simp only [q,Res.bind] at e;cases e;cases h;rw [Bk,gK r q]
   | bad=>simp only [q,Res.bind] at e;cases e
  | _=>cases e
end
section
def uE(ha:SA K mg E t m)(hl:SAn n m)(hn:n<=sizeLine):SS K mg E (tAsg (tLst t) (Bt i)) (stO i (mls m)):=by
 intro d k F H Y Z b;have h:=ha d k F H Y Z b;unfold stO mls;cases e:m Z with
 | ok ds=>
  rw [e] at h;exact λD q=>h _ λj o l g a=>⟨by rw [a.length,hl Z ds e];exact hn,λp c=>q j _ _ g.f ((b.gr g).own i c a)⟩
 | bad=>ext
def xT{te:Fam TE}(hi:SI K mg E wi mi)(hg:∀C s H fp pn,SG K mg own.length (t C s H fp pn) g)(ht:∀C s H fp pn,STt K mg E0 (tt C s H fp pn) nt)(he:∀C s H fp pn,SE K mg E0 (te C s H fp pn) me) :
  SS K mg E (tAsg (Gs wi t tt te own cap) (Bt i)) (stO i (comp mi own.length (cap.map (·.2)) g nt me)):=by
 intro l j F H Y Z c;have h:=hi l j F H Y Z c;unfold stO comp;cases e:mi Z with
 | ok ds=>
  rw [e] at h;show AnsS K mg E l j F ((if ds.length<=LIM then (noEx (Dl.Bg g nt me (nB own Z cap) ds)).bind λn=>.ok (.lst n) else .bad).bind λd=>(lstO d).bind λk=>.ok (.nx (Z.set i (.ow k)))) _
  by_cases hl:ds.length<=LIM
  .rw [iP hl];cases e2:Dl.Bg g nt me (nB own Z cap) ds with
   | ok n=>exact λD q=>h _ λx w J a u=>λC s b fp pn=>bV (c.gr a) u (hg C s b fp pn) (ht C s b fp pn) (he C s b fp pn) hl e2 _ λv y k m o _ p r=>q v _ _ (a.f.trans m.f) (((c.gr a).gr m).own i r o)
   | bad=>ext
  .rw [iN hl];ext
 | bad=>ext
end
section
variable {a b c' tg iter elt:Expr} {ts:List Expr} {ta tb tc:TE} {ma mb mc:ME} {sa sb:TT} {na nb:MB} {t:TA} {m:MA} {y:Str}
def nU(hN:X.N.Nodup)(hi:X.N[i]?=some x)(hx:Loc X.v.scope x)(ha:DA X E n es t m)(hn:n<=sizeLine:=by decide)(hs:swapsWith (.List es pos) (some (.Name x pos')) spos.line X.v=pure false:=by rfl)(hf:FnL X x:=by walk_at "ff") :
  DS X E (.Assign [.Name x pos'] (.List es pos) spos) (tAsg (tLst t) (Bt i)) (stO i (mls m)):=⟨Wr hN hi hx (Pr ha.p) hs hf,uE ha.s ha.n hn⟩
def uU(hN:X.N.Nodup)(hix:X.N[i]?=some x)(hx:Loc X.v.scope x)(hi:DI X E tg iter wi mi)(O:Gw X own cap scope cl)(hc:X.c=true)(hg:∀C s H fp pn,DG (Bj0 X own cap scope cl C s H fp pn) own.length tg (g C s H fp pn) gm)(ht:∀C s H fp pn,DTs (Bj0 X own cap scope cl C s H fp pn) E0 ts (tt C s H fp pn) na)(he:∀C s H fp pn,DE (Bj0 X own cap scope cl C s H fp pn) E0 elt (tf C s H fp pn) me)(hts:ts.length<=1:=by decide)(hsw:swapsWith (.ListComp elt [⟨tg,iter,ts,0⟩] scope pos) (some (.Name x pos')) spos.line X.v=pure true:=by rfl)(hs:Fsi iter X:=by intro _;rfl)(hf:FnL X x:=by walk_at "ff") :
  DS X E (.Assign [.Name x pos'] (.ListComp elt [⟨tg,iter,ts,0⟩] scope pos) spos) (tAsg (Gs wi g tt tf own cap) (Bt i)) (stO i (comp mi own.length (cap.map (·.2)) gm na me)) :=
 ⟨RL hN hix hx hi.p O hc (λC s H fp pn=>(hg C s H fp pn).p) (λC s H fp pn=>(ht C s H fp pn).p) (λC s H fp pn=>(he C s H fp pn).p) hts hsw hs hf,
  xT hi.s (λC s H fp pn=>(hg C s H fp pn).s) (λC s H fp pn=>(ht C s H fp pn).s) (λC s H fp pn=>(he C s H fp pn).s)⟩
def yg(i)(he:DE X E e te me)(hN:X.N[i]?=some x:=by rfl)(hv:Dr X.v.scope x:=by walk_at "vv")(hd:ND x:=by decide)(hcd:NE x:=by decide)(hbase:attributeBase (.Name x np) "append" X.v (eval (.Name x np) X.v)=eval (.Name x np) X.v:=by rfl) (hfew:Few X cpos [e]:=by rfl) (hline:(apos.endLine==cpos.line)=true:=by rfl) (hs:starEach [e] X.v=(false,eval e X.v)::starEach [] X.v:=by rfl) (hplain:(backTo cpos (starEach [] X.v)).any (·.1)=false:=by rfl) (hsw:swapsWith (.Call (.Attribute (.Name x np) "append" apos) [e] [] cpos) none spos.line X.v=pure false:=by rfl) :
  DS X E (.Expr (.Call (.Attribute (.Name x np) "append" apos) [e] [] cpos) spos) (Bx (tBM X.K "list" Fi (tVar i) (Bc te tNil))) (app i me) :=
 ⟨HJ (JV JS O3 Oz QC (Ek hN hv hd hcd) (EY he.p GD hs) hbase hfew hline hs hplain) hsw,
  wy he.s λH a xs h=>.inl ⟨rfl,xs,SqL.of h⟩⟩
end
end L2.Ds
namespace L2.Ds
open Dl
section
def del(F:Hp)(a:Addr):Hp:=λb=>if b=a then none else F b
def G9{F:Hp}:del F a a=none:=iP rfl
def Cd{F:Hp}(h:b≠a):del F a b=F b:=iN h
def M9{F:Hp}(h:del F a b=some o):F b=some o:=by
 by_cases hb:b=a
 .subst hb;rw [G9] at h;cases h
 .rw [Cd hb] at h;exact h
def Rep.look{F:Hp}(r:Rep K mg F0 H0 F H Y Z)(e:Z[i]?=some (.ow ds)) :
  ∃F',Rep K mg F0 H0 F' H Y (Z.set i (.im (.lst ds)))/\∀F1 H1,Gr F' H F1 H1->∃F2,Gr F H F2 H1:=by
 obtain ⟨a,t,v,I,p,D,y⟩:=r.ow i ds e;have h:Same F (upd F a (.lst t)):=Cp p _;refine ⟨upd F a (.lst t),⟨⟨r.g.f.trans h,λb o q=>?_,λb o d c=>?_,λb o u q=>r.g.z b o u (Ka (λ_ _ z=>by cases z) q)⟩,by rw [Ga];exact r.len,λj u q=>?_,λj l q=>?_,λj k l E b d c L w=>?_⟩,λF1 H1 g=>⟨del F1 a,⟨λb o q=>?_,λb o q=>?_,λb o d c=>?_,λb o u q=>Ka (λ_ _ z=>by cases z) (g.z b o u (M9 q))⟩⟩⟩
 .by_cases hb:b=a
  .subst hb;rw [Ar] at q;lia
  .rw [Af hb] at q;exact r.g.s b o q
 .rw [Af (BZ c I)];exact r.g.o b o d c
 .rcases Bm q with ⟨rfl,z,_⟩ | ⟨_,q⟩
  .cases z;exact ⟨.ref a,v,.lst (SqL.of Ar) (y.same h)⟩
  .obtain ⟨x,m,n⟩:=r.im j u q;exact ⟨x,m,n.same h⟩
 .rcases Bm q with ⟨_,z,_⟩ | ⟨hij,q⟩
  .cases z
  .obtain ⟨b,C,m,n,A,G,J⟩:=r.ow j l q;have B:b≠a:=by
    rintro rfl;exact hij (r.ne i j ds l b e q v m)
   exact ⟨b,C,m,n,by rw [Af B];exact A,G,J.same h⟩
 .rcases Bm d with ⟨_,z,_⟩ | ⟨_,d⟩
  .cases z
  .rcases Bm c with ⟨_,z,_⟩ | ⟨_,c⟩
   .cases z
   .exact r.ne j k l E b d c L w
 .rw [Cd (BZ q p)];exact g.f b o (h b o q)
 .by_cases hb:b=a
  .subst hb;rw [G9] at q;cases q
  .rw [Cd hb] at q;exact g.s b o q
 .by_cases hb:b=a
  .subst hb;rw [D] at c;cases c;exact ⟨G9,g.s _ _ (g.f _ _ Ar)⟩
  .rw [Cd hb];exact g.o b o (by rw [Af hb];exact d) c
def wC{F:Hp}{x:V}(r:Rp K mg F x d)(e:KH d=.ok d'):Rp K mg F' x d':=by
 cases r with
 | non=>cases e;exact .non
 | bl b=>cases e;exact .bl b
 | int b=>cases e;exact .int b
 | str b=>cases e;exact .str b
 | _=>cases e
def Zyt(i)(h:SE K mg E t m):SE K mg E t (pk i m):=by
 intro r j F H Y Z u;unfold pk getO;split
 .next f e=>
  obtain ⟨s,g,a⟩:=u.look e;have z:=h r j s H Y _ g;show Ans mg E (Rp K mg) F H ((m (Z.set i (.im (.lst f)))).bind KH) _;cases em:m (Z.set i (.im (.lst f))) with
  | ok d=>
   rw [em] at z;show Ans mg E (Rp K mg) F H (KH d) _;cases es:KH d with
   | ok d'=>
    exact λQ q=>z Q λl c b k n=>by
     obtain ⟨o,p⟩:=a l c k;exact q o c b p (wC n es)
   | bad=>ext
  | bad=>ext
 .ext
def kZ(i)(h:STt K mg E t m):STt K mg E t (pkB i m):=by
 intro r j F H Y Z u;unfold pkB getO;split
 .next f e=>
  obtain ⟨s,g,a⟩:=u.look e;have z:=h r j s H Y _ g;show Ans mg E RB F H (m (Z.set i (.im (.lst f)))) _;cases em:m (Z.set i (.im (.lst f))) with
  | ok d=>
   rw [em] at z;exact λQ q=>z Q λl c b k n=>by
    obtain ⟨o,p⟩:=a l c k;exact q o c b p n
  | bad=>ext
 .ext
end
section
variable {l:Nat} {y:Str} {Cy:Addr} {f:List D->Res D} {t:TA} {m:MA} {u:Addr->TS} {b:MS} {p yp epos hpos:Pos} {b₀:Stmt} {suite:List Stmt} {hits:List Str} {tt:TT} {mt:MB}
def Yl(i)(h:DE X E e te me):DE X E e te (pk i me):=⟨h.p,Zyt i h.s⟩
def dI(i)(h:DT X E e tt mt):DT X E e tt (pkB i mt):=⟨h.p,kZ i h.s⟩
end
section
mutual
theorem dC(I:Inv X pins Y H s){x:V}{d d':PyData}(h:DV X.K H x d)(h':DV X.K H x d'):d=d':=by
 cases h with
 | non=>cases h';rfl
 | bl _=>cases h';rfl
 | int _=>cases h';rfl
 | str _=>cases h';rfl
 | tup h q=>
  cases h' with
  | tup h' q'=>
   have e:=I.tuple_inj h h';subst e;rw [U7 I q q']
  | lst h' q'=>
   obtain ⟨_,_,⟨o,c,g,_⟩,_⟩:=I.tuple h;obtain ⟨_,_,⟨f,_,b,a,_⟩,_⟩:=I.list h'
   lia
 | lst h q=>
  cases h' with
  | lst h' q'=>
   have e:=I.list_inj h h';subst e;rw [U7 I q q']
  | tup h' q'=>
   obtain ⟨_,_,⟨o,c,g,_⟩,_⟩:=I.tuple h';obtain ⟨_,_,⟨f,_,b,a,_⟩,_⟩:=I.list h
   lia
theorem U7(I:Inv X pins Y H s){xs:List V}{ds ds':List PyData}(h:DVs X.K H xs ds)(h':DVs X.K H xs ds'):ds=ds':=by
 cases h with
 | nil=>cases h';rfl
 | cons h r=>
  cases h' with
  | cons h' r'=>rw [dC I h h',U7 I r r']
end
def hitE(X:Cx)(H:Hp)(dx:PyData)(u:Value):Bool:=@decide (∃y d,RelV y u/\DV X.K H y d/\PyData.eqv d dx=true) (Classical.propDecidable _)
def Vs(I:Inv X pins Y H s){d:PyData}(r:RelV y u)(h:DV X.K H y d):hitE X H dx u=PyData.eqv d dx:=by
 unfold hitE;cases e:PyData.eqv d dx with
 | true=>grind
 | false=>
  refine @Jg _ (Classical.propDecidable _) ?_;rintro ⟨g,i,c,a,b⟩;have f:=r.inj c;subst f;rw [dC I h a,b] at e;cases e
def Ou(I:Inv X pins Y H s):∀{ys:List V} {its:List Value} {ds:List PyData},Vals ys its->DVs X.K H ys ds->its.any (hitE X H dx)=ds.any λd=>PyData.eqv d dx
 | _,_,_,.nil,.nil=>rfl
 | _,_,_,.cons r1 r2,.cons h1 h2=>by rw [List.any_cons,List.any_cons,Ou I r2 h2,Vs I r1 h1]
def WN(I:Inv X pins Y H s):∀{ys:List V} {its:List Value} {ds:List PyData} {u:Value},Vals ys its->DVs X.K H ys ds->PyData.canLayAll0 ds=true->u∈its->∃y d,RelV y u/\DV X.K H y d/\d.canLay0=true
 | _,_,_,_,.nil,.nil,_,hu=>by cases hu
 | _,_,_,u,.cons r1 r2,.cons h1 h2,hc,hu=>by
  have a:=(by simpa [PyData.canLayAll0] using hc);rcases BV.mp hu with rfl | hu
  .grind
  .exact WN I r2 h2 a.2 hu
def rInD(K:W1)(f:Bool->Bool):R2:=λx y H Q=>∃a e c b,y=.ref a/\(SqL K H a e\/SqT K H a e)/\DV K H x c/\DVs K H e b/\c.canLay0=true/\PyData.canLayAll0 b=true/\c.depth<=50/\Q (.bl (f (b.any λd=>PyData.eqv d c))) H
end
section
def sV(hu:X.A.units+64<cLine):OpR X (compareOp .In) (rInD X.K id):=by
 intro n s Y H x y v u Q I F G h;obtain ⟨a,L,c,g,rfl,hq,z,i,E,w,M,q⟩:=h;cases G;obtain ⟨t,C⟩:=z.reads I F;have m:∀{b:List Value},Vals L b->∀u,u∈b.toArray->PySem.SeqAt.EqAt X.A.in1 s u v (hitE X H c u):=λ{b} f u J=>by
  obtain ⟨N,D,k,l,p⟩:=WN I f i w (by simpa using J);obtain ⟨r,o⟩:=l.reads I k;rw [Vs I k l];exact PySem.SeqAt.eqAt_reads D c X.A.in1 s u v r t o C p E (by lia)
 rcases hq with hq | hq
 .obtain ⟨b,f,j,B⟩:=I.list hq;refine PySem.SeqAt.in_listAt (hitE X H c) j.isList (m f) ?_;have e:b.toArray.any (hitE X H c)=g.any λd=>PyData.eqv d c:=by rw [List.any_toArray];exact Ou I f i
  rw [e];exact ⟨.bl _,H,I,rfl,q⟩
 .obtain ⟨b,f,j,B⟩:=I.tuple hq;refine PySem.SeqAt.in_tupleAt (hitE X H c) (j) (m f) ?_;have e:b.toArray.any (hitE X H c)=g.any λd=>PyData.eqv d c:=by rw [List.any_toArray];exact Ou I f i
  rw [e];exact ⟨.bl _,H,I,rfl,q⟩
def xn(hu:X.A.units+64<cLine):OpR X (compareOp .NotIn) (rInD X.K not):=by
 intro n s Y H x y v u Q I F G h;obtain ⟨a,L,c,g,rfl,hq,z,i,E,w,M,q⟩:=h;cases G;obtain ⟨t,C⟩:=z.reads I F;have m:∀{b:List Value},Vals L b->∀u,u∈b.toArray->PySem.SeqAt.EqAt X.A.in1 s u v (hitE X H c u):=λ{b} f u J=>by
  obtain ⟨N,D,k,l,p⟩:=WN I f i w (by simpa using J);obtain ⟨r,o⟩:=l.reads I k;rw [Vs I k l];exact PySem.SeqAt.eqAt_reads D c X.A.in1 s u v r t o C p E (by lia)
 rcases hq with hq | hq
 .obtain ⟨b,f,j,B⟩:=I.list hq;refine PySem.SeqAt.notIn_listAt (hitE X H c) j.isList (m f) ?_;have e:b.toArray.any (hitE X H c)=g.any λd=>PyData.eqv d c:=by rw [List.any_toArray];exact Ou I f i
  rw [e];exact ⟨.bl _,H,I,rfl,q⟩
 .obtain ⟨b,f,j,B⟩:=I.tuple hq;refine PySem.SeqAt.notIn_tupleAt (hitE X H c) (j) (m f) ?_;have e:b.toArray.any (hitE X H c)=g.any λd=>PyData.eqv d c:=by rw [List.any_toArray];exact Ou I f i
  rw [e];exact ⟨.bl _,H,I,rfl,q⟩
def YS(x)(k)(hx:Dl.plain k x=true):∀ys l,Dl.Bb l ys=true->((pyDs ys).any λd=>PyData.eqv d (pyD x))=inD x ys
 | [],_,_=>rfl
 | y::r,l,h=>by
  have a:Dl.plain l y=true/\Dl.Bb l r=true:=by simpa [Dl.Bb] using h
  show (PyData.eqv (pyD y) (pyD x)||(pyDs r).any _)=(eqD y x||inD x r);rw [YS x k hx r l a.2,<-Qp y x l k a.1 hx]
def Xu{F:Hp}{x:V}(s:Same F H)(rx:Rp K mg F x dx)(ry:Rp K mg F y dy) :
  Ans mg E (Rp K mg) F H ((seqD dy).bind λys=>if Dl.plain 50 dx&&Dl.Bb 50 ys then .ok (.bl (f (inD dx ys))) else .bad) (rInD K f x y H):=by
 have b:∀a c ys,y=.ref a->(SqL K H a c\/SqT K H a c)->Rps K mg F c ys->Ans mg E (Rp K mg) F H (if Dl.plain 50 dx&&Dl.Bb 50 ys then .ok (.bl (f (inD dx ys))) else .bad) (rInD K f x y H):=by
  rintro a c ys rfl g d;by_cases hp:(Dl.plain 50 dx&&Dl.Bb 50 ys)=true
  .rw [iP hp];rw [PQ] at hp;obtain ⟨j,e⟩:=Kr dx 50 hp.1;obtain ⟨i,_⟩:=TX ys 50 hp.2;refine Ans.ret s (.bl _) λQ q=>⟨a,c,pyD dx,pyDs ys,rfl,g,Mm s (LK rx hp.1),Qz s (RJ d hp.2),j,i,e,?_⟩;rw [YS dx 50 hp.1 ys 50 hp.2];exact q
  .rw [iN hp];ext
 cases dy with
 | lst ys=>
  obtain ⟨_,_,rfl,h,r⟩:=ry.l;exact b _ _ ys rfl (.inl (s.seq h)) r
 | tup ys=>
  obtain ⟨_,_,rfl,h,r⟩:=ry.t;exact b _ _ ys rfl (.inr (Eg s h)) r
 | _=>ext
def yS:OpD K mg (rInD K id) dIn:=λ_ _ _ _ _ _ _ s b a=>Xu (f:=id) s b a
def Zsz:OpD K mg (rInD K not) dNin:=λ_ _ _ _ _ _ _ s b a=>Xu (f:=not) s b a
variable{a b:Expr}{ta tb:TE}{ma mb:ME}
def qp(hr:Room k X.A)(ha:DE X E a ta ma)(hb:DE X E b tb mb)(hm:behindInMarks .In b=false:=by rfl):DT X E (.Compare a [.In] [b] pos) (Fw (tOp (rInD X.K id) ta tb)) (trb (o2 dIn ma mb)):=Ig (sV hr.units) yS ha hb hm
def Ww(hr:Room k X.A)(ha:DE X E a ta ma)(hb:DE X E b tb mb)(hm:behindInMarks .NotIn b=false:=by rfl):DT X E (.Compare a [.NotIn] [b] pos) (Fw (tOp (rInD X.K not) ta tb)) (trb (o2 dNin ma mb)):=Ig (xn hr.units) Zsz ha hb hm
end
end L2.Ds
namespace Dl
noncomputable def ixP(n:Nat)(i:Int):Option Nat:=if 0<=i then (if i<n then some i.toNat else none) else if -(n:Int)<=i then some (i+n).toNat else none
def ext(i:Nat)(e:ME):MS:=λZ=>(getO Z[i]?).bind λa=>(e Z).bind λd=>(lstO d).bind λb=>if a.length+b.length<=LIM then .ok (.nx (Z.set i (.ow (a++b)))) else .bad
noncomputable def trips:List D->List D->List D->List D
 | x::xs,y::ys,z::zs=>.tup [x,y,z]::trips xs ys zs
 | _,_,_=>[]
def zip3:List D->Res (List D)
 | [x,y,z]=>(seqD x).bind λa=>(seqD y).bind λc=>(seqD z).bind λb=>.ok (trips a c b)
 | _=>.bad
def lz3(ds:List D):Res D:=(zip3 ds).bind λa=>.ok (.lst a)
end Dl
namespace L2.Ds
open Dl
section
def pG(ad)(arr)(cap)(bd)(brr)(bcap)(bsl)(short:¬(!arr.isEmpty&&Builtin.List.listTooLong (arr.size+brr.size))=true)(le1:arr.size<=sizeLine)(le2:arr.size+brr.size<=sizeLine+1) :
  Meets (Builtin.«list.extend» ⟨[.ref ad,.ref bd],[]⟩) (λ_ R s=>s.heap.get? ad=some { cls:=.type "list",dict:=none,data:=.seq arr cap,slots:=#[] }/\s.heap.get? bd=some { cls:=.type "list",dict:=none,data:=.seq brr bcap,slots:=bsl }/\R (.ok (.ret Value.none)) { s with heap:=s.heap.update ad (Obj.mapSeq λzs=>zs++brr),toks:=s.toks }) :=
 .of_wp λd w A R s h=>by
  obtain ⟨j,k,n,l,m⟩:=s;obtain ⟨a,b,e⟩:=h;have f:=PySem.AutoSeq1.idx_int;have o:=PySem.AutoSeq1.sub_tuple_tuple;have g:=PySem.AutoSeq1.sub_list_list;have p:=PySem.AutoSeq1.sub_tuple_list;have i:=PySem.AutoSeq1.sub_list_tuple;have c:(arr++brr).size<=sizeLine+1:=by simp_all
  wp_walk using (M7 a rfl (hz:=le1) (_hz':=c)),wpAny_loadPart' a,wpAny_loadPart' b
  lia
def Ly(K:W1):V->List V->Hp->VK->Prop:=λx d H Q=>∃l b a c,x=.ref l/\d=[.ref b]/\H l=some (.lst a)/\SqL K H b c/\a.length+c.length<=sizeLine/\Q .non (upd H l (.lst (a++c)))
def ZsO:MtR X "list.extend" (Ly X.K):=by
 intro i s Y H x N v T Q I A w h;obtain ⟨l,b,R,J,rfl,rfl,g,D,O,q⟩:=h;cases A;obtain ⟨u,rfl,C⟩:=w.one;cases C;obtain ⟨z,c,n,r,P,e⟩:=I.lstM g;obtain ⟨a,j,⟨o,E,y,k,B,t⟩,M⟩:=I.list D;obtain ⟨S,G,L,p⟩:=o;cases k;cases B;cases t;have m:=j.length;have f:c.toArray.size+a.toArray.size<=sizeLine:=by simp_all
 have d:¬(!c.toArray.isEmpty&&Builtin.List.listTooLong (c.toArray.size+a.toArray.size))=true:=by
  rw [gG f,Bool.and_false]
  ext
 refine call_meets PySem.F.slot_list_extend ⟨_,e,rfl⟩ PySem.F.entry_list_extend (PySem.F.args_list_extend_2 _ _) (pG l c.toArray n b a.toArray E p d (by lia) (by lia)) ⟨e,y,?_⟩;refine ⟨.non,_,I.lset (its':=c++a) g e (by simp) (r.append j) ?_,rfl,q⟩;simp_all
end
section
variable {ta tb:TE} {ma mb:ME} {F:Hp}
def Rep.put{es:List D}(r:Rep K mg F0 H0 F H Y Z)(e:Z[i]?=some (.ow ds))(e2:Y[i]?=some (some (.ref a)))(e3:H a=some (.lst xs))(e4:H0 a=none)(e5:F a=none)(hr:Rps K mg F ys es) :
  Rep K mg F0 H0 F (upd H a (.lst ys)) Y (Z.set i (.ow es)):=by
 refine ⟨⟨r.g.f,λb o q=>?_,λb o n h=>?_,r.g.z⟩,by rw [Ga];exact r.len,λj u q=>?_,λj es q=>?_,λj k es C b n h B t=>?_⟩
 .rw [Af (BZ q e5)];exact r.g.s b o q
 .rw [Af (BZ h e4)];exact r.g.o b o n h
 .rcases Bm q with ⟨_,z,_⟩ | ⟨_,q⟩
  .cases z
  .exact r.im j u q
 .rcases Bm q with ⟨rfl,z,l⟩ | ⟨hij,q⟩
  .cases z;exact ⟨a,_,e2,e4,e5,Ar,hr⟩
  .obtain ⟨b,ys,p,v,w,y,A⟩:=r.ow j es q;have x:b≠a:=by
    rintro rfl;exact hij (r.ne i j ds es b e q e2 p)
   exact ⟨b,ys,p,v,w,by rw [Af x];exact y,A⟩
 .have m:∃c,Z[j]?=some (.ow c):=by
   grind
  have d:∃c,Z[k]?=some (.ow c):=by
   grind
  obtain ⟨_,m⟩:=m;obtain ⟨_,d⟩:=d;exact r.ne j k _ _ b m d B t
def Rps.eraseIdx:∀{xs:List V} {ds:List D} (j:Nat),Rps K mg F xs ds->Rps K mg F (xs.eraseIdx j) (ds.eraseIdx j)
 | _,_,_,.nil=>by simp;exact .nil
 | _,_,0,.cons _ r=>r
 | _,_,j+1,.cons h r=>.cons h (Rps.eraseIdx j r)
def ZvF(ha:SE K mg E ta ma):SS K mg E (Bx (tBM K "list" (Ly K) (tVar i) (Bc ta tNil))) (ext i ma):=by
 intro t p F H Y Z m;unfold ext getO;split
 .next c e=>
  obtain ⟨a,C,w,P,J,G,B⟩:=m.ow i c e;have h:=(ha t p F H Y Z m).stm (K:=K) (k:=λd=>(lstO d).bind λb=>if c.length+b.length<=LIM then Res.ok (Fl.nx (Z.set i (.ow (c++b)))) else .bad) (w':=λx v D=>Ly K (.ref a) [x] v λ_ r=>D.nx Y r) m.g λd _ y Q x n O=>?_
  .have j:∀D,(ta Y H λx v=>Ly K (.ref a) [x] v λ_ r=>D.nx Y r)->Bx (tBM K "list" (Ly K) (tVar i) (Bc ta tNil)) D Y H:=λD z=>⟨.ref a,w,.inl ⟨rfl,C,SqL.of G⟩,z⟩;show AnsS K mg E t p F ((ma Z).bind λd=>(lstO d).bind λb=>if c.length+b.length<=LIM then Res.ok (Fl.nx (Z.set i (.ow (c++b)))) else .bad) _
   generalize ((ma Z).bind λd=>(lstO d).bind λb=>if c.length+b.length<=LIM then Res.ok (Fl.nx (Z.set i (.ow (c++b)))) else .bad)=res at h
   cases res with
   | ok f=>
    cases f with
    | nx Z=>exact λD q=>j D (h D q)
    | bk Z=>exact λD q=>j D (h D q)
    | ct Z=>exact λD q=>j D (h D q)
    | rt d=>exact λD q=>j D (h D q)
   | bad=>ext
  .cases d with
   | lst b=>
    obtain ⟨_,_,rfl,M,A⟩:=O.l;show AnsS K mg E t p y (if c.length+b.length<=LIM then Res.ok (Fl.nx (Z.set i (.ow (c++b)))) else .bad) _
    by_cases hl:c.length+b.length<=LIM
    .rw [iP hl];have L:=m.gr n;obtain ⟨N,I⟩:=n.o a _ J G;have u:=B.same n.f;exact λD q=>⟨a,_,C,_,rfl,rfl,I,n.s.seq M,by rw [B.length,A.length];exact Ak hl (by decide),q y _ Y (Same.refl _) (L.put e w I P N (Rps.app A u))⟩
    .rw [iN hl];ext
   | _=>ext
 .ext
end
section
variable {o k' a b c' d':Expr} {to tk ta tb tc td:TE} {mo mk ma mb mc md:ME} {np apos spos':Pos}
def Y8(i)(he:DE X E e te me)(hN:X.N[i]?=some x:=by rfl)(hv:Dr X.v.scope x:=by walk_at "vv")(hd:ND x:=by decide)(hcd:NE x:=by decide)(hbase:attributeBase (.Name x np) "extend" X.v (eval (.Name x np) X.v)=eval (.Name x np) X.v:=by rfl) (hfew:Few X cpos [e]:=by rfl) (hline:(apos.endLine==cpos.line)=true:=by rfl) (hs:starEach [e] X.v=(false,eval e X.v)::starEach [] X.v:=by rfl) (hplain:(backTo cpos (starEach [] X.v)).any (·.1)=false:=by rfl) (hsw:swapsWith (.Call (.Attribute (.Name x np) "extend" apos) [e] [] cpos) none spos.line X.v=pure false:=by rfl) :
  DS X E (.Expr (.Call (.Attribute (.Name x np) "extend" apos) [e] [] cpos) spos) (Bx (tBM X.K "list" (Ly X.K) (tVar i) (Bc te tNil))) (ext i me) :=
 ⟨HJ (JV JS PySem.F.slot_list_extend PySem.F.type_list_extend ZsO (Ek hN hv hd hcd) (EY he.p GD hs) hbase hfew hline hs hplain) hsw,ZvF he.s⟩
end
end L2.Ds
namespace L2
abbrev Z3(h:Heap)(z TI TO:Addr)(f0 f1:Value):Prop:=h.get? z=some { cls:=.type "zip",dict:=none,data:=.fields #[f0,f1,.bool false,.ref TI,.ref TO],slots:=#[] }
abbrev Tr(h:Heap)(T:Addr)(a b c:Value):Prop:=h.get? T=some { cls:=.type "tuple",data:=.seq #[a,b,c] }
def Mk3(f0:Value):Prop:=f0=.none\/∃T,f0=rawInt T
structure Ap3(z TI TO i1 i2 i3 l1 l2 l3:Addr):Prop where
 o1:@LT.lt Nat _ i1 i2
 o2:@LT.lt Nat _ i2 i3
 o3:@LT.lt Nat _ i3 TI
 o4:@LT.lt Nat _ TI TO
 o5:@LT.lt Nat _ TO z
 a1:@LT.lt Nat _ l1 i1
 a2:@LT.lt Nat _ l2 i1
 a3:@LT.lt Nat _ l3 i1
def yaZ{a b:Nat}(h:a<b\/b<a):a≠b:=by lia
section
variable{prog:Program} {E:VS}
def Wi{x:Value}(kT:Tr s.heap T a b c)(h:∀h',h'.get? T=some { cls:=.type "tuple",data:=.seq ((#[a,b,c]:Array Value).setIfInBounds k x) }->Hb0 T s.heap h'->Q () (sH0 s h')) :
  wP prog w A (updateSeq T (·.setIfInBounds k x)) Q E s:=by
 refine M7 kT rfl (h _ ?_ (TQ ..));rw [MN _ kT rfl];simp [Obj.mapSeq]
def ZoC(h:Q (s.heap.get? a) s):wP prog w A (loadIfAlive a) Q E s:=λΓ p _=>by
 ext
def lQ{z TI TO:Addr}{f0 f1:Value}{Q:Bool->Shared->Prop}(kz:Z3 s.heap z TI TO f0 f1)(kf:Mk3 f0)(h1:Q true s)(h2:∀h' f,Z3 h' z TI TO f0 f->Hb0 z s.heap h'->Q false (sH0 s h')) :
  wP prog w A (Builtin.SmallTypes.ownedTupleIsFree (.ref z)) Q E s:=by
 unfold Builtin.SmallTypes.ownedTupleIsFree;refine Ac (Gk kz rfl (x:=f0) rfl ?_);rcases kf with rfl | ⟨T,rfl⟩
 .exact Ad h1
 .refine Ac (ZoC ?_);split
  .exact Ad h1
  .refine Ac (Gk kz rfl (x:=f1) rfl ?_);split
   .refine Ac (QS kz (by simp) λg a b=>Ad (h2 g _ a b))
   .exact Ad (h2 s.heap f1 kz (Heap.SameBut.refl ..))
def SqK.at{p:Bool}{h h':Heap}{a:Addr}{xs:Array Value}(x:SqK p h a xs)(k:∀o,h.get? a=some o->h'.get? a=some o):SqK p h' a xs:=by
 cases p<;>exact (match x with | ⟨o,e,r⟩=>⟨o,k o e,r⟩)
def At3(p q r:Bool)(z TI TO i1 i2 i3 a b c:Addr)(i:Nat)(h:Heap):Prop :=
 ∃d e u v w,Z3 h z TI TO d e/\Mk3 d/\Tr h TI (.ref i1) (.ref i2) (.ref i3)/\Tr h TO u v w/\ItK p h i1 a i/\ItK q h i2 b i/\ItK r h i3 c i
def Ag(h g:Heap)(i j t:Nat):Prop:=i<=t/\∀d:Nat,d<i\/(j<d/\d<t)->∀o,h.get? d=some o->g.get? d=some o
def Ag.go{h g g':Heap}{i j t j' b:Nat}(a:Ag h g i j t)(k:Hb0 b g g')(hb:(i<=b/\b<=j')\/t<=b)(hj:j<=j'):Ag h g' i j' t:=⟨a.1,λd c o e=>(k.2 d (yaZ (by have:=a.1;lia))).trans (a.2 d (by lia) o e)⟩
def Ag.up{h g g':Heap}{i j t:Nat}(a:Ag h g i j t)(k:Hb0 t g g'):Ag h g' i j t:=a.go k (.inr (Ae _)) (Ae _)
def Kl(h g:Heap)(L:List Addr):Prop:=∀d o,d∉L->h.get? d=some o->g.get? d=some o
def Kl.go{h g g':Heap}{L:List Addr}{b:Addr}(a:Kl h g L)(hb:b∈L)(k:Heap.ExtBut b g g'):Kl h g' L:=λd o c e=>k d o (λz=>c (z▸hb)) (a d o c e)
def eH{p q r:Bool}{z TI TO i1 i2 i3 l1 l2 l3:Addr}{k:Nat}{us vs ws:Array Value}{Q:Option Value->Shared->Prop}(kh:A.handled=none)(D:Ap3 z TI TO i1 i2 i3 l1 l2 l3)(S:At3 p q r z TI TO i1 i2 i3 l1 l2 l3 k s.heap)(n1:SqK p s.heap l1 us)(n2:SqK q s.heap l2 vs)(n3:SqK r s.heap l3 ws)
 (kQ:∀x y u h',us[k]?=some x->vs[k]?=some y->ws[k]?=some u->At3 p q r z TI TO i1 i2 i3 l1 l2 l3 (k+1) h'->Tr h' s.heap.objs.size x y u->(∀d o,d∉[z,TI,TO,i1,i2,i3]->s.heap.get? d=some o->h'.get? d=some o)->Q (some (.ref s.heap.objs.size)) (sH0 s h'))
 (kE:us[k]?=none\/vs[k]?=none\/ws[k]?=none->∀h',(∀d o,d∉[z,TI,TO,i1,i2,i3]->s.heap.get? d=some o->h'.get? d=some o)->Q none (sH0 s h')):wP prog w A (pyNext (.ref z)) Q E s:=by
 obtain ⟨V,o2,o3,o4,L,a1,a2,a3⟩:=D;obtain ⟨f0,f1,a,b,c,Z,kf,kTI,kTO,m1,m2,Y⟩:=S;have kT:s.TypeIs (.ref z) "zip":=⟨_,Z,rfl⟩;have t3:=FW o3 o4;have t2:=FW o2 t3;have t1:=FW V t2;have p0:=Hq a1;have y1:=FW t1 L;have y2:=FW t2 L;have y3:=FW t3 L;have o6:=FW V o2;have K0:Kl s.heap s.heap [z,TI,TO,i1,i2,i3]:=λ_ _ _ e=>e;have Mz:z∈[z,TI,TO,i1,i2,i3]:=by simp
 have MT:TO∈[z,TI,TO,i1,i2,i3]:=by simp
 have M1:i1∈[z,TI,TO,i1,i2,i3]:=by simp
 have M2:i2∈[z,TI,TO,i1,i2,i3]:=by simp
 have M3:i3∈[z,TI,TO,i1,i2,i3]:=by simp
 have X:∀(h':Heap) e,(us[k]?=none\/vs[k]?=none\/ws[k]?=none)->Kl s.heap h' [z,TI,TO,i1,i2,i3]->(∃o,h'.get? e=some o/\o.cls=.type "StopIteration")->wP prog w A (do if <-isInstance (.ref e) (.type "StopIteration") then pure none else throw (.ref e)) Q E (sH0 s h'):=λh' e kn kk ⟨o,ho,hc⟩=>
  Ac (wpAny_isInstance (T:="StopIteration") (b:=true) ⟨o,ho,hc⟩ isSubtype_stop (Ad (kE kn _ kk)))
 unfold pyNext;refine Ac (wpAny_attempt (Nz (name:=Str.ofString "__next__") kT F.slot_zip_next (Kd F.slot_zip_next kT F.entry_zip_next ?_ (F.args_zip_next_1 _))));show wpAny _ _ (field (.ref z) 2 >>= _) _ _ _;refine Ac (Gk Z rfl (x:=.bool false) rfl ?_);show wpAny _ _ (field (.ref z) 3 >>= _) _ _ _;refine Ac (Gk Z rfl (x:=.ref TI) rfl ?_);refine Ac (Hm kTI rfl ?_);show wpAny _ _ (Builtin.SmallTypes.ownedTupleIsFree (.ref z) >>= _) _ _ _;refine Ac (lQ Z kf ?_ λH f K C=>?_)
 .simp only [GZ];refine Ac (Gj ?_);refine Ac (Gk Z rfl (x:=.ref TO) rfl ?_);refine Ac (QS Z (by simp) λH K C=>?_);replace K:Z3 H z TI TO .ellipsis f1:=K;have A1:Ag s.heap H i1 0 TO:=Ag.go (j:=0) ⟨Ay t1,λ_ _ _ e=>e⟩ C (.inr (Ay L)) (Ae 0);have K1:=K0.go Mz C.extBut;have T1:Tr H TO a b c:=C.extBut _ _ (Am L) kTO;refine Ac ?_;simp only [List.zipIdx_cons,List.zipIdx_nil,List.forIn_cons,List.forIn_nil];have N:∀(g:Heap) e (s':Shared),(sH0 s g)=s'->(us[k]?=none\/vs[k]?=none\/ws[k]?=none)->Z3 g z TI TO .ellipsis f1->Kl s.heap g [z,TI,TO,i1,i2,i3]->(∃o,g.get? e=some o/\o.cls=.type "StopIteration")->wpAny (model prog w) A.in1 (setField (.ref z) 0 .none) (λ_ s''=>wP prog w A (do if <-isInstance (.ref e) (.type "StopIteration") then pure none else throw (.ref e)) Q E s'') (λe s'=>wP prog w A (do if <-isInstance e (.type "StopIteration") then pure none else throw e) Q E s') s':=λg e s' hs kn Z kk ⟨ox,koe,kce⟩=>by
   subst hs;exact QS Z (by simp) λv _ l=>X v e kn (kk.go Mz l.extBut) ⟨ox,l.extBut _ _ (λx=>by lia) koe,kce⟩
  refine Ac (Ac (wpAny_onRaise ?_));show wpAny _ _ (Builtin.SmallTypes.nextOf (.ref i1) >>= _) _ _ _;have m1:=m1.at (A1.2 _ (.inr ⟨p0,t1⟩));have n1:=n1.at (A1.2 _ (.inl a1));cases kx:us[k]? with
  | none=>exact Ac (Ld kh m1 n1 kx λt e i U=>N t e _ rfl (.inl kx) (i _ _ (CK y1) K) (K1.go M1 i) U)
  | some x=>
  refine Ac (Ln m1 n1 kx λt m12 i=>Ad ?_);have kT2:Tr t TO a b c:=i.extBut _ _ (CK t1) T1;have kz2:=i.extBut _ _ (CK y1) K;refine Ac (Hm kT2 rfl ?_);refine Ac (Wi kT2 λv kT3 l=>?_);replace kT3:Tr v TO x b c:=kT3;have kz3:=l.extBut _ _ (CK L) kz2;have A2:=(A1.go i (.inl ⟨Ae _,Ae _⟩) (Ay p0)).up l;have K2:=(K1.go M1 i.extBut).go MT l.extBut;refine Ac (wpAny_letGo (Ad ?_));refine Ac (Ac (wpAny_onRaise ?_));show wpAny _ _ (Builtin.SmallTypes.nextOf (.ref i2) >>= _) _ _ _;have m2:=m2.at (A2.2 _ (.inr ⟨V,t2⟩));have n2:=n2.at (A2.2 _ (.inl a2));cases ky:vs[k]? with
  | none=>exact Ac (Ld kh m2 n2 ky λn e m U=>N n e _ rfl (.inr (.inl ky)) (m _ _ (CK y2) kz3) (K2.go M2 m) U)
  | some y=>
  refine Ac (Ln m2 n2 ky λn m24 m=>Ad ?_);have kT4:Tr n TO x b c:=m.extBut _ _ (CK t2) kT3;have kz4:=m.extBut _ _ (CK y2) kz3;refine Ac (Hm kT4 rfl ?_);refine Ac (Wi kT4 λg₅ kT5 P=>?_);replace kT5:Tr g₅ TO x y c:=kT5;have kz5:=P.extBut _ _ (CK L) kz4;have A3:=(A2.go m (.inl ⟨Ay V,Ae _⟩) (Ay V)).up P;have K3:=(K2.go M2 m.extBut).go MT P.extBut;refine Ac (wpAny_letGo (Ad ?_));refine Ac (Ac (wpAny_onRaise ?_));show wpAny _ _ (Builtin.SmallTypes.nextOf (.ref i3) >>= _) _ _ _;have Y:=Y.at (A3.2 _ (.inr ⟨o2,t3⟩));have n3:=n3.at (A3.2 _ (.inl a3));cases ku:ws[k]? with
  | none=>exact Ac (Ld kh Y n3 ku λM e G U=>N M e _ rfl (.inr (.inr ku)) (G _ _ (CK y3) kz5) (K3.go M3 G) U)
  | some u=>
  refine Ac (Ln Y n3 ku λM m36 G=>Ad ?_);have kT6:Tr M TO x y c:=G.extBut _ _ (CK t3) kT5;have kz6:=G.extBut _ _ (CK y3) kz5;refine Ac (Hm kT6 rfl ?_);refine Ac (Wi kT6 λR W J=>?_);replace W:Tr R TO x y u:=W;have kz7:Z3 R z TI TO .ellipsis f1:=J.extBut _ _ (CK L) kz6;have A4:=(A3.go G (.inl ⟨Ay o6,Ae _⟩) (Ay o2)).up J;have K4:=(K3.go M3 G.extBut).go MT J.extBut;refine Ac (wpAny_letGo (Ad (Ad ?_)));refine Ac (Hm W rfl ?_);refine Ac (wpAny_newTuple ?_);have sz:R.objs.size=s.heap.objs.size:=by rw [J.1,G.1,P.1,m.1,l.1,i.1,C.1]
  have zlt:z<R.objs.size:=BP kz7;show wpAny _ _ (Builtin.SmallTypes.ownedTupleHandOut (.ref z) (.ref R.objs.size) >>= _) _ _ _;refine Ac ?_;unfold Builtin.SmallTypes.ownedTupleHandOut;have kz8:Z3 (R.push { cls:=.type "tuple",data:=.seq #[x,y,u] }) z TI TO .ellipsis f1:=Bj _ kz7;refine Ac (QS kz8 (by simp) λg9 kz9 ks9=>?_);replace kz9:Z3 g9 z TI TO (rawInt R.objs.size) f1:=kz9;refine QS kz9 (by simp) λgA kzA ksA=>?_;have I:∀c o,c≠z->R.get? c=some o->gA.get? c=some o:=λc o c1 e=>ksA.extBut _ _ c1 (ks9.extBut _ _ c1 (Bj _ e));have O:Tr gA R.objs.size x y u:=ksA.extBut _ _ (CK zlt) (ks9.extBut _ _ (CK zlt) (CJ _ rfl));rw [sz] at O;refine Ad ⟨_,rfl,Ad ?_⟩;show Q (some (.ref R.objs.size)) _;rw [sz];have B:Ag n R i3 i3 TO:=((Ag.up (j:=i3) ⟨Ay t3,λ_ _ _ e=>e⟩ P).go G (.inl ⟨Ae _,Ae _⟩) (Ae _)).up J;exact kQ x y u gA kx ky ku ⟨_,_,_,_,_,kzA,.inr ⟨_,rfl⟩,I _ _ (Am (FW o4 L)) (A4.2 _ (.inr ⟨o3,o4⟩) _ kTI),I _ _ (Am L) W,m12.at λo e=>I _ _ (Am y1) (B.2 _ (.inl o6) _ (m.extBut _ _ (Am V) (l.extBut _ _ (Am t1) e))),m24.at λo e=>I _ _ (Am y2) (B.2 _ (.inl o2) _ e),m36.at λo e=>I _ _ (Am y3) (J.extBut _ _ (Am t3) e)⟩ O λd o h e=>I d o (λy=>h (y▸Mz)) (K4 d o h e)
 .simp only [DQ,Ca];have A1:Ag s.heap H i1 0 TO:=Ag.go (j:=0) ⟨Ay t1,λ_ _ _ e=>e⟩ C (.inr (Ay L)) (Ae 0);have K1:=K0.go Mz C.extBut;rw [<-Array.forIn_toList];simp only [List.forIn_cons,List.forIn_nil];refine Ac (Ac (Ac (Cw ?_)));show wpAny _ _ (Builtin.SmallTypes.nextOf (.ref i1) >>= _) _ _ _;have m1:=m1.at (A1.2 _ (.inr ⟨p0,t1⟩));have n1:=n1.at (A1.2 _ (.inl a1));cases kx:us[k]? with
  | none=>exact Ac (Ld kh m1 n1 kx λt e i U=>X t e (.inl kx) (K1.go M1 i) U)
  | some x=>
  refine Ac (Ln m1 n1 kx λt m12 i=>Ad (Ad ?_));have A2:=A1.go i (.inl ⟨Ae _,Ae _⟩) (Ay p0);have K2:=K1.go M1 i.extBut;refine Ac (Ac (Cw ?_));show wpAny _ _ (Builtin.SmallTypes.nextOf (.ref i2) >>= _) _ _ _;have m2:=m2.at (A2.2 _ (.inr ⟨V,t2⟩));have n2:=n2.at (A2.2 _ (.inl a2));cases ky:vs[k]? with
  | none=>exact Ac (Ld kh m2 n2 ky λv e l U=>X v e (.inr (.inl ky)) (K2.go M2 l) U)
  | some y=>
  refine Ac (Ln m2 n2 ky λv m23 l=>Ad (Ad ?_));have A3:=A2.go l (.inl ⟨Ay V,Ae _⟩) (Ay V);have K3:=K2.go M2 l.extBut;refine Ac (Ac (Cw ?_));show wpAny _ _ (Builtin.SmallTypes.nextOf (.ref i3) >>= _) _ _ _;have Y:=Y.at (A3.2 _ (.inr ⟨o2,t3⟩));have n3:=n3.at (A3.2 _ (.inl a3));cases ku:ws[k]? with
  | none=>exact Ac (Ld kh Y n3 ku λt e i U=>X t e (.inr (.inr ku)) (K3.go M3 i) U)
  | some u=>
  refine Ac (Ln Y n3 ku λn m34 m=>Ad (Ad (Ad ?_)));refine Ac (wpAny_newTuple (hsz:=show (3:Nat)<=sizeLine by decide) (Ad ⟨_,rfl,Ad ?_⟩));have A4:=A3.go m (.inl ⟨Ay o6,Ae _⟩) (Ay o2);have K4:=K3.go M3 m.extBut;have sz:n.objs.size=s.heap.objs.size:=by rw [m.1,l.1,i.1,C.1]
  have I:∀{c o},n.get? c=some o->(n.push { cls:=.type "tuple",data:=.seq #[x,y,u] }).get? c=some o:=λe=>Bj _ e;have O:Tr (n.push { cls:=.type "tuple",data:=.seq #[x,y,u] }) n.objs.size x y u:=CJ _ rfl;rw [sz] at O;show Q (some (.ref n.objs.size)) _;rw [sz];exact kQ x y u _ kx ky ku ⟨f0,f,a,b,c,I (m.extBut _ _ (CK y3) (l.extBut _ _ (CK y2) (i.extBut _ _ (CK y1) K))),kf,I (A4.2 _ (.inr ⟨o3,o4⟩) _ kTI),I (m.extBut _ _ (CK t3) (l.extBut _ _ (CK t2) (i.extBut _ _ (CK t1) (C.extBut _ _ (Am L) kTO)))),m12.at λo e=>I (m.extBut _ _ (Am o6) (l.extBut _ _ (Am V) e)),m23.at λo e=>I (m.extBut _ _ (Am o2) e),m34.at λo e=>I e⟩ O λd o h e=>I (K4 d o h e)
def wz{z TI TO:Addr}{f0 f1:Value}{Q:VS}(kz:Z3 s.heap z TI TO f0 f1)(h:Q (.ref z) s):wP prog w A (pyIter (.ref z)) Q E s:=by
 have a:s.TypeIs (.ref z) "zip":=⟨_,kz,rfl⟩;refine wpAny_pyIter_slot a F.slot_zip_iter (Kd F.slot_zip_iter a F.entry_zip_iter ?_ (F.args_zip_iter_1 _));show wpAny _ _ (ret (.ref z)) _ _ s;exact Ad ⟨_,rfl,"zip",_,a,F.slot_zip_next.lookup,h⟩
end
def yd(a b c):checkTypeCall "zip" ⟨[a,b,c],[]⟩=pure ():=by kernel_rfl
def Zsy(a b c):checkBuiltinCall "zip.__new__" ⟨[.type "zip",a,b,c],[]⟩=pure ():=by kernel_rfl
def oi_4(a b c d):argsOk "object.__init__" ⟨[a,b,c,d],[]⟩:=by
 rfl
abbrev j1(p:Bool)(h:Heap)(l1:Addr):Heap:=h.push (Jh p l1)
abbrev j2(p q:Bool)(h:Heap)(l1 l2:Addr):Heap:=(j1 p h l1).push (Jh q l2)
abbrev j3(p q r:Bool)(h:Heap)(l1 l2 l3:Addr):Heap:=(j2 p q h l1 l2).push (Jh r l3)
abbrev j4(p q r:Bool)(h:Heap)(l1 l2 l3:Addr):Heap:=(j3 p q r h l1 l2 l3).push { cls:=.type "tuple",data:=.seq #[.ref h.objs.size,.ref (j1 p h l1).objs.size,.ref (j2 p q h l1 l2).objs.size] }
abbrev j5(p q r:Bool)(h:Heap)(l1 l2 l3:Addr):Heap:=(j4 p q r h l1 l2 l3).push { cls:=.type "tuple",data:=.seq #[.none,.none,.none] }
abbrev j6(p q r:Bool)(h:Heap)(l1 l2 l3:Addr):Heap:=(j5 p q r h l1 l2 l3).push { cls:=.type "zip",data:=.fields #[.none,.bool false,.bool false,.ref (j3 p q r h l1 l2 l3).objs.size,.ref (j4 p q r h l1 l2 l3).objs.size] }
def qU(p q r)(l1 l2 l3)(us vs ws) :
  Meets (Builtin.«zip.__new__» ⟨[.type "zip",.ref l1,.ref l2,.ref l3],[]⟩) (λ_ R s=>SqK p s.heap l1 us/\SqK q s.heap l2 vs/\SqK r s.heap l3 ws /\
   R (.ok (.ret (.ref (j5 p q r s.heap l1 l2 l3).objs.size))) (sH0 s (j6 p q r s.heap l1 l2 l3))) :=
 .of_wp λe w A R s h=>by
  obtain ⟨a,g,d,b,c⟩:=s;obtain ⟨l,k,n,h⟩:=h;have f:=sub_zip;have i:SqK p (Shared.heap ⟨a,g,d,b,c⟩) l1 us:=l;have j:SqK q (Shared.heap ⟨a.push (Jh p l1),g,d,b,c⟩) l2 vs:=SqK.push k _;have m:SqK r (Shared.heap ⟨(a.push (Jh p l1)).push (Jh q l2),g,d,b,c⟩) l3 ws:=SqK.push (SqK.push n _) _
  wp_walk using Uw i,Uw j,Uw m
  exact ⟨_,rfl,h⟩
section
variable{prog:Program} {E:VS}
def uM{us:Array Value}(n1:SqK p s.heap l1 us)(n2:SqK q s.heap l2 vs)(n3:SqK r s.heap l3 ws) (h:∀h',Z3 h' (s.heap.objs.size+5) (s.heap.objs.size+3) (s.heap.objs.size+4) .none (.bool false)->Tr h' (s.heap.objs.size+3) (.ref s.heap.objs.size) (.ref (s.heap.objs.size+1)) (.ref (s.heap.objs.size+2)) ->
   Tr h' (s.heap.objs.size+4) .none .none .none->ItK p h' s.heap.objs.size l1 0->ItK q h' (s.heap.objs.size+1) l2 0->ItK r h' (s.heap.objs.size+2) l3 0->h'.objs.size=s.heap.objs.size+6 ->
   (∀c o,s.heap.get? c=some o->h'.get? c=some o)->Q (.ref (s.heap.objs.size+5)) (sH0 s h')) :
  wP prog w A (call (.type "zip") [.ref l1,.ref l2,.ref l3]) Q E s:=by
 refine callType_new F.called_zip (by decide) (yd _ _ _) (Zsy _ _ _) (λn=>oi_4 n _ _ _) F.entry_zip_new (qU p q r l1 l2 l3 us vs ws) ⟨n1,n2,n3,?_⟩;have m:(j1 p s.heap l1).objs.size=s.heap.objs.size+1:=Ex ..;have k:(j2 p q s.heap l1 l2).objs.size=s.heap.objs.size+2:=by rw [Ex,m]
 have t:(j3 p q r s.heap l1 l2 l3).objs.size=s.heap.objs.size+3:=by rw [Ex,k]
 have l:(j4 p q r s.heap l1 l2 l3).objs.size=s.heap.objs.size+4:=by rw [Ex,t]
 have j:(j5 p q r s.heap l1 l2 l3).objs.size=s.heap.objs.size+5:=by rw [Ex,l]
 have C:(j6 p q r s.heap l1 l2 l3).objs.size=s.heap.objs.size+6:=by rw [Ex,j]
 have d:∀{c:Addr} {o:Obj},(j5 p q r s.heap l1 l2 l3).get? c=some o->(j6 p q r s.heap l1 l2 l3).get? c=some o:=λe=>Bj _ e;have g:∀{c:Addr} {o:Obj},(j4 p q r s.heap l1 l2 l3).get? c=some o->(j6 p q r s.heap l1 l2 l3).get? c=some o:=λe=>d (Bj _ e);have a:∀{c:Addr} {o:Obj},(j3 p q r s.heap l1 l2 l3).get? c=some o->(j6 p q r s.heap l1 l2 l3).get? c=some o:=λe=>g (Bj _ e);have b:∀{c:Addr} {o:Obj},(j2 p q s.heap l1 l2).get? c=some o->(j6 p q r s.heap l1 l2 l3).get? c=some o:=λe=>a (Bj _ e);have f:∀{c:Addr} {o:Obj},(j1 p s.heap l1).get? c=some o->(j6 p q r s.heap l1 l2 l3).get? c=some o:=λe=>b (Bj _ e);have i:(j6 p q r s.heap l1 l2 l3).get? (j5 p q r s.heap l1 l2 l3).objs.size=some _:=CJ _ rfl;have y:(j6 p q r s.heap l1 l2 l3).get? (j4 p q r s.heap l1 l2 l3).objs.size=some _:=d (CJ _ rfl);have v:(j6 p q r s.heap l1 l2 l3).get? (j3 p q r s.heap l1 l2 l3).objs.size=some _:=g (CJ _ rfl);have z:(j6 p q r s.heap l1 l2 l3).get? (j2 p q s.heap l1 l2).objs.size=some _:=a (CJ _ rfl);have u:(j6 p q r s.heap l1 l2 l3).get? (j1 p s.heap l1).objs.size=some _:=b (CJ _ rfl);have B:(j6 p q r s.heap l1 l2 l3).get? s.heap.objs.size=some _:=f (CJ _ rfl);show _/\_;rw [t,l,j] at i;rw [m,k,t] at v;rw [l] at y;rw [k] at z;rw [m] at u;rw [j];exact ⟨⟨_,i,rfl⟩,h _ i v y (ItK.new B) (ItK.new u) (ItK.new z) C λc o x=>f (Bj _ x)⟩
end
def At3.obj{p q r:Bool}{z TI TO i1 i2 i3 a b c:Addr}{h:Heap}(st:At3 p q r z TI TO i1 i2 i3 a b c i h){x:Addr}(hx:x∈[z,TI,TO,i1,i2,i3]):∃o,h.get? x=some o/\∀v,o.data≠.cell v:=by
 obtain ⟨s,y,u,v,w,A,D,j,f,g,d,e⟩:=st;obtain ⟨F,_,t,C⟩:=g.flds;obtain ⟨E,_,n,k⟩:=d.flds;obtain ⟨m,_,B,l⟩:=e.flds
 grind
def At3.keep{p q r:Bool}{z TI TO i1 i2 i3 a b c:Addr}{h h':Heap}(st:At3 p q r z TI TO i1 i2 i3 a b c i h)(k:∀x∈[z,TI,TO,i1,i2,i3],∀o,h.get? x=some o->h'.get? x=some o):At3 p q r z TI TO i1 i2 i3 a b c i h':=by
 obtain ⟨t,g,u,v,w,j,s,d,f,n,l,m⟩:=st;exact ⟨t,g,u,v,w,k z (by simp) _ j,s,k TI (by simp) _ d,k TO (by simp) _ f,n.at λo e=>k i1 (by simp) o e,l.at λo e=>k i2 (by simp) o e,m.at λo e=>k i3 (by simp) o e⟩
section
variable {B:Around} {p q r:Bool} {z TI TO i1 i2 i3 a b c:Addr}
def kj{E:VS}{x:V}(hc:B.handled=none)(D:Ap3 z TI TO i1 i2 i3 a b c)(I:Inv X pins Y H s)(hf:∀d∈[z,TI,TO,i1,i2,i3],FpOk X pins H d)(st:At3 p q r z TI TO i1 i2 i3 a b c i s.heap)(hqa:SqB X.K p H a xs)(hqb:SqB X.K q H b ys)(hqc:SqB X.K r H c zs)(hx:xs[i]?=some x)(hy:ys[i]?=some y)(hu:zs[i]?=some u)(kQ:∀h' T,T=s.heap.objs.size->H T=none->Inv X pins Y (upd H T (.tup [x,y,u])) (sH0 s h')->At3 p q r z TI TO i1 i2 i3 a b c (i+1) h'->(∀d o,d∉[z,TI,TO,i1,i2,i3]->s.heap.get? d=some o->h'.get? d=some o)->Q (some (.ref T)) (sH0 s h')) :
  wpAny (model X.p X.w) B (pyNext (.ref z)) Q E s:=by
 obtain ⟨P,U,N,za⟩:=I.seqB hqa;obtain ⟨v,g,G,zb⟩:=I.seqB hqb;obtain ⟨t,h,W,zc⟩:=I.seqB hqc;obtain ⟨J,e1,O⟩:=U.get hx;obtain ⟨R,e2,Z⟩:=g.get hy;obtain ⟨L,e3,A⟩:=h.get hu;refine eH hc D st N G W (λk l n h' q1 q2 q3 f M m=>?_) λhn=>by simp_all
 have S:H s.heap.objs.size=none:=I.hok.fresh (Ae _);obtain ⟨rfl,rfl,rfl⟩ : k=J/\l=R/\n=L:=by simp_all
 refine kQ h' _ rfl S ?_ f m;refine I.turnNew (fp:=[z,TI,TO,i1,i2,i3]) (t':=s.toks) (λd F C e=>m d F C e) hf (Ae _) ?_;have j:(3:Nat)<=sizeLine:=by decide
 exact ⟨j,[k,l,n],.cons O (.cons Z (.cons A .nil)),⟨_,M,rfl,_,rfl⟩⟩
def Zwu{E:VS}(hc:B.handled=none)(D:Ap3 z TI TO i1 i2 i3 a b c)(I:Inv X pins Y H s)(hf:∀d∈[z,TI,TO,i1,i2,i3],FpOk X pins H d)(st:At3 p q r z TI TO i1 i2 i3 a b c i s.heap)(hqa:SqB X.K p H a xs)(hqb:SqB X.K q H b ys)(hqc:SqB X.K r H c zs)(hx:xs.length<=i\/ys.length<=i\/zs.length<=i)(kQ:∀h',Inv X pins Y H (sH0 s h')->(∀d o,d∉[z,TI,TO,i1,i2,i3]->s.heap.get? d=some o->h'.get? d=some o)->Q none (sH0 s h')) :
  wpAny (model X.p X.w) B (pyNext (.ref z)) Q E s:=by
 obtain ⟨n,v,t,y⟩:=I.seqB hqa;obtain ⟨j,e,u,F⟩:=I.seqB hqb;obtain ⟨h,f,l,J⟩:=I.seqB hqc;have x:=v.length;have m:=e.length;have k:=f.length;refine eH hc D st t u l (λL C A h' G N M _ _ _=>by grind) λ_ h' g=>?_;exact kQ h' (I.turnedL (fp:=[z,TI,TO,i1,i2,i3]) (t':=s.toks) g hf) g
end
def Zrd{n:Addr}(h1:@LT.lt Nat _ a n)(h2:@LT.lt Nat _ b n)(h3:@LT.lt Nat _ c n):Ap3 (n+5) (n+3) (n+4) n (n+1) (n+2) a b c:=⟨Ha _,Ha _,Ha _,Ha _,Ha _,h1,h2,h3⟩
def Zmj{E:VS}(I:Inv X pins Y H s)(hqa:SqB X.K p H a xs)(hqb:SqB X.K q H b ys)(hqc:SqB X.K r H c zs)(k:∀h' z TI TO i1 i2 i3,Ap3 z TI TO i1 i2 i3 a b c->Inv X pins Y H (sH0 s h')->At3 p q r z TI TO i1 i2 i3 a b c 0 h'->(∀d∈[z,TI,TO,i1,i2,i3],FpOk X pins H d)->(∀d∈[z,TI,TO,i1,i2,i3],@LT.lt Nat _ d h'.objs.size)->Q (.ref z) (sH0 s h')):wX X (call (.type "zip") [.ref a,.ref b,.ref c]) Q E s:=by
 obtain ⟨G,P,m,R⟩:=I.seqB hqa;obtain ⟨l,y,n,o⟩:=I.seqB hqb;obtain ⟨i,J,j,B⟩:=I.seqB hqc;have F:a<s.heap.objs.size:=by obtain ⟨_,e⟩:=m.here;exact BP e
 have L:b<s.heap.objs.size:=by obtain ⟨_,e⟩:=n.here;exact BP e
 have M:c<s.heap.objs.size:=by obtain ⟨_,e⟩:=j.here;exact BP e
 refine uM m n j λh' x g h v C N O D=>?_;have u:Inv X pins Y H (sH0 s h'):=I.kept (t':=s.toks) D
 refine k h' _ _ _ _ _ _ (Zrd F L M) u ⟨_,_,_,_,_,x,.inl rfl,g,h,v,C,N⟩ (λd t=>?_) (λd t=>?_)
 .have f:s.heap.objs.size<=d:=by
   grind
  exact I.fpOk f (I.hok.fresh f)
 grind
noncomputable def Dh:List V->List V->List V->List (V×V×V)
 | x::xs,y::ys,u::us=>(x,y,u)::Dh xs ys us
 | _,_,_=>[]
def bF:∀{xs ys us:List V} {i:Nat} {x y u:V},(Dh xs ys us)[i]?=some (x,y,u)->xs[i]?=some x/\ys[i]?=some y/\us[i]?=some u
 | [],_,_,_,_,_,_,h=>by ext
 | _::_,[],_,_,_,_,_,h=>by ext
 | _::_,_::_,[],_,_,_,_,h=>by ext
 | _::_,_::_,_::_,0,_,_,_,h=>by simp [Dh] at h;simp_all
 | _::xs,_::ys,_::us,i+1,_,_,_,h=>by
  have:=bF (xs:=xs) (ys:=ys) (us:=us) (i:=i) (by ext)
  ext
def YG:∀xs ys us,xs.length<=(Dh xs ys us).length\/ys.length<=(Dh xs ys us).length\/us.length<=(Dh xs ys us).length
 | [],_,_=>.inl (by simp)
 | _::_,[],_=>.inr (.inl (by simp))
 | _::_,_::_,[]=>.inr (.inr (by simp))
 | _::xs,_::ys,_::us=>by
  have:=YG xs ys us;simp [Dh]
  lia
inductive Lay3(H:Hp):List (V×V×V)->List Addr->Hp->Prop
 | nil:Lay3 H [] [] H
 | snoc {ts:List (V×V×V)} {as:List Addr} {H':Hp} {T:Addr} {x y u:V} (h:Lay3 H ts as H') (hT:H' T=none):Lay3 H (ts++[(x,y,u)]) (as++[T]) (upd H' T (.tup [x,y,u]))
def Lay3.same(h:Lay3 H ts as H'):Same H H':=by
 induction h with
 | nil=>exact λ_ _ e=>e
 | snoc h hT ih=>exact λb o e=>(by
   have a:=ih b o e;rw [Af (λq=>by lia)]
   exact a)
def ZoY(h:S≠T):upd (upd H S o) T o'=upd (upd H T o') S o:=by
 funext b;by_cases h1:b=S
 .subst h1;rw [Af h,Ar,Ar]
 .by_cases h2:b=T
  .subst h2;rw [Ar,Af h1,Ar]
  .rw [Af h2,Af h1,Af h1,Af h2]
def Rm:upd (upd H S o) S o'=upd H S o':=by
 funext b;by_cases h1:b=S
 .subst h1;rw [Ar,Ar]
 .rw [Af h1,Af h1,Af h1]
def J7(e:Same H H')(h:SqB K p H a xs):SqB K p H' a xs:=by
 cases p
 .exact Same.seq e h
 .rcases (show SqT K H a xs from h) with (h | ⟨o,h⟩) | h
  .exact .inl (.inl (e _ _ h))
  .exact .inl (.inr ⟨o,e _ _ h⟩)
  .exact .inr h
def fM(h:H S=none):Same H (upd H S o):=λb u e=>by
 rw [Af (λq=>by lia)];exact e
section
variable {p q r:Bool} {z TI TO i1 i2 i3 a b c S:Addr} {ys us:List V}
def yh{B:Around}{R:Result->Shared->Prop}(kh:B.in1.handled=none)(D:Ap3 z TI TO i1 i2 i3 a b c)(hqa:SqB X.K p H a xs)(hqb:SqB X.K q H b ys)(hqc:SqB X.K r H c us)(hS:S∉[z,TI,TO,i1,i2,i3])(kR:∀s' as H',Inv X pins Y (upd H' S (.lst (as.map V.ref))) s'->H' S=none->Lay3 H (Dh xs ys us) as H'->R (.ok (.ret .none)) s') :
  ∀(k i:Nat) (s:Shared) (H':Hp) (as:List Addr),i+k=(Dh xs ys us).length->Inv X pins Y (upd H' S (.lst (as.map V.ref))) s->H' S=none->Lay3 H ((Dh xs ys us).take i) as H'->At3 p q r z TI TO i1 i2 i3 a b c i s.heap->as.length=i->(∀d∈[z,TI,TO,i1,i2,i3],FpOk X pins (upd H' S (.lst (as.map V.ref))) d) ->
   codeAny (model X.p X.w) B (.builtin "list.extend.loop" ⟨[.ref S,.ref z,.none],[]⟩) R s:=by
 intro k
 induction k with
 | zero=>
  intro i s H' as hk I g L A la v;have j:Same H (upd H' S (.lst (as.map V.ref))):=λb o e=>fM g b o (L.same b o e);refine Nu F.entry_extend_loop ?_;rw [T5 UL _];show wpAny _ B.in1 (pyNext (.ref z) >>= _) _ _ s;refine Ac (Zwu kh D I v A (J7 j hqa) (J7 j hqb) (J7 j hqc) (by have:=YG xs ys us;lia) λh' I' _=>?_);refine Ad (kR _ as H' I' g ?_);simp_all
 | succ k ih=>
  intro i s H' as hk I g L A la v;have j:Same H (upd H' S (.lst (as.map V.ref))):=λb o e=>fM g b o (L.same b o e);have hi:i<(Dh xs ys us).length:=by lia
  obtain ⟨⟨x,y,u⟩,Q⟩ : ∃t,(Dh xs ys us)[i]?=some t:=⟨_,BL hi⟩;obtain ⟨e1,e2,e3⟩:=bF Q;refine Nu F.entry_extend_loop ?_;rw [T5 UL _];show wpAny _ B.in1 (pyNext (.ref z) >>= _) _ _ s;refine Ac (kj kh D I v A (J7 j hqa) (J7 j hqb) (J7 j hqc) e1 e2 e3 λh' T Z m J G kp=>?_);have hl:as.length<sizeLine:=by
   obtain ⟨_,_,_,hz⟩:=I.seqB (J7 j hqa)
   grind
  have E:S≠T:=λq=>by subst q;rw [Ar] at m;cases m
  have N:H' T=none:=by rw [Af (Ne.symm E)] at m;exact m
  rw [ZoY E] at J;have U:(upd (upd H' T (.tup [x,y,u])) S (.lst (as.map V.ref))) S=some (.lst (as.map V.ref)):=Ar;obtain ⟨zz,l,n,rr,P,e⟩:=J.lstM U;have M:l.length=as.length:=by simp_all
  show wpAny _ B.in1 (updateSeq S (·.push (.ref T)) >>= _) _ _ _;refine Ac ?_;refine M7 e rfl (Ad ⟨plainId_quiet UL _,?_⟩) (by simp_all) (by simp_all);have I3:=J.lset (f:=(·.push (.ref T))) (t':=s.toks) (ys:=as.map V.ref++[.ref T]) (its':=l++[.ref T]) U e (by simp) (rr.append (.cons (show RelV (.ref T) (.ref T) from rfl) .nil)) (by grind);rw [Rm] at I3;refine ih (i+1) _ (upd H' T (.tup [x,y,u])) (as++[T]) (by lia) ?_ ?_ ?_ ?_ ?_ ?_
  .simp_all
  .rw [Af E];lia
  .rw [List.take_add_one,Q];exact .snoc L N
  .exact G.keep λd C o e=>(Lz _ _ (λh=>hS (by lia))).trans e
  .simp_all
  .intro d C;have W:d≠S:=λq=>hS (by lia);have dT:d≠T:=by
    obtain ⟨o,ho,_⟩:=A.obj C;rw [Z];exact Am (BP ho)
   have z:=v d C;refine ⟨?_,z.2⟩;rw [Af W,Af dT];have O:=z.1;rw [Af W] at O;exact O
def ZoL:typeLookup (.type "zip") "__len__"=pure none:=by rfl
def ZnK:typeLookup (.type "zip") "__length_hint__"=pure none:=by rfl
def n7{E:VS}(hc:X.c=true)(D:Ap3 z TI TO i1 i2 i3 a b c)(I:Inv X pins Y H s)(st:At3 p q r z TI TO i1 i2 i3 a b c 0 s.heap)(hf:∀d∈[z,TI,TO,i1,i2,i3],FpOk X pins H d)(hqa:SqB X.K p H a xs)(hqb:SqB X.K q H b ys)(hqc:SqB X.K r H c us)(kQ:∀s' S as H',Inv X pins Y (upd H' S (.lst (as.map V.ref))) s'->H' S=none->Lay3 H (Dh xs ys us) as H'->Q (.ref S) s'):wX X (call (.type "list") [.ref z]) Q E s:=by
 have l:∀d∈[z,TI,TO,i1,i2,i3],d≠s.heap.objs.size:=λd i=>by
  obtain ⟨o,ho,_⟩:=st.obj i;exact Am (BP ho)
 have y:z∈[z,TI,TO,i1,i2,i3]:=by simp
 refine callType_codes (Q₁:=λu j=>u=.ref s.heap.objs.size/\j={ s with heap:=s.heap.push { cls:=.type "list",data:=.seq #[] } }) F.called_list (F.typeCall_list_1 _) F.entry_list_init
  (code_list_new _ ⟨rfl,rfl⟩) λu j U=>?_
 obtain ⟨rfl,rfl⟩:=U;have G:H s.heap.objs.size=none:=I.fresh;have T:Inv X pins Y (upd H s.heap.objs.size (.lst [])) { s with heap:=s.heap.push { cls:=.type "list",data:=.seq #[] } }:=I.lnew (its:=[]) (t':=s.toks) .nil (Bw _)
 have C:At3 p q r z TI TO i1 i2 i3 a b c 0 (s.heap.push { cls:=.type "list",data:=.seq #[] }):=st.keep λd _ o e=>Bj _ e;generalize hsz:s.heap.objs.size=S at *;have v:(s.heap.push { cls:=.type "list",data:=.seq #[] }).get? S=some { cls:=.type "list",data:=.seq #[] }:=by rw [<-hsz];exact CJ _ rfl
 generalize s.heap.push { cls:=.type "list",data:=.seq #[] }=g at *;refine ⟨⟨_,v,rfl⟩,F.args_list_init_2 _ _,?_⟩;show wpAny _ X.A.in1.in1 (do let old <-Builtin.List.listItems (.ref S);Builtin.List.listUpdate (.ref S) (λ_=>#[]);letGo old.toList.reverse;Builtin.List.listExtendWith (.ref S) (.ref z) .none) _ _ _
 refine Ac ?_;unfold Builtin.List.listItems;refine Ac (Hm v rfl (Ad ?_));show wpAny _ X.A.in1.in1 (updateSeq S (λ_=>#[]) >>= λ_=>letGo (#[]:Array Value).toList.reverse >>= λ_=>Builtin.List.listExtendWith (.ref S) (.ref z) .none) _ _ _;refine Ac (M7 v rfl ?_);have P:=T.lset (f:=λ_=>#[]) (t':=s.toks) (its:=[]) (its':=[]) (ys:=[]) (n:=0) Ar v rfl .nil (Bw _);rw [Rm] at P;have m:At3 p q r z TI TO i1 i2 i3 a b c 0 (g.update S (Obj.mapSeq λ_=>#[])):=C.keep λd i o e=>(Lz _ _ (λh=>l d i h.symm)).trans e;have k:=MN (Obj.mapSeq (λ_=>(#[]:Array Value))) v rfl;generalize g.update S (Obj.mapSeq λ_=>#[])=g2 at *;refine Ac (wpAny_letGo ?_);unfold Builtin.List.listExtendWith;obtain ⟨f0,f1,u0,v0,w0,O,_⟩:=id m;have J:(Shared.TypeIs (sH0 s g2) (.ref z) "zip"):=⟨_,O,rfl⟩
 refine Ac (Mh J ?_);have zS:S≠z:=λh=>l z y h.symm;have W:Builtin.List.listSameRef (.ref S) (.ref z)=false:=by simp [Builtin.List.listSameRef,zS]
 have R:(Value.type "zip"==Value.type "list")=false:=by decide
 have h3:(Value.type "zip"==Value.type "tuple")=false:=by decide
 simp only [W,R,h3,Bool.or_false,DQ,Ca];refine Ac (wz O ?_);refine Ac (Cw ?_);unfold Builtin.List.listLengthHint;refine Ac (wpAny_specialOf J ZoL ?_);show wpAny _ X.A.in1.in1 (specialOf (Value.ref z) (Str.ofString "__length_hint__") >>= _) _ _ _;refine Ac (wpAny_specialOf J ZnK ?_);refine Ad ?_;show wpAny _ X.A.in1.in1 (rule "list.extend.makes-room" >>= λ_=>Builtin.List.listTouch (.ref S) >>= λ_=>again (.builtin "list.extend.loop" ⟨[.ref S,.ref z,.none],[]⟩)) _ _ _;refine Ac (Gj ?_);refine Ac ?_;show wpAny _ X.A.in1.in1 (updateSeq S (·.push .none) >>= λ_=>updateSeq S (·.pop)) _ _ _;refine Ac (M7 k rfl ?_);have t:=MN (Obj.mapSeq (·.push Value.none)) k rfl;refine M7 (hz:=by seq_fits) t rfl ?_;have N:=P.lset (f:=(·.push Value.none)) (t':=s.toks) (its:=[]) (its':=[.none]) (ys:=[.non]) Ar k rfl (.cons (show RelV .non .none from rfl) .nil) (by ext);rw [Rm] at N;have M:=N.lset (f:=(·.pop)) (t':=s.toks) (its:=[.none]) (its':=[]) (ys:=[]) Ar t rfl .nil (Bw _);rw [Rm] at M;have x:At3 p q r z TI TO i1 i2 i3 a b c 0 ((g2.update S (Obj.mapSeq (·.push Value.none))).update S (Obj.mapSeq (·.pop))):=m.keep λd i o e=>(Lz _ _ (λh=>l d i h.symm)).trans ((Lz _ _ (λh=>l d i h.symm)).trans e);refine Ad ⟨plainId_quiet UL _,?_⟩;refine yh (B:=X.A.in1) (I.ok.hd hc) D hqa hqb hqc (λh=>l S h rfl) (λs' as H' Z e L=>⟨rfl,kQ s' S as H' Z e L⟩) (Dh xs ys us).length 0 _ H [] (by lia) M G .nil x rfl λd i=>?_;have z:=hf d i;exact ⟨by rw [Af (l d i)];exact z.1,z.2⟩
end
section
def tLZ(K:W1)(ta:TA):TE:=λY H Q=>ta Y H λj d=>∃p q r a b c g i h,j=[.ref a,.ref b,.ref c]/\SqB K p d a g/\SqB K q d b i/\SqB K r d c h/\∀S f e,e S=none->Lay3 d (Dh g i h) f e->Q (.ref S) (upd e S (.lst (f.map V.ref)))
def ZyL(hc:X.c=true)(hg:Gl X "zip")(hm:X.m "zip"=none)(hgl:Gl X "list")(hml:X.m "list"=none)(ha:PA X [a,b,c] ta)(hs:starEach [a,b,c] X.v=[(false,eval a X.v),(false,eval b X.v),(false,eval c X.v)]:=by rfl)(hs2:starEach [b,c] X.v=[(false,eval b X.v),(false,eval c X.v)]:=by rfl)(hs3:starEach [.Call (.Name "zip" np) [a,b,c] [] pos] X.v=(false,eval (.Call (.Name "zip" np) [a,b,c] [] pos) X.v)::starEach [] X.v:=by rfl) :
  PE X (.Call (.Name "list" lp) [.Call (.Name "zip" np) [a,b,c] [] pos] [] pos') (tLZ X.K ta):=by
 intro i s Y H Q I h;refine Call_ (Hl I hgl hml Tt (Ip ?_ hs3 rfl));rw [hs3];show wpAny _ _ (spliced ((false,eval (.Call (.Name "zip" np) [a,b,c] [] pos) X.v)::backTo pos' (starEach [] X.v))) _ _ s;refine Calls.spliced_cons ?_;refine Call_ (Hl I hg hm ZvU (Ip (thn (ha pos i s Y H _ I h) λx N zq=>?_) (by lia) (by rw [hs2];rfl)));obtain ⟨F,G,p,k,t⟩:=zq;obtain ⟨κ,μ,ν,l,m,n,M,R,P,e,g,f,d,q⟩:=t;subst e;cases k with
 | cons r rr=>
  cases rr with
  | cons r' rr=>
   cases rr with
   | cons r'' rr=>
    cases rr;cases r;cases r';cases r'';refine Zmj p g f d λE z A T O C J D v w j _=>?_;refine Calls.spliced_nil ?_;exact n7 hc D v w j g f d λB S o y u e L=>⟨.ref S,_,u,rfl,q S o y e L⟩
end
end L2
namespace L2.Ds
open Dl
section
variable {F:Hp}
def ZrW{us:List D}(r:Rps K mg F xs ds)(e:zip3 ds=.ok us):∃p q t a b c as bs cs d1 d2 d3,xs=[.ref a,.ref b,.ref c]/\SqB K p F a as/\SqB K q F b bs/\SqB K t F c cs/\Rps K mg F as d1/\Rps K mg F bs d2/\Rps K mg F cs d3/\us=trips d1 d2 d3:=by
 unfold zip3 at e;split at e
 .next x y z=>
  obtain ⟨A,w,B,rfl,k,m,n⟩:=r.three;cases e1:seqD x with
  | ok d1=>
   rw [e1] at e;cases e2:seqD y with
   | ok d2=>
    cases e3:seqD z with
    | ok d3=>
     have g:((seqD y).bind λh=>(seqD z).bind λf=>Res.ok (trips d1 h f))=.ok us:=e;rw [e2] at g;have d:((seqD z).bind λf=>Res.ok (trips d1 d2 f))=.ok us:=g;rw [e3] at d;have s:Res.ok (trips d1 d2 d3)=.ok us:=d;cases s;obtain ⟨p,a,as,rfl,o,j⟩:=Wd k e1;obtain ⟨q,b,bs,rfl,l,i⟩:=Wd m e2;obtain ⟨t,c,cs,rfl,v,u⟩:=Wd n e3;exact ⟨p,q,t,a,b,c,as,bs,cs,d1,d2,d3,rfl,o,l,v,j,i,u,rfl⟩
    | bad=>
     have g:((seqD y).bind λh=>(seqD z).bind λf=>Res.ok (trips d1 h f))=.ok us:=e;rw [e2] at g;have d:((seqD z).bind λf=>Res.ok (trips d1 d2 f))=.ok us:=g;rw [e3] at d;cases d
   | bad=>
    have g:((seqD y).bind λh=>(seqD z).bind λf=>Res.ok (trips d1 h f))=.ok us:=e;rw [e2] at g;cases g
  | bad=>rw [e1] at e;cases e
 .cases e
def ZrV:∀{H H':Hp} {ts:List (V×V×V)} {as:List Addr},Lay3 H ts as H'->∀{F:Hp},Same F H->∀{us:List D},us.length=ts.length->(∀(i:Nat) x y z d,ts[i]?=some (x,y,z)->us[i]?=some d->∃a b c,d=.tup [a,b,c]/\Rp K mg F x a/\Rp K mg F y b/\Rp K mg F z c)->∃F',Gr F H F' H'/\Rps K mg F' (as.map V.ref) us:=by
 intro H H' ts as L
 induction L with
 | nil=>
  intro F s us m _;have:us=[]:=UJ.mp m;subst this;exact ⟨F,.refl s,.nil⟩
 | @snoc ts as H1 T x y u L hT ih=>
  intro F s us m l;have q:us.length=ts.length+1:=by simp_all
  obtain ⟨d,n⟩ : ∃d,us[ts.length]?=some d:=⟨_,BL (by lia)⟩;obtain ⟨g,rfl⟩ : ∃g,us=g++[d]:=by
   refine ⟨us.take ts.length,?_⟩;have:=KN ts.length us;rw [J9 (by lia),O1 (by lia)] at this;have e:us[ts.length]=d:=by
    have:=BL (show ts.length<us.length by lia);rw [n] at this;exact (CW this).symm
   rw [e] at this;exact this.symm
  have k:g.length=ts.length:=by simp_all
  obtain ⟨o,h,p⟩:=ih s k λi x y z e A w=>l i x y z e (by grind) (by grind);obtain ⟨a,b,c,rfl,t,r,v⟩:=l ts.length x y u d (by simp) n;have j:Gr o H1 _ _:=.new h.s hT (.tup [x,y,u]);refine ⟨_,h.trans j,?_⟩;rw [Ft];refine Rps.app (.cons (.tup (SqT.of Ar) (.cons ((t.same h.f).same j.f) (.cons ((r.same h.f).same j.f) (.cons ((v.same h.f).same j.f) .nil)))) .nil) (p.same j.f)
theorem eF:∀{xs ys zs:List V} {ds es fs:List D},Rps K mg F xs ds->Rps K mg F ys es->Rps K mg F zs fs->(trips ds es fs).length=(Dh xs ys zs).length/\∀(i:Nat) x y z d,(Dh xs ys zs)[i]?=some (x,y,z)->(trips ds es fs)[i]?=some d->∃a b c,d=.tup [a,b,c]/\Rp K mg F x a/\Rp K mg F y b/\Rp K mg F z c
 | _,_,_,_,_,_,.nil,_,_=>⟨by rfl,λi x y z d h=>by ext⟩
 | _,_,_,_,_,_,.cons _ _,.nil,_=>⟨by rfl,λi x y z d h=>by ext⟩
 | _,_,_,_,_,_,.cons _ _,.cons _ _,.nil=>⟨by rfl,λi x y z d h=>by ext⟩
 | _,_,_,_,_,_,.cons h1 r1,.cons h2 r2,.cons h3 r3=>by
  obtain ⟨l,q⟩:=eF r1 r2 r3;refine ⟨by simp [trips,Dh,l],λi x y z d e f=>?_⟩;cases i with
  | zero=>
   simp [Dh] at e;obtain ⟨rfl,rfl,rfl⟩:=e;simp [trips] at f
   grind
  | succ i=>exact q i x y z d (by ext) (by ext)
end
section
variable {a b c:Expr} {t:TA} {m:MA} {lp p:Pos}
def yaY(hcm:X.c=true)(hg:Gl X "zip")(hm:X.m "zip"=none)(hgl:Gl X "list")(hml:X.m "list"=none)(ha:DA X E n [a,b,c] t m)(hs:starEach [a,b,c] X.v=[(false,eval a X.v),(false,eval b X.v),(false,eval c X.v)]:=by rfl)(hs2:starEach [b,c] X.v=[(false,eval b X.v),(false,eval c X.v)]:=by rfl)(hs3:starEach [.Call (.Name "zip" p) [a,b,c] [] pos] X.v=(false,eval (.Call (.Name "zip" p) [a,b,c] [] pos) X.v)::starEach [] X.v:=by rfl) :
  DE X E (.Call (.Name "list" lp) [.Call (.Name "zip" p) [a,b,c] [] pos] [] pos') (tLZ X.K t) (on lz3 m):=by
 refine ⟨ZyL hcm hg hm hgl hml ha.p hs hs2 hs3,?_⟩;intro D x F H Y Z M;refine (ha.s D x F H Y Z M).bind (w':=λG d Q=>∃p q r a b c k v o,G=[V.ref a,V.ref b,V.ref c]/\SqB X.K p d a k/\SqB X.K q d b v/\SqB X.K r d c o/\∀S h g,g S=none->Lay3 d (Dh k v o) h g->Q (V.ref S) (upd g S (.lst (h.map V.ref)))) λF1 d k J i N=>?_;unfold lz3;cases e:zip3 J with
 | ok o=>
  obtain ⟨p,q,t,a,b,c,h,B,I,d1,d2,d3,rfl,ha,A,W,y,O,T,rfl⟩:=ZrW N e;obtain ⟨l,z⟩:=eF y O T;refine λQ U=>⟨p,q,t,a,b,c,h,B,I,rfl,WX i.s ha,WX i.s A,WX i.s W,λS j g R L=>?_⟩;obtain ⟨C,u,P⟩:=ZrV L i.s l z;have w:Gr C g _ _:=.new u.s R (.lst (j.map V.ref));exact U _ _ _ (u.trans w) (.lst (SqL.of Ar) (P.same w.f))
 | bad=>ext
end
end L2.Ds
namespace Dl
def repL(ds:List D):D->Res D
 | .int k=>if (0<=k/\k<=1000000)/\ds.length*k.toNat<=1000000 then .ok (.lst (List.replicate k.toNat ds).flatten) else .bad
 | _=>.bad
def repD(m:MA)(e:ME):ME:=λZ=>(m Z).bind λa=>(e Z).bind λy=>repL a y
end Dl
namespace L2.Ds
open PySem.Calls Dl
section
variable {F:Hp}
def Xz:∀{xs ys:List V} {ds es:List D},Rps K mg F xs ds->Rps K mg F ys es->Rps K mg F (xs++ys) (ds++es)
 | _,_,_,_,.nil,h=>h
 | _,_,_,_,.cons h r,h'=>.cons h (Xz r h')
def Yu(h:Rps K mg F xs ds):∀k,Rps K mg F (List.replicate k xs).flatten (List.replicate k ds).flatten
 | 0=>.nil
 | k+1=>by
  rw [K9,K9,List.flatten_cons,List.flatten_cons];exact Xz h (Yu h k)
def Zur{R:Hp->Hp->V->D->Prop}{t:TA}{m:MA}{tb:TE}{mb:ME}(hR:∀F F' p zs es,F p=none->F' p=some (.lst zs)->Rps K mg F' zs es->R F F' (.ref p) (.lst es))(ha:SA K mg E t m)(hl:SAn n m)(hn:n<=sizeLine)(hb:SE K mg E tb mb):∀F0 H0 F H Y Z,Rep K mg F0 H0 F H Y Z->Ans mg E (R F) F H (repD m mb Z) (tOp rRep (tLst t) tb Y H):=by
 intro F0 H0 F H Y Z r;have h:=ha F0 H0 F H Y Z r;unfold repD;cases e:m Z with
 | bad=>ext
 | ok ds=>
  rw [e] at h;show Ans mg E (R F) F H ((mb Z).bind λy=>repL ds y) _;have o:=λF' j (g:Gr F H F' j)=>hb F0 H0 F' j Y Z (r.gr g);cases eb:mb Z with
  | bad=>ext
  | ok y=>
   rw [eb] at o;show Ans mg E (R F) F H (repL ds y) _;unfold repL;split
   .next k=>
    by_cases hk:(0<=k/\k<=1000000)/\ds.length*k.toNat<=1000000
    .rw [iP hk];refine λQ q=>h _ λF' j c g i=>⟨by rw [i.length,hl Z ds e];exact hn,λp u=>?_⟩;have d:=Gr.new g.s u (.lst c);refine o _ _ (g.trans d) _ λv A B a w=>?_;obtain rfl:=w.z;have x:v p=some (.lst c):=a.f p _ Ar;refine ⟨p,k,c,rfl,rfl,a.s p _ x,by lia,by lia,?_,λC b=>?_⟩
     .rw [i.length];exact Ak hk.2 (by decide)
     .have l:=Gr.new a.s b (.lst (List.replicate k.toNat c).flatten);exact q _ _ _ (((g.trans d).trans a).trans l) (hR _ _ _ _ _ ((g.trans (d.trans a)).f.free (a.s.free b)) Ar (Yu (((i.same d.f).same a.f).same l.f) k.toNat))
    .rw [iN hk];ext
   .ext
end
def GTup(K:W1)(mg:MgT)(x:Str)(ns:List Int):Prop:=∃a o b n,mg x=some (.ref a)/\K.lookup a=some o/\o.cls=.type "tuple"/\o.data=.seq b n/\b.size<=sizeLine/\Vals (ns.map V.int) b.toList
def Z4{F:Hp}:∀ns:List Int,Rps K mg F (ns.map V.int) (ns.map D.int)
 | []=>.nil
 | n::r=>.cons (.int n) (Z4 r)
section
variable {a b c tg:Expr} {t:TA} {m:MA} {tb:TE} {mb:ME} {p lpos:Pos}
def Yb{ns:List Int}{A:Addr}{o:Obj}{its:Array Value}(hg:Gl X x)(hm:X.m x=some (.ref A))(h1:X.K.lookup A=some o)(h2:o.cls=.type "tuple")(h3:o.data=.seq its n)(h4:its.size<=sizeLine)(h5:Vals (ns.map V.int) its.toList)(hd:ND x:=by decide) :
  DE X E (.Name x pos) (tC (.ref A)) (Dl.c (.tup (ns.map .int))):=⟨Uu hg hm rfl hd,se_c λ_=>.tup (.inr ⟨o,its,n,h1,h2,h3,h4,h5⟩) (Z4 ns)⟩
end
end L2.Ds
namespace Dl
def X4:Res Fl->Res Fl
 | .ok (.rt d)=>.ok (.rt d)
 | _=>.bad
end Dl
namespace Dl
def dFld(cs:List Str)(f:Str):D->Res D
 | .ins c ns vs=>if cs.contains c=true then ofO ((ns.zip vs).lookup f) else .bad
 | _=>.bad
def badS:MS:=λ_=>.bad
end Dl
namespace L2.Ds
open Dl
def Fj(K:W1)(mg:MgT)(cs:List Str)(f:Str):Prop:=∀c,cs.contains c=true->∀C,mg c=some (.ref C)->Cls K C/\Ie K C f
def rFld(K:W1)(f:Str):V->Hp->VK->Prop:=λx H Q=>∃a C c b v,x=.ref a/\H a=some (.ins C c b)/\Cls K C/\Ie K C f/\b.lookup f=some v/\Q v H
section
theorem jB{F:Hp}:∀{fs:List (Str×V)} {vs:List D},Rps K mg F (fs.map (·.2)) vs->((fs.map (·.1)).zip vs).lookup f=some d->∃v,fs.lookup f=some v/\Rp K mg F v d
 | [],_,_,e=>by simp at e
 | (n,x)::r,[],q,_=>nomatch q
 | (n,x)::r,d0::vs,.cons h q,e=>by
  rw [Bk,List.zip_cons_cons,List.lookup_cons] at e;rw [List.lookup_cons];cases z:f==n with
  | true=>
   lia
  | false=>
   rw [show (f==(n,x).fst)=false from z] at e;exact jB q e
def z7(T:Fj K mg cs f):UnD K mg (rFld K f) (dFld cs f):=by
 intro E F H x b s j;cases b with
 | ins c ns vs=>
  show Ans mg E (Rp K mg) F H (if cs.contains c=true then ofO ((ns.zip vs).lookup f) else .bad) _
  by_cases hc:cs.contains c=true
  .rw [iP hc];cases j with
   | @ins _ C a b fs xs _ m h o e r=>
    subst e;cases q:((fs.map (·.1)).zip vs).lookup f with
    | none=>ext
    | some d=>
     obtain ⟨v,i,k⟩:=jB r q;obtain ⟨l,g⟩:=T c hc C m;exact .ret s k λQ z=>⟨a,C,b,fs,v,rfl,s _ _ h,l,g,i,z⟩
  .rw [iN hc];ext
 | _=>ext
end
def Ql(T:Fj X.K X.m cs f)(he:DE X E e te me)(hb:attributeBase e f X.v (eval e X.v)=eval e X.v:=by rfl) :
  DE X E (.Attribute e f pos) (tFld X.K te f) (o1 (dFld cs f) me):=⟨rD he.p hb,jk (z7 T) he.s⟩
def Dy:DSs X E sts (λ_ _ _=>False) badS:=⟨λ_ _ _ _ _ _ h=>h.elim,λ_ _ _ _ _ _ _=>trivial⟩
end L2.Ds
namespace Dl
mutual
def noL:D->Bool
 | .lst _=>false
 | .ins _ _ _=>false
 | .tup xs=>noLs xs
 | _=>true
def noLs:List D->Bool
 | []=>true
 | x::r=>noL x&&noLs r
end
end Dl
namespace L2.Ds
open Dl
section
variable {F:Hp}
mutual
theorem aJ{F:Hp}(k:∀b o,F b=some o->(∀xs,o≠.lst xs)->F3 b=some o):∀{x:V} {d:D},Rp K mg F x d->noL d=true->Rp K mg F3 x d
 | _,_,.non,_=>.non
 | _,_,.bl b,_=>.bl b
 | _,_,.int i,_=>.int i
 | _,_,.str x,_=>.str x
 | _,_,.ty n,_=>.ty n
 | _,_,.cls h,_=>.cls h
 | _,_,.tup h r,p=>by
  refine .tup ?_ (Uh k r (by ext));rcases h with (h | ⟨o,h⟩) | h
  .exact .inl (.inl (k _ _ h λ_ z=>by cases z))
  .exact .inl (.inr ⟨o,k _ _ h λ_ z=>by cases z⟩)
  .exact .inr h
 | _,_,.lst h r,p=>by ext
 | _,_,.exc m h,_=>.exc m (h.same k)
 | _,_,.ins m h o q r,p=>by ext
theorem Uh{F:Hp}(k:∀b o,F b=some o->(∀xs,o≠.lst xs)->F3 b=some o):∀{xs:List V} {ds:List D},Rps K mg F xs ds->noLs ds=true->Rps K mg F3 xs ds
 | _,_,.nil,_=>.nil
 | _,_,.cons h r,p=>by
  rw [noLs,PQ] at p;exact .cons (aJ k h p.1) (Uh k r p.2)
end
def RowR(K:W1)(mg:MgT)(Fb F':Hp)(x:V)(d:D):Prop:=∃q b a,x=.ref q/\d=.lst a/\Fb q=none/\F' q=some (.lst b)/\Rps K mg F' b a
def RowR.up{x:V}(h:RowR K mg Fb F' x d)(s:Same F' F''):RowR K mg Fb F'' x d:=by
 obtain ⟨q,b,e,a,i,f,c,g⟩:=h;exact ⟨q,b,e,a,i,f,s _ _ c,g.same s⟩
def SEl(K:W1)(mg:MgT)(E:XK)(t:TE)(m:ME):Prop:=∀a b F H Y Z,Rep K mg a b F H Y Z->Ans mg E (RowR K mg F) F H (m Z) (t Y H)
def ue{own:List Str}{cap:List (Str×Nat)}{ys:List D}(r:Rep K mg F0 H0 F H Y Z)(jo:ItOk K mg F J ds)(hg:SG K mg own.length t g)(ht:STt K mg E0 tt nt)(he:SEl K mg E0 te me)(hl:ds.length<=LIM)(e0:Dl.Bg g nt me (nB own Z cap) ds=.ok ys)(Q)(q:∀F' H' xs,Gr F H F' H'->Rps K mg F' xs ys->(∀(k:Nat) (y:V) (d:D),xs[k]?=some y->ys[k]?=some d->RowR K mg F F' y d)->xs.Nodup->xs.length<=sizeLine->∀p,H' p=none->Q (.ref p) (upd H' p (.lst xs))) :
  Uc J t tt te own cap Y Q H:=by
 refine ⟨λi k a H'=>k=ds.length - i/\i<=ds.length/\a.length<=i/\∃F' j A,Gr F H F' H'/\Rps K mg F' a j/\(∀(k:Nat) (y:V) (d:D),a[k]?=some y->j[k]?=some d->RowR K mg F F' y d)/\a.Nodup/\Dl.Bg g nt me (nB own Z cap) (ds.drop i)=.ok A/\j++A=ys,
  ⟨ds.length,by simp,Bw _,Ae _,F,[],ys,.refl r.ss,.nil,(λk y d hy=>by simp at hy),List.nodup_nil,e0,rfl⟩,?_⟩
 rintro i k a H' ⟨rfl,hi,ha,F',j,A,o,O,R,n,N,L⟩;have la:=Ak ha (Ak hi hl);refine ⟨Jv la,?_⟩;by_cases hlt:i<ds.length
 .refine .inr ?_;have m:=BL hlt;obtain ⟨go,yl⟩:=(jo F' H' o.f o.s i).1 _ m;rw [J9 hlt] at N;refine ⟨go,λx H2 y=>?_⟩;obtain ⟨F2,U,rx⟩:=yl x H2 y;have rr:=(r.gr (o.trans U)).inner (own:=own) (cap:=cap) (o.trans U);have hG:=hg F H F2 H2 _ _ x _ rr rx;have P:(g ds[i] (nB own Z cap)).bind (λc=>(nt c).bind λb=>if b=true then (me c).bind λy=>(Dl.Bg g nt me (nB own Z cap) (ds.drop (i+1))).bind λys=>.ok (y::ys) else Dl.Bg g nt me (nB own Z cap) (ds.drop (i+1)))=.ok A:=N
  cases eg:g ds[i] (nB own Z cap) with
  | ok c=>
   rw [eg] at P hG;refine hG _ λF3 H3 Y3 s3 B d3=>⟨d3.trans gJ,?_⟩;have hT:=ht F H F3 H3 Y3 c B;have M:=U.f.trans s3;have G:(nt c).bind (λb=>if b=true then (me c).bind λy=>(Dl.Bg g nt me (nB own Z cap) (ds.drop (i+1))).bind λys=>.ok (y::ys) else Dl.Bg g nt me (nB own Z cap) (ds.drop (i+1)))=.ok A:=P
   cases et:nt c with
   | ok b=>
    rw [et] at G hT;refine hT _ λF4 H4 b' h eb=>?_;cases (eb);cases b with
    | true=>
     rw [iP rfl];have v:=G;have hE:=he F H F4 H4 Y3 c (B.gr h);cases em:me c with
     | ok y'=>
      rw [em] at v hE;refine hE _ λF5 H5 u g5 ru=>⟨DN la (by decide),ds.length - (i+1),by lia,rfl,hlt,by rw [Di];show a.length+1<=i+1;lia,?_⟩;have I:=v;have C:=M.trans (h.f.trans g5.f);cases ec:Dl.Bg g nt me (nB own Z cap) (ds.drop (i+1)) with
      | ok rs'=>
       rw [ec] at I;have e6:=I;cases e6;obtain ⟨q,qs,cs,rfl,rfl,l,E,rq⟩:=ru;have fq:=(B.g.f.trans h.f).free l;have lz:=O.length;refine ⟨F5,j++[.lst cs],rs',B.g.trans (h.trans g5),Rps.app (.cons (.lst (SqL.of E) rq) .nil) (O.same C),λk z d e m=>?_,?_,rfl,by rw [Fx];exact L⟩
       .by_cases W:k<a.length
        .rw [Fv W] at e;rw [Fv (by lia)] at m;exact (R k z d e m).up C
        .rw [GJ (by lia)] at e;rw [GJ (by lia)] at m;have X:k - a.length=0:=by
          have:=(Dc.mp e).1;simp at this
          lia
         rw [X] at e;rw [show k - j.length=0 by lia] at m;cases e;cases m;exact ⟨q,qs,cs,rfl,rfl,fq,E,rq⟩
       .refine List.nodup_append.mpr ⟨n,by simp,λz e w hw=>?_⟩;have T:w=.ref q:=by simpa using hw
        subst T;obtain ⟨k,W,rfl⟩:=Ef.mp e;obtain ⟨q',_,_,ez,_,_,f',_⟩:=R k _ _ (BL W) (BL (by lia));rw [ez];intro z2;cases z2;rw [(M.trans h.f) _ _ f'] at l;cases l
      | bad=>rw [ec] at I;cases I
     | bad=>rw [em] at v;cases v
    | false=>
     rw [iN GC];have v:=G;exact ⟨ds.length - (i+1),by lia,rfl,hlt,by lia,F4,j,A,B.g.trans h,O.same (M.trans h.f),(λk z d h1 h2=>(R k z d h1 h2).up (M.trans h.f)),n,v,L⟩
   | bad=>rw [et] at G;cases G
  | bad=>rw [eg] at P;cases P
 .have S:i=ds.length:=by lia
  subst S;rw [O1 (Ae _)] at N;cases N;rw [CN] at L;subst L;exact .inl ⟨(jo F' H' o.f o.s _).2 (Ae _),q F' H' a o O R n (Jv la)⟩
def aN:∀{xs:List V} {ds:List D} {G:Hp},xs.length=ds.length->(∀(k:Nat) (x:V) (d:D),xs[k]?=some x->ds[k]?=some d->Rp K mg G x d)->Rps K mg G xs ds
 | [],[],_,_,_=>.nil
 | [],_::_,_,l,_=>by cases l
 | _::_,[],_,l,_=>by cases l
 | x::xs,d::ds,G,l,h=>.cons (h 0 x d rfl rfl) (aN (by simp_all) λk y e a b=>h (k+1) y e (by ext) (by ext))
end
structure DEl(X:Cx)(E:XK)(e:Expr)(t:TE)(m:ME):Prop where
 p:PE X e t
 s:SEl X.K X.m E t m
end L2.Ds
namespace Dl
abbrev Fs:=List (Str×D)
abbrev MSi:=Ev->Fs->Res Fs
def iEnd:MSi:=λ_ a=>.ok a
def iDrp(e:ME)(k:MSi):MSi:=λZ a=>(e Z).bind λ_=>k Z a
def iSet(f:Str)(e:ME)(k:MSi):MSi:=λZ a=>(e Z).bind λd=>if (a.map (·.1)).contains f=true\/100<=a.length then .bad else k Z (a++[(f,d)])
def iSup(g:List D->Fs->Res Fs)(a:MA)(k:MSi):MSi:=λZ d=>(a Z).bind λc=>(g c d).bind λb=>k Z b
def fnI(n:Nat)(k:MSi):List D->Fs->Res Fs:=λa b=>k (.no::ev0 (n - 1) a) b
def make(c:Str)(g:List D->Fs->Res Fs)(a:MA):ME:=λZ=>(a Z).bind λd=>(g d []).bind λb=>.ok (.ins c (b.map (·.1)) (b.map (·.2)))
def meth(tab:List (Str×(List D->Res D)))(m:Str)(o:ME)(a:MA):ME:=λZ=>(o Z).bind λd=>match d with
 | .ins c ns vs=>if ns.contains m=true then .bad else match tab.lookup c with
  | some f=>(a Z).bind λb=>f (.ins c ns vs::b)
  | none=>.bad
 | _=>.bad
end Dl
namespace L2.Ds
open Dl
def Ans.imp{F:Hp}{w:(β->Hp->Prop)->Prop}(h:Ans mg E R F H r w)(hw:∀Q,w Q->w' Q):Ans mg E R F H r w':=by
 cases r with
 | ok a=>exact λQ q=>hw Q (h Q q)
 | bad=>ext
def NZ(P:Program)(w:World)(K:W1)(mg:MgT)(base:Heap)(k:Nat)(m:Str)(E:XK)(ta:TE)(t:TA):TE:=λY H Q=>ta Y H λx d=>∃a C j e g b f c,x=.ref a/\d a=some (.ins C j e)/\e.lookup m=none /\
 Cls K C/\Meth K C m g/\FnO P w K mg base k g b f c/\Binds K b f []/\t Y d λi h=>c (x::i) h Q E
section
variable {m:Str} {o:Expr} {ta:TE} {t:TA} {apos:Pos} {pl:Sem Bool}
def vU(he:PE X o ta)(hr:Room k X.A)(hx:Dp (CXR X.p X.w) X E)(ha:PA X (e::es) t)(hst:StE X e es:=by rfl)(hpl:PlE X pos es:=by rfl) (ht:eval (.Call (.Attribute o m apos) (e::es) [] pos) X.v=(do
   let ov <-eval o X.v
   standAt apos.atName
   let (f,first) <-holding [ov] (getMethod ov m pl)
   callWith pos f first (backTo pos (starEach (e::es) X.v)) (backToKw pos (keywordEach [] X.v))):=by rfl) :
  PE X (.Call (.Attribute o m apos) (e::es) [] pos) (NZ X.p X.w X.K X.m X.B k m E ta t):=by
 intro b s Y H Q I h;refine W.methodCall_KW (thn (he b s Y H _ I h) λu i j=>?_) ht;obtain ⟨x,H1,I1,rx,a,C,dx,fs,g,fd,ps,sp,ex,ea,l,c,hm,F,hb,q⟩:=j;subst ex;obtain rfl:u=Value.ref a:=rx;refine eG I1 ea c hm l ?_;refine W.callWith_K I.ok.mod.kin hm.kp (thn (ha pos b i Y H1 _ I1 q) λp v zq=>?_) hst hpl;obtain ⟨vs,n,d,r,y⟩:=zq;refine ⟨d.kIn,?_⟩;exact Sd (vs:=.ref a::vs) F hr hb .nil hx d (.cons rfl r) (by simp_all)
def tM(he:PE X o ta)(hr:Room k X.A)(hx:Dp (CXR X.p X.w) X E) (ht:eval (.Call (.Attribute o m apos) [] [] pos) X.v=(do
   let ov <-eval o X.v
   standAt apos.atName
   let (f,first) <-holding [ov] (getMethod ov m pl)
   callWith pos f first (backTo pos (starEach [] X.v)) (backToKw pos (keywordEach [] X.v))):=by rfl) :
  PE X (.Call (.Attribute o m apos) [] [] pos) (NZ X.p X.w X.K X.m X.B k m E ta tNil):=by
 intro b s Y H Q I h;refine W.methodCall_KW (thn (he b s Y H _ I h) λu e d=>?_) ht;obtain ⟨x,H1,I1,rx,a,C,dx,fs,g,fd,ps,sp,ex,ea,l,c,hm,F,hb,q⟩:=d;subst ex;obtain rfl:u=Value.ref a:=rx;refine eG I1 ea c hm l ?_;exact W.callWith_K0 I1.kIn hm.kp (Sd (vs:=[.ref a]) F hr hb .nil hx I1 (.cons rfl .nil) q)
end
def Gi(P:Program)(w:World)(K:W1)(mg:MgT)(base:Heap)(k n:Nat)(m:Str)(tab:List (Str×(List D->Res D))):Prop:=∀c f,tab.lookup c=some f->∀C,mg c=some (.ref C) ->
 Cls K C/\∃g b a,Meth K C m g/\FnO P w K mg base k g b a (spD K mg a.length f)/\Binds K b a []/\a.length=n+1
def Gi.nil:Gi P w K mg base k n m []:=λ_ _ e=>by cases e
def Gi.cons{P:Program}{w:World}{K:W1}{mg:MgT}{base:Heap}{k n:Nat}{m c:Str}{f:List D->Res D}{tab:List (Str×(List D->Res D))}(h:∀C,mg c=some (.ref C)->Cls K C/\∃g fd ps,Meth K C m g/\FnO P w K mg base k g fd ps (spD K mg ps.length f)/\Binds K fd ps []/\ps.length=n+1)(r:Gi P w K mg base k n m tab):Gi P w K mg base k n m ((c,f)::tab):=by
 intro b a e;rw [List.lookup_cons] at e;split at e
 .next q=>
  cases e;rw [eq_of_beq q];exact h
 .exact r b a e
def uO:∀{fs:List (Str×V)},¬(fs.map (·.1)).contains m=true->fs.lookup m=none
 | [],_=>rfl
 | (n,x)::r,h=>by
  grind
section
variable {m:Str} {tab:List (Str×(List D->Res D))} {ta:TE} {mo:ME} {t:TA} {ma:MA}
def gZ(T:Gi P w K mg base k n m tab)(ho:SE K mg E ta mo)(ha:SA K mg E t ma)(hl:SAn n ma):SE K mg E (NZ P w K mg base k m E ta t) (meth tab m mo ma):=by
 intro y l F H Y Z D;refine (ho y l F H Y Z D).bind λu p x d j v=>?_;cases d with
 | ins c ns vs=>
  show Ans mg E (Rp K mg) u p (if ns.contains m=true then .bad else match tab.lookup c with
   | some f=>(ma Z).bind λi=>f (.ins c ns vs::i)
   | none=>.bad) _
  by_cases hc:ns.contains m=true
  .rw [iP hc];ext
  rw [iN hc];cases e:tab.lookup c with
  | none=>ext
  | some f=>
   have b:=v;cases v with
   | @ins _ C a dx fs xs _ hm h o q r=>
    obtain ⟨S,g,J,A,L,O,R,G⟩:=T c f e C hm;refine Ans.imp ((ha y l u p Y Z (D.gr j)).bindE λi M U V N B I=>?_) λQ z=>⟨a,C,dx,fs,g,J,A,spD K mg A.length f,rfl,j.s _ _ h,uO hc,S,L,O,R,z⟩;exact cZ B.s (.cons (b.same B.f) I) (by rw [Gp,hl Z i M,G])
 | _=>ext
end
section
variable {l:Nat} {m:Str} {o:Expr} {ta:TE} {mo:ME} {t:TA} {ma:MA} {apos:Pos} {pl:Sem Bool} {tab:List (Str×(List D->Res D))}
def uv(T:Gi X.p X.w X.K X.m X.B k n m tab)(hr:Room l X.A)(hn:k<=l)(hx:Dp (CXR X.p X.w) X E)(ho:DE X E o ta mo)(ha:DA X E n (e::es) t ma)(hst:StE X e es:=by rfl)(hpl:PlE X pos es:=by rfl) (ht:eval (.Call (.Attribute o m apos) (e::es) [] pos) X.v=(do
   let ov <-eval o X.v
   standAt apos.atName
   let (f,first) <-holding [ov] (getMethod ov m pl)
   callWith pos f first (backTo pos (starEach (e::es) X.v)) (backToKw pos (keywordEach [] X.v))):=by rfl) :
  DE X E (.Call (.Attribute o m apos) (e::es) [] pos) (NZ X.p X.w X.K X.m X.B k m E ta t) (meth tab m mo ma):=⟨vU ho.p (hr.mono hn) hx ha.p hst hpl ht,gZ T ho.s ha.s ha.n⟩
def Vt(T:Gi X.p X.w X.K X.m X.B k 0 m tab)(hr:Room l X.A)(hn:k<=l)(hx:Dp (CXR X.p X.w) X E)(ho:DE X E o ta mo) (ht:eval (.Call (.Attribute o m apos) [] [] pos) X.v=(do
   let ov <-eval o X.v
   standAt apos.atName
   let (f,first) <-holding [ov] (getMethod ov m pl)
   callWith pos f first (backTo pos (starEach [] X.v)) (backToKw pos (keywordEach [] X.v))):=by rfl) :
  DE X E (.Call (.Attribute o m apos) [] [] pos) (NZ X.p X.w X.K X.m X.B k m E ta tNil) (meth tab m mo Ab):=⟨tM ho.p (hr.mono hn) hx ht,gZ T ho.s VB jQ⟩
end
def Fj.nil:Fj K mg [] f:=λ_ h=>by cases h
def Fj.cons{K:W1}{mg:MgT}{c f:Str}{cs:List Str}(h:∀C,mg c=some (.ref C)->Cls K C/\Ie K C f)(r:Fj K mg cs f):Fj K mg (c::cs) f:=λb a=>by
 rw [List.contains_cons] at a;cases z:b==c with
 | true=>simp_all
 | false=>
  rw [z,Bool.false_or] at a;exact r b a
structure FR(K:W1)(mg:MgT)(F:Hp)(fs:List (Str×V))(fl:Fs):Prop where
 nm:fs.map (·.1)=fl.map (·.1)
 rv:Rps K mg F (fs.map (·.2)) (fl.map (·.2))
def FR.same{F:Hp}(h:FR K mg F fs fl)(s:Same F F'):FR K mg F' fs fl:=⟨h.nm,h.rv.same s⟩
def FR.len{F:Hp}(h:FR K mg F fs fl):fs.length=fl.length:=by
 have:=Ew List.length h.nm;simp_all
def gn:∀{fs:List (Str×V)},¬(fs.map (·.1)).contains f=true->putF f y fs=fs++[(f,y)]
 | [],_=>rfl
 | (g,x)::r,h=>by
  rw [Bk,List.contains_cons] at h;have a:g≠f:=by
   lia
  show (if g=f then (g,y)::r else (g,x)::putF f y r)=_
  rw [iN a,gn λq=>h (by lia)];rfl
def FR.put{F:Hp}(h:FR K mg F fs fl)(hn:¬(fl.map (·.1)).contains f=true)(ry:Rp K mg F y d):FR K mg F (putF f y fs) (fl++[(f,d)]):=by
 rw [gn (by rw [h.nm];exact hn)];refine ⟨by rw [Ft,Ft,h.nm];rfl,?_⟩;rw [Ft,Ft];exact Rps.app (.cons ry .nil) h.rv
def spI(K:W1)(mg:MgT)(n:Nat)(cs:List Str)(m:List D->Fs->Res Fs):Sp:=λh H Q E=>h.length=n+1/\∃x k C c i j F g e,
 h=.ref x::i/\cs.contains c=true/\mg c=some (.ref C)/\H x=some (.ins C k j)/\F x=none/\Same F H/\Rps K mg F i g/\FR K mg F j e/\m g e≠.bad /\
 (∀a,m g e=.ok a->∀d f b,Gr F (del H x) d f->d x=none->f x=some (.ins C k b)->FR K mg d b a->Q .non f)
structure RepI(K:W1)(mg:MgT)(x dx C:Addr)(F0 H0 F H:Hp)(Y:St)(Z:Ev)(fs:List (Str×V))(fl:Fs):Prop where
 rep:Rep K mg F0 H0 F H Y Z
 h0:H0 x=none
 self:Y[0]?=some (some (.ref x))
 fx:F x=none
 hx:H x=some (.ins C dx fs)
 fr:FR K mg F fs fl
section
variable {x dx C:Addr} {F:Hp} {fs fs':List (Str×V)} {fl fl':Fs}
def RepI.gr(r:RepI K mg x dx C F0 H0 F H Y Z fs fl)(g:Gr F H F' H'):RepI K mg x dx C F0 H0 F' H' Y Z fs fl:=by
 obtain ⟨b,a⟩:=g.o x _ r.fx r.hx;exact ⟨r.rep.gr g,r.h0,r.self,b,a,r.fr.same g.f⟩
def RepI.go(r:RepI K mg x dx C F0 H0 F H Y Z fs fl)(g:Gr F (del H x) F' H')(fx:F' x=none)(hx:H' x=some (.ins C dx fs'))(fr:FR K mg F' fs' fl'):RepI K mg x dx C F0 H0 F' H' Y Z fs' fl':=by
 refine ⟨⟨⟨r.rep.g.f.trans g.f,g.s,λa o c b=>?_,λa o u e=>r.rep.g.z a o u (g.z a o u e)⟩,r.rep.len,λi d e=>?_,λi q e=>?_,r.rep.ne⟩,r.h0,r.self,fx,hx,fr⟩
 .obtain ⟨j,k⟩:=r.rep.g.o a o c b;exact g.o a o j (by rw [Cd (BZ b r.h0)];exact k)
 .obtain ⟨y,c,b⟩:=r.rep.im i d e;exact ⟨y,c,b.same g.f⟩
 .obtain ⟨a,l,c,b,m,h,p⟩:=r.rep.ow i q e;have n:a≠x:=by
   rintro rfl;rw [r.hx] at h;cases h
  obtain ⟨j,k⟩:=g.o a _ m (by rw [Cd n];exact h);exact ⟨a,l,c,b,j,k,p.same g.f⟩
def RepI.set(r:RepI K mg x dx C F0 H0 F H Y Z fs fl)(hn:¬(fl.map (·.1)).contains f=true)(ry:Rp K mg F y d):RepI K mg x dx C F0 H0 F (upd H x (.ins C dx (putF f y fs))) Y Z (putF f y fs) (fl++[(f,d)]):=by
 refine r.go ⟨Same.refl _,λa o e=>?_,λa o h b=>⟨h,?_⟩,λ_ _ _ e=>e⟩ r.fx Ar (r.fr.put hn ry)
 .rw [Af (BZ e r.fx)];exact r.rep.g.s a o e
 .have c:a≠x:=by
   rintro rfl;rw [G9] at b;cases b
  rw [Cd c] at b;rw [Af c];exact b
end
def AnsI(K:W1)(mg:MgT)(E:XK)(x dx C:Addr)(F0 H0:Hp)(r:Res Fs)(w:Ends->Prop):Prop :=
 match r with
 | .ok fl=>∀D,(∀a b d c,Gr F0 H0 a b->a x=none->b x=some (.ins C dx c)->FR K mg a c fl->D.nx d b)->w D
 | .bad=>True
def SSi(K:W1)(mg:MgT)(E:XK)(cs:List Str)(t:TS)(m:MSi):Prop:=∀x d C c a b F H Y Z f e,cs.contains c=true->mg c=some (.ref C)->RepI K mg x d C a b F H Y Z f e->AnsI K mg E x d C a b (m Z e) (λD=>t D Y H)
structure DSi(X:Cx)(E:XK)(cs:List Str)(sts:List Stmt)(t:TS)(m:MSi):Prop where
 p:PSs X sts t
 s:SSi X.K X.m E cs t m
section
variable {x dx C:Addr} {F:Hp} {α β:Type} {R:Hp->β->α->Prop} {fs:List (Str×V)} {fl:Fs}
def Xn{r:Res α}{w:(β->Hp->Prop)->Prop}{k:α->Res Fs}{w':β->Hp->Ends->Prop}(rr:RepI K mg x dx C F0 H0 F H Y Z fs fl)(h1:Ans mg E R F H r w)(h2:∀a,r=.ok a->∀F1 H1 b,Gr F H F1 H1->R F1 b a->AnsI K mg E x dx C F0 H0 (k a) (w' b H1)) :
  AnsI K mg E x dx C F0 H0 (r.bind k) (λD=>w λb H1=>w' b H1 D):=by
 cases r with
 | ok a=>
  show AnsI K mg E x dx C F0 H0 (k a) _;have c:=h2 a rfl;generalize k a=r2 at c;cases r2 with
  | ok d=>exact λD q=>h1 _ λF1 H1 b g e=>c F1 H1 b g e D q
  | bad=>ext
 | bad=>ext
end
section
variable {cs cs':List Str} {rest:List Stmt} {u:TS} {k:MSi} {o:Expr} {t:TA} {ma:MA} {apos p p':Pos} {f y m:Str} {l:Nat}
def QW:DSi X E cs [] JR iEnd:=⟨Ru,λx e C c b d F H Y Z a f _ _ r=>λD q=>q F H Y a r.rep.g r.fx r.hx r.fr⟩
def JW(he:DE X E e te me)(h:DSi X E cs rest u k)(hs:swapsWith e none spos.line X.v=pure false:=by rfl):DSi X E cs (.Expr e spos::rest) (tSeq (Bx te) u) (iDrp me k):=by
 refine ⟨Gh (HJ he.p hs) h.p,?_⟩;intro x o C c f d F H Y Z l m q n r;exact Xn r (he.s f d F H Y Z r.rep) λa _ j i b g _=>h.s x o C c f d j i Y Z l m q n (r.gr g)
def Py(T:Fj X.K X.m cs f)(he:DE X E e te me)(h:DSi X E cs rest u k)(hN:X.N[0]?=some x:=by rfl)(hv:Dr X.v.scope x:=by walk_at "vv")(hd:ND x:=by decide)(hcd:NE x:=by decide)(hs:swapsWith e (some (.Attribute (.Name x p) f p')) spos.line X.v=pure false:=by rfl) :
  DSi X E cs (.Assign [.Attribute (.Name x p) f p'] e spos::rest) (tSeq (sFld X.K (tVar 0) te f) u) (iSet f me k):=by
 refine ⟨Gh (yP (Ek hN hv hd hcd) he.p hs) h.p,?_⟩;intro x dx C c F0 H0 F H Y Z fs fl hc hm r;refine Xn r (he.s F0 H0 F H Y Z r.rep) λd _ F1 H1 y g ry=>?_;have r1:=r.gr g;by_cases hb:(fl.map (·.1)).contains f=true\/100<=fl.length
 .rw [iP hb];ext
 rw [iN hb];obtain ⟨c1,c2⟩:=T c hc C hm;have r2:=r1.set (λz=>hb (.inl z)) ry;have z:=h.s x dx C c F0 H0 F1 _ Y Z _ _ hc hm r2;have hl:fs.length<1000:=by have:=r.fr.len;lia
 generalize k Z (fl++[(f,d)])=q0 at z;cases q0 with
 | ok fl'=>exact λD q=>⟨_,r1.self,x,C,dx,fs,rfl,r1.hx,c1,c2,hl,z D q⟩
 | bad=>ext
end
structure ClsM(K:W1)(C:Addr)(m:Str)(f:Addr):Prop where
 sg:W.specialIn K (.ref C) "__getattribute__"=some (some (.builtin "type.__getattribute__"))
 rd:∃mc,W.readsIn K C mc=true/\W.findCls K (.ref C) mc m=some (.val (.ref f))
 hh:W.handedIn (.ref f)=true
 kp:W.keepIn K (.ref f)=true
section
variable {y m:Str} {C f:Addr} {sp:Sp} {t:TA} {p apos:Pos} {pl:Sem Bool}
def uo(hg:Gl X y)(hy:X.m y=some (.ref C))(c:ClsM X.K C m f)(F:FnOk X.p X.w X.K X.m X.B (CXR X.p X.w) k f fd ps sp)(hr:Room k X.A)(hb:Binds X.K fd ps [])(hx:Dp (CXR X.p X.w) X E)(ha:PA X (e::es) t)(hd:ND y:=by decide)(hst:StE X e es:=by rfl)(hpl:PlE X pos es:=by rfl) (ht:eval (.Call (.Attribute (.Name y p) m apos) (e::es) [] pos) X.v=(do
   let ov <-eval (.Name y p) X.v
   standAt apos.atName
   let (f,first) <-holding [ov] (getMethod ov m pl)
   callWith pos f first (backTo pos (starEach (e::es) X.v)) (backToKw pos (keywordEach [] X.v))):=by rfl) :
  PE X (.Call (.Attribute (.Name y p) m apos) (e::es) [] pos) (Hf sp [] E t):=by
 intro a s Y H Q I h;refine W.methodCall_KW (thn (Uu (v:=.ref C) hg hy rfl hd a s Y H (λv b=>v=.ref C/\b=H) I ⟨rfl,rfl⟩) λu s1 zq=>?_) ht;obtain ⟨x,b,I1,rx,ex,eh⟩:=zq;subst ex eh;obtain rfl:u=Value.ref C:=rx;obtain ⟨B,g,i⟩:=c.rd;refine W.method_cls I1.kIn c.sg (W.cls_value I1.kIn g i c.hh ?_);have j:=I1.tok (s1.toks+1);refine W.callWith_K I.ok.mod.kin c.kp (thn (ha pos a _ Y b _ j h) λo z zq=>?_) hst hpl;obtain ⟨q,n,d,r,l⟩:=zq;refine ⟨d.kIn,?_⟩;exact Sd F hr hb .nil hx d r l
end
structure CalS(P:Program)(w:World)(K:W1)(mg:MgT)(base:Heap)(k:Nat)(y m:Str)(n:Nat)(cs:List Str)(g:List D->Fs->Res Fs):Prop where
 ex:∃(C f:Addr) (fd:FuncData) (ps:List Str),mg y=some (.ref C)/\ClsM K C m f/\FnO P w K mg base k f fd ps (spI K mg n cs g)/\Binds K fd ps []
section
variable {cs cs':List Str} {rest:List Stmt} {u:TS} {k:MSi} {t:TA} {ma:MA} {apos p p':Pos} {y m:Str} {l:Nat} {g:List D->Fs->Res Fs} {pl:Sem Bool}
def Rj(S:CalS X.p X.w X.K X.m X.B j y m n cs' g)(hr:Room l X.A)(hn:j<=l)(hg:Gl X y)(hx:Dp (CXR X.p X.w) X E)(hcs:∀c,cs.contains c=true->cs'.contains c=true)(ha:DA X E n es t ma)(h:DSi X E cs rest u k)(hN:X.N[0]?=some x:=by rfl)(hv:Dr X.v.scope x:=by walk_at "vv")(hd:ND x:=by decide)(hcd:NE x:=by decide)(hdy:ND y:=by decide)(hst:starEach (.Name x p'::es) X.v=(false,eval (.Name x p') X.v)::starEach es X.v:=by rfl)(hpl:PlE X pos es:=by rfl) (ht:eval (.Call (.Attribute (.Name y p) m apos) (.Name x p'::es) [] pos) X.v=(do
   let ov <-eval (.Name y p) X.v
   standAt apos.atName
   let (f,first) <-holding [ov] (getMethod ov m pl)
   callWith pos f first (backTo pos (starEach (.Name x p'::es) X.v)) (backToKw pos (keywordEach [] X.v))):=by rfl) (hs:swapsWith (.Call (.Attribute (.Name y p) m apos) (.Name x p'::es) [] pos) none spos.line X.v=pure false:=by rfl) :
  DSi X E cs (.Expr (.Call (.Attribute (.Name y p) m apos) (.Name x p'::es) [] pos) spos::rest) (tSeq (Bx (Hf (spI X.K X.m n cs' g) [] E (Bc (tVar 0) t))) u) (iSup g ma k):=by
 obtain ⟨C0,f,fd,ps,hy,cm,F,hb⟩:=S.ex;refine ⟨Gh (HJ (uo hg hy cm F (hr.mono hn) hb hx (EY (Ek hN hv hd hcd) ha.p hst) hdy hst hpl ht) hs) h.p,?_⟩;intro x dx C c F0 H0 F H Y Z fs fl hc hm r;have A:=ha.s F0 H0 F H Y Z r.rep;have L:=ha.n Z;show AnsI X.K X.m E x dx C F0 H0 ((ma Z).bind λds=>(g ds fl).bind λfl'=>k Z fl') (λD=>∃v,Y[0]?=some (some v)/\t Y H λvs H1=>spI X.K X.m n cs' g (v::vs++[]) H1 (λ_ H2=>u D Y H2) E);have key:AnsI X.K X.m E x dx C F0 H0 ((ma Z).bind λds=>(g ds fl).bind λfl'=>k Z fl') (λD=>t Y H λvs H1=>spI X.K X.m n cs' g (.ref x::vs) H1 (λ_ H2=>u D Y H2) E):=by
  refine Xn r A λds eds F1 H1 vs g1 rs=>?_;have r1:=r.gr g1;have hl:=rs.length.trans (L ds eds);cases eg:g ds fl with
  | bad=>ext
  | ok fl'=>
   show AnsI X.K X.m E x dx C F0 H0 (k Z fl') _;have nx:=λF' H' fs' g2 fx hx fr=>h.s x dx C c F0 H0 F' H' Y Z fs' fl' hc hm (r1.go g2 fx hx fr);generalize k Z fl'=q0 at nx;cases q0 with
   | bad=>ext
   | ok fl2=>
    intro D q;refine ⟨by simp_all,x,dx,C,c,vs,fs,F1,ds,fl,rfl,hcs c hc,hm,r1.hx,r1.fx,r1.rep.g.s,rs,r1.fr,(by lia),λfl'' e F' H' fs' g2 fx hx fr=>?_⟩;rw [eg] at e;cases e;exact nx F' H' fs' g2 fx hx fr D q
 generalize ((ma Z).bind λds=>(g ds fl).bind λfl'=>k Z fl')=q0 at key;cases q0 with
 | bad=>ext
 | ok fl'=>exact λD q=>⟨.ref x,r.self,by simpa using key D q⟩
end
section
variable {qual:Str} {f:Addr} {cs:List Str}
def zf{F:Hp}(s:Same F H)(fa:F a=none)(r:Rps K mg F vs ds)(hN:1<=N.length):Rep K mg F (del H a) F H (start N (z::vs)) (.no::ev0 (N.length - 1) ds):=by
 have n:=r.length;have l:∀(i:Nat) (c:Cl),(ev0 (N.length - 1) ds)[i]?=some c->c=.no\/∃d,ds[i]?=some d/\c=.im d:=by
  intro i c e;rw [Oe] at e;by_cases g:i<ds.length
  .rw [Fv (by simpa using g),Cj,BL g] at e;exact .inr ⟨ds[i],BL g,(CW e).symm⟩
  .rw [GJ (by simpa using g),NK] at e;split at e
   .exact .inl (CW e).symm
   .cases e
 have f:∀(i:Nat) (c:Cl),(Cl.no::ev0 (N.length - 1) ds)[i]?=some c->c=.no\/∃d j,i=j+1/\ds[j]?=some d/\c=.im d:=by
  intro i c e;cases i with
  | zero=>exact .inl (CW e).symm
  | succ j=>
   rcases l j c (by simpa using e) with q | ⟨d,e1,k⟩
   .exact .inl q
   .exact .inr ⟨d,j,rfl,e1,k⟩
 refine ⟨⟨Same.refl _,s,λb o p h=>⟨p,?_⟩,λ_ _ _ e=>e⟩,?_,λi d e=>?_,λi m e=>?_,λi j m u a e=>?_⟩
 .by_cases hb:b=a
  .subst hb;rw [G9] at h;cases h
  .rw [Cd hb] at h;exact h
 .rw [Oe];unfold start;simp [n]
  lia
 .rcases f i _ e with q | ⟨d',j,rfl,e1,q⟩
  .cases q
  .cases q;obtain ⟨v,k,t⟩:=r.get e1;refine ⟨v,?_,t⟩;have g:=(Dc.mp k).1;unfold start;rw [Bk,List.cons_append,List.getElem?_cons_succ,Fv (by simpa using g),Cj,k];rfl
 .rcases f i _ e with q | ⟨d',j,_,e1,q⟩<;>cases q
 .rcases f i _ e with q | ⟨d',j,_,e1,q⟩<;>cases q
def okI{st:Stmt}{mb:MSi}(F:Fun K x qual st f fd)(S:CT N ps (BJ st))(hN:1<=N.length)(hp:ps.length=n+1)(h:∀(cdv:Value) (A:Around) (outer:List Env) (s:Shared) (H:Hp) (E:XK),Room k (A.deeper (envOfC qual (BJ st) s.heap.objs.size f cdv))->∃t,DSi (cxOf (CXR P w) P w K mg base N qual (BJ st) f cdv A outer s H E) E cs (De st) t mb) :
  FnO P w K mg base (k+1) f fd ps (spI K mg n cs (fnI N.length mb)):=by
 obtain ⟨oc,od,kV,O,pm,an,cdv,ct,Z,rfl,B,m⟩:=F.ex;refine Lx B m S (λG H Q E q=>q.1.trans hp.symm) λA outer s H G Q E M l=>?_;obtain ⟨t,o⟩:=h cdv A outer s H E M;refine ⟨t,o.p,?_⟩;obtain ⟨_,x,X,C,c,V,R,r,u,y,rfl,Y,U,T,v,I,L,J,hb,j⟩:=l;have z:=o.s x X C c r (del H x) r H (start N (.ref x::V)) (.no::ev0 (N.length - 1) u) R y Y U ⟨zf I v L hN,G9,rfl,v,T,J⟩;cases e:mb (.no::ev0 (N.length - 1) u) y with
 | ok fl'=>
  rw [e] at z;exact z _ λD W Y' b g d a i=>j fl' e D W b g d a i
 | bad=>ext
def okM{st:Stmt}{mb:MS}(F:Fun K x qual st f fd)(S:CT N ps (BJ st))(h:∀(cdv:Value) (A:Around) (outer:List Env) (s:Shared) (H:Hp) (E:XK),Room k (A.deeper (envOfC qual (BJ st) s.heap.objs.size f cdv))->∃t,DSs (cxOf (CXR P w) P w K mg base N qual (BJ st) f cdv A outer s H E) E (De st) t mb) :
  FnO P w K mg base (k+1) f fd ps (spD K mg ps.length (fn N.length mb)):=by
 obtain ⟨M,T,U,I,L,R,cdv,ct,J,rfl,y,j⟩:=F.ex;refine Lx y j S (λo H Q E q=>q.1) λA outer s H o Q E G i=>?_;obtain ⟨t,m⟩:=h cdv A outer s H E G;refine ⟨t,m.p,?_⟩;obtain ⟨_,n,r,B,D,b,a⟩:=i;have z:=m.s n H n H (start N o) (ev0 N.length r) (RP B D);unfold fn at b a;cases e:mb (ev0 N.length r) with
 | ok fl=>
  rw [e] at z b a;cases fl with
  | nx Z=>exact z _ λc l O _ u=>a .non rfl c l .non u.g .non
  | rt d=>exact z _ λc l v g C=>a d rfl c l v g C
  | bk Z=>ext
  | ct Z=>ext
 | bad=>rw [e] at b;ext
end
structure CalI(P:Program)(w:World)(K:W1)(mg:MgT)(base:Heap)(k:Nat)(c:Str)(n:Nat)(cs:List Str)(g:List D->Fs->Res Fs):Prop where
 ex:∃(C f:Addr) (fd:FuncData) (ps:List Str),mg c=some (.ref C)/\Mk K C f/\FnO P w K mg base k f fd ps (spI K mg n cs g)/\Binds K fd ps []/\cs.contains c=true
def Zk(K:W1)(mg:MgT)(c:Str)(n:Nat)(cs:List Str)(g:List D->Fs->Res Fs)(E:XK)(t:TA):TE:=λY H Q=>∃C,mg c=some (.ref C)/\jH C (spI K mg n cs g) [] E t Y H Q
section
variable {c:Str} {cs:List Str} {g:List D->Fs->Res Fs} {t:TA} {ma:MA}
def z8(hm:mg c=some (.ref C))(hc:cs.contains c=true)(ha:SA K mg E t ma)(hl:SAn n ma):SE K mg E (Zk K mg c n cs g E t) (make c g ma):=by
 intro O N F H Y Z T;refine Ans.imp ?_ λQ q=>⟨C,hm,q⟩;refine (ha O N F H Y Z T).bindE λA y v m P B I=>?_;have V:=I.length.trans (hl Z A y);have l:∀x b,m x=none->m b=none->b≠x->v x=none/\v b=none/\Same v (upd (upd m b (.own x)) x (.ins C b []))/\del (upd (upd m b (.own x)) x (.ins C b [])) x=upd m b (.own x):=by
  intro x b p i d;refine ⟨B.s.free p,B.s.free i,λa o e=>?_,?_⟩
  .have z:=B.s a o e;rw [Af (BZ z p),Af (BZ z i)];exact z
  .funext a;by_cases h:a=x
   .subst h;rw [G9,Af (Ne.symm d)];lia
   .rw [Cd h,Af h]
 cases eg:g A [] with
 | bad=>ext
 | ok fl=>
  intro Q q x b p i d;obtain ⟨R,X,W,e1⟩:=l x b p i d;refine ⟨by grind,x,b,C,c,P,[],v,A,[],by simp,hc,hm,Ar,R,W,I,⟨rfl,.nil⟩,(by lia),λfl' e r H' j k J M G=>?_⟩;rw [eg] at e;cases e;rw [e1] at k;obtain ⟨D,d2⟩:=k.o b _ X Ar;refine ⟨rfl,q (upd (upd r b (.own x)) x (.ins C b j)) H' (.ref x) ⟨?_,?_,λa o S w=>?_,λa o u e=>k.z a o u (Ka (λ_ _ z=>by cases z) (Ka (λ_ _ z=>by cases z) e))⟩ ?_⟩
  .refine (k.f.trans (Cp D _)).trans (Cp ?_ _);rw [Af (Ne.symm d)];exact J
  .intro a o e;by_cases ha:a=x
   .subst ha;rw [Ar] at e;lia
   .rw [Af ha] at e;by_cases hb:a=b
    .subst hb;rw [Ar] at e;lia
    .rw [Af hb] at e;exact k.s a o e
  .have n1:a≠x:=BZ w p;have L:=BZ w i;obtain ⟨q1,q2⟩:=k.o a o S (by rw [Af L];exact w);rw [Af n1,Af L]
   ext
  .have U:Same r (upd (upd r b (.own x)) x (.ins C b j)):=(Cp D _).trans (Cp (by rw [Af (Ne.symm d)];exact J) _);have z:Rp K mg (upd (upd r b (.own x)) x (.ins C b j)) (.ref x) (.ins c (j.map (·.1)) (fl.map (·.2))):=.ins hm Ar (by rw [Af d,Ar]) rfl (G.rv.same U);rw [G.nm] at z;exact z
end
section
variable {l:Nat} {c:Str} {cs:List Str} {g:List D->Fs->Res Fs} {t:TA} {ma:MA} {p:Pos}
def Pa(M:CalI X.p X.w X.K X.m X.B k c n cs g)(hr:Room l X.A)(hn:k+1<=l)(hg:Gl X c)(hx:Dp (CXR X.p X.w) X E)(ha:DA X E n (e::es) t ma)(hdb:ND c:=by decide)(he:StE X e es:=by rfl)(hpl:PlE X pos es:=by rfl) :
  DE X E (.Call (.Name c p) (e::es) [] pos) (Zk X.K X.m c n cs g E t) (make c g ma):=by
 obtain ⟨C,f,o,q,b,j,F,i,m⟩:=M.ex;refine ⟨?_,z8 b m ha.s ha.n⟩;intro a s Y H Q I ⟨r,d,h⟩;rw [b] at d;cases d;exact tE j F (hr.mono hn) hg b i .nil hx ha.p hdb he hpl a s Y H Q I h
end
end L2.Ds
namespace Dl
def insO(i:Nat)(k e:ME):MS:=λZ=>(getO Z[i]?).bind λa=>(k Z).bind λu=>match u with
 | .int j=>(e Z).bind λd=>if (0<=j/\j<=a.length)/\a.length<LIM then .ok (.nx (Z.set i (.ow (a.take j.toNat++d::a.drop j.toNat)))) else .bad
 | _=>.bad
end Dl
namespace L2
def Ke:V->List V->Hp->VK->Prop:=λx b H Q=>∃l a j y,x=.ref l/\b=[.int j,y]/\H l=some (.lst a)/\(0<=j/\j<=a.length)/\a.length<sizeLine/\Q .non (upd H l (.lst (a.take j.toNat++y::a.drop j.toNat)))
def Vals.takeN:∀{xs:List V} {us:List Value} (n:Nat),Vals xs us->Vals (xs.take n) (us.take n)
 | _,_,0,_=>.nil
 | _,_,_+1,.nil=>.nil
 | _,_,n+1,.cons h r=>.cons h (Vals.takeN n r)
def Vals.dropN:∀{xs:List V} {us:List Value} (n:Nat),Vals xs us->Vals (xs.drop n) (us.drop n)
 | _,_,0,r=>r
 | _,_,_+1,.nil=>.nil
 | _,_,n+1,.cons _ r=>Vals.dropN n r
def ZnP:MtR X "list.insert" Ke:=by
 intro f s Y H x A v w Q I g b h;obtain ⟨l,o,j,y,rfl,rfl,d,i,m,q⟩:=h;cases g;cases b with
 | @cons _ u0 _ us0 r1 b=>
  have b:Vals [y] us0:=b;obtain ⟨u,rfl,k⟩:=b.one;obtain ⟨t,rfl⟩:=r1;obtain ⟨z,a,n,r,c,e⟩:=I.lstM d;have p:sizeLine<2^63:=by decide
  refine call_meets F.slot_list_insert ⟨_,e,rfl⟩ F.entry_list_insert (F.args_list_insert_3 _ _ _) (PySem.AutoSeq1.list_insert_list_int_val_1 l a.toArray n j t u (by rw [fitsIndex_both (by lia) (by lia)];ext) (by rw [Ht,<-c];exact Ay m)) ⟨e,?_⟩;refine ⟨.non,_,I.lset (its':=a.take j.toNat++u::a.drop j.toNat) d e ?_ ((r.takeN j.toNat).append (.cons k (r.dropN j.toNat))) ?_,rfl,q⟩
  .rw [iN (Jl.mpr i.1),G6 (by rw [Ht,<-c];lia)];exact Array.toList_inj.mp (by simp;exact Hv (by simp))
  rw [Di,Eb,Gp,HY]
  lia
end L2
namespace L2.Ds
open Dl
section
variable {tk:TE} {mk:ME}
def m8(hk:SE K mg E tk mk)(ha:SE K mg E te me):SS K mg E (Bx (tBM K "list" Ke (tVar i) (Bc tk (Bc te tNil)))) (insO i mk me):=by
 intro v s F H Y Z r;unfold insO getO;split
 .next b e=>
  obtain ⟨a,B,I,V,N,M,L⟩:=r.ow i b e;have J:B.length=b.length:=L.length;have C:tyV K "list" (.ref a) H:=.inl ⟨rfl,B,SqL.of M⟩
  have h:=(hk v s F H Y Z r).stm (K:=K) (k:=λu=>match u with
   | .int j=>(me Z).bind λd=>if (0<=j/\j<=b.length)/\b.length<LIM then .ok (.nx (Z.set i (.ow (b.take j.toNat++d::b.drop j.toNat)))) else .bad
   | _=>.bad) (w':=λx p D=>te Y p λy l=>Ke (.ref a) [x,y] l λ_ n=>D.nx Y n) r.g λu _ R p x A S=>?_
  .show AnsS K mg E v s F ((mk Z).bind λu=>match u with
    | .int j=>(me Z).bind λd=>if (0<=j/\j<=b.length)/\b.length<LIM then .ok (.nx (Z.set i (.ow (b.take j.toNat++d::b.drop j.toNat)))) else .bad
    | _=>.bad) _
   have c:∀D,(tk Y H λx p=>te Y p λy l=>Ke (.ref a) [x,y] l λ_ n=>D.nx Y n)->Bx (tBM K "list" Ke (tVar i) (Bc tk (Bc te tNil))) D Y H:=λD z=>⟨.ref a,I,C,z⟩
   generalize ((mk Z).bind λu=>match u with
    | .int j=>(me Z).bind λd=>if (0<=j/\j<=b.length)/\b.length<LIM then Res.ok (Fl.nx (Z.set i (.ow (b.take j.toNat++d::b.drop j.toNat)))) else .bad
    | _=>.bad)=res at h
   cases res with
   | ok f=>
    cases f with
    | nx Z=>exact λD q=>c D (h D q)
    | bk Z=>exact λD q=>c D (h D q)
    | ct Z=>exact λD q=>c D (h D q)
    | rt d=>exact λD q=>c D (h D q)
   | bad=>ext
  .cases u with
   | int j=>
    obtain rfl:=S.z;have t:=r.gr A;obtain ⟨P,W⟩:=A.o a _ N M;refine (ha v s R p Y Z t).stm (w':=λy l D=>Ke (.ref a) [.int j,y] l λ_ n=>D.nx Y n) t.g λd _ O l y w T=>?_;have U:=t.gr w;obtain ⟨Q,G⟩:=w.o a _ P W;have m:=(L.same A.f).same w.f;by_cases hc:(0<=j/\j<=b.length)/\b.length<LIM
    .rw [iP hc];exact λD q=>⟨a,B,j,y,rfl,rfl,G,by rw [J];exact hc.1,by rw [J];exact Aw hc.2 (by decide),q O _ Y (Same.refl _) (U.put e I G V Q (Rps.app (.cons T (m.drop j.toNat)) (m.take j.toNat)))⟩
    .rw [iN hc];ext
   | _=>ext
 .ext
end
section
variable {k':Expr} {tk:TE} {mk:ME} {np apos:Pos}
def nM(i)(hk:DE X E k' tk mk)(he:DE X E e te me)(hN:X.N[i]?=some x:=by rfl)(hv:Dr X.v.scope x:=by walk_at "vv")(hd:ND x:=by decide)(hcd:NE x:=by decide)(hbase:attributeBase (.Name x np) "insert" X.v (eval (.Name x np) X.v)=eval (.Name x np) X.v:=by rfl) (hfew:Few X cpos [k',e]:=by rfl) (hline:(apos.endLine==cpos.line)=true:=by rfl) (hs:starEach [k',e] X.v=(false,eval k' X.v)::starEach [e] X.v:=by rfl) (hs2:starEach [e] X.v=(false,eval e X.v)::starEach [] X.v:=by rfl) (hplain:(backTo cpos (starEach [e] X.v)).any (·.1)=false:=by rfl) (hsw:swapsWith (.Call (.Attribute (.Name x np) "insert" apos) [k',e] [] cpos) none spos.line X.v=pure false:=by rfl) :
  DS X E (.Expr (.Call (.Attribute (.Name x np) "insert" apos) [k',e] [] cpos) spos) (Bx (tBM X.K "list" Ke (tVar i) (Bc tk (Bc te tNil)))) (insO i mk me) :=
 ⟨HJ (JV JS PySem.F.slot_list_insert PySem.F.type_list_insert ZnP (Ek hN hv hd hcd) (EY hk.p (EY he.p GD hs2) hs) hbase hfew hline hs hplain) hsw,m8 hk.s he.s⟩
end
end L2.Ds
namespace Dl
noncomputable def Ul:D->D->Res D
 | .lst xs,.lst []=>.ok (.bl (!xs.isEmpty))
 | _,_=>.bad
end Dl
namespace L2
def W6(K:W1):R2:=λx y H Q=>∃l b a,x=.ref l/\y=.ref b/\SqL K H l a/\SqL K H b []/\Q (.bl (!a.isEmpty)) H
def wA(hu:X.A.units+64<cLine):OpR X (compareOp .NotEq) (W6 X.K):=by
 intro a s Y H x y v u Q I F n h;obtain ⟨l,b,R,rfl,rfl,o,E,q⟩:=h;cases F;cases n;obtain ⟨d,r,⟨D,J,p,C,P,m⟩,N⟩:=I.list o;obtain ⟨c,G,⟨B,L,i,k,M,t⟩,O⟩:=I.list E;have g:s.heap.IsList l d.toArray:=⟨D,p,C,J,m⟩;have f:s.heap.IsList b c.toArray:=⟨B,i,k,L,t⟩;cases G;cases r with
 | nil=>
  refine (PySem.SeqAt.RcNeAt.lists (e:=λ_=>true) g f rfl (by lia) λj z _=>aB z (by simp)) X.p X.w X.e (EP X a Y Q) ?_;exact ⟨.bl false,H,I,rfl,q⟩
 | cons h r=>
  refine (PySem.SeqAt.RcNeAt.lists_lengths g f (by simp) (by lia)) X.p X.w X.e (EP X a Y Q) ?_;exact ⟨.bl true,H,I,rfl,q⟩
end L2
namespace L2.Ds
open PySem.Calls Dl
def t8:OpD K mg (W6 K) Ul:=by
 intro E F H x y h g s d f;unfold Ul;split
 .obtain ⟨_,_,rfl,a,b⟩:=d.l;obtain ⟨_,_,rfl,e,c⟩:=f.l;cases c;refine .ret s (.bl _) λQ q=>⟨_,_,_,rfl,rfl,s.seq a,s.seq e,?_⟩;cases b<;>exact q
 .ext
section
variable {a b:Expr} {ta tb:TE} {ma mb:ME}
def Zov(hr:Room k X.A)(ha:DE X E a ta ma)(hb:DE X E b tb mb):DT X E (.Compare a [.NotEq] [b] pos) (Fw (tOp (W6 X.K) ta tb)) (trb (o2 Ul ma mb)):=Ig (wA hr.units) t8 ha hb (GK _)
end
end L2.Ds
namespace Dl
def fnR(n:Nat)(m:ME):List D->Res D:=λa=>m (ev0 n a)
end Dl
namespace Dl
def soR(k:MS)(m:ME):ME:=λZ=>(k Z).bind λf=>match f with
 | .nx Z'=>m Z'
 | _=>.bad
end Dl
namespace L2.Ds
open Dl
section
variable {G Gb F:Hp} {x:V}
def Rep.lookA(r:Rep K mg F0 H0 F H Y Z)(e:Z[i]?=some (.ow ds))(e2:Y[i]?=some (some (.ref a)))(e4:H0 a=none)(e5:F a=none)(e3:H a=some (.lst xs))(hr:Rps K mg F xs ds) :
  Rep K mg F0 H0 (upd F a (.lst xs)) H Y (Z.set i (.im (.lst ds)))/\∀F1 H1,Gr (upd F a (.lst xs)) H F1 H1->Gr F H (del F1 a) H1:=by
 have h:Same F (upd F a (.lst xs)):=Cp e5 _;refine ⟨⟨⟨r.g.f.trans h,λb o q=>?_,λb o d c=>?_,λb o u q=>r.g.z b o u (Ka (λ_ _ z=>by cases z) q)⟩,by rw [Ga];exact r.len,λj u q=>?_,λj l q=>?_,λj k l y b d c C p=>?_⟩,λF1 H1 g=>⟨λb o q=>?_,λb o q=>?_,λb o d c=>?_,λb o u q=>Ka (λ_ _ z=>by cases z) (g.z b o u (M9 q))⟩⟩
 .by_cases hb:b=a
  .subst hb;rw [Ar] at q;lia
  .rw [Af hb] at q;exact r.g.s b o q
 .rw [Af (BZ c e4)];exact r.g.o b o d c
 .rcases Bm q with ⟨rfl,z,_⟩ | ⟨_,q⟩
  .cases z;exact ⟨.ref a,e2,.lst (SqL.of Ar) (hr.same h)⟩
  .obtain ⟨x,m,n⟩:=r.im j u q;exact ⟨x,m,n.same h⟩
 .rcases Bm q with ⟨_,z,_⟩ | ⟨hij,q⟩
  .cases z
  .obtain ⟨b,w,m,n,t,A,B⟩:=r.ow j l q;have v:b≠a:=by
    rintro rfl;exact hij (r.ne i j ds l b e q e2 m)
   exact ⟨b,w,m,n,by rw [Af v];exact t,A,B.same h⟩
 .rcases Bm d with ⟨_,z,_⟩ | ⟨_,d⟩
  .cases z
  .rcases Bm c with ⟨_,z,_⟩ | ⟨_,c⟩
   .cases z
   .exact r.ne j k l y b d c C p
 .rw [Cd (BZ q e5)];exact g.f b o (h b o q)
 .by_cases hb:b=a
  .subst hb;rw [G9] at q;cases q
  .rw [Cd hb] at q;exact g.s b o q
 .by_cases hb:b=a
  .subst hb;rw [e3] at c;cases c;exact ⟨G9,g.s _ _ (g.f _ _ Ar)⟩
  .rw [Cd hb];exact g.o b o (by rw [Af hb];exact d) c
end
end L2.Ds
namespace L2.Ds
open Dl
section
variable {F:Hp}
def z9(g:Gr F0 H0 F H)(h:H b=none):H0 b=none:=by
 cases q:H0 b with
 | none=>rfl
 | some o=>
  cases q2:F0 b with
  | none=>rw [(g.o b o q2 q).2] at h;cases h
  | some u=>rw [g.s _ _ (g.f b u q2)] at h;cases h
end
section
variable {G Gb F:Hp} {x:V}
def TwoR(K:W1)(mg:MgT)(Fb F':Hp)(x:V)(d:D):Prop:=∃p b a e f c i,x=.ref p/\d=.tup [.lst c,.lst i]/\F' p=some (.tup [.ref b,.ref a])/\b≠a/\Fb b=none/\Fb a=none/\F' b=some (.lst e)/\F' a=some (.lst f)/\Rps K mg F' e c/\Rps K mg F' f i/\(∀(k:Nat) (x:V),e[k]?=some x->∃r h g,x=.ref r/\c[k]?=some (.lst g)/\Fb r=none/\r≠a/\F' r=some (.lst h)/\h.length=g.length)
def TwoR.down(h:TwoR K mg G F' x d)(s:Same Gb G):TwoR K mg Gb F' x d:=by
 obtain ⟨p,a,t,f,n,e,i,o,y,u,c,g,q,w,j,v,b,m⟩:=h;exact ⟨p,a,t,f,n,e,i,o,y,u,c,s.free g,s.free q,w,j,v,b,λk x l=>let ⟨r,zs,cs,z1,z2,z3,z4⟩:=m k x l;⟨r,zs,cs,z1,z2,s.free z3,z4⟩⟩
def TwoR.rp(h:TwoR K mg G F x d):Rp K mg F x d:=by
 obtain ⟨p,g,q,k,n,j,m,rfl,rfl,c,i,l,o,f,b,e,a,_⟩:=h;exact .tup (SqT.of c) (.cons (.lst (SqL.of f) e) (.cons (.lst (SqL.of b) a) .nil))
def spT(K:W1)(mg:MgT)(k:Nat)(f:List D->Res D):Sp:=λc H Q E=>c.length=k/\∃F a,Same F H/\Rps K mg F c a/\f a≠.bad /\
 (∀d,f a=.ok d->∀b e x,Gr F H b e->TwoR K mg F b x d->Q x e)
def AnsT(K:W1)(mg:MgT)(E:XK)(F0 H0:Hp)(r:Res D)(w:Ends->Prop):Prop :=
 match r with
 | .ok d=>∀D,(∀b a x,Gr F0 H0 b a->TwoR K mg F0 b x d->D.rt x a)->w D
 | .bad=>True
def SEt(K:W1)(mg:MgT)(E:XK)(t:TE)(m:ME):Prop:=∀a b c F H Y Z,Rep K mg b c F H Y Z->Same a F->Ans mg E (TwoR K mg a) F H (m Z) (t Y H)
def oV(ha:SA K mg E t m)(hl:SAn n m)(hn:n<=sizeLine):SEl K mg E (tLst t) (mls m):=by
 intro c d F H Y Z j;have h:=ha c d F H Y Z j;unfold mls;cases e:m Z with
 | ok ds=>
  rw [e] at h;exact λQ q=>h _ λk l i g b=>⟨by rw [b.length,hl Z ds e];exact hn,λp a=>q _ _ _ (g.trans (.new g.s a _)) ⟨p,i,ds,rfl,rfl,g.f.free (g.s.free a),Ar,b.same (Cp (g.s.free a) _)⟩⟩
 | bad=>ext
end
structure DEt(X:Cx)(E:XK)(e:Expr)(t:TE)(m:ME):Prop where
 p:PE X e t
 s:SEt X.K X.m E t m
def DEt.de(h:DEt X E e t m):DE X E e t m:=by
 refine ⟨h.p,λa b F H Y Z j=>?_⟩;have z:=h.s F a b F H Y Z j (Same.refl _);generalize m Z=r at z;cases r with
 | ok d=>exact λQ q=>z Q λf c x g i=>q f c x g i.rp
 | bad=>ext
structure CalT(P:Program)(w:World)(K:W1)(mg:MgT)(base:Heap)(k:Nat)(x:Str)(ps:List Str)(m:List D->Res D):Prop where
 ex:∃(f:Addr) (fd:FuncData),FnO P w K mg base k f fd ps (spT K mg ps.length m)/\Binds K fd ps []/\W.keepIn K (.ref f)=true/\mg x=some (.ref f)
structure DSt2(X:Cx)(E:XK)(sts:List Stmt)(t:TS)(m:ME):Prop where
 p:PSs X sts t
 s:∀F0 H0 F H Y Z,Rep X.K X.m F0 H0 F H Y Z->AnsT X.K X.m E F0 H0 (m Z) (λD=>t D Y H)
section
variable {l nn:Nat} {y:Str} {f:List D->Res D} {t:TA} {m:MA} {p:Pos}
def tL(C:CalT X.p X.w X.K X.m X.B k x ps f)(hr:Room l X.A)(hn:k<=l)(hg:Gl X x)(hx:Dp (CXR X.p X.w) X E)(ha:DA X E n (e::es) t m)(hps:ps.length=n:=by rfl)(hdb:ND x:=by decide)(he:StE X e es:=by rfl)(hpl:PlE X pos es:=by rfl) :
  DEt X E (.Call (.Name x p) (e::es) [] pos) (Hf (spT X.K X.m ps.length f) [] E t) (on f m):=by
 obtain ⟨g,L,F,b,r,B⟩:=C.ex;refine ⟨Vb F (hr.mono hn) hg B r b .nil hx ha.p hdb he hpl,λN D u G H Y Z J I=>?_⟩;refine (ha.s D u G H Y Z J).bindE (w':=λj h Q=>spT X.K X.m ps.length f (j++[]) h Q E) λa o v h j i c=>?_;simp only [CN];cases ef:f a with
 | bad=>ext
 | ok d=>exact λQ q=>⟨by rw [c.length,hps];exact ha.n Z a o,v,a,i.s,c,(by lia),(λM z O P x g y=>by
   rw [ef] at z;cases z
   exact q _ _ _ g (y.down (I.trans i.f)))⟩
def Ph{st:Stmt}{rest:List Stmt}{u u':TS}{k:MS}{k':ME}(h:DS X E st u k)(h':DSt2 X E rest u' k'):DSt2 X E (st::rest) (tSeq u u') (soR k k'):=by
 refine ⟨Gh h.p h'.p,λi a F H Y Z m=>?_⟩;have z:=h.s i a F H Y Z m;unfold soR;cases e:k Z with
 | ok f=>
  rw [e] at z;cases f with
  | nx Z'=>
   show AnsT X.K X.m E i a (k' Z') _;have l:=λc b j g=>h'.s i a c b j Z' g;generalize k' Z'=r2 at l;cases r2 with
   | ok ds=>exact λD q=>z _ λc b j _ g=>l c b j g D q
   | bad=>ext
  | bk Z'=>ext
  | ct Z'=>ext
  | rt d=>ext
 | bad=>ext
def m7(ha:DA X E n es t m)(hn:n<=sizeLine:=by decide):DEl X E (.List es pos) (tLst t) (mls m):=⟨Pr ha.p,oV ha.s ha.n hn⟩
end
end L2.Ds
namespace L2
open PySem.W
def objX(a:Addr)(o:Obj):HO:=.ext λh=>h.get? a=some o
def Zrs{P:Program}{w:World}{H:Hp}{h:Heap}{a:Addr}{o:Obj}(e:h.get? a=some o):Ec P w H h a (objX a o):=⟨e,⟨o,e⟩,λ_ _ x k=>k o x⟩
def vg{P:Program}{w:World}{H:Hp}{h:Heap}{a:Addr}{o:Obj}(x:HOk P w H h)(e:H a=some (objX a o)):h.get? a=some o:=(show _/\_ from x a _ e).1
end L2
namespace Dl
noncomputable def firsts(kf:Nat->List Int):Nat->List (List Int)
 | 0=>[]
 | i+1=>if kf i∈firsts kf i then firsts kf i else firsts kf i++[kf i]
noncomputable def intsOf:List D->Option (List Int)
 | []=>some []
 | .int n::r=>(intsOf r).map (n::·)
 | _::_=>none
def keysOf:List D->Option (List (List Int))
 | []=>some []
 | .tup ds::r=>(intsOf ds).bind λk=>(keysOf r).map (k::·)
 | _::_=>none
def Uo:D->Res D
 | .lst ds=>match keysOf ds with
  | some ks=>if ds.length<=4 then .ok (.int ((firsts (λi=>ks.getD i []) ds.length).length:Nat)) else .bad
  | none=>.bad
 | _=>.bad
end Dl
namespace L2.Sx
open PySem.SetTable
noncomputable def adv(m:Nat)(p:Probe):Probe :=
 if p.more>0 then { p with j:=p.j+1,more:=p.more - 1 } else
 { p with j:=(leap m p.i p.perturb).1,more:=runEnd m (leap m p.i p.perturb).1 - (leap m p.i p.perturb).1,i:=(leap m p.i p.perturb).1,perturb:=(leap m p.i p.perturb).2 }
def fj(t:SetTable)(p:Probe):t.advance p=adv t.mask p:=rfl
def run(m i pt:Nat):Probe:={ j:=i,more:=runEnd m i - i,i,perturb:=pt,dummy:=none }
inductive Rch(m:Nat)(occ:Nat->Prop):Probe->Nat->Prop
 | here (p:Probe):Rch m occ p p.j
 | next {p:Probe} {j:Nat}:occ p.j->Rch m occ (adv m p) j->Rch m occ p j
def Rch.mono(h:∀j,occ j->occ' j)(r:Rch m occ p j):Rch m occ' p j:=by
 induction r with
 | here p=>exact .here p
 | next o _ ih=>exact .next (h _ o) ih
def FN(m:Nat)(occ:Nat->Prop):Nat->Probe->Prop
 | 0,p=>¬occ p.j
 | n+1,p=>¬occ p.j\/FN m occ n (adv m p)
def advs(m:Nat):Nat->Probe->Probe
 | 0,p=>p
 | n+1,p=>advs m n (adv m p)
def FN.of:∀{n:Nat} {p:Probe},¬occ (advs m n p).j->FN m occ n p
 | 0,_,h=>h
 | _+1,_,h=>.inr (FN.of h)
def FN.mono:∀{n n':Nat} {p:Probe},n<=n'->FN m occ n p->FN m occ n' p
 | 0,0,_,_,h=>h
 | 0,_+1,_,_,h=>.inl h
 | n+1,0,_,hl,_=>by lia
 | n+1,n'+1,_,hl,h=>h.elim .inl λh=>.inr (FN.mono (by lia) h)
def RN(m):∀a b p,advs m (a+b) p=advs m b (advs m a p)
 | 0,b,p=>by rw [Hn];rfl
 | a+1,b,p=>by rw [Oq];exact RN m a b (adv m p)
def dm(m i pt):∀k,k<=runEnd m i - i->advs m k (run m i pt)={ j:=i+k,more:=runEnd m i - i - k,i,perturb:=pt,dummy:=none }
 | 0,_=>rfl
 | k+1,h=>by
  rw [RN m k 1,dm m i pt k (by lia)];show adv m _=_;unfold adv
  lia
def qG(m i pt):advs m (runEnd m i - i+1) (run m i pt)=run m (leap m i pt).1 (leap m i pt).2:=by
 rw [RN m (runEnd m i - i) 1,dm m i pt _ (Ae _)];show adv m _=_;unfold adv;rw [iN (by simp)];rfl
def yE(m i):runEnd m i - i+1<=10:=by
 unfold runEnd
 lia
def Eh(m:Nat):Nat->Nat×Nat->Nat×Nat
 | 0,p=>p
 | n+1,p=>Eh m n (leap m p.1 p.2)
def jR(m):∀a b p,Eh m (a+b) p=Eh m b (Eh m a p)
 | 0,b,p=>by rw [Hn];rfl
 | a+1,b,p=>by rw [Oq];exact jR m a b _
def gw(m):∀n i pt,∃k,k<=10*n/\advs m k (run m i pt)=run m (Eh m n (i,pt)).1 (Eh m n (i,pt)).2
 | 0,i,pt=>⟨0,Ae _,rfl⟩
 | n+1,i,pt=>by
  obtain ⟨k,a,e⟩:=gw m n (leap m i pt).1 (leap m i pt).2;refine ⟨(runEnd m i - i+1)+k,?_,?_⟩
  .have:=yE m i
   lia
  .rw [RN,qG,e];rfl
def gR(m):∀n i pt,(Eh m n (i,pt)).2=pt/32^n
 | 0,i,pt=>by rw [Nat.pow_zero,Nat.div_one];rfl
 | n+1,i,pt=>by
  show (Eh m n (leap m i pt)).2=_;have e:=gR m n (leap m i pt).1 (leap m i pt).2;have z:Eh m n (leap m i pt)=Eh m n ((leap m i pt).1,(leap m i pt).2):=rfl;rw [z,e];show pt/32/32^n=pt/32^(n+1);rw [Nat.div_div_eq_div_mul,Nat.pow_succ,Nat.mul_comm]
def aV(m):∀n i pt,i<=m->(Eh m n (i,pt)).1<=m
 | 0,i,pt,h=>h
 | n+1,i,pt,h=>by
  show (Eh m n ((leap m i pt).1,(leap m i pt).2)).1<=m;exact aV m n _ _ (by unfold leap;have:=Nat.mod_lt (i*5+1+pt/32) (show 0<m+1 by lia);lia)
def xZ(h):bits h<2^64:=by
 unfold bits;have a:=JF h (show ((2:Int)^64)≠0 by decide);have b:=Jd h (show (0:Int)<2^64 by decide)
 lia
def cyc7:∀i≤7,∀e≤7,∃k≤7,(Eh 7 k (i,0)).1=e:=by ext
def wN:∀i≤31,∀e≤31,∃k≤31,(Eh 31 k (i,0)).1=e:=by decide +kernel
def Mk(m:Nat):Prop:=m=7\/m=31
def cyc(hm:Mk m):∀i≤m,∀e≤m,∃k≤m,(Eh m k (i,0)).1=e:=by
 rcases hm with rfl | rfl
 .exact cyc7
 .exact wN
def cover(hm:Mk m){e:Nat}(hi:i<=m)(hp:pt<2^64)(he:e<=m):∃n,n<=13+m/\(Eh m n (i,pt)).1=e:=by
 have a:(Eh m 13 (i,pt)).2=0:=by
  rw [gR]
  lia
 obtain ⟨k,c,b⟩:=cyc hm _ (aV m 13 i pt hi) e he;refine ⟨13+k,by lia,?_⟩;rw [jR]
 grind
def ends(hm:Mk m){e:Nat}(hi:i<=m)(hp:pt<2^64)(he:e<=m)(ho:¬occ e):FN m occ (10*(13+m)) (run m i pt):=by
 obtain ⟨n,d,a⟩:=cover hm hi hp he;obtain ⟨k,c,b⟩:=gw m n i pt;refine FN.mono (n:=k) (by lia) (FN.of ?_);rw [b];rw [a];exact ho
theorem Xk(xs:Array Nat)(j:Nat)(h:xs.toList.Pairwise (· < ·)):∀fuel lo hi,lo<=hi->hi<=xs.size->hi - lo<=fuel->(∀i q,i<lo->xs[i]<j)->(∀i q,hi<=i->¬xs[i]<j) ->
  below.go xs j fuel lo hi<=xs.size/\∀i q,xs[i]<j↔i<below.go xs j fuel lo hi
 | 0,lo,hi,h1,h2,h3,h4,h5=>by
  have e:lo=hi:=by omega
  subst e;exact ⟨h2,λi hi=>⟨λz=>JZ λq=>h5 i hi q z,λz=>h4 i hi z⟩⟩
 | fuel+1,lo,hi,h1,h2,h3,h4,h5=>by
  unfold below.go;by_cases hl:lo<hi
  .rw [iP hl];simp only [];have k:(lo+hi)/2<xs.size:=by omega
   have f:∀a b (l:a<xs.size) (g:b<xs.size),a<b->xs[a]<xs[b]:=λa b l g d=>by
    have:=Jc.mp h a b (by ext) (by ext) d
    ext
   have m:xs.getD ((lo+hi)/2) j=xs[(lo+hi)/2]:=by simp_all
   rw [m];by_cases hc:xs[(lo+hi)/2]<j
   .rw [iP hc];refine Xk xs j h fuel ((lo+hi)/2+1) hi (by omega) h2 (by omega) (λi c z=>?_) h5;by_cases hz:i<(lo+hi)/2
    .exact FW (f i _ c k hz) hc
    .have:i=(lo+hi)/2:=by omega
     subst this;exact hc
   .rw [iN hc];refine Xk xs j h fuel lo ((lo+hi)/2) (by omega) (by omega) (by omega) h4 λi c z=>?_;by_cases hz:(lo+hi)/2<i
    .grind
    .have:i=(lo+hi)/2:=by omega
     lia
  grind
def dY{xs:Array Nat}(j)(h:xs.toList.Pairwise (· < ·)):below xs j<=xs.size/\∀i hi,xs[i]<j↔i<below xs j :=
 Xk xs j h xs.size 0 xs.size (Bw _) (Ae _) (by lia) (λ_ _ z=>by lia) λi hi z=>by lia
abbrev En:Type:=Nat×Int×Value
def Occ(l:List En)(j:Nat):Prop:=∃e∈l,e.1=j
abbrev st0(m:Nat)(h:Int):Probe:=run m (bits h%(m+1)) (bits h)
structure Tb(t:SetTable)(es:Array (Int×Value))(l:List En):Prop where
 ms:Mk t.mask
 pl:t.place.toList=l.map (·.1)
 el:es.toList=l.map (·.2)
 du:t.dummies=#[]
 up:l.Pairwise λa b=>a.1<b.1
 le:∀e∈l,e.1<=t.mask
 rc:∀e∈l,Rch t.mask (Occ l) (st0 t.mask e.2.1) e.1
section
variable{t:SetTable}{es:Array (Int×Value)}{l:List En}
def Tb.plP(T:Tb t es l):t.place.toList.Pairwise (· < ·):=by rw [T.pl,Jz];exact T.up
def Tb.size(T:Tb t es l):t.place.size=l.length:=by rw [<-Ea,T.pl,Al]
def Tb.esize(T:Tb t es l):es.size=l.length:=by rw [<-Ea,T.el,Al]
def Tb.at(T:Tb t es l)(hi:i<t.place.size):t.place[i]=(l[i]'(by rw [<-T.size];exact hi)).1:=by
 have e:t.place.toList[i]'(by ext)=(l.map (·.1))[i]'(by rw [Al,<-T.size];exact hi):=by
  congr 1;exact T.pl
 simp_all
def Tb.live(T:Tb t es l){e:En}(h:l[i]?=some e):t.slot e.1=.live i:=by
 obtain ⟨d,rfl⟩:=Dc.mp h;have a:i<t.place.size:=by rw [T.size];exact d
 obtain ⟨j,c⟩:=dY l[i].1 T.plP;have f:=Jc.mp T.up;have g:below t.place l[i].1=i:=by
  rcases Nat.lt_trichotomy (below t.place l[i].1) i with z | z | z
  .have b:below t.place l[i].1<t.place.size:=by lia
   have:=f _ i (by rw [<-T.size];exact b) d z;have q:=(c _ b).mp (by rw [T.at b];exact this)
   lia
  .exact z
  .have q:=(c i a).mpr z;rw [T.at a] at q
   lia
 unfold slot;simp only [];rw [g,iP];rw [Fp a,T.at a];simp
def Tb.noDummy(T:Tb t es l)(j):has t.dummies j=false:=by
 rw [T.du];rfl
def Tb.empty(T:Tb t es l)(h:¬Occ l j):t.slot j=.empty:=by
 unfold slot;simp only [];rw [iN,T.noDummy,iN GC];intro z;have z:=eq_of_beq z;obtain ⟨a,e⟩:=Ls.mp z;rw [T.at a] at e;exact h ⟨_,Km _,e⟩
def Tb.occ(T:Tb t es l)(h:Occ l j):∃i e,l[i]?=some e/\e.1=j/\t.slot j=.live i:=by
 obtain ⟨e,b,rfl⟩:=h;obtain ⟨i,a,rfl⟩:=Ef.mp b;exact ⟨i,_,BL a,rfl,T.live (BL a)⟩
def ZC(xs:Array α)(p:Nat)(x:α)(hp:p<=xs.size):(insertAt xs p x).toList=xs.toList.take p++x::xs.toList.drop p:=by
 unfold insertAt;simp [JG,List.extract_eq_drop_take];exact Hv (by simp)
def Tb.put(T:Tb t es l){x:Value}(hj:j<=t.mask)(ho:¬Occ l j)(hr:Rch t.mask (Occ l) (st0 t.mask h) j) :
  ∃l',List.Perm l' ((j,h,x)::l)/\Tb (t.put j).1 (insertAt es (t.put j).2 (h,x)) l':=by
 obtain ⟨o,r⟩:=dY j T.plP;have w:(t.put j).2=below t.place j:=rfl;have v:(t.put j).1={ t with place:=insertAt t.place (below t.place j) j,dummies:=t.dummies }:=by
  unfold SetTable.put;simp only [];rw [T.noDummy,iN GC]
 have g:List.Perm (l.take (below t.place j)++(j,h,x)::l.drop (below t.place j)) ((j,h,x)::l):=by
  refine List.perm_middle.trans ?_;simp_all
 have c:∀k,Occ l k->Occ (l.take (below t.place j)++(j,h,x)::l.drop (below t.place j)) k:=λk ⟨e,he,q⟩=>⟨e,g.mem_iff.mpr (Bf _ he),q⟩;refine ⟨l.take (below t.place j)++(j,h,x)::l.drop (below t.place j),g,?_⟩;rw [w,v];refine ⟨T.ms,?_,?_,T.du,?_,λe he=>?_,λe he=>?_⟩
 .show (insertAt t.place (below t.place j) j).toList=_;rw [ZC _ _ _ o,T.pl];simp_all
 .rw [ZC _ _ _ (by rw [T.esize,<-T.size];exact o),T.el];simp_all
 .have n:∀e∈l.take (below t.place j),e.1<j:=λe he=>by
   obtain ⟨i,s,rfl⟩:=Ef.mp he;have m:i<below t.place j/\i<l.length:=by grind
   have f:i<t.place.size:=by lia
   have:=(r i f).mpr m.1;rw [T.at f] at this;simp_all
  have d:∀e∈l.drop (below t.place j),j<e.1:=λe he=>by
   obtain ⟨i,s,rfl⟩:=Ef.mp he;rw [HY] at s;have f:below t.place j+i<t.place.size:=by rw [T.size];omega
   have u:=λz=>by have:=(r _ f).mp z;omega
   rw [T.at f] at u;have y:(l[below t.place j+i]'(by lia)).1≠j:=λz=>ho ⟨_,Km _,z⟩
   grind
  rw [NP];refine ⟨T.up.sublist (List.take_sublist _ _),?_,λa A b p=>?_⟩
  .rw [Dq];exact ⟨λb p=>d b p,T.up.sublist (List.drop_sublist _ _)⟩
  grind
 .rcases BV.mp (g.mem_iff.mp he) with rfl | he
  .exact hj
  .exact T.le e he
 .rcases BV.mp (g.mem_iff.mp he) with rfl | he
  .exact hr.mono c
  .exact (T.rc e he).mono c
end
section
variable{t:SetTable}{es:Array (Int×Value)}{l:List En}{h:Int}{ha:Nat->Int}
def HAt(l:List En)(ha:Nat->Int):Prop:=∀i e,l[i]?=some e->ha i=e.2.1
theorem dZ(T:Tb t es l)(hh:HAt l ha):∀n fuel p,p.dummy=none->FN t.mask (Occ l) n p->n<fuel ->
  (∃j,probe.go t ha h fuel p=some (.empty j none)/\¬Occ l j/\Rch t.mask (Occ l) p j/\∀e∈l,e.2.1=h->¬Rch t.mask (Occ l) p e.1) \/
  (∃i e p' n',probe.go t ha h fuel p=some (.candidate e.1 i (adv t.mask p'))/\l[i]?=some e/\e.2.1=h/\p'.j=e.1/\p'.dummy=none/\n'<n/\FN t.mask (Occ l) n' (adv t.mask p')/\(∀j,Rch t.mask (Occ l) (adv t.mask p') j->Rch t.mask (Occ l) p j)/\∀e'∈l,e'.2.1=h->e'≠e->Rch t.mask (Occ l) p e'.1->Rch t.mask (Occ l) (adv t.mask p') e'.1)
 | n,0,p,_,_,hf=>by lia
 | n,fuel+1,p,hd,hE,hf=>by
  by_cases ho:Occ l p.j
  .obtain ⟨i,e,g,k,w⟩:=T.occ ho;cases n with
   | zero=>ext
   | succ n=>
    have c:=hE.resolve_left λz=>z ho;have d:(adv t.mask p).dummy=none:=by unfold adv;lia
    unfold probe.go;rw [w];simp only [];have v:∀e'∈l,e'.1=e.1->e'=e:=λe' b q=>by
     obtain ⟨a,y,rfl⟩:=Ef.mp b;obtain ⟨B,rfl⟩:=Dc.mp g;have A:=Jc.mp T.up
     grind
    have u:∀{j:Nat},Rch t.mask (Occ l) p j->j≠p.j->Rch t.mask (Occ l) (adv t.mask p) j:=λ{j} r m=>by
     cases r with
     | here=>ext
     | next _ r=>exact r
    by_cases hq:ha i=h
    .rw [iP (by lia)];right;refine ⟨i,e,p,n,by rw [fj,k],g,by rw [<-hh i e g];exact hq,k.symm,hd,by lia,c,λj r=>.next ho r,λe' b _ m r=>u r λz=>m (v e' b (by lia))⟩
    .rw [iN (by lia),fj];have x:e.2.1≠h:=by rw [<-hh i e g];exact hq
     rcases dZ T hh n fuel (adv t.mask p) d c (by lia) with ⟨j,e1,e2,e3,e4⟩ | ⟨i',e',p',n',e1,e2,e3,e4,e5,e6,e7,e8,e9⟩
     .left;refine ⟨j,e1,e2,.next ho e3,λe' b q r=>e4 e' b q (u r λz=>?_)⟩
      grind
     .right;refine ⟨i',e',p',n',e1,e2,e3,e4,e5,by lia,e7,λj r=>.next ho (e8 j r),λs f q m r=>e9 s f q m (u r λz=>?_)⟩
      grind
  .left;unfold probe.go;rw [T.empty ho];simp only [];refine ⟨p.j,by rw [hd],ho,.here p,λe k _ r=>?_⟩;generalize hz:e.1=z at r;cases r with
   | here=>exact ho ⟨e,k,hz⟩
   | next o _=>lia
end
def jU:∀{xs ys:List α},xs.Nodup->(∀x∈xs,x∈ys)->xs.length<=ys.length
 | [],_,_,_=>Bw _
 | x::r,ys,hn,hs=>by
  obtain ⟨a,b,rfl⟩:=List.append_of_mem (hs x BX);rw [Hy] at hn;have:=jU (ys:=a++b) hn.2 λy c=>by
   grind
  grind
def wZ{js:List Nat}(h:js.length<=m):∃e,e<=m/\e∉js:=by
 refine Classical.byContradiction λz=>?_;have:=jU (xs:=List.range (m+1)) List.nodup_range λx a=>Classical.byContradiction λq=>z ⟨x,by grind,q⟩
 grind
def gq(h:i<=m):i<=runEnd m i/\runEnd m i<=m:=by
 unfold runEnd
 lia
section
variable{prog:Program} {E:VS}
def items_int(h:ItemsAre (intKind prog w) ks vs):∀v∈vs,∃i t,v=Value.int i t:=by
 induction h with
 | nil=>simp_all
 | @cons k v ks vs h1 _ ih=>
  intro u hu;rcases BV.mp hu with rfl | hu
  .cases u with
   | int i t=>lia
   | _=>exact aB h1 (by intro z;exact Bool.noConfusion z)
  simp_all
def jC(hk:IsTupleKey (intKind prog w) s.heap ks a)(h:Q false s):wP prog w A (ofAClassStatement 8 (.ref a)) Q E s:=by
 obtain ⟨o,g,n,k,q,l,m⟩:=hk;have p:s.TypeIs (.ref a) "tuple":=⟨o,k,q⟩;have d:=items_int m;unfold ofAClassStatement;refine Ac (Mh p ?_);dsimp only;rw [iP (by decide)];refine Ac (Ad ?_);simp only [Bool.not_true,DQ,Ca];refine Ac (Hm k l ?_);refine Ac ?_;rw [<-Array.forIn_toList];refine wpAny_forIn_list _ (λc r e=>r.1=none/\e=s/\∀v∈c,∃i t,v=Value.int i t) _ ?_ ?_ _ _ ⟨rfl,rfl,d⟩
 .rintro v c r e ⟨f,rfl,b⟩;obtain ⟨i,t,rfl⟩:=b v BX;refine Ac (Ad ?_);simp only [DQ,Ca];exact Ad ⟨rfl,rfl,λu j=>b u (Bf _ j)⟩
 .rintro ⟨x,y⟩ e ⟨f,rfl,_⟩;simp only at f;subst f;exact Ad h
def oY{x:Addr}{ks:List Int}{stored:List Value}{Q:Bool->Shared->Prop}(hx:IsTupleKey (intKind prog w) s.heap ks x)(hs:∀y∈stored,∃b ks',y=Value.ref b/\IsTupleKey (intKind prog w) s.heap ks' b)(h:Q false s) :
  wP prog w A (searchCouldBeSeen (.ref x) stored) Q E s:=by
 unfold searchCouldBeSeen;refine Ac ?_;refine wpAny_forIn_list _ (λc r e=>r.1=none/\e=s/\∀v∈c,∃b ks',v=Value.ref b/\IsTupleKey (intKind prog w) s.heap ks' b) _ ?_ ?_ _ _ ⟨rfl,rfl,hs⟩
 .rintro v c r e ⟨f,rfl,a⟩;obtain ⟨b,ks',rfl,g⟩:=a v BX;dsimp only;split
  .exact Ad ⟨rfl,rfl,λu d=>a u (Bf _ d)⟩
  .refine Ac (wpAny_eqIsQuiet_tuple hx ?_);simp only [Bool.not_true,DQ,Ca];refine Ac (wpAny_eqIsQuiet_tuple g ?_);simp only [Bool.not_true,DQ,Ca];refine Ac (jC hx ?_);simp only [DQ,Ca];refine Ac (jC g ?_);simp only [DQ,Ca];exact Ad ⟨rfl,rfl,λu d=>a u (Bf _ d)⟩
 .rintro ⟨j,i⟩ e ⟨f,rfl,_⟩;simp only at f;subst f;exact Ad h
def xf(hk:IsTupleKey (intKind prog w) s.heap ks a)(h:Q true s):wP prog w A (hashByValue 8 (.ref a)) Q E s:=by
 have p:=hk.typeIs;obtain ⟨o,g,n,l,y,k,m⟩:=hk;have d:=items_int m;unfold hashByValue;refine Ac (wpAny_specialOf p F.slot_tuple_hash.lookup ?_);refine Ac (Hm l k ?_);refine Ac ?_;rw [<-Array.forIn_toList];refine wpAny_forIn_list _ (λc r e=>r.1=none/\e=s/\∀v∈c,∃i t,v=Value.int i t) _ ?_ ?_ _ _ ⟨rfl,rfl,d⟩
 .rintro v c r e ⟨f,rfl,b⟩;obtain ⟨i,t,rfl⟩:=b v BX;refine Ac (Ad ?_);simp only [Bool.not_true,DQ,Ca];exact Ad ⟨rfl,rfl,λu j=>b u (Bf _ j)⟩
 .rintro ⟨q,x⟩ e ⟨f,rfl,_⟩;simp only at f;subst f;exact Ad h
end
section
variable{prog:Program} {E:VS}
def El(prog:Program)(w:World)(h:Heap)(p:Int×Value)(ks:List Int):Prop:=∃x,p.2=.ref x/\IsTupleKey (intKind prog w) h ks x/\p.1=tupleKeyHash (intKind prog w) ks
def El.inj{h:Heap}{p:Int×Value}{a b:List Int}(ha:El prog w h p a)(hb:El prog w h p b):a=b:=by
 obtain ⟨x,e,f,_⟩:=ha;obtain ⟨y,c,d,_⟩:=hb;rw [e] at c;cases c;exact f.inj d
def Tb.fits{es:Array (Int×Value)}(T:Tb t es l)(hl:l.length<=t.mask):t.fits es.size=true:=by
 unfold SetTable.fits SetTable.fill;rw [T.du,T.size,T.esize];simp;exact hl
def Tb.odd{es:Array (Int×Value)}(T:Tb t es l):t.gaveWay=false:=by
 unfold SetTable.gaveWay;rcases T.ms with e | e<;>rw [e]<;>rfl
def qN{es:Array (Int×Value)}(T:Tb t es l):HAt l (λi=>(es[i]?.map (·.1)).getD 0):=λi e h=>by
 show ((es[i]?.map (·.1)).getD 0)=_;rw [<-GQ,T.el,Cj,h];rfl
def yM{x:Addr}{es:Array (Int×Value)}(hu:A.units<cLine)(ho:s.heap.get? a=some o)(hd:o.data=.set es ep t)(T:Tb t es l)(hl:l.length<=t.mask)(hel:∀e∈l,∃ks',El prog w s.heap e.2 ks')(hx:IsTupleKey (intKind prog w) s.heap ks x) :
  ∀n fuel stand,n<fuel->n<=10*(13+t.mask)->(stand.getD (t.probeStart (tupleKeyHash (intKind prog w) ks))).dummy=none->FN t.mask (Occ l) n (stand.getD (t.probeStart (tupleKeyHash (intKind prog w) ks))) ->
   ((∃e∈l,El prog w s.heap e.2 ks/\Rch t.mask (Occ l) (stand.getD (t.probeStart (tupleKeyHash (intKind prog w) ks))) e.1)/\R (.there none) s)\/((∀e∈l,¬El prog w s.heap e.2 ks)/\∀j,¬Occ l j->Rch t.mask (Occ l) (stand.getD (t.probeStart (tupleKeyHash (intKind prog w) ks))) j->R (.free j false) s) ->
   wP prog w A (setSearchFrom a (.ref x) (tupleKeyHash (intKind prog w) ks) true fuel stand) R E s:=by
 intro n
 induction n using Nat.strongRecOn with
 | ind n ih=>
  intro fuel stand W X K P C;obtain ⟨fuel,rfl⟩ : ∃k,fuel=k+1:=⟨fuel - 1,by lia⟩;unfold setSearchFrom;refine Ac (N8 ho hd (T.fits hl) ?_);dsimp only;rw [T.odd];simp only [DQ,Ca];generalize hp:stand.getD (t.probeStart (tupleKeyHash (intKind prog w) ks))=p at *;rcases dZ T (qN T) n (10*turns t.mask) p K P (by unfold turns;lia) with ⟨j,e1,e2,e3,e4⟩ | ⟨i,e,p',n',e1,e2,e3,e4,e5,e6,e7,e8,e9⟩
  .generalize hm:t.probe _ (tupleKeyHash (intKind prog w) ks) p=met;have B:=hm.symm.trans e1;subst B;refine Ad ?_;rcases C with ⟨⟨e,he,hel',F⟩,_⟩ | ⟨_,C⟩
   .obtain ⟨_,_,_,Q⟩:=hel';exact aB F (e4 e he Q)
   .exact C j e2 e3
  .generalize hm:t.probe _ (tupleKeyHash (intKind prog w) ks) p=met;have B:=hm.symm.trans e1;subst B;dsimp only;have v:=Gg e2;obtain ⟨ks',y,M,D,H⟩:=hel e v;have L:es[i]?=some e.2:=by rw [<-GQ,T.el,Cj,e2];rfl
   have f:es[i]?=some (e.2.1,Value.ref y):=by rw [L,<-M]
   have m:∀c,c.getD (t.probeStart (tupleKeyHash (intKind prog w) ks))=adv t.mask p'->¬ks'=ks->wP prog w A (setSearchFrom a (.ref x) (tupleKeyHash (intKind prog w) ks) true fuel c) R E s:=λc g J=>by
    refine ih n' e6 fuel c (by lia) (by lia) ?_ ?_ ?_
    .rw [g];unfold adv;split<;>exact e5
    .rw [g];exact e7
    .rw [g];rcases C with ⟨⟨I,u,hel',F⟩,r⟩ | ⟨hno,C⟩
     .left;refine ⟨⟨I,u,hel',e9 I u hel'.choose_spec.2.2 (λz=>?_) F⟩,r⟩;subst z;exact J (El.inj ⟨y,M,D,H⟩ hel')
     .exact .inr ⟨hno,λj U F=>C j U (e8 j F)⟩
   have d:ks'=ks->R (.there none) s:=λh=>by
    subst h;rcases C with ⟨_,r⟩ | ⟨hno,_⟩
    .exact r
    .exact aB ⟨y,M,D,H⟩ (hno e v)
   rw [f];have g:∀y∈List.map (λx=>x.2) (Array.filter (λx=>x.1==tupleKeyHash (intKind prog w) ks) es).toList,∃b ks',y=Value.ref b/\IsTupleKey (intKind prog w) s.heap ks' b:=λy D=>by
    obtain ⟨q,r,rfl⟩:=By.mp D;rw [Array.toList_filter] at r;have r:=(List.mem_filter.mp r).1;rw [T.el] at r;obtain ⟨I,u,rfl⟩:=By.mp r;obtain ⟨S,V,O,N,_⟩:=hel I u;exact ⟨V,S,O,N⟩
   have G:t.sameMemory t.moves t.mask=some true:=by unfold SetTable.sameMemory;simp
   cases hled:t.led
   all_goals simp only [Bool.not_false,Bool.not_true,DQ,Ca,GZ]
   .refine Ac (oY hx g ?_);simp only [DQ,Ca];refine Ac (Cw (wpAny_eqBool_tuple hu D hx ?_));refine Ac (N8 ho hd (T.fits hl) ?_);by_cases h:ks'=ks
    .rw [Dv h];simp only [Bool.and_true,GZ];exact Ad (d h)
    .rw [Jg h];simp only [Bool.and_false,DQ,Ca];rw [G];simp only [GZ];rw [T.live e2];dsimp only;rw [f];refine wpAny_bind (wpAny_of_eq (show isSame (.ref y) (.ref y)=pure true by unfold isSame;simp) ?_);refine Ac (Ad ?_);exact m (some _) rfl h
   .refine Ac (Cw (wpAny_eqBool_tuple hu D hx ?_));refine Ac (N8 ho hd (T.fits hl) ?_);by_cases h:ks'=ks
    .rw [Dv h];simp only [Bool.and_true,GZ];exact Ad (d h)
    .rw [Jg h];simp only [Bool.and_false,DQ,Ca];rw [G];simp only [GZ];rw [T.live e2];dsimp only;rw [f];refine wpAny_bind (wpAny_of_eq (show isSame (.ref y) (.ref y)=pure true by unfold isSame;simp) ?_);refine Ac (Ad ?_);exact m (some _) rfl h
end
section
variable{prog:Program} {E:VS}
def SetT(prog:Program)(w:World)(h:Heap)(a:Addr)(kss:List (List Int)):Prop:=∃o c d t l,h.get? a=some o/\o.ExactSet/\o.data=.set c d t/\Tb t c l/\t.mask=7/\l.length<=4 /\
 (∀e∈l,∃b∈kss,El prog w h e.2 b)/\(∀b∈kss,∃e∈l,El prog w h e.2 b)/\l.length=kss.length
def El.keeps{es:Array (Int×Value)}(x:El prog w h p ks)(ho:h.get? a=some o)(hd:o.data=.set es ep t)(hs:Hb0 a h h'):El prog w h' p ks:=by
 obtain ⟨x,e,⟨k,b,n,f,j,d,i⟩,g⟩:=x;have c:x≠a:=by
  lia
 exact ⟨x,e,⟨k,b,n,(hs.2 x c).trans f,j,d,i⟩,g⟩
def qH(r:Rch m occ p j):p.j+p.more<=m->j<=m:=by
 induction r with
 | here p=>lia
 | @next p j _ _ ih=>
  intro h;refine ih ?_;unfold adv;split
  .lia
  .have a:(leap m p.i p.perturb).1<=m:=by
    unfold leap;have:=Jm (p.i*5+1+p.perturb/32) (show 0<m+1 by lia)
    lia
   have:=gq a
   lia
def mG(t:SetTable)(j:Nat):(t.put j).1.mask=t.mask/\(t.put j).1.plain=t.plain:=⟨rfl,rfl⟩
def yF{x:Addr}(hu:A.units<cLine)(hS:SetT prog w s.heap a kss)(hx:IsTupleKey (intKind prog w) s.heap ks x)(hn:kss.length+1<=4)(h:∀b h',Hb0 a s.heap h'->SetT prog w h' a (if ks∈kss then kss else kss++[ks])->Q b (sH0 s h')) :
  wP prog w A (setAddHashed a (.ref x) (tupleKeyHash (intKind prog w) ks)) Q E s:=by
 obtain ⟨o,N,P,t,l,m,D,d,T,J,L,p,v,r⟩:=hS;have n:l.length<=t.mask:=by rcases T.ms with e | e<;>rw [e]<;>lia
 refine Cw (Ac (N8 m d (T.fits n) ?_));obtain ⟨e,he,hf⟩:=wZ (js:=l.map (·.1)) (by rw [Al];exact n);have hE:FN t.mask (Occ l) (10*(13+t.mask)) (t.probeStart (tupleKeyHash (intKind prog w) ks)):=by
  exact ends T.ms (by have:=Jm (bits (tupleKeyHash (intKind prog w) ks)) (show 0<t.mask+1 by lia);lia) (xZ _) he λ⟨Y,M,q⟩=>hf (By.mpr ⟨Y,M,q⟩)
 have V:10*(13+t.mask)<100000:=by rcases T.ms with e | e<;>rw [e]<;>decide
 refine Ac (yM hu m d T n (λe he=>let ⟨k,_,q⟩:=p e he;⟨k,q⟩) hx (10*(13+t.mask)) 100000 none V (Ae _) rfl hE ?_);by_cases hk:ks∈kss
 .left;obtain ⟨e,he,f⟩:=v ks hk;refine ⟨⟨e,he,f,?_⟩,?_⟩
  .have:=T.rc e he;rw [f.choose_spec.2.2] at this;exact this
  .refine Ad ?_;have:=h false s.heap (Heap.SameBut.refl a s.heap) (by rw [iP hk];exact ⟨o,N,P,t,l,m,D,d,T,J,L,p,v,r⟩);exact this
 .right;refine ⟨λe he f=>?_,λj hj S=>?_⟩
  .obtain ⟨U,hk',q⟩:=p e he;have:=El.inj f q;subst this;exact hk hk'
  .dsimp only;refine Ac (N8 m d (T.fits n) ?_);have O:j<=t.mask:=by
    have hi:bits (tupleKeyHash (intKind prog w) ks)%(t.mask+1)<=t.mask:=by
     have:=Jm (bits (tupleKeyHash (intKind prog w) ks)) (show 0<t.mask+1 by lia)
     lia
    refine qH S ?_;show bits (tupleKeyHash (intKind prog w) ks)%(t.mask+1)+(runEnd t.mask (bits (tupleKeyHash (intKind prog w) ks)%(t.mask+1)) - bits (tupleKeyHash (intKind prog w) ks)%(t.mask+1))<=t.mask;have:=gq hi
    lia
   obtain ⟨B,F,z⟩:=T.put O hj S;obtain ⟨G,I⟩:=mG t j;generalize ht':(t.put j).1=t' at z G I ⊢;generalize hes':insertAt N (t.put j).2 (tupleKeyHash (intKind prog w) ks,Value.ref x)=es' at z ⊢;have i:B.length=l.length+1:=by rw [F.length_eq];rfl
   have R:B.length<=t'.mask:=by rw [G,i];rcases T.ms with e | e<;>rw [e]<;>lia
   have u:wP prog w A (do
     storeSet a es' t'
     if (!false&&t'.tooFull)=true then do
      setRelay a (grown (N.size+1))
      pure true
     else pure true) Q E s:=by
    have W:(s.heap.update a (Obj.putSet es' t')).get? a=some { o with data:=.set es' (P+1) t' }:=by
     have:=MN (Obj.putSet es' t') m (by rw [putSet_of es' t' d];rfl);rw [putSet_of es' t' d] at this;exact this
    have g:=TQ s.heap a (Obj.putSet es' t');have C:El prog w (s.heap.update a (Obj.putSet es' t')) (tupleKeyHash (intKind prog w) ks,Value.ref x) ks:=El.keeps ⟨x,rfl,hx,rfl⟩ m d g;have g1:∀e∈B,∃k∈kss++[ks],El prog w (s.heap.update a (Obj.putSet es' t')) e.2 k:=λe he=>by
     rcases BV.mp (F.mem_iff.mp he) with rfl | he
     .exact ⟨ks,by simp,C⟩
     .obtain ⟨k,K,H⟩:=p e he;exact ⟨k,QL _ K,H.keeps m d g⟩
    have X:∀k∈kss++[ks],∃e∈B,El prog w (s.heap.update a (Obj.putSet es' t')) e.2 k:=λk hk'=>by
     rcases Gv.mp hk' with hk' | hk'
     .obtain ⟨e,K,H⟩:=v k hk';exact ⟨e,F.mem_iff.mpr (Bf _ K),H.keeps m d g⟩
     .rw [HR] at hk';subst hk';exact ⟨_,F.mem_iff.mpr BX,C⟩
    have Z:es'.size<=sizeLine:=by rw [z.esize,i,Hs];lia
    refine Ac (wpAny_storeSet_of m d ?_ Z);have y:t'.fill=B.length:=by unfold SetTable.fill;rw [z.du,z.size];rfl
    by_cases c:t'.tooFull=true
    .unfold SetTable.tooFull at c;rw [y,G,i,J] at c;have c:=K6 c
     lia
    .rw [Jy.mpr c];refine Ad (h true _ g ?_);rw [iN hk];refine ⟨_,es',P+1,t',B,W,D,rfl,z,G.trans J,by lia,g1,X,by rw [i,r];simp⟩
   split
   .refine Ac (xf hx ?_);exact u
   .refine Ac (Ad ?_);exact u
end
end L2.Sx
namespace L2.Sx
open PySem.SetTable
open Dl (firsts)
def Ow(kf):∀i,(firsts kf i).length<=i
 | 0=>Ae _
 | i+1=>by
  have:=Ow kf i;unfold firsts;split
  .lia
  .simp;lia
section
variable{prog:Program} {R:Result->Shared->Prop} {I:Addr} {fp wr:List Addr} {G:Array GenState->Array GenState->Prop} {P:Nat->Value->Prop} {St:Nat->Shared->Prop}
def SetT.keep(hS:SetT prog w h a kss)(ha:∀o,h.get? a=some o->h'.get? a=some o)(hk:∀b o,h.get? b=some o->o.cls=.type "tuple"->h'.get? b=some o):SetT prog w h' a kss:=by
 obtain ⟨o,C,D,t,l,A,g,z,T,G,j,q,m,d⟩:=hS;have v:∀{e i},El prog w h e i->El prog w h' e i:=λ{e i} s=>by
  obtain ⟨x,E,⟨u,c,n,f,y,r⟩,B⟩:=s;exact ⟨x,E,⟨u,c,n,hk x u f y,y,r⟩,B⟩
 exact ⟨o,C,D,t,l,ha o A,g,z,T,G,j,λe F=>let ⟨k,h1,h2⟩:=q e F;⟨k,h1,v h2⟩,λk p=>let ⟨e,h1,h2⟩:=m k p;⟨e,h1,v h2⟩,d⟩
def SetT.cls(hS:SetT prog w h a kss):∀o,h.get? a=some o->o.cls≠.type "tuple":=λi b d=>by
 obtain ⟨o,g,f,t,l,e,c,_⟩:=hS;rw [e] at b;cases b;rw [c.1] at d;exact aB d (by decide)
def m5(W:WalksS prog w A.in1 I fp wr G n P St)(S)(hSf:S∉fp)(hwr:∀i s,St i s->∀b∈wr,∀o,s.heap.get? b=some o->o.cls≠.type "tuple")(kf)(hu:A.in1.units<cLine)(h0)(hval:∀i v,P i v->∃x,v=.ref x/\IsTupleKey (intKind prog w) h0 (kf i) x)(hb:n<=4) :
  ∀k i s,n - i=k->i<=n->St i s->SetT prog w s.heap S (firsts kf i)->(∀b o,h0.get? b=some o->o.cls=.type "tuple"->s.heap.get? b=some o) ->
   (∀s',Moved (S::wr) G s s'->SetT prog w s'.heap S (firsts kf n)->R (.ok (.ret .none)) s')->codeAny (model prog w) A (.builtin "set.update.loop" ⟨[.ref S,.ref I],[]⟩) R s:=by
 have t:=λh=>hSf (W.sub _ h);have g:∀b∈wr,b∈S::wr:=λb hb=>Bf _ hb;have J:∀{i s s'},St i s->Moved wr G s s'->∀b o,s.heap.get? b=some o->o.cls=.type "tuple"->s'.heap.get? b=some o:=λ{i s s'} X m b o e c=>m.heap b o (λz=>hwr i s X b z o e c) e;intro k
 induction k with
 | zero=>
  intro i s O V a K _ L;obtain rfl:i=n:=by lia
  refine Nu F.entry_set_update_loop ?_;rw [T5 F.plain_set_update_loop _];refine Ac (W.done s _ _ a λs' f=>?_);exact Ad (L s' (f.mono g) (K.keep (λo e=>f.heap S o t e) (J a f)))
 | succ k ih=>
  intro i s O V a K D L;have q:i<n:=by lia
  refine Nu F.entry_set_update_loop ?_;rw [T5 F.plain_set_update_loop _];refine Ac (W.item i s _ _ q a λv s' Y C f=>?_);obtain ⟨x,rfl,M⟩:=hval i v Y;have B:=K.keep (λo e=>f.heap S o t e) (J a f);have d:=λb o e c=>J a f b o (D b o e c) c;have N:IsTupleKey (intKind prog w) s'.heap (kf i) x:=by
   obtain ⟨o,p,m,U,c,r⟩:=M;exact ⟨o,p,m,d x o U c,c,r⟩
  refine Ac (Cw ?_);unfold setAdd;refine Cw ?_;refine Ac (wpAny_pyHash_tuple hu N ?_);refine yF hu B N (by have:=Ow kf i;lia) λb Q j H=>?_;have T:∀b o,s'.heap.get? b=some o->o.cls=.type "tuple"->Q.get? b=some o:=λb o e c=>by
   rw [j.2 b (λz:b=S=>by subst z;exact B.cls o e c)];exact e
  refine Ad ⟨plainId_quiet F.plain_set_update_loop _,ih (i+1) _ (by lia) q (W.frame _ s' _ _ C (Dz _ _) λb l o e=>?_) H (λb o e c=>T b o (d b o e c) c) λE y u=>?_⟩
  .rw [j.2 b (λz:b=S=>hSf (by rw [<-z];exact l))];exact e
  .refine L E (Moved.trans W.gtrans ((f.mono g).then_heap (Dz _ _) λb o l e=>?_) y) u;rw [j.2 b (λz:b=S=>l (by rw [z];exact BX))];exact e
end
open Dl (firsts)
section
variable{prog:Program} {E:VS}
abbrev Hu(led:Bool):Obj:={ cls:=.type "set",dict:=none,data:=.set #[] 0 (.fresh 0 0 led) }
def qi{h:Heap}{a:Addr}{led:Bool}(ho:h.get? a=some (Hu led)):SetT prog w h a [] :=
 ⟨_,#[],0,.fresh 0 0 led,[],ho,⟨rfl,rfl,rfl⟩,rfl,⟨.inl rfl,rfl,rfl,rfl,.nil,λ_ h=>(Cg h).elim,λ_ h=>(Cg h).elim⟩,rfl,by decide,λ_ h=>(Cg h).elim,λ_ h=>(Cg h).elim,rfl⟩
set_option maxHeartbeats 8000000 in
def call_set(hh:A.handled=none)(hu:A.units+20<cLine)(hl:s.heap.IsList l items)(hi:∀i v,items[i]?=some v->∃x,v=.ref x/\IsTupleKey (intKind prog w) s.heap (kf i) x)(hb:items.size<=4)(h:∀(h':Heap) (tk:Nat),SetT prog w h' s.heap.objs.size (firsts kf items.size)->(∀b o,b<s.heap.objs.size->s.heap.get? b=some o->h'.get? b=some o)->Q (.ref s.heap.objs.size) { s with heap:=h',toks:=tk }) :
  wP prog w A (call (.type "set") [.ref l]) Q E s:=by
 obtain ⟨c,tl,hmro⟩:=F.called_set.mro;have N:=F.called_set.made;have W:=F.called_set.sub;refine wpAny_call (codeAny_of_tree ?_);refine Ad ⟨Code.quiet_builtin _ (by decide +kernel),Nu F.entry_type_call ?_⟩;rw [Around.under_plain (weight_type_call_type "set" [.ref l] []) rfl];have h1:=F.called_set.notType;have h2:=F.called_set.canCreate;have hct:=F.typeCall_set_1 (.ref l)
 repeat (any_goals (first | assumption | wp_step))
 refine Kc (code_set_new_1 (.ref l) (E:=E) (Q₁:=λB j=>∃a,B=.ref s.heap.objs.size/\j=(sH0 s (s.heap.push (Hu a)))) λa=>⟨a,rfl,rfl⟩) λr j C=>?_
 cases r with
 | error e=>exact C
 | ok fl=>
  cases fl with
  | next=>exact C.elim
  | brk=>exact C.elim
  | cont=>exact C.elim
  | ret B=>
   obtain ⟨a,rfl,rfl⟩:=C;have hS:(s.heap.push (Hu a)).get? s.heap.objs.size=some (Hu a):=CJ _ rfl;have hT:Shared.TypeIs (sH0 s (s.heap.push (Hu a))) (.ref s.heap.objs.size) "set":=⟨_,hS,rfl⟩
   have hli:=F.called_set.init.lookup;have hbi:=F.called_set.init.bind (.ref s.heap.objs.size)
   repeat (any_goals (first | assumption | wp_step))
   refine Kc (codeAny_call_builtin (R:=wants (λr k=>r=.none/\∃h' tk,k={ s with heap:=h',toks:=tk }/\SetT prog w h' s.heap.objs.size (firsts kf items.size) /\
     (∀b o,b<s.heap.objs.size->s.heap.get? b=some o->h'.get? b=some o)) E) F.called_set.init.plain F.entry_set_init (check_set_init_1 hT ?_)) λy k d=>?_
   .obtain ⟨ol,z,G,nl,D⟩:=hl;obtain ⟨Z,m,K,g⟩:=ol;simp only at G D;subst G;subst D;have t:(s.heap.push (Hu a)).get? l=some { cls:=.type "list",dict:=m,data:=.seq items nl,slots:=g }:=Bj _ z;have hsls:=F.sub_list_set;have V:=F.sub_list_frozenset;have u:(s.heap.push (Hu a)).IsList l items:=⟨_,t,rfl,nl,rfl⟩;unfold Builtin.«set.__init__» noKeywords Builtin.Frozenset.updateFrom;generalize hPI:pyIter=PI
    wp_walk
    subst hPI;refine QK u ?_;refine Ac (wpAny_runValue ?_);have p:l<s.heap.objs.size:=BP z;have M:A.in1.in1.in1.handled=none:=by simp [hh]
    have q:l≠(s.heap.push (Hu a)).objs.size:=by
     rw [Ex];exact Am (Dm p)
    have P:s.heap.objs.size∉[(s.heap.push (Hu a)).objs.size,l]:=by
     rw [Ex];simp only [BV,HR,Cg,HX,not_or];exact ⟨Am (Ha _),CK p⟩
    refine m5 ((Walks.list M _ l q items).toS) s.heap.objs.size P ?hw kf (by show A.units+1+1+1<cLine;lia) s.heap hi hb (items.size - 0) 0 _ (by lia) (Bw _)
     ⟨⟨_,CJ _ rfl,rfl,rfl⟩,(u.push _)⟩ ?hS0 ?hT0 ?hR
    case hw=>
     rintro i Y ⟨⟨o',S,O,_⟩,_⟩ b f o'' e' X;rw [HR] at f;subst f;rw [S] at e';cases e';rw [O] at X;exact aB X (by decide)
    case hS0=>exact qi (Bj _ hS)
    case hT0=>exact λb o e _=>Bj _ (Bj _ e)
    case hR=>
     intro Y H n;obtain ⟨h',g',d',L,I⟩:=Y;have eg:g'=s.gens:=H.gens;have ed:d'=s.drawn:=H.drawn;have eo:I=s.os:=H.os;subst eg;subst ed;subst eo;refine Ad ?_;refine Ad ⟨rfl,h',L,rfl,n,λb o f e=>?_⟩;have U:=Am f;have T:b≠(s.heap.push (Hu a)).objs.size:=by
      rw [Ex];exact Am (Dm f)
     exact H.heap b o (by simp only [BV,HR,Cg,HX,not_or];exact ⟨U,T⟩) (Bj _ (Bj _ e))
   .cases y with
    | error e=>exact d
    | ok fl₂=>
     cases fl₂ with
     | next=>exact d.elim
     | brk=>exact d.elim
     | cont=>exact d.elim
     | ret r=>
      obtain ⟨rfl,h',tk,rfl,n,J⟩:=d
      repeat (any_goals (first | assumption | wp_step))
      exact h _ _ n J
end
end L2.Sx
namespace L2
def Zvo:bootBuiltins "set"=some (.type "set"):=by decide +kernel
def SetN(o:Obj)(n:Nat):Prop:=o.ExactSet/\n<=4/\∃a b t,o.data=.set a b t/\t.fits a.size=true/\a.size=n
def iy(K:W1)(H:Hp)(xs:List V)(kss:List (List Int)):Prop:=∀i x,xs[i]?=some x->∃a,x=.ref a/\SqT K H a ((kss.getD i []).map V.int)
def rSet(K:W1):List V->Hp->VK->Prop:=λd H Q=>∃l c b,d=[.ref l]/\SqL K H l c/\iy K H c b/\c.length<=4/\∀a o,H a=none->SetN o (Dl.firsts (λi=>b.getD i []) c.length).length->Q (.ref a) (upd H a (objX a o))
def Y9:List V->Hp->VK->Prop:=λb H Q=>∃a o n,b=[.ref a]/\H a=some (objX a o)/\SetN o n/\Q (.int (n:Nat)) H
section
def bf:∀{ns:List Int} {its:List Value},Vals (ns.map V.int) its->ItemsAre (intKind prog w) ns its
 | [],_,.nil=>.nil
 | n::r,_,.cons h t=>by
  obtain ⟨a,rfl⟩:=h;exact .cons (intKind_is _ _ _ _) (bf t)
def ZF:∀{xs:List V} {us:List Value},Vals xs us->∀{i:Nat} {u:Value},us[i]?=some u->∃x,xs[i]?=some x/\RelV x u
 | _,_,.cons h _,0,_,e=>⟨_,rfl,by cases e;exact h⟩
 | _,_,.cons _ t,i+1,_,e=>ZF t (by simpa using e)
 | _,_,.nil,i,_,e=>by simp at e
def bU:∀{xs:List V} {us:List Value},Vals xs us->us.length=xs.length
 | _,_,.nil=>rfl
 | _,_,.cons _ t=>by simp [bU t]
def xW(hr:Room k X.A):Ep X (.type "set") (rSet X.K):=by
 intro y s Y H vs us Q I P ⟨l,xs,g,e,U,D,h,G⟩;subst e;cases P with
 | cons r1 rr=>
  cases rr;cases r1;obtain ⟨L,r,⟨o,n,e1,O,_,e3⟩,_⟩:=I.list U;have c:=bU r;refine L2.Sx.call_set (kf:=λi=>g.getD i []) hr.hd (by have:=hr.un;lia) ⟨o,e1,O,n,e3⟩ (λi v hv=>?_) (by simpa [c] using h) λE F hS d=>?_
  .obtain ⟨x,hx,W⟩:=ZF r (by simpa using hv);obtain ⟨a,rfl,M⟩:=D i x hx;cases W;obtain ⟨Z,ri,⟨p,R,C,m,B⟩,_⟩:=I.tuple M;exact ⟨a,rfl,p,Z.toArray,m,R,C,B,by simpa using bf ri⟩
  .have J:∀b u,s.heap.get? b=some u->E.get? b=some u:=λb u e=>d b u (BP e) e;obtain ⟨p,V,ep,t,l',S,j,z,T,h7,w,_,_,f⟩:=hS;have q:l'.length<=t.mask:=by rcases T.ms with e | e<;>rw [e]<;>lia
   have N:=I.laid (t':=F) J (Ae _) (Zrs S);refine ⟨.ref s.heap.objs.size,_,N,rfl,G _ p (I.hok.fresh (Ae _)) ⟨j,?_,V,ep,t,z,T.fits q,?_⟩⟩
   .rw [<-c];have e:=f;rw [Ht] at e;lia
   .rw [T.esize,f,<-c];simp
def rB:Ep X (.builtin "len") Y9:=by
 intro c s Y H r p Q I j ⟨a,o,n,e,h,⟨b,k,l,m,t,d,f,i⟩,q⟩;subst e;cases j with
 | cons r1 rr=>
  cases rr;cases r1;have g:=vg I.hok h;refine call_len_set g b d f (by lia) ?_;rw [i];exact ⟨.int (n:Nat),H,I.tok _,⟨_,rfl⟩,q⟩
end
end L2
namespace L2.Ds
open Dl
section
def jX{F:Hp}{xs:List V}{ds:List D}{ns:List Int}(h:Rps K mg F xs ds)(e:intsOf ds=some ns):xs=ns.map V.int:=by
 cases h with
 | nil=>cases e;rfl
 | @cons x xs d ds h r=>
  cases d with
  | int n=>
   cases q:intsOf ds with
   | none=>unfold intsOf at e;rw [q] at e;cases e
   | some ms=>
    unfold intsOf at e;rw [q] at e;cases e;cases h;rw [jX r q];rfl
  | _=>cases e
theorem cz{F H:Hp}(s:Same F H){xs:List V}{ds:List D}{ks:List (List Int)}(h:Rps K mg F xs ds)(e:keysOf ds=some ks):iy K H xs ks:=by
 cases h with
 | nil=>intro i x h;simp at h
 | @cons x xs d ds h r=>
  cases d with
  | tup es=>
   cases q:intsOf es with
   | none=>unfold keysOf at e;rw [q] at e;cases e
   | some k=>
    cases q2:keysOf ds with
    | none=>unfold keysOf at e;rw [q,q2] at e;cases e
    | some kr=>
     unfold keysOf at e;rw [q,q2] at e;cases e;intro i x b;cases i with
     | zero=>
      cases b;obtain ⟨_,_,rfl,a,c⟩:=h.t;rw [jX c q] at a;exact ⟨_,rfl,Eg s a⟩
     | succ i=>exact cz s r q2 i x (by simpa using b)
  | _=>cases e
end
section
variable {p p1 q p2:Pos}
def ZpW(hr:Room k X.A)(hgl:Gl X "len")(hml:X.m "len"=none)(hgs:Gl X "set")(hms:X.m "set"=none)(he:DE X E e te me)(h1:starEach [e] X.v=[(false,eval e X.v)]:=by rfl)(h2:starEach [Expr.Call (.Name "set" q) [e] [] p2] X.v=[(false,eval (.Call (.Name "set" q) [e] [] p2) X.v)]:=by rfl) :
  DE X E (.Call (.Name "len" p) [.Call (.Name "set" q) [e] [] p2] [] p1) (tCB Y9 (Bc (tCB (rSet X.K) (Bc te tNil)) tNil)) (o1 Uo me):=by
 refine ⟨YJ rB hgl hml WQ (EY (fW (xW hr) hgs hms Zvo (EY he.p GD h1) (by decide) (by decide) h1 rfl) GD h2) (by decide) (by decide) h2 rfl,?_⟩;intro n g F H Y Z u;refine (he.s n g F H Y Z u).bind λd c x t b j=>?_;cases t with
 | lst ds=>
  obtain ⟨_,_,rfl,h,f⟩:=j.l;rename_i l xs;show Ans X.m E (Rp X.K X.m) d c (match keysOf ds with | some ks=>if ds.length<=4 then .ok (.int ((firsts (λi=>ks.getD i []) ds.length).length:Nat)) else .bad | none=>.bad) _
  cases hk:keysOf ds with
  | none=>ext
  | some ks=>
   by_cases h16:ds.length<=4
   .show Ans X.m E (Rp X.K X.m) d c (if ds.length<=4 then .ok (.int ((firsts (λi=>ks.getD i []) ds.length).length:Nat)) else .bad) _
    rw [iP h16];intro Q q;refine ⟨_,_,ks,rfl,b.s.seq h,cz b.s f hk,by rw [f.length];exact h16,λa o m r=>⟨a,o,_,rfl,Ar,r,?_⟩⟩;rw [f.length];exact q _ _ _ (.new b.s m _) (.int _)
   .show Ans X.m E (Rp X.K X.m) d c (if ds.length<=4 then .ok (.int ((firsts (λi=>ks.getD i []) ds.length).length:Nat)) else .bad) _
    rw [iN h16]
    ext
 | _=>ext
end
end L2.Ds
namespace Dl
noncomputable def Q8(ix:List (Option Nat))(zs:List D):List D:=ix.map λo=>match o with
 | some i=>zs.getD i .non
 | none=>.non
def onK(f:List D->Res D)(ix:List (Option Nat))(a k:MA):ME:=λZ=>(a Z).bind λb=>(k Z).bind λc=>f (b++Q8 ix c)
end Dl
namespace L2
structure FunD(K:W1)(x qual:Str)(st:Stmt)(dV:Value)(f:Addr)(fd:FuncData):Prop where
 ex:∃(oc:Value) (od:Option Addr) (kV doc pm:Value) (an:Option Addr) (cdv ct:Value) (osl:Array (Option Value)),
  fd=W.fnOf x qual (Gy st) (De st) (BJ st) dV kV doc pm an cdv ct/\K.lookup f=some ⟨oc,od,.func fd,osl⟩/\W.codeIn K cdv qual=true
def PL(ix:List (Option Nat))(ws:List Value):List Value:=ix.map λo=>match o with
 | some i=>ws.getD i .none
 | none=>.none
def Jf(ix:List (Option Nat))(zs:List V):List V:=ix.map λo=>match o with
 | some i=>zs.getD i .non
 | none=>.non
def YX:∀{zs:List V} {ws:List Value},Vals zs ws->∀i,RelV (zs.getD i .non) (ws.getD i .none)
 | _,_,.nil,i=>by simp;rfl
 | _,_,.cons h _,0=>h
 | _,_,.cons _ t,i+1=>by simpa using YX t i
def XR(r:Vals zs ws):∀ix,Vals (Jf ix zs) (PL ix ws)
 | []=>.nil
 | some i::rest=>.cons (YX r i) (XR r rest)
 | none::rest=>.cons rfl (XR r rest)
def DfB(K:W1)(fd:FuncData)(ps ks:List Str)(ix:List (Option Nat)):Prop:=∀s b a,K.In s.heap->(b++PL ix a).length=ps.length->BindsTo s fd ⟨b,ks.zip a⟩ (ps.zip (b++PL ix a))
def DfB.kb(h:DfB K fd ps ks ix):XF K fd ps ks (λus ws=>us++PL ix ws) (λvs zs=>vs++Jf ix zs):=⟨h,λr a=>r.append (XR a ix)⟩
end L2
namespace L2.Ds
open Dl
section
variable {f:Addr} {dV:Value}
def okDF{st:Stmt}{mb:MS}(F:FunD K x x st dV f fd)(S:CT N ps (BJ st))(h:∀(cdv:Value) (A:Around) (outer:List Env) (s:Shared) (H:Hp) (E:XK),Room k (A.deeper (envOfC x (BJ st) s.heap.objs.size f cdv))->∃t,DSs (cxOf (CXR P w) P w K mg base N x (BJ st) f cdv A outer s H E) E (De st) t mb) :
  FnO P w K mg base (k+1) f fd ps (spD K mg ps.length (fn N.length mb)):=by
 obtain ⟨M,T,U,I,L,R,cdv,ct,J,rfl,y,j⟩:=F.ex;refine Lx y j S (λo H Q E q=>q.1) λA outer s H o Q E G i=>?_;obtain ⟨t,m⟩:=h cdv A outer s H E G;refine ⟨t,m.p,?_⟩;obtain ⟨_,n,r,B,D,b,a⟩:=i;have z:=m.s n H n H (start N o) (ev0 N.length r) (RP B D);unfold fn at b a;cases e:mb (ev0 N.length r) with
 | ok fl=>
  rw [e] at z b a;cases fl with
  | nx Z=>exact z _ λc l O _ u=>a .non rfl c l .non u.g .non
  | rt d=>exact z _ λc l v g C=>a d rfl c l v g C
  | bk Z=>exact aB rfl b
  | ct Z=>exact aB rfl b
 | bad=>rw [e] at b;exact aB rfl b
def Uy{F:Hp}:∀{zs:List V} {ds:List D},Rps K mg F zs ds->∀i,Rp K mg F (zs.getD i .non) (ds.getD i .non)
 | _,_,.nil,i=>by simp;exact .non
 | _,_,.cons h _,0=>h
 | _,_,.cons _ t,i+1=>by simpa using Uy t i
def Ur{F:Hp}(r:Rps K mg F zs ds):∀ix,Rps K mg F (Jf ix zs) (Q8 ix ds)
 | []=>.nil
 | some i::rest=>.cons (Uy r i) (Ur r rest)
 | none::rest=>.cons .non (Ur r rest)
def uX(ix)(zs):(Q8 ix zs).length=ix.length:=Al _
end
section
variable {l n':Nat} {ks:List Str} {ix:List (Option Nat)} {f:List D->Res D} {t tk:TA} {m mk:MA} {kws:List Keyword} {p:Pos}
structure DK(X:Cx)(E:XK)(n:Nat)(kws:List Keyword)(t:TA)(m:MA):Prop where
 p:PK X kws t
 s:SA X.K X.m E t m
def lN:DK X E 0 [] tNil Ab:=⟨yw,VB⟩
def Vv(ha:DE X E e te me)(hr:DK X E n kws t m):DK X E (n+1) (⟨nm,e,kpos⟩::kws) (Bc te t) (Aa me m):=⟨ZsX ha.p hr.p,Zn ha.s hr.s⟩
end
end L2.Ds
namespace Dl
abbrev MY:=Ev->List (List D)->Res (Fl×List (List D))
def lft(m:MS):MY:=λZ a=>(m Z).bind λf=>.ok (f,a)
def goY(n:MY):Fl×List (List D)->Res (Fl×List (List D))
 | (.nx Z,dss)=>n Z dss
 | p=>.ok p
def sqY(m n:MY):MY:=λZ a=>(m Z a).bind (goY n)
def ifY(t:MB)(m n:MY):MY:=λZ a=>(t Z).bind λb=>if b=true then m Z a else n Z a
noncomputable def Pj(n:MY):Fl×List (List D)->Res (Fl×List (List D))
 | (.nx Z,dss)=>n Z dss
 | (.ct Z,dss)=>n Z dss
 | (.bk Z,dss)=>.ok (.nx Z,dss)
 | (.rt _,_)=>.bad
def Dd(g:MG)(b:MY):List D->MY
 | [],Z,dss=>.ok (.nx Z,dss)
 | x::r,Z,dss=>(g x Z).bind λa=>(b a dss).bind (Pj (Dd g b r))
def forY(it:MI)(g:MG)(b:MY):MY:=λZ a=>(it Z).bind λc=>Dd g b c Z a
def optY(Z:Ev):Option (List (List D))->Res (Fl×List (List D))
 | some d=>.ok (.nx Z,d)
 | none=>.bad
def intY:D->Option Int
 | .int k=>some k
 | _=>none
def appR(dss:List (List D))(w:D)(k:Int):Option (List (List D)):=(ixP dss.length k).bind λr=>(dss[r]?).bind λa=>if a.length<10000 then some (dss.set r (a++[w])) else none
def appY(me mv:ME):MY:=λZ a=>(noEx (me Z)).bind λd=>(noEx (mv Z)).bind λw=>optY Z ((intY d).bind (appR a w))
def setR(dss:List (List D))(w:D)(u k:Int):Option (List (List D)):=(ixP dss.length u).bind λr=>(dss[r]?).bind λa=>(ixP a.length k).bind λc=>some (dss.set r (a.set c w))
def Kh(mv ma mb:ME):MY:=λZ a=>(noEx (mv Z)).bind λw=>(noEx (ma Z)).bind λb=>(noEx (mb Z)).bind λc=>optY Z ((intY b).bind λu=>(intY c).bind λk=>setR a w u k)
def setO(i:Nat)(mv mb:ME):MS:=λZ=>(getO Z[i]?).bind λa=>(noEx (mv Z)).bind λw=>(noEx (mb Z)).bind λb=>match (intY b).bind λk=>ixP a.length k with
 | some c=>.ok (.nx (Z.set i (.ow (a.set c w))))
 | none=>.bad
def noLD(d:D):Res D:=if noL d=true then .ok d else .bad
def pkN(i:Nat)(m:ME):ME:=λZ=>(getO Z[i]?).bind λa=>(noEx (m (Z.set i (.im (.lst a))))).bind noLD
noncomputable def mixO(J:List Nat):Nat->Ev->Ev->Ev
 | k,.ow _::r,c::r'=>(if J.contains k=true then c else .no)::mixO J (k+1) r r'
 | k,.no::r,_::r'=>.no::mixO J (k+1) r r'
 | k,.im d::r,_::r'=>.im d::mixO J (k+1) r r'
 | _,[],_=>[]
 | _,_::_,[]=>[]
abbrev FY:=Ev->List (List D)->Res (Ev×List (List D))
def endY(J:List Nat)(Z:Ev):Fl×List (List D)->Res (Ev×List (List D))
 | (.nx Z',dss)=>if Z.length<=Z'.length then .ok (mixO J 0 Z Z',dss) else .bad
 | _=>.bad
def fnY(n:Nat)(J:List Nat)(k:MY):FY:=λZ a=>(k (Z++List.replicate (n - Z.length) .no) a).bind (endY J Z)
abbrev MR:=Ev->Res Ev
def rNil:MR:=λ_=>.ok []
def rIm(m:ME)(r:MR):MR:=λZ=>(noEx (m Z)).bind λd=>(r Z).bind λq=>.ok (.im d::q)
def rRg(r:MR):MR:=λZ=>(r Z).bind λq=>.ok (.no::q)
def rOw(l:Nat)(r:MR):MR:=λZ=>(getO Z[l]?).bind λa=>(r Z).bind λq=>.ok (.ow a::q)
noncomputable def outY(Z:Ev)(l:Nat)(lc:Option Nat):Ev×List (List D)->Res (Fl×List (List D))
 | (q,dss)=>match lc with
  | none=>.ok (.nx Z,dss)
  | some k=>match q[k]? with
   | some c=>.ok (.nx (Z.set l c),dss)
   | none=>.bad
def HF(f:FY)(l:Nat)(lc:Option Nat)(m:MR):MY:=λZ a=>(m Z).bind λq=>(noEx (f q a)).bind (outY Z l lc)
def retY(j:Nat):MY:=λZ a=>(getO Z[j]?).bind λb=>.ok (.rt (.tup [.lst (a.map .lst),.lst b]),a)
def GP:List D->Option (List (List D))
 | []=>some []
 | .lst cs::r=>if noLs cs=true then (GP r).bind λq=>some (cs::q) else none
 | _::_=>none
def fstY:Fl×List (List D)->Res Fl
 | (.rt d,_)=>.ok (.rt d)
 | _=>.bad
def regY(i:Nat)(me:ME)(k:MY):MS:=λZ=>(me Z).bind λd=>(lstO d).bind λa=>match GP a with
 | some dss=>if i<Z.length then (noEx (k (Z.set i .no) dss)).bind fstY else .bad
 | none=>.bad
def rtD:Res Fl->Res D
 | .ok (.rt d)=>.ok d
 | .ok _=>.bad
 | .bad=>.bad
def regT(i:Nat)(me:ME)(k:MY):ME:=λZ=>rtD (regY i me k Z)
noncomputable def popP(i j:Nat)(Z:Ev)(xs ys:List D)(c:Nat):Res Fl:=match ys[c]? with
 | some v=>if xs.length<10000 then .ok (.nx ((Z.set j (.ow (ys.eraseIdx c))).set i (.ow (xs++[v])))) else .bad
 | none=>.bad
def appP(i j:Nat)(me:ME):MS:=λZ=>(getO Z[i]?).bind λb=>(getO Z[j]?).bind λa=>(noEx (me Z)).bind λd=>match (intY d).bind λk=>if 0<=k/\k<a.length/\k<10000 then some k.toNat else none with
 | some c=>popP i j Z b a c
 | none=>.bad
end Dl
namespace L2.Ds
open Dl
structure Reg(K:W1)(mg:MgT)(F H:Hp)(a:Addr)(rows:List Addr)(dss:List (List D)):Prop where
 ha:H a=some (.lst (rows.map .ref))
 fa:F a=none
 nd:rows.Nodup
 na:a∉rows
 len:rows.length=dss.length
 row:∀(k:Nat) (r:Addr) (ds:List D),rows[k]?=some r->dss[k]?=some ds->F r=none/\∃ys,H r=some (.lst ys)/\Rps K mg F ys ds
def Off(Y:St)(Z:Ev)(a:Addr)(rows:List Addr):Prop:=∀(j:Nat) (ds:List D) (b:Addr),Z[j]?=some (.ow ds)->Y[j]?=some (some (.ref b))->b≠a/\b∉rows
section
variable {F:Hp} {Y':St} {Z':Ev} {a:Addr} {rows:List Addr} {dss:List (List D)}
def Qy{r:Res α}(h:r.bind f=.ok b):∃a,r=.ok a/\f a=.ok b:=by
 cases r with
 | ok a=>exact ⟨a,rfl,h⟩
 | bad=>cases h
def Reg.gr(R:Reg K mg F H a rows dss)(g:Gr F H F' H'):Reg K mg F' H' a rows dss:=by
 obtain ⟨i,n⟩:=g.o a _ R.fa R.ha;refine ⟨n,i,R.nd,R.na,R.len,λk r m b p=>?_⟩;obtain ⟨c,d,j,h⟩:=R.row k r m b p;obtain ⟨l,e⟩:=g.o r _ c j;exact ⟨l,d,e,h.same g.f⟩
open Classical in
def FQ(Y:St)(Z:Ev)(H:Hp):Hp:=λb=>if ∃(j:Nat) (ds:List D),Z[j]?=some (.ow ds)/\Y[j]?=some (some (.ref b)) then none else H b
def vf(e1:Z[j]?=some (.ow ds))(e2:Y[j]?=some (some (.ref b))):FQ Y Z H b=none:=by
 unfold FQ;rw [iP ⟨j,ds,e1,e2⟩]
def PN(h:H b=some o)(n:∀(j:Nat) (ds:List D),Z[j]?=some (.ow ds)->Y[j]?≠some (some (.ref b))):FQ Y Z H b=some o:=by
 unfold FQ;simp_all
def Zoz(h:FQ Y Z H b=some o):H b=some o:=by
 unfold FQ at h;simp_all
def Rep.rebase(r:Rep K mg F0 H0 F H Y Z):Rep K mg F (FQ Y Z H) F H Y Z:=by
 refine ⟨⟨Same.refl _,r.g.s,λb o f h=>⟨f,Zoz h⟩,λ_ _ _ h=>h⟩,r.len,r.im,λi c e=>?_,r.ne⟩;obtain ⟨b,d,a,_,f,h,q⟩:=r.ow i c e;exact ⟨b,d,a,vf e a,f,h,q⟩
def Rep.back(r:Rep K mg F0 H0 F H Y Z)(q:Rep K mg F (FQ Y Z H) F' H' Y' Z'):Rep K mg F0 H0 F' H' Y' Z':=by
 have a:∀b o,F0 b=none->H0 b=some o->F b=none/\FQ Y Z H b=some o:=λb o f h=>by
  obtain ⟨d,l⟩:=r.g.o b o f h;refine ⟨d,PN l λj k p n=>?_⟩;obtain ⟨c,m,t,x,_⟩:=r.ow j k p
  lia
 refine ⟨⟨r.g.f.trans q.g.f,q.g.s,λb o f h=>?_,λb o u e=>r.g.z b o u (q.g.z b o u e)⟩,q.len,q.im,λi k e=>?_,q.ne⟩
 .obtain ⟨d,l⟩:=a b o f h;exact q.g.o b o d l
 .obtain ⟨b,m,n,v,f,h,w⟩:=q.ow i k e;refine ⟨b,m,n,?_,f,h,w⟩;cases z:H0 b with
  | none=>rfl
  | some o=>
   cases z0:F0 b with
   | none=>simp_all
   | some u=>rw [q.g.f b u (r.g.f b u z0)] at f;cases f
def Reg.off(R:Reg K mg F H a rows dss)(o:Off Y Z a rows)(g:Gr F (FQ Y Z H) F' H'):Reg K mg F' H' a rows dss:=by
 obtain ⟨n,u⟩:=g.o a _ R.fa (PN R.ha λj c b d=>(o j c a b d).1 rfl);refine ⟨u,n,R.nd,R.na,R.len,λk r c b d=>?_⟩;obtain ⟨h,i,p,m⟩:=R.row k r c b d;obtain ⟨t,l⟩:=g.o r _ h (PN p λj s q e=>(o j s r q e).2 (Gg b));exact ⟨t,i,l,m.same g.f⟩
def Off.next(R:Reg K mg F H a rows dss)(o:Off Y Z a rows)(q:Rep K mg F (FQ Y Z H) F' H' Y' Z'):Off Y' Z' a rows:=by
 intro j g b e h;obtain ⟨c,t,i,f,_⟩:=q.ow j g e;rw [h] at i;cases i;refine ⟨λz=>?_,λz=>?_⟩
 .rw [z,PN R.ha λj g e h=>(o j g a e h).1 rfl] at f;cases f
 .obtain ⟨k,m,u⟩:=Qm z;have e:rows[k]?=some b:=by simp_all
  obtain ⟨d,p⟩ : ∃d,dss[k]?=some d:=⟨_,BL (by rw [<-R.len];exact m)⟩;obtain ⟨_,v,s,_⟩:=R.row k b d e p;rw [PN s λj l r n=>(o j l b r n).2 z] at f;cases f
end
structure At(K:W1)(mg:MgT)(i:Nat)(H0 F H:Hp)(Y:St)(Z:Ev)(a:Addr)(rows:List Addr)(dss:List (List D)):Prop where
 R:Reg K mg F H a rows dss
 o:Off Y Z a rows
 s:Y[i]?=some (some (.ref a))
 h0:H0 a=none/\∀r∈rows,H0 r=none
def agr(J:List Nat)(Y Y':St):Prop:=∀j∈J,Y'[j]?=Y[j]?
def agr.refl:agr J Y Y:=λ_ _=>rfl
def agr.trans(h:agr J Y Y1)(h2:agr J Y1 Y2):agr J Y Y2:=λj m=>(h2 j m).trans (h j m)
def agr.set{x:Option V}(h:j∉J):agr J Y (Y.set j x):=λk m=>Eu λe=>h (e▸m)
def EndY(K:W1)(mg:MgT)(i:Nat)(J:List Nat)(F0 H0 F:Hp)(Y:St)(a:Addr)(rows:List Addr)(dss:List (List D))(D:Ends):Fl->Prop
 | .nx Z=>∀c b e,Same F c->Rep K mg F0 H0 c b e Z->At K mg i H0 c b e Z a rows dss->agr J Y e->D.nx e b
 | .ct Z=>∀c b e,Same F c->Rep K mg F0 H0 c b e Z->At K mg i H0 c b e Z a rows dss->agr J Y e->D.ct e b
 | .bk Z=>∀c b e,Same F c->Rep K mg F0 H0 c b e Z->At K mg i H0 c b e Z a rows dss->agr J Y e->D.bk e b
 | .rt d=>∀c b x,Gr F0 H0 c b->TwoR K mg F0 c x d->D.rt x b
def AnsY(K:W1)(mg:MgT)(i:Nat)(J:List Nat)(F0 H0 F:Hp)(Y:St)(a:Addr)(rows:List Addr)(r:Res (Fl×List (List D)))(w:Ends->Prop):Prop :=
 match r with
 | .ok (f,dss)=>∀D,EndY K mg i J F0 H0 F Y a rows dss D f->w D
 | _=>True
def SY(K:W1)(mg:MgT)(i:Nat)(J:List Nat)(t:TS)(m:MY):Prop:=∀e d F H Y Z a b c,Rep K mg e d F H Y Z->At K mg i d F H Y Z a b c->AnsY K mg i J e d F Y a b (m Z c) λD=>t D Y H
def agD(J:List Nat)(Y:St)(D:Ends):Ends:=⟨λa b=>agr J Y a->D.nx a b,λ_ _=>True,λa b=>agr J Y a->D.bk a b,λa b=>agr J Y a->D.ct a b⟩
def Kpt(J:List Nat)(t:TS):Prop:=∀D Y H,t (agD J Y D) Y H->t D Y H
def Zpq:Kpt J (Bx te):=λD Y H h=>by
 have e:(λ(_:V) a=>(agD J Y D).nx Y a)=λ_ a=>D.nx Y a:=by funext _ a;exact propext ⟨λh=>h agr.refl,λh _=>h⟩
 unfold Bx at h ⊢;rw [e] at h;exact h
def ug(hj:j∉J):Kpt J (tAsg te (Bt j)):=λD Y H h=>by
 have e:(λ(x:V) a=>Bt j x Y a (agD J Y D).nx)=λx a=>Bt j x Y a D.nx:=by funext x a;exact propext ⟨λh=>h (agr.set hj),λh _=>h⟩
 unfold tAsg at h ⊢;rw [e] at h;exact h
def mW:Kpt J (tAsg te (gSub to ti ts)):=λD Y H h=>by
 have e:(λa=>(agD J Y D).nx Y a)=λa=>D.nx Y a:=by funext a;exact propext ⟨λh=>h agr.refl,λh _=>h⟩
 unfold tAsg gSub at h ⊢;rw [e] at h;exact h
def uA:Kpt J Mp:=λD Y H h=>h agr.refl
def lF:Kpt J JR:=λD Y H h=>h agr.refl
section
variable {J:List Nat}
def N5(h:SS K mg E t m)(kp:Kpt J t)(hi:i∈J):SY K mg i J t (lft m):=by
 intro z v F H Y Z a n u y A;have q:=h F (FQ Y Z H) F H Y Z y.rebase;unfold lft;cases em:m Z with
 | bad=>ext
 | ok f=>
  rw [em] at q;have b:∀{k l:Hp} {j:St} {r:Ev},Rep K mg F (FQ Y Z H) k l j r->agr J Y j->Rep K mg z v k l j r/\At K mg i v k l j r a n u:=λ{k l j r} e c=>⟨y.back e,A.R.off A.o e.g,A.o.next A.R e,(c i hi).trans A.s,A.h0⟩;cases f with
  | nx Z2=>exact λD w=>kp D Y H (q _ λk l j p e c=>w k l j p (b e c).1 (b e c).2 c)
  | ct Z2=>exact λD w=>kp D Y H (q _ λk l j p e c=>w k l j p (b e c).1 (b e c).2 c)
  | bk Z2=>exact λD w=>kp D Y H (q _ λk l j p e c=>w k l j p (b e c).1 (b e c).2 c)
  | rt d=>exact λD w=>kp D Y H (q _ λk l x g B=>trivial)
def EndY.mono{F F1:Hp}{Y1:St}{a:Addr}{rows:List Addr}{dss:List (List D)}{D:Ends}{f:Fl}(s:Same F F1)(g:agr J Y Y1)(h:EndY K mg i J F0 H0 F Y a rows dss D f):EndY K mg i J F0 H0 F1 Y1 a rows dss D f:=by
 cases f with
 | nx Z=>exact λc j e b r A k=>h c j e (s.trans b) r A (g.trans k)
 | ct Z=>exact λc j e b r A k=>h c j e (s.trans b) r A (g.trans k)
 | bk Z=>exact λc j e b r A k=>h c j e (s.trans b) r A (g.trans k)
 | rt d=>exact h
def lE{n:MY}(h1:SY K mg i J t m)(h2:SY K mg i J u n):SY K mg i J (tSeq t u) (sqY m n):=by
 intro r j F H Y Z a b g z A;have h:=h1 r j F H Y Z a b g z A;unfold sqY;cases e:m Z g with
 | bad=>ext
 | ok p=>
  obtain ⟨f,x⟩:=p;rw [e] at h;cases f with
  | nx Z'=>
   show AnsY K mg i J r j F Y a b (n Z' x) _;have c:=λl k w o v=>h2 r j l k w Z' a b x o v;cases e2:n Z' x with
   | bad=>ext
   | ok p2=>
    obtain ⟨C,B⟩:=p2;rw [e2] at c;exact λD q=>h { D with nx:=u D } λl k w s o v y=>c l k w o v D (q.mono s y)
  | ct Z'=>exact λD q=>h { D with nx:=u D } q
  | bk Z'=>exact λD q=>h { D with nx:=u D } q
  | rt d=>exact λD q=>h { D with nx:=u D } q
def Zyn{n:MY}(hc:STt K mg E sc nc)(h1:SY K mg i J t m)(h2:SY K mg i J u n):SY K mg i J (tIfS sc t u) (ifY nc m n):=by
 intro r l F H Y Z a d c y A;have h:=hc r l F H Y Z y;unfold ifY;cases e:nc Z with
 | bad=>ext
 | ok b=>
  rw [e] at h;show AnsY K mg i J r l F Y a d (if b=true then m Z c else n Z c) _
  have w:∀{t:TS} {m:MY},SY K mg i J t m->AnsY K mg i J r l F Y a d (m Z c) λD=>∀k j,Gr F H k j->t D Y j:=by
   intro t m B;have z:=λk j (g:Gr F H k j)=>B r l k j Y Z a d c (y.gr g) ⟨A.R.gr g,A.o,A.s,A.h0⟩;cases e2:m Z c with
   | bad=>ext
   | ok p=>
    obtain ⟨f,C⟩:=p;rw [e2] at z;exact λD q k j g=>z k j g D (q.mono g.f agr.refl)
  cases b with
  | true=>
   rw [iP rfl];have z:=w h1;cases e2:m Z c with
   | bad=>ext
   | ok p=>
    rw [e2] at z;exact λD q=>h _ λk j x g v=>by cases (show x=true from v);rw [iP rfl];exact z D q k j g
  | false=>
   rw [iN GC];have z:=w h2;cases e2:n Z c with
   | bad=>ext
   | ok p=>
    rw [e2] at z;exact λD q=>h _ λk j x g v=>by cases (show x=false from v);rw [iN GC];exact z D q k j g
def KpG(J:List Nat)(t:TG):Prop:=∀x b Y H P d,agr J b Y->(∀a c,agr J b a->P a c->d a c)->t x Y H P->t x Y H d
def KpGs(J:List Nat)(t:TGs):Prop:=∀x b Y H P d,agr J b Y->(∀a c,agr J b a->P a c->d a c)->t x Y H P->t x Y H d
def KQ(hj:j∉J):KpG J (Bt j):=λ_ _ _ _ _ _ a w h=>w _ _ (a.trans (agr.set hj)) h
def WY:KpGs J gNil:=λ_ _ _ _ _ _ a w h=>⟨h.1,w _ _ a h.2⟩
def MF(h1:KpG J t)(h2:KpGs J u):KpGs J (Gx t u):=λx b Y H P g a w h=>by
 obtain ⟨v,r,e,z⟩:=h;exact ⟨v,r,e,h1 v b Y H _ _ a (λc f d q=>h2 r b c f P g d w q) z⟩
def WW(h1:KpGs J t):KpG J (gSeq K n t):=λx c Y H P d a w h=>by
 rcases h with ⟨b,xs,e1,e2,e3,z⟩ | ⟨b,xs,e1,e2,e3,z⟩
 .exact .inl ⟨b,xs,e1,e2,e3,h1 xs c Y H P d a w z⟩
 .exact .inr ⟨b,xs,e1,e2,e3,h1 xs c Y H P d a w z⟩
def ql(hi:SI K mg E wi mi)(hg:SG K mg n t g)(kg:KpG J t)(hJ:i∈J)(hb:SY K mg i J u m):SY K mg i J (tFor wi t u) (forY mi g m):=by
 intro F0 G F H Y Z a c M rr A;have h:=hi F0 G F H Y Z rr;unfold forY;cases e:mi Z with
 | bad=>ext
 | ok ds=>
  rw [e] at h;show AnsY K mg i J F0 G F Y a c (Dd g m ds Z M) _;cases e1:Dd g m ds Z M with
  | bad=>ext
  | ok p=>
   obtain ⟨f,d2⟩:=p;have fnx:∀{l:List D} {v:Ev} {b:List (List D)},Dd g m l v b=.ok (f,d2)->∃B,f=.nx B:=by
    intro l
    induction l with
    | nil=>intro v b e;cases e;lia
    | cons x l ih=>
     intro v b e;unfold Dd at e;obtain ⟨Z1,_,e⟩:=Qy e;obtain ⟨⟨f3,d3⟩,_,e⟩:=Qy e;cases f3 with
     | nx _=>exact ih e
     | ct _=>exact ih e
     | bk _=>cases e;lia
     | rt _=>cases e
   obtain ⟨L,rfl⟩:=fnx e1;intro D q;refine h _ λF1 H1 jt g1 jo=>?_;refine ⟨λk n r Q=>n=ds.length - k/\k<=ds.length/\agr J Y r/\∃v O b,Same F1 O/\Rep K mg F0 G O Q r v/\At K mg i G O Q r v a c b/\Dd g m (ds.drop k) v b=.ok (.nx L,d2),⟨ds.length,by simp,Bw _,agr.refl,Z,F1,M,Same.refl _,rr.gr g1,⟨A.R.gr g1,A.o,A.s,A.h0⟩,by ext⟩,?_⟩;rintro k n r Q ⟨rfl,hk,ag,v,O,b,s1,r',A',j⟩;by_cases hlt:k<ds.length
   .refine .inr ?_;have hd:ds[k]?=some ds[k]:=BL hlt;obtain ⟨go,yl⟩:=(jo O Q s1 r'.ss k).1 _ hd;rw [J9 hlt] at j;refine ⟨go,λY2 w=>agr J Y Y2/\∃B C ds2,Same F1 C/\Rep K mg F0 G C w Y2 B/\At K mg i G C w Y2 B a c ds2/\Dd g m (ds.drop (k+1)) B ds2=.ok (.nx L,d2),λY2 w z=>⟨ds.length - (k+1),by omega,rfl,hlt,z⟩,λx w y=>?_⟩;obtain ⟨C,g2,rx⟩:=yl x w y;have r2:=r'.gr g2;have S:At K mg i G C w r v a c b:=⟨A'.R.gr g2,A'.o,A'.s,A'.h0⟩;unfold Dd at j;obtain ⟨Z1,eg,j⟩:=Qy j;have hG:=hg C (FQ r v w) C w r v x ds[k] r2.rebase rx;rw [eg] at hG;have hG2:t x r w _:=hG (λY3 V=>∃I,Same C I/\Rep K mg C (FQ r v w) I V Y3 Z1) λI V Y3 s3 T _=>⟨I,s3,T⟩;refine kg x r r w _ _ agr.refl (λY3 V a3 zq=>?_) hG2;obtain ⟨I,s3,T⟩:=zq;have N:=r2.back T;have P:At K mg i G I V Y3 Z1 a c b:=⟨S.R.off S.o T.g,S.o.next S.R T,(a3 i hJ).trans S.s,S.h0⟩;have hB:=hb F0 G I V Y3 Z1 a c b N P;have sF:Same F1 I:=(s1.trans g2.f).trans s3;have a4:=ag.trans a3;cases em:m Z1 b with
    | bad=>rw [em] at j;cases j
    | ok p3=>
     obtain ⟨f3,d3⟩:=p3;rw [em] at j hB;cases f3 with
     | nx B=>exact hB _ λW H4 Y4 U N P X=>⟨a4.trans X,B,W,d3,sF.trans U,N,P,j⟩
     | ct B=>exact hB _ λW H4 Y4 U N P X=>⟨a4.trans X,B,W,d3,sF.trans U,N,P,j⟩
     | bk B=>
      have e3:Res.ok (Fl.nx B,d3)=.ok (.nx L,d2):=j;cases e3;exact hB _ λW H4 Y4 U N P X=>q W H4 Y4 (g1.f.trans (sF.trans U)) N P (a4.trans X)
     | rt d=>cases j
   .have hk2:k=ds.length:=by omega
    subst hk2;rw [O1 (Ae _)] at j;cases j;exact .inl ⟨(jo O Q s1 r'.ss _).2 (Ae _),q O Q r (g1.f.trans s1) r' A' ag⟩
end
section
variable {J:List Nat} {F:Hp} {a:Addr} {rows:List Addr} {dss:List (List D)}
def QT:∀{l:List Addr} {j k:Nat},l.Nodup->(hj:j<l.length)->(hk:k<l.length)->l[j]=l[k]->j=k
 | _::_,0,0,_,_,_,_=>rfl
 | x::l,0,k+1,n,_,hk,e=>aB (show x∈l from by
   simp_all) (Hy.mp n).1
 | x::l,j+1,0,n,hj,_,e=>aB (show x∈l from by
   grind) (Hy.mp n).1
 | x::l,j+1,k+1,n,hj,hk,e=>Ew (·+1) (QT (Hy.mp n).2 (by grind) (by grind) e)
def Rep.pokeY(r:Rep K mg F0 H0 F H Y Z)(h0:H0 q=none)(f:F q=none)(n:∀(j:Nat) (ds:List D),Z[j]?=some (.ow ds)->Y[j]?≠some (some (.ref q))):Rep K mg F0 H0 F (upd H q o) Y Z:=by
 refine ⟨⟨r.g.f,λc u e=>?_,λc u h a=>?_,r.g.z⟩,r.len,r.im,λk ds e=>?_,r.ne⟩
 .rw [Af (BZ e f)];exact r.g.s c u e
 .obtain ⟨m,v⟩:=r.g.o c u h a;exact ⟨m,by rw [Af (BZ a h0)];exact v⟩
 .obtain ⟨b,t,a,l,d,i,p⟩:=r.ow k ds e
  exact ⟨b,t,a,l,d,by
   have w:b≠q:=by
    grind
   rw [Af w];exact i,p⟩
def At.poke(A:At K mg i H0 F H Y Z a rows dss)(e:rows[k]?=some q)(r:Rps K mg F ys cs):At K mg i H0 F (upd H q (.lst ys)) Y Z a rows (dss.set k cs):=by
 have n:q∈rows:=Gg e;have f:k<rows.length:=(Dc.mp e).1;have c:a≠q:=λz=>A.R.na (z▸n);refine ⟨⟨by rw [Af c];exact A.R.ha,A.R.fa,A.R.nd,A.R.na,by rw [Ga];exact A.R.len,λm h t b u=>?_⟩,A.o,A.s,A.h0⟩;rcases Bm u with ⟨rfl,rfl,_⟩ | ⟨ne,e3⟩
 .rw [e] at b;cases b;obtain ⟨d,_⟩:=A.R.row k q _ e (BL (by ext));exact ⟨d,ys,Ar,r⟩
 .obtain ⟨d,p,l,j⟩:=A.R.row m h t b e3;refine ⟨d,p,?_,j⟩;rw [Af]
  .exact l
  .rintro rfl;have g:m<rows.length:=(Dc.mp b).1;rw [BL f] at e;rw [BL g] at b;exact ne (QT A.R.nd f g ((CW e).trans (CW b).symm))
def At.pokeR{q:Addr}{o:HO}(A:At K mg i H0 F H Y Z a rows dss)(rr:Rep K mg F0 H0 F H Y Z)(e:rows[k]?=some q):Rep K mg F0 H0 F (upd H q o) Y Z:=by
 have b:q∈rows:=Gg e;have f:k<rows.length:=(Dc.mp e).1;exact rr.pokeY (A.h0.2 q b) (A.R.row k q _ e (BL (by rw [<-A.R.len];exact f))).1 λj d c g=>(A.o j d q c g).2 b
def At.gr(A:At K mg i H0 F H Y Z a rows dss)(g:Gr F H F' H'):At K mg i H0 F' H' Y Z a rows dss:=⟨A.R.gr g,A.o,A.s,A.h0⟩
def Rps.set{x:V}(h:Rp K mg F x d):∀{xs:List V} {ds:List D} (c:Nat),Rps K mg F xs ds->Rps K mg F (xs.set c x) (ds.set c d)
 | _,_,_,.nil=>.nil
 | _,_,0,.cons _ r=>.cons h r
 | _,_,c+1,.cons q r=>.cons q (Rps.set h c r)
def At.at{n:Int}(A:At K mg i H0 F H Y Z a rows dss)(e:ixP dss.length n=some r)(e2:dss[r]?=some cs):∃q ys,rows[r]?=some q/\atI (rows.map V.ref) n=some (.ref q)/\H q=some (.lst ys)/\F q=none/\Rps K mg F ys cs:=by
 have b:r<rows.length:=by rw [A.R.len];grind
 obtain ⟨f,ys,h,c⟩:=A.R.row r _ cs (BL b) e2;refine ⟨rows[r],ys,BL b,?_,h,f,c⟩;show (ixN (rows.map V.ref).length n).bind _=_;rw [Al,A.R.len,show ixN dss.length n=some r from e];simp_all
def qg(he:SE K mg E te me)(hv:SE K mg E tv mv):SY K mg i J (Bx (tBM K "list" Fi (tOp (rIxD K) (tVar i) te) (Bc tv tNil))) (appY me mv):=by
 intro l k F H Y Z a g c u A;have M:=he l k F H Y Z u;unfold appY;cases e1:me Z with
 | bad=>ext
 | ok d=>
 rw [e1] at M;have C:=λy t U=>hv l k y t Y Z U;show AnsY K mg i J l k F Y a g ((noEx (mv Z)).bind λw=>optY Z ((intY d).bind (appR c w))) _;cases e2:mv Z with
 | bad=>ext
 | ok w=>
 rw [e2] at C;show AnsY K mg i J l k F Y a g (optY Z ((intY d).bind (appR c w))) _;cases e:(intY d).bind (appR c w) with
 | none=>ext
 | some ds'=>
 cases d with
 | int n=>
  have e:appR c w n=some ds':=e;unfold appR at e;cases e4:ixP c.length n with
  | none=>rw [e4] at e;cases e
  | some r=>
  rw [e4] at e;have e:(c[r]?).bind (λh=>if h.length<10000 then some (c.set r (h++[w])) else none)=some ds':=e
  cases e5:c[r]? with
  | none=>rw [e5] at e;cases e
  | some h=>
  rw [e5] at e;have e:(if h.length<10000 then some (c.set r (h++[w])) else none)=some ds':=e
  by_cases hl:h.length<10000
  case neg=>rw [iN hl] at e;cases e
  rw [iP hl] at e;cases e;intro D q;refine ⟨.ref a,A.s,M _ λy t x m W=>?_⟩;obtain rfl:=W.z;have p:=A.gr m;obtain ⟨b,N,G,T,I,S,L⟩:=p.at e4 e5;refine .inl ⟨a,_,n,.ref b,rfl,rfl,SqL.of p.R.ha,T,.inl ⟨rfl,N,SqL.of I⟩,C y t (u.gr m) _ λP X v j V=>?_⟩;have O:=p.gr j;obtain ⟨Q,B⟩:=j.o b _ S I;refine ⟨b,N,v,rfl,rfl,B,Aw (by rw [L.length];exact hl) (by decide),?_⟩;exact q P _ Y (m.f.trans j.f) (O.pokeR ((u.gr m).gr j) G) (O.poke G (Rps.app (.cons V .nil) (L.same j.f))) agr.refl
 | _=>cases e
def yL(hv:SE K mg E tv mv)(ha:SE K mg E ta ma)(hb:SE K mg E tb mb):SY K mg i J (tAsg tv (gSub (tOp (rIxD K) (tVar i) ta) tb PJ)) (Kh mv ma mb):=by
 intro m l F H Y Z a g d L A;have S:=hv m l F H Y Z L;unfold Kh;cases e1:mv Z with
 | bad=>ext
 | ok w=>
 rw [e1] at S;have P:=λI G M=>ha m l I G Y Z M;show AnsY K mg i J m l F Y a g ((noEx (ma Z)).bind λp=>(noEx (mb Z)).bind λj=>optY Z ((intY p).bind λu=>(intY j).bind λk=>setR d w u k)) _;cases e2:ma Z with
 | bad=>ext
 | ok p=>
 rw [e2] at P;have U:=λI G M=>hb m l I G Y Z M;show AnsY K mg i J m l F Y a g ((noEx (mb Z)).bind λj=>optY Z ((intY p).bind λu=>(intY j).bind λk=>setR d w u k)) _;cases e3:mb Z with
 | bad=>ext
 | ok j=>
 rw [e3] at U;show AnsY K mg i J m l F Y a g (optY Z ((intY p).bind λu=>(intY j).bind λk=>setR d w u k)) _;cases e:(intY p).bind λu=>(intY j).bind λk=>setR d w u k with
 | none=>ext
 | some ds'=>
 cases p with
 | int n=>
  cases j with
  | int k=>
   have e:setR d w n k=some ds':=e;unfold setR at e;cases e5:ixP d.length n with
   | none=>simp_all
   | some r=>
   rw [e5] at e;have e:(d[r]?).bind (λh=>(ixP h.length k).bind λc=>some (d.set r (h.set c w)))=some ds':=e;cases e6:d[r]? with
   | none=>simp_all
   | some h=>
   rw [e6] at e;have e:(ixP h.length k).bind (λc=>some (d.set r (h.set c w)))=some ds':=e;cases e7:ixP h.length k with
   | none=>simp_all
   | some c=>
   rw [e7] at e;have e:some (d.set r (h.set c w))=some ds':=e;cases e;intro D q;refine S _ λI G v C rv=>⟨.ref a,A.s,P I G (L.gr C) _ λX H2 x B rx=>?_⟩;obtain rfl:=rx.z;have N:=(A.gr C).gr B;obtain ⟨b,ys,Q,ea,hb,fb,T⟩:=N.at e5 e6;refine .inl ⟨a,_,n,.ref b,rfl,rfl,SqL.of N.R.ha,ea,U X H2 ((L.gr C).gr B) _ λF3 H3 y t ry=>?_⟩;obtain rfl:=ry.z;have V:=N.gr t;obtain ⟨W,O⟩:=t.o b _ fb hb;refine ⟨b,ys,k,c,rfl,rfl,O,by rw [T.length];exact e7,?_⟩;exact q F3 _ Y (C.f.trans (B.f.trans t.f)) (V.pokeR (((L.gr C).gr B).gr t) Q) (V.poke Q (Rps.set (rv.same (B.f.trans t.f)) c (T.same t.f))) agr.refl
  | _=>cases e
 | _=>cases e
end
section
variable {F:Hp} {Y':St} {Z2:Ev} {a:Addr} {rows:List Addr} {dss:List (List D)} {l:Nat} {J:List Nat}
def vA(i)(h:SE K mg E t m):SE K mg E t (pkN i m):=by
 intro v u F H Y Z l;unfold pkN getO;split
 .next k e=>
  obtain ⟨a,G,w,D,r,C,B⟩:=l.ow i k e;obtain ⟨s,g⟩:=l.lookA e w D r C B;have z:=h v u _ H Y _ s;show Ans mg E (Rp K mg) F H ((noEx (m (Z.set i (.im (.lst k))))).bind noLD) _;cases em:m (Z.set i (.im (.lst k))) with
  | ok d=>
   rw [em] at z;show Ans mg E (Rp K mg) F H (noLD d) _;unfold noLD;by_cases hd:noL d=true
   .rw [iP hd]
    exact λQ q=>z Q λy p b n A=>q _ p b (g y p n) (aJ (λc o j x=>by
     rw [Cd]
     .exact j
     .rintro rfl;rw [n.f _ _ Ar] at j;cases j
      exact x _ rfl) A hd)
   .rw [iN hd];ext
  | bad=>ext
 .ext
def ye(hv:SE K mg E tv mv)(hb:SE K mg E tb mb):SS K mg E (tAsg tv (gSub (tVar i) tb PJ)) (setO i mv mb):=by
 intro g d F H Y Z n;unfold setO getO;split
 .next b e=>
  obtain ⟨a,J,v,P,B,O,A⟩:=n.ow i b e;have u:=hv g d F H Y Z n
  show AnsS K mg E g d F ((noEx (mv Z)).bind λw=>(noEx (mb Z)).bind λm=>match (intY m).bind λk=>ixP b.length k with
   | some c=>Res.ok (Fl.nx (Z.set i (.ow (b.set c w))))
   | none=>.bad) _
  cases q1:mv Z with
  | bad=>ext
  | ok w=>
  rw [q1] at u;have t:=λr p C=>hb g d r p Y Z C
  show AnsS K mg E g d F ((noEx (mb Z)).bind λm=>match (intY m).bind λk=>ixP b.length k with
   | some c=>Res.ok (Fl.nx (Z.set i (.ow (b.set c w))))
   | none=>.bad) _
  cases q2:mb Z with
  | bad=>ext
  | ok m=>
   rw [q2] at t;cases m with
   | int k=>
    show AnsS K mg E g d F (match ixP b.length k with
     | some c=>Res.ok (Fl.nx (Z.set i (.ow (b.set c w))))
     | none=>.bad) _
    cases q3:ixP b.length k with
    | none=>ext
    | some c=>
     exact λD q=>u _ λr p x l L=>⟨.ref a,v,t r p (n.gr l) _ λG Q y h M=>by
      obtain rfl:=M.z;obtain ⟨I,s⟩:=l.o a _ B O;obtain ⟨N,j⟩:=h.o a _ I s
      exact ⟨a,J,k,c,rfl,rfl,j,by rw [A.length];exact q3,q G _ Y (l.f.trans h.f) (((n.gr l).gr h).put e v j P N (Rps.set (L.same h.f) c (A.same (l.f.trans h.f))))⟩⟩
   | _=>ext
 .ext
inductive ArgY(K:W1)(mg:MgT)(F:Hp)(Y:St)(Z:Ev)(i l:Nat):List Nat->List V->Ev->Prop
 | nil:ArgY K mg F Y Z i l [] [] []
 | im {sh:List Nat} {v:V} {vs:List V} {d:D} {q:Ev} (h:Rp K mg F v d) (r:ArgY K mg F Y Z i l sh vs q):ArgY K mg F Y Z i l (0::sh) (v::vs) (.im d::q)
 | rg {sh:List Nat} {v:V} {vs:List V} {q:Ev} (h:Y[i]?=some (some v)) (r:ArgY K mg F Y Z i l sh vs q):ArgY K mg F Y Z i l (1::sh) (v::vs) (.no::q)
 | ow {sh:List Nat} {v:V} {vs:List V} {ds:List D} {q:Ev} (h:Y[l]?=some (some v)) (e:Z[l]?=some (.ow ds)) (r:ArgY K mg F Y Z i l sh vs q):ArgY K mg F Y Z i l (2::sh) (v::vs) (.ow ds::q)
def ArgY.len{sh:List Nat}{vs:List V}{q:Ev}(h:ArgY K mg F Y Z i l sh vs q):vs.length=q.length/\sh.length=q.length:=by
 induction h with
 | nil=>ext
 | im _ _ r=>simp_all
 | rg _ _ r=>simp_all
 | ow _ _ _ r=>simp_all
def ArgY.get{sh:List Nat}{vs:List V}{q:Ev}{k:Nat}{c:Cl}(r:ArgY K mg F Y Z i l sh vs q)(e:q[k]?=some c):∃v,vs[k]?=some v/\((∃d,c=.im d/\Rp K mg F v d)\/(c=.no/\sh[k]?=some 1/\Y[i]?=some (some v))\/∃ds,c=.ow ds/\sh[k]?=some 2/\Y[l]?=some (some v)/\Z[l]?=some (.ow ds)):=by
 induction r generalizing k with
 | nil=>simp at e
 | im h _ r=>
  cases k with
  | zero=>cases e;exact ⟨_,rfl,.inl ⟨_,rfl,h⟩⟩
  | succ k=>exact r (k:=k) e
 | rg h _ r=>
  cases k with
  | zero=>cases e;exact ⟨_,rfl,.inr (.inl ⟨rfl,rfl,h⟩)⟩
  | succ k=>exact r (k:=k) e
 | ow h z _ r=>
  cases k with
  | zero=>cases e;exact ⟨_,rfl,.inr (.inr ⟨_,rfl,rfl,h,z⟩)⟩
  | succ k=>exact r (k:=k) e
def ArgY.rgAt{sh:List Nat}{vs:List V}(r:ArgY K mg F Y Z i l sh vs q)(e:sh[k]?=some 1):∃v,vs[k]?=some v/\Y[i]?=some (some v):=by
 induction r generalizing k with
 | nil=>cases e
 | im _ _ ih=>
  cases k with
  | zero=>cases e
  | succ k=>exact ih e
 | rg h _ ih=>
  cases k with
  | zero=>exact ⟨_,rfl,h⟩
  | succ k=>exact ih e
 | ow _ _ _ ih=>
  cases k with
  | zero=>cases e
  | succ k=>exact ih e
def ArgY.owAt{sh:List Nat}{vs:List V}(r:ArgY K mg F Y Z i l sh vs q)(e:sh[k]?=some 2):∃v ds,vs[k]?=some v/\Y[l]?=some (some v)/\Z[l]?=some (.ow ds):=by
 induction r generalizing k with
 | nil=>cases e
 | im _ _ ih=>
  cases k with
  | zero=>cases e
  | succ k=>exact ih e
 | rg _ _ ih=>
  cases k with
  | zero=>cases e
  | succ k=>exact ih e
 | ow h z _ ih=>
  cases k with
  | zero=>exact ⟨_,_,rfl,h,z⟩
  | succ k=>exact ih e
def SAy(K:W1)(mg:MgT)(i l:Nat)(sh:List Nat)(t:TA)(m:MR):Prop:=∀d e F H Y Z v,Rep K mg d e F H Y Z->Y[i]?=some (some v)->match m Z with
 | .ok q=>∀Q,(∀c b a,Gr F H c b->ArgY K mg c Y Z i l sh a q->Q a b)->t Y H Q
 | _=>True
def ZtE:SAy K mg i l [] tNil rNil:=λb c F H Y Z v a _ Q q=>q F H [] (.refl a.ss) .nil
def ZwN(he:SE K mg E te me)(h:SAy K mg i l sh t m):SAy K mg i l (0::sh) (Bc te t) (rIm me m):=by
 intro g c F H Y Z v n y;have z:=he g c F H Y Z n;have j:=λb a o=>h g c b a Y Z v o y;unfold rIm;cases e1:me Z with
 | bad=>ext
 | ok d=>
 rw [e1] at z;cases e2:m Z with
 | bad=>ext
 | ok q=>
 rw [e2] at j;exact λQ w=>z _ λb a x e p=>j b a (n.gr e) _ λs u A k r=>w s u _ (e.trans k) (.im (p.same k.f) r)
def sW(h:SAy K mg i l sh t m):SAy K mg i l (1::sh) (Bc (tVar i) t) (rRg m):=by
 intro d f F H Y Z v k a;have b:=h d f F H Y Z v k a;unfold rRg;cases e2:m Z with
 | bad=>ext
 | ok q=>
 rw [e2] at b;exact λQ w=>⟨v,a,b _ λj c n e g=>w j c _ e (.rg a g)⟩
def ZwA(h:SAy K mg i l sh t m):SAy K mg i l (2::sh) (Bc (tVar l) t) (rOw l m):=by
 intro o g F H Y Z v f r;have e:=h o g F H Y Z v f r;unfold rOw;cases ec:Z[l]? with
 | none=>ext
 | some c=>
 cases c with
 | no=>ext
 | im d=>ext
 | ow ds=>
 obtain ⟨b,s,a,_⟩:=f.ow l ds ec;cases e3:m Z with
 | bad=>ext
 | ok q=>
 rw [e3] at e;exact λQ w=>⟨.ref b,a,e _ λk n u p j=>w k n _ p (.ow a ec j)⟩
def spY(K:W1)(mg:MgT)(n i:Nat)(f:FY):Sp:=λd H Q _=>d.length=n/\∃F g Z a b e,Rep K mg F g F H (d.map some) Z/\At K mg i g F H (d.map some) Z a b e /\
 ∃h c,f Z e=.ok (h,c)/\∀k j,Rep K mg F g k j (d.map some) h->At K mg i g k j (d.map some) h a b c->Q .non j
def Li{vs:List V}{v:V}(e:vs[k]?=some v):(vs.map some)[k]?=some (some v):=by simp_all
def ZsG{sh:List Nat}(hs:SAy K mg i l sh t m)(hic:sh[ic]?=some 1)(hl1:∀k,sh[k]?=some 2->lc=some k)(hl2:∀k,lc=some k->sh[k]?=some 2)(hn:sh.length=n) :
  SY K mg i J (Bx (Hf (spY K mg n ic f) [] E t)) (HF f l lc m):=by
 intro F0 H0 F H Y Z a C dss rr A;have z:=hs F0 H0 F H Y Z _ rr A.s;unfold HF;cases em:m Z with
 | bad=>ext
 | ok q=>
 rw [em] at z;show AnsY K mg i J F0 H0 F Y a C ((noEx (f q dss)).bind (outY Z l lc)) _;cases ef:f q dss with
 | bad=>ext
 | ok p=>
 obtain ⟨q',d'⟩:=p;show AnsY K mg i J F0 H0 F Y a C (outY Z l lc (q',d')) _;have key:∀(Z':Ev) (D:Ends),EndY K mg i J F0 H0 F Y a C d' D (.nx Z')->((lc=none/\Z'=Z)\/∃k c,lc=some k/\q'[k]?=some c/\Z'=Z.set l c)->Bx (Hf (spY K mg n ic f) [] E t) D Y H:=by
  intro Z' D w hρ;refine z _ λF1 H1 vs g1 ay=>?_;have I:=rr.gr g1;have A1:=A.gr g1;have hand:∃P:Addr->Prop,∀b,P b↔b=a\/b∈C\/((∃k,lc=some k)/\Y[l]?=some (some (.ref b))):=⟨_,λ_=>Iff.rfl⟩;obtain ⟨P,hP⟩:=hand;obtain ⟨Hc,c1,c2⟩ : ∃Hc:Hp,(∀b,P b->Hc b=none)/\∀b,¬P b->Hc b=H1 b:=by
   classical
   exact ⟨λb=>if P b then none else H1 b,λb h=>iP h,λb h=>iN h⟩
  have c3:∀b o,Hc b=some o->H1 b=some o/\¬P b:=λb o h=>by
   by_cases hb:P b
   .rw [c1 b hb] at h;cases h
   .rw [c2 b hb] at h;exact ⟨h,hb⟩
  have O:∀(k:Nat) (y:List Dl.D),q[k]?=some (.ow y)->∃b M,vs[k]?=some (.ref b)/\Y[l]?=some (some (.ref b))/\Z[l]?=some (.ow y)/\lc=some k/\F1 b=none/\H1 b=some (.lst M)/\Rps K mg F1 M y:=λk y e=>by
   obtain ⟨v,Q,hc⟩:=ay.get e;rcases hc with ⟨d,z,_⟩ | ⟨z,_⟩ | ⟨ds',z,s2,N,L⟩
   .cases z
   .cases z
   .cases z;obtain ⟨b,M,B,_,e5,e3,X⟩:=I.ow l y L;rw [N] at B;cases B;exact ⟨b,M,Q,N,L,hl1 k s2,e5,e3,X⟩
  obtain ⟨va,eva,esa⟩:=ay.rgAt hic;rw [A.s] at esa;cases esa;rw [CN];refine ⟨by rw [ay.len.1,<-ay.len.2];exact hn,F1,Hc,q,a,C,dss,⟨⟨Same.refl _,I.ss,λb o f h=>⟨f,(c3 b o h).1⟩,λ_ _ _ h=>h⟩,by rw [Al];exact ay.len.1,λk d e=>?_,λk y e=>?_,λj k y S b G B _ _=>?_⟩,⟨A1.R,λk y b G B=>?_,Li eva,c1 a ((hP a).mpr (.inl rfl)),λr X=>c1 r ((hP r).mpr (.inr (.inl X)))⟩,q',d',ef,λF' H' W A'=>?_⟩
  .obtain ⟨v,Q,hc⟩:=ay.get e;rcases hc with ⟨d',z,rd⟩ | ⟨z,_⟩ | ⟨ds',z,_⟩
   .cases z;exact ⟨v,Li Q,rd⟩
   .cases z
   .cases z
  .obtain ⟨b,M,Q,N,L,T,e5,e3,X⟩:=O k y e;exact ⟨b,M,Li Q,c1 b ((hP b).mpr (.inr (.inr ⟨⟨k,T⟩,N⟩))),e5,e3,X⟩
  .obtain ⟨_,_,_,_,_,l1,_⟩:=O j y G;obtain ⟨_,_,_,_,_,l2,_⟩:=O k S B;rw [l1] at l2;exact CW l2
  .obtain ⟨b',M,Q,N,L,T,e5,e3,X⟩:=O k y G;rw [Li Q] at B;cases B;exact A.o l y b L N
  have V:∀k,lc=some k->∃b y,vs[k]?=some (.ref b)/\Y[l]?=some (some (.ref b))/\Z[l]?=some (.ow y):=λk e=>by
   obtain ⟨v,y,Q,N,L⟩:=ay.owAt (hl2 k e);obtain ⟨b,M,B,_⟩:=I.ow l y L;rw [N] at B;cases B;exact ⟨b,y,Q,N,L⟩
  have notP:∀(j:Nat) (y:List Dl.D) (b:Addr),Z[j]?=some (.ow y)->Y[j]?=some (some (.ref b))->(lc=none\/j≠l)->¬P b:=λj y b G B hj hb=>by
   rcases (hP b).mp hb with z | z | ⟨⟨k,z1⟩,z2⟩
   .exact (A.o j y b G B).1 z
   .exact (A.o j y b G B).2 z
   .obtain ⟨b2,ds2,_,N,L⟩:=V k z1;rcases hj with hj | hj
    .rw [z1] at hj;cases hj
    .exact hj (rr.ne j l y ds2 b G L B z2)
  have gC:Gr F0 H0 F' H':=by
   refine ⟨I.g.f.trans W.g.f,W.g.s,λb o f h=>?_,λb o u e=>I.g.z b o u (W.g.z b o u e)⟩;obtain ⟨f1,h1⟩:=I.g.o b o f h;refine W.g.o b o f1 ?_;rw [c2 b λhb=>?_]
   .exact h1
   .rcases (hP b).mp hb with z | z | ⟨⟨k,z1⟩,z2⟩
    .rw [z,A.h0.1] at h;cases h
    .rw [A.h0.2 b z] at h;cases h
    .obtain ⟨b2,ds2,_,N,L⟩:=V k z1;obtain ⟨b3,M,B,e4,_⟩:=rr.ow l ds2 L;rw [z2] at B;cases B;rw [e4] at h;cases h
  have imC:∀(j:Nat) (d:Dl.D),Z[j]?=some (.im d)->∃x,Y[j]?=some (some x)/\Rp K mg F' x d:=λj d e=>by
   obtain ⟨x,G,B⟩:=I.im j d e;exact ⟨x,G,B.same W.g.f⟩
  have owC:∀(j:Nat) (y:List Dl.D),Z[j]?=some (.ow y)->(lc=none\/j≠l)->∃b M,Y[j]?=some (some (.ref b))/\H0 b=none/\F' b=none/\H' b=some (.lst M)/\Rps K mg F' M y:=λj y e hj=>by
   obtain ⟨b,M,B,e4,e5,e3,X⟩:=I.ow j y e;obtain ⟨q1,q2⟩:=W.g.o b _ e5 (by rw [c2 b (notP j y b e B hj)];exact e3);exact ⟨b,M,B,e4,q1,q2,X.same W.g.f⟩
  rcases hρ with ⟨hl,rfl⟩ | ⟨k,c,hl,hc,rfl⟩
  .exact w F' H' Y (g1.f.trans W.g.f) ⟨gC,rr.len,imC,λj y e=>owC j y e (.inl hl),rr.ne⟩ ⟨A'.R,A.o,A.s,A.h0⟩ agr.refl
  .obtain ⟨b,y,Q,N,L⟩:=V k hl;have ll:l<Z.length:=(Dc.mp L).1;have U:∀(j:Nat) (S:List Dl.D),(Z.set l c)[j]?=some (.ow S)->∃es':List Dl.D,Z[j]?=some (.ow es'):=λj S e=>by
    rcases Bm e with ⟨rfl,_,_⟩ | ⟨_,e⟩
    .exact ⟨y,L⟩
    .exact ⟨S,e⟩
   refine w F' H' Y (g1.f.trans W.g.f) ⟨gC,by rw [Ga];exact rr.len,λj d e=>?_,λj S e=>?_,λj j' S es' b' G B e3 e4=>?_⟩ ⟨A'.R,λj S b' G B=>?_,A.s,A.h0⟩ agr.refl
   .rcases Bm e with ⟨rfl,rfl,_⟩ | ⟨_,e⟩
    .obtain ⟨x,G,B⟩:=W.im k d hc;rw [Li Q] at G;cases G;exact ⟨_,N,B⟩
    .exact imC j d e
   .rcases Bm e with ⟨rfl,rfl,_⟩ | ⟨hj,e⟩
    .obtain ⟨b2,M,G,e4,e5,e3,X⟩:=W.ow k S hc;rw [Li Q] at G;cases G;obtain ⟨b3,_,e6,e7,_⟩:=rr.ow l y L;rw [N] at e6;cases e6;exact ⟨_,M,N,e7,e5,e3,X⟩
    .exact owC j S e (.inr (Ne.symm hj))
   .obtain ⟨_,o1⟩:=U j S G;obtain ⟨_,o2⟩:=U j' es' B;exact rr.ne j j' _ _ b' o1 o2 e3 e4
   .obtain ⟨_,o1⟩:=U j S G;exact A.o j _ b' o1 B
 cases T:lc with
 | none=>exact λD w=>key Z D w (.inl ⟨T,rfl⟩)
 | some k=>
  show AnsY K mg i J F0 H0 F Y a C (match q'[k]? with
   | some c=>Res.ok (Fl.nx (Z.set l c),d')
   | none=>.bad) _
  cases ek:q'[k]? with
  | none=>ext
  | some c=>exact λD w=>key (Z.set l c) D w (.inr ⟨k,c,T,ek,rfl⟩)
def Ztv(r:Rep K mg F0 H0 F H Y Z):Rep K mg F0 H0 F H (Y++List.replicate n none) (Z++List.replicate n .no):=by
 have b:∀(j:Nat) (c:Cl),(Z++List.replicate n Cl.no)[j]?=some c->c=.no\/(Z[j]?=some c/\(Y++List.replicate n none)[j]?=Y[j]?):=λj c e=>by
  by_cases hj:j<Z.length
  .rw [Fv hj] at e;exact .inr ⟨e,Fv (by rw [r.len];exact hj)⟩
  .rw [GJ (by lia),NK] at e;split at e
   .exact .inl (CW e).symm
   .cases e
 refine ⟨r.g,by rw [Di,Di,r.len,PP,PP],λj d e=>?_,λj f e=>?_,λj k f m a l o h i=>?_⟩
 .rcases b j _ e with z | ⟨z,z2⟩
  .cases z
  .rw [z2];exact r.im j d z
 .rcases b j _ e with z | ⟨z,z2⟩
  .cases z
  .rw [z2];exact r.ow j f z
 .rcases b j _ l with z | ⟨z,z2⟩
  .cases z
  .rcases b k _ o with y | ⟨y,y2⟩
   .cases y
   .rw [z2] at h;rw [y2] at i;exact r.ne j k f m a z y h i
theorem Sh:∀{k:Nat} {Z Z2:Ev} {j:Nat} {c:Cl},(mixO J k Z Z2)[j]?=some c->c=.no\/(Z[j]?=some c/\∃d,c=.im d)\/(Z2[j]?=some c/\k+j∈J)
 | k,.ow _::r,c'::r',0,c,e=>by
  have e:(if J.contains k=true then c' else .no)=c:=CW e
  split at e
  .next h=>exact .inr (.inr ⟨Ew some e,List.contains_iff_mem.mp h⟩)
  .exact .inl e.symm
 | k,.no::r,c'::r',0,c,e=>.inl (CW e).symm
 | k,.im d::r,c'::r',0,c,e=>.inr (.inl ⟨e,d,(CW e).symm⟩)
 | k,.ow _::r,c'::r',j+1,c,e=>by
  have z:=Sh (k:=k+1) (Z:=r) (Z2:=r') (j:=j) e;rwa [Oq] at z
 | k,.no::r,c'::r',j+1,c,e=>by
  have z:=Sh (k:=k+1) (Z:=r) (Z2:=r') (j:=j) e;rwa [Oq] at z
 | k,.im _::r,c'::r',j+1,c,e=>by
  have z:=Sh (k:=k+1) (Z:=r) (Z2:=r') (j:=j) e;rwa [Oq] at z
 | _,[],_,_,_,e=>by ext
 | _,_::_,[],_,_,e=>by unfold mixO at e;simp at e
def RK:∀{k:Nat} {Z Z2:Ev},Z.length<=Z2.length->(mixO J k Z Z2).length=Z.length
 | _,[],_,_=>by rfl
 | _,_::_,[],h=>by simp at h
 | k,.ow _::r,_::r',h=>Ew (·+1) (RK (k:=k+1) (O7 h))
 | k,.no::r,_::r',h=>Ew (·+1) (RK (k:=k+1) (O7 h))
 | k,.im _::r,_::r',h=>Ew (·+1) (RK (k:=k+1) (O7 h))
end
structure CalY(P:Program)(w:World)(K:W1)(mg:MgT)(base:Heap)(k:Nat)(x:Str)(ps:List Str)(i:Nat)(m:FY):Prop where
 ex:∃(f:Addr) (fd:FuncData),FnO P w K mg base k f fd ps (spY K mg ps.length i m)/\Binds K fd ps []/\W.keepIn K (.ref f)=true/\mg x=some (.ref f)
structure DYs(X:Cx)(i:Nat)(J:List Nat)(sts:List Stmt)(t:TS)(m:MY):Prop where
 p:PSs X sts t
 s:SY X.K X.m i J t m
structure DY(X:Cx)(i:Nat)(J:List Nat)(st:Stmt)(t:TS)(m:MY):Prop where
 p:PS X st t
 s:SY X.K X.m i J t m
section
def _root_.L2.Def.calY{st:Stmt}{J:List Nat}{mb:MY}(Df:Def K mg x st ps)(S:CT N ps (BJ st))(hps:ps.length<=N.length)(h:∀(f:Addr) (cdv:Value) (A:Around) (outer:List Env) (s:Shared) (H:Hp) (E:XK),Room k (A.deeper (envOfC x (BJ st) s.heap.objs.size f cdv))->∃t,DYs (cxOf (CXR P w) P w K mg base N x (BJ st) f cdv A outer s H E) i J (De st) t mb) :
  CalY P w K mg base (k+1) x ps i (fnY N.length J mb):=by
 obtain ⟨f,fd,F,b,hm⟩:=Df.ex;refine ⟨⟨f,fd,?_,b,F.kp,hm⟩⟩;obtain ⟨oc,od,kV,doc,pm,an,cdv,ct,osl,rfl,lk,hcd⟩:=F.ex;refine Lx lk hcd S (λu H Q E q=>q.1) λA outer s H u Q E hr Y=>?_;obtain ⟨t,hd⟩:=h f cdv A outer s H E hr;refine ⟨t,hd.p,?_⟩;obtain ⟨hlen,M,H0,Z,a,G,L,W,m,Z',U,ef,hq⟩:=Y;have lr:u.length=Z.length:=by have:=W.len;rwa [Al] at this
 have T:start N u=u.map some++List.replicate (N.length - Z.length) none:=by unfold start;rw [lr]
 have X:∀(j:Nat),j<Z.length->(start N u)[j]?=(u.map some)[j]?:=λj I=>by rw [T];exact Fv (by rw [Al,lr];exact I)
 have r0:Rep K mg M H0 M H (start N u) (Z++List.replicate (N.length - Z.length) .no):=by rw [T];exact Ztv W
 have ia:i<Z.length:=by
  have:=(Dc.mp m.s).1;rwa [Al,lr] at this
 have A0:At K mg i H0 M H (start N u) (Z++List.replicate (N.length - Z.length) .no) a G L:=by
  refine ⟨m.R,λj n b r l=>?_,by rw [X i ia];exact m.s,m.h0⟩;by_cases I:j<Z.length
  .rw [Fv I] at r;rw [X j I] at l;exact m.o j n b r l
  .rw [GJ (by lia),NK] at r;split at r
   .cases r
   .cases r
 have z:=hd.s M H0 M H (start N u) _ a G L r0 A0;unfold fnY at ef;obtain ⟨⟨fl,d2⟩,r,l⟩:=Qy ef;rw [r] at z;cases fl with
 | nx Z2=>
  have l:(if Z.length<=Z2.length then Res.ok (mixO J 0 Z Z2,d2) else .bad)=.ok (Z',U):=l
  by_cases l2:Z.length<=Z2.length
  case neg=>rw [iN l2] at l;cases l
  rw [iP l2] at l;cases l;refine z _ λF' H' Y' s' V A' ag=>?_;have ml:(mixO J 0 Z Z2).length=Z.length:=RK l2;have O:∀(j:Nat) (c:Cl),(mixO J 0 Z Z2)[j]?=some c->c=.no\/(Z[j]?=some c/\∃d,c=.im d)\/(Z2[j]?=some c/\Y'[j]?=(u.map some)[j]?):=λj c e=>by
   rcases Sh e with q | q | ⟨C,v⟩
   .exact .inl q
   .exact .inr (.inl q)
   .have I:j<Z.length:=by rw [<-ml];exact (Dc.mp e).1
    rw [Hn] at v;exact .inr (.inr ⟨C,by rw [ag j v,X j I]⟩)
  have B:∀(j:Nat) (n:List D),(mixO J 0 Z Z2)[j]?=some (.ow n)->Z2[j]?=some (.ow n)/\Y'[j]?=(u.map some)[j]?:=λj n e=>by
   rcases O j _ e with q | ⟨_,d,q⟩ | q
   .cases q
   .cases q
   .exact q
  refine hq F' H' ⟨V.g,by rw [ml];exact W.len,λj d e=>?_,λj n e=>?_,λj k n T b r l e3 e4=>?_⟩ ⟨A'.R,λj n b r l=>?_,m.s,m.h0⟩
  .rcases O j _ e with q | ⟨q,_⟩ | ⟨C,v⟩
   .cases q
   .obtain ⟨y,h1,h2⟩:=W.im j d q;exact ⟨y,h1,h2.same s'⟩
   .rw [<-v];exact V.im j d C
  .obtain ⟨C,v⟩:=B j n e;rw [<-v];exact V.ow j n C
  .obtain ⟨C,v⟩:=B j n r;obtain ⟨q3,q4⟩:=B k T l;rw [<-v] at e3;rw [<-q4] at e4;exact V.ne j k n T b C q3 e3 e4
  .obtain ⟨C,v⟩:=B j n r;rw [<-v] at l;exact A'.o j n b C l
 | rt d=>cases l
 | bk Z2=>cases l
 | ct Z2=>cases l
end
section
variable {F:Hp} {Y':St} {Z2:Ev} {a:Addr} {rows:List Addr} {dss:List (List D)} {l:Nat} {J:List Nat}
def vI:SY K mg i J (tRet (tTup (Bc (tVar i) (Bc (tVar j) tNil)))) (retY j):=by
 intro F0 U F H Y Z a l C w A;unfold retY;cases ec:Z[j]? with
 | none=>ext
 | some c=>
 cases c with
 | no=>ext
 | im d=>ext
 | ow ds=>
 obtain ⟨b,X,N,e4,T,e3,O⟩:=w.ow j ds ec;intro D q;refine ⟨.ref a,A.s,.ref b,N,(show 2<=sizeLine by decide),λp W=>?_⟩;obtain ⟨v,E,M⟩ : ∃v:Hp,(∀c,(c=a\/c∈l\/c=b)->v c=H c)/\∀c,¬(c=a\/c∈l\/c=b)->v c=F c:=by
  classical
  exact ⟨λc=>if c=a\/c∈l\/c=b then H c else F c,λc h=>iP h,λc h=>iN h⟩
 have L:∀r∈l,F r=none/\∃t,H r=some (.lst t):=λr O=>by
  obtain ⟨k,m,rfl⟩:=Qm O;obtain ⟨f,t,h,_⟩:=A.R.row k _ _ (BL m) (BL (by rw [<-A.R.len];exact m));exact ⟨f,t,h⟩
 have x:∀c,(c=a\/c∈l\/c=b)->F c=none/\U c=none/\∃t,H c=some (.lst t):=λc h=>by
  rcases h with h | h | h
  .rw [h];exact ⟨A.R.fa,A.h0.1,_,A.R.ha⟩
  .obtain ⟨f,t,B⟩:=L c h;exact ⟨f,A.h0.2 c h,t,B⟩
  .rw [h];exact ⟨T,e4,X,e3⟩
 have P:Same F v:=λc o e=>by
  by_cases h:c=a\/c∈l\/c=b
  .rw [(x c h).1] at e;cases e
  .rw [M c h];exact e
 have Q:Same v H:=λc o e=>by
  by_cases h:c=a\/c∈l\/c=b
  .rw [E c h] at e;exact e
  .rw [M c h] at e;exact w.g.s c o e
 have g1:Gr F0 U v H:=⟨w.g.f.trans P,Q,λc o f h=>by
  obtain ⟨q1,q2⟩:=w.g.o c o f h;refine ⟨?_,q2⟩;rw [M c λz=>by rw [(x c z).2.1] at h;cases h];exact q1,λc o u e=>by
  by_cases h:c=a\/c∈l\/c=b
  .rw [E c h] at e;obtain ⟨_,_,t,B⟩:=x c h;rw [B] at e;cases e
  .rw [M c h] at e;exact w.g.z c o u e⟩
 have g2:=g1.trans (.new Q W (.tup [.ref a,.ref b]));have fp:v p=none:=Q.free W;have G:Same v (upd v p (.tup [.ref a,.ref b])):=Cp fp _;refine q _ _ (.ref p) g2 ⟨p,a,b,l.map .ref,X,C.map .lst,ds,rfl,rfl,Ar,λz=>(A.o j ds b ec N).1 z.symm,w.g.f.free A.R.fa,w.g.f.free T,G _ _ (by rw [E a (.inl rfl)];exact A.R.ha),G _ _ (by rw [E b (.inr (.inr rfl))];exact e3),?_,O.same (P.trans G),λk y n=>?_⟩
 .refine aN (by rw [Al,Al];exact A.R.len) λk y d n I=>?_;rw [Cj] at n I;cases m:l[k]? with
  | none=>rw [m] at n;cases n
  | some r=>
  cases hd:C[k]? with
  | none=>rw [hd] at I;cases I
  | some cs=>
  rw [m] at n;rw [hd] at I;cases n;cases I;obtain ⟨f,t,B,S⟩:=A.R.row k r cs m hd;exact .lst (SqL.of (G _ _ (by rw [E r (.inr (.inl (Gg m)))];exact B))) (S.same (P.trans G))
 .rw [Cj] at n;cases m:l[k]? with
  | none=>rw [m] at n;cases n
  | some r=>
  rw [m] at n;cases n;have V:k<C.length:=by rw [<-A.R.len];exact (Dc.mp m).1
  obtain ⟨f,t,B,S⟩:=A.R.row k r _ m (BL V);exact ⟨r,t,_,rfl,by rw [Cj,BL V];rfl,w.g.f.free f,λz=>(A.o j ds b ec N).2 (z▸Gg m),G _ _ (by rw [E r (.inr (.inl (Gg m)))];exact B),S.length⟩
def Ye{x:Option V}(r:Rep K mg F0 H0 F H Y Z)(i):Rep K mg F0 H0 F H (Y.set i x) (Z.set i .no):=by
 refine ⟨r.g,by rw [Ga,Ga];exact r.len,λj d q=>?_,λj c q=>?_,λj k c m a b e l f=>?_⟩
 .rcases Bm q with ⟨_,z,_⟩ | ⟨h,q⟩
  .cases z
  .rw [Eu h];exact r.im j d q
 .rcases Bm q with ⟨_,z,_⟩ | ⟨h,q⟩
  .cases z
  .rw [Eu h];exact r.ow j c q
 .rcases Bm b with ⟨_,z,_⟩ | ⟨h1,b⟩
  .cases z
  .rcases Bm e with ⟨_,z,_⟩ | ⟨h2,e⟩
   .cases z
   .rw [Eu h1] at l;rw [Eu h2] at f;exact r.ne j k c m a b e l f
def Yv:∀{xs:List V},(∀(k:Nat) (x:V),xs[k]?=some x->∃q,x=.ref q)->∃rws:List Addr,xs=rws.map .ref
 | [],_=>⟨[],rfl⟩
 | x::xs,h=>by
  obtain ⟨q,rfl⟩:=h 0 x rfl;obtain ⟨r,rfl⟩:=Yv (xs:=xs) λk y e=>h (k+1) y e;exact ⟨q::r,rfl⟩
theorem ju:∀{ds:List D} {dss:List (List D)},GP ds=some dss->ds=dss.map .lst/\∀cs∈dss,noLs cs=true
 | [],_,e=>by cases e;ext
 | d::r,dss,e=>by
  cases d with
  | lst cs=>
   have e:(if noLs cs=true then (GP r).bind λq=>some (cs::q) else none)=some dss:=e
   by_cases h:noLs cs=true
   .rw [iP h] at e;cases er:GP r with
    | none=>simp_all
    | some q=>
     rw [er] at e;have e:some (cs::q)=some dss:=e;cases e;obtain ⟨a,b⟩:=ju er;simp_all
   lia
  | _=>cases e
def Nv(K:W1)(mg:MgT)(E:XK)(F0 H0:Hp)(r:Res Fl)(w:Ends->Prop):Prop :=
 match r with
 | .ok (.rt d)=>∀D:Ends,(∀b a x,Gr F0 H0 b a->TwoR K mg F0 b x d->D.rt x a)->w D
 | .ok _=>False
 | .bad=>True
def bA{wi:TI}{mi:MI}{t:Fam TG}{g:MG}{tt:Fam TT}{nt:MB}{te:Fam TE}{me:ME}{own:List Str}{cap:List (Str×Nat)}{ur:TS}{kr:MY}(hi:SI K mg E wi mi)(hg:∀C s H fp pn,SG K mg own.length (t C s H fp pn) g)(ht:∀C s H fp pn,STt K mg E0 (tt C s H fp pn) nt)(he:∀C s H fp pn,SEl K mg E0 (te C s H fp pn) me)(hr:SY K mg i J ur kr) :
  ∀F0 H0 F H Y Z,Rep K mg F0 H0 F H Y Z->Nv K mg E F0 H0 (regY i (comp mi own.length (cap.map (·.2)) g nt me) kr Z) (λD=>(tSeq (tAsg (Gs wi t tt te own cap) (Bt i)) ur) D Y H):=by
 intro F0 H0 F H Y Z M;have h:=hi F0 H0 F H Y Z M;unfold regY comp;cases e:mi Z with
 | bad=>ext
 | ok ds=>
 rw [e] at h;by_cases hl:ds.length<=LIM
 case neg=>
  show Nv K mg E F0 H0 ((if ds.length<=LIM then _ else Res.bad).bind _) _
  rw [iN hl];ext
 show Nv K mg E F0 H0 ((if ds.length<=LIM then (noEx (Dl.Bg g nt me (nB own Z cap) ds)).bind _ else Res.bad).bind _) _
 rw [iP hl];cases e2:Dl.Bg g nt me (nB own Z cap) ds with
 | bad=>ext
 | ok rs0=>
 show Nv K mg E F0 H0 (match GP rs0 with
  | some dss=>if i<Z.length then (noEx (kr (Z.set i .no) dss)).bind fstY else .bad
  | none=>.bad) _
 cases e3:GP rs0 with
 | none=>ext
 | some dss=>
 show Nv K mg E F0 H0 (if i<Z.length then (noEx (kr (Z.set i .no) dss)).bind fstY else .bad) _
 by_cases li:i<Z.length
 case neg=>rw [iN li];ext
 rw [iP li];cases e4:kr (Z.set i .no) dss with
 | bad=>ext
 | ok p0=>
 obtain ⟨fl,d2⟩:=p0;cases fl with
 | nx _=>ext
 | bk _=>ext
 | ct _=>ext
 | rt d=>
 obtain ⟨er,X⟩:=ju e3;intro D q;refine h _ λF1 H1 J1 y jo=>λC s W fp pn=>ue (M.gr y) jo (hg C s W fp pn) (ht C s W fp pn) (he C s W fp pn) hl e2 _ λI H' xs m rs R nd _ p S=>?_;have lx:xs.length=dss.length:=by rw [rs.length,er,Al]
 obtain ⟨a,rfl⟩:=Yv (xs:=xs) λk x ex=>by
  have lk:k<dss.length:=by grind
  obtain ⟨q0,_,_,z,_⟩:=R k x (.lst dss[k]) ex (by simp_all);simp_all
 rw [Al] at lx;have Q:∀(k:Nat) (r:Addr) (G:List Dl.D),a[k]?=some r->dss[k]?=some G->F1 r=none/\∃n,I r=some (.lst n)/\Rps K mg I n G:=λk r G L N=>by
  obtain ⟨q0,n,cs',l,v,U,O,z5⟩:=R k (.ref r) (.lst G) (by simp_all) (by simp_all);simp_all
 have w:∀r∈a,F1 r=none/\∃n,I r=some (.lst n):=λr hr=>by
  obtain ⟨k,hk,rfl⟩:=Qm hr;obtain ⟨l,n,v,_⟩:=Q k _ _ (BL hk) (BL (by lia));simp_all
 obtain ⟨B,c1,c2⟩ : ∃B:Hp,(∀c,c∈a->B c=none)/\∀c,c∉a->B c=I c:=by
  classical
  exact ⟨λc=>if c∈a then none else I c,λc h=>iP h,λc h=>iN h⟩
 have c3:∀c o,B c=some o->I c=some o:=λc o z=>by
  grind
 have f'p:I p=none:=m.s.free S;have np:p∉a:=λz=>by
  grind
 have gN:Gr F H B (upd H' p (.lst (a.map .ref))):=by
  refine ⟨λc o z=>?_,λc o z=>?_,λc o l v=>?_,λc o u z=>y.z c o u (m.z c o u (c3 c _ z))⟩
  .rw [c2 c λhc=>aB (w c hc).1 (by rw [y.f c o z];lia)];exact m.f c o (y.f c o z)
  .have z':=m.s c o (c3 c o z);rw [Af (BZ z' S)];exact z'
  .obtain ⟨T,P⟩:=y.o c o l v;obtain ⟨b1,b2⟩:=m.o c o T P;refine ⟨?_,by rw [Af (BZ b2 S)];exact b2⟩
   grind
 have rN:=Ye (x:=some (.ref p)) (M.gr gN) i;have V:∀r∈a,H0 r=none:=λr hr=>by
  obtain ⟨l,n,v⟩:=w r hr;cases q0:H0 r with
  | none=>rfl
  | some o=>
   have gg:=M.g.trans y;cases q1:F0 r with
   | some u=>rw [gg.f r u q1] at l;cases l
   | none=>
    obtain ⟨T,P⟩:=gg.o r o q1 q0;rw [(m.o r o T P).1] at v;cases v
 have A:At K mg i H0 B (upd H' p (.lst (a.map .ref))) (Y.set i (some (.ref p))) (Z.set i .no) p a dss:=by
  refine ⟨⟨Ar,by simp_all,?_,np,lx,λk r G L N=>?_⟩,λj es b L N=>?_,QX (by rw [M.len];exact li),z9 ((M.g.trans y).trans m) S,V⟩
  .grind
  .obtain ⟨l,n,v,U⟩:=Q k r G L N;have mr:r∈a:=Gg L;have O:=m.s _ _ v;refine ⟨c1 r mr,n,by rw [Af (BZ O S)];exact O,Uh (λb o e5 e6=>?_) U (X G (Gg N))⟩
   grind
  .rcases Bm L with ⟨_,z,_⟩ | ⟨hj,L⟩
   .cases z
   .rw [Eu hj] at N;obtain ⟨b',xs',l,_,U,O,_⟩:=M.ow j es L;rw [N] at l;cases l;obtain ⟨T,P⟩:=y.o b _ U O;obtain ⟨b1,b2⟩:=m.o b _ T P
    grind
 have z:=hr F0 H0 B _ _ _ p a dss rN A;rw [e4] at z;exact z D q
def ZwX{te:Fam TE}{own:List Str}{cap:List (Str×Nat)}(hi:SI K mg E wi mi)(hg:∀C s H fp pn,SG K mg own.length (t C s H fp pn) g)(ht:∀C s H fp pn,STt K mg E0 (tt C s H fp pn) nt)(he:∀C s H fp pn,SEl K mg E0 (te C s H fp pn) me)(hr:SY K mg i J ur kr) :
  SS K mg E (tSeq (tAsg (Gs wi t tt te own cap) (Bt i)) ur) (regY i (comp mi own.length (cap.map (·.2)) g nt me) kr):=by
 intro a c F H Y Z h;have z:=bA (E:=E) (cap:=cap) hi hg ht he hr a c F H Y Z h;generalize regY i (comp mi own.length (cap.map (·.2)) g nt me) kr Z=r at z
 match r,z with
 | .ok (.rt d),z=>exact λD q=>z D λb e x g f=>q b e x g f.rp
 | .bad,_=>trivial
def ZwY{wi:TI}{mi:MI}{t:Fam TG}{g:MG}{tt:Fam TT}{nt:MB}{te:Fam TE}{me:ME}{own:List Str}{cap:List (Str×Nat)}{ur:TS}{kr:MY}(hi:SI K mg E wi mi)(hg:∀C s H fp pn,SG K mg own.length (t C s H fp pn) g)(ht:∀C s H fp pn,STt K mg E0 (tt C s H fp pn) nt)(he:∀C s H fp pn,SEl K mg E0 (te C s H fp pn) me)(hr:SY K mg i J ur kr) :
  ∀F0 H0 F H Y Z,Rep K mg F0 H0 F H Y Z->AnsT K mg E F0 H0 (rtD (regY i (comp mi own.length (cap.map (·.2)) g nt me) kr Z)) (λD=>(tSeq (tAsg (Gs wi t tt te own cap) (Bt i)) ur) D Y H):=by
 intro F0 H0 F H Y Z a;have z:=bA (E:=E) (cap:=cap) hi hg ht he hr F0 H0 F H Y Z a;generalize regY i (comp mi own.length (cap.map (·.2)) g nt me) kr Z=r at z
 match r,z with
 | .ok (.rt d),z=>exact z
 | .bad,_=>trivial
end
section
variable {l:Nat} {J:List Nat} {st:Stmt} {sts rest:List Stmt} {tv ta tb to ti:TE} {ts:TSet} {t u u':TS} {m:MS} {k k':MY} {mv ma mb:ME} {sa:TT} {na:MB} {ev ea eb c' tg iter elt:Expr} {y:Str} {np ip ip2 apos p:Pos}
def jj(h:DS X E st (Bx te) m)(hi:i∈J:=by decide):DY X i J st (Bx te) (lft m):=⟨h.p,N5 h.s Zpq hi⟩
def Hk(h:DS X E st (tAsg te (Bt j)) m)(hj:j∉J:=by decide)(hi:i∈J:=by decide):DY X i J st (tAsg te (Bt j)) (lft m):=⟨h.p,N5 h.s (ug hj) hi⟩
def zg(h:DS X E st (tAsg te (gSub to ti ts)) m)(hi:i∈J:=by decide):DY X i J st (tAsg te (gSub to ti ts)) (lft m):=⟨h.p,N5 h.s mW hi⟩
def Zrh(h:DS X E st Mp m)(hi:i∈J:=by decide):DY X i J st Mp (lft m):=⟨h.p,N5 h.s uA hi⟩
def Zv(hi:i∈J:=by decide):DYs X i J [] JR (lft nop):=⟨Ru,N5 (E:=E0) Xy lF hi⟩
def G4(h:DY X i J st t k):DYs X i J [st] t k:=⟨iU h.p,h.s⟩
def FJ(h:DY X i J st t k)(h':DYs X i J rest u k'):DYs X i J (st::rest) (tSeq t u) (sqY k k'):=⟨Gh h.p h'.p,lE h.s h'.s⟩
def Xf(hc:DT X E c' sa na)(ha:DYs X i J as u k)(hb:DYs X i J bs u' k'):DY X i J (.If c' as bs spos) (tIfS sa u u') (ifY na k k'):=⟨W0 hc.p ha.p hb.p,Zyn hc.s ha.s hb.s⟩
def SJ(hp:PassesOwn (model X.p X.w) X.A X.v X.e)(hc:X.c=true)(hi:DI X E tg iter wi mi)(hg:DG X 1000 tg g gm)(kg:KpG J g)(hb:DYs X i J body u k)(hs:Fsi iter X:=by intro _;rfl)(hJ:i∈J:=by decide):DY X i J (.For tg iter body [] spos) (tFor wi g u) (forY mi gm k):=⟨cN hp hc hi.p hg.p hb.p hs,ql hi.s hg.s kg hJ hb.s⟩
def Zxd(he:DE X E e te me)(hw:DE X E ev tv mv)(hi:X.N[i]?=some y:=by rfl)(hv:Dr X.v.scope y:=by walk_at "vv")(hd:ND y:=by decide)(hcd:NE y:=by decide)(hpi:Tw e:=by exact λ_ _=>rfl)(hbase:attributeBase (.Subscript (.Name y np) e ip) "append" X.v (eval (.Subscript (.Name y np) e ip) X.v)=eval (.Subscript (.Name y np) e ip) X.v:=by rfl)(hse:starEach [ev] X.v=(false,eval ev X.v)::starEach [] X.v:=by rfl) (hfew:Few X cpos [ev]:=by rfl) (hline:(apos.endLine==cpos.line)=true:=by rfl) (hplain:(backTo cpos (starEach [] X.v)).any (·.1)=false:=by rfl) (hsw:swapsWith (.Call (.Attribute (.Subscript (.Name y np) e ip) "append" apos) [ev] [] cpos) none spos.line X.v=pure false:=by rfl) :
  DY X i J (.Expr (.Call (.Attribute (.Subscript (.Name y np) e ip) "append" apos) [ev] [] cpos) spos) (Bx (tBM X.K "list" Fi (tOp (rIxD X.K) (tVar i) te) (Bc tv tNil))) (appY me mv) :=
 ⟨HJ (JV JS O3 Oz QC (Rx (IxR.or Q4 Ua) (Ek hi hv hd hcd) he.p hpi) (EY hw.p GD hse) hbase hfew hline hse hplain) hsw,qg he.s hw.s⟩
def ZtL(hw:DE X E e tv mv)(ha:DE X E ea ta ma)(hb:DE X E eb tb mb)(hi:X.N[i]?=some y:=by rfl)(hv:Dr X.v.scope y:=by walk_at "vv")(hd:ND y:=by decide)(hcd:NE y:=by decide)(hpi:Tw ea:=by exact λ_ _=>rfl) (has:∀v,assign (.Subscript (.Subscript (.Name y np) ea ip) eb ip2) X.v v=(do
   let ov <-holding [v] (eval (.Subscript (.Name y np) ea ip) X.v)
   let iv <-holding [v,ov] (eval eb X.v)
   standAt ip2
   holding [v,ov,iv] (setItem ov iv v)
   release [v,ov,iv] []):=by intro _;rfl) (hs2:swapsWithSole [.Subscript (.Subscript (.Name y np) ea ip) eb ip2] e spos.line X.v=pure false:=by rfl) (hw2:swappedStores [.Subscript (.Subscript (.Name y np) ea ip) eb ip2] e X.v=pure none:=by rfl) :
  DY X i J (.Assign [.Subscript (.Subscript (.Name y np) ea ip) eb ip2] e spos) (tAsg tv (gSub (tOp (rIxD X.K) (tVar i) ta) tb PJ)) (Kh mv ma mb) :=
 ⟨Rz hw.p (Yj (Rx (IxR.or Q4 Ua) (Ek hi hv hd hcd) ha.p hpi) hb.p set_list has) hs2 hw2,yL hw.s ha.s hb.s⟩
def yq(hw:DE X E e tv mv)(hb:DE X E eb tb mb)(hi:X.N[i]?=some y:=by rfl)(hv:Dr X.v.scope y:=by walk_at "vv")(hd:ND y:=by decide)(hcd:NE y:=by decide) (has:∀v,assign (.Subscript (.Name y np) eb ip2) X.v v=(do
   let ov <-holding [v] (eval (.Name y np) X.v)
   let iv <-holding [v,ov] (eval eb X.v)
   standAt ip2
   holding [v,ov,iv] (setItem ov iv v)
   release [v,ov,iv] []):=by intro _;rfl) (hs2:swapsWithSole [.Subscript (.Name y np) eb ip2] e spos.line X.v=pure false:=by rfl) (hw2:swappedStores [.Subscript (.Name y np) eb ip2] e X.v=pure none:=by rfl) :
  DS X E (.Assign [.Subscript (.Name y np) eb ip2] e spos) (tAsg tv (gSub (tVar i) tb PJ)) (setO i mv mb) :=
 ⟨Rz hw.p (Yj (Ek hi hv hd hcd) hb.p set_list has) hs2 hw2,ye hw.s hb.s⟩
def iZ(i)(h:DE X E e te me):DE X E e te (pkN i me):=⟨h.p,vA i h.s⟩
def eN{j1:Nat}{q1 q2:Pos}(hi:X.N[i]?=some x)(hj:X.N[j]?=some y)(vx:Dr X.v.scope x:=by walk_at "vv")(vy:Dr X.v.scope y:=by walk_at "vv")(d1:ND x:=by decide)(d2:NE x:=by decide)(d3:ND y:=by decide)(d4:NE y:=by decide)(s1:starEach [.Name x q1,.Name y q2] X.v=(false,eval (.Name x q1) X.v)::starEach [.Name y q2] X.v:=by rfl)(s2:starEach [.Name y q2] X.v=(false,eval (.Name y q2) X.v)::starEach [] X.v:=by rfl) :
  DY X i J (.Return (some (.Tuple [.Name x q1,.Name y q2] j1 pos)) spos) (tRet (tTup (Bc (tVar i) (Bc (tVar j) tNil)))) (retY j) :=
 ⟨d8 (cM (EY (Ek hi vx d1 d2) (EY (Ek hj vy d3 d4) GD s2) s1)),vI⟩
structure DAy(X:Cx)(E:XK)(i l:Nat)(sh:List Nat)(es:List Expr)(t:TA)(m:MR):Prop where
 p:PA X es t
 s:SAy X.K X.m i l sh t m
def fD:DAy X E i l [] [] tNil rNil:=⟨GD,ZtE⟩
def QR{sh:List Nat}{t:TA}{m:MR}(h:DE X E e te me)(r:DAy X E i l sh es t m)(hs:StE X e es:=by rfl):DAy X E i l (0::sh) (e::es) (Bc te t) (rIm me m):=⟨EY h.p r.p hs,ZwN h.s r.s⟩
def bR{sh:List Nat}{t:TA}{m:MR}(r:DAy X E i l sh es t m)(hi:X.N[i]?=some y:=by rfl)(hv:Dr X.v.scope y:=by walk_at "vv")(hd:ND y:=by decide)(hcd:NE y:=by decide)(hs:starEach (.Name y np::es) X.v=(false,eval (.Name y np) X.v)::starEach es X.v:=by rfl) :
  DAy X E i l (1::sh) (.Name y np::es) (Bc (tVar i) t) (rRg m):=⟨EY (Ek hi hv hd hcd) r.p hs,sW r.s⟩
def vd{sh:List Nat}{t:TA}{m:MR}(r:DAy X E i l sh es t m)(hi:X.N[l]?=some y:=by rfl)(hv:Dr X.v.scope y:=by walk_at "vv")(hd:ND y:=by decide)(hcd:NE y:=by decide)(hs:starEach (.Name y np::es) X.v=(false,eval (.Name y np) X.v)::starEach es X.v:=by rfl) :
  DAy X E i l (2::sh) (.Name y np::es) (Bc (tVar l) t) (rOw l m):=⟨EY (Ek hi hv hd hcd) r.p hs,ZwA r.s⟩
def aW{sh:List Nat}(h:(List.range sh.length).all (λk=>(sh[k]?==some 2)==(lc==some k))=true)(h2:(match lc with | some k=>decide (k<sh.length) | none=>true)=true):(∀k,sh[k]?=some 2->lc=some k)/\∀k,lc=some k->sh[k]?=some 2:=by
 rw [List.all_eq_true] at h;refine ⟨λk e=>?_,λk e=>?_⟩
 .have z:=h k (FP.mpr (Dc.mp e).1);rw [e] at z;simpa using z
 .subst e;have z:=h k (FP.mpr (by simpa using h2));simpa using z
def Yr{kk ll ic:Nat}{lc:Option Nat}{sh:List Nat}{f:FY}{t:TA}{m:MR}(C:CalY X.p X.w X.K X.m X.B kk x ps ic f)(hr:Room ll X.A)(hn:kk<=ll)(hg:Gl X x)(hx:Dp (CXR X.p X.w) X E)(ha:DAy X E i l sh (e::es) t m)(hps:sh.length=ps.length:=by rfl)(hic:sh[ic]?=some 1:=by rfl)(h1:(List.range sh.length).all (λk=>(sh[k]?==some 2)==(lc==some k))=true:=by rfl)(h2:(match lc with | some k=>decide (k<sh.length) | none=>true)=true:=by rfl)(hdb:ND x:=by decide)(he:StE X e es:=by rfl)(hpl:PlE X pos es:=by rfl)(hsw:swapsWith (.Call (.Name x p) (e::es) [] pos) none spos.line X.v=pure false:=by rfl) :
  DY X i J (.Expr (.Call (.Name x p) (e::es) [] pos) spos) (Bx (Hf (spY X.K X.m ps.length ic f) [] E t)) (HF f l lc m):=by
 obtain ⟨g,d,F,b,c,a⟩:=C.ex;exact ⟨HJ (Vb F (hr.mono hn) hg a c b .nil hx ha.p hdb he hpl) hsw,ZsG ha.s hic (aW h1 h2).1 (aW h1 h2).2 hps⟩
def vH{t:TA}{m:MA}{lpos:Pos}(ha:DA X E n es t m)(hb:DE X E e tb mb)(hn:n<=sizeLine:=by decide):DEl X E (.BinOp (.List es lpos) .Mult e pos) (tOp rRep (tLst t) tb) (repD m mb):=⟨gY ZuU (Pr ha.p) hb.p,Zur (R:=RowR X.K X.m) (λ_ _ p a es f h r=>⟨p,a,es,rfl,rfl,f,h,r⟩) ha.s ha.n hn hb.s⟩
def nu(hN:X.N.Nodup)(hix:X.N[i]?=some x)(hx:Loc X.v.scope x)(hi:DI X E tg iter wi mi)(O:Gw X own cap scope cl)(hc:X.c=true)(hg:∀C s H fp pn,DG (Bj0 X own cap scope cl C s H fp pn) own.length tg (g C s H fp pn) gm)(ht:∀C s H fp pn,DTs (Bj0 X own cap scope cl C s H fp pn) E0 tsx (tt C s H fp pn) na)(he:∀C s H fp pn,DEl (Bj0 X own cap scope cl C s H fp pn) E0 elt (tf C s H fp pn) me)(hr:DYs X i J rest u k)(hts:tsx.length<=1:=by decide)(hsw:swapsWith (.ListComp elt [⟨tg,iter,tsx,0⟩] scope pos) (some (.Name x pos')) spos.line X.v=pure true:=by rfl)(hs:Fsi iter X:=by intro _;rfl)(hf:FnL X x:=by walk_at "ff") :
  DSs X E (.Assign [.Name x pos'] (.ListComp elt [⟨tg,iter,tsx,0⟩] scope pos) spos::rest) (tSeq (tAsg (Gs wi g tt tf own cap) (Bt i)) u) (regY i (comp mi own.length (cap.map (·.2)) gm na me) k) :=
 ⟨Gh (RL hN hix hx hi.p O hc (λC s H fp pn=>(hg C s H fp pn).p) (λC s H fp pn=>(ht C s H fp pn).p) (λC s H fp pn=>(he C s H fp pn).p) hts hsw hs hf) hr.p,
  ZwX hi.s (λC s H fp pn=>(hg C s H fp pn).s) (λC s H fp pn=>(ht C s H fp pn).s) (λC s H fp pn=>(he C s H fp pn).s) hr.s⟩
end
section
def yo(he:SE K mg E te me)(hij:i≠j):SS K mg E (Bx (tBM K "list" Fi (tVar i) (Bc (tBM K "list" WF (tVar j) (Bc te tNil)) tNil))) (appP i j me):=by
 intro h g F H Y Z l;unfold appP;cases ei:Z[i]? with
 | none=>ext
 | some c=>
 cases c with
 | no=>ext
 | im d=>ext
 | ow xs=>
 cases ej:Z[j]? with
 | none=>ext
 | some c=>
 cases c with
 | no=>ext
 | im d=>ext
 | ow ys=>
 show AnsS K mg E h g F ((noEx (me Z)).bind λd=>match (intY d).bind λk=>if 0<=k/\k<ys.length/\k<10000 then some k.toNat else none with
  | some c=>popP i j Z xs ys c
  | none=>.bad) _
 have C:=he h g F H Y Z l;cases q1:me Z with
 | bad=>ext
 | ok d=>
 rw [q1] at C;cases d with
 | int k=>
  show AnsS K mg E h g F (match (if 0<=k/\k<ys.length/\k<10000 then some k.toNat else none) with
   | some c=>popP i j Z xs ys c
   | none=>.bad) _
  by_cases hk:0<=k/\k<(ys.length:Int)/\k<10000
  case neg=>rw [iN hk];ext
  rw [iP hk];show AnsS K mg E h g F (popP i j Z xs ys k.toNat) _;have u:k.toNat<ys.length:=by lia
  unfold popP;rw [BL u];show AnsS K mg E h g F (if xs.length<10000 then .ok (.nx ((Z.set j (.ow (ys.eraseIdx k.toNat))).set i (.ow (xs++[ys[k.toNat]])))) else .bad) _
  by_cases hx:xs.length<10000
  case neg=>rw [iN hx];ext
  rw [iP hx];obtain ⟨a,p,t,O,M,G,w⟩:=l.ow i xs ei;obtain ⟨b,r,s,R,J,B,n⟩:=l.ow j ys ej
  exact λD q=>⟨.ref a,t,.inl ⟨rfl,p,SqL.of G⟩,.ref b,s,.inl ⟨rfl,r,SqL.of B⟩,C _ λQ P y e S=>by
   obtain rfl:=S.z;obtain ⟨L,V⟩:=e.o a _ M G;obtain ⟨T,A⟩:=e.o b _ J B;have m:a≠b:=λz=>hij (l.ne i j xs ys a ei ej t (z▸s));obtain ⟨v,I,W⟩:=(n.same e.f).get (BL u);have U:=(l.gr e).put ej s A R T (Rps.eraseIdx k.toNat (n.same e.f));have x:upd P b (.lst (r.eraseIdx k.toNat)) a=some (.lst p):=by rw [Af m];exact V
   have N:(Z.set j (.ow (ys.eraseIdx k.toNat)))[i]?=some (.ow xs):=by rw [List.getElem?_set_ne (Ne.symm hij)];exact ei
   refine ⟨b,r,k,k.toNat,v,rfl,rfl,A,by lia,by lia,?_,I,a,p,v,rfl,rfl,x,?_,q Q _ Y e.f (U.app N t x O L (w.same e.f) W)⟩
   .have z:¬k<0:=by lia
    simp [seqIndex?,n.length,z,hk.1,hk.2.1]
   .rw [w.length];exact Aw hx (by decide)⟩
 | _=>ext
end
section
variable {J:List Nat} {y:Str}
def tG(i j)(he:DE X E e te me)(hij:i≠j:=by decide)(hN:X.N[i]?=some x:=by rfl)(hN2:X.N[j]?=some y:=by rfl)(hv:Dr X.v.scope x:=by walk_at "vv")(hd:ND x:=by decide)(hcd:NE x:=by decide)(hv2:Dr X.v.scope y:=by walk_at "vv")(hd2:ND y:=by decide)(hcd2:NE y:=by decide)(hbase:attributeBase (.Name x np) "append" X.v (eval (.Name x np) X.v)=eval (.Name x np) X.v:=by rfl) (hfew:Few X cpos [.Call (.Attribute (.Name y np2) "pop" apos2) [e] [] cpos2]:=by rfl) (hline:(apos.endLine==cpos.line)=true:=by rfl) (hs:starEach [.Call (.Attribute (.Name y np2) "pop" apos2) [e] [] cpos2] X.v=(false,eval (.Call (.Attribute (.Name y np2) "pop" apos2) [e] [] cpos2) X.v)::starEach [] X.v:=by rfl) (hplain:(backTo cpos (starEach [] X.v)).any (·.1)=false:=by rfl) (hbase2:attributeBase (.Name y np2) "pop" X.v (eval (.Name y np2) X.v)=eval (.Name y np2) X.v:=by rfl) (hfew2:Few X cpos2 [e]:=by rfl) (hline2:(apos2.endLine==cpos2.line)=true:=by rfl) (hs2:starEach [e] X.v=(false,eval e X.v)::starEach [] X.v:=by rfl) (hplain2:(backTo cpos2 (starEach [] X.v)).any (·.1)=false:=by rfl) (hsw:swapsWith (.Call (.Attribute (.Name x np) "append" apos) [.Call (.Attribute (.Name y np2) "pop" apos2) [e] [] cpos2] [] cpos) none spos.line X.v=pure false:=by rfl) :
  DS X E (.Expr (.Call (.Attribute (.Name x np) "append" apos) [.Call (.Attribute (.Name y np2) "pop" apos2) [e] [] cpos2] [] cpos) spos) (Bx (tBM X.K "list" Fi (tVar i) (Bc (tBM X.K "list" WF (tVar j) (Bc te tNil)) tNil))) (appP i j me) :=
 ⟨HJ (JV JS O3 Oz QC (Ek hN hv hd hcd) (EY (JV JS PySem.F.slot_list_pop PySem.F.type_list_pop qw (Ek hN2 hv2 hd2 hcd2) (EY he.p GD hs2) hbase2 hfew2 hline2 hs2 hplain2) GD hs) hbase hfew hline hs hplain) hsw,
  yo he.s hij⟩
def Zss{tsx:List Expr}{own:List Str}{cap:List (Str×Nat)}{scope:Scope}{cl:List (Str×Addr)}{wi:TI}{mi:MI}{g:Fam TG}{gm:MG}{tt:Fam TT}{tf:Fam TE}{na:MB}{k:MY}{u:TS}{tg iter elt:Expr}{rest:List Stmt}(hN:X.N.Nodup)(hix:X.N[i]?=some x)(hx:Loc X.v.scope x)(hi:DI X E tg iter wi mi)(O:Gw X own cap scope cl)(hc:X.c=true)(hg:∀C s H fp pn,DG (Bj0 X own cap scope cl C s H fp pn) own.length tg (g C s H fp pn) gm)(ht:∀C s H fp pn,DTs (Bj0 X own cap scope cl C s H fp pn) E0 tsx (tt C s H fp pn) na)(he:∀C s H fp pn,DEl (Bj0 X own cap scope cl C s H fp pn) E0 elt (tf C s H fp pn) me)(hr:DYs X i J rest u k)(hts:tsx.length<=1:=by decide)(hsw:swapsWith (.ListComp elt [⟨tg,iter,tsx,0⟩] scope pos) (some (.Name x pos')) spos.line X.v=pure true:=by rfl)(hs:Fsi iter X:=by intro _;rfl)(hf:FnL X x:=by walk_at "ff") :
  DSt2 X E (.Assign [.Name x pos'] (.ListComp elt [⟨tg,iter,tsx,0⟩] scope pos) spos::rest) (tSeq (tAsg (Gs wi g tt tf own cap) (Bt i)) u) (regT i (comp mi own.length (cap.map (·.2)) gm na me) k) :=
 ⟨Gh (RL hN hix hx hi.p O hc (λC s H fp pn=>(hg C s H fp pn).p) (λC s H fp pn=>(ht C s H fp pn).p) (λC s H fp pn=>(he C s H fp pn).p) hts hsw hs hf) hr.p,
  ZwY hi.s (λC s H fp pn=>(hg C s H fp pn).s) (λC s H fp pn=>(ht C s H fp pn).s) (λC s H fp pn=>(he C s H fp pn).s) hr.s⟩
end
section
variable {f:Addr} {dV:Value}
def okTF{st:Stmt}{m:ME}(F:FunD K x x st dV f fd)(S:CT N ps (BJ st))(h:∀(cdv:Value) (A:Around) (outer:List Env) (s:Shared) (H:Hp) (E:XK),Room k (A.deeper (envOfC x (BJ st) s.heap.objs.size f cdv))->∃t,DSt2 (cxOf (CXR P w) P w K mg base N x (BJ st) f cdv A outer s H E) E (De st) t m) :
  FnO P w K mg base (k+1) f fd ps (spT K mg ps.length (fnR N.length m)):=by
 obtain ⟨L,O,R,v,J,M,cdv,T,I,rfl,r,c⟩:=F.ex;refine Lx r c S (λl H Q E q=>q.1) λA outer s H l Q E u b=>?_;obtain ⟨t,i⟩:=h cdv A outer s H E u;refine ⟨t,i.p,?_⟩;obtain ⟨_,j,n,D,o,y,a⟩:=b;have z:=i.s j H j H (start N l) (ev0 N.length n) (RP D o);unfold fnR at y a;cases e:m (ev0 N.length n) with
 | ok d=>
  rw [e] at z;exact z _ λC G x g B=>a d e C G x g B
 | bad=>ext
structure Wa(P:Program)(w:World)(K:W1)(mg:MgT)(base:Heap)(n:Nat)(x:Str)(ps ks:List Str)(ix:List (Option Nat))(m:List D->Res D):Prop where
 ex:∃(f:Addr) (fd:FuncData),FnO P w K mg base n f fd ps (spT K mg ps.length m)/\DfB K fd ps ks ix/\W.keepIn K (.ref f)=true/\mg x=some (.ref f)
end
section
variable {l n':Nat} {ks:List Str} {ix:List (Option Nat)} {f:List D->Res D} {t tk:TA} {m mk:MA} {kws:List Keyword} {p:Pos}
def qj(ha:SA X.K X.m E t m)(hl:SAn n m)(hk:SA X.K X.m E tk mk)(hn:n+ix.length=n'):SEt X.K X.m E (WT (spT X.K X.m n' f) (λvs zs=>vs++Jf ix zs) E t tk) (onK f ix m mk):=by
 intro D l k F H Y Z p B;refine (ha l k F H Y Z p).bindE (w':=λvs h Q=>tk Y h λzs c=>spT X.K X.m n' f (vs++Jf ix zs) c Q E) λo e u h vs j r=>?_;refine (hk l k u h Y Z (p.gr j)).bindE (w':=λzs c Q=>spT X.K X.m n' f (vs++Jf ix zs) c Q E) λv J y c zs i A=>?_;have a:=Rps.app (Ur A ix) (r.same i.f);have b:(vs++Jf ix zs).length=n':=by rw [a.length,Di,uX,hl Z o e,hn]
 cases ef:f (o++Q8 ix v) with
 | bad=>ext
 | ok d=>exact λQ q=>⟨b,y,_,i.s,a,(by lia),(λC z G I x g w=>by
   rw [ef] at z;cases z
   exact q _ _ _ g (w.down (B.trans (j.f.trans i.f))))⟩
def Zpx(C:Wa X.p X.w X.K X.m X.B k x ps ks ix f)(hr:Room l X.A)(hn:k<=l)(hg:Gl X x)(hx:Dp (CXR X.p X.w) X E)(ha:DA X E n (e::es) t m)(hk:DK X E n' kws tk mk)(hps:n+ix.length=ps.length:=by rfl)(hall:(backToKw pos (keywordEach kws X.v)).all (·.1.isSome)=true:=by rfl)(hks:(backToKw pos (keywordEach kws X.v)).filterMap (·.1)=ks:=by rfl)(hdb:ND x:=by decide)(he:StE X e es:=by rfl)(hpl:((backTo pos (starEach (e::es) X.v)).any (·.1)||(backToKw pos (keywordEach kws X.v)).any (·.1.isNone))=false:=by rfl) :
  DEt X E (.Call (.Name x p) (e::es) kws pos) (WT (spT X.K X.m ps.length f) (λvs zs=>vs++Jf ix zs) E t tk) (onK f ix m mk):=by
 obtain ⟨g,d,F,b,c,a⟩:=C.ex;exact ⟨kY F (hr.mono hn) hg a c b.kb hx ha.p hk.p hall hks hdb he hpl,qj ha.s ha.n hk.s hps⟩
end
end L2.Ds
namespace Dl
noncomputable def insI(p:Int):List Int->List Int
 | []=>[p]
 | q::r=>if p<=q then p::q::r else q::insI p r
def sortI:List Int->List Int
 | []=>[]
 | p::r=>insI p (sortI r)
def Sq:List D->Res D
 | [.lst ds]=>(Ia ds).bind λa=>if ds.length<64 then .ok (.lst ((sortI a).map .int)) else .bad
 | _=>.bad
def bLR:List D->Res D
 | [.int n]=>if 0<=n/\n<=10000 then .ok (.lst ((List.range n.toNat).map λk:Nat=>D.int k)) else .bad
 | _=>.bad
def insI_perm(p):∀l,(insI p l).Perm (p::l)
 | []=>.refl _
 | q::r=>by
  unfold insI;split
  .rfl
  .exact ((insI_perm p r).cons q).trans (.swap p q r)
def sortI_perm:∀l,(sortI l).Perm l
 | []=>.refl _
 | p::r=>(insI_perm p _).trans ((sortI_perm r).cons p)
def jP:∀{l:List Int},l.Pairwise (·<=·)->(insI p l).Pairwise (·<=·)
 | [],_=>List.pairwise_singleton _ _
 | q::r,h=>by
  have a:=Dq.mp h;unfold insI;split
  .next c=>
   refine Dq.mpr ⟨λx hx=>?_,h⟩
   grind
  .next c=>
   refine Dq.mpr ⟨λx hx=>?_,jP a.2⟩;rcases BV.mp ((insI_perm p r).mem_iff.mp hx) with rfl | hx
   .lia
   simp_all
def W4:∀l,(sortI l).Pairwise (·<=·)
 | []=>List.Pairwise.nil
 | _::r=>jP (W4 r)
theorem bZ:∀{l m:List Int},l.Perm m->l.Pairwise (·<=·)->m.Pairwise (·<=·)->l=m
 | [],m,hp,_,_=>(List.Perm.eq_nil hp.symm).symm
 | a::r,[],hp,_,_=>aB hp.length_eq (by simp)
 | a::r,b::t,hp,h1,h2=>by
  have d:=Dq.mp h1;have c:=Dq.mp h2;have e:a=b:=by
   have ha:a∈b::t:=hp.mem_iff.mp BX;have f:b∈a::r:=hp.mem_iff.mpr BX;rcases BV.mp ha with e | ha
   .exact e
   .rcases BV.mp f with e | hb'
    .exact e.symm
    .have h:=d.1 b hb';have g:=c.1 a ha
     lia
  subst e;rw [bZ (List.Perm.cons_inv hp) d.2 c.2]
end Dl
namespace L2
def jE(K:W1):List V->Hp->VK->Prop:=λb H Q=>∃l a,b=[.ref l]/\SqL K H l (a.map V.int)/\a.length<64/\∀D,H D=none->Q (.ref D) (upd H D (.lst ((Dl.sortI a).map V.int)))
def Zjb:∃n,(sortedAll h vs out).get? (h.objs.size+1)=some { cls:=.type "list",data:=.seq out n }:=by
 have f:((h.push (seqObj "list" #[] 0)).update h.objs.size (Obj.mapSeq (·++vs.toArray))).objs.size=h.objs.size+1:=by
  simp_all
 have b:(((h.push (seqObj "list" #[] 0)).update h.objs.size (Obj.mapSeq (·++vs.toArray))).push (seqObj "list" vs.toArray 0)).get? (h.objs.size+1)=some (seqObj "list" vs.toArray 0):=by
  rw [<-f];exact CJ _ rfl
 have i:=BP b;unfold sortedAll sortedHeap;generalize ((h.push (seqObj "list" #[] 0)).update h.objs.size (Obj.mapSeq (·++vs.toArray))).push (seqObj "list" vs.toArray 0)=g at *;generalize h.objs.size+1=a at *;obtain ⟨d,e⟩ : ∃d,(g.update a (Obj.mapSeq λ_=>#[])).get? a=some (seqObj "list" #[] d):=⟨_,Ox b (λ_=>#[])⟩;have c:(((g.update a (Obj.mapSeq λ_=>#[])).push (seqObj "tuple" vs.toArray 0)).push (seqObj "list" #[] 0)).get? a=some (seqObj "list" #[] d):=by
  rw [Du _ _ _ (by rw [Hr,Gu];exact Am (Dm i)),Du _ _ _ (by rw [Gu];exact Am i)];exact e
 exact ⟨_,Ox c (λ_=>out)⟩
def zy(q:h.get? b=some o):(sortedAll h vs out).get? b=some o:=by
 have c:=BP q;have a:((h.push (seqObj "list" #[] 0)).update h.objs.size (Obj.mapSeq (·++vs.toArray))).objs.size=h.objs.size+1:=by
  simp_all
 have e:b≠h.objs.size:=Am c;have d:b≠h.objs.size+1:=Am (Dm c);unfold sortedAll sortedHeap;rw [JB _ _ _ _ d,Du _ _ _ (by rw [Hr,Gu,Hr,a];exact Am (Dm (Dm (Dm c)))),Du _ _ _ (by rw [Gu,Hr,a];exact Am (Dm (Dm c))),JB _ _ _ _ d,Du _ _ _ (by rw [a];exact d),JB _ _ _ _ e,Du _ _ _ e];exact q
def YW:∀{ns:List Int} {its:List Value},Vals (ns.map V.int) its->IntsAre its ns
 | [],_,.nil=>.nil
 | n::r,_,.cons h t=>by
  obtain ⟨a,rfl⟩:=h;exact .cons n a (YW t)
section
def Zk0:Ep X (.builtin "sorted") (jE X.K):=by
 intro p s Y H vs F Q I w ⟨l,f,e,x,E,q⟩;subst e;cases w with
 | cons r1 rr=>
  cases rr;cases r1;obtain ⟨d,r,⟨o,n,A,v,_,B⟩,_⟩:=I.list x;have k:d.length=f.length:=by have:=r.length;simp_all
  refine sorted_ints (vs:=d) ⟨o,A,v,n,B⟩ (YW r) (by lia) λout i z m y=>?_;have j:i=Dl.sortI f:=Dl.bZ (m.trans (Dl.sortI_perm f).symm) y (Dl.W4 f);subst j;obtain ⟨c,D⟩:=Zjb (h:=s.heap) (vs:=d) (out:=out);have C:Vals ((Dl.sortI f).map V.int) out.toList:=XC z;have g:((Dl.sortI f).map V.int).length<=sizeLine:=by rw [Al,m.length_eq,Hs];lia
  have t:=I.laid (a:=s.heap.objs.size+1) (t':=s.toks) (o:=.lst ((Dl.sortI f).map V.int)) (h':=sortedAll s.heap d out) (λb u e=>zy e) (Kq _) ⟨g,out.toList,c,C,by rw [Array.toArray_toList];exact D⟩;exact ⟨.ref (s.heap.objs.size+1),_,t,rfl,q _ (I.hok.fresh (Kq _))⟩
def tLR(ta:TA):TE:=λY H Q=>ta Y H λb a=>∃n:Nat,b=[.int n]/\n<=10000/\∀S,a S=none->Q (.ref S) (upd a S (.lst ((List.range n).map λk:Nat=>V.int k)))
def fP(hc:X.c=true)(hg:Gl X "range")(hm:X.m "range"=none)(hgl:Gl X "list")(hml:X.m "list"=none)(ha:PA X [a] ta)(hs:starEach [a] X.v=[(false,eval a X.v)]:=by rfl)(hs3:starEach [.Call (.Name "range" np) [a] [] pos] X.v=(false,eval (.Call (.Name "range" np) [a] [] pos) X.v)::starEach [] X.v:=by rfl) :
  PE X (.Call (.Name "list" lp) [.Call (.Name "range" np) [a] [] pos] [] pos') (tLR ta):=by
 intro d s Y H Q I h;refine Call_ (Hl I hgl hml Tt (Ip ?_ hs3 rfl));rw [hs3];show wpAny _ _ (spliced ((false,eval (.Call (.Name "range" np) [a] [] pos) X.v)::backTo pos' (starEach [] X.v))) _ _ s;refine Calls.spliced_cons ?_;refine Call_ (Hl I hg hm boot_range (Ip (thn (ha pos d s Y H _ I h) λP g zq=>?_) hs rfl));obtain ⟨O,K,D,B,G⟩:=zq;obtain ⟨n,e,L,q⟩:=G;subst e;cases B with
 | cons r rr=>
  cases rr;obtain ⟨t,rfl⟩:=r;refine call_range_1 ?_;refine Calls.spliced_nil ?_;have w:Inv X d Y K { g with heap:=g.heap.push { cls:=.type "range",data:=.fields #[.int 0 g.toks,.int n t,.int 1 (g.toks+1)] },toks:=g.toks+1+1 }:=D.kept λb o e=>Bj _ e
  refine call_list_range (n:=n) (w.ok.hd hc) (IsRange.new ..) (small_one (by lia) (by lia) (by lia) (by lia)) (by rw [rangeSize_one];lia) (Ak L (by decide)) λN F f c E M z=>?_;have p:Vals ((List.range n).map λk:Nat=>V.int k) f.toList:=by
   have x:∀(l:List Value) (j m:Nat),l.length=m->(∀(i:Nat) (v:Value),l[i]?=some v->∃t,v=Value.int ((j+i:Nat):Int) t)->Vals ((List.range' j m).map λk:Nat=>V.int k) l:=by
    intro l
    induction l with
    | nil=>intro j m e _;cases e;exact .nil
    | cons v l ih=>
     intro j m e p;cases e;obtain ⟨t,C⟩:=p 0 v rfl;refine .cons ⟨t,C⟩ (ih (j+1) _ rfl λi A u=>?_);obtain ⟨t',y⟩:=p (i+1) A u
     grind
   rw [List.range_eq_range'];refine x f.toList 0 n (by rw [Ea];exact z.1) λi v p=>?_;obtain ⟨t',y⟩:=z.2 i v (by simp_all);simp_all
  have J:=w.laid (t':=F) (o:=.lst ((List.range n).map λk:Nat=>V.int k)) E (Ae _) ⟨by rw [Al,Ff,Hs];lia,f.toList,c,p,by ext⟩;exact ⟨.ref _,_,J,rfl,q _ (w.hok.fresh (Ae _))⟩
end
end L2
namespace L2.Ds
open Dl
section
variable {a:Expr} {t:TA} {m:MA} {lp p:Pos}
def R9{F:Hp}:∀ns:List Int,Rps K mg F (ns.map V.int) (ns.map D.int)
 | []=>.nil
 | n::r=>.cons (.int n) (R9 r)
def yx:CallD K mg (jE K) Sq:=by
 intro E F H i j s b;unfold Sq;split
 .next a=>
  obtain ⟨x,rfl,d⟩:=b.one;cases d with
  | @lst l zs _ h r=>
   cases e:Ia a with
   | bad=>ext
   | ok ns=>
    show Ans mg E (Rp K mg) F H (if a.length<64 then _ else _) _
    by_cases hl:a.length<64
    case neg=>rw [iN hl];ext
    rw [iP hl];have c:=gK r e;subst c;have g:ns.length=a.length:=by have:=r.length;simp_all
    exact KZ s (λp f=>.lst (SqL.of Ar) (R9 _)) λQ q=>⟨l,ns,rfl,s.seq h,by lia,q⟩
 .ext
def ZJ(hcm:X.c=true)(hg:Gl X "range")(hm:X.m "range"=none)(hgl:Gl X "list")(hml:X.m "list"=none)(ha:DA X E n [a] t m)(hs:starEach [a] X.v=[(false,eval a X.v)]:=by rfl)(hs3:starEach [.Call (.Name "range" p) [a] [] pos] X.v=(false,eval (.Call (.Name "range" p) [a] [] pos) X.v)::starEach [] X.v:=by rfl) :
  DE X E (.Call (.Name "list" lp) [.Call (.Name "range" p) [a] [] pos] [] pos') (tLR t) (on bLR m):=by
 refine ⟨fP hcm hg hm hgl hml ha.p hs hs3,?_⟩;intro h e F H Y Z j;refine (ha.s h e F H Y Z j).bind (w':=λi b Q=>∃n:Nat,i=[V.int n]/\n<=10000/\∀S,b S=none->Q (V.ref S) (upd b S (.lst ((List.range n).map λk:Nat=>V.int k)))) λf b r u d c=>?_;unfold bLR;split
 .next z=>
  by_cases hz:0<=z/\z<=10000
  case neg=>rw [iN hz];ext
  rw [iP hz];obtain ⟨x,rfl,g⟩:=c.one;obtain rfl:=g.z;refine KZ (o:=.lst ((List.range z.toNat).map λk:Nat=>V.int k)) d.s (λp l=>.lst (SqL.of Ar) ?_) λQ q=>⟨z.toNat,by rw [Jx hz.1],by lia,q⟩;have:=R9 (K:=X.K) (mg:=X.m) (F:=upd f p (.lst ((List.range z.toNat).map λk:Nat=>V.int k))) ((List.range z.toNat).map λk:Nat=>(k:Int));rw [DX,DX] at this;exact this
 .ext
end
section
variable {a:Expr} {t:TA} {m:MA} {p lp np:Pos}
def ZpG(hN:X.N.Nodup)(hi:X.N[i]?=some x)(hx:Loc X.v.scope x)(hcm:X.c=true)(hg:Gl X "range")(hm:X.m "range"=none)(hgl:Gl X "list")(hml:X.m "list"=none)(ha:DA X E n [a] t m)(hs1:starEach [a] X.v=[(false,eval a X.v)]:=by rfl)(hs3:starEach [.Call (.Name "range" p) [a] [] pos] X.v=(false,eval (.Call (.Name "range" p) [a] [] pos) X.v)::starEach [] X.v:=by rfl)(hs:swapsWith (.Call (.Name "list" lp) [.Call (.Name "range" p) [a] [] pos] [] pos') (some (.Name x np)) spos.line X.v=pure false:=by rfl)(hf:FnL X x:=by walk_at "ff") :
  DS X E (.Assign [.Name x np] (.Call (.Name "list" lp) [.Call (.Name "range" p) [a] [] pos] [] pos') spos) (tAsg (tLR t) (Bt i)) (stO i (on bLR m)):=by
 refine ⟨Wr hN hi hx (fP hcm hg hm hgl hml ha.p hs1 hs3) hs hf,λF0 H0 F H Y Z rr=>?_⟩;have h:=ha.s F0 H0 F H Y Z rr;unfold stO on;cases e:m Z with
 | bad=>ext
 | ok ds=>
  rw [e] at h;show AnsS X.K X.m E F0 H0 F ((bLR ds).bind λd=>(lstO d).bind λxs=>.ok (.nx (Z.set i (.ow xs)))) _;unfold bLR;split
  .next z=>
   by_cases hz:0<=z/\z<=10000
   case neg=>rw [iN hz];ext
   rw [iP hz];refine λD q=>h _ λF1 H1 vs g1 rs=>?_;obtain ⟨y,rfl,ry⟩:=rs.one;obtain rfl:=ry.z;refine ⟨z.toNat,by rw [Jx hz.1],by lia,λS hS=>q F1 _ _ g1.f ((rr.gr g1).own i hS ?_)⟩;have:=R9 (K:=X.K) (mg:=X.m) (F:=F1) ((List.range z.toNat).map λk:Nat=>(k:Int));rw [DX,DX] at this;exact this
  .ext
end
end L2.Ds
namespace L2.Ts
abbrev SX:=StateT SortSt Sem
abbrev AK:=Array Keyed
structure Zc where
 p:Program
 w:World
 A:Around
 E:VS
 s:Shared
 κ:SortKind
 k:Keyed->Int
 g:Keyed->Prop
abbrev Wz(Z0:Zc){α:Type}(m:SX α)(Q:α->SortSt->Prop)(st:SortSt):Prop:=wpS (model Z0.p Z0.w) Z0.A Z0.E Z0.s m Q st
def JQ:Bool->Keyed->AK->Nat->Nat->Nat->SX (Option Nat):=sortPriv% PySem.Builtin.gallop
def Vl:AK->AK->SX (AK):=sortPriv% PySem.Builtin.mergeLo
def VV:AK->AK->SX (AK):=sortPriv% PySem.Builtin.mergeHi
def Mu:Nat->SX Unit:=sortPriv% PySem.Builtin.setMinGallop
section
variable{Z0:Zc}
def HL(Z0:Zc):Prop:=∀x y,Z0.g x->Z0.g y->wpAny (model Z0.p Z0.w) Z0.A (keyLt' Z0.κ x.1 y.1) (λb a=>a=Z0.s/\b=decide (Z0.k x<Z0.k y)) (λ_ _=>False) Z0.s
def O8(H:HL Z0){st:SortSt}{x y:Keyed}{Q:Option Bool->SortSt->Prop}(hk:kindOf st=Z0.κ)(gx:Z0.g x)(gy:Z0.g y)(h:Q (some (decide (Z0.k x<Z0.k y))) st):Wz Z0 (lt' x y) Q st:=by
 rw [lt'_eq];refine Aj (wpS_get ?_);rw [hk];refine Aj (wpS_lift (wpAny_attempt (Ce (H x y gx gy) (λb d a=>?_) λ_ _ c=>c.elim)));obtain ⟨rfl,rfl⟩:=a;exact ⟨rfl,Ai h⟩
def Do{arr:AK}{x:Keyed}{Q:Keyed->SortSt->Prop}{st:SortSt}(hx:arr[i]?=some x)(h:Q x st):Wz Z0 (elem' arr i) Q st:=by
 rw [elem'_eq,hx];exact Ai h
def Bl{α:Type}{c:Prop} [Decidable c] {m n:SX α} {Q:α->SortSt->Prop} {st:SortSt} (h:c->Wz Z0 m Q st) (k:¬c->Wz Z0 n Q st):Wz Z0 (if c then m else n) Q st:=by
 split
 .exact h ‹_›
 .exact k ‹_›
def Ej{α:Type}{x y:Nat}{m n:SX α}{Q:α->SortSt->Prop}{st:SortSt}(h:x=y->Wz Z0 m Q st)(k:x≠y->Wz Z0 n Q st):Wz Z0 (if (x==y)=true then m else n) Q st :=
 Bl (λc=>h (beq_iff_eq.mp c)) λc=>k λe=>c (beq_iff_eq.mpr e)
def Tu{β:Type}(D I:β->SortSt->Prop)(r:ForInStep β)(st:SortSt):Prop:=match r with
 | .done c=>D c st
 | .yield c=>I c st
def Qo{α β:Type}{n m:Nat}{x:β}{f:Nat->β->SX (ForInStep β)}{k:β->SX α}{Q:α->SortSt->Prop}{st:SortSt}(I:Nat->β->SortSt->Prop)(D:β->SortSt->Prop)(l:n<=m)
  (a:∀i c st,n<=i->i<m->I i c st->Wz Z0 (f i c) (Tu D (I (i+1))) st) (b:∀c st,I m c st->D c st) (i:I n x st) (d:∀c st,D c st->Wz Z0 (k c) Q st):Wz Z0 (forIn [n:m] x f >>= k) Q st :=
 Aj (wpS_mono (wpS_forRange I (λi c st h e z=>wpS_mono (a i c st h e z) λr _ z=>by cases r<;>exact z) (λc st h=>b c st (by rwa [Nat.max_eq_right l] at h)) i) d)
def Ms{α β:Type}{n:Nat}{x:β}{f:β->SX (ForInStep β)}{k:β->SX α}{Q:α->SortSt->Prop}{st:SortSt}(I:Nat->β->SortSt->Prop)(D:β->SortSt->Prop)
  (a:∀i c st,i<n->I i c st->Wz Z0 (f c) (Tu D (I (i+1))) st) (b:∀c st,I n c st->D c st) (i:I 0 x st) (d:∀c st,D c st->Wz Z0 (k c) Q st):Wz Z0 (forIn [0:n] x (λ_ c=>f c) >>= k) Q st :=
 Qo I D (Bw _) (λi c st _=>a i c st) b i d
noncomputable def gB(left:Bool)(key:Keyed)(arr:AK)(i:Nat):SX (Option Bool):=do
 let x <-elem' arr i
 if left then lt' x key else return (<-lt' key x).map (!·)
abbrev G3:=Option (Option Nat)×Nat×Nat
noncomputable def gL(G:Nat->SX (Option Bool))(e:Bool->Bool)(g:Nat->Nat)(m:Nat)(c:G3):SX (ForInStep G3) :=
 if c.2.2>=m then pure (.done (none,c.2.1,c.2.2)) else do
 match <-G (g c.2.2) with
 | some r=>if e r then pure (.done (none,c.2.1,c.2.2)) else pure (.yield (none,c.2.2,2*c.2.2+1))
 | _=>pure (.done (some none,c.2.1,c.2.2))
def gS(G:Nat->SX (Option Bool))(c:G3):SX (ForInStep G3) :=
 if c.2.1>=c.2.2 then pure (.done (none,c.2.1,c.2.2)) else do
 match <-G (c.2.1+(c.2.2 - c.2.1)/2) with
 | some r=>if r then pure (.yield (none,c.2.1+(c.2.2 - c.2.1)/2+1,c.2.2)) else pure (.yield (none,c.2.1,c.2.1+(c.2.2 - c.2.1)/2))
 | _=>pure (.done (some none,c.2.1,c.2.2))
def gT(G:Nat->SX (Option Bool))(n l h:Nat):SX (Option Nat):=do
 let c <-forIn [0:n] (none,l,h) λ_=>gS G
 match c.1 with
 | some a=>pure a
 | none=>pure (some c.2.2)
def gU(G:Nat->SX (Option Bool))(e:Bool->Bool)(g:Nat->Nat)(n m:Nat)(k:Nat->Nat->SX (Option Nat)):SX (Option Nat):=do
 let c <-forIn [0:n] (none,0,1) λ_=>gL G e g m
 match c.1 with
 | some a=>pure a
 | none=>k c.2.1 c.2.2
def nR(left)(key)(arr)(base n hint):JQ left key arr base n hint=(do
 match <-gB left key arr (base+hint) with
 | some r=>if r then gU (λi=>gB left key arr (base+i)) not (λx=>hint+x) n (n - hint) λl o=>gT (λi=>gB left key arr (base+i)) n (hint+l+1) (hint+min o (n - hint)) else gU (λi=>gB left key arr (base+i)) id (λx=>hint - x) n (hint+1) λl o=>gT (λi=>gB left key arr (base+i)) n (hint+1 - min o (hint+1)) (hint - l)
 | _=>pure none):=by kernel_rfl
def aY{st:SortSt}{G:Nat->SX (Option Bool)}{e:Bool->Bool}{g:Nat->Nat}{n m:Nat}{k:Nat->Nat->SX (Option Nat)}{f:Nat->Bool}{Q:Option Nat->SortSt->Prop}(hG:∀x Q,x<m->Q (some (f x)) st->Wz Z0 (G (g x)) Q st)(hm:m<=n)(m0:0<m)(h0:e (f 0)=false)
  (h:∀l o,l<o->l<m->e (f l)=false->m<=o\/(o<m/\e (f o)=true)->Wz Z0 (k l o) Q st):Wz Z0 (gU G e g n m k) Q st:=by
 refine Ms (λx c a=>a=st/\c.1=none/\c.2.1<c.2.2/\c.2.1<m/\e (f c.2.1)=false/\x<c.2.2) (λc a=>a=st/\c.1=none/\c.2.1<c.2.2/\c.2.1<m/\e (f c.2.1)=false/\(m<=c.2.2\/c.2.2<m/\e (f c.2.2)=true)) ?_ ?_ ⟨rfl,rfl,Nat.one_pos,m0,h0,Nat.one_pos⟩ ?_
 .rintro x ⟨_,l,o⟩ _ s ⟨rfl,rfl,b,i,j,p⟩;refine Bl (λc=>Ai ⟨rfl,rfl,b,i,j,.inl c⟩) λc=>Aj (hG _ _ (JZ c) (Bl (λd=>Ai ⟨rfl,rfl,b,i,j,.inr ⟨JZ c,d⟩⟩) λd=>Ai ⟨rfl,rfl,?_,JZ c,Jy.mpr d,?_⟩))
  .exact Nat.lt_succ_of_le (Nat.le_mul_of_pos_left _ Nat.two_pos)
  .exact Nat.succ_lt_succ (Aw p (Nat.le_mul_of_pos_left _ Nat.two_pos))
 .rintro c _ ⟨q,r,b,i,j,p⟩;exact ⟨q,r,b,i,j,.inl (Ak hm (Ay p))⟩
 .rintro ⟨_,l,o⟩ _ ⟨rfl,rfl,b,i,j,p⟩;exact h l o b i j p
def ZyA{st:SortSt}{G:Nat->SX (Option Bool)}{n l r:Nat}{f:Nat->Bool}{Q:Option Nat->SortSt->Prop}(hG:∀x Q,x<n->Q (some (f x)) st->Wz Z0 (G x) Q st)(h1:l<=r)(h2:r<=n)(h3:l=0\/f (l - 1)=true)(h4:r=n\/f r=false)
  (h:∀k,k<=n->(k=0\/f (k - 1)=true)->(k=n\/f k=false)->Q (some k) st):Wz Z0 (gT G n l r) Q st:=by
 refine Ms (λx c g=>g=st/\c.1=none/\c.2.1<=c.2.2/\c.2.2<=n/\c.2.2+x<=n+c.2.1/\(c.2.1=0\/f (c.2.1 - 1)=true)/\(c.2.2=n\/f c.2.2=false)) (λc g=>g=st/\c.1=none/\c.2.2<=n/\(c.2.2=0\/f (c.2.2 - 1)=true)/\(c.2.2=n\/f c.2.2=false)) ?_ ?_ ⟨rfl,rfl,h1,h2,Ak h2 (Dz _ _),h3,h4⟩ ?_
 .rintro x ⟨_,l,r⟩ _ q ⟨rfl,rfl,o,i,j,m,p⟩;refine Bl (λc=>Ai ?_) λc=>?_
  .have e:l=r:=HW o c;subst e;exact ⟨rfl,rfl,i,m,p⟩
  .have a:l<=l+(r - l)/2:=Dz _ _;have b:l+(r - l)/2<r:=S9 (Nat.div_lt_self (G7 (JZ c)) Nat.one_lt_two);exact Aj (hG _ _ (Aw b i) (Bl (λd=>Ai ⟨rfl,rfl,b,i,JL (Ak j (Dj a n)),.inr d,p⟩) λd=>Ai ⟨rfl,rfl,a,Ak (Ay b) i,Aw (Nat.add_lt_add_right b x) j,m,.inr (Jy.mpr d)⟩))
 .rintro ⟨_,l,r⟩ _ ⟨rfl,rfl,o,i,j,m,p⟩;have e:l=r:=HW o (Nat.le_of_add_le_add_left (a:=n) (Ja r n▸j));subst e;exact ⟨rfl,rfl,i,m,p⟩
 .rintro ⟨_,l,r⟩ _ ⟨rfl,rfl,o,j,m⟩;exact Ai (h r o j m)
end
def Srt(kf:Keyed->Int)(l:List Keyed):Prop:=l.Pairwise λx y=>kf x<=kf y
def dL(a b o:AK)(i j:Nat):AK:=o++a.extract i a.size++b.extract j b.size
def fL(a b o:AK)(i j:Nat):AK:=o++b.extract j b.size++a.extract i a.size
def dH(a b o:AK)(i j:Nat):AK:=a.extract 0 i++b.extract 0 j++o.reverse
def fH(a b o:AK)(i j:Nat):AK:=b.extract 0 j++a.extract 0 i++o.reverse
abbrev PS(kf:Keyed->Int)(T:List Keyed)(m:AK):Prop:=m.toList.Perm T/\Srt kf m.toList
structure Mi(kf:Keyed->Int)(T out A B:List Keyed):Prop where
 perm:(out++(A++B)).Perm T
 srt:Srt kf out
 le:∀x∈out,∀y,y∈A\/y∈B->kf x<=kf y
 sA:Srt kf A
 sB:Srt kf B
section
variable{kf:Keyed->Int}{T out A B l A' B':List Keyed}
def Mi.swap(M:Mi kf T out A B):Mi kf T out B A :=
 ⟨(List.perm_append_comm.append_left out).trans M.perm,M.srt,λx a y b=>M.le x a y b.symm,M.sB,M.sA⟩
def Mi.takeA(M:Mi kf T out (l++A') B)(h:∀x∈l,∀y∈B,kf x<=kf y):Mi kf T (out++l) A' B:=by
 have s:=NP.mp M.sA;refine ⟨?_,?_,λx hx y hy=>?_,s.2.1,M.sB⟩
 .have p:=M.perm;rw [Fx] at p ⊢;exact p
 .exact NP.mpr ⟨M.srt,s.1,λx hx y hy=>M.le x hx y (.inl (QL _ hy))⟩
 .rcases Gv.mp hx with hx | hx
  .exact M.le x hx y (hy.imp (DR _) id)
  .rcases hy with hy | hy
   .exact s.2.2 x hx y hy
   .exact h x hx y hy
def Mi.takeB(M:Mi kf T out A (l++B'))(h:∀x∈l,∀y∈A,kf x<=kf y):Mi kf T (out++l) A B':=(M.swap.takeA h).swap
def Mi.fin(M:Mi kf T out A B)(h:A=[]\/B=[]):(out++A++B).Perm T/\Srt kf (out++A++B):=by
 refine ⟨by rw [Fx];exact M.perm,?_⟩;rcases h with rfl | rfl
 .rw [CN];exact NP.mpr ⟨M.srt,M.sB,λx b y a=>M.le x b y (.inr a)⟩
 .rw [CN];exact NP.mpr ⟨M.srt,M.sA,λx b y a=>M.le x b y (.inl a)⟩
def Mi.last(M:Mi kf T out A B)(h:∀x∈A,∀y∈B,kf y<=kf x):(out++B++A).Perm T/\Srt kf (out++B++A):=by
 have N:=Mi.takeA (l:=B) (A':=[]) (B:=A) (by rw [CN];exact M.swap) (λx b y a=>h y a x b);have F:=N.fin (.inl rfl);rwa [CN] at F
end
structure Sm(st st':SortSt):Prop where
 k:kindOf st'=kindOf st
 a:arrOf st'=arrOf st
 p:pendingOf st'=pendingOf st
 f:failedOf st'=failedOf st
def Sm.refl(st):Sm st st:=⟨rfl,rfl,rfl,rfl⟩
def Zoa(g):Mu g=modify λs=>SortSt.mk' (kindOf s) (arrOf s) (pendingOf s) g (failedOf s):=rfl
section
variable{kf:Keyed->Int}{T:List Keyed}{a b:AK}
def Rw{x:Keyed}(h:a[i]?=some x):a.toList.drop i=x::a.toList.drop (i+1):=by
 obtain ⟨b,rfl⟩:=Ls.mp h;rw [<-Array.getElem_toList b,J9]
def vM(i k):(a.extract i (i+k)).toList=(a.toList.drop i).take k:=by
 rw [JG,Kg,Lf]
def Tc(i):(a.extract i a.size).toList=a.toList.drop i:=by
 rw [JG,Kg];exact Hv (by simp)
def jJ{x:Keyed}(s:Srt kf (x::l))(hy:y∈x::l):kf x<=kf y:=by
 rcases BV.mp hy with rfl | hy
 .exact Jq _
 .exact (Dq.mp s).1 y hy
abbrev R(kf:Keyed->Int)(T:List Keyed)(a b out:AK)(ia ib:Nat):Prop:=Mi kf T out.toList (a.toList.drop ia) (b.toList.drop ib)
def R.pB{x:Keyed}(M:R kf T a b out ia ib)(hx:b[ib]?=some x)(h:∀y,a[ia]?=some y->kf x<=kf y):R kf T a b (out.push x) ia (ib+1):=by
 unfold R at M ⊢;rw [Rw hx] at M;rw [Array.toList_push];refine Mi.takeB (l:=[x]) M λz d y c=>?_;rw [HR.mp d];cases e:a[ia]? with
 | none=>
  have:=Array.getElem?_eq_none_iff.mp e;rw [Np (by simpa using this)] at c;cases c
 | some u=>
  have s:=M.sA;rw [Rw e] at c s;exact Fg (h u e) (jJ s c)
def R.swap(M:R kf T a b out ia ib):R kf T b a out ib ia:=Mi.swap M
def R.pA{x:Keyed}(M:R kf T a b out ia ib)(hx:a[ia]?=some x)(h:∀y,b[ib]?=some y->kf x<=kf y):R kf T a b (out.push x) (ia+1) ib:=(M.swap.pB hx h).swap
def R.eA(M:R kf T a b out ia ib)(h:∀i,i<k->∀x y,a[ia+i]?=some x->b[ib]?=some y->kf x<=kf y):R kf T a b (out++a.extract ia (ia+k)) (ia+k) ib:=by
 unfold R at M ⊢;rw [Hi,vM];have e:a.toList.drop ia=(a.toList.drop ia).take k++a.toList.drop (ia+k):=by
  rw [<-List.drop_drop,KN]
 have f:=M;rw [e] at f;refine Mi.takeA f λz j y c=>?_;obtain ⟨i,g,rfl⟩:=Ef.mp j;rw [Eb] at g;have d:a[ia+i]?=some (((a.toList.drop ia).take k)[i]):=by
  rw [<-GQ,List.getElem_take,List.getElem_drop,BL]
 cases eb:b[ib]? with
 | none=>
  have:=Array.getElem?_eq_none_iff.mp eb;rw [Np (by simpa using this)] at c;cases c
 | some u=>
  have s:=M.sB;rw [Rw eb] at c s;exact Fg (h i (by lia) _ u d eb) (jJ s c)
def R.eB(M:R kf T a b out ia ib)(h:∀i,i<k->∀x y,b[ib+i]?=some x->a[ia]?=some y->kf x<=kf y):R kf T a b (out++b.extract ib (ib+k)) ia (ib+k):=(M.swap.eA h).swap
def R.fin(M:R kf T a b out ia ib)(h:ia=a.size\/ib=b.size):PS kf T (dL a b out ia ib):=by
 rw [PS,dL,Hi,Hi,Tc,Tc];refine Mi.fin M ?_;rcases h with rfl | rfl
 .exact .inl (Np (by simp))
 .exact .inr (Np (by simp))
def R.last(M:R kf T a b out ia ib)(h:ia+1=a.size)(h2:∀y∈b.toList,∀x,a[a.size - 1]?=some x->kf y<=kf x):PS kf T (fL a b out ia ib):=by
 rw [PS,fL,Hi,Hi,Tc,Tc];refine Mi.last M λx c y d=>?_;have e:a[ia]?=some (a[ia]'(by lia)):=Fp _;rw [Rw e,Np (by simp;lia),HR] at c;subst c;exact h2 y (Le d) _ (by rw [show a.size - 1=ia by lia];exact e)
end
section
variable{Z0:Zc}
def Q0{g:Nat}{st:SortSt}{Q:Unit->SortSt->Prop}(h:∀st',Sm st st'->Q () st'):Wz Z0 (Mu g) Q st:=by
 rw [Zoa];exact Jb (h _ ⟨rfl,rfl,rfl,rfl⟩)
def Sm.trans{a b c:SortSt}(h:Sm a b)(k:Sm b c):Sm a c:=⟨k.k.trans h.k,k.a.trans h.a,k.p.trans h.p,k.f.trans h.f⟩
def Et{a:AK}{x:Keyed}(h:a[i]?=some x):x∈a.toList:=by
 obtain ⟨b,rfl⟩:=Ls.mp h;exact Array.getElem_mem_toList b
def Ma{a:AK}(h:Srt kf a.toList){x:Keyed}(hij:i<=j)(hx:a[i]?=some x)(hy:a[j]?=some y):kf x<=kf y:=by
 obtain ⟨c,rfl⟩:=Ls.mp hx;obtain ⟨b,rfl⟩:=Ls.mp hy;by_cases e:i=j
 .subst e;exact Jq _
 .have:=Jc.mp h i j (by simpa using c) (by simpa using b) (by lia);simpa using this
def qt{l:Bool}{a b k:Int}(h:a<=b):(if l=true then b<k else b<=k)->if l=true then a<k else a<=k:=by
 cases l with
 | true=>exact Int.lt_of_le_of_lt h
 | false=>exact Fg h
def yU{l:Bool}{a k:Int}(h:¬if l=true then a<k else a<=k):if l=true then k<=a else k<a:=by
 cases l with
 | true=>exact Jl.mp h
 | false=>exact Int.not_le.mp h
def Lj(H:HL Z0){st:SortSt}(hk:kindOf st=Z0.κ){left:Bool}{key:Keyed}{a:AK}{hint:Nat}{Q:Option Nat->SortSt->Prop}(gk:Z0.g key)(ga:∀x∈a.toList,Z0.g x)(sa:∀u v x y,i<=u->u<=v->v<i+n->a[u]?=some x->a[v]?=some y->Z0.k x<=Z0.k y)(hn:i+n<=a.size)(hh:hint<n)(h:∀k,k<=n->(∀j,j<k->∀x,a[i+j]?=some x->if left=true then Z0.k x<Z0.k key else Z0.k x<=Z0.k key)->(∀j,k<=j->j<n->∀x,a[i+j]?=some x->if left=true then Z0.k key<=Z0.k x else Z0.k key<Z0.k x)->Q (some k) st):Wz Z0 (JQ left key a i n hint) Q st:=by
 obtain ⟨X,e⟩ : ∃X:Nat->Keyed,∀j,j<n->a[i+j]?=some (X j):=⟨λj=>a.getD (i+j) (Value.none,Value.none),λj b=>by
  dsimp only;rw [Array.getD_eq_getD_getElem?,Fp (Aw (J6 b i) hn)]
  rfl⟩
 obtain ⟨f,E⟩ : ∃f:Nat->Bool,∀j,f j=if left=true then decide (Z0.k (X j)<Z0.k key) else !decide (Z0.k key<Z0.k (X j)):=⟨_,λ_=>rfl⟩;have w:∀j,f j=true↔if left=true then Z0.k (X j)<Z0.k key else Z0.k (X j)<=Z0.k key:=λj=>by
  rw [E];cases left<;>simp
 have d:∀u v,u<=v->v<n->f v=true->f u=true:=λu v F C h=>(w u).mpr (qt (sa (i+u) (i+v) _ _ (Dz _ _) (Dj F i) (J6 C i) (e u (DN F C)) (e v C)) ((w v).mp h));have G:∀j (Q:Option Bool->SortSt->Prop),j<n->Q (some (f j)) st->Wz Z0 (gB left key a (i+j)) Q st:=by
  intro j Q b A;refine Aj (Do (e j b) ?_);have I:=ga _ (Et (e j b));rw [E] at A;cases left
  .exact Aj (O8 H hk gk I (Ai A))
  .exact O8 H hk I gk A
 have T:∀{l r},l<=r->r<=n->(l=0\/f (l - 1)=true)->(r=n\/f r=false)->Wz Z0 (gT (λj=>gB left key a (i+j)) n l r) Q st:=λL J M K=>ZyA G L J M K λk m s t=>h k m (λj b x q=>by
   rw [e j (Aw b m)] at q;cases q
   exact (w j).mp (d j (k - 1) (GX b) (Aw (Dg (Hq b) Nat.one_pos) m) (s.resolve_left (CK (Hq b))))) λj b p x q=>by
   rw [e j p] at q;cases q;exact yU (mt (w j).mpr λy=>Jy.mp (t.resolve_left (Am (DN b p))) (d k j b p y))
 rw [nR];refine Aj (G hint _ hh (Bl (λc=>aY (f:=λx=>f (hint+x)) (λx Q q=>G (hint+x) Q (S9 q)) (Fy _ _) (G7 hh) (Ew not c) λl o s t B D=>T (Dj (Nat.le_min.mpr ⟨s,t⟩) hint) (Ak (Dj (Nat.min_le_right _ _) _) (HD (Hj (Ay hh)))) (.inr (Bool.not_eq_false' .. |>.mp B)) (D.imp (λz=>by rw [Nat.min_eq_right z,Hj (Ay hh)]) λz=>by rw [G6 (Ay z.1)];exact Bool.not_eq_true' .. |>.mp z.2)) λc=>aY (f:=λx=>f (hint - x)) (λx Q _=>G (hint - x) Q (DN (Fy _ _) hh)) hh (Nat.succ_pos _) (Jy.mpr c) λl o s t B D=>T (Ak (Nat.sub_le_sub_left (Nat.le_min.mpr ⟨s,t⟩) (hint+1)) (HD (Nat.add_sub_add_right hint 1 l))) (Ak (Fy _ _) (Ay hh)) (D.imp (λz=>by rw [Nat.min_eq_right z,Nat.sub_self]) λz=>by rw [G6 (Ay z.1),Nat.sub_right_comm,Nat.add_sub_cancel];exact z.2) (.inr B)))
def dec1{i j y:Nat}(h:1<=i)(k:i+j<=y+1):i - 1+j<=y:=by lia
def dec2{i j y:Nat}(h:1<=j)(k:i+j<=y+1):i+(j - 1)<=y:=by lia
def Js{α β:Type}{n:Nat}{x:β}{f:β->SX (ForInStep β)}{k:β->SX α}{Q:α->SortSt->Prop}{st:SortSt}(I:Nat->β->SortSt->Prop)(D:β->SortSt->Prop)
  (a:∀i c st,I (i+1) c st->Wz Z0 (f c) (Tu D (I i)) st) (b:∀c st,I 0 c st->D c st) (i:I n x st) (d:∀c st,D c st->Wz Z0 (k c) Q st):Wz Z0 (forIn [0:n] x (λ_ c=>f c) >>= k) Q st :=
 Ms (λx=>I (n - x)) D (λx c st h z=>by
  rw [<-Nat.sub_add_cancel (G7 h),Nat.sub_sub] at z
  exact a _ c st z) (λc st h=>b c st (by rwa [Nat.sub_self] at h)) i d
end
abbrev L7:=Option AK×AK×Nat×Nat×Nat×Nat×Nat
abbrev L6:=Option AK×AK×Nat×Nat×Nat×Nat
abbrev L5:=Option AK×AK×Nat×Nat×Nat
noncomputable def lA{β:Type}(a o:AK)(i:Nat)(r k:AK->SX β):SX β:=do
 let x <-elem' a i
 if i+1+1==a.size then r (o.push x) else k (o.push x)
noncomputable def lB{β:Type}(b o:AK)(j:Nat)(r k:AK->SX β):SX β:=do
 let x <-elem' b j
 if j+1==b.size then r (o.push x) else k (o.push x)
def lo3(a b:AK)(m d e i j:Nat)(o:AK):SX (ForInStep L7) :=
 lA a o i (λo=>pure (.done (some (fL a b o (i+1) j),o,i+1,j,m,d,e))) λo=>if d<7&&e<7 then pure (.done (none,o,i+1,j,m,d,e)) else pure (.yield (none,o,i+1,j,m,d,e))
def lo2(a b:AK)(m d e i j:Nat)(o:AK):SX (ForInStep L7) :=
 lB b o j (λo=>pure (.done (some (dL a b o i (j+1)),o,i,j+1,m,d,e))) λo=>do
  let y <-elem' a i
  match <-JQ true y b (j+1) (b.size - (j+1)) 0 with
  | some k=>
   if k>0 then
    if j+1+k==b.size then pure (.done (some (dL a b (o++b.extract (j+1) (j+1+k)) i (j+1+k)),o++b.extract (j+1) (j+1+k),i,j+1+k,m,d,k))
    else lo3 a b m d k i (j+1+k) (o++b.extract (j+1) (j+1+k))
   else lo3 a b m d k i (j+1) o
  | _=>pure (.done (some (dL a b o i (j+1)),o,i,j+1,m,d,e))
def lo1(a b:AK)(m d e i j:Nat)(o:AK):SX (ForInStep L7):=do
 Mu m
 let x <-elem' b j
 match <-JQ false x a i (a.size - i) 0 with
 | some k=>
  if k>0 then
   if i+k+1==a.size then pure (.done (some (fL a b (o++a.extract i (i+k)) (i+k) j),o++a.extract i (i+k),i+k,j,m,k,e))
   else if i+k==a.size then pure (.done (some (dL a b (o++a.extract i (i+k)) (i+k) j),o++a.extract i (i+k),i+k,j,m,k,e))
   else lo2 a b m k e (i+k) j (o++a.extract i (i+k))
  else lo2 a b m k e i j o
 | _=>pure (.done (some (dL a b o i j),o,i,j,m,d,e))
def lo0(a b:AK)(m:Nat)(o:AK)(i j d e:Nat):SX (ForInStep L6):=do
 let y <-elem' b j
 let x <-elem' a i
 match <-lt' y x with
 | some r=>
  if r then lB b o j (λo=>pure (.done (some (dL a b o i (j+1)),o,i,j+1,0,e+1))) λo=>if e+1>=m then pure (.done (none,o,i,j+1,0,e+1)) else pure (.yield (none,o,i,j+1,0,e+1))
  else lA a o i (λo=>pure (.done (some (fL a b o (i+1) j),o,i+1,j,d+1,0))) λo=>if d+1>=m then pure (.done (none,o,i+1,j,d+1,0)) else pure (.yield (none,o,i+1,j,d+1,0))
 | _=>pure (.done (some (dL a b o i j),o,i,j,d,e))
def loL(a b:AK)(c:L5):SX (ForInStep L5):=do
 let c' <-forIn [0:a.size+b.size] (none,c.2.1,c.2.2.1,c.2.2.2.1,0,0) λ_ r=>lo0 a b c.2.2.2.2 r.2.1 r.2.2.1 r.2.2.2.1 r.2.2.2.2.1 r.2.2.2.2.2
 match c'.1 with
 | some r=>pure (.done (some r,c'.2.1,c'.2.2.1,c'.2.2.2.1,c.2.2.2.2))
 | none=>do
  rule "list.sort.gallop"
  let e <-forIn [0:a.size+b.size] (none,c'.2.1,c'.2.2.1,c'.2.2.2.1,c.2.2.2.2+1,c'.2.2.2.2.1,c'.2.2.2.2.2) λ_ r=>if r.2.2.2.2.1>1 then lo1 a b (r.2.2.2.2.1 - 1) r.2.2.2.2.2.1 r.2.2.2.2.2.2 r.2.2.1 r.2.2.2.1 r.2.1 else lo1 a b r.2.2.2.2.1 r.2.2.2.2.2.1 r.2.2.2.2.2.2 r.2.2.1 r.2.2.2.1 r.2.1
  match e.1 with
  | some r=>pure (.done (some r,e.2.1,e.2.2.1,e.2.2.2.1,e.2.2.2.2.1))
  | none=>do
   Mu (e.2.2.2.2.1+1)
   pure (.yield (none,e.2.1,e.2.2.1,e.2.2.2.1,e.2.2.2.2.1+1))
def Zja(a b):Vl a b=(do
 rule "list.sort.merge-lo"
 let x <-elem' b 0
 if 1==b.size then pure (dL a b #[x] 0 1)
 else if 0+1==a.size then pure (fL a b #[x] 0 1)
 else do
  let s <-get
  let c <-forIn [0:a.size+b.size] (none,#[x],0,1,gallopOf s) λ_=>loL a b
  match c.1 with
  | some r=>pure r
  | none=>unsupported "internal:list.sort.merge-bound"):=by kernel_rfl
section
variable{Z0:Zc}{st st':SortSt}{a b o:AK}{Q:AK->SortSt->Prop}
structure Hc(Z0:Zc)(st:SortSt)(a b:AK):Prop where
 H:HL Z0
 k:kindOf st=Z0.κ
 ga:∀x∈a.toList,Z0.g x
 gb:∀x∈b.toList,Z0.g x
 sa:Srt Z0.k a.toList
 sb:Srt Z0.k b.toList
 a1:1<=a.size
 b1:1<=b.size
 h1:∀x∈a.toList,∀y,b[0]?=some y->Z0.k y<=Z0.k x
 h2:∀y∈b.toList,∀x,a[a.size - 1]?=some x->Z0.k y<=Z0.k x
def Mq(Z0:Zc)(st:SortSt)(a b:AK)(Q:AK->SortSt->Prop):Prop:=∀m c,Sm st c->PS Z0.k (a.toList++b.toList) m->Q m c
structure LI(Z0:Zc)(st:SortSt)(a b:AK)(st':SortSt)(o:AK)(i j:Nat):Prop where
 S:Sm st st'
 M:R Z0.k (a.toList++b.toList) a b o i j
 i1:i+1<a.size
 j1:j<b.size
def inc1{t i j y:Nat}(h:t<=i+j+(y+1)):t<=i+1+j+y:=by lia
def inc2{t i j y:Nat}(h:t<=i+j+(y+1)):t<=i+(j+1)+y:=by lia
def inc3{t i j y k:Nat}(h:t<=i+j+y):t<=i+k+j+y:=by lia
def inc4{t i j y k:Nat}(h:t<=i+j+y):t<=i+(j+k)+y:=by lia
def at0(h:i<a.size):∃x,a[i]?=some x:=⟨_,Fp h⟩
abbrev lD(Z0:Zc)(st:SortSt)(a b:AK)(Q:AK->SortSt->Prop)(Y0:Nat){γ:Type}(c:Option AK×AK×Nat×Nat×γ)(st':SortSt):Prop:=(∃r,c.1=some r/\Q r st')\/(c.1=none/\LI Z0 st a b st' c.2.1 c.2.2.1 c.2.2.2.1/\a.size+b.size<=c.2.2.1+c.2.2.2.1+Y0)
abbrev lJ(Z0:Zc)(st:SortSt)(a b:AK)(Y0 y:Nat){γ:Type}(c:Option AK×AK×Nat×Nat×γ)(st':SortSt):Prop:=c.1=none/\LI Z0 st a b st' c.2.1 c.2.2.1 c.2.2.2.1/\a.size+b.size<=c.2.2.1+c.2.2.2.1+Y0/\a.size+b.size<=c.2.2.1+c.2.2.2.1+y
def ir{x:Keyed}(q:Mq Z0 st a b Q)(I:LI Z0 st a b st' o i j){β:Type}{P:β->SortSt->Prop}{r k:AK->SX β}(e:b[j]?=some x)(g:∀u,a[i]?=some u->Z0.k x<=Z0.k u)
  (h:∀o,Q (dL a b o i (j+1)) st'->Wz Z0 (r o) P st') (h':∀o,LI Z0 st a b st' o i (j+1)->Wz Z0 (k o) P st'):Wz Z0 (lB b o j r k) P st' :=
 have M:=I.M.pB e g
 Aj (Do e (Ej (λc=>h _ (q _ _ I.S (M.fin (.inr c)))) λc=>h' _ ⟨I.S,M,I.i1,HN I.j1 c⟩))
section
variable{y Y0 m d e:Nat}{x:Keyed}(U00:Hc Z0 st a b)(q:Mq Z0 st a b Q)(I:LI Z0 st a b st' o i j)
include U00 q I
def Zz{β:Type}{P:β->SortSt->Prop}{r k:AK->SX β}(e:a[i]?=some x)(g:∀u,b[j]?=some u->Z0.k x<=Z0.k u)
  (h:∀o,Q (fL a b o (i+1) j) st'->Wz Z0 (r o) P st') (h':∀o,LI Z0 st a b st' o (i+1) j->Wz Z0 (k o) P st'):Wz Z0 (lA a o i r k) P st' :=
 have M:=I.M.pA e g
 Aj (Do e (Ej (λc=>h _ (q _ _ I.S (M.last c U00.h2))) λc=>h' _ ⟨I.S,M,HN I.i1 c,I.j1⟩))
section
variable(l:a.size+b.size<=i+j+Y0)(l':a.size+b.size<=i+j+(y+1))
include l l'
def aL(ea:a[i]?=some x)(g:∀u,b[j]?=some u->Z0.k x<=Z0.k u):Wz Z0 (lo3 a b m d e i j o) (Tu (lD Z0 st a b Q Y0) (lJ Z0 st a b Y0 y)) st' :=
 Zz U00 q I ea g (λo h=>Ai (.inl ⟨_,rfl,h⟩)) λo h=>Bl (λ_=>Ai (.inr ⟨rfl,h,inc3 l⟩)) λ_=>Ai ⟨rfl,h,inc3 l,inc1 l'⟩
def jG(e':b[j]?=some x)(g:∀u,a[i]?=some u->Z0.k x<=Z0.k u):Wz Z0 (lo2 a b m d e i j o) (Tu (lD Z0 st a b Q Y0) (lJ Z0 st a b Y0 y)) st':=by
 refine ir q I e' g (λo h=>Ai (.inl ⟨_,rfl,h⟩)) λo h=>?_;obtain ⟨x,f⟩:=at0 (J2 I.i1);refine Aj (Do f (Aj (Lj U00.H (I.S.k.trans U00.k) (U00.ga _ (Et f)) U00.gb (λu v x y _ r _ s n=>Ma U00.sb r s n) (HD (Hj I.j1)) (G7 h.j1) λk w t p=>?_)));simp only [GZ] at t p;refine Bl (λc=>Ej (λc=>Ai (.inl ⟨_,rfl,?_⟩)) λc=>?_) λc=>?_
 all_goals have M:=h.M.eB (k:=k) λj A x y s n=>by rw [f] at n;cases n;exact Dt (t j A x s)
 .exact q _ _ I.S (M.fin (.inr c))
 .have z:=HN (Nat.add_le_of_le_sub' I.j1 w) c;exact aL U00 q ⟨I.S,M,I.i1,z⟩ (inc4 (inc4 l)) (inc4 (JM (inc2 l'))) f (p k (Ae _) (Nat.lt_sub_iff_add_lt'.mpr z))
 .have z:=Rt c;subst z;exact aL U00 q h (inc4 l) (JM (inc2 l')) f (p 0 (Ae _) (G7 h.j1))
def jV:Wz Z0 (lo1 a b m d e i j o) (Tu (lD Z0 st a b Q Y0) (lJ Z0 st a b Y0 y)) st':=by
 refine Aj (Q0 λA C=>?_);have S:=I.S.trans C;obtain ⟨x,f⟩:=at0 I.j1;have s:=Ay (J2 I.i1);refine Aj (Do f (Aj (Lj U00.H (S.k.trans U00.k) (U00.gb _ (Et f)) U00.ga (λu v x y _ n _ p g=>Ma U00.sa n p g) (HD (Hj s)) (G7 (J2 I.i1)) λk D t r=>?_)));simp only [DQ,Ca] at t r;refine Bl (λc=>Ej (λc=>Ai (.inl ⟨_,rfl,?_⟩)) λc=>Ej (λc=>Ai (.inl ⟨_,rfl,?_⟩)) λw=>?_) λc=>?_
 all_goals have M:=I.M.eA (k:=k) λi B x y p g=>by rw [f] at g;cases g;exact t i B x p
 .exact q _ _ S (M.last c U00.h2)
 .exact q _ _ S (M.fin (.inl c))
 .have z:=HN (Nat.add_le_of_le_sub' s D) w;exact jG U00 q ⟨S,M,HN z c,I.j1⟩ (inc3 l) (inc3 l') f λu h=>Dt (r k (Ae _) (Nat.lt_sub_iff_add_lt'.mpr z) u h)
 .have z:=Rt c;subst z;exact jG U00 q ⟨S,I.M,I.i1,I.j1⟩ l l' f λu h=>Dt (r 0 (Ae _) (G7 (J2 I.i1)) u h)
end
def zA(l:a.size+b.size<=i+j+(Y0+1))(l':a.size+b.size<=i+j+(y+1)):Wz Z0 (lo0 a b m o i j d e) (Tu (lD Z0 st a b Q Y0) (lJ Z0 st a b (Y0+1) y)) st':=by
 obtain ⟨x,n⟩:=at0 I.j1;obtain ⟨z,g⟩:=at0 (J2 I.i1);refine Aj (Do n (Aj (Do g (Aj (O8 U00.H (I.S.k.trans U00.k) (U00.gb _ (Et n)) (U00.ga _ (Et g)) (Bl (λc=>?_) λc=>?_))))))
 .exact ir q I n (λu f=>by rw [g] at f;cases f;exact Dt (K6 c)) (λo h=>Ai (.inl ⟨_,rfl,h⟩)) λo h=>Bl (λ_=>Ai (.inr ⟨rfl,h,inc2 l⟩)) λ_=>Ai ⟨rfl,h,inc4 l,inc2 l'⟩
 .exact Zz U00 q I g (λu f=>by rw [n] at f;cases f;exact Jl.mp λz=>c (Dv z)) (λo h=>Ai (.inl ⟨_,rfl,h⟩)) λo h=>Bl (λ_=>Ai (.inr ⟨rfl,h,inc1 l⟩)) λ_=>Ai ⟨rfl,h,inc3 l,inc1 l'⟩
end
def LI.no{p:Prop}(I:LI Z0 st a b st' o i j)(h:a.size+b.size<=i+j+0):p:=aB (show a.size+b.size<=i+j from h) (Nat.not_le_of_lt (Nat.add_lt_add (J2 I.i1) I.j1))
def oK(X:Hc Z0 st a b)(q:Mq Z0 st a b Q):Wz Z0 (Vl a b) Q st:=by
 rw [Zja];obtain ⟨x,e⟩:=at0 X.b1;refine Aj (wpS_lift (Gj ⟨rfl,Aj (Do e ?_)⟩));have u:R Z0.k (a.toList++b.toList) a b #[] 0 0:=⟨List.Perm.refl _,List.Pairwise.nil,(λx t=>by cases t),X.sa,X.sb⟩;have M:R Z0.k (a.toList++b.toList) a b #[x] 0 1:=u.pB e λy p=>X.h1 y (Et p) x e;refine Ej (λc=>Ai (q _ _ (Sm.refl _) (M.fin (.inr c)))) λw=>Ej (λc=>Ai (q _ _ (Sm.refl _) (M.last c X.h2))) λn=>Aj (wpS_get ?_);refine Js (λy c f=>c.1=none/\LI Z0 st a b f c.2.1 c.2.2.1 c.2.2.2.1/\a.size+b.size<=c.2.2.1+c.2.2.2.1+y) (λc f=>∃r,c.1=some r/\Q r f) ?_ (λc f h=>h.2.1.no h.2.2) ⟨rfl,⟨Sm.refl _,M,HN X.a1 n,HN X.b1 w⟩,Pq _ _⟩ ?_
 .rintro g ⟨_,o,i,j,m⟩ f ⟨rfl,I,l⟩;refine Js (λy=>lJ Z0 st a b (g+1) y) (lD Z0 st a b Q g) (λy c f h=>zA X q h.2.1 h.2.2.1 h.2.2.2) (λc f h=>h.2.1.no h.2.2.2) ⟨rfl,I,l,Pq _ _⟩ ?_;rintro ⟨c,o,i,j,d,e⟩ f (⟨r,rfl,h⟩ | ⟨rfl,I,l⟩)
  .exact Ai ⟨_,rfl,h⟩
  refine Aj (wpS_lift (Gj ⟨rfl,?_⟩));refine Js (λy=>lJ Z0 st a b g y) (lD Z0 st a b Q g) (λy c f h=>Bl (λ_=>jV X q h.2.1 h.2.2.1 h.2.2.2) λ_=>jV X q h.2.1 h.2.2.1 h.2.2.2) (λc f h=>h.2.1.no h.2.2.2) ⟨rfl,I,l,Pq _ _⟩ ?_;rintro ⟨c,o,i,j,d,e⟩ f (⟨r,rfl,h⟩ | ⟨rfl,I,l⟩)
  .exact Ai ⟨_,rfl,h⟩
  exact Aj (Q0 λs v=>Ai ⟨rfl,⟨I.S.trans v,I.M,I.i1,I.j1⟩,l⟩)
 .rintro ⟨_,c⟩ f ⟨r,rfl,h⟩;exact Ai h
end
section
variable{kf:Keyed->Int}{T:List Keyed}{a b:AK}
abbrev kn(kf:Keyed->Int):Keyed->Int:=λx=>-kf x
def eU(h:Srt (kn kf) l):Srt kf l.reverse:=List.pairwise_reverse.mpr (h.imp λ{x y} (z:-kf x<=-kf y)=>by lia)
def dX(h:Srt kf l):Srt (kn kf) l.reverse:=List.pairwise_reverse.mpr (h.imp λ{x y} z=>by show -kf y<=-kf x;lia)
def take_snoc{x:Keyed}(h:a[i]?=some x):(a.toList.take (i+1)).reverse=x::(a.toList.take i).reverse:=by
 obtain ⟨b,rfl⟩:=Ls.mp h;rw [List.take_succ_eq_append_getElem (by simpa using b),List.reverse_append];simp
abbrev Rh(kf:Keyed->Int)(T:List Keyed)(a b out:AK)(na nb:Nat):Prop:=Mi (kn kf) T out.toList (a.toList.take na).reverse (b.toList.take nb).reverse
def Rh.swap(M:Rh kf T a b out na nb):Rh kf T b a out nb na:=Mi.swap M
def cP{x:Keyed}(s:Srt kf a.toList)(hi:i<=a.size)(hy:y∈(a.toList.take i).reverse)(h:∀u,a[i - 1]?=some u->kf u<=kf x):kf y<=kf x:=by
 rw [List.mem_reverse] at hy;obtain ⟨j,b,rfl⟩:=Ef.mp hy;rw [Eb,Ea] at b;have e:a[i - 1]?=some (a[i - 1]'(by omega)):=Fp _;refine Fg (Ma (i:=j) (j:=i - 1) s (by omega) ?_ e) (h _ e);rw [List.getElem_take,Array.getElem_toList];exact Fp _
def Rh.pA{x:Keyed}(M:Rh kf T a b out na nb)(n1:1<=na)(hx:a[na - 1]?=some x)(sb:Srt kf b.toList)(hb:nb<=b.size)(h:∀u,b[nb - 1]?=some u->kf u<=kf x):Rh kf T a b (out.push x) (na - 1) nb:=by
 unfold Rh at M ⊢;rw [show na=na - 1+1 by lia,take_snoc hx] at M;rw [Array.toList_push];refine Mi.takeA (l:=[x]) M λz d y c=>?_;rw [HR.mp d];have:=cP sb hb c h;show -kf x<=-kf y
 lia
def Rh.pB{x:Keyed}(M:Rh kf T a b out na nb)(n1:1<=nb)(hx:b[nb - 1]?=some x)(sa:Srt kf a.toList)(ha:na<=a.size)(h:∀u,a[na - 1]?=some u->kf u<=kf x):Rh kf T a b (out.push x) na (nb - 1):=(M.swap.pA n1 hx sa ha h).swap
def Rh.eA(M:Rh kf T a b out na nb)(h1:at_<=na)(ha:na<=a.size)(sb:Srt kf b.toList)(hb:nb<=b.size)(h:∀j,at_<=j->j<na->∀x,a[j]?=some x->∀u,b[nb - 1]?=some u->kf u<=kf x):Rh kf T a b (out++(a.extract at_ na).reverse) at_ nb:=by
 unfold Rh at M ⊢;rw [Hi,Array.toList_reverse,JG,Kg];have e:(a.toList.take na).reverse=((a.toList.drop at_).take (na - at_)).reverse++(a.toList.take at_).reverse:=by
  rw [<-List.reverse_append];congr 1;have:=KN at_ (a.toList.take na);rw [List.take_take,G6 h1,List.drop_take] at this;exact this.symm
 rw [e] at M;refine Mi.takeA M λz f y g=>?_;rw [List.mem_reverse] at f;obtain ⟨j,d,rfl⟩:=Ef.mp f;rw [Eb,HY,Ea] at d;have c:a[at_+j]?=some (((a.toList.drop at_).take (na - at_))[j]'(by rw [Eb,HY,Ea];exact d)):=by
  rw [<-GQ,List.getElem_take,List.getElem_drop,BL]
 have:=cP sb hb g (h (at_+j) (by lia) (by lia) _ c);show -kf _<=-kf y
 lia
def Rh.eB(M:Rh kf T a b out na nb)(h1:at_<=nb)(hb:nb<=b.size)(sa:Srt kf a.toList)(ha:na<=a.size)(h:∀j,at_<=j->j<nb->∀x,b[j]?=some x->∀u,a[na - 1]?=some u->kf u<=kf x):Rh kf T a b (out++(b.extract at_ nb).reverse) na at_:=(M.swap.eA h1 hb sa ha h).swap
def TY(i):(a.extract 0 i).toList=a.toList.take i:=by
 rw [JG,Kg,NB,Nat.sub_zero]
def Rh.fin(M:Rh kf T a b out na nb)(h:na=0\/nb=0):PS kf T (dH a b out na nb):=by
 have e:(dH a b out na nb).toList=(out.toList++(b.toList.take nb).reverse++(a.toList.take na).reverse).reverse:=by
  rw [dH,Hi,Hi,TY,TY,Array.toList_reverse];simp
 rw [PS,e]
 have F:=Mi.fin M.swap (by
  rcases h with rfl | rfl
  .exact .inr (by simp)
  .exact .inl (by simp))
 exact ⟨(List.reverse_perm _).trans F.1,eU F.2⟩
def Rh.last(M:Rh kf T a b out na nb)(h:nb=1)(hb:1<=b.size)(h1:∀x∈a.toList,∀y,b[0]?=some y->kf y<=kf x):PS kf T (fH a b out na nb):=by
 have e:(fH a b out na nb).toList=(out.toList++(a.toList.take na).reverse++(b.toList.take nb).reverse).reverse:=by
  rw [fH,Hi,Hi,TY,TY,Array.toList_reverse];simp
 rw [PS,e];have F:=Mi.last M.swap λx d y f=>by
  have c:b[0]?=some (b[0]'(by lia)):=Fp _;rw [h,show 1=0+1 from rfl,take_snoc c,List.take_zero,List.reverse_nil,HR] at d;subst d;have:=h1 y (G5 (List.mem_reverse.mp f)) _ c;show -kf y<=-kf _
  lia
 exact ⟨(List.reverse_perm _).trans F.1,eU F.2⟩
end
abbrev R7:=Option AK×Nat×Nat×AK×Nat×Nat×Nat
abbrev R6:=Option AK×Nat×Nat×AK×Nat×Nat
noncomputable def hA{β:Type}(a o:AK)(i:Nat)(r k:AK->SX β):SX β:=do
 let x <-elem' a (i - 1)
 if i - 1==0 then r (o.push x) else k (o.push x)
noncomputable def hB{β:Type}(b o:AK)(j:Nat)(r k:AK->SX β):SX β:=do
 let x <-elem' b (j - 1)
 if j - 1==1 then r (o.push x) else k (o.push x)
def hi3(a b:AK)(m d e i j:Nat)(o:AK):SX (ForInStep R7) :=
 hA a o i (λo=>pure (.done (some (dH a b o (i - 1) j),i - 1,j,o,m,d,e))) λo=>if d<7&&e<7 then pure (.done (none,i - 1,j,o,m,d,e)) else pure (.yield (none,i - 1,j,o,m,d,e))
def hi2(a b:AK)(m d e i j:Nat)(o:AK):SX (ForInStep R7) :=
 hB b o j (λo=>pure (.done (some (fH a b o i (j - 1)),i,j - 1,o,m,d,e))) λo=>do
  let y <-elem' a (i - 1)
  match <-JQ true y b 0 (j - 1) (j - 1 - 1) with
  | some k=>
   if j - 1 - k>0 then
    if k==1 then pure (.done (some (fH a b (o++(b.extract k (j - 1)).reverse) i k),i,k,o++(b.extract k (j - 1)).reverse,m,d,j - 1 - k))
    else if k==0 then pure (.done (some (dH a b (o++(b.extract k (j - 1)).reverse) i k),i,k,o++(b.extract k (j - 1)).reverse,m,d,j - 1 - k))
    else hi3 a b m d (j - 1 - k) i k (o++(b.extract k (j - 1)).reverse)
   else hi3 a b m d (j - 1 - k) i (j - 1) o
  | _=>pure (.done (some (dH a b o i (j - 1)),i,j - 1,o,m,d,e))
def hi1(a b:AK)(m d e i j:Nat)(o:AK):SX (ForInStep R7):=do
 Mu m
 let x <-elem' b (j - 1)
 match <-JQ false x a 0 i (i - 1) with
 | some k=>
  if i - k>0 then
   if k==0 then pure (.done (some (dH a b (o++(a.extract k i).reverse) k j),k,j,o++(a.extract k i).reverse,m,i - k,e))
   else hi2 a b m (i - k) e k j (o++(a.extract k i).reverse)
  else hi2 a b m (i - k) e i j o
 | _=>pure (.done (some (dH a b o i j),i,j,o,m,d,e))
def hi0(a b:AK)(m i j:Nat)(o:AK)(d e:Nat):SX (ForInStep R6):=do
 let y <-elem' b (j - 1)
 let x <-elem' a (i - 1)
 match <-lt' y x with
 | some r=>
  if r then hA a o i (λo=>pure (.done (some (dH a b o (i - 1) j),i - 1,j,o,d+1,0))) λo=>if d+1>=m then pure (.done (none,i - 1,j,o,d+1,0)) else pure (.yield (none,i - 1,j,o,d+1,0))
  else hB b o j (λo=>pure (.done (some (fH a b o i (j - 1)),i,j - 1,o,0,e+1))) λo=>if e+1>=m then pure (.done (none,i,j - 1,o,0,e+1)) else pure (.yield (none,i,j - 1,o,0,e+1))
 | _=>pure (.done (some (dH a b o i j),i,j,o,d,e))
abbrev R5:=Option AK×Nat×Nat×AK×Nat
def hiL(a b:AK)(c:R5):SX (ForInStep R5):=do
 let c' <-forIn [0:a.size+b.size] (none,c.2.1,c.2.2.1,c.2.2.2.1,0,0) λ_ r=>hi0 a b c.2.2.2.2 r.2.1 r.2.2.1 r.2.2.2.1 r.2.2.2.2.1 r.2.2.2.2.2
 match c'.1 with
 | some r=>pure (.done (some r,c'.2.1,c'.2.2.1,c'.2.2.2.1,c.2.2.2.2))
 | none=>do
  rule "list.sort.gallop"
  let e <-forIn [0:a.size+b.size] (none,c'.2.1,c'.2.2.1,c'.2.2.2.1,c.2.2.2.2+1,c'.2.2.2.2.1,c'.2.2.2.2.2) λ_ r=>if r.2.2.2.2.1>1 then hi1 a b (r.2.2.2.2.1 - 1) r.2.2.2.2.2.1 r.2.2.2.2.2.2 r.2.1 r.2.2.1 r.2.2.2.1 else hi1 a b r.2.2.2.2.1 r.2.2.2.2.2.1 r.2.2.2.2.2.2 r.2.1 r.2.2.1 r.2.2.2.1
  match e.1 with
  | some r=>pure (.done (some r,e.2.1,e.2.2.1,e.2.2.2.1,e.2.2.2.2.1))
  | none=>do
   Mu (e.2.2.2.2.1+1)
   pure (.yield (none,e.2.1,e.2.2.1,e.2.2.2.1,e.2.2.2.2.1+1))
def mR(a b):VV a b=(do
 rule "list.sort.merge-hi"
 let x <-elem' a (a.size - 1)
 if a.size - 1==0 then pure (dH a b #[x] (a.size - 1) b.size)
 else if b.size==1 then pure (fH a b #[x] (a.size - 1) b.size)
 else do
  let s <-get
  let c <-forIn [0:a.size+b.size] (none,a.size - 1,b.size,#[x],gallopOf s) λ_=>hiL a b
  match c.1 with
  | some r=>pure r
  | none=>unsupported "internal:list.sort.merge-bound"):=by kernel_rfl
section
variable{Z0:Zc}{st st':SortSt}{a b o:AK}{Q:AK->SortSt->Prop}
structure HI(Z0:Zc)(st:SortSt)(a b:AK)(st':SortSt)(o:AK)(i j:Nat):Prop where
 S:Sm st st'
 M:Rh Z0.k (a.toList++b.toList) a b o i j
 i1:1<=i
 i2:i<=a.size
 j1:2<=j
 j2:j<=b.size
def at1{i:Nat}(h1:1<=i)(h:i<=a.size):∃x,a[i - 1]?=some x:=⟨_,Fp (Aw (Dg h1 Nat.one_pos) h)⟩
abbrev hD(Z0:Zc)(st:SortSt)(a b:AK)(Q:AK->SortSt->Prop)(Y0:Nat){γ:Type}(c:Option AK×Nat×Nat×AK×γ)(st':SortSt):Prop:=(∃r,c.1=some r/\Q r st')\/(c.1=none/\HI Z0 st a b st' c.2.2.2.1 c.2.1 c.2.2.1/\c.2.1+c.2.2.1<=Y0)
abbrev hJ(Z0:Zc)(st:SortSt)(a b:AK)(Y0 y:Nat){γ:Type}(c:Option AK×Nat×Nat×AK×γ)(st':SortSt):Prop:=c.1=none/\HI Z0 st a b st' c.2.2.2.1 c.2.1 c.2.2.1/\c.2.1+c.2.2.1<=Y0/\c.2.1+c.2.2.1<=y
section
variable{y Y0 m d e:Nat}{x:Keyed}(U00:Hc Z0 st a b)(q:Mq Z0 st a b Q)(I:HI Z0 st a b st' o i j)
include U00 q I
def aD{β:Type}{P:β->SortSt->Prop}{r k:AK->SX β}(e:a[i - 1]?=some x)(g:∀u,b[j - 1]?=some u->Z0.k u<=Z0.k x)
  (h:∀o,Q (dH a b o (i - 1) j) st'->Wz Z0 (r o) P st') (h':∀o,HI Z0 st a b st' o (i - 1) j->Wz Z0 (k o) P st'):Wz Z0 (hA a o i r k) P st' :=
 have M:=I.M.pA I.i1 e U00.sb I.j2 g
 Aj (Do e (Ej (λc=>h _ (q _ _ I.S (M.fin (.inl c)))) λc=>h' _ ⟨I.S,M,IK c,Ak (Fy _ _) I.i2,I.j1,I.j2⟩))
def aA{β:Type}{P:β->SortSt->Prop}{r k:AK->SX β}(e:b[j - 1]?=some x)(g:∀u,a[i - 1]?=some u->Z0.k u<=Z0.k x)
  (h:∀o,Q (fH a b o i (j - 1)) st'->Wz Z0 (r o) P st') (h':∀o,HI Z0 st a b st' o i (j - 1)->Wz Z0 (k o) P st'):Wz Z0 (hB b o j r k) P st' :=
 have M:=I.M.pB (Ay I.j1) e U00.sa I.i2 g
 Aj (Do e (Ej (λc=>h _ (q _ _ I.S (M.last c U00.b1 U00.h1))) λc=>h' _ ⟨I.S,M,I.i1,I.i2,HN (Nat.le_sub_of_add_le I.j1) (Ne.symm c),Ak (Fy _ _) I.j2⟩))
section
variable(l:i+j<=Y0)(l':i+j<=y+1)
include l l'
def aU(ea:a[i - 1]?=some x)(g:∀u,b[j - 1]?=some u->Z0.k u<=Z0.k x):Wz Z0 (hi3 a b m d e i j o) (Tu (hD Z0 st a b Q Y0) (hJ Z0 st a b Y0 y)) st' :=
 have z:=Ak (Nat.add_le_add_right (Fy i 1) j) l
 aD U00 q I ea g (λo h=>Ai (.inl ⟨_,rfl,h⟩)) λo h=>Bl (λ_=>Ai (.inr ⟨rfl,h,z⟩)) λ_=>Ai ⟨rfl,h,z,dec1 I.i1 l'⟩
def ZS(e':b[j - 1]?=some x)(g:∀u,a[i - 1]?=some u->Z0.k u<=Z0.k x):Wz Z0 (hi2 a b m d e i j o) (Tu (hD Z0 st a b Q Y0) (hJ Z0 st a b Y0 y)) st':=by
 refine aA U00 q I e' g (λo h=>Ai (.inl ⟨_,rfl,h⟩)) λo h=>?_;obtain ⟨x,n⟩:=at1 I.i1 I.i2;have B:i+(j - 1)<=Y0:=Ak (Dj (Fy j 1) i) l;have C:i+(j - 1)<=y:=dec2 (Ay I.j1) l';refine Aj (Do n (Aj (Lj U00.H (I.S.k.trans U00.k) (U00.ga _ (Et n)) U00.gb (λu v x y _ s _ t D=>Ma U00.sb s t D) ((Hn _).symm▸h.j2) (Dg (Ay h.j1) Nat.one_pos) λk r w z=>?_)));simp only [GZ,Hn] at w z;have M:=h.M.eB r h.j2 U00.sa I.i2 λj G E x t u f=>by rw [n] at f;cases f;exact z j G E x t
 refine Bl (λc=>Ej (λc=>Ai (.inl ⟨_,rfl,?_⟩)) λc=>Ej (λc=>Ai (.inl ⟨_,rfl,?_⟩)) λF=>?_) λc=>?_
 .exact q _ _ I.S (M.last c U00.b1 U00.h1)
 .exact q _ _ I.S (M.fin (.inr c))
 .have p:0<k:=IK F;have A:=Dj r i;exact aU U00 q ⟨I.S,M,I.i1,I.i2,HN p (Ne.symm c),Ak r h.j2⟩ (Ak A B) (JM (Ak A C)) n λu f=>Dt (w _ (Dg p Nat.one_pos) u f)
 .have e:k=j - 1:=HW r (Nat.le_of_sub_eq_zero (Rt c));exact aU U00 q h B (JM C) n λu f=>Dt (w _ (Nat.lt_of_lt_of_eq (Dg (Ay h.j1) Nat.one_pos) e.symm) u f)
def dG:Wz Z0 (hi1 a b m d e i j o) (Tu (hD Z0 st a b Q Y0) (hJ Z0 st a b Y0 y)) st':=by
 refine Aj (Q0 λB C=>?_);have S:=I.S.trans C;obtain ⟨x,f⟩:=at1 (Ay I.j1) I.j2;refine Aj (Do f (Aj (Lj U00.H (S.k.trans U00.k) (U00.gb _ (Et f)) U00.ga (λu v x y _ n _ r z=>Ma U00.sa n r z) ((Hn _).symm▸I.i2) (Dg I.i1 Nat.one_pos) λk g h w=>?_)));simp only [DQ,Ca,Hn] at h w;have M:=I.M.eA g I.i2 U00.sb I.j2 λj D A x r u t=>by rw [f] at t;cases t;exact Dt (w j D A x r)
 refine Bl (λc=>Ej (λc=>Ai (.inl ⟨_,rfl,?_⟩)) λc=>?_) λc=>?_
 .exact q _ _ S (M.fin (.inl c))
 .have p:0<k:=IK c;have s:=Nat.add_le_add_right g j;exact ZS U00 q ⟨S,M,p,Ak g I.i2,I.j1,I.j2⟩ (Ak s l) (Ak s l') f (h _ (Dg p Nat.one_pos))
 .have e:k=i:=HW g (Nat.le_of_sub_eq_zero (Rt c));exact ZS U00 q ⟨S,I.M,I.i1,I.i2,I.j1,I.j2⟩ l l' f (h _ (Nat.lt_of_lt_of_eq (Dg I.i1 Nat.one_pos) e.symm))
end
def xX(l:i+j<=Y0+1)(l':i+j<=y+1):Wz Z0 (hi0 a b m i j o d e) (Tu (hD Z0 st a b Q Y0) (hJ Z0 st a b (Y0+1) y)) st':=by
 obtain ⟨x,n⟩:=at1 (Ay I.j1) I.j2;obtain ⟨z,g⟩:=at1 I.i1 I.i2;refine Aj (Do n (Aj (Do g (Aj (O8 U00.H (I.S.k.trans U00.k) (U00.gb _ (Et n)) (U00.ga _ (Et g)) (Bl (λc=>?_) λc=>?_))))))
 .have d:=dec1 I.i1 l;exact aD U00 q I g (λu f=>by rw [n] at f;cases f;exact Dt (K6 c)) (λo h=>Ai (.inl ⟨_,rfl,h⟩)) λo h=>Bl (λ_=>Ai (.inr ⟨rfl,h,d⟩)) λ_=>Ai ⟨rfl,h,JM d,dec1 I.i1 l'⟩
 .have p:=Ay I.j1;have d:=dec2 p l;exact aA U00 q I n (λu f=>by rw [g] at f;cases f;exact Jl.mp λz=>c (Dv z)) (λo h=>Ai (.inl ⟨_,rfl,h⟩)) λo h=>Bl (λ_=>Ai (.inr ⟨rfl,h,d⟩)) λ_=>Ai ⟨rfl,h,JM d,dec2 p l'⟩
end
def no0{i j:Nat}{p:Prop}(h:1<=i)(k:i+j<=0):p:=aB (Ak (Ak h (Dz i j)) k) (Nat.not_succ_le_zero 0)
def m6(X:Hc Z0 st a b)(q:Mq Z0 st a b Q):Wz Z0 (VV a b) Q st:=by
 rw [mR];obtain ⟨x,e⟩:=at1 X.a1 (Ae _);refine Aj (wpS_lift (Gj ⟨rfl,Aj (Do e ?_)⟩));have v:Rh Z0.k (a.toList++b.toList) a b #[] a.size b.size:=by
  unfold Rh;rw [Hv (by simp),Hv (by simp)];exact ⟨((List.reverse_perm _).append (List.reverse_perm _)),List.Pairwise.nil,(λx t=>by cases t),dX X.sa,dX X.sb⟩
 have M:Rh Z0.k (a.toList++b.toList) a b #[x] (a.size - 1) b.size:=v.pA X.a1 e X.sb (Ae _) λu p=>X.h2 u (Et p) x e;refine Ej (λc=>Ai (q _ _ (Sm.refl _) (M.fin (.inl c)))) λz=>Ej (λc=>Ai (q _ _ (Sm.refl _) (M.last c X.b1 X.h1))) λn=>Aj (wpS_get ?_);refine Js (λy c f=>c.1=none/\HI Z0 st a b f c.2.2.2.1 c.2.1 c.2.2.1/\c.2.1+c.2.2.1<=y) (λc f=>∃r,c.1=some r/\Q r f) ?_ (λc f h=>no0 h.2.1.i1 h.2.2) ⟨rfl,⟨Sm.refl _,M,IK z,Fy _ _,HN X.b1 (Ne.symm n),Ae _⟩,Nat.add_le_add_right (Fy _ _) _⟩ ?_
 .rintro g ⟨_,i,j,o,m⟩ f ⟨rfl,I,l⟩;refine Js (λy=>hJ Z0 st a b (g+1) y) (hD Z0 st a b Q g) (λy c f h=>xX X q h.2.1 h.2.2.1 h.2.2.2) (λc f h=>no0 h.2.1.i1 h.2.2.2) ⟨rfl,I,l,Nat.add_le_add I.i2 I.j2⟩ ?_;rintro ⟨c,i,j,o,d,e⟩ f (⟨r,rfl,h⟩ | ⟨rfl,I,l⟩)
  .exact Ai ⟨_,rfl,h⟩
  refine Aj (wpS_lift (Gj ⟨rfl,?_⟩));refine Js (λy=>hJ Z0 st a b g y) (hD Z0 st a b Q g) (λy c f h=>Bl (λ_=>dG X q h.2.1 h.2.2.1 h.2.2.2) λ_=>dG X q h.2.1 h.2.2.1 h.2.2.2) (λc f h=>no0 h.2.1.i1 h.2.2.2) ⟨rfl,I,l,Nat.add_le_add I.i2 I.j2⟩ ?_;rintro ⟨c,i,j,o,d,e⟩ f (⟨r,rfl,h⟩ | ⟨rfl,I,l⟩)
  .exact Ai ⟨_,rfl,h⟩
  exact Aj (Q0 λs w=>Ai ⟨rfl,⟨I.S.trans w,I.M,I.i1,I.i2,I.j1,I.j2⟩,l⟩)
 .rintro ⟨_,c⟩ f ⟨r,rfl,h⟩;exact Ai h
end
structure Ch(lo hi:Nat)(st st':SortSt):Prop where
 k:kindOf st'=kindOf st
 p:pendingOf st'=pendingOf st
 f:failedOf st'=failedOf st
 perm:(arrOf st').Perm (arrOf st)
 out:∀i,i<lo\/hi<=i->(arrOf st')[i]?=(arrOf st)[i]?
def Ch.refl(lo hi)(st):Ch lo hi st st:=⟨rfl,rfl,rfl,Array.Perm.refl _,λ_ _=>rfl⟩
def Ch.trans{lo hi:Nat}{a b c:SortSt}(h:Ch lo hi a b)(k:Ch lo hi b c):Ch lo hi a c:=⟨k.k.trans h.k,k.p.trans h.p,k.f.trans h.f,k.perm.trans h.perm,λi hi=>(k.out i hi).trans (h.out i hi)⟩
def Ch.mono{lo hi lo' hi':Nat}{a b:SortSt}(h:Ch lo hi a b)(h1:lo'<=lo)(h2:hi<=hi'):Ch lo' hi' a b:=⟨h.k,h.p,h.f,h.perm,λi z=>h.out i (by lia)⟩
def Ch.size{lo hi:Nat}{a b:SortSt}(h:Ch lo hi a b):(arrOf b).size=(arrOf a).size:=h.perm.size_eq
def kK(Z0:Zc)(xs:AK)(i:Nat):Int:=match xs[i]? with
 | some p=>Z0.k p
 | none=>0
def Fo{xs:AK}(h:xs[i]?=ys[j]?):kK Z0 xs i=kK Z0 ys j:=by unfold kK;rw [h]
def Fq{xs:AK}{x:Keyed}(h:xs[i]?=some x):kK Z0 xs i=Z0.k x:=by unfold kK;rw [h]
def SL(Z0:Zc)(xs:AK)(lo hi:Nat):Prop:=∀i j,lo<=i->i<=j->j<hi->kK Z0 xs i<=kK Z0 xs j
def DL(Z0:Zc)(xs:AK)(lo hi:Nat):Prop:=∀i j,lo<=i->i<=j->j<hi->kK Z0 xs j<=kK Z0 xs i
def Xp{xs:AK}(hj:j<=xs.size)(k) :
  kK Z0 (mirror xs i j ((j - i)/2)) k=if i<=k/\k<j then kK Z0 xs (i+j - 1 - k) else kK Z0 xs k:=by
 have e:=getElem?_mirror_all (i:=i) hj k;by_cases h1:i<=k/\k<j
 .rw [iP h1] at e ⊢;exact Fo e
 .rw [iN h1] at e ⊢;exact Fo e
def bK{xs:AK}(hj:j<=xs.size)(he:∀k,i<=k->k<j->kK Z0 xs k=kK Z0 xs (j - 1))(k) :
  kK Z0 (mirror xs i j ((j - i)/2)) k=kK Z0 xs k:=by
 rw [Xp hj];split
 .rw [he _ (by omega) (by omega),he k (by omega) (by omega)]
 .rfl
def o8{xs:AK}{d:Nat}(hs:src<xs.size)(hd:d<=src)(k) :
  kK Z0 (bubble xs src d) k=if k=src - d then kK Z0 xs src else if src - d<k/\k<=src then kK Z0 xs (k - 1) else kK Z0 xs k:=by
 have e:=getElem?_bubble hs d hd k;by_cases h1:k=src - d
 .rw [iP h1] at e ⊢;exact Fo e
 .rw [iN h1] at e ⊢;by_cases h2:src - d<k/\k<=src
  .rw [iP h2] at e ⊢;exact Fo e
  .rw [iN h2] at e ⊢;exact Fo e
def Vr{st:SortSt}(hj:j<=(arrOf st).size):Ch i j st (setArr st (mirror (arrOf st) i j ((j - i)/2))) :=
 ⟨rfl,rfl,rfl,mirror_perm _ _ _ _,λk a=>by
  show (mirror (arrOf st) i j ((j - i)/2))[k]?=_
  rw [getElem?_mirror_all hj,iN (by lia)]⟩
def xF{st:SortSt}{l lo hi:Nat}(hk:k<(arrOf st).size)(h1:lo<=l)(h2:k<hi)(h3:l<=k):Ch lo hi st (setArr st (bubble (arrOf st) k (k - l))) :=
 ⟨rfl,rfl,rfl,bubble_perm _ _ _,λi hi=>by
  show (bubble (arrOf st) k (k - l))[i]?=_
  rw [getElem?_bubble hk _ (by omega),iN (by omega),iN (by omega)]⟩
abbrev C2:=Option (Option Nat)×Nat
def cU(lo:Nat)(c:C2):SX (ForInStep C2):=do
 match <-ltAt' (lo+c.2) (lo+c.2 - 1) with
 | some s=>if s then pure (.done (none,c.2)) else pure (.yield (none,c.2+1))
 | _=>pure (.done (some none,c.2))
def cT(lo m n:Nat):SX (Option Nat):=do
 reverseSlice' lo (lo+n)
 let c <-forIn [n:m] (none,n) λ_=>cU lo
 match c.1 with
 | some a=>pure a
 | none=>pure (some c.2)
def cD(lo:Nat)(c:G3):SX (ForInStep G3):=do
 match <-ltAt' (lo+c.2.1) (lo+c.2.1 - 1) with
 | some s=>if s then (if c.2.2>0 then reverseSlice' (lo+c.2.1 - (c.2.2+1)) (lo+c.2.1) >>= λ_=>pure (.yield (none,c.2.1+1,0)) else pure (.yield (none,c.2.1+1,0))) else (do
   match <-ltAt' (lo+c.2.1 - 1) (lo+c.2.1) with
   | some l=>if l then pure (.done (none,c.2)) else pure (.yield (none,c.2.1+1,c.2.2+1))
   | _=>pure (.done (some none,c.2)))
 | _=>pure (.done (some none,c.2))
def cE(lo m n:Nat):SX (Option Nat):=do
 rule "list.sort.descending-run"
 let c <-forIn [n+1:m] (none,n+1,0) λ_=>cD lo
 match c.1 with
 | some a=>pure a
 | none=>if c.2.2>0 then reverseSlice' (lo+c.2.1 - (c.2.2+1)) (lo+c.2.1) >>= λ_=>cT lo m c.2.1 else cT lo m c.2.1
def vY(lo m:Nat):countRun' lo m=(do
 let c <-forIn [1:m] (none,1) λ_=>cU lo
 match c.1 with
 | some a=>pure a
 | none=>if c.2==m then pure (some c.2) else if c.2>1 then (do
   match <-ltAt' lo (lo+c.2 - 1) with
   | some r=>if r then pure (some c.2) else reverseSlice' lo (lo+c.2) >>= λ_=>cE lo m c.2
   | _=>pure none) else cE lo m c.2):=by kernel_rfl
section
variable{Z0:Zc}
structure Gd(Z0:Zc)(st:SortSt):Prop where
 k:kindOf st=Z0.κ
 g:∀x∈(arrOf st).toList,Z0.g x
def Gd.ch{lo hi:Nat}{st st':SortSt}(h:Gd Z0 st)(c:Ch lo hi st st'):Gd Z0 st':=⟨c.k.trans h.k,λx a=>h.g x ((Oh.mp c.perm).mem_iff.mp a)⟩
def wpS_ltAt(H:HL Z0){st:SortSt}(G:Gd Z0 st){Q:Option Bool->SortSt->Prop}(hi:i<(arrOf st).size)(hj:j<(arrOf st).size)(h:Q (some (decide (kK Z0 (arrOf st) i<kK Z0 (arrOf st) j))) st):Wz Z0 (ltAt' i j) Q st:=by
 have a:(arrOf st)[i]?=some (arrOf st)[i]:=Fp hi;have b:(arrOf st)[j]?=some (arrOf st)[j]:=Fp hj;rw [Fq a,Fq b] at h;rw [ltAt'_eq];refine Aj (wpS_get ?_);exact Aj (Do a (Aj (Do b (O8 H G.k (G.g _ (Et a)) (G.g _ (Et b)) h))))
def T6{st:SortSt}{Q:Unit->SortSt->Prop}(h:Q () (setArr st (mirror (arrOf st) i j ((j - i)/2)))):Wz Z0 (reverseSlice' i j) Q st:=by
 rw [reverseSlice'_eq];exact Jb h
def SL.snoc{xs:AK}{lo hi:Nat}(h:SL Z0 xs lo hi)(h1:lo<hi)(h2:¬kK Z0 xs hi<kK Z0 xs (hi - 1)):SL Z0 xs lo (hi+1):=λi j a b c=>by
 by_cases e:j<hi
 .exact h i j a b e
 .have d:j=hi:=by lia
  subst d;by_cases ei:i=j
  .subst ei;exact Jq _
  .have:=h i (j - 1) a (by lia) (by lia)
   lia
def DL.snoc{xs:AK}{lo hi:Nat}(h:DL Z0 xs lo hi)(h1:lo<hi)(h2:kK Z0 xs hi<=kK Z0 xs (hi - 1)):DL Z0 xs lo (hi+1):=λi j a b c=>by
 by_cases e:j<hi
 .exact h i j a b e
 .have d:j=hi:=by lia
  subst d;by_cases ei:i=j
  .subst ei;exact Jq _
  .have:=h i (j - 1) a (by lia) (by lia)
   lia
def DL.same{xs ys:AK}{lo hi:Nat}(h:DL Z0 xs lo hi)(e:∀k,kK Z0 ys k=kK Z0 xs k):DL Z0 ys lo hi:=λi j a b c=>by
 rw [e,e];exact h i j a b c
def DL.rev{xs:AK}{lo hi:Nat}(h:DL Z0 xs lo hi)(hh:hi<=xs.size):SL Z0 (mirror xs lo hi ((hi - lo)/2)) lo hi:=λi j a b c=>by
 rw [Xp hh,Xp hh,iP (by omega),iP (by omega)];exact h _ _ (by omega) (by omega) (by omega)
def rn(Z0)(xs)(lo):SL Z0 xs lo (lo+1):=λi j a b c=>by
 have:i=j:=by lia
 subst this;exact Jq _
section
variable{st st':SortSt}{lo m x q:Nat}
def lt1(h:lo+m<=n)(k:x<m):lo+x<n:=Aw (J6 k lo) h
def ik(H:HL Z0)(G:Gd Z0 st){α:Type}{k:C2->SX α}{Q:α->SortSt->Prop}(hn:lo+m<=(arrOf st).size)(h1:1<=n)(h2:n<=m)(S:SL Z0 (arrOf st) lo (lo+n))
  (h:∀x,n<=x->x<=m->SL Z0 (arrOf st) lo (lo+x)->(x=m\/kK Z0 (arrOf st) (lo+x)<kK Z0 (arrOf st) (lo+x - 1))->Wz Z0 (k (none,x)) Q st):Wz Z0 (forIn [n:m] (none,n) (λ_=>cU lo) >>= k) Q st:=by
 refine Qo (λx c e=>e=st/\c=(none,x)/\SL Z0 (arrOf st) lo (lo+x)) (λc e=>e=st/\∃x,c=(none,x)/\n<=x/\x<=m/\SL Z0 (arrOf st) lo (lo+x)/\(x=m\/kK Z0 (arrOf st) (lo+x)<kK Z0 (arrOf st) (lo+x - 1))) h2 ?_ ?_ ⟨rfl,rfl,S⟩ ?_
 .rintro x _ _ f g ⟨rfl,rfl,k⟩;have z:=lt1 hn g;exact Aj (wpS_ltAt H G z (DN (Fy _ _) z) (Bl (λc=>Ai ⟨rfl,x,rfl,f,Ay g,k,.inr (K6 c)⟩) λc=>Ai ⟨rfl,rfl,k.snoc (Ii (Ak h1 f)) λz=>c (Dv z)⟩))
 .rintro _ _ ⟨rfl,rfl,k⟩;exact ⟨rfl,m,rfl,h2,Ae _,k,.inl rfl⟩
 .rintro _ _ ⟨rfl,x,rfl,a,b,c,d⟩;exact h x a b c d
structure Dn(Z0:Zc)(xs:AK)(lo x q:Nat):Prop where
 d:DL Z0 xs lo (lo+x)
 q1:q+1<=x
 q2:∀k,lo+x - (q+1)<=k->k<lo+x->kK Z0 xs k=kK Z0 xs (lo+x - 1)
def Dn.one{xs:AK}(d:DL Z0 xs lo (lo+x+1)):Dn Z0 xs lo (x+1) 0:=⟨d,JL (Bw _),λk a b=>by rw [HW (KY b) a];rfl⟩
def Dn.same{xs:AK}(D:Dn Z0 xs lo x q)(h:lo+x<=xs.size)(k:Nat):kK Z0 (mirror xs (lo+x - (q+1)) (lo+x) ((lo+x - (lo+x - (q+1)))/2)) k=kK Z0 xs k:=bK h D.q2 k
def Dn.ch(D:Dn Z0 (arrOf st) lo x q)(h:lo+m<=(arrOf st).size)(l:x<=m):Ch lo (lo+m) st (setArr st (mirror (arrOf st) (lo+x - (q+1)) (lo+x) ((lo+x - (lo+x - (q+1)))/2))):=(Vr (Ak (Dj l lo) h)).mono (Nat.le_sub_of_add_le (Dj D.q1 lo)) (Dj l lo)
def ak(H:HL Z0)(G:Gd Z0 st){Q:Option Nat->SortSt->Prop}(C:Ch lo (lo+m) st st')(hn:lo+m<=(arrOf st).size)(D:DL Z0 (arrOf st') lo (lo+n))(h1:1<=n)(h2:n<=m)
  (h:∀x st',Ch lo (lo+m) st st'->1<=x->x<=m->SL Z0 (arrOf st') lo (lo+x)->Q (some x) st'):Wz Z0 (cT lo m n) Q st':=by
 have z:=Dj h2 lo;have y:lo+n<=(arrOf st').size:=Ak z (C.size▸hn);have d:=C.trans ((Vr (i:=lo) y).mono (Ae _) z);exact Aj (T6 (ik H (G.ch d) (d.size▸hn) h1 h2 (D.rev y) λx a b c _=>Ai (h x _ d (Ak h1 a) b c)))
def aM(H:HL Z0)(G:Gd Z0 st){Q:Option Nat->SortSt->Prop}(C:Ch lo (lo+m) st st')(hn:lo+m<=(arrOf st).size)(D:DL Z0 (arrOf st') lo (lo+n+1))(h2:n+1<=m)
  (h:∀x st',Ch lo (lo+m) st st'->1<=x->x<=m->SL Z0 (arrOf st') lo (lo+x)->Q (some x) st'):Wz Z0 (cE lo m n) Q st':=by
 refine Aj (wpS_lift (Gj ⟨rfl,?_⟩));refine Qo (λx c st'=>c.1=none/\c.2.1=x/\Ch lo (lo+m) st st'/\Dn Z0 (arrOf st') lo x c.2.2) (λc st'=>c.1=none/\c.2.1<=m/\Ch lo (lo+m) st st'/\Dn Z0 (arrOf st') lo c.2.1 c.2.2) h2 ?_ (λc st' z=>⟨z.1,HD z.2.1,z.2.2.1,z.2.1.symm▸z.2.2.2⟩) ⟨rfl,rfl,C,.one D⟩ ?_
 .rintro x ⟨_,_,q⟩ st' o g ⟨rfl,rfl,C,D⟩;have f:=C.size.symm▸hn;have z:lo+_<_:=lt1 f g;have y:=DN (Fy _ 1) z;have p:lo<lo+_:=Ii (Aw (Nat.succ_pos _) o);have G:=G.ch C;refine Aj (wpS_ltAt H G z y (Bl (λc=>?_) λc=>Aj (wpS_ltAt H G y z (Bl (λ_=>Ai ⟨rfl,Ay g,C,D⟩) λj=>Ai ⟨rfl,rfl,C,?_⟩))))
  .have d:=D.d.snoc p (Dt (K6 c));exact Bl (λ_=>Aj (T6 (Ai ⟨rfl,rfl,C.trans (D.ch f (Ay g)),.one (d.same λk=>D.same (Ay z) k)⟩))) λ_=>Ai ⟨rfl,rfl,C,.one d⟩
  .have e:=Int.le_antisymm (Jl.mp λz=>j (Dv z)) (Jl.mp λz=>c (Dv z));refine ⟨D.d.snoc p (Int.le_of_eq e),JL D.q1,λk a b=>?_⟩;dsimp only at a;rw [<-Nat.add_assoc,Nat.add_sub_add_right] at a;rcases Nat.lt_or_eq_of_le (KY b) with z | z
   .exact (D.q2 k a z).trans e.symm
   .rw [z];rfl
 .rintro ⟨_,x,q⟩ st' ⟨rfl,l,C,D⟩;have f:=C.size.symm▸hn;have i:=Ak (JL (Bw _)) D.q1;exact Bl (λ_=>Aj (T6 (ak H G (C.trans (D.ch f l)) hn (D.d.same λk=>D.same (Ak (Dj l lo) f) k) i l h))) λ_=>ak H G C hn D.d i l h
def wpS_countRun(H:HL Z0)(G:Gd Z0 st){Q:Option Nat->SortSt->Prop}(hn:lo+m<=(arrOf st).size)(h1:1<=m)(h:∀x st',Ch lo (lo+m) st st'->1<=x->x<=m->SL Z0 (arrOf st') lo (lo+x)->Q (some x) st'):Wz Z0 (countRun' lo m) Q st:=by
 rw [vY];refine ik H G hn (Ae _) h1 (rn Z0 _ lo) λn f o S d=>?_;refine Ej (λ_=>Ai (h n st (Ch.refl _ _ _) f o S)) λc=>?_;have d:=Dt (d.resolve_left c);have l:n<m:=HN o c;have z:=lt1 hn l;refine Bl (λc=>Aj (wpS_ltAt H G (DN (Dz _ _) z) (DN (Fy _ _) z) (Bl (λ_=>Ai (h n st (Ch.refl _ _ _) f o S)) λg=>Aj (T6 ?_)))) λc=>aM H G (Ch.refl _ _ _) hn (DL.snoc (λi j a b g=>?_) (Ii f) d) l h
 .have y:0<n:=f;have e:∀k,lo<=k->k<lo+n->kK Z0 (arrOf st) k=kK Z0 (arrOf st) (lo+n - 1):=λk a b=>Int.le_antisymm (S k _ a (GX b) (Dg (Aw y (Pq _ _)) Nat.one_pos)) (Fg (Jl.mp λz=>g (Dv z)) (S lo k (Ae _) a b));refine aM H G ((Vr (Ay z)).mono (Ae _) (Ay (J6 l lo))) hn (DL.same (xs:=arrOf st) (DL.snoc (λi j a b c=>?_) (Ii f) d) λk=>bK (Ay z) e k) l h;rw [e i a (DN b c),e j (Ak a b) c];exact Jq _
 .have e:n=1:=HW (Nat.le_of_not_lt c) f;subst e;exact S j i (Ak a b) (Ak (KY g) a) (DN b g)
end
end
abbrev B3:=Option Bool×Nat×Nat
def bS(lo k:Nat)(c:B3):SX (ForInStep B3):=if c.2.1>=c.2.2 then pure (.done (none,c.2)) else do
 match <-ltAt' (lo+k) (lo+(c.2.1+c.2.2)/2) with
 | some x=>if x then pure (.yield (none,c.2.1,(c.2.1+c.2.2)/2)) else pure (.yield (none,(c.2.1+c.2.2)/2+1,c.2.2))
 | _=>pure (.done (some false,c.2))
def bO(lo k:Nat):SX (ForInStep (Option Bool×Unit)):=do
 let c <-forIn [0:k] (none,0,k) λ_=>bS lo k
 match c.1 with
 | some a=>pure (.done (some a,()))
 | none=>moveDown' (lo+k) (lo+c.2.1) >>= λ_=>pure (.yield (none,()))
def uF(lo n ok:Nat):binarySort' lo n ok=(do
 let c <-forIn [max ok 1:n] (none,()) λk _=>bO lo k
 match c.1 with
 | some a=>pure a
 | none=>pure true):=by kernel_rfl
section
variable{Z0:Zc}
def mid{l r:Nat}(h:l<r):l<=(l+r)/2/\(l+r)/2<r:=by lia
def SL.bubble{xs:AK}{lo k l:Nat}(h:SL Z0 xs lo (lo+k))(hk:lo+k<xs.size)(hl:l<=k)(a4:∀i,lo<=i->i<lo+l->kK Z0 xs i<=kK Z0 xs (lo+k))(a5:∀i,lo+l<=i->i<lo+k->kK Z0 xs (lo+k)<kK Z0 xs i):SL Z0 (bubble xs (lo+k) (lo+k - (lo+l))) lo (lo+k+1):=by
 have e:lo+k - (lo+k - (lo+l))=lo+l:=Nat.sub_sub_self (Dj hl lo);have g:=λp=>e▸o8 (Z0:=Z0) hk (Fy _ (lo+l)) p;have n:∀{p},p<lo+l->kK Z0 (PyProof.Rows.bubble xs (lo+k) (lo+k - (lo+l))) p=kK Z0 xs p:=λz=>by rw [g,iN (Am z),iN λy=>Nat.lt_asymm z y.1]
 have f:kK Z0 (PyProof.Rows.bubble xs (lo+k) (lo+k - (lo+l))) (lo+l)=kK Z0 xs (lo+k):=by rw [g,iP rfl]
 have d:∀{p},lo+l<p->p<lo+k+1->kK Z0 (PyProof.Rows.bubble xs (lo+k) (lo+k - (lo+l))) p=kK Z0 xs (p - 1):=λz y=>by rw [g,iN (CK z),iP ⟨z,KY y⟩]
 have m:∀{p},lo+l<p->p<lo+k+1->p - 1<lo+k:=λz y=>Aw (Dg (Hq z) Nat.one_pos) (KY y);intro i j a b c;rcases Nat.lt_trichotomy i (lo+l) with hi | rfl | hi
 .rw [n hi];rcases Nat.lt_trichotomy j (lo+l) with hj | rfl | hj
  .rw [n hj];exact h i j a b (Aw hj (Dj hl lo))
  .rw [f];exact a4 i a hi
  .rw [d hj c];exact h i _ a (GX (FW hi hj)) (m hj c)
 .rw [f];rcases Nat.lt_or_eq_of_le b with hj | rfl
  .rw [d hj c];exact Dt (a5 _ (GX hj) (m hj c))
  .rw [f];exact Jq _
 .have hj:=Aw hi b;rw [d hi (DN b c),d hj c];exact h _ _ (Ak (Dz lo l) (GX hi)) (Nat.sub_le_sub_right b 1) (m hj c)
def Zyp(H:HL Z0){st:SortSt}(G:Gd Z0 st){lo k:Nat}{Q:ForInStep (Option Bool×Unit)->SortSt->Prop}(hk:lo+k<(arrOf st).size)(S:SL Z0 (arrOf st) lo (lo+k))
  (h:∀st',Ch lo (lo+k+1) st st'->SL Z0 (arrOf st') lo (lo+k+1)->Q (.yield (none,())) st'):Wz Z0 (bO lo k) Q st:=by
 refine Ms (λx c st'=>st'=st/\c.1=none/\c.2.1<=c.2.2/\c.2.2<=k/\c.2.2+x<=k+c.2.1/\(∀i,lo<=i->i<lo+c.2.1->kK Z0 (arrOf st) i<=kK Z0 (arrOf st) (lo+k))/\∀i,lo+c.2.2<=i->i<lo+k->kK Z0 (arrOf st) (lo+k)<kK Z0 (arrOf st) i) (λc st'=>st'=st/\c.1=none/\c.2.1<=k/\(∀i,lo<=i->i<lo+c.2.1->kK Z0 (arrOf st) i<=kK Z0 (arrOf st) (lo+k))/\∀i,lo+c.2.1<=i->i<lo+k->kK Z0 (arrOf st) (lo+k)<kK Z0 (arrOf st) i) ?_ ?_ ⟨rfl,rfl,Bw _,Ae _,Ae _,λi a b=>aB a (Nat.not_le_of_lt b),λi a b=>aB a (Nat.not_le_of_lt b)⟩ ?_
 .rintro x ⟨_,l,r⟩ _ q ⟨rfl,rfl,n,f,m,j,g⟩;refine Bl (λc=>Ai ?_) λc=>?_
  .have e:l=r:=HW n c;subst e;exact ⟨rfl,rfl,f,j,g⟩
  .obtain ⟨a,b⟩:=mid (JZ c);have p:=Aw b f;have z:=J6 p lo;exact Aj (wpS_ltAt H G hk (FW z hk) (Bl (λd=>Ai ⟨rfl,rfl,a,Ay p,Aw (Nat.add_lt_add_right b x) m,j,λi y o=>Int.lt_of_lt_of_le (K6 d) (S _ i (Dz _ _) y o)⟩) λd=>Ai ⟨rfl,rfl,b,f,JL (Ak m (Dj a k)),λi y o=>Fg (S i _ y (KY o) z) (Jl.mp λz=>d (Dv z)),g⟩))
 .rintro ⟨_,l,r⟩ _ ⟨rfl,rfl,n,f,m,j,g⟩;have e:l=r:=HW n (Nat.le_of_add_le_add_left (a:=k) (Ja r k▸m));subst e;exact ⟨rfl,rfl,f,j,g⟩
 .rintro ⟨_,l,r⟩ _ ⟨rfl,rfl,f,j,g⟩;dsimp only;rw [moveDown'_eq];exact Aj (Jb (Ai (h _ (xF hk (Dz _ _) (Ha _) (Dj f lo)) (S.bubble hk f j g))))
def wpS_binarySort(H:HL Z0){st:SortSt}(G:Gd Z0 st){lo ok:Nat}{Q:Bool->SortSt->Prop}(hn:lo+n<=(arrOf st).size)(hok:ok<=n)(h1:1<=ok)(hs:SL Z0 (arrOf st) lo (lo+ok))(h:∀st',Ch lo (lo+n) st st'->SL Z0 (arrOf st') lo (lo+n)->Q true st'):Wz Z0 (binarySort' lo n ok) Q st:=by
 rw [uF,Nat.max_eq_left h1];refine Qo (λk c st'=>c.1=none/\Ch lo (lo+n) st st'/\SL Z0 (arrOf st') lo (lo+k)) (λc st'=>c.1=none/\Ch lo (lo+n) st st'/\SL Z0 (arrOf st') lo (lo+n)) hok (λk c st' _ l z=>?_) (λc st' z=>z) ⟨rfl,Ch.refl _ _ _,hs⟩ ?_
 .exact Zyp H (G.ch z.2.1) (z.2.1.size▸lt1 hn l) z.2.2 λst' C S=>⟨rfl,z.2.1.trans (C.mono (Ae _) (J6 l lo)),S⟩
 .rintro ⟨_,_⟩ st' ⟨rfl,C,S⟩;exact Ai (h st' C S)
end
noncomputable def put(off:Nat)(l:List Keyed)(n:Nat)(arr:AK):AK:=(l.zipIdx n).foldl (λa (p,j)=>a.setIfInBounds (off+j) p) arr
theorem XM:∀l n arr,off+n+l.length<=arr.size->∀k,(put off l n arr)[k]?=if off+n<=k/\k<off+n+l.length then l[k - (off+n)]? else arr[k]?
 | [],n,arr,h,k=>by
  rw [iN (by simp)];rfl
 | p::r,n,arr,h,k=>by
  rw [Gp] at h;have e:put off (p::r) n arr=put off r (n+1) (arr.setIfInBounds (off+n) p):=rfl;rw [e,XM r (n+1) _ (by rw [Array.size_setIfInBounds];lia) k,Gp];by_cases c:off+(n+1)<=k/\k<off+(n+1)+r.length
  .rw [iP c,iP (by lia),show k - (off+n)=k - (off+(n+1))+1 by lia,List.getElem?_cons_succ]
  .rw [iN c,Array.getElem?_setIfInBounds];by_cases d:off+n=k
   .rw [iP d,iP (by lia),iP (by lia),show k - (off+n)=0 by lia];rfl
   .rw [iN d,iN (by lia)]
def zK(h:off+l.length<=arr.size):(put off l 0 arr).toList=arr.toList.take off++(l++arr.toList.drop (off+l.length)):=by
 apply N7;intro k;rw [GQ,XM l 0 arr (by omega),Nat.add_zero,<-GQ];have a:arr.toList.length=arr.size:=Ea;generalize arr.toList=L at *;by_cases c1:k<off
 .rw [iN (by omega),Fv (by rw [Eb];omega),List.getElem?_take_of_lt c1]
 .rw [GJ (by rw [Eb];omega),Eb,G6 (by omega)];by_cases c2:k<off+l.length
  .rw [iP (by omega),Fv (by omega)]
  .rw [iN (by omega),GJ (by omega),List.getElem?_drop];congr 1;omega
section
variable{Z0:Zc}
def SL.at{xs:AK}{lo hi:Nat}{x y:Keyed}(h:SL Z0 xs lo hi)(h1:lo<=i)(h2:i<=j)(h3:j<hi)(hx:xs[i]?=some x)(hy:xs[j]?=some y):Z0.k x<=Z0.k y:=by
 have:=h i j h1 h2 h3;rwa [Fq hx,Fq hy] at this
def RD{xs:AK}{lo hi:Nat}(h:hi<=xs.size)(hj:j<hi - lo):(xs.extract lo hi)[j]?=xs[lo+j]?:=by
 rw [Array.getElem?_extract,G6 h,iP hj]
def Tn{xs:AK}{lo hi:Nat}(h:hi<=xs.size):(xs.extract lo hi).size=hi - lo:=by rw [Array.size_extract,G6 h]
def Yh{xs:AK}{lo hi:Nat}(h:SL Z0 xs lo hi)(hh:hi<=xs.size):Srt Z0.k (xs.extract lo hi).toList:=by
 refine Jc.mpr λi j b a d=>?_;have e:∀u (c:u<(xs.extract lo hi).toList.length),u<hi - lo/\xs[lo+u]?=some ((xs.extract lo hi).toList[u]):=λu c=>by
  have z:u<hi - lo:=by rwa [Ea,Tn hh] at c
  exact ⟨z,by rw [<-RD hh z,<-GQ,BL c]⟩
 exact h.at (Dz _ _) (Dj (Ay d) lo) (S9 (e j a).1) (e i b).2 (e j a).2
def SL.join{xs:AK}{lo mid hi:Nat}(h1:SL Z0 xs lo mid)(h2:SL Z0 xs mid hi)(h:lo<mid->mid<hi->kK Z0 xs (mid - 1)<=kK Z0 xs mid):SL Z0 xs lo hi:=λi j a b c=>by
 rcases Nat.lt_or_ge j mid with cj | cj
 .exact h1 i j a b cj
 .rcases Nat.lt_or_ge i mid with ci | ci
  .exact Fg (h1 i _ a (GX ci) (Dg (Hq ci) Nat.one_pos)) (Fg (h (DN a ci) (DN cj c)) (h2 mid j (Ae _) cj c))
  .exact h2 i j ci b c
def Qj{xs:AK}{lo hi:Nat}{x:Keyed}(h:hi<=xs.size)(hx:x∈(xs.extract lo hi).toList):∃j,lo<=j/\j<hi/\xs[j]?=some x:=by
 obtain ⟨j,b,rfl⟩:=Ef.mp hx;have a:j<hi - lo:=by rwa [Ea,Tn h] at b
 exact ⟨lo+j,Dz _ _,S9 a,by rw [<-RD h a,<-GQ,BL b]⟩
def Pu{xs:AK}{i:Nat}{P:Int->Prop}(hi:i<xs.size)(h:∀x,xs[i]?=some x->P (Z0.k x)):P (kK Z0 xs i):=by
 have e:xs[i]?=some xs[i]:=Fp hi;rw [Fq e];exact h _ e
def mF(sa:Nat)(m:AK):SX Bool:=do
 modify λs=>setArr s (m.toList.zipIdx.foldl (λa (p,j)=>a.setIfInBounds (sa+j) p) (arrOf s))
 return (failedOf (<-get)).isNone
def mC(arr:AK)(sa sb na nb:Nat):SX Bool:=if na<=nb then Vl (arr.extract sa sb) (arr.extract sb (sb+nb)) >>= mF sa else VV (arr.extract sa sb) (arr.extract sb (sb+nb)) >>= mF sa
def mB(arr:AK)(sa sb na nb:Nat):SX Bool:=do
 match <-JQ true (<-elem' arr (sa+na - 1)) arr sb nb (nb - 1) with
 | some k=>if k==0 then pure true else mC arr sa sb na k
 | _=>pure false
def mA(arr:AK)(sa sb na nb:Nat):SX Bool:=do
 match <-JQ false (<-elem' arr sb) arr sa na 0 with
 | some k=>if na - k==0 then pure true else mB arr (sa+k) sb (na - k) nb
 | _=>pure false
def z6(i):mergeAt' i=(do
 let s <-get
 match ((pendingOf s)[i]?,(pendingOf s)[i+1]?) with
 | (some (sa,na,power),some (sb,nb,_))=>do
  set (setPending s (((pendingOf s).setIfInBounds i (sa,na+nb,power)).eraseIdxIfInBounds (i+1)))
  mA (arrOf s) sa sb na nb
 | _=>unsupported "internal:list.sort.pending"):=by kernel_rfl
def Zxw(H:HL Z0){st:SortSt}(G:Gd Z0 st)(hf:failedOf st=none){sa sb na nb:Nat}{Q:Bool->SortSt->Prop}(ha:sa<sb)(hb:1<=nb)(hs:sb+nb<=(arrOf st).size)(s1:SL Z0 (arrOf st) sa sb)(s2:SL Z0 (arrOf st) sb (sb+nb))(q1:kK Z0 (arrOf st) sb<=kK Z0 (arrOf st) sa)(q2:kK Z0 (arrOf st) (sb+nb - 1)<=kK Z0 (arrOf st) (sb - 1))
  (h:∀st',Ch sa (sb+nb) st st'->SL Z0 (arrOf st') sa (sb+nb)->(∀u,sa<=u->u<sb+nb->kK Z0 (arrOf st) sb<=kK Z0 (arrOf st') u/\kK Z0 (arrOf st') u<=kK Z0 (arrOf st) (sb - 1))->Q true st'):Wz Z0 (mC (arrOf st) sa sb na nb) Q st:=by
 have s:=Ii (n:=sb) hb;have d:=Ak (Dz sb nb) hs;have L:sb - 1<sb:=Dg (Hq ha) Nat.one_pos;have D:sb+nb - 1<sb+nb:=Dg (Hq s) Nat.one_pos;have F:∀{l r:Nat},∀x∈((arrOf st).extract l r).toList,Z0.g x:=λ{l r} x o=>by
  rw [JG,Kg] at o;exact G.g x (Le (G5 o))
 have A:=Tn (lo:=sa) d;have C:=Tn (lo:=sb) hs;rw [Lf] at C
 have X:Hc Z0 st ((arrOf st).extract sa sb) ((arrOf st).extract sb (sb+nb)):=⟨H,G.k,F,F,Yh s1 d,Yh s2 hs,by rw [A];exact G7 ha,by rw [C];exact hb,λx o y v=>by
  obtain ⟨j,a,b,e⟩:=Qj d o;rw [RD hs (G7 s)] at v;rw [<-Fq (Z0:=Z0) e,<-Fq (Z0:=Z0) v];exact Fg q1 (s1 sa j (Ae _) a b),λy v x o=>by
  obtain ⟨j,a,b,e⟩:=Qj hs v;rw [A,RD d (Dg (G7 ha) Nat.one_pos),Nat.sub_right_comm,Hj (GX ha)] at o;rw [<-Fq (Z0:=Z0) e,<-Fq (Z0:=Z0) o]
  exact Fg (s2 j _ a (GX b) D) q2⟩
 have q:Mq Z0 st ((arrOf st).extract sa sb) ((arrOf st).extract sb (sb+nb)) (λm st'=>Wz Z0 (mF sa m) Q st'):=λm st' S z=>by
  obtain ⟨w,I⟩:=z;have O:m.toList.length=sb - sa+nb:=by rw [w.length_eq,Di,Ea,Ea,A,C]
  have t:sa+m.toList.length=sb+nb:=by rw [O,<-Nat.add_assoc,Hj (Ay ha)]
  refine Aj (Jb (Aj (wpS_get (Ai ?_))));show Q (failedOf st').isNone (setArr st' (put sa m.toList 0 (arrOf st')));rw [S.a,S.f,hf];have E:∀u,(put sa m.toList 0 (arrOf st))[u]?=if sa<=u/\u<sb+nb then m[u - sa]? else (arrOf st)[u]?:=λu=>by rw [XM m.toList 0 _ (by rw [Nat.add_zero,t];exact hs),Nat.add_zero,t,GQ]
  have B:∀u,sa<=u->u<sb+nb->∃z,m[u - sa]?=some z/\kK Z0 (put sa m.toList 0 (arrOf st)) u=Z0.k z:=λu a b=>by
   obtain ⟨z,e⟩:=at0 (a:=m) (i:=u - sa) (by rw [<-Ea];exact Nat.sub_lt_left_of_lt_add a (t▸b));exact ⟨z,e,Fq ((E u).trans (by rw [iP ⟨a,b⟩,e]))⟩
  refine h _ ⟨S.k,S.p,S.f,?_,λu M=>(E u).trans (iN λy=>M.elim (Nat.not_lt_of_le y.1) (Nat.not_le_of_lt y.2))⟩ (λi j a b c=>?_) λu a b=>?_
  .refine Oh.mpr ?_;show (put sa m.toList 0 (arrOf st)).toList.Perm _;rw [zK (t▸hs),t];have e:(arrOf st).toList=(arrOf st).toList.take sa++((((arrOf st).extract sa sb).toList++((arrOf st).extract sb (sb+nb)).toList)++(arrOf st).toList.drop (sb+nb)):=by
    rw [JG,JG,Kg,Kg,Lf,Fx,<-List.drop_drop,KN];have z:=KN (sb - sa) ((arrOf st).toList.drop sa);rw [List.drop_drop,Hj (Ay ha)] at z;rw [z,KN]
   exact (List.Perm.append_left _ (List.Perm.append_right _ w)).trans (List.Perm.of_eq e.symm)
  .obtain ⟨x,ex,kx⟩:=B i a (DN b c);obtain ⟨y,N,J⟩:=B j (Ak a b) c;exact kx▸J▸Ma I (Nat.sub_le_sub_right b sa) ex N
  .obtain ⟨z,e,K⟩:=B u a b;show _<=kK Z0 (put sa m.toList 0 (arrOf st)) u/\kK Z0 (put sa m.toList 0 (arrOf st)) u<=_;rw [K];rcases Gv.mp (w.mem_iff.mp (Et e)) with y | y
   .obtain ⟨j,a,b,e⟩:=Qj d y;rw [<-Fq (Z0:=Z0) e];exact ⟨Fg q1 (s1 sa j (Ae _) a b),s1 j _ a (GX b) L⟩
   .obtain ⟨j,a,b,e⟩:=Qj hs y;rw [<-Fq (Z0:=Z0) e];exact ⟨s2 sb j (Ae _) a b,Fg (s2 j _ a (GX b) D) q2⟩
 exact Bl (λ_=>Aj (oK X q)) λ_=>Aj (m6 X q)
def SL.sub{xs:AK}{lo hi lo' hi':Nat}(h:SL Z0 xs lo hi)(h1:lo<=lo')(h2:hi'<=hi):SL Z0 xs lo' hi':=λi j a b c=>h i j (Ak h1 a) b (Aw c h2)
def SL.ch{st st':SortSt}{l r lo hi:Nat}(h:SL Z0 (arrOf st) lo hi)(C:Ch l r st st')(z:hi<=l\/r<=lo):SL Z0 (arrOf st') lo hi:=λi j a b c=>by
 rw [Fo (C.out i (z.imp (Aw (DN b c)) λy=>Ak y a)),Fo (C.out j (z.imp (Aw c) λy=>Ak y (Ak a b)))];exact h i j a b c
def ZxA(H:HL Z0){st:SortSt}(G:Gd Z0 st)(hf:failedOf st=none){sa k na sb nb:Nat}{Q:Bool->SortSt->Prop}(e:sa+k+na=sb)(ha:1<=na)(hb:1<=nb)(hs:sb+nb<=(arrOf st).size)(s1:SL Z0 (arrOf st) sa sb)(s2:SL Z0 (arrOf st) sb (sb+nb))(g1:∀j,sa<=j->j<sa+k->kK Z0 (arrOf st) j<=kK Z0 (arrOf st) sb)(g2:kK Z0 (arrOf st) sb<=kK Z0 (arrOf st) (sa+k))
  (h:∀st',Ch sa (sb+nb) st st'->SL Z0 (arrOf st') sa (sb+nb)->Q true st'):Wz Z0 (mB (arrOf st) (sa+k) sb na nb) Q st:=by
 have l:sa+k<sb:=e▸Ii ha;have w:sb - 1<sb:=Dg (Hq l) Nat.one_pos;have A:=Ii (n:=sb) hb;have t:=Aw A hs;obtain ⟨x,ex⟩:=at0 (a:=arrOf st) (i:=sb - 1) (FW w t);refine Aj (Do (e▸ex) (Aj (Lj H G.k (G.g _ (Et ex)) G.g (λu v x y a b c D q=>s2.at a b c D q) hs (Dg hb Nat.one_pos) λd E r m=>?_)));simp only [GZ] at r m;rw [<-Fq (Z0:=Z0) ex] at r m;refine Ej (λc=>Ai (h st (Ch.refl _ _ _) (s1.join s2 λ_ _=>?_))) λc=>?_
 .subst c;exact Pu (P:=λz=>_<=z) t (m 0 (Ae _) hb)
 .have p:=IK c;have o:sb+d<=sb+nb:=Dj E sb;have f:=Ak o hs;have s:sb+d - 1<sb+d:=Dg (Aw p (Pq _ _)) Nat.one_pos;refine Zxw H G hf l p f (s1.sub (Dz _ _) (Ae _)) (s2.sub (Ae _) o) g2 (Dt (Pu (P:=λz=>z<_) (Aw s f) λy q=>r (d - 1) (Dg p Nat.one_pos) y (by rw [<-Nat.add_sub_assoc p];exact q))) λst' C S B=>h st' (C.mono (Dz _ _) o) ?_;refine SL.join (SL.ch (s1.sub (Ae _) (Ay l)) C (.inl (Ae _))) (SL.join S (SL.ch (s2.sub (Dz _ _) (Ae _)) C (.inr (Ae _))) λa b=>?_) λa b=>?_
  .refine Fg (B _ (GX a) s).2 ?_;rw [Fo (C.out (sb+d) (.inr (Ae _)))];exact Pu (P:=λz=>_<=z) (Aw b hs) (m d (Ae _) (Nat.lt_of_add_lt_add_left b))
  .have y:sa+k - 1<sa+k:=Dg (Hq a) Nat.one_pos;rw [Fo (C.out (sa+k - 1) (.inl y))];exact Fg (g1 _ (GX a) y) (B _ (Ae _) (FW l (Ii p))).1
def ZxD(H:HL Z0){st:SortSt}(G:Gd Z0 st)(hf:failedOf st=none){sa na nb:Nat}{Q:Bool->SortSt->Prop}(ha:1<=na)(hb:1<=nb)(hs:sa+na+nb<=(arrOf st).size)(s1:SL Z0 (arrOf st) sa (sa+na))(s2:SL Z0 (arrOf st) (sa+na) (sa+na+nb))
  (h:∀st',Ch sa (sa+na+nb) st st'->SL Z0 (arrOf st') sa (sa+na+nb)->Q true st'):Wz Z0 (mA (arrOf st) sa (sa+na) na nb) Q st:=by
 have d:=Ak (Dz _ nb) hs;obtain ⟨y,e⟩:=at0 (a:=arrOf st) (i:=sa+na) (Aw (Ii hb) hs);refine Aj (Do e (Aj (Lj H G.k (G.g _ (Et e)) G.g (λu v x y a b c q p=>s1.at a b c q p) d ha λk m n f=>?_)));simp only [DQ,Ca] at n f;rw [<-Fq (Z0:=Z0) e] at n f;have o:∀{j},j<na->sa+j<(arrOf st).size:=λz=>Aw (J6 z sa) d;have g:∀j,sa<=j->j<sa+k->kK Z0 (arrOf st) j<=kK Z0 (arrOf st) (sa+na):=λj a b=>by
  have z:j - sa<k:=Nat.sub_lt_left_of_lt_add a b;have y:=Hj a;exact y▸Pu (P:=λz=>z<=_) (o (Aw z m)) (n (j - sa) z)
 refine Ej (λc=>Ai (h st (Ch.refl _ _ _) (s1.join s2 λa _=>g _ (GX a) ?_))) λc=>?_
 .rw [HW m (Nat.le_of_sub_eq_zero c)];exact Dg (Hq a) Nat.one_pos
 .have l:k<na:=Nat.lt_of_sub_pos (IK c);exact ZxA H G hf (by rw [Nat.add_assoc,Hj m]) (IK c) hb hs s1 s2 g (Dt (Pu (P:=λz=>_<z) (o l) (f k (Ae _) l))) h
structure Mg(lo hi:Nat)(P:Array (Nat×Nat×Nat))(st st':SortSt):Prop where
 k:kindOf st'=kindOf st
 p:pendingOf st'=P
 f:failedOf st'=failedOf st
 perm:(arrOf st').Perm (arrOf st)
 out:∀i,i<lo\/hi<=i->(arrOf st')[i]?=(arrOf st)[i]?
def rM(H:HL Z0){st:SortSt}(G:Gd Z0 st)(hf:failedOf st=none){sa na nb p1 p2:Nat}{Q:Bool->SortSt->Prop}(hp:(pendingOf st)[i]?=some (sa,na,p1))(hq:(pendingOf st)[i+1]?=some (sa+na,nb,p2))(ha:1<=na)(hb:1<=nb)(hs:sa+na+nb<=(arrOf st).size)(s1:SL Z0 (arrOf st) sa (sa+na))(s2:SL Z0 (arrOf st) (sa+na) (sa+na+nb))(h:∀st',Mg sa (sa+na+nb) (((pendingOf st).setIfInBounds i (sa,na+nb,p1)).eraseIdxIfInBounds (i+1)) st st'->SL Z0 (arrOf st') sa (sa+na+nb)->Q true st'):Wz Z0 (mergeAt' i) Q st:=by
 rw [z6];refine Aj (wpS_get ?_);rw [hp,hq];exact Aj (Jb (f:=λ_=>setPending st (((pendingOf st).setIfInBounds i (sa,na+nb,p1)).eraseIdxIfInBounds (i+1))) (ZxD (st:=setPending st (((pendingOf st).setIfInBounds i (sa,na+nb,p1)).eraseIdxIfInBounds (i+1))) H ⟨G.k,G.g⟩ hf ha hb hs s1 s2 λst' C S=>h st' ⟨C.k,C.p,C.f,C.perm,C.out⟩ S))
end
def Runs(Z0:Zc)(arr:AK):List (Nat×Nat×Nat)->Nat->Nat->Prop
 | [],lo,hi=>lo=hi
 | t::r,lo,hi=>t.1=lo/\1<=t.2.1/\SL Z0 arr lo (lo+t.2.1)/\Runs Z0 arr r (lo+t.2.1) hi
section
variable{Z0:Zc}{arr arr':AK}
def NT:∀{L:List (Nat×Nat×Nat)} {lo hi:Nat},Runs Z0 arr L lo hi->lo+L.length<=hi
 | [],lo,hi,h=>by have:lo=hi:=h;simp;lia
 | t::r,lo,hi,h=>by
  have:=NT h.2.2.2;have:=h.2.1;rw [Gp]
  lia
def Lw:∀{L M:List (Nat×Nat×Nat)} {lo hi:Nat},Runs Z0 arr (L++M) lo hi↔∃mid,Runs Z0 arr L lo mid/\Runs Z0 arr M mid hi
 | [],M,lo,hi=>⟨λh=>⟨lo,rfl,h⟩,λ⟨mid,e,h⟩=>by have e:lo=mid:=e;subst e;exact h⟩
 | t::r,M,lo,hi=>by
  constructor
  .rintro ⟨a,b,c,d⟩;obtain ⟨mid,x,y⟩:=Lw.mp d;exact ⟨mid,⟨a,b,c,x⟩,y⟩
  .rintro ⟨mid,⟨a,b,c,x⟩,y⟩;exact ⟨a,b,c,Lw.mpr ⟨mid,x,y⟩⟩
def Ui:∀{L:List (Nat×Nat×Nat)} {lo hi:Nat},Runs Z0 arr L lo hi->(∀k,lo<=k->k<hi->kK Z0 arr' k=kK Z0 arr k)->Runs Z0 arr' L lo hi
 | [],_,_,h,_=>h
 | t::r,lo,hi,⟨a,b,c,d⟩,e=>by
  have:=NT d;exact ⟨a,b,λi j p q z=>by rw [e i p (by lia),e j (by lia) (by lia)];exact c i j p q z,Ui d λk p q=>e k (by lia) q⟩
def jh:∀{L M:List (Nat×Nat×Nat)} {lo hi:Nat},Runs Z0 arr L lo hi->M.map (λt=>(t.1,t.2.1))=L.map (λt=>(t.1,t.2.1))->Runs Z0 arr M lo hi
 | [],[],_,_,h,_=>h
 | [],_::_,_,_,_,e=>by simp at e
 | _::_,[],_,_,_,e=>by simp at e
 | t::r,u::s,lo,hi,⟨a,b,c,d⟩,e=>by
  rw [Bk,Bk] at e;injection e with e1 e2
  injection e1 with e1 e3
  refine ⟨e1.trans a,by rw [e3];exact b,by rw [e3];exact c,?_⟩;rw [e3];exact jh d e2
def oZ{L:List (Nat×Nat×Nat)}{lo hi:Nat}{t u:Nat×Nat×Nat}(h:Runs Z0 arr L lo hi)(ht:L[i]?=some t)(hu:L[i+1]?=some u) :
  ∃l r,L=l++t::u::r/\l.length=i/\u.1=t.1+t.2.1/\1<=t.2.1/\1<=u.2.1/\lo<=t.1/\t.1+t.2.1+u.2.1<=hi/\SL Z0 arr t.1 (t.1+t.2.1)/\SL Z0 arr (t.1+t.2.1) (t.1+t.2.1+u.2.1):=by
 obtain ⟨j,rfl⟩:=Dc.mp ht;obtain ⟨n,rfl⟩:=Dc.mp hu;have e:L=L.take i++L[i]::L[i+1]::L.drop (i+2):=by
  rw [List.getElem_cons_drop,List.getElem_cons_drop,KN]
 refine ⟨L.take i,L.drop (i+2),e,by rw [Eb];lia,?_⟩;rw [e] at h;obtain ⟨m,o,a,b,c,d,f,g,k⟩:=Lw.mp h;have p:=NT o;have q:=NT k;rw [a];exact ⟨d,b,f,by lia,by lia,c,g⟩
def qd(h:Runs Z0 arr (l++t::u::r) 0 hi)(s:SL Z0 arr' t.1 (t.1+t.2.1+u.2.1))(o:∀i,i<t.1\/t.1+t.2.1+u.2.1<=i->arr'[i]?=arr[i]?):Runs Z0 arr' (l++(t.1,t.2.1+u.2.1,p)::r) 0 hi:=by
 obtain ⟨e,j,a,b,c,d,f,g,k⟩:=Lw.mp h;refine Lw.mpr ⟨e,Ui j λi _ z=>Fo (o i (by lia)),a,by show 1<=t.2.1+u.2.1;lia,?_,?_⟩
 .show SL Z0 arr' e (e+(t.2.1+u.2.1));rw [<-Nat.add_assoc,<-a];exact s
 .show Runs Z0 arr' r (e+(t.2.1+u.2.1)) hi;rw [<-Nat.add_assoc];exact Ui k λi z _=>Fo (o i (by lia))
end
section
variable{Z0:Zc}
structure Wh(Z0:Zc)(a₀:AK)(lo:Nat)(st:SortSt):Prop where
 perm:(arrOf st).Perm a₀
 g:Gd Z0 st
 f:failedOf st=none
 r:Runs Z0 (arrOf st) (pendingOf st).toList 0 lo
def Zoe(l r)(t u v){P:Array (Nat×Nat×Nat)}(e:P.toList=l++t::u::r):((P.setIfInBounds l.length v).eraseIdxIfInBounds (l.length+1)).toList=l++v::r:=by
 have a:P.size=l.length+(r.length+2):=by
  rw [<-Ea,e];simp
 rw [Array.eraseIdxIfInBounds,dif_pos (by rw [Array.size_setIfInBounds];lia),Array.toList_eraseIdx,Array.toList_setIfInBounds,e,List.set_append_right _ _ (Ae _),Nat.sub_self,List.eraseIdx_append_of_length_le (by lia),Lf];rfl
def kJ(H:HL Z0){a₀:AK}{lo:Nat}{st:SortSt}(W:Wh Z0 a₀ lo st)(hl:lo<=a₀.size)(hi:i+1<(pendingOf st).size){Q:Bool->SortSt->Prop}(h:∀st',Wh Z0 a₀ lo st'->(pendingOf st').size+1=(pendingOf st).size->(∀k,lo<=k->(arrOf st')[k]?=(arrOf st)[k]?)->Q true st'):Wz Z0 (mergeAt' i) Q st:=by
 obtain ⟨t,c⟩ : ∃t,(pendingOf st)[i]?=some t:=⟨_,Fp (by lia)⟩;obtain ⟨u,b⟩ : ∃u,(pendingOf st)[i+1]?=some u:=⟨_,Fp hi⟩;obtain ⟨l,r,e,q,s,v,w,y,B,o,d⟩:=oZ W.r (by rw [GQ];exact c) (by rw [GQ];exact b);have z:=W.perm.size_eq;have m:t=(t.1,t.2.1,t.2.2):=rfl;have j:u=(t.1+t.2.1,u.2.1,u.2.2):=by rw [<-s]
 refine rM H W.g W.f (by rw [c,m]) (by rw [b,j]) v w (by lia) o d λst' M S=>?_;have a:(pendingOf st').toList=l++(t.1,t.2.1+u.2.1,t.2.2)::r:=by
  rw [M.p,<-q];exact Zoe l r t u _ e
 refine h st' ⟨M.perm.trans W.perm,⟨M.k.trans W.g.k,λx n=>W.g.g x ((Oh.mp M.perm).mem_iff.mp n)⟩,M.f.trans W.f,?_⟩ ?_ λk A=>M.out k (by lia)
 .rw [a];have R:=W.r;rw [e] at R;exact qd R S M.out
 .rw [<-Ea,<-Ea,a,e];simp
  lia
def Zsn{P:Array (Nat×Nat×Nat)}(h:∀t,((f t).1,(f t).2.1)=(t.1,t.2.1)):(P.modify i f).toList.map (λt=>(t.1,t.2.1))=P.toList.map (λt=>(t.1,t.2.1)):=by
 apply N7;intro k;rw [Cj,Cj,GQ,GQ,Array.getElem?_modify];split
 .cases P[k]? with
  | none=>rfl
  | some t=>exact Ew some (h t)
 .rfl
def Wh.ch{a₀:AK}{lo hi:Nat}{st st':SortSt}(W:Wh Z0 a₀ lo st)(C:Ch lo hi st st'):Wh Z0 a₀ lo st':=⟨C.perm.trans W.perm,W.g.ch C,C.f.trans W.f,by rw [C.p];exact Ui W.r λk _ z=>Fo (C.out k (.inl z))⟩
def Wh.push{a₀:AK}{lo:Nat}{st:SortSt}(W:Wh Z0 a₀ lo st)(S:SL Z0 (arrOf st) lo (lo+n))(h:1<=n):Wh Z0 a₀ (lo+n) (setPending st ((pendingOf st).push (lo,n,0))):=⟨W.perm,⟨W.g.k,W.g.g⟩,W.f,by
 show Runs Z0 (arrOf st) ((pendingOf st).push (lo,n,0)).toList 0 (lo+n);rw [Array.toList_push]
 exact Lw.mpr ⟨lo,W.r,rfl,h,S,rfl⟩⟩
def Wh.pw{a₀:AK}{lo q:Nat}{st:SortSt}(W:Wh Z0 a₀ lo st):Wh Z0 a₀ lo (setPending st ((pendingOf st).modify i λx=>(x.1,x.2.1,q))):=⟨W.perm,⟨W.g.k,W.g.g⟩,W.f,jh W.r (Zsn λ_=>rfl)⟩
noncomputable def sM(pw:Nat):SX (ForInStep (Option Unit×Unit)):=do
 let s <-get
 match (if (pendingOf s).size>1 then (pendingOf s)[(pendingOf s).size - 2]? else none) with
 | some (_,_,older)=>if older<=pw then pure (.done (none,())) else mergeAt' ((pendingOf s).size - 2) >>= λb=>if !b then pure (.done (some (),())) else pure (.yield (none,()))
 | _=>pure (.done (none,()))
noncomputable def sQ(lo n:Nat):SX (ForInStep (Option Unit×Nat)):=do
 modify λs=>setPending s ((pendingOf s).push (lo,n,0))
 pure (.yield (none,lo+n))
def sP(size lo n:Nat):SX (ForInStep (Option Unit×Nat)):=do
 let s <-get
 match (pendingOf s).back? with
 | some (s1,n1,_)=>do
  let c <-forIn [0:size] (none,()) λ_ _=>sM (power' size (2*s1+n1) (2*s1+n1+n1+n) size)
  match c.1 with
  | some a=>pure (.done (some a,lo))
  | none=>do
   modify λs=>setPending s ((pendingOf s).modify ((pendingOf s).size - 1) λ(d,b,_)=>(d,b,power' size (2*s1+n1) (2*s1+n1+n1+n) size))
   sQ lo n
 | _=>sQ lo n
def sL(size:Nat)(c:Option Unit×Nat):SX (ForInStep (Option Unit×Nat)):=if c.2>=size then pure (.done (none,c.2)) else do
 match <-countRun' c.2 (size - c.2) with
 | some n=>if n<minRun' size size 0 then (do
   rule "list.sort.binary-insertion"
   let b <-binarySort' c.2 (min (size - c.2) (minRun' size size 0)) n
   if !b then pure (.done (some (),c.2)) else sP size c.2 (min (size - c.2) (minRun' size size 0))) else sP size c.2 n
 | _=>pure (.done (some (),c.2))
noncomputable def sF:SX (ForInStep (Option Unit×Unit)):=do
 let s <-get
 if (pendingOf s).size<=1 then pure (.done (none,())) else do
  let b <-mergeAt' (if (if (pendingOf s).size - 2>0 then (pendingOf s)[(pendingOf s).size - 2 - 1]?.map (·.2.1) else none).any (·<((pendingOf s)[(pendingOf s).size - 2+1]?.elim 0 (·.2.1))) then (pendingOf s).size - 2 - 1 else (pendingOf s).size - 2)
  if !b then pure (.done (some (),())) else pure (.yield (none,()))
def VP:sortRuns'=(do
 let s <-get
 let c <-forIn [0:(arrOf s).size] (none,0) λ_=>sL (arrOf s).size
 match c.1 with
 | some a=>pure a
 | none=>do
  let c <-forIn [0:(arrOf s).size] (none,()) λ_ _=>sF
  match c.1 with
  | some a=>pure a
  | none=>pure ()):=by kernel_rfl
section
variable{st:SortSt}{a₀:AK}{lo:Nat}
def two{n:Nat}(h:1<n):n - 2+1<n/\n - 2 - 1+1<n:=by lia
def two'{n:Nat}{b:Bool}(h:1<n):(if b=true then n - 2 - 1 else n - 2)+1<n:=by
 cases b with
 | true=>exact (two h).2
 | false=>exact (two h).1
def vp(H:HL Z0)(W:Wh Z0 a₀ lo st)(S:SL Z0 (arrOf st) lo (lo+n))(hl:lo<=a₀.size)(n1:1<=n){Q:ForInStep (Option Unit×Nat)->SortSt->Prop}(h:∀st',Wh Z0 a₀ (lo+n) st'->Q (.yield (none,lo+n)) st'):Wz Z0 (sP a₀.size lo n) Q st:=by
 refine Aj (wpS_get ?_);cases (pendingOf st).back? with
 | none=>exact Aj (Jb (Ai (h _ (W.push S n1))))
 | some b=>
  refine Ms (λ_ c st'=>c.1=none/\Wh Z0 a₀ lo st'/\SL Z0 (arrOf st') lo (lo+n)) (λc st'=>c.1=none/\Wh Z0 a₀ lo st'/\SL Z0 (arrOf st') lo (lo+n)) (λx c st' _ z=>Aj (wpS_get ?_)) (λ_ _ z=>z) ⟨rfl,W,S⟩ ?_
  .by_cases d:(pendingOf st').size>1
   .rw [iP d,Fp (J2 (two d).1)]
    exact Bl (λ_=>Ai ⟨rfl,z.2⟩) λ_=>Aj (kJ H z.2.1 hl (two d).1 λe f _ o=>Ai ⟨rfl,f,λi j a b c=>by
     rw [Fo (o i a),Fo (o j (Ak a b))]
     exact z.2.2 i j a b c⟩)
   .rw [iN d];exact Ai ⟨rfl,z.2⟩
  .rintro ⟨_,_⟩ st' ⟨rfl,W,S⟩;exact Aj (Jb (Aj (Jb (Ai (h _ (W.pw.push S n1))))))
def wpS_sortRuns(H:HL Z0)(W:Wh Z0 a₀ 0 st)(h1:1<=a₀.size){Q:Unit->SortSt->Prop}(h:∀st',(arrOf st').Perm a₀->failedOf st'=none->SL Z0 (arrOf st') 0 a₀.size->Q () st'):Wz Z0 sortRuns' Q st:=by
 rw [VP];refine Aj (wpS_get ?_);rw [show (arrOf st).size=a₀.size from W.perm.size_eq];refine Ms (λx c st'=>c.1=none/\c.2<=a₀.size/\x<=c.2/\Wh Z0 a₀ c.2 st') (λc st'=>c.1=none/\Wh Z0 a₀ a₀.size st') ?_ (λc st' z=>⟨z.1,HW z.2.1 z.2.2.1▸z.2.2.2⟩) ⟨rfl,Bw _,Ae _,W⟩ ?_
 .rintro x ⟨_,b⟩ st' _ ⟨rfl,i,D,W⟩;refine Bl (λc=>Ai ⟨rfl,HW i c▸W⟩) λc=>?_;have l:b<a₀.size:=JZ c;have e:=Hj i;have p:=W.perm.size_eq;have s:∀{n a},Wh Z0 a₀ b a->SL Z0 (arrOf a) b (b+n)->1<=n->n<=a₀.size - b->Wz Z0 (sP a₀.size b n) (Tu (λc st'=>c.1=none/\Wh Z0 a₀ a₀.size st') λc st'=>c.1=none/\c.2<=a₀.size/\x+1<=c.2/\Wh Z0 a₀ c.2 st') a:=λW S q E=>vp H W S i q λst' W=>⟨rfl,e▸Dj E b,Nat.add_le_add D q,W⟩;refine Aj (wpS_countRun H W.g (by rw [e,p];exact Ae _) (G7 l) λm a C o j S=>Bl (λd=>Aj (wpS_lift (Gj ⟨rfl,Aj (wpS_binarySort H (W.ch C).g ?_ (Nat.le_min.mpr ⟨j,Ay d⟩) o S λw v B=>s ((W.ch C).ch v) B (Ak o (Nat.le_min.mpr ⟨j,Ay d⟩)) (Nat.min_le_left _ _))⟩))) λ_=>s (W.ch C) S o j);rw [C.size,p];exact Ak (Dj (Nat.min_le_left _ _) b) (HD e)
 .rintro ⟨_,c⟩ st' ⟨rfl,W⟩;have l:=NT W.r;rw [Ea,Hn] at l;refine Js (λy c st'=>c.1=none/\Wh Z0 a₀ a₀.size st'/\(pendingOf st').size<=y+1) (λc st'=>c.1=none/\Wh Z0 a₀ a₀.size st'/\(pendingOf st').size<=1) (λy c st' z=>Aj (wpS_get (Bl (λc=>Ai ⟨rfl,z.2.1,c⟩) λc=>Aj (kJ H z.2.1 (Ae _) ?_ λa A F _=>Ai ⟨rfl,A,O7 (Ak (HD F) z.2.2)⟩)))) (λ_ _ z=>z) ⟨rfl,W,JM l⟩ ?_
  .exact two' (JZ c)
  .rintro ⟨_,c⟩ st' ⟨rfl,W,k⟩;refine Ai (h st' W.perm W.f ?_);have R:=W.r;rw [<-Ea] at k;generalize (pendingOf st').toList=L at *;cases L with
   | nil=>exact aB (show 0=a₀.size from R) (Am h1)
   | cons t r=>
    cases r with
    | nil=>
     have z:0+t.2.1=a₀.size:=R.2.2.2;exact z▸R.2.2.1
    | cons u r=>exact aB (O7 k) (Nat.not_succ_le_zero _)
end
end
end L2.Ts
namespace L2.Ts
open PySem.W PySem.Calls
section
variable{prog:Program} {E:VS}
def Xe(vs:List Value):(vs.toArray.zip vs.toArray).toList=vs.map λv=>(v,v):=by
 apply List.ext_getElem
 .simp
 .intro i a b;simp
end
end L2.Ts
namespace Dl
noncomputable def keyP(p:Int×Int):Int:=p.1*1000000+p.2
def insP(p:Int×Int):List (Int×Int)->List (Int×Int)
 | []=>[p]
 | q::r=>if keyP p<=keyP q then p::q::r else q::insP p r
def JN:List (Int×Int)->List (Int×Int)
 | []=>[]
 | p::r=>insP p (JN r)
def Wk(p):∀l,(insP p l).Perm (p::l)
 | []=>.refl _
 | q::r=>by
  unfold insP;split
  .rfl
  .exact ((Wk p r).cons q).trans (.swap p q r)
def Uk:∀l,(JN l).Perm l
 | []=>.refl _
 | p::r=>(Wk p _).trans ((Uk r).cons p)
def iW:∀{l},(l.Pairwise λa b=>keyP a<=keyP b)->(insP p l).Pairwise λa b=>keyP a<=keyP b
 | [],_=>List.pairwise_singleton _ _
 | q::r,h=>by
  have d:=Dq.mp h;unfold insP;split
  .next c=>
   refine Dq.mpr ⟨λx hx=>?_,h⟩
   grind
  .next c=>
   refine Dq.mpr ⟨λx hx=>?_,iW d.2⟩;rcases BV.mp ((Wk p r).mem_iff.mp hx) with rfl | hx
   .lia
   simp_all
def V5:∀l,(JN l).Pairwise λa b=>keyP a<=keyP b
 | []=>List.Pairwise.nil
 | _::r=>iW (V5 r)
def okP(p:Int×Int):Prop:=0<=p.2/\p.2<1000000
def ZpN(hp:okP p)(hq:okP q)(h:keyP p=keyP q):p=q:=by
 unfold keyP at h;unfold okP at hp hq
 grind
theorem W7:∀{l m:List (Int×Int)},l.Perm m->(∀p∈l,okP p)->(l.Pairwise λa b=>keyP a<=keyP b)->(m.Pairwise λa b=>keyP a<=keyP b)->l=m
 | [],m,hp,_,_,_=>(List.Perm.eq_nil hp.symm).symm
 | a::r,[],hp,_,_,_=>aB hp.length_eq (by simp)
 | a::r,b::t,hp,ok,h1,h2=>by
  have d:=Dq.mp h1;have c:=Dq.mp h2;have e:a=b:=by
   have ha:a∈b::t:=hp.mem_iff.mp BX;have f:b∈a::r:=hp.mem_iff.mpr BX;rcases BV.mp ha with e | ha
   .exact e
   .rcases BV.mp f with e | hb'
    .exact e.symm
    .have i:=d.1 b hb';have g:=c.1 a ha;exact ZpN (ok a BX) (ok b f) (by lia)
  subst e;rw [W7 (List.Perm.cons_inv hp) (λp h=>ok p (Bf _ h)) d.2 c.2]
end Dl
namespace L2
noncomputable def bkV:Value->V
 | .ref a=>.ref a
 | _=>.non
def pZ:∃n,(sortedAll h vs out).get? (h.objs.size+1)=some { cls:=.type "list",data:=.seq out n }:=by
 have f:((h.push (seqObj "list" #[] 0)).update h.objs.size (Obj.mapSeq (·++vs.toArray))).objs.size=h.objs.size+1:=by
  simp_all
 have b:(((h.push (seqObj "list" #[] 0)).update h.objs.size (Obj.mapSeq (·++vs.toArray))).push (seqObj "list" vs.toArray 0)).get? (h.objs.size+1)=some (seqObj "list" vs.toArray 0):=by
  rw [<-f];exact CJ _ rfl
 have i:=BP b;unfold sortedAll sortedHeap;generalize ((h.push (seqObj "list" #[] 0)).update h.objs.size (Obj.mapSeq (·++vs.toArray))).push (seqObj "list" vs.toArray 0)=g at *;generalize h.objs.size+1=a at *;obtain ⟨d,e⟩ : ∃d,(g.update a (Obj.mapSeq λ_=>#[])).get? a=some (seqObj "list" #[] d):=⟨_,Ox b (λ_=>#[])⟩;have c:(((g.update a (Obj.mapSeq λ_=>#[])).push (seqObj "tuple" vs.toArray 0)).push (seqObj "list" #[] 0)).get? a=some (seqObj "list" #[] d):=by
  rw [Du _ _ _ (by rw [Hr,Gu];exact Am (Dm i)),Du _ _ _ (by rw [Gu];exact Am i)];exact e
 exact ⟨_,Ox c (λ_=>out)⟩
def Zgf(q:h.get? b=some o):(sortedAll h vs out).get? b=some o:=by
 have c:=BP q;have a:((h.push (seqObj "list" #[] 0)).update h.objs.size (Obj.mapSeq (·++vs.toArray))).objs.size=h.objs.size+1:=by
  simp_all
 have e:b≠h.objs.size:=Am c;have d:b≠h.objs.size+1:=Am (Dm c);unfold sortedAll sortedHeap;rw [JB _ _ _ _ d,Du _ _ _ (by rw [Hr,Gu,Hr,a];exact Am (Dm (Dm (Dm c)))),Du _ _ _ (by rw [Gu,Hr,a];exact Am (Dm (Dm c))),JB _ _ _ _ d,Du _ _ _ (by rw [a];exact d),JB _ _ _ _ e,Du _ _ _ e];exact q
def Zy:∀{xs:List V} {us:List Value},Vals xs us->∀{i:Nat} {u:Value},us[i]?=some u->∃x,xs[i]?=some x/\RelV x u
 | _,_,.cons h _,0,_,e=>⟨_,rfl,by simp_all⟩
 | _,_,.cons _ t,i+1,_,e=>Zy t (by ext)
 | _,_,.nil,i,_,e=>by simp at e
end L2
namespace L2.Ts
open PySem.W PySem.Calls
structure P4(h:Heap)(v:Value)(c r:Int):Prop where
 ex:∃a o n t1 t2 us,v=.ref a/\h.get? a=some o/\o.cls=.type "tuple"/\o.data=.seq ⟨.int c t1::.int r t2::us⟩ n
 b:0<=r/\r<1000000
def P4.kept{h h':Heap}{v:Value}{c r:Int}(p:P4 h v c r)(k:∀b o,h.get? b=some o->h'.get? b=some o):P4 h' v c r:=by
 obtain ⟨⟨a,o,n,f,d,e,g,l,i,j⟩,b⟩:=p;exact ⟨⟨a,o,n,f,d,e,g,k a o l,i,j⟩,b⟩
noncomputable def hS(h:Heap)(a:Addr)(vs:List Value):Heap:=((h.update a (Obj.mapSeq λ_=>#[])).push (seqObj "tuple" vs.toArray 0)).push (seqObj "list" #[] 0)
def fS(g:Heap)(v:Value):Value:=match v with
 | .ref b=>match g.get? b with
  | some o=>match o.data with
   | .seq xs _=>xs.getD 0 .none
   | _=>.none
  | _=>.none
 | _=>.none
def ZQ{g:Heap}{b:Addr}{o:Obj}{xs:Array Value}{n:Nat}(h:g.get? b=some o)(k:o.data=.seq xs n):fS g (.ref b)=xs.getD 0 .none:=by
 unfold fS;simp only [h,k]
section
variable{prog:Program} {E:VS}
def wK{x:Value}{Q:Bool->Shared->Prop}(h:Q true s):wP prog w A (eqBool x x) Q E s:=by
 unfold eqBool;refine Cw ?_;rw [iP (by simp)];exact Ac (Gj (Ad h))
def Yi{b fin:Bool}{Q:Bool->Shared->Prop}(h:Q fin s):∀(us:List Value) (i:Nat),KatLex prog w A b fin Q (us.zip us) i s
 | [],_=>kat_nil h
 | u::us,i=>kat_cons (wK (kat_yes (Yi h us (i+1))))
def uD{x y:Value}{c r c' r':Int}(hx:P4 s.heap x c r)(hy:P4 s.heap y c' r')(hu:c=c'->r=r'->x=y):wP prog w A (keyLt' (tuples' true) x y) (λb s'=>s'=s/\b=decide (c*1000000+r<c'*1000000+r')) E s:=by
 obtain ⟨⟨a,o,n,k,j,l,rfl,p,C,m⟩,b⟩:=hx;obtain ⟨⟨D,B,t,g,i,h,rfl,d,q,f⟩,v⟩:=hy;refine kat_lt p m d f ?_;show KatLex prog w A true _ _ ((.int c k,.int c' g)::(.int r j,.int r' i)::l.zip h) 0 s;by_cases h0:c=c'/\r=r'
 .have e:=hu h0.1 h0.2;cases e;rw [p] at d;cases d;rw [m] at f;cases f;exact Yi ⟨rfl,by simp⟩ (.int c k::.int r j::l) 0
 refine kat_cons (wpAny_eqBool_int ?_);by_cases h1:c=c'
 .subst h1;rw [show (c==c)=true by simp];refine kat_yes (kat_cons (wpAny_eqBool_int ?_));have u:r≠r':=λz=>h0 ⟨rfl,z⟩;rw [show (r==r')=false by lia];refine kat_no ?_;show wpAny _ _ (oneLt' false _ _) _ _ _;refine kat_one _ _ (wpAny_lt_int (show _/\_ from ⟨rfl,?_⟩))
  lia
 .rw [show (c==c')=false by lia];refine kat_no ?_;show wpAny _ _ (oneLt' true _ _) _ _ _;refine oneLt_int ⟨rfl,?_⟩
  lia
def sZ{a:Addr}{vs:List Value}{kc kr:Value->Int}{n:Nat}{P:Fin->Shared->Prop}(ho:s.heap.get? a=some (seqObj "list" vs.toArray n))(hI:∀v∈vs,P4 s.heap v (kc v) (kr v)/\v≠.ref a)(hl:vs.length<=100000)(hu:∀x∈vs,∀y∈vs,kc x=kc y->kr x=kr y->x=y)
  (h:∀out:List Value,out.Perm vs->(out.Pairwise λx y=>kc x*1000000+kr x<=kc y*1000000+kr y)->P (.done (.ret .none)) (sH0 s (sortedHeap s.heap a vs out.toArray))) :
  wP prog w A (Builtin.«list.sort» ⟨[.ref a],[]⟩) P E s:=by
 rw [list_sort_plain];have ha:a<s.heap.objs.size:=BP ho;refine Ac (listItems_at ho rfl ?_);refine Ac (listUpdate_at ho rfl ?_ (by rw [Ht,Hs];lia) (Bw _));obtain ⟨D,C⟩ : ∃D,(s.heap.update a (Obj.mapSeq λ_=>#[])).get? a=some (seqObj "list" #[] D):=⟨_,Ox ho (λ_=>#[])⟩;refine Ac (seqEpoch_at C rfl ?_);refine Ac (wpAny_newTuple ?_ (by show vs.length<=_;rw [Hs];lia));refine Ac (wpAny_newList ?_ (Bw _));refine Cw ?_;have K:∀{b:Addr},b<s.heap.objs.size->b≠a->∀o,s.heap.get? b=some o->(hS s.heap a vs).get? b=some o:=λ{b} X L o e=>by
  rw [hS,Du _ _ _ (by rw [Hr,Gu];exact Am (Dm X)),Du _ _ _ (by rw [Gu];exact Am X),JB _ _ _ _ L];exact e
 have d:(hS s.heap a vs).get? a=some (seqObj "list" #[] D):=by
  rw [hS,Du _ _ _ (by rw [Hr,Gu];exact Am (Dm ha)),Du _ _ _ (by rw [Gu];exact Am ha)];exact C
 show wP prog w A _ P E (sH0 s (hS s.heap a vs))
 have G:∀v∈vs,P4 (hS s.heap a vs) v (kc v) (kr v):=λv U=>by
  obtain ⟨⟨⟨b,o,m,S,J,g,rfl,k,F,t⟩,N⟩,q⟩:=hI v U;exact ⟨⟨b,o,m,S,J,g,rfl,K (BP k) (λz=>q (by rw [z])) o k,F,t⟩,N⟩
 dsimp only;by_cases h2:vs.toArray.size<2
 .rw [iP h2,iP h2];refine Ac (Ad ?_);rw [StateT.run_pure];refine Ac (Ad ?_);dsimp only;have em:(vs.toArray.zip vs.toArray).map (·.2)=vs.toArray:=Array.toList_inj.mp (by rw [Array.toList_map,Xe,DX];exact List.map_id _);refine Ac (seqEpoch_at d rfl ?_);rw [em];refine Ac (listUpdate_at d rfl ?_ (Bw _) (Ak (Ay h2) (by decide)));simp only [bne_self_eq_false,DQ,Ca];exact Ad (h vs (List.Perm.refl _) (Jc.mpr λi j hi I l=>aB (DN (Nat.succ_le_of_lt l) I) (Nat.not_lt_of_le (Ak (KY h2) (JL (Bw i))))))
 .rw [iN h2,iN h2];have l2:2<=vs.length:=by simp_all
  refine Ac (kat_kind (vs:=vs) (fs:=vs.map (fS (hS s.heap a vs))) (T:=.type "int") ?_ (by grind) (λf R=>?_) (by decide) ?_)
  .have O:∀(g:List Value),(∀v∈g,v∈vs)->KatTups (hS s.heap a vs) g (g.map (fS (hS s.heap a vs))):=by
    intro g
    induction g with
    | nil=>exact λ_=>KatTups.nil
    | cons v r ih=>
     intro hm;obtain ⟨⟨b,o,m,S,J,g,rfl,k,F,t⟩,N⟩:=G v (hm v BX);rw [Bk];exact KatTups.cons k F t (by rw [ZQ k t];rfl) (ih λu hu=>hm u (Bf _ hu))
   exact O vs λ_ h=>h
  .obtain ⟨v,U,rfl⟩:=By.mp R;obtain ⟨⟨b,o,m,S,J,g,rfl,k,F,t⟩,N⟩:=G v U;rw [ZQ k t];exact Looks.now
  .let Z0:Zc:=⟨prog,w,A,E,(sH0 s (hS s.heap a vs)),tuples' true,λp=>kc p.1*1000000+kr p.1,λp=>p.1∈vs/\p.2=p.1⟩
   have H:HL Z0:=λx y gx Z=>uD (s:=(sH0 s (hS s.heap a vs))) (G _ gx.1) (G _ Z.1) (hu _ gx.1 _ Z.1)
   have V:∀p∈(vs.toArray.zip vs.toArray).toList,p.1∈vs/\p.2=p.1:=λp B=>by
    rw [Xe] at B
    grind
   have sz:(vs.toArray.zip vs.toArray).size=vs.length:=by simp
   have W:Wh Z0 (vs.toArray.zip vs.toArray) 0 (SortSt.mk' (tuples' true) (vs.toArray.zip vs.toArray) #[] 7 none):=⟨Array.Perm.refl _,⟨rfl,V⟩,rfl,rfl⟩;refine Ac (Ce (wpS_sortRuns (st:=SortSt.mk' (tuples' true) (vs.toArray.zip vs.toArray) #[] 7 none) (Q:=λ_ c=>(arrOf c).Perm (vs.toArray.zip vs.toArray)/\failedOf c=none/\SL Z0 (arrOf c) 0 (vs.toArray.zip vs.toArray).size) H W (by lia) λc a1 a2 a3=>⟨a1,a2,a3⟩) ?_ λ_ _ e=>e);rintro ⟨⟨⟩,c⟩ s' ⟨rfl,B,R,hs⟩;dsimp only;have Y:∀p∈(arrOf c).toList,p.1∈vs/\p.2=p.1:=λp M=>V p ((Oh.mp B).mem_iff.mp M);refine Ac (seqEpoch_at d rfl ?_);refine Ac (listUpdate_at d rfl ?_ (Bw _) (by refine Ak (HD ((Array.size_map ..).trans (B.size_eq.trans sz))) ?_;rw [Hs];lia));rw [R];simp only [bne_self_eq_false,DQ,Ca];refine Ad ?_;have z:=h ((arrOf c).toList.map (·.2)) ?_ ?_
   .rw [show ((arrOf c).toList.map (·.2)).toArray=(arrOf c).map (·.2) from Array.toList_inj.mp (by rw [Array.toList_map])] at z;exact z
   .have:=(Oh.mp B).map (·.2);rw [Xe,DX] at this;exact this.trans (List.Perm.of_eq (List.map_id _))
   .rw [Jz];refine Jc.mpr λi j hi I l=>?_;rw [Ea] at hi I;have D:=(Y _ (Km (show i<(arrOf c).toList.length by ext))).2;have e2:=(Y _ (Km (show j<(arrOf c).toList.length by ext))).2;rw [D,e2];exact SL.at (Z0:=Z0) hs (Bw _) (Ay l) (by rw [<-B.size_eq];exact I) (by simp_all) (by simp_all)
def sorted_two{l:Addr}{vs:List Value}{kc kr:Value->Int}{Q:VS}(hl:s.heap.IsList l vs.toArray)(hI:∀v∈vs,P4 s.heap v (kc v) (kr v))(hn:vs.length<=100000)(hu:∀x∈vs,∀y∈vs,kc x=kc y->kr x=kr y->x=y)
  (h:∀out:List Value,out.Perm vs->(out.Pairwise λx y=>kc x*1000000+kr x<=kc y*1000000+kr y)->Q (.ref (s.heap.objs.size+1)) (sH0 s (sortedAll s.heap vs out.toArray))) :
  wP prog w A (call (.builtin "sorted") [.ref l]) Q E s:=by
 refine Calls.call_function_entry kind_sorted plain_sorted entry_sorted (args_sorted1 _) ?_;unfold Builtin.«sorted»;refine Ac (m:=checkCount "sorted" 1 1 _) (Ad ?_);refine Ac (collect_list hl ?_ (by rw [Hs];omega));refine Ac (wpAny_newList ?_ (by rw [Hs];omega));have c:((s.heap.push (seqObj "list" #[] 0)).update s.heap.objs.size (Obj.mapSeq (·++vs.toArray))).objs.size=s.heap.objs.size+1:=by
  simp_all
 have f:(((s.heap.push (seqObj "list" #[] 0)).update s.heap.objs.size (Obj.mapSeq (·++vs.toArray))).push (seqObj "list" vs.toArray 0)).get? (s.heap.objs.size+1)=some (seqObj "list" vs.toArray 0):=by
  rw [<-c];exact CJ _ rfl
 have d:∀b o,s.heap.get? b=some o->(((s.heap.push (seqObj "list" #[] 0)).update s.heap.objs.size (Obj.mapSeq (·++vs.toArray))).push (seqObj "list" vs.toArray 0)).get? b=some o:=λb o q=>by
  have a:b<s.heap.objs.size:=BP q;rw [Du _ _ _ (by rw [c];exact Am (Dm a)),JB _ _ _ _ (Am a),Du _ _ _ (Am a)];exact q
 show wpAny _ _ _ _ _ (sH0 s (((s.heap.push (seqObj "list" #[] 0)).update s.heap.objs.size (Obj.mapSeq (·++vs.toArray))).push (seqObj "list" vs.toArray 0)))
 rw [c];refine Ac (Cw (Kd slot_list_sort ⟨_,f,rfl⟩ entry_list_sort (sZ (s:=(sH0 s (((s.heap.push (seqObj "list" #[] 0)).update s.heap.objs.size (Obj.mapSeq (·++vs.toArray))).push (seqObj "list" vs.toArray 0)))) f (λv g=>⟨(hI v g).kept d,λz=>?_⟩) hn hu λout i j=>⟨_,rfl,?_⟩) (args_list_sort _)))
 .obtain ⟨⟨b,o,m,r,n,u,e,t,k,p⟩,B⟩:=hI v g;simp_all
 .exact Ad ⟨_,rfl,h out i j⟩
end
end L2.Ts
namespace Dl
noncomputable def pr4:D->Option (Int×Int)
 | .tup (.int c::.int r::_)=>if 0<=r/\r<1000000 then some (c,r) else none
 | _=>none
def prs4:List D->Option (List (Int×Int))
 | []=>some []
 | d::ds=>match pr4 d,prs4 ds with
  | some p,some ps=>some (p::ps)
  | _,_=>none
noncomputable def dat4(ps:List (Int×Int))(ds:List D)(p:Int×Int):D:=((ps.zip ds).lookup p).getD .non
def RW:List D->Res D
 | [.lst ds]=>match prs4 ds with
  | some ps=>if ds.length<=1000/\ps.Nodup then .ok (.lst ((JN ps).map (dat4 ps ds))) else .bad
  | none=>.bad
 | _=>.bad
theorem Um{p:Int×Int}{d:D}:∀{ps:List (Int×Int)} {ds:List D} {i:Nat},ps.Nodup->ps[i]?=some p->ds[i]?=some d->dat4 ps ds p=d
 | [],_,_,_,h,_=>by simp at h
 | _::_,[],_,_,_,h=>by simp at h
 | q::ps,e::ds,0,_,a,h2=>by
  cases a;cases h2;simp [dat4]
 | q::ps,e::ds,i+1,n,a,h2=>by
  have b:=Hy.mp n;have a:ps[i]?=some p:=by ext
  have c:(p==q)=false:=by
   grind
  have:=Um b.2 a (by ext);unfold dat4 at this ⊢;rw [List.zip_cons_cons,List.lookup_cons,c]
  lia
end Dl
namespace L2
def cB(K:W1):List V->Hp->VK->Prop:=λb H Q=>∃(l:Addr) (xs:List V) (ps:List (Int×Int)),b=[.ref l]/\SqL K H l xs/\(ps.length=xs.length/\∀(i:Nat) (x:V),xs[i]?=some x->∃a p,ps[i]?=some p/\x=V.ref a/\(∃c,SqT K H a (.int p.1::.int p.2::c))/\Dl.okP p)/\ps.Nodup/\xs.length<=1000 /\
 ∀D (zs:List (V×(Int×Int))),H D=none->zs.Perm (xs.zip ps)->(zs.Pairwise λx y=>Dl.keyP x.2<=Dl.keyP y.2)->Q (.ref D) (upd H D (.lst (zs.map (·.1))))
def rd4(h:Heap):Value->Int×Int
 | .ref a=>(match h.get? a with
  | some o=>(match o.data with
   | .seq xs _=>(match xs.toList with
    | .int c _::.int r _::_=>(c,r)
    | _=>(0,0))
   | _=>(0,0))
  | none=>(0,0))
 | _=>(0,0)
section
def Zk5:Ep X (.builtin "sorted") (cB X.K):=by
 intro O s Y H vs g Q I rv ⟨l,N,L,e,hl,⟨J,hk⟩,Z,hn,hq⟩;subst e;cases rv with
 | cons E rr=>
  cases rr;cases E;obtain ⟨d,r,⟨o,n,C,B,_,e3⟩,_⟩:=I.list hl;have A:=r.length;have f:∀i u,d[i]?=some u->∃(a:Addr) (p:Int×Int),N[i]?=some (V.ref a)/\L[i]?=some p/\u=Value.ref a/\rd4 s.heap u=p/\Ts.P4 s.heap u p.1 p.2:=λi u t=>by
   obtain ⟨x,w,rx⟩:=Zy r t;obtain ⟨a,p,ep,rfl,⟨g,hT⟩,W⟩:=hk i x w;cases rx;obtain ⟨is,D,⟨o',p1,U,m,R⟩,_⟩:=I.tuple hT;cases D with
   | cons q1 D=>
    cases D with
    | @cons _ _ _ us' q2 D=>
     obtain ⟨t1,rfl⟩:=q1;obtain ⟨S,rfl⟩:=q2;refine ⟨a,p,w,ep,rfl,?_,⟨a,o',m,t1,S,us',rfl,p1,U,R⟩,W⟩;unfold rd4
     lia
  have hz:d.map (λu=>(bkV u,rd4 s.heap u))=N.zip L:=by
   apply N7;intro i;rw [Cj];cases eu:d[i]? with
   | none=>
    simp_all
   | some u=>
    obtain ⟨a,p,w,G,rfl,M,_⟩:=f i u eu;rw [List.getElem?_zip_eq_some (z:=(V.ref a,p)) |>.mpr ⟨w,G⟩];show some (V.ref a,rd4 s.heap (.ref a))=_;rw [M]
  refine Ts.sorted_two (vs:=d) (kc:=λu=>(rd4 s.heap u).1) (kr:=λu=>(rd4 s.heap u).2) ⟨o,C,B,n,e3⟩ (λv k=>?_) (by lia) (λu t v k C B=>?_) λout G hs=>?_
  .obtain ⟨i,y,rfl⟩:=Ef.mp k;obtain ⟨a,p,w,_,t,M,hP⟩:=f i _ (BL y)
   lia
  .obtain ⟨i,y,rfl⟩:=Ef.mp t;obtain ⟨j,hj,rfl⟩:=Ef.mp k;obtain ⟨_,p,_,h1,_,E,_⟩:=f i _ (BL y);obtain ⟨_,p',_,T,_,r2,_⟩:=f j _ (BL hj);rw [E,r2] at C B;have e:p=p':=Gn C B;subst e;have:i=j:=(List.getElem?_inj (by rw [J,A];exact y) Z).mp (h1.trans T.symm);subst this;rfl
  .obtain ⟨c,hc⟩:=pZ (h:=s.heap) (vs:=d) (out:=out.toArray);have k:Vals (out.map bkV) out:=by
    have key:∀g:List Value,(∀u∈g,u∈d)->Vals (g.map bkV) g:=by
     intro g
     induction g with
     | nil=>exact λ_=>.nil
     | cons u r ih=>
      intro P;refine .cons ?_ (ih λv k=>P v (Bf _ k));obtain ⟨i,y,rfl⟩:=Ef.mp (P u BX);obtain ⟨a,p,w,_,t,_⟩:=f i _ (BL y);rw [t];rfl
    grind
   have F:(out.map bkV).length<=sizeLine:=by rw [Al,G.length_eq,Hs];lia
   have I':=I.laid (a:=s.heap.objs.size+1) (t':=s.toks) (o:=.lst (out.map bkV)) (h':=sortedAll s.heap d out.toArray) (λb u e=>Zgf e) (Kq _) ⟨F,out,c,k,hc⟩;have q:=hq _ (out.map λu=>(bkV u,rd4 s.heap u)) (I.hok.fresh (Kq _)) (by grind) (by rw [Jz];exact hs);rw [DX] at q;exact ⟨.ref (s.heap.objs.size+1),_,I',rfl,q⟩
end
end L2
namespace L2.Ds
open Dl
section
theorem fY{F:Hp}:∀{xs:List V} {ds:List D} {ps:List (Int×Int)},Rps K mg F xs ds->prs4 ds=some ps->ps.length=xs.length/\∀(i:Nat) (x:V),xs[i]?=some x->∃a p,ps[i]?=some p/\x=V.ref a/\(∃us,SqT K F a (.int p.1::.int p.2::us))/\Dl.okP p
 | _,[],_,.nil,e=>by
  cases e;simp_all
 | _,d::ds,ps,.cons h r,e=>by
  unfold prs4 at e;cases q:pr4 d with
  | none=>lia
  | some p=>
   cases q2:prs4 ds with
   | none=>lia
   | some pr=>
    rw [q,q2] at e;cases e;obtain ⟨l,g⟩:=fY r q2;refine ⟨by simp [l],λi x n=>?_⟩;cases i with
    | succ i=>simp_all
    | zero=>
     cases n;unfold pr4 at q;split at q
     .next s o=>
      split at q
      .next m=>
       cases q;obtain ⟨_,_,rfl,k,b⟩:=h.t;obtain ⟨_,_,rfl,j,b⟩:=b.c;obtain ⟨_,_,rfl,f,b⟩:=b.c;cases j;cases f;exact ⟨_,_,rfl,rfl,⟨_,k⟩,m⟩
      lia
     lia
def vq:CallD K mg (cB K) RW:=by
 intro E F H X U s r;unfold RW;split
 .obtain ⟨x,rfl,O⟩:=r.one;rename_i es;obtain ⟨_,_,rfl,h,q⟩:=O.l;rename_i l vs;cases e:prs4 es with
  | none=>ext
  | some ps=>
   show Ans mg E (Rp K mg) F H (if es.length<=1000/\ps.Nodup then .ok (.lst ((JN ps).map (dat4 ps es))) else .bad) _
   split
   .next o=>
    obtain ⟨G,g⟩:=fY q e;intro Q z;refine ⟨l,vs,ps,rfl,s.seq h,⟨G,λi x S=>?_⟩,o.2,by have:=q.length;lia,λD b k n Y=>?_⟩
    .obtain ⟨a,p,f,m,⟨T,v⟩,w⟩:=g i x S;exact ⟨a,p,f,m,⟨T,Eg s v⟩,w⟩
    .have I:∀y∈b,Rp K mg F y.1 (dat4 ps es y.2)/\Dl.okP y.2:=λy M=>by
      obtain ⟨i,Z,ey⟩:=Ef.mp (n.mem_iff.mp M);have j:(vs.zip ps)[i]?=some y:=by grind
      obtain ⟨C,A⟩:=List.getElem?_zip_eq_some.mp j;obtain ⟨a,p,f,m,v,w⟩:=g i _ C;rw [A] at f;cases f;obtain ⟨d,B⟩ : ∃d,es[i]?=some d:=⟨_,BL (by rw [<-q.length];grind)⟩;rw [Um o.2 A B];have W:=Uy q i;simp_all
     have L:b.map (·.2)=JN ps:=by
      have J:(b.map (·.2)).Perm ps:=by
       have:=n.map (·.2);rwa [List.map_snd_zip (by lia)] at this
      refine W7 (J.trans (Uk ps).symm) (λp h=>?_) (by grind) (V5 ps)
      grind
     have P:∀c:List (V×(Int×Int)),(∀y∈c,y∈b)->Rps K mg F (c.map (·.1)) ((c.map (·.2)).map (dat4 ps es)):=by
      intro c
      induction c with
      | nil=>exact λ_=>.nil
      | cons y r ih=>exact λt=>.cons (I y (t y BX)).1 (ih λu N=>t u (Bf _ N))
     have R:=P b λ_ h=>h;rw [L] at R;exact z (upd F D (.lst (b.map (·.1)))) _ _ (.new s k _) (.lst (SqL.of Ar) (R.same (Cp (s.free k) _)))
   .ext
 .ext
end
end L2.Ds
namespace Dl
def unpA(i j:Nat)(me:ME)(t:MB)(k:MS)(mv:ME)(m:MS):MS:=λZ=>(me Z).bind λd=>match d with
 | .tup [.lst (.lst cs::as),.lst bs]=>if cs.length<1000/\as.length<1000/\noLs bs=true/\i<Z.length/\j<Z.length/\i≠j then
   (t ((Z.set i (.im (.lst (.lst cs::as)))).set j (.im (.lst bs)))).bind λb=>if b=true then X4 (k ((Z.set i (.im (.lst (.lst cs::as)))).set j (.im (.lst bs)))) else (noEx (mv ((Z.set i (.im (.lst (.lst cs::as)))).set j (.im (.lst bs))))).bind λ_=>m ((Z.set i .no).set j (.im (.lst bs)))
  else .bad
 | _=>.bad
end Dl
namespace L2.Ds
open Dl
section
variable {F:Hp} {tv:TE} {mv:ME} {sa:TT} {na:MB} {ub ur:TS} {kb kr:MS}
def AnsS.each{ι:Type}{φ:ι->Prop}{re:Res Fl}{w':ι->Ends->Prop}{w:Ends->Prop}(h:∀j,φ j->AnsS K mg E F0 H0 F re (w' j))(k:∀D,(∀j,φ j->w' j D)->w D):AnsS K mg E F0 H0 F re w:=by
 cases re with
 | ok f=>cases f<;>exact λD q=>k D λj p=>h j p D q
 | bad=>ext
def unp2{Q:St->Hp->Prop}{p q0 q1:Addr}(h:H p=some (.tup [.ref q0,.ref q1]))(q:Q ((Y.set i (some (.ref q0))).set j (some (.ref q1))) H):gSeq K 2 (Gx (Bt i) (Gx (Bt j) gNil)) (.ref p) Y H Q :=
 .inl ⟨p,_,rfl,SqT.of h,rfl,_,_,rfl,_,_,rfl,rfl,q⟩
def Rep.half{F3 H3 H4:Hp}{q0 r0 q1:Addr}{ys:List V}{bs:List D}{x:V}(r:Rep K mg F0 H0 F H Y Z)(g:Gr F H F3 H3)(f0:F q0=none)(f1:F r0=none)(n0:q1≠q0)(n1:q1≠r0){z0 z1:List V}(k0:F3 q0=some (.lst z0))(k1:F3 r0=some (.lst z1))(h1:F3 q1=some (.lst ys))(hb:Rps K mg F3 ys bs)(nb:noLs bs=true)(hij:i≠j)
  (ag:∀b o,H3 b=some o->b≠q0->b≠r0->H4 b=some o):Rep K mg F0 H0 (del (del F3 q0) r0) H4 ((Y.set i (some x)).set j (some (.ref q1))) ((Z.set i .no).set j (.im (.lst bs))):=by
 have l:∀b o,F b=some o->b≠q0/\b≠r0:=λb o e=>⟨(λz=>by lia),(λz=>by lia)⟩;have m:Same F (del (del F3 q0) r0):=λb o e=>by
  obtain ⟨a,c⟩:=l b o e;rw [Cd c,Cd a];exact g.f b o e
 have n:=Ye (x:=some x) r i;have q:Gr F H (del (del F3 q0) r0) H4:=by
  refine ⟨m,λb o e=>?_,λb o p t=>?_,λb o u e=>g.z b o u (M9 (M9 e))⟩
  .have d:=M9 e;refine ag b o (g.s b o (M9 d)) (λz=>?_) λz=>?_
   .rw [z,G9] at d;cases d
   .rw [z,G9] at e;cases e
  .obtain ⟨a,c⟩:=g.o b o p t;have k:b≠q0:=λz=>by rw [z,k0] at a;cases a
   have h:b≠r0:=λz=>by rw [z,k1] at a;cases a
   exact ⟨by rw [Cd h,Cd k];exact a,ag b o c k h⟩
 refine (n.gr q).set j (.lst (SqL.of (xs:=ys) ?_) (Uh (λb o e v=>?_) hb nb))
 .rw [Cd n1,Cd n0];exact h1
 .rw [Cd (λz=>by grind),Cd (λz=>by grind)];exact e
def vh(he:SEt K mg E te me)(ht:STt K mg E sa na)(hb:SS K mg E ub kb)(hv:SE K mg E tv mv)(hr:SS K mg E ur kr) :
  SS K mg E (tSeq (tAsg te (gSeq K 2 (Gx (Bt i) (Gx (Bt j) gNil)))) (tSeq (tIfS sa ub JR) (tSeq (Bx (tBM K "list" Fi (tOp (rIxD K) (tVar i) (tC (.int 0))) (Bc tv tNil))) (tSeq (Bx (tBM K "list" Fi (tVar i) (Bc (tLst tNil) tNil))) ur)))) (unpA i j me na kb mv kr):=by
 intro w u F H Y Z rr;have h:=he F w u F H Y Z rr (Same.refl _);unfold unpA;cases em:me Z with
 | bad=>ext
 | ok d=>
 rw [em] at h;simp only [Res.bind];split
 case h_2=>trivial
 next M P I=>
 by_cases hd:M.length<1000/\P.length<1000/\noLs I=true/\i<Z.length/\j<Z.length/\i≠j
 case neg=>rw [iN hd];ext
 rw [iP hd];obtain ⟨lc,la,nb,li,lj,nij⟩:=hd;rw [<-rr.len] at li lj;have r1:∀{c n:Hp} {m Q:Addr},Gr F H c n->Rp K mg c (.ref m) (.lst (.lst M::P))->Rp K mg c (.ref Q) (.lst I)->Rep K mg w u c n ((Y.set i (some (.ref m))).set j (some (.ref Q))) ((Z.set i (.im (.lst (.lst M::P)))).set j (.im (.lst I))):=λg a b=>((rr.gr g).set i a).set j b;generalize (Z.set i (.im (.lst (.lst M::P)))).set j (.im (.lst I))=Z1 at r1;have hT:=λc n A (r:Rep K mg w u c n A Z1)=>ht w u c n A Z1 r;cases et:na Z1 with
 | bad=>ext
 | ok b=>
 rw [et] at hT;cases b with
 | true=>
  show AnsS K mg E w u F (X4 (kb Z1)) _;have hB:=λc n A (r:Rep K mg w u c n A Z1)=>hb w u c n A Z1 r;generalize kb Z1=rb0 at hB
  match rb0,hB with
  | .ok (.rt d'),hB=>
   exact λD q=>h _ λc n x L rx=>by
    obtain ⟨p,m,Q,xs,ys,as',bs',rfl,e2,fp,R,f0,f1,C,k1,J,W,U⟩:=rx;cases e2;have y:=r1 L (.lst (SqL.of C) J) (.lst (SqL.of k1) W);refine unp2 (L.s _ _ fp) (hT c n _ y _ λF2 X b B eb=>?_);cases (show b=true from eb);exact hB F2 X _ (y.gr B) _ q
  | .ok (.nx _),_=>trivial
  | .ok (.bk _),_=>trivial
  | .ok (.ct _),_=>trivial
  | .bad,_=>trivial
 | false=>
  show AnsS K mg E w u F ((noEx (mv Z1)).bind λ_=>kr ((Z.set i .no).set j (.im (.lst I)))) _;have hV:=λc n A (r:Rep K mg w u c n A Z1)=>hv w u c n A Z1 r;cases ev:mv Z1 with
  | bad=>ext
  | ok dv=>
  rw [ev] at hV;show AnsS K mg E w u F (kr ((Z.set i .no).set j (.im (.lst I)))) _;refine AnsS.each (ι:=Hp×Hp×St) (φ:=λt=>Same F t.1/\Rep K mg w u t.1 t.2.1 t.2.2 ((Z.set i .no).set j (.im (.lst I)))) (w':=λt D=>ur D t.2.2 t.2.1) (λt p=>(hr w u t.1 t.2.1 t.2.2 _ p.2).mono p.1) λD k=>h _ λc n x L rx=>?_;obtain ⟨p,m,Q,xs,ys,as',bs',rfl,e2,fp,R,f0,f1,C,k1,J,W,U⟩:=rx;cases e2;have y:=r1 L (.lst (SqL.of C) J) (.lst (SqL.of k1) W);refine unp2 (L.s _ _ fp) (hT c n _ y _ λF2 X b B eb=>?_);cases (show b=false from eb);have lx:xs.length=(Dl.D.lst M::P).length:=J.length
  match xs,J,lx,U,C with
  | x0::xs',J,lx,U,C=>
  obtain ⟨G,T,cs',rfl,ec,fa,na1,ka,lz⟩:=U 0 x0 rfl;cases ec;have s2:∀{b o},c b=some o->X b=some o:=λe=>B.s _ _ (B.f _ _ e);have gi:((Y.set i (some (V.ref m))).set j (some (V.ref Q)))[i]?=some (some (.ref m)):=by grind
  refine ⟨.ref m,gi,.inl ⟨m,_,0,.ref G,rfl,rfl,SqL.of (s2 C),(by simp [atI,ixN]),.inl ⟨rfl,T,SqL.of (s2 ka)⟩,?_⟩⟩;refine hV F2 X _ (y.gr B) _ λF3 H3 v S rv=>?_;have N:∀{b o},c b=some o->F3 b=some o:=λe=>S.f _ _ (B.f _ _ e);have gg:=(L.trans B).trans S;refine ⟨G,T,v,rfl,rfl,S.s _ _ (N ka),Aw (by rw [lz];exact lc) (by decide),.ref m,gi,?_⟩;obtain ⟨O,hw1,hu⟩ : ∃O:List V,O.length<1001/\upd H3 G (.lst (T++[v])) m=some (.lst O):=by
   by_cases hqa:m=G
   .exact ⟨T++[v],by grind,by rw [hqa,Ar]⟩
   .exact ⟨_,by rw [lx];grind,by rw [Af hqa];exact S.s _ _ (N C)⟩
  refine ⟨.inl ⟨rfl,O,SqL.of hu⟩,by decide,λl hl4=>?_⟩;have nql:m≠l:=λz=>by lia
  refine ⟨m,O,.ref l,rfl,rfl,by rw [Af nql];exact hu,Aw hw1 (by decide),?_⟩;refine k (del (del F3 m) G,_,_) ⟨λb o e=>?_,Rep.half rr gg f0 fa (Ne.symm R) (Ne.symm na1) (N C) (N ka) (N k1) ((W.same B.f).same S.f) nb nij λb o hb' n1 n2=>?_⟩
  .show del (del F3 m) G b=some o;rw [Cd (λz=>by lia),Cd (λz=>by lia)];exact gg.f b o e
  .show upd (upd (upd H3 G _) l _) m _ b=some o;have nbl:b≠l:=λz=>by
    rw [<-z,Af n2,hb'] at hl4;lia
   rw [Af n1,Af nbl,Af n2]
   lia
end
section
variable {y:Str} {tv:TE} {mv:ME} {c' ev:Expr} {sa:TT} {na:MB} {kb kr:MS} {ub ur:TS} {body rest:List Stmt}
def ZpD{spos spos' spos1 sp4 np np4 ip zp apos cpos apos4 cpos4 lp:Pos}{j0:Nat}{tg:Expr}{gm:MG}(hi:X.N[i]?=some y)(he:DEt X E e te me)(hg:DG X 1000 tg (gSeq X.K 2 (Gx (Bt i) (Gx (Bt j) gNil))) gm)(ht:DT X E c' sa na)(hb:DSs X E body ub kb)(hw:DE X E ev tv mv)(hr:DSs X E rest ur kr)
  (hv:Dr X.v.scope y:=by walk_at "vv") (hd:ND y:=by decide) (hcd:NE y:=by decide)
  (hs:swapsWithSole [tg] e spos.line X.v=pure false:=by rfl) (hss:swappedStores [tg] e X.v=pure none:=by rfl) (h1:(assignEach [tg] X.v).map (·.2)=[assign tg X.v]:=by rfl)
  (hbase:attributeBase (.Subscript (.Name y np) (.Constant (.int 0) j0 zp) ip) "append" X.v (eval (.Subscript (.Name y np) (.Constant (.int 0) j0 zp) ip) X.v)=eval (.Subscript (.Name y np) (.Constant (.int 0) j0 zp) ip) X.v:=by rfl)
  (hse:starEach [ev] X.v=(false,eval ev X.v)::starEach [] X.v:=by rfl)
  (hfew:Few X cpos [ev]:=by rfl)
  (hline:(apos.endLine==cpos.line)=true:=by rfl) (hplain:(backTo cpos (starEach [] X.v)).any (·.1)=false:=by rfl)
  (hsw:swapsWith (.Call (.Attribute (.Subscript (.Name y np) (.Constant (.int 0) j0 zp) ip) "append" apos) [ev] [] cpos) none spos1.line X.v=pure false:=by rfl)
  (hbase4:attributeBase (.Name y np4) "append" X.v (eval (.Name y np4) X.v)=eval (.Name y np4) X.v:=by rfl)
  (hse4:starEach [.List [] lp] X.v=(false,eval (.List [] lp) X.v)::starEach [] X.v:=by rfl)
  (hfew4:Few X cpos4 [.List [] lp]:=by rfl)
  (hline4:(apos4.endLine==cpos4.line)=true:=by rfl) (hplain4:(backTo cpos4 (starEach [] X.v)).any (·.1)=false:=by rfl)
  (hsw4:swapsWith (.Call (.Attribute (.Name y np4) "append" apos4) [.List [] lp] [] cpos4) none sp4.line X.v=pure false:=by rfl) :
  DSs X E (.Assign [tg] e spos::.If c' body [] spos'::.Expr (.Call (.Attribute (.Subscript (.Name y np) (.Constant (.int 0) j0 zp) ip) "append" apos) [ev] [] cpos) spos1::.Expr (.Call (.Attribute (.Name y np4) "append" apos4) [.List [] lp] [] cpos4) sp4::rest)
   (tSeq (tAsg te (gSeq X.K 2 (Gx (Bt i) (Gx (Bt j) gNil)))) (tSeq (tIfS sa ub JR) (tSeq (Bx (tBM X.K "list" Fi (tOp (rIxD X.K) (tVar i) (tC (.int 0))) (Bc tv tNil))) (tSeq (Bx (tBM X.K "list" Fi (tVar i) (Bc (tLst tNil) tNil))) ur)))) (unpA i j me na kb mv kr) :=
 ⟨Gh (Rz he.p hg.p hs hss h1) (Gh (W0 ht.p hb.p Ru) (Gh (HJ (JV JS O3 Oz QC (Rx (IxR.or Q4 Ua) (Ek hi hv hd hcd) Zm (λ_ _=>rfl)) (EY hw.p GD hse) hbase hfew hline hse hplain) hsw) (Gh (HJ (JV JS O3 Oz QC (Ek hi hv hd hcd) (EY (Pr GD) GD hse4) hbase4 hfew4 hline4 hse4 hplain4) hsw4) hr.p))),
  vh he.s ht.s hb.s hw.s hr.s⟩
end
end L2.Ds
namespace Dl
def Sm(k:Nat)(x:Int):Prop:=x.natAbs<2^k
def Sm.mono{k n:Nat}{x:Int}(h:Sm k x)(hn:k<=n):Sm n x:=Aw h (Nat.pow_le_pow_right (by decide) hn)
def Sm.mul{m n:Nat}{x y:Int}(h:Sm m x)(g:Sm n y):Sm (m+n) (x*y):=by
 unfold Sm at *;rw [Int.natAbs_mul,Nat.pow_add];rcases Nat.eq_zero_or_pos x.natAbs with z | z
 .rw [z,Nat.zero_mul];exact Nat.mul_pos (Nat.two_pow_pos _) (Nat.two_pow_pos _)
 .exact DN (Nat.mul_le_mul_left _ (Ay g)) (Nat.mul_lt_mul_of_pos_right h (Nat.two_pow_pos _))
def Sm.add{m n:Nat}{x y:Int}(h:Sm m x)(g:Sm n y):Sm (max m n+1) (x+y):=by
 have b:=h.mono (Nat.le_max_left m n);have a:=g.mono (Nat.le_max_right m n);unfold Sm at *;rw [Nat.pow_succ];have:=Int.natAbs_add_le x y
 lia
def Sm.neg{m:Nat}{x:Int}(h:Sm m x):Sm m (-x):=by
 unfold Sm at *;rw [Int.natAbs_neg];exact h
def Sm.sub{m n:Nat}{x y:Int}(h:Sm m x)(g:Sm n y):Sm (max m n+1) (x - y):=by
 rw [Int.sub_eq_add_neg];exact h.add g.neg
def Sm.le{m:Nat}{x y:Int}(h:Sm m x)(e:y.natAbs<=x.natAbs):Sm m y:=DN e h
def Sm.of64{x:Int}(h1:-18446744073709551616<x)(h2:x<18446744073709551616):Sm 64 x:=by
 unfold Sm;have:(2:Nat)^64=18446744073709551616:=by decide
 omega
def Wq{n k:Nat}(h:n<2^k)(hk:0<k):n.log2<k:=by
 rcases Nat.eq_zero_or_pos n with z | z
 .rw [z];simpa using hk
 .exact (Nat.log2_lt (CK z)).mpr h
def Sm.log{m:Nat}{x:Int}(h:Sm m x)(hm:m<9000):x.natAbs.log2<9000:=Wq (h.mono (Ay hm)) (by decide)
def oR{a b:Int}(h:Sm 64 a):Bp a b=true:=by
 unfold Bp;rw [Dv (show a.natAbs<2^64 from h)];rfl
def vC{a b:Int}(h:Sm 64 b):Bp a b=true:=by
 unfold Bp;rw [Dv (show b.natAbs<2^64 from h)];simp
def Cz{a b:Int}{m n:Nat}(h:Sm m a)(g:Sm n b)(hk:m+n<99999990):Bp a b=true:=by
 have c:=Wq (h.mono (Kq m)) (Nat.succ_pos _);have d:=Wq (g.mono (Kq n)) (Nat.succ_pos _);unfold Bp;rw [Dv (show a.natAbs.log2+b.natAbs.log2<100000000 by lia)];simp
def yu{a b:Int}(h:Bp a b=true):iMul a b=.ok (.int (a*b)):=by unfold iMul;rw [iP h]
def rT{a b:Int}(h:0<b):iMod a b=.ok (.int (a%b)):=by unfold iMod;rw [iP h]
def lY{a b:Int}(h:0<b)(hl:b.natAbs.log2<9000):iDiv a b=.ok (.int (a/b)):=by unfold iDiv;rw [iP hl,iP h]
def vL{a b:Int}(h:b<0)(hl:b.natAbs.log2<9000):iDiv a b=.ok (.int (a.fdiv b)):=by unfold iDiv;rw [iP hl,iN (by lia),iN (by lia)]
def Zso{a b:Int}(h0:0<=b)(h1:b<=1000000)(h2:a.natAbs<2^64):iPow a b=.ok (.int (a^b.toNat)):=by unfold iPow;rw [iP ⟨h0,h1,h2⟩]
def Ztx{a b:Int}(h0:0<=b)(h1:b<=1000000)(h2:a.natAbs<2^64):iShl a b=.ok (.int (a*2^b.toNat)):=by unfold iShl;rw [iP ⟨h0,h1,h2⟩]
def nT{a b:Int}(h0:0<=b):iShr a b=.ok (.int (a/2^b.toNat)):=by unfold iShr;rw [iP h0]
def ZsS(a b:Int):dEq (.int a) (.int b)=.ok (.bl (decide (a=b))):=by
 show Res.ok (D.bl (a==b))=_;rw [Bool.beq_eq_decide_eq]
def Zty(a b:Int):dNe (.int a) (.int b)=.ok (.bl (!decide (a=b))):=by
 show Res.ok (D.bl (!(a==b)))=_;rw [Bool.beq_eq_decide_eq]
def zQ{a b:List D}(h:a.length+b.length<=1000000):An (.lst a) (.lst b)=.ok (.lst (a++b)):=by
 show (if a.length+b.length<=LIM then Res.ok (D.lst (a++b)) else .bad)=_
 rw [iP (show a.length+b.length<=LIM from h)]
def S8(xs:List D)(i:Int):dIx (.lst xs) (.int i)=ofO (at_ xs i):=rfl
def ZpK(xs:List D):bLen [.lst xs]=.ok (.int xs.length):=rfl
def mz(xs:List D):bLen [.tup xs]=.ok (.int xs.length):=rfl
def ZoI(i:Int):bAbs [.int i]=.ok (.int i.natAbs):=by
 show Res.ok (D.int (if i<0 then -i else i))=_
 have:(if i<0 then -i else i)=(i.natAbs:Int):=by split<;>lia
 rw [this]
def yN(i j:Int):bMin [.int i,.int j]=.ok (.int (min i j)):=by
 show Res.ok (D.int (if j<i then j else i))=_
 have:(if j<i then j else i)=min i j:=by split<;>lia
 rw [this]
def ZtJ{j:Int}(h0:-1000000000<=j)(h1:j<=1000000000):rng1 [.int j]=.ok (Ci 0 j.toNat):=by
 show (if -1000000000<=j/\j<=1000000000 then Res.ok (Ci 0 j.toNat) else .bad)=_
 rw [iP ⟨h0,h1⟩]
theorem Yn{g:MG}{b:MS}(I:List D->Ev->Prop):∀(xs pre:List D),(∀p x r,xs=p++x::r->∀Z,I (pre++p) Z->∃Z1 Z2,g x Z=.ok Z1/\b Z1=.ok (.nx Z2)/\I (pre++p++[x]) Z2)->∀Z,I pre Z->∃Z',CZ g b xs Z=.ok (.nx Z')/\I (pre++xs) Z'
 | [],pre,_,Z,i=>⟨Z,rfl,by rw [CN];exact i⟩
 | x::r,pre,h,Z,i=>by
  obtain ⟨Z1,Z2,f,d,a⟩:=h [] x r rfl Z (by rw [CN];exact i);rw [CN] at a
  obtain ⟨Z',j,c⟩:=Yn I r (pre++[x]) (λp y s e Z i=>by
   have z:=h (x::p) y s (by rw [e];rfl) Z (by simpa using i)
   simpa using z) Z2 a
  refine ⟨Z',?_,by simpa using c⟩;show (g x Z).bind (λZ1=>(b Z1).bind (turn (CZ g b r)))=_;rw [f];show (b Z1).bind (turn (CZ g b r))=_;rw [d];exact j
def Zlv(t:MB)(b:MS)(n:Nat)(Z:Ev):whGo t b (n+1) Z=(t Z).bind λx=>if x=true then (b Z).bind (turn (whGo t b n)) else .ok (.nx Z):=rfl
def VM(g:MG)(t:MB)(e:ME)(Z:Ev)(x:D)(r:List D):Bg g t e Z (x::r)=(g x Z).bind λZ1=>(t Z1).bind λb=>if b=true then (e Z1).bind λy=>(Bg g t e Z r).bind λys=>.ok (y::ys) else Bg g t e Z r:=rfl
theorem cA{g:MG}{e:ME}{Z:Ev}(P:D->D->Prop):∀xs:List D,(∀x∈xs,∃Z1 y,g x Z=.ok Z1/\e Z1=.ok y/\P x y)->∃ys,Bg g yes e Z xs=.ok ys/\ys.length=xs.length/\∀(i:Nat) x y,xs[i]?=some x->ys[i]?=some y->P x y
 | [],_=>⟨[],rfl,rfl,λi x y h=>by simp at h⟩
 | x::r,h=>by
  obtain ⟨Z1,y,m,k,j⟩:=h x BX;obtain ⟨ys,f,l,q⟩:=cA P r λz n=>h z (Bf _ n);refine ⟨y::ys,?_,Ew (·+1) l,λi a b d c=>?_⟩
  .rw [VM,m,H7];unfold yes at f ⊢;rw [H7,iP rfl,k,H7,f];rfl
  .cases i with
   | zero=>simp at d c;subst d c;exact j
   | succ i=>exact q i a b (by simpa using d) (by simpa using c)
def Tl{α:Type}(r:Res α)(U:α->Prop):Prop:=∃a,r=.ok a/\U a
section
variable{α β:Type}{U:α->Prop} {a b d:ME} {s t:MB}
def Ah{r:Res α}{x:α}(e:r=.ok x)(h:U x):Tl r U:=⟨x,e,h⟩
def Ao{x:α}(h:U x):Tl (.ok x) U:=⟨x,rfl,h⟩
def Ax{r:Res β}{f:β->Res α}(h:Tl r λx=>Tl (f x) U):Tl (r.bind f) U:=by
 obtain ⟨x,rfl,y,e,q⟩:=h;exact ⟨y,e,q⟩
def Tl.mono{r:Res α}{Ψ:α->Prop}(h:Tl r Ψ)(k:∀x,Ψ x->U x):Tl r U:=by
 obtain ⟨x,e,q⟩:=h;exact ⟨x,e,k x q⟩
def Tl.eq{r:Res α}{x:α}(h:Tl r (·=x)):r=.ok x:=by
 obtain ⟨y,e,rfl⟩:=h;exact e
def V8{c:Bool}{A B:Res α}(hc:c=true)(h:Tl A U):Tl (if c=true then A else B) U:=by rw [iP hc];exact h
def Wj{c:Bool}{A B:Res α}(hc:c=false)(h:Tl B U):Tl (if c=true then A else B) U:=by rw [iN (by rw [hc];exact GC)];exact h
def w_dT{P:Prop} [Decidable P] {A B:Res α} (hc:P) (h:Tl A U):Tl (if decide P=true then A else B) U:=V8 (Dv hc) h
def w_dF{P:Prop} [Decidable P] {A B:Res α} (hc:¬P) (h:Tl B U):Tl (if decide P=true then A else B) U:=Wj (Jg hc) h
def w_nT{P:Prop} [Decidable P] {A B:Res α} (hc:¬P) (h:Tl A U):Tl (if (!decide P)=true then A else B) U:=V8 (by rw [Jg hc];rfl) h
def w_nF{P:Prop} [Decidable P] {A B:Res α} (hc:P) (h:Tl B U):Tl (if (!decide P)=true then A else B) U:=Wj (by rw [Dv hc];rfl) h
def Cu{P:Prop} [Decidable P] {A B:Res α} (h1:P->Tl A U) (h2:¬P->Tl B U):Tl (if decide P=true then A else B) U:=by
 by_cases h:P
 .exact w_dT h (h1 h)
 .exact w_dF h (h2 h)
def MJ{P:Prop} [Decidable P] {A B:Res α} (h1:¬P->Tl A U) (h2:P->Tl B U):Tl (if (!decide P)=true then A else B) U:=by
 by_cases h:P
 .exact w_nF h (h2 h)
 .exact w_nT h (h1 h)
end
section
variable{U:D->Prop} {a b d:ME} {s t:MB} {m:MA}
def w_v{x:D}(e:Z[i]?=some (.im x))(h:U x):Tl (v i Z) U:=Ah (by unfold v;rw [e];rfl) h
def w_v'(h:Tl (getC Z[i]?) U):Tl (v i Z) U:=h
def w_gC{o:Option Cl}{x:D}(e:o=some (.im x))(h:U x):Tl (getC o) U:=Ah (by rw [e];rfl) h
def w_c{x:D}(h:U x):Tl (c x Z) U:=Ao h
def w_o1{f:D->Res D}(h:Tl (a Z) λx=>Tl (f x) U):Tl (o1 f a Z) U:=Ax h
def w_o2{f:D->D->Res D}(h:Tl (a Z) λx=>Tl (b Z) λy=>Tl (f x y) U):Tl (o2 f a b Z) U:=Ax (h.mono λ_ q=>Ax q)
def w_on{f:List D->Res D}(h:Tl (m Z) λxs=>Tl (f xs) U):Tl (on f m Z) U:=Ax h
def iH(h:Tl (m Z) λxs=>U (.tup xs)):Tl (mtp m Z) U:=Ax (h.mono λ_ q=>Ao q)
def fB(h:Tl (m Z) λxs=>U (.lst xs)):Tl (mls m Z) U:=Ax (h.mono λ_ q=>Ao q)
def rE(h:Tl (trb a Z) λx=>Tl (if x=true then b Z else .ok (.bl false)) U):Tl (eAnd a b Z) U:=Ax h
def ul(h:Tl (trb a Z) λx=>U (.bl (!x))):Tl (eNot a Z) U:=Ax (h.mono λ_ q=>Ao q)
def wR(h:Tl (t Z) λx=>Tl (if x=true then a Z else b Z) U):Tl (ife t a b Z) U:=Ax h
def Zxy{lo hi:Ev->Res (Option Int)}(h:Tl (a Z) λx=>Tl (lo Z) λl=>Tl (hi Z) λu=>Tl (dCut x l u) U):Tl (cut a lo hi Z) U:=Ax (h.mono λ_ q=>Ax (q.mono λ_ q=>Ax q))
def Up{it:MI}{own:Nat}{cap:List Nat}{g:MG}{e:ME}(h:Tl (it Z) λxs=>xs.length<=1000000/\Tl (Bg g t e (noA own (Br Z cap)) xs) λys=>U (.lst ys)):Tl (comp it own cap g t e Z) U:=by
 refine Ax (h.mono λxs q=>?_);rw [iP (show xs.length<=LIM from q.1)];obtain ⟨ys,a,b⟩:=q.2;rw [a];exact Ao b
def w_fn{k:MS}{ds:List D}(h:Tl (k (ev0 n ds)) λf=>Tl (endOf f) U):Tl (fn n k ds) U:=Ax h
def XS{x y:Int}(h:U (.int (x+y))):Tl (An (.int x) (.int y)) U:=Ao h
def Uq{x y:List D}(hl:x.length+y.length<=1000000)(h:U (.lst (x++y))):Tl (An (.lst x) (.lst y)) U:=Ah (zQ hl) h
def w_sub{x y:Int}(h:U (.int (x - y))):Tl (dSub (.int x) (.int y)) U:=Ao h
def w_mul{x y:Int}(hm:Bp x y=true)(h:U (.int (x*y))):Tl (BK (.int x) (.int y)) U:=Ah (yu hm) h
def w_mod{x y:Int}(hy:0<y)(h:U (.int (x%y))):Tl (Aq (.int x) (.int y)) U:=Ah (rT hy) h
def w_div{x y:Int}(hy:0<y)(hl:y.natAbs.log2<9000)(h:U (.int (x/y))):Tl (Az (.int x) (.int y)) U:=Ah (lY hy hl) h
def w_divN{x y:Int}(hy:y<0)(hl:y.natAbs.log2<9000)(h:U (.int (x.fdiv y))):Tl (Az (.int x) (.int y)) U:=Ah (vL hy hl) h
def w_pow{x y:Int}(h0:0<=y)(h1:y<=1000000)(h2:x.natAbs<2^64)(h:U (.int (x^y.toNat))):Tl (dPow (.int x) (.int y)) U:=Ah (Zso h0 h1 h2) h
def w_shl{x y:Int}(h0:0<=y)(h1:y<=1000000)(h2:x.natAbs<2^64)(h:U (.int (x*2^y.toNat))):Tl (dShl (.int x) (.int y)) U:=Ah (Ztx h0 h1 h2) h
def w_shr{x y:Int}(h0:0<=y)(h:U (.int (x/2^y.toNat))):Tl (dShr (.int x) (.int y)) U:=Ah (nT h0) h
def ZyE{x:Int}(h:U (.int (-x))):Tl (dNeg (.int x)) U:=Ao h
def w_lt{x y:Int}(h:U (.bl (decide (x<y)))):Tl (dLt (.int x) (.int y)) U:=Ao h
def w_le{x y:Int}(h:U (.bl (decide (x<=y)))):Tl (dLe (.int x) (.int y)) U:=Ao h
def w_gt{x y:Int}(h:U (.bl (decide (y<x)))):Tl (dGt (.int x) (.int y)) U:=Ao h
def w_ge{x y:Int}(h:U (.bl (decide (y<=x)))):Tl (dGe (.int x) (.int y)) U:=Ao h
def s8{x y:Int}(h:U (.bl (decide (x=y)))):Tl (dEq (.int x) (.int y)) U:=Ah (ZsS x y) h
def u6{x y:Int}(h:U (.bl (!decide (x=y)))):Tl (dNe (.int x) (.int y)) U:=Ah (Zty x y) h
def yf{x:D}(h:U (.bl (JP x))):Tl (dIsN x) U:=Ao h
def qY{x:D}(h:U (.bl (!JP x))):Tl (Ih x) U:=Ao h
def Zu7{xs:List D}(h:U (.int xs.length)):Tl (bLen [.lst xs]) U:=Ao h
def Zvc{xs:List D}(h:U (.int xs.length)):Tl (bLen [.tup xs]) U:=Ao h
def tQ{ns:List Int}(h:U (.int ns.length)):Tl (bLen [.tup (ns.map .int)]) U:=Ah (by rw [mz,Al]) h
def km{ns:List Int}(h:U (.int ns.length)):Tl (bLen [.lst (ns.map .int)]) U:=Ah (by rw [ZpK,Al]) h
def ZyC{x:Int}(h:U (.int x.natAbs)):Tl (bAbs [.int x]) U:=Ah (ZoI x) h
def ZyF{x y:Int}(h:U (.int (min x y))):Tl (bMin [.int x,.int y]) U:=Ah (yN x y) h
def ZvH{xs:List D}(h:U (.tup xs)):Tl (bTup [.lst xs]) U:=Ao h
def Zuv{xs:List D}(h:U (.lst xs)):Tl (bLst [.lst xs]) U:=Ao h
def ZuB{xs:List D}{lo hi:Option Int}(h:U (.lst (cutL xs lo hi))):Tl (dCut (.lst xs) lo hi) U:=Ao h
def ZuC{xs:List D}{lo hi:Option Int}(h:U (.tup (cutL xs lo hi))):Tl (dCut (.tup xs) lo hi) U:=Ao h
end
section
variable{U:Bool->Prop} {a:ME} {s t:MB}
def nA(h:Tl (a Z) λx=>Tl (tru x) U):Tl (trb a Z) U:=Ax h
def Zya{b:Bool}(h:U b):Tl (tru (.bl b)) U:=Ao h
def Zxj(h:Tl (s Z) λx=>Tl (if x=true then t Z else .ok false) U):Tl (bAnd s t Z) U:=Ax h
def rQ(h:Tl (s Z) λx=>Tl (if x=true then .ok true else t Z) U):Tl (bOr s t Z) U:=Ax h
def wu(h:Tl (s Z) λx=>U (!x)):Tl (bNot s Z) U:=Ax (h.mono λ_ q=>Ao q)
def zG(h:U true):Tl (yes Z) U:=Ao h
end
section
variable{U:List D->Prop} {a:ME} {m:MA}
def HB(h:U []):Tl (Ab Z) U:=Ao h
def FT(h:Tl (a Z) λx=>Tl (m Z) λxs=>U (x::xs)):Tl (Aa a m Z) U:=Ax (h.mono λ_ q=>Ax (q.mono λ_ q=>Ao q))
def w_iv(h:Tl (a Z) λx=>Tl (items x) U):Tl (iv a Z) U:=Ax h
def ZL{xs:List D}(h:U xs):Tl (items (.lst xs)) U:=Ao h
def wL{xs:List D}(h:U xs):Tl (items (.tup xs)) U:=Ao h
def w_r1(h:Tl (m Z) λxs=>Tl (rng1 xs) U):Tl (r1 m Z) U:=Ax h
def w_r2(h:Tl (m Z) λxs=>Tl (rng2 xs) U):Tl (r2 m Z) U:=Ax h
def iJ{j:Int}(h0:-1000000000<=j/\j<=1000000000)(h:U (Ci 0 j.toNat)):Tl (rng1 [.int j]) U:=Ah (ZtJ h0.1 h0.2) h
def tO(h:Tl (m Z) λxs=>Tl (Uj xs) U):Tl (Ks m Z) U:=Ax h
def qy{xs:List D}(h:U (numbered 0 xs)):Tl (Uj [.lst xs]) U:=Ao h
def TF{g:MG}{t:MB}{e:ME}(h:U []):Tl (Bg g t e Z []) U:=Ao h
def Gq{g:MG}{t:MB}{e:ME}{x:D}{r:List D}(h:Tl (g x Z) λZ1=>Tl (t Z1) λb=>Tl (if b=true then (e Z1).bind λy=>(Bg g t e Z r).bind λys=>.ok (y::ys) else Bg g t e Z r) U):Tl (Bg g t e Z (x::r)) U :=
 Ax (h.mono λ_ q=>Ax q)
end
section
variable{U:Option Int->Prop} {a:ME}
def Zxr(h:U none):Tl (pno Z) U:=Ao h
def q9(h:Tl (a Z) λx=>Tl (optI x) U):Tl (pso a Z) U:=Ax h
def Zwl{i:Int}(h:U (some i)):Tl (optI (.int i)) U:=Ao h
end
section
variable{U:Ev->Prop} {x:D}
def w_gN(h:U (Z.set i (.im x))):Tl (gN i x Z) U:=Ao h
def yX(h:U Z):Tl (gs0 [] Z) U:=Ao h
def Zyr{g:MG}{r:MGs}{ds:List D}(h:Tl (g x Z) λZ'=>Tl (r ds Z') U):Tl (gs1 g r (x::ds) Z) U:=Ax h
def tD{g:MGs}{xs:List D}(hl:xs.length=n)(h:Tl (g xs Z) U):Tl (gU n g (.lst xs) Z) U:=by
 show Tl (if xs.length=n then g xs Z else .bad) U
 rw [iP hl];exact h
def Zxx{g:MGs}{xs:List D}(hl:xs.length=n)(h:Tl (g xs Z) U):Tl (gU n g (.tup xs) Z) U:=by
 show Tl (if xs.length=n then g xs Z else .bad) U
 rw [iP hl];exact h
end
section
variable{U:Fl->Prop} {a b:ME} {k l:MS} {t:MB}
def w_sq(h:Tl (k Z) λf=>Tl (goOn l f) U):Tl (sq k l Z) U:=Ax h
def w_gx(h:Tl (l Z) U):Tl (goOn l (.nx Z)) U:=h
def w_gr{x:D}(h:U (.rt x)):Tl (goOn l (.rt x)) U:=Ao h
def w_gc(h:U (.ct Z)):Tl (goOn l (.ct Z)) U:=Ao h
def w_st(h:Tl (a Z) λx=>U (.nx (Z.set i (.im x)))):Tl (st i a Z) U:=Ax (h.mono λ_ q=>Ao q)
def Zyy(h:Tl (a Z) λx=>U (.rt x)):Tl (ret a Z) U:=Ax (h.mono λ_ q=>Ao q)
def qK(h:U (.nx Z)):Tl (nop Z) U:=Ao h
def vN(h:U (.ct Z)):Tl (cnt Z) U:=Ao h
def V7(h:Tl (a Z) λ_=>U (.nx Z)):Tl (drp a Z) U:=Ax (h.mono λ_ q=>Ao q)
def nY{g:MG}(h:Tl (a Z) λx=>Tl (g x Z) λZ'=>U (.nx Z')):Tl (asg g a Z) U:=Ax (h.mono λ_ q=>Ax (q.mono λ_ q=>Ao q))
def ZyP(h:Tl (t Z) λx=>Tl (if x=true then k Z else l Z) U):Tl (ifs t k l Z) U:=Ax h
def ZxN{it:MI}{g:MG}(h:Tl (it Z) λxs=>Tl (CZ g k xs Z) U):Tl (for_ it g k Z) U:=Ax h
def Zyg{fu:Ev->Nat}(h:Tl (whGo t k (fu Z) Z) U):Tl (whl fu t k Z) U:=h
def WM(h:Tl (a Z) λx=>Tl (lstO x) λxs=>U (.nx (Z.set i (.ow xs)))):Tl (stO i a Z) U:=Ax (h.mono λ_ q=>Ax (q.mono λ_ q=>Ao q))
def Xg{Ψ:List D->Prop}{xs:List D}(h:Ψ xs):Tl (lstO (.lst xs)) Ψ:=Ao h
def xr(h:Tl (getO Z[i]?) λxs=>Tl (k (Z.set i (.im (.lst xs)))) U):Tl (frz i k Z) U:=Ax h
def kW(h:Tl (getO Z[i]?) λxs=>Tl (a Z) λd=>xs.length<1000000/\U (.nx (Z.set i (.ow (xs++[d]))))):Tl (app i a Z) U:=by
 refine Ax (h.mono λxs q=>Ax (q.mono λd q=>?_));rw [iP (show xs.length<LIM from q.1)];exact Ao q.2
def w_gO{Ψ:List D->Prop}{o:Option Cl}{xs:List D}(e:o=some (.ow xs))(h:Ψ xs):Tl (getO o) Ψ:=Ah (by rw [e];rfl) h
def w_eR{Ψ:D->Prop}{x:D}(h:Ψ x):Tl (endOf (.rt x)) Ψ:=Ao h
def w_eN{Ψ:D->Prop}(h:Ψ .non):Tl (endOf (.nx Z)) Ψ:=Ao h
def w_tx(h:Tl (k Z) U):Tl (turn k (.nx Z)) U:=h
def w_tr{x:D}(h:U (.rt x)):Tl (turn k (.rt x)) U:=Ao h
def w_f0{g:MG}(h:U (.nx Z)):Tl (CZ g k [] Z) U:=Ao h
def w_f1{g:MG}{x:D}{r:List D}(h:Tl (g x Z) λZ1=>Tl (k Z1) λf=>Tl (turn (CZ g k r) f) U):Tl (CZ g k (x::r) Z) U:=Ax (h.mono λ_ q=>Ax q)
def Xl{g:MG}{xs:List D}(I:List D->Ev->Prop)(h0:I [] Z)(h:∀p x r,xs=p++x::r->∀Z,I p Z->Tl (g x Z) λZ1=>Tl (k Z1) λf=>∃Z2,f=.nx Z2/\I (p++[x]) Z2)(hd:∀Z,I xs Z->U (.nx Z)):Tl (CZ g k xs Z) U:=by
 obtain ⟨c,e,i⟩:=Yn (g:=g) (b:=k) I xs [] (λp x r l Z i=>by
  obtain ⟨Z1,a,f,j,Z2,rfl,d⟩:=h p x r l Z i
  exact ⟨Z1,Z2,a,j,d⟩) Z h0
 exact ⟨_,e,hd c i⟩
def w_wh{n:Nat}(I:Ev->Prop)(μ:Ev->Nat)(h0:I Z)(hm:μ Z<n)(h:∀Z,I Z->Tl (t Z) λb=>(b=true->Tl (k Z) λf=>∃Z2,f=.nx Z2/\I Z2/\μ Z2<μ Z)/\(b=false->U (.nx Z))):Tl (whGo t k n Z) U:=by
 induction n generalizing Z with
 | zero=>exact aB hm (Nat.not_lt_zero _)
 | succ n ih=>
  rw [Zlv];obtain ⟨b,e,q⟩:=h Z h0;rw [e];cases b with
  | true=>
   obtain ⟨f,c,Z2,rfl,a,d⟩:=q.1 rfl;show Tl ((k Z).bind (turn (whGo t k n))) U;rw [c];exact ih a (by lia)
  | false=>exact Ao (q.2 rfl)
def VF:∀{ns ms:List Int},ns.map D.int=ms.map D.int->ns=ms
 | [],[],_=>rfl
 | [],_::_,h=>by cases h
 | _::_,[],h=>by cases h
 | n::r,m::s,h=>by
  have a:D.int n=D.int m/\r.map D.int=s.map D.int:=by simpa using h
  rw [VF a.2];cases a.1;rfl
end
def Fe{α:Type}{U:List D->Prop}{g:MG}{e:ME}{Z:Ev}{enc:α->D}(f:α->D):∀{l:List α},(∀a∈l,Tl (g (enc a) Z) λZ1=>Tl (e Z1) λy=>y=f a)->U (l.map f)->Tl (Bg g yes e Z (l.map enc)) U:=by
 intro l h q;have c:∀l:List α,(∀a∈l,Tl (g (enc a) Z) λZ1=>Tl (e Z1) λy=>y=f a)->Bg g yes e Z (l.map enc)=.ok (l.map f):=by
  intro l
  induction l with
  | nil=>exact λ_=>rfl
  | cons a r ih=>
   intro h;obtain ⟨Z1,d,y,j,rfl⟩:=h a BX;have z:=ih λb i=>h b (Bf _ i);rw [Bk,VM,d,H7];unfold yes at z ⊢;rw [H7,iP rfl,j,H7,z];rfl
 exact Ah (c l h) q
def w_all{U:List D->Prop}{g:MG}{e:ME}{Z:Ev}{xs:List D}(P:D->D->Prop)(h:∀x∈xs,Tl (g x Z) λZ1=>Tl (e Z1) λy=>P x y)(q:∀ys:List D,ys.length=xs.length->(∀(i:Nat) x y,xs[i]?=some x->ys[i]?=some y->P x y)->U ys):Tl (Bg g yes e Z xs) U:=by
 obtain ⟨ys,b,l,a⟩:=cA (g:=g) (e:=e) (Z:=Z) P xs λx d=>by
  obtain ⟨Z1,b,y,c,a⟩:=h x d;exact ⟨Z1,y,b,c,a⟩
 exact ⟨ys,b,q ys l a⟩
section
variable{U:D->Prop}
def rH{x y:D}(h:Tl (dIx x y) U):Tl (dIx x y) U:=h
def ZvA{xs:List D}(h:Tl (bLen xs) U):Tl (bLen xs) U:=h
def Zx7{xs:List D}(h:Tl (bIsi xs) U):Tl (bIsi xs) U:=h
def Qq{α:Type}{xs:List α}{i:Nat}:at_ xs (i:Int)=xs[i]?:=by
 unfold at_;rw [iP (Int.natCast_nonneg i),Ei]
def GR{xs:List D}{i:Int}(h:0<=i/\i<xs.length)(q:∀x∈xs,U x):Tl (dIx (.lst xs) (.int i)) U:=by
 obtain ⟨n,rfl⟩:=Int.eq_ofNat_of_zero_le h.1;have a:n<xs.length:=by lia
 rw [S8,Qq,BL a];exact Ao (q _ (Km a))
def Nk{ns:List Int}{i:Int}(h:-(ns.length:Int)<=i/\i<ns.length)(q:∀n∈ns,U (.int n)):Tl (dIx (.lst (ns.map .int)) (.int i)) U:=by
 rw [S8];unfold at_;rw [Al];by_cases h0:0<=i
 .have a:i.toNat<ns.length:=by lia
  rw [iP h0,Cj,BL a];exact Ao (q _ (Km a))
 .have a:(i+ns.length).toNat<ns.length:=by lia
  rw [iN h0,iP h.1,Cj,BL a];exact Ao (q _ (Km a))
end
mutual
theorem Wo:∀(x:D) (k:Nat),plain k x=true->eqD x x=true
 | .non,_,_=>rfl
 | .bl b,_,_=>by show (b==b)=true;simp
 | .int b,_,_=>by show (b==b)=true;simp
 | .str b,_,_=>by show (b==b)=true;simp
 | .tup xs,0,h=>by simp [plain] at h
 | .lst xs,0,h=>by simp [plain] at h
 | .tup xs,k+1,h=>Vk xs k (by simpa [plain] using h)
 | .lst xs,k+1,h=>Vk xs k (by simpa [plain] using h)
 | .ty _,k,h=>by cases k<;>simp [plain] at h
 | .cls _,k,h=>by cases k<;>simp [plain] at h
 | .exc _,k,h=>by cases k<;>simp [plain] at h
theorem Vk:∀(xs:List D) (k:Nat),Bb k xs=true->eqDs xs xs=true
 | [],_,_=>rfl
 | x::xs,k,h=>by
  have a:plain k x=true/\Bb k xs=true:=by simpa [Bb] using h
  show (eqD x x&&eqDs xs xs)=true;rw [Wo x k a.1,Vk xs k a.2];rfl
end
def Lq(i:Nat)(Z:Ev):Nat:=((Z[i]?).map absC).getD 0
def VL:∀(Z:Ev) (i:Nat),Lq i Z<fuel Z
 | [],i=>by simp [Lq,fuel]
 | c::r,0=>by simp [Lq,fuel];lia
 | c::r,i+1=>by
  have:=VL r i;simp [Lq,fuel] at this ⊢
  lia
def mem_range{n:Nat}{x:D}(h:x∈Ci 0 n):∃k:Nat,k<n/\x=.int k:=by
 unfold Ci at h;obtain ⟨k,a,rfl⟩:=By.mp h;exact ⟨k,FP.mp a,by rw [Int.zero_add]⟩
def Xo{U:D->Prop}{ys:List D}(h:∀y∈ys,y=.bl true)(q:U (.bl true)):Tl (bAll [.lst ys]) U:=by
 have b:∀ys:List D,(∀y∈ys,y=.bl true)->∃a,bools ys=.ok a/\a.all id=true:=by
  intro ys
  induction ys with
  | nil=>exact λ_=>⟨[],rfl,rfl⟩
  | cons y r ih=>
   intro h;obtain ⟨a,c,d⟩:=ih λz e=>h z (Bf _ e);obtain rfl:=h y BX;exact ⟨true::a,by show (bools r).bind _=_;rw [c];rfl,by simpa using d⟩
 obtain ⟨a,c,d⟩:=b ys h;refine Ah (x:=.bl true) ?_ q;show (bools ys).bind (λa=>Res.ok (D.bl (a.all id)))=_;rw [c];show Res.ok (D.bl (a.all id))=_;rw [d]
section
variable{U:D->Prop}
def w_pk{m:ME}(h:Tl (getO Z[i]?) λxs=>Tl (m (Z.set i (.im (.lst xs)))) λd=>Tl (KH d) U):Tl (pk i m Z) U:=Ax (h.mono λ_ q=>Ax q)
def uP{Ψ:Bool->Prop}{m:MB}(h:Tl (getO Z[i]?) λxs=>Tl (m (Z.set i (.im (.lst xs)))) Ψ):Tl (pkB i m Z) Ψ:=Ax h
def zE{n:Int}(h:U (.int n)):Tl (KH (.int n)) U:=Ao h
def qZ{x:D}{ys:List D}(h1:plain 50 x=true)(h2:Bb 50 ys=true)(h:U (.bl (!inD x ys))):Tl (dNin x (.lst ys)) U:=by
 refine Ah (x:=.bl (!inD x ys)) ?_ h;show (if (plain 50 x&&Bb 50 ys)=true then Res.ok (D.bl (!inD x ys)) else .bad)=_
 rw [h1,h2];rfl
end
end Dl
namespace Dl
section
variable{U:D->Prop}
def w_p6(h:U (.int 1000000)):Tl (dPow (.int 10) (.int 6)) U:=Ah rfl h
end
end Dl
namespace Dl
section
variable{Ψ:List D->Prop}{U:D->Prop} {m:MA} {xs ys zs:List D} {a b:ME}
def wH(h:U (.lst (trips xs ys zs))):Tl (lz3 [.tup xs,.tup ys,.tup zs]) U:=Ao h
end
end Dl
namespace Mt
def gcdL(g:Nat):List Int->Nat
 | []=>g
 | x::r=>gcdL (Nat.gcd g x.natAbs) r
def fO(a b:Nat):Nat.gcd b (a%b)=Nat.gcd a b:=by
 rw [Nat.gcd_comm a b,Nat.gcd_rec b a,Nat.gcd_comm]
def Zx(t b:Int):gcdL 0 [t,b]=Int.gcd t b:=by
 show Nat.gcd (Nat.gcd 0 t.natAbs) b.natAbs=_;rw [Nat.gcd_zero_left];rfl
noncomputable def frT(t b:Int):Int:=if b<0 then t.fdiv (-(Int.gcd t b:Int)) else t.fdiv (Int.gcd t b:Int)
def frB(t b:Int):Int:=if b<0 then b.fdiv (-(Int.gcd t b:Int)) else b.fdiv (Int.gcd t b:Int)
def RV{t b:Int}(h:b≠0):0<Int.gcd t b:=Int.gcd_pos_of_ne_zero_right t h
def Rc{a d q:Int}(h:a=d*q)(hd:d≠0):a.fdiv d=q:=by
 subst h;exact Int.mul_fdiv_cancel_left q hd
structure Fr(t b p q:Int):Prop where
 pos:1<=q
 low:Int.gcd p q=1
 same:p*b=t*q
 np:p.natAbs<=t.natAbs
 nq:q.natAbs<=b.natAbs
def aZ{t b:Int}(h:b≠0):Fr t b (frT t b) (frB t b):=by
 have l:=RV (t:=t) h;obtain ⟨p,f⟩:=Int.gcd_dvd_left t b;obtain ⟨q,i⟩:=Int.gcd_dvd_right t b;have k:(0:Int)<(Int.gcd t b:Int):=Int.natCast_pos.mpr l;have c:Int.gcd p q=1:=by
  have e:Int.gcd ((Int.gcd t b:Int)*p) ((Int.gcd t b:Int)*q)=Int.gcd t b*Int.gcd p q:=by
   rw [Int.gcd_mul_left,Qv]
  rw [<-f,<-i] at e;have o:Int.gcd t b*Int.gcd p q=Int.gcd t b*1:=by rw [Nat.mul_one];exact e.symm
  exact Nat.eq_of_mul_eq_mul_left l o
 unfold frT frB;generalize Int.gcd t b=g at *;have a:∀{x y:Int},x=(g:Int)*y->y.natAbs<=x.natAbs:=λ{x y} e=>by
  rw [e,Int.natAbs_mul,Qv];exact Nat.le_mul_of_pos_left _ l
 have d:p*b=t*q:=by
  rw [i,f,Int.mul_left_comm,Int.mul_assoc]
 have j:-(g:Int)≠0:=by lia
 by_cases hb:b<0
 .rw [iP hb,iP hb,Rc (q:=-p) (by rw [Int.neg_mul_neg];exact f) j,Rc (q:=-q) (by rw [Int.neg_mul_neg];exact i) j];have m:q<0:=by
   rcases Int.lt_or_le q 0 with z | z
   .exact z
   .have n:0<=(g:Int)*q:=Int.mul_nonneg (Dt k) z
    lia
  exact ⟨by lia,by rw [Int.gcd_neg,Int.neg_gcd];exact c,by rw [Int.neg_mul,Int.mul_neg,d],by rw [Int.natAbs_neg];exact a f,by rw [Int.natAbs_neg];exact a i⟩
 .rw [iN hb,iN hb,Rc (q:=p) f (Int.ne_of_gt k),Rc (q:=q) i (Int.ne_of_gt k)];have m:1<=q:=by
   rcases Int.lt_or_le 0 q with z | z
   .exact z
   .have n:(g:Int)*q<=0:=Int.mul_nonpos_of_nonneg_of_nonpos (Dt k) z
    lia
  exact ⟨m,c,d,a f,a i⟩
def uH{p q r s:Int}(h1:1<=q)(h2:Int.gcd p q=1)(h3:1<=s)(h4:Int.gcd r s=1)(e:p*s=r*q):p=r/\q=s:=by
 have c:q∣s:=by
  have z:q∣p*s:=⟨r,by rw [e,Int.mul_comm]⟩;have a:q.natAbs∣p.natAbs*s.natAbs:=by rw [<-Int.natAbs_mul];exact Pk.mpr z
  exact Pk.mp (Nat.Coprime.dvd_of_dvd_mul_left (k:=q.natAbs) (m:=p.natAbs) (by show Nat.gcd _ _=1;rw [Nat.gcd_comm];exact h2) a)
 have b:s∣q:=by
  have z:s∣r*q:=⟨p,by rw [<-e,Int.mul_comm]⟩;have a:s.natAbs∣r.natAbs*q.natAbs:=by rw [<-Int.natAbs_mul];exact Pk.mpr z
  exact Pk.mp (Nat.Coprime.dvd_of_dvd_mul_left (k:=s.natAbs) (m:=r.natAbs) (by show Nat.gcd _ _=1;rw [Nat.gcd_comm];exact h4) a)
 have d:q=s:=Int.le_antisymm (Int.le_of_dvd (by lia) c) (Int.le_of_dvd (by lia) b);subst d;exact ⟨Int.eq_of_mul_eq_mul_right (by lia) e,rfl⟩
def VH{a d:Int}(h:0<d):(a.fdiv d).natAbs<=a.natAbs:=by
 rw [Xm a (Dt h)];have e:=Int.emod_add_mul_ediv a d;have g:=JF a (Int.ne_of_gt h);have f:=Jd a h;rcases Int.lt_or_le a 0 with z | z
 .have b:a/d<0:=Int.ediv_neg_of_neg_of_pos z h;have:a<=a/d:=by
   have i:a=a%d+d*(a/d):=e.symm;have:d*(a/d)<=1*(a/d):=Int.mul_le_mul_of_nonpos_right (by lia) (by lia);rcases Int.lt_or_le a (a/d+1) with z | z
   .lia
   .exfalso;have c:(d - 1)*(a/d)<=(d - 1)*(-1):=V4 (by lia) (by lia);rw [Int.sub_mul] at c
    lia
  lia
 .have b:0<=a/d:=Int.ediv_nonneg z (Dt h);have:a/d<=a:=Int.ediv_le_self d z
  lia
end Mt
end
end
local macro_rules|`(tactic|ac_rfl)=>`(tactic|first|lia|omega)
local macro_rules | `(tactic| walk_at "sm")=>`(tactic| first | assumption | exact Dl.Sm.of64 (by ac_rfl) (by ac_rfl) | exact Dl.Sm.mul (by walk_at "sm") (by walk_at "sm") | exact Dl.Sm.add (by walk_at "sm") (by walk_at "sm") | exact Dl.Sm.sub (by walk_at "sm") (by walk_at "sm") | exact Dl.Sm.neg (by walk_at "sm") | exact Dl.Sm.min (by walk_at "sm") (by walk_at "sm") | exact Dl.Sm.max (by walk_at "sm") (by walk_at "sm"))
local macro_rules | `(tactic| walk_at "mo")=>`(tactic| first | assumption | exact Dl.oR (Dl.Sm.of64 (by ac_rfl) (by ac_rfl)) | exact Dl.vC (Dl.Sm.of64 (by ac_rfl) (by ac_rfl)) | exact Dl.Cz (by walk_at "sm") (by walk_at "sm") (by decide))
local macro_rules | `(tactic| walk_at "lg")=>`(tactic| first | assumption | decide | exact Dl.Sm.log (by walk_at "sm") (by decide))
open Lean in
def Mz0(l:List (TSyntax `tactic)):MacroM (TSyntax `tactic):=do l.foldrM (λa r=>`(tactic|first|$a:tactic|$r:tactic)) (←`(tactic|fail))
open Lean in
def Mz1(s:String):MacroM (TSyntax `tactic):=do `(tactic|with_reducible $(←Mz0 (←(s.splitOn " ").mapM λn=>`(tactic|apply $(mkIdent (.str `Dl n))))):tactic)
open Lean Syntax in
def Mz2(h:List Term)(s:String):MacroM (TSyntax `tactic):=do Mz0 (←(s.splitOn " ").mapM λw=>do
 let k:=w.back.toNat-48
 let t:=mkApp (mkIdent (w.dropEnd 1).copy.toName) (h++List.replicate k (←`(?_))).toArray
 if k=0 then `(tactic|exact $t) else `(tactic|refine' $t))
open Lean in
local macro_rules | `(tactic| walk_at "w1")=>do `(tactic| first
 | ((with_reducible refine Dl.w_v' ?_);refine Dl.w_gC rfl ?_) |$(←Mz1 "w_o2 w_c w_on FT HB w_sq w_gx w_st ZyP nA Zya XS w_sub"):tactic | ((with_reducible refine Dl.w_mul ?_ ?_);walk_at "mo") | ((with_reducible refine Dl.w_mod ?_ ?_);(first | decide | ac_rfl)) | ((with_reducible refine Dl.w_div ?_ ?_ ?_);(first | decide | ac_rfl);walk_at "lg")
 |$(←Mz1 "w_lt w_le w_gt w_ge s8 u6 Zxj rQ wu Zyy w_gr w_eR qK iH fB w_fn w_o1 rE w_eOr ul wR w_chain tQ km Zu7 Zvc ZyC w_max ZyF ZvH w_tupT Zuv w_lstT ZyE Zxy Zxr q9 Zwl ZuB ZuC w_iv ZL wL w_r1"):tactic | ((with_reducible refine Dl.iJ ?_ ?_);ac_rfl) |$(←Mz1 "w_gN yX Zyr"):tactic 
 | ((with_reducible refine Dl.Zxx ?_ ?_);exact rfl) | ((with_reducible refine Dl.tD ?_ ?_);exact rfl) |$(←Mz1 "V7 nY w_par ZxN Zyg w_zip w_zip2 w_zipTL w_zipLT w_zipTT w_iz3 w_zip3T wH w_mLst tO qy Up w_retN w_eN w_brk vN w_gb w_gc yf qY w_p6 w_p8 w_p20"):tactic | ((with_reducible refine Dl.w_pow ?_ ?_ ?_ ?_);decide;decide;decide) | ((with_reducible refine Dl.w_shl ?_ ?_ ?_ ?_);decide;decide;decide) | ((with_reducible refine Dl.w_shr ?_ ?_);ac_rfl)|$(←Mz1 "zG w_tx w_tc w_tb w_tr w_max3 w_sum w_rev"):tactic | ((with_reducible refine Dl.uP ?_);refine Dl.w_gO rfl ?_) | ((with_reducible refine Dl.w_pk ?_);refine Dl.w_gO rfl ?_) |$(←Mz1 "zE w_scB w_endT WM Xg"):tactic | ((with_reducible refine Dl.xr ?_);refine Dl.w_gO rfl ?_) | ((with_reducible refine Dl.kW ?_);refine Dl.w_gO rfl ?_) | ((with_reducible refine Dl.rH ?_);refine Dl.Ah rfl ?_) | ((with_reducible refine Dl.Zx7 ?_);refine Dl.Ah rfl ?_) | ((with_reducible refine Dl.ZvA ?_);refine Dl.Ah rfl ?_)|$(←Mz1 "Ao Ax"):tactic)
local macro_rules | `(tactic| walk_at "wi")=>`(tactic| first | ((with_reducible refine Dl.V8 ?_ ?_);exact rfl) | ((with_reducible refine Dl.Wj ?_ ?_);exact rfl) | ((with_reducible refine Dl.w_dT ?_ ?_);first | assumption | ac_rfl) | ((with_reducible refine Dl.w_dF ?_ ?_);first | assumption | ac_rfl) | ((with_reducible refine Dl.w_nT ?_ ?_);first | assumption | ac_rfl) | ((with_reducible refine Dl.w_nF ?_ ?_);first | assumption | ac_rfl))
local macro_rules | `(tactic| walk_at "wr")=>`(tactic| (refine Dl.Ah rfl ?_))
local macro_rules | `(tactic| walk_at "w")=>`(tactic| (repeat (first | walk_at "w1" | walk_at "wi"));try dsimp only [List.set_cons_zero,List.set_cons_succ,Dl.ev0,Dl.evF,Dl.noA,Dl.Br,Dl.imOf,List.getElem?_cons_zero,List.getElem?_cons_succ,Nat.reduceAdd,Nat.reduceSub])
local macro_rules | `(tactic| symm)=>`(tactic| walk_at "w")
namespace My
open PySem Dl
def objs:List Str:=["Plain","Shaded","Patterned","Glass"]
def IW:=fn 2
  (sq (ifs (trb (o2 dLt (v 1) (on bLen (Aa (v 0) Ab))))
  (ret (o2 dIx (v 0) (v 1)))
  nop)
  (ret (cI 0)))
def Jw:=fn 2
  (for_ (iv (v 0)) (gN 1)
  (ifs (trb (o2 dLe (o2 dIx (v 1) (cI 2)) (cI 0)))
  badS
  nop))
def HH:=fn 1
  (ret (eAnd (on bIsi (Aa (v 0) (Aa (c (.ty "int")) Ab))) (eNot (on bIsi (Aa (v 0) (Aa (c (.ty "bool")) Ab))))))
def RZ:=fn 1
  (sq (ifs (bOr (bNot (trb (on bIsi (Aa (v 0) (Aa (c (.ty "tuple")) Ab))))) (trb (o2 dGt (on bLen (Aa (v 0) Ab)) (cI 3))))
  (ret (c (.bl false)))
  nop)
  (ret (on bAll (Aa (comp (iv (v 0)) 1 [] (gN 0) yes (on HH (Aa (v 0) Ab))) Ab))))
def Ue:=fn 1
  (sq (ifs (bOr (bNot (trb (on bIsi (Aa (v 0) (Aa (c (.ty "tuple")) Ab))))) (trb (o2 dNe (on bLen (Aa (v 0) Ab)) (cI 5))))
  (ret (c (.bl false)))
  nop)
  (sq (ifs (bNot (trb (on bAll (Aa (comp (iv (cut (v 0) pno (pso (cI 4)))) 1 [] (gN 0) yes (on HH (Aa (v 0) Ab))) Ab))))
  (ret (c (.bl false)))
  nop)
  (ret (eAnd (o2 dGe (o2 dIx (v 0) (cI 3)) (cI 1)) (on RZ (Aa (o2 dIx (v 0) (cI 4)) Ab))))))
def Su:=fn 2
  (sq (ifs (bOr (bNot (trb (on bIsi (Aa (v 0) (Aa (c (.ty "tuple")) Ab))))) (trb (o2 dNe (on bLen (Aa (v 0) Ab)) (cI 3))))
  badS
  nop)
  (for_ (iv (v 0)) (gN 1)
  (sq (ifs (bNot (trb (on Ue (Aa (v 1) Ab))))
  badS
  nop)
  (ifs (trb (o2 dNe (on bLen (Aa (o2 dIx (v 1) (cI 4)) Ab)) (on bLen (Aa (o2 dIx (o2 dIx (v 0) (cI 0)) (cI 4)) Ab))))
  badS
  nop))))
def JT:List D->Fs->Res Fs:=fnI 2
  (iDrp (on Su (Aa (v 1) Ab))
  (iDrp (on Jw (Aa (v 1) Ab))
  (iSet "triangle" (v 1)
  iEnd)))
def Ko:=fn 5
  (sq (st 1 (cI 0))
  (sq (for_ (iv (v 0)) (gN 2)
  (sq (st 3 (on bAbs (Aa (v 2) Ab)))
  (whl fuel (trb (o2 dNe (v 3) (cI 0)))
  (sq (st 4 (o2 Aq (v 1) (v 3)))
  (sq (st 1 (v 3))
  (st 3 (v 4)))))))
  (ret (v 1))))
def Ku:=fn 1
  (sq (ifs (bOr (bNot (trb (on bIsi (Aa (v 0) (Aa (c (.ty "tuple")) Ab))))) (trb (o2 dNe (on bLen (Aa (v 0) Ab)) (cI 2))))
  (ret (c (.bl false)))
  nop)
  (sq (ifs (bOr (bNot (trb (on HH (Aa (o2 dIx (v 0) (cI 0)) Ab)))) (bNot (trb (on HH (Aa (o2 dIx (v 0) (cI 1)) Ab)))))
  (ret (c (.bl false)))
  nop)
  (ret (eAnd (o2 dGe (o2 dIx (v 0) (cI 1)) (cI 1)) (o2 dEq (on Ko (Aa (v 0) Ab)) (cI 1))))))
def Pg:=fn 1
  (ifs (bNot (trb (on Ku (Aa (v 0) Ab))))
  badS
  nop)
def M5:List D->Fs->Res Fs:=fnI 3
  (iSup JT (Aa (v 1) Ab)
  (iDrp (on Pg (Aa (v 2) Ab))
  (iSet "colour" (v 2)
  iEnd)))
def RG:=fn 2
  (sq (st 1 (o2 dIx (mls (Aa (cI 1) (Aa (cI 4) (Aa (cI 9) (Aa (cI 100) Ab))))) (o2 Aq (v 0) (cI 4))))
  (ret (make "Plain" M5 (Aa (mtp (Aa (mtp (Aa (o1 dNeg (cI 20)) (Aa (o1 dNeg (cI 20)) (Aa (cI 2) (Aa (v 1) (Aa (mtp Ab) Ab)))))) (Aa (mtp (Aa (cI 60) (Aa (o1 dNeg (cI 20)) (Aa (cI 2) (Aa (v 1) (Aa (mtp Ab) Ab)))))) (Aa (mtp (Aa (o1 dNeg (cI 20)) (Aa (cI 60) (Aa (cI 2) (Aa (v 1) (Aa (mtp Ab) Ab)))))) Ab)))) (Aa (mtp (Aa (o2 Aq (o2 Az (v 0) (cI 4)) (cI 9)) (Aa (cI 1) Ab))) Ab)))))
def Qg:=fn 3
  (sq (ifs (bAnd (trb (o2 dGe (v 0) (o2 dShl (cI 1) (cI 90)))) (bAnd (trb (o2 dEq (o2 Aq (v 0) (cI 2)) (cI 1))) (trb (o2 dGt (o2 dShr (v 0) (o2 An (cI 1) (o2 BK (cI 31) (v 1)))) (cI 0)))))
  (ret (o2 Aq (o2 dShr (v 0) (o2 An (cI 1) (o2 BK (cI 31) (v 1)))) (cI 2147483648)))
  nop)
  (sq (st 2 (o2 Aq (o2 BK (o2 An (o2 An (v 0) (o2 BK (cI 7919) (v 1))) (cI 1)) (cI 48271)) (cI 2147483647)))
  (sq (st 2 (o2 Aq (o2 BK (v 2) (o2 An (o2 Az (v 2) (cI 1009)) (cI 69621))) (cI 2147483647)))
  (ret (o2 Aq (o2 BK (v 2) (o2 An (o2 An (o2 Az (v 2) (cI 2003)) (cI 39373)) (v 1))) (cI 2147483629))))))
def Iw:=fn 2
  (ret (comp (r1 (Aa (v 1) Ab)) 1 [0] (gN 0) yes (on Qg (Aa (v 1) (Aa (v 0) Ab)))))
def Sy:=fn 5
  (sq (stO 2 (on bLR (Aa (v 1) Ab)))
  (sq (stO 3 (mls Ab))
  (sq (st 4 (cI 0))
  (sq (whl fuel (pkB 2 (trb (o2 Ul (v 2) (mls Ab))))
  (sq (appP 3 2 (pk 2 (o2 Aq (o2 Az (o2 dIx (v 0) (o2 Aq (v 4) (cI 4))) (o2 An (v 4) (cI 1))) (on bLen (Aa (v 2) Ab)))))
  (st 4 (o2 An (v 4) (cI 1)))))
  (frz 3 (ret (v 3)))))))
def RX:=fn 5
  (sq (st 1 (on Iw (Aa (v 0) (Aa (cI 17) Ab))))
  (sq (stO 2 (mls Ab))
  (sq (for_ (iv (cut (v 1) (pso (cI 1)) (pso (o2 An (cI 2) (o2 dIx (mls (Aa (o2 Aq (o2 Az (o2 dIx (v 1) (cI 0)) (cI 8)) (cI 3)) (Aa (o2 Aq (o2 Az (o2 dIx (v 1) (cI 0)) (cI 8)) (cI 16)) Ab))) (on bInt (Aa (o2 dEq (o2 Aq (o2 dIx (v 1) (cI 0)) (cI 8)) (cI 7)) Ab))))))) (gN 3)
  (sq (st 4 (mtp (Aa (o2 An (cI 1) (o2 Aq (v 3) (cI 7))) (Aa (o2 An (cI 1) (o2 Aq (o2 Az (v 3) (cI 7)) (cI 7))) Ab))))
  (sq (ifs (trb (o2 dEq (o2 Aq (o2 Az (v 3) (cI 64)) (cI 3)) (cI 0)))
  (st 4 (mtp (Aa (cI 4) (Aa (cI 4) Ab))))
  nop)
  (ifs (pkB 2 (trb (o2 dNin (v 4) (v 2))))
  (app 2 (v 4))
  nop))))
  (frz 2 (ret (v 2))))))
def Qu:=fn 1
  (ifs (bOr (bNot (trb (on Ku (Aa (v 0) Ab)))) (bOr (trb (o2 dLt (o2 dIx (v 0) (cI 0)) (cI 0))) (trb (o2 dGt (o2 dIx (v 0) (cI 0)) (o2 dIx (v 0) (cI 1))))))
  badS
  nop)
def Nq:List D->Fs->Res Fs:=fnI 4
  (iSup JT (Aa (v 1) Ab)
  (iDrp (on Pg (Aa (v 2) Ab))
  (iDrp (on Qu (Aa (v 3) Ab))
  (iSet "colour" (v 2)
  (iSet "part" (v 3)
  iEnd)))))
def Od:=fn 2
  (sq (ifs (bOr (bNot (trb (on bIsi (Aa (v 0) (Aa (c (.ty "list")) Ab))))) (trb (o2 dNin (on bLen (Aa (v 0) Ab)) (c (.tup [.int 1,.int 2,.int 4,.int 8,.int 16])))))
  badS
  nop)
  (for_ (iv (v 0)) (gN 1)
  (sq (ifs (bOr (bNot (trb (on bIsi (Aa (v 1) (Aa (c (.ty "list")) Ab))))) (trb (o2 dNin (on bLen (Aa (v 1) Ab)) (c (.tup [.int 1,.int 2,.int 4,.int 8,.int 16])))))
  badS
  nop)
  (sq (ifs (trb (o2 dNe (on bLen (Aa (v 1) Ab)) (on bLen (Aa (o2 dIx (v 0) (cI 0)) Ab))))
  badS
  nop)
  (ifs (bNot (trb (on bAll (Aa (comp (iv (v 1)) 1 [] (gN 0) yes (on Ku (Aa (v 0) Ab))) Ab))))
  badS
  nop)))))
def Qa:=fn 2
  (ifs (trb (o2 dLt (on bLen (Aa (o2 dIx (o2 dIx (v 0) (cI 0)) (cI 4)) Ab)) (v 1)))
  badS
  nop)
def QJ:=fn 1
  (ret (comp (iv (v 0)) 1 [] (gN 0) yes (on bLst (Aa (v 0) Ab))))
def Ov:List D->Fs->Res Fs:=fnI 3
  (iSup JT (Aa (v 1) Ab)
  (iDrp (on Qa (Aa (v 1) (Aa (cI 2) Ab)))
  (iDrp (on Od (Aa (v 2) Ab))
  (iSet "pattern" (on QJ (Aa (v 2) Ab))
  iEnd))))
def P0:List D->Fs->Res Fs:=fnI 2
  (iSup JT (Aa (v 1) Ab)
  (iDrp (on Qa (Aa (v 1) (Aa (cI 1) Ab)))
  iEnd))
def Er:=fn 3
  (sq (st 2 (on Ko (Aa (mls (Aa (v 0) (Aa (v 1) Ab))) Ab)))
  (sq (ifs (trb (o2 dLt (v 1) (cI 0)))
  (st 2 (o1 dNeg (v 2)))
  nop)
  (ret (mtp (Aa (o2 Az (v 0) (v 2)) (Aa (o2 Az (v 1) (v 2)) Ab))))))
def RQ:=fn 9
  (sq (st 2 (o2 dIx (mls (Aa (cI 1) (Aa (cI 2) (Aa (cI 4) (Aa (cI 16) Ab))))) (o2 Aq (v 0) (cI 4))))
  (sq (st 3 (o2 dIx (mls (Aa (cI 1) (Aa (cI 2) (Aa (cI 8) (Aa (cI 4) Ab))))) (o2 Aq (o2 Az (v 0) (cI 4)) (cI 4))))
  (sq (stO 4 (mls Ab))
  (sq (for_ (r1 (Aa (v 2) Ab)) (gN 5)
  (sq (stO 6 (mls Ab))
  (sq (for_ (r1 (Aa (v 3) Ab)) (gN 7)
  (sq (st 8 (on Qg (Aa (v 1) (Aa (o2 An (o2 BK (cI 20) (v 5)) (v 7)) Ab))))
  (app 6 (o2 dIx (mls (Aa (mtp (Aa (o2 Aq (v 8) (cI 7)) (Aa (cI 1) Ab))) (Aa (on Er (Aa (o2 dSub (v 8) (o2 dPow (cI 10) (cI 9))) (Aa (o2 An (cI 1) (o2 Aq (o2 Az (v 8) (cI 9)) (cI 99))) Ab))) Ab))) (o2 Aq (o2 Az (v 0) (cI 16)) (cI 2))))))
  (frz 6 (app 4 (v 6))))))
  (frz 4 (ret (v 4)))))))
def T7:=fn 10
  (sq (asg (gU 4 (gs1 (gN 2) (gs1 (gN 3) (gs1 (gN 4) (gs1 (gN 5) gs0))))) (v 0))
  (sq (st 6 (mls (Aa (mtp (Aa (o2 dSub (o2 Aq (o2 Az (v 2) (cI 8)) (cI 9)) (cI 2)) (Aa (cI 1) Ab))) (Aa (on Er (Aa (o2 An (o2 BK (cI 2) (o2 Aq (o2 Az (v 2) (cI 8)) (cI 9))) (cI 1)) (Aa (cI 2) Ab))) (Aa (on Er (Aa (o2 dSub (v 3) (o2 dPow (cI 10) (cI 9))) (Aa (o2 An (cI 1) (v 4)) Ab))) Ab)))))
  (sq (st 6 (o2 dIx (v 6) (o2 Aq (o2 Az (v 2) (cI 128)) (cI 3))))
  (sq (st 7 (o2 Aq (v 2) (cI 5)))
  (sq (ifs (trb (o2 dEq (v 7) (cI 0)))
  (sq (st 8 (o2 An (cI 1) (o2 Aq (o2 Az (v 2) (cI 8)) (cI 3))))
  (ret (make "Shaded" P0 (Aa (on bTup (Aa (comp (iv (v 1)) 1 [8] (gN 0) yes (o2 An (cut (v 0) pno (pso (cI 4))) (mtp (Aa (cut (o2 dIx (v 0) (cI 4)) pno (pso (v 1))) Ab)))) Ab)) Ab))))
  nop)
  (sq (ifs (trb (o2 dEq (v 7) (cI 1)))
  (ret (make "Patterned" Ov (Aa (v 1) (Aa (on RQ (Aa (o2 Az (v 2) (cI 512)) (Aa (v 5) Ab))) Ab))))
  nop)
  (sq (ifs (trb (o2 dEq (v 7) (cI 2)))
  (ret (make "Plain" M5 (Aa (v 1) (Aa (v 6) Ab))))
  nop)
  (sq (st 9 (o2 dIx (mls (Aa (mtp (Aa (cI 0) (Aa (cI 1) Ab))) (Aa (mtp (Aa (cI 1) (Aa (cI 2) Ab))) (Aa (mtp (Aa (cI 1) (Aa (cI 3) Ab))) (Aa (mtp (Aa (cI 2) (Aa (cI 3) Ab))) (Aa (mtp (Aa (cI 1) (Aa (cI 1) Ab))) (Aa (on Er (Aa (o2 Aq (v 5) (o2 An (cI 1) (v 3))) (Aa (o2 An (cI 1) (v 3)) Ab))) Ab))))))) (o2 Aq (o2 Az (v 2) (cI 512)) (cI 6))))
  (ret (make "Glass" Nq (Aa (v 1) (Aa (v 6) (Aa (v 9) Ab)))))))))))))
def Ot:=fn 11
  (sq (asg (gU 2 (gs1 (gN 2) (gs1 (gN 3) gs0))) (cut (v 0) pno (pso (cI 2))))
  (sq (st 4 (o2 dIx (mls (Aa (cI 2) (Aa (cI 8) (Aa (cI 1) (Aa (cI 2) Ab))))) (o2 Aq (o2 Az (v 2) (cI 4)) (cI 4))))
  (sq (st 5 (o2 An (cI 1) (o2 Aq (o2 Az (v 2) (cI 16)) (cI 3))))
  (sq (st 6 (o2 BK (v 5) (o2 dSub (o2 Aq (o2 Az (v 2) (cI 64)) (o2 An (o2 BK (v 4) (cI 8)) (cI 1))) (v 4))))
  (sq (st 7 (o2 BK (v 5) (o2 dSub (o2 Aq (v 3) (o2 An (o2 BK (v 4) (cI 8)) (cI 1))) (v 4))))
  (sq (st 8 (o2 BK (v 4) (v 5)))
  (sq (st 9 (o2 dIx (mls (Aa (cI 1) (Aa (v 8) (Aa (o2 An (cI 1) (o2 Aq (o2 Az (v 3) (cI 512)) (cI 9))) (Aa (v 8) Ab))))) (o2 Aq (o2 Az (v 3) (cI 32)) (cI 4))))
  (sq (st 10 (on bTup (Aa (comp (r1 (Aa (v 1) Ab)) 1 [0] (gN 0) yes (o2 dSub (o2 Aq (o2 dIx (v 1) (o2 An (cI 6) (v 0))) (cI 41)) (cI 10))) Ab)))
  (sq (ifs (trb (o2 dEq (o2 Aq (v 2) (cI 4)) (cI 3)))
  (sq (st 6 (o2 dSub (o2 Aq (o2 dIx (v 0) (cI 2)) (cI 2000001)) (o2 dPow (cI 10) (cI 6))))
  (sq (st 7 (o2 dSub (o2 Aq (o2 dIx (v 0) (cI 3)) (cI 2000001)) (o2 dPow (cI 10) (cI 6))))
  (sq (st 8 (o2 An (cI 1) (o2 Aq (o2 dIx (v 0) (cI 4)) (o2 dPow (cI 10) (cI 6)))))
  (sq (st 9 (o2 An (cI 1) (o2 Aq (o2 dIx (v 0) (cI 5)) (o2 dPow (cI 10) (cI 6)))))
  (st 10 (on bTup (Aa (comp (r1 (Aa (v 1) Ab)) 1 [0] (gN 0) yes (o2 dSub (o2 Aq (o2 dIx (v 1) (o2 An (cI 6) (v 0))) (cI 2000001)) (o2 dPow (cI 10) (cI 6)))) Ab)))))))
  nop)
  (sq (ifs (trb (o2 dEq (o2 Aq (v 2) (cI 4)) (cI 2)))
  (sq (st 8 (o2 An (cI 1) (o2 Aq (o2 Az (v 3) (cI 4096)) (cI 300))))
  (st 6 (o2 dSub (o2 Aq (o2 dIx (v 0) (cI 2)) (cI 2001)) (cI 1000))))
  nop)
  (ret (mtp (Aa (v 6) (Aa (v 7) (Aa (v 8) (Aa (v 9) (Aa (v 10) Ab)))))))))))))))))
def Ry:=fn 12
  (sq (st 4 (o2 An (cI 6) (v 3)))
  (sq (st 5 (comp (r1 (Aa (cI 6) Ab)) 1 [4,0,1] (gN 0) yes (on Iw (Aa (on IW (Aa (v 2) (Aa (o2 An (v 3) (v 0)) Ab))) (Aa (o2 BK (cI 3) (v 1)) Ab)))))
  (sq (st 6 (comp (iv (v 5)) 1 [4,3] (gN 0) yes (on Ot (Aa (cut (v 0) pno (pso (v 1))) (Aa (v 2) Ab)))))
  (sq (st 7 (on Iw (Aa (on IW (Aa (v 0) (Aa (o2 An (v 1) (cI 6)) Ab))) (Aa (o2 An (v 2) (cI 1)) Ab))))
  (sq (stO 8 (mls Ab))
  (sq (for_ (r1 (Aa (o2 Aq (o2 dIx (v 7) (cI 0)) (o2 An (v 2) (cI 1))) Ab)) (gN 9)
  (sq (st 10 (o2 dIx (v 7) (o2 An (cI 1) (v 9))))
  (sq (st 11 (mls (Aa (o2 dIx (v 6) (o2 Aq (v 10) (cI 6))) (Aa (o2 dIx (v 6) (o2 Aq (o2 Az (v 10) (cI 6)) (cI 6))) (Aa (o2 dIx (v 6) (o2 Aq (o2 Az (v 10) (cI 36)) (cI 6))) Ab)))))
  (sq (ifs (trb (o2 dEq (o2 Aq (o2 Az (v 10) (cI 216)) (cI 4)) (cI 1)))
  (st 11 (comp (r1 (Aa (cI 3) Ab)) 1 [4,5,3,9] (gN 0) yes (on Ot (Aa (cut (o2 dIx (v 2) (v 4)) (pso (o2 BK (v 1) (v 0))) (pso (o2 An (o2 BK (v 1) (v 0)) (v 1)))) (Aa (v 3) Ab)))))
  nop)
  (app 8 (mtp (Aa (o2 dIx (v 11) (cI 0)) (Aa (o2 dIx (v 11) (cI 1)) (Aa (o2 dIx (v 11) (cI 2)) Ab)))))))))
  (frz 8 (ret (v 8)))))))))
def Rk:=fn 8
  (sq (st 3 (on Iw (Aa (on IW (Aa (v 0) (Aa (o2 An (v 1) (cI 7)) Ab))) (Aa (o2 BK (cI 4) (v 2)) Ab))))
  (sq (stO 4 (mls Ab))
  (sq (st 5 (o2 An (cI 2) (o2 Aq (o2 Az (on IW (Aa (v 0) (Aa (o2 An (v 1) (cI 7)) Ab))) (cI 2)) (cI 2))))
  (sq (for_ (Ks (Aa (on Ry (Aa (v 0) (Aa (v 1) (Aa (v 2) (Aa (v 5) Ab))))) Ab)) (gU 2 (gs1 (gN 6) (gs1 (gN 7) gs0)))
  (app 4 (on T7 (Aa (cut (v 3) (pso (o2 BK (cI 4) (v 6))) (pso (o2 An (o2 BK (cI 4) (v 6)) (cI 4)))) (Aa (v 7) Ab)))))
  (frz 4 (ret (v 4)))))))
def JK:=fn 3
  (ret (eAnd (on HH (Aa (v 0) Ab)) (eAnd (o2 dGe (v 0) (v 1)) (o2 dLe (v 0) (v 2)))))
def QG:=fn 2
  (ifs (bOr (bNot (trb (on JK (Aa (v 0) (Aa (cI 1) (Aa (cI 64) Ab)))))) (bNot (trb (on JK (Aa (v 1) (Aa (cI 1) (Aa (cI 64) Ab)))))))
  badS
  nop)
def LC:=fn 1
  (ret (ife (trb (o1 dIsN (v 0))) (mtp (Aa (cI 0) (Aa (cI 1) Ab))) (v 0)))
def aj:=fn 2
  (ret (o1 (dFld objs "colour") (v 0)))
def Oa:=fn 1
  (ret (o2 Az (o2 dIx (v 0) (cI 0)) (o2 dIx (v 0) (cI 1))))
def Ra:=fn 4
  (sq (st 3 (o2 dIx (v 0) (o2 Aq (on Oa (Aa (v 2) Ab)) (on bLen (Aa (v 0) Ab)))))
  (ret (o2 dIx (v 3) (o2 Aq (on Oa (Aa (v 1) Ab)) (on bLen (Aa (v 3) Ab))))))
def Lh:=fn 2
  (ret (on Ra (Aa (o1 (dFld objs "pattern") (v 0)) (Aa (o2 dIx (v 1) (cI 0)) (Aa (o2 dIx (v 1) (cI 1)) Ab)))))
def V2:=fn 2
  (ret (o1 (dFld objs "colour") (v 0)))
def Ut:=fn 2
  (ret (o2 dIx (v 1) (cI 0)))
def Nx:List (Str×(List D->Res D)):=[("Plain",V2),("Shaded",Ut),("Patterned",Lh),("Glass",aj)]
def Pn:=fn 2
  (ret (on Er (Aa (o2 dSub (o2 BK (o2 dIx (v 0) (cI 0)) (o2 dIx (v 1) (cI 1))) (o2 BK (o2 dIx (v 1) (cI 0)) (o2 dIx (v 0) (cI 1)))) (Aa (o2 BK (o2 dIx (v 0) (cI 1)) (o2 dIx (v 1) (cI 1))) Ab))))
def Kp:=fn 2
  (ret (on Er (Aa (o2 An (o2 BK (o2 dIx (v 0) (cI 0)) (o2 dIx (v 1) (cI 1))) (o2 BK (o2 dIx (v 1) (cI 0)) (o2 dIx (v 0) (cI 1)))) (Aa (o2 BK (o2 dIx (v 0) (cI 1)) (o2 dIx (v 1) (cI 1))) Ab))))
def QQ:=fn 2
  (ret (on Er (Aa (o2 BK (o2 dIx (v 0) (cI 0)) (o2 dIx (v 1) (cI 0))) (Aa (o2 BK (o2 dIx (v 0) (cI 1)) (o2 dIx (v 1) (cI 1))) Ab))))
def O6:=fn 3
  (sq (st 2 (on Pn (Aa (mtp (Aa (cI 1) (Aa (cI 1) Ab))) (Aa (o1 (dFld objs "part") (v 0)) Ab))))
  (ret (on Kp (Aa (on QQ (Aa (o1 (dFld objs "part") (v 0)) (Aa (o1 (dFld objs "colour") (v 0)) Ab))) (Aa (on QQ (Aa (v 2) (Aa (v 1) Ab))) Ab)))))
def Vf:=fn 1
  (ret (c (.bl true)))
def KC:=fn 1
  (ret (c (.bl false)))
def H8:List (Str×(List D->Res D)):=[("Plain",KC),("Shaded",KC),("Patterned",KC),("Glass",Vf)]
def GF:=fn 2
  (ret (o2 dLt (o2 BK (o2 dIx (v 0) (cI 0)) (o2 dIx (v 1) (cI 1))) (o2 BK (o2 dIx (v 1) (cI 0)) (o2 dIx (v 0) (cI 1)))))
def QM:=fn 5
  (sq (stO 2 (mls Ab))
  (sq (for_ (iv (v 1)) (gN 3)
  (ifs (bAnd (trb (meth H8 "is_glass" (o2 dIx (v 3) (cI 0)) Ab)) (bOr (trb (o1 dIsN (v 0))) (trb (on GF (Aa (o2 dIx (v 3) (cI 1)) (Aa (o2 dIx (v 0) (cI 1)) Ab))))))
  (sq (st 4 (pk 2 (on bLen (Aa (comp (iv (v 2)) 1 [3] (gN 0) (trb (on GF (Aa (o2 dIx (v 1) (cI 1)) (Aa (o2 dIx (v 0) (cI 1)) Ab)))) (v 0)) Ab))))
  (insO 2 (v 4) (v 3)))
  nop))
  (frz 2 (ret (v 2)))))
def Qi:=fn 3
  (sq (st 1 (c .non))
  (sq (for_ (iv (v 0)) (gN 2)
  (sq (ifs (trb (meth H8 "is_glass" (o2 dIx (v 2) (cI 0)) Ab))
  cnt
  nop)
  (ifs (bOr (trb (o1 dIsN (v 1))) (trb (on GF (Aa (o2 dIx (v 2) (cI 1)) (Aa (o2 dIx (v 1) (cI 1)) Ab)))))
  (st 1 (v 2))
  nop)))
  (ret (v 1))))
def Oi:=fn 5
  (sq (st 2 (on Qi (Aa (v 0) Ab)))
  (sq (st 3 (v 1))
  (sq (ifs (trb (o1 Ih (v 2)))
  (st 3 (meth Nx "colour_at" (o2 dIx (v 2) (cI 0)) (Aa (o2 dIx (v 2) (cI 2)) Ab)))
  nop)
  (sq (for_ (iv (on QM (Aa (v 2) (Aa (v 0) Ab)))) (gN 4)
  (st 3 (on O6 (Aa (o2 dIx (v 4) (cI 0)) (Aa (v 3) Ab)))))
  (ret (v 3))))))
def Q7:=fn 3
  (sq (st 1 (mtp (Aa (cI 0) (Aa (cI 1) Ab))))
  (sq (for_ (iv (v 0)) (gN 2)
  (st 1 (on Kp (Aa (v 1) (Aa (v 2) Ab)))))
  (ret (on Er (Aa (o2 dIx (v 1) (cI 0)) (Aa (o2 BK (o2 dIx (v 1) (cI 1)) (on bLen (Aa (v 0) Ab))) Ab))))))
def K5:=fn 2
  (ret (on Q7 (Aa (comp (iv (v 0)) 1 [1] (gN 0) yes (on Oi (Aa (v 0) (Aa (v 1) Ab)))) Ab)))
def Gz:=fn 2
  (ret (o2 An (o2 An (o2 BK (o2 dIx (v 0) (cI 0)) (o2 dIx (v 1) (cI 0))) (o2 BK (o2 dIx (v 0) (cI 1)) (o2 dIx (v 1) (cI 1)))) (o2 BK (o2 dIx (v 0) (cI 2)) (o2 dIx (v 1) (cI 2)))))
def Q9:=fn 2
  (ret (on Gz (Aa (comp (iv (v 0)) 1 [] (gN 0) yes (o2 dIx (v 0) (cI 3))) (Aa (v 1) Ab))))
def TJ:=fn 5
  (sq (st 2 (on Q9 (Aa (v 0) (Aa (v 1) Ab))))
  (sq (st 3 (on Er (Aa (on Gz (Aa (comp (iv (v 0)) 1 [] (gN 0) yes (o2 dIx (v 0) (cI 2))) (Aa (v 1) Ab))) (Aa (v 2) Ab))))
  (sq (st 4 (on lz3 (Aa (o2 dIx (o2 dIx (v 0) (cI 0)) (cI 4)) (Aa (o2 dIx (o2 dIx (v 0) (cI 1)) (cI 4)) (Aa (o2 dIx (o2 dIx (v 0) (cI 2)) (cI 4)) Ab)))))
  (ret (mtp (Aa (v 3) (Aa (on bTup (Aa (comp (iv (v 4)) 1 [2,1] (gN 0) yes (on Er (Aa (on Gz (Aa (v 0) (Aa (v 2) Ab))) (Aa (v 1) Ab)))) Ab)) Ab)))))))
def Pb:=fn 2
  (ret (mtp (Aa (o2 dSub (o2 BK (o2 dIx (v 0) (cI 1)) (o2 dIx (v 1) (cI 2))) (o2 BK (o2 dIx (v 0) (cI 2)) (o2 dIx (v 1) (cI 1)))) (Aa (o2 dSub (o2 BK (o2 dIx (v 0) (cI 2)) (o2 dIx (v 1) (cI 0))) (o2 BK (o2 dIx (v 0) (cI 0)) (o2 dIx (v 1) (cI 2)))) (Aa (o2 dSub (o2 BK (o2 dIx (v 0) (cI 0)) (o2 dIx (v 1) (cI 1))) (o2 BK (o2 dIx (v 0) (cI 1)) (o2 dIx (v 1) (cI 0)))) Ab)))))
def M8:=fn 5
  (sq (st 3 (on Pb (Aa (v 0) (Aa (v 1) Ab))))
  (sq (for_ (iv (mtp (Aa (on Gz (Aa (v 3) (Aa (v 2) Ab))) (Aa (o2 dIx (v 3) (cI 0)) (Aa (o2 dIx (v 3) (cI 1)) Ab))))) (gN 4)
  (ifs (trb (o2 dNe (v 4) (cI 0)))
  (ret (ife (trb (o2 dGt (v 4) (cI 0))) (cI 1) (o1 dNeg (cI 1))))
  nop))
  (ret (cI 0))))
def Sv:=fn 3
  (sq (drp (on Jw (Aa (v 0) Ab)))
  (sq (st 2 (on M8 (Aa (o2 dIx (v 0) (cI 0)) (Aa (o2 dIx (v 0) (cI 1)) (Aa (v 1) Ab)))))
  (sq (ifs (bOr (trb (o2 dNe (on M8 (Aa (o2 dIx (v 0) (cI 1)) (Aa (o2 dIx (v 0) (cI 2)) (Aa (v 1) Ab)))) (v 2))) (trb (o2 dNe (on M8 (Aa (o2 dIx (v 0) (cI 2)) (Aa (o2 dIx (v 0) (cI 0)) (Aa (v 1) Ab)))) (v 2))))
  (ret (cI 0))
  nop)
  (ret (v 2)))))
def Lp:=fn 3
  (ret (on Gz (Aa (on Pb (Aa (v 0) (Aa (v 1) Ab))) (Aa (v 2) Ab))))
def RC:=fn 2
  (ret (mtp (Aa (on Lp (Aa (o2 dIx (v 0) (cI 1)) (Aa (o2 dIx (v 0) (cI 2)) (Aa (v 1) Ab)))) (Aa (on Lp (Aa (o2 dIx (v 0) (cI 2)) (Aa (o2 dIx (v 0) (cI 0)) (Aa (v 1) Ab)))) (Aa (on Lp (Aa (o2 dIx (v 0) (cI 0)) (Aa (o2 dIx (v 0) (cI 1)) (Aa (v 1) Ab)))) Ab)))))
def DP:=fn 2
  (sq (ifs (trb (o2 dEq (on Sv (Aa (v 0) (Aa (v 1) Ab))) (cI 0)))
  (ret (c .non))
  nop)
  (ret (on TJ (Aa (v 0) (Aa (on RC (Aa (v 0) (Aa (v 1) Ab))) Ab)))))
def Qf:=fn 5
  (sq (stO 2 (mls Ab))
  (sq (for_ (iv (v 0)) (gN 3)
  (sq (st 4 (on DP (Aa (o1 (dFld objs "triangle") (v 3)) (Aa (v 1) Ab))))
  (ifs (trb (o1 Ih (v 4)))
  (app 2 (mtp (Aa (v 3) (Aa (o2 dIx (v 4) (cI 0)) (Aa (o2 dIx (v 4) (cI 1)) Ab)))))
  nop)))
  (frz 2 (ret (v 2)))))
def O2:=fn 3
  (ret (mtp (Aa (o2 An (o2 BK (cI 8) (v 0)) (o2 dIx (v 2) (cI 0))) (Aa (o2 An (o2 BK (cI 8) (v 1)) (o2 dIx (v 2) (cI 1))) (Aa (cI 8) Ab)))))
def Tg:=fn 4
  (ret (comp (iv (v 3)) 1 [0,2,1] (gN 0) yes (on Qf (Aa (v 1) (Aa (on O2 (Aa (v 3) (Aa (v 2) (Aa (v 0) Ab)))) Ab)))))
def Xh:=fn 5
  (ret (comp (r1 (Aa (v 1) Ab)) 1 [0,3,2,4] (gN 0) yes (on K5 (Aa (on Tg (Aa (v 1) (Aa (v 0) (Aa (v 3) (Aa (v 2) Ab))))) (Aa (v 4) Ab)))))
def Tv:=fn 1
  (sq (ifs (bOr (bNot (trb (on bIsi (Aa (v 0) (Aa (c (.ty "tuple")) Ab))))) (trb (o2 dNe (on bLen (Aa (v 0) Ab)) (cI 2))))
  (ret (c (.bl false)))
  nop)
  (ret (eAnd (on JK (Aa (o2 dIx (v 0) (cI 0)) (Aa (cI 1) (Aa (cI 7) Ab)))) (on JK (Aa (o2 dIx (v 0) (cI 1)) (Aa (cI 1) (Aa (cI 7) Ab)))))))
def SQ:=fn 1
  (sq (ifs (bOr (bNot (trb (on bIsi (Aa (v 0) (Aa (c (.ty "list")) Ab))))) (bOr (trb (o2 dLt (on bLen (Aa (v 0) Ab)) (cI 1))) (trb (o2 dGt (on bLen (Aa (v 0) Ab)) (cI 16)))))
  badS
  nop)
  (sq (ifs (bNot (trb (on bAll (Aa (comp (iv (v 0)) 1 [] (gN 0) yes (on Tv (Aa (v 0) Ab))) Ab))))
  badS
  nop)
  (ifs (trb (o2 dNe (o1 Uo (v 0)) (on bLen (Aa (v 0) Ab))))
  badS
  nop)))
def Hw:=fn 1
  (sq (ifs (trb (o1 dIsN (v 0)))
  (ret (mls (Aa (mtp (Aa (cI 4) (Aa (cI 4) Ab))) Ab)))
  nop)
  (sq (drp (on SQ (Aa (v 0) Ab)))
  (ret (v 0))))
def J8:=fn 7
  (sq (drp (on QG (Aa (v 1) (Aa (v 2) Ab))))
  (sq (st 5 (on Hw (Aa (v 3) Ab)))
  (sq (st 6 (on LC (Aa (v 4) Ab)))
  (ret (comp (r1 (Aa (v 2) Ab)) 1 [1,0,5,6] (gN 0) yes (on Xh (Aa (v 2) (Aa (v 1) (Aa (v 0) (Aa (v 3) (Aa (v 4) Ab)))))))))))
def TV:=fn 1
  (ifs (bNot (trb (on JK (Aa (v 0) (Aa (cI 1) (Aa (cI 64) Ab))))))
  badS
  nop)
def Rn:=fn 3
  (sq (st 1 (o2 dIx (v 0) (cI 0)))
  (sq (for_ (iv (v 0)) (gN 2)
  (ifs (trb (on GF (Aa (v 1) (Aa (v 2) Ab))))
  (st 1 (v 2))
  nop))
  (ret (v 1))))
def Oj:=fn 1
  (sq (ifs (trb (o2 dIn (c .non) (v 0)))
  (ret (c .non))
  nop)
  (ret (on Rn (Aa (v 0) Ab))))
def QF:=fn 3
  (sq (st 1 (o2 dIx (v 0) (cI 0)))
  (sq (for_ (iv (v 0)) (gN 2)
  (ifs (trb (on GF (Aa (v 2) (Aa (v 1) Ab))))
  (st 1 (v 2))
  nop))
  (ret (v 1))))
def Nm:=fn 2
  (ret (ife (trb (o1 dIsN (v 0))) (v 1) (on QF (Aa (mls (Aa (v 0) (Aa (v 1) Ab))) Ab))))
def Jp:FY:=fnY 7 [2,3]
  (forY (Ks (Aa (v 1) Ab)) (gU 2 (gs1 (gN 4) (gs1 (gN 5) gs0)))
  (sqY (lft (st 6 (on DP (Aa (o1 (dFld objs "triangle") (v 0)) (Aa (v 5) Ab)))))
  (sqY (ifY (trb (o1 dIsN (v 6)))
  (lft cnt)
  (lft nop))
  (sqY (appY (v 4) (mtp (Aa (v 0) (Aa (o2 dIx (v 6) (cI 0)) (Aa (o2 dIx (v 6) (cI 1)) Ab)))))
  (ifY (bNot (trb (meth H8 "is_glass" (v 0) Ab)))
  (lft (setO 3 (pkN 3 (on Nm (Aa (o2 dIx (v 3) (v 4)) (Aa (o2 dIx (v 6) (cI 0)) Ab)))) (v 4)))
  (lft nop))))))
def G8:=fn 1
  (ret (on QF (Aa (comp (iv (v 0)) 1 [] (gN 0) yes (on Er (Aa (o2 dIx (v 0) (cI 2)) (Aa (o2 dIx (v 0) (cI 3)) Ab)))) Ab)))
def O9:=fn 9
  (regY 2 (comp (iv (v 1)) 1 [] (gN 0) yes (mls Ab))
  (sqY (lft (stO 3 (comp (iv (v 1)) 1 [] (gN 0) yes (c .non))))
  (sqY (lft (stO 4 (mls Ab)))
  (sqY (forY (Ks (Aa (v 0) Ab)) (gU 2 (gs1 (gN 5) (gs1 (gN 6) gs0)))
  (sqY (lft (st 7 (on G8 (Aa (o1 (dFld objs "triangle") (v 6)) Ab))))
  (sqY (lft (st 8 (pkN 3 (on Oj (Aa (v 3) Ab)))))
  (ifY (bAnd (trb (o1 Ih (v 8))) (bNot (trb (on GF (Aa (v 7) (Aa (v 8) Ab))))))
  (lft (app 4 (mtp (Aa (v 5) (Aa (v 7) (Aa (v 8) Ab))))))
  (HF Jp 3 (some 3) (rIm (v 6) (rIm (v 1) (rRg (rOw 3 rNil)))))))))
  (retY 4)))))
def Jj:=fn 2
  (sq (ifs (trb (o1 dIsN (v 0)))
  (ret (on bLR (Aa (v 1) Ab)))
  nop)
  (sq (ifs (bOr (bNot (trb (on bIsi (Aa (v 0) (Aa (c (.ty "list")) Ab))))) (bNot (trb (on bAll (Aa (comp (iv (v 0)) 1 [] (gN 0) yes (on HH (Aa (v 0) Ab))) Ab)))))
  badS
  nop)
  (sq (ifs (trb (o2 dNe (on Sq (Aa (v 0) Ab)) (on bLR (Aa (v 1) Ab))))
  badS
  nop)
  (ret (v 0)))))
def UW:FY:=fnY 8 [0]
  (sqY (lft (st 4 (o2 Az (on bLen (Aa (v 2) Ab)) (on bLen (Aa (v 1) Ab)))))
  (forY (Ks (Aa (v 1) Ab)) (gU 2 (gs1 (gN 5) (gs1 (gN 6) gs0)))
  (sqY (lft (st 7 (cut (v 2) (pso (o2 BK (v 5) (v 4))) (pso (o2 BK (o2 An (v 5) (cI 1)) (v 4))))))
  (Kh (on K5 (Aa (v 7) (Aa (v 3) Ab))) (o2 dIx (v 6) (cI 1)) (o2 dIx (v 6) (cI 0))))))
def QD:=fn 5
  (sq (stO 2 (mls Ab))
  (sq (for_ (iv (v 0)) (gU 2 (gs1 (gN 3) (gs1 (gN 4) gs0)))
  (ext 2 (comp (iv (v 1)) 1 [4,3] (gN 0) yes (on O2 (Aa (v 2) (Aa (v 1) (Aa (v 0) Ab)))))))
  (frz 2 (ret (v 2)))))
def J5:=fn 2
  (ret (o2 Az (o2 dSub (o2 An (v 0) (v 1)) (cI 1)) (v 1)))
def Qd:=fn 10
  (sq (st 4 (on J5 (Aa (v 0) (Aa (v 2) Ab))))
  (sq (st 5 (o2 BK (o2 Aq (v 3) (v 4)) (v 2)))
  (sq (st 6 (o2 BK (o2 Az (v 3) (v 4)) (v 2)))
  (sq (stO 7 (mls Ab))
  (sq (for_ (r2 (Aa (v 6) (Aa (on bMin (Aa (o2 An (v 6) (v 2)) (Aa (v 1) Ab))) Ab))) (gN 8)
  (for_ (r2 (Aa (v 5) (Aa (on bMin (Aa (o2 An (v 5) (v 2)) (Aa (v 0) Ab))) Ab))) (gN 9)
  (app 7 (mtp (Aa (v 9) (Aa (v 8) Ab))))))
  (frz 7 (ret (v 7))))))))
def Ij:List D->Res D:=fnR 15
  (soR (drp (on QG (Aa (v 1) (Aa (v 2) Ab))))
  (soR (drp (on TV (Aa (v 3) Ab)))
  (soR (st 7 (on Jj (Aa (v 4) (Aa (o2 BK (on J5 (Aa (v 1) (Aa (v 3) Ab))) (on J5 (Aa (v 2) (Aa (v 3) Ab)))) Ab))))
  (soR (st 8 (on Hw (Aa (v 5) Ab)))
  (soR (st 9 (on LC (Aa (v 6) Ab)))
  (regT 10 (comp (r1 (Aa (v 2) Ab)) 1 [1,9] (gN 0) yes (repD (Aa (v 2) Ab) (v 1)))
  (sqY (lft (stO 11 (mls Ab)))
  (sqY (forY (iv (v 7)) (gN 12)
  (sqY (lft (st 13 (on Qd (Aa (v 1) (Aa (v 2) (Aa (v 3) (Aa (v 12) Ab)))))))
  (sqY (lft (st 14 (on O9 (Aa (v 0) (Aa (on QD (Aa (v 13) (Aa (v 8) Ab))) Ab)))))
  (sqY (HF UW 0 none (rRg (rIm (v 13) (rIm (o2 dIx (v 14) (cI 0)) (rIm (v 9) rNil)))))
  (lft (ext 11 (comp (iv (o2 dIx (v 14) (cI 1))) 1 [12] (gN 0) yes (mtp (Aa (v 1) (Aa (o2 dIx (v 0) (cI 0)) (Aa (o2 dIx (v 0) (cI 1)) (Aa (o2 dIx (v 0) (cI 2)) Ab))))))))))))
  (retY 11)))))))))
def VD:=fn 15
  (sq (st 1 (on Rk (Aa (v 0) (Aa (cI 0) (Aa (cI 4) Ab)))))
  (sq (st 2 (on Iw (Aa (on IW (Aa (v 0) (Aa (cI 8) Ab))) (Aa (cI 7) Ab))))
  (sq (ifs (trb (o2 dEq (o2 Aq (o2 dIx (v 2) (cI 3)) (cI 4)) (cI 1)))
  (st 1 (o2 An (v 1) (cut (v 1) pno (pso (cI 2)))))
  nop)
  (sq (ifs (trb (o2 dEq (o2 Aq (o2 dIx (v 2) (cI 0)) (cI 2)) (cI 0)))
  (sq (st 3 (o2 Aq (o2 Az (o2 dIx (v 2) (cI 0)) (cI 2)) (o2 An (on bLen (Aa (v 1) Ab)) (cI 1))))
  (st 1 (o2 An (o2 An (cut (v 1) pno (pso (v 3))) (mls (Aa (on RG (Aa (o2 dIx (v 2) (cI 1)) Ab)) Ab))) (cut (v 1) (pso (v 3)) pno))))
  nop)
  (sq (st 4 (o2 An (cI 1) (o2 Aq (o2 dIx (v 2) (cI 2)) (cI 5))))
  (sq (st 5 (o2 An (cI 1) (o2 Aq (o2 Az (o2 dIx (v 2) (cI 2)) (cI 8)) (cI 4))))
  (sq (st 6 (o2 dIx (mls (Aa (o2 An (cI 1) (o2 Aq (o2 Az (o2 dIx (v 2) (cI 2)) (cI 64)) (cI 6))) (Aa (o2 An (cI 1) (o2 Aq (o2 Az (o2 dIx (v 2) (cI 2)) (cI 64)) (cI 3))) (Aa (cI 64) Ab)))) (o2 Aq (o2 Az (o2 dIx (v 2) (cI 2)) (cI 1024)) (cI 3))))
  (sq (st 7 (o2 dIx (mls (Aa (c .non) (Aa (cut (on RX (Aa (on IW (Aa (v 0) (Aa (cI 9) Ab))) Ab)) pno (pso (cI 3))) Ab))) (o2 Aq (o2 Az (o2 dIx (v 2) (cI 2)) (cI 4096)) (cI 2))))
  (sq (st 8 (o2 dIx (mls (Aa (mtp (Aa (cI 0) (Aa (cI 1) Ab))) (Aa (mtp (Aa (cI 9) (Aa (cI 4) Ab))) Ab))) (o2 Aq (o2 Az (o2 dIx (v 2) (cI 2)) (cI 8192)) (cI 2))))
  (sq (st 9 (on J8 (Aa (v 1) (Aa (v 4) (Aa (v 5) (Aa (v 7) (Aa (v 8) Ab)))))))
  (unpA 10 11 (on Ij (Aa (v 1) (Aa (v 4) (Aa (v 5) (Aa (v 6) (Aa (c .non) (Aa (v 7) (Aa (v 8) Ab)))))))) (trb (o2 dNe (v 10) (v 9)))
  (ret (c (.bl false)))
  (mtp (Aa (cI 1) (Aa (cI 1) Ab)))
  (sq (st 12 (o2 BK (o2 Az (o2 dSub (o2 An (v 4) (v 6)) (cI 1)) (v 6)) (o2 Az (o2 dSub (o2 An (v 5) (v 6)) (cI 1)) (v 6))))
  (sq (st 13 (on Sy (Aa (cut (v 2) (pso (cI 3)) (pso (cI 7))) (Aa (v 12) Ab))))
  (sq (asg (gU 2 (gs1 (gN 10) (gs1 (gN 14) gs0))) (onK Ij [some 1,some 2,some 0] (Aa (v 1) (Aa (v 4) (Aa (v 5) (Aa (v 6) Ab)))) (Aa (v 8) (Aa (v 13) (Aa (v 7) Ab)))))
  (ret (eAnd (o2 dEq (v 10) (v 9)) (o2 dEq (on RW (Aa (v 14) Ab)) (v 11))))))))))))))))))
variable{U:Dl.D->Prop}{Z:Dl.Ev}{t w:List Nat}{Ψ:Dl.Fl->Prop}{ns:List Int}{cs:List (List Int)}{e:Dl.ME}{k i:Nat}
def jT{k:Int}(hk:0<=k/\k<=1000)(h:∀r,0<=r/\r<2147483648->U (.int r)):Tl (Qg [.int cc,.int k]) U:=by
 unfold Qg;symm;refine Cu (λ_=>?_) (λ_=>?_)
 .symm;refine Cu (λ_=>?_) (λ_=>?_)
  .symm;refine Cu (λ_=>?_) (λ_=>?_)
   .symm
    grind
   .symm
    grind
  .symm
   grind
 .symm
  grind
noncomputable def cor(x y w h:Int)(vs:List Int):D:=.tup [.int x,.int y,.int w,.int h,.tup (vs.map .int)]
def Bd(x:Int):Prop:=-1000000<=x/\x<=1000000
def Zs0{ys:List D}{n:Nat}(hl:ys.length=n)(h:∀y∈ys,∃v:Int,y=.int v/\Bd v):∃vs:List Int,ys=vs.map .int/\vs.length=n/\∀v∈vs,Bd v:=by
 induction ys generalizing n with
 | nil=>simp_all
 | cons y r ih=>
  obtain ⟨v,rfl,b⟩:=h y BX;obtain ⟨vs,rfl,l,d⟩:=ih (n:=r.length) rfl λz a=>h z (Bf _ a);refine ⟨v::vs,rfl,by grind,λu c=>?_⟩
  grind
def cW{U:List D->Prop}{g:MG}{e:ME}{Z:Ev}{n:Nat}(h:∀k:Nat,k<n->Tl (g (.int k) Z) λZ1=>Tl (e Z1) λy=>∃v:Int,y=.int v/\Bd v)(q:∀vs:List Int,vs.length=n->(∀v∈vs,Bd v)->U (vs.map .int)):Tl (Bg g yes e Z (Ci 0 n)) U:=by
 have c:(Ci 0 n).length=n:=by unfold Ci;simp
 refine w_all (λ_ y=>∃v:Int,y=.int v/\Bd v) (λx o=>?_) λp l a=>?_
 .obtain ⟨k,b,rfl⟩:=mem_range o;exact h k b
 .obtain ⟨vs,rfl,f,j⟩:=Zs0 (n:=n) (l.trans c) λy d=>by
   obtain ⟨i,m,rfl⟩:=Ef.mp d;exact a i _ _ (BL (by lia)) (BL m)
  exact q vs f j
def M4{k:Int}(hk:0<=k)(h:∀n,U (.int n)):Tl (IW [.lst (ns.map .int),.int k]) U:=by
 unfold IW;symm;refine Cu (λa=>?_) (λ_=>?_)
 .symm;refine Nk (by lia) λn _=>?_;symm;exact h n
 .symm;exact h 0
end My
namespace My
open PySem Dl
variable{U:Dl.D->Prop}{Z:Dl.Ev}{t w:List Nat}{Ψ:Dl.Fl->Prop}{ns:List Int}{cs:List (List Int)}{e:Dl.ME}{k i:Nat}
def zN(h:U (.int (Mt.gcdL 0 ns))):Tl (Ko [.lst (ns.map .int)]) U:=by
 unfold Ko;symm;refine Xl (λp Z=>∃(a:List Int) (d c b:Cl),p=a.map .int/\Z=[.im (.lst (ns.map .int)),.im (.int (Mt.gcdL 0 a)),d,c,b]) ⟨[],_,_,_,rfl,rfl⟩ ?_ ?_
 .rintro p x r q Z ⟨a,d,c,b,rfl,rfl⟩;obtain ⟨n,rfl⟩ : ∃n:Int,x=.int n:=by
   have:x∈ns.map .int:=by simp_all
   grind
  symm;refine w_wh (λZ=>∃(f m:Nat) (b:Cl),Z=[.im (.lst (ns.map .int)),.im (.int f),.im (.int n),.im (.int m),b]/\Nat.gcd f m=Nat.gcd (Mt.gcdL 0 a) n.natAbs) (Lq 3) ⟨_,_,_,rfl,rfl⟩ (VL _ _) ?_;rintro Z ⟨f,m,b,rfl,e⟩;symm;refine ⟨λo=>?_,λo=>?_⟩
  .have i:m≠0:=by lia
   symm;refine ⟨_,rfl,⟨m,f%m,_,rfl,?_⟩,?_⟩
   .rw [<-e,Mt.fO]
   .have:=Jm f (IK i)
    ext
  .have i:m=0:=by lia
   subst i;rw [Nat.gcd_zero_right] at e;have s:Mt.gcdL 0 (a++[n])=Nat.gcd (Mt.gcdL 0 a) n.natAbs:=by
    have j:∀(l:List Int) (g:Nat),Mt.gcdL g (l++[n])=Nat.gcd (Mt.gcdL g l) n.natAbs:=by
     intro l
     induction l with
     | nil=>exact λg=>rfl
     | cons y l ih=>exact λg=>ih _
    simp_all
   exact ⟨_,rfl,a++[n],.im (.int n),.im (.int ((0:Nat):Int)),b,by simp,by lia⟩
 .rintro Z ⟨a,d,c,b,k,rfl⟩;symm;have:ns=a:=VF k
  lia
def sG(h:U (.int (Mt.gcdL 0 ns))):Tl (Ko [.tup (ns.map .int)]) U:=by
 unfold Ko;symm;refine Xl (λp Z=>∃(a:List Int) (d c b:Cl),p=a.map .int/\Z=[.im (.tup (ns.map .int)),.im (.int (Mt.gcdL 0 a)),d,c,b]) ⟨[],_,_,_,rfl,rfl⟩ ?_ ?_
 .rintro p x r q Z ⟨a,d,c,b,rfl,rfl⟩;obtain ⟨n,rfl⟩ : ∃n:Int,x=.int n:=by
   have:x∈ns.map .int:=by simp_all
   grind
  symm;refine w_wh (λZ=>∃(f m:Nat) (b:Cl),Z=[.im (.tup (ns.map .int)),.im (.int f),.im (.int n),.im (.int m),b]/\Nat.gcd f m=Nat.gcd (Mt.gcdL 0 a) n.natAbs) (Lq 3) ⟨_,_,_,rfl,rfl⟩ (VL _ _) ?_;rintro Z ⟨f,m,b,rfl,e⟩;symm;refine ⟨λo=>?_,λo=>?_⟩
  .have i:m≠0:=by lia
   symm;refine ⟨_,rfl,⟨m,f%m,_,rfl,?_⟩,?_⟩
   .rw [<-e,Mt.fO]
   .have:=Jm f (IK i)
    ext
  .have i:m=0:=by lia
   subst i;rw [Nat.gcd_zero_right] at e;have s:Mt.gcdL 0 (a++[n])=Nat.gcd (Mt.gcdL 0 a) n.natAbs:=by
    have j:∀(l:List Int) (g:Nat),Mt.gcdL g (l++[n])=Nat.gcd (Mt.gcdL g l) n.natAbs:=by
     intro l
     induction l with
     | nil=>exact λg=>rfl
     | cons y l ih=>exact λg=>ih _
    simp_all
   exact ⟨_,rfl,a++[n],.im (.int n),.im (.int ((0:Nat):Int)),b,by simp,by lia⟩
 .rintro Z ⟨a,d,c,b,k,rfl⟩;symm;have:ns=a:=VF k
  lia
def fra(t b:Int):D:=.tup [.int (Mt.frT t b),.int (Mt.frB t b)]
def rC{t b:Int}(h:b≠0):Int.gcd t b<=b.natAbs:=Nat.le_of_dvd (by lia) (Pk.mpr (Int.gcd_dvd_right t b) |> λy=>by ext)
def jm{U:D->Prop}{x y:Int}{k:Nat}(hy:0<y)(s:Sm k y)(hk:k<=8900)(h:U (.int (x.fdiv y))):Tl (Az (.int x) (.int y)) U:=by
 refine w_div hy (s.log (by lia)) ?_
 grind
def cX{U:D->Prop}{x y:Int}{k:Nat}(hy:y<0)(s:Sm k y)(hk:k<=8900)(h:U (.int (x.fdiv y))):Tl (Az (.int x) (.int y)) U:=w_divN hy (s.log (by lia)) h
def Ub{U:D->Prop}{t b:Int}{k:Nat}(hb:b≠0)(sb:Sm k b)(hk:k<=8900)(h:U (fra t b)):Tl (Er [.int t,.int b]) U:=by
 have d:=Mt.RV (t:=t) hb;have c:Sm k (Int.gcd t b:Int):=sb.le (by rw [Qv];exact rC hb);unfold Er;symm;refine zN (ns:=[t,b]) ?_;rw [Mt.Zx];symm;unfold fra Mt.frT Mt.frB at h;refine Cu (λa=>?_) (λa=>?_)
 .symm;rw [iP a,iP a] at h;refine cX (by lia) c.neg hk ?_;symm;refine cX (by lia) c.neg hk ?_;symm;exact h
 .symm;rw [iN a,iN a] at h;refine jm (by lia) c hk ?_;symm;refine jm (by lia) c hk ?_;symm;exact h
abbrev dot(x y z e f g:Int):Int:=x*e+y*f+z*g
def Rg{x y z e f g:Int}{k n:Nat}(hx:Sm k x)(hy:Sm k y)(hz:Sm k z)(he:Sm n e)(hf:Sm n f)(hg:Sm n g):Sm (k+n+2) (dot x y z e f g):=(((hx.mul he).add (hy.mul hf)).add (hz.mul hg)).mono (by lia)
def fJ{U:D->Prop}{x y z e f g:Int}{k n:Nat}(hx:Sm k x)(hy:Sm k y)(hz:Sm k z)(he:Sm n e)(hf:Sm n f)(hg:Sm n g)(hk:k+n<=8000)(q:U (.int (dot x y z e f g))):Tl (Gz [.lst [.int x,.int y,.int z],.tup [.int e,.int f,.int g]]) U:=by
 have c:Bp x e=true:=Cz hx he (by lia);have a:Bp y f=true:=Cz hy hf (by lia);have b:Bp z g=true:=Cz hz hg (by lia);unfold Gz;symm;exact q
def mU{U:D->Prop}{x y z e f g:Int}{k n:Nat}(hx:Sm k x)(hy:Sm k y)(hz:Sm k z)(he:Sm n e)(hf:Sm n f)(hg:Sm n g)(hk:k+n<=8000)(q:U (.int (dot x y z e f g))):Tl (Gz [.tup [.int x,.int y,.int z],.tup [.int e,.int f,.int g]]) U:=by
 have c:Bp x e=true:=Cz hx he (by lia);have a:Bp y f=true:=Cz hy hf (by lia);have b:Bp z g=true:=Cz hz hg (by lia);unfold Gz;symm;exact q
structure Cv(k:Nat)(x y w h:Int)(vs:List Int):Prop where
 fx:Sm k x
 fy:Sm k y
 fw:Sm k w
 fh:Sm k h
 fv:∀v∈vs,Sm k v
 f1:1<=h
def oA{U:D->Prop}{ax ay aw ah bx bY bw bh cx cy cw ch e f g:Int}{av bv cv:List Int}{k n:Nat}(a:Cv k ax ay aw ah av)(b:Cv k bx bY bw bh bv)(c:Cv k cx cy cw ch cv)(he:Sm n e)(hf:Sm n f)(hg:Sm n g)(hk:k+n<=8000)(q:U (.int (dot ah bh ch e f g))):Tl (Q9 [.tup [cor ax ay aw ah av,cor bx bY bw bh bv,cor cx cy cw ch cv],.tup [.int e,.int f,.int g]]) U:=by
 unfold Q9 cor;symm;refine ⟨by simp_all,?_⟩;refine Gq ?_;symm;refine Gq ?_;symm;refine Gq ?_;symm;refine TF ?_;symm;refine fJ a.fh b.fh c.fh he hf hg hk ?_;symm;exact q
def gP:∀(xs ys zs:List Int),trips (xs.map .int) (ys.map .int) (zs.map .int)=(xs.zip (ys.zip zs)).map λt=>.tup [.int t.1,.int t.2.1,.int t.2.2]
 | [],_,_=>by rfl
 | _::_,[],_=>by rfl
 | _::_,_::_,[]=>by rfl
 | x::xs,y::ys,z::zs=>by simp [trips,gP xs ys zs]
def vls(av bv cv:List Int)(e f g B:Int):List D:=(av.zip (bv.zip cv)).map λt=>fra (dot t.1 t.2.1 t.2.2 e f g) B
def YD{av bv cv:List Int}{t:Int×Int×Int}(h:t∈av.zip (bv.zip cv)):t.1∈av/\t.2.1∈bv/\t.2.2∈cv:=by
 obtain ⟨x,y,z⟩:=t;have b:=Nt h;have a:=Nt b.2;exact ⟨b.1,a.1,a.2⟩
def Zsg{U:D->Prop}{ax ay aw ah bx bY bw bh cx cy cw ch e f g:Int}{av bv cv:List Int}{k n:Nat}(a:Cv k ax ay aw ah av)(b:Cv k bx bY bw bh bv)(c:Cv k cx cy cw ch cv)(he:Sm n e)(hf:Sm n f)(hg:Sm n g)(hk:k+n<=7000)(hl:av.length<=1000)(h0:dot ah bh ch e f g≠0)
  (q:U (.tup [fra (dot aw bw cw e f g) (dot ah bh ch e f g),.tup (vls av bv cv e f g (dot ah bh ch e f g))])):Tl (TJ [.tup [cor ax ay aw ah av,cor bx bY bw bh bv,cor cx cy cw ch cv],.tup [.int e,.int f,.int g]]) U:=by
 have d:=Rg a.fh b.fh c.fh he hf hg;unfold TJ;symm;refine oA a b c he hf hg (by lia) ?_;generalize dot ah bh ch e f g=B at *;unfold cor;symm;refine ⟨by simp_all,?_⟩;refine Gq ?_;symm;refine Gq ?_;symm;refine Gq ?_;symm;refine TF ?_;symm;refine fJ a.fw b.fw c.fw he hf hg (by lia) ?_;symm;refine Ub h0 d (by lia) ?_;symm;rw [gP];refine ⟨by grind,?_⟩;refine Fe (λt=>fra (dot t.1 t.2.1 t.2.2 e f g) B) (λt i=>?_) ?_
 .obtain ⟨l,h,j⟩:=YD i;symm;refine mU (a.fv _ l) (b.fv _ h) (c.fv _ j) he hf hg (by lia) ?_;symm;exact Ub h0 d (by lia) rfl
 symm;exact q
noncomputable abbrev ow(ax ay aw bx bY bw cx cy cw:Int):Int:=(ay*bw - aw*bY)*cx+(aw*bx - ax*bw)*cy+(ax*bY - ay*bx)*cw
def sm6{x:Int}(h:-100000000<=x/\x<=100000000):Sm 64 x:=Sm.of64 (by lia) (by lia)
structure Cr(x y w:Int):Prop where
 x:Sm 64 x
 y:Sm 64 y
 w:Sm 64 w
def Cr.n{ax ay aw bx bY bw:Int}(a:Cr ax ay aw)(b:Cr bx bY bw):Sm 129 (ay*bw - aw*bY)/\Sm 129 (aw*bx - ax*bw)/\Sm 129 (ax*bY - ay*bx) :=
 ⟨(a.y.mul b.w).sub (a.w.mul b.y),(a.w.mul b.x).sub (a.x.mul b.w),(a.x.mul b.y).sub (a.y.mul b.x)⟩
def Cr.ow{ax ay aw bx bY bw cx cy cw:Int}(a:Cr ax ay aw)(b:Cr bx bY bw)(c:Cr cx cy cw):Sm 200 (ow ax ay aw bx bY bw cx cy cw):=by
 obtain ⟨d,f,e⟩:=a.n b;exact (((d.mul c.x).add (f.mul c.y)).add (e.mul c.w)).mono (by decide)
def Bd.s{x:Int}(h:Bd x):Sm 64 x:=sm6 ⟨by have:=h.1;lia,by have:=h.2;lia⟩
def YM{U:D->Prop}{ax ay aw ah bx bY bw bh:Int}{av bv:List Int}(a:Cr ax ay aw)(b:Cr bx bY bw)(h:U (.tup [.int (ay*bw - aw*bY),.int (aw*bx - ax*bw),.int (ax*bY - ay*bx)])):Tl (Pb [cor ax ay aw ah av,cor bx bY bw bh bv]) U:=by
 obtain ⟨g,i,d⟩:=a;obtain ⟨e,c,f⟩:=b;unfold Pb cor;symm;exact h
def jr{U:D->Prop}{l m n px py ps:Int}(hl:Sm 129 l)(hm:Sm 129 m)(hn:Sm 129 n)(p:Cr px py ps)(h:U (.int (l*px+m*py+n*ps))):Tl (Gz [.tup [.int l,.int m,.int n],.tup [.int px,.int py,.int ps]]) U:=by
 obtain ⟨b,c,a⟩:=p;unfold Gz;symm;exact h
noncomputable def sg(x:Int):Int:=if 0<x then 1 else if x<0 then -1 else 0
def sd3(s m n:Int):Int:=if s=0 then (if m=0 then sg n else sg m) else sg s
def Xa{x:Int}(h:0<x):sg x=1:=iP h
def Wy{x:Int}(h:x<0):sg x=-1:=by unfold sg;lia
def zM:sg 0=0:=rfl
def V1(x:Int):sg (-x)=- sg x:=by unfold sg;lia
def ZtO(s m n:Int):sd3 (-s) (-m) (-n)=- sd3 s m n:=by
 unfold sd3;rw [V1,V1,V1]
 lia
def V6{x:Int}:sg x=1/\0<x\/sg x=0/\x=0\/sg x=-1/\x<0:=by
 unfold sg;lia
def V9(x:Int):sg x=1\/sg x=0\/sg x=-1:=by
 rcases V6 (x:=x) with h | h | h
 .lia
 .lia
 lia
def Zwq(s m n:Int):sd3 s m n=1\/sd3 s m n=0\/sd3 s m n=-1:=by
 unfold sd3;by_cases h:s=0
 .rw [iP h];by_cases h':m=0
  .rw [iP h'];exact V9 n
  .rw [iN h'];exact V9 m
 .rw [iN h];exact V9 s
def jb{s m n e:Int}{P Q R:Prop}(h1:sg s=e↔P)(h2:sg m=e↔Q)(h3:sg n=e↔R):sd3 s m n=e↔(¬s=0/\P)\/(s=0/\((¬m=0/\Q)\/(m=0/\R))):=by
 unfold sd3
 lia
def Wb{x:Int}:sg x=1↔0<x:=by rcases V6 (x:=x) with h | h | h<;>lia
def Vp{x:Int}:sg x=-1↔x<0:=by rcases V6 (x:=x) with h | h | h<;>lia
abbrev sdE(ax ay aw bx bY bw px py ps:Int):Int:=sd3 (ow ax ay aw bx bY bw px py ps) (ay*bw - aw*bY) (aw*bx - ax*bw)
def XJ(ax ay aw bx bY bw px py ps:Int):sdE bx bY bw ax ay aw px py ps=- sdE ax ay aw bx bY bw px py ps:=by
 unfold sdE;rw [<-ZtO]
 grind
def w_side{U:D->Prop}{ax ay aw ah bx bY bw bh px py ps:Int}{av bv:List Int}(a:Cr ax ay aw)(b:Cr bx bY bw)(p:Cr px py ps)(h:U (.int (sdE ax ay aw bx bY bw px py ps))):Tl (M8 [cor ax ay aw ah av,cor bx bY bw bh bv,.tup [.int px,.int py,.int ps]]) U:=by
 unfold M8;symm;refine YM a b ?_;symm;obtain ⟨g,f,e⟩:=a.n b;refine jr g f e p ?_;symm;unfold sdE sd3 at h;change U (.int (if ow ax ay aw bx bY bw px py ps=0 then _ else _)) at h
 show Tl (CZ _ _ [.int (ow ax ay aw bx bY bw px py ps),.int _,.int _] _) _;generalize ow ax ay aw bx bY bw px py ps=s at *;generalize ay*bw - aw*bY=m at *;generalize aw*bx - ax*bw=n at *;refine w_f1 ?_;symm;refine MJ (λc=>?_) (λc=>?_)
 .rw [iN c] at h;symm;refine Cu (λd=>?_) (λd=>?_)
  .symm;rw [Xa d] at h;exact h
  .symm;rw [Wy (by lia)] at h;exact h
 rw [iP c] at h;symm;refine w_f1 ?_;symm;refine MJ (λc=>?_) (λc=>?_)
 .rw [iN c] at h;symm;refine Cu (λd=>?_) (λd=>?_)
  .symm;rw [Xa d] at h;exact h
  .symm;rw [Wy (by lia)] at h;exact h
 rw [iP c] at h;symm;refine w_f1 ?_;symm;refine MJ (λc=>?_) (λc=>?_)
 .symm;refine Cu (λd=>?_) (λd=>?_)
  .symm;rw [Xa d] at h;exact h
  .symm;rw [Wy (by lia)] at h;exact h
 symm;refine w_f0 ?_;symm;rw [c,zM] at h;exact h
def vP{U:D->Prop}{ax ay aw ah bx bY bw bh cx cy cw ch:Int}{av bv cv:List Int}(ha:1<=aw)(hb:1<=bw)(hc:1<=cw)(h:U .non):Tl (Jw [.tup [cor ax ay aw ah av,cor bx bY bw bh bv,cor cx cy cw ch cv]]) U:=by
 unfold Jw cor;symm;refine w_f1 ?_;symm;refine w_f1 ?_;symm;refine w_f1 ?_;symm;refine w_f0 ?_;symm;exact h
def hd3(ab bc ca:Int):Int:=if ab=bc/\bc=ca then ab else 0
def ig{U:D->Prop}{ax ay aw ah bx bY bw bh cx cy cw ch px py ps:Int}{av bv cv:List Int}(ha:1<=aw)(hb:1<=bw)(hc:1<=cw)(a:Cr ax ay aw)(b:Cr bx bY bw)(c:Cr cx cy cw)(p:Cr px py ps)(h:U (.int (hd3 (sdE ax ay aw bx bY bw px py ps) (sdE bx bY bw cx cy cw px py ps) (sdE cx cy cw ax ay aw px py ps)))):Tl (Sv [.tup [cor ax ay aw ah av,cor bx bY bw bh bv,cor cx cy cw ch cv],.tup [.int px,.int py,.int ps]]) U:=by
 unfold Sv;symm;refine vP ha hb hc ?_;symm;refine w_side a b p ?_;symm;refine w_side b c p ?_;symm;unfold hd3 at h;refine MJ (λe=>?_) (λe=>?_)
 .symm
  lia
 symm;refine w_side c a p ?_;symm;refine MJ (λd=>?_) (λd=>?_)
 .symm
  lia
 symm
 lia
def XQ{U:D->Prop}{ax ay aw ah bx bY bw bh px py ps:Int}{av bv:List Int}(a:Cr ax ay aw)(b:Cr bx bY bw)(p:Cr px py ps)(h:U (.int (ow ax ay aw bx bY bw px py ps))):Tl (Lp [cor ax ay aw ah av,cor bx bY bw bh bv,.tup [.int px,.int py,.int ps]]) U:=by
 unfold Lp;symm;refine YM a b ?_;symm;obtain ⟨c,e,d⟩:=a.n b;refine jr c e d p ?_;symm;exact h
def uZ{U:D->Prop}{ax ay aw ah bx bY bw bh cx cy cw ch px py ps:Int}{av bv cv:List Int}(a:Cr ax ay aw)(b:Cr bx bY bw)(c:Cr cx cy cw)(p:Cr px py ps)
  (h:U (.tup [.int (ow bx bY bw cx cy cw px py ps),.int (ow cx cy cw ax ay aw px py ps),.int (ow ax ay aw bx bY bw px py ps)])):Tl (RC [.tup [cor ax ay aw ah av,cor bx bY bw bh bv,cor cx cy cw ch cv],.tup [.int px,.int py,.int ps]]) U:=by
 unfold RC;symm;refine XQ b c p ?_;symm;refine XQ c a p ?_;symm;refine XQ a b p ?_;symm;exact h
def Zd{s m n:Int}:sd3 s m n=1↔0<s\/(s=0/\(0<m\/(m=0/\0<n))):=by
 rw [jb Wb Wb Wb]
 lia
def lL{s m n:Int}:sd3 s m n=-1↔s<0\/(s=0/\(m<0\/(m=0/\n<0))):=by
 rw [jb Vp Vp Vp];ac_rfl
def mul0{a b:Int}(ha:0<a)(hb:0<=b):0<=a*b:=Int.mul_nonneg (Dt ha) hb
def Wg{a b c x y z:Int}(ha:0<a)(hb:0<b)(hc:0<c)(hx:0<=x)(hy:0<=y)(hz:0<=z)(h:a*x+b*y+c*z<=0):x=0/\y=0/\z=0:=by
 have d:=mul0 ha hx;have e:=mul0 hb hy;have f:=mul0 hc hz;refine ⟨?_,?_,?_⟩
 .rcases Int.mul_eq_zero.mp (show a*x=0 by lia) with h | h<;>lia
 .rcases Int.mul_eq_zero.mp (show b*y=0 by lia) with h | h<;>lia
 .rcases Int.mul_eq_zero.mp (show c*z=0 by lia) with h | h<;>lia
def aX{ax ay aw bx bY bw cx cy cw px py ps:Int}(ha:0<aw)(hb:0<bw)(hc:0<cw)(hp:0<ps)(h1:sdE ax ay aw bx bY bw px py ps=1)(h2:sdE bx bY bw cx cy cw px py ps=1)(h3:sdE cx cy cw ax ay aw px py ps=1):0<ow ax ay aw bx bY bw cx cy cw:=by
 unfold sdE at h1 h2 h3;rw [Zd] at h1 h2 h3;have b:aw*ow bx bY bw cx cy cw px py ps+bw*ow cx cy cw ax ay aw px py ps+cw*ow ax ay aw bx bY bw px py ps=ow ax ay aw bx bY bw cx cy cw*ps:=by lia
 have c:aw*(bY*cw - bw*cy)+bw*(cy*aw - cw*ay)+cw*(ay*bw - aw*bY)=0:=by grind
 have l:aw*(bw*cx - bx*cw)+bw*(cw*ax - cx*aw)+cw*(aw*bx - ax*bw)=0:=by grind
 generalize ow bx bY bw cx cy cw px py ps=e at *;generalize ow cx cy cw ax ay aw px py ps=f at *;generalize ow ax ay aw bx bY bw px py ps=g at *;generalize ow ax ay aw bx bY bw cx cy cw=o at *;by_cases ho:0<o
 .exact ho
 exfalso;have a:o*ps<=0:=by
  have:=Int.mul_nonneg (show 0<=-o by lia) (show 0<=ps by lia)
  lia
 obtain ⟨k,h,p⟩:=Wg ha hb hc (x:=e) (y:=f) (z:=g) (by lia) (by lia) (by lia) (by lia);obtain ⟨d,q,i⟩:=Wg ha hb hc (x:=bY*cw - bw*cy) (y:=cy*aw - cw*ay) (z:=ay*bw - aw*bY) (by lia) (by lia) (by lia) (by lia);obtain ⟨m,j,n⟩:=Wg ha hb hc (x:=bw*cx - bx*cw) (y:=cw*ax - cx*aw) (z:=aw*bx - ax*bw) (by lia) (by lia) (by lia) (by lia)
 lia
def sJ{ax ay aw bx bY bw cx cy cw px py ps:Int}(ha:0<aw)(hb:0<bw)(hc:0<cw)(hp:0<ps)(h1:sdE ax ay aw bx bY bw px py ps=-1)(h2:sdE bx bY bw cx cy cw px py ps=-1)(h3:sdE cx cy cw ax ay aw px py ps=-1):ow ax ay aw bx bY bw cx cy cw<0:=by
 have z:=aX hc hb ha hp (by rw [XJ bx bY bw cx cy cw,h2];rfl) (by rw [XJ ax ay aw bx bY bw,h1];rfl) (by rw [XJ cx cy cw ax ay aw,h3];rfl)
 lia
abbrev hdE(ax ay aw bx bY bw cx cy cw px py ps:Int):Int:=hd3 (sdE ax ay aw bx bY bw px py ps) (sdE bx bY bw cx cy cw px py ps) (sdE cx cy cw ax ay aw px py ps)
def qC{x y z:Int}(hx:x=1\/x=0\/x=-1)(h:hd3 x y z≠0):∃e,(e=1\/e=-1)/\x=e/\y=e/\z=e:=by
 unfold hd3 at h;simp_all
def LQ{U:Fl->Prop}{g:MG}{k:MS}{Z:Ev}{enc:Nat->D}{n:Nat}(I:Nat->Ev->Prop)(h0:I 0 Z)(h:∀j,j<n->∀Z,I j Z->Tl (g (enc j) Z) λZ1=>Tl (k Z1) λf=>∃Z2,f=.nx Z2/\I (j+1) Z2)(hd:∀Z,I n Z->U (.nx Z)):Tl (CZ g k ((List.range n).map enc) Z) U:=by
 refine Xl (λp Z=>I p.length Z) h0 (λp x r e Z i=>?_) λZ i=>?_
 .have l:p.length<n:=by
   have:=Ew List.length e
   grind
  have ex:x=enc p.length:=by
   have z:=Ew (λl=>l[p.length]?) e
   grind
  simp_all
 simp_all
def Lk(n:Nat):Ci 0 n=(List.range n).map λ(k:Nat)=>D.int k:=by
 unfold Ci;simp
def Wt(e f g:Int):Prop:=(0<=e/\0<=f/\0<=g/\0<e+f+g)\/(e<=0/\f<=0/\g<=0/\e+f+g<0)
def U8{ax ay aw bx bY bw cx cy cw px py ps:Int}(ha:0<aw)(hb:0<bw)(hc:0<cw)(hp:0<ps)(h:hdE ax ay aw bx bY bw cx cy cw px py ps≠0):Wt (ow bx bY bw cx cy cw px py ps) (ow cx cy cw ax ay aw px py ps) (ow ax ay aw bx bY bw px py ps):=by
 obtain ⟨s,j,b,c,a⟩:=qC (Zwq _ _ _) h;have i:aw*ow bx bY bw cx cy cw px py ps+bw*ow cx cy cw ax ay aw px py ps+cw*ow ax ay aw bx bY bw px py ps=ow ax ay aw bx bY bw cx cy cw*ps:=by lia
 rcases j with rfl | rfl
 .have o:=aX ha hb hc hp b c a;have d:=J4 o hp;rw [Zd] at b c a;left;refine ⟨by ac_rfl,by ac_rfl,by ac_rfl,?_⟩;by_cases z:0<ow bx bY bw cx cy cw px py ps+ow cx cy cw ax ay aw px py ps+ow ax ay aw bx bY bw px py ps
  .exact z
  .exfalso;have e:ow bx bY bw cx cy cw px py ps=0:=by ac_rfl
   have g:ow cx cy cw ax ay aw px py ps=0:=by ac_rfl
   have f:ow ax ay aw bx bY bw px py ps=0:=by ac_rfl
   simp_all
 .have o:=sJ ha hb hc hp b c a;have d:=J4 (show 0 < - ow ax ay aw bx bY bw cx cy cw by ac_rfl) hp;rw [Int.neg_mul] at d;rw [lL] at b c a;right;refine ⟨by ac_rfl,by ac_rfl,by ac_rfl,?_⟩;by_cases z:ow bx bY bw cx cy cw px py ps+ow cx cy cw ax ay aw px py ps+ow ax ay aw bx bY bw px py ps<0
  .exact z
  .exfalso;have e:ow bx bY bw cx cy cw px py ps=0:=by ac_rfl
   have g:ow cx cy cw ax ay aw px py ps=0:=by ac_rfl
   have f:ow ax ay aw bx bY bw px py ps=0:=by ac_rfl
   rw [e,g,f] at i;ac_rfl
def Vc{a x:Int}(ha:1<=a)(hx:0<=x):x<=a*x:=by
 have:=Wl ha hx
 lia
def Vq{a x:Int}(ha:1<=a)(hx:x<=0):a*x<=x:=by
 have:=Wl ha (show 0<=-x by lia)
 lia
def bB{x y z e f g:Int}(hx:1<=x)(hy:1<=y)(hz:1<=z)(w:Wt e f g):(0<e+f+g/\0<dot x y z e f g)\/(e+f+g<0/\dot x y z e f g<0):=by
 unfold dot;rcases w with ⟨h1,h2,h3,h4⟩ | ⟨h1,h2,h3,h4⟩
 .have:=Vc hx h1;have:=Vc hy h2;have:=Vc hz h3;left;lia
 .have:=Vq hx h1;have:=Vq hy h2;have:=Vq hz h3;right;lia
def Wx{x y z e f g:Int}(hx:1<=x)(hy:1<=y)(hz:1<=z)(w:Wt e f g):dot x y z e f g≠0:=by
 rcases bB hx hy hz w with h | h<;>lia
def d7{U:D->Prop}{ax ay aw ah bx bY bw bh cx cy cw ch px py ps:Int}{av bv cv:List Int}(ha:1<=aw)(hb:1<=bw)(hc:1<=cw)(a:Cr ax ay aw)(b:Cr bx bY bw)(c:Cr cx cy cw)(p:Cr px py ps)(h0:hdE ax ay aw bx bY bw cx cy cw px py ps=0)(q:U .non):Tl (DP [.tup [cor ax ay aw ah av,cor bx bY bw bh bv,cor cx cy cw ch cv],.tup [.int px,.int py,.int ps]]) U:=by
 unfold DP;symm;refine ig ha hb hc a b c p ?_;unfold hdE at h0;rw [h0];symm;exact q
def YH{U:D->Prop}{ax ay aw ah bx bY bw bh cx cy cw ch px py ps:Int}{av bv cv:List Int}(ha:1<=aw)(hb:1<=bw)(hc:1<=cw)(hp:1<=ps)(a:Cr ax ay aw)(b:Cr bx bY bw)(c:Cr cx cy cw)(p:Cr px py ps)(va:Cv 64 ax ay aw ah av)(vb:Cv 64 bx bY bw bh bv)(vc:Cv 64 cx cy cw ch cv)(hl:av.length<=1000)(h0:hdE ax ay aw bx bY bw cx cy cw px py ps≠0){e f g B:Int}(e1:e=ow bx bY bw cx cy cw px py ps)(e2:f=ow cx cy cw ax ay aw px py ps)(e3:g=ow ax ay aw bx bY bw px py ps)(e4:B=dot ah bh ch e f g)
  (q:U (.tup [fra (dot aw bw cw e f g) B,.tup (vls av bv cv e f g B)])):Tl (DP [.tup [cor ax ay aw ah av,cor bx bY bw bh bv,cor cx cy cw ch cv],.tup [.int px,.int py,.int ps]]) U:=by
 have W:=U8 (by lia) (by lia) (by lia) (by lia) h0;subst e4 e1 e2 e3;unfold DP;symm;refine ig ha hb hc a b c p ?_;symm;refine uZ a b c p ?_;symm;refine Zsg va vb vc (b.ow c p) (c.ow a p) (a.ow b p) (by decide) hl (Wx va.f1 vb.f1 vc.f1 W) ?_;symm;exact q
def Dw(r:Int):Prop:=0<=r/\r<2147483648
def Ni{U:D->Prop}{cc:Int}{n:Nat}(hn:n<=900)(q:∀rs:List Int,rs.length=n->(∀r∈rs,Dw r)->U (.lst (rs.map .int))):Tl (Iw [.int cc,.int n]) U:=by
 unfold Iw;symm;refine ⟨by simp [Ci];lia,?_⟩;rw [Lk,Ei];refine w_all (λ_ y=>∃r:Int,y=.int r/\Dw r) (λx h=>?_) λb m d=>?_
 .obtain ⟨k,f,rfl⟩:=By.mp h;have f:=FP.mp f;symm;exact jT (by lia) λr e=>⟨r,rfl,e⟩
 .have l:b.length=n:=by simp_all
  have a:∀y∈b,∃r:Int,y=.int r/\Dw r:=λy j=>by
   obtain ⟨i,g,rfl⟩:=Ef.mp j;exact d i _ _ (BL (by lia)) (BL g)
  obtain ⟨rs,rfl,c⟩ : ∃rs:List Int,b=rs.map .int/\∀r∈rs,Dw r:=by
   clear l d m q
   induction b with
   | nil=>simp_all
   | cons y t ih=>
    obtain ⟨r,rfl,e⟩:=a y BX;obtain ⟨rs,rfl,c⟩:=ih λz o=>a z (Bf _ o);refine ⟨r::rs,rfl,λu p=>?_⟩
    grind
  symm;simp_all
structure Ck(x y w h:Int):Prop where
 x:Bd x
 y:Bd y
 w:1<=w/\w<=1000000
 h:1<=h/\h<=1000000
def Ck.cr{x y w h:Int}(c:Ck x y w h):Cr x y w:=⟨c.x.s,c.y.s,sm6 ⟨by have:=c.w;lia,by have:=c.w;lia⟩⟩
def cut2(a b:D)(r:List D):cutL (a::b::r) none (some 2)=[a,b]:=by
 rfl
def six{rs:List Int}(h:6<=rs.length):∃n0 n1 n2 n3 n4 n5 t,rs=n0::n1::n2::n3::n4::n5::t:=by
 rcases rs with _ | ⟨n0,_ | ⟨n1,_ | ⟨n2,_ | ⟨n3,_ | ⟨n4,_ | ⟨n5,t⟩⟩⟩⟩⟩⟩<;>first | exact ⟨_,_,_,_,_,_,_,rfl⟩ | (exfalso;simp at h)
def j9{s t e:Int}(hs:1<=s/\s<=8)(ht:1<=t/\t<=3)(he:0<=e/\e<=s*8):Bd (t*(e - s)):=by
 have a:t*(-8)<=t*(e - s):=V4 (by lia) (by lia);have b:t*(e - s)<=t*64:=V4 (by lia) (by lia);exact ⟨by lia,by lia⟩
def az{U:D->Prop}{rs:List Int}{many:Nat}(hm:many<=3)(hl:rs.length=6+many)(hr:∀r∈rs,Dw r)(q:∀(x y w h:Int) (vs:List Int),Ck x y w h->vs.length=many->(∀v∈vs,Bd v)->U (cor x y w h vs)):Tl (Ot [.lst (rs.map .int),.int many]) U:=by
 obtain ⟨a,b,m,j,l,i,t,rfl⟩:=six (rs:=rs) (by lia);have N:t.length=many:=by simp at hl;lia
 have G:=hr a (by simp);have E:=hr b (by simp);have A:=hr m (by simp);have B:=hr j (by simp);have M:=hr l (by simp);have J:=hr i (by simp);unfold Dw at G E A B M J;unfold Ot;symm;rw [show cutL ((a::b::m::j::l::i::t).map D.int) none (some 2)=[.int a,.int b] from cut2 _ _ _];symm;refine GR (by grind) λd z=>?_;have c:∃s:Int,d=.int s/\1<=s/\s<=8:=by
  grind
 obtain ⟨s,rfl,p⟩:=c;symm;have o:1<=1+a/16%3/\1+a/16%3<=3:=by lia
 generalize 1+a/16%3=tm at *
 have L:Bd (tm*(a/64%(s*8+1) - s)):=j9 p o (by
  grind)
 have H:Bd (tm*(b%(s*8+1) - s)):=j9 p o (by
  grind)
 have F:1<=s*tm/\s*tm<=1000000:=by
  grind
 generalize tm*(a/64%(s*8+1) - s)=x at *;generalize tm*(b%(s*8+1) - s)=y at *;generalize s*tm=w at *;refine GR (by grind) λd z=>?_;have c:∃h:Int,d=.int h/\1<=h/\h<=1000000:=by
  grind
 obtain ⟨h,rfl,I⟩:=c;symm;refine ⟨by simp [Ci];lia,?_⟩;rw [Ei];refine cW (λk C=>?_) λvs e g=>?_
 .symm;show Tl (dIx (.lst ((a::b::m::j::l::i::t).map .int)) _) _;refine Nk (by lia) λu K=>?_;symm;exact ⟨_,rfl,by lia,by lia⟩
 symm;refine Tl.mono (Ψ:=λf=>∃(x y w h:Int) (vs:List Int),Ck x y w h/\vs.length=many/\(∀v∈vs,Bd v)/\f=Fl.nx [.im (.lst ((a::b::m::j::l::i::t).map .int)),.im (.int many),.im (.int a),.im (.int b),.im (.int s),.im (.int tm),.im (.int x),.im (.int y),.im (.int w),.im (.int h),.im (.tup (vs.map .int))]) ?_ ?_
 .refine Cu (λ_=>?_) (λ_=>?_)
  .symm;refine ⟨by simp [Ci];lia,?_⟩;rw [Ei];refine cW (λk C=>?_) λvs e g=>?_
   .symm;show Tl (dIx (.lst ((a::b::m::j::l::i::t).map .int)) _) _;refine Nk (by lia) λu K=>?_;symm;exact ⟨_,rfl,by lia,by lia⟩
   symm;exact ⟨_,_,_,_,vs,⟨⟨by lia,by lia⟩,⟨by lia,by lia⟩,by lia,by lia⟩,e,g,rfl⟩
  .symm;exact ⟨_,_,_,_,vs,⟨L,H,F,I⟩,e,g,rfl⟩
 rintro f ⟨x,y,w,h,vs,n,e,g,rfl⟩;symm;refine Cu (λ_=>?_) (λ_=>?_)
 .symm;exact q _ _ _ _ vs ⟨⟨by lia,by lia⟩,n.y,by lia,n.h⟩ e g
 .symm;exact q _ _ _ _ vs n e g
def Zvf{rs:List Int}{k:Nat}(h:k<=rs.length):cutL (rs.map .int) none (some (k:Int))=(rs.take k).map .int:=by
 unfold cutL cutAt;rw [Al];simp only [];rw [iN (by lia),Ei,G6 h,NB,Nat.sub_zero,Ji]
def Ux{rs:List Int}{i k:Nat}(h0:i<=k)(h:k<=rs.length):cutL (rs.map .int) (some (i:Int)) (some (k:Int))=((rs.drop i).take (k - i)).map .int:=by
 unfold cutL cutAt;rw [Al];simp only [];rw [iN (by lia),iN (by lia),Ei,Ei,G6 h,G6 (Ak h0 h),Ji,List.map_drop]
def isC(k:Nat)(d:D):Prop:=∃(x y w h:Int) (vs:List Int),d=cor x y w h vs/\Ck x y w h/\vs.length=k/\∀v∈vs,Bd v
def isT(k:Nat)(d:D):Prop:=∃a b c:D,d=.tup [a,b,c]/\isC k a/\isC k b/\isC k c
def isR(n:Nat)(d:D):Prop:=∃a:List Int,d=.lst (a.map .int)/\a.length=n/\∀r∈a,Dw r
def Qn{U:D->Prop}{xs:List D}{i:Int}{P:D->Prop}(h:0<=i/\i<xs.length)(hp:∀x∈xs,P x)(q:∀x,P x->U x):Tl (dIx (.lst xs) (.int i)) U:=GR h λx a=>q x (hp x a)
def W9{xs ys:List D}{P:D->Prop}(ly:ys.length=xs.length)(hy:∀(i:Nat) x y,xs[i]?=some x->ys[i]?=some y->P y):∀y∈ys,P y:=λy a=>by
 obtain ⟨i,b,rfl⟩:=Ef.mp a;exact hy i _ _ (BL (by lia)) (BL b)
def xu{U:D->Prop}{ns:List Int}{first:Int}{most many:Nat}(hf:0<=first/\first<=100)(hmo:most<=6)(hm:many<=3)(q:∀ts:List D,ts.length<=most->(∀t∈ts,isT many t)->U (.lst ts)):Tl (Ry [.lst (ns.map .int),.int first,.int most,.int many]) U:=by
 unfold Ry;symm;refine ⟨by ext,?_⟩;refine w_all (λ_ y=>isR (3*(6+many)) y) (λx i=>?_) λJ p o=>?_
 .obtain ⟨k,R,rfl⟩:=mem_range i;symm;refine M4 (by lia) λY=>?_;symm;rw [show (3*(6+(many:Int)))=((3*(6+many):Nat):Int) by lia];exact Ni (by lia) λG K e=>⟨G,rfl,K,e⟩
 have o:=W9 p o;have p:J.length=6:=p;symm;refine ⟨by lia,?_⟩;refine w_all (λ_ y=>isC many y) (λx i=>?_) λs H d=>?_
 .obtain ⟨G,rfl,K,e⟩:=o x i;symm;rw [show (6+(many:Int))=((6+many:Nat):Int) by lia,Zvf (by lia)];exact az hm (by grind) (λr h=>e r (G5 h)) λx y w h v E N I=>⟨x,y,w,h,v,rfl,E,N,I⟩
 have d:=W9 H d;have H:s.length=6:=H.trans p;symm;refine M4 (by lia) λY=>?_;symm;rw [show ((most:Int)+1)=((most+1:Nat):Int) by lia];refine Ni (by lia) λT ld P=>?_;symm;refine Nk (by lia) λb M=>?_;have F:Dw b:=P b M;unfold Dw at F;symm;have hn:0<=b%((most:Int)+1)/\b%((most:Int)+1)<=most:=by
  have:=JF b (show (most:Int)+1≠0 by lia);have:=Jd b (show (0:Int)<(most:Int)+1 by lia)
  lia
 generalize b%((most:Int)+1)=m at hn ⊢;symm;rw [Lk];refine LQ (λj Z=>∃(ts:List D) (u a c:Cl),ts.length=j/\(∀t∈ts,isT many t)/\Z=[.im (.lst (ns.map .int)),.im (.int first),.im (.int most),.im (.int many),.im (.int (6+(many:Int))),.im (.lst J),.im (.lst s),.im (.lst (T.map .int)),.ow ts,u,a,c]) ⟨[],_,_,_,rfl,λ_ h=>(Cg h).elim,rfl⟩ ?_ ?_
 .rintro j hj Z ⟨ts,u,a,c,S,ht,rfl⟩;symm;refine Nk (by lia) λO L=>?_;have z:Dw O:=P O L;unfold Dw at z;symm;refine Qn (by lia) d λA V=>?_;symm;refine Qn (by lia) d λB X=>?_;symm;refine Qn (by lia) d λC Q=>?_;symm;refine Tl.mono (Ψ:=λf=>∃A B C:D,isC many A/\isC many B/\isC many C/\f=Fl.nx [.im (.lst (ns.map .int)),.im (.int first),.im (.int most),.im (.int many),.im (.int (6+(many:Int))),.im (.lst J),.im (.lst s),.im (.lst (T.map .int)),.ow ts,.im (.int j),.im (.int O),.im (.lst [A,B,C])]) ?_ ?_
  .refine Cu (λ_=>?_) (λ_=>?_)
   .symm;refine ⟨by ext,?_⟩;refine w_all (λ_ y=>isC many y) (λx i=>?_) λW n g=>?_
    .obtain ⟨k,R,rfl⟩:=mem_range i;symm;refine Qn (by lia) o λrow l=>?_;obtain ⟨G,rfl,K,e⟩:=l;have k3:k<3:=R;have ka:(6+many)*k<=(6+many)*2:=Nat.mul_le_mul_left _ (by lia);symm;rw [show (6+(many:Int))*(k:Int)=(((6+many)*k:Nat):Int) by rfl,show (((6+many)*k:Nat):Int)+(6+(many:Int))=(((6+many)*k+(6+many):Nat):Int) by lia,Ux (by lia) (by lia)];exact az hm (by grind) (λr h=>e r (Le (G5 h))) λx y w h v E N I=>⟨x,y,w,h,v,rfl,E,N,I⟩
    have g:=W9 n g;have n:W.length=3:=n;symm
    match W,n with
    | [A,B,C],_=>exact ⟨A,B,C,g A (by simp),g B (by simp),g C (by simp),rfl⟩
   .symm
    lia
  rintro f ⟨A,B,C,V,X,Q,rfl⟩;symm;refine ⟨by lia,_,rfl,ts++[.tup [A,B,C]],_,_,_,by simp [S],λt h=>?_,rfl⟩;rcases Gv.mp h with h | h
  .grind
  .simp only [BV,Cg,HX] at h;subst h;exact ⟨A,B,C,rfl,V,X,Q⟩
 .rintro Z ⟨ts,u,a,c,S,ht,rfl⟩;symm
  grind
noncomputable def frD(q:Rat):D:=.tup [.int q.num,.int (q.den:Int)]
def Im{t b:Int}(hb:b≠0):fra t b=frD (Rat.divInt t b):=by
 have F:=Mt.aZ (t:=t) hb;have c:((Rat.divInt t b).den:Int)≠0:=by have:=(Rat.divInt t b).den_nz;lia
 have e:=(Rat.divInt_eq_divInt_iff c hb).mp (J3 (Rat.divInt t b));have r:=(Rat.divInt t b).reduced;have p:=(Rat.divInt t b).den_pos;generalize Rat.divInt t b=q at *;have a:Int.gcd q.num (q.den:Int)=1:=by
  ext
 have s:=F.same
 obtain ⟨f,d⟩:=Mt.uH F.pos F.low (show 1<=(q.den:Int) by lia) a (by
  generalize Mt.frT t b=T at *;generalize Mt.frB t b=B at *;refine Int.eq_of_mul_eq_mul_left hb ?_
  grind)
 unfold fra frD
 lia
structure Bq(k:Nat)(q:Rat):Prop where
 n:Sm k q.num
 d:Sm k (q.den:Int)
def Bq.mono(h:Bq k q)(hk:k<=m):Bq m q:=⟨h.n.mono hk,h.d.mono hk⟩
def Mw{t b:Int}{k:Nat}(hb:0<b)(st:Sm k t)(sb:Sm k b):Bq k (Rat.divInt t b):=by
 have e:=Im (t:=t) (b:=b) (by lia);unfold fra frD Mt.frT Mt.frB at e;rw [iN (by lia),iN (by lia)] at e;have a:0<(Int.gcd t b:Int):=by have:=Mt.RV (t:=t) (b:=b) (by lia);lia
 injection e with e
 injection e with e1 e2
 injection e1 with e1
 injection e2 with e2 _
 injection e2 with e2
 refine ⟨st.le ?_,sb.le ?_⟩
 .rw [<-e1];exact Mt.VH a
 .rw [<-e2];exact Mt.VH a
def Ho{U:D->Prop}{t b:Int}{k:Nat}(hb:0<b)(st:Sm k t)(sb:Sm k b)(hk:k<=8000)(h:Bq k (Rat.divInt t b)->U (frD (Rat.divInt t b))):Tl (Er [.int t,.int b]) U:=by
 refine Ub (by lia) sb (by lia) ?_;rw [Im (by lia)];exact h (Mw hb st sb)
def den1(q:Rat):0<(q.den:Int):=by have:=q.den_pos;lia
def Tz(p q:Rat):Rat.divInt (p.num*q.den+q.num*p.den) (p.den*q.den)=p+q:=by
 have a:=den1 p;have b:=den1 q;rw [<-Rat.divInt_add_divInt p.num q.num (by lia) (by lia),J3,J3]
def pJ(p q:Rat):Rat.divInt (p.num*q.num) (p.den*q.den)=p*q:=by
 rw [<-Rat.divInt_mul_divInt,J3,J3]
def tW{U:D->Prop}{p q:Rat}{a b:Nat}(hp:Bq a p)(hq:Bq b q)(hab:a+b<=4000)(h:Bq (a+b+1) (p+q)->U (frD (p+q))):Tl (Kp [frD p,frD q]) U:=by
 have k:Bp p.num q.den=true:=Cz hp.n hq.d (by lia);have g:Bp q.num p.den=true:=Cz hq.n hp.d (by lia);have i:Bp p.den q.den=true:=Cz hp.d hq.d (by lia);have f:Sm (a+b+1) (p.num*q.den+q.num*p.den):=((hp.n.mul hq.d).add (show Sm (a+b) _ from Ja b a▸hq.n.mul hp.d)).mono (by lia);have e:Sm (a+b+1) ((p.den:Int)*q.den):=(hp.d.mul hq.d).mono (by lia);have c:0<(p.den:Int)*q.den:=J4 (den1 p) (den1 q);unfold Kp frD;symm;refine Ho c f e (by lia) ?_;rw [Tz];intro j;symm
 lia
def eZ{U:D->Prop}{p q:Rat}{a b:Nat}(hp:Bq a p)(hq:Bq b q)(hab:a+b<=4000)(h:Bq (a+b) (p*q)->U (frD (p*q))):Tl (QQ [frD p,frD q]) U:=by
 have f:Bp p.num q.num=true:=Cz hp.n hq.n (by lia);have e:Bp p.den q.den=true:=Cz hp.d hq.d (by lia);have c:0<(p.den:Int)*q.den:=J4 (den1 p) (den1 q);unfold QQ frD;symm;refine Ho c (hp.n.mul hq.n) (hp.d.mul hq.d) (by lia) ?_;rw [pJ];intro g;symm
 lia
def Zq{U:D->Prop}{xs:List D}{i:Nat}{d:D}(h:xs[i]?=some d)(q:U d):Tl (dIx (.lst xs) (.int i)) U:=by
 show Tl (ofO (at_ xs (i:Int))) U;rw [Qq,h];exact Ao q
def Jo{α:Type}{U:Fl->Prop}{g:MG}{k:MS}{Z:Ev}{enc:α->D}{l:List α}(I:List α->Ev->Prop)(h0:I [] Z)(h:∀p a r,p++a::r=l->∀Z,I p Z->Tl (g (enc a) Z) λZ1=>Tl (k Z1) λf=>∃Z2,f=.nx Z2/\I (p++[a]) Z2)(hd:∀Z,I l Z->U (.nx Z)):Tl (CZ g k (l.map enc) Z) U:=by
 have b:∀(r p:List α),p++r=l->∀Z,I p Z->Tl (CZ g k (r.map enc) Z) U:=by
  intro r
  induction r with
  | nil=>
   intro p e Z i;rw [CN] at e;exact w_f0 (hd Z (e▸i))
  | cons a r ih=>
   intro p e Z i;rw [Bk];refine w_f1 ((h p a r e Z i).mono λZ1 t=>t.mono λf zq=>?_);obtain ⟨Z2,d,c⟩:=zq;subst d;exact ih (p++[a]) (by simp_all) Z2 c
 simp_all
def lH{α:Type}{U:Fl->Prop}{g:MG}{k:MS}{Z:Ev}{enc:α->D}{l:List α}(I:List α->Ev->Prop)(h0:I [] Z)(h:∀p a r,p++a::r=l->∀Z,I p Z->Tl (g (enc a) Z) λZ1=>Tl (k Z1) λf=>∃Z2,(f=.nx Z2\/f=.ct Z2)/\I (p++[a]) Z2)(hd:∀Z,I l Z->U (.nx Z)):Tl (CZ g k (l.map enc) Z) U:=by
 have c:∀(r p:List α),p++r=l->∀Z,I p Z->Tl (CZ g k (r.map enc) Z) U:=by
  intro r
  induction r with
  | nil=>
   intro p e Z i;rw [CN] at e;exact w_f0 (hd Z (e▸i))
  | cons a r ih=>
   intro p e Z i;rw [Bk];refine w_f1 ((h p a r e Z i).mono λZ1 t=>t.mono λf zq=>?_);obtain ⟨Z2,d,b⟩:=zq;rcases d with rfl | rfl
   .exact ih (p++[a]) (by simp_all) Z2 b
   .exact ih (p++[a]) (by simp_all) Z2 b
 simp_all
structure Sg where
 d:D
 gl:Bool
 q:Rat
 v:D
 own:Rat
 part:Rat
 col:Rat
 k:Int
noncomputable def insR(acc:List Sg)(s:Sg):List Sg:=acc.takeWhile (λr=>!decide (s.q<r.q))++s::acc.dropWhile (λr=>!decide (s.q<r.q))
noncomputable def insL(acc:List Sg)(s:Sg):List Sg:=acc.take (acc.filter λl=>decide (s.q<l.q)).length++s::acc.drop (acc.filter λl=>decide (s.q<l.q)).length
def Asc(l:List Sg):Prop:=l.Pairwise λa b=>a.q<=b.q
def VG(s:Sg):insR [] s=[s]:=rfl
def Px{a:Sg}{r:List Sg}{s:Sg}(h:s.q<a.q):insR (a::r) s=s::a::r:=by
 unfold insR;simp_all
def PX{a:Sg}{r:List Sg}{s:Sg}(h:¬s.q<a.q):insR (a::r) s=a::insR r s:=by
 unfold insR;simp_all
def XN{x s:Sg}:∀{l:List Sg},x∈insR l s↔x=s\/x∈l
 | []=>by simp [VG]
 | a::r=>by
  by_cases h:s.q<a.q
  .rw [Px h,BV]
  .rw [PX h,BV,XN (l:=r),BV]
   lia
def Zi{s:Sg}:∀{l:List Sg},Asc l->Asc (insR l s)
 | [],_=>by rw [VG];exact List.pairwise_singleton _ _
 | a::r,h=>by
  have b:=Dq.mp h;by_cases c:s.q<a.q
  .rw [Px c];refine Dq.mpr ⟨λx hx=>?_,h⟩
   grind
  .rw [PX c];refine Dq.mpr ⟨λx hx=>?_,Zi b.2⟩;rcases XN.mp hx with rfl | hx
   .grind
   simp_all
theorem Yk(P:Sg->Bool){s:Sg}:∀{l:List Sg},Asc l->(insR l s).filter P=if P s then insR (l.filter P) s else l.filter P
 | [],_=>by rw [VG,Je];rfl
 | a::r,h=>by
  have f:=Dq.mp h;by_cases c:s.q<a.q
  .rw [Px c,Je];by_cases hs:P s=true
   .rw [iP hs,iP hs];have d:∀m:List Sg,(∀x∈m,s.q<x.q)->insR m s=s::m:=by
     intro m e;cases m with
     | nil=>rfl
     | cons b t=>exact Px (e b BX)
    grind
   lia
  .rw [PX c,Je,Yk P f.2,Je];by_cases ha:P a=true
   .rw [iP ha,iP ha];by_cases hs:P s=true
    .rw [iP hs,iP hs,PX c]
    lia
   lia
def Fz(l:List Sg):List Sg:=l.foldl insR []
def N6(l:List Sg)(s:Sg):Fz (l++[s])=insR (Fz l) s:=by unfold Fz;simp_all
def snoc_ind{α:Type}{M:List α->Prop}(h0:M [])(h1:∀l a,M l->M (l++[a])):∀l,M l:=by
 intro l;have b:∀r:List α,M r.reverse:=by
  intro r
  induction r with
  | nil=>exact h0
  | cons a r ih=>simp_all
 have:=b l.reverse;simp_all
def ZmY(l:List Sg):Asc (Fz l):=by
 refine snoc_ind (M:=λl=>Asc (Fz l)) List.Pairwise.nil (λl a ih=>?_) l;rw [N6];exact Zi ih
def jL(P:Sg->Bool)(l:List Sg):(Fz l).filter P=Fz (l.filter P):=by
 refine snoc_ind (M:=λl=>(Fz l).filter P=Fz (l.filter P)) rfl (λl a ih=>?_) l;rw [N6,Yk P (ZmY l),ih,OD];by_cases ha:P a=true
 .rw [iP ha,Je,iP ha,List.filter_nil,N6]
 simp_all
def UT(l:List Sg):List Sg:=l.foldl insL []
def uw(l:List Sg)(s:Sg):UT (l++[s])=insL (UT l) s:=by unfold UT;simp_all
noncomputable def Fd(n:Option Sg)(s:Sg):Option Sg:=if s.gl=true then n else match n with
  | none=>some s
  | some m=>if s.q<m.q then some s else some m
def near(l:List Sg):Option Sg:=l.foldl Fd none
def KJ(l:List Sg)(s:Sg):near (l++[s])=Fd (near l) s:=by unfold near;simp_all
def lG{l:List Sg}{s:Sg}:(insR l s).head?=some (match l.head? with
  | none=>s
  | some m=>if s.q<m.q then s else m):=by
 cases l with
 | nil=>rfl
 | cons a r=>
  by_cases h:s.q<a.q
  .rw [Px h];simp_all
  .rw [PX h];simp_all
def tZ(l:List Sg):near l=((Fz l).filter λs=>!s.gl).head?:=by
 rw [jL];refine snoc_ind (M:=λl=>near l=(Fz (l.filter λs=>!s.gl)).head?) rfl (λl s ih=>?_) l;rw [KJ,OD];unfold Fd;cases hs:s.gl with
 | true=>
  simp_all
 | false=>
  rw [iN GC,Je,iP (by lia),List.filter_nil,N6,lG,<-ih]
  lia
structure GS(s:Sg):Prop where
 ob:∃(c:Str) (ns:List Str) (vs:List D),s.d=.ins c ns vs/\ns.contains "is_glass"=false/\ns.contains "colour_at"=false/\(∃f,H8.lookup c=some f/\f [s.d]=.ok (.bl s.gl))/\(s.gl=false->∃f,Nx.lookup c=some f/\f [s.d,s.v]=.ok (frD s.own))
 pt:s.gl=true->dFld objs "part" s.d=.ok (frD s.part)/\dFld objs "colour" s.d=.ok (frD s.col)
 bq:Bq 300 s.q
 bo:Bq 300 s.own
 bp:Bq 32 s.part
 bc:Bq 32 s.col
def seeD:Option Sg->D
 | none=>.non
 | some s=>.tup [frD s.q,s.v]
structure Seen(p d:D)(o:Option Sg):Prop where
 tri:∃T,dFld objs "triangle" d=.ok T/\DP [T,p]=.ok (seeD o)
 ok:∀s,o=some s->s.d=d/\GS s
abbrev encS(s:Sg):D:=.tup [s.d,frD s.q,s.v]
abbrev DO:=D×Option Sg
noncomputable def sgts(L:List DO):List Sg:=L.filterMap (·.2)
def Zm1(L:List DO)(y:DO):sgts (L++[y])=sgts L++y.2.toList:=by
 unfold sgts
 grind
def tu(L:List DO):(sgts L).length<=L.length:=List.length_filterMap_le _ _
def ZrU{p:D}{L:List DO}(h:∀y∈L,Seen p y.1 y.2):∀s∈sgts L,GS s:=λs a=>by
 obtain ⟨y,b,e⟩:=Qh.mp a;exact ((h y b).ok s e).2
def Xd{U:D->Prop}{tab:List (Str×(List D->Res D))}{m:Str}{o:ME}{a:MA}{Z:Ev}(h:Tl (o Z) λd=>∃(c:Str) (ns:List Str) (vs:List D) (f:List D->Res D),d=.ins c ns vs/\ns.contains m=false/\tab.lookup c=some f/\Tl (a Z) λds=>Tl (f (.ins c ns vs::ds)) U):Tl (meth tab m o a Z) U:=by
 obtain ⟨d,b,c,ns,vs,f,rfl,i,e,ds,g,q⟩:=h;unfold meth;rw [b]
 show Tl (if ns.contains m=true then .bad else match tab.lookup c with
  | some f=>(a Z).bind λds=>f (.ins c ns vs::ds)
  | none=>.bad) U
 rw [i,iN GC,e];show Tl ((a Z).bind λds=>f (.ins c ns vs::ds)) U;rw [g];exact q
def jW{U:D->Prop}{s:Sg}{o:ME}{Z:Ev}(g:GS s)(ho:o Z=.ok s.d)(q:U (.bl s.gl)):Tl (meth H8 "is_glass" o Ab Z) U:=by
 obtain ⟨c,j,a,e,i,k,⟨f,h,b⟩,_⟩:=g.ob;refine Xd ⟨_,ho,c,j,a,f,e,i,h,?_⟩;refine Ah (x:=[]) rfl ?_;rw [<-e];exact Ah b q
def pR{U:D->Prop}{s:Sg}{o:ME}{a:MA}{Z:Ev}(g:GS s)(h:s.gl=false)(ho:o Z=.ok s.d)(ha:a Z=.ok [s.v])(q:U (frD s.own)):Tl (meth Nx "colour_at" o a Z) U:=by
 obtain ⟨c,k,b,e,m,l,_,z⟩:=g.ob;obtain ⟨f,j,i⟩:=z h;refine Xd ⟨_,ho,c,k,b,f,e,l,j,?_⟩;refine Ah ha ?_;rw [<-e];exact Ah i q
def Zld{U:D->Prop}{p:D}{L:List DO}(hL:∀y∈L,Seen p y.1 y.2)(hl:L.length<=1000)(q:U (.lst ((sgts L).map encS))):Tl (Qf [.lst (L.map (·.1)),p]) U:=by
 unfold Qf;symm;refine Jo (enc:=λy:DO=>y.1) (λa Z=>∃b c:Cl,Z=[.im (.lst (L.map (·.1))),.im p,.ow ((sgts a).map encS),b,c]) ⟨_,_,rfl⟩ ?_ ?_
 .rintro a y r e Z ⟨b,c,rfl⟩;have f:y∈L:=by grind
  have d:a.length<L.length:=by grind
  obtain ⟨⟨T,t1,t2⟩,ok⟩:=hL y f;symm;refine Ah t1 ?_;symm;refine Ah t2 ?_;rw [Zm1];cases ho:y.2 with
  | none=>
   show Tl _ _;symm;simp_all
  | some s=>
   obtain ⟨h,g⟩:=ok s ho;unfold seeD;symm;have:=tu a;refine ⟨by grind,?_⟩;simp_all
 .rintro Z ⟨b,c,rfl⟩;symm;exact q
def Jr{U:D->Prop}{a b:Rat}(ha:Bq 300 a)(hb:Bq 300 b)(h:U (.bl (decide (a<b)))):Tl (GF [frD a,frD b]) U:=by
 have f:Bp a.num b.den=true:=Cz ha.n hb.d (by decide);have c:Bp b.num a.den=true:=Cz hb.n ha.d (by decide);unfold GF frD;symm;have e:decide (a.num*(b.den:Int)<b.num*(a.den:Int))=decide (a<b):=decide_eq_decide.mpr (Rat.lt_iff a b).symm;rw [e];exact h
def optS:Option Sg->D
 | none=>.non
 | some s=>encS s
def ZlO{U:D->Prop}{l:List Sg}(hl:∀s∈l,GS s)(q:U (optS (near l))):Tl (Qi [.lst (l.map encS)]) U:=by
 unfold Qi;symm;refine lH (enc:=encS) (λa Z=>∃f:Cl,(∀s,near a=some s->s∈a)/\Z=[.im (.lst (l.map encS)),.im (optS (near a)),f]) ⟨.no,(λs h=>by cases h),rfl⟩ ?_ ?_
 .rintro a s r e Z ⟨f,o,rfl⟩;have k:s∈l:=by grind
  have g:=hl s k;have n:=g.bq;have b:∀t,Fd (near a) s=some t->t∈a++[s]:=by
   intro t i;unfold Fd at i
   grind
  rw [KJ];symm;refine jW g rfl ?_;symm;cases hg:s.gl with
  | true=>
   symm;have d:Fd (near a) s=near a:=by unfold Fd;lia
   simp_all
  | false=>
   symm;cases hn:near a with
   | none=>
    have d:Fd none s=some s:=by unfold Fd;lia
    rw [hn,d] at b;rw [d];show Tl _ _;unfold optS;symm
    lia
   | some m=>
    have j:=hl m (by grind);rw [hn] at b;have d:Fd (some m) s=if s.q<m.q then some s else some m:=by unfold Fd;lia
    unfold optS;symm;refine Jr n j.bq ?_;symm;refine Cu (λc=>?_) (λc=>?_)
    .rw [d,iP c] at b ⊢;symm
     lia
    .rw [d,iN c] at b ⊢;symm
     lia
 .rintro Z ⟨f,o,rfl⟩;symm;exact q
def bI{U:Fl->Prop}{i:Nat}{k e:ME}{Z:Ev}{xs:List D}(hx:Z[i]?=some (.ow xs))(h:Tl (k Z) λu=>∃j:Nat,u=.int j/\j<=xs.length/\xs.length<1000000/\Tl (e Z) λd=>U (.nx (Z.set i (.ow (xs.take j++d::xs.drop j))))):Tl (insO i k e Z) U:=by
 obtain ⟨u,a,j,rfl,f,b,d,c,q⟩:=h;unfold insO;rw [hx];show Tl ((k Z).bind _) U;rw [a];show Tl ((e Z).bind λd=>if (0<=(j:Int)/\(j:Int)<=xs.length)/\xs.length<LIM then .ok (.nx (Z.set i (.ow (xs.take (j:Int).toNat++d::xs.drop (j:Int).toNat)))) else .bad) U
 rw [c];show Tl (if (0<=(j:Int)/\(j:Int)<=xs.length)/\xs.length<LIM then .ok (.nx (Z.set i (.ow (xs.take (j:Int).toNat++d::xs.drop (j:Int).toNat)))) else .bad) U
 rw [iP ⟨by lia,b⟩,Ei];exact Ao q
def au{α:Type}{U:List D->Prop}{g:MG}{t:MB}{e:ME}{Z:Ev}{enc:α->D}(P:α->Bool):∀{l:List α},(∀a∈l,Tl (g (enc a) Z) λZ1=>Tl (t Z1) λb=>b=P a/\Tl (e Z1) λy=>y=enc a)->U ((l.filter P).map enc)->Tl (Bg g t e Z (l.map enc)) U:=by
 intro l h q;have d:∀l:List α,(∀a∈l,Tl (g (enc a) Z) λZ1=>Tl (t Z1) λb=>b=P a/\Tl (e Z1) λy=>y=enc a)->Bg g t e Z (l.map enc)=.ok ((l.filter P).map enc):=by
  intro l
  induction l with
  | nil=>exact λ_=>rfl
  | cons a r ih=>
   intro h;obtain ⟨Z1,f,b,m,j,y,i,rfl⟩:=h a BX;have z:=ih λc k=>h c (Bf _ k);rw [Bk,VM,f,H7,m,H7,Je];by_cases c:P a=true
   .rw [j,iP c,iP c,i,H7,z];rfl
   lia
 exact Ah (d l h) q
def Ed(n:Option Sg)(s:Sg):Bool:=s.gl&&(match n with
 | none=>true
 | some m=>decide (s.q<m.q))
def lay(n:Option Sg)(l:List Sg):List Sg:=UT (l.filter (Ed n))
def Iv(n:Option Sg)(l:List Sg)(s:Sg):lay n (l++[s])=if Ed n s=true then insL (lay n l) s else lay n l:=by
 unfold lay;rw [OD,Je,List.filter_nil];by_cases h:Ed n s=true
 .rw [iP h,iP h,uw]
 simp_all
def oF{x s:Sg}{l:List Sg}(h:x∈insL l s):x=s\/x∈l:=by
 unfold insL at h;rcases Gv.mp h with h | h
 .exact .inr (G5 h)
 .rcases BV.mp h with h | h
  .exact .inl h
  .exact .inr (Le h)
def iG{n:Option Sg}{x:Sg}{l:List Sg}:x∈lay n l->x∈l/\Ed n x=true:=by
 refine snoc_ind (M:=λl=>x∈lay n l->x∈l/\Ed n x=true) (λh=>by cases h) (λl s ih h=>?_) l;rw [Iv] at h;by_cases c:Ed n s=true
 .rw [iP c] at h;rcases oF h with rfl | h
  .simp_all
  simp_all
 simp_all
def lu(l:List Sg)(s:Sg):(insL l s).length=l.length+1:=by
 unfold insL
 grind
def Xv(n:Option Sg)(l:List Sg):(lay n l).length<=l.length:=by
 refine snoc_ind (M:=λl=>(lay n l).length<=l.length) (Ae _) (λl s ih=>?_) l;rw [Iv,Di,MK];by_cases c:Ed n s=true
 .rw [iP c,lu];lia
 .rw [iN c];lia
def tR{U:D->Prop}{n:Option Sg}{l:List Sg}(hn:∀m,n=some m->GS m)(hl:∀s∈l,GS s)(hs:l.length<=1000)(q:U (.lst ((lay n l).map encS))):Tl (QM [optS n,.lst (l.map encS)]) U:=by
 unfold QM;symm;refine Jo (enc:=encS) (λa Z=>∃g b:Cl,Z=[.im (optS n),.im (.lst (l.map encS)),.ow ((lay n a).map encS),g,b]) ⟨_,_,rfl⟩ ?_ ?_
 .rintro a s r e Z ⟨g,b,rfl⟩;have y:s∈l:=by grind
  have u:a.length<l.length:=by grind
  have k:=hl s y;have p:∀x∈lay n a,GS x:=λx w=>hl x (by rw [<-e];exact QL _ (iG w).1);have z:=Xv n a;have j:Ed n s=true->∀b:Cl,Tl ((sq (st 4 (pk 2 (on bLen (Aa (comp (iv (v 2)) 1 [3] (gN 0) (trb (on GF (Aa (o2 dIx (v 1) (cI 1)) (Aa (o2 dIx (v 0) (cI 1)) Ab)))) (v 0)) Ab)))) (insO 2 (v 4) (v 3))) [.im (optS n),.im (.lst (l.map encS)),.ow ((lay n a).map encS),.im (encS s),b]) λf=>∃i,f=.nx i/\∃g b:Cl,i=[.im (optS n),.im (.lst (l.map encS)),.ow ((lay n (a++[s])).map encS),g,b]:=by
   intro h b;rw [Iv,iP h];symm;refine ⟨by grind,?_⟩;refine au (λt:Sg=>decide (s.q<t.q)) (λt o=>?_) ?_
   .symm;refine Jr k.bq (p t o).bq ?_;symm;exact ⟨rfl,by symm⟩
   symm;refine bI rfl ?_;symm;have:=List.length_filter_le (λt:Sg=>decide (s.q<t.q)) (lay n a);refine ⟨((lay n a).filter λt=>decide (s.q<t.q)).length,by simp_all,by simp_all,by grind,?_⟩;symm;rw [<-Ji,<-List.map_drop,<-Bk,<-Ft];exact ⟨_,rfl,_,_,rfl⟩
  have d:Ed n s=false->∃i,Fl.nx [.im (optS n),.im (.lst (l.map encS)),.ow ((lay n a).map encS),.im (encS s),b]=.nx i/\∃g b:Cl,i=[.im (optS n),.im (.lst (l.map encS)),.ow ((lay n (a++[s])).map encS),g,b]:=λh=>by
   rw [Iv,h,iN GC]
   lia
  symm;refine jW k rfl ?_;symm;cases hg:s.gl with
  | false=>
   symm;exact d (by unfold Ed;lia)
  | true=>
   cases n with
   | none=>
    unfold optS;symm;have h:Ed none s=true:=by unfold Ed;lia
    rw [Iv,iP h];refine ⟨by grind,?_⟩;refine au (λt:Sg=>decide (s.q<t.q)) (λt o=>?_) ?_
    .symm;refine Jr k.bq (p t o).bq ?_;symm;exact ⟨rfl,by symm⟩
    symm;refine bI rfl ?_;symm;have:=List.length_filter_le (λt:Sg=>decide (s.q<t.q)) (lay none a);refine ⟨((lay none a).filter λt=>decide (s.q<t.q)).length,by simp_all,by simp_all,by grind,?_⟩;symm;rw [<-Ji,<-List.map_drop,<-Bk,<-Ft];exact ⟨_,rfl,_,_,rfl⟩
   | some m=>
    unfold optS;symm;refine Jr k.bq (hn m rfl).bq ?_;symm;refine Cu (λc=>?_) (λc=>?_)
    .exact j (by unfold Ed;lia) _
    .symm;exact d (by unfold Ed;lia)
 .rintro Z ⟨g,b,rfl⟩;symm;exact q
def sr(p q:Rat):Rat.divInt (p.num*q.den - q.num*p.den) (p.den*q.den)=p - q:=by
 have a:=den1 p;have b:=den1 q;rw [Rat.sub_eq_add_neg,<-Tz p (-q),Rat.neg_num,Rat.neg_den]
 grind
def uN{U:D->Prop}{p q:Rat}{a b:Nat}(hp:Bq a p)(hq:Bq b q)(hab:a+b<=4000)(h:Bq (a+b+1) (p - q)->U (frD (p - q))):Tl (Pn [frD p,frD q]) U:=by
 have l:Bp p.num q.den=true:=Cz hp.n hq.d (by lia);have j:Bp q.num p.den=true:=Cz hq.n hp.d (by lia);have k:Bp p.den q.den=true:=Cz hp.d hq.d (by lia);have f:Sm (a+b) (q.num*p.den):=Ja b a▸hq.n.mul hp.d;have i:Sm (a+b+1) (p.num*q.den - q.num*p.den):=by
  have z:=((hp.n.mul hq.d).add f.neg).mono (show max (a+b) (a+b)+1<=a+b+1 by lia);rw [<-Int.sub_eq_add_neg] at z;exact z
 have e:Sm (a+b+1) ((p.den:Int)*q.den):=(hp.d.mul hq.d).mono (by lia);have c:0<(p.den:Int)*q.den:=J4 (den1 p) (den1 q);unfold Pn frD;symm;refine Ho c i e (by lia) ?_;rw [sr];intro g;symm;exact h g
def mixQ(s:Sg)(c:Rat):Rat:=s.part*s.col+(1 - s.part)*c
def p8:Bq 1 (1:Rat):=⟨by show (1:Int).natAbs<2^1;decide,by show (1:Int).natAbs<2^1;decide⟩
def Zxa{U:D->Prop}{s:Sg}{c:Rat}{B:Nat}(g:GS s)(hg:s.gl=true)(hc:Bq B c)(hB:B<=3000)(q:Bq (B+170) (mixQ s c)->U (frD (mixQ s c))):Tl (O6 [s.d,frD c]) U:=by
 obtain ⟨a,i⟩:=g.pt hg;unfold O6;symm;refine Ah a ?_;symm;show Tl (Pn [frD 1,frD s.part]) _;refine uN p8 g.bp (by decide) λe=>?_;symm;refine Ah a ?_;symm;refine Ah i ?_;symm;refine eZ g.bp g.bc (by decide) λb=>?_;symm;refine eZ e hc (by lia) λh=>?_;symm;refine tW b h (by lia) λf=>?_;symm;exact q (f.mono (by lia))
def Io(g:Rat):Option Sg->Rat
 | none=>g
 | some m=>m.own
def layQ(l:List Sg)(c:Rat):Rat:=l.foldl (λc s=>mixQ s c) c
def colQ(g:Rat)(l:List Sg):Rat:=layQ (lay (near l) l) (Io g (near l))
def Wu{l:List Sg}{m:Sg}(h:near l=some m):m∈l/\m.gl=false:=by
 rw [tZ] at h;have z:=List.mem_of_mem_head? (by grind:m∈((Fz l).filter λs=>!s.gl).head?);rw [jL] at z;have a:∀k:List Sg,m∈Fz k->m∈k:=by
  intro k;refine snoc_ind (M:=λk=>m∈Fz k->m∈k) (λh=>h) (λk s ih h=>?_) k;rw [N6] at h;rcases XN.mp h with rfl | h
  .simp
  simp_all
 grind
def nH{n:Option Sg}{s:Sg}(h:Ed n s=true):s.gl=true:=by
 unfold Ed at h
 lia
def rowD(w:Nat)(R:Nat->Rat):D:=.lst ((List.range w).map λj=>frD (R j))
def patD(h w:Nat)(P:Nat->Nat->Rat):D:=.lst ((List.range h).map λi=>rowD w (P i))
def Ct(n:Nat):Prop:=n=1\/n=2\/n=4\/n=8\/n=16
def Ct.le{n:Nat}(h:Ct n):1<=n/\n<=16:=by unfold Ct at h;lia
def YB{U:D->Prop}{n:Nat}(hn:Ct n)(h:U (.bl false)):Tl (dNin (.int n) (.tup [.int 1,.int 2,.int 4,.int 8,.int 16])) U:=by
 refine Ah ?_ h;rcases hn with rfl | rfl | rfl | rfl | rfl<;>rfl
def Qt{U:D->Prop}{n:Int}(h:U (.bl true)):Tl (HH [.int n]) U:=by
 unfold HH;symm;exact h
def Ve{U:D->Prop}{q:Rat}(h:U (.bl true)):Tl (Ku [frD q]) U:=by
 have d:=den1 q;unfold Ku frD;symm;refine Qt ?_;symm;refine Qt ?_;symm;refine sG (ns:=[q.num,(q.den:Int)]) ?_;rw [Mt.Zx,show Int.gcd q.num (q.den:Int)=1 by show Nat.gcd q.num.natAbs (q.den:Int).natAbs=1;rw [Qv];exact q.reduced];symm;exact h
def pN{U:D->Prop}{h w:Nat}{P:Nat->Nat->Rat}(hh:Ct h)(hw:Ct w)(q:U .non):Tl (Od [patD h w P]) U:=by
 have g:=hh.le;have c:=hw.le;have b:patD h w P=.lst (rowD w (P 0)::((List.range (h - 1)).map λi=>rowD w (P (i+1)))):=by
  unfold patD;obtain ⟨k,rfl⟩ : ∃k,h=k+1:=⟨h - 1,by lia⟩;rw [Ob,Bk,DX];rfl
 unfold Od;unfold patD;symm;rw [Al,Ff];refine YB hh ?_;symm;refine LQ (λj Z=>∃a:Cl,Z=[.im (patD h w P),a]) ⟨_,rfl⟩ ?_ ?_
 .rintro j e Z ⟨a,rfl⟩;unfold rowD;symm;rw [Al,Ff];refine YB hw ?_;symm;rw [b];symm;unfold rowD;symm;rw [Al,Ff,Al,Ff];symm;refine ⟨by grind,?_⟩;refine Fe (λ_:Nat=>D.bl true) (λk d=>?_) ?_
  .symm;exact Ve rfl
  symm;refine Xo (λy f=>?_) ?_
  .simp_all
  symm
  lia
 .rintro Z ⟨a,rfl⟩;symm;exact q
def ZrA{U:D->Prop}{h w:Nat}{P:Nat->Nat->Rat}{i:Nat}(hi:i<h)(q:U (rowD w (P i))):Tl (dIx (patD h w P) (.int i)) U:=by
 unfold patD;rw [S8,Qq,Cj,List.getElem?_range hi];exact Ao q
def pI{U:D->Prop}{w:Nat}{R:Nat->Rat}{i:Nat}(hi:i<w)(q:U (frD (R i))):Tl (dIx (rowD w R) (.int i)) U:=by
 unfold rowD;rw [S8,Qq,Cj,List.getElem?_range hi];exact Ao q
def vD(k:Nat)(q:Rat):plain (k+1) (frD q)=true:=by
 rfl
def Vw(k:Nat)(f:Nat->D)(hf:∀i,plain k (f i)=true):∀l:List Nat,Bb k (l.map f)=true
 | []=>rfl
 | a::l=>by
  show (plain k (f a)&&Bb k (l.map f))=true;rw [hf,Vw k f hf l];rfl
def ZlE(k w:Nat)(R:Nat->Rat):plain (k+2) (rowD w R)=true:=by
 show Bb (k+1) _=true;exact Vw _ _ (λj=>vD k (R j)) _
def wW(h w:Nat)(P:Nat->Nat->Rat):plain 50 (patD h w P)=true:=by
 show Bb 49 _=true;exact Vw _ _ (λi=>ZlE 47 w (P i)) _
def zj{U:D->Prop}{vs:List Int}(hl:vs.length<=3)(h:U (.bl true)):Tl (RZ [.tup (vs.map .int)]) U:=by
 unfold RZ;symm;rw [Al];symm;refine ⟨by lia,?_⟩;refine Fe (λ_:Int=>D.bl true) (λk a=>?_) ?_
 .symm;exact Qt rfl
 symm;refine Xo (λy b=>?_) ?_
 .simp_all
 symm;exact h
def Vn{U:D->Prop}{x y w h:Int}{vs:List Int}(hh:1<=h)(hl:vs.length<=3)(q:U (.bl true)):Tl (Ue [cor x y w h vs]) U:=by
 unfold Ue cor;symm;rw [show cutL [D.int x,D.int y,D.int w,D.int h,D.tup (List.map D.int vs)] none (some 4)=[x,y,w,h].map D.int from rfl];refine ⟨by simp_all,?_⟩;refine Fe (λ_:Int=>D.bl true) (λk a=>?_) ?_
 .symm;exact Qt rfl
 symm;refine Xo (λy b=>?_) ?_
 .simp_all
 symm;refine zj hl ?_;symm;exact q
structure Tr(k:Nat)(T:D):Prop where
 ex:∃(ax ay aw ah bx bY bw bh cx cy cw ch:Int) (av bv cv:List Int),T=.tup [cor ax ay aw ah av,cor bx bY bw bh bv,cor cx cy cw ch cv]/\Ck ax ay aw ah/\Ck bx bY bw bh/\Ck cx cy cw ch /\
  av.length=k/\bv.length=k/\cv.length=k/\(∀v∈av,Bd v)/\(∀v∈bv,Bd v)/\(∀v∈cv,Bd v)
def Zri{k:Nat}{T:D}(hk:k<=3)(h:Tr k T):Su [T]=.ok .non:=by
 obtain ⟨f,l,o,n,e,u,w,s,t,j,m,g,r,v,p,rfl,c,a,b,i,q,d,_⟩:=h;refine Tl.eq ?_;unfold Su;symm;refine w_f1 ?_;symm;refine Vn c.h.1 (by lia) ?_;unfold cor;symm;refine w_f1 ?_;symm;refine Vn a.h.1 (by lia) ?_;symm;refine w_f1 ?_;symm;refine Vn b.h.1 (by lia) ?_;symm;refine w_f0 ?_;symm
def Zs8{k:Nat}{T:D}(h:Tr k T):Jw [T]=.ok .non:=by
 obtain ⟨g,m,p,o,e,x,A,u,v,l,n,i,s,z,q,rfl,c,a,b,j,r,d,_⟩:=h;have y:=c.w.1;have f:=a.w.1;have t:=b.w.1;refine Tl.eq ?_;unfold Jw cor;symm;refine w_f1 ?_;symm;refine w_f1 ?_;symm;refine w_f1 ?_;symm;refine w_f0 ?_;symm
def aF(q:Rat):Pg [frD q]=.ok .non:=by
 refine Tl.eq ?_;unfold Pg;symm;refine Ve ?_;symm
def tU{q:Rat}(h0:0<=q.num)(h1:q.num<=q.den):Qu [frD q]=.ok .non:=by
 refine Tl.eq ?_;unfold Qu;symm;refine Ve ?_;unfold frD;symm
def jK{k:Nat}{T:D}{n:Int}(h:Tr k T)(hn:n<=k):Qa [T,.int n]=.ok .non:=by
 obtain ⟨e,j,o,m,c,u,x,s,t,i,l,f,r,w,p,rfl,v,b,d,g,q,a,_⟩:=h;refine Tl.eq ?_;unfold Qa cor;symm
def O4{f:Str}{d:D}{k:MSi}{Z:Ev}{fl:Fs}{e:ME}(he:e Z=.ok d)(hn:(fl.map (·.1)).contains f=false)(hl:fl.length<100):iSet f e k Z fl=k Z (fl++[(f,d)]):=by
 unfold iSet;rw [he];show (if (fl.map (·.1)).contains f=true\/100<=fl.length then Res.bad else k Z (fl++[(f,d)]))=_
 lia
def Iu{d:D}{k:MSi}{Z:Ev}{fl:Fs}{e:ME}(he:e Z=.ok d):iDrp e k Z fl=k Z fl:=by
 unfold iDrp;rw [he];rfl
def Ri{g:List D->Fs->Res Fs}{a:MA}{ds:List D}{k:MSi}{Z:Ev}{fl fl':Fs}(ha:a Z=.ok ds)(hg:g ds fl=.ok fl'):iSup g a k Z fl=k Z fl':=by
 unfold iSup;rw [ha];show (g ds fl).bind _=_;rw [hg];rfl
def no_c:([("triangle" : Str)]:List Str).contains "colour"=false:=by rfl
def lM:([("triangle" : Str)]:List Str).contains "pattern"=false:=by rfl
def vQ:([("triangle" : Str),"colour"]:List Str).contains "part"=false:=by rfl
abbrev fsT(T:D):Fs:=[(("triangle" : Str),T)]
def R4{k:Nat}{T:D}(hk:k<=3)(h:Tr k T):JT [T] []=.ok (fsT T):=by
 unfold JT fnI;rw [Iu (d:=.non) (Zri hk h),Iu (d:=.non) (Zs8 h),O4 (d:=T) rfl rfl (by decide)];rfl
def aR{k:Nat}{T:D}{q:Rat}(hk:k<=3)(h:Tr k T):M5 [T,frD q] []=.ok [(("triangle" : Str),T),(("colour" : Str),frD q)]:=by
 unfold M5 fnI;rw [Ri (ds:=[T]) rfl (R4 hk h),Iu (d:=.non) (aF q),O4 (d:=frD q) rfl no_c (by simp_all)];rfl
def ZpZ{k:Nat}{T:D}(hk:k<=3)(h:Tr k T)(h1:1<=k):P0 [T] []=.ok (fsT T):=by
 unfold P0 fnI;rw [Ri (ds:=[T]) rfl (R4 hk h),Iu (d:=.non) (jK h (by lia))];rfl
def Zta{k:Nat}{T:D}{q r:Rat}(hk:k<=3)(h:Tr k T)(h0:0<=r.num)(h1:r.num<=r.den):Nq [T,frD q,frD r] []=.ok [(("triangle" : Str),T),(("colour" : Str),frD q),(("part" : Str),frD r)]:=by
 unfold Nq fnI;rw [Ri (ds:=[T]) rfl (R4 hk h),Iu (d:=.non) (aF q),Iu (d:=.non) (tU h0 h1),O4 (d:=frD q) rfl no_c (by simp_all),O4 (d:=frD r) rfl vQ (by simp_all)];rfl
def tX{U:D->Prop}{h w:Nat}{P:Nat->Nat->Rat}(hh:h<=100)(q:U (patD h w P)):Tl (QJ [patD h w P]) U:=by
 unfold QJ patD;symm;refine ⟨by grind,?_⟩;refine Fe (λi:Nat=>rowD w (P i)) (λi a=>?_) ?_
 .unfold rowD;symm
 symm;exact q
def Zxk{k h w:Nat}{T:D}{P:Nat->Nat->Rat}(hk:k<=3)(ht:Tr k T)(h2:2<=k)(hh:Ct h)(hw:Ct w):Ov [T,patD h w P] []=.ok [(("triangle" : Str),T),(("pattern" : Str),patD h w P)]:=by
 have c:=hh.le;have b:Od [patD h w P]=.ok .non:=Tl.eq (pN hh hw rfl);have a:QJ [patD h w P]=.ok (patD h w P):=Tl.eq (tX (by lia) rfl);unfold Ov fnI;rw [Ri (ds:=[T]) rfl (R4 hk ht),Iu (d:=.non) (jK ht (by lia)),Iu (d:=.non) b,O4 (d:=patD h w P) a lM (by simp_all)];rfl
inductive Thg:D->Prop
 | plain {k:Nat} {T:D} {q:Rat}:Tr k T->k<=3->Bq 32 q->Thg (.ins "Plain" ["triangle","colour"] [T,frD q])
 | shaded {k:Nat} {T:D}:Tr k T->k<=3->1<=k->Thg (.ins "Shaded" ["triangle"] [T])
 | patt {k h w:Nat} {T:D} {P:Nat->Nat->Rat}:Tr k T->k<=3->2<=k->Ct h->Ct w->(∀i,i<h->∀j,j<w->Bq 32 (P i j))->Thg (.ins "Patterned" ["triangle","pattern"] [T,patD h w P])
 | glass {k:Nat} {T:D} {q r:Rat}:Tr k T->k<=3->Bq 32 q->Bq 32 r->0<=r.num->r.num<=r.den->Thg (.ins "Glass" ["triangle","colour","part"] [T,frD q,frD r])
def fT1(T q:D):dFld objs "triangle" (.ins "Plain" ["triangle","colour"] [T,q])=.ok T:=rfl
def fT2(T:D):dFld objs "triangle" (.ins "Shaded" ["triangle"] [T])=.ok T:=rfl
def fT3(T q:D):dFld objs "triangle" (.ins "Patterned" ["triangle","pattern"] [T,q])=.ok T:=rfl
def fT4(T q r:D):dFld objs "triangle" (.ins "Glass" ["triangle","colour","part"] [T,q,r])=.ok T:=rfl
def fC4(T q r:D):dFld objs "colour" (.ins "Glass" ["triangle","colour","part"] [T,q,r])=.ok q:=rfl
def fP4(T q r:D):dFld objs "part" (.ins "Glass" ["triangle","colour","part"] [T,q,r])=.ok r:=rfl
def fN3(T q:D):dFld objs "pattern" (.ins "Patterned" ["triangle","pattern"] [T,q])=.ok q:=rfl
def iQ{x:Int}{n:Nat}(h:1<=n):∃i:Nat,x%(n:Int)=(i:Int)/\i<n:=by
 have a:=JF x (show (n:Int)≠0 by lia);have b:=Jd x (show (0:Int)<n by lia);exact ⟨(x%(n:Int)).toNat,by lia,by lia⟩
def dD{U:D->Prop}{q:Rat}{k:Nat}(hb:Bq k q)(hk:k<=8000)(h:U (.int (q.num/(q.den:Int)))):Tl (Oa [frD q]) U:=by
 have d:=den1 q;have l:=hb.d.log (show k<9000 by lia);unfold Oa frD;generalize q.num=n at *;generalize (q.den:Int)=m at *;symm;exact h
def yZ{U:D->Prop}{h w:Nat}{P:Nat->Nat->Rat}{u v:Rat}(hh:Ct h)(hw:Ct w)(bu:Bq 300 u)(bv:Bq 300 v)(q:∀i j,i<h->j<w->U (frD (P i j))):∃i j,i<h/\j<w/\Ra [patD h w P,frD u,frD v]=.ok (frD (P i j)):=by
 have c:=hh.le;have e:=hw.le;obtain ⟨i,d,b⟩:=iQ (x:=v.num/(v.den:Int)) c.1;obtain ⟨j,f,a⟩:=iQ (x:=u.num/(u.den:Int)) e.1;refine ⟨i,j,b,a,Tl.eq ?_⟩;unfold Ra;symm;refine dD bv (by decide) ?_;symm;rw [Al,Ff];symm;rw [d];refine ZrA b ?_;symm;refine dD bu (by decide) ?_;symm;rw [Al,Ff];symm;rw [f];refine pI a ?_;symm
def Xw{t b:Int}{k:Nat}(hb:b≠0)(st:Sm k t)(sb:Sm k b):Bq k (Rat.divInt t b):=by
 have F:=Mt.aZ (t:=t) hb;have e:=Im (t:=t) (b:=b) hb;unfold fra frD at e;injection e with e
 injection e with e1 e2
 injection e1 with e1
 injection e2 with e2 _
 injection e2 with e2
 exact ⟨e1▸st.le F.np,e2▸sb.le F.nq⟩
def Tp{k:Nat}{T:D}{px py ps:Int}(h:Tr k T)(hk:k<=3)(cp:Cr px py ps)(hp:1<=ps):DP [T,.tup [.int px,.int py,.int ps]]=.ok .non \/
  ∃(q:Rat) (vs:List Rat),vs.length=k/\Bq 300 q/\(∀v∈vs,Bq 300 v)/\DP [T,.tup [.int px,.int py,.int ps]]=.ok (.tup [frD q,.tup (vs.map frD)]):=by
 obtain ⟨z,A,f,L,j,r,g,N,p,l,i,I,M,O,J,rfl,b,c,a,la,lb,lc,Y,S,Z⟩:=h;have F:∀{n:Int},1<=n/\n<=1000000->Sm 64 n:=λh=>Sm.of64 (by lia) (by lia);have m:Cv 64 z A f L M:=⟨b.cr.x,b.cr.y,b.cr.w,F b.h,λv d=>(Y v d).s,b.h.1⟩;have C:Cv 64 j r g N O:=⟨c.cr.x,c.cr.y,c.cr.w,F c.h,λv d=>(S v d).s,c.h.1⟩;have o:Cv 64 p l i I J:=⟨a.cr.x,a.cr.y,a.cr.w,F a.h,λv d=>(Z v d).s,a.h.1⟩;by_cases h0:hdE z A f j r g p l i px py ps=0
 .left;exact Tl.eq (d7 b.w.1 c.w.1 a.w.1 b.cr c.cr a.cr cp h0 rfl)
 .right;have W:=U8 (by have:=b.w;lia) (by have:=c.w;lia) (by have:=a.w;lia) (by lia) h0;have E:=c.cr.ow a.cr cp;have G:=a.cr.ow b.cr cp;have H:=b.cr.ow c.cr cp;have u:=Wx b.h.1 c.h.1 a.h.1 W;have e:=Tl.eq (YH (U:=λx=>x=_) b.w.1 c.w.1 a.w.1 hp b.cr c.cr a.cr cp m C o (by lia) h0 rfl rfl rfl rfl rfl);have K:=Rg m.fh C.fh o.fh E G H;have V:=Rg m.fw C.fw o.fw E G H;generalize ow j r g p l i px py ps=e1 at *;generalize ow p l i z A f px py ps=e2 at *;generalize ow z A f j r g px py ps=e3 at *;generalize hB:dot L N I e1 e2 e3=B at *;refine ⟨Rat.divInt (dot f g i e1 e2 e3) B,(M.zip (O.zip J)).map λt=>Rat.divInt (dot t.1 t.2.1 t.2.2 e1 e2 e3) B,?_,(Xw u V K).mono (by decide),λv d=>?_,?_⟩
  .simp_all
  .obtain ⟨t,R,rfl⟩:=By.mp d;obtain ⟨X,P,Q⟩:=YD R;exact (Xw u (Rg (m.fv _ X) (C.fv _ P) (o.fv _ Q) E G H) K).mono (by decide)
  .rw [e,Im u];unfold vls;rw [DX];congr 3;congr 1;congr 1;exact Gf λt _=>Im u
def cL{α β:Type}(f:α->β)(R:Nat->α)(x:α)(n:Nat):(List.range n).map (λi=>f (R i))++[f x]=(List.range (n+1)).map λi=>f ((λi=>if i=n then x else R i) i):=by
 rw [Ol,Ft];show _=_++[f (if n=n then x else R n)]
 rw [iP rfl,show (List.range n).map (λi=>f ((λi=>if i=n then x else R i) i))=(List.range n).map (λi=>f (R i)) from Gf λi a=>by
  grind]
def WD(a:Int):D.tup [.int a,.int 1]=frD (a:Rat):=rfl
def WL{a:Int}{k:Nat}(h:Sm k a)(hk:1<=k):Bq k (a:Rat):=⟨h,by
 show (1:Int).natAbs<2^k
 grind⟩
def my{U:D->Prop}{n more:Int}(hn:0<=n)(q:∀(h w:Nat) (P:Nat->Nat->Rat),Ct h->Ct w->(∀i,i<h->∀j,j<w->Bq 32 (P i j))->U (patD h w P)):Tl (RQ [.int n,.int more]) U:=by
 unfold RQ;symm;refine GR ⟨by lia,by grind⟩ λd a=>?_;obtain ⟨h,rfl,m⟩ : ∃n:Nat,d=.int n/\Ct n:=by
  simp only [BV,Cg,HX] at a;rcases a with rfl | rfl | rfl | rfl
  .exact ⟨1,rfl,by unfold Ct;lia⟩
  .exact ⟨2,rfl,by unfold Ct;lia⟩
  .exact ⟨4,rfl,by unfold Ct;lia⟩
  .exact ⟨16,rfl,by unfold Ct;lia⟩
 symm;refine GR ⟨by lia,by grind⟩ λd a=>?_;obtain ⟨w,rfl,l⟩ : ∃n:Nat,d=.int n/\Ct n:=by
  simp only [BV,Cg,HX] at a;rcases a with rfl | rfl | rfl | rfl
  .exact ⟨1,rfl,by unfold Ct;lia⟩
  .exact ⟨2,rfl,by unfold Ct;lia⟩
  .exact ⟨8,rfl,by unfold Ct;lia⟩
  .exact ⟨4,rfl,by unfold Ct;lia⟩
 have A:=m.le;have s:=l.le;symm;rw [Lk,Ei];refine LQ (λj Z=>∃(P:Nat->Nat->Rat) (f e c b:Cl),(∀i,i<j->∀t,t<w->Bq 32 (P i t))/\Z=[.im (.int n),.im (.int more),.im (.int h),.im (.int w),.ow ((List.range j).map λi=>rowD w (P i)),f,e,c,b]) ⟨λ_ _=>0,_,_,_,_,(λi g=>aB g (Nat.not_lt_zero i)),rfl⟩ ?_ ?_
 .rintro j z Z ⟨P,f,e,c,b,o,rfl⟩;symm;rw [Lk,Ei];refine LQ (λt Z=>∃(R:Nat->Rat) (c b:Cl),(∀i,i<t->Bq 32 (R i))/\Z=[.im (.int n),.im (.int more),.im (.int h),.im (.int w),.ow ((List.range j).map λi=>rowD w (P i)),.im (.int j),.ow ((List.range t).map λi=>frD (R i)),c,b]) ⟨λ_=>0,_,_,(λi g=>aB g (Nat.not_lt_zero i)),rfl⟩ ?_ ?_
  .rintro t v Z ⟨R,c,b,p,rfl⟩;symm;refine jT (by lia) λr u=>?_;symm;refine Ho (k:=32) (by lia) (by show (r - 10^9).natAbs<2^32;lia) (by show (1+r/9%99).natAbs<2^32;lia) (by decide) λB=>?_;symm;rw [WD];refine GR ⟨by lia,by grind⟩ λd a=>?_;obtain ⟨x,rfl,y⟩ : ∃x:Rat,d=frD x/\Bq 32 x:=by
    simp only [BV,Cg,HX] at a;rcases a with rfl | rfl
    .exact ⟨_,rfl,WL (by show (r%7).natAbs<2^32;lia) (by decide)⟩
    lia
   refine ⟨by grind,?_⟩;rw [cL frD R x t]
   grind
  .rintro Z ⟨R,c,b,p,rfl⟩;symm;refine ⟨by grind,?_⟩;rw [show D.lst ((List.range w).map λi=>frD (R i))=rowD w R from rfl,cL (rowD w) P R j]
   grind
 .rintro Z ⟨P,f,e,c,b,o,rfl⟩;symm;exact q h w P m l o
def PB{U:D->Prop}{c:Str}{g:List D->Fs->Res Fs}{a:MA}{Z:Ev}(h:Tl (a Z) λds=>∃fl,g ds []=.ok fl/\U (.ins c (fl.map (·.1)) (fl.map (·.2)))):Tl (make c g a Z) U:=by
 obtain ⟨ds,b,fl,d,q⟩:=h;refine Ah ?_ q;unfold make;rw [b];show (g ds []).bind _=_;rw [d];rfl
def yc{rs:List Int}{k:Nat}:cutL (rs.map .int) none (some (k:Int))=(rs.take k).map .int:=by
 unfold cutL cutAt;rw [Al];simp only [];rw [iN (by lia),Ei,NB,Nat.sub_zero,Ji];by_cases h:k<=rs.length
 .rw [G6 h]
 .rw [Nat.min_eq_right (by lia),Hv (by simp),Hv (by simp;lia)]
def Mx{k:Nat}{d:D}(h:isT k d):Tr k d:=by
 obtain ⟨a,b,c,rfl,⟨j,p,r,t,v,rfl,z,o,A⟩,⟨g,y,E,w,C,rfl,f,u,m⟩,⟨x,n,q,l,s,rfl,i,e,B⟩⟩:=h;exact ⟨j,p,r,t,g,y,E,w,x,n,q,l,v,C,s,rfl,z,f,i,o,u,e,A,m,B⟩
def ZvN{x y w h:Int}{vs:List Int}{f:Nat}:∃d1,dCut (cor x y w h vs) none (some 4)=.ok d1/\An d1 (.tup [.tup (cutL (vs.map .int) none (some (f:Int)))])=.ok (cor x y w h (vs.take f)):=by
 refine ⟨.tup [.int x,.int y,.int w,.int h],rfl,?_⟩;rw [yc];rfl
def yJ{U:D->Prop}{k:Nat}{T:D}{n0 n1 n2 n3:Int}(d0:Dw n0)(d1:Dw n1)(d2:Dw n2)(d3:Dw n3)(hk:2<=k/\k<=3)(ht:isT k T)(q:∀d,Thg d->U d):Tl (T7 [.lst [.int n0,.int n1,.int n2,.int n3],T]) U:=by
 unfold Dw at d0 d1 d2 d3;unfold T7;symm;refine Ho (k:=32) (by lia) (by show (2*(n0/8%9)+1).natAbs<2^32;lia) (by show (2:Int).natAbs<2^32;decide) (by decide) λhB1=>?_;symm;refine Ho (k:=32) (by lia) (by show (n1 - 10^9).natAbs<2^32;lia) (by show (1+n2).natAbs<2^32;lia) (by decide) λhB2=>?_;symm;rw [WD];refine GR ⟨by lia,by grind⟩ λd j=>?_;obtain ⟨cq,rfl,V⟩ : ∃x:Rat,d=frD x/\Bq 32 x:=by
  simp only [BV,Cg,HX] at j;rcases j with rfl | rfl | rfl
  .exact ⟨_,rfl,WL (by show (n0/8%9 - 2).natAbs<2^32;lia) (by decide)⟩
  .lia
  lia
 clear j;symm;refine Cu (λw0=>?_) (λw0=>?_)
 .obtain ⟨a,b,c,rfl,⟨S,B,F,N,X,rfl,ca,la,ba⟩,⟨s,H,L,C,Y,rfl,cb,lb,bb⟩,⟨A,z,M,u,cv,rfl,cc,lc,bc⟩⟩:=ht;obtain ⟨f,hf⟩ : ∃f:Nat,1+n0/8%3=(f:Int):=⟨(1+n0/8%3).toNat,by lia⟩;symm;refine PB ?_;symm;refine ⟨by simp_all,?_⟩;rw [hf];have i:=λ(x y w h:Int) (vs:List Int)=>ZvN (x:=x) (y:=y) (w:=w) (h:=h) (vs:=vs) (f:=f);obtain ⟨a1,J,I⟩:=i S B F N X;obtain ⟨b1,G,K⟩:=i s H L C Y;obtain ⟨c1,E,R⟩:=i A z M u cv;have tr:Tr (min f k) (.tup [cor S B F N (X.take f),cor s H L C (Y.take f),cor A z M u (cv.take f)]):=⟨S,B,F,N,s,H,L,C,A,z,M,u,_,_,_,rfl,ca,cb,cc,by simp_all,by simp_all,by simp_all,λv n=>ba v (G5 n),λv n=>bb v (G5 n),λv n=>bc v (G5 n)⟩;refine Gq ?_;symm;refine Ah J ?_;symm;refine Ah I ?_;symm;refine Gq ?_;symm;refine Ah G ?_;symm;refine Ah K ?_;symm;refine Gq ?_;symm;refine Ah E ?_;symm;refine Ah R ?_;symm;refine TF ?_;symm;exact ⟨_,ZpZ (by lia) tr (by lia),by symm; exact q _ (.shaded tr (by lia) (by lia))⟩
 symm;refine Cu (λw1=>?_) (λw1=>?_)
 .symm;refine PB ?_;symm;refine my (by lia) λh w P W Z hP=>?_;symm;exact ⟨_,Zxk hk.2 (Mx ht) hk.1 W Z,by symm; exact q _ (.patt (Mx ht) hk.2 hk.1 W Z hP)⟩
 symm;refine Cu (λw2=>?_) (λw2=>?_)
 .symm;refine PB ?_;symm;exact ⟨_,aR hk.2 (Mx ht),by symm; exact q _ (.plain (Mx ht) hk.2 V)⟩
 symm;refine Ho (k:=32) (t:=n3%(1+n1)) (by lia) (by have:=JF n3 (show 1+n1≠0 by lia);have:=Jd n3 (show 0<1+n1 by lia);show (n3%(1+n1)).natAbs<2^32;lia) (by show (1+n1).natAbs<2^32;lia) (by decide) λhB3=>?_;symm;have r0:=JF n3 (show 1+n1≠0 by lia);have r1:=Jd n3 (show 0<1+n1 by lia);have lo:∀{t b:Int},0<=t->t<=b->0<b->0<=(Rat.divInt t b).num/\(Rat.divInt t b).num<=(Rat.divInt t b).den:=by
  intro t b O Q l;have d0:=den1 (Rat.divInt t b);have e:=(Rat.divInt_eq_divInt_iff (by lia) (by lia)).mp (J3 (Rat.divInt t b));generalize (Rat.divInt t b).num=p at *;generalize ((Rat.divInt t b).den:Int)=m at *;have g0:0<=t*m:=Int.mul_nonneg O (by lia);have g1:t*m<=b*m:=Wl Q (by lia);constructor
  .by_cases c:0<=p
   .exact c
   .exfalso;have:=Int.mul_lt_mul_of_pos_right (show p<0 by lia) l
    lia
  .by_cases c:p<=m
   .exact c
   .exfalso;have:=Int.mul_lt_mul_of_pos_right (show m<p by lia) l
    lia
 refine GR ⟨by lia,by grind⟩ λd j=>?_;obtain ⟨pq,rfl,hp,r,o⟩ : ∃x:Rat,d=frD x/\Bq 32 x/\0<=x.num/\x.num<=x.den:=by
  have g:∀{t b:Int},D.tup [.int t,.int b]=frD (Rat.divInt t b)->0<=t->t<=b->0<b->b<2^30->∃x:Rat,D.tup [.int t,.int b]=frD x/\Bq 32 x/\0<=x.num/\x.num<=x.den:=λ{t b} e O Q l h2=>⟨_,e,Mw l (by show t.natAbs<2^32;lia) (by show b.natAbs<2^32;lia),lo O Q l⟩;simp only [BV,Cg,HX] at j;rcases j with rfl | rfl | rfl | rfl | rfl | rfl
  .exact g (t:=0) (b:=1) (by rfl) (by decide) (by decide) (by decide) (by decide)
  .exact g (t:=1) (b:=2) (by rfl) (by decide) (by decide) (by decide) (by decide)
  .exact g (t:=1) (b:=3) (by rfl) (by decide) (by decide) (by decide) (by decide)
  .exact g (t:=2) (b:=3) (by rfl) (by decide) (by decide) (by decide) (by decide)
  .exact g (t:=1) (b:=1) (by rfl) (by decide) (by decide) (by decide) (by decide)
  grind
 symm;refine PB ?_;symm;exact ⟨_,Zta hk.2 (Mx ht) r o,by symm; exact q _ (.glass (Mx ht) hk.2 V hp r o)⟩
def ZiZ{U:D->Prop}{ns:List Int}(q:∀ts:List D,ts.length<=4->(∀t∈ts,Thg t)->U (.lst ts)):Tl (Rk [.lst (ns.map .int),.int 0,.int 4]) U:=by
 unfold Rk;symm;refine M4 (by lia) λV=>?_;symm;refine Ni (n:=16) (by decide) λg X E=>?_;symm;refine M4 (by lia) λG=>?_;symm;obtain ⟨k,K⟩ : ∃k:Nat,2+G/2%2=(k:Int):=⟨(2+G/2%2).toNat,by lia⟩;rw [K];refine xu (first:=0) (most:=4) (many:=k) (by lia) (by decide) (by lia) λj S J=>?_
 symm;have P:Dl.numbered 0 j=j.zipIdx.map λy=>D.tup [.int (y.2:Int),y.1]:=by
  have M:∀(l:List D) (k:Nat),Dl.numbered k l=(l.zipIdx k).map λy=>D.tup [.int (y.2:Int),y.1]:=by
   intro l
   induction l with
   | nil=>intro k;rfl
   | cons a r ih=>
    intro k;rw [List.zipIdx_cons,Bk,<-ih (k+1)];rfl
  simp_all
 rw [P];refine Jo (enc:=λy:D×Nat=>D.tup [.int (y.2:Int),y.1]) (λf Z=>∃(ts:List D) (o u:Cl),ts.length=f.length/\(∀t∈ts,Thg t)/\Z=[.im (.lst (ns.map .int)),.im (.int 0),.im (.int 4),.im (.lst (g.map .int)),.ow ts,.im (.int k),o,u]) ⟨[],_,_,rfl,(λ_ h=>(Cg h).elim),rfl⟩ ?_ ?_
 .rintro f ⟨T,i⟩ r e Z ⟨ts,o,u,w,z,rfl⟩;have W:j.zipIdx[f.length]?=some (T,i):=by grind
  have B:j[f.length]?=some T/\i=f.length:=by
   grind
  obtain ⟨s,rfl⟩:=B;have F:f.length<j.length:=by
   grind
  obtain ⟨v,A,C,p,R,N,L,H,I⟩ : ∃v A C p:Int,(g.drop (4*f.length)).take 4=[v,A,C,p]/\Dw v/\Dw A/\Dw C/\Dw p:=by
   have m:∀x∈(g.drop (4*f.length)).take 4,Dw x:=λx Q=>E x (Le (G5 Q));have O:((g.drop (4*f.length)).take 4).length=4:=by grind
   generalize (g.drop (4*f.length)).take 4=l at *
   match l,O,m with
   | [a,b,c,d],_,h=>grind
  symm;rw [show (4*(f.length:Int))=((4*f.length:Nat):Int) by lia,show (((4*f.length:Nat):Int)+4)=((4*f.length+4:Nat):Int) by lia,Ux (by lia) (by lia),show 4*f.length+4 - 4*f.length=4 by lia,R];refine yJ N L H I (by lia) (J T (Gg s)) λd E=>?_
  grind
 .rintro Z ⟨ts,o,u,w,z,rfl⟩;symm;simp_all
theorem Ug(kf:Nat->List Int):∀(n:Nat) (k:List Int),k∈firsts kf n↔∃i,i<n/\kf i=k
 | 0,k=>by simp [firsts]
 | n+1,k=>by
  have ih:=Ug kf n k;unfold firsts;split
  .next h=>
   rw [ih];constructor
   .rintro ⟨i,a,e⟩;exact ⟨i,by lia,e⟩
   .rintro ⟨i,a,e⟩;by_cases z:i=n
    .subst z;obtain ⟨j,b,c⟩:=(Ug kf i (kf i)).mp h;exact ⟨j,b,c.trans e⟩
    .exact ⟨i,by lia,e⟩
  .rw [Gv,ih,HR];constructor
   .rintro (⟨i,a,e⟩ | e)
    .exact ⟨i,by lia,e⟩
    .exact ⟨n,by lia,e.symm⟩
   .rintro ⟨i,a,e⟩;by_cases z:i=n
    .subst z;exact .inr e.symm
    .exact .inl ⟨i,by lia,e⟩
def Ow(kf:Nat->List Int):∀n,(firsts kf n).length<=n
 | 0=>Ae _
 | n+1=>by
  have:=Ow kf n;unfold firsts;split
  .lia
  .simp;lia
theorem bD(kf:Nat->List Int):∀n,(firsts kf n).length=n↔∀i j,i<j->j<n->kf i≠kf j
 | 0=>by simp [firsts]
 | n+1=>by
  have ih:=bD kf n;have g:=Ow kf n;unfold firsts;split
  .next h=>
   obtain ⟨i,b,e⟩:=(Ug kf n (kf n)).mp h;constructor
   .intro z;lia
   .intro z;exact aB e (z i n b (by lia))
  .next h=>
   have c:∀i,i<n->kf i≠kf n:=λi b e=>h ((Ug kf n (kf n)).mpr ⟨i,b,e⟩);rw [Di,MK];constructor
   .intro z i j a d;have f:=ih.mp (by lia);by_cases q:j=n
    .subst q;exact c i a
    .exact f i j a (by lia)
   .intro z;have:=ih.mpr λi j a d=>z i j a (by lia)
    lia
def jA{α:Type}{enc:α->D}{key:α->List Int}(h:∀a,∃ds,enc a=.tup ds/\intsOf ds=some (key a)):∀l:List α,keysOf (l.map enc)=some (l.map key)
 | []=>rfl
 | a::r=>by
  obtain ⟨ds,c,b⟩:=h a;rw [Bk,c];unfold keysOf;rw [b,jA h r];rfl
def xN{α:Type} [DecidableEq α] {enc:α->D} {key:α->List Int} (h:∀a,∃ds,enc a=.tup ds/\intsOf ds=some (key a)) (inj:∀a b,key a=key b->a=b) {l:List α} (hl:l.length<=4) :
  ∃n:Nat,Uo (.lst (l.map enc))=.ok (.int n)/\(n=l.length↔l.Nodup):=by
 refine ⟨(firsts (λi=>(l.map key).getD i []) (l.map enc).length).length,?_,?_⟩
 .show (match keysOf (l.map enc) with | some ks=>if (l.map enc).length<=4 then Res.ok (D.int ((firsts (λi=>ks.getD i []) (l.map enc).length).length:Nat)) else Res.bad | none=>Res.bad)=_
  rw [jA h];show (if _ then _ else _)=_
  rw [iP (by rw [Al];exact hl)]
 .rw [Al,bD];unfold List.Nodup;rw [Jc];have c:∀i (g:i<l.length),(l.map key).getD i []=key l[i]:=λi g=>by simp [List.getD,g]
  constructor
  .intro z i j g f d e;exact z i j d f (by rw [c i g,c j f,e])
  .intro z i j d f e;rw [c i (by lia),c j f] at e;exact z i j (by lia) f d (inj _ _ e)
def Zsf{α:Type}{U:Fl->Prop}{g:MG}{k:MS}{enc:α->D}{ts:List α}(I:List α->Ev->Prop)(h:∀us t vs,ts=us++t::vs->∀Z,I us Z->Tl (g (enc t) Z) λZ1=>Tl (k Z1) λf=>(∃Z2,f=.nx Z2/\I (us++[t]) Z2)\/∃d,f=.rt d/\U (.rt d))(hd:∀Z,I ts Z->U (.nx Z)){Z:Ev}(h0:I [] Z):Tl (CZ g k (ts.map enc) Z) U:=by
 have a:∀(vs us:List α) (Z:Ev),ts=us++vs->I us Z->Tl (CZ g k (vs.map enc) Z) U:=by
  intro vs
  induction vs with
  | nil=>
   intro us Z e i;rw [CN] at e;subst e;exact w_f0 (hd Z i)
  | cons t vs ih=>
   intro us Z e i;obtain ⟨Z1,b,f,c,q⟩:=h us t vs e Z i;rw [Bk];refine w_f1 ⟨Z1,b,_,c,?_⟩;rcases q with ⟨Z2,rfl,i2⟩ | ⟨d,rfl,q⟩
   .exact ih (us++[t]) Z2 (by rw [e];simp) i2
   .exact Ao q
 exact a ts [] Z rfl h0
abbrev encP(d:Int×Int):D:=.tup [.int d.1,.int d.2]
def ZM{U:D->Prop}{x:Int}(q:U (.bl true)):Tl (HH [.int x]) U:=by
 unfold HH;symm;exact q
def Om{U:D->Prop}{x a b:Int}(h:a<=x/\x<=b)(q:U (.bl true)):Tl (JK [.int x,.int a,.int b]) U:=by
 unfold JK;symm;refine ZM ?_;symm;rw [Dv h.2];exact q
def fU{U:D->Prop}{w h:Nat}(hw:1<=w/\w<=64)(hh:1<=h/\h<=64)(q:U .non):Tl (QG [.int w,.int h]) U:=by
 unfold QG;symm;refine Om (by lia) ?_;symm;refine Om (by lia) ?_;symm;exact q
def jn{α:Type}(f:α->Bool):∀l:List α,bools (l.map λa=>D.bl (f a))=.ok (l.map f)
 | []=>rfl
 | a::r=>by
  rw [Bk];show (bools (r.map λa=>D.bl (f a))).bind _=_;rw [jn f r];rfl
def zm{U:D->Prop}{d:Int×Int}(hd:(1<=d.1/\d.1<=7)/\1<=d.2/\d.2<=7)(q:U (.bl true)):Tl (Tv [encP d]) U:=by
 unfold Tv;symm;refine Om hd.1 ?_;symm;refine Om hd.2 ?_;symm;exact q
def bQ{α:Type}{U:D->Prop}{f:α->Bool}{l:List α}(h:∀a∈l,f a=true)(q:U (.bl true)):Tl (bAll [.lst (l.map λa=>D.bl (f a))]) U:=by
 refine Ah ?_ q;show (bools (l.map λa=>D.bl (f a))).bind _=_;rw [jn f l];show Res.ok (D.bl ((l.map f).all id))=_;rw [List.all_map,List.all_eq_true.mpr λa b=>(show (id ∘ f) a=true from h a b)]
def vm{U:D->Prop}{dots:List (Int×Int)}(h1:1<=dots.length/\dots.length<=4)(hd:∀d∈dots,(1<=d.1/\d.1<=7)/\1<=d.2/\d.2<=7)(hnd:dots.Nodup)(q:U .non):Tl (SQ [.lst (dots.map encP)]) U:=by
 unfold SQ;symm;rw [Al];refine Cu (λz=>by lia) (λ_=>?_);symm;rw [Al];rw [Jg (by lia)];symm;refine ⟨by rw [Al];lia,?_⟩;refine Fe (enc:=encP) (λd:Int×Int=>D.bl ((λ_=>true) d)) (λd c=>?_) ?_
 .symm;exact zm (hd d c) rfl
 symm;refine bQ (f:=λ_:Int×Int=>true) (λ_ _=>rfl) ?_;symm
 obtain ⟨n,e,g⟩:=xN (enc:=encP) (key:=λd:Int×Int=>[d.1,d.2]) (λa=>⟨_,rfl,rfl⟩) (λa b h=>by
  injection h with h1 h2
  injection h2 with h2 _
  exact Gn h1 h2) h1.2
 refine Ah e ?_;symm;rw [g.mpr hnd,Al];symm;exact q
def ZkO:Hw [.non]=.ok (.lst ([(4,4)].map encP)):=by
 refine Tl.eq ?_;unfold Hw;symm;rfl
def xY{dots:List (Int×Int)}(h1:1<=dots.length/\dots.length<=4)(hd:∀d∈dots,(1<=d.1/\d.1<=7)/\1<=d.2/\d.2<=7)(hnd:dots.Nodup):Hw [.lst (dots.map encP)]=.ok (.lst (dots.map encP)):=by
 refine Tl.eq ?_;unfold Hw;symm;refine vm h1 hd hnd ?_;symm
def sS(a b:Int×Int):eqD (encP a) (encP b)=decide (a=b):=by
 unfold eqD eqDs eqDs eqDs;show ((a.1==b.1)&&((a.2==b.2)&&true))=_;rw [Bool.and_true,Bool.eq_iff_iff,PQ,beq_iff_eq,beq_iff_eq,decide_eq_true_eq];constructor
 .rintro ⟨c,d⟩;exact Gn c d
 .rintro rfl;exact ⟨rfl,rfl⟩
def Zo(q:Int×Int):∀qs:List (Int×Int),inD (encP q) (qs.map encP)=decide (q∈qs)
 | []=>rfl
 | a::r=>by
  have ih:=Zo q r;unfold inD at ih ⊢;rw [Bk,List.any_cons,ih,sS,<-Bool.decide_or,decide_eq_decide,BV];constructor
  .rintro (rfl | h)
   .exact .inl rfl
   .exact .inr h
  .rintro (rfl | h)
   .exact .inl rfl
   .exact .inr h
def dw(k:Nat):∀qs:List (Int×Int),Bb (k+1) (qs.map encP)=true
 | []=>rfl
 | a::r=>by
  rw [Bk];show (plain (k+1) (encP a)&&Bb (k+1) (r.map encP))=true;rw [dw k r];rfl
def Dots(dots:List (Int×Int)):Prop:=(∀d∈dots,(1<=d.1/\d.1<=7)/\1<=d.2/\d.2<=7)/\dots.Nodup
def oM{U:D->Prop}{cc:Int}(q:∀dots:List (Int×Int),1<=dots.length->dots.length<=16->Dots dots->U (.lst (dots.map encP))):Tl (RX [.int cc]) U:=by
 unfold RX;symm;refine Ni (n:=17) (by decide) λw l C=>?_;obtain ⟨c,i,rfl⟩ : ∃c i,w=c::i:=by
  cases w with
  | nil=>simp at l
  | cons a r=>exact ⟨a,r,rfl⟩
 have F:Dw c:=C c BX;unfold Dw at F;have M:i.length=16:=by simpa using l
 symm;have J:Tl (bInt [.bl (decide (c%8=7))]) λy=>Tl (dIx (.lst [.int (c/8%3),.int (c/8%16)]) y) λx=>∃n:Nat,x=.int n/\n<=15:=by
  by_cases z:c%8=7
  .rw [Dv z];exact Ah rfl (Ah rfl ⟨(c/8%16).toNat,by rw [Jx (by lia)],by lia⟩)
  .rw [Jg z];exact Ah rfl (Ah rfl ⟨(c/8%3).toNat,by rw [Jx (by lia)],by lia⟩)
 obtain ⟨y,B,x,A,n,rfl,L⟩:=J;refine Ah B (Ah A ?_);clear B A y;symm;rw [show (2+(n:Int))=((2+n:Nat):Int) by lia,show (some (1:Int))=some (((1:Nat):Int)) from rfl,Ux (by lia) (by rw [l];lia)];have s:((c::i).drop 1).take (2+n - 1)≠[]:=by
  intro z;have:=Ew List.length z;rw [Eb,HY,l,List.length_nil] at this
  lia
 have G:(((c::i).drop 1).take (2+n - 1)).length<=16:=by simp;lia
 generalize ((c::i).drop 1).take (2+n - 1)=us at *;refine Zsf (enc:=D.int) (λg Z=>∃(dots:List (Int×Int)) (m t:Cl),(g≠[]->1<=dots.length)/\dots.length<=g.length/\Dots dots/\Z=[.im (.int cc),.im (.lst ((c::i).map .int)),.ow (dots.map encP),m,t]) ?_ ?_ ⟨[],_,_,λz=>aB rfl z,Ae _,⟨λ_ h=>(Cg h).elim,List.nodup_nil⟩,rfl⟩
 .rintro g x K e Z ⟨dots,m,t,j,v,k,rfl⟩;have E:g.length<us.length:=by rw [e];simp
  symm;refine Tl.mono (Ψ:=λf=>∃p:Int×Int,((1<=p.1/\p.1<=7)/\1<=p.2/\p.2<=7)/\f=Fl.nx [.im (.int cc),.im (.lst ((c::i).map .int)),.ow (dots.map encP),.im (.int x),.im (encP p)]) ?_ ?_
  .refine Cu (λ_=>?_) (λ_=>?_)
   .symm;exact ⟨(4,4),by decide,rfl⟩
   .symm;exact ⟨(1+x%7,1+x/7%7),⟨⟨by show 1<=1+x%7;lia,by show 1+x%7<=7;lia⟩,by show 1<=1+x/7%7;lia,by show 1+x/7%7<=7;lia⟩,rfl⟩
  rintro f ⟨p,H,rfl⟩;symm;refine qZ rfl (dw _ _) ?_;rw [Zo];symm;refine MJ (λz=>?_) (λz=>?_)
  .symm;refine ⟨by rw [Al];lia,?_⟩;left;refine ⟨_,rfl,dots++[p],_,_,λ_=>by simp,by simp;lia,⟨λd u=>?_,?_⟩,by rw [Ft];rfl⟩
   .rcases Gv.mp u with h | h
    .exact k.1 d h
    .have:d=p:=by simpa using h
     subst this;exact H
   .rw [List.nodup_append];refine ⟨k.2,by simp,λa I b o=>?_⟩;have o:b=p:=by simpa using o
    rintro rfl;subst o;exact z I
  .symm;left;refine ⟨_,rfl,dots,_,_,λ_=>?_,by simp;lia,k,rfl⟩;have:=List.length_pos_of_mem z
   lia
 .rintro Z ⟨dots,m,t,j,v,k,rfl⟩;symm;exact q dots (j s) (by lia) k
def fQ{x:D}(h:plain 50 x=true):dNe x x=.ok (.bl false):=by
 unfold dNe;rw [h,Wo x 50 h];rfl
def Z7{x:D}(h:plain 50 x=true):dEq x x=.ok (.bl true):=by
 unfold dEq;rw [h,Wo x 50 h];rfl
def val:Res D->D
 | .ok d=>d
 | _=>.non
noncomputable def unF:D->Rat
 | .tup [.int n,.int d]=>Rat.divInt n d
 | _=>0
def HQ(q:Rat):unF (frD q)=q:=J3 q
def ownOf(c:Str)(d v:D):Rat:=match Nx.lookup c with
 | some f=>unF (val (f [d,v]))
 | none=>0
def mkS(c:Str)(ns:List Str)(vs:List D)(q:Rat)(v:D):Sg :=
 { d:=.ins c ns vs,gl:=c == "Glass",q:=q,v:=v,own:=if (c == "Glass")=true then 0 else ownOf c (.ins c ns vs) v,part:=unF (val (dFld objs "part" (.ins c ns vs))),col:=unF (val (dFld objs "colour" (.ins c ns vs))),k:=0 }
def so(p d:D):Option Sg:=match d with
 | .ins c ns (T::r)=>match DP [T,p] with
  | .ok (.tup [q,v])=>some (mkS c ns (T::r) (unF q) v)
  | _=>none
 | _=>none
def M6{c:Str}{ns:List Str}{T p:D}{r:List D}(e:DP [T,p]=.ok .non):so p (.ins c ns (T::r))=none:=by
 show (match DP [T,p] with
  | .ok (.tup [q,v])=>some (mkS c ns (T::r) (unF q) v)
  | _=>none)=none
 rw [e]
def Mf{c:Str}{ns:List Str}{T p v:D}{r:List D}{q:Rat}(e:DP [T,p]=.ok (.tup [frD q,v])):so p (.ins c ns (T::r))=some (mkS c ns (T::r) q v):=by
 show (match DP [T,p] with
  | .ok (.tup [q,v])=>some (mkS c ns (T::r) (unF q) v)
  | _=>none)=_
 rw [e];show some (mkS c ns (T::r) (unF (frD q)) v)=_;rw [HQ]
def b0:Bq 32 (0:Rat):=⟨by show (0:Int).natAbs<2^32;decide,by show (1:Int).natAbs<2^32;decide⟩
def Tj{p d:D}{T:D}(e1:dFld objs "triangle" d=.ok T)(e2:DP [T,p]=.ok .non)(e3:so p d=none):Seen p d (so p d):=by
 rw [e3];exact ⟨⟨T,e1,e2⟩,λs h=>by cases h⟩
def Ud{p d v:D}{T:D}{q:Rat}{s:Sg}(e1:dFld objs "triangle" d=.ok T)(e2:DP [T,p]=.ok (.tup [frD q,v]))(e3:so p d=some s)(hq:s.q=q)(hv:s.v=v)(hd:s.d=d)(g:GS s):Seen p d (so p d):=by
 rw [e3];refine ⟨⟨T,e1,?_⟩,λt h=>?_⟩
 .rw [e2];show _=Res.ok (D.tup [frD s.q,s.v]);rw [hq,hv]
 .cases h;exact ⟨hd,g⟩
def iD{d:D}{px py ps:Int}(h:Thg d)(cp:Cr px py ps)(hp:1<=ps):Seen (.tup [.int px,.int py,.int ps]) d (so (.tup [.int px,.int py,.int ps]) d):=by
 cases h with
 | @plain k T q ht hk hq=>
  rcases Tp ht hk cp hp with e | ⟨z,vs,lv,bz,bv,e⟩
  .exact Tj (fT1 _ _) e (M6 e)
  .have a:(mkS "Plain" ["triangle","colour"] [T,frD q] z (.tup (vs.map frD))).own=q:=HQ q;have c:(mkS "Plain" ["triangle","colour"] [T,frD q] z (.tup (vs.map frD))).col=q:=HQ q;have b:(mkS "Plain" ["triangle","colour"] [T,frD q] z (.tup (vs.map frD))).part=0:=rfl;refine Ud (fT1 _ _) e (Mf e) rfl rfl rfl ⟨⟨_,_,_,rfl,by decide +kernel,by decide +kernel,⟨KC,by rfl,rfl⟩,λ_=>⟨V2,by rfl,?_⟩⟩,(λh=>by cases h),bz,?_,?_,?_⟩
   .rw [a];rfl
   .rw [a];exact hq.mono (by decide)
   .rw [b];exact b0
   .rw [c];exact hq
 | @shaded k T ht hk h1=>
  rcases Tp ht hk cp hp with e | ⟨z,vs,lv,bz,bv,e⟩
  .exact Tj (fT2 _) e (M6 e)
  .cases vs with
   | nil=>simp at lv;lia
   | cons u vs=>
    have a:(mkS "Shaded" ["triangle"] [T] z (.tup ((u::vs).map frD))).own=u:=HQ u;refine Ud (fT2 _) e (Mf e) rfl rfl rfl ⟨⟨_,_,_,rfl,by decide +kernel,by decide +kernel,⟨KC,by rfl,rfl⟩,λ_=>⟨Ut,by rfl,?_⟩⟩,(λh=>by cases h),bz,?_,b0,b0⟩
    .rw [a];rfl
    .rw [a];exact bv u BX
 | @patt k h w T P ht hk h2 hh hw hP=>
  rcases Tp ht hk cp hp with e | ⟨z,vs,lv,bz,bv,e⟩
  .exact Tj (fT3 _ _) e (M6 e)
  .match vs,lv,bv,e with
   | [],lv,_,_=>simp at lv;lia
   | [_],lv,_,_=>simp at lv;lia
   | u::v::vs,lv,bv,e=>
    obtain ⟨i,j,m,g,l⟩:=yZ (U:=λ_=>True) (P:=P) hh hw (bv u BX) (bv v (Bf _ BX)) (λ_ _ _ _=>trivial);have f:Lh [.ins "Patterned" ["triangle","pattern"] [T,patD h w P],.tup ((u::v::vs).map frD)]=.ok (frD (P i j)):=by
     refine Tl.eq ?_;unfold Lh;symm;refine Ah (fN3 _ _) ?_;symm;refine Ah l ?_;symm
    have a:(mkS "Patterned" ["triangle","pattern"] [T,patD h w P] z (.tup ((u::v::vs).map frD))).own=P i j:=by
     show unF (val (Lh [.ins "Patterned" ["triangle","pattern"] [T,patD h w P],.tup ((u::v::vs).map frD)]))=_;rw [f];exact HQ _
    refine Ud (fT3 _ _) e (Mf e) rfl rfl rfl ⟨⟨_,_,_,rfl,by decide +kernel,by decide +kernel,⟨KC,by rfl,rfl⟩,λ_=>⟨Lh,by rfl,?_⟩⟩,(λh=>by cases h),bz,?_,b0,b0⟩
    .rw [a];exact f
    .rw [a];exact (hP i m j g).mono (by decide)
 | @glass k T q r ht hk hq hr h0 h1=>
  rcases Tp ht hk cp hp with e | ⟨z,vs,lv,bz,bv,e⟩
  .exact Tj (fT4 _ _ _) e (M6 e)
  .have c:(mkS "Glass" ["triangle","colour","part"] [T,frD q,frD r] z (.tup (vs.map frD))).col=q:=HQ q;have b:(mkS "Glass" ["triangle","colour","part"] [T,frD q,frD r] z (.tup (vs.map frD))).part=r:=HQ r;refine Ud (fT4 _ _ _) e (Mf e) rfl rfl rfl ⟨⟨_,_,_,rfl,by decide +kernel,by decide +kernel,⟨Vf,by rfl,rfl⟩,λh=>by cases h⟩,λ_=>⟨?_,?_⟩,bz,b0.mono (by decide),?_,?_⟩
   .rw [b];exact fP4 _ _ _
   .rw [c];exact fC4 _ _ _
   .rw [b];exact hr
   .rw [c];exact hq
noncomputable abbrev pt8(x y:Int):D:=.tup [.int x,.int y,.int 8]
def sgs(ts:List D)(p:D):List Sg:=ts.filterMap (so p)
def lk(ts:List D)(p:D):List DO:=ts.map λd=>(d,so p d)
def Zvq(ts:List D)(p:D):(lk ts p).map (·.1)=ts:=by
 unfold lk;rw [DX];exact List.map_id _
def dz(ts:List D)(p:D):sgts (lk ts p)=sgs ts p:=by
 unfold sgts lk sgs;rw [List.filterMap_map];rfl
def gO{ts:List D}{px py ps:Int}(h:∀t∈ts,Thg t)(cp:Cr px py ps)(hp:1<=ps):∀y∈lk ts (.tup [.int px,.int py,.int ps]),Seen (.tup [.int px,.int py,.int ps]) y.1 y.2:=by
 intro y a;obtain ⟨d,b,rfl⟩:=By.mp a;exact iD (h d b) cp hp
def uf{ts:List D}{px py ps:Int}(h:∀t∈ts,Thg t)(cp:Cr px py ps)(hp:1<=ps):∀s∈sgs ts (.tup [.int px,.int py,.int ps]),GS s:=by
 rw [<-dz];exact ZrU (gO h cp hp)
def qF(ts:List D)(p:D):(sgs ts p).length<=ts.length:=List.length_filterMap_le _ _
def xP{ts:List D}{px py ps:Int}(h:∀t∈ts,Thg t)(hl:ts.length<=1000)(cp:Cr px py ps)(hp:1<=ps):Qf [.lst ts,.tup [.int px,.int py,.int ps]]=.ok (.lst ((sgs ts (.tup [.int px,.int py,.int ps])).map encS)):=by
 have e:=Tl.eq (Zld (U:=λx=>x=_) (gO h cp hp) (by unfold lk;rw [List.length_map];exact hl) rfl);rwa [Zvq,dz] at e
def Ztz{t b:Int}{k:Nat}(hb:0<b)(sb:Sm k b):Sm k ((Rat.divInt t b).den:Int):=by
 have e:=Im (t:=t) (b:=b) (by lia);unfold fra frD Mt.frT Mt.frB at e;rw [iN (by lia),iN (by lia)] at e;have a:0<(Int.gcd t b:Int):=by have:=Mt.RV (t:=t) (b:=b) (by lia);lia
 injection e with e
 injection e with e1 e2
 injection e2 with e2 _
 injection e2 with e2
 refine sb.le ?_;rw [<-e2];exact Mt.VH a
def aa{U:D->Prop}{t b:Int}{k:Nat}(hb:0<b)(sb:Sm k b)(hk:k<=8900)(h:U (frD (Rat.divInt t b))):Tl (Er [.int t,.int b]) U:=by
 refine Ub (by lia) sb (by lia) ?_;rw [Im (by lia)];exact h
def wO{U:D->Prop}{p q:Rat}{a b da db:Nat}(hp:Bq a p)(hq:Bq b q)(dp:Sm da (p.den:Int))(dq:Sm db (q.den:Int))(hab:a+b<=10000000)(hd:da+db<=8900)(h:Bq (a+b+1) (p+q)->Sm (da+db) ((p+q).den:Int)->U (frD (p+q))):Tl (Kp [frD p,frD q]) U:=by
 have l:Bp p.num q.den=true:=Cz hp.n hq.d (by lia);have j:Bp q.num p.den=true:=Cz hq.n hp.d (by lia);have k:Bp p.den q.den=true:=Cz hp.d hq.d (by lia);have i:Sm (a+b+1) (p.num*q.den+q.num*p.den):=((hp.n.mul hq.d).add (show Sm (a+b) _ from Ja b a▸hq.n.mul hp.d)).mono (by lia);have g:Sm (a+b+1) ((p.den:Int)*q.den):=(hp.d.mul hq.d).mono (by lia);have c:0<(p.den:Int)*q.den:=J4 (den1 p) (den1 q);have f:=Mw c i g;have e:=Ztz (t:=p.num*q.den+q.num*p.den) c (dp.mul dq);rw [Tz] at f e;unfold Kp frD;symm;refine aa c (dp.mul dq) hd ?_;rw [Tz];symm;exact h f e
noncomputable def sumQ(l:List Rat):Rat:=l.foldl (·+·) 0
def qO(l:List Rat)(q:Rat):sumQ (l++[q])=sumQ l+q:=by unfold sumQ;rw [List.foldl_append];rfl
def Jk(l:List Rat):Rat:=Rat.divInt (sumQ l).num ((sumQ l).den*(l.length:Int))
def ud{U:D->Prop}{qs:List Rat}{K k:Nat}(hK:∀q∈qs,Bq K q)(hd:∀q∈qs,Sm k (q.den:Int))(h1:1<=qs.length)(hn:qs.length<=16)(hK':K<=100000)(hk:qs.length*k+10<=8900)(h:U (frD (Jk qs))):Tl (Q7 [.lst (qs.map frD)]) U:=by
 unfold Q7;symm;show Tl (CZ _ _ (qs.map frD) [.im (.lst (qs.map frD)),.im (frD 0),.no]) _;refine Jo (enc:=frD) (λa Z=>∃c:Cl,Bq (a.length*(K+1)+1) (sumQ a)/\Sm (a.length*k+1) ((sumQ a).den:Int)/\Z=[.im (.lst (qs.map frD)),.im (frD (sumQ a)),c]) ⟨.no,?_,?_,rfl⟩ ?_ ?_
 .exact ⟨by show (0:Int).natAbs<_;exact Nat.two_pow_pos _,by show (1:Int).natAbs<2^(0*_+1);rw [Nat.zero_mul];decide⟩
 .show (1:Int).natAbs<2^(0*_+1);rw [Nat.zero_mul];decide
 .rintro a q r e Z ⟨c,B,S,rfl⟩;have f:q∈qs:=by rw [<-e];simp
  have b:a.length<qs.length:=by rw [<-e];simp
  have m:(a.length+1)*k<=qs.length*k:=Qe k b;have i:(a.length+1)*(K+1)<=16*(K+1):=Qe (K+1) (by lia);rw [Kz] at m i;symm;refine wO B (hK q f) S (hd q f) (by lia) (by lia) λn j=>?_;rw [qO];refine ⟨_,rfl,_,n.mono ?_,j.mono ?_,rfl⟩
  .rw [Di,MK,Kz];lia
  .rw [Di,MK,Kz];lia
 .rintro Z ⟨c,B,S,rfl⟩;have i:qs.length*(K+1)<=16*(K+1):=Qe (K+1) hn;have g:Sm 5 (qs.length:Int):=by show (qs.length:Int).natAbs<2^5;lia
  have o:Bp (sumQ qs).den (qs.length:Int)=true:=Cz B.d g (by lia);have l:0<((sumQ qs).den:Int)*(qs.length:Int):=J4 (den1 _) (by lia);unfold Jk at h;generalize sumQ qs=t at *;unfold frD;symm;rw [Al];symm;refine aa l (S.mul g) (by lia) ?_;symm;exact h
def ZnM{U:D->Prop}{g:Rat}{l:List Sg}{n:Nat}(hg:Bq 300 g)(hl:∀s∈l,GS s)(hs:l.length<=n)(hn:n<=12)(q:Bq (300+170*n) (colQ g l)->U (frD (colQ g l))):Tl (Oi [.lst (l.map encS),frD g]) U:=by
 have j:Bq 300 (Io g (near l)):=by
  cases e:near l with
  | none=>exact hg
  | some m=>exact (hl m (Wu e).1).bo
 have p:=Xv (near l) l;unfold Oi;symm;refine ZlO hl ?_
 have d:∀b:Cl,Tl ((sq (for_ (iv (on QM (Aa (v 2) (Aa (v 0) Ab)))) (gN 4)
  (st 3 (on O6 (Aa (o2 dIx (v 4) (cI 0)) (Aa (v 3) Ab)))))
  (ret (v 3))) [.im (.lst (l.map encS)),.im (frD g),.im (optS (near l)),.im (frD (Io g (near l))),b]) λf=>Tl (endOf f) U:=by
  intro b;symm;refine tR (λm e=>hl m (Wu e).1) hl (by lia) ?_;symm;refine Jo (enc:=encS) (λa Z=>∃b:Cl,Bq (300+170*a.length) (layQ a (Io g (near l)))/\Z=[.im (.lst (l.map encS)),.im (frD g),.im (optS (near l)),.im (frD (layQ a (Io g (near l)))),b]) ⟨_,j,rfl⟩ ?_ ?_
  .rintro a s r e Z ⟨b,B,rfl⟩;have h:s∈lay (near l) l:=by rw [<-e];simp
   have i:a.length<(lay (near l) l).length:=by rw [<-e];simp
   have c:=iG h;symm;refine Zxa (hl s c.1) (nH c.2) B (by lia) λk=>?_;have o:layQ (a++[s]) (Io g (near l))=mixQ s (layQ a (Io g (near l))):=by unfold layQ;rw [List.foldl_append];rfl
   rw [o];refine ⟨_,rfl,_,k.mono ?_,rfl⟩;rw [Di,MK]
   lia
  .rintro Z ⟨b,B,rfl⟩;symm;exact q (B.mono (by lia))
 symm;refine Tl.mono (Ψ:=λf=>f=Fl.nx [.im (.lst (l.map encS)),.im (frD g),.im (optS (near l)),.im (frD (Io g (near l))),.no]) ?_ ?_
 .cases hn:near l with
  | none=>
   show Tl (if (false:Bool)=true then _ else _) _
   symm;rfl
  | some m=>
   have h:=Wu hn;show Tl (if (true:Bool)=true then _ else _) _
   symm;refine pR (s:=m) (hl m h.1) h.2 rfl rfl ?_;rfl
 .rintro f rfl;exact d .no
def sm6'{x:Int}(h:-1000000<=x/\x<=1000000):Sm 64 x:=Sm.of64 (by lia) (by lia)
def cr8{px py:Int}(hx:0<=px/\px<=1000)(hy:0<=py/\py<=1000):Cr px py 8:=⟨sm6' (by lia),sm6' (by lia),sm6' (by decide)⟩
abbrev ptA(c r:Nat)(d:Int×Int):D:=pt8 (8*(c:Int)+d.1) (8*(r:Int)+d.2)
def di(dots:List (Int×Int)):Prop:=∀d∈dots,(1<=d.1/\d.1<=7)/\1<=d.2/\d.2<=7
def cellQ(ts:List D)(g:Rat)(dots:List (Int×Int))(c r:Nat):Rat:=Jk (dots.map λd=>colQ g (sgs ts (ptA c r d)))
def rowP(f:Nat->Nat->Rat)(w r:Nat):D:=.lst ((List.range w).map λc=>frD (f c r))
def picP(f:Nat->Nat->Rat)(w h:Nat):D:=.lst ((List.range h).map λr=>rowP f w r)
section
variable{ts:List D}{dots:List (Int×Int)}
def Zls{U:D->Prop}{c r:Nat}(hts:∀t∈ts,Thg t)(hl:ts.length<=1000)(hc:c<=100)(hr:r<=100)(hd:di dots)(hn:dots.length<=16)
  (q:U (.lst (dots.map λd=>D.lst ((sgs ts (ptA c r d)).map encS)))):Tl (Tg [.lst ts,.int c,.int r,.lst (dots.map encP)]) U:=by
 unfold Tg;symm;symm;refine ⟨by rw [Al];lia,?_⟩;refine Fe (λd:Int×Int=>D.lst ((sgs ts (ptA c r d)).map encS)) (λd a=>?_) ?_
 .have b:=hd d a;symm;unfold O2;symm;exact Ah (xP hts hl (cr8 (by lia) (by lia)) (by decide)) rfl
 .symm;exact q
def Xr{U:D->Prop}{g:Rat}{n:Nat}{ls:List (List Sg)}(hg:Bq 300 g)(hl:∀l∈ls,(∀s∈l,GS s)/\l.length<=n)(hn:n<=12)(h1:1<=ls.length)(h16:ls.length<=16)(hk:ls.length*(300+170*n)+10<=8900)(q:U (frD (Jk (ls.map λl=>colQ g l)))):Tl (K5 [.lst (ls.map λl=>D.lst (l.map encS)),frD g]) U:=by
 have b:∀l∈ls,Bq (300+170*n) (colQ g l)/\Oi [.lst (l.map encS),frD g]=.ok (frD (colQ g l)):=λl a=>by
  obtain ⟨x,e,h⟩:=ZnM (U:=λx=>Bq (300+170*n) (colQ g l)/\x=frD (colQ g l)) hg (hl l a).1 (hl l a).2 hn (λB=>⟨B,rfl⟩);exact ⟨h.1,h.2▸e⟩
 unfold K5;symm;refine ⟨by rw [Al];lia,?_⟩;refine Fe (λl:List Sg=>frD (colQ g l)) (λl a=>?_) ?_
 .symm;exact Ah (b l a).2 rfl
 symm;rw [show List.map (λl:List Sg=>frD (colQ g l)) ls=(ls.map λl=>colQ g l).map frD by rw [DX];rfl];refine ud (K:=300+170*n) (k:=300+170*n) (λx c=>?_) (λx c=>?_) (by rw [Al];exact h1) (by rw [Al];exact h16) (by lia) (by rw [Al];exact hk) ?_
 .obtain ⟨l,a,rfl⟩:=By.mp c;exact (b l a).1
 .obtain ⟨l,a,rfl⟩:=By.mp c;exact (b l a).1.d
 .symm;exact q
def rY{U:D->Prop}{w h n:Nat}{sp gr:D}{g:Rat}(hts:∀t∈ts,Thg t)(hl:ts.length<=n)(hn:n<=12)(hw:1<=w/\w<=64)(hh:1<=h/\h<=64)(hs:Hw [sp]=.ok (.lst (dots.map encP)))(hgr:LC [gr]=.ok (frD g))(hg:Bq 300 g)(hd:di dots)(h1:1<=dots.length)(h16:dots.length<=16)(hk:dots.length*(300+170*n)+10<=8900)
  (q:U (picP (cellQ ts g dots) w h)):Tl (J8 [.lst ts,.int w,.int h,sp,gr]) U:=by
 unfold J8;symm;refine fU hw hh ?_;symm;refine Ah hs ?_;symm;refine Ah hgr ?_;symm;symm;rw [Lk,Ei];refine ⟨by rw [Al,Ff];lia,?_⟩;refine Fe (λr:Nat=>rowP (cellQ ts g dots) w r) (λr e=>?_) ?_
 .have e:=FP.mp e;symm;unfold Xh;symm;symm;rw [Lk,Ei];refine ⟨by rw [Al,Ff];lia,?_⟩;refine Fe (λc:Nat=>frD (cellQ ts g dots c r)) (λc f=>?_) ?_
  .have f:=FP.mp f;symm;refine Zls hts (by lia) (by lia) (by lia) hd h16 ?_;symm;rw [show (List.map (λd=>D.lst ((sgs ts (ptA c r d)).map encS)) dots)=(dots.map λd=>sgs ts (ptA c r d)).map λl=>D.lst (l.map encS) by rw [DX];rfl];refine Xr (n:=n) hg (λl b=>?_) hn (by rw [Al];exact h1) (by rw [Al];exact h16) (by rw [Al];exact hk) ?_
   .obtain ⟨d,a,rfl⟩:=By.mp b;have i:=hd d a;exact ⟨uf hts (cr8 (by lia) (by lia)) (by decide),Ak (qF _ _) hl⟩
   .unfold cellQ;rw [DX];rfl
  .symm;rfl
 .symm;exact q
end
def fC{a b:Int}(hb:b≠0):Rat.divInt a b*(b:Rat)=(a:Rat):=by
 rw [Rat.divInt_eq_div];exact Rat.div_mul_cancel (by intro z;exact hb (by exact_mod_cast z))
def o9{b:Int}(h:0<b):(0:Rat)<(b:Rat):=by exact_mod_cast h
def RT{b:Int}(h:0<=b):(0:Rat)<=(b:Rat):=by exact_mod_cast h
def S5{a b:Rat}(ha:0<=a)(hb:0<=b):0<=a*b:=Rat.mul_nonneg ha hb
def Vg{m:Rat}{w h:Int}(hh:0<h)(e:m<=Rat.divInt w h):0<=(w:Rat) - m*(h:Rat):=by
 have d:=fC (a:=w) (b:=h) (by lia);have c:=S5 (show (0:Rat)<=Rat.divInt w h - m by grind) (RT (show 0<=h by lia))
 grind
def ZtA{m:Rat}{w h:Int}(hh:0<h)(e:0<=(w:Rat) - m*(h:Rat)):m<=Rat.divInt w h:=by
 have g:=fC (a:=w) (b:=h) (by lia);have d:=o9 hh;by_cases c:m<=Rat.divInt w h
 .exact c
 .exfalso;have f:=Rat.mul_pos (show (0:Rat)<m - Rat.divInt w h by grind) d
  grind
def qL{m:Rat}{x y z a b c e f g:Int}(ha:1<=a)(hb:1<=b)(hc:1<=c)(h1:m<=Rat.divInt x a)(h2:m<=Rat.divInt y b)(h3:m<=Rat.divInt z c)(w:Wt e f g):m<=Rat.divInt (dot x y z e f g) (dot a b c e f g):=by
 have i:=Vg (by lia) h1;have k:=Vg (by lia) h2;have n:=Vg (by lia) h3;have h:∀{e f g:Int},0<=e->0<=f->0<=g->0<dot a b c e f g->m<=Rat.divInt (dot x y z e f g) (dot a b c e f g):=λ{e f g} o l r j=>by
  refine ZtA j ?_;have t:=S5 i (RT o);have v:=S5 k (RT l);have u:=S5 n (RT r);unfold dot
  push_cast
  grind
 rcases bB ha hb hc w with ⟨s,d⟩ | ⟨s,d⟩
 .rcases w with ⟨w1,w2,w3,_⟩ | ⟨w1,w2,w3,_⟩
  .exact h w1 w2 w3 d
  .lia
 .rcases w with ⟨w1,w2,w3,_⟩ | ⟨w1,w2,w3,_⟩
  .lia
  .have p:dot x y z e f g=-dot x y z (-e) (-f) (-g):=by unfold dot;grind
   have q:dot a b c e f g=-dot a b c (-e) (-f) (-g):=by unfold dot;grind
   rw [p,q,Rat.neg_divInt_neg];exact h (by lia) (by lia) (by lia) (by lia)
def minQ(m q:Rat):Rat:=if q<m then q else m
noncomputable def maxQ(m q:Rat):Rat:=if m<q then q else m
def ao(hm:Bq 300 m)(hq:Bq 300 q):Bq 300 (minQ m q):=by unfold minQ;split<;>assumption
def aG(hm:Bq 300 m)(hq:Bq 300 q):Bq 300 (maxQ m q):=by unfold maxQ;split<;>assumption
def jl(h0:Bq 300 q0)(hq:∀q∈qs,Bq 300 q)(h:Bq 300 ((q0::qs).foldl minQ q0)->U (frD ((q0::qs).foldl minQ q0))):Tl (QF [.lst ((q0::qs).map frD)]) U:=by
 unfold QF;symm;refine Jo (enc:=frD) (λa Z=>∃f,Bq 300 (a.foldl minQ q0)/\Z=[.im (.lst ((q0::qs).map frD)),.im (frD (a.foldl minQ q0)),f]) ⟨.no,h0,rfl⟩ ?_ ?_
 .rintro a q r e Z ⟨f,d,rfl⟩;have g:Bq 300 q:=by
   have:q∈q0::qs:=by rw [<-e];simp
   rcases BV.mp this with rfl | hm
   .exact h0
   .exact hq q hm
  rw [List.foldl_append];have b:=ao d g;generalize a.foldl minQ q0=m at d b ⊢;symm;refine Jr g d ?_;symm;refine Cu (λc=>?_) (λc=>?_)
  .symm;exact ⟨_,rfl,_,b,by show _=[_,Cl.im (frD (minQ m q)),_];unfold minQ;rw [iP c]⟩
  .symm;exact ⟨_,rfl,_,b,by show _=[_,Cl.im (frD (minQ m q)),_];unfold minQ;rw [iN c]⟩
 .rintro Z ⟨f,d,rfl⟩;symm;exact h d
def ZtM(h0:Bq 300 q0)(hq:∀q∈qs,Bq 300 q)(h:Bq 300 ((q0::qs).foldl maxQ q0)->U (frD ((q0::qs).foldl maxQ q0))):Tl (Rn [.lst ((q0::qs).map frD)]) U:=by
 unfold Rn;symm;refine Jo (enc:=frD) (λa Z=>∃f,Bq 300 (a.foldl maxQ q0)/\Z=[.im (.lst ((q0::qs).map frD)),.im (frD (a.foldl maxQ q0)),f]) ⟨.no,h0,rfl⟩ ?_ ?_
 .rintro a q r e Z ⟨f,d,rfl⟩;have g:Bq 300 q:=by
   have:q∈q0::qs:=by rw [<-e];simp
   rcases BV.mp this with rfl | hm
   .exact h0
   .exact hq q hm
  rw [List.foldl_append];have b:=aG d g;generalize a.foldl maxQ q0=m at d b ⊢;symm;refine Jr d g ?_;symm;refine Cu (λc=>?_) (λc=>?_)
  .symm;exact ⟨_,rfl,_,b,by show _=[_,Cl.im (frD (maxQ m q)),_];unfold maxQ;rw [iP c]⟩
  .symm;exact ⟨_,rfl,_,b,by show _=[_,Cl.im (frD (maxQ m q)),_];unfold maxQ;rw [iN c]⟩
 .rintro Z ⟨f,d,rfl⟩;symm;exact h d
def lV(l:List Rat):∀m:Rat,l.foldl minQ m<=m/\∀q∈l,l.foldl minQ m<=q:=by
 induction l with
 | nil=>exact λm=>⟨Rat.le_refl,λq hq=>(Cg hq).elim⟩
 | cons a r ih=>
  intro m;obtain ⟨b,e⟩:=ih (minQ m a);have c:minQ m a<=m:=by unfold minQ;split<;>grind
  have d:minQ m a<=a:=by unfold minQ;split<;>grind
  refine ⟨Rat.le_trans b c,λq hq=>?_⟩;rcases BV.mp hq with rfl | hq
  .exact Rat.le_trans b d
  .exact e q hq
def f9{ax ay aw ah bx bY bw bh cx cy cw ch:Int}{av bv cv:List Int}(ca:Ck ax ay aw ah)(cb:Ck bx bY bw bh)(cc:Ck cx cy cw ch):∃q,Bq 300 q/\(q<=Rat.divInt aw ah/\q<=Rat.divInt bw bh/\q<=Rat.divInt cw ch)/\G8 [.tup [cor ax ay aw ah av,cor bx bY bw bh bv,cor cx cy cw ch cv]]=.ok (frD q):=by
 have a:∀{x y w h:Int},Ck x y w h->0<h/\Sm 64 w/\Sm 64 h:=λc=>by
  have v:=c.w;have A:=c.h;exact ⟨by lia,sm6' (by lia),sm6' (by lia)⟩
 obtain ⟨o,p,j⟩:=a ca;obtain ⟨g,n,i⟩:=a cb;obtain ⟨k,l,m⟩:=a cc;have u:=(Mw o p j).mono (show 64<=300 by decide);have r:=(Mw g n i).mono (show 64<=300 by decide);have s:=(Mw k l m).mono (show 64<=300 by decide);have z:Tl (G8 [.tup [cor ax ay aw ah av,cor bx bY bw bh bv,cor cx cy cw ch cv]]) λd=>∃q,(Bq 300 q/\(q<=Rat.divInt aw ah/\q<=Rat.divInt bw bh/\q<=Rat.divInt cw ch))/\d=frD q:=by
  unfold G8 cor;symm;refine ⟨by simp,?_⟩;refine Gq ?_;symm;refine Ho o p j (by decide) λ_=>?_;refine Ax ?_;refine Gq ?_;symm;refine Ho g n i (by decide) λ_=>?_;refine Ax ?_;refine Gq ?_;symm;refine Ho k l m (by decide) λ_=>?_;refine Ax ?_;refine TF (Ao (Ao (Ao ?_)));symm;refine jl (q0:=Rat.divInt aw ah) (qs:=[Rat.divInt bw bh,Rat.divInt cw ch]) u (λq hq=>?_) λb=>?_
  .rcases BV.mp hq with rfl | hq
   .exact r
   .rcases BV.mp hq with rfl | hq
    .exact s
    .cases hq
  .symm;have f:=(lV [Rat.divInt aw ah,Rat.divInt bw bh,Rat.divInt cw ch] (Rat.divInt aw ah)).2;exact ⟨_,⟨b,f _ (by simp),f _ (by simp),f _ (by simp)⟩,rfl⟩
 obtain ⟨d,e,q,⟨b,t⟩,rfl⟩:=z;exact ⟨q,b,t,e⟩
def ZtV(h:Tr k T):∃q,Bq 300 q/\G8 [T]=.ok (frD q):=by
 obtain ⟨g,l,o,n,f,s,t,p,r,j,m,i,av,bv,cv,rfl,e,a,c,_⟩:=h;obtain ⟨q,d,_,b⟩:=f9 (av:=av) (bv:=bv) (cv:=cv) e a c;exact ⟨q,d,b⟩
def nJ{a b:Rat}(h:frD a=frD b):a=b:=by rw [<-HQ a,h,HQ]
def uc{k:Nat}{T:D}{px py ps:Int}(h:Tr k T)(hk:k<=3)(cp:Cr px py ps)(hp:1<=ps){m:Rat}{q v:D}(em:G8 [T]=.ok (frD m))(es:DP [T,.tup [.int px,.int py,.int ps]]=.ok (.tup [q,v])):m<=unF q:=by
 obtain ⟨z,o,r,G,g,t,l,J,j,i,p,B,av,bv,cv,rfl,b,c,a,Q,P,O,F,M,N⟩:=h;have f:∀{n:Int},1<=n/\n<=1000000->Sm 64 n:=λh=>Sm.of64 (by lia) (by lia);have L:Cv 64 z o r G av:=⟨b.cr.x,b.cr.y,b.cr.w,f b.h,λv d=>(F v d).s,b.h.1⟩;have I:Cv 64 g t l J bv:=⟨c.cr.x,c.cr.y,c.cr.w,f c.h,λv d=>(M v d).s,c.h.1⟩;have C:Cv 64 j i p B cv:=⟨a.cr.x,a.cr.y,a.cr.w,f a.h,λv d=>(N v d).s,a.h.1⟩;obtain ⟨R,_,⟨H,K,A⟩,u⟩:=f9 (av:=av) (bv:=bv) (cv:=cv) b c a;rw [em] at u;cases nJ (Res.ok.inj u);by_cases h0:hdE z o r g t l j i p px py ps=0
 .rw [Tl.eq (d7 b.w.1 c.w.1 a.w.1 b.cr c.cr a.cr cp h0 rfl)] at es;cases es
 .have W:=U8 (by have:=b.w;lia) (by have:=c.w;lia) (by have:=a.w;lia) (by lia) h0;have E:=Wx b.h.1 c.h.1 a.h.1 W;have e:=Tl.eq (YH (U:=λx=>x=_) b.w.1 c.w.1 a.w.1 hp b.cr c.cr a.cr cp L I C (by lia) h0 rfl rfl rfl rfl rfl);rw [e,Im E] at es;injection es with es
  injection es with es
  injection es with es _
  rw [<-es,HQ];exact qL b.h.1 c.h.1 a.h.1 H K A W
def dO:Option Rat->D
 | none=>.non
 | some q=>frD q
def farO(L:List (Option Rat)):Option Rat:=if L.all Option.isSome=true then some ((L.filterMap id).foldl maxQ ((L.filterMap id).headD 0)) else none
def all_some:∀{L:List (Option Rat)},L.all Option.isSome=true->L=(L.filterMap id).map some
 | [],_=>rfl
 | none::r,h=>by simp at h
 | some q::r,h=>by
  have:=all_some (L:=r) (by simpa using h);rw [U9];show _=some q::(r.filterMap id).map some;rw [<-this]
def Yx:∀L:List (Option Rat),Bb 50 (L.map dO)=true
 | []=>rfl
 | a::r=>by
  show (plain 50 (dO a)&&Bb 50 (r.map dO))=true;rw [Yx r,Bool.and_true];cases a<;>rfl
def jd:∀L:List (Option Rat),inD .non (L.map dO)=!L.all Option.isSome
 | []=>rfl
 | a::r=>by
  show (eqD (dO a) .non||inD .non (r.map dO))=!(a.isSome&&r.all Option.isSome);rw [jd r];cases a with
  | none=>rfl
  | some q=>show (false||_)=_;rw [Bool.false_or];rfl
def zJ(L:List (Option Rat)):dIn .non (.lst (L.map dO))=.ok (.bl (!L.all Option.isSome)):=by
 show (if (plain 50 D.non&&Bb 50 (L.map dO))=true then Res.ok (D.bl (inD .non (L.map dO))) else .bad)=_
 rw [Yx,jd];rfl
def Bs(L:List (Option Rat)):Prop:=∀q,some q∈L->Bq 300 q
def Bs.fm(h:Bs L):∀q∈L.filterMap id,Bq 300 q:=λq b=>by
 obtain ⟨a,c,e⟩:=Qh.mp b;cases (show a=some q from e);exact h q c
def aO(hf:∀m q,Bq 300 m->Bq 300 q->Bq 300 (f m q)):∀(l:List Rat) (m:Rat),Bq 300 m->(∀q∈l,Bq 300 q)->Bq 300 (l.foldl f m)
 | [],_,h,_=>h
 | q::r,m,h,hl=>aO hf r (f m q) (hf m q h (hl q (BX ..))) λx a=>hl x (Bf _ a)
def wU(h:Bs L)(hL:L≠[])(e:farO L=some q):Bq 300 q:=by
 unfold farO at e;split at e
 .next c=>
  cases e;have z:=all_some c;have b:=h.fm;generalize L.filterMap id=qs at z b ⊢;cases qs with
  | nil=>exact aB z hL
  | cons a r=>exact aO (λ_ _=>aG) _ _ (b a (BX ..)) b
 .cases e
def zO{L:List (Option Rat)}(hL:L≠[])(h:Bs L)(q:U (dO (farO L))):Tl (Oj [.lst (L.map dO)]) U:=by
 have e:=zJ L;unfold farO at q;unfold Oj;symm;refine Ah e ?_;symm;by_cases ha:L.all Option.isSome=true
 .rw [iP ha] at q;rw [ha];symm;have z:=all_some ha;have b:=h.fm;have c:L.map dO=(L.filterMap id).map frD:=by
   rw [z,DX,<-z];exact Gf λ_ _=>rfl
  rw [c];generalize L.filterMap id=qs at z b q ⊢;cases qs with
  | nil=>exact aB z hL
  | cons a r=>
   refine ZtM (b a (BX ..)) (λx d=>b x (Bf _ d)) λ_=>?_;symm;exact q
 .rw [iN ha] at q;rw [Jy.mpr ha];symm;exact q
def lesO:Option Rat->Rat->Rat
 | none,q=>q
 | some m,q=>minQ m q
def rP(h:∀m,o=some m->Bq 300 m)(hq:Bq 300 q):Bq 300 (lesO o q):=by
 cases o with
 | none=>exact hq
 | some m=>exact ao (h m rfl) hq
def Zo3(h:∀m,o=some m->Bq 300 m)(hq:Bq 300 q)(r:U (frD (lesO o q))):Tl (Nm [dO o,frD q]) U:=by
 unfold Nm;cases o with
 | none=>
  show Tl (fn 2 _ [D.non,frD q]) U;symm;exact r
 | some m=>
  show Tl (fn 2 _ [frD m,frD q]) U;have b:JP (frD m)=false:=rfl;symm;refine jl (q0:=m) (qs:=[q]) (h m rfl) (λx a=>?_) λ_=>?_
  .cases HR.mp a;exact hq
  .symm;have e:[m,q].foldl minQ m=minQ m q:=by
    show minQ (minQ m m) q=_;rw [show minQ m m=m by unfold minQ;split<;>rfl]
   rw [e];exact r
section
variable{U:Fl×List (List D)->Prop}{Z:Ev}{dss:List (List D)}{m:MS}{k l:MY}
def Ez(h:Tl (k Z dss) λp=>Tl (goY l p) U):Tl (sqY k l Z dss) U:=Ax h
def FZ(h:Tl (l Z dss) U):Tl (goY l (.nx Z,dss)) U:=h
def ZxM(h:U (.ct Z,dss)):Tl (goY l (.ct Z,dss)) U:=Ao h
def Ey(h:Tl (m Z) λf=>U (f,dss)):Tl (lft m Z dss) U:=Ax (h.mono λ_ q=>Ao q)
def Lb{t:MB}(h:Tl (t Z) λb=>Tl (if b=true then k Z dss else l Z dss) U):Tl (ifY t k l Z dss) U:=Ax h
def T4{n k:Nat}(h:k<n):ixP n (k:Int)=some k:=by
 unfold ixP;rw [iP (by lia),iP (by lia)];rfl
def ZwV{me mv:ME}{i:Nat}{cs:List D}(h1:me Z=.ok (.int i))(hk:dss[i]?=some cs)(hc:cs.length<10000)(h:Tl (mv Z) λw=>U (.nx Z,dss.set i (cs++[w]))):Tl (appY me mv Z dss) U:=by
 obtain ⟨w,e,q⟩:=h;refine Ah ?_ q;unfold appY;rw [h1,e];show optY Z (appR dss w (i:Int))=_;unfold appR;rw [T4 (Dc.mp hk).1];show optY Z ((dss[i]?).bind _)=_;rw [hk];show optY Z (if cs.length<10000 then _ else _)=_
 rw [iP hc];rfl
end
def ZwS{U:Fl->Prop}{Z:Ev}{i:Nat}{mv mb:ME}{ds:List D}(e:Z[i]?=some (.ow ds))(h:Tl (mv Z) λw=>Tl (mb Z) λb=>∃k:Nat,b=.int k/\k<ds.length/\U (.nx (Z.set i (.ow (ds.set k w))))):Tl (setO i mv mb Z) U:=by
 obtain ⟨w,f,b,a,k,rfl,d,q⟩:=h;refine Ah ?_ q;unfold setO;rw [e,f,a]
 show (match ixP ds.length (k:Int) with
  | some c=>Res.ok (Fl.nx (Z.set i (.ow (ds.set c w))))
  | none=>.bad)=_
 rw [T4 d]
def jD(e:Z[i]?=some (.ow ds))(h:Tl (m (Z.set i (.im (.lst ds)))) λd=>noL d=true/\U d):Tl (pkN i m Z) U:=by
 obtain ⟨d,b,a,q⟩:=h;refine Ah ?_ q;unfold pkN;rw [e];show (noEx (m (Z.set i (.im (.lst ds))))).bind noLD=_;rw [b];show noLD d=_;unfold noLD;rw [iP a]
def fK(A:List α)(b x:α)(C:List α):(A++b::C).set A.length x=A++x::C:=by
 induction A with
 | nil=>rfl
 | cons a A ih=>show a::(A++b::C).set A.length x=_;rw [ih];rfl
def Ys(A:List α)(b:α)(C:List α):(A++b::C)[A.length]?=some b:=by
 rw [GJ (Ae _),Nat.sub_self];rfl
def glD:D->Bool
 | .ins c _ _=>c == "Glass"
 | _=>false
def jy(h:Thg d):∃c ns vs,d=.ins c ns vs/\ns.contains "is_glass"=false/\∃f,H8.lookup c=some f/\f [d]=.ok (.bl (glD d)):=by
 cases h with
 | plain=>exact ⟨_,_,_,rfl,rfl,_,rfl,rfl⟩
 | shaded=>exact ⟨_,_,_,rfl,rfl,_,rfl,rfl⟩
 | patt=>exact ⟨_,_,_,rfl,rfl,_,rfl,rfl⟩
 | glass=>exact ⟨_,_,_,rfl,rfl,_,rfl,rfl⟩
def Zsv(h:Thg d)(ho:o Z=.ok d)(q:U (.bl (glD d))):Tl (meth H8 "is_glass" o Ab Z) U:=by
 obtain ⟨c,b,g,rfl,i,f,a,e⟩:=jy h;exact Xd (Ah ho ⟨c,b,g,f,rfl,i,a,Ao (Ah e q)⟩)
def cO(h:Thg d):∃k T,Tr k T/\dFld objs "triangle" d=.ok T:=by
 cases h with
 | plain t=>exact ⟨_,_,t,rfl⟩
 | shaded t=>exact ⟨_,_,t,rfl⟩
 | patt t=>exact ⟨_,_,t,rfl⟩
 | glass t=>exact ⟨_,_,t,rfl⟩
def CG(d:D):Rat:=match dFld objs "triangle" d with
 | .ok T=>unF (val (G8 [T]))
 | _=>0
def eQ(h:Thg d)(e:dFld objs "triangle" d=.ok T):Bq 300 (CG d)/\G8 [T]=.ok (frD (CG d)):=by
 obtain ⟨k,f,t,b⟩:=cO h;rw [e] at b;cases b;obtain ⟨q,c,a⟩:=ZtV t;have:CG d=q:=by
  unfold CG;rw [e];show unF (val (G8 [T]))=q;rw [a];exact HQ q
 rw [this];exact ⟨c,a⟩
def oG{T p:D}{s:Sg}{c:Str}{ns:List Str}{r:List D}(h:so p (.ins c ns (T::r))=some s):∃q v,DP [T,p]=.ok (.tup [q,v])/\s=mkS c ns (T::r) (unF q) v:=by
 have h:(match DP [T,p] with
  | .ok (.tup [q,v])=>some (mkS c ns (T::r) (unF q) v)
  | _=>none)=some s:=h
 split at h
 .next q v a=>
  cases h;exact ⟨q,v,a,rfl⟩
 .cases h
def q8{d:D}{px py ps:Int}{s:Sg}(h:Thg d)(cp:Cr px py ps)(hp:1<=ps)(e:so (.tup [.int px,.int py,.int ps]) d=some s):CG d<=s.q:=by
 have b:∀{k:Nat} {c:Str} {ns:List Str} {T:D} {r:List D},Tr k T->k<=3->Thg (.ins c ns (T::r))->dFld objs "triangle" (.ins c ns (T::r))=.ok T->so (.tup [.int px,.int py,.int ps]) (.ins c ns (T::r))=some s->CG (.ins c ns (T::r))<=s.q:=λj a f g e=>by
  obtain ⟨q,v,i,rfl⟩:=oG e;exact uc j a cp hp (eQ f g).2 i
 cases h with
 | plain t a hq=>exact b t a (.plain t a hq) (fT1 _ _) e
 | shaded t a h1=>exact b t a (.shaded t a h1) (fT2 _) e
 | patt t a h2 hh hw hP=>exact b t a (.patt t a h2 hh hw hP) (fT3 _ _) e
 | glass t a hq hr h0 h1=>exact b t a (.glass t a hq hr h0 h1) (fT4 _ _ _) e
def PtD(p:D):Prop:=∃x y,p=pt8 x y/\(0<=x/\x<=1000)/\0<=y/\y<=1000
def Xb(h:Thg d)(hp:PtD p):Seen p d (so p d):=by
 obtain ⟨x,y,rfl,a,b⟩:=hp;exact iD h (cr8 a b) (by decide)
def j8(h:Thg d)(S:Seen p d (so p d))(e:so p d=some s):s.gl=glD d:=by
 obtain ⟨l,g⟩:=S.ok s e;obtain ⟨c,u,q,i,_,_,⟨f,m,k⟩,_⟩:=g.ob;obtain ⟨r,n,o,j,_,t,b,a⟩:=jy h;rw [l] at i k;rw [j] at i;cases i;rw [m] at b;cases b;rw [k] at a;exact D.bl.inj (Res.ok.inj a)
def upd1(g:Bool)(o:Option Sg)(l:Option Rat):Option Rat:=match o with
 | none=>l
 | some s=>if g=true then l else some (lesO l s.q)
def updL(g:Bool)(os:List (Option Sg))(L:List (Option Rat)):List (Option Rat):=List.zipWith (upd1 g) os L
def row1(o:Option Sg)(cs:List D):List D:=match o with
 | none=>cs
 | some s=>cs++[encS s]
def SM(os:List (Option Sg))(dss:List (List D)):List (List D):=List.zipWith row1 os dss
def Kw:MY:=sqY (lft (st 6 (on DP (Aa (o1 (dFld objs "triangle") (v 0)) (Aa (v 5) Ab)))))
  (sqY (ifY (trb (o1 dIsN (v 6)))
  (lft cnt)
  (lft nop))
  (sqY (appY (v 4) (mtp (Aa (v 0) (Aa (o2 dIx (v 6) (cI 0)) (Aa (o2 dIx (v 6) (cI 1)) Ab)))))
  (ifY (bNot (trb (meth H8 "is_glass" (v 0) Ab)))
  (lft (setO 3 (pkN 3 (on Nm (Aa (o2 dIx (v 3) (v 4)) (Aa (o2 dIx (v 6) (cI 0)) Ab)))) (v 4)))
  (lft nop))))
def n8(h:Thg d)(hp:PtD p)(hb:∀q,l=some q->Bq 300 q)(hr:r.length<10000)(hn:R1.length=L1.length) :
  Tl (Kw [.im d,.im pts,.no,.ow ((L1++l::L2).map dO),.im (.int (L1.length:Int)),.im p,v6] (R1++r::R2)) λx=>∃v6' f,x=(f,R1++row1 (so p d) r::R2)/\(f=.nx [.im d,.im pts,.no,.ow ((L1++upd1 (glD d) (so p d) l::L2).map dO),.im (.int (L1.length:Int)),.im p,v6']\/f=.ct [.im d,.im pts,.no,.ow ((L1++upd1 (glD d) (so p d) l::L2).map dO),.im (.int (L1.length:Int)),.im p,v6']):=by
 have S:=Xb h hp;obtain ⟨T,c,m⟩:=S.tri;unfold Kw;refine Ez (Ey ?_);symm;refine Ah c ?_;symm;refine Ah m ?_;cases eo:so p d with
 | none=>
  show Tl (goY _ (.nx [.im d,.im pts,.no,.ow ((L1++l::L2).map dO),.im (.int (L1.length:Int)),.im p,.im .non],_)) _;refine FZ (Ez (Lb ?_));symm;refine Ey ?_;symm;exact ZxM ⟨_,_,rfl,.inr rfl⟩
 | some s=>
  have k:=(S.ok s eo).2;have a:=(S.ok s eo).1;have n:=j8 h S eo;have e:=k.bq;show Tl (goY _ (.nx [.im d,.im pts,.no,.ow ((L1++l::L2).map dO),.im (.int (L1.length:Int)),.im p,.im (.tup [frD s.q,s.v])],_)) _;refine FZ (Ez (Lb ?_));symm;refine Ey ?_;symm;refine FZ (Ez (ZwV (i:=L1.length) rfl (by rw [<-hn];exact Ys _ _ _) hr ?_));symm;refine FZ (Lb ?_);symm;refine Zsv h rfl ?_;symm;have g:(R1++r::R2).set L1.length (r++[.tup [d,frD s.q,s.v]])=R1++row1 (some s) r::R2:=by
   rw [<-hn,fK];show _=R1++(r++[encS s])::R2;unfold encS;rw [a]
  rw [g];unfold upd1;cases hgl:glD d with
  | true=>
   show Tl (if (!true)=true then _ else _) _
   symm;refine Ey ?_;symm;exact ⟨_,_,rfl,.inl rfl⟩
  | false=>
   show Tl (if (!false)=true then _ else _) _
   symm;refine Ey (ZwS rfl (jD rfl ?_));have j:((L1++l::L2).map dO)[L1.length]?=some (dO l):=by
    rw [Ft,Bk];have:=Ys (L1.map dO) (dO l) (L2.map dO);rwa [Al] at this
   symm;refine Zq j ?_;symm;refine Zo3 hb e ?_;refine ⟨rfl,?_⟩;symm;refine ⟨L1.length,rfl,by simp,.im (.tup [frD s.q,s.v]),_,rfl,.inl ?_⟩;have b:((L1++l::L2).map dO).set L1.length (frD (lesO l s.q))=(L1++some (lesO l s.q)::L2).map dO:=by
    rw [Ft,Bk];have:=fK (L1.map dO) (dO l) (frD (lesO l s.q)) (L2.map dO);rw [Al] at this;rw [this,Ft,Bk];rfl
   show Fl.nx [_,_,_,Cl.ow (((L1++l::L2).map dO).set L1.length (frD (lesO l s.q))),_,_,_]=_;rw [b];rfl
def Zrp(h:Thg d):∀ps L1 L2 R1 R2 v4 v5 v6,(∀p∈ps,PtD p)->L2.length=ps.length->R2.length=ps.length->R1.length=L1.length->Bs L2->(∀cs∈R2,cs.length<10000) ->
  ∃w4 w5 w6,Dd (gU 2 (gs1 (gN 4) (gs1 (gN 5) gs0))) Kw (numbered L1.length ps) [.im d,.im pts,.no,.ow ((L1++L2).map dO),v4,v5,v6] (R1++R2)=.ok (.nx [.im d,.im pts,.no,.ow ((L1++updL (glD d) (ps.map (so · d)) L2).map dO),w4,w5,w6],R1++SM (ps.map (so · d)) R2):=by
 intro ps
 induction ps with
 | nil=>
  intro L1 L2 R1 R2 v4 v5 v6 _ b c _ _ _;cases UJ.mp b;cases UJ.mp c;exact ⟨v4,v5,v6,rfl⟩
 | cons p ps ih=>
  intro L1 L2 R1 R2 v4 v5 v6 g b c j i k;cases L2 with
  | nil=>cases b
  | cons l L2=>
  cases R2 with
  | nil=>cases c
  | cons r R2=>
  obtain ⟨x,ex,v6',f,rfl,hf⟩:=n8 (pts:=pts) (l:=l) (L1:=L1) (L2:=L2) (R1:=R1) (R2:=R2) (r:=r) (v6:=v6) h (g p (BX ..)) (λq e=>i q (by rw [e];exact BX ..)) (k r (BX ..)) j;obtain ⟨w4,w5,w6,e⟩:=ih (L1++[upd1 (glD d) (so p d) l]) L2 (R1++[row1 (so p d) r]) R2 (.im (.int (L1.length:Int))) (.im p) v6' (λq a=>g q (Bf _ a)) (by simpa using b) (by simpa using c) (by simp [j]) (λq a=>i q (Bf _ a)) (λq a=>k q (Bf _ a));refine ⟨w4,w5,w6,?_⟩;show (Kw [.im d,.im pts,.no,.ow ((L1++l::L2).map dO),.im (.int (L1.length:Int)),.im p,v6] (R1++r::R2)).bind (Pj (Dd _ Kw (numbered (L1.length+1) ps)))=_;rw [ex];rw [Di,MK,Fx,Fx,Fx,Fx] at e;rcases hf with rfl | rfl<;>exact e
def yz(h:Thg d)(hp:∀p∈ps,PtD p)(hl:L.length=ps.length)(hd:dss.length=ps.length)(hb:Bs L)(hc:∀cs∈dss,cs.length<10000) :
  Jp [.im d,.im (.lst ps),.no,.ow (L.map dO)] dss=.ok ([.im d,.im (.lst ps),.no,.ow ((updL (glD d) (ps.map (so · d)) L).map dO)],SM (ps.map (so · d)) dss):=by
 obtain ⟨a,c,b,e⟩:=Zrp (pts:=.lst ps) h ps [] L [] dss .no .no .no hp hl hd rfl hb hc;show (Dd (gU 2 (gs1 (gN 4) (gs1 (gN 5) gs0))) Kw (numbered 0 ps) [.im d,.im (.lst ps),.no,.ow (L.map dO),.no,.no,.no] dss).bind (endY [2,3] _)=_;rw [show numbered 0 ps=numbered ([]:List (Option Rat)).length ps from rfl,show L.map dO=(([]:List (Option Rat))++L).map dO from rfl,show dss=[]++dss from rfl,e];rfl
def CV(ps:List D):Nat->List (Option Rat)->List D->List (Nat×Rat×Rat)
 | _,_,[]=>[]
 | n,L,d::r=>match farO L with
  | some f=>if CG d<f then CV ps (n+1) (updL (glD d) (ps.map (so · d)) L) r else (n,CG d,f)::CV ps (n+1) L r
  | none=>CV ps (n+1) (updL (glD d) (ps.map (so · d)) L) r
def kptL(ps:List D):List (Option Rat)->List D->List D
 | _,[]=>[]
 | L,d::r=>match farO L with
  | some f=>if CG d<f then d::kptL ps (updL (glD d) (ps.map (so · d)) L) r else kptL ps L r
  | none=>d::kptL ps (updL (glD d) (ps.map (so · d)) L) r
def encG(t:Nat×Rat×Rat):D:=.tup [.int (t.1:Int),frD t.2.1,frD t.2.2]
def Us:∀{as:List α} {bs:List β} {c:γ},c∈List.zipWith f as bs->∃a∈as,∃b∈bs,c=f a b
 | [],_,_,h=>by simp at h
 | _::_,[],_,h=>by simp at h
 | a::as,b::bs,c,h=>by
  rw [Qc] at h;rcases BV.mp h with rfl | h
  .simp_all
  .obtain ⟨j,i,d,g,e⟩:=Us h
   grind
def gD{g:Bool}{os:List (Option Sg)}{L:List (Option Rat)}(h:Bs L)(ho:∀s,some s∈os->GS s):Bs (updL g os L):=λq b=>by
 obtain ⟨o,a,l,c,e⟩:=Us b;unfold upd1 at e;cases o with
 | none=>exact h q (by lia)
 | some s=>
  have e:some q=if g=true then l else some (lesO l s.q):=e
  split at e
  .exact h q (by lia)
  .cases e;exact rP (λm a=>h m (by lia)) (ho s a).bq
def rowS(os:List (Option Sg))(ls:List (List Sg)):List (List Sg):=List.zipWith (λo l=>l++o.toList) os ls
def X8:∀(os:List (Option Sg)) (ls:List (List Sg)),SM os (ls.map λl=>l.map encS)=(rowS os ls).map λl=>l.map encS
 | [],_=>by rfl
 | _::_,[]=>by rfl
 | o::os,l::ls=>by
  have ih:=X8 os ls;unfold SM rowS at ih ⊢;rw [Bk,Qc,Qc,Bk,ih];cases o with
  | none=>simp [row1]
  | some s=>simp [row1]
def addK(ps:List D)(ls:List (List Sg))(K:List D):List (List Sg):=K.foldl (λls d=>rowS (ps.map (so · d)) ls) ls
def lkB:MY:=sqY (lft (st 7 (on G8 (Aa (o1 (dFld objs "triangle") (v 6)) Ab))))
  (sqY (lft (st 8 (pkN 3 (on Oj (Aa (v 3) Ab)))))
  (ifY (bAnd (trb (o1 Ih (v 8))) (bNot (trb (on GF (Aa (v 7) (Aa (v 8) Ab))))))
  (lft (app 4 (mtp (Aa (v 5) (Aa (v 7) (Aa (v 8) Ab))))))
  (HF Jp 3 (some 3) (rIm (v 6) (rIm (v 1) (rRg (rOw 3 rNil)))))))
def Zw3(o):noL (dO o)=true:=by cases o<;>rfl
def lZ{ps:List D}{L:List (Option Rat)}{out:List (Nat×Rat×Rat)}{ls:List (List Sg)}(hp:∀p∈ps,PtD p)(hne:ps≠[])(h:Thg d)(hl:L.length=ps.length)(hb:Bs L)(hs:ls.length=ps.length)(hg:∀l∈ls,(∀s∈l,GS s)/\l.length<=n)(hn:n<=9000)(ho:out.length<=n) :
  ∃(L':List (Option Rat)) (ls':List (List Sg)) (out':List (Nat×Rat×Rat)) (w7 w8:Cl),lkB [.im T,.im (.lst ps),.no,.ow (L.map dO),.ow (out.map encG),.im (.int n),.im d,v7,v8] (ls.map λl=>l.map encS)=.ok (.nx [.im T,.im (.lst ps),.no,.ow (L'.map dO),.ow (out'.map encG),.im (.int n),.im d,w7,w8],ls'.map λl=>l.map encS) /\
   L'.length=ps.length/\Bs L'/\ls'.length=ps.length/\(∀l∈ls',(∀s∈l,GS s)/\l.length<=n+1)/\out'.length<=n+1/\(∀r,out++CV ps n L (d::r)=out'++CV ps (n+1) L' r)/\∀r,addK ps ls (kptL ps L (d::r))=addK ps ls' (kptL ps L' r):=by
 obtain ⟨k,K,t,x⟩:=cO h;obtain ⟨B,E⟩:=eQ h x;have j:L≠[]:=λz=>hne (UJ.mp (by simp_all));have A:∀s,some s∈ps.map (so · d)->GS s:=λs G=>by
  obtain ⟨p,m,e⟩:=By.mp G;exact ((Xb h (hp p m)).ok s e).2
 have a:∀{U:Fl×List (List D)->Prop},Tl (ifY (bAnd (trb (o1 Ih (v 8))) (bNot (trb (on GF (Aa (v 7) (Aa (v 8) Ab)))))) (lft (app 4 (mtp (Aa (v 5) (Aa (v 7) (Aa (v 8) Ab)))))) (HF Jp 3 (some 3) (rIm (v 6) (rIm (v 1) (rRg (rOw 3 rNil))))) [.im T,.im (.lst ps),.no,.ow (L.map dO),.ow (out.map encG),.im (.int n),.im d,.im (frD (CG d)),.im (dO (farO L))] (ls.map λl=>l.map encS)) U->Tl (lkB [.im T,.im (.lst ps),.no,.ow (L.map dO),.ow (out.map encG),.im (.int n),.im d,v7,v8] (ls.map λl=>l.map encS)) U:=λ{U} q=>by
  unfold lkB;refine Ez (Ey ?_);symm;refine Ah x ?_;symm;refine Ah E ?_;refine FZ (Ez (Ey (w_st (jD rfl ?_))));symm;refine zO j hb ?_;exact ⟨Zw3 _,FZ q⟩
 have i:∀{w7 w8:Cl},HF Jp 3 (some 3) (rIm (v 6) (rIm (v 1) (rRg (rOw 3 rNil)))) [.im T,.im (.lst ps),.no,.ow (L.map dO),.ow (out.map encG),.im (.int n),.im d,w7,w8] (ls.map λl=>l.map encS)=.ok (.nx [.im T,.im (.lst ps),.no,.ow ((updL (glD d) (ps.map (so · d)) L).map dO),.ow (out.map encG),.im (.int n),.im d,w7,w8],(rowS (ps.map (so · d)) ls).map λl=>l.map encS):=λ{w7 w8}=>by
  have e:=yz h hp hl (dss:=ls.map λl=>l.map encS) (by simp_all) hb (λI N=>by
   grind)
  show (noEx (Jp [.im d,.im (.lst ps),.no,.ow (L.map dO)] (ls.map λl=>l.map encS))).bind _=_;rw [e,X8];rfl
 have u:(updL (glD d) (ps.map (so · d)) L).length=ps.length:=by unfold updL;simp_all
 have y:(rowS (ps.map (so · d)) ls).length=ps.length:=by unfold rowS;simp_all
 have w:∀l∈rowS (ps.map (so · d)) ls,(∀s∈l,GS s)/\l.length<=n+1:=λl b=>by
  obtain ⟨o,M,J,O,rfl⟩:=Us b
  grind
 cases ef:farO L with
 | none=>
  refine ⟨updL (glD d) (ps.map (so · d)) L,rowS (ps.map (so · d)) ls,out,.im (frD (CG d)),.im (dO (farO L)),Tl.eq (a ?_),u,gD hb A,y,w,by lia,λr=>?_,λr=>?_⟩
  .rw [ef];show Tl (ifY _ _ _ [.im T,.im (.lst ps),.no,.ow (L.map dO),.ow (out.map encG),.im (.int n),.im d,.im (frD (CG d)),.im .non] _) _;refine Lb ?_;symm;exact Ah i rfl
  .show out++(match farO L with | some f=>_ | none=>CV ps (n+1) (updL (glD d) (ps.map (so · d)) L) r)=_
   rw [ef]
  .show addK ps ls (match farO L with | some f=>_ | none=>d::kptL ps (updL (glD d) (ps.map (so · d)) L) r)=_
   rw [ef];rfl
 | some f=>
  have F:=wU hb j ef;have g:∀{Ψ:Bool->Prop},Ψ (!decide (CG d<f))->Tl (bAnd (trb (o1 Ih (v 8))) (bNot (trb (on GF (Aa (v 7) (Aa (v 8) Ab))))) [.im T,.im (.lst ps),.no,.ow (L.map dO),.ow (out.map encG),.im (.int n),.im d,.im (frD (CG d)),.im (frD f)]) Ψ:=λ{Ψ} q=>by
   have H:JP (frD f)=false:=rfl;symm;refine Jr B F ?_;symm;exact q
  by_cases c:CG d<f
  .refine ⟨updL (glD d) (ps.map (so · d)) L,rowS (ps.map (so · d)) ls,out,.im (frD (CG d)),.im (dO (farO L)),Tl.eq (a ?_),u,gD hb A,y,w,by lia,λr=>?_,λr=>?_⟩
   .rw [ef];refine Lb (g ?_);rw [Dv c];exact Ah i rfl
   .show out++(match farO L with | some f=>if CG d<f then CV ps (n+1) (updL (glD d) (ps.map (so · d)) L) r else _ | none=>_)=_
    lia
   .show addK ps ls (match farO L with | some f=>if CG d<f then d::kptL ps (updL (glD d) (ps.map (so · d)) L) r else _ | none=>_)=_
    rw [ef];show addK ps ls (if CG d<f then _ else _)=_
    rw [iP c];rfl
  .refine ⟨L,ls,out++[(n,CG d,f)],.im (frD (CG d)),.im (dO (farO L)),Tl.eq (a ?_),hl,hb,hs,λl b=>⟨(hg l b).1,JM (hg l b).2⟩,by grind,λr=>?_,λr=>?_⟩
   .rw [ef];refine Lb (g ?_);rw [Jg c];show Tl (lft _ _ _) _;refine Ey ?_;have C:(out.map encG).length<1000000:=by grind
    symm;refine ⟨C,?_⟩;rw [Ft];rfl
   .show out++(match farO L with | some f=>if CG d<f then _ else (n,CG d,f)::CV ps (n+1) L r | none=>_)=_
    simp_all
   .show addK ps ls (match farO L with | some f=>if CG d<f then _ else kptL ps L r | none=>_)=_
    lia
def mO{ps:List D}(hp:∀p∈ps,PtD p)(hne:ps≠[]):∀(ts:List D) (n:Nat) (L:List (Option Rat)) (out:List (Nat×Rat×Rat)) (ls:List (List Sg)) (v5 v6 v7 v8:Cl),(∀t∈ts,Thg t)->L.length=ps.length->Bs L->ls.length=ps.length->(∀l∈ls,(∀s∈l,GS s)/\l.length<=n)->n+ts.length<=9000->out.length<=n ->
  ∃(L':List (Option Rat)) (ls':List (List Sg)) (w5 w6 w7 w8:Cl),Dd (gU 2 (gs1 (gN 5) (gs1 (gN 6) gs0))) lkB (numbered n ts) [.im T,.im (.lst ps),.no,.ow (L.map dO),.ow (out.map encG),v5,v6,v7,v8] (ls.map λl=>l.map encS)=.ok (.nx [.im T,.im (.lst ps),.no,.ow (L'.map dO),.ow ((out++CV ps n L ts).map encG),w5,w6,w7,w8],ls'.map λl=>l.map encS)/\ls'.length=ps.length/\(∀l∈ls',(∀s∈l,GS s)/\l.length<=n+ts.length)/\ls'=addK ps ls (kptL ps L ts):=by
 intro ts
 induction ts with
 | nil=>
  intro n L out ls v5 v6 v7 v8 _ _ _ g c _ _;refine ⟨L,ls,v5,v6,v7,v8,?_,g,c,rfl⟩;show Res.ok _=_;rw [show CV ps n L []=[] from rfl,CN]
 | cons d ts ih=>
  intro n L out ls v5 v6 v7 v8 i A m g c C z;rw [Gp] at C;obtain ⟨L',ls',a,w7,w8,e,G,o,j,v,B,u,x⟩:=lZ (T:=T) (v7:=v7) (v8:=v8) hp hne (i d (BX ..)) A m g c (by lia) z;obtain ⟨F,b,y,E,k,H,w,r,q,I⟩:=ih (n+1) L' a ls' (.im (.int n)) (.im d) w7 w8 (λt h=>i t (Bf _ h)) G o j v (by lia) B;refine ⟨F,b,y,E,k,H,?_,r,λl f=>⟨(q l f).1,by grind⟩,by simp_all⟩;rw [u ts];show (lkB [.im T,.im (.lst ps),.no,.ow (L.map dO),.ow (out.map encG),.im (.int n),.im d,v7,v8] (ls.map λl=>l.map encS)).bind (Pj (Dd _ lkB (numbered (n+1) ts)))=_;rw [e];exact w
def iB{U:Fl->Prop}{k:MY}(h1:me Z=.ok (.lst ds))(h2:GP ds=some dss)(hi:i<Z.length)(h:Tl (k (Z.set i .no) dss) λp=>∃x,p.1=.rt x/\U (.rt x)):Tl (regY i me k Z) U:=by
 obtain ⟨⟨f,r⟩,e,x,rfl,q⟩:=h;refine Ah ?_ q;unfold regY;rw [h1];show (match GP ds with | some dss=>if i<Z.length then (noEx (k (Z.set i .no) dss)).bind fstY else .bad | none=>.bad)=_
 rw [h2];show (if i<Z.length then (noEx (k (Z.set i .no) dss)).bind fstY else .bad)=_
 rw [iP hi,e];rfl
def ZZ:∀ps:List α,GP (ps.map λ_=>D.lst [])=some (ps.map λ_=>[])
 | []=>rfl
 | _::r=>by
  show (if noLs []=true then (GP (r.map λ_=>D.lst [])).bind λq=>some ([]::q) else none)=_
  rw [ZZ r];rfl
def wG{ts ps:List D}(hp:∀p∈ps,PtD p)(hne:ps≠[])(hps:ps.length<=100000)(ht:∀t∈ts,Thg t)(hn:ts.length<=9000) :
  ∃ls:List (List Sg),ls=addK ps (ps.map λ_=>[]) (kptL ps (ps.map λ_=>none) ts)/\ls.length=ps.length/\(∀l∈ls,(∀s∈l,GS s)/\l.length<=ts.length)/\O9 [.lst ts,.lst ps]=.ok (.tup [.lst (ls.map λl=>D.lst (l.map encS)),.lst ((CV ps 0 (ps.map λ_=>none) ts).map encG)]):=by
 obtain ⟨h,ls,r,i,j,k,e,s,g,m⟩:=mO (T:=.lst ts) hp hne ts 0 (ps.map λ_=>none) [] (ps.map λ_=>[]) .no .no .no .no ht (by simp_all) (λq u=>by
  simp_all) (by simp_all) (λl b=>by
  simp_all) (by lia) (Ae _)
 refine ⟨ls,m,s,λl b=>⟨(g l b).1,by simp_all⟩,Tl.eq ?_⟩
 have c:∀{Z:Ev} {e:ME} {x:D},Z[1]?=some (.im (.lst ps))->(∀p∈ps,e [.im p]=.ok x)->comp (iv (v 1)) 1 [] (gN 0) yes e Z=.ok (.lst (ps.map λ_=>x)):=λ{Z e x} o d=>Tl.eq (Up (w_iv (w_v o (ZL ⟨by lia,by
  have:=Fe (U:=λn=>D.lst n=.lst (ps.map λ_=>x)) (g:=gN 0) (e:=e) (Z:=noA 1 (Br Z [])) (enc:=λp:D=>p) (λ_=>x) (l:=ps) (λp a=>w_gN (Ah (d p a) rfl)) rfl
  simp_all⟩))))
 unfold O9;refine w_fn (iB (c rfl λp _=>rfl) (ZZ ps) (by show 2<9;decide) ?_);refine Ez (Ey (WM (Ah (c rfl λp _=>rfl) (Xg ?_))));refine FZ (Ez (Ey ?_));symm;refine FZ (Ez (Ah (x:=(.nx [.im (.lst ts),.im (.lst ps),.no,.ow (h.map dO),.ow ((CV ps 0 (ps.map λ_=>none) ts).map encG),r,i,j,k],ls.map λl=>l.map encS)) ?_ ?_))
 .show Dd _ lkB (numbered 0 ts) _ _=_;have w:((ps.map λ_=>([]:List Sg)).map λl=>l.map encS)=ps.map λ_=>[]:=by simp_all
  have f:(ps.map λ_=>(none:Option Rat)).map dO=ps.map λ_=>D.non:=by rw [DX];rfl
  simp_all
 .refine FZ ?_;refine Ah (x:=(.rt (.tup [.lst ((ls.map λl=>l.map encS).map .lst),.lst ((CV ps 0 (ps.map λ_=>none) ts).map encG)]),ls.map λl=>l.map encS)) rfl ⟨_,rfl,?_⟩;refine w_eR ?_;simp_all
def OJ(A:List D)(d p:D):sgs (A++[d]) p=sgs A p++(so p d).toList:=by
 unfold sgs
 grind
def zX(ps:List D)(d:D)(A:List D):rowS (ps.map (so · d)) (ps.map λp=>sgs A p)=ps.map λp=>sgs (A++[d]) p:=by
 unfold rowS
 induction ps with
 | nil=>rfl
 | cons p ps ih=>
  rw [Bk,Bk,Qc,Bk,ih,OJ]
def g8(ps:List D):∀K A:List D,addK ps (ps.map λp=>sgs A p) K=ps.map λp=>sgs (A++K) p
 | [],A=>by rw [CN];rfl
 | d::K,A=>by
  show addK ps (rowS (ps.map (so · d)) (ps.map λp=>sgs A p)) K=_;rw [zX,g8 ps K (A++[d]),Fx];rfl
def Nr(n n0:Option Sg):Prop:=∀m,n0=some m->∃a,n=some a/\a.q<=m.q
structure Hid(l l':List Sg):Prop where
 n:near l=near l'
 l:∀n,Nr n (near l)->lay n l=lay n l'
def Nr.refl(n:Option Sg):Nr n n:=λm h=>⟨m,h,Rat.le_refl⟩
def Nr.snoc{n n0:Option Sg}{s:Sg}(h:Nr n (Fd n0 s)):Nr n n0:=by
 intro m e;subst e;unfold Fd at h;by_cases c:s.gl=true
 .rw [iP c] at h;exact h m rfl
 .rw [iN c] at h;by_cases c2:s.q<m.q
  .obtain ⟨d,a,b⟩:=h s (by lia)
   grind
  .exact h m (by lia)
def Hid.refl(l:List Sg):Hid l l:=⟨rfl,λ_ _=>rfl⟩
def Hid.snoc{l l':List Sg}(h:Hid l l')(s:Sg):Hid (l++[s]) (l'++[s]):=by
 refine ⟨by rw [KJ,KJ,h.n],λn a=>?_⟩;rw [KJ] at a;rw [Iv,Iv,h.l n a.snoc]
def Hid.gone{l l':List Sg}(h:Hid l l'){s m:Sg}(e:near l=some m)(c:m.q<=s.q):Hid (l++[s]) l':=by
 have b:near (l++[s])=near l:=by
  rw [KJ,e];unfold Fd
  grind
 refine ⟨b.trans h.n,λn a=>?_⟩;rw [b] at a;obtain ⟨g,d,f⟩:=a m e;rw [Iv,iN,h.l n a];unfold Ed
 grind
def Hid.col{l l':List Sg}(h:Hid l l')(g:Rat):colQ g l=colQ g l':=by
 unfold colQ;rw [h.l _ (Nr.refl _),h.n]
def tK(l:List Rat):∀m:Rat,m<=l.foldl maxQ m/\∀q∈l,q<=l.foldl maxQ m:=by
 induction l with
 | nil=>simp_all
 | cons a r ih=>
  intro m;obtain ⟨e,d⟩:=ih (maxQ m a);have b:m<=maxQ m a:=by unfold maxQ;grind
  have c:a<=maxQ m a:=by unfold maxQ;grind
  grind
def ZwK{L:List (Option Rat)}{f:Rat}(e:farO L=some f):∀o∈L,∃q,o=some q/\q<=f:=by
 unfold farO at e;split at e
 .next c=>
  cases e;intro o a;have z:=all_some c;rw [z] at a;obtain ⟨q,b,rfl⟩:=By.mp a;exact ⟨q,rfl,(tK _ _).2 q b⟩
 lia
def nrQ(K:List D)(p:D):Option Rat:=(near (sgs K p)).map (·.q)
def mD{d p:D}{K:List D}(h:Thg d)(hp:PtD p):upd1 (glD d) (so p d) (nrQ K p)=nrQ (K++[d]) p:=by
 unfold nrQ;rw [OJ];cases e:so p d with
 | none=>rw [show (none:Option Sg).toList=[] from rfl,CN];rfl
 | some s=>
  rw [show (some s).toList=[s] from rfl,KJ];have a:=j8 h (Xb h hp) e;unfold upd1 Fd;rw [a];by_cases c:glD d=true
  .lia
  .show (if glD d=true then _ else _)=_
   rw [iN c,iN c];cases near (sgs K p) with
   | none=>rfl
   | some m=>
    show some (minQ m.q s.q)=(if s.q<m.q then some s else some m).map _
    unfold minQ
    grind
def kO{d:D}{K:List D}(h:Thg d):∀{ps:List D},(∀p∈ps,PtD p)->updL (glD d) (ps.map (so · d)) (ps.map (nrQ K))=ps.map (nrQ (K++[d]))
 | [],_=>rfl
 | p::ps,hp=>by
  have ih:=kO h (K:=K) (ps:=ps) (λq a=>hp q (Bf _ a));unfold updL at ih ⊢;rw [Bk,Bk,Qc,ih,mD h (hp p (BX ..))];rfl
theorem VR{ps:List D}(hp:∀p∈ps,PtD p):∀(ts A K:List D),(∀t∈ts,Thg t)->(∀p∈ps,Hid (sgs A p) (sgs K p))->∀p∈ps,Hid (sgs (A++ts) p) (sgs (K++kptL ps (ps.map (nrQ K)) ts) p)
 | [],A,K,_,h=>by
  intro p b;rw [CN,show kptL ps (ps.map (nrQ K)) []=[] from rfl,CN]
  grind
 | d::r,A,K,ht,h=>by
  have i:=ht d (BX ..);have j:∀t∈r,Thg t:=λt z=>ht t (Bf _ z);have k:∀p∈ps,Hid (sgs (A++d::r) p) (sgs (K++d::kptL ps (updL (glD d) (ps.map (so · d)) (ps.map (nrQ K))) r) p):=by
   intro p b
   have:=VR hp r (A++[d]) (K++[d]) j (λq a=>by
    rw [OJ,OJ];cases so q d with
    | none=>simp_all
    | some s=>exact (h q a).snoc s) p b
   rw [Fx,Fx,<-kO i hp] at this
   grind
  have e:kptL ps (ps.map (nrQ K)) (d::r)=match farO (ps.map (nrQ K)) with
   | some f=>if CG d<f then d::kptL ps (updL (glD d) (ps.map (so · d)) (ps.map (nrQ K))) r else kptL ps (ps.map (nrQ K)) r
   | none=>d::kptL ps (updL (glD d) (ps.map (so · d)) (ps.map (nrQ K))) r:=rfl
  cases ef:farO (ps.map (nrQ K)) with
  | none=>
   simp_all
  | some f=>
   rw [ef] at e;by_cases c:CG d<f
   .simp_all
   .rw [e];show ∀p∈ps,Hid _ (sgs (K++if CG d<f then _ else _) p)
    rw [iN c];intro p b
    have:=VR hp r (A++[d]) K j (λq a=>by
     rw [OJ];cases es:so q d with
     | none=>simp_all
     | some s=>
      obtain ⟨z,g,u⟩:=ZwK ef _ (By.mpr ⟨q,a,rfl⟩);unfold nrQ at g;cases en:near (sgs K q) with
      | none=>simp_all
      | some m=>
       rw [en] at g;cases g;obtain ⟨x,y,rfl,v,l⟩:=hp q a;have o:=q8 i (cr8 v l) (by decide) es
       exact (h _ a).gone ((h _ a).n.trans en) (Rat.le_trans u (Rat.le_trans (Rat.not_lt.mp c) o))) p b
    simp_all
def ZpL{ps ts:List D}(hp:∀p∈ps,PtD p)(ht:∀t∈ts,Thg t)(g:Rat){p:D}(hm:p∈ps):colQ g (sgs (kptL ps (ps.map λ_=>none) ts) p)=colQ g (sgs ts p):=by
 have:=VR hp ts [] [] ht (λq _=>Hid.refl _) p hm;exact (this.col g).symm
def gf{U:List D->Prop}{i:Int}(h0:(-1000000000<=i/\i<=1000000000)/\(-1000000000<=j/\j<=1000000000))(h:U (Ci i (j - i).toNat)):Tl (rng2 [.int i,.int j]) U:=by
 refine Ah ?_ h;show (if (-1000000000<=i/\i<=1000000000)/\(-1000000000<=j/\j<=1000000000) then Res.ok (Ci i (j - i).toNat) else .bad)=_
 rw [iP h0]
abbrev cel(c r:Nat):Int×Int:=((c:Int),(r:Int))
noncomputable abbrev acr(W S:Nat):Nat:=(W+S - 1)/S
def Bh(W H S t:Nat):List (Int×Int):=(List.range (min (t/acr W S*S+S) H - t/acr W S*S)).flatMap λi=>(List.range (min (t%acr W S*S+S) W - t%acr W S*S)).map λj=>cel (t%acr W S*S+j) (t/acr W S*S+i)
def numT(W S c r:Nat):Nat:=r/S*acr W S+c/S
def Ti(W S t r:Nat):List (Int×Int):=((List.range W).filter λc=>decide (numT W S c r=t)).map λc=>cel c r
def lawL(W H S t:Nat):List (Int×Int):=(List.range H).flatMap (Ti W S t)
def gj{c S q:Nat}(hS:0<S):c/S=q↔q*S<=c/\c<q*S+S:=by
 have d:=Nat.div_add_mod c S;have e:=Jm c hS;rw [Nat.mul_comm] at d;constructor
 .rintro rfl
  lia
 .rintro ⟨a,b⟩;exact Nat.div_eq_of_lt_le (by lia) (by rw [Kz];lia)
def Og{W S c:Nat}(hS:0<S)(h:c<W):c/S<acr W S:=by
 have z:(c+S)/S<=(W+S - 1)/S:=Nat.div_le_div_right (by lia);rw [Nat.add_div_right c hS] at z;exact z
def Zr4{W S c r t:Nat}(hS:0<S)(hc:c<W):numT W S c r=t↔(t/acr W S*S<=r/\r<t/acr W S*S+S)/\t%acr W S*S<=c/\c<t%acr W S*S+S:=by
 have b:=Og hS hc;rw [<-gj hS,<-gj hS];unfold numT;constructor
 .rintro rfl;have a:(r/S*acr W S+c/S)/acr W S=r/S:=by
   rw [Ja,Nat.add_mul_div_right _ _ (DN (Bw _) b),Nat.div_eq_of_lt b,Hn]
  have d:(r/S*acr W S+c/S)%acr W S=c/S:=by
   rw [Ja,Nat.add_mul_mod_self_right,Nat.mod_eq_of_lt b]
  rw [a,d];exact ⟨rfl,rfl⟩
 .rintro ⟨a,d⟩;rw [a,d,Nat.mul_comm];exact Nat.div_add_mod t (acr W S)
def qe(h:l+n<=W)(hp:∀c,c<W->(p c=true↔l<=c/\c<l+n)):(List.range W).filter p=(List.range n).map (l+·):=by
 obtain ⟨m,rfl⟩ : ∃m,W=l+n+m:=⟨W - (l+n),by lia⟩;rw [List.range_add,List.range_add,OD,OD];have d:(List.range l).filter p=[]:=List.filter_eq_nil_iff.mpr λc a=>by
  grind
 have f:((List.range n).map (l+·)).filter p=(List.range n).map (l+·):=List.filter_eq_self.mpr λc a=>by
  grind
 have e:((List.range m).map (l+n+·)).filter p=[]:=List.filter_eq_nil_iff.mpr λc a=>by
  obtain ⟨j,b,rfl⟩:=By.mp a;have:=FP.mp b;rw [hp _ (by lia)]
  lia
 grind
def iu:∀{l:List Nat},(∀x∈l,f x=[])->l.flatMap f=[]
 | [],_=>rfl
 | x::r,h=>by
  simp_all
def dJ:∀{l:List Nat},(∀x∈l,f x=g x)->l.flatMap f=l.flatMap g
 | [],_=>rfl
 | x::r,h=>by
  rw [JX,JX,h x BX,dJ λy a=>h y (Bf _ a)]
def rW(h:l+n<=H)(hf:∀r,r<H->¬(l<=r/\r<l+n)->f r=[]):(List.range H).flatMap f=(List.range n).flatMap λi=>f (l+i):=by
 obtain ⟨m,rfl⟩ : ∃m,H=l+n+m:=⟨H - (l+n),by lia⟩
 rw [List.range_add,List.range_add,Pz,Pz,iu (l:=List.range l) λr a=>hf r (by grind) (by grind),iu (l:=(List.range m).map _) λr a=>by
  grind]
 rw [List.nil_append,CN,List.flatMap_map]
def Vo{t:Nat}(hS:0<S)(hW:0<W)(hH:0<H)(ht:t<acr W S*acr H S):t%acr W S*S<W/\t/acr W S*S<H:=by
 have a:∀{W q:Nat},0<W->q<acr W S->q*S<W:=λ{W q} c h=>by
  have:=(Nat.le_div_iff_mul_le hS).mp (show q+1<=(W+S - 1)/S from h)
  lia
 have b:0<acr W S:=DN (Bw _) (Og hS hW);exact ⟨a hW (Jm t b),a hH (Nat.div_lt_of_lt_mul ht)⟩
def jc{t:Nat}(hS:0<S)(hW:0<W)(hH:0<H)(ht:t<acr W S*acr H S):lawL W H S t=Bh W H S t:=by
 obtain ⟨f,g⟩:=Vo hS hW hH ht;unfold lawL Bh;have b:=@Zr4 W S;rw [rW (l:=t/acr W S*S) (n:=min (t/acr W S*S+S) H - t/acr W S*S) (by ac_rfl) λr e h=>?_]
 .refine dJ λi d=>?_;have d:=FP.mp d;unfold Ti;rw [qe (l:=t%acr W S*S) (n:=min (t%acr W S*S+S) W - t%acr W S*S) (by ac_rfl) λc a=>?_,DX]
  .rfl
  .rw [decide_eq_true_eq,b hS a];ac_rfl
 .unfold Ti;rw [List.filter_eq_nil_iff.mpr λc a=>?_]
  .rfl
  .have a:=FP.mp a;rw [decide_eq_true_eq,b hS a];ac_rfl
def ZrZ{t:Nat}(hS:0<S)(hW:0<W)(hH:0<H)(ht:t<acr W S*acr H S):∃p r,Bh W H S t=p::r:=by
 obtain ⟨c,d⟩:=Vo hS hW hH ht;unfold Bh;obtain ⟨n,b⟩ : ∃n,min (t/acr W S*S+S) H - t/acr W S*S=n+1:=⟨min (t/acr W S*S+S) H - t/acr W S*S - 1,by ac_rfl⟩;obtain ⟨m,a⟩ : ∃m,min (t%acr W S*S+S) W - t%acr W S*S=m+1:=⟨min (t%acr W S*S+S) W - t%acr W S*S - 1,by ac_rfl⟩;rw [b,a,Ob,Ob,JX,Bk,List.cons_append];exact ⟨_,_,rfl⟩
def eY{t:Nat}:p∈lawL W H S t↔∃c r,c<W/\r<H/\numT W S c r=t/\p=cel c r:=by
 unfold lawL Ti;rw [Jt];constructor
 .grind
 .rintro ⟨c,r,a,d,b,rfl⟩;exact ⟨r,FP.mpr d,By.mpr ⟨c,List.mem_filter.mpr ⟨FP.mpr a,Dv b⟩,rfl⟩⟩
def lg64{n:Nat}(h:n<=1000000):((n:Int)).natAbs.log2<9000:=Sm.log (m:=64) (Sm.of64 (by lia) (by lia)) (by decide)
def mo64{a b:Nat}(ha:a<=1000000)(hb:b<=1000000):Bp (a:Int) (b:Int)=true:=Cz (m:=64) (n:=64) (Sm.of64 (by lia) (by lia)) (Sm.of64 (by lia) (by lia)) (by decide)
def LR(hS:0<S)(hW:0<W):1<=acr W S/\acr W S<=W:=by
 refine ⟨DN (Bw _) (Og hS hW),?_⟩
 have:(W+S - 1)/S<W+1:=(Nat.div_lt_iff_lt_mul hS).mpr (by
  have:S<=(W+1)*S - W*S:=by lia
  have:W<=W*S:=Nat.le_mul_of_pos_right W hS
  lia)
 lia
def Ro{W S:Nat}(hS:0<S)(hW:0<W):((W:Int)+(S:Int) - 1)/(S:Int)=((acr W S:Nat):Int):=by
 lia
structure Sz(W H S:Nat):Prop where
 w:1<=W/\W<=64
 h:1<=H/\H<=64
 s:1<=S/\S<=64
def xH{W H S t:Nat}(z:Sz W H S)(ht:t<acr W S*acr H S)(q:U (.lst ((Bh W H S t).map encP))):Tl (Qd [.int W,.int H,.int S,.int t]) U:=by
 obtain ⟨w,h,s⟩:=z;have c:0<S:=by lia
 have o:=LR c (show 0<W by lia);have x:=LR c (show 0<H by lia);have l:acr W S*acr H S<=64*64:=JH (by lia) (by lia);obtain ⟨u,k⟩:=Vo c (show 0<W by lia) (show 0<H by lia) ht;unfold Bh at q;generalize ea:acr W S=a at *;have e:=lg64 (show S<=1000000 by lia);have f:=lg64 (show a<=1000000 by lia);unfold Qd;symm;unfold J5;symm;rw [Ro c (by lia),ea];symm;rw [<-Int.natCast_emod];have y:t%a<=64:=by have:=Jm t (show 0<a by lia);lia
 have v:=mo64 (show t%a<=1000000 by lia) (show S<=1000000 by lia);symm;rw [<-K7];symm;rw [<-Int.natCast_ediv];have p:t/a<=4096:=by have:=Nat.div_le_self t a;lia
 have m:=mo64 (show t/a<=1000000 by lia) (show S<=1000000 by lia);symm;rw [<-K7];generalize t%a*S=left at *;generalize t/a*S=top at *;symm;symm;refine w_r2 ?_;symm;refine gf (by lia) ?_;symm;rw [show (min ((top:Int)+(S:Int)) (H:Int) - (top:Int)).toNat=min (top+S) H - top by lia];unfold Ci;refine LQ (λi Z=>∃d b:Cl,Z=[.im (.int W),.im (.int H),.im (.int S),.im (.int t),.im (.int a),.im (.int left),.im (.int top),.ow (((List.range i).flatMap λi=>(List.range (min (left+S) W - left)).map λj=>cel (left+j) (top+i)).map encP),d,b]) ⟨_,_,rfl⟩ ?_ ?_
 .rintro i g Z ⟨d,b,rfl⟩;have r:((List.range i).flatMap λi=>(List.range (min (left+S) W - left)).map λj=>cel (left+j) (top+i)).length<=i*64:=by
   clear g
   induction i with
   | zero=>simp
   | succ n ih=>
    rw [Ol,Pz,Di,JX,List.flatMap_nil,CN,Al,Ff]
    lia
  symm;refine w_r2 ?_;symm;refine gf (by lia) ?_;symm;rw [show (min ((left:Int)+(S:Int)) (W:Int) - (left:Int)).toNat=min (left+S) W - left by lia];unfold Ci;refine LQ (λj Z=>∃b:Cl,Z=[.im (.int W),.im (.int H),.im (.int S),.im (.int t),.im (.int a),.im (.int left),.im (.int top),.ow ((((List.range i).flatMap λi=>(List.range (min (left+S) W - left)).map λj=>cel (left+j) (top+i))++(List.range j).map λj=>cel (left+j) (top+i)).map encP),.im (.int ((top:Int)+(i:Int))),b]) ⟨_,by rw [List.range_zero,List.map_nil,CN]⟩ ?_ ?_
  .rintro j A Z ⟨b,rfl⟩;symm;refine ⟨by rw [Al,Di,Al,Ff];lia,?_⟩;refine ⟨_,rfl,.im (.int ((left:Int)+(j:Int))),?_⟩;rw [Ol];simp only [Ft,Fx,Bk,List.map_nil];rfl
  .rintro Z ⟨b,rfl⟩;refine ⟨_,rfl,.im (.int ((top:Int)+(i:Int))),b,?_⟩;rw [Ol,Pz,JX,List.flatMap_nil,CN]
 .rintro Z ⟨d,b,rfl⟩;symm;exact q
def X3{U:Fl->Prop}(e:Z[i]?=some (.ow xs))(h:Tl (a Z) λd=>Tl (lstO d) λys=>xs.length+ys.length<=LIM/\U (.nx (Z.set i (.ow (xs++ys))))):Tl (ext i a Z) U:=by
 obtain ⟨d,b,ys,c,f,q⟩:=h;refine Ah ?_ q;unfold ext;rw [e];show (a Z).bind _=_;rw [b];show (lstO d).bind _=_;rw [c];show (if xs.length+ys.length<=LIM then _ else _)=_
 lia
abbrev ptC(c d:Int×Int):D:=pt8 (8*c.1+d.1) (8*c.2+d.2)
def ptsL(cells dots:List (Int×Int)):List D:=cells.flatMap λc=>dots.map (ptC c)
def kI(cells dots):(ptsL cells dots).length=cells.length*dots.length:=by
 unfold ptsL
 induction cells with
 | nil=>simp
 | cons c r ih=>grind
def qW(cells dots)(c):ptsL (cells++[c]) dots=ptsL cells dots++dots.map (ptC c):=by
 unfold ptsL;simp_all
def Uv(cells:List (Int×Int)):Prop:=∀c∈cells,(0<=c.1/\c.1<=64)/\0<=c.2/\c.2<=64
def t7(hc:Uv cells)(hd:∀d∈dots,(1<=d.1/\d.1<=7)/\1<=d.2/\d.2<=7):∀p∈ptsL cells dots,PtD p:=λp a=>by
 obtain ⟨c,e,a⟩:=Jt.mp a;obtain ⟨d,b,rfl⟩:=By.mp a;have f:=hc c e;have g:=hd d b;exact ⟨_,_,rfl,by lia,by lia⟩
def ZkP(hc:Uv cells)(h1:cells.length<=4096)(h2:dots.length<=16)(q:U (.lst (ptsL cells dots))):Tl (QD [.lst (cells.map encP),.lst (dots.map encP)]) U:=by
 unfold QD;symm;refine Jo (enc:=encP) (λa Z=>∃b f,Z=[.im (.lst (cells.map encP)),.im (.lst (dots.map encP)),.ow (ptsL a dots),b,f]) ⟨_,_,rfl⟩ ?_ ?_
 .rintro a c r e Z ⟨b,f,rfl⟩;have h:=hc c (by grind);have g:a.length<=4096:=by
   grind
  rw [qW];unfold encP;symm;refine X3 rfl ?_;symm;refine ⟨by grind,?_⟩;refine Fe (ptC c) (λd i=>?_) ?_
  .symm;unfold O2;symm
  .symm;have:a.length*dots.length<=4096*16:=JH g h2;exact ⟨by rw [kI,Al];show _<=1000000;lia,_,rfl,_,_,rfl⟩
 .rintro Z ⟨b,f,rfl⟩;symm;exact q
theorem cu:∀{l m:List Int},l.Perm m->l.Pairwise (·<=·)->m.Pairwise (·<=·)->l=m
 | [],_,h,_,_=>h.nil_eq
 | _::_,[],h,_,_=>aB h.symm.nil_eq (by simp)
 | a::l,b::m,h,h1,h2=>by
  have c:=Dq.mp h1;have d:=Dq.mp h2;have e:a=b:=by
   have ha:a∈b::m:=h.mem_iff.mp (BX ..);have hb:b∈a::l:=h.mem_iff.mpr (BX ..);rcases BV.mp ha with e | ha
   .exact e
   .rcases BV.mp hb with e | hb
    .exact e.symm
    .have:=c.1 b hb;have:=d.1 a ha
     lia
  subst e;rw [cu (List.Perm.cons_inv h) c.2 d.2]
abbrev rgI(m:Nat):List Int:=(List.range m).map λk:Nat=>(k:Int)
def zP(m):(rgI m).Pairwise (·<=·):=by
 rw [Jz];exact List.pairwise_lt_range.imp λh=>by lia
def WR{m:Nat}(h:m<=10000):bLR [.int m]=.ok (.lst ((rgI m).map .int)):=by
 show (if 0<=(m:Int)/\(m:Int)<=10000 then Res.ok (D.lst ((List.range (m:Int).toNat).map λk:Nat=>D.int k)) else .bad)=_
 rw [iP ⟨by lia,by lia⟩,DX];rfl
def Xx:∀ns,Ia (ns.map .int)=.ok ns
 | []=>rfl
 | n::r=>by
  show (Ia (r.map .int)).bind _=_;rw [Xx r];rfl
def VP{m:Nat}{os:List Int}(h:os.Perm (rgI m))(hm:m<=60):Sq [.lst (os.map .int)]=.ok (.lst ((rgI m).map .int)):=by
 show (Ia (os.map .int)).bind _=_;rw [Xx];have a:(os.map D.int).length<64:=by
  have:=h.length_eq
  grind
 show (if (os.map D.int).length<64 then Res.ok (D.lst ((sortI os).map .int)) else .bad)=_
 rw [iP a,cu ((sortI_perm os).trans h) (W4 os) (zP m)]
def zF{U:Fl->Prop}(e1:Z[i]?=some (.ow xs))(e2:Z[j]?=some (.ow ys))(hx:xs.length<10000)(h:Tl (me Z) λd=>∃k v,d=.int k/\k<10000/\ys[k]?=some v/\U (.nx ((Z.set j (.ow (ys.eraseIdx k))).set i (.ow (xs++[v]))))):Tl (appP i j me Z) U:=by
 obtain ⟨d,a,k,v,rfl,e,b,q⟩:=h;refine Ah ?_ q;have f:=(Dc.mp b).1;unfold appP;rw [e1,e2,a]
 show (match (if 0<=(k:Int)/\(k:Int)<ys.length/\(k:Int)<10000 then some (k:Int).toNat else none) with
  | some c=>popP i j Z xs ys c
  | none=>.bad)=_
 rw [iP ⟨by lia,by lia,by lia⟩];show popP i j Z xs ys k=_;unfold popP
 lia
def YF(f:α->β):∀(l:List α) (k:Nat),(l.map f).eraseIdx k=(l.eraseIdx k).map f
 | [],_=>rfl
 | _::_,0=>rfl
 | a::r,k+1=>by show f a::(r.map f).eraseIdx k=_;rw [YF f r k];rfl
def gM:∀{l:List α} {k:Nat} (h:k<l.length),(l[k]::l.eraseIdx k).Perm l
 | _::_,0,_=>.refl _
 | a::r,k+1,h=>((List.Perm.swap a _ _).trans ((gM (l:=r) (k:=k) (by simp_all)).cons a))
def vR{U:D->Prop}{os:List Int}{m:Nat}(h:os.Perm (rgI m))(hm:m<=60)(q:U (.lst (os.map .int))):Tl (Jj [.lst (os.map .int),.int m]) U:=by
 have b:os.length<=60:=by
  have:=h.length_eq;simp_all
 unfold Jj;symm;refine ⟨by grind,?_⟩;refine Fe (λ_:Int=>D.bl true) (λx _=>?_) ?_
 .symm;refine ZM ?_;rfl
 symm;refine bQ (λ_ _=>rfl) ?_;symm;refine Ah (VP h hm) ?_;symm;refine Ah (WR (by lia)) ?_;symm;refine Ah (fQ ?_) ?_
 .have:∀l:List Int,Bb 49 (l.map .int)=true:=λl=>by
   induction l with
   | nil=>rfl
   | cons a r ih=>ext
  exact this _
 symm;exact q
def qQ(xs:List D)(ha:a<=b)(hb:b<=xs.length):cutL xs (some (a:Int)) (some (b:Int))=(xs.drop a).take (b - a):=by
 unfold cutL cutAt
 grind
def qJ{U:Fl×List (List D)->Prop}{cs:List D}(h:Tl (mv Z) λw=>U (.nx Z,dss.set r (cs.set k w)))(h2:ma Z=.ok (.int r))(h3:mb Z=.ok (.int k))(hr:dss[r]?=some cs)(hk:k<cs.length):Tl (Kh mv ma mb Z dss) U:=by
 obtain ⟨w,e,q⟩:=h;refine Ah ?_ q;unfold Kh;rw [e,h2,h3];show optY Z (setR dss w (r:Int) (k:Int))=_;unfold setR;rw [T4 (Dc.mp hr).1];show optY Z ((dss[r]?).bind _)=_;rw [hr];show optY Z ((ixP cs.length (k:Int)).bind _)=_;rw [T4 hk];rfl
def pcB:MY:=sqY (lft (st 7 (cut (v 2) (pso (o2 BK (v 5) (v 4))) (pso (o2 BK (o2 An (v 5) (cI 1)) (v 4))))))
  (Kh (on K5 (Aa (v 7) (Aa (v 3) Ab))) (o2 dIx (v 6) (cI 1)) (o2 dIx (v 6) (cI 0)))
def pcL(F:Nat->Nat->Rat)(W H:Nat):List (List D):=(List.range H).map λr=>(List.range W).map λc=>frD (F c r)
def ZtS(F:Nat->Nat->Rat)(W H:Nat):D.lst ((pcL F W H).map .lst)=picP F W H:=by
 unfold pcL picP rowP;simp_all
def sY{F:Nat->Nat->Rat}{W H r:Nat}(h:r<H):(pcL F W H)[r]?=some ((List.range W).map λc=>frD (F c r)):=by
 unfold pcL;simp_all
def upF(F:Nat->Nat->Rat)(c r:Nat)(q:Rat):Nat->Nat->Rat:=λb a=>if b=c/\a=r then q else F b a
def Zf{α:Type}{f:Nat->α}{x:α}{n k:Nat}:((List.range n).map f).set k x=(List.range n).map λi=>if i=k then x else f i:=by
 refine N7 λi=>?_
 grind
def ZsW{F:Nat->Nat->Rat}{W H c r:Nat}{q:Rat}:(pcL F W H).set r (((List.range W).map λc=>frD (F c r)).set c (frD q))=pcL (upF F c r q) W H:=by
 unfold pcL;rw [Zf,Zf];refine Gf λa _=>?_;by_cases e:a=r
 .subst e;rw [iP rfl];refine Gf λb _=>?_;unfold upF
  lia
 .rw [iN e];refine Gf λb _=>?_;unfold upF
  lia
def pntF(F:Nat->Nat->Rat)(V:Int×Int->Rat)(cs:List (Int×Int)):Nat->Nat->Rat:=λc r=>if cel c r∈cs then V (cel c r) else F c r
def ZmD{F:Nat->Nat->Rat}{V:Int×Int->Rat}{x:Int×Int}{cs:List (Int×Int)}(h:0<=x.1/\0<=x.2):pntF (upF F x.1.toNat x.2.toNat (V x)) V cs=pntF F V (x::cs):=by
 funext c r;unfold pntF;by_cases m:cel c r∈cs
 .simp_all
 .rw [iN m];unfold upF
  grind
def wB{W H n N:Nat}{g:Rat}{ls:List (List Sg)}{cD:D}(hW:W<=64)(hH:H<=64)(hg:Bq 300 g)(hl:∀l∈ls,(∀s∈l,GS s)/\l.length<=n)(hn:n<=12)(h1:1<=k)(h16:k<=16)(hk:k*(300+170*n)+10<=8900)(hN:ls.length=N*k)(hN2:N<=4096){V:Int×Int->Rat} :
  ∀(cs:List (Int×Int)) (j:Nat) (F:Nat->Nat->Rat) (v5 v6 v7:Cl),(∀i c,cs[i]?=some c->Jk (((ls.drop ((j+i)*k)).take k).map λl=>colQ g l)=V c)->(∀c∈cs,(0<=c.1/\c.1<(W:Int))/\0<=c.2/\c.2<(H:Int))->j+cs.length=N ->
   ∃(w5 w6 w7:Cl),Dd (gU 2 (gs1 (gN 5) (gs1 (gN 6) gs0))) pcB (numbered j (cs.map encP)) [.no,.im cD,.im (.lst (ls.map λl=>D.lst (l.map encS))),.im (frD g),.im (.int k),v5,v6,v7] (pcL F W H)=.ok (.nx [.no,.im cD,.im (.lst (ls.map λl=>D.lst (l.map encS))),.im (frD g),.im (.int k),w5,w6,w7],pcL (pntF F V cs) W H):=by
 intro cs
 induction cs with
 | nil=>exact λj F v5 v6 v7 _ _ _=>⟨v5,v6,v7,rfl⟩
 | cons c cs ih=>
  intro j F v5 v6 v7 o p u;rw [Gp] at u;have b:=p c (BX ..);have B:j*k+k<=N*k:=by
   have:=Qe k (show j+1<=N by lia)
   lia
  have C:j*k<=4096*16:=JH (by lia) h16;have A:=mo64 (show j<=1000000 by lia) (show k<=1000000 by lia);have z:=mo64 (show j+1<=1000000 by lia) (show k<=1000000 by lia);have y:=sY (F:=F) (W:=W) (show c.2.toNat<H by lia);have f:=o 0 c rfl;rw [Nat.add_zero] at f;have d:pcB [.no,.im cD,.im (.lst (ls.map λl=>D.lst (l.map encS))),.im (frD g),.im (.int k),.im (.int j),.im (encP c),v7] (pcL F W H)=.ok (.nx [.no,.im cD,.im (.lst (ls.map λl=>D.lst (l.map encS))),.im (frD g),.im (.int k),.im (.int j),.im (encP c),.im (.lst (((ls.drop (j*k)).take k).map λl=>D.lst (l.map encS)))],pcL (upF F c.1.toNat c.2.toNat (V c)) W H):=by
   refine Tl.eq ?_;unfold pcB;refine Ez (Ey ?_);symm;rw [<-K7,show (j:Int)+1=((j+1:Nat):Int) by lia,<-K7];rw [qQ _ (show j*k<=(j+1)*k by lia) (by grind)];rw [show (j+1)*k - j*k=k by lia,<-List.map_drop,<-Ji];have a:∀l∈(ls.drop (j*k)).take k,l∈ls:=λl h=>Le (G5 h);have w:((ls.drop (j*k)).take k).length=k:=by grind
   generalize (ls.drop (j*k)).take k=L at a w f ⊢;refine FZ (qJ (r:=c.2.toNat) (k:=c.1.toNat) (cs:=(List.range W).map λi=>frD (F i c.2.toNat)) ?_ ?_ ?_ y (by simp_all))
   .symm;refine Xr (n:=n) hg (λl h=>hl l (a l h)) hn (by lia) (by lia) (by lia) ?_;rw [f,ZsW]
   .show Res.ok (D.int c.2)=_
    grind
   .show Res.ok (D.int c.1)=_
    grind
  obtain ⟨v,t,q,m⟩:=ih (j+1) (upF F c.1.toNat c.2.toNat (V c)) (.im (.int j)) (.im (encP c)) (.im (.lst (((ls.drop (j*k)).take k).map λl=>D.lst (l.map encS)))) (λi x e=>by
   have:=o (i+1) x e
   grind) (λx e=>p x (Bf _ e)) (by lia)
  rw [ZmD ⟨b.1.1,b.2.1⟩] at m;refine ⟨v,t,q,?_⟩;show (pcB [.no,.im cD,.im (.lst (ls.map λl=>D.lst (l.map encS))),.im (frD g),.im (.int k),.im (.int j),.im (encP c),v7] (pcL F W H)).bind (Pj (Dd _ pcB (numbered (j+1) (cs.map encP))))=_;rw [d];exact m
def uQ{W H n:Nat}{g:Rat}{ls:List (List Sg)}{cells:List (Int×Int)}{F:Nat->Nat->Rat}{V:Int×Int->Rat}(hW:W<=64)(hH:H<=64)(hg:Bq 300 g)(hl:∀l∈ls,(∀s∈l,GS s)/\l.length<=n)(hn:n<=12)(h1:1<=k)(h16:k<=16)(hk:k*(300+170*n)+10<=8900)(hN:ls.length=cells.length*k)(hN2:cells.length<=4096)(hne:cells≠[])(hc:∀c∈cells,(0<=c.1/\c.1<(W:Int))/\0<=c.2/\c.2<(H:Int))(hV:∀i c,cells[i]?=some c->Jk (((ls.drop (i*k)).take k).map λl=>colQ g l)=V c) :
  ∃(q:Ev),UW [.no,.im (.lst (cells.map encP)),.im (.lst (ls.map λl=>D.lst (l.map encS))),.im (frD g)] (pcL F W H)=.ok (q,pcL (pntF F V cells) W H):=by
 obtain ⟨m,f,j,e⟩:=wB (cD:=.lst (cells.map encP)) hW hH hg hl hn h1 h16 hk hN hN2 (V:=V) cells 0 F .no .no .no (λi c h=>by grind) hc (by lia);have a:0<cells.length:=List.length_pos_iff.mpr hne;have d:=lg64 (show cells.length<=1000000 by lia);have b:o2 Az (on bLen (Aa (v 2) Ab)) (on bLen (Aa (v 1) Ab)) [.no,.im (.lst (cells.map encP)),.im (.lst (ls.map λl=>D.lst (l.map encS))),.im (frD g),.no,.no,.no,.no]=.ok (.int k):=by
  refine Tl.eq ?_;show Tl (Az (.int ((ls.map λl=>D.lst (l.map encS)).length:Int)) (.int ((cells.map encP).length:Int))) _;rw [Al,Al,hN];refine w_div (by lia) d ?_;simp_all
 refine ⟨[.no,.im (.lst (cells.map encP)),.im (.lst (ls.map λl=>D.lst (l.map encS))),.im (frD g)],?_⟩;show ((lft (st 4 (o2 Az (on bLen (Aa (v 2) Ab)) (on bLen (Aa (v 1) Ab)))) [.no,.im (.lst (cells.map encP)),.im (.lst (ls.map λl=>D.lst (l.map encS))),.im (frD g),.no,.no,.no,.no] (pcL F W H)).bind (goY (forY _ _ pcB))).bind (endY [0] _)=_
 rw [show lft (st 4 (o2 Az (on bLen (Aa (v 2) Ab)) (on bLen (Aa (v 1) Ab)))) [.no,.im (.lst (cells.map encP)),.im (.lst (ls.map λl=>D.lst (l.map encS))),.im (frD g),.no,.no,.no,.no] (pcL F W H)=.ok (.nx [.no,.im (.lst (cells.map encP)),.im (.lst (ls.map λl=>D.lst (l.map encS))),.im (frD g),.im (.int k),.no,.no,.no],pcL F W H) by
  unfold lft st;rw [b]
  rfl]
 show (Dd _ pcB (numbered 0 (cells.map encP)) [.no,.im (.lst (cells.map encP)),.im (.lst (ls.map λl=>D.lst (l.map encS))),.im (frD g),.im (.int k),.no,.no,.no] (pcL F W H)).bind (endY [0] _)=_;rw [e];rfl
def encT(tile:Int)(t:Nat×Rat×Rat):D:=.tup [.int tile,.int (t.1:Int),frD t.2.1,frD t.2.2]
theorem aq{dots:List (Int×Int)}:∀{cells:List (Int×Int)} {i:Nat} {c:Int×Int},cells[i]?=some c->((ptsL cells dots).drop (i*dots.length)).take dots.length=dots.map (ptC c)
 | [],i,c,h=>by simp at h
 | a::r,0,c,h=>by
  cases (show some a=some c from h);unfold ptsL;rw [Nat.zero_mul,NB,JX,List.take_append_of_le_length (by rw [Al];exact Ae _)];exact Hv (by rw [Al];exact Ae _)
 | a::r,i+1,c,h=>by
  have ih:=aq (dots:=dots) (cells:=r) (i:=i) (c:=c) h;unfold ptsL at ih ⊢;rw [JX,Kz,Ja,<-List.drop_drop];simp_all
def celV(ts:List D)(g:Rat)(dots:List (Int×Int))(c:Int×Int):Rat:=Jk (dots.map λd=>colQ g (sgs ts (ptC c d)))
def ZtX(ts:List D)(g:Rat)(dots:List (Int×Int))(c r:Nat):celV ts g dots (cel c r)=cellQ ts g dots c r:=rfl
def zL{ts:List D}{g:Rat}{cells dots:List (Int×Int)}(hp:∀p∈ptsL cells dots,PtD p)(ht:∀t∈ts,Thg t){i:Nat}{c:Int×Int}(h:cells[i]?=some c) :
  Jk (((((ptsL cells dots).map λp=>sgs (kptL (ptsL cells dots) ((ptsL cells dots).map λ_=>none) ts) p).drop (i*dots.length)).take dots.length).map λl=>colQ g l)=celV ts g dots c:=by
 rw [<-List.map_drop,<-Ji,aq h,DX,DX];unfold celV;congr 1;refine Gf λd a=>?_;exact ZpL hp ht g (Jt.mpr ⟨c,Gg h,By.mpr ⟨d,a,rfl⟩⟩)
def Zx1(h:Tl (m (ev0 n ds)) U):Tl (fnR n m ds) U:=h
def Nj{k:MS}(h:Tl (k Z) λf=>∃Z',f=.nx Z'/\Tl (m Z') U):Tl (soR k m Z) U:=Ax (h.mono λf ⟨_,e,q⟩=>e▸q)
def ie(f:Nat->Nat->α):∀i,((List.range i).flatMap λi=>(List.range n).map (f i)).length=i*n
 | 0=>by simp
 | i+1=>by
  rw [Ol,Pz,Di,ie f i,JX,List.flatMap_nil,CN,Al,Ff,Kz]
structure VJ(W H:Nat)(cells:List (Int×Int)):Prop where
 ne:cells≠[]
 len:cells.length<=4096
 ok:∀c∈cells,(0<=c.1/\c.1<(W:Int))/\0<=c.2/\c.2<(H:Int)
def Zsw{t:Nat}(z:Sz W H S)(ht:t<acr W S*acr H S):VJ W H (Bh W H S t):=by
 obtain ⟨w,h,s⟩:=z;refine ⟨λe=>?_,?_,λc a=>?_⟩
 .obtain ⟨p,r,k⟩:=ZrZ (by ac_rfl) (by ac_rfl) (by ac_rfl) ht
  lia
 .unfold Bh;rw [ie λi j=>cel (t%acr W S*S+j) (t/acr W S*S+i)];exact JH (show _<=64 by ac_rfl) (show _<=64 by ac_rfl)
 .rw [<-jc (by ac_rfl) (by ac_rfl) (by ac_rfl) ht] at a;obtain ⟨f,b,g,d,_,rfl⟩:=eY.mp a
  lia
def VJ.cel(h:VJ W H cells)(hW:W<=64)(hH:H<=64):Uv cells:=λc a=>by
 have:=h.ok c a
 lia
def dueT(ts:List D)(cells dots:List (Int×Int))(tile:Int):List D:=(CV (ptsL cells dots) 0 ((ptsL cells dots).map λ_=>none) ts).map (encT tile)
def Ss(ps):∀ts n L,(CV ps n L ts).length<=ts.length
 | [],_,_=>Ae _
 | d::r,n,L=>by
  show (match farO L with | some f=>if CG d<f then CV ps (n+1) (updL (glD d) (ps.map (so · d)) L) r else (n,CG d,f)::CV ps (n+1) L r | none=>CV ps (n+1) (updL (glD d) (ps.map (so · d)) L) r).length<=r.length+1
  have a:=Ss ps r (n+1) (updL (glD d) (ps.map (so · d)) L);have b:=Ss ps r (n+1) L
  grind
def ZW:(dueT ts cells dots tile).length<=ts.length:=by
 unfold dueT;rw [Al];exact Ss _ _ _ _
def ZrJ{U:Fl×List (List D)->Prop}(h1:m Z=.ok q)(h2:f q dss=.ok (q',dss'))(h:U (.nx Z,dss')):Tl (HF f l none m Z dss) U:=by
 refine Ah ?_ h;unfold HF;rw [h1];show (noEx (f q dss)).bind (outY Z l none)=_;rw [h2];rfl
def ptB:MY:=sqY (lft (st 13 (on Qd (Aa (v 1) (Aa (v 2) (Aa (v 3) (Aa (v 12) Ab)))))))
  (sqY (lft (st 14 (on O9 (Aa (v 0) (Aa (on QD (Aa (v 13) (Aa (v 8) Ab))) Ab)))))
  (sqY (HF UW 0 none (rRg (rIm (v 13) (rIm (o2 dIx (v 14) (cI 0)) (rIm (v 9) rNil)))))
  (lft (ext 11 (comp (iv (o2 dIx (v 14) (cI 1))) 1 [12] (gN 0) yes (mtp (Aa (v 1) (Aa (o2 dIx (v 0) (cI 0)) (Aa (o2 dIx (v 0) (cI 1)) (Aa (o2 dIx (v 0) (cI 2)) Ab))))))))))
section
variable{ts:List D}{g:Rat}{dots:List (Int×Int)}{W H S:Nat}{a4 a5 a6 a7:D}
def mL{t:Nat}{F:Nat->Nat->Rat}(hg:Bq 300 g)(hts:∀t∈ts,Thg t)(hn:ts.length<=12)(hd:∀d∈dots,(1<=d.1/\d.1<=7)/\1<=d.2/\d.2<=7)(h1:1<=dots.length)(h2:dots.length<=3)(z:Sz W H S)(ht:t<acr W S*acr H S)(ho:out.length<=100000) :
  ∃w13 w14,ptB [.im (.lst ts),.im (.int W),.im (.int H),.im (.int S),.im a4,.im a5,.im a6,.im a7,.im (.lst (dots.map encP)),.im (frD g),.no,.ow out,.im (.int t),v13,v14] (pcL F W H)=.ok (.nx [.im (.lst ts),.im (.int W),.im (.int H),.im (.int S),.im a4,.im a5,.im a6,.im a7,.im (.lst (dots.map encP)),.im (frD g),.no,.ow (out++dueT ts (Bh W H S t) dots (t:Int)),.im (.int t),w13,w14],pcL (pntF F (celV ts g dots) (Bh W H S t)) W H):=by
 have T:=Zsw z ht;have m:=T.cel z.w.2 z.h.2;have o:=t7 m hd;have a:=kI (Bh W H S t) dots;have q:ptsL (Bh W H S t) dots≠[]:=λe=>by
  rw [e] at a;have:=List.length_pos_iff.mpr T.ne;have:=JH this h1;simp only [List.length_nil] at a
  lia
 have E:(ptsL (Bh W H S t) dots).length<=12288:=by
  rw [a];exact JH T.len h2
 obtain ⟨ls,f,A,s,u⟩:=wG o q (by lia) hts (by lia);rw [show ((ptsL (Bh W H S t) dots).map λ_=>([]:List Sg))=(ptsL (Bh W H S t) dots).map λp=>sgs [] p from rfl,g8] at f
 obtain ⟨C,j⟩:=uQ (F:=F) (V:=celV ts g dots) (W:=W) (H:=H) (k:=dots.length) (n:=ts.length) (g:=g) (ls:=ls) (cells:=Bh W H S t) z.w.2 z.h.2 hg s hn h1 (by lia) (by
  have:dots.length*(300+170*ts.length)<=3*(300+170*12):=JH h2 (by lia)
  lia) (by rw [A,a]) T.len T.ne T.ok (λi c r=>by rw [f];exact zL o hts r)
 generalize pcL (pntF F (celV ts g dots) (Bh W H S t)) W H=dss' at j ⊢;generalize pcL F W H=dss at j ⊢;clear f;have b:Tl (ptB [.im (.lst ts),.im (.int W),.im (.int H),.im (.int S),.im a4,.im a5,.im a6,.im a7,.im (.lst (dots.map encP)),.im (frD g),.no,.ow out,.im (.int t),v13,v14] dss) λx=>∃w13 w14,x=(.nx [.im (.lst ts),.im (.int W),.im (.int H),.im (.int S),.im a4,.im a5,.im a6,.im a7,.im (.lst (dots.map encP)),.im (frD g),.no,.ow (out++dueT ts (Bh W H S t) dots (t:Int)),.im (.int t),w13,w14],dss'):=by
  unfold ptB;refine Ez (Ey ?_);symm;refine xH z ht ?_;refine FZ (Ez (Ey ?_));symm;refine ZkP m T.len (by lia) ?_;symm;refine Ah u ?_;refine FZ (Ez ?_);have y:rRg (rIm (v 13) (rIm (o2 dIx (v 14) (cI 0)) (rIm (v 9) rNil))) [.im (.lst ts),.im (.int W),.im (.int H),.im (.int S),.im a4,.im a5,.im a6,.im a7,.im (.lst (dots.map encP)),.im (frD g),.no,.ow out,.im (.int t),.im (.lst ((Bh W H S t).map encP)),.im (.tup [.lst (ls.map λl=>D.lst (l.map encS)),.lst ((CV (ptsL (Bh W H S t) dots) 0 ((ptsL (Bh W H S t) dots).map λ_=>none) ts).map encG)])]=.ok [.no,.im (.lst ((Bh W H S t).map encP)),.im (.lst (ls.map λl=>D.lst (l.map encS))),.im (frD g)]:=rfl;refine ZrJ y j ?_;refine FZ (Ey (X3 rfl ?_));have B:=Ss (ptsL (Bh W H S t) dots) ts 0 ((ptsL (Bh W H S t) dots).map λ_=>none);symm;refine ⟨by rw [Al];lia,?_⟩;refine Fe (enc:=encG) (encT (t:Int)) (λ_ _=>?_) ?_
  .unfold encG;symm;rfl
  .symm;exact ⟨by rw [Al];show _<=1000000;lia,_,_,rfl⟩
 obtain ⟨x,e,w13,w14,rfl⟩:=b;exact ⟨w13,w14,e⟩
def dueA(ts:List D)(dots:List (Int×Int))(W H S:Nat)(os:List Int):List D:=os.flatMap λo=>dueT ts (Bh W H S o.toNat) dots o
def tlsF(ts:List D)(g:Rat)(dots:List (Int×Int))(W H S:Nat)(F:Nat->Nat->Rat)(os:List Int):Nat->Nat->Rat:=os.foldl (λF o=>pntF F (celV ts g dots) (Bh W H S o.toNat)) F
def o7(hg:Bq 300 g)(hts:∀t∈ts,Thg t)(hn:ts.length<=12)(hd:∀d∈dots,(1<=d.1/\d.1<=7)/\1<=d.2/\d.2<=7)(h1:1<=dots.length)(h2:dots.length<=3)(z:Sz W H S) :
  ∀os out F v12 v13 v14,(∀o∈os,0<=o/\o.toNat<acr W S*acr H S)->out.length+os.length*12<=100000 ->
   ∃w12 w13 w14,Dd (gN 12) ptB (os.map .int) [.im (.lst ts),.im (.int W),.im (.int H),.im (.int S),.im a4,.im a5,.im a6,.im a7,.im (.lst (dots.map encP)),.im (frD g),.no,.ow out,v12,v13,v14] (pcL F W H)=.ok (.nx [.im (.lst ts),.im (.int W),.im (.int H),.im (.int S),.im a4,.im a5,.im a6,.im a7,.im (.lst (dots.map encP)),.im (frD g),.no,.ow (out++dueA ts dots W H S os),w12,w13,w14],pcL (tlsF ts g dots W H S F os) W H):=by
 intro os
 induction os with
 | nil=>
  intro out F v12 v13 v14 _ _;refine ⟨v12,v13,v14,?_⟩;show Res.ok _=_;rw [show dueA ts dots W H S []=[] from rfl,CN];rfl
 | cons o os ih=>
  intro out F v12 v13 v14 a h;obtain ⟨j,k⟩:=a o (BX ..);rw [Gp] at h;have m:=ZW (ts:=ts) (cells:=Bh W H S o.toNat) (dots:=dots) (tile:=o);obtain ⟨w13,w14,e⟩:=mL (F:=F) (a4:=a4) (a5:=a5) (a6:=a6) (a7:=a7) (out:=out) (v13:=v13) (v14:=v14) hg hts hn hd h1 h2 z k (by lia);rw [Jx j] at e;obtain ⟨f,c,b,l⟩:=ih (out++dueT ts (Bh W H S o.toNat) dots o) (pntF F (celV ts g dots) (Bh W H S o.toNat)) (.im (.int o)) w13 w14 (λx i=>a x (Bf _ i)) (by grind);refine ⟨f,c,b,?_⟩;show (ptB [.im (.lst ts),.im (.int W),.im (.int H),.im (.int S),.im a4,.im a5,.im a6,.im a7,.im (.lst (dots.map encP)),.im (frD g),.no,.ow out,.im (.int o),v13,v14] (pcL F W H)).bind (Pj (Dd _ ptB (os.map .int)))=_;rw [e];show Dd _ ptB (os.map .int) _ (pcL (pntF F (celV ts g dots) (Bh W H S o.toNat)) W H)=_;rw [l,Fx];rfl
end
theorem Y7{ts:List D}{g:Rat}{dots:List (Int×Int)}{W H S c r:Nat}:∀(os:List Int) (F:Nat->Nat->Rat),(F c r=celV ts g dots (cel c r)\/∃o∈os,cel c r∈Bh W H S o.toNat)->tlsF ts g dots W H S F os c r=celV ts g dots (cel c r)
 | [],F,h=>by
  rcases h with h | ⟨_,h,_⟩
  .exact h
  ext
 | o::os,F,h=>by
  show tlsF ts g dots W H S (pntF F (celV ts g dots) (Bh W H S o.toNat)) os c r=_;refine Y7 os _ ?_;by_cases m:cel c r∈Bh W H S o.toNat
  .exact .inl (by unfold pntF;lia)
  .rcases h with h | ⟨o',ho,hm⟩
   .exact .inl (by unfold pntF;rw [iN m];exact h)
   .rcases BV.mp ho with rfl | ho
    .exact (m hm).elim
    .exact .inr ⟨o',ho,hm⟩
def lR{W H S c r:Nat}(hS:0<S)(hc:c<W)(hr:r<H):numT W S c r<acr W S*acr H S:=by
 have a:=Og hS hc;have b:=Og hS hr;unfold numT;have:(r/S+1)*acr W S<=acr H S*acr W S:=Qe _ b
 lia
def Zme{f g:Nat->Nat->Rat}{w h:Nat}(e:∀c,c<w->∀r,r<h->f c r=g c r):picP f w h=picP g w h:=by
 unfold picP rowP;congr 1;refine Gf λr a=>?_;congr 1;refine Gf λc b=>?_;rw [e c (FP.mp b) r (FP.mp a)]
def Zl0{w:Nat}(hw:1<=w/\w<=64)(q:U .non):Tl (TV [.int w]) U:=by
 unfold TV;symm;refine Om (by lia) ?_;symm;exact q
def YK(hW:1<=W)(hS:1<=S/\S<=64)(q:U (.int ((acr W S:Nat):Int))):Tl (J5 [.int W,.int S]) U:=by
 have a:=lg64 (show S<=1000000 by lia);unfold J5;symm;rw [Ro (by lia) (by lia)];exact q
def Zwg{k:MY}(h:Tl (regY i me k Z) λf=>∃d,f=.rt d/\U d):Tl (regT i me k Z) U:=by
 obtain ⟨f,e,d,rfl,q⟩:=h;refine Ah ?_ q;unfold regT;rw [e];rfl
def dN(h:noLs row=true):∀l:List α,GP (l.map λ_=>D.lst row)=some (l.map λ_=>row)
 | []=>rfl
 | _::r=>by
  show (if noLs row=true then (GP (r.map λ_=>D.lst row)).bind λq=>some (row::q) else none)=_
  rw [iP h,dN h r];rfl
def Zr7(x:D):∀n,(List.replicate n [x]).flatten=List.replicate n x
 | 0=>rfl
 | n+1=>by simp_all
def rZ(g)(n):noLs (List.replicate n (frD g))=true:=by
 induction n with
 | zero=>rfl
 | succ n ih=>ext
def zZ{ts:List D}{g:Rat}{dots:List (Int×Int)}{W H S:Nat}{os:List Int}(hg:Bq 300 g)(hts:∀t∈ts,Thg t)(hn:ts.length<=12)(hd:Dots dots)(h1:1<=dots.length)(h2:dots.length<=3)(z:Sz W H S){sp:D}(hsp:Hw [sp]=.ok (.lst (dots.map encP)))(hp:os.Perm (rgI (acr W S*acr H S)))(hm:acr W S*acr H S<=60){od gr:D}(hod:Jj [od,.int ((acr W S*acr H S:Nat):Int)]=.ok (.lst (os.map .int)))(hgr:LC [gr]=.ok (frD g)) :
  Ij [.lst ts,.int W,.int H,.int S,od,sp,gr]=.ok (.tup [picP (cellQ ts g dots) W H,.lst (dueA ts dots W H S os)]):=by
 have J:os.length<=60:=by
  have:=hp.length_eq;simp_all
 have B:∀o∈os,0<=o/\o.toNat<acr W S*acr H S:=λo E=>by
  grind
 have I:=LR (show 0<S by have:=z.s;lia) (show 0<W by have:=z.w;lia);have G:=LR (show 0<S by lia) (show 0<H by have:=z.h;lia);have A:=mo64 (show acr W S<=1000000 by have:=z.w;lia) (show acr H S<=1000000 by have:=z.h;lia);have m:((List.range H).map λ_=>List.replicate W (frD g))=pcL (λ_ _=>g) W H:=by
  unfold pcL;refine Gf λr _=>?_;refine N7 λi=>?_
  grind
 obtain ⟨l,f,d,e⟩:=o7 (a4:=od) (a5:=sp) (a6:=gr) (a7:=.lst (os.map .int)) hg hts hn hd.1 h1 h2 z os [] (λ_ _=>g) .no .no .no B (by grind);have q:picP (cellQ ts g dots) W H=.lst ((pcL (tlsF ts g dots W H S (λ_ _=>g) os) W H).map .lst):=by
  rw [ZtS];refine Zme λc y r n=>?_;have u:0<S:=by lia
  have p:=lR (H:=H) u y n;rw [Y7 os _ (.inr ⟨((numT W S c r:Nat):Int),hp.mem_iff.mpr (By.mpr ⟨_,FP.mpr p,rfl⟩),?_⟩),ZtX];rw [Ei,<-jc u (by lia) (by lia) p];exact eY.mpr ⟨c,r,y,n,rfl,rfl⟩
 obtain ⟨a,j⟩ : ∃a,a=pcL (tlsF ts g dots W H S (λ_ _=>g) os) W H:=⟨_,rfl⟩;rw [q,<-j];rw [<-j,<-m] at e;clear j q m;refine Tl.eq ?_;unfold Ij;refine Zx1 (Nj (V7 (w_on (FT (w_v rfl (FT (w_v rfl (HB (fU z.w z.h ⟨_,rfl,?_⟩)))))))));refine Nj (V7 (w_on (FT (w_v rfl (HB (Zl0 z.s ⟨_,rfl,?_⟩))))));refine Nj (w_st (w_on (FT (w_v rfl (FT (w_o2 (w_on (FT (w_v rfl (FT (w_v rfl (HB (YK z.w.1 z.s (w_on (FT (w_v rfl (FT (w_v rfl (HB (YK z.h.1 z.s (w_mul A ?_)))))))))))))) )))))));rw [<-K7];refine HB (Ah hod ⟨_,rfl,?_⟩);refine Nj (w_st (w_on (FT (w_v rfl (HB (Ah hsp ⟨_,rfl,?_⟩))))));refine Nj (w_st (w_on (FT (w_v rfl (HB (Ah hgr ⟨_,rfl,?_⟩))))));have b:comp (r1 (Aa (v 2) Ab)) 1 [1,9] (gN 0) yes (repD (Aa (v 2) Ab) (v 1)) [.im (.lst ts),.im (.int W),.im (.int H),.im (.int S),.im od,.im sp,.im gr,.im (.lst (os.map .int)),.im (.lst (dots.map encP)),.im (frD g),.no,.no,.no,.no,.no]=.ok (.lst ((List.range H).map λ_=>D.lst (List.replicate W (frD g)))):=by
  have C:=z.w;have F:=z.h;refine Tl.eq (Up (w_r1 (FT (w_v rfl (HB (iJ (by lia) ⟨?_,?_⟩))))))
  .unfold Ci
   grind
  .unfold Ci;refine Fe (enc:=λk:Nat=>D.int (0+(k:Int))) (λ_=>D.lst (List.replicate W (frD g))) (λk _=>w_gN (Ah (x:=.lst (List.replicate W (frD g))) ?_ rfl)) rfl;show repL [frD g] (.int W)=_;show (if (0<=(W:Int)/\(W:Int)<=1000000)/\[frD g].length*(W:Int).toNat<=1000000 then Res.ok (D.lst (List.replicate (W:Int).toNat [frD g]).flatten) else .bad)=_
   rw [iP ⟨⟨by lia,by lia⟩,by grind⟩,Zr7];rfl
 refine Zwg (iB b (dN (rZ g W) _) (by show 10<15;decide) ?_);refine Ez (Ey (WM (fB (HB (Xg (FZ (Ez (Ah (x:=(.nx [.im (.lst ts),.im (.int W),.im (.int H),.im (.int S),.im od,.im sp,.im gr,.im (.lst (os.map .int)),.im (.lst (dots.map encP)),.im (frD g),.no,.ow (dueA ts dots W H S os),l,f,d],a)) e (FZ (Ah (x:=(.rt (.tup [.lst (a.map .lst),.lst (dueA ts dots W H S os)]),a)) rfl ⟨_,rfl,_,rfl,rfl⟩))))))))))
def sO{U:D->Prop}{ds:List Int}{m:Nat}(hl:ds.length=4)(hm:m<=60)(q:∀os:List Int,os.Perm (rgI m)->U (.lst (os.map .int))):Tl (Sy [.lst (ds.map .int),.int m]) U:=by
 unfold Sy;symm;refine Ah (WR (by lia)) ?_;symm;refine w_wh (λZ=>∃(L F:List Int) (k:Nat),(F++L).Perm (rgI m)/\k+L.length=m/\Z=[.im (.lst (ds.map .int)),.im (.int m),.ow (L.map .int),.ow (F.map .int),.im (.int k)]) (λZ:Ev=>match Z[2]? with | some (Cl.ow xs)=>xs.length | _=>0) ⟨rgI m,[],0,.refl _,by simp,rfl⟩ ?_ ?_
 .show ((rgI m).map D.int).length<_+1;rw [Al,Al,Ff];show m<([absC _,(m:Int).natAbs,_,_,_]:List Nat).sum+1
  grind
 .rintro Z ⟨L,F,k,b,d,rfl⟩;symm;cases L with
  | nil=>
   refine Ah (x:=.bl false) rfl ?_;symm;refine ⟨λz=>(GC z).elim,λ_=>?_⟩;symm;simp_all
  | cons x L=>
   refine Ah (x:=.bl true) rfl ?_;symm;refine ⟨λ_=>?_,λz=>(GC z.symm).elim⟩;rw [Gp] at d;have f:((k:Int)+1).natAbs.log2<9000:=lg64 (show k+1<=1000000 by lia);have e:(F.map D.int).length<10000:=by
    have:=b.length_eq
    grind
   refine w_sq (zF rfl rfl e ?_);symm;refine GR (by grind) λz h=>?_;obtain ⟨y,i,rfl⟩:=By.mp h;symm;refine w_mod (by simp_all) ?_;have c:0<=y/((k:Int)+1)%((x::L).length:Int)/\y/((k:Int)+1)%((x::L).length:Int)<(x::L).length:=⟨JF _ (by grind),Jd _ (by simp_all)⟩;generalize y/((k:Int)+1)%((x::L).length:Int)=z at c ⊢;have a:z.toNat<(x::L).length:=by lia
   rw [Gp] at c;refine Ah (x:=.int z) rfl ⟨z.toNat,.int (x::L)[z.toNat],by grind,by lia,?_,?_⟩
   .grind
   .show Tl (goOn _ (.nx [.im (.lst (ds.map .int)),.im (.int m),.ow (((x::L).map D.int).eraseIdx z.toNat),.ow (F.map D.int++[.int (x::L)[z.toNat]]),.im (.int k)])) _;symm;have g:((x::L).map D.int).eraseIdx z.toNat=((x::L).eraseIdx z.toNat).map D.int:=YF _ _ _;refine ⟨_,rfl,⟨(x::L).eraseIdx z.toNat,F++[(x::L)[z.toNat]],k+1,?_,?_,?_⟩,?_⟩
    .rw [Fx];exact (List.Perm.append_left F (gM a)).trans b
    .grind
    .simp_all
    .show (((x::L).map D.int).eraseIdx z.toNat).length<((x::L).map D.int).length;rw [g,Al,Al,List.length_eraseIdx_of_lt a,Gp]
     lia
def Vj(xs:List D)(k:Nat):cutL xs none (some (k:Int))=xs.take k:=by
 unfold cutL cutAt
 grind
def Zmk(xs)(h:k<=xs.length):cutL xs (some (k:Int)) none=xs.drop k:=by
 unfold cutL cutAt;simp only [];rw [iN (by lia),Ei,G6 h];exact Hv (by rw [HY];exact Ae _)
def ZwF(ts:List D)(dots:List (Int×Int))(W H S:Nat)(os:List Int):plain 50 (.lst (dueA ts dots W H S os))=true:=by
 show Bb 49 (dueA ts dots W H S os)=true;have a:∀l:List D,(∀x∈l,∃(o:Int) (g:Nat×Rat×Rat),x=encT o g)->Bb 49 l=true:=λl=>by
  induction l with
  | nil=>exact λ_=>rfl
  | cons x r ih=>
   intro h;obtain ⟨o,g,rfl⟩:=h x (BX ..);show (plain 49 (encT o g)&&Bb 49 r)=true;rw [ih λy c=>h y (Bf _ c)];rfl
 refine a _ λx b=>?_;obtain ⟨o,_,b⟩:=Jt.mp b;obtain ⟨g,_,rfl⟩:=By.mp b
 lia
def Zj(hn:ts.length<=12):∀os,(dueA ts dots W H S os).length<=os.length*12
 | []=>Ae _
 | o::os=>by
  show (dueT ts (Bh W H S o.toNat) dots o++dueA ts dots W H S os).length<=_;have a:=ZW (ts:=ts) (cells:=Bh W H S o.toNat) (dots:=dots) (tile:=o);have b:=Zj (ts:=ts) (dots:=dots) (W:=W) (H:=H) (S:=S) hn os
  grind
theorem Kf(ps:List D):∀(ts:List D) (n:Nat) (L:List (Option Rat)),(∀t∈CV ps n L ts,n<=t.1/\t.1<n+ts.length)/\(CV ps n L ts).Pairwise λa b=>a.1<b.1
 | [],n,L=>⟨λt h=>(Cg h).elim,List.Pairwise.nil⟩
 | d::r,n,L=>by
  have i:∀{c},(∀t∈CV ps (n+1) c r,n<=t.1/\t.1<n+(d::r).length)/\(CV ps (n+1) c r).Pairwise λa b=>a.1<b.1:=λ{c}=>by
   obtain ⟨f,e⟩:=Kf ps r (n+1) c
   grind
  unfold CV;split
  .split
   .exact i
   .obtain ⟨f,e⟩:=Kf ps r (n+1) L;refine ⟨λt g=>?_,Dq.mpr ⟨λt g=>?_,e⟩⟩
    .grind
    grind
  grind
def keyD(d:D):Int×Int:=(pr4 d).getD (0,0)
def gonT(ts:List D)(dots:List (Int×Int))(W H S:Nat)(o:Int):List (Nat×Rat×Rat):=CV (ptsL (Bh W H S o.toNat) dots) 0 ((ptsL (Bh W H S o.toNat) dots).map λ_=>none) ts
section
variable{ts:List D}{dots:List (Int×Int)}{W H S:Nat}
def UG(os:List Int):dueA ts dots W H S os=os.flatMap λo=>(gonT ts dots W H S o).map (encT o):=rfl
def uV(hn:ts.length<=12){os:List Int}:∀d∈dueA ts dots W H S os,pr4 d=some (keyD d):=λd a=>by
 rw [UG] at a;obtain ⟨o,_,a⟩:=Jt.mp a;obtain ⟨t,b,rfl⟩:=By.mp a;have:=(Kf _ _ _ _).1 t b;have c:0<=(t.1:Int)/\(t.1:Int)<1000000:=by lia
 have e:pr4 (encT o t)=some (o,(t.1:Int)):=by
  unfold encT pr4;exact iP c
 unfold keyD;rw [e];rfl
def Th(hn:ts.length<=12){o:Int}{t:Nat×Rat×Rat}(ht:t∈gonT ts dots W H S o):keyD (encT o t)=(o,(t.1:Int)):=by
 have:=(Kf _ _ _ _).1 t ht;have a:0<=(t.1:Int)/\(t.1:Int)<1000000:=by lia
 have e:pr4 (encT o t)=some (o,(t.1:Int)):=by
  unfold encT pr4
  lia
 unfold keyD
 grind
def Zb:∀{ds:List D},(∀d∈ds,pr4 d=some (keyD d))->prs4 ds=some (ds.map keyD)
 | [],_=>rfl
 | d::r,h=>by
  unfold prs4;rw [h d BX,Zb λx a=>h x (Bf _ a)];rfl
def mX(hn:ts.length<=12):∀{os:List Int},os.Pairwise (· < ·)->((dueA ts dots W H S os).map keyD).Pairwise λa b=>keyP a<keyP b:=by
 intro os h;rw [UG,List.map_flatMap,List.pairwise_flatMap];have c:∀o∈os,∀x∈((gonT ts dots W H S o).map (encT o)).map keyD,∃n:Nat,n<12/\x=(o,(n:Int)):=λo _ x g=>by
  obtain ⟨d,k,rfl⟩:=By.mp g;obtain ⟨t,j,rfl⟩:=By.mp k;have:=(Kf _ _ _ _).1 t j;exact ⟨t.1,by lia,Th hn j⟩
 refine ⟨λo r=>?_,h.imp_of_mem λ{a b} i f e x g y l=>?_⟩
 .rw [Jz,Jz];refine (Kf _ _ _ _).2.imp_of_mem λ{a b} i f e=>?_;rw [Th hn i,Th hn f];unfold keyP
  lia
 .obtain ⟨n,p,rfl⟩:=c a i x g;obtain ⟨m,q,rfl⟩:=c b f y l;unfold keyP
  lia
def qP(hn:ts.length<=12){os rs:List Int}(hp:os.Perm rs)(hr:rs.Pairwise (· < ·))(hl:(dueA ts dots W H S os).length<=1000):RW [.lst (dueA ts dots W H S os)]=.ok (.lst (dueA ts dots W H S rs)):=by
 have j:(dueA ts dots W H S os).Perm (dueA ts dots W H S rs):=List.Perm.flatMap_right _ hp;have c:=j.map keyD;have f:=mX (dots:=dots) (W:=W) (H:=H) (S:=S) hn hr;have b:((dueA ts dots W H S os).map keyD).Nodup:=c.nodup_iff.mpr (f.imp λh z=>by lia);have l:=uV (dots:=dots) (W:=W) (H:=H) (S:=S) (os:=os) hn;have k:JN ((dueA ts dots W H S os).map keyD)=(dueA ts dots W H S rs).map keyD:=by
  refine W7 ((Uk _).trans c) (λp h=>?_) (V5 _) (f.imp λh=>by lia);obtain ⟨d,a,rfl⟩:=By.mp ((Uk _).mem_iff.mp h);rw [UG] at a;obtain ⟨o,_,a⟩:=Jt.mp a;obtain ⟨t,g,rfl⟩:=By.mp a;rw [Th hn g];have:=(Kf _ _ _ _).1 t g;exact ⟨by lia,by lia⟩
 show (match prs4 (dueA ts dots W H S os) with
  | some ps=>if (dueA ts dots W H S os).length<=1000/\ps.Nodup then Res.ok (D.lst ((JN ps).map (dat4 ps (dueA ts dots W H S os)))) else .bad
  | none=>.bad)=_
 rw [Zb l];show (if (dueA ts dots W H S os).length<=1000/\((dueA ts dots W H S os).map keyD).Nodup then _ else _)=_
 rw [iP ⟨hl,b⟩,k,DX];congr 2;refine (Gf λd a=>?_).trans (List.map_id _);obtain ⟨i,m,e⟩:=Qm (j.mem_iff.mpr a);exact Um b (by rw [Cj,BL m,e];rfl) (by simp_all)
def ZoF(os:List Int):noLs (dueA ts dots W H S os)=true:=by
 have c:∀b:List D,(∀d∈b,noL d=true)->noLs b=true:=by
  intro b
  induction b with
  | nil=>ext
  | cons d r ih=>intro h;show (noL d&&noLs r)=true;simp_all
 refine c _ λd a=>?_;rw [UG] at a;obtain ⟨o,_,a⟩:=Jt.mp a;obtain ⟨t,e,rfl⟩:=By.mp a;rfl
end
def sI{U:Fl->Prop}{i j:Nat}{me mv:ME}{t:MB}{k m:MS}{Z:Ev} (h:Tl (me Z) λd=>∃cs as bs,d=.tup [.lst (.lst cs::as),.lst bs]/\(cs.length<1000/\as.length<1000/\noLs bs=true/\i<Z.length/\j<Z.length/\i≠j) /\
  Tl (t ((Z.set i (.im (.lst (.lst cs::as)))).set j (.im (.lst bs)))) λb=>b=false/\Tl (mv ((Z.set i (.im (.lst (.lst cs::as)))).set j (.im (.lst bs)))) λ_=>Tl (m ((Z.set i .no).set j (.im (.lst bs)))) U):Tl (unpA i j me t k mv m Z) U:=by
 obtain ⟨_,e,cs,as,bs,rfl,c,b,f,rfl,d,a,q⟩:=h;unfold unpA;rw [e];simp only [Res.bind];rw [iP c,f];show Tl ((noEx (mv _)).bind λ_=>m _) U;rw [a];exact q
def uK{f:List D->Res D}{a k:MA}{Z:Ev}{x y z u g o s:D}(ha:a Z=.ok [x,y,z,u])(hk:k Z=.ok [g,o,s]):onK f [some 1,some 2,some 0] a k Z=f [x,y,z,u,o,s,g]:=by
 unfold onK;rw [ha];show (k Z).bind _=_;rw [hk];rfl
def vO{m:Nat}(h:m<=10000):Jj [.non,.int m]=.ok (.lst ((rgI m).map .int)):=by
 refine Tl.eq ?_;unfold Jj;symm;refine Ah (WR h) ?_;symm
def Zp3{f:Nat->Nat->Rat}{W H:Nat}(h:1<=H):∃cs as,picP f W H=.lst (.lst cs::as)/\cs.length=W/\as.length+1=H:=by
 obtain ⟨n,rfl⟩ : ∃n,H=n+1:=⟨H - 1,by lia⟩;refine ⟨(List.range W).map λc=>frD (f c 0),((List.range n).map Nat.succ).map λr=>rowP f W r,?_,?_,?_⟩
 .unfold picP;rw [Ob,Bk];rfl
 .simp_all
 simp_all
def Zog(f:Nat->Nat->Rat)(w h:Nat):plain 50 (picP f w h)=true:=wW h w λr c=>f c r
def zT(d0:Dw n)(q:∀d,Thg d->U d):Tl (RG [.int n]) U:=by
 have f:=d0;unfold Dw at f;unfold RG;symm;refine GR ⟨by lia,by grind⟩ λd e=>?_;obtain ⟨h,rfl,g⟩ : ∃h:Int,d=.int h/\1<=h/\h<=100:=by
  grind
 clear e;have a:Bd (-20):=⟨by decide,by decide⟩;have b:Bd 60:=⟨by decide,by decide⟩;have c:Tr 0 (.tup [.tup [.int (-20),.int (-20),.int 2,.int h,.tup []],.tup [.int 60,.int (-20),.int 2,.int h,.tup []],.tup [.int (-20),.int 60,.int 2,.int h,.tup []]]) :=
  ⟨-20,-20,2,h,60,-20,2,h,-20,60,2,h,[],[],[],rfl,⟨a,a,by decide,by lia⟩,⟨b,a,by decide,by lia⟩,⟨a,b,by decide,by lia⟩,rfl,rfl,rfl,λ_ z=>(Cg z).elim,λ_ z=>(Cg z).elim,λ_ z=>(Cg z).elim⟩
 symm;refine PB ?_;symm;rw [WD];refine ⟨_,aR (by decide) c,?_⟩;symm;exact q _ (.plain c (by decide) (WL (show (n/4%9).natAbs<2^32 by lia) (by decide)))
def ZrR{ts:List D}(h:∀t∈ts,Thg t)(h2:∀t∈cv,Thg t):∀t∈ts.take k++cv++ts.drop k,Thg t:=λt a=>by
 grind
def Zyh(m:Nat):(rgI m).Pairwise (· < ·):=by
 unfold rgI;rw [Jz];exact List.pairwise_lt_range.imp λh=>by lia
def ni(ns:List Int)(h63:ns.length<=63):VD [.lst (ns.map .int)]=.ok (.bl true):=by
 refine Tl.eq ?_;unfold VD;symm;refine ZiZ λL V m=>?_;symm;refine M4 (by decide) λc8=>?_;symm;refine Ni (n:=7) (by decide) λds ld T=>?_;obtain ⟨p,E,o,v,I,J,G,rfl⟩ : ∃p E o v I J G,ds=[p,E,o,v,I,J,G]:=by
  match ds,ld with
  | [a,b,c,d,e,f,g],_=>exact ⟨a,b,c,d,e,f,g,rfl⟩
 have q1:=T E (by simp);have p0:=T p (by simp);have p2:=T o (by simp);have p3:=T v (by simp);unfold Dw at p0 p2 p3;rw [show List.map D.int [p,E,o,v,I,J,G]=[D.int p,D.int E,D.int o,D.int v,D.int I,D.int J,D.int G] from rfl];generalize hR:([D.int p,D.int E,D.int o,D.int v,D.int I,D.int J,D.int G]:List D)=R;have i0:R[0]?=some (.int p):=by rw [<-hR];rfl
 have i1:R[1]?=some (.int E):=by rw [<-hR];rfl
 have B:R[2]?=some (.int o):=by rw [<-hR];rfl
 have i3:R[3]?=some (.int v):=by rw [<-hR];rfl
 have i:∀{U:D->Prop} {k:Nat} {x:D},R[k]?=some x->U x->Tl (dIx (.lst R) (.int k)) U:=λh q=>Zq h q;symm;refine i i3 ?_;symm;refine Tl.mono (Ψ:=λf=>∃ts:List D,ts.length<=6/\(∀t∈ts,Thg t)/\f=Fl.nx [.im (.lst (ns.map .int)),.im (.lst ts),.im (.lst R),.no,.no,.no,.no,.no,.no,.no,.no,.no,.no,.no,.no]) ?_ ?_
 .refine Cu (λ_=>?_) (λ_=>?_)
  .symm;rw [show (2:Int)=((2:Nat):Int) from rfl,Vj];refine Uq (by rw [Eb];lia) ?_;symm;refine ⟨_,by rw [Di,Eb];lia,λt X=>?_,rfl⟩;rcases Gv.mp X with z | z
   .exact m t z
   .exact m t (G5 z)
  .symm;exact ⟨L,by lia,m,rfl⟩
 rintro f ⟨l,Y,r,rfl⟩;clear m V L;symm;refine i i0 ?_;symm;refine Tl.mono (Ψ:=λf=>∃(ts:List D) (c3:Cl),ts.length<=8/\(∀t∈ts,Thg t)/\f=Fl.nx [.im (.lst (ns.map .int)),.im (.lst ts),.im (.lst R),c3,.no,.no,.no,.no,.no,.no,.no,.no,.no,.no,.no]) ?_ ?_
 .refine Cu (λ_=>?_) (λ_=>?_)
  .symm;refine i i0 ?_;symm;obtain ⟨k,hk,Z⟩ : ∃k:Nat,p/2%((l.length:Int)+1)=(k:Int)/\k<=l.length:=by
    have h1:=JF (p/2) (show (l.length:Int)+1≠0 by lia);have h2:=Jd (p/2) (show 0<(l.length:Int)+1 by lia);exact ⟨(p/2%((l.length:Int)+1)).toNat,by lia,by lia⟩
   rw [hk];refine i i1 ?_;symm;refine zT q1 λd1 hd1=>?_;symm;rw [Vj];refine Uq (by rw [Eb];simp;lia) ?_;symm;rw [Zmk _ Z];refine Uq (by rw [Di,Eb,HY];simp;lia) ?_;symm;exact ⟨_,_,by rw [Di,Di,Eb,HY];simp;lia,ZrR r (λt X=>by rw [HR.mp X];exact hd1),rfl⟩
  .symm;exact ⟨l,.no,by lia,r,rfl⟩
 rintro f ⟨ts,c3,lt,M,rfl⟩;clear r Y l;symm;refine i B ?_;symm;refine i B ?_;symm;obtain ⟨W,hW,bW⟩ : ∃W:Nat,1+o%5=(W:Int)/\1<=W/\W<=5:=⟨(1+o%5).toNat,by lia,by lia,by lia⟩;obtain ⟨H,hH,bH⟩ : ∃H:Nat,1+o/8%4=(H:Int)/\1<=H/\H<=4:=⟨(1+o/8%4).toNat,by lia,by lia,by lia⟩;rw [hW,hH];refine i B ?_;symm;refine i B ?_;symm;refine i B ?_;symm;refine GR ⟨by lia,by show _<((3:Nat):Int);lia⟩ λdS hS=>?_;obtain ⟨S,rfl,bS⟩ : ∃S:Nat,dS=.int S/\1<=S/\S<=64:=by
  simp only [BV,Cg,HX] at hS;rcases hS with rfl | rfl | rfl
  .exact ⟨(1+o/64%6).toNat,by rw [Jx (by lia)],by lia,by lia⟩
  .exact ⟨(1+o/64%3).toNat,by rw [Jx (by lia)],by lia,by lia⟩
  .exact ⟨64,rfl,by lia,by lia⟩
 clear hS;symm;refine M4 (by decide) λc9=>?_;symm;refine oM λj l1 l16 C=>?_;symm;refine i B ?_;symm;refine GR ⟨by lia,by show _<((2:Nat):Int);lia⟩ λsp u=>?_;obtain ⟨dots,F,d1,d2,N⟩ : ∃dots,Dots dots/\1<=dots.length/\dots.length<=3/\Hw [sp]=.ok (.lst (dots.map encP)):=by
  simp only [BV,Cg,HX] at u;rcases u with rfl | rfl
  .exact ⟨[(4,4)],⟨by decide,by decide⟩,by decide,by decide,ZkO⟩
  .have ec:cutL (j.map encP) none (some 3)=(j.take 3).map encP:=by rw [show (3:Int)=((3:Nat):Int) from rfl,Vj,Ji]
   rw [ec];have F:Dots (j.take 3):=⟨λx hx=>C.1 x (G5 hx),C.2.sublist (List.take_sublist _ _)⟩;have e1:1<=(j.take 3).length:=by rw [Eb];lia
   have e2:(j.take 3).length<=3:=by rw [Eb];lia
   exact ⟨_,F,e1,e2,xY ⟨e1,by lia⟩ F.1 F.2⟩
 clear u C l1 l16;symm;refine i B ?_;symm;refine GR ⟨by lia,by show _<((2:Nat):Int);lia⟩ λgr s=>?_;obtain ⟨g,rfl,hg⟩ : ∃g:Rat,gr=frD g/\Bq 300 g:=by
  simp only [BV,Cg,HX] at s;rcases s with rfl | rfl
  .exact ⟨⟨0,1,by decide,by decide⟩,rfl,Bq.mono (k:=32) ⟨show (0:Int).natAbs<2^32 by decide,show (1:Int).natAbs<2^32 by decide⟩ (by decide)⟩
  .exact ⟨⟨9,4,by decide,by decide⟩,rfl,Bq.mono (k:=32) ⟨show (9:Int).natAbs<2^32 by decide,show (4:Int).natAbs<2^32 by decide⟩ (by decide)⟩
 clear s;have Q:LC [frD g]=.ok (frD g):=rfl;have z:Sz W H S:=⟨by lia,by lia,by lia⟩;have O:=lg64 (show S<=1000000 by lia);have aw:=LR (show 0<S by lia) (show 0<W by lia);have ah:=LR (show 0<S by lia) (show 0<H by lia);have hm:acr W S*acr H S<=20:=JH (show acr W S<=5 by lia) (show acr H S<=4 by lia);have mo:=mo64 (show acr W S<=1000000 by lia) (show acr H S<=1000000 by lia);have P:0<(S:Int):=by lia
 have pt:J8 [.lst ts,.int W,.int H,sp,frD g]=.ok (picP (cellQ ts g dots) W H):=Tl.eq (rY (n:=8) M lt (by decide) z.w z.h N Q hg F.1 d1 (by lia) (by lia) rfl);have tl:=λ(A:List Int) (K:A.Perm (rgI (acr W S*acr H S))) od (hod:Jj [od,.int ((acr W S*acr H S:Nat):Int)]=.ok (.lst (A.map .int)))=>zZ hg M (show ts.length<=12 by lia) F d1 d2 z N K (by lia) hod Q;symm;refine Ah pt ?_;obtain ⟨cs,as,y,lc,la⟩:=Zp3 (f:=cellQ ts g dots) (W:=W) (H:=H) (by lia);have pp:=Zog (cellQ ts g dots) W H;generalize picP (cellQ ts g dots) W H=pic at *;symm;refine sI ?_;symm;refine Ah (tl _ (.refl _) .non (vO (by lia))) ⟨cs,as,_,by rw [y],⟨by lia,by lia,ZoF _,by show 10<15;decide,by show 11<15;decide,by decide⟩,?_⟩;symm;rw [<-y];refine Ah (fQ pp) ?_;symm;refine ⟨rfl,?_⟩;refine iH (FT (w_c (FT (w_c (HB ?_)))));refine w_sq (w_st (w_o2 (w_o2 (w_o2 (w_o2 (w_v rfl (w_v rfl (XS (w_c (w_sub (w_v rfl (w_div P O (w_o2 (w_o2 (w_o2 (w_v rfl (w_v rfl (XS (w_c (w_sub (w_v rfl (w_div P O ?_))))))))))))))))))))));rw [Ro (by lia) (by lia),Ro (by lia) (by lia)];refine w_mul mo ?_;rw [<-K7];symm;have e4:cutL R (some (3:Int)) (some (7:Int))=[v,I,J,G].map .int:=by rw [<-hR];rfl
 rw [e4];refine sO rfl (by lia) λA K=>?_;symm;have ep:=tl A K (.lst (A.map .int)) (Tl.eq (vR K (by lia) rfl));refine Ah ((uK rfl rfl).trans ep) ?_;symm;refine Ah (Z7 pp) ?_;symm;have ol:A.length<=20:=by
  have:=K.length_eq;rw [Al,Ff] at this
  lia
 have dl:=Zj (ts:=ts) (dots:=dots) (W:=W) (H:=H) (S:=S) (by lia) A;refine Ah (qP (by lia) K (Zyh _) (by lia)) ?_;symm;refine Ah (Z7 (ZwF ts dots W H S _)) ?_;symm
end My
namespace My
open PySem L2 Ds Dl
noncomputable def top(i:Nat):Stmt:=PySem.Challenge.pw_sampleyard_k64_whole_one_picture.main.body.getD i (.Pass ⟨0,0,0,0⟩)
abbrev ZX:Stmt:=(inClass (top 78) 0)
abbrev jg:Stmt:=(inClass (top 79) 0)
abbrev cR:Stmt:=(inClass (top 82) 0)
abbrev dg:Stmt:=(inClass (top 81) 0)
abbrev Xq:Stmt:=(inClass (top 80) 0)
abbrev Yc:Stmt:=(inClass (top 82) 3)
abbrev eX:Stmt:=(inClass (top 81) 2)
abbrev eE:Stmt:=(inClass (top 79) 2)
abbrev jx:Stmt:=(inClass (top 80) 2)
abbrev ZV:Stmt:=(inClass (top 82) 2)
abbrev ZD:Stmt:=(inClass (top 78) 1)
abbrev H9:Stmt:=top 49
abbrev vG:Stmt:=top 64
abbrev ou:Stmt:=top 66
abbrev Ik:Stmt:=top 60
abbrev K8:Stmt:=top 98
local macro_rules | `(tactic| walk_at "sc")=>`(tactic| exact ⟨rfl,rfl,rfl,by decide +kernel,rfl,by decide +kernel,by decide +kernel⟩)
def b8:CT ["self","triangle"] ["self","triangle"] (BJ ZX):=by walk_at "sc"
def Zt:CT ["self","triangle","colour"] ["self","triangle","colour"] (BJ jg):=by walk_at "sc"
def gQ:CT ["self","triangle","colour","part"] ["self","triangle","colour","part"] (BJ cR):=by walk_at "sc"
def fV:CT ["self","triangle","pattern"] ["self","triangle","pattern"] (BJ dg):=by walk_at "sc"
def gW:CT ["self","triangle"] ["self","triangle"] (BJ Xq):=by walk_at "sc"
def dW:CT ["self","values"] ["self","values"] (BJ Yc):=by walk_at "sc"
def bM:CT ["self","values"] ["self","values"] (BJ eX):=by walk_at "sc"
def Zg:CT ["self","values"] ["self","values"] (BJ eE):=by walk_at "sc"
def ZK:CT ["self","values"] ["self","values"] (BJ jx):=by walk_at "sc"
def cQ:CT ["self"] ["self"] (BJ ZV):=by walk_at "sc"
def dh:CT ["self"] ["self"] (BJ ZD):=by walk_at "sc"
def dM:CT ["things","width","height","spots","ground","places","beneath"] ["things","width","height","spots","ground"] (BJ H9):=by walk_at "sc"
def Z5:CT ["thing","points","sights_by_point","least_depths","place","point","seen"] ["thing","points","sights_by_point","least_depths"] (BJ vG):=by walk_at "sc"
def bJ:CT ["picture","cells","sights_by_point","ground","count","place","cell","sights_by_spot"] ["picture","cells","sights_by_point","ground"] (BJ ou):=by walk_at "sc"
def dj:CT ["things","width","height","wide","order","spots","ground","tiles","places","beneath","picture","let_go","tile","cells","looked"] ["things","width","height","wide","order","spots","ground"] (BJ Ik):=by walk_at "sc"
def Ym:CT ["_law_script","_law_things_here","_law_draws_here","_law_at","_law_width","_law_height","_law_wide","_law_dots","_law_base","_law_due","_law_rows","_law_rising","_law_many","_law_some","_law_told"] ["_law_script"] (BJ K8):=by walk_at "sc"
def fil:∀p,Hd.heap p=Hd.heap p/\PySem.Challenge.rw_sampleyard_k64_whole_one_picture=PySem.Challenge.rw_sampleyard_k64_whole_one_picture:=by
 k_fill;exact λ_=>⟨rfl,rfl⟩
def YY(P:Program)(w:World)(K:W1)(mg:MgT)(base:Heap):Prop:=K=Hd.heap w.params/\∀{x:Str} {v:Option Value},W.nsIn K mainGlobals x=some v->mg x=v
abbrev BtT(x q:Str)(st:Stmt)(ps:List Str):Prop:=∀(kV doc pm:Value) (an:Option Addr) (cdv ct:Value) (us:List Value),us.length=ps.length->bindArgs (W.fnOf x q (Gy st) (De st) (BJ st) .none kV doc pm an cdv ct) ⟨us,[]⟩=pure (ps.zip us)
section
variable{P:Program}{w:World}{K:W1}{mg:MgT}{base:Heap}{c x q m:Str}{st:Stmt}{ps:List Str}{f C:Addr}{fd:FuncData}{n j l:Nat}
def ln1{P:List Value->Prop}(q:∀a,P [a]):∀us,us.length=1->P us:=by intro us h;rcases us with _|⟨a,_|_⟩<;>first | exact q _ | cases h
def ln2{P:List Value->Prop}(q:∀a b,P [a,b]):∀us,us.length=2->P us:=by intro us h;rcases us with _|⟨a,_|⟨b,_|_⟩⟩<;>first | exact q _ _ | cases h
def ln3{P:List Value->Prop}(q:∀a b c,P [a,b,c]):∀us,us.length=3->P us:=by intro us h;rcases us with _|⟨a,_|⟨b,_|⟨c,_|_⟩⟩⟩<;>first | exact q _ _ _ | cases h
def ln4{P:List Value->Prop}(q:∀a b c d,P [a,b,c,d]):∀us,us.length=4->P us:=by intro us h;rcases us with _|⟨a,_|⟨b,_|⟨c,_|⟨d,_|_⟩⟩⟩⟩<;>first | exact q _ _ _ _ | cases h
def ln5{P:List Value->Prop}(q:∀a b c d e,P [a,b,c,d,e]):∀us,us.length=5->P us:=by intro us h;rcases us with _|⟨a,_|⟨b,_|⟨c,_|⟨d,_|⟨e,_|_⟩⟩⟩⟩⟩<;>first | exact q _ _ _ _ _ | cases h
def ln7{P:List Value->Prop}(q:∀a b c d e f g,P [a,b,c,d,e,f,g]):∀us,us.length=7->P us:=by intro us h;rcases us with _|⟨a,_|⟨b,_|⟨c,_|⟨d,_|⟨e,_|⟨f,_|⟨g,_|_⟩⟩⟩⟩⟩⟩⟩<;>first | exact q _ _ _ _ _ _ _ | cases h
def exI{α:Type}{φ:α->Prop}{a:α}(h:φ a):∃a,φ a:=⟨a,h⟩
def Za{φ:Addr->Prop}(a:mg c=some (.ref C))(h:φ C):∀C,mg c=some (.ref C)->φ C:=by
 intro C e;cases a.symm.trans e;exact h
def gH(T:YY P w K mg base)(a:W.nsIn (Hd.heap w.params) mainGlobals x=some (some (.ref f)))(F:Fun (Hd.heap w.params) x x st f fd)(b:BtT x x st ps):Def K mg x st ps:=by
 obtain ⟨rfl,g⟩:=T;exact ⟨f,fd,F,F.binds b,g a⟩
def R8{cs:List Str}{i:List D->Fs->Res Fs}(a:mg c=some (.ref C))(h1:W.makesIn K C=true)(h2:W.findIn K (.ref C) "__init__"=some (some (.ref f)))(h3:W.isFn K (.ref f)=true)(h4:W.keepIn K (.ref C)=true)(F:Fun K x q st f fd)(o:Fun K x q st f fd->FnO P w K mg base j f fd ps (spI K mg n cs i))(b:BtT x q st ps)(e:cs.contains c=true):CalI P w K mg base j c n cs i:=⟨_,_,_,_,a,⟨h1,h2,h3,h4⟩,o F,F.binds b,e⟩
def xm{cs:List Str}{i:List D->Fs->Res Fs}(a:mg c=some (.ref C))(h1:W.specialIn K (.ref C) "__getattribute__"=some (some (.builtin "type.__getattribute__")))(h2:W.readsIn K C (.type "type")=true)(h3:W.findCls K (.ref C) (.type "type") "__init__"=some (.val (.ref f)))(h4:W.handedIn (.ref f)=true)(F:Fun K x q st f fd)(o:Fun K x q st f fd->FnO P w K mg base j f fd ps (spI K mg n cs i))(b:BtT x q st ps):CalS P w K mg base j c "__init__" n cs i:=⟨_,_,_,_,a,⟨h1,⟨_,h2,h3⟩,h4,F.kp⟩,o F,F.binds b⟩
def JC{i:List D->Res D}(a:mg c=some (.ref C))(p:Cls K C)(h1:W.findIn K (.ref C) m=some (some (.ref f)))(h2:W.isFn K (.ref f)=true)(F:Fun K x q st f fd)(o:Fun K x q st f fd->FnO P w K mg base j f fd ps (spD K mg ps.length i))(b:BtT x q st ps)(hj:j<=l)(e:ps.length=n+1):∀C,mg c=some (.ref C)->Cls K C/\∃g fd ps,Meth K C m g/\FnO P w K mg base l g fd ps (spD K mg ps.length i)/\Binds K fd ps []/\ps.length=n+1:=Za a ⟨p,_,_,_,⟨h1,h2,F.kp⟩,(o F).mono hj,F.binds b,e⟩
def lawK{oc kV dc pm cd ct:Value}{od an:Option Addr}{sl:Array (Option Value)}{fa:Addr}{sp:Sp}(a:mg "law"=some (.ref f))(hfa:mg "law"=some (.ref fa))(l:K.lookup f=some ⟨oc,od,.func (W.fnOf "law" "law" (Gy K8) (De K8) (BJ K8) .none kV dc pm an cd ct),sl⟩)(h1:W.codeIn K cd "law"=true)(h2:W.keepIn K (.ref f)=true)(o:∀base fd,Fun K "law" "law" K8 f fd->FnO P w K mg base n f fd ["_law_script"] sp):∃fd:FuncData,(∀(s:Shared) (v:Value),BindsTo s fd ⟨[v],[]⟩ [("_law_script",v)])/\∀base:Heap,K.In base->base.Ns mainGlobals mg->FnO P w K mg base n fa fd ["_law_script"] sp:=by
 cases a.symm.trans hfa;exact ⟨_,λs v=>.of_eq rfl,λbase _ _=>o base _ (Em l h1 h2)⟩
def cal1{mb:MS}(st:Stmt)(N:List Str)(h:N.Nodup->∀(f:Addr) (cdv:Value) (A:Around) (outer:List Env) (s:Shared) (H:Hp) (E:XK),Room n (A.deeper (PyProof.Rows.envOfC x (BJ st) s.heap.objs.size f cdv))->∃t,DSs (cxOf (CXR P w) P w K mg base N x (BJ st) f cdv A outer s H E) E (De st) t mb:=by walk_at "hh")(D:Def K mg x st ps/\CT N ps (BJ st):=by walk_at "D"):Cal P w K mg base (n+1) x ps (fn N.length mb):=D.1.cal D.2 (h D.2.nd)
end
local macro_rules | `(tactic| walk_at "b")=>`(tactic| first | (exact λ_ _ _ _ _ _=>My.ln1 λ_=>rfl) | (exact λ_ _ _ _ _ _=>My.ln2 λ_ _=>rfl) | (exact λ_ _ _ _ _ _=>My.ln3 λ_ _ _=>rfl) | (exact λ_ _ _ _ _ _=>My.ln4 λ_ _ _ _=>rfl) | (exact λ_ _ _ _ _ _=>My.ln5 λ_ _ _ _ _=>rfl) | (exact λ_ _ _ _ _ _=>My.ln7 λ_ _ _ _ _ _ _=>rfl))
set_option hygiene false
local macro_rules | `(tactic| walk_at "y")=>`(tactic| obtain ⟨rfl,g⟩:=id T)
local macro_rules | `(tactic| walk_at "q")=>`(tactic| all_goals first | k_is | k_exc | kit_is | kts_exm | kernel_rfl | rfl | skip)
local macro_rules | `(tactic| walk_at "z")=>`(tactic| (walk_at "y"; refine' g ?_;k_is))
local macro_rules | `(tactic| walk_at "z1")=>`(tactic| (walk_at "y"; refine' My.exI (g ?_);walk_at "q"))
local macro_rules | `(tactic| walk_at "z2")=>`(tactic| (walk_at "y"; refine' My.exI ⟨g ?_,?_⟩;walk_at "q"))
local macro_rules | `(tactic| walk_at "fl")=>`(tactic| (walk_at "y"; (repeat' first | exact Fj.nil | refine' Fj.cons (My.Za (g ?_) ⟨⟨?_,?_,?_,?_⟩,?_⟩) ?_);walk_at "q"))
local macro_rules | `(tactic| walk_at "d")=>`(tactic| (refine' My.gH T ?_ (L2.Em ?_ ?_ ?_) (by walk_at "b");walk_at "q"))
local macro_rules | `(tactic| walk_at "hh")=>`(tactic| exact λhN f cdv A outer s H E hr=>⟨_,(by nofun)⟩)
local macro_rules | `(tactic| walk_at "D")=>`(tactic| (refine' ⟨My.gH T ?_ (L2.Em ?_ ?_ ?_) (by walk_at "b"),by walk_at "sc"⟩;walk_at "q"))
set_option hygiene true
section
variable{P:Program}{w:World}{K:W1}{mg:MgT}{base:Heap}(T:YY P w K mg base)
include T
def ZxY:mg "abs"=none:=by walk_at "z"
def Oc:mg "all"=none:=by walk_at "z"
def ZvP:mg "bool"=none:=by walk_at "z"
def Qw:mg "enumerate"=none:=by walk_at "z"
def fc:mg "int"=none:=by walk_at "z"
def yW:mg "isinstance"=none:=by walk_at "z"
def W8:mg "len"=none:=by walk_at "z"
def Ky:mg "list"=none:=by walk_at "z"
def Zyj:mg "min"=none:=by walk_at "z"
def MP:mg "range"=none:=by walk_at "z"
def mZ:mg "set"=none:=by walk_at "z"
def je:mg "sorted"=none:=by walk_at "z"
def Nf:mg "tuple"=none:=by walk_at "z"
def ZxU:mg "zip"=none:=by walk_at "z"
def uy:∃tk,mg "MOST_CELLS"=some (.int 64 tk):=by walk_at "z1"
def ZhP:∃tk,mg "MOST_SPOTS"=some (.int 16 tk):=by walk_at "z1"
def Zhk:∃tk,mg "MOST_VALUES"=some (.int 3 tk):=by walk_at "z1"
def vX:∃tk,mg "MOST_WIDE"=some (.int 64 tk):=by walk_at "z1"
def ZlT{gtk0_0:Tok}{gtk0_1:Tok}{gtk0_2:Tok}{gtk0_3:Tok}{gtk0_4:Tok}{GA0:Addr}{godt0:Option Addr}{gnn0:Nat}{gsl0:Array (Option Value)}(gta0:W.nsIn K mainGlobals "COUNTS"=some (some (.ref GA0)))(gtl0:K.lookup GA0=some ⟨.type "tuple",godt0,.seq #[.int 1 gtk0_0,.int 2 gtk0_1,.int 4 gtk0_2,.int 8 gtk0_3,.int 16 gtk0_4] gnn0,gsl0⟩):GTup K mg "COUNTS" [1,2,4,8,16]:=⟨_,_,_,_,T.2 gta0,gtl0,rfl,rfl,show (5:Nat)<=sizeLine by decide,(.cons ⟨_,rfl⟩ (.cons ⟨_,rfl⟩ (.cons ⟨_,rfl⟩ (.cons ⟨_,rfl⟩ (.cons ⟨_,rfl⟩ .nil)))))⟩
def Zor:GTup K mg "COUNTS" [1,2,4,8,16]:=by walk_at "y"; refine' ZlT T ?_ ?_;walk_at "q"
def Vd:Fj K mg objs "colour":=by walk_at "fl"
def il:Fj K mg objs "part":=by walk_at "fl"
def eV:Fj K mg objs "pattern":=by walk_at "fl"
def dB:Fj K mg objs "triangle":=by walk_at "fl"
open Lean in
set_option hygiene false in
local macro_rules | `(tactic| walk_at "e")=>do `(tactic| repeat' first
 |$(←Mz2 [] "Es0 jw0 La0 d_str0 Bo0 ZsH0"):tactic
 | exact d_v _
 |$(←Mz2 [] "Ba2 Hz2"):tactic
 | refine' Hx (by first | assumption | exact CalO.cal (by assumption) | exact CalN.cal (by assumption)) hr (by decide) rfl CQ ?_
 | refine' Zsp (by first | assumption | exact CalO.cal (by assumption) | exact CalN.cal (by assumption)) hr (by decide) rfl ?_
 | refine' d_callX (by first | assumption | exact CalO.cal (by assumption) | exact CalN.cal (by assumption)) hr (by decide) rfl ?_
 |$(←Mz2 [] "qT2 u52 nP2 oN2 vV2 ZyO2 ZxG2 lw2 Wm2 mq2 Zx02 qm2 yaU2 lX2 d_gt2 pX2 Ir2 iC2 pH2 d_or2"):tactic
 |$(←Mz2 [mkIdent `hr] "Rq2 T32 qp2 Ww2 pM2 d_ne2 d_in2 d_nin2"):tactic
 | exact Qk rfl (ZvP T) oE
 | exact Qk rfl (fc T) YQ
 | exact Qk rfl (Ky T) Tt
 | exact Qk rfl (Nf T) QB
 | refine' Gm (ZlM rfl) Zl2 rfl (Zyj T) vZ ?_
 | refine' Gm lK vz rfl (ZxY T) nZ ?_
 | refine' Gm ZlG ZlK rfl (yW T) mQ ?_
 | refine' Gm dK dR rfl (W8 T) WQ ?_
 | refine' Gm Zk5 vq rfl (je T) cJ ?_
 | refine' Gm Zk0 yx rfl (je T) cJ ?_
 | refine' Mv n6 wg rfl (fc T) YQ ?_
 | refine' Mv zx ZkU rfl (Ky T) Tt ?_
 | refine' Ql (Vd T) ?_
 | refine' Ql (il T) ?_
 | refine' Ql (eV T) ?_
 | refine' Ql (dB T) ?_
 |$(←Mz2 [] "bG2 fZ2 ZxS3 xV3 ZyH1 Il1 ZyI1 W21 gh1 d_isN1 d_notN1 Zrw1 pK1 J01 nj1 HS1 DW.dt1 Bu0 uh0 ds_retN0 W30 ds_brk0 ds_pass0 BW1 Be2 Cm1 Bv3"):tactic
 | refine' Ib hN rfl (by first | exact Or.inl rfl | exact Or.inr rfl) ?_
 | refine' nU hN rfl (by first | exact Or.inl rfl | exact Or.inr rfl) ?_ ?_
 | refine' yg _ ?_
 |$(←Mz2 [] "Zvp1 d92"):tactic
 | refine' Ge .leaving rfl ?_ ?_ ?_
 | exact iK hN rfl (by first | exact Or.inl rfl | exact Or.inr rfl) (by decide)
 | refine' ZvX rfl ?_
 |$(←Mz2 [] "yD2"):tactic
 | refine' ZxE rfl (MP T) ?_
 |$(←Mz2 [] "CP1 Zvw1"):tactic
 | decide
 | fail)
local macro_rules | `(tactic| walk_at "co")=>`(tactic| exact Gw.of rfl rfl (by kernel_rfl) rfl (by repeat' (first | exact trivial | refine ⟨rfl,?_⟩)) (by repeat' (first | exact trivial | refine ⟨rfl,?_⟩)))
local macro_rules | `(tactic| walk_at "cg")=>`(tactic| exact λ_ _ _ _ _=>iK (by show List.Nodup ((_:List Str) ++ (_:List Str));decide +kernel) rfl (by first | exact Or.inl rfl | exact Or.inr rfl) (by decide))
local macro_rules | `(tactic| walk_at "ct")=>`(tactic| exact λ_ _ _ _ _=>pU)
local macro_rules | `(tactic| walk_at "ce")=>`(tactic| (intro _ _ _ _ _;nofun))
def V3:Cal P w K mg base 1 "_law_cell_at" ["_law_script","_law_k"] IW:=by
 exact cal1 (top 87) ["_law_script","_law_k"]
def aC:Cal P w K mg base 1 "check_before_eye" ["corners"] Jw:=by
 exact cal1 (top 27) ["corners","corner"] (λhN _ _ _ _ _ _ E hr=>⟨_,(BW (Ge .leaving rfl (CP (d_v 0)) (by nofun)
  (BW (Bv (by nofun)
  Dy
  Bu))))⟩)
def Oo:Cal P w K mg base 1 "is_whole" ["thing"] HH:=by
 exact cal1 (top 8) ["thing"]
def ZgZ:Cal P w K mg base 2 "are_values" ["thing"] RZ:=by
 have yal:=Oo T;obtain ⟨tk_MOST_VALUES,h_MOST_VALUES⟩:=(Zhk T)
 exact cal1 (top 71) ["thing"] (λhN _ _ _ _ _ _ E hr=>⟨_,(Be (Bv (DW.dt (Ir (by nofun) (J0 (Wm (by nofun) (Ng rfl h_MOST_VALUES)))))
  (BW (Cm La))
  Bu)
  (BW (Cm (Gm (Ny rfl) Nh rfl (Oc T) QV (Ba (Cq (own:=["number"]) (cap:=[]) (CP (d_v 0))) Bo)))))⟩)
def zY:Cal P w K mg base 3 "is_corner" ["thing"] Ue:=by
 have yal:=Oo T;have c_are_values:=ZgZ T
 exact cal1 (top 70) ["thing"] (λhN _ _ _ _ _ _ E hr=>⟨_,(Av
  (Be (Bv (Il (HS (Gm (Ny rfl) Nh rfl (Oc T) QV (Ba (Cq (own:=["number"]) (cap:=[]) (by nofun)) Bo))))
  (BW (Cm La))
  Bu)
  (by nofun)))⟩)
def ZeM:Cal P w K mg base 4 "check_triangle" ["triangle"] Su:=by
 have c_is_corner:=zY T
 exact cal1 (top 69) ["triangle","corner"] (λhN _ _ _ _ _ _ E hr=>⟨_,(Be (Bv (by nofun)
  Dy
  Bu)
  (BW (Ge .leaving rfl (CP (d_v 0)) (by nofun)
  (Be (Bv (by nofun)
  Dy
  Bu)
  (BW (Bv (by nofun)
  Dy
  Bu))))))⟩)
theorem zu{f:Addr}{fd:FuncData}(F:Fun K "__init__" "Thing.__init__" ZX f fd):FnO P w K mg base 5 f fd ["self","triangle"] (spI K mg 1 objs JT):=by
 have yao:=aC T;have c_check_triangle:=ZeM T
 exact okI F b8 (by decide) rfl (λcdv A outer s H E hr=>have hN:=b8.nd;⟨_,(JW (by nofun)
  (JW (by nofun)
  (Py (dB T) (d_v 1)
  QW)))⟩)
def Qx:CalS P w K mg base 5 "Thing" "__init__" 1 objs JT:=by
 walk_at "y"; refine' xm (g ?_) ?_ ?_ ?_ ?_ (Em ?_ ?_ ?_) (zu T) (by walk_at "b");walk_at "q"
def Yd:Cal P w K mg base 1 "greatest_divisor" ["numbers"] Ko:=by
 exact cal1 (top 10) ["numbers","found","number","rest","left"] (λhN _ _ _ _ _ _ E hr=>⟨_,(Av
  (Be (Ge .leaving rfl (CP (d_v 0)) (by nofun)
  (Av
  (BW (jq PassesOwn.leaving (Rq hr (d_v 3) Es)
  (by nofun)))))
  (by nofun)))⟩)
def Uz:Cal P w K mg base 2 "is_fraction" ["thing"] Ku:=by
 have a:=Oo T;have b:=Yd T;exact cal1 (top 22) ["thing"]
def fG:Cal P w K mg base 3 "check_colour" ["colour"] Pg:=by
 have yaq:=Uz T
 exact cal1 (top 84) ["colour"] (λhN _ _ _ _ _ _ E hr=>⟨_,(BW (Bv (by nofun)
  Dy
  Bu))⟩)
theorem ZoM{f:Addr}{fd:FuncData}(F:Fun K "__init__" "Plain.__init__" jg f fd):FnO P w K mg base 7 f fd ["self","triangle","colour"] (spI K mg 2 objs M5):=by
 have yai:=Qx T;have yat:=fG T
 exact okI F Zt (by decide) rfl (λcdv A outer s H E hr=>have hN:=Zt.nd;⟨_,(Rj yai hr (by decide) rfl CQ (λ_ h=>h) (Ba (d_v 1) Bo)
  (JW (by nofun)
  (Py (Vd T) (d_v 2)
  QW)))⟩)
def Yz:CalI P w K mg base 7 "Plain" 2 objs M5:=by
 walk_at "y"; refine' R8 (g ?_) ?_ ?_ ?_ ?_ (Em ?_ ?_ ?_) (ZoM T) (by walk_at "b") rfl;walk_at "q"
def pW:Cal P w K mg base 9 "_law_cover" ["_law_number"] RG:=by
 have ci_Plain:=Yz T
 exact cal1 (top 96) ["_law_number","_law_h"] (λhN _ _ _ _ _ _ E hr=>⟨_,(Av
  (BW (Cm (Pa ci_Plain hr (by decide) rfl CQ (by nofun)))))⟩)
def YL:Cal P w K mg base 1 "_law_mixed" ["_law_cell","_law_k"] Qg:=by
 exact cal1 (top 88) ["_law_cell","_law_k","_law_number"]
def Rv:Cal P w K mg base 2 "_law_draws" ["_law_cell","_law_many"] Iw:=by
 have yaB:=YL T;exact cal1 (top 89) ["_law_cell","_law_many"] (λhN _ _ _ _ _ _ E hr=>⟨_,(BW (Cm (Cq (own:=["_law_k"]) (cap:=[("_law_cell",0)]) (by nofun))))⟩)
def Zg1:Cal P w K mg base 1 "_law_order" ["_law_draws_here","_law_many"] Sy:=by
 exact cal1 (top 97) ["_law_draws_here","_law_many","_law_left","_law_found","_law_k"] (λhN _ _ _ _ _ _ E hr=>⟨_,(Be (ZpG (i:=2) hN rfl (Or.inl rfl) rfl rfl (MP T) rfl (Ky T) (Ba (d_v 1) Bo))
  (Av
  (Av
  (Be (jq PassesOwn.leaving (dI 2 (Zov hr (d_v 2) (fZ Bo)))
  (Be (tG 3 2 (Yl 2 (by nofun)))
  (by nofun)))
  (by nofun)))))⟩)
def ZgX:Cal P w K mg base 3 "_law_spots" ["_law_cell"] RX:=by
 have yaj:=Rv T
 exact cal1 (top 95) ["_law_cell","_law_draws_here","_law_found","_law_more","_law_spot"] (λhN _ _ _ _ _ _ E hr=>⟨_,(Av
  (Av
  (Be (Ge .leaving rfl (by nofun) (by nofun)
  (Av
  (Av
  (BW (Bv (dI 2 (by nofun))
  (by nofun)
  Bu)))))
  (by nofun))))⟩)
def uT:Cal P w K mg base 3 "check_part" ["part"] Qu:=by
 have yaq:=Uz T
 exact cal1 (top 85) ["part"] (λhN _ _ _ _ _ _ E hr=>⟨_,(BW (Bv (by nofun)
  Dy
  Bu))⟩)
theorem yR{f:Addr}{fd:FuncData}(F:Fun K "__init__" "Glass.__init__" cR f fd):FnO P w K mg base 7 f fd ["self","triangle","colour","part"] (spI K mg 3 objs Nq):=by
 have yai:=Qx T;have yat:=fG T;have c_check_part:=uT T
 exact okI F gQ (by decide) rfl (λcdv A outer s H E hr=>have hN:=gQ.nd;⟨_,(Rj yai hr (by decide) rfl CQ (λ_ h=>h) (Ba (d_v 1) Bo)
  (JW (by nofun)
  (JW (by nofun)
  (Py (Vd T) (d_v 2)
  (Py (il T) (d_v 3)
  QW)))))⟩)
def ZpA:CalI P w K mg base 7 "Glass" 3 objs Nq:=by
 walk_at "y"; refine' R8 (g ?_) ?_ ?_ ?_ ?_ (Em ?_ ?_ ?_) (yR T) (by walk_at "b") rfl;walk_at "q"
def Zfa:Cal P w K mg base 3 "check_pattern" ["pattern"] Od:=by
 have yaq:=Uz T;obtain ⟨ga_COUNTS,go_COUNTS,gi_COUNTS,gn_COUNTS,yaC,yaD,yaE,yaF,yaG,yaH⟩:=(Zor T)
 exact cal1 (top 74) ["pattern","row"] (λhN _ _ _ _ _ _ E hr=>⟨_,(Be (Bv (DW.dt (Ir (by nofun) (J0 (Ww hr (by nofun) (Yb (ns:=[1,2,4,8,16]) rfl yaC yaD yaE yaF yaG yaH)))))
  Dy
  Bu)
  (BW (Ge .leaving rfl (CP (d_v 0)) (by nofun)
  (Be (Bv (DW.dt (Ir (by nofun) (J0 (Ww hr (by nofun) (Yb (ns:=[1,2,4,8,16]) rfl yaC yaD yaE yaF yaG yaH)))))
  Dy
  Bu)
  (Be (Bv (by nofun)
  Dy
  Bu)
  (BW (Bv (Il (HS (Gm (Ny rfl) Nh rfl (Oc T) QV (Ba (Cq (own:=["entry"]) (cap:=[]) (CP (d_v 1))) Bo))))
  Dy
  Bu)))))))⟩)
def Yw:Cal P w K mg base 1 "check_values" ["triangle","least"] Qa:=by
 exact cal1 (top 83) ["triangle","least"] (λhN _ _ _ _ _ _ E hr=>⟨_,(BW (Bv (by nofun)
  Dy
  Bu))⟩)
def lq:Cal P w K mg base 1 "copied" ["pattern"] QJ:=by
 exact cal1 (top 75) ["pattern"] (λhN _ _ _ _ _ _ E hr=>⟨_,(BW (Cm (Cq (own:=["row"]) (cap:=[]) (CP (d_v 0)))))⟩)
theorem pP{f:Addr}{fd:FuncData}(F:Fun K "__init__" "Patterned.__init__" dg f fd):FnO P w K mg base 7 f fd ["self","triangle","pattern"] (spI K mg 2 objs Ov):=by
 have yai:=Qx T;have c_check_pattern:=Zfa T;have yau:=Yw T;have c_copied:=lq T
 exact okI F fV (by decide) rfl (λcdv A outer s H E hr=>have hN:=fV.nd;⟨_,(Rj yai hr (by decide) rfl CQ (λ_ h=>h) (Ba (d_v 1) Bo)
  (JW (by nofun)
  (JW (by nofun)
  (Py (eV T) (by nofun)
  QW))))⟩)
def Zhz:CalI P w K mg base 7 "Patterned" 2 objs Ov:=by
 walk_at "y"; refine' R8 (g ?_) ?_ ?_ ?_ ?_ (Em ?_ ?_ ?_) (pP T) (by walk_at "b") rfl;walk_at "q"
theorem zV{f:Addr}{fd:FuncData}(F:Fun K "__init__" "Shaded.__init__" Xq f fd):FnO P w K mg base 7 f fd ["self","triangle"] (spI K mg 1 objs P0):=by
 have yai:=Qx T;have yau:=Yw T
 exact okI F gW (by decide) rfl (λcdv A outer s H E hr=>have hN:=gW.nd;⟨_,(Rj yai hr (by decide) rfl CQ (λ_ h=>h) (Ba (d_v 1) Bo)
  (JW (by nofun)
  QW))⟩)
def Zm2:CalI P w K mg base 7 "Shaded" 1 objs P0:=by
 walk_at "y"; refine' R8 (g ?_) ?_ ?_ ?_ ?_ (Em ?_ ?_ ?_) (zV T) (by walk_at "b") rfl;walk_at "q"
def Iz:Cal P w K mg base 2 "ratio" ["top","bottom"] Er:=by
 have a:=Yd T;exact cal1 (top 13) ["top","bottom","divisor"]
def tV:Cal P w K mg base 3 "_law_pattern" ["_law_number","_law_more"] RQ:=by
 have b:=YL T;have a:=Iz T;exact cal1 (top 92) ["_law_number","_law_more","_law_rows","_law_columns","_law_found","_law_r","_law_line","_law_c","_law_one"]
def ZgI:Cal P w K mg base 9 "_law_thing" ["_law_draws_here","_law_triangle"] T7:=by
 have ci_Plain:=Yz T;have ci_Glass:=ZpA T;have ci_Patterned:=Zhz T;have ci_Shaded:=Zm2 T;have yak:=Iz T;have c__law_pattern:=tV T
 exact cal1 (top 93) ["_law_draws_here","_law_triangle","_law_number","_law_top","_law_bottom","_law_more","_law_colour","_law_way","_law_few","_law_part"] (λhN _ _ _ _ _ _ E hr=>⟨_,(Av
  (Av
  (Av
  (Av
  (Be (Bv (T3 hr (d_v 7) Es)
  (Av
  (BW (Cm (Pa ci_Shaded hr (by decide) rfl CQ (Ba (Mv Te S7 rfl (Nf T) QB (Ba (Cq (own:=["_law_corner_here"]) (cap:=[("_law_few",8)]) (CP (d_v 1))) Bo)) Bo)))))
  Bu)
  (Be (Bv (T3 hr (d_v 7) Es)
  (BW (Cm (Pa ci_Patterned hr (by decide) rfl CQ (by nofun))))
  Bu)
  (Be (Bv (T3 hr (d_v 7) Es)
  (BW (Cm (Pa ci_Plain hr (by decide) rfl CQ (by nofun))))
  Bu)
  (Av
  (BW (Cm (Pa ci_Glass hr (by decide) rfl CQ (by nofun))))))))))))⟩)
def Zgd:Cal P w K mg base 1 "_law_corner" ["_law_draws_here","_law_many"] Ot:=by
 exact cal1 (top 90) ["_law_draws_here","_law_many","_law_number","_law_more","_law_scale","_law_times","_law_x","_law_y","_law_w","_law_h","_law_values"] (λhN _ _ _ _ _ _ E hr=>⟨_,(Av
  (Av
  (Av
  (Av
  (Av
  (Av
  (Av
  (Be (Ib (i:=10) hN rfl (Or.inl rfl) (Mv Te S7 rfl (Nf T) QB (Ba (Cq (own:=["_law_j"]) (cap:=[("_law_draws_here",0)]) (by nofun)) Bo)))
  (Be (Bv (by nofun)
  (Av
  (Av
  (Av
  (Av
  (BW (Ib (i:=10) hN rfl (Or.inl rfl) (Mv Te S7 rfl (Nf T) QB (Ba (Cq (own:=["_law_j"]) (cap:=[("_law_draws_here",0)]) (by nofun)) Bo))))))))
  Bu)
  (by nofun))))))))))⟩)
def yG:Cal P w K mg base 3 "_law_triangles" ["_law_script","_law_first","_law_most","_law_many"] Ry:=by
 have yam:=V3 T;have yaj:=Rv T;have c__law_corner:=Zgd T
 exact cal1 (top 91) ["_law_script","_law_first","_law_most","_law_many","_law_size","_law_rows","_law_pool","_law_draws_here","_law_found","_law_k","_law_number","_law_one"] (λhN _ _ _ _ _ _ E hr=>⟨_,(Av
  (Be (Ib (i:=5) hN rfl (Or.inr rfl) (Cq (own:=["_law_k"]) (cap:=[("_law_size",4),("_law_script",0),("_law_first",1)]) (by nofun)))
  (Be (ZP (i:=6) hN rfl (Or.inl rfl) (own:=["_law_row"]) (cap:=[("_law_size",4),("_law_many",3)]) (CP (d_v 5)) (by walk_at "co") rfl (by walk_at "cg") (by walk_at "ct") (by walk_at "ce"))
  (Av
  (Av
  (Be (Ge .leaving rfl (by nofun) (by nofun)
  (Av
  (Av
  (Be (Bv (by nofun)
  (BW (ZP (i:=11) hN rfl (Or.inl rfl) (own:=["_law_j"]) (cap:=[("_law_size",4),("_law_rows",5),("_law_many",3),("_law_k",9)]) (by nofun) (by walk_at "co") rfl (by walk_at "cg") (by walk_at "ct") (by walk_at "ce")))
  Bu)
  (by nofun)))))
  (by nofun)))))))⟩)
def Zga:Cal P w K mg base 10 "_law_things" ["_law_script","_law_first","_law_most"] Rk:=by
 have yam:=V3 T;have yaj:=Rv T;have c__law_thing:=ZgI T;have c__law_triangles:=yG T
 exact cal1 (top 94) ["_law_script","_law_first","_law_most","_law_draws_here","_law_found","_law_many","_law_k","_law_triangle"] (λhN _ _ _ _ _ _ E hr=>⟨_,(Av
  (Av
  (Av
  (Be (Ge .leaving rfl (R3 rfl (Qw T) (by nofun)) (by nofun)
  (by nofun))
  (by nofun)))))⟩)
def WP:Cal P w K mg base 2 "is_between" ["thing","least","most"] JK:=by
 have a:=Oo T;exact cal1 (top 9) ["thing","least","most"]
def dU:Cal P w K mg base 3 "check_floor" ["width","height"] QG:=by
 have c:=WP T;obtain ⟨b,a⟩:=(uy T)
 exact cal1 (top 39) ["width","height"] (λe _ _ _ _ _ _ E d=>⟨_,(BW (Bv (DW.dt (Ir (Il (HS (Hx c d (by decide) rfl CQ (Ba (d_v 0) (Ba Es (Ba (Ng rfl a) Bo)))))) (J0 (Il (HS (Hx c d (by decide) rfl CQ (Ba (d_v 1) (Ba Es (Ba (Ng rfl a) Bo)))))))))
  Dy
  Bu))⟩)
def bC:Cal P w K mg base 1 "ground_or_none" ["ground"] LC:=by
 exact cal1 (top 43) ["ground"]
theorem ww{f:Addr}{fd:FuncData}(F:Fun K "colour_at" "Plain.colour_at" eE f fd):FnO P w K mg base 1 f fd ["self","values"] (spD K mg 2 V2):=by
 exact okM F Zg (λcdv A outer s H E hr=>have hN:=Zg.nd;⟨_,(by nofun)⟩)
theorem ZdO{f:Addr}{fd:FuncData}(F:Fun K "colour_at" "Shaded.colour_at" jx f fd):FnO P w K mg base 1 f fd ["self","values"] (spD K mg 2 Ut):=by
 exact okM F ZK (λcdv A outer s H E hr=>have hN:=ZK.nd;⟨_,(by nofun)⟩)
def ZsV:Cal P w K mg base 1 "down" ["one"] Oa:=by
 exact cal1 (top 21) ["one"]
def oU:Cal P w K mg base 2 "entry_at" ["pattern","u","v"] Ra:=by
 have a:=ZsV T;exact cal1 (top 76) ["pattern","u","v","row"]
theorem Zc4{f:Addr}{fd:FuncData}(F:Fun K "colour_at" "Patterned.colour_at" eX f fd):FnO P w K mg base 3 f fd ["self","values"] (spD K mg 2 Lh):=by
 have c_entry_at:=oU T;exact okM F bM (λcdv A outer s H E hr=>have hN:=bM.nd;⟨_,(by nofun)⟩)
theorem Zd0{f:Addr}{fd:FuncData}(F:Fun K "colour_at" "Glass.colour_at" Yc f fd):FnO P w K mg base 1 f fd ["self","values"] (spD K mg 2 aj):=by
 exact okM F dW (λcdv A outer s H E hr=>have hN:=dW.nd;⟨_,(by nofun)⟩)
def uq:Gi P w K mg base 3 1 "colour_at" Nx:=by
 walk_at "y"; refine' Gi.cons (JC (g ?_) ⟨?_,?_,?_,?_⟩ ?_ ?_ (Em ?_ ?_ ?_) (ww T) (by walk_at "b") (by decide) rfl) (.cons (JC (g ?_) ⟨?_,?_,?_,?_⟩ ?_ ?_ (Em ?_ ?_ ?_) (ZdO T) (by walk_at "b") (by decide) rfl) (.cons (JC (g ?_) ⟨?_,?_,?_,?_⟩ ?_ ?_ (Em ?_ ?_ ?_) (Zc4 T) (by walk_at "b") (by decide) rfl) (.cons (JC (g ?_) ⟨?_,?_,?_,?_⟩ ?_ ?_ (Em ?_ ?_ ?_) (Zd0 T) (by walk_at "b") (by decide) rfl) .nil)));walk_at "q"
def ZoO:Cal P w K mg base 3 "minus" ["one","other"] Pn:=by
 have a:=Iz T;exact cal1 (top 15) ["one","other"]
def ji:Cal P w K mg base 3 "plus" ["one","other"] Kp:=by
 have a:=Iz T;exact cal1 (top 14) ["one","other"]
def yt:Cal P w K mg base 3 "product" ["one","other"] QQ:=by
 have a:=Iz T;exact cal1 (top 16) ["one","other"]
def ZhI:Cal P w K mg base 4 "laid_over" ["glass","colour"] O6:=by
 have b:=ZoO T;have c:=ji T;have a:=yt T;exact cal1 (top 48) ["glass","colour","left"]
theorem Wc{f:Addr}{fd:FuncData}(F:Fun K "is_glass" "Thing.is_glass" ZD f fd):FnO P w K mg base 1 f fd ["self"] (spD K mg 1 KC):=by
 exact okM F dh (λb A a s H E d=>have c:=dh.nd;⟨_,(BW (Cm La))⟩)
theorem tY{f:Addr}{fd:FuncData}(F:Fun K "is_glass" "Glass.is_glass" ZV f fd):FnO P w K mg base 1 f fd ["self"] (spD K mg 1 Vf):=by
 exact okM F cQ (λb A a s H E d=>have c:=cQ.nd;⟨_,(BW (Cm La))⟩)
def Vu:Gi P w K mg base 1 0 "is_glass" H8:=by
 walk_at "y"; refine' Gi.cons (JC (g ?_) ⟨?_,?_,?_,?_⟩ ?_ ?_ (Em ?_ ?_ ?_) (Wc T) (by walk_at "b") (by decide) rfl) (.cons (JC (g ?_) ⟨?_,?_,?_,?_⟩ ?_ ?_ (Em ?_ ?_ ?_) (Wc T) (by walk_at "b") (by decide) rfl) (.cons (JC (g ?_) ⟨?_,?_,?_,?_⟩ ?_ ?_ (Em ?_ ?_ ?_) (Wc T) (by walk_at "b") (by decide) rfl) (.cons (JC (g ?_) ⟨?_,?_,?_,?_⟩ ?_ ?_ (Em ?_ ?_ ?_) (tY T) (by walk_at "b") (by decide) rfl) .nil)));walk_at "q"
def NQ:Cal P w K mg base 1 "under" ["one","other"] GF:=by
 exact cal1 (top 18) ["one","other"]
def nQ:Cal P w K mg base 2 "layers_over" ["nearest","sights"] QM:=by
 have cm_is_glass:=Vu T;have yax:=NQ T
 exact cal1 (top 47) ["nearest","sights","layers","sight","place"] (λhN _ _ _ _ _ _ E hr=>⟨_,(Av
  (Be (Ge .leaving rfl (CP (d_v 1)) (by nofun)
  (BW (Bv (DW.dt (iC (HS (Vt cm_is_glass hr (by decide) CQ (Hz (d_v 3) Es))) (by nofun)))
  (Be (Ib (i:=4) hN rfl (Or.inl rfl) (Yl 2 (Gm dK dR rfl (W8 T) WQ (Ba (Cq (own:=["layer"]) (cap:=[("sight",3)]) (CP (d_v 2)) (by walk_at "co") rfl (by walk_at "cg") (λ_ _ _ _ _=>Ztr (by nofun)) (λ_ _ _ _ _=>(d_v 0))) Bo))))
  (BW (nM 2 (d_v 4) (d_v 3))))
  Bu)))
  (by nofun)))⟩)
def ZgU:Cal P w K mg base 2 "nearest_of" ["sights"] Qi:=by
 have cm_is_glass:=Vu T;have yax:=NQ T
 exact cal1 (top 46) ["sights","nearest","sight"] (λhN _ _ _ _ _ _ E hr=>⟨_,(Av
  (Be (Ge .leaving rfl (CP (d_v 0)) (by nofun)
  (Be (Bv (HS (Vt cm_is_glass hr (by decide) CQ (Hz (d_v 2) Es)))
  (BW W3)
  Bu)
  (by nofun)))
  (by nofun)))⟩)
def nW:Cal P w K mg base 5 "colour_of" ["sights","ground"] Oi:=by
 have cm_colour_at:=uq T;have c_laid_over:=ZhI T;have c_layers_over:=nQ T;have c_nearest_of:=ZgU T
 exact cal1 (top 45) ["sights","ground","nearest","colour","sight"] (λhN _ _ _ _ _ _ E hr=>⟨_,(Av
  (Av
  (Be (Bv (gh (d_v 2))
  (BW (Ib (i:=3) hN rfl (Or.inl rfl) (uv cm_colour_at hr (by decide) CQ (Hz (d_v 2) Es) (by nofun))))
  Bu)
  (by nofun))))⟩)
def pQ:Cal P w K mg base 4 "mean_of" ["some"] Q7:=by
 have a:=Iz T;have b:=ji T;exact cal1 (top 17) ["some","total","fraction"]
def jM:Cal P w K mg base 6 "cell_colour" ["sights_by_spot","ground"] K5:=by
 have c_colour_of:=nW T;have yaJ:=pQ T;exact cal1 (top 52) ["sights_by_spot","ground"] (λhN _ _ _ _ _ _ E hr=>⟨_,(BW (Cm (Hx yaJ hr (by decide) rfl CQ (Ba (Cq (own:=["sights"]) (cap:=[("ground",1)]) (CP (d_v 0))) Bo))))⟩)
def Q6:Cal P w K mg base 1 "summed_products" ["three","other"] Gz:=by
 exact cal1 (top 11) ["three","other"]
def Zip:Cal P w K mg base 2 "weighed_h" ["triangle","amounts"] Q9:=by
 have yab:=Q6 T;exact cal1 (top 33) ["triangle","amounts"] (λhN _ _ _ _ _ _ E hr=>⟨_,(BW (Cm (Hx yab hr (by decide) rfl CQ (Ba (Cq (own:=["corner"]) (cap:=[]) (CP (d_v 0)) (by walk_at "co") rfl (by walk_at "cg") (by walk_at "ct") (λ_ _ _ _ _=>(Hz (d_v 0) Es))) (Ba (d_v 1) Bo)))))⟩)
def mH:Cal P w K mg base 3 "depth_and_values" ["triangle","amounts"] TJ:=by
 have yak:=Iz T;have yab:=Q6 T;have c_weighed_h:=Zip T
 exact cal1 (top 32) ["triangle","amounts","bottom","depth","threes"] (λhN _ _ _ _ _ _ E hr=>⟨_,(Av
  (Be (Ib (i:=3) hN rfl (Or.inl rfl) (Hx yak hr (by decide) rfl CQ (Ba (Hx yab hr (by decide) rfl CQ (Ba (Cq (own:=["corner"]) (cap:=[]) (CP (d_v 0)) (by walk_at "co") rfl (by walk_at "cg") (by walk_at "ct") (λ_ _ _ _ _=>(Hz (d_v 0) Es))) (Ba (d_v 1) Bo))) (Ba (d_v 2) Bo))))
  (Be (Ib (i:=4) hN rfl (Or.inl rfl) (yaY rfl rfl (ZxU T) rfl (Ky T) (by nofun)))
  (BW (Cm (bG (Ba (d_v 3) (Ba (Mv Te S7 rfl (Nf T) QB (Ba (Cq (own:=["three"]) (cap:=[("bottom",2),("amounts",1)]) (CP (d_v 4))) Bo)) Bo))))))))⟩)
def Zu:Cal P w K mg base 1 "edge_numbers" ["one","other"] Pb:=by
 exact cal1 (top 25) ["one","other"]
def sX:Cal P w K mg base 2 "side" ["one","other","point"] M8:=by
 have a:=Q6 T;have b:=Zu T;exact cal1 (top 24) ["one","other","point","n","number"]
def xG:Cal P w K mg base 3 "had" ["triangle","point"] Sv:=by
 have b:=aC T;have a:=sX T;exact cal1 (top 28) ["triangle","point","turn"]
def wQ:Cal P w K mg base 2 "edge_sum" ["one","other","point"] Lp:=by
 have a:=Q6 T;have b:=Zu T;exact cal1 (top 26) ["one","other","point"]
def oO:Cal P w K mg base 3 "weights" ["triangle","point"] RC:=by
 have a:=wQ T;exact cal1 (top 29) ["triangle","point"]
def YC:Cal P w K mg base 4 "seen_at" ["triangle","point"] DP:=by
 have a:=mH T;have c:=xG T;have b:=oO T;exact cal1 (top 31) ["triangle","point"]
def wI:Cal P w K mg base 5 "sights_at" ["things","p"] Qf:=by
 have a:=YC T;exact cal1 (top 44) ["things","p","sights","thing","seen"]
def X6:Cal P w K mg base 1 "spot_at" ["column","row","spot"] O2:=by
 exact cal1 (top 35) ["column","row","spot"]
def Zik:Cal P w K mg base 6 "sights_in" ["things","column","row","spots"] Tg:=by
 have c_sights_at:=wI T;have yaL:=X6 T;exact cal1 (top 51) ["things","column","row","spots"] (λhN _ _ _ _ _ _ E hr=>⟨_,(BW (Cm (Cq (own:=["spot"]) (cap:=[("things",0),("row",2),("column",1)]) (CP (d_v 3)))))⟩)
def zR:Cal P w K mg base 7 "painted_row" ["things","width","row","spots","ground"] Xh:=by
 have yay:=jM T;have c_sights_in:=Zik T;exact cal1 (top 50) ["things","width","row","spots","ground"] (λhN _ _ _ _ _ _ E hr=>⟨_,(BW (Cm (Cq (own:=["column"]) (cap:=[("things",0),("spots",3),("row",2),("ground",4)]) (by nofun))))⟩)
def uz:Cal P w K mg base 3 "is_spot" ["thing"] Tv:=by
 have a:=WP T;exact cal1 (top 41) ["thing"]
def ph:Cal P w K mg base 4 "check_spots" ["spots"] SQ:=by
 have c_is_spot:=uz T;obtain ⟨tk_MOST_SPOTS,h_MOST_SPOTS⟩:=(ZhP T)
 exact cal1 (top 40) ["spots"] (λhN _ _ _ _ _ _ E hr=>⟨_,(Be (Bv (DW.dt (Ir (by nofun) (Ir (by nofun) (J0 (Wm (by nofun) (Ng rfl h_MOST_SPOTS))))))
  Dy
  Bu)
  (Be (Bv (Il (HS (Gm (Ny rfl) Nh rfl (Oc T) QV (Ba (Cq (own:=["spot"]) (cap:=[]) (CP (d_v 0))) Bo))))
  Dy
  Bu)
  (BW (Bv (Rq hr (ZpW hr rfl (W8 T) rfl (mZ T) (d_v 0)) (by nofun))
  Dy
  Bu))))⟩)
def iw:Cal P w K mg base 5 "spots_or_middle" ["spots"] Hw:=by
 have a:=ph T;exact cal1 (top 42) ["spots"]
theorem lW{f:Addr}{fd:FuncData}{dV:Value}(F:FunD K "paint" "paint" H9 dV f fd):FnO P w K mg base 8 f fd ["things","width","height","spots","ground"] (spD K mg 5 J8):=by
 have yaz:=dU T;have yas:=bC T;have c_painted_row:=zR T;have yar:=iw T
 exact okDF F dM (λcdv A outer s H E hr=>have hN:=dM.nd;⟨_,(Av
  (Av
  (Av
  (BW (Cm (Cq (own:=["row"]) (cap:=[("width",1),("things",0),("places",5),("beneath",6)]) (by nofun)))))))⟩)
def lC{f67:Addr}{od67:Option Addr}{an67:Option Addr}{sl67:Array (Option Value)}{oc67:Value}{kV67:Value}{dc67:Value}{pm67:Value}{cd67:Value}{ct67:Value}{dT67:Addr}{dc_67:Value}{dd_67:Option Addr}{dn_67:Nat}{ds_67:Array (Option Value)}(a67:W.nsIn K mainGlobals "paint"=some (some (.ref f67)))(l67:K.lookup f67=some ⟨oc67,od67,.func (W.fnOf "paint" "paint" (Gy H9) (De H9) (BJ H9) (.ref dT67) kV67 dc67 pm67 an67 cd67 ct67),sl67⟩)(c67:W.codeIn K cd67 "paint"=true)(k67:W.keepIn K (.ref f67)=true)(dl67:K.lookup dT67=some ⟨dc_67,dd_67,.seq #[.none,.none] dn_67,ds_67⟩):Cal P w K mg base 8 "paint" ["things","width","height","spots","ground"] J8:=by
 have d:FunD K "paint" "paint" H9 (.ref dT67) f67 _:=⟨_,_,_,_,_,_,_,_,_,rfl,l67,c67⟩;have a:=lW T d;have b:Binds K (W.fnOf "paint" "paint" (Gy H9) (De H9) (BJ H9) (.ref dT67) kV67 dc67 pm67 an67 cd67 ct67) ["things","width","height","spots","ground"] []:=λs c X e=>My.ln5 (P:=λc=>BindsTo s _ {pos:=c} (List.zip (["things","width","height","spots","ground"]:List Str) (c++[]))) (λ_ _ _ _ _=>BindsTo.of_defaults rfl (X _ _ dl67) rfl rfl rfl) c (by simpa using e);exact ⟨_,_,a,b,k67,T.2 a67⟩
def Zrf:Cal P w K mg base 8 "paint" ["things","width","height","spots","ground"] J8:=by
 walk_at "y"; refine' lC T ?_ ?_ ?_ ?_ ?_;walk_at "q"
def ZgY:Cal P w K mg base 3 "check_wide" ["wide"] TV:=by
 have c:=WP T;obtain ⟨b,a⟩:=(vX T)
 exact cal1 (top 58) ["wide"] (λe _ _ _ _ _ _ E d=>⟨_,(BW (Bv (Il (HS (Hx c d (by decide) rfl CQ (Ba (d_v 0) (Ba Es (Ba (Ng rfl a) Bo))))))
  Dy
  Bu))⟩)
def Zgi:Cal P w K mg base 2 "greatest_of" ["some"] Rn:=by
 have a:=NQ T;exact cal1 (top 20) ["some","greatest","fraction"]
def pD:Cal P w K mg base 3 "far_depth" ["least_depths"] Oj:=by
 have a:=Zgi T;exact cal1 (top 63) ["least_depths"]
def cF:Cal P w K mg base 2 "least_of" ["some"] QF:=by
 have a:=NQ T;exact cal1 (top 19) ["some","least","fraction"]
def nF:Cal P w K mg base 3 "lesser" ["least","depth"] Nm:=by
 have a:=cF T;exact cal1 (top 65) ["least","depth"]
def ZkV:CalY P w K mg base 5 "look_at" ["thing","points","sights_by_point","least_depths"] 2 Jp:=by
 have cm_is_glass:=Vu T;have yaK:=YC T;have c_lesser:=nF T
 exact Def.calY (by walk_at "d") Z5 (by decide) (λf cdv A outer s H E hr=>have hN:=Z5.nd;⟨_,(G4 (SJ (E:=E) .leaving rfl (R3 rfl (Qw T) (Ba (d_v 1) Bo)) (by nofun) (WW (MF (KQ (by decide)) (MF (KQ (by decide)) WY)))
  (FJ (Hk (E:=E) (by nofun))
  (FJ (Xf (E:=E) (W2 (d_v 6))
  (G4 (Zrh (E:=E) W3))
  Zv)
  (FJ (Zxd (E:=E) (d_v 4) (by nofun))
  (G4 (Xf (E:=E) (Il (HS (Vt cm_is_glass hr (by decide) CQ (d_v 0))))
  (G4 (zg (E:=E) (yq (i:=3) (iZ 3 (by nofun)) (d_v 4))))
  Zv)))))))⟩)
def wM:Cal P w K mg base 3 "near_depth" ["triangle"] G8:=by
 have yak:=Iz T;have yaw:=cF T;exact cal1 (top 57) ["triangle"] (λhN _ _ _ _ _ _ E hr=>⟨_,(BW (Cm (Hx yaw hr (by decide) rfl CQ (Ba (Cq (own:=["corner"]) (cap:=[]) (CP (d_v 0))) Bo))))⟩)
def xJ:Cal P w K mg base 6 "looked_at" ["things","points"] O9:=by
 have yax:=NQ T;have c_far_depth:=pD T;have cy_look_at:=ZkV T;have c_near_depth:=wM T
 exact cal1 (top 62) ["things","points","sights_by_point","least_depths","let_go","number","thing","near","far"] (λhN _ _ _ _ _ _ E hr=>⟨_,(nu (i:=2) (J:=[2]) hN rfl (Or.inl rfl) (own:=["point"]) (cap:=[]) (CP (d_v 1)) (by walk_at "co") rfl (by walk_at "cg") (by walk_at "ct") (λ_ _ _ _ _=>(m7 Bo))
  (FJ (Hk (E:=E) (uU (i:=3) hN rfl (Or.inl rfl) (own:=["point"]) (cap:=[]) (CP (d_v 1)) (by walk_at "co") rfl (by walk_at "cg") (by walk_at "ct") (λ_ _ _ _ _=>jw)))
  (FJ (Hk (E:=E) (by nofun))
  (FJ (SJ (E:=E) .leaving rfl (R3 rfl (Qw T) (Ba (d_v 0) Bo)) (by nofun) (WW (MF (KQ (by decide)) (MF (KQ (by decide)) WY)))
  (FJ (Hk (E:=E) (by nofun))
  (FJ (Hk (E:=E) (Ib (i:=8) hN rfl (Or.inl rfl) (iZ 3 (by nofun))))
  (G4 (Xf (E:=E) (by nofun)
  (G4 (jj (E:=E) (by nofun)))
  (G4 (Yr (E:=E) (l:=3) (lc:=(some 3)) cy_look_at hr (by decide) rfl CQ (QR (d_v 6) (QR (d_v 1) (bR (vd fD)))))))))))
  (G4 (eN (j:=4) rfl rfl))))))⟩)
def pO:Cal P w K mg base 2 "order_or_rising" ["order","count"] Jj:=by
 have yal:=Oo T
 exact cal1 (top 59) ["order","count"] (λhN _ _ _ _ _ _ E hr=>⟨_,(Be (Bv (W2 (d_v 0))
  (BW (Cm (ZJ rfl rfl (MP T) rfl (Ky T) (Ba (d_v 1) Bo))))
  Bu)
  (Be (Bv (DW.dt (Ir (by nofun) (J0 (Il (HS (Gm (Ny rfl) Nh rfl (Oc T) QV (Ba (Cq (own:=["tile"]) (cap:=[]) (CP (d_v 0))) Bo)))))))
  Dy
  Bu)
  (Be (Bv (Rq hr (by nofun) (ZJ rfl rfl (MP T) rfl (Ky T) (Ba (d_v 1) Bo)))
  Dy
  Bu)
  (by nofun))))⟩)
def uI:CalY P w K mg base 7 "paint_cells" ["picture","cells","sights_by_point","ground"] 0 UW:=by
 have yay:=jM T
 exact Def.calY (by walk_at "d") bJ (by decide) (λf cdv A outer s H E hr=>have hN:=bJ.nd;⟨_,(FJ (Hk (E:=E) (by nofun))
  (G4 (SJ (E:=E) .leaving rfl (R3 rfl (Qw T) (Ba (d_v 1) Bo)) (by nofun) (WW (MF (KQ (by decide)) (MF (KQ (by decide)) WY)))
  (FJ (Hk (E:=E) (by nofun))
  (G4 (ZtL (E:=E) (by nofun) (Hz (d_v 6) Es) (Hz (d_v 6) Es)))))))⟩)
def ZhA:Cal P w K mg base 2 "points_in" ["cells","spots"] QD:=by
 have yaL:=X6 T
 exact cal1 (top 61) ["cells","spots","points","column","row"] (λhN _ _ _ _ _ _ E hr=>⟨_,(Av
  (Be (Ge .leaving rfl (CP (d_v 0)) (by nofun)
  (BW (Y8 2 (Cq (own:=["spot"]) (cap:=[("row",4),("column",3)]) (CP (d_v 1))))))
  (by nofun)))⟩)
def jZ:Cal P w K mg base 1 "tiles_along" ["length","wide"] J5:=by
 exact cal1 (top 55) ["length","wide"]
def vK:Cal P w K mg base 2 "tile_cells" ["width","height","wide","tile"] Qd:=by
 have yaA:=jZ T
 exact cal1 (top 56) ["width","height","wide","tile","across","left","top","cells","row","column"] (λhN _ _ _ _ _ _ E hr=>⟨_,(Av
  (Av
  (Av
  (Av
  (Be (Ge .leaving rfl (b7 rfl (MP T) (by nofun)) (by nofun)
  (BW (Ge .leaving rfl (b7 rfl (MP T) (by nofun)) (by nofun)
  (by nofun))))
  (by nofun))))))⟩)
theorem rO{f:Addr}{fd:FuncData}{dV:Value}(F:FunD K "paint_tiles" "paint_tiles" Ik dV f fd):FnO P w K mg base 8 f fd ["things","width","height","wide","order","spots","ground"] (spT K mg 7 Ij):=by
 have yaz:=dU T;have yas:=bC T;have yar:=iw T;have c_check_wide:=ZgY T;have c_looked_at:=xJ T;have c_order_or_rising:=pO T;have cy_paint_cells:=uI T;have c_points_in:=ZhA T;have yaA:=jZ T;have c_tile_cells:=vK T
 exact okTF F dj (λcdv A outer s H E hr=>have hN:=dj.nd;⟨_,(Ph (by nofun)
  (Ph (by nofun)
  (Ph (by nofun)
  (Ph (by nofun)
  (Ph (by nofun)
  (Zss (i:=10) (J:=[10]) hN rfl (Or.inl rfl) (own:=["row"]) (cap:=[("width",1),("beneath",9)]) (by nofun) (by walk_at "co") rfl (by walk_at "cg") (by walk_at "ct") (λ_ _ _ _ _=>(vH (Ba (d_v 2) Bo) (d_v 1)))
  (FJ (Hk (E:=E) (by nofun))
  (FJ (SJ (E:=E) .leaving rfl (CP (d_v 7)) (by nofun) (KQ (by decide))
  (FJ (Hk (E:=E) (by nofun))
  (FJ (Hk (E:=E) (by nofun))
  (FJ (Yr (E:=E) (l:=0) (lc:=none) cy_paint_cells hr (by decide) rfl CQ (bR (QR (d_v 13) (QR (Hz (d_v 14) Es) (QR (d_v 9) fD)))))
  (G4 (jj (E:=E) (Y8 11 (Cq (own:=["gone"]) (cap:=[("tile",12)]) (by nofun)))))))))
  (G4 (eN (j:=11) rfl rfl))))))))))⟩)
def Zgh{f81:Addr}{od81:Option Addr}{an81:Option Addr}{sl81:Array (Option Value)}{oc81:Value}{kV81:Value}{dc81:Value}{pm81:Value}{cd81:Value}{ct81:Value}{dT81:Addr}{dc_81:Value}{dd_81:Option Addr}{dn_81:Nat}{ds_81:Array (Option Value)}(a81:W.nsIn K mainGlobals "paint_tiles"=some (some (.ref f81)))(l81:K.lookup f81=some ⟨oc81,od81,.func (W.fnOf "paint_tiles" "paint_tiles" (Gy Ik) (De Ik) (BJ Ik) (.ref dT81) kV81 dc81 pm81 an81 cd81 ct81),sl81⟩)(c81:W.codeIn K cd81 "paint_tiles"=true)(k81:W.keepIn K (.ref f81)=true)(dl81:K.lookup dT81=some ⟨dc_81,dd_81,.seq #[.none,.none,.none] dn_81,ds_81⟩):CalT P w K mg base 8 "paint_tiles" ["things","width","height","wide","order","spots","ground"] Ij/\Wa P w K mg base 8 "paint_tiles" ["things","width","height","wide","order","spots","ground"] ["ground","order","spots"] [some 1,some 2,some 0] Ij:=by
 have e:FunD K "paint_tiles" "paint_tiles" Ik (.ref dT81) f81 _:=⟨_,_,_,_,_,_,_,_,_,rfl,l81,c81⟩;have a:=rO T e;have b:Binds K (W.fnOf "paint_tiles" "paint_tiles" (Gy Ik) (De Ik) (BJ Ik) (.ref dT81) kV81 dc81 pm81 an81 cd81 ct81) ["things","width","height","wide","order","spots","ground"] []:=λs c X d=>My.ln7 (P:=λc=>BindsTo s _ {pos:=c} (List.zip (["things","width","height","wide","order","spots","ground"]:List Str) (c++[]))) (λ_ _ _ _ _ _ _=>BindsTo.of_defaults rfl (X _ _ dl81) rfl rfl rfl) c (by simpa using d)
 exact ⟨⟨_,_,a,b,k81,T.2 a81⟩,⟨_,_,a,λs c f X d=>by
  have h:c.length=4:=by have g:=d;simp [PL] at g;lia
  match c,h with
  | [_,_,_,_],_=>
   match f with
   | []=>exact BindsTo.of_defaults rfl (X _ _ dl81) rfl rfl rfl
   | [_]=>exact BindsTo.of_defaults rfl (X _ _ dl81) rfl rfl rfl
   | [_,_]=>exact BindsTo.of_defaults rfl (X _ _ dl81) rfl rfl rfl
   | _::_::_::_=>exact BindsTo.of_defaults rfl (X _ _ dl81) rfl rfl rfl,k81,T.2 a81⟩⟩
def aH:CalT P w K mg base 8 "paint_tiles" ["things","width","height","wide","order","spots","ground"] Ij/\Wa P w K mg base 8 "paint_tiles" ["things","width","height","wide","order","spots","ground"] ["ground","order","spots"] [some 1,some 2,some 0] Ij:=by
 walk_at "y"; refine' Zgh T ?_ ?_ ?_ ?_ ?_;walk_at "q"
theorem ym{f:Addr}{fd:FuncData}(F:Fun K "law" "law" K8 f fd):FnO P w K mg base 11 f fd ["_law_script"] (spD K mg 1 VD):=by
 have yam:=V3 T;have c__law_cover:=pW T;have yaj:=Rv T;have c__law_order:=Zg1 T;have c__law_spots:=ZgX T;have c__law_things:=Zga T;have c_paint:=Zrf T;have ct_paint_tiles:=(aH T).1;have yae:=(aH T).2
 exact okD F Ym (λcdv A outer s H E hr=>have hN:=Ym.nd;⟨_,(Av
  (Av
  (Av
  (Av
  (Av
  (Av
  (Av
  (Av
  (Av
  (Av
  (ZpD (i:=10) (j:=11) rfl (tL ct_paint_tiles hr (by decide) rfl CQ (by nofun)) (by nofun) (by nofun)
  (BW (Cm La))
  (by nofun)
  (Av
  (Av
  (Be (d9 (DEt.de (Zpx yae hr (by decide) rfl CQ (by nofun) (Vv (d_v 8) (Vv (d_v 13) (Vv (d_v 7) lN))))) (by nofun))
  (by nofun)))))))))))))))⟩)
end
def xg{w:World}{h:Heap}{mg:MgT}{fa:Addr}(X:(Hd.heap w.params).In h)(G:h.Ns mainGlobals mg)(hfa:mg "law"=some (.ref fa)):∃fd:FuncData,(∀(s:Shared) (v:Value),BindsTo s fd ⟨[v],[]⟩ [("_law_script",v)])/\∀base:Heap,(Hd.heap w.params).In base->base.Ns mainGlobals mg->FnOk PySem.Challenge.rw_sampleyard_k64_whole_one_picture.prog w (Hd.heap w.params) mg base (CXR PySem.Challenge.rw_sampleyard_k64_whole_one_picture.prog w) 11 fa fd ["_law_script"] (RM (Hd.heap w.params)):=by
 have g:∀{x:Str} {v:Option Value},W.nsIn (Hd.heap w.params) mainGlobals x=some v->mg x=v:=λ{x v} e=>by
  cases v with
  | none=>exact W.mg_none_of X G e
  | some u=>exact W.mg_of X G e
 refine' lawK (g ?_) hfa ?_ ?_ ?_ λbase fd F=>(ym ⟨rfl,g⟩ F).imp (mY ni);walk_at "q"
def walk{l:W.OpenLaw}{q:Program}{loose:List Str}{XP:(Str->Option Value)->Heap->Prop}{YP:World->Heap->Prop}{d:DefRec}{K:Params->W1}(hn:l.most=some 63)(hdf:d.params.defaults=[])
  (hY:∀(w:World) (h:Heap),YP w h->(K w.params).In h)
  (F:∀(w:World) (mg:MgT) (fa:Addr) (h:Heap),(K w.params).In h->h.Ns mainGlobals mg->mg d.name=some (.ref fa) ->
   ∃fd:FuncData,(∀(s:Shared) (u:Value),BindsTo s fd ⟨[u],[]⟩ [("_law_script",u)])/\∀base:Heap,(K w.params).In base->base.Ns mainGlobals mg->FnOk l.prog w (K w.params) mg base (CXR l.prog w) 11 fa fd ["_law_script"] (RM (K w.params))) :
  W.WalkO q loose XP YP l.row.toRowW d [] (λf vs=>PySem.call f vs) :=
 L2.xq (n:=63) (k:=11) (x:="_law_script") (CX:=λw=>CXR l.prog w) (sp:=λw=>RM (K w.params)) hn (by decide) hdf ⟨rfl,by decide,by decide⟩ hY F (λ_ _ a b c _ e=>⟨a,b,rfl,e,c,λ_=>rfl⟩) λ_ _ _ _ _ z=>qu z
end My
open PySem PySem.W PyProof.Rows
set_option maxRecDepth 100000 in
set_option maxHeartbeats 0 in
theorem PySem.Challenge.cw_sampleyard_k64_whole_one_picture_holds : PySem.Challenge.rw_sampleyard_k64_whole_one_picture.Holds := by
 w_on;refine holds_law Hd.said λsaid=>?_
 refine holds_open (r:=PySem.Challenge.rw_sampleyard_k64_whole_one_picture.row) (q:=Hd.view) (loose:=["paint","paint_tiles"]) (Xt:=(λs=>xlAt Hd.view [] s&&recOk (RowW.records PySem.Challenge.rw_sampleyard_k64_whole_one_picture.row.toRowW) s)) (XP:=XL Hd.view []) (Yf:=Hook.obs (kHook Hd.heap Hd.addrs Hd.Mr)) (Ya:=Hook.val (kHook Hd.heap Hd.addrs Hd.Mr)) (YP:=Hook.says (kHook Hd.heap Hd.addrs Hd.Mr)) (N:=Hd.most) Hd.left (Hook.of (kHook Hd.heap Hd.addrs Hd.Mr)) (Hook.keeps (kHook Hd.heap Hd.addrs Hd.Mr)) (λs e=>xl_of s (Bool.and_eq_true_iff.mp e).1) XL.keeps (by rfl) (by rfl) (by rfl) (λs e=>recFacts_of (Bool.and_eq_true_iff.mp e).2) (by rfl) (by assumption) Hd.okO Hd.bar ?hw ?hc
 case hw=>w_witness2
 exact My.walk (l:=PySem.Challenge.rw_sampleyard_k64_whole_one_picture) rfl rfl (λw h Y0=>W.kIn_of Y0) λw mg fa h KX G hmg=>My.xg KX G hmg
