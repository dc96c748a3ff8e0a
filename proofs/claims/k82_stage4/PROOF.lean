import PyProof.Rows.All
import Wide.All
import OpenK.AllK
import Wide.FinOn
import Lean
import KE.KIntText
import KE.KRevIter
import PyProof.StrLawsTight
import PyProof.StrLawsChain
import PyProof.Rows.CatFin
import PyProof.CollectIter
import PyProof.JoinWalk
import PyProof.Rows.StrDigitsNeg
import PyProof.Rows.StrJoinMade
import PyProof.Rows.StrBin
import KE.KLam
import KE.KNestM
import PyProof.EqAt
import PyProof.EqKinds
import PyProof.TupleCall
import PyProof.P3Eq
import PyProof.NeData
import PySem.Challenge.RW_sampleyard_k82_whole_scenes_read
set_option Elab.async false
set_option linter.all false
set_option maxRecDepth 100000
set_option compiler.extract_closed false
noncomputable section
abbrev iP:=@if_pos
abbrev iN:=@if_neg
abbrev aB:=@absurd
def Hd.said:PySem.W.OpenLaw.wellSaid PySem.Challenge.rw_sampleyard_k82_whole_scenes_read=true:=by kernel_rfl
abbrev Vaa:=@Option.some.inj
abbrev Vab:=@Prod.ext
abbrev Vac:=@decide_eq_false
abbrev Vad:=@beq_eq_false_iff_ne
abbrev Vae:=@PySem.Heap.lt_size
abbrev Vaf:=@Nat.lt_of_lt_of_le
abbrev Vag:=@Nat.lt_irrefl
abbrev Vah:=@Nat.ne_of_lt
abbrev Vai:=@List.mem_filter
abbrev Vaj:=@List.mem_range
abbrev Vak:=@Nat.le_trans
abbrev Vam:=@Nat.le_of_lt
abbrev Van:=@List.filterMap_cons
abbrev Vao:=@List.mem_cons_self
abbrev Vap:=@List.mem_cons_of_mem
abbrev Vaq:=@List.mem_cons
abbrev Var:=@List.mem_append
abbrev Vas:=@List.mem_append_left
abbrev Vat:=@List.getElem?_eq_some_iff
abbrev Vau:=@PySem.wpAny_mono
abbrev Vav:=@Array.length_toList
abbrev Vaw:=@congrArg
abbrev Vax:=@PySem.wpAny_bind
abbrev Vay:=@PySem.wpAny_pure
abbrev Vaz:=@PySem.wpAny_newObj_type
abbrev VaA:=@PySem.Heap.get?_push_of_some
abbrev VaB:=@PySem.wpAny_passesOwn
abbrev VaC:=@Bool.false_ne_true
abbrev VaD:=@Nat.ne_of_gt
abbrev VaE:=@PySem.Heap.get?_push_size
abbrev VaF:=@Nat.le_refl
abbrev VaG:=@PyProof.Rows.callWith_type1
abbrev VaH:=@List.mem_filterMap
abbrev VaI:=@List.mem_append_right
abbrev VaJ:=@Int.fdiv_eq_ediv_of_nonneg
abbrev VaK:=@List.size_toArray
abbrev VaL:=@beq_iff_eq
abbrev VaM:=@List.length_cons
abbrev VaN:=@List.map_cons
abbrev VaO:=@List.length_map
abbrev VaP:=@PySem.Heap.size_push
abbrev VaQ:=@Nat.lt_succ_self
abbrev VaR:=@Nat.zero_le
abbrev VaS:=@PySem.W.kia_one
abbrev VaT:=@List.append_nil
abbrev VaU:=@PySem.codeAny_mono
abbrev VaV:=@PySem.wpAny_Call_Name_kw
abbrev VaW:=@List.nodup_cons
abbrev VaX:=@List.of_mem_zip
abbrev VaY:=@List.length_take
abbrev VaZ:=@PySem.mem_of_lookup
abbrev Va0:=@List.getElem?_append_right
abbrev Va1:=@List.getElem?_replicate
abbrev Va2:=@List.getElem?_append_left
abbrev Va3:=@List.getElem?_map
abbrev Va4:=@List.mem_of_getElem?
abbrev Va5:=@List.length_append
abbrev Va6:=@List.length_replicate
abbrev Va7:=@if_false
abbrev Va8:=@if_true
abbrev Va9:=@PySem.wpAny_field
abbrev Vba:=@List.length_drop
abbrev Vbb:=@PySem.wpAny_holding
abbrev Vbc:=@PySem.wpAny_callSpecial?_slot
abbrev Vbd:=@PyProof.Rows.slot_tuple_getitem
abbrev Vbe:=@PySem.wpAny_call_entry
abbrev Vbf:=@PySem.wpAny_typeOf
abbrev Vbg:=@Bool.and_eq_true
abbrev Vbh:=@PySem.typeIs_str
abbrev Vbi:=@PySem.Heap.get?_update_other
abbrev Vbj:=@List.length_singleton
abbrev Vbk:=@decide_eq_true
abbrev Vbl:=@List.forIn_cons
abbrev Vbm:=@List.lookup_cons
abbrev Vbn:=@Nat.lt_trans
abbrev Vbo:=@List.mem_map
abbrev Vbp:=@List.all_eq_true
abbrev Vbq:=@List.drop_eq_getElem_cons
abbrev Vbr:=@PySem.wpAny_specialOf
abbrev Vbs:=@Bool.false_eq_true
abbrev Vbt:=@PySem.wpAny_pyIter_list
abbrev Vbu:=@List.drop_zero
abbrev Vbv:=@List.take_of_length_le
abbrev Vbw:=@PySem.F.slot_tuple_iterator_next
abbrev Vbx:=@PySem.wpAny_seqItems
abbrev Vby:=@Int.toNat_natCast
abbrev Vbz:=@PySem.Heap.SameBut.update
abbrev VbA:=@PySem.Heap.get?_update_self
abbrev VbB:=@List.length_set
abbrev VbC:=@List.getElem?_eq_none
abbrev VbD:=@List.length_range
abbrev VbE:=@List.getElem?_range
abbrev VbF:=@List.getElem?_eq_getElem
abbrev VbG:=@List.drop_eq_nil_of_le
abbrev VbH:=@List.map_map
abbrev VbI:=@Nat.lt_of_le_of_lt
abbrev VbJ:=@List.append_assoc
abbrev VbK:=@Nat.succ_le_succ
abbrev VbL:=@PySem.F.plainAttrs_list
abbrev VbM:=@PySem.F.slot_list_append
abbrev VbN:=@PySem.F.type_list_append
abbrev VbO:=@PySem.wpAny_updateSeq
abbrev VbP:=@PySem.wpAny_setField_rec
abbrev VbQ:=@PySem.wpAny_onRaise
abbrev VbR:=@Array.forIn_toList
abbrev VbS:=@List.not_mem_nil
abbrev VbT:=@or_false
abbrev VbU:=@PySem.codeAny_builtin
abbrev VbV:=@PySem.Around.under_plainId
abbrev VbW:=@PySem.F.plain_extend_loop
abbrev VbX:=@List.map_append
abbrev VbY:=@PySem.builtinLookup_eq_fast
abbrev VbZ:=@Nat.mod_lt
abbrev Vb0:=@Int.emod_nonneg
abbrev Vb1:=@Int.emod_lt_of_pos
abbrev Vb2:=@List.pairwise_iff_getElem
abbrev Vb3:=@Array.getElem?_eq_getElem
abbrev Vb4:=@List.getElem_mem
abbrev Vb5:=@List.mem_iff_getElem
abbrev Vb6:=@List.pairwise_cons
abbrev Vb7:=@Classical.byContradiction
abbrev Vb8:=@List.mem_singleton
abbrev Vb9:=@Array.getElem?_toList
abbrev Vca:=@PySem.wpAny_setState_of
abbrev Vcb:=@decide_eq_true_eq
abbrev Vcc:=@List.contains_eq_mem
abbrev Vcd:=@List.map_reverse
abbrev Vce:=@Int.natAbs_natCast
abbrev Vcf:=@Int.natAbs_dvd_natAbs
abbrev Vcg:=@Int.mul_pos
abbrev Vch:=@Rat.num_divInt_den
abbrev Vci:=@List.filter_cons
abbrev Vck:=@List.filter_nil
abbrev Vcl:=@PyProof.Rows.signs_ofString
namespace L2
open PySem
def inClass(s:Stmt)(j:Nat):Stmt:=match s with
 | .ClassDef _ _ _ body _ _ _ _ _ _ _=>body.getD j (.Pass ⟨0,0,0,0⟩)
 | _=>.Pass ⟨0,0,0,0⟩
def ZcQ(s:Stmt):Arguments:=match s with
 | .FunctionDef _ a _ _ _ _ _ _ _ _=>a
 | _=>{ posonlyargs:=[],args:=[],vararg:=none,kwonlyargs:=[],kw_defaults:=[],kwarg:=none,defaults:=[] }
def Zbd(s:Stmt):List Stmt:=match s with
 | .FunctionDef _ _ b _ _ _ _ _ _ _=>b
 | _=>[]
def Zag(s:Stmt):Scope:=match s with
 | .FunctionDef _ _ _ _ _ _ sc _ _ _=>sc
 | _=>{ kind:=.function,names:=[],isGenerator:=false,isCoroutine:=false }
end L2
namespace Hd
open PySem PySem.W L2
abbrev top(i:Nat):Stmt:=PySem.Challenge.pw_sampleyard_k82_whole_scenes_read.main.body.getD i (.Pass ⟨0,0,0,0⟩)
noncomputable def view:Program:={ PySem.Challenge.pw_sampleyard_k82_whole_scenes_read with main:={ PySem.Challenge.pw_sampleyard_k82_whole_scenes_read.main with body:=[top 0,top 2,top 3,top 4,top 5,top 6,top 7,top 9,top 10,top 11,top 12,top 14,top 15,top 16,top 17,top 18,top 19,top 20,top 21,top 23,top 24,top 25,top 26,top 27,top 29,top 30,top 31,top 32,top 33,top 34,top 36,top 37,top 38,top 40,top 42,top 43,top 44,top 45,top 46,top 47,top 48,top 49,top 50,top 51,top 52,top 53,top 55,top 56,top 57,top 59,top 60,top 61,top 62,top 64,top 65,top 66,top 67,top 68,top 69,top 70,top 71,top 73,top 74,top 75,top 76,top 77,top 78,top 79,top 80,top 81,top 82,top 83,top 84,top 85,top 86,top 87,top 88,top 89,top 90,top 91,top 92,top 93,top 94,top 95,top 96,top 97,top 98,top 99,top 100,top 102,top 103,top 104,top 105,top 106,top 107,top 108,top 109,top 110,top 111,top 112] } }
abbrev S(x:String):Str:=Str.ofString x
abbrev st(x:String)(t:Nat):Value:=.str (Str.ofString x) t
abbrev en(P:Params)(x:String)(t:Nat)(v:Value):DictEntry:=⟨PyData.keyHash P (Str.ofString x),.str (Str.ofString x) t,v⟩
abbrev fd(s:Stmt)(n q:String)(an:Option Addr)(d k c e m t:Value):Data:=.func { name:=Str.ofString n,qualname:=Str.ofString q,params:=ZcQ s,body:=.stmts (Zbd s),scope:=Zag s,globals:=mainGlobals,closure:=[],defaults:=d,kwdefaults:=k,doc:=e,pyModule:=m,annotations:=an,code:=c,closureTuple:=t,builtins:=builtinsNs }
abbrev T(xs:Array Value):Obj:=⟨.type "tuple",none,.seq xs 0,#[]⟩
abbrev F(s:Stmt)(n q:String)(an:Option Addr)(d k c e m t:Value):Obj:=⟨.type "function",none,fd s n q an d k c e m t,#[]⟩
abbrev G(i:Nat)(n:String)(c:Nat)(m:String)(t:Nat):Obj:=F (top i) n n none .none .none (.ref c) .none (st m t) .none
abbrev D(es:List DictEntry)(n:Nat):Obj:=⟨.type "dict",none,.dict (List.toArray es) n,#[]⟩
abbrev C(n:String)(a:Nat)(q:String)(b c:Nat)(d e f g h:Int)(i:Value)(j:Bool)(k:Int)(l m o p r:Value)(s t:Int)(u:Nat):Obj:=⟨.type "code",none,.fields #[st n a,st q b,st "/claim/cut.py" c,.int d 0,.int e 0,.int f 0,.int g 0,.int h 0,i,.bool j,.int k 0,l,m,o,p,r,.int s 0,.int t 0,st "/claim/cut.py" u],#[]⟩
abbrev B(n:String)(a b c:Nat)(d e:Int)(i l o p r:Nat)(s:Int)(u:Nat):Obj:=C n a n b c d e 0 0 3 (.ref i) true 181 (.ref l) .none (.ref o) (.ref p) (.ref r) s d u
abbrev E(n:String)(a b c:Nat)(d e:Int)(i l r:Nat)(s:Int)(u:Nat):Obj:=C n a n b c d e 0 0 3 (.ref i) true 181 (.ref l) .none .none .none (.ref r) s d u
abbrev L(n:String)(b m:List Value)(a:Addr)(s:List Value)(sl:Array (Option Value)):Obj:=⟨.type "type",none,.cls { name:=Str.ofString n,bases:=b,mro:=m,ns:=a,qualname:=Str.ofString n,hasDict:=true,slotNames:=[],subclasses:=s,abstract:=false,collection:=none,hasDel:=false },sl⟩
abbrev B1(n:String)(a:Nat)(d e:Int)(i s:Nat):Obj:=B n a (a+1) (a+2) d e i (i+1) (i+2) (i+3) (i+4) (Int.ofNat s) (s+1)
abbrev E1(n:String)(a:Nat)(d e:Int)(i s:Nat):Obj:=E n a (a+1) (a+2) d e i (i+1) (i+2) (Int.ofNat s) (s+1)
abbrev G1(i:Nat)(n:String)(c:Nat)(m:Value):Obj:=F (top i) n n none .none .none (.ref c) .none m .none
abbrev o0_:Value:=st "__main__" 164
abbrev o1_:Value:=st "sampleyard.whole" 303
abbrev o2_:Value:=st "sampleyard.fractions" 340
abbrev o3_:Value:=st "sampleyard.corners" 406
abbrev o4_:Value:=st "sampleyard.edges" 437
abbrev o5_:Value:=st "sampleyard.seen" 492
abbrev o6_:Value:=st "sampleyard.spots" 514
abbrev o7_:Value:=st "sampleyard.paint" 525
abbrev o8_:Value:=st "sampleyard.patterns" 636
abbrev o9_:Value:=st "sampleyard.things" 666
abbrev o10_:Value:=st "sampleyard.texts" 929
abbrev o11_:Value:=st "law_sampleyard_k82_whole_scenes_read" 1122
noncomputable def heap:Params->Frag:=λP=>
  (nat_lit 2,⟨.none,none,(.dict (List.toArray []) 0),#[]⟩)::
(nat_lit 3,D [(en P "__name__" 165 (st "law_sampleyard_k82_whole_scenes_read" 1122)),(en P "__doc__" 166 .none),(en P "__package__" 167 .none),(en P "__loader__" 168 (.builtin "__main__.__loader__#opaque")),(en P "__spec__" 169 .none),(en P "__annotations__" 170 (.ref 6)),(en P "__builtins__" 171 (.ref 4)),(en P "__file__" 173 (st "/claim/cut.py" 172)),(en P "__cached__" 174 .none),(en P "_wall" 193 (.ref 21)),(en P "YardError" 213 (.ref 31)),(en P "BadTriangle" 229 (.ref 44)),(en P "BadThing" 245 (.ref 56)),(en P "BadFloor" 261 (.ref 68)),(en P "BadPattern" 277 (.ref 80)),(en P "NoRow" 302 (.ref 99)),(en P "is_whole" 311 (.ref 108)),(en P "is_between" 320 (.ref 115)),(en P "greatest_divisor" 331 (.ref 122)),(en P "summed_products" 339 (.ref 129)),(en P "ratio" 350 (.ref 136)),(en P "plus" 358 (.ref 143)),(en P "minus" 366 (.ref 150)),(en P "product" 374 (.ref 157)),(en P "mean_of" 383 (.ref 164)),(en P "under" 391 (.ref 171)),(en P "down" 398 (.ref 178)),(en P "is_fraction" 405 (.ref 185)),(en P "MOST_VALUES" 409 (.int (3) 408)),(en P "check_triangle" 417 (.ref 192)),(en P "is_corner" 423 (.ref 197)),(en P "are_values" 429 (.ref 202)),(en P "numbers_of" 436 (.ref 209)),(en P "side" 449 (.ref 216)),(en P "edge_numbers" 457 (.ref 223)),(en P "edge_sum" 466 (.ref 230)),(en P "check_before_eye" 474 (.ref 237)),(en P "had" 483 (.ref 244)),(en P "weights" 491 (.ref 251)),(en P "seen_at" 501 (.ref 258)),(en P "depth_and_values" 507 (.ref 263)),(en P "weighed_h" 513 (.ref 268)),(en P "spot_at" 524 (.ref 275)),(en P "MOST_CELLS" 528 (.int (64) 527)),(en P "MOST_SPOTS" 530 (.int (16) 529)),(en P "check_floor" 538 (.ref 282)),(en P "check_spots" 544 (.ref 287)),(en P "is_spot" 551 (.ref 294)),(en P "spots_or_middle" 558 (.ref 301)),(en P "ground_or_none" 565 (.ref 308)),(en P "sights_at" 576 (.ref 315)),(en P "colour_of" 587 (.ref 322)),(en P "nearest_of" 596 (.ref 329)),(en P "layers_over" 602 (.ref 334)),(en P "laid_over" 611 (.ref 341)),(en P "paint" 617 (.ref 347)),(en P "painted_row" 623 (.ref 352)),(en P "sights_in" 629 (.ref 357)),(en P "cell_colour" 635 (.ref 362)),(en P "COUNTS" 643 (.ref 363)),(en P "check_pattern" 649 (.ref 368)),(en P "copied" 655 (.ref 373)),(en P "entry_at" 665 (.ref 380)),(en P "Thing" 703 (.ref 404)),(en P "Plain" 752 (.ref 446)),(en P "Shaded" 799 (.ref 486)),(en P "Patterned" 848 (.ref 526)),(en P "Glass" 906 (.ref 573)),(en P "check_values" 914 (.ref 582)),(en P "check_colour" 921 (.ref 589)),(en P "check_part" 928 (.ref 596)),(en P "FIGURES" 932 (st "0123456789" 931)),(en P "MOST_FIGURES" 934 (.int (30) 933)),(en P "number_word" 943 (.ref 603)),(en P "fraction_word" 950 (.ref 610)),(en P "read_number" 958 (.ref 617)),(en P "are_figures" 964 (.ref 622)),(en P "read_fraction" 973 (.ref 629)),(en P "words_behind" 982 (.ref 636)),(en P "just_words_behind" 992 (.ref 643)),(en P "numbers_behind" 998 (.ref 648)),(en P "thing_text" 1004 (.ref 653)),(en P "head_words" 1012 (.ref 660)),(en P "pattern_word" 1018 (.ref 665)),(en P "corner_text" 1024 (.ref 670)),(en P "read_thing" 1030 (.ref 675)),(en P "check_text" 1037 (.ref 682)),(en P "groups_of" 1046 (.ref 689)),(en P "read_corner" 1052 (.ref 694)),(en P "thing_of" 1060 (.ref 701)),(en P "read_pattern" 1066 (.ref 706)),(en P "scene_text" 1072 (.ref 711)),(en P "pair_word" 1079 (.ref 718)),(en P "read_scene" 1085 (.ref 723)),(en P "read_at" 1094 (.ref 730)),(en P "read_floor" 1102 (.ref 737)),(en P "read_ground" 1109 (.ref 744)),(en P "read_spots" 1115 (.ref 749)),(en P "read_spot" 1121 (.ref 754)),(en P "_law_cell_at" 1131 (.ref 761)),(en P "_law_divisor" 1139 (.ref 768)),(en P "_law_mixed" 1148 (.ref 775)),(en P "_law_fraction" 1160 (.ref 782)),(en P "_law_corner" 1171 (.ref 789)),(en P "_law_thing" 1181 (.ref 796)),(en P "_law_spots" 1191 (.ref 803)),(en P "_law_word" 1198 (.ref 810)),(en P "_law_due" 1204 (.ref 815)),(en P "_law_right" 1210 (.ref 820)),(en P "law" 1217 (.ref 827))] 110)::
(nat_lit 20,B1 "_wall" 187 1 1 15 191)::
(nat_lit 21,G1 0 "_wall" 20 o0_)::
(nat_lit 22,T #[(.type "ValueError")])::
(nat_lit 30,D [(en P "__module__" 203 (st "sampleyard.errors" 194)),(en P "__firstlineno__" 207 (.int (5) 206)),(en P "__static_attributes__" 208 (.ref 29)),(en P "__weakref__" 210 (.ref 32)),(en P "__doc__" 211 .none)] 3)::
(nat_lit 31,L "YardError" [(.type "ValueError")] [(.ref 31),(.type "ValueError"),(.type "Exception"),(.type "BaseException"),(.type "object")] 30 [(.ref 44),(.ref 56),(.ref 68),(.ref 80),(.ref 99)] #[(some (.ref 22)),none,(some (st "YardError" 196)),(some (st "YardError" 204)),(some (.builtin "ValueError.__new__")),(some (.bool true))])::
(nat_lit 32,⟨(.type "getset_descriptor"),none,(.fields #[(st "__weakref__" 209),(.ref 31),(.builtin "ExceptionGroup.__weakref__"),.none]),#[]⟩)::
(nat_lit 35,T #[(.ref 31)])::
(nat_lit 43,D [(en P "__module__" 221 (st "sampleyard.errors" 194)),(en P "__firstlineno__" 225 (.int (7) 224)),(en P "__static_attributes__" 226 (.ref 42)),(en P "__doc__" 227 .none)] 2)::
(nat_lit 44,L "BadTriangle" [(.ref 31)] [(.ref 44),(.ref 31),(.type "ValueError"),(.type "Exception"),(.type "BaseException"),(.type "object")] 43 [] #[(some (.ref 35)),none,(some (st "BadTriangle" 214)),(some (st "BadTriangle" 222)),(some (.builtin "ValueError.__new__")),(some (.bool true))])::
(nat_lit 47,T #[(.ref 31)])::
(nat_lit 55,D [(en P "__module__" 237 (st "sampleyard.errors" 194)),(en P "__firstlineno__" 241 (.int (9) 240)),(en P "__static_attributes__" 242 (.ref 54)),(en P "__doc__" 243 .none)] 2)::
(nat_lit 56,L "BadThing" [(.ref 31)] [(.ref 56),(.ref 31),(.type "ValueError"),(.type "Exception"),(.type "BaseException"),(.type "object")] 55 [] #[(some (.ref 47)),none,(some (st "BadThing" 230)),(some (st "BadThing" 238)),(some (.builtin "ValueError.__new__")),(some (.bool true))])::
(nat_lit 59,T #[(.ref 31)])::
(nat_lit 67,D [(en P "__module__" 253 (st "sampleyard.errors" 194)),(en P "__firstlineno__" 257 (.int (11) 256)),(en P "__static_attributes__" 258 (.ref 66)),(en P "__doc__" 259 .none)] 2)::
(nat_lit 68,L "BadFloor" [(.ref 31)] [(.ref 68),(.ref 31),(.type "ValueError"),(.type "Exception"),(.type "BaseException"),(.type "object")] 67 [] #[(some (.ref 59)),none,(some (st "BadFloor" 246)),(some (st "BadFloor" 254)),(some (.builtin "ValueError.__new__")),(some (.bool true))])::
(nat_lit 71,T #[(.ref 31)])::
(nat_lit 79,D [(en P "__module__" 269 (st "sampleyard.errors" 194)),(en P "__firstlineno__" 273 (.int (13) 272)),(en P "__static_attributes__" 274 (.ref 78)),(en P "__doc__" 275 .none)] 2)::
(nat_lit 80,L "BadPattern" [(.ref 31)] [(.ref 80),(.ref 31),(.type "ValueError"),(.type "Exception"),(.type "BaseException"),(.type "object")] 79 [] #[(some (.ref 71)),none,(some (st "BadPattern" 262)),(some (st "BadPattern" 270)),(some (.builtin "ValueError.__new__")),(some (.bool true))])::
(nat_lit 83,T #[(.ref 31)])::
(nat_lit 95,C "__init__" 290 "NoRow.__init__" 291 292 17 2 0 0 3 (.ref 90) true 181 (.ref 91) .none (.ref 92) (.ref 93) (.ref 94) 295 17 296)::
(nat_lit 96,F (inClass (top 7) 0) "__init__" "NoRow.__init__" none .none .none (.ref 95) .none (st "sampleyard.errors" 194) .none)::
(nat_lit 98,D [(en P "__module__" 285 (st "sampleyard.errors" 194)),(en P "__firstlineno__" 289 (.int (15) 288)),(en P "__init__" 297 (.ref 96)),(en P "__static_attributes__" 299 (.ref 97)),(en P "__doc__" 300 .none)] 2)::
(nat_lit 99,L "NoRow" [(.ref 31)] [(.ref 99),(.ref 31),(.type "ValueError"),(.type "Exception"),(.type "BaseException"),(.type "object")] 98 [] #[(some (.ref 83)),none,(some (st "NoRow" 278)),(some (st "NoRow" 286)),(some (.builtin "ValueError.__new__")),(some (.bool true))])::
(nat_lit 107,B1 "is_whole" 305 20 1 102 309)::
(nat_lit 108,G1 9 "is_whole" 107 o1_)::
(nat_lit 114,B1 "is_between" 312 22 3 109 318)::
(nat_lit 115,G1 10 "is_between" 114 o1_)::
(nat_lit 121,B1 "greatest_divisor" 321 24 1 116 329)::
(nat_lit 122,G1 11 "greatest_divisor" 121 o1_)::
(nat_lit 128,B1 "summed_products" 332 33 2 123 337)::
(nat_lit 129,G1 12 "summed_products" 128 o1_)::
(nat_lit 135,B1 "ratio" 342 36 2 130 348)::
(nat_lit 136,G1 14 "ratio" 135 o2_)::
(nat_lit 142,B1 "plus" 351 41 2 137 356)::
(nat_lit 143,G1 15 "plus" 142 o2_)::
(nat_lit 149,B1 "minus" 359 43 2 144 364)::
(nat_lit 150,G1 16 "minus" 149 o2_)::
(nat_lit 156,B1 "product" 367 45 2 151 372)::
(nat_lit 157,G1 17 "product" 156 o2_)::
(nat_lit 163,B1 "mean_of" 375 47 1 158 381)::
(nat_lit 164,G1 18 "mean_of" 163 o2_)::
(nat_lit 170,B1 "under" 384 52 2 165 389)::
(nat_lit 171,G1 19 "under" 170 o2_)::
(nat_lit 177,B1 "down" 392 54 1 172 396)::
(nat_lit 178,G1 20 "down" 177 o2_)::
(nat_lit 184,B1 "is_fraction" 399 56 1 179 403)::
(nat_lit 185,G1 21 "is_fraction" 184 o2_)::
(nat_lit 191,B1 "check_triangle" 410 64 1 186 415)::
(nat_lit 192,G1 24 "check_triangle" 191 o3_)::
(nat_lit 196,E1 "is_corner" 418 72 1 193 421)::
(nat_lit 197,G1 25 "is_corner" 196 o3_)::
(nat_lit 201,E1 "are_values" 424 78 1 198 427)::
(nat_lit 202,G1 26 "are_values" 201 o3_)::
(nat_lit 208,B1 "numbers_of" 430 82 1 203 434)::
(nat_lit 209,G1 27 "numbers_of" 208 o3_)::
(nat_lit 215,B1 "side" 439 85 3 210 447)::
(nat_lit 216,G1 29 "side" 215 o4_)::
(nat_lit 222,B1 "edge_numbers" 450 91 2 217 455)::
(nat_lit 223,G1 30 "edge_numbers" 222 o4_)::
(nat_lit 229,B1 "edge_sum" 458 93 3 224 464)::
(nat_lit 230,G1 31 "edge_sum" 229 o4_)::
(nat_lit 236,B1 "check_before_eye" 467 95 1 231 472)::
(nat_lit 237,G1 32 "check_before_eye" 236 o4_)::
(nat_lit 243,B1 "had" 475 99 2 238 481)::
(nat_lit 244,G1 33 "had" 243 o4_)::
(nat_lit 250,B1 "weights" 484 105 2 245 489)::
(nat_lit 251,G1 34 "weights" 250 o4_)::
(nat_lit 257,B1 "seen_at" 494 108 2 252 499)::
(nat_lit 258,G1 36 "seen_at" 257 o5_)::
(nat_lit 262,E1 "depth_and_values" 502 112 2 259 505)::
(nat_lit 263,G1 37 "depth_and_values" 262 o5_)::
(nat_lit 267,E1 "weighed_h" 508 117 2 264 511)::
(nat_lit 268,G1 38 "weighed_h" 267 o5_)::
(nat_lit 274,B1 "spot_at" 516 120 3 269 522)::
(nat_lit 275,G1 40 "spot_at" 274 o6_)::
(nat_lit 281,B1 "check_floor" 531 125 2 276 536)::
(nat_lit 282,G1 44 "check_floor" 281 o7_)::
(nat_lit 286,E1 "check_spots" 539 128 1 283 542)::
(nat_lit 287,G1 45 "check_spots" 286 o7_)::
(nat_lit 293,B1 "is_spot" 545 135 1 288 549)::
(nat_lit 294,G1 46 "is_spot" 293 o7_)::
(nat_lit 300,B1 "spots_or_middle" 552 139 1 295 556)::
(nat_lit 301,G1 47 "spots_or_middle" 300 o7_)::
(nat_lit 307,B1 "ground_or_none" 559 144 1 302 563)::
(nat_lit 308,G1 48 "ground_or_none" 307 o7_)::
(nat_lit 314,B1 "sights_at" 566 146 2 309 574)::
(nat_lit 315,G1 49 "sights_at" 314 o7_)::
(nat_lit 321,B1 "colour_of" 577 153 2 316 585)::
(nat_lit 322,G1 50 "colour_of" 321 o7_)::
(nat_lit 328,B1 "nearest_of" 588 161 1 323 594)::
(nat_lit 329,G1 51 "nearest_of" 328 o7_)::
(nat_lit 333,E1 "layers_over" 597 169 2 330 600)::
(nat_lit 334,G1 52 "layers_over" 333 o7_)::
(nat_lit 340,B1 "laid_over" 603 176 2 335 609)::
(nat_lit 341,G1 53 "laid_over" 340 o7_)::
(nat_lit 342,T #[.none,.none])::
(nat_lit 346,E1 "paint" 612 179 5 343 615)::
(nat_lit 347,F (top 54) "paint" "paint" none (.ref 342) .none (.ref 346) .none (st "sampleyard.paint" 525) .none)::
(nat_lit 351,E1 "painted_row" 618 184 5 348 621)::
(nat_lit 352,G1 55 "painted_row" 351 o7_)::
(nat_lit 356,E1 "sights_in" 624 186 4 353 627)::
(nat_lit 357,G1 56 "sights_in" 356 o7_)::
(nat_lit 361,E1 "cell_colour" 630 188 2 358 633)::
(nat_lit 362,G1 57 "cell_colour" 361 o7_)::
(nat_lit 363,T #[(.int (1) 638),(.int (2) 639),(.int (4) 640),(.int (8) 641),(.int (16) 642)])::
(nat_lit 367,E1 "check_pattern" 644 192 1 364 647)::
(nat_lit 368,G1 60 "check_pattern" 367 o8_)::
(nat_lit 372,E1 "copied" 650 202 1 369 653)::
(nat_lit 373,G1 61 "copied" 372 o8_)::
(nat_lit 379,B1 "entry_at" 656 204 3 374 663)::
(nat_lit 380,G1 62 "entry_at" 379 o8_)::
(nat_lit 393,C "__init__" 680 "Thing.__init__" 681 682 210 2 0 0 3 (.ref 388) true 181 (.ref 389) .none (.ref 390) (.ref 391) (.ref 392) 685 210 686)::
(nat_lit 394,F (inClass (top 64) 0) "__init__" "Thing.__init__" none .none .none (.ref 393) .none (st "sampleyard.things" 666) .none)::
(nat_lit 400,C "is_glass" 688 "Thing.is_glass" 689 690 215 1 0 0 3 (.ref 395) true 181 (.ref 396) .none (.ref 397) (.ref 398) (.ref 399) 692 215 693)::
(nat_lit 401,F (inClass (top 64) 1) "is_glass" "Thing.is_glass" none .none .none (.ref 400) .none (st "sampleyard.things" 666) .none)::
(nat_lit 403,D [(en P "__module__" 675 (st "sampleyard.things" 666)),(en P "__firstlineno__" 679 (.int (208) 678)),(en P "__init__" 687 (.ref 394)),(en P "is_glass" 694 (.ref 401)),(en P "__static_attributes__" 696 (.ref 402)),(en P "__dict__" 698 (.ref 405)),(en P "__weakref__" 700 (.ref 406)),(en P "__doc__" 701 .none)] 4)::
(nat_lit 404,L "Thing" [(.type "object")] [(.ref 404),(.type "object")] 403 [(.ref 446),(.ref 486),(.ref 526),(.ref 573)] #[none,none,(some (st "Thing" 668)),(some (st "Thing" 676)),(some (.builtin "object.__new__")),(some (.bool true))])::
(nat_lit 405,⟨(.type "getset_descriptor"),none,(.fields #[(st "__dict__" 697),(.ref 404),(.builtin "function.__dict__"),(.builtin "function.__dict__#set")]),#[]⟩)::
(nat_lit 406,⟨(.type "getset_descriptor"),none,(.fields #[(st "__weakref__" 699),(.ref 404),(.builtin "ExceptionGroup.__weakref__"),.none]),#[]⟩)::
(nat_lit 409,T #[(.ref 404)])::
(nat_lit 421,C "__init__" 716 "Plain.__init__" 717 718 219 3 0 0 3 (.ref 416) true 181 (.ref 417) .none (.ref 418) (.ref 419) (.ref 420) 722 219 723)::
(nat_lit 422,F (inClass (top 65) 0) "__init__" "Plain.__init__" none .none .none (.ref 421) .none (st "sampleyard.things" 666) .none)::
(nat_lit 428,C "word" 725 "Plain.word" 726 727 224 1 0 0 3 (.ref 423) true 181 (.ref 424) .none (.ref 425) (.ref 426) (.ref 427) 729 224 730)::
(nat_lit 429,F (inClass (top 65) 1) "word" "Plain.word" none .none .none (.ref 428) .none (st "sampleyard.things" 666) .none)::
(nat_lit 435,C "colour_at" 732 "Plain.colour_at" 733 734 227 2 0 0 3 (.ref 430) true 181 (.ref 431) .none (.ref 432) (.ref 433) (.ref 434) 737 227 738)::
(nat_lit 436,F (inClass (top 65) 2) "colour_at" "Plain.colour_at" none .none .none (.ref 435) .none (st "sampleyard.things" 666) .none)::
(nat_lit 442,C "like" 740 "Plain.like" 741 742 230 2 0 0 3 (.ref 437) true 181 (.ref 438) .none (.ref 439) (.ref 440) (.ref 441) 745 230 746)::
(nat_lit 443,F (inClass (top 65) 3) "like" "Plain.like" none .none .none (.ref 442) .none (st "sampleyard.things" 666) .none)::
(nat_lit 445,D [(en P "__module__" 711 (st "sampleyard.things" 666)),(en P "__firstlineno__" 715 (.int (217) 714)),(en P "__init__" 724 (.ref 422)),(en P "word" 731 (.ref 429)),(en P "colour_at" 739 (.ref 436)),(en P "like" 747 (.ref 443)),(en P "__static_attributes__" 749 (.ref 444)),(en P "__doc__" 750 .none)] 2)::
(nat_lit 446,L "Plain" [(.ref 404)] [(.ref 446),(.ref 404),(.type "object")] 445 [] #[(some (.ref 409)),none,(some (st "Plain" 704)),(some (st "Plain" 712)),(some (.builtin "object.__new__")),(some (.bool true))])::
(nat_lit 449,T #[(.ref 404)])::
(nat_lit 461,C "__init__" 765 "Shaded.__init__" 766 767 234 2 0 0 3 (.ref 456) true 181 (.ref 457) .none (.ref 458) (.ref 459) (.ref 460) 770 234 771)::
(nat_lit 462,F (inClass (top 66) 0) "__init__" "Shaded.__init__" none .none .none (.ref 461) .none (st "sampleyard.things" 666) .none)::
(nat_lit 468,C "word" 773 "Shaded.word" 774 775 238 1 0 0 3 (.ref 463) true 181 (.ref 464) .none (.ref 465) (.ref 466) (.ref 467) 777 238 778)::
(nat_lit 469,F (inClass (top 66) 1) "word" "Shaded.word" none .none .none (.ref 468) .none (st "sampleyard.things" 666) .none)::
(nat_lit 475,C "colour_at" 780 "Shaded.colour_at" 781 782 241 2 0 0 3 (.ref 470) true 181 (.ref 471) .none (.ref 472) (.ref 473) (.ref 474) 785 241 786)::
(nat_lit 476,F (inClass (top 66) 2) "colour_at" "Shaded.colour_at" none .none .none (.ref 475) .none (st "sampleyard.things" 666) .none)::
(nat_lit 482,C "like" 788 "Shaded.like" 789 790 244 2 0 0 3 (.ref 477) true 181 (.ref 478) .none (.ref 479) (.ref 480) (.ref 481) 793 244 794)::
(nat_lit 483,F (inClass (top 66) 3) "like" "Shaded.like" none .none .none (.ref 482) .none (st "sampleyard.things" 666) .none)::
(nat_lit 485,D [(en P "__module__" 760 (st "sampleyard.things" 666)),(en P "__firstlineno__" 764 (.int (232) 763)),(en P "__init__" 772 (.ref 462)),(en P "word" 779 (.ref 469)),(en P "colour_at" 787 (.ref 476)),(en P "like" 795 (.ref 483)),(en P "__static_attributes__" 796 (.ref 484)),(en P "__doc__" 797 .none)] 2)::
(nat_lit 486,L "Shaded" [(.ref 404)] [(.ref 486),(.ref 404),(.type "object")] 485 [] #[(some (.ref 449)),none,(some (st "Shaded" 753)),(some (st "Shaded" 761)),(some (.builtin "object.__new__")),(some (.bool true))])::
(nat_lit 489,T #[(.ref 404)])::
(nat_lit 501,C "__init__" 812 "Patterned.__init__" 813 814 248 3 0 0 3 (.ref 496) true 181 (.ref 497) .none (.ref 498) (.ref 499) (.ref 500) 818 248 819)::
(nat_lit 502,F (inClass (top 67) 0) "__init__" "Patterned.__init__" none .none .none (.ref 501) .none (st "sampleyard.things" 666) .none)::
(nat_lit 508,C "word" 821 "Patterned.word" 822 823 254 1 0 0 3 (.ref 503) true 181 (.ref 504) .none (.ref 505) (.ref 506) (.ref 507) 825 254 826)::
(nat_lit 509,F (inClass (top 67) 1) "word" "Patterned.word" none .none .none (.ref 508) .none (st "sampleyard.things" 666) .none)::
(nat_lit 515,C "colour_at" 828 "Patterned.colour_at" 829 830 257 2 0 0 3 (.ref 510) true 181 (.ref 511) .none (.ref 512) (.ref 513) (.ref 514) 833 257 834)::
(nat_lit 516,F (inClass (top 67) 2) "colour_at" "Patterned.colour_at" none .none .none (.ref 515) .none (st "sampleyard.things" 666) .none)::
(nat_lit 522,C "like" 836 "Patterned.like" 837 838 260 2 0 0 3 (.ref 517) true 181 (.ref 518) .none (.ref 519) (.ref 520) (.ref 521) 841 260 842)::
(nat_lit 523,F (inClass (top 67) 3) "like" "Patterned.like" none .none .none (.ref 522) .none (st "sampleyard.things" 666) .none)::
(nat_lit 525,D [(en P "__module__" 807 (st "sampleyard.things" 666)),(en P "__firstlineno__" 811 (.int (246) 810)),(en P "__init__" 820 (.ref 502)),(en P "word" 827 (.ref 509)),(en P "colour_at" 835 (.ref 516)),(en P "like" 843 (.ref 523)),(en P "__static_attributes__" 845 (.ref 524)),(en P "__doc__" 846 .none)] 2)::
(nat_lit 526,L "Patterned" [(.ref 404)] [(.ref 526),(.ref 404),(.type "object")] 525 [] #[(some (.ref 489)),none,(some (st "Patterned" 800)),(some (st "Patterned" 808)),(some (.builtin "object.__new__")),(some (.bool true))])::
(nat_lit 529,T #[(.ref 404)])::
(nat_lit 541,C "__init__" 861 "Glass.__init__" 862 863 264 4 0 0 3 (.ref 536) true 181 (.ref 537) .none (.ref 538) (.ref 539) (.ref 540) 868 264 869)::
(nat_lit 542,F (inClass (top 68) 0) "__init__" "Glass.__init__" none .none .none (.ref 541) .none (st "sampleyard.things" 666) .none)::
(nat_lit 548,C "word" 871 "Glass.word" 872 873 271 1 0 0 3 (.ref 543) true 181 (.ref 544) .none (.ref 545) (.ref 546) (.ref 547) 875 271 876)::
(nat_lit 549,F (inClass (top 68) 1) "word" "Glass.word" none .none .none (.ref 548) .none (st "sampleyard.things" 666) .none)::
(nat_lit 555,C "is_glass" 878 "Glass.is_glass" 879 880 274 1 0 0 3 (.ref 550) true 181 (.ref 551) .none (.ref 552) (.ref 553) (.ref 554) 882 274 883)::
(nat_lit 556,F (inClass (top 68) 2) "is_glass" "Glass.is_glass" none .none .none (.ref 555) .none (st "sampleyard.things" 666) .none)::
(nat_lit 562,C "colour_at" 885 "Glass.colour_at" 886 887 277 2 0 0 3 (.ref 557) true 181 (.ref 558) .none (.ref 559) (.ref 560) (.ref 561) 890 277 891)::
(nat_lit 563,F (inClass (top 68) 3) "colour_at" "Glass.colour_at" none .none .none (.ref 562) .none (st "sampleyard.things" 666) .none)::
(nat_lit 569,C "like" 893 "Glass.like" 894 895 280 2 0 0 3 (.ref 564) true 181 (.ref 565) .none (.ref 566) (.ref 567) (.ref 568) 898 280 899)::
(nat_lit 570,F (inClass (top 68) 4) "like" "Glass.like" none .none .none (.ref 569) .none (st "sampleyard.things" 666) .none)::
(nat_lit 572,D [(en P "__module__" 856 (st "sampleyard.things" 666)),(en P "__firstlineno__" 860 (.int (262) 859)),(en P "__init__" 870 (.ref 542)),(en P "word" 877 (.ref 549)),(en P "is_glass" 884 (.ref 556)),(en P "colour_at" 892 (.ref 563)),(en P "like" 900 (.ref 570)),(en P "__static_attributes__" 903 (.ref 571)),(en P "__doc__" 904 .none)] 2)::
(nat_lit 573,L "Glass" [(.ref 404)] [(.ref 573),(.ref 404),(.type "object")] 572 [] #[(some (.ref 529)),none,(some (st "Glass" 849)),(some (st "Glass" 857)),(some (.builtin "object.__new__")),(some (.bool true))])::
(nat_lit 581,B1 "check_values" 907 282 2 576 912)::
(nat_lit 582,G1 69 "check_values" 581 o9_)::
(nat_lit 588,B1 "check_colour" 915 285 1 583 919)::
(nat_lit 589,G1 70 "check_colour" 588 o9_)::
(nat_lit 595,B1 "check_part" 922 288 1 590 926)::
(nat_lit 596,G1 71 "check_part" 595 o9_)::
(nat_lit 602,B1 "number_word" 935 294 1 597 941)::
(nat_lit 603,G1 75 "number_word" 602 o10_)::
(nat_lit 609,B1 "fraction_word" 944 304 1 604 948)::
(nat_lit 610,G1 76 "fraction_word" 609 o10_)::
(nat_lit 616,B1 "read_number" 951 308 1 611 956)::
(nat_lit 617,G1 77 "read_number" 616 o10_)::
(nat_lit 621,E1 "are_figures" 959 313 1 618 962)::
(nat_lit 622,G1 78 "are_figures" 621 o10_)::
(nat_lit 628,B1 "read_fraction" 965 319 1 623 971)::
(nat_lit 629,G1 79 "read_fraction" 628 o10_)::
(nat_lit 635,B1 "words_behind" 974 327 2 630 980)::
(nat_lit 636,G1 80 "words_behind" 635 o10_)::
(nat_lit 642,B1 "just_words_behind" 983 332 3 637 990)::
(nat_lit 643,G1 81 "just_words_behind" 642 o10_)::
(nat_lit 647,E1 "numbers_behind" 993 337 3 644 996)::
(nat_lit 648,G1 82 "numbers_behind" 647 o10_)::
(nat_lit 652,E1 "thing_text" 999 339 1 649 1002)::
(nat_lit 653,G1 83 "thing_text" 652 o10_)::
(nat_lit 659,B1 "head_words" 1005 341 1 654 1010)::
(nat_lit 660,G1 84 "head_words" 659 o10_)::
(nat_lit 664,E1 "pattern_word" 1013 350 1 661 1016)::
(nat_lit 665,G1 85 "pattern_word" 664 o10_)::
(nat_lit 669,E1 "corner_text" 1019 352 1 666 1022)::
(nat_lit 670,G1 86 "corner_text" 669 o10_)::
(nat_lit 674,E1 "read_thing" 1025 354 1 671 1028)::
(nat_lit 675,G1 87 "read_thing" 674 o10_)::
(nat_lit 681,B1 "check_text" 1031 360 1 676 1035)::
(nat_lit 682,G1 88 "check_text" 681 o10_)::
(nat_lit 688,B1 "groups_of" 1038 363 1 683 1044)::
(nat_lit 689,G1 89 "groups_of" 688 o10_)::
(nat_lit 693,E1 "read_corner" 1047 371 1 690 1050)::
(nat_lit 694,G1 90 "read_corner" 693 o10_)::
(nat_lit 700,B1 "thing_of" 1053 376 2 695 1058)::
(nat_lit 701,G1 91 "thing_of" 700 o10_)::
(nat_lit 705,E1 "read_pattern" 1061 386 1 702 1064)::
(nat_lit 706,G1 92 "read_pattern" 705 o10_)::
(nat_lit 710,E1 "scene_text" 1067 388 1 707 1070)::
(nat_lit 711,G1 93 "scene_text" 710 o10_)::
(nat_lit 717,B1 "pair_word" 1073 391 1 712 1077)::
(nat_lit 718,G1 94 "pair_word" 717 o10_)::
(nat_lit 722,E1 "read_scene" 1080 393 1 719 1083)::
(nat_lit 723,G1 95 "read_scene" 722 o10_)::
(nat_lit 729,B1 "read_at" 1086 401 3 724 1092)::
(nat_lit 730,G1 96 "read_at" 729 o10_)::
(nat_lit 736,B1 "read_floor" 1095 408 1 731 1100)::
(nat_lit 737,G1 97 "read_floor" 736 o10_)::
(nat_lit 743,B1 "read_ground" 1103 412 1 738 1107)::
(nat_lit 744,G1 98 "read_ground" 743 o10_)::
(nat_lit 748,E1 "read_spots" 1110 414 1 745 1113)::
(nat_lit 749,G1 99 "read_spots" 748 o10_)::
(nat_lit 753,E1 "read_spot" 1116 418 1 750 1119)::
(nat_lit 754,G1 100 "read_spot" 753 o10_)::
(nat_lit 760,B1 "_law_cell_at" 1124 421 2 755 1129)::
(nat_lit 761,G1 102 "_law_cell_at" 760 o11_)::
(nat_lit 767,B1 "_law_divisor" 1132 425 2 762 1137)::
(nat_lit 768,G1 103 "_law_divisor" 767 o11_)::
(nat_lit 774,B1 "_law_mixed" 1140 429 2 769 1146)::
(nat_lit 775,G1 104 "_law_mixed" 774 o11_)::
(nat_lit 781,B1 "_law_fraction" 1149 435 2 776 1158)::
(nat_lit 782,G1 105 "_law_fraction" 781 o11_)::
(nat_lit 788,B1 "_law_corner" 1161 441 2 783 1169)::
(nat_lit 789,G1 106 "_law_corner" 788 o11_)::
(nat_lit 795,B1 "_law_thing" 1172 446 2 790 1179)::
(nat_lit 796,G1 107 "_law_thing" 795 o11_)::
(nat_lit 802,B1 "_law_spots" 1182 456 1 797 1189)::
(nat_lit 803,G1 108 "_law_spots" 802 o11_)::
(nat_lit 809,B1 "_law_word" 1192 463 1 804 1196)::
(nat_lit 810,G1 109 "_law_word" 809 o11_)::
(nat_lit 814,E1 "_law_due" 1199 467 5 811 1202)::
(nat_lit 815,G1 110 "_law_due" 814 o11_)::
(nat_lit 819,E1 "_law_right" 1205 471 1 816 1208)::
(nat_lit 820,G1 111 "_law_right" 819 o11_)::
(nat_lit 826,B1 "law" 1211 495 1 821 1215)::
(nat_lit 827,G1 112 "law" 826 o11_)::
[]
noncomputable abbrev addrs:List Addr:=[2,3,20,21,22,30,31,32,35,43,44,47,55,56,59,67,68,71,79,80,83,95,96,98,99,107,108,114,115,121,122,128,129,135,136,142,143,149,150,156,157,163,164,170,171,177,178,184,185,191,192,196,197,201,202,208,209,215,216,222,223,229,230,236,237,243,244,250,251,257,258,262,263,267,268,274,275,281,282,286,287,293,294,300,301,307,308,314,315,321,322,328,329,333,334,340,341,342,346,347,351,352,356,357,361,362,363,367,368,372,373,379,380,393,394,400,401,403,404,405,406,409,421,422,428,429,435,436,442,443,445,446,449,461,462,468,469,475,476,482,483,485,486,489,501,502,508,509,515,516,522,523,525,526,529,541,542,548,549,555,556,562,563,569,570,572,573,581,582,588,589,595,596,602,603,609,610,616,617,621,622,628,629,635,636,642,643,647,648,652,653,659,660,664,665,669,670,674,675,681,682,688,689,693,694,700,701,705,706,710,711,717,718,722,723,729,730,736,737,743,744,748,749,753,754,760,761,767,768,774,775,781,782,788,789,795,796,802,803,809,810,814,815,819,820,826,827]
abbrev most:Nat:=11208
def ZdU(P:Params):addrs=(heap P).map (·.1):=rfl
abbrev hook:Hook:=kHook heap addrs ZdU
end Hd
namespace Hd
open PySem PySem.W PyProof.Rows
def ZfI(tb:String->Option Builtin)(p:Program)(w:World)(n₀:Nat)(ann:Option Value):Nat->SharedT->Thread->Option SharedT
 | 0,_,_=>none
 | n+1,s,t=>match through t with
  | true=>some s
  | false=>match stepOk n₀ ann t with
   | false=>none
   | true=>match stepT (denote tb) p w s t with
    | some (s',t')=>ZfI tb p w n₀ ann n s' t'
    | none=>none
def ZgM{tb:String->Option Builtin}{p:Program}{w:World}{n₀:Nat}{ann:Option Value}:∀{n:Nat} {s s':SharedT} {t:Thread},ZfI tb p w n₀ ann n s t=some s'->topRun tb p w n₀ ann n s.abs t=some s'.abs
 | 0,_,_,_,h=>by cases h
 | n+1,s,s',t,h=>by
  unfold ZfI at h;unfold topRun;cases he:through t with
  | true=>rw [he] at h;cases h;rfl
  | false=>
   rw [he] at h;cases hk:stepOk n₀ ann t with
   | false=>rw [hk] at h;cases h
   | true=>
    rw [hk] at h;cases hs:stepT (denote tb) p w s t with
    | none=>rw [hs] at h;cases h
    | some r=>obtain ⟨s₂,t₂⟩:=r;rw [hs] at h;rw [stepT_spec hs];exact ZgM h
def Zhg(p:Program)(w:World)(n₀:Nat)(ann:Option Value):Nat->SharedT->Thread->Option SharedT
 | 0,_,_=>none
 | n+1,s,t=>match through t with
  | true=>some s
  | false=>match Fast.tw6613529449190102663 n₀ ann t with
   | false=>none
   | true=>match Fast.tw10156331382660048174 (Fast.tw11892475500146522536 Fast.tw14364793385576792824) p w s t with
    | some (s',t')=>Zhg p w n₀ ann n s' t'
    | none=>none
def ZgX(p:Program)(w:World)(n₀:Nat)(ann:Option Value):∀(n:Nat) (s:SharedT) (t:Thread),ZfI treeTable p w n₀ ann n s t=Zhg p w n₀ ann n s t
 | 0,_,_=>rfl
 | n+1,s,t=>by
  unfold ZfI Zhg;rw [Fast.te6613529449190102663,Fast.te10156331382660048174,Fast.te11892475500146522536,Fast.te14364793385576792824];cases through t with
  | true=>rfl
  | false=>
   cases Fast.tw6613529449190102663 n₀ ann t with
   | false=>rfl
   | true=>
    cases Fast.tw10156331382660048174 (Fast.tw11892475500146522536 Fast.tw14364793385576792824) p w s t with
    | none=>rfl
    | some r=>
     obtain ⟨b,a⟩:=r;have:=ZgX p w n₀ ann n b a;rw [Fast.te14364793385576792824] at this;exact this
def Zj2(i:Nat)(t:BT):List Obj->BT
 | []=>t
 | o::r=>Zj2 (i+1) (t.ins i o) r
def ZsS(w:World)(os:OsState):SharedT:=⟨Zj2 0 .nil (boot_heap w.params).objs.toList,(boot_heap w.params).objs.size,(boot_heap w.params).life,Array.mk [],boot_drawn,boot_toks,os⟩
def ZmY(w:World)(os:OsState):(ZsS w os).abs=⟨boot_heap w.params,Array.mk [],boot_drawn,boot_toks,os⟩:=by kernel_rfl
def obsT(as:List Addr)(s:SharedT):List (Option Obj):=as.map λa=>match Nat.blt a s.n with
 | true=>alive ((s.tree.get a).getD default)
 | false=>none
def Zr5(as:List Addr)(s:SharedT):as.map s.abs.heap.get?=obsT as s:=by
 unfold obsT;refine List.map_congr_left λa _=>?_;show (absHeap s.tree s.n s.life).get? a=_;unfold Heap.get?;rw [absHeap_at];by_cases h:a<s.n
 .rw [iP h,show Nat.blt a s.n=true from Nat.ble_eq.mpr h];generalize (s.tree.get a).getD default=o;obtain ⟨c,d,b,e⟩:=o;cases b<;>rfl
 .rw [iN h,show Nat.blt a s.n=false from Bool.eq_false_iff.mpr λz=>h (Nat.le_of_ble_eq_true z)]
abbrev U0{α:Type}(p:Program)(N m₀:Nat)(ann:Option Value)(f:SharedT->α)(d:α)(w:World)(os:OsState):Prop:=(Zhg p w m₀ ann N (ZsS w os) (topStub p)).map f=some d
abbrev U1{α:Type}(p q:Program)(loose:List Str)(Xt:Shared->Bool)(N m₀:Nat)(ann:Option Value)(g0:Bool)(Yt:SharedT->α)(Ya:World->α):Prop:=∀w os,U0 p N m₀ ann (λs=>((staticsOk (importedModules p.main.body) (boot_heap w.params) s.abs.heap&&namesBound p s.abs.heap&&gensDone s.abs&&laidKept (boot_heap w.params) s.abs.heap),Yt s,(Fast.tw4187177175401517315 q loose (importedModules p.main.body) Xt g0 s.abs).1)) (true,Ya w,expectedOf q) w os
abbrev U2(p q:Program)(loose:List Str)(Xt:Shared->Bool)(N m₀:Nat)(ann:Option Value)(g0:Bool):Prop:=∀w os,U0 p N m₀ ann (λs=>((Fast.tw4187177175401517315 q loose (importedModules p.main.body) Xt g0 s.abs).2.1,(Fast.tw4187177175401517315 q loose (importedModules p.main.body) Xt g0 s.abs).2.2.1)) (bltViewBooted,true) w os
abbrev U3(p q:Program)(loose:List Str)(Xt:Shared->Bool)(N m₀:Nat)(ann:Option Value)(g0:Bool):Prop:=∀w os,U0 p N m₀ ann (λs=>(Fast.tw4187177175401517315 q loose (importedModules p.main.body) Xt g0 s.abs).2.2.2.1) true w os
abbrev U4(p q:Program)(loose:List Str)(Xt:Shared->Bool)(N m₀:Nat)(ann:Option Value)(g0:Bool):Prop:=∀w os,U0 p N m₀ ann (λs=>((Fast.tw4187177175401517315 q loose (importedModules p.main.body) Xt g0 s.abs).2.2.2.2.1,(Fast.tw4187177175401517315 q loose (importedModules p.main.body) Xt g0 s.abs).2.2.2.2.2.2.1,(Fast.tw4187177175401517315 q loose (importedModules p.main.body) Xt g0 s.abs).2.2.2.2.2.2.2.2)) (pinGoodD (drecsOf q),plainGoodD q loose,clsGoodW q loose) w os
abbrev U5(p q:Program)(loose:List Str)(Xt:Shared->Bool)(N m₀:Nat)(ann:Option Value)(g0:Bool):Prop:=∀w os,U0 p N m₀ ann (λs=>(Fast.tw4187177175401517315 q loose (importedModules p.main.body) Xt g0 s.abs).2.2.2.2.2.2.2.1) (wideGood q) w os
abbrev U6(p q:Program)(loose:List Str)(Xt:Shared->Bool)(N m₀:Nat)(ann:Option Value)(g0:Bool):Prop:=∀w os,U0 p N m₀ ann (λs=>(Fast.tw4187177175401517315 q loose (importedModules p.main.body) Xt g0 s.abs).2.2.2.2.2.1) (plainGoodE q (Fast.tw821141287760084731 q loose)) w os
def ZlR{p q:Program}{loose:List Str}{Xt:Shared->Bool}{α:Type}{Yf:Shared->α}{Yt:SharedT->α}{Ya:World->α}{N m₀:Nat}{ann:Option Value}{g0:Bool}(hY:∀s,Yf s.abs=Yt s)
  (e:opening p=plainProg p.main.scope.names) (hN:Nat.ble 600 N=true) (f:∀s,fenceModules? p s=some s)
  (hz:∀w:World,((boot_heap w.params).isNs mainGlobals,(boot_heap w.params).objs.size,(boot_heap w.params).nsMap mainGlobals "__annotations__")=(true,m₀,ann))
  (h:U1 p q loose Xt N m₀ ann g0 Yt Ya) (hh:U2 p q loose Xt N m₀ ann g0) (g3:U3 p q loose Xt N m₀ ann g0) (g4:U4 p q loose Xt N m₀ ann g0) (g5:U5 p q loose Xt N m₀ ann g0) (g6:U6 p q loose Xt N m₀ ann g0) :
  LeftO p q loose Xt Yf Ya N g0:=λw=>by
 obtain ⟨s,F,G⟩:=Option.map_eq_some_iff.mp (boot_open e hN f w);unfold openEnds;rw [F];obtain ⟨x,g,d,k,b⟩:=s;obtain ⟨rfl,rfl,rfl,rfl⟩ : x=boot_heap w.params/\g=Array.mk []/\d=boot_drawn/\k=boot_toks:=by simpa using G
 obtain ⟨a,j,o⟩:=Option.map_eq_some_iff.mp (h w b);have i:(_:Option _).map _=_:=hh w b;have m:(_:Option _).map _=_:=g3 w b;have l:(_:Option _).map _=_:=g4 w b;have n:(_:Option _).map _=_:=g5 w b;have c:(_:Option _).map _=_:=g6 w b;rw [j] at i m l n c;rw [<-ZgX] at j;rw [<-Fast.te4187177175401517315] at o i m l n c;rw [<-Fast.te821141287760084731] at c;have r:=ZgM j;rw [ZmY] at r;obtain ⟨B,I,A⟩ : _/\_/\_:=by simpa only [Prod.mk.injEq] using hz w
 obtain ⟨v,D,E⟩ : _/\_/\_:=by simpa only [Prod.mk.injEq] using o
 obtain ⟨y,t⟩ : _/\_:=by simpa only [Prod.mk.injEq] using Vaa i
 obtain ⟨z,C,u⟩ : _/\_/\_:=by simpa only [Prod.mk.injEq] using Vaa l
 have H:openSeen q loose (importedModules p.main.body) Xt g0 a.abs=openGood q loose:=Vab E (Vab y (Vab t (Vab (Vaa m) (Vab z (Vab (Vaa c) (Vab C (Vab (Vaa n) u)))))));show (topFrom treeTable p w N ⟨boot_heap w.params,Array.mk [],boot_drawn,boot_toks,b⟩).map _=_;unfold topFrom;dsimp only;rw [B]
 show (((topRun treeTable p w (boot_heap w.params).objs.size ((boot_heap w.params).nsMap mainGlobals "__annotations__") N ⟨boot_heap w.params,Array.mk [],boot_drawn,boot_toks,b⟩ (topStub p)).bind λa=>match staticsOk (importedModules p.main.body) (boot_heap w.params) a.heap&&namesBound p a.heap&&gensDone a&&laidKept (boot_heap w.params) a.heap with
   | true=>some a
   | false=>none).map _)=_
 rw [I,A,r]
 show ((match staticsOk (importedModules p.main.body) (boot_heap w.params) a.abs.heap&&namesBound p a.abs.heap&&gensDone a.abs&&laidKept (boot_heap w.params) a.abs.heap with
   | true=>some a.abs
   | false=>none).map _)=_
 rw [v];show some (openSeen q loose (importedModules p.main.body) Xt g0 a.abs,Yf a.abs)=_;rw [H,hY,D]
set_option maxRecDepth 100000 in
set_option maxHeartbeats 0 in
def l1:U1 PySem.Challenge.pw_sampleyard_k82_whole_scenes_read view ["paint"] (λs=>xlAt view [] s&&recOk (RowW.records PySem.Challenge.rw_sampleyard_k82_whole_scenes_read.row.toRowW) s) most 11 (some (.ref 6)) true (obsT addrs) (Hook.val hook):=λw a=>by kernel_rfl
set_option maxRecDepth 100000 in
set_option maxHeartbeats 0 in
def l2:U2 PySem.Challenge.pw_sampleyard_k82_whole_scenes_read view ["paint"] (λs=>xlAt view [] s&&recOk (RowW.records PySem.Challenge.rw_sampleyard_k82_whole_scenes_read.row.toRowW) s) most 11 (some (.ref 6)) true:=λw a=>by kernel_rfl
set_option maxRecDepth 100000 in
set_option maxHeartbeats 0 in
def l3:U3 PySem.Challenge.pw_sampleyard_k82_whole_scenes_read view ["paint"] (λs=>xlAt view [] s&&recOk (RowW.records PySem.Challenge.rw_sampleyard_k82_whole_scenes_read.row.toRowW) s) most 11 (some (.ref 6)) true:=λw a=>by kernel_rfl
set_option maxRecDepth 100000 in
set_option maxHeartbeats 0 in
def l4:U4 PySem.Challenge.pw_sampleyard_k82_whole_scenes_read view ["paint"] (λs=>xlAt view [] s&&recOk (RowW.records PySem.Challenge.rw_sampleyard_k82_whole_scenes_read.row.toRowW) s) most 11 (some (.ref 6)) true:=λw a=>by kernel_rfl
set_option maxRecDepth 100000 in
set_option maxHeartbeats 0 in
def l5:U5 PySem.Challenge.pw_sampleyard_k82_whole_scenes_read view ["paint"] (λs=>xlAt view [] s&&recOk (RowW.records PySem.Challenge.rw_sampleyard_k82_whole_scenes_read.row.toRowW) s) most 11 (some (.ref 6)) true:=λw a=>by kernel_rfl
set_option maxRecDepth 100000 in
set_option maxHeartbeats 0 in
def l6:U6 PySem.Challenge.pw_sampleyard_k82_whole_scenes_read view ["paint"] (λs=>xlAt view [] s&&recOk (RowW.records PySem.Challenge.rw_sampleyard_k82_whole_scenes_read.row.toRowW) s) most 11 (some (.ref 6)) true:=λw a=>by kernel_rfl
def left:LeftO PySem.Challenge.pw_sampleyard_k82_whole_scenes_read view ["paint"] (λs=>xlAt view [] s&&recOk (RowW.records PySem.Challenge.rw_sampleyard_k82_whole_scenes_read.row.toRowW) s) (Hook.obs hook) (Hook.val hook) most :=
 ZlR (Zr5 addrs) (by kernel_rfl) (by decide) (λs=>by kernel_rfl) (λw=>by kernel_rfl) l1 l2 l3 l4 l5 l6
def okO:(chainsOk view&&opensWell PySem.Challenge.rw_sampleyard_k82_whole_scenes_read.row.prog&&(frees PySem.Challenge.rw_sampleyard_k82_whole_scenes_read.row.toRowW&&PySem.Challenge.rw_sampleyard_k82_whole_scenes_read.row.within.isEmpty))=true:=by decide +kernel
def bar:PySem.Challenge.rw_sampleyard_k82_whole_scenes_read.row.prog.bare:=⟨rfl,rfl,rfl,rfl,rfl,by decide +kernel⟩
end Hd
set_option maxHeartbeats 4000000
section
open PySem PySem.Spec PyProof.Rows
abbrev ND(x:PySem.Str):=(x==("__debug__" : PySem.Str))=false
abbrev NE(x:PySem.Str):=(x==("__classdict__" : PySem.Str))=false
namespace L2
inductive V where
 | non | bl (b:Bool) | int (i:Int) | str (x:Str) | ref (a:Addr) | ty (n:String)
 deriving DecidableEq
def RelV:V->Value->Prop
 | .non,u=>u=Value.none
 | .bl b,u=>u=Value.bool b
 | .int i,u=>∃t,u=Value.int i t
 | .str x,u=>∃t,u=Value.str x t
 | .ref a,u=>u=Value.ref a
 | .ty n,u=>u=Value.type n
abbrev Vals:List V->List Value->Prop:=Paired RelV
def Vals.length(r:Vals xs us):xs.length=us.length:=Paired.length r
def Vals.get:∀{xs:List V} {us:List Value} {i:Nat} {x:V},Vals xs us->xs[i]?=some x->∃u,us[i]?=some u/\RelV x u
 | _,_,_,_,.nil,e=>by simp at e
 | _,_,0,_,.cons r _,e=>by simp at e;subst e;exact ⟨_,rfl,r⟩
 | _,_,i+1,x,.cons _ t,e=>by
  obtain ⟨u,a,b⟩:=Vals.get t (by simpa using e);exact ⟨u,by simpa using a,b⟩
def Vals.append:∀{xs ys:List V} {us ws:List Value},Vals xs us->Vals ys ws->Vals (xs++ys) (us++ws)
 | _,_,_,_,.nil,s=>s
 | _,_,_,_,.cons r t,s=>.cons r (Vals.append t s)
def Vals.take:∀{xs:List V} {us:List Value} (n:Nat),Vals xs us->Vals (xs.take n) (us.take n)
 | _,_,0,_=>.nil
 | _,_,_+1,.nil=>.nil
 | _,_,n+1,.cons r t=>.cons r (Vals.take n t)
def Vals.drop:∀{xs:List V} {us:List Value} (n:Nat),Vals xs us->Vals (xs.drop n) (us.drop n)
 | _,_,0,r=>r
 | _,_,_+1,.nil=>.nil
 | _,_,n+1,.cons _ t=>Vals.drop n t
def RelO:Option V->Option Value->Prop
 | some v,some u=>RelV v u
 | none,none=>True
 | _,_=>False
inductive HO where
 | lst (xs:List V)
 | tup (xs:List V)
 | ins (C dx:Addr) (fs:List (Str×V))
 | own (x:Addr)
 | xd (fs:List (Str×V))
 | frz (o:Obj) (u:HO)
 | tbl (ps:Array Value)
 | ext (φ:Heap->Prop)
abbrev Hp:=Addr->Option HO
def upd(H:Hp)(a:Addr)(o:HO):Hp:=λb=>if b=a then some o else H b
def Zae:upd H a o a=some o:=by unfold upd;rw [iP rfl]
def Zad(h:b≠a):upd H a o b=H b:=by unfold upd;rw [iN h]
def Zac{H:Hp}{a b:Addr}{o:HO}(h:H a=some o)(h':H b=none):a≠b:=by
 intro e;subst e;rw [h] at h';cases h'
section
variable(P:Program)(w:World)
def ZdD(P:Program)(w:World)(H:Hp)(h:Heap)(a:Addr):HO->Prop
 | .lst c=>c.length<=sizeLine/\∃b n,Vals c b/\h.get? a=some { cls:=.type "list",data:=.seq b.toArray n }
 | .tup c=>c.length<=sizeLine/\∃b,Vals c b/\IsTup h a b.toArray
 | .ins C dx fs=>H dx=some (.own a)/\fs.length<=1000/\dx≠a/\h.get? a=some (W.instObj C dx) /\
   ∃d,h.Ns1 dx d/\(∀f,RelO (fs.lookup f) (d f))/\PySem.Within d (fs.map (·.1))
 | .own _=>∃o,h.get? a=some o
 | .xd fs=>∃d,h.Ns1 a d/\∀f,RelO (fs.lookup f) (d f)
 | .frz o u=>h.get? a=some o/\ZdD P w H h a u
 | .tbl ps=>h.get? a=some { cls:=.none,data:=.fields ps }
 | .ext φ=>φ h/\(∃o,h.get? a=some o)/\∀g e,φ g->(∀o,g.get? a=some o->e.get? a=some o)->φ e
def HOk(H:Hp)(h:Heap):Prop:=∀a o,H a=some o->ZdD P w H h a o
end
section
variable{P:Program}{w:World}{H H':Hp}{h h':Heap}{a:Addr}{o:HO}
def ZdD.lt(x:ZdD P w H h a o):a<h.objs.size:=by
 cases o with
 | lst xs=>obtain ⟨_,_,_,_,e⟩:=x;exact Vae e
 | tup xs=>obtain ⟨_,_,_,p⟩:=x;exact p.lt
 | ins C dx fs=>obtain ⟨_,_,_,e,_⟩:=x;exact Vae e
 | own y=>obtain ⟨_,e⟩:=x;exact Vae e
 | xd fs=>obtain ⟨_,⟨_,_,_,e,_⟩,_⟩:=x;exact Vae e
 | frz ob u=>obtain ⟨e,_⟩:=x;exact Vae e
 | tbl ps=>exact Vae (x)
 | ext φ=>obtain ⟨_,⟨_,e⟩,_⟩:=x;exact Vae e
def ZdD.stay(x:ZdD P w H h a o)(k:∀b u,(b=a\/H b=some (.own a))->h.get? b=some u->h'.get? b=some u)(ho:∀b,H b=some (.own a)->H' b=some (.own a))(ht:∀b xs,H b=some (.tup xs)->H' b=some (.tup xs)):ZdD P w H' h' a o:=by
 induction o with
 | lst xs=>obtain ⟨z,its,n,r,e⟩:=x;exact ⟨z,its,n,r,k _ _ (.inl rfl) e⟩
 | tup xs=>obtain ⟨z,its,r,g,e,c⟩:=x;exact ⟨z,its,r,g,k _ _ (.inl rfl) e,c⟩
 | ins C dx fs=>
  obtain ⟨d,z,s,e,l,⟨m,j,i,A,c⟩,r⟩:=x;exact ⟨ho _ d,z,s,k _ _ (.inl rfl) e,l,⟨m,j,i,k _ _ (.inr d) A,c⟩,r⟩
 | own y=>obtain ⟨g,e⟩:=x;exact ⟨g,k _ _ (.inl rfl) e⟩
 | xd fs=>obtain ⟨l,⟨m,j,i,e,c⟩,r⟩:=x;exact ⟨l,⟨m,j,i,k _ _ (.inl rfl) e,c⟩,r⟩
 | frz g u ih=>obtain ⟨e,q⟩:=x;exact ⟨k _ _ (.inl rfl) e,ih q⟩
 | tbl ps=>
  have e:=x;exact k a _ (.inl rfl) e
 | ext φ=>obtain ⟨p,⟨o,e⟩,st⟩:=x;exact ⟨st _ _ p λo q=>k _ _ (.inl rfl) q,⟨o,k _ _ (.inl rfl) e⟩,st⟩
def HOk.lt(x:HOk P w H h)(e:H a=some o):a<h.objs.size:=(x a o e).lt
def HOk.fresh(x:HOk P w H h)(e:h.objs.size<=a):H a=none:=by
 cases q:H a with
 | none=>rfl
 | some u=>exact aB (Vaf (x.lt q) e) (Vag _)
def HOk.kept(x:HOk P w H h)(k:∀b u,h.get? b=some u->h'.get? b=some u):HOk P w H h':=λa o e=>
 (x a o e).stay (λb u _ q=>k b u q) (λ_ q=>q) λ_ _ q=>q
def HOk.laid(x:HOk P w H h)(k:∀b u,h.get? b=some u->h'.get? b=some u)(hp:h.objs.size<=a)(new:ZdD P w (upd H a o) h' a o):HOk P w (upd H a o) h':=λb u e=>by
 have d:=x.fresh hp;by_cases hb:b=a
 .subst hb;rw [Zae] at e;cases e;exact new
 .rw [Zad hb] at e;exact (x b u e).stay (λc v _ q=>k c v q) (λc q=>by rw [Zad (Zac q d)];exact q) λc f q=>by rw [Zad (Zac q d)];exact q
end
def Rd(H:Hp)(a:Addr)(u:HO):Prop:=H a=some u\/∃o,H a=some (.frz o u)
def Rd.ok(r:Rd H a u)(x:HOk P w H h):ZdD P w H h a u:=by
 rcases r with r | ⟨o,r⟩
 .exact x a u r
 .obtain ⟨_,q⟩:=x a _ r;exact q
def Mut:Option HO->Prop
 | some (.lst _)=>True
 | some (.ins _ _ _)=>True
 | some (.ext _)=>True
 | _=>False
section
variable{P:Program}{w:World}{H:Hp}{h h':Heap}{x e:Addr}{o':HO}
def HOk.write(ok:HOk P w H h)(mu:Mut (H x))(he:e=x\/H e=some (.own x))(k:∀b u,b≠e->h.get? b=some u->h'.get? b=some u)(heo:∃u,h'.get? e=some u)(new:ZdD P w (upd H x o') h' x o'):HOk P w (upd H x o') h':=λb u q=>by
 have a:∀c y,H c=some (.own y)->c≠x:=λc y r z=>by subst z;rw [r] at mu;exact mu
 have d:∀c f,H c=some (.tup f)->c≠x:=λc f r z=>by subst z;rw [r] at mu;exact mu
 by_cases hb:b=x
 .subst hb;rw [Zae] at q;cases q;exact new
 .rw [Zad hb] at q;by_cases hbe:b=e
  .have g:H b=some (.own x):=by
    rcases he with z | z
    .exact aB (hbe.trans z) hb
    .rw [hbe];exact z
   rw [q] at g;cases g;obtain ⟨v,i⟩:=heo;exact ⟨v,by rw [hbe];exact i⟩
  .refine (ok b u q).stay (λc v hc r=>k c v ?_ r) (λc r=>by rw [Zad (a c b r)];exact r) λc f r=>by rw [Zad (d c f r)];exact r
   rcases hc with rfl | hc
   .exact hbe
   .rintro rfl;rcases he with z | z
    .exact a c b hc z
    .rw [hc] at z;cases z;exact hb rfl
end
structure Un(fs ex:List Addr)(H H':Hp)(h h':Heap):Prop where
 keep:∀b o,h.get? b=some o->H b=none->b∉fs->b∉ex->h'.get? b=some o
 slot:∀b o,h.get? b=some o->H b=none->b∈fs->b∉ex->∃sl,h'.get? b=some { o with slots:=sl }
 free:∀b o,h.get? b=some o->H b=none->b∉ex->H' b=none
 there:∀b o,h.get? b=some o->b∉ex->∃o',h'.get? b=some o'
 tups:∀b xs,H b=some (.tup xs)->H' b=some (.tup xs)
 frzs:∀b o u,H b=some (.frz o u)->H' b=some (.frz o u)
 tbls:∀b ps,H b=some (.tbl ps)->∃more,H' b=some (.tbl (ps++more))
section
variable{fs fs' ex ex':List Addr}{H H1 H2:Hp}{h h1 h2 h':Heap}{a x e:Addr}{o:HO}
def Un.any(u:Un fs ex H H1 h h1)(q:h.get? b=some ob)(n:H b=none)(hx:b∉ex):∃sl,h1.get? b=some { ob with slots:=sl }:=by
 by_cases hb:b∈fs
 .exact u.slot b ob q n hb hx
 .exact ⟨ob.slots,u.keep b ob q n hb hx⟩
def Un.trans(a:Un fs ex H H1 h h1)(b:Un fs ex H1 H2 h1 h2):Un fs ex H H2 h h2 where
 keep:=λc d q n i e=>b.keep c d (a.keep c d q n i e) (a.free c d q n e) i e
 slot:=λc d q n i e=>by
  obtain ⟨r,f⟩:=a.slot c d q n i e;obtain ⟨j,k⟩:=b.slot c _ f (a.free c d q n e) i e;exact ⟨j,k⟩
 free:=λc d q n e=>by
  obtain ⟨l,f⟩:=a.there c d q e;exact b.free c l f (a.free c d q n e) e
 there:=λc d q e=>by
  obtain ⟨l,f⟩:=a.there c d q e;exact b.there c l f e
 tups:=λc g q=>b.tups c g (a.tups c g q)
 frzs:=λc d g q=>b.frzs c d g (a.frzs c d g q)
 tbls:=λc p q=>by
  obtain ⟨m,f⟩:=a.tbls c p q;obtain ⟨o,k⟩:=b.tbls c _ f;exact ⟨m++o,by rw [k,Array.append_assoc]⟩
def Un.kept(k:∀b u,h.get? b=some u->h'.get? b=some u):Un fs ex H H h h' :=
 ⟨λb a q _ _ _=>k b a q,λb a q _ _ _=>⟨a.slots,k b a q⟩,λ_ _ _ n _=>n,λb a q _=>⟨a,k b a q⟩,λ_ _ q=>q,λ_ _ _ q=>q,λ_ c q=>⟨#[],by rw [q];simp⟩⟩
def Un.refl:Un fs ex H H h h:=Un.kept λ_ _ q=>q
def Un.laid(k:∀b u,h.get? b=some u->h'.get? b=some u)(hp:h.objs.size<=a)(hn:H a=none):Un fs ex H (upd H a o) h h' where
 keep:=λb u q _ _ _=>k b u q
 slot:=λb u q _ _ _=>⟨u.slots,k b u q⟩
 free:=λb u q n _=>by rw [Zad (Vah (Vaf (Vae q) hp))];exact n
 there:=λb u q _=>⟨u,k b u q⟩
 tups:=λb c q=>by rw [Zad (Zac q hn)];exact q
 frzs:=λb u c q=>by rw [Zad (Zac q hn)];exact q
 tbls:=λb d q=>⟨#[],by rw [Zad (Zac q hn),q];simp⟩
def Un.write(mu:Mut (H x))(he:e=x\/H e=some (.own x))(k:∀b u,b≠e->h.get? b=some u->h'.get? b=some u)(heo:∃u,h'.get? e=some u):Un fs ex H (upd H x o) h h':=by
 have d:∀b,H b=none->b≠x:=λb n z=>by subst z;rw [n] at mu;exact mu
 have c:∀b,H b=none->b≠e:=λb n z=>by
  subst z;rcases he with r | r
  .exact d b n r
  .rw [n] at r;cases r
 have a:∀b u,H b=some u->¬Mut (some u)->b≠x:=λb u q f z=>by subst z;rw [q] at mu;exact f mu
 refine ⟨λb u q n _ _=>k b u (c b n) q,λb u q n _ _=>⟨u.slots,k b u (c b n) q⟩,λb u q n _=>by rw [Zad (d b n)];exact n,λb u q _=>?_,
  λb g q=>by rw [Zad (a b _ q λz=>z)];exact q,λb u g q=>by rw [Zad (a b _ q λz=>z)];exact q,λb i q=>⟨#[],by rw [Zad (a b _ q λz=>z),q];simp⟩⟩
 by_cases hbe:b=e
 .subst hbe;exact heo
 .exact ⟨u,k b u hbe q⟩
def Un.mono(u:Un fs ex H H1 h h1)(hs:∀b∈fs,b∈fs')(hx:∀b∈ex,b∈ex'):Un fs' ex' H H1 h h1 :=
 ⟨λb c q n d a=>u.keep b c q n (λz=>d (hs b z)) λz=>a (hx b z),λ_ _ q n _ a=>u.any q n λz=>a (hx _ z),λb c q n a=>u.free b c q n λz=>a (hx b z),λb c q a=>u.there b c q λz=>a (hx b z),u.tups,u.frzs,u.tbls⟩
end
def trk(h:Heap)(H:Hp):List Addr:=(List.range h.objs.size).filter λa=>(H a).isSome
def hidT(h:Heap)(H:Hp):Heap:=W.hideAll h (trk h H)
def Znd(h)(H):(hidT h H).objs.size=h.objs.size:=W.hideAll_size _ _
def Zpb(e:h.get? b=some o)(n:H b=none):(hidT h H).get? b=some o :=
 W.hideAll_get _ e λa=>by
  have q:=(Vai.mp a).2;rw [n] at q;simp at q
def ZsF(e:(hidT h H).get? b=some o):h.get? b=some o/\H b=none:=by
 have a:=W.of_hideAll (trk h H) e;refine ⟨a,?_⟩;cases q:H b with
 | none=>rfl
 | some x=>
  have c:b∈trk h H:=Vai.mpr ⟨Vaj.mpr (Vae a),by simp [q]⟩;have z:(hidT h H).get? b=none:=W.hideAll_none (trk h H) c;rw [z] at e;cases e
structure Mod(K:W.Frag)(mg:Str->Option Value)(base:Heap):Prop where
 kin:K.In base
 glob:base.Ns mainGlobals mg
 blt:∃mb,base.Ns builtinsNs mb/\∀x:Str,x ≠ "__name__"->mb x=bootBuiltins x
 nolimit:base.NoLimit
structure Cx where
 prog:Program
 w:World
 K:W.Frag
 mg:Str->Option Value
 base:Heap
 A:Around
 N:List Str
 s₀:Shared
 H₀:Hp
 env:Env
 outer:List Env
 stack:List Env
 ex:List Addr
 fn:Str->Bool
 calm:Bool
 pn:List (Addr×Obj)
 xe:Value->Shared->Prop
def frs(l:List Env):List Addr:=l.filterMap (·.frame)
abbrev Cx.fs(X:Cx):List Addr:=frs X.outer
def Vis(sc:Scope)(x:Str):Prop:=sc.names.lookup x=some .local\/sc.names.lookup x=some .cell\/sc.names.lookup x=some .free
def Loc(sc:Scope)(x:Str):Prop:=sc.names.lookup x=some .local\/sc.names.lookup x=some .cell
def Look(env:Env)(h:Heap)(m:Str->Option Value)(x:Str)(u:Value):Prop :=
 (env.kindOf x=some .local/\m x=some u)\/((env.kindOf x=some .cell\/env.kindOf x=some .free)/\∃c,env.cells.lookup x=some c/\h.IsCell c (some u))
structure Cx.Ok(X:Cx):Prop where
 mod:Mod X.K X.mg X.base
 kind:X.env.scope.kind=.function
 glob:X.env.globals=mainGlobals
 blt:X.env.builtins=builtinsNs
 above:X.s₀.heap.objs.size<=X.env.locals
 inj:∀x y c,X.env.cells.lookup x=some c->X.env.cells.lookup y=some c->x=y
 has:∀x,(X.env.kindOf x=some .cell\/X.env.kindOf x=some .free)->∃c,X.env.cells.lookup x=some c
 cab:∀x c,X.fn x=true->X.env.cells.lookup x=some c->X.s₀.heap.objs.size<=c
 hd:X.calm=true->X.A.handled=none
 frames:X.A.frames=some X.stack
 stk:X.stack=X.outer\/(X.stack=X.env::X.outer/\X.env.frame=some X.env.locals)
 exf:∀b∈X.ex,b≠X.env.locals/\∀x c,X.env.cells.lookup x=some c->c≠b
 bs:∀b o,X.base.get? b=some o->X.s₀.heap.get? b=some o/\X.H₀ b=none
 bsz:X.base.objs.size<=X.s₀.heap.objs.size
 noex:∀b o,X.base.get? b=some o->b∉X.ex
 exfs:∀b∈X.ex,b∉X.fs
 funs:X.s₀.heap.FunFrames X.base X.outer
 frf:∀b∈X.fs,X.H₀ b=none
structure Inv(X:Cx)(pins:List (Addr×Obj))(Y:List (Option V))(H:Hp)(s:Shared):Prop where
 ok:X.Ok
 os:s.os=X.s₀.os
 bare:AllBare s.gens
 base:Un X.fs X.ex X.H₀ H X.s₀.heap s.heap
 loc:∃m,s.heap.Ns X.env.locals m/\∀(i:Nat) (x:Str) (v:V),X.N[i]?=some x->Y[i]?=some (some v)->Vis X.env.scope x->∃u,RelV v u/\Look X.env s.heap m x u
 cell:∀x c,X.env.cells.lookup x=some c->∃v,s.heap.IsCell c v
 free:H X.env.locals=none
 freeC:∀x c,X.env.cells.lookup x=some c->H c=none
 pin:∀p∈X.pn++pins,s.heap.get? p.1=some p.2/\H p.1=none/\p.1≠X.env.locals/\p.1∉X.fs/\∀v,p.2.data≠.cell v
 hok:HOk X.prog X.w H s.heap
 len:Y.length=X.N.length
section
variable{X:Cx}{pins:List (Addr×Obj)}{Y:List (Option V)}{H H':Hp}{s:Shared}{h':Heap}
def Cx.Ok.nofr(ok:X.Ok)(e:X.base.get? b=some o):b∉X.fs:=λa=>by
 have:=(ok.funs.mem a).1;rw [e] at this;cases this
def Inv.bs(I:Inv X pins Y H s):∀b o,X.base.get? b=some o->s.heap.get? b=some o/\H b=none:=λb o e=>
 ⟨I.base.keep b o (I.ok.bs b o e).1 (I.ok.bs b o e).2 (I.ok.nofr e) (I.ok.noex b o e),I.base.free b o (I.ok.bs b o e).1 (I.ok.bs b o e).2 (I.ok.noex b o e)⟩
def Inv.bk(I:Inv X pins Y H s):∀b o,X.base.get? b=some o->s.heap.get? b=some o:=λb o e=>(I.bs b o e).1
def Inv.mod(I:Inv X pins Y H s):Mod X.K X.mg X.base:=I.ok.mod
def Inv.kIn(I:Inv X pins Y H s):X.K.In s.heap:=I.ok.mod.kin.keeps I.bk
def Inv.lt(I:Inv X pins Y H s):X.env.locals<s.heap.objs.size:=let ⟨_,hn,_⟩:=I.loc;hn.lt
def Inv.sz(I:Inv X pins Y H s):X.s₀.heap.objs.size<=s.heap.objs.size:=Vak I.ok.above (Vam I.lt)
def Inv.nofs(I:Inv X pins Y H s)(h:s.heap.objs.size<=a):a∉X.fs:=λc=>by
 obtain ⟨_,o,b,_⟩:=I.ok.funs.mem c;exact aB (Vaf (Vae b) (Vak I.sz h)) (Vag _)
def Inv.cne(I:Inv X pins Y H s):∀x c,X.env.cells.lookup x=some c->c≠X.env.locals:=λx c e z=>by
 obtain ⟨v,o,d,f⟩:=I.cell x c e;obtain ⟨m,⟨h,g,i,b,a,_⟩,_⟩:=I.loc;rw [z,b] at d;cases d;rw [a] at f;cases f
def Inv.funs(I:Inv X pins Y H s):s.heap.FunFrames X.base X.outer:=by
 have c:∀l,(∀b∈frs l,b∈X.fs)->X.s₀.heap.FunFrames X.base l->s.heap.FunFrames X.base l:=by
  intro l
  induction l with
  | nil=>intro _ _;trivial
  | cons env r ih=>
   intro g i;obtain ⟨n,⟨L,o,f,h,j,k⟩,m⟩:=i;have a:=g L (by unfold frs;rw [List.filterMap_cons,f];exact List.mem_cons_self);obtain ⟨p,e⟩:=I.base.slot L o j (I.ok.frf L a) a λz=>I.ok.exfs L z a;exact ⟨n,⟨L,_,f,h,e,k⟩,ih (λb d=>g b (by unfold frs;rw [List.filterMap_cons,f];exact List.mem_cons_of_mem _ d)) m⟩
 exact c X.outer (λ_ d=>d) I.ok.funs
def Inv.stack(I:Inv X pins Y H s):s.heap.FunFrames X.base X.stack:=by
 rcases I.ok.stk with e | ⟨e,hf⟩
 .rw [e];exact I.funs
 .rw [e];obtain ⟨m,a,_⟩:=I.loc;refine .cons (by rw [I.ok.kind];decide) hf a ?_ I.funs;exact Heap.get?_none_of_le (Vak I.ok.bsz I.ok.above)
def Inv.stkSub(I:Inv X pins Y H s):∀b∈frs X.stack,b∈X.env.locals::X.fs:=λb a=>by
 rcases I.ok.stk with e | ⟨e,hf⟩
 .rw [e] at a;exact Vap _ a
 .rw [e] at a;unfold frs at a;rw [Van,hf] at a;exact a
def Inv.stkFree(I:Inv X pins Y H s):∀b∈frs X.stack,H b=none:=λb hb=>by
 rcases Vaq.mp (I.stkSub b hb) with e | hb
 .rw [e];exact I.free
 .obtain ⟨_,o,a,_⟩:=I.ok.funs.mem hb;exact I.base.free b o a (I.ok.frf b hb) λz=>I.ok.exfs b z hb
def Inv.step{g':Array GenState}{t':Nat}{d':Drawn}{ch:List Addr}(I:Inv X pins Y H s)(hch:∀b∈ch,(b∈X.ex\/X.s₀.heap.objs.size<=b)/\b≠X.env.locals/\(∀x c,X.env.cells.lookup x=some c->c≠b)/\∀p∈X.pn++pins,p.1≠b)(keep:∀b o,b≠X.env.locals->b∉X.fs->b∉ch->s.heap.get? b=some o->H b=none->h'.get? b=some o)(slot:∀b o,b≠X.env.locals->b∈X.fs->b∉ch->s.heap.get? b=some o->H b=none->∃sl,h'.get? b=some { o with slots:=sl })(free:∀b o,b∉ch->s.heap.get? b=some o->H b=none->H' b=none)(there:∀b o,b∉ch->s.heap.get? b=some o->∃o',h'.get? b=some o')(tups:∀b xs,H b=some (.tup xs)->H' b=some (.tup xs))(frzs:∀b o u,H b=some (.frz o u)->H' b=some (.frz o u))(tbls:∀b ps,H b=some (.tbl ps)->∃more,H' b=some (.tbl (ps++more)))(ns:∀m,s.heap.Ns X.env.locals m->h'.Ns X.env.locals m)(hok:HOk X.prog X.w H' h')(hg:AllBare g') :
  Inv X pins Y H' { s with heap:=h',gens:=g',drawn:=d',toks:=t' }:=by
 have A:∀b o,X.s₀.heap.get? b=some o->b≠X.env.locals:=λb o e=>Vah (Vaf (Vae e) I.ok.above);have h:∀b o,X.s₀.heap.get? b=some o->b∉X.ex->b∉ch:=λb o e a t=>by
  rcases (hch b t).1 with z | z
  .exact a z
  .exact aB (Vaf (Vae e) z) (Vag _)
 have g:∀x c,X.env.cells.lookup x=some c->∀v,s.heap.IsCell c v->h'.IsCell c v:=λx c e v ⟨o,y,C⟩=>by
  have f:=λz=>(hch c z).2.2.1 x c e rfl;by_cases hc:c∈X.fs
  .obtain ⟨sl,q⟩:=slot c o (I.cne x c e) hc f y (I.freeC x c e);exact ⟨_,q,C⟩
  .exact ⟨o,keep c o (I.cne x c e) hc f y (I.freeC x c e),C⟩
 refine ⟨I.ok,I.os,hg,⟨λb o e n t a=>?_,λb o e n t a=>?_,λb o e n a=>?_,λb o e a=>?_,λb xs e=>tups b xs (I.base.tups b xs e),λb o xs e=>frzs b o xs (I.base.frzs b o xs e),λb ps e=>?_⟩,?_,λx c e=>?_,?_,λx c e=>?_,λp G=>?_,hok,I.len⟩
 .exact keep b o (A b o e) t (h b o e a) (I.base.keep b o e n t a) (I.base.free b o e n a)
 .obtain ⟨sl,j⟩:=I.base.slot b o e n t a;obtain ⟨D,B⟩:=slot b _ (A b o e) t (h b o e a) j (I.base.free b o e n a);exact ⟨D,B⟩
 .obtain ⟨o',j⟩:=I.base.there b o e a;exact free b o' (h b o e a) j (I.base.free b o e n a)
 .obtain ⟨o',j⟩:=I.base.there b o e a;exact there b o' (h b o e a) j
 .obtain ⟨K,j⟩:=I.base.tbls b ps e;obtain ⟨J,B⟩:=tbls b _ j;exact ⟨K++J,by rw [B,Array.append_assoc]⟩
 .obtain ⟨m,L,M⟩:=I.loc;refine ⟨m,ns m L,λi x v j B N=>?_⟩;obtain ⟨u,r,l⟩:=M i x v j B N;refine ⟨u,r,?_⟩;rcases l with l | ⟨k,c,e,z⟩
  .exact .inl l
  .exact .inr ⟨k,c,e,g x c e _ z⟩
 .obtain ⟨v,z⟩:=I.cell x c e;exact ⟨v,g x c e v z⟩
 .obtain ⟨m,⟨o,_,_,y,_⟩,_⟩:=I.loc;exact free _ o (λz=>(hch _ z).2.1 rfl) y I.free
 .obtain ⟨v,o,y,C⟩:=I.cell x c e;exact free c o (λz=>(hch c z).2.2.1 x c e rfl) y (I.freeC x c e)
 .obtain ⟨e,n,E,F,d⟩:=I.pin p G;have f:=λz=>(hch p.1 z).2.2.2 p G rfl;exact ⟨keep p.1 p.2 E F f e n,free p.1 p.2 f e n,E,F,d⟩
def Inv.un{t':Nat}(I:Inv X pins Y H s)(u:Un X.fs [] H H' s.heap h')(hok:HOk X.prog X.w H' h'):Inv X pins Y H' { s with heap:=h',toks:=t' }:=by
 obtain ⟨m,⟨o,p,l,g,r⟩,_⟩:=id I.loc;obtain ⟨t,h⟩:=u.any g I.free (by simp)
 exact I.step (ch:=[]) (λ_ z=>nomatch z) (λb o _ c _ e n=>u.keep b o e n c (by simp)) (λb o _ c _ e n=>u.slot b o e n c (by simp)) (λb o _ e n=>u.free b o e n (by simp)) (λb o _ e=>u.there b o e (by simp)) u.tups u.frzs u.tbls (λq j=>by
  obtain ⟨k,d,f,a,i⟩:=j;rw [g] at a;cases a
  exact ⟨_,d,f,h,i⟩) hok I.bare
def Inv.call{g':Array GenState}{t':Nat}{d':Drawn}{ch:List Addr}(I:Inv X pins Y H s)(u:Un (frs X.stack) ch H H' s.heap h')(hok:HOk X.prog X.w H' h')(hg:AllBare g')(hch:∀b∈ch,(b∈X.ex\/X.s₀.heap.objs.size<=b)/\b≠X.env.locals/\(∀x c,X.env.cells.lookup x=some c->c≠b)/\∀p∈X.pn++pins,p.1≠b) :
  Inv X pins Y H' { s with heap:=h',gens:=g',drawn:=d',toks:=t' }:=by
 obtain ⟨m,⟨o,v,t,i,r⟩,_⟩:=id I.loc;obtain ⟨A,f⟩:=u.any i I.free λz=>(hch _ z).2.1 rfl
 exact I.step hch (λb o f k a e n=>u.keep b o e n (λz=>(Vaq.mp (I.stkSub b z)).elim f k) a) (λb o _ _ a e n=>u.any e n a) (λb o a e n=>u.free b o e n a) (λb o a e=>u.there b o e a) u.tups u.frzs u.tbls (λy l=>by
  obtain ⟨q,g,h,d,j⟩:=l;rw [i] at d;cases d
  exact ⟨_,g,h,f,j⟩) hok hg
def Inv.turned{t':Nat}{it:Addr}(I:Inv X pins Y H s)(k:∀b o,b≠it->s.heap.get? b=some o->h'.get? b=some o)(hn:H it=none)(hL:it≠X.env.locals)(h1:it∈X.ex\/X.s₀.heap.objs.size<=it)(h2:∀x c,X.env.cells.lookup x=some c->c≠it)(h3:∀p∈X.pn++pins,p.1≠it):Inv X pins Y H { s with heap:=h',toks:=t' }:=by
 have d:∀b u,H b=some u->b≠it:=λb u e z=>by rw [z,hn] at e;cases e
 refine I.step (ch:=[it]) (λb g=>?_) (λb o _ _ a e _=>k b o (λz=>a (by simp [z])) e) (λb o _ _ a e _=>⟨o.slots,k b o (λz=>a (by simp [z])) e⟩) (λ_ _ _ _ n=>n)
  (λb o a e=>⟨o,k b o (λz=>a (by simp [z])) e⟩) (λ_ _ e=>e) (λ_ _ _ e=>e) (λb l e=>⟨#[],by rw [e];simp⟩) (λm f=>?_) (λb u e=>?_) I.bare
 .have e:b=it:=by simpa using g
  subst e;exact ⟨h1,hL,h2,h3⟩
 .obtain ⟨o,j,h,i,r⟩:=f;exact ⟨o,j,h,k _ o (Ne.symm hL) i,r⟩
 .refine (I.hok b u e).stay (λc v a q=>k c v ?_ q) (λ_ q=>q) λ_ _ q=>q;rcases a with z | z
  .rw [z];exact d b u e
  .exact d c _ z
def Inv.tok(I:Inv X pins Y H s)(t):Inv X pins Y H { s with toks:=t }:=I.un (h':=s.heap) (t':=t) Un.refl I.hok
def Inv.kept(I:Inv X pins Y H s)(k:∀b u,s.heap.get? b=some u->h'.get? b=some u):Inv X pins Y H { s with heap:=h',toks:=t' }:=I.un (Un.kept k) (I.hok.kept k)
def Inv.laid(I:Inv X pins Y H s)(k:∀b u,s.heap.get? b=some u->h'.get? b=some u)(hp:s.heap.objs.size<=a)(new:ZdD X.prog X.w (upd H a o) h' a o) :
  Inv X pins Y (upd H a o) { s with heap:=h',toks:=t' }:=I.un (Un.laid k hp (I.hok.fresh hp)) (I.hok.laid k hp new)
def Inv.write(I:Inv X pins Y H s)(mu:Mut (H x))(he:e=x\/H e=some (.own x))(k:∀b u,b≠e->s.heap.get? b=some u->h'.get? b=some u)(heo:∃u,h'.get? e=some u)(new:ZdD X.prog X.w (upd H x o) h' x o):Inv X pins Y (upd H x o) { s with heap:=h',toks:=t' }:=I.un (Un.write mu he k heo) (I.hok.write mu he k heo new)
def Inv.weak{Y':List (Option V)}(I:Inv X pins Y H s)(hl:Y'.length=Y.length)(w:∀(i:Nat) v,Y'[i]?=some (some v)->Y[i]?=some (some v)):Inv X pins Y' H s :=
 ⟨I.ok,I.os,I.bare,I.base,let ⟨m,hn,hl'⟩:=I.loc;⟨m,hn,λi x v a b c=>hl' i x v a (w i v b) c⟩,I.cell,I.free,I.freeC,I.pin,I.hok,hl.trans I.len⟩
def Inv.pins_of(I:Inv X pins Y H s)(h:∀p∈pins',s.heap.get? p.1=some p.2/\H p.1=none/\p.1≠X.env.locals/\p.1∉X.fs/\∀v,p.2.data≠.cell v):Inv X pins' Y H s :=
 ⟨I.ok,I.os,I.bare,I.base,I.loc,I.cell,I.free,I.freeC,λp a=>(Var.mp a).elim (λz=>I.pin p (Vas _ z)) (h p),I.hok,I.len⟩
def ZjJ{N:List Str}(hN:N.Nodup){i j:Nat}{x:Str}(a:N[i]?=some x)(b:N[j]?=some x):i=j:=by
 obtain ⟨e,d⟩:=Vat.mp a;obtain ⟨f,c⟩:=Vat.mp b;exact (List.getElem_inj hN).mp (d.trans c.symm)
def ZlH(I:Inv X pins Y H s)(hN:X.N.Nodup)(hi:X.N[i]?=some x)(hx:Loc X.env.scope x)(r:RelV v u)(h:∀s',Inv X pins (Y.set i (some v)) H s'->(∃a,Heap.SameBut a s.heap s'.heap/\(a=X.env.locals\/X.env.cells.lookup x=some a))->Q () s')(hf:X.fn x=true\/X.env.scope.names.lookup x=some .local:=by first | exact .inl rfl | exact .inr rfl | assumption):wpAny M A (storeName X.env x u) Q E s:=by
 obtain ⟨m,hn,hl⟩:=id I.loc;have O:(X.env.scope.kind==.class||(X.env.scope.kind==.module&&X.env.locals != X.env.globals))=false:=by rw [I.ok.kind];rfl
 have C:i<Y.length:=by rw [I.len];exact (Vat.mp hi).1
 have F:=I.cne;have g:∀{a:Addr} {J:Heap},(∃o,s.heap.get? a=some o/\H a=none)->Heap.SameBut a s.heap J->HOk X.prog X.w H J:=λ{a J} ha f b ob e=>by
  obtain ⟨_,_,t⟩:=ha;refine (I.hok b ob e).stay (λc S hc q=>(f.2 c ?_).trans q) (λ_ q=>q) λ_ _ q=>q;rintro rfl;rcases hc with rfl | hc
  .rw [t] at e;cases e
  .rw [t] at hc;cases hc
 rcases hx with hk | hk
 .refine wpAny_storeName_local hk hn (λJ hn' f=>?_) O;obtain ⟨oL,_,_,hoL,_⟩:=id hn;refine h _ ⟨I.ok,I.os,I.bare,⟨λb o e n G hx=>?_,λb o e n G hx=>?_,I.base.free,λb o e hx=>?_,I.base.tups,I.base.frzs,I.base.tbls⟩,⟨_,hn',λj y V l B e3=>?_⟩,λy c e=>?_,I.free,I.freeC,λp hp=>?_,g ⟨oL,hoL,I.free⟩ f,by simpa using I.len⟩ ⟨_,f,.inl rfl⟩
  .exact (f.2 b (Vah (Vaf (Vae e) I.ok.above))).trans (I.base.keep b o e n G hx)
  .obtain ⟨sl,l⟩:=I.base.slot b o e n G hx;exact ⟨sl,(f.2 b (Vah (Vaf (Vae e) I.ok.above))).trans l⟩
  .obtain ⟨o',l⟩:=I.base.there b o e hx;exact ⟨o',(f.2 b (Vah (Vaf (Vae e) I.ok.above))).trans l⟩
  .by_cases hj:j=i
   .subst hj;rw [hi] at l;cases l;rw [List.getElem?_set_self C] at B;cases B;exact ⟨u,r,.inl ⟨hk,by simp⟩⟩
   .rw [List.getElem?_set_ne (Ne.symm hj)] at B;obtain ⟨W,U,q⟩:=hl j y V l B e3;refine ⟨W,U,?_⟩;rcases q with ⟨k,e⟩ | ⟨k,c,e,z⟩
    .refine .inl ⟨k,?_⟩;have:y≠x:=λe=>hj (ZjJ hN l (e▸hi));simp [this,e]
    .exact .inr ⟨k,c,e,z.sameBut f (F y c e)⟩
  .obtain ⟨S,z⟩:=I.cell y c e;exact ⟨S,z.sameBut f (F y c e)⟩
  .obtain ⟨e,n,R,Z,d⟩:=I.pin p hp;exact ⟨(f.2 p.1 R).trans e,n,R,Z,d⟩
 .have D:X.fn x=true:=by
   rcases hf with z | z
   .exact z
   .rw [z] at hk;cases hk
  obtain ⟨c,hc⟩:=I.ok.has x (.inl hk);obtain ⟨S,z⟩:=I.cell x c hc;refine wpAny_storeName_cell I.ok.kind hk hc z (λJ P f=>?_);obtain ⟨oc,L,K⟩:=id z;refine h { s with heap:=J } ⟨I.ok,I.os,I.bare,⟨λb o e n G hx=>?_,λb o e n G hx=>?_,I.base.free,λb o e hx=>?_,I.base.tups,I.base.frzs,I.base.tbls⟩,⟨m,hn.sameBut f (Ne.symm (F x c hc)),λj y V l B e3=>?_⟩,λy T e=>?_,I.free,I.freeC,λp hp=>?_,g ⟨oc,L,I.freeC x c hc⟩ f,by simpa using I.len⟩ ⟨c,f,.inr hc⟩
  .exact (f.2 b (Vah (Vaf (Vae e) (I.ok.cab x c D hc)))).trans (I.base.keep b o e n G hx)
  .obtain ⟨sl,l⟩:=I.base.slot b o e n G hx;exact ⟨sl,(f.2 b (Vah (Vaf (Vae e) (I.ok.cab x c D hc)))).trans l⟩
  .obtain ⟨o',l⟩:=I.base.there b o e hx;exact ⟨o',(f.2 b (Vah (Vaf (Vae e) (I.ok.cab x c D hc)))).trans l⟩
  .by_cases hj:j=i
   .subst hj;rw [hi] at l;cases l;rw [List.getElem?_set_self C] at B;cases B;exact ⟨u,r,.inr ⟨.inl hk,c,hc,P⟩⟩
   .rw [List.getElem?_set_ne (Ne.symm hj)] at B;obtain ⟨W,U,q⟩:=hl j y V l B e3;refine ⟨W,U,?_⟩;rcases q with q | ⟨k,T,e,z'⟩
    .exact .inl q
    .refine .inr ⟨k,T,e,z'.sameBut f ?_⟩;rintro rfl;exact hj (ZjJ hN l (I.ok.inj _ _ _ e hc▸hi))
  .by_cases hcc:T=c
   .subst hcc;exact ⟨_,P⟩
   .obtain ⟨w2,z2⟩:=I.cell y T e;exact ⟨w2,z2.sameBut f hcc⟩
  .obtain ⟨e,n,R,Z,d⟩:=I.pin p hp;refine ⟨(f.2 p.1 ?_).trans e,n,R,Z,d⟩;intro q;rw [q,L] at e;have q':=Vaa e;exact d S (by rw [<-q'];exact K)
def ZeO(I:Inv X pins Y H s)(hN:X.N.Nodup)(hi:X.N[i]?=some x)(hx:Loc X.env.scope x)(r:RelV v u)(h:∀s',Inv X pins (Y.set i (some v)) H s'->Q () s')(hf:X.fn x=true\/X.env.scope.names.lookup x=some .local:=by first | exact .inl rfl | exact .inr rfl | assumption):wpAny M A (storeName X.env x u) Q E s :=
 ZlH I hN hi hx r (λs' a _=>h s' a) hf
def Inv.call'(I:Inv X pins Y H s)(ho:s'.os=s.os)(u:Un (frs X.stack) ch H H' s.heap s'.heap)(hok:HOk X.prog X.w H' s'.heap)(hg:AllBare s'.gens)(hch:∀b∈ch,(b∈X.ex\/X.s₀.heap.objs.size<=b)/\b≠X.env.locals/\(∀x c,X.env.cells.lookup x=some c->c≠b)/\∀p∈X.pn++pins,p.1≠b):Inv X pins Y H' s':=by
 obtain ⟨h,a,g,d,f⟩:=s';have e:=ho;subst e;exact I.call u hok hg hch
end
abbrev XK:=Value->Option Addr->Hp->Prop
abbrev St:=List (Option V)
abbrev VK:=V->Hp->Prop
abbrev TE:=St->Hp->VK->Prop
abbrev TT:=St->Hp->(Bool->Hp->Prop)->Prop
abbrev TA:=St->Hp->(List V->Hp->Prop)->Prop
structure Ends where
 nx:St->Hp->Prop
 rt:VK
 bk:St->Hp->Prop:=λ_ _=>False
 ct:St->Hp->Prop:=λ_ _=>False
abbrev TS:=Ends->St->Hp->Prop
def EP(X:Cx)(pins:List (Addr×Obj))(Y:St)(Q:VK)(u:Value)(s':Shared):Prop:=∃v a,Inv X pins Y a s'/\RelV v u/\Q v a
def TP(X:Cx)(pins:List (Addr×Obj))(Y:St)(Q:Bool->Hp->Prop)(b:Bool)(s':Shared):Prop:=∃a,Inv X pins Y a s'/\Q b a
def AP(X:Cx)(pins:List (Addr×Obj))(Y:St)(Q:List V->Hp->Prop)(us:List Value)(s':Shared):Prop:=∃b a,Inv X pins Y a s'/\Vals b us/\Q b a
def SP(X:Cx)(pins:List (Addr×Obj))(D:Ends)(f:Flow)(s':Shared):Prop :=
 match f with
 | .next=>∃b a,Inv X pins b a s'/\D.nx b a
 | .brk=>∃b a,Inv X pins b a s'/\D.bk b a
 | .cont=>∃b a,Inv X pins b a s'/\D.ct b a
 | .ret u=>∃v b a,Inv X pins b a s'/\RelV v u/\D.rt v a
abbrev wX{α}(X:Cx):=@wpAny α (model X.prog X.w) X.A
def PE(X:Cx)(e:Expr)(t:TE):Prop :=
 ∀a s Y H Q,Inv X a Y H s->t Y H Q->wX X (eval e X.env) (EP X a Y Q) X.xe s
def PT(X:Cx)(e:Expr)(t:TT):Prop :=
 ∀a s Y H Q,Inv X a Y H s->t Y H Q->wX X (isTrue e X.env (eval e X.env)) (TP X a Y Q) X.xe s
def PW(X:Cx)(e:Expr)(t:TT):Prop :=
 ∀b a s Y H Q,Inv X a Y H s->t Y H Q->wX X (isTrue e X.env b) (TP X a Y Q) X.xe s
def PW.pt(h:PW X e t):PT X e t:=h _
def PA(X:Cx)(es:List Expr)(t:TA):Prop :=
 ∀b a s Y H Q,Inv X a Y H s->t Y H Q->wX X (spliced (backTo b (starEach es X.env))) (AP X a Y Q) X.xe s
def PS(X:Cx)(st:Stmt)(t:TS):Prop :=
 ∀a s Y H D,Inv X a Y H s->t D Y H->wX X (exec st X.env) (SP X a D) X.xe s
def PSs(X:Cx)(st:List Stmt)(t:TS):Prop :=
 ∀a s Y H D,Inv X a Y H s->t D Y H->wX X (execs st X.env) (SP X a D) X.xe s
def thn(h:wpAny M A t Q E s)(hQ:∀a s,Q a s->Q' a s):wpAny M A t Q' E s:=Vau h hQ λ_ _ x=>x
section
variable{X:Cx}
def tVar(i:Nat):TE:=λY H Q=>∃v,Y[i]?=some (some v)/\Q v H
def tC(v:V):TE:=λ_ H Q=>Q v H
def Zdp(hN:X.N[i]?=some x)(hv:Vis X.env.scope x)(hd:ND x:=by decide)(hcd:NE x:=by decide):PE X (.Name x pos) (tVar i):=by
 intro b s Y H Q I h;obtain ⟨v,e,h⟩:=h;obtain ⟨m,d,f⟩:=I.loc;obtain ⟨u,r,l⟩:=f i x v hN e hv;have a:EP X b Y Q u s:=⟨v,H,I,r,h⟩;rcases l with ⟨hk,hm⟩ | ⟨hk,c,hc,hcell⟩
 .exact wpAny_Name (wpAny_loadName_local I.ok.kind hk d hm a) hd
 .rcases hk with hk | hk
  .exact wpAny_Name (wpAny_loadName_cell I.ok.kind hk hc hcell a) hd
  .exact wpAny_Name (wpAny_loadName_free I.ok.kind hk hc hcell a hcd) hd
def Znf{i j pos}:PE X (.Constant (.int i) j pos) (tC (.int i)):=λ_ _ _ H _ I h=>wpAny_Constant_int ⟨.int i,H,I.tok _,⟨_,rfl⟩,h⟩
def ZvD{b j pos}:PE X (.Constant (.bool b) j pos) (tC (.bl b)):=λ_ _ _ H _ I h=>Constant_bool ⟨.bl b,H,I,rfl,h⟩
def ZlY{j pos}:PE X (.Constant .none j pos) (tC .non):=λ_ _ _ H _ I h=>Constant_none ⟨.non,H,I,rfl,h⟩
def Zp3{x j pos}:PE X (.Constant (.str x) j pos) (tC (.str x)):=λ_ _ _ H _ I h=>Calls.Constant_str ⟨.str x,H,I.tok _,⟨_,rfl⟩,h⟩
def Gl(X:Cx)(x:Str):Prop:=X.env.kindOf x=some .globalImplicit
def Zja(I:Inv X pins Y H s)(hg:Gl X x)(hm:X.mg x=some u)(h:Q u s)(hd:ND x:=by decide):wX X (eval (.Name x pos) X.env) Q E s :=
 Calls.Name_function_global I.ok.kind hg (Calls.loadGlobal_global (by rw [I.ok.glob];exact I.mod.glob.keeps I.bk) hm h) hd
def Zfr(I:Inv X pins Y H s)(hg:Gl X x)(hm:X.mg x=none)(hv:bootBuiltins x=some u)(h:Q u s)(hn:x ≠ "__name__":=by decide)(hd:ND x:=by decide):wX X (eval (.Name x pos) X.env) Q E s:=by
 obtain ⟨c,a,b⟩:=I.mod.blt;exact Calls.Name_function_global I.ok.kind hg (Calls.loadGlobal_builtin (by rw [I.ok.glob];exact I.mod.glob.keeps I.bk) hm (by rw [I.ok.blt];exact a.keeps I.bk) ((b x hn).trans hv) h) hd
def Zgm(hg:Gl X x)(hm:X.mg x=some u)(r:RelV v u)(hd:ND x:=by decide):PE X (.Name x pos) (tC v) :=
 λ_ _ _ H _ I h=>Zja I hg hm ⟨v,H,I,r,h⟩ hd
def ZrB(hg:Gl X x)(hm:X.mg x=none)(hv:bootBuiltins x=some u)(r:RelV v u)(hn:x ≠ "__name__":=by decide)(hd:ND x:=by decide):PE X (.Name x pos) (tC v) :=
 λ_ _ _ H _ I h=>Zfr I hg hm hv ⟨v,H,I,r,h⟩ hn hd
variable{a b:Expr}{ta tb:TE}{pos:Pos}
def tB(t:TE):TT:=λY H Q=>t Y H λx a=>∃c,x=.bl c/\Q c a
def Zuw(h:PE X e t)(he:∀whole,isTrue e X.env whole=(do let v <-whole;standAt e.pos;holding [v] (truthy v)):=by intro _;rfl):PT X e (tB t):=by
 intro a s Y H Q I f;refine isTrue_plain (thn (h a s Y H _ I f) λv j zq=>?_) (he _);obtain ⟨x,c,g,b,i⟩:=zq;obtain ⟨d,rfl,q⟩:=i;cases b;exact wpAny_truthy_bool ⟨c,g,q⟩
variable{tA tB':TT}{rest:List Expr}
def tAnd(t u:TT):TT:=λY H Q=>t Y H λc a=>if c=true then u Y a Q else Q false a
def tOr(t u:TT):TT:=λY H Q=>t Y H λc a=>if c=true then Q true a else u Y a Q
def tNot(t:TT):TT:=λY H Q=>t Y H λc a=>Q (!c) a
def Zqw(ha:PT X a tA):PW X (.BoolOp .And [a] pos) tA:=by
 intro f b s Y H Q I h;refine isTrue_and (thn (ha b s Y H Q I h) λc d e=>?_);cases c with
 | true=>exact isTrue_and_nil e
 | false=>exact e
def ZtK(ha:PT X a tA):PW X (.BoolOp .Or [a] pos) tA:=by
 intro f b s Y H Q I h;refine isTrue_or (thn (ha b s Y H Q I h) λc d e=>?_);cases c with
 | false=>exact isTrue_or_nil e
 | true=>exact e
def ZuM(ha:PT X a tA)(hb:PW X (.BoolOp .And (b::rest) pos) tB'):PW X (.BoolOp .And (a::b::rest) pos) (tAnd tA tB'):=by
 intro j d s Y H Q I h;refine isTrue_and (thn (ha d s Y H _ I h) λc i zq=>?_);obtain ⟨e,f,g⟩:=zq;cases c with
 | true=>exact hb j d i Y e Q f g
 | false=>exact ⟨e,f,g⟩
def Zw0(ha:PT X a tA)(hb:PW X (.BoolOp .Or (b::rest) pos) tB'):PW X (.BoolOp .Or (a::b::rest) pos) (tOr tA tB'):=by
 intro j d s Y H Q I h;refine isTrue_or (thn (ha d s Y H _ I h) λc i zq=>?_);obtain ⟨e,f,g⟩:=zq;cases c with
 | true=>exact ⟨e,f,g⟩
 | false=>exact hb j d i Y e Q f g
def Zum(ha:PT X a tA):PT X (.UnaryOp .Not a pos) (tNot tA):=by
 intro b s Y H Q I h;exact isTrue_not (ha b s Y H (λc d=>Q (!c) d) I h)
def Zst(ta tb:TE):TE:=λY H Q=>ta Y H λx a=>∃c,x=.bl c/\if c=true then tb Y a Q else Q (.bl false) a
def ZrJ(ta:TE):TE:=λY H Q=>ta Y H λx a=>∃c,x=.bl c/\Q (.bl (!c)) a
def ZtS{op}(h:PE X a t):PE X (.BoolOp op [a] pos) t:=λb s Y H Q I c=>BoolOp_one (h b s Y H Q I c)
def Zs2(ha:PE X a ta)(hb:PE X (.BoolOp .And (b::rest) pos) tb):PE X (.BoolOp .And (a::b::rest) pos) (Zst ta tb):=by
 intro d s Y H Q I h;refine BoolOp_and (thn (ha d s Y H _ I h) λv i zq=>?_);obtain ⟨x,f,g,j,e⟩:=zq;obtain ⟨c,rfl,e⟩:=e;cases j;refine wpAny_truthy_bool ?_;cases c with
 | true=>exact hb d i Y f Q g e
 | false=>exact ⟨.bl false,f,g,rfl,e⟩
def Ztp(ha:PE X a ta):PE X (.UnaryOp .Not a pos) (ZrJ ta):=by
 intro b s Y H Q I h;refine UnaryOp_ (thn (ha b s Y H _ I h) λv i zq=>?_);obtain ⟨x,f,g,e,d⟩:=zq;obtain ⟨c,rfl,d⟩:=d;cases e;exact not_of (wpAny_truthy_bool ⟨.bl (!c),f,g,rfl,d⟩)
def tIf(t:TT)(ta tb:TE):TE:=λY H Q=>t Y H λc a=>if c=true then ta Y a Q else tb Y a Q
def Zo1(hc:PT X c tA)(ha:PE X a ta)(hb:PE X b tb):PE X (.IfExp c a b pos) (tIf tA ta tb):=by
 intro e s Y H Q I h;refine wpAny_IfExp (thn (hc e s Y H _ I h) λd f zq=>?_);obtain ⟨g,i,j⟩:=zq;cases d with
 | true=>exact ha e f Y g Q i j
 | false=>exact hb e f Y g Q i j
end
def SqL(K:W.Frag)(H:Hp)(a:Addr)(xs:List V):Prop :=
 Rd H a (.lst xs) \/
  ∃o b n,K.lookup a=some o/\o.cls=.type "list"/\o.dict=none/\o.data=.seq b n/\b.size<=sizeLine/\Vals xs b.toList
def SqT(K:W.Frag)(H:Hp)(a:Addr)(xs:List V):Prop :=
 Rd H a (.tup xs) \/
  ∃o b n,K.lookup a=some o/\o.cls=.type "tuple"/\o.data=.seq b n/\b.size<=sizeLine/\Vals xs b.toList
def absV:Value->Option V
 | .none=>some .non
 | .bool b=>some (.bl b)
 | .int i _=>some (.int i)
 | .str x _=>some (.str x)
 | .ref a=>some (.ref a)
 | .type n=>some (.ty n)
 | _=>none
def RelV.abs(r:RelV x u):absV u=some x:=by
 cases x with
 | non=>cases r;rfl
 | bl _=>cases r;rfl
 | int _=>obtain ⟨t,rfl⟩:=r;rfl
 | str _=>obtain ⟨t,rfl⟩:=r;rfl
 | ref _=>cases r;rfl
 | ty _=>cases r;rfl
def RelV.inj(r:RelV x u)(q:RelV y u):x=y:=Vaa (r.abs.symm.trans q.abs)
def Vals.inj:∀{xs ys:List V} {us:List Value},Vals xs us->Vals ys us->xs=ys
 | _,_,_,.nil,.nil=>rfl
 | _,_,_,.cons r t,.cons r' t'=>by rw [r.inj r',Vals.inj t t']
section
variable{X:Cx}{pins:List (Addr×Obj)}{Y:St}{H:Hp}{s:Shared}{a:Addr}{xs ys:List V}
def SqL.of{K:W.Frag}(h:H a=some (.lst xs)):SqL K H a xs:=.inl (.inl h)
def SqT.of{K:W.Frag}(h:H a=some (.tup xs)):SqT K H a xs:=.inl (.inl h)
def Inv.list(I:Inv X pins Y H s)(h:SqL X.K H a xs):∃its,Vals xs its/\PlainL s.heap a its.toArray/\xs.length<=sizeLine:=by
 rcases h with h | ⟨o,its,n,hk,hc,hd,hs,hz,r⟩
 .obtain ⟨z,its,n,r,e⟩:=h.ok I.hok;exact ⟨its,r,⟨_,n,e,rfl,rfl,rfl⟩,z⟩
 .refine ⟨its.toList,r,⟨o,n,I.kIn a o hk,hc,hd,by simpa using hs⟩,?_⟩;have e:=r.length;simp only [Vav] at e;omega
def Inv.tuple(I:Inv X pins Y H s)(h:SqT X.K H a xs):∃its,Vals xs its/\IsTup s.heap a its.toArray/\xs.length<=sizeLine:=by
 rcases h with h | ⟨o,its,n,hk,hc,hs,hz,r⟩
 .obtain ⟨z,its,r,p⟩:=h.ok I.hok;exact ⟨its,r,p,z⟩
 .refine ⟨its.toList,r,⟨o,I.kIn a o hk,hc,n,by simpa using hs⟩,?_⟩;have e:=r.length;simp only [Vav] at e;omega
def Inv.list_inj(I:Inv X pins Y H s)(h:SqL X.K H a xs)(h':SqL X.K H a ys):xs=ys:=by
 obtain ⟨c,r,⟨o,n,e,_,_,d⟩,_⟩:=I.list h;obtain ⟨b,i,⟨j,k,f,_,_,g⟩,_⟩:=I.list h';rw [e] at f;cases f;rw [d] at g;injection g with d1 _
 have:c=b:=by simpa using Vaw Array.toList d1
 subst this;exact r.inj i
def Inv.tuple_inj(I:Inv X pins Y H s)(h:SqT X.K H a xs)(h':SqT X.K H a ys):xs=ys:=by
 obtain ⟨c,r,⟨o,e,_,n,d⟩,_⟩:=I.tuple h;obtain ⟨b,i,⟨j,f,_,k,g⟩,_⟩:=I.tuple h';rw [e] at f;cases f;rw [d] at g;injection g with d1 _
 have:c=b:=by simpa using Vaw Array.toList d1
 subst this;exact r.inj i
end
abbrev Cx.wish(X:Cx)(E:Value->Shared->Prop):Cx:={ X with xe:=E }
abbrev Cx.nox(X:Cx):Cx:=X.wish λ_ _=>False
def Cx.Ok.wish{X:Cx}(ok:X.Ok)(E):(X.wish E).Ok :=
 ⟨ok.mod,ok.kind,ok.glob,ok.blt,ok.above,ok.inj,ok.has,ok.cab,ok.hd,ok.frames,ok.stk,ok.exf,ok.bs,ok.bsz,ok.noex,ok.exfs,ok.funs,ok.frf⟩
def Cx.Ok.unwish{X:Cx}(ok:(X.wish E).Ok):X.Ok :=
 ⟨ok.mod,ok.kind,ok.glob,ok.blt,ok.above,ok.inj,ok.has,ok.cab,ok.hd,ok.frames,ok.stk,ok.exf,ok.bs,ok.bsz,ok.noex,ok.exfs,ok.funs,ok.frf⟩
section
variable{X:Cx}{pins:List (Addr×Obj)}{Y:St}{H:Hp}{s:Shared}{E:Value->Shared->Prop}
def Inv.wish(I:Inv X pins Y H s)(E):Inv (X.wish E) pins Y H s:=⟨I.ok.wish E,I.os,I.bare,I.base,I.loc,I.cell,I.free,I.freeC,I.pin,I.hok,I.len⟩
def Inv.unwish(I:Inv (X.wish E) pins Y H s):Inv X pins Y H s:=⟨I.ok.unwish,I.os,I.bare,I.base,I.loc,I.cell,I.free,I.freeC,I.pin,I.hok,I.len⟩
end
section
variable{X:Cx}{st:Stmt}{rest:List Stmt}{t u:TS}{e:Expr}{te:TE}{pos:Pos}
def Zlk:TS:=λD Y H=>D.nx Y H
def tSeq(t u:TS):TS:=λD Y H=>t { D with nx:=u D } Y H
def Zjq:PSs X [] Zlk:=λ_ _ Y H _ I h=>wpAny_execs_nil ⟨Y,H,I,h⟩
def ZbK(h1:PS X st t)(h2:PSs X rest u):PSs X (st::rest) (tSeq t u):=by
 intro a s Y H D I h;refine wpAny_execs_cons (thn (h1 a s Y H { D with nx:=u D } I h) λf c q=>?_)
 cases f with
 | next=>
  obtain ⟨b,e,d,q⟩:=q;exact h2 a c b e D d q
 | ret v=>exact q
 | brk=>exact q
 | cont=>exact q
def Zgs(h1:PS X st t):PSs X [st] t:=by
 intro a s Y H D I h;refine wpAny_execs_cons (thn (h1 a s Y H D I h) λf b q=>?_);cases f with
 | next=>exact wpAny_execs_nil q
 | ret v=>exact q
 | brk=>exact q
 | cont=>exact q
def Zsf:TS:=λD Y H=>D.ct Y H
def Zjg:PS X (.Continue pos) Zsf:=λ_ _ Y H _ I h=>wpAny_Continue ⟨Y,H,I,h⟩
def Inv.quiet(I:Inv X pins Y H s):interactive X.env=false:=by simp [interactive,I.ok.kind]
def ZcU(te:TE):TS:=λD Y H=>te Y H λ_ a=>D.nx Y a
def Zdz(he:PE X e te)(hs:swapsWith e none pos.line X.env=pure false:=by rfl):PS X (.Expr e pos) (ZcU te):=by
 intro a s Y H D I h;exact wpAny_Expr_any (thn (he a s Y H _ I h) λv f zq=>by obtain ⟨x,b,c,g,d⟩:=zq;exact ⟨Y,b,c,d⟩) I.quiet hs
def tRet(te:TE):TS:=λD Y H=>te Y H D.rt
def Zp1(he:PE X e te):PS X (.Return (some e) pos) (tRet te):=by
 intro a s Y H D I h;exact wpAny_Return_some (thn (he a s Y H _ I h) λv g zq=>by obtain ⟨x,c,d,b,f⟩:=zq;exact ⟨x,Y,c,d,b,f⟩)
def tIfS(c:TT)(t u:TS):TS:=λD Y H=>c Y H λb a=>if b=true then t D Y a else u D Y a
def ZqA(hc:PT X c tc)(ha:PSs X a t)(hb:PSs X b u):PS X (.If c a b pos) (tIfS tc t u):=by
 intro e s Y H D I h;refine wpAny_If (thn (hc e s Y H _ I h) λd f zq=>?_);obtain ⟨g,i,j⟩:=zq;cases d with
 | true=>exact ha e f Y g D i j
 | false=>exact hb e f Y g D i j
end
abbrev TG:=V->St->Hp->(St->Hp->Prop)->Prop
abbrev TGs:=List V->St->Hp->(St->Hp->Prop)->Prop
def PG(X:Cx)(target:Expr)(t:TG):Prop :=
 ∀a s Y H v u Q,Inv X a Y H s->RelV v u->t v Y H Q ->
  wX X (assign target X.env u) (λ_ d=>∃b c,Inv X a b c d/\Q b c) X.xe s
def PGs(X:Cx)(ts:List Expr)(t:TGs):Prop :=
 ∀a s Y H e c Q,Inv X a Y H s->Vals e c->t e Y H Q ->
  wX X (assignInOrder ((assignEach ts X.env).map (·.2)) c) (λ_ f=>∃b d,Inv X a b d f/\Q b d) X.xe s
section
variable{X:Cx}{pos:Pos}
def Zfc(i:Nat):TG:=λv Y H Q=>Q (Y.set i (some v)) H
def Znt(hN:X.N.Nodup)(hi:X.N[i]?=some x)(hx:Loc X.env.scope x)(hf:X.fn x=true\/X.env.scope.names.lookup x=some .local:=by first | exact .inl rfl | exact .inr rfl | assumption):PG X (.Name x pos) (Zfc i):=by
 intro a s Y H v u Q I r h;exact wpAny_assign_Name (ZeO I hN hi hx r (λc b=>⟨_,H,b,h⟩) hf)
def gNil:TGs:=λa Y H Q=>a=[]/\Q Y H
def Zr7(t:TG)(u:TGs):TGs:=λc Y H Q=>∃v r,c=v::r/\t v Y H λa b=>u r a b Q
def Zsh:PGs X [] gNil:=by
 intro a s Y H c b Q I r h;obtain ⟨e,h⟩:=h;subst e;cases r;exact assignInOrder_nil ⟨Y,H,I,h⟩
def Zog(h1:PG X e t)(h2:PGs X es u)(hs:(assignEach (e::es) X.env).map (·.2)=assign e X.env::(assignEach es X.env).map (·.2):=by rfl):PGs X (e::es) (Zr7 t u):=by
 intro a s Y H l k Q I r h;obtain ⟨v,j,i,h⟩:=h;subst i;cases r with
 | cons r rr=>
  rw [hs];refine assignInOrder_cons (thn (h1 a s Y H _ _ _ I r h) λ_ d zq=>?_);obtain ⟨c,f,b,g⟩:=zq;exact h2 a d c f _ _ Q b rr g
def gTup(K:W.Frag)(n:Nat)(t:TGs):TG:=λv Y H Q=>∃a b,v=.ref a/\SqT K H a b/\b.length=n/\t b Y H Q
def Ztr(hc:X.calm=true)(h:PGs X es t)(hn:(assignEach es X.env).length=n:=by rfl)(hst:(assignEach es X.env).findIdx? (·.1)=none:=by rfl):PG X (.Tuple es k pos) (gTup X.K n t):=by
 intro c s Y H v u Q I r d;obtain ⟨a,m,w,l,g,d⟩:=d;subst w;cases r;obtain ⟨p,f,q,x⟩:=I.tuple l;refine assign_Tuple_tuple (I.ok.hd hc) q (by simp [hn,<-g,f.length]) hst λy i=>?_;have j:=I.kept (t':=s.toks) λb o e=>i b o (Vah (Vae e)) e;exact h c _ Y H m _ Q j (by simpa using f) d
def tAsg(te:TE)(g:TG):TS:=λD Y H=>te Y H λx a=>g x Y a D.nx
def ZuD(he:PE X e te)(hg:PG X tg g)(hs:swapsWithSole [tg] e pos.line X.env=pure false:=by rfl)(hw:swappedStores [tg] e X.env=pure none:=by rfl)(h1:(assignEach [tg] X.env).map (·.2)=[assign tg X.env]:=by rfl):PS X (.Assign [tg] e pos) (tAsg te g):=by
 intro a s Y H D I h;refine wpAny_Assign_stores (thn (he a s Y H _ I h) λv b zq=>?_) hs hw;obtain ⟨x,d,f,c,i⟩:=zq;rw [h1];exact thn (hg a b Y d x v _ f c i) λ_ j q=>q
def ZkA(hN:X.N.Nodup)(hi:X.N[i]?=some x)(hx:Loc X.env.scope x)(he:PE X e te)(hs:swapsWith e (some (.Name x pos')) pos.line X.env=pure false:=by rfl)(hf:X.fn x=true\/X.env.scope.names.lookup x=some .local:=by first | exact .inl rfl | exact .inr rfl | assumption) :
  PS X (.Assign [.Name x pos'] e pos) (tAsg te (Zfc i)):=by
 intro a s Y H D I h;refine wpAny_Assign_Name (thn (he a s Y H _ I h) λv j zq=>?_) hs;obtain ⟨y,c,f,b,g⟩:=zq;exact ZeO f hN hi hx b (λk d=>⟨_,c,d,g⟩) hf
def tPar(i j:Nat)(ta:TA):TS:=λD Y H=>ta Y H λb a=>∃v w,b=[v,w]/\D.nx ((Y.set i (some v)).set j (some w)) a
def Zs5{kt k2 pt2}(hc:X.calm=true)(hN:X.N.Nodup)(hi:X.N[i]?=some x)(hj:X.N[j]?=some y)(hij:i≠j)(hx:X.env.scope.names.lookup x=some .local)(hy:X.env.scope.names.lookup y=some .local)(ha:PA X [a,b] ta)(hw:swappedStores [.Tuple [.Name x px,.Name y py] kt pt] (.Tuple [a,b] k2 pt2) X.env=pure (some [x,y]))(hs:swapsWithSole [.Tuple [.Name x px,.Name y py] kt pt] (.Tuple [a,b] k2 pt2) pos.line X.env=pure false:=by rfl) :
  PS X (.Assign [.Tuple [.Name x px,.Name y py] kt pt] (.Tuple [a,b] k2 pt2) pos) (tPar i j ta):=by
 intro c s Y H D I h;rw [exec_Assign_arm];refine Vax (wpAny_standAt ?_);rw [hs];refine Vax (Vay ?_);rw [iN (by decide)];refine Vax (Tuple_ (thn (ha _ c s Y H _ I h) λt g zq=>?_));obtain ⟨L,r,u,B,m⟩:=zq;obtain ⟨v,w,F,m⟩:=m;subst F;obtain ⟨f,d,rfl,z,k⟩ : ∃f d,t=[f,d]/\RelV v f/\RelV w d:=by
  cases B with
  | cons p q=>
   cases q with
   | cons p' q'=>
    cases q';exact ⟨_,_,rfl,p,p'⟩
 refine Vaz ?_ (by show 2<=sizeLine;decide);have C:Inv X c Y r { g with heap:=g.heap.push { cls:=.type "tuple",data:=.seq [f,d].toArray } }:=u.kept λb o e=>VaA _ e
 rw [hw];refine Vax (Vay ?_);refine Vax (wpAny_rule (Vax (unpackItems_tuple (items:=#[f,d]) (I.ok.hd hc) (IsTup.new g.heap _) λJ l=>?_)));have E:=C.kept (t':=g.toks) λb o e=>l b o (Vah (Vae e)) e;refine Vax (assignInOrder_cons (wpAny_bindName (ZeO E hN hj (.inl hy) k (λK A=>?_) (.inr hy))));refine assignInOrder_cons (wpAny_bindName (ZeO A hN hi (.inl hx) z (λG n=>assignInOrder_nil (Vay ?_)) (.inr hx)));rw [List.set_comm _ _ (Ne.symm hij)] at n;exact ⟨_,r,n,m⟩
end
section
variable{X:Cx}{pos:Pos}
def Zki(c:TT)(tb:TS):TS:=λD Y H=>∃W:Nat->St->Hp->Prop,(∃m,W m Y H)/\∀m Y H,W m Y H ->
 c Y H λb d=>if b=true then ∃N:St->Hp->Prop,(∀a f,N a f->∃e,e<m/\W e a f)/\tb { D with nx:=N,ct:=N,bk:=D.nx } Y d else D.nx Y d
def ZnV(hp:PassesOwn (model X.prog X.w) X.A X.env X.xe)(hc:PT X c tc)(hb:PSs X body tb):PS X (.While c body [] pos) (Zki tc tb):=by
 intro a s Y H D I h;obtain ⟨W,⟨K,F⟩,d⟩:=h;refine wpAny_While (codeAny_whileLoop (λn J=>∃x z,Inv X a x z J/\W n x z) ?_ K ⟨Y,H,I,F⟩);rintro n E ⟨j,r,C,B⟩;refine VaB hp (thn (hc a E j r _ C (d n j r B)) λb G zq=>?_);obtain ⟨t,y,k⟩:=zq;cases b with
 | true=>
  obtain ⟨N,u,k⟩:=k;rw [iP rfl];refine VaB hp (thn (hb a G j t _ y k) λf L i=>?_);cases f with
  | next=>
   obtain ⟨e,g,m,o⟩:=i;obtain ⟨q,l,p⟩:=u e g o;exact ⟨q,l,e,g,m,p⟩
  | cont=>
   obtain ⟨e,g,m,o⟩:=i;obtain ⟨q,l,p⟩:=u e g o;exact ⟨q,l,e,g,m,p⟩
  | brk=>exact i
  | ret v=>exact i
 | false=>
  rw [iN VaC];exact wpAny_execs_nil ⟨j,t,y,k⟩
end
structure It where
 go:Nat->Hp->Prop
 yld:Nat->Hp->V->Hp->Prop
 stop:Nat->Hp->Prop
def FpOk(X:Cx)(pins:List (Addr×Obj))(H:Hp)(b:Addr):Prop :=
 H b=none/\b≠X.env.locals/\b∉X.fs/\(b∈X.ex\/X.s₀.heap.objs.size<=b)/\(∀x c,X.env.cells.lookup x=some c->c≠b)/\∀p∈X.pn++pins,p.1≠b
def Inv.fpOk(I:Inv X pins Y H s)(hb:s.heap.objs.size<=b)(hn:H' b=none):FpOk X pins H' b:=by
 refine ⟨hn,VaD (Vaf I.lt hb),I.nofs hb,.inr (Vak I.sz hb),λx c e z=>?_,λp a z=>?_⟩
 .obtain ⟨v,q⟩:=I.cell x c e;exact aB (Vaf q.lt (by rw [z];exact hb)) (Vag _)
 .exact aB (Vaf (Vae (I.pin p a).1) (by rw [z];exact hb)) (Vag _)
structure Turn(P:Program)(w:World)(K:W.Frag)(tg:Expr)(J:It)(fp:List Addr)(it:Addr)(tn:Nat->Heap->Prop):Prop where
 mem:it∈fp
 obj:∀i h,tn i h->∀b∈fp,∃o,h.get? b=some o/\∀v,o.data≠.cell v
 keep:∀i h h',tn i h->(∀b∈fp,∀o,h.get? b=some o->h'.get? b=some o)->tn i h'
 item:∀(X:Cx),X.prog=P->X.w=w->X.K=K->X.calm=true->∀(i:Nat) (pins:List (Addr×Obj)) (s:Shared) (Y:St) (H:Hp) (E:Value->Shared->Prop),Inv X pins Y H s->(∀b∈fp,FpOk X pins H b)->tn i s.heap->J.go i H ->
  wpAny (model P w) X.A (pyNext (.ref it)) (λr s1=>∃u,r=some u /\
   wpAny (model P w) X.A (letOwnedTupleGo tg (.ref it) u) (λ_ s2=>∃x H',Inv X pins Y H' s2/\RelV x u/\J.yld i H x H'/\tn (i+1) s2.heap/\∀b∈fp,H' b=none) E s1) E s
 done:∀(X:Cx),X.prog=P->X.w=w->X.K=K->X.calm=true->∀(i:Nat) (pins:List (Addr×Obj)) (s:Shared) (Y:St) (H:Hp) (E:Value->Shared->Prop),Inv X pins Y H s->(∀b∈fp,FpOk X pins H b)->tn i s.heap->J.stop i H ->
  wpAny (model P w) X.A (pyNext (.ref it)) (λr s1=>r=none/\Inv X pins Y H s1) E s
 self:∀(A:Around) (i:Nat) (s:Shared) (Q:Value->Shared->Prop) (E:Value->Shared->Prop),tn i s.heap->Q (.ref it) s->wpAny (model P w) A (pyIter (.ref it)) Q E s
abbrev TI:=St->Hp->(It->Hp->Prop)->Prop
def PIE(X:Cx)(pins:List (Addr×Obj))(Y:St)(tg:Expr)(R:It->Hp->Prop)(itv:Value)(s2:Shared):Prop :=
 ∃e c d J a,itv=.ref e/\Inv X pins Y a s2/\Turn X.prog X.w X.K tg J c e d/\d 0 s2.heap/\(∀b∈c,FpOk X pins a b)/\R J a
def PI(X:Cx)(tg iter:Expr)(wi:TI):Prop :=
 ∀a s Y H R,Inv X a Y H s->wi Y H R ->
  wX X (eval iter X.env) (λv b=>wX X (pyIter v) (PIE X a Y tg R) X.xe b) X.xe s
def ZnN(ho:s.heap.get? it=some o)(hc:o.cls=.type n)(hd:o.data=.fields vs)(hn:["enumerate","zip","dict_itemiterator","dict_reverseitemiterator","odict_iterator","itertools.zip_longest","itertools.pairwise"].contains n=false)(hQ:Q () s):wpAny M A (letOwnedTupleGo tg (.ref it) u) Q E s:=by
 unfold letOwnedTupleGo;cases tg<;>first
  | exact Vay hQ
  | (cases u<;>first
    | exact Vay hQ
    | (refine Vax (wpAny_load ho ?_)
       rw [hc,hd];show wpAny M A (if (["enumerate","zip","dict_itemiterator","dict_reverseitemiterator","odict_iterator","itertools.zip_longest","itertools.pairwise"].contains n&&vs[0]?==some (rawInt _))=true then _ else _) Q E s
       rw [iN (by intro h;rw [hn,Bool.false_and] at h;cases h)]
       exact Vay hQ))
def Itl(K:W.Frag)(a:Addr):It :=
 ⟨λi H=>∃b x,SqL K H a b/\b[i]?=some x,λi H x c=>c=H/\∀b,SqL K H a b->b[i]?=some x,λi H=>∃b,SqL K H a b/\b.length<=i⟩
def Itt(K:W.Frag)(a:Addr):It :=
 ⟨λi H=>∃b x,SqT K H a b/\b[i]?=some x,λi H x c=>c=H/\∀b,SqT K H a b->b[i]?=some x,λi H=>∃b,SqT K H a b/\b.length<=i⟩
def Itr(lo:Int)(n:Nat):It:=⟨λi _=>i<n,λi H x a=>a=H/\x=.int (lo+i),λi _=>n<=i⟩
def Zmf{P:Program}{w:World}{K:W.Frag}{tg:Expr}(a it):Turn P w K tg (Itl K a) [it] it (λi h=>h.IsListIter it a i) where
 mem:=by simp
 obj:=λi h f b g=>by
  have e:b=it:=by simpa using g
  subst e;obtain ⟨o,e,c,d⟩:=f;exact ⟨o,e,λv z=>by rw [d] at z;cases z⟩
 keep:=λi h N f k=>f.at λo e=>k it (by simp) o e
 item:=by
  intro X A G t M i j s Y H E I n f D;subst A G t;obtain ⟨Z,x,m,C⟩:=D;obtain ⟨L,r,p,hz⟩:=I.list m;obtain ⟨u,R,O⟩:=r.get C;obtain ⟨y,J,V,B,q,F⟩:=n it (by simp);refine wpAny_pyNext_list_item f p.isList (by simpa using R) λN l U=>?_;have Q:=I.turned (t':=s.toks) (λb o g e=>(U.2 b g).trans e) y J B q F;obtain ⟨o,e,c,d⟩:=id l;exact ⟨u,rfl,ZnN e c d (by decide) ⟨x,H,Q,O,⟨rfl,λys T=>by rw [I.list_inj T m];exact C⟩,l,λb g=>(n b g).1⟩⟩
 done:=by
  intro X A G t M i j s Y H E I n f D;subst A G t;obtain ⟨Z,m,C⟩:=D;obtain ⟨L,r,p,hz⟩:=I.list m;obtain ⟨y,J,V,B,q,F⟩:=n it (by simp);have hl:=r.length;exact wpAny_pyNext_list_end (I.ok.hd M) f p.isList (by simp;omega) λN S=>⟨rfl,I.turned (λb o g e=>S b o g e) y J B q F⟩
 self:=λ_ _ _ _ _ f h=>wpAny_pyIter_listiter f h
def ZkR{P:Program}{w:World}{K:W.Frag}{tg:Expr}(a it):Turn P w K tg (Itt K a) [it] it (λi h=>h.IsTupleIter it a i) where
 mem:=by simp
 obj:=λi h f b g=>by
  have e:b=it:=by simpa using g
  subst e;obtain ⟨o,e,c,d⟩:=f;exact ⟨o,e,λv z=>by rw [d] at z;cases z⟩
 keep:=λi h N f k=>f.at λo e=>k it (by simp) o e
 item:=by
  intro X A G t M i j s Y H E I n f D;subst A G t;obtain ⟨Z,x,m,C⟩:=D;obtain ⟨L,r,p,hz⟩:=I.tuple m;obtain ⟨u,R,O⟩:=r.get C;obtain ⟨y,J,V,B,q,F⟩:=n it (by simp);refine wpAny_pyNext_tuple_item f (p) (by simpa using R) λN l U=>?_;have Q:=I.turned (t':=s.toks) (λb o g e=>(U.2 b g).trans e) y J B q F;obtain ⟨o,e,c,d⟩:=id l;exact ⟨u,rfl,ZnN e c d (by decide) ⟨x,H,Q,O,⟨rfl,λys T=>by rw [I.tuple_inj T m];exact C⟩,l,λb g=>(n b g).1⟩⟩
 done:=by
  intro X A G t M i j s Y H E I n f D;subst A G t;obtain ⟨Z,m,C⟩:=D;obtain ⟨L,r,p,hz⟩:=I.tuple m;obtain ⟨y,J,V,B,q,F⟩:=n it (by simp);have hl:=r.length;exact wpAny_pyNext_tuple_end (I.ok.hd M) f (p) (by simp;omega) λN S=>⟨rfl,I.turned (λb o g e=>S b o g e) y J B q F⟩
 self:=λ_ _ _ _ _ f h=>wpAny_pyIter_tupleiter f h
def ZkP{P:Program}{w:World}{K:W.Frag}{tg:Expr}(it)(lo)(n):Turn P w K tg (Itr lo n) [it] it (λi h=>IsRangeIter h it (lo+(i:Nat)*1) ((n:Int) - (i:Nat)) 1) where
 mem:=by simp
 obj:=λi h a b d=>by
  have e:b=it:=by simpa using d
  subst e
  exact ⟨_,a,λv z=>by
   have C:Data.fields _=Data.cell v:=z
   cases C⟩
 keep:=λi h x a k=>k it (by simp) _ a
 item:=by
  intro X q A m l i c s Y H E I g a u;subst q A m;obtain ⟨p,B,J,r,j,y⟩:=g it (by simp);have W:=Walks.range (prog:=X.prog) (w:=X.w) (I.ok.hd l) it lo 1 n;refine W.item i s _ _ u a λv x L F f M=>?_;obtain ⟨t,rfl⟩:=F;have D:Inv X c Y H { s with heap:=x,toks:=L }:=I.turned (λb o d e=>M b o (by simpa using d) e) p B r j y
  refine ⟨_,rfl,ZnN f rfl rfl (by decide) ⟨.int (lo+i),H,D,⟨t,?_⟩,⟨rfl,rfl⟩,f,λb d=>(g b d).1⟩⟩;rw [Int.mul_one]
 done:=by
  intro X q A m l i c s Y H E I g a u;subst q A m;obtain ⟨p,B,J,r,j,y⟩:=g it (by simp);exact wpAny_pyNext_range_end (I.ok.hd l) a (by have:n<=i:=u;omega) λx G=>⟨rfl,I.turned (λb o d e=>G b o d e) p B r j y⟩
 self:=λ_ _ _ _ _ a h=>wpAny_pyIter_rangeiter a h
section
variable{X:Cx}{tg:Expr}
def Zkv{pins:List (Addr×Obj)}{Y:St}{H:Hp}{s:Shared}{R:It->Hp->Prop}{E:Value->Shared->Prop}{lo hi:Int}{t u v:Tok}{tk:Nat}(I:Inv X pins Y H s)(h1:-(2^62)<=lo)(h2:lo<2^62)(h3:-(2^62)<=hi)(h4:hi<2^62)(q:R (Itr lo (hi - lo).toNat) H):wX X (pyIter (.ref s.heap.objs.size)) (PIE X pins Y tg R) E { s with heap:=s.heap.push { cls:=.type "range",data:=.fields #[.int lo t,.int hi u,.int 1 v] },toks:=tk }:=by
 refine wpAny_pyIter_range (IsRange.new ..) (small_one h1 h2 h3 h4) ?_;have a:Inv X pins Y H { s with heap:=s.heap.push { cls:=.type "range",data:=.fields #[.int lo t,.int hi u,.int 1 v] },toks:=tk }:=I.kept λb o e=>VaA _ e
 refine ⟨(s.heap.push { cls:=.type "range",data:=.fields #[.int lo t,.int hi u,.int 1 v] }).objs.size,[(s.heap.push { cls:=.type "range",data:=.fields #[.int lo t,.int hi u,.int 1 v] }).objs.size],_,_,H,rfl,
  a.kept λb o e=>VaA _ e,ZkP _ lo (hi - lo).toNat,?_,λb d=>?_,q⟩
 .have f:lo+((0:Nat):Int)*1=lo:=by simp
  have c:(((hi - lo).toNat:Nat):Int) - ((0:Nat):Int)=Builtin.Range.rangeSize lo hi 1:=by rw [rangeSize_one];split<;>omega
  rw [f,c];exact VaE _ rfl
 .have e:b=(s.heap.push { cls:=.type "range",data:=.fields #[.int lo t,.int hi u,.int 1 v] }).objs.size:=by simpa using d
  subst e;exact a.fpOk (VaF _) (a.hok.fresh (VaF _))
def ZqV(ta:TA):TI:=λY H R=>ta Y H λb a=>∃j,b=[.int j]/\-(2^62)<=j/\j<2^62/\R (Itr 0 j.toNat) a
def Zsa(ta:TA):TI:=λY H R=>ta Y H λb a=>∃i j,b=[.int i,.int j]/\(-(2^62)<=i/\i<2^62/\-(2^62)<=j/\j<2^62)/\R (Itr i (j - i).toNat) a
def Znc{a:Expr}{ta:TA}{p pos:Pos}(hg:Gl X "range")(hm:X.mg "range"=none)(ha:PA X [a] ta)(hs:starEach [a] X.env=[(false,eval a X.env)]:=by rfl):PI X tg (.Call (.Name "range" p) [a] [] pos) (ZqV ta):=by
 intro b s Y H R I h;refine Call_ (Zfr I hg hm boot_range (VaG (thn (ha pos b s Y H _ I h) λi k zq=>?_) hs rfl));obtain ⟨m,l,d,f,c⟩:=zq;obtain ⟨j,e,c,g,q⟩:=c;subst e;cases f with
 | cons r rr=>
  cases rr;obtain ⟨t,rfl⟩:=r;exact call_range_1 (Zkv d (by omega) (by omega) c g (by simpa using q))
def ZmS(hg:Gl X "range")(hm:X.mg "range"=none)(ha:PA X [a,b] ta)(hs:starEach [a,b] X.env=[(false,eval a X.env),(false,eval b X.env)]:=by rfl)(hs2:starEach [b] X.env=[(false,eval b X.env)]:=by rfl) :
  PI X tg (.Call (.Name "range" p) [a,b] [] pos) (Zsa ta):=by
 intro c s Y H R I h;refine Call_ (Zfr I hg hm boot_range (VaG (thn (ha pos c s Y H _ I h) λn o zq=>?_) (by rw [hs,hs2]) (by rw [hs2];rfl)));obtain ⟨w,u,g,l,d⟩:=zq;obtain ⟨i,j,e,⟨d,m,k,f⟩,q⟩:=d;subst e;cases l with
 | cons r rr=>
  cases rr with
  | cons r' rr=>
   cases rr;obtain ⟨t,rfl⟩:=r;obtain ⟨v,rfl⟩:=r';exact call_range_2 (Zkv g d m k f q)
def tFor(wi:TI)(g:TG)(tb:TS):TS:=λD Y H=>wi Y H λJ e=>∃W:Nat->Nat->St->Hp->Prop,(∃m,W 0 m Y e)/\∀i m Y H,W i m Y H ->
 (J.stop i H/\D.nx Y H)\/(J.go i H/\∃N:St->Hp->Prop,(∀b a,N b a->∃c,c<m/\W (i+1) c b a)/\∀x a,J.yld i H x a->g x Y a λf d=>tb { D with nx:=N,ct:=N,bk:=D.nx } f d)
def ZjM(fp:List Addr)(h:Heap):List (Addr×Obj):=fp.filterMap λb=>(h.get? b).map λo=>(b,o)
def Zce(hb:b∈fp)(e:h.get? b=some o):(b,o)∈ZjM fp h:=VaH.mpr ⟨b,hb,by rw [e];rfl⟩
def ZlU(hp:p∈ZjM fp h):p.1∈fp/\h.get? p.1=some p.2:=by
 obtain ⟨b,c,e⟩:=VaH.mp hp;cases q:h.get? b with
 | none=>rw [q] at e;cases e
 | some o=>
  rw [q] at e;have a:=Vaa e;subst a;exact ⟨c,q⟩
def Inv.pinned(I:Inv X pins Y H s)(hf:∀b∈fp,FpOk X pins H b)(ho:∀b∈fp,∃o,s.heap.get? b=some o/\∀v,o.data≠.cell v):Inv X (pins++ZjM fp s.heap) Y H s :=
 I.pins_of λp h=>(Var.mp h).elim (λz=>I.pin p (VaI _ z)) λz=>by
  obtain ⟨c,e⟩:=ZlU z;obtain ⟨f,g,i,_⟩:=hf p.1 c;obtain ⟨o,a,d⟩:=ho p.1 c;rw [e] at a;cases a;exact ⟨e,f,g,i,d⟩
def Inv.unpinned(I:Inv X (pins++pl) Y H s):Inv X pins Y H s:=I.pins_of λp a=>I.pin p (VaI _ (Vas _ a))
def ZpS(hp:PassesOwn (model X.prog X.w) X.A X.env X.xe)(hc:X.calm=true)(hi:PI X tg iter wi)(hg:PG X tg g)(hb:PSs X body tb)(hs:∀x,foldedSetIterable iter X.env x=pure x:=by intro _;rfl):PS X (.For tg iter body [] pos) (tFor wi g tb):=by
 intro a s Y H D I h;refine wpAny_For (thn (hi a s Y H _ I h) λv s1 h1=>thn h1 λitv s2 h2=>?_) hs;obtain ⟨it,K,Z,J,H2,e,I2,T,Q,f2,W,⟨m0,w0⟩,z⟩:=h2;subst e;have p:∀{q:Hp},(∀b∈K,q b=none)->∀b∈K,FpOk X a q b:=λhn b hb=>⟨hn b hb,(f2 b hb).2⟩;refine codeAny_forLoop_any (λn U=>∃i C q,Inv X a C q U/\Z i U.heap/\(∀b∈K,q b=none)/\W i n C q) ?_ m0 ⟨0,Y,H2,I2,Q,λb hb=>(f2 b hb).1,w0⟩;rintro n S ⟨i,E,L,I3,G,B,w3⟩;rcases z i n E L w3 with ⟨stop,qn⟩ | ⟨go,N,hN,step⟩
 .refine VaB hp (thn (T.done X rfl rfl rfl hc i a S E L X.xe I3 (p B) G stop) λr s4 ⟨M,I4⟩=>?_);subst M;exact wpAny_execs_nil ⟨E,L,I4,qn⟩
 .refine VaB hp (thn (T.item X rfl rfl rfl hc i a S E L X.xe I3 (p B) G go) λr s4 zq=>?_);obtain ⟨u,M,h4⟩:=zq;subst M;refine VaB hp (thn h4 λ_ V zq=>?_);obtain ⟨x,H5,I5,r5,y5,y,P⟩:=zq;have O:=I5.pinned (p P) (T.obj _ _ y);refine VaB hp (thn (hg _ V E H5 x u _ O r5 (step x H5 y5)) λ_ s6 zq=>?_);obtain ⟨Y6,H6,I6,q6⟩:=zq;refine VaB hp (thn (hb _ s6 Y6 H6 _ I6 q6) λf R t=>?_);have c:∀{k:St} {j:Hp},Inv X (a++ZjM K V.heap) k j R->N k j->∃m,m<n/\∃i C q,Inv X a C q R/\Z i R.heap/\(∀b∈K,q b=none)/\W i m C q:=λ{k j} l F=>by
   obtain ⟨m',hm,w7⟩:=hN k j F;refine ⟨m',hm,i+1,k,j,l.unpinned,T.keep _ _ _ y λb hb o e=>(l.pin (b,o) (VaI _ (VaI _ (Zce hb e)))).1,λb hb=>?_,w7⟩;obtain ⟨o,e,d⟩:=T.obj _ _ y b hb;exact (l.pin (b,o) (VaI _ (VaI _ (Zce hb e)))).2.1
  cases f with
  | next=>obtain ⟨k,j,l,F⟩:=t;exact c l F
  | cont=>obtain ⟨k,j,l,F⟩:=t;exact c l F
  | brk=>obtain ⟨k,j,l,t⟩:=t;exact ⟨k,j,l.unpinned,t⟩
  | ret v=>obtain ⟨x7,k,j,l,r7,t⟩:=t;exact ⟨x7,k,j,l.unpinned,r7,t⟩
end
abbrev R2:=V->V->Hp->VK->Prop
def OpR(X:Cx)(f:Value->Value->Sem Value)(r:R2):Prop :=
 ∀a s Y H x y v u Q,Inv X a Y H s->RelV x v->RelV y u->r x y H Q ->
  wX X (f v u) (EP X a Y Q) X.xe s
def UnR(X:Cx)(f:Value->Sem Value)(r:V->Hp->VK->Prop):Prop :=
 ∀a s Y H x v Q,Inv X a Y H s->RelV x v->r x H Q ->
  wX X (f v) (EP X a Y Q) X.xe s
def Zef(X:Cx)(f:Value)(r:List V->Hp->VK->Prop):Prop :=
 ∀a s Y H b c Q,Inv X a Y H s->Vals b c->r b H Q ->
  wX X (call f c) (EP X a Y Q) X.xe s
def tOp(r:R2)(ta tb:TE):TE:=λY H Q=>ta Y H λx b=>tb Y b λy a=>r x y a Q
def tUn(r:V->Hp->VK->Prop)(ta:TE):TE:=λY H Q=>ta Y H λx a=>r x a Q
def rI(C:Int->Int->Prop)(g:Int->Int->V):R2:=λx y H Q=>∃i j,x=.int i/\y=.int j/\C i j/\Q (g i j) H
def rI0(g:Int->Int->V):R2:=λx y H Q=>∃i j,x=.int i/\y=.int j/\Q (g i j) H
def rU(g:Int->V):V->Hp->VK->Prop:=λx H Q=>∃i,x=.int i/\Q (g i) H
section
variable{X:Cx}{a b c:Expr}{ta tb tc:TE}{pos:Pos}
def binT(ha:PE X a ta)(hb:PE X b tb){pins:List (Addr×Obj)}{s:Shared}{Y:St}{H:Hp}{R:V->V->Hp->Prop}(I:Inv X pins Y H s)(h:ta Y H λx H1=>tb Y H1 λy H2=>R x y H2){Q:Value->Shared->Prop}{f:Value->Value->Sem Value}(hf:∀v u s2 x y H2,Inv X pins Y H2 s2->RelV x v->RelV y u->R x y H2->wX X (f v u) Q X.xe s2) :
  wX X (eval a X.env) (λv s₁=>wX X (eval b X.env) (λu s₂=>wX X (f v u) Q X.xe s₂) X.xe s₁) X.xe s:=by
 refine thn (ha pins s Y H _ I h) λv c zq=>?_;obtain ⟨x,H1,g,d,j⟩:=zq;refine thn (hb pins c Y H1 _ g j) λu s2 zq=>?_;obtain ⟨y,H2,e,k,i⟩:=zq;exact hf v u s2 x y H2 e d k i
def ZvI(ho:OpR X (binaryOp op) r)(ha:PE X a ta)(hb:PE X b tb):PE X (.BinOp a op b pos) (tOp r ta tb):=by
 intro c s Y H Q I h;exact wpAny_BinOp (binT ha hb I h λv u f x y d g i e q=>ho c f Y d x y v u Q g i e q)
def ZtO(ho:UnR X (unaryOp op) r)(ha:PE X a ta):PE X (.UnaryOp op a pos) (tUn r ta):=by
 intro b s Y H Q I h;exact UnaryOp_ (thn (ha b s Y H _ I h) λv c zq=>by obtain ⟨x,e,f,d,g⟩:=zq;exact ho b c Y e x v Q f d g)
def opI{f:Value->Value->Sem Value}{C:Int->Int->Prop}{g:Int->Int->Int}(rule:∀(i j:Int) (t u:Tok) (s:Shared) (Q:Value->Shared->Prop) (E:Value->Shared->Prop),C i j->Q (.int (g i j) s.toks) { s with toks:=s.toks+1 }->wX X (f (.int i t) (.int j u)) Q E s) :
  OpR X f (rI C λi j=>.int (g i j)):=by
 intro a s Y H x y v u Q I d c h;obtain ⟨i,j,rfl,rfl,b,q⟩:=h;obtain ⟨t,rfl⟩:=d;obtain ⟨e,rfl⟩:=c;exact rule i j t e s _ _ b ⟨.int (g i j),H,I.tok _,⟨_,rfl⟩,q⟩
def opI0{f:Value->Value->Sem Value}{g:Int->Int->Int}(rule:∀(i j:Int) (t u:Tok) (s:Shared) (Q:Value->Shared->Prop) (E:Value->Shared->Prop),Q (.int (g i j) s.toks) { s with toks:=s.toks+1 }->wX X (f (.int i t) (.int j u)) Q E s) :
  OpR X f (rI0 λi j=>.int (g i j)):=by
 intro a s Y H x y v u Q I c d h;obtain ⟨i,j,rfl,rfl,q⟩:=h;obtain ⟨t,rfl⟩:=c;obtain ⟨b,rfl⟩:=d;exact rule i j t b s _ _ ⟨.int (g i j),H,I.tok _,⟨_,rfl⟩,q⟩
def opB0{f:Value->Value->Sem Value}{g:Int->Int->Bool}(rule:∀(i j:Int) (t u:Tok) (s:Shared) (Q:Value->Shared->Prop) (E:Value->Shared->Prop),Q (.bool (g i j)) s->wX X (f (.int i t) (.int j u)) Q E s) :
  OpR X f (rI0 λi j=>.bl (g i j)):=by
 intro a s Y H x y v u Q I c d h;obtain ⟨i,j,rfl,rfl,q⟩:=h;obtain ⟨t,rfl⟩:=c;obtain ⟨b,rfl⟩:=d;exact rule i j t b s _ _ ⟨.bl (g i j),H,I,rfl,q⟩
def CPow(i j:Int):Prop:=0<=j/\j<=1000000/\i.natAbs<2^64
def Zlg(k):(0:Int)<=2^k:=by
 rw [two_pow_cast];exact Int.natCast_nonneg _
def ZuP:OpR X (binaryOp .Add) (rI0 λi j=>.int (i+j)):=opI0 λ_ _ _ _ _ _ _ q=>add_int q
def ZsT:OpR X (binaryOp .Sub) (rI0 λi j=>.int (i - j)):=opI0 λ_ _ _ _ _ _ _ q=>sub_int q
def ZrC:OpR X (binaryOp .Mod) (rI (λ_ j=>j≠0) λi j=>.int (i.fmod j)):=opI λ_ _ _ _ _ _ _ a q=>mod_int' a q
def ZsP:OpR X (binaryOp .Pow) (rI CPow λi j=>.int (i^j.toNat)):=opI λ_ _ _ _ _ _ _ a q=>pow_int_small a.1 a.2.1 a.2.2 q
def ZtY:OpR X (binaryOp .LShift) (rI CPow λi j=>.int (i*2^j.toNat)):=opI λ_ _ _ _ _ _ _ a q=>lshift_int_small a.1 a.2.1 a.2.2 q
def Zvw:OpR X (binaryOp .RShift) (rI (λ_ j=>0<=j) λi j=>.int (i/2^j.toNat)):=opI λi j _ _ _ _ _ a q=>
 rshift_int a (by rw [VaJ i (Zlg _)];exact q)
def unI{f:Value->Sem Value}{g:Int->Int}(rule:∀(i:Int) (t:Tok) (s:Shared) (Q:Value->Shared->Prop) (E:Value->Shared->Prop),Q (.int (g i) s.toks) { s with toks:=s.toks+1 }->wX X (f (.int i t)) Q E s) :
  UnR X f (rU λi=>.int (g i)):=by
 intro a s Y H x v Q I b h;obtain ⟨i,rfl,q⟩:=h;obtain ⟨t,rfl⟩:=b;exact rule i t s _ _ ⟨.int (g i),H,I.tok _,⟨_,rfl⟩,q⟩
def ZpJ:UnR X (unaryOp .USub) (rU λi=>.int (-i)):=unI λ_ _ _ _ _ q=>neg_int q
end
section
variable{X:Cx}{a b c:Expr}{ta tb tc:TE}{pos:Pos}
def ZgP(I:Inv X pins Y H s)(q:Q (.bl k) H)(e:k=k'):EP X pins Y Q (.bool k') s:=by
 subst e;exact ⟨.bl k,H,I,rfl,q⟩
def Zth:OpR X (compareOp .Lt) (rI0 λi j=>.bl (decide (i<j))):=opB0 λ_ _ _ _ _ _ _ q=>lt_int q
def Zs7:OpR X (compareOp .LtE) (rI0 λi j=>.bl (decide (i<=j))):=opB0 λ_ _ _ _ _ _ _ q=>le_int q
def Zv2:OpR X (compareOp .Gt) (rI0 λi j=>.bl (decide (j<i))):=opB0 λ_ _ _ _ _ _ _ q=>gt_int q
def Zuy:OpR X (compareOp .GtE) (rI0 λi j=>.bl (decide (j<=i))):=opB0 λ_ _ _ _ _ _ _ q=>ge_int q
def ZmO:OpR X (compareOp .In) (λx y H Q=>∃i j,x=.str i/\y=.str j/\Q (.bl (!(Builtin.Str.occurrences j i 0 j.length 1).isEmpty)) H):=by
 intro a s Y H x y v u Q I b c h;obtain ⟨i,j,rfl,rfl,q⟩:=h;obtain ⟨t,rfl⟩:=b;obtain ⟨d,rfl⟩:=c;exact in_str (ZgP I q rfl)
def Zvm:OpR X (compareOp .Is) (λx y H Q=>y=.non/\Q (.bl (decide (x=.non))) H):=by
 intro a s Y H x y v u Q I b c h;obtain ⟨rfl,q⟩:=h;cases c;refine is_none_gen (ZgP I q ?_);cases x<;>first
  | (cases b;rfl)
  | (obtain ⟨t,rfl⟩:=b;rfl)
def ZqR:OpR X (compareOp .IsNot) (λx y H Q=>y=.non/\Q (.bl (!decide (x=.non))) H):=by
 intro a s Y H x y v u Q I b c h;obtain ⟨rfl,q⟩:=h;cases c;refine isnot_none_gen (ZgP I q ?_);cases x<;>first
  | (cases b;rfl)
  | (obtain ⟨t,rfl⟩:=b;rfl)
def ZhX:OpR X (compareOp .NotIn) (λx y H Q=>∃i j,x=.str i/\y=.str j/\Q (.bl (!(!(Builtin.Str.occurrences j i 0 j.length 1).isEmpty))) H):=by
 intro a s Y H x y v u Q I b c h;obtain ⟨i,j,rfl,rfl,q⟩:=h;obtain ⟨t,rfl⟩:=b;obtain ⟨d,rfl⟩:=c;exact notIn_str (ZgP I q rfl)
def Zdr(b)(h:op≠.In:=by decide)(h2:op≠.NotIn:=by decide):behindInMarks op b=false:=by
 have c:(op==CmpOp.In)=false:=by cases op<;>first | rfl | exact aB rfl h
 have a:(op==CmpOp.NotIn)=false:=by cases op<;>first | rfl | exact aB rfl h2
 cases b<;>simp [behindInMarks,c,a]
def Zq3(ho:OpR X (compareOp op) r)(ha:PE X a ta)(hb:PE X b tb)(hm:behindInMarks op b=false):PE X (.Compare a [op] [b] pos) (tOp r ta tb):=by
 intro c s Y H Q I h;exact wpAny_Compare1 (binT ha hb I h λv u f x y d g i e q=>ho c f Y d x y v u Q g i e q) hm
def Ze0(t:TE):TT:=λY H Q=>t Y H λx a=>∃k,x=.bl k/\Q k a
def Zjh(ho:OpR X (compareOp op) r)(ha:PE X a ta)(hb:PE X b tb)(hm:behindInMarks op b=false):PT X (.Compare a [op] [b] pos) (Ze0 (tOp r ta tb)):=by
 intro d s Y H Q I h
 refine wpAny_isTrue_Compare1 (thn (ha d s Y H _ I h) λv l zq=>?_) hm;obtain ⟨x,n,g,m,A⟩:=zq;refine thn (hb d l Y n _ g A) λu p zq=>?_;obtain ⟨y,f,q,j,w⟩:=zq;refine thn (ho d p Y f x y v u _ q m j w) λc C zq=>?_;obtain ⟨z,B,t,o,k,e,i⟩:=zq
 subst e;cases o;exact wpAny_truthy_bool ⟨B,t,i⟩
def Zj3:(sizeLine:Nat)<2^63:=by rw [sizeLine_eq];decide
def Zlb:OpR X (binaryOp .Add) (λx y H Q=>∃i j,x=.str i/\y=.str j/\i.length+j.length<=sizeLine/\Q (.str (i++j)) H):=by
 intro a s Y H x y v u Q I d b h;obtain ⟨i,j,rfl,rfl,c,q⟩:=h;obtain ⟨t,rfl⟩:=d;obtain ⟨e,rfl⟩:=b;exact add_str (λe f=>⟨.str (i++j),H,I.tok _,⟨_,rfl⟩,q⟩) c
def vals1(r:Vals [x] us):∃u,us=[u]/\RelV x u:=by
 cases r with
 | cons r1 r2=>cases r2;exact ⟨_,rfl,r1⟩
def vals2(r:Vals [x,y] us):∃u w',us=[u,w']/\RelV x u/\RelV y w':=by
 cases r with
 | cons r1 r2=>
  cases r2 with
  | cons r3 r4=>cases r4;exact ⟨_,_,rfl,r1,r3⟩
def Zor:Zef X (.builtin "abs") (λxs H Q=>∃i,xs=[.int i]/\Q (.int (if i<0 then -i else i)) H):=by
 intro a s Y H xs c Q I r h;obtain ⟨i,rfl,q⟩:=h;obtain ⟨u,rfl,t,rfl⟩:=vals1 r;exact call_abs_int λu b=>⟨.int (if i<0 then -i else i),H,I.tok _,⟨_,rfl⟩,q⟩
def Ziq:Zef X (.type "str") (λxs H Q=>∃i,xs=[.int i]/\i.natAbs.log2<1920/\Q (.str (toString i)) H):=by
 intro a s Y H xs c Q I r h;obtain ⟨i,rfl,b,q⟩:=h;obtain ⟨u,rfl,t,rfl⟩:=vals1 r;exact PySem.P.str_of_int b ⟨.str _,H,I.tok _,⟨_,rfl⟩,q⟩
def LenV(K:W.Frag)(x:V)(H:Hp)(n:Nat):Prop :=
 match x with
 | .str y=>y.length<=sizeLine/\n=y.length
 | .ref p=>(∃a,SqL K H p a/\n=a.length)\/∃a,SqT K H p a/\n=a.length
 | _=>False
def Zob:Zef X (.builtin "len") (λxs H Q=>∃x n,xs=[x]/\LenV X.K x H n/\Q (.int n) H):=by
 intro i s Y H xs m Q I r h;obtain ⟨x,n,rfl,e,q⟩:=h;obtain ⟨u,rfl,g⟩:=vals1 r;have l:=Zj3;have o:=sizeLine_eq;cases x with
 | str y=>
  obtain ⟨t,rfl⟩:=g;obtain ⟨j,b⟩ : y.length<=sizeLine/\n=y.length:=e;subst b;exact len_str (by omega) ⟨.int _,H,I.tok _,⟨_,rfl⟩,q⟩
 | ref p=>
  cases g;have b:=e;rcases b with ⟨xs,hx,b⟩ | ⟨xs,hx,b⟩
  .subst b;obtain ⟨f,c,d,k⟩:=I.list hx;have a:=c.length;exact Calls.call_len_list d.isList (by simp only [VaK];omega) ⟨.int xs.length,H,I.tok _,⟨_,by simp only [VaK];rw [a]⟩,q⟩
  .subst b;obtain ⟨f,c,d,k⟩:=I.tuple hx;have a:=c.length;exact len_tuple d (by simp only [VaK];omega) ⟨.int xs.length,H,I.tok _,⟨_,by simp only [VaK];rw [a]⟩,q⟩
 | _=>exact (e).elim
end
structure ObjM(h:Heap)(x dx C:Addr)(mA:Str->Option Value):Prop where
 obj:h.get? x=some (W.instObj C dx)
 ns:h.Ns1 dx mA
 ne:dx≠x
def Zns{h:Heap}(n:h.Ns1 dx mA):∃od,h.get? dx=some od/\∀name,W.lookIn name od=some (mA name):=by
 obtain ⟨o,c,l,d,g,k,_,f⟩:=n;refine ⟨o,d,λname=>?_⟩;have e:=f name;unfold nsFind findBy at e;rw [<-Array.find?_toList] at e;unfold W.lookIn;rw [g];dsimp only;split
 .rename_i y q;rw [q] at e;exact Vaw some e
 .rename_i q;rw [q] at e;have a:c.toList.any (·.refKey)=false:=by
   rw [List.any_eq_false];intro y i;obtain ⟨z,t,b⟩:=k y (Array.mem_toList_iff.mp i);simp [DictEntry.refKey,b]
  have j:¬c.toList.any (·.refKey)=true:=by rw [a];exact VaC
  rw [iN j];exact Vaw some e
def ObjM.look(I:ObjM h x dx C mA):∃od,W.InstAt h x (W.instObj C dx) C (some od)/\∀name,W.lookIn name od=some (mA name) :=
 let ⟨od,ho,hl⟩:=Zns I.ns
 ⟨od,⟨I.obj,rfl,rfl,ho⟩,hl⟩
section
variable{prog:Program}{w:World}{A:Around}{E:Value->Shared->Prop}{s:Shared}{K:W.Frag}{x dx C f:Addr}{mA:Str->Option Value}{name:Str}{v:Value}
def ZrD(X:K.In s.heap)(I:ObjM s.heap x dx C mA)(hg:W.plainGet K C name=true)(hh:W.hasDictIn K C=true)(ha:W.findIn K (.ref C) name=some none)(hv:mA name=some v)(hv':W.handedIn v=true)(h:Q v { s with toks:=s.toks+1 }) :
  wpAny (model prog w) A (getAttr (.ref x) name expr) Q E s:=by
 obtain ⟨b,J,a⟩:=I.look;exact W.get_value X J (W.plainGet_of hg).1 (W.findObj_own hh ha rfl (by rw [a,hv])) hv' h
def Zoo(X:K.In s.heap)(I:ObjM s.heap x dx C mA)(hg:W.plainGet K C name=true)(hf:W.findIn K (.ref C) name=some (some (.ref f)))(ht:W.isFn K (.ref f)=true)(hv:mA name=none)(h:Q (.ref f,[.ref x]) s) :
  wpAny (model prog w) A (getMethod (.ref x) name pl) Q E s:=by
 obtain ⟨b,J,a⟩:=I.look;exact W.method_fn X J (W.plainGet_of hg).1 (W.plainGet_of hg).2 hf (VaL.mp ht) (by show (W.lookIn name b).map (·.isSome)=some false;rw [a,hv];rfl) h
def ZrS(X:K.In s.heap)(I:ObjM s.heap x dx C mA)(hs:W.findIn K (.ref C) "__setattr__"=some (some (.builtin "object.__setattr__")))(hp:W.plainOver K C=true)(ht:W.takerIn K C name=some none)(hh:W.hasDictIn K C=true)(hw:PySem.Within mA ns)(hsz:ns.length<=sizeLine)(h:∀h',ObjM h' x dx C (λy=>if y=name then some v else mA y)->Heap.SameBut dx s.heap h'->Q () { s with heap:=h',toks:=s.toks+2 }) :
  wpAny (model prog w) A (setAttr (.ref x) name v) Q E s:=by
 obtain ⟨m,J,n⟩:=I.look;refine W.set_plain X J hs (W.osa_open X J hp ht λb=>?_);obtain ⟨p,l,f⟩:=W.any_some hh;have i:=I.obj;refine Vax (Vay (Vax (Vax (wpAny_loadPart i (Vax (W.Looks.here (W.looks_clsIn X l) ?_))))));rw [f];refine Vay (Vax (Vay (Vax ?_)));refine wpAny_nsSet1 I.ns λh' c a=>?_;obtain ⟨o,k,j,d,e,g⟩:=c.count (PySem.Within.cons name v hw);refine Vax (wpAny_lookBehind d (by rw [e];exact pastItsLine_dict (Vak g (by rw [VaM];omega))) ?_);exact Vay (h _ ⟨(a.2 _ (Ne.symm I.ne)).trans I.obj,c,I.ne⟩ a)
def ZnY(X:K.In s.heap)(hm:W.makesIn K C=true)(hi:W.findIn K (.ref C) "__init__"=some (some (.ref f)))(hf:W.typeIn K (.ref f)=some (.type "function")) (h:codeAny (model prog w) (A.under (.builtin "type.__call__" ⟨.ref C::vs,kw⟩)) (.call (.ref f) ⟨.ref (s.heap.objs.size+1)::vs,kw⟩) (W.InitBack (s.heap.objs.size+1) R)
   { s with heap:=(s.heap.push W.emptyDict).push (W.instObj C s.heap.objs.size) }) :
  codeAny (model prog w) A (.call (.ref C) ⟨vs,kw⟩) R s:=by
 obtain ⟨b,g,d,t,c⟩:=s;exact W.make_core (W.makes_of X hm) (W.looks_findIn X hi) (λa=>W.bind_fn X a hf) (.inl rfl) h
end
def putF(f:Str)(v:V):List (Str×V)->List (Str×V)
 | []=>[(f,v)]
 | (g,x)::r=>if g=f then (g,v)::r else (g,x)::putF f v r
def Zgg(f g)(v):∀fs,(putF f v fs).lookup g=if g=f then some v else fs.lookup g
 | []=>by
  show List.lookup g [(f,v)]=_;by_cases h:g=f
  .have a:(g==f)=true:=VaL.mpr h;simp only [List.lookup,a,iP h]
  .have a:(g==f)=false:=Vad.mpr h;simp only [List.lookup,a,iN h]
 | (k,x)::r=>by
  have ih:=Zgg f g v r;rw [show putF f v ((k,x)::r)=(if k=f then (k,v)::r else (k,x)::putF f v r) from rfl]
  by_cases hk:k=f
  .rw [iP hk];by_cases h:g=k
   .have a:(g==k)=true:=VaL.mpr h;simp only [List.lookup,a,iP (h.trans hk)]
   .have a:(g==k)=false:=Vad.mpr h;simp only [List.lookup,a,iN (λe:g=f=>h (e.trans hk.symm))]
  .rw [iN hk];by_cases h:g=k
   .have a:(g==k)=true:=VaL.mpr h;simp only [List.lookup,a,iN (λe:g=f=>hk (h.symm.trans e))]
   .have a:(g==k)=false:=Vad.mpr h;simp only [List.lookup,a];exact ih
def Zf1(f)(v):∀fs,f∈(putF f v fs).map (·.1)/\∀g,g∈fs.map (·.1)->g∈(putF f v fs).map (·.1)
 | []=>⟨by simp [putF],λg h=>by simp at h⟩
 | (k,x)::r=>by
  obtain ⟨b,a⟩:=Zf1 f v r;rw [show putF f v ((k,x)::r)=(if k=f then (k,v)::r else (k,x)::putF f v r) from rfl]
  by_cases hk:k=f
  .rw [iP hk];subst hk;exact ⟨by simp,λg h=>by simpa using h⟩
  .rw [iN hk];refine ⟨?_,λg h=>?_⟩
   .rw [VaN];exact Vap _ b
   .rw [VaN] at h ⊢;rcases Vaq.mp h with e | e
    .exact Vaq.mpr (.inl e)
    .exact Vap _ (a g e)
def Zgq(f)(v):∀fs,(putF f v fs).length<=fs.length+1
 | []=>by simp [putF]
 | (k,x)::r=>by
  have ih:=Zgq f v r;rw [show putF f v ((k,x)::r)=(if k=f then (k,v)::r else (k,x)::putF f v r) from rfl]
  by_cases hk:k=f
  .rw [iP hk,VaM,VaM];omega
  .rw [iN hk,VaM,VaM];omega
def RelO.some_of(r:RelO (some v) o):∃u,o=some u/\RelV v u:=by
 cases o with
 | none=>exact (r).elim
 | some u=>exact ⟨u,rfl,r⟩
def RelO.none_of(r:RelO none o):o=none:=by
 cases o with
 | none=>rfl
 | some u=>exact (r).elim
def Zmi(r:RelV v u):W.handedIn u=true:=by
 cases v with
 | non=>cases (r);rfl
 | bl b=>cases (r);rfl
 | int i=>obtain ⟨t,e⟩:=(r);cases e;rfl
 | str x=>obtain ⟨t,e⟩:=(r);cases e;rfl
 | ref a=>cases (r);rfl
 | ty n=>cases (r);rfl
section
variable{P:Program}{w:World}{H H':Hp}{h h':Heap}{a C dx:Addr}{fs fs':List (Str×V)}
def Zhu(hok:HOk P w H h)(e:H a=some (.ins C dx fs)):∃mA,ObjM h a dx C mA/\(∀f,RelO (fs.lookup f) (mA f))/\PySem.Within mA (fs.map (·.1))/\fs.length<=1000/\H dx=some (.own a):=by
 obtain ⟨d,z,b,c,mA,n,r,q⟩:=(hok a _ e);exact ⟨mA,⟨c,n,b⟩,r,q,z,d⟩
end
structure Cls(K:W.Frag)(C:Addr):Prop where
 pg:W.plainGet K C Str.empty=true
 hd:W.hasDictIn K C=true
 po:W.plainOver K C=true
 sa:W.findIn K (.ref C) "__setattr__"=some (some (.builtin "object.__setattr__"))
def Cls.get{K:W.Frag}{C:Addr}(c:Cls K C)(f):W.plainGet K C f=true:=c.pg
def ZeC(K:W.Frag)(C:Addr)(f:Str):Prop:=W.findIn K (.ref C) f=some none
def ZeC.taker{K:W.Frag}{C:Addr}{f:Str}(n:ZeC K C f):W.takerIn K C f=some none:=by
 unfold W.takerIn;rw [show W.findIn K (.ref C) f=some none from n];rfl
structure Meth(K:W.Frag)(C:Addr)(m:Str)(f:Addr):Prop where
 at_:W.findIn K (.ref C) m=some (some (.ref f))
 fn:W.isFn K (.ref f)=true
 kp:W.keepIn K (.ref f)=true
section
variable{X:Cx}{pins:List (Addr×Obj)}{Y:St}{H:Hp}{s:Shared}{a C dx:Addr}{fs:List (Str×V)}{f:Str}{v:V}{A:Around}{E:Value->Shared->Prop}
def ZkL(I:Inv X pins Y H s)(e:H a=some (.ins C dx fs))(c:Cls X.K C)(n:ZeC X.K C f)(l:fs.lookup f=some v)(h:∀u s',Inv X pins Y H s'->RelV v u->Q u s'):wpAny (model X.prog X.w) A (getAttr (.ref a) f b) Q E s:=by
 obtain ⟨i,O,r,_,_,_⟩:=Zhu I.hok e;obtain ⟨u,g,d⟩:=RelO.some_of (by rw [<-l];exact r f);exact ZrD I.kIn O (c.get f) c.hd n g (Zmi d) (h u _ (I.tok _) d)
def ZgF(I:Inv X pins Y H s)(e:H a=some (.ins C dx fs))(c:Cls X.K C)(k:Meth X.K C m g)(l:fs.lookup m=none)(h:Q (.ref g,[.ref a]) s):wpAny (model X.prog X.w) A (getMethod (.ref a) m pl) Q E s:=by
 obtain ⟨d,O,r,_,_,_⟩:=Zhu I.hok e;have b:=RelO.none_of (by rw [<-l];exact r m);exact Zoo I.kIn O (c.get m) k.at_ k.fn b h
def ZkI(I:Inv X pins Y H s)(e:H a=some (.ins C dx fs))(c:Cls X.K C)(n:ZeC X.K C f)(hl:fs.length<1000)(ry:RelV y u)(h:∀s',Inv X pins Y (upd H a (.ins C dx (putF f y fs))) s'->Q () s'):wpAny (model X.prog X.w) A (setAttr (.ref a) f u) Q E s:=by
 obtain ⟨j,O,r,i,_,k⟩:=Zhu I.hok e;have v:(fs.map (·.1)).length<=sizeLine:=by rw [VaO,sizeLine_eq];omega
 refine ZrS I.kIn O c.sa c.po n.taker c.hd i v λx d l=>h _ ?_;have t:∃o,x.get? dx=some o:=let ⟨o,_,_,e',_⟩:=d.ns;⟨o,e'⟩;refine I.write (by rw [e];exact True.intro) (.inr k) (λb q p z=>(l.2 b p).trans z) t ?_;refine ⟨by rw [Zad O.ne];exact k,?_,O.ne,d.obj,_,d.ns,λg=>?_,λg m=>?_⟩
 .have:=Zgq f y fs;omega
 .show RelO ((putF f y fs).lookup g) (if g=f then some u else j g)
  rw [Zgg];by_cases q:g=f
  .rw [iP q,iP q];exact ry
  .rw [iN q,iN q];exact r g
 .by_cases q:g=f
  .rw [q];exact (Zf1 f y fs).1
  .refine (Zf1 f y fs).2 g (i g λz=>m ?_);show (if g=f then some u else j g)=none
   rw [iN q];exact z
def Inv.made(I:Inv X pins Y H s):Inv X pins Y (upd (upd H s.heap.objs.size (.own (s.heap.objs.size+1))) (s.heap.objs.size+1) (.ins C s.heap.objs.size []))
  { s with heap:=(s.heap.push W.emptyDict).push (W.instObj C s.heap.objs.size) }:=by
 have c:(s.heap.push W.emptyDict).get? s.heap.objs.size=some W.emptyDict:=VaE s.heap rfl;have i:((s.heap.push W.emptyDict).push (W.instObj C s.heap.objs.size)).get? (s.heap.objs.size+1)=some (W.instObj C s.heap.objs.size):=by
  have:=VaE (s.heap.push W.emptyDict) (o:=W.instObj C s.heap.objs.size) rfl;rwa [VaP] at this
 have g:(s.heap.push W.emptyDict).Ns s.heap.objs.size (λ_=>none):=⟨W.emptyDict,#[],_,c,rfl,(λe f=>aB f (by simp)),λ_=>rfl⟩;have h:=I.laid (o:=.own (s.heap.objs.size+1)) (t':=s.toks) (λb u q=>VaA _ q) (VaF _) ⟨_,c⟩;refine h.laid (λb u q=>VaA _ q) (Nat.le_of_eq (VaP _ _)) ?_;have a:s.heap.objs.size≠s.heap.objs.size+1:=Vah (VaQ _);refine ⟨by rw [Zad a,Zae],VaR _,a,i,λ_=>none,(Heap.Ns1.of_empty g).at λo q=>VaA _ q,λ_=>True.intro,λy d=>aB rfl d⟩
def Zqo(hb:attributeBase e f env (eval e env)=eval e env)(h:wpAny (model prog w) A (eval e env) (λo s₁=>wpAny (model prog w) A (getAttr o f true) Q E s₁) E s):wpAny (model prog w) A (eval (.Attribute e f pos) env) Q E s :=
 Attribute_any_ h (by rw [arm_eval_Attribute,hb])
end
def tFld(K:W.Frag)(ta:TE)(f:Str):TE:=λY H Q=>ta Y H λx c=>∃a C d b v,x=.ref a/\c a=some (.ins C d b)/\Cls K C/\ZeC K C f/\b.lookup f=some v/\Q v c
def sFld(K:W.Frag)(ta tv:TE)(f:Str):TS:=λD Y H=>tv Y H λy e=>ta Y e λx c=>∃a C d b,x=.ref a/\c a=some (.ins C d b)/\Cls K C/\ZeC K C f/\b.length<1000 /\
 D.nx Y (upd c a (.ins C d (putF f y b)))
section
variable{X:Cx}{o e value:Expr}{f:Str}{pos pos' tpos:Pos}{ta tv:TE}
def Ztf(he:PE X e ta)(hb:attributeBase e f X.env (eval e X.env)=eval e X.env):PE X (.Attribute e f pos) (tFld X.K ta f):=by
 intro b s Y H Q I h;refine Zqo hb (thn (he b s Y H _ I h) λu s1 zq=>?_);obtain ⟨x,H1,I1,rx,a,C,dx,fs,v,ex,ea,c,n,l,q⟩:=zq;subst ex;obtain rfl:u=Value.ref a:=rx;exact ZkL I1 ea c n l λj i g d=>⟨v,H1,g,d,q⟩
def Zt8(ha:PE X o ta)(hv:PE X value tv)(hs:swapsWith value (some (.Attribute o f pos')) pos.line X.env=pure false):PS X (.Assign [.Attribute o f pos'] value pos) (sFld X.K ta tv f):=by
 intro b s Y H D I h;refine plainObj_wpAny_Assign_Attribute (thn (hv b s Y H _ I h) λu d zq=>?_) hs;obtain ⟨y,e,i,j,q⟩:=zq;refine thn (ha b d Y e _ i q) λov s2 zq=>?_;obtain ⟨x,H2,I2,rx,a,C,dx,fs,ex,ea,c,n,l,q2⟩:=zq;subst ex;obtain rfl:ov=Value.ref a:=rx;exact ZkI I2 ea c n l j λk g=>⟨Y,_,g,q2⟩
end
section
variable{X:Cx}{pins:List (Addr×Obj)}{Y:St}{H:Hp}{s:Shared}{A:Around}{E:Value->Shared->Prop}{Q:Value->Shared->Prop}{c:Value}{b:Bool}
inductive TyOf(K:W.Frag)(H:Hp):V->Value->Prop where
 | non:TyOf K H .non (.type "NoneType")
 | bl (x:Bool):TyOf K H (.bl x) (.type "bool")
 | int (i:Int):TyOf K H (.int i) (.type "int")
 | str (x:Str):TyOf K H (.str x) (.type "str")
 | lst {a:Addr} {xs:List V} (e:H a=some (.lst xs)):TyOf K H (.ref a) (.type "list")
 | frz {a:Addr} {o:Obj} {xs:List V} (e:H a=some (.frz o (.lst xs))):TyOf K H (.ref a) (.type "list")
 | tup {a:Addr} {xs:List V} (e:H a=some (.tup xs)):TyOf K H (.ref a) (.type "tuple")
 | ins {a C dx:Addr} {fs:List (Str×V)} (e:H a=some (.ins C dx fs)) (cl:Cls K C) (ha:W.findIn K (.ref C) "__class__"=some (some (.builtin "object.__class__")))
   (hn:W.specialIn K (.builtin "object.__class__") "__get__"=some (some (.builtin "getset_descriptor.__get__"))) (htk:W.takesIn K (.builtin "object.__class__")=some true)
   (hm:W.mroIn K C (.type "object")=some true):TyOf K H (.ref a) (.ref C)
def Zes(I:Inv X pins Y H s)(rx:RelV x u)(ty:TyOf X.K H x t)(e:W.kitOne X.K t c=some b)(h:∀tk,Q (.bool b) { s with toks:=tk }) :
  wpAny (model X.prog X.w) A (call (.builtin "isinstance") [u,c]) Q E s:=by
 cases ty with
 | non=>cases (show u=Value.none from rx);exact VaS W.kitx_none I.kIn True.intro e (λz=>nomatch z) h
 | bl y=>cases (rx);exact VaS W.kitx_bool I.kIn True.intro e (λz=>nomatch z) h
 | int i=>obtain ⟨t,q⟩:=(rx);cases q;exact VaS W.kitx_int I.kIn True.intro e (λz=>nomatch z) h
 | str y=>obtain ⟨t,q⟩:=(rx);cases q;exact VaS W.kitx_str I.kIn True.intro e (λz=>nomatch z) h
 | @lst a g ea=>
  cases (rx);obtain ⟨_,_,n,_,d⟩:=(I.hok a _ ea);exact VaS W.kitx_list I.kIn ⟨_,d,rfl⟩ e (λz=>nomatch z) h
 | @frz a ob g ea=>
  cases (rx);obtain ⟨_,_,_,n,_,d⟩:=(I.hok a _ ea);exact VaS W.kitx_list I.kIn ⟨_,d,rfl⟩ e (λz=>nomatch z) h
 | @tup a g ea=>
  cases (rx);obtain ⟨_,_,_,p⟩:=(I.hok a _ ea);obtain ⟨o,d,f,_⟩:=p;exact VaS W.kitx_tuple I.kIn ⟨o,d,f⟩ e (λz=>nomatch z) h
 | @ins a C dx fs ea cl ha hn htk hm=>
  cases (show u=Value.ref a from rx);obtain ⟨m,O,_⟩:=Zhu I.hok ea;obtain ⟨l,J,_⟩:=O.look;exact VaS (W.kitx_own (cl.get _) cl.hd ha hn htk hm) I.kIn J e (λz=>nomatch z) h
end
structure Room(k:Nat)(A:Around):Prop where
 hd:A.handled=none
 dp:A.depth+3*k+5<recursionLimit
 un:A.units+16*k+200<cLine
def Room.mono(r:Room k A)(h:j<=k):Room j A:=⟨r.hd,by have:=r.dp;omega,by have:=r.un;omega⟩
def Room.deeper(r:Room (k+1) A)(env):Room k (A.deeper env) :=
 ⟨r.hd,by have:=r.dp;show A.depth+1+3*k+5<_;omega,by have:=r.un;show A.units+3+16*k+200<_;omega⟩
def ZkV{A:Around}:(A.under (.builtin "type.__call__" ⟨.ref C::us,kw⟩)).depth=A.depth+1:=by
 first | rfl | simp [Around.under,Code.weight,Code.isCreation,Code.isGuard,Code.isCaller,Code.frames,Code.isFrame,guardIds]
def Zlf{A:Around}:(A.under (.builtin "type.__call__" ⟨.ref C::us,kw⟩)).units=A.units+1:=by
 first | rfl | simp [Around.under,Code.cUnits,Code.frames,Code.isFrame]
def Room.make(r:Room (k+1) A)(C)(us)(kw):Room k (A.under (.builtin "type.__call__" ⟨.ref C::us,kw⟩)) :=
 ⟨r.hd,by have:=r.dp;rw [ZkV];omega,by have:=r.un;rw [Zlf];omega⟩
def Room.depth(r:Room k A):A.depth<recursionLimit:=by have:=r.dp;omega
def Room.units(r:Room k A):A.units+64<cLine:=by have:=r.un;omega
def tNil:TA:=λ_ H Q=>Q [] H
def Zbq(ta:TE)(tr:TA):TA:=λY H Q=>ta Y H λx c=>tr Y c λb a=>Q (x::b) a
section
variable{X:Cx}{e:Expr}{es:List Expr}{te:TE}{t:TA}{pos:Pos}
def Zcv:PA X [] tNil:=λ_ _ _ _ H Q I h=>Calls.spliced_nil ⟨[],H,I,.nil,h⟩
def Zbo(ha:PE X e te)(hr:PA X es t)(hs:starEach (e::es) X.env=(false,eval e X.env)::starEach es X.env:=by rfl):PA X (e::es) (Zbq te t):=by
 intro b a s Y H Q I h;rw [hs];refine Calls.spliced_cons (thn (ha a s Y H _ I h) λu g zq=>?_);obtain ⟨x,k,d,j,n⟩:=zq;exact thn (hr b a g Y k _ d n) λo p ⟨i,c,l,f,m⟩=>⟨x::i,c,l,.cons j f,m⟩
def tTup(t:TA):TE:=λY H Q=>t Y H λa b=>a.length<=sizeLine/\∀p,b p=none->Q (.ref p) (upd b p (.tup a))
def tLst(t:TA):TE:=λY H Q=>t Y H λa b=>a.length<=sizeLine/\∀p,b p=none->Q (.ref p) (upd b p (.lst a))
def ZuN{x1}(h:PA X es t):PE X (.Tuple es x1 pos) (tTup t):=by
 intro a s Y H Q I g;refine wpAny_Tuple_spliced (thn (h pos a s Y H _ I g) λf d zq=>?_);obtain ⟨i,j,c,r,z,q⟩:=zq;refine ⟨by rw [<-r.length];exact z,?_⟩;have k:=c.hok.fresh (VaF _);refine ⟨.ref d.heap.objs.size,upd j d.heap.objs.size (.tup i),c.laid (λb u e=>VaA _ e) (VaF _) ?_,rfl,q _ k⟩;exact ⟨z,f,r,⟨_,VaE _ rfl,rfl,_,rfl⟩⟩
def ZiB(h:PA X es t):PE X (.List es pos) (tLst t):=by
 intro a s Y H Q I g;refine wpAny_List_spliced (thn (h pos a s Y H _ I g) λf d zq=>?_);obtain ⟨i,j,c,r,z,q⟩:=zq;refine ⟨by rw [<-r.length];exact z,?_⟩;have k:=c.hok.fresh (VaF _);refine ⟨.ref d.heap.objs.size,upd j d.heap.objs.size (.lst i),c.laid (λb u e=>VaA _ e) (VaF _) ?_,rfl,q _ k⟩;exact ⟨z,f,0,r,VaE _ rfl⟩
end
abbrev Sp:=List V->Hp->VK->XK->Prop
abbrev CXT:=List Env->Hp->Shared->XK->Value->Shared->Prop
structure Env0(P:Program)(w:World)(K:W.Frag)(mg:Str->Option Value)(base:Heap)(A:Around)(outer:List Env)(s:Shared)(H:Hp):Prop where
 frames:A.frames=some outer
 mod:Mod K mg base
 bs:∀b o,base.get? b=some o->s.heap.get? b=some o/\H b=none
 bsz:base.objs.size<=s.heap.objs.size
 funs:s.heap.FunFrames base outer
 frf:∀b∈frs outer,H b=none
 hok:HOk P w H s.heap
 bare:AllBare s.gens
def CE(outer:List Env)(P:Program)(w:World)(H:Hp)(s:Shared)(Q:VK)(u:Value)(s':Shared):Prop :=
 ∃v a,s'.os=s.os/\AllBare s'.gens/\Un (frs outer) [] H a s.heap s'.heap/\HOk P w a s'.heap/\RelV v u/\Q v a
def CR(CX:CXT)(outer:List Env)(P:Program)(w:World)(H:Hp)(s:Shared)(Q:VK)(E:XK)(r:Result)(s':Shared):Prop :=
 match r with
 | .ok (.ret u)=>CE outer P w H s Q u s'
 | .ok _=>False
 | .error e=>CX outer H s E e s'
structure FnOk(P:Program)(w:World)(K:W.Frag)(mg:Str->Option Value)(base:Heap)(CX:CXT)(k:Nat)(f:Addr)(fd:FuncData)(ps:List Str)(sp:Sp):Prop where
 len:∀vs H Q E,sp vs H Q E->vs.length=ps.length
 run:∀(A:Around) (outer:List Env) (s:Shared) (H:Hp) (args:Args) (us:List Value) (vs:List V) (Q:VK) (E:XK),Room k A->Env0 P w K mg base A outer s H->BindsTo s fd args (ps.zip us)->Vals vs us->sp vs H Q E ->
  codeAny (model P w) A (.call (.ref f) args) (CR CX outer P w H s Q E) s
def FnOk.mono{P:Program}{w:World}{K:W.Frag}{mg:Str->Option Value}{base:Heap}{CX:CXT}{j k:Nat}{f:Addr}{fd:FuncData}{ps:List Str}{sp:Sp}(F:FnOk P w K mg base CX j f fd ps sp)(h:j<=k) :
  FnOk P w K mg base CX k f fd ps sp:=⟨F.len,λA a s H b c e Q E d=>F.run A a s H b c e Q E (d.mono h)⟩
def FnOk.imp{P:Program}{w:World}{K:W.Frag}{mg:Str->Option Value}{base:Heap}{CX:CXT}{k:Nat}{f:Addr}{fd:FuncData}{ps:List Str}{sp sp':Sp}(F:FnOk P w K mg base CX k f fd ps sp)(h:∀vs H Q E,sp' vs H Q E->sp vs H Q E):FnOk P w K mg base CX k f fd ps sp' :=
 ⟨λvs H Q E q=>F.len vs H Q E (h _ _ _ _ q),λA a s H b c vs Q E j e d i g=>F.run A a s H b c vs Q E j e d i (h _ _ _ _ g)⟩
def Env0.make{P:Program}{w:World}{K:W.Frag}{mg:Str->Option Value}{base:Heap}{A:Around}{outer:List Env}{s:Shared}{H:Hp}(e:Env0 P w K mg base A outer s H)(C)(us)(kw) :
  Env0 P w K mg base (A.under (.builtin "type.__call__" ⟨.ref C::us,kw⟩)) outer s H:=⟨by first | exact e.frames | (simpa [Around.under,Code.envs,Code.isFrame,pushEnvs] using e.frames),e.mod,e.bs,e.bsz,e.funs,e.frf,e.hok,e.bare⟩
section
variable{X:Cx}{pins:List (Addr×Obj)}{Y:St}{H:Hp}{s s':Shared}
def Inv.env0(I:Inv X pins Y H s):Env0 X.prog X.w X.K X.mg X.base X.A X.stack s H :=
 ⟨I.ok.frames,I.ok.mod,I.bs,Vak I.ok.bsz I.sz,I.stack,I.stkFree,I.hok,I.bare⟩
def Inv.after(I:Inv X pins Y H s)(h:CE X.stack X.prog X.w H s Q u s'):EP X pins Y Q u s':=by
 obtain ⟨v,i,f,a,j,c,r,q⟩:=h;obtain ⟨k,g,d,t,e⟩:=s';obtain rfl:e=s.os:=f;exact ⟨v,i,I.call j c a (λb z=>aB z (by simp)),r,q⟩
end
def ZiA(sp:Sp)(dvs:List V)(E:XK)(t:TA):TE:=λY H Q=>t Y H λb a=>sp (b++dvs) a Q E
def Zto(C:Addr)(sp:Sp)(dvs:List V)(E:XK)(t:TA):TE:=λY H Q=>t Y H λd b=>∀x a,b x=none->b a=none->a≠x ->
 sp (.ref x::(d++dvs)) (upd (upd b a (.own x)) x (.ins C a [])) (λv c=>v=.non/\Q (.ref x) c) E
def Binds(K:W.Frag)(fd:FuncData)(ps:List Str)(ds:List Value):Prop :=
 ∀s a,K.In s.heap->(a++ds).length=ps.length->BindsTo s fd ⟨a,[]⟩ (ps.zip (a++ds))
def Binds.all{K:W.Frag}{fd:FuncData}{ps:List Str}(h:∀us:List Value,us.length=ps.length->bindArgs fd ⟨us,[]⟩=pure (ps.zip us)):Binds K fd ps []:=λs us _ a=>by
 rw [VaT] at a ⊢;exact .of_eq (h us a)
def ZcD(CX:CXT)(X:Cx)(E:XK):Prop:=∀a Y H s e b,Inv X a Y H s->CX X.stack H s E e b->X.xe e b
section
variable{X:Cx}{CX:CXT}{k:Nat}{f C:Addr}{fd:FuncData}{ps:List Str}{sp:Sp}{dvs:List V}{ds:List Value}{E:XK}{x m:Str}{p pos apos:Pos}{e o:Expr}{es:List Expr}{ta:TE}{t:TA}
def Zkx(F:FnOk X.prog X.w X.K X.mg X.base CX k f fd ps sp)(hr:Room k X.A)(hb:Binds X.K fd ps ds)(hd:Vals dvs ds)(hx:ZcD CX X E)(I:Inv X pins Y H s)(r:Vals vs us)(h:sp (vs++dvs) H Q E):wX X (call (.ref f) us) (EP X pins Y Q) X.xe s:=by
 have b:=r.append hd;have c:(us++ds).length=ps.length:=by rw [<-b.length];exact F.len _ _ _ _ h
 refine wpAny_call (VaU (F.run X.A X.stack s H ⟨us,[]⟩ (us++ds) (vs++dvs) Q E hr I.env0 (hb s us I.kIn c) b h) λr d a=>?_);cases r with
 | error e=>exact hx pins Y H s e d I a
 | ok fl=>
  cases fl with
  | ret u=>exact I.after a
  | next=>exact False.elim a
  | brk=>exact False.elim a
  | cont=>exact False.elim a
def ZrP(F:FnOk X.prog X.w X.K X.mg X.base CX k f fd ps sp)(hr:Room k X.A)(hg:Gl X x)(hm:X.mg x=some (.ref f))(hk:W.keepIn X.K (.ref f)=true)(hb:Binds X.K fd ps ds)(hd:Vals dvs ds)(hx:ZcD CX X E)(ha:PA X (e::es) t)(hdb:ND x:=by decide)(he:starEach (e::es) X.env=(false,eval e X.env)::starEach es X.env:=by rfl)(hpl:(backTo pos (starEach es X.env)).any (·.1)=false:=by rfl) :
  PE X (.Call (.Name x p) (e::es) [] pos) (ZiA sp dvs E t):=by
 intro a s Y H Q I h;refine VaV (Zja I hg hm ?_ hdb);refine W.callWith_K I.ok.mod.kin hk (thn (ha pos a s Y H _ I h) λg c zq=>?_) he hpl;obtain ⟨i,d,b,r,q⟩:=zq;refine ⟨b.kIn,?_⟩;exact Zkx F hr hb hd hx b r q
structure Mk(K:W.Frag)(C f:Addr):Prop where
 makes:W.makesIn K C=true
 init:W.findIn K (.ref C) "__init__"=some (some (.ref f))
 fn:W.isFn K (.ref f)=true
 kp:W.keepIn K (.ref C)=true
def ZoP(M:Mk X.K C f)(F:FnOk X.prog X.w X.K X.mg X.base CX k f fd ps sp)(hr:Room (k+1) X.A)(hb:Binds X.K fd ps ds)(hd:Vals dvs ds)(hx:ZcD CX X E)(I:Inv X pins Y H s)(r:Vals vs us)(h:∀x dx,H x=none->H dx=none->dx≠x->sp (.ref x::(vs++dvs)) (upd (upd H dx (.own x)) x (.ins C dx [])) (λv H2=>v=.non/\Q (.ref x) H2) E) :
  wX X (call (.ref C) us) (EP X pins Y Q) X.xe s:=by
 have c:=h (s.heap.objs.size+1) s.heap.objs.size (I.hok.fresh (Nat.le_succ _)) (I.hok.fresh (VaF _)) (Vah (VaQ _));have b:=Inv.made (C:=C) I;have d:Vals (V.ref (s.heap.objs.size+1)::(vs++dvs)) (Value.ref (s.heap.objs.size+1)::(us++ds)):=.cons rfl (r.append hd);have g:(Value.ref (s.heap.objs.size+1)::us++ds).length=ps.length:=by
  have e:=d.length;rw [F.len _ _ _ _ c] at e;exact e.symm
 refine wpAny_call (ZnY I.kIn M.makes M.init (VaL.mp M.fn) (VaU (F.run _ X.stack _ _ ⟨Value.ref (s.heap.objs.size+1)::us,[]⟩ (Value.ref (s.heap.objs.size+1)::(us++ds)) _ _ E (hr.make C us [])
  (b.env0.make C us []) (hb _ (Value.ref (s.heap.objs.size+1)::us) b.kIn g) d c) λr i a=>?_))
 cases r with
 | error e=>exact hx pins Y _ _ e i b a
 | ok fl=>
  cases fl with
  | ret u=>
   obtain ⟨v,j,l,o,n,m⟩:=b.after a;subst n;exact ⟨o,⟨V.ref (s.heap.objs.size+1),j,l,rfl,m⟩⟩
  | next=>exact False.elim a
  | brk=>exact False.elim a
  | cont=>exact False.elim a
def Zr6(M:Mk X.K C f)(F:FnOk X.prog X.w X.K X.mg X.base CX k f fd ps sp)(hr:Room (k+1) X.A)(hg:Gl X x)(hm:X.mg x=some (.ref C))(hb:Binds X.K fd ps ds)(hd:Vals dvs ds)(hx:ZcD CX X E)(ha:PA X (e::es) t)(hdb:ND x:=by decide)(he:starEach (e::es) X.env=(false,eval e X.env)::starEach es X.env:=by rfl)(hpl:(backTo pos (starEach es X.env)).any (·.1)=false:=by rfl) :
  PE X (.Call (.Name x p) (e::es) [] pos) (Zto C sp dvs E t):=by
 intro a s Y H Q I h;refine VaV (Zja I hg hm ?_ hdb);refine W.callWith_K I.ok.mod.kin M.kp (thn (ha pos a s Y H _ I h) λg c zq=>?_) he hpl;obtain ⟨i,d,b,r,q⟩:=zq;refine ⟨b.kIn,?_⟩;exact ZoP M F hr hb hd hx b r q
end
structure ZaE(N P:List Str)(sc:Scope):Prop where
 kind:sc.kind=.function
 co:sc.isCoroutine=false
 gen:sc.isGenerator=false
 nd:N.Nodup
 pre:N.take P.length=P
 par:∀x∈P,sc.names.lookup x=some .local\/sc.names.lookup x=some .cell
 nofree:∀y∈sc.names,y.2≠.free
def Ziw{kindOf:Str->Option NameKind}{x:Str}:∀{binds:List (Str×Value)} {m:Str->Option Value},(∀v,(x,v)∉binds)->bindL kindOf binds m x=m x
 | [],_,_=>rfl
 | (n,v)::r,m,h=>by
  unfold bindL;rw [Ziw λw a=>h w (Vap _ a)];split
  .have:x≠n:=by rintro rfl;exact h v Vao
   simp [this]
  .rfl
def Zim{kindOf:Str->Option NameKind}{x:Str}:∀{binds:List (Str×Value)} {m:Str->Option Value},(∀v,(x,v)∉binds)->bindC kindOf binds m x=m x
 | [],_,_=>rfl
 | (n,v)::r,m,h=>by
  unfold bindC;rw [Zim λw a=>h w (Vap _ a)];split
  .rfl
  .have:x≠n:=by rintro rfl;exact h v Vao
   simp [this]
def ZhZ{kindOf:Str->Option NameKind}{x:Str}{v:Value}:∀{P:List Str} {vs:List Value} {i:Nat} {m:Str->Option Value},P.Nodup->P[i]?=some x->vs[i]?=some v->kindOf x=some .local ->
  bindL kindOf (P.zip vs) m x=some v
 | [],_,_,_,_,h,_,_=>by simp at h
 | _::_,[],_,_,_,_,h,_=>by simp at h
 | p::P,w::vs,0,m,nd,h1,h2,hk=>by
  simp at h1 h2;subst h1;subst h2;show bindL kindOf ((p,w)::P.zip vs) m p=_;unfold bindL;rw [Ziw λv a=>(VaW.mp nd).1 (VaX a).1,iP hk];simp
 | p::P,w::vs,i+1,m,nd,h1,h2,hk=>by
  show bindL kindOf ((p,w)::P.zip vs) m x=_;unfold bindL;exact ZhZ (i:=i) (VaW.mp nd).2 (by simpa using h1) (by simpa using h2) hk
def ZiS{kindOf:Str->Option NameKind}{x:Str}{v:Value}:∀{P:List Str} {vs:List Value} {i:Nat} {m:Str->Option Value},P.Nodup->P[i]?=some x->vs[i]?=some v->kindOf x≠some .local ->
  bindC kindOf (P.zip vs) m x=some v
 | [],_,_,_,_,h,_,_=>by simp at h
 | _::_,[],_,_,_,_,h,_=>by simp at h
 | p::P,w::vs,0,m,nd,h1,h2,hk=>by
  simp at h1 h2;subst h1;subst h2;show bindC kindOf ((p,w)::P.zip vs) m p=_;unfold bindC;rw [Zim λv a=>(VaW.mp nd).1 (VaX a).1,iN hk];simp
 | p::P,w::vs,i+1,m,nd,h1,h2,hk=>by
  show bindC kindOf ((p,w)::P.zip vs) m x=_;unfold bindC;exact ZiS (i:=i) (VaW.mp nd).2 (by simpa using h1) (by simpa using h2) hk
def start(N:List Str)(vs:List V):St:=vs.map some++List.replicate (N.length - vs.length) none
def cxOf(CX:CXT)(P:Program)(w:World)(K:W.Frag)(mg:Str->Option Value)(base:Heap)(N:List Str)(qual:Str)(scope:Scope)(f:Addr)(cd:Value)(A:Around)(outer:List Env)(s:Shared)(H:Hp)(E:XK):Cx where
 prog:=P
 w:=w
 K:=K
 mg:=mg
 base:=base
 A:=A.deeper (envOfC qual scope s.heap.objs.size f cd)
 N:=N
 s₀:=s
 H₀:=H
 env:=envOfC qual scope s.heap.objs.size f cd
 outer:=outer
 stack:=envOfC qual scope s.heap.objs.size f cd::outer
 ex:=[]
 calm:=true
 fn:=λ_=>true
 pn:=[]
 xe:=λe c=>wpAny (model P w) (A.deeper (envOfC qual scope s.heap.objs.size f cd)) (leaving (envOfC qual scope s.heap.objs.size f cd) e) (λ_ a=>CX outer H s E e a) (λb a=>CX outer H s E b a) c
def ZjU{sc:Scope}(h:sc.names.lookup x=some .cell):∃c,(cellsFrom n sc.names []).lookup x=some c:=by
 have q:=W.cellsFrom_some sc.names n [] (.inl h);exact Option.isSome_iff_exists.mp q
def ZmP{CX:CXT}{P:Program}{w:World}{K:W.Frag}{mg:Str->Option Value}{base:Heap}{N ps:List Str}{qual:Str}{scope:Scope}{f:Addr}{cd:Value}{A:Around}{outer:List Env}{s s1:Shared}{H:Hp}{E:XK}{us:List Value}{vs:List V}(S:ZaE N ps scope)(hd:A.handled=none)(e0:Env0 P w K mg base A outer s H)(hl:vs.length=ps.length)(r:Vals vs us)(x:InCallC s s.heap.objs.size (bindL (envOfC qual scope s.heap.objs.size f cd).kindOf (ps.zip us) λ_=>none) (cellsFrom (s.heap.objs.size+1) scope.names []) (bindC (envOfC qual scope s.heap.objs.size f cd).kindOf (ps.zip us) λ_=>none) s1) :
  Inv (cxOf CX P w K mg base N qual scope f cd A outer s H E) [] (start N vs) H s1:=by
 have C:ps.length<=N.length:=by have:=Vaw List.length S.pre;rw [VaY] at this;omega
 obtain ⟨n,F,rfl,t⟩:=x.done;have g:∀b:Addr,b∉(cxOf CX P w K mg base N qual scope f cd A outer s H E).ex:=λb z=>aB (show b∈([]:List Addr) from z) (by simp)
 refine ⟨⟨e0.mod,S.kind,rfl,rfl,VaF _,λy z c n d=>?_,λy hy=>?_,λy c _ h=>?_,λ_=>hd,Around.frames_deeper e0.frames,.inr ⟨rfl,rfl⟩,λb z=>aB z (g b),e0.bs,e0.bsz,λb _ _=>g b,λb z=>aB z (g b),e0.funs,e0.frf⟩,
  rfl,e0.bare,Un.kept t,⟨_,x.toInCall.ns,λi y v n d G=>?_⟩,λy c h=>⟨_,x.cell y c h⟩,e0.hok.fresh (VaF _),λy c h=>?_,λp j=>aB (show p∈([]:List (Addr×Obj)) from j) (by simp),e0.hok.kept t,?_⟩
 .exact name_of_addr x.apart (VaZ n) (VaZ d)
 .have hy:scope.names.lookup y=some .cell\/scope.names.lookup y=some .free:=hy;rcases hy with hy | hy
  .exact ZjU hy
  .exact aB rfl (S.nofree _ (VaZ hy))
 .exact Vam (x.above y c (VaZ h))
 .have m:i<vs.length:=by
   unfold start at d;by_cases m:i<vs.length
   .exact m
   .rw [Va0 (by simpa using m)] at d;rw [Va1] at d;split at d<;>cases d
  have D:vs[i]?=some v:=by
   unfold start at d;rw [Va2 (by simpa using m),Va3] at d;cases e:vs[i]? with
   | none=>rw [e] at d;cases d
   | some a=>rw [e] at d;cases d;rfl
  obtain ⟨u,o,B⟩:=r.get D;have j:ps[i]?=some y:=by
   rw [<-S.pre,List.getElem?_take_of_lt (by omega)];exact n
  have l:ps.Nodup:=by rw [<-S.pre];exact S.nd.sublist (List.take_sublist _ _)
  refine ⟨u,B,?_⟩;rcases S.par y (Va4 j) with k | k
  .exact .inl ⟨k,ZhZ l j o k⟩
  .obtain ⟨c,e⟩:=ZjU k;refine .inr ⟨.inl k,c,e,?_⟩;have q:=x.cell y c e;rw [ZiS l j o (by show scope.names.lookup y≠_;rw [k];decide)] at q;exact q
 .exact e0.hok.fresh (Vam (x.above y c (VaZ h)))
 .unfold start;show _=N.length;rw [Va5,VaO,Va6];omega
def ZoO{CX:CXT}{P:Program}{w:World}{K:W.Frag}{mg:Str->Option Value}{base:Heap}{k:Nat}{f:Addr}{name qual:Str}{params:Arguments}{body:List Stmt}{scope:Scope}{dV kV doc pm cdv ct oc:Value}{an od:Option Addr}{osl:Array (Option Value)}{N ps:List Str}{sp:Sp}(lk:K.lookup f=some ⟨oc,od,.func (W.fnOf name qual params body scope dV kV doc pm an cdv ct),osl⟩)(hcd:W.codeIn K cdv qual=true)(S:ZaE N ps scope)(len:∀vs H Q E,sp vs H Q E->vs.length=ps.length) (hbody:∀(A:Around) (outer:List Env) (s:Shared) (H:Hp) (vs:List V) (Q:VK) (E:XK),Room k (A.deeper (envOfC qual scope s.heap.objs.size f cdv))->sp vs H Q E ->
   ∃t,PSs (cxOf CX P w K mg base N qual scope f cdv A outer s H E) body t/\t { nx:=λ_ H'=>Q .non H',rt:=Q } (start N vs) H) :
  FnOk P w K mg base CX (k+1) f (W.fnOf name qual params body scope dV kV doc pm an cdv ct) ps sp:=by
 refine ⟨len,λA outer s H C D vs Q E m g R r d=>?_⟩;have L:=len _ _ _ _ d;have z:=g.mod.kin.keeps λb o e=>(g.bs b o e).1;have j:=g.mod.nolimit.keeps λb o e=>(g.bs b o e).1;have a:∀y∈ps.zip D,scope.names.lookup y.1=some .local\/(scope.names.lookup y.1=some .cell/\((cellsFrom (s.heap.objs.size+1) scope.names []).lookup y.1).isSome=true):=λ⟨n,v⟩ G=>by
  rcases S.par n (VaX G).1 with q | q
  .exact .inl q
  .exact .inr ⟨q,W.cellsFrom_some _ _ _ (.inl q)⟩
 refine codeAny_call_function m.depth (z _ _ lk) rfl S.co S.gen rfl (W.codeRec_of z hcd) (R _ _ _ _ ?_);refine wpAny_newFunctionEnv_cells S.kind a λO U B x=>?_;subst U;refine ⟨j.keeps x.toInCall.keep,codeAny_func ?_⟩;obtain ⟨t,F,T⟩:=hbody A outer s H vs Q E (m.deeper _) d;have I:Inv (cxOf CX P w K mg base N qual scope f cdv A outer s H E) [] (start N vs) H B:=ZmP S m.hd g L r x;refine Vau (F [] B (start N vs) H _ I T) (λM p c=>?_) λe p c=>c;have h:∀{i:St} {H':Hp} {v:V} {u:Value},Inv (cxOf CX P w K mg base N qual scope f cdv A outer s H E) [] i H' p->RelV v u->Q v H'->CE outer P w H s Q u p :=
  λ{i H' v u} J l q=>⟨v,H',J.os,J.bare,J.base,J.hok,l,q⟩
 cases M with
 | ret u=>
  obtain ⟨v,i,H',J,l,q⟩:=c;exact h J l q
 | next=>
  obtain ⟨i,H',J,q⟩:=c;exact h (v:=V.non) J rfl q
 | brk=>
  obtain ⟨_,_,_,q⟩:=c;exact False.elim q
 | cont=>
  obtain ⟨_,_,_,q⟩:=c;exact False.elim q
section
variable{X:Cx}{x:Str}{p pos:Pos}{e:Expr}{es:List Expr}{t:TA}{id T:String}{r:List V->Hp->VK->Prop}
def tCB(r:List V->Hp->VK->Prop)(t:TA):TE:=λY H Q=>t Y H λb a=>r b a Q
def ZjR(hc:Zef X (.builtin id) r)(hg:Gl X x)(hm:X.mg x=none)(hv:bootBuiltins x=some (.builtin id))(ha:PA X (e::es) t)(hn:x ≠ "__name__":=by decide)(hdb:ND x:=by decide)(he:starEach (e::es) X.env=(false,eval e X.env)::starEach es X.env:=by rfl)(hpl:(backTo pos (starEach es X.env)).any (·.1)=false:=by rfl):PE X (.Call (.Name x p) (e::es) [] pos) (tCB r t):=by
 intro a s Y H Q I h;refine VaV (Zfr I hg hm hv ?_ hn hdb);exact PyProof.Rows.callWith_builtin1 (thn (ha pos a s Y H _ I h) λf b zq=>by obtain ⟨j,d,g,c,i⟩:=zq;exact hc a b Y d j f Q g c i) he hpl
def ZiL(hc:Zef X (.type T) r)(hg:Gl X x)(hm:X.mg x=none)(hv:bootBuiltins x=some (.type T))(ha:PA X (e::es) t)(hn:x ≠ "__name__":=by decide)(hdb:ND x:=by decide)(he:starEach (e::es) X.env=(false,eval e X.env)::starEach es X.env:=by rfl)(hpl:(backTo pos (starEach es X.env)).any (·.1)=false:=by rfl):PE X (.Call (.Name x p) (e::es) [] pos) (tCB r t):=by
 intro a s Y H Q I h;refine VaV (Zfr I hg hm hv ?_ hn hdb);exact VaG (thn (ha pos a s Y H _ I h) λf b zq=>by obtain ⟨j,d,g,c,i⟩:=zq;exact hc a b Y d j f Q g c i) he hpl
end
end L2
namespace HT
section
open PySem.SeqAt
open PySem.AutoSeq1 (wpAny_loadPart')
open PySem.MeetsSeq PySem.MeetsSeq2 PySem.MeetsSeq3
end
section
variable{prog:Program}{w:World}{A:Around}{E:Value->Shared->Prop}{s:Shared}
def ZqK(ht:IsTup s.heap t vs.toArray)(hb:IsTup s.heap b ws.toArray)(hv:vs≠[])(h1:ws=[]->Q (.ref t) s)(h2:ws≠[]->Q (.ref s.heap.objs.size) { s with heap:=s.heap.push { cls:=.type "tuple",data:=.seq (vs++ws).toArray } })(hsz:vs.length+ws.length<=sizeLine):wpAny (model prog w) A (binaryOp .Add (.ref t) (.ref b)) Q E s:=by
 obtain ⟨⟨cls,j,data,p⟩,h,l,n,m⟩:=id ht;obtain ⟨⟨o,c,i,d⟩,a,f,k,g⟩:=id hb;simp only at l m f g;subst l m f g;have e:vs.toArray++ws.toArray=(vs++ws).toArray:=by simp
 by_cases hw:ws=[]
 .exact concat_meets ⟨_,h,rfl⟩ ⟨_,a,rfl⟩ noFill_tuple_add seq_tuple_add PySem.F.slot_tuple_add PySem.F.entry_tuple_add (PySem.F.args_tuple_add_2 _ _)
   (tuple_addW1 t b vs.toArray ws.toArray n k j c p d (by simpa using hv) (by simp [hw])) ⟨h,a,h1 hw⟩
 .refine concat_meets ⟨_,h,rfl⟩ ⟨_,a,rfl⟩ noFill_tuple_add seq_tuple_add PySem.F.slot_tuple_add PySem.F.entry_tuple_add (PySem.F.args_tuple_add_2 _ _)
   (tuple_addW2 t b vs.toArray ws.toArray n k j c p d (by simpa using hv) (by simpa using hw) (by rw [VaK,VaK];exact hsz)) ⟨h,a,?_⟩
  rw [e];exact h2 hw
def sIx(n d:Nat):Option Int->Nat
 | none=>d
 | some v=>if v<0 then (v+(n:Int)).toNat else min v.toNat n
def ZnB(v:Int)(n d:Nat):(if v<0 then max (v+(n:Int)) 0 else min v (n:Int))=((sIx n d (some v):Nat):Int):=by
 show (if v<0 then max (v+(n:Int)) 0 else min v (n:Int))=(((if v<0 then (v+(n:Int)).toNat else min v.toNat n):Nat):Int)
 by_cases hv:v<0
 .simp only [iP hv];omega
 .simp only [iN hv];omega
def Zk2(lo hi:Option Int)(n:Nat):Builtin.Slice.sliceAdjust lo hi 1 (n:Int)=(((sIx n 0 lo:Nat):Int),((sIx n n hi:Nat):Int)):=by
 have a:¬((1:Int)<0):=by omega
 unfold Builtin.Slice.sliceAdjust;simp only [a,Va7];refine Vab ?_ ?_
 .cases lo with
  | none=>rfl
  | some v=>exact ZnB v n 0
 .cases hi with
  | none=>rfl
  | some v=>exact ZnB v n n
def Zld(i j:Nat):Builtin.Slice.slicePlaces (i:Int) (j:Int) 1=j - i:=by
 unfold Builtin.Slice.slicePlaces;have a:(1:Int)>0:=by omega
 simp only [a,Va8,Int.ediv_one];split<;>omega
def ZgL(p:IsPart v o)(h:Q o s):wpAny (model prog w) A (Builtin.Slice.slicePartIndex v) Q E s:=by
 cases p with
 | none=>exact slicePart_none h
 | int i t=>exact slicePart_int h
def Zds{sl:Addr}{vl vu:Value}{lo hi:Option Int}{n:Nat}{Q:Int×Int×Nat->Shared->Prop}(hs:s.heap.IsSliceOf sl vl vu .none)(pl:IsPart vl lo)(pu:IsPart vu hi)(h:Q (((sIx n 0 lo:Nat):Int),1,sIx n n hi - sIx n 0 lo) s):wpAny (model prog w) A (Builtin.Slice.sliceApplied (.ref sl) (pure (n:Int))) Q E s:=by
 obtain ⟨d,b,c,a⟩:=id hs;unfold Builtin.Slice.sliceApplied Builtin.Slice.sliceFields;refine Vax (Vax (Va9 b a rfl (Vax (Va9 b a rfl (Vax (Va9 b a rfl (Vay ?_)))))));refine Vax (slicePart_none ?_);rw [iN (by decide)];refine Vax (ZgL pl (Vax (ZgL pu (Vax (Vay ?_)))));show wpAny _ _ (match Builtin.Slice.sliceAdjust lo hi 1 (n:Int) with | (lo,hi)=>pure (lo,(1:Int),Builtin.Slice.slicePlaces lo hi 1)) _ _ s
 rw [Zk2 lo hi n];show wpAny _ _ (pure (((sIx n 0 lo:Nat):Int),(1:Int),Builtin.Slice.slicePlaces ((sIx n 0 lo:Nat):Int) ((sIx n n hi:Nat):Int) 1)) _ _ s;rw [Zld];exact Vay h
def Zo9(xs:Array Value)(i k:Nat):((List.range k).filterMap λ(m:Nat)=>xs[((i:Int)+(m:Int)*1).toNat]?).toArray=((xs.toList.drop i).take k).toArray:=by
 have e:(λ(m:Nat)=>xs[((i:Int)+(m:Int)*1).toNat]?)=λm=>xs[i+m]?:=by
  funext m;have:((i:Int)+(m:Int)*1).toNat=i+m:=by omega
  rw [this]
 rw [e];have:=pick_run xs i k;rw [List.filterMap_map] at this;have a:((λx=>xs[x]?) ∘ λx=>i+x)=λm=>xs[i+m]?:=rfl;rw [a] at this;rw [this]
def Ze3{t sl:Addr}{items:Array Value}{vl vu:Value}{lo hi:Option Int}{Q:Value->Shared->Prop}(ht:IsTup s.heap t items)(hs:s.heap.IsSliceOf sl vl vu .none)(pl:IsPart vl lo)(pu:IsPart vu hi)(hw:¬(sIx items.size 0 lo=0/\sIx items.size items.size hi=items.size))(h:Q (.ref s.heap.objs.size) { s with heap:=s.heap.push { cls:=.type "tuple",data:=.seq ((items.toList.drop (sIx items.size 0 lo)).take (sIx items.size items.size hi - sIx items.size 0 lo)).toArray } })(hsz:items.size<=sizeLine):wpAny (model prog w) A (getItem (.ref t) (.ref sl)) Q E s:=by
 have a:sizeOk (.seq ((items.toList.drop (sIx items.size 0 lo)).take (sIx items.size items.size hi - sIx items.size 0 lo)).toArray):=by
  show ((items.toList.drop (sIx items.size 0 lo)).take (sIx items.size items.size hi - sIx items.size 0 lo)).toArray.size<=sizeLine;rw [VaK,VaY,Vba,Vav];omega
 obtain ⟨f,c,e,g⟩:=id hs;have b:s.TypeIs (.ref sl) "slice":=⟨f,c,e⟩;unfold getItem
 try with_reducible refine Vbb ?_
 first | refine Vax (Vay ?_) | skip
 refine Vax (wpAny_sequenceKey ht.typeIs (by decide) ?_)
 refine Vax (Vbc ht.typeIs Vbd
  (Vbe Vbd ht.typeIs entry_tuple_getitem ?_ (args_tuple_getitem _ _)))
 show wpAny _ _ (Builtin.Tuple.tupleItemsOf (.ref t) >>= _) _ _ s;refine Vax (tupleItemsOf_ ht ?_);refine Vax (Vbf b ?_);rw [iP (by decide)];refine Vax (Zds hs pl pu ?_);have d:¬((((sIx items.size 0 lo:Nat):Int)==0&&(1:Int)==1&&(sIx items.size items.size hi - sIx items.size 0 lo)==items.size)=true):=by
  intro q;rw [Vbg,Vbg] at q;have j:=eq_of_beq q.1.1;have i:=eq_of_beq q.2;exact hw ⟨by omega,by omega⟩
 show wpAny _ _ (if (((sIx items.size 0 lo:Nat):Int)==0&&(1:Int)==1&&(sIx items.size items.size hi - sIx items.size 0 lo)==items.size)=true then _ else _) _ _ s
 rw [iN d,Zo9]
 first
  | exact Vax (Vaz (Vay ⟨_,rfl,Vay h⟩) a)
  | exact Vax (Vaz (Vax (Vay (Vay ⟨_,rfl,Vay h⟩))) a)
  | exact Vax (Vax (Vaz (Vay (Vay ⟨_,rfl,Vay h⟩)) a))
  | exact Vax (Vax (Vaz (Vay ⟨_,rfl,Vay h⟩) a))
end
end HT
namespace L2
abbrev TO:=St->Hp->(Option Int->Hp->Prop)->Prop
def PO(X:Cx)(e:Option Expr)(t:TO):Prop :=
 ∀a s Y H Q,Inv X a Y H s->t Y H Q ->
  wX X (evalPart e X.env) (λu c=>∃o b,Inv X a Y b c/\IsPart u o/\Q o b) X.xe s
def Zjv:TO:=λ_ H Q=>Q none H
def ZrT(t:TE):TO:=λY H Q=>t Y H λx a=>∃i,x=.int i/\Q (some i) a
section
variable{X:Cx}{e:Expr}{te:TE}{lo hi:Option Expr}{tl th:TO}{pos p2:Pos}
def Zq0:PO X none Zjv:=by
 intro a s Y H Q I h;rw [evalPart_none];exact Vay ⟨none,H,I,.none,h⟩
def ZqQ(h:PE X e te):PO X (some e) (ZrT te):=by
 intro a s Y H Q I d;rw [evalPart_some];refine thn (h a s Y H _ I d) λu j zq=>?_;obtain ⟨x,c,f,b,g⟩:=zq;obtain ⟨i,rfl,q⟩:=g;obtain ⟨t,rfl⟩:=b;exact ⟨some i,c,f,.int i t,q⟩
def SlR(X:Cx)(r:V->Option Int->Option Int->Hp->VK->Prop):Prop :=
 ∀a s Y H x v b c e d f Q,Inv X a Y H s->RelV x v->s.heap.IsSliceOf f b c .none->IsPart b e->IsPart c d->r x e d H Q ->
  ∃T g,typeLookup (.type T) "__getitem__"=pure (some (.builtin g))/\s.TypeIs v T/\wX X (getItem v (.ref f)) (EP X a Y Q) X.xe s
def SlR.or(h:SlR X r)(h':SlR X r'):SlR X (λx lo hi H Q=>r x lo hi H Q\/r' x lo hi H Q):=by
 intro a s Y H x v e b lo hi i Q I f g c d q;rcases q with q | q
 .exact h a s Y H x v e b lo hi i Q I f g c d q
 .exact h' a s Y H x v e b lo hi i Q I f g c d q
def tSl(r:V->Option Int->Option Int->Hp->VK->Prop)(te:TE)(tl th:TO):TE:=λY H Q=>te Y H λx b=>tl Y b λl a=>th Y a λu c=>r x l u c Q
def Zka(hr:SlR X r)(he:PE X e te)(hl:PO X lo tl)(hu:PO X hi th):PE X (.Subscript e (.Slice lo hi none p2) pos) (tSl r te tl th):=by
 intro a s Y H Q I h;refine Subscript_ (thn (he a s Y H _ I h) λv w zq=>?_);obtain ⟨x,z,k,y,F⟩:=zq;refine wpAny_Slice (thn (hl a w Y z _ k F) λf B zq=>?_);obtain ⟨l,i,C,m,E⟩:=zq;refine thn (hu a B Y i _ C E) λd c zq=>?_;obtain ⟨u,g,D,p,n⟩:=zq;rw [evalPart_none];refine Vay ?_;have t:Inv X a Y g { c with heap:=c.heap.push { cls:=.type "slice",data:=.fields #[f,d,.none] } }:=D.kept λb G q=>VaA _ q
 obtain ⟨T,J,j,A,o⟩:=hr a { c with heap:=c.heap.push { cls:=.type "slice",data:=.fields #[f,d,.none] } } Y g x v f d l u c.heap.objs.size Q t y (Heap.IsSliceOf.new ..) m p n;exact tail_any A j o (by with_unfolding_all rfl)
def cutV(xs:List V)(lo hi:Option Int):List V:=(xs.drop (HT.sIx xs.length 0 lo)).take (HT.sIx xs.length xs.length hi - HT.sIx xs.length 0 lo)
def ZfW(xs)(lo hi):(cutV xs lo hi).length<=xs.length:=by
 unfold cutV;rw [VaY,Vba];omega
def rSlT(K:W.Frag):V->Option Int->Option Int->Hp->VK->Prop:=λx c d H Q=>∃a b,x=.ref a/\SqT K H a b /\
 ¬(HT.sIx b.length 0 c=0/\HT.sIx b.length b.length d=b.length)/\∀p,H p=none->Q (.ref p) (upd H p (.tup (cutV b c d)))
def ZtL:SlR X (rSlT X.K):=by
 intro g s Y H x v y u e i z Q I o t m n h;obtain ⟨a,d,rfl,l,p,q⟩:=h;cases o;obtain ⟨f,r,k,j⟩:=I.tuple l;have c:f.toArray.size=d.length:=by rw [VaK];exact r.length.symm
 refine ⟨"tuple",_,PyProof.Rows.slot_tuple_getitem.lookup,k.typeIs,?_⟩;refine HT.Ze3 k t m n (by rw [c];exact p) ?_ (by rw [c];exact j);rw [c];refine ⟨.ref s.heap.objs.size,_,I.laid (λb w q=>VaA _ q) (VaF _) ?_,rfl,q _ (I.hok.fresh (VaF _))⟩;exact ⟨Vak (ZfW d e i) j,_,(r.drop (HT.sIx d.length 0 e)).take (HT.sIx d.length d.length i - HT.sIx d.length 0 e),IsTup.new _ _⟩
def ZwF(K:W.Frag):R2:=λx y H Q=>∃a b d c,x=.ref a/\y=.ref b/\SqT K H a d/\SqT K H b c/\d≠[]/\d.length+c.length<=sizeLine /\
 (c=[]->Q (.ref a) H)/\(c≠[]->∀p,H p=none->Q (.ref p) (upd H p (.tup (d++c))))
def Vals.nil_iff(r:Vals xs us):us=[]↔xs=[]:=by
 cases r with
 | nil=>simp
 | cons _ _=>simp
def ZqO:OpR X (binaryOp .Add) (ZwF X.K):=by
 intro e s Y H x y v u Q I n l h;obtain ⟨a,b,C,B,rfl,rfl,m,k,i,g,p,o⟩:=h;cases n;cases l;obtain ⟨r,d,t,_⟩:=I.tuple m;obtain ⟨f,c,j,_⟩:=I.tuple k;refine HT.ZqK t j (λz=>i (d.nil_iff.mp z)) (λz=>⟨.ref a,H,I,rfl,p (c.nil_iff.mp z)⟩) (λz=>?_) (by rw [<-d.length,<-c.length];exact g);refine ⟨.ref s.heap.objs.size,_,I.laid (λb A q=>VaA _ q) (VaF _) ?_,rfl,o (λw=>z (c.nil_iff.mpr w)) _ (I.hok.fresh (VaF _))⟩;exact ⟨by rw [Va5];exact g,_,d.append c,IsTup.new _ _⟩
end
def ixN(n:Nat)(i:Int):Option Nat:=if 0<=i then (if i<n then some i.toNat else none) else if -(n:Int)<=i then some (i+n).toNat else none
def atI(xs:List α)(i:Int):Option α:=(ixN xs.length i).bind λj=>xs[j]?
def ZqW(h:ixN n i=some j):seqIndex? i n=some j/\j<n/\-(n:Int)<=i/\i<n:=by
 unfold ixN at h;by_cases h0:0<=i
 .rw [iP h0] at h;by_cases h1:i<n
  .rw [iP h1] at h;have e:=Vaa h;exact ⟨by rw [seqIndex_of h0 h1,e],by omega,by omega,h1⟩
  .rw [iN h1] at h;cases h
 .rw [iN h0] at h;by_cases h1:-(n:Int)<=i
  .rw [iP h1] at h;have e:=Vaa h;exact ⟨by rw [seqIndex_neg (by omega) h1,e],by omega,h1,by omega⟩
  .rw [iN h1] at h;cases h
def Znz(h:atI xs i=some v):∃j,seqIndex? i xs.length=some j/\xs[j]?=some v/\j<xs.length/\-(xs.length:Int)<=i/\i<xs.length:=by
 unfold atI at h;cases e:ixN xs.length i with
 | none=>rw [e] at h;cases h
 | some j=>
  rw [e] at h;obtain ⟨c,d,b,a⟩:=ZqW e;exact ⟨j,c,h,d,b,a⟩
def Zm5(b:Expr):Prop:=∀o i,subscripted b false o i=operate [o,i] (getItem o i)
def IxR(X:Cx)(r:R2):Prop :=
 ∀c a b s Y H x y v u Q,Inv X b Y H s->RelV x v->RelV y u->r x y H Q ->
  subscripted a false v u=operate [v,u] (getItem v u)->wX X (subscriptTail c a v u) (EP X b Y Q) X.xe s
def MtR(X:Cx)(id:String)(r:V->List V->Hp->VK->Prop):Prop :=
 ∀a s Y H x b v c Q,Inv X a Y H s->RelV x v->Vals b c->r x b H Q ->
  wX X (call (.builtin id) (v::c)) (EP X a Y Q) X.xe s
section
variable{X:Cx}{a b:Expr}{ta tb:TE}{pos:Pos}
def IxR.or(h:IxR X r)(h':IxR X r'):IxR X (λx y H Q=>r x y H Q\/r' x y H Q):=by
 intro a b c s Y H x y v u Q I e d q f;rcases q with q | q
 .exact h a b c s Y H x y v u Q I e d q f
 .exact h' a b c s Y H x y v u Q I e d q f
def ZsI(hr:IxR X r)(ha:PE X a ta)(hb:PE X b tb)(hs:Zm5 b):PE X (.Subscript a b pos) (tOp r ta tb):=by
 intro c s Y H Q I h;exact Subscript_ (binT ha hb I h λv u f x y d g i e q=>hr a b c f Y d x y v u Q g i e q (hs _ _))
def rIxL(K:W.Frag):R2:=λx y H Q=>∃p a i v,x=.ref p/\y=.int i/\SqL K H p a/\atI a i=some v/\Q v H
def rIxT(K:W.Frag):R2:=λx y H Q=>∃p a i v,x=.ref p/\y=.int i/\SqT K H p a/\atI a i=some v/\Q v H
def Zi5:IxR X (rIxL X.K):=by
 intro d f a s Y H x y v u Q I G A h n;obtain ⟨p,L,i,z,rfl,rfl,B,F,q⟩:=h;cases G;obtain ⟨t,rfl⟩:=A;obtain ⟨g,r,e,M⟩:=I.list B;obtain ⟨j,c,C,N,D,o⟩:=Znz F;obtain ⟨w,m,l⟩:=r.get C;have E:=r.length;have J:=Zj3;have b:EP X a Y Q w s:=⟨z,H,I,l,q⟩;by_cases h0:0<=i
 .have k:i.toNat=j:=by
   rw [seqIndex_of h0 o] at c;exact Vaa c
  exact item_listR e.isList h0 (by omega) (by rw [k];simpa using m) b n
 .have k:(i+(g.toArray.size:Int)).toNat=j:=by
   rw [seqIndex_neg (by omega) D] at c;rw [VaK,<-E];exact Vaa c
  exact subscriptTail_builtinR e.isList.typeIs slot_list_getitem.lookup
   (wpAny_getItem_list_neg e.isList (by omega) (by rw [VaK]<;>omega) (by omega) (by rw [k];simpa using m) ⟨rfl,b⟩) n
def ZlP:IxR X (rIxT X.K):=by
 intro b c a s Y H x y v u Q I C l h D;obtain ⟨p,G,i,z,rfl,rfl,m,B,q⟩:=h;cases C;obtain ⟨t,rfl⟩:=l;obtain ⟨n,r,f,J⟩:=I.tuple m;obtain ⟨j,k,o,M,L,E⟩:=Znz B;obtain ⟨w,g,d⟩:=r.get o;have A:=r.length;have F:=Zj3;have e:EP X a Y Q w s:=⟨z,H,I,d,q⟩;exact subscriptTail_builtinR f.typeIs slot_tuple_getitem.lookup
  (getItem_tuple f (by omega) (by omega) (by rw [VaK,<-A];exact k) (by simpa using g) ⟨rfl,e⟩) D
def ZiT(lo hi)(n):(sliceBounds lo hi none n).1=((HT.sIx n 0 lo:Nat):Int)/\(sliceBounds lo hi none n).2.1=((HT.sIx n n hi:Nat):Int)/\(sliceBounds lo hi none n).2.2=1:=by
 refine ⟨?_,?_,rfl⟩
 .cases lo with
  | none=>simp [sliceBounds,HT.sIx]
  | some i=>
   simp only [sliceBounds,HT.sIx,Option.getD_none,show (1:Int)>0 by decide,Va8];by_cases h:i<0
   .simp only [h,Va8]<;>omega
   .simp only [h,Va7]<;>omega
 .cases hi with
  | none=>simp [sliceBounds,HT.sIx]
  | some i=>
   simp only [sliceBounds,HT.sIx,Option.getD_none,show (1:Int)>0 by decide,Va8];by_cases h:i<0
   .simp only [h,Va8]<;>omega
   .simp only [h,Va7]<;>omega
def Zhj(its:List Value)(lo hi:Option Int):slicePick its.toArray lo hi none=((its.drop (HT.sIx its.length 0 lo)).take (HT.sIx its.length its.length hi - HT.sIx its.length 0 lo)).toArray:=by
 obtain ⟨b,c,a⟩:=ZiT lo hi its.toArray.size;unfold slicePick;rw [b,c,a];simp only [sliceRange_one,pick_run,VaK]<;>rfl
def rSlL(K:W.Frag):V->Option Int->Option Int->Hp->VK->Prop:=λx c d H Q=>∃a b,x=.ref a/\SqL K H a b/\∀p,H p=none->Q (.ref p) (upd H p (.lst (cutV b c d)))
def Zru:SlR X (rSlL X.K):=by
 intro f s Y H x v w t e g y Q I n o k l h;obtain ⟨a,c,rfl,j,q⟩:=h;cases n;obtain ⟨p,r,i,m⟩:=I.list j;have d:=r.length;refine ⟨"list",_,slot_list_getitem.lookup,i.isList.typeIs,?_⟩;refine wpAny_getItem_list_slice i.isList o k l .none (by simp) ?_ (by rw [VaK]<;>omega);rw [Zhj,<-d];refine ⟨.ref s.heap.objs.size,_,I.laid (λb u q=>VaA _ q) (VaF _) ?_,rfl,q _ (I.hok.fresh (VaF _))⟩;exact ⟨Vak (ZfW c e g) m,_,0,(r.drop (HT.sIx c.length 0 e)).take (HT.sIx c.length c.length g - HT.sIx c.length 0 e),VaE _ rfl⟩
def Zfi:Zef X (.builtin "len") (λxs H Q=>∃p ys,xs=[.ref p]/\(SqL X.K H p ys\/SqT X.K H p ys)/\Q (.int ys.length) H):=by
 intro e s Y H xs j Q I r h;obtain ⟨p,ys,rfl,hq,q⟩:=h;obtain ⟨u,rfl,g⟩:=vals1 r;cases g;have i:=Zj3;rcases hq with hq | hq
 .obtain ⟨d,b,c,f⟩:=I.list hq;have a:=b.length;exact Calls.call_len_list c.isList (by simp only [VaK]<;>omega) ⟨.int ys.length,H,I.tok _,⟨s.toks+1,by rw [VaK,a]⟩,q⟩
 .obtain ⟨d,b,c,f⟩:=I.tuple hq;have a:=b.length;exact len_tuple c (by simp only [VaK]<;>omega) ⟨.int ys.length,H,I.tok _,⟨s.toks+1,by rw [VaK,a]⟩,q⟩
def Zh5:Zef X (.type "list") (λxs H Q=>∃p ys,xs=[.ref p]/\(SqL X.K H p ys\/SqT X.K H p ys)/\∀l,H l=none->Q (.ref l) (upd H l (.lst ys))):=by
 intro i s Y H xs B Q I r h;obtain ⟨p,ys,rfl,hq,q⟩:=h;obtain ⟨u,rfl,A⟩:=vals1 r;cases A;have k:∀a,Vals ys a->ys.length<=sizeLine->∀c f,(∀b z,s.heap.get? b=some z->c.get? b=some z) ->
   c.get? s.heap.objs.size=some { cls:=.type "list",dict:=none,data:=.seq a.toArray f,slots:=#[] }->EP X i Y Q (.ref s.heap.objs.size) { s with heap:=c }:=λa d j c f g e=>
  ⟨.ref s.heap.objs.size,_,I.laid g (VaF _) (show ZdD X.prog X.w _ c _ (.lst ys) from ⟨j,a,f,d,e⟩),rfl,q _ (I.hok.fresh (VaF _))⟩
 rcases hq with hq | hq
 .obtain ⟨a,d,y,j⟩:=I.list hq;have m:=d.length;obtain ⟨o,v,t,n,x⟩:=y.isList;exact call_list_seq p (.inl rfl) v t x (λc f g e=>k a d j c f g e) (by simp only [VaK]<;>omega)
 .obtain ⟨a,d,y,j⟩:=I.tuple hq;have m:=d.length;obtain ⟨o,v,t,n,x⟩:=y;exact call_list_seq p (.inr rfl) v t x (λc f g e=>k a d j c f g e) (by simp only [VaK]<;>omega)
def Zb5:Zef X (.type "tuple") (λxs H Q=>∃p ys,xs=[.ref p]/\((SqL X.K H p ys/\∀l,H l=none->Q (.ref l) (upd H l (.tup ys)))\/(SqT X.K H p ys/\Q (.ref p) H))):=by
 intro c s Y H xs v Q I r h;obtain ⟨p,ys,rfl,h⟩:=h;obtain ⟨u,rfl,t⟩:=vals1 r;cases t;rcases h with ⟨hq,q⟩ | ⟨hq,q⟩
 .obtain ⟨a,d,f,j⟩:=I.list hq;have k:=d.length;refine call_tuple_list f.isList (λg m=>?_) (by simp only [VaK]<;>omega);have i:=I.kept (t':=s.toks) m;have n:Inv X c Y (upd H g.objs.size (.tup ys)) { s with heap:=g.push { cls:=.type "tuple",data:=.seq a.toArray } } :=
   i.laid (λb o e=>VaA _ e) (VaF _) (⟨j,a,d,IsTup.new _ _⟩)
  exact ⟨.ref g.objs.size,_,n,rfl,q _ (i.hok.fresh (VaF _))⟩
 .obtain ⟨a,d,f,j⟩:=I.tuple hq;exact call_tuple_same f ⟨.ref p,H,I,rfl,q⟩
def tyV(K:W.Frag)(T:String)(x:V)(H:Hp):Prop:=match x with
 | .str _=>T = "str"
 | .int _=>T = "int"
 | .ref p=>(T = "list"/\∃b,SqL K H p b)\/(T = "tuple"/\∃o,K.lookup p=some o/\o.cls=.type "tuple"/\o.dict=none) \/False
 | _=>False
def Zs8(I:Inv X pins Y H s)(r:RelV x v)(ty:tyV X.K T x H) :
  s.TypeIs v T/\∀a,v=.ref a->∃ob,s.heap.get? a=some ob/\ob.dict=none:=by
 cases x with
 | str z=>
  obtain ⟨t,rfl⟩:=r;cases (ty);exact ⟨Vbh s z t,λ_ e=>nomatch e⟩
 | int i=>
  obtain ⟨t,rfl⟩:=r;cases (ty);exact ⟨typeIs_int s i t,λ_ e=>nomatch e⟩
 | ref p=>
  cases r;rcases ty with ⟨rfl,xs,hq⟩ | ⟨rfl,o,hk,hc,b⟩ | c
  .obtain ⟨g,_,f,_⟩:=I.list hq;refine ⟨f.isList.typeIs,λa e=>?_⟩;cases e;obtain ⟨o,n,e,c,b,_⟩:=f;exact ⟨o,e,b⟩
  .refine ⟨⟨o,I.kIn p o hk,hc⟩,λa e=>?_⟩;cases e;exact ⟨o,I.kIn _ o hk,b⟩
  .exact c.elim
 | _=>exact False.elim ty
def tBM(K:W.Frag)(T:String)(r:V->List V->Hp->VK->Prop)(to:TE)(t:TA):TE:=λY H Q=>to Y H λx a=>tyV K T x a/\t Y a λc b=>r x c b Q
variable{o e:Expr}{es:List Expr}{to:TE}{t:TA}{name:Str}{apos cpos:Pos}{T id:String}{r:V->List V->Hp->VK->Prop}
def Zk4(pa:PlainAttrs T)(slot:Slot T name id)(hty:typeOf (.builtin id)=pure (.type "method_descriptor"))(hm:MtR X id r)(ho:PE X o to)(ha:PA X (e::es) t)(hbase:attributeBase o name X.env (eval o X.env)=eval o X.env:=by rfl) (hfew:((backTo cpos (starEach (e::es) X.env)).all (λx=>!x.1)&&(backToKw cpos (keywordEach [] X.env)).all (λx=>x.1.isSome)
   && decide ((e::es).length+([]:List Keyword).length+(if ([]:List Keyword).isEmpty then 0 else 1)<30))=true:=by rfl) (hline:(apos.endLine==cpos.line)=true:=by rfl) (hs:starEach (e::es) X.env=(false,eval e X.env)::starEach es X.env:=by rfl) (hplain:(backTo cpos (starEach es X.env)).any (·.1)=false:=by rfl) :
  PE X (.Call (.Attribute o name apos) (e::es) [] cpos) (tBM X.K T r to t):=by
 intro a s Y H Q I h;refine wpAny_Call_method_late hbase hfew hline rfl (thn (ho a s Y H _ I h) λv k zq=>?_);obtain ⟨x,m,c,d,y,u⟩:=zq;obtain ⟨l,i⟩:=Zs8 c d y;refine ⟨T,id,pa,slot,hty,l,i,?_⟩;have b:=ha cpos a k Y m _ c u;rw [hs] at b ⊢;refine Calls.callWith_builtin (by show (false||(backTo cpos (starEach es X.env)).any (·.1))=false;rw [hplain]<;>rfl) (Calls.evalArgs_plain ?_);exact thn b λg n ⟨w,f,p,j,q⟩=>hm a n Y f x w v g Q p d j q
end
def MtM(X:Cx)(id:String)(r:V->List V->Hp->VK->Prop):Prop :=
 ∀a s Y H x b v c Q,Inv X a Y H s->RelV x v->Vals b c->r x b H Q ->
  wX X (call (.builtin id) (v::c)) (EP X a Y Q) X.xe s
def Vals.one:∀{x:V} {us:List Value},Vals [x] us->∃u,us=[u]/\RelV x u
 | _,_,.cons r .nil=>⟨_,rfl,r⟩
section
variable{X:Cx}{pins:List (Addr×Obj)}{Y:St}{H:Hp}{s:Shared}{l b:Addr}{xs ys zs:List V}
def Inv.lset{its its':List Value}(I:Inv X pins Y H s)(hH:H l=some (.lst xs))(e:s.heap.get? l=some { cls:=.type "list",data:=.seq its.toArray n })(hf:f its.toArray=its'.toArray)(hv:Vals ys its')(hz:ys.length<=sizeLine) :
  Inv X pins Y (upd H l (.lst ys)) { s with heap:=s.heap.update l (Obj.mapSeq f),toks:=t' }:=by
 have q:=PySem.IsL.update e f;rw [hf] at q;refine I.write (by rw [hH];exact trivial) (.inl rfl) (λc u a b=>(Vbi s.heap (Obj.mapSeq f) (Ne.symm a)).trans b) ⟨_,q⟩ ?_;exact ⟨hz,its',_,hv,q⟩
def Inv.lnew(I:Inv X pins Y H s)(hv:Vals ys its)(hz:ys.length<=sizeLine) :
  Inv X pins Y (upd H s.heap.objs.size (.lst ys)) { s with heap:=s.heap.push { cls:=.type "list",data:=.seq its.toArray },toks:=t' } :=
 I.laid (λ_ _ q=>VaA _ q) (VaF _) ⟨hz,its,0,hv,VaE _ rfl⟩
def Inv.fresh(I:Inv X pins Y H s):H s.heap.objs.size=none:=I.hok.fresh (VaF _)
def Inv.lstM(I:Inv X pins Y H s)(hH:H l=some (.lst xs)):xs.length<=sizeLine/\∃its n,Vals xs its/\xs.length=its.length/\s.heap.get? l=some { cls:=.type "list",data:=.seq its.toArray n }:=by
 obtain ⟨z,its,n,r,e⟩:=I.hok l _ hH;exact ⟨z,its,n,r,r.length,e⟩
end
section
variable{X:Cx}
def Zbp:V->List V->Hp->VK->Prop:=λx b H Q=>∃l a y,x=.ref l/\b=[y]/\H l=some (.lst a)/\a.length<sizeLine/\Q .non (upd H l (.lst (a++[y])))
def ZeJ:MtM X "list.append" Zbp:=by
 intro b s Y H x o v j Q I g f h;obtain ⟨l,k,y,rfl,rfl,c,m,q⟩:=h;cases g;obtain ⟨u,rfl,d⟩:=f.one;obtain ⟨z,a,n,r,i,e⟩:=I.lstM c;refine call_meets F.slot_list_append ⟨_,e,rfl⟩ F.entry_list_append (F.args_list_append_2 _ _) (PySem.list_append l a.toArray n u (by rw [VaK];omega)) ⟨e,?_⟩;refine ⟨.non,_,I.lset c e (by simp) (r.append (.cons d .nil)) ?_,rfl,q⟩;rw [Va5,Vbj];omega
end
section
variable{prog:Program}{w:World}{A:Around}{E:Value->Shared->Prop}{s:Shared}
set_option maxRecDepth 100000 in
end
end L2
namespace Att
open PySem.W PySem.Calls
def Zf7:∀ns vs,WellAll P h vs (ns.map WData.int)->IntsAre vs ns:=by
 intro ns
 induction ns with
 | nil=>
  intro vs w;rw [List.map_nil] at w;cases w;exact .nil
 | cons n ns ih=>
  intro vs w;rw [VaN] at w;cases w with
  | cons a b=>
   cases a;exact .cons _ _ (ih _ b)
def Zl6{l:OpenLaw}(hn:l.most=some n){h:Heap}(hpre:l.row.toRowW.claim.pre args=true)(hwl:WellAll P h vals args) :
  ∃a vs ns,vals=[Value.ref a]/\args=[WData.list (ns.map WData.int)]/\h.get? a=some { cls:=.type "list",data:=.seq vs.toArray }/\IntsAre vs ns/\ns.length<=n:=by
 have f:=(pre_splitW hpre).1;have g:l.pre.holds [] { args:=args }=true:=(pre_splitW hpre).2;obtain ⟨d,r,rfl,j,m⟩:=hasAllW_cons f;obtain rfl:=hasAllW_nil m;obtain ⟨o,rfl,k⟩:=hasW_list j;obtain ⟨ns,rfl⟩:=items_int k;have b:ns.length<=n:=by
  unfold OpenLaw.pre at g;have c:(WTm.not (.lt (.lit (.int n)) (.len (.arg 0)))).holds [] { args:=[.list (ns.map .int)] }=true:=by
   have c:=(holds_andW g).1;rw [hn] at c;exact c
  have e:=condW_of c (w_not (w_lt w_lit (w_len_list (w_arg rfl))));rw [VaO] at e;refine Nat.le_of_not_lt λq=>?_;have i:(n:Int)<((ns.length:Nat):Int):=by omega
  first
   | (rw [Vbk i] at e;exact aB e (by decide))
   | (simp at e;omega)
 cases hwl with
 | cons w1 w2=>
  cases w2;cases w1 with
  | list ho hall=>exact ⟨_,_,ns,rfl,rfl,ho,Zf7 ns _ hall,b⟩
def Zmz(l:OpenLaw)(args:List WData):l.row.toRowW.claim.post args (.bool true) args=true :=
 postW_of
  (by first | rfl | decide | simp [WShape.has,WShape.arms,WShape.armsAll])
  (w_eq_bool (w_res rfl) w_lit) rfl
def Zjm{l:OpenLaw}{d:DefRec}(hn:l.most=some n)(hdf:d.params.defaults=[]) (call:∀(w:World) (s₀ s₁:Shared) (mg mb:Str->Option Value) (fa:Addr) (o:Obj) (pm cd doc:Value) (a:Addr) (vs:List Value) (ns:List Int),
   Ground q loose [] XP w s₀ mg mb s₁.heap->YP w s₁.heap ->
   s₁.heap.get? fa=some o->o.data=.func (docDef d.name d.params d.body d.scope pm cd doc)->s₁.heap.CodeRec cd d.name->mg d.name=some (.ref fa) ->
   s₁.heap.get? a=some { cls:=.type "list",data:=.seq vs.toArray }->IntsAre vs ns->ns.length<=n->s₁.gens=#[] ->
   codeAny (model l.prog w) callerA (.call (.ref fa) ⟨[.ref a],[]⟩) (λr s'=>r=.ok (.ret (.bool true))/\OldK s₁.heap s'.heap/\s'.os=s₁.os/\AllBare s'.gens) s₁) :
  WalkO q loose XP YP l.row.toRowW d [] (λf vs=>PySem.call f vs):=by
 intro w s₀ s₁ mg mb G u fa o pm cd doc D H z A i k h E p s I c m v j t;obtain rfl:D=.none:=Dflts.none k hdf;obtain rfl:H=.none:=Dflts.noKw k;obtain ⟨a,vs,ns,rfl,rfl,e,b,g⟩:=Zl6 hn c j;refine enter_call (VaU (call w s₀ s₁ mg mb fa o pm cd doc a vs ns G u z (fd_plain A) i h e b g E) λr s' F=>?_);obtain ⟨rfl,y,C,B⟩:=F;exact ⟨.inl ⟨.bool true,.bool true,[],rfl,λ_=>rfl,.bool true,Zmz l _,λ_=>⟨List.Pairwise.nil,λ_ x=>(nomatch x)⟩⟩,y,C,B⟩
end Att
namespace L2
def Zh3:∀{vs:List Value} {ns:List Int},IntsAre vs ns->Vals (ns.map V.int) vs
 | _,_,.nil=>.nil
 | _,_,.cons n t h=>.cons ⟨t,rfl⟩ (Zh3 h)
def Only(H:Hp):Prop:=∀b,H b=none\/∃o a,H b=some (.frz o (.lst a))
def ZoX{K:W.Frag}{s₁:Shared}{vs:List Value}{ns:List Int}(KX:K.In s₁.heap)(hns:s₁.heap.Ns mainGlobals mg)(hb:s₁.heap.Ns builtinsNs mb)(hbb:∀x:Str,x ≠ "__name__"->mb x=bootBuiltins x)(hlim:s₁.heap.NoLimit)(hg:s₁.gens=#[])(ha:s₁.heap.get? a=some { cls:=.type "list",data:=.seq vs.toArray })(hi:IntsAre vs ns)(hl:ns.length<=sizeLine)(hr:Room k callerA)(F:∀base:Heap,K.In base->base.Ns mainGlobals mg->FnOk P w K mg base CX k fa fd [x] sp)(hbind:∀(s:Shared) (u:Value),BindsTo s fd ⟨[u],[]⟩ [(x,u)])(hsp:∀H:Hp,Only H->SqL K H a (ns.map V.int)->sp [.ref a] H (λv _=>v=.bl true) λ_ _ _=>False)(hCX:∀H e s',CX [] H s₁ (λ_ _ _=>False) e s'->False) :
  codeAny (model P w) callerA (.call (.ref fa) ⟨[.ref a],[]⟩) (λr s'=>r=.ok (.ret (.bool true))/\OldK s₁.heap s'.heap/\s'.os=s₁.os/\AllBare s'.gens) s₁:=by
 have G:=Zh3 hi;have l:=hi.length;have g:∀H:Hp,Only H->SqL K H a (ns.map V.int)->HOk P w H s₁.heap->(∀b,H b≠none->b=a)->(H a≠none->K.lookup a=none) ->
   codeAny (model P w) callerA (.call (.ref fa) ⟨[.ref a],[]⟩) (λr s'=>r=.ok (.ret (.bool true))/\OldK s₁.heap s'.heap/\s'.os=s₁.os/\AllBare s'.gens) s₁:=by
  intro H J X t I M;have c:∀{b:Addr} {o:Obj},s₁.heap.get? b=some o->H b=none->(hidT s₁.heap H).get? b=some o:=λe n=>Zpb e n;have D:∀{b:Addr} {o:Obj} {B:Array DictEntry} {A:Nat},s₁.heap.get? b=some o->o.data=.dict B A->H b=none:=λ{b o B A} e d=>by
   cases q:H b with
   | none=>rfl
   | some u=>
    have C:=I b (by rw [q];simp);subst C;rw [ha] at e;cases e;have O:=d;cases O
  have f:∀{b:Addr} {m:Str->Option Value},s₁.heap.Ns b m->(hidT s₁.heap H).Ns b m:=λ{b m} ⟨o,B,A,e,d,r⟩=>⟨o,B,A,c e (D e d),d,r⟩
  have y:K.In (hidT s₁.heap H):=λb o e=>c (KX b o e) (by
   cases q:H b with
   | none=>rfl
   | some u=>
    have C:=I b (by rw [q];simp);subst C
    rw [M (by rw [q];simp)] at e;cases e)
  have T:Mod K mg (hidT s₁.heap H):=⟨y,f hns,⟨mb,f hb,hbb⟩,let ⟨mc,h1,h2⟩:=hlim;⟨mc,f h1,h2⟩⟩;have Q:Env0 P w K mg (hidT s₁.heap H) callerA [] s₁ H:=⟨rfl,T,λb o e=>ZsF e,Nat.le_of_eq (Znd _ _),trivial,λb hb=>aB (show b∈([]:List Addr) from hb) (by simp),t,.of_eq hg⟩;refine VaU ((F _ y (f hns)).run callerA [] s₁ H ⟨[.ref a],[]⟩ [.ref a] [.ref a] _ _ hr Q (hbind s₁ (.ref a)) (.cons rfl .nil) (hsp H J X)) λr s' h=>?_;cases r with
  | error e=>exact (hCX H e s' h).elim
  | ok fl=>
   cases fl with
   | next=>exact False.elim h
   | brk=>exact False.elim h
   | cont=>exact False.elim h
   | ret u=>
    obtain ⟨v,Y,os,j,L,p,S,q⟩:=h;have N:=q;subst N;obtain rfl:u=Value.bool true:=S;refine ⟨rfl,OldK.of_keep λb o e=>?_,os,j⟩;cases q:H b with
    | none=>exact L.keep b o e q (by intro z;exact aB (show b∈([]:List Addr) from z) (by simp)) (by simp)
    | some u=>
     rcases J b with z | ⟨ob,xs,z⟩
     .rw [q] at z;cases z
     .have U:=L.frzs b ob _ z;obtain ⟨E,_⟩:=t b _ z;obtain ⟨R,_⟩:=p b _ U;rw [e] at E;cases E;exact R
 cases hk:K.lookup a with
 | some o=>
  have e:=KX a o hk;rw [ha] at e;cases e;refine g (λ_=>none) (λ_=>.inl rfl) (.inr ⟨_,vs.toArray,_,hk,rfl,rfl,rfl,by rw [VaK,l];exact hl,by simpa using G⟩) (λb u z=>by have i:(none:Option HO)=some u:=z;cases i) (λb z=>aB rfl z) λz=>aB rfl z
 | none=>
  refine g (λb=>if b=a then some (.frz { cls:=.type "list",data:=.seq vs.toArray } (.lst (ns.map V.int))) else none) (λb=>?_) (.inl (.inr ⟨{ cls:=.type "list",data:=.seq vs.toArray },iP rfl⟩)) (λb u z=>?_) (λb z=>?_) λ_=>hk
  .by_cases hb:b=a
   .exact .inr ⟨_,_,iP hb⟩
   .exact .inl (iN hb)
  .by_cases hb:b=a
   .have i:=(iP hb).symm.trans z;cases i;subst hb;exact ⟨ha,by rw [VaO];exact hl,vs,_,G,ha⟩
   .have i:=(iN hb).symm.trans z;cases i
  .by_cases hb:b=a
   .exact hb
   .exact aB (iN hb) z
def Zr0{l:W.OpenLaw}{n k:Nat}{q:Program}{loose:List Str}{XP:(Str->Option Value)->Heap->Prop}{YP:World->Heap->Prop}{d:DefRec}{K:Params->W.Frag}{CX:World->CXT}{sp:World->Sp}{x:Str}(hn:l.most=some n)(hn2:n<=sizeLine)(hdf:d.params.defaults=[])(hr:Room k callerA)(hY:∀(w:World) (h:Heap),YP w h->(K w.params).In h) (F:∀(w:World) (mg:Str->Option Value) (fa:Addr) (h:Heap),(K w.params).In h->h.Ns mainGlobals mg->mg d.name=some (.ref fa) ->
   ∃fd:FuncData,(∀(s:Shared) (u:Value),BindsTo s fd ⟨[u],[]⟩ [(x,u)]) /\
    ∀base:Heap,(K w.params).In base->base.Ns mainGlobals mg->FnOk l.prog w (K w.params) mg base (CX w) k fa fd [x] (sp w)) (hsp:∀(w:World) (H:Hp) (a:Addr) (ns:List Int),ns.length<=n->Only H->SqL (K w.params) H a (ns.map V.int)->sp w [.ref a] H (λv _=>v=.bl true) λ_ _ _=>False) (hCX:∀(w:World) (H:Hp) (s:Shared) (e:Value) (s':Shared),CX w [] H s (λ_ _ _=>False) e s'->False) :
  W.WalkO q loose XP YP l.row.toRowW d [] (λf vs=>PySem.call f vs):=by
 refine Att.Zjm hn hdf λw r j mg M fa o O J y a vs ns G z L N D p m i c A=>?_;have t:=hY w _ z;obtain ⟨fd,B,E⟩:=F w mg fa _ t G.T.g p;exact ZoX t G.T.g G.T.b G.T.builtins G.T.nolimit A m i (Vak c hn2) hr E B (λH C I=>hsp w H a ns c C I) λH e s'=>hCX w H j e s'
abbrev E0:XK:=λ_ _ _=>False
structure Fun(K:W.Frag)(x qual:Str)(st:Stmt)(f:Addr)(fd:FuncData):Prop where
 ex:∃(oc:Value) (od:Option Addr) (kV doc pm:Value) (an:Option Addr) (cdv ct:Value) (osl:Array (Option Value)),
  fd=W.fnOf x qual (ZcQ st) (Zbd st) (Zag st) .none kV doc pm an cdv ct/\K.lookup f=some ⟨oc,od,.func fd,osl⟩/\W.codeIn K cdv qual=true
 kp:W.keepIn K (.ref f)=true
section
variable{P:Program}{w:World}{K:W.Frag}{mg:Str->Option Value}{base:Heap}
def Fun.binds{x qual:Str}{st:Stmt}{f:Addr}{fd:FuncData}{ps:List Str}(F:Fun K x qual st f fd)(h:∀(kV doc pm:Value) (an:Option Addr) (cdv ct:Value) (us:List Value),us.length=ps.length->bindArgs (W.fnOf x qual (ZcQ st) (Zbd st) (Zag st) .none kV doc pm an cdv ct) ⟨us,[]⟩=pure (ps.zip us)):Binds K fd ps []:=by
 obtain ⟨e,c,kV,doc,pm,an,cdv,ct,b,rfl,d,a⟩:=F.ex;exact .all (h kV doc pm an cdv ct)
def Zbr{x qual:Str}{st:Stmt}{f:Addr}{oc:Value}{od an:Option Addr}{osl:Array (Option Value)}{kV doc pm cdv ct:Value}(l:K.lookup f=some ⟨oc,od,.func (W.fnOf x qual (ZcQ st) (Zbd st) (Zag st) .none kV doc pm an cdv ct),osl⟩)(c:W.codeIn K cdv qual=true)(k:W.keepIn K (.ref f)=true):Fun K x qual st f (W.fnOf x qual (ZcQ st) (Zbd st) (Zag st) .none kV doc pm an cdv ct):=⟨⟨oc,od,kV,doc,pm,an,cdv,ct,osl,rfl,l,c⟩,k⟩
end
def Same(H H':Hp):Prop:=∀b o,H b=some o->H' b=some o
def Same.refl(H):Same H H:=λ_ _ h=>h
def Same.trans(a:Same H H1)(b:Same H1 H2):Same H H2:=λc o h=>b c o (a c o h)
def Same.free(e:Same H H')(h:H' l=Option.none):H l=Option.none:=by
 cases q:H l with
 | none=>rfl
 | some o=>
  rw [e l o q] at h;cases h
def Same.seq{K:W.Frag}{H H':Hp}{a:Addr}{xs:List V}(e:Same H H')(h:SqL K H a xs):SqL K H' a xs:=by
 rcases h with (h | ⟨o,h⟩) | h
 .exact .inl (.inl (e _ _ h))
 .exact .inl (.inr ⟨o,e _ _ h⟩)
 .exact .inr h
end L2
section
variable{X:L2.Cx}{Y:L2.St}{H:L2.Hp}{s:PySem.Shared}{pins:List (PySem.Addr×PySem.Obj)}{us:List PySem.Value}{pos spos cpos pos':PySem.Pos}{A:PySem.Around}{i n k j:Nat}{e:PySem.Expr}{w:PySem.World}{P:PySem.Program}{K:W.Frag}{x:PySem.Str}{xs:List L2.V}{mg:PySem.Str->Option PySem.Value}{base:PySem.Heap}{ps N:List PySem.Str}{es:List PySem.Expr}{te:L2.TE}{fd:PySem.FuncData}
namespace L2
section
def Zqr:OpR X (binaryOp .Mult) (rI IntMulOk λi j=>.int (i*j)):=opI λ_ _ _ _ _ _ _ a q=>mul_int q a
def ZqT(_ j:Int):Prop:=j≠0/\j.natAbs.log2<9000
def Zoz:OpR X (binaryOp .FloorDiv) (rI ZqT λi j=>.int (i.fdiv j)):=opI λ_ _ _ _ _ _ _ a q=>floordiv_int a.1 q (.inl (PyProof.noPylong_of_log2 a.2))
def Zvl{n:String}(hg:Gl X x)(hm:X.mg x=none)(hv:bootBuiltins x=some (.type n))(hn:x ≠ "__name__":=by decide)(hd:ND x:=by decide):PE X (.Name x pos) (tC (.ty n)) :=
 ZrB hg hm hv rfl hn hd
end
def Zs6:bootBuiltins "abs"=some (.builtin "abs"):=by decide +kernel
def ZiM:bootBuiltins "all"=some (.builtin "all"):=by decide +kernel
def Zha:bootBuiltins "isinstance"=some (.builtin "isinstance"):=by decide +kernel
def ZjF:bootBuiltins "len"=some (.builtin "len"):=by decide +kernel
def ZpA:bootBuiltins "int"=some (.type "int"):=by decide +kernel
def Zqe:bootBuiltins "bool"=some (.type "bool"):=by decide +kernel
def Zev:bootBuiltins "tuple"=some (.type "tuple"):=by decide +kernel
def Zi1:bootBuiltins "list"=some (.type "list"):=by decide +kernel
def ZpY:bootBuiltins "str"=some (.type "str"):=by decide +kernel
def ZtI:bootBuiltins "zip"=some (.type "zip"):=by decide +kernel
def Zow(K)(t):W.kitOne K t t=some true:=by
 unfold W.kitOne;rw [iP (beq_self_eq_true t)]
def Zuo(K)(hne:(Value.type T==Value.type U00)=false)(hm:W.kitMeta U00=true)(h:(fastBuiltinMro T).map (·.contains (Value.type U00))=some b):W.kitOne K (.type T) (.type U00)=some b:=by
 unfold W.kitOne;rw [iN (by rw [hne];exact VaC)];show (if W.kitMeta U00=true then _ else none)=_
 rw [iP hm];exact h
mutual
inductive DV(K:W.Frag)(H:Hp):V->PyData->Prop
 | non:DV K H .non .none
 | bl (b:Bool):DV K H (.bl b) (.bool b)
 | int (i:Int):DV K H (.int i) (.int i)
 | str (x:Str):DV K H (.str x) (.str x)
 | tup {a:Addr} {xs:List V} {ds:List PyData} (h:SqT K H a xs) (r:DVs K H xs ds):DV K H (.ref a) (.tuple ds)
 | lst {a:Addr} {xs:List V} {ds:List PyData} (h:SqL K H a xs) (r:DVs K H xs ds):DV K H (.ref a) (.list ds)
inductive DVs(K:W.Frag)(H:Hp):List V->List PyData->Prop
 | nil:DVs K H [] []
 | cons {x:V} {xs:List V} {d:PyData} {ds:List PyData} (h:DV K H x d) (r:DVs K H xs ds):DVs K H (x::xs) (d::ds)
end
section
mutual
def DV.reads(I:Inv X pins Y H s){x:V}{d:PyData}{u:Value}(h:DV X.K H x d)(r:RelV x u):∃as,Reads s.heap u d as:=by
 cases h with
 | non=>cases r;exact ⟨_,.none⟩
 | bl b=>cases r;exact ⟨_,.bool b⟩
 | int i=>obtain ⟨t,rfl⟩:=r;exact ⟨_,.int i t⟩
 | str i=>obtain ⟨t,rfl⟩:=r;exact ⟨_,.str i t⟩
 | tup h q=>
  cases r;obtain ⟨f,g,⟨o,a,j,n,e⟩,_⟩:=I.tuple h;obtain ⟨as,c⟩:=DVs.reads I q g;exact ⟨_,.tuple a j e (by simpa using c)⟩
 | lst h q=>
  cases r;obtain ⟨f,g,k,_⟩:=I.list h;obtain ⟨o,a,j,n,e⟩:=k.isList;obtain ⟨as,c⟩:=DVs.reads I q g;exact ⟨_,.list a j e (by simpa using c)⟩
def DVs.reads(I:Inv X pins Y H s){xs:List V}{ds:List PyData}{us:List Value}(h:DVs X.K H xs ds)(r:Vals xs us):∃as,ReadsAll s.heap us ds as:=by
 cases h with
 | nil=>cases r;exact ⟨_,.nil⟩
 | cons h q=>
  cases r with
  | cons r1 r2=>
   obtain ⟨as,a⟩:=DV.reads I h r1;obtain ⟨c,b⟩:=DVs.reads I q r2;exact ⟨_,.cons a b⟩
end
end
section
def rEqD(K:W.Frag)(f:Bool->Bool):R2:=λx y H Q=>∃a b,DV K H x a/\DV K H y b/\a.canLay0=true/\b.canLay0=true/\a.depth<=60/\Q (.bl (f (PyData.eqv a b))) H
def Zpn(hu:X.A.units+64<cLine):OpR X (compareOp .Eq) (rEqD X.K id):=by
 intro a s Y H x y v u Q I g c h;obtain ⟨m,k,e,d,i,f,n,q⟩:=h;obtain ⟨l,j⟩:=e.reads I g;obtain ⟨o,b⟩:=d.reads I c;exact PySem.SeqAt.compareEq_reads j b i f (by omega) (ZgP I q rfl)
def Zvb(hu:X.A.units+64<cLine):OpR X (compareOp .NotEq) (rEqD X.K not):=by
 intro a s Y H x y v u Q I g c h;obtain ⟨m,k,e,d,i,f,n,q⟩:=h;obtain ⟨l,j⟩:=e.reads I g;obtain ⟨o,b⟩:=d.reads I c;exact PySem.SeqAt.compareNe_reads j b i f (by omega) (ZgP I q rfl)
end
structure Def(K:W.Frag)(mg:Str->Option Value)(x:Str)(st:Stmt)(ps:List Str):Prop where
 ex:∃(f:Addr) (fd:FuncData),Fun K x x st f fd/\Binds K fd ps []/\mg x=some (.ref f)
def ZaM(h:H p=none)(o):Same H (upd H p o):=λb u q=>by rw [Zad (Zac q h)];exact q
end L2
namespace L2
def ZpZ(ts:List Expr)(env:Env):Sem Bool:=match ts with
 | []=>pure true
 | c::_=>isTrue c env (eval c env)
def ZjA(elt target iter c)(scope)(pos)(it acc)(env) :
  compTurn (.ListComp elt [⟨target,iter,[c],0⟩] scope pos) 0 it acc env=(standAt iter.pos >>= λ_=>pyNext it >>= λr=>match r with
   | none=>pure (.done .next)
   | some v=>letOwnedTupleGo target it v >>= λ_=>assign target env v >>= λ_=>
    (forIn [c] true λ(c:Expr) (s:Bool)=>if s=true then (isTrue c env (eval c env) >>= λok=>pure (ForInStep.yield ok)) else pure (ForInStep.yield s)) >>= λs=>if s=true then
     (eval elt env >>= λx=>call (.builtin "list.append") [acc,x] >>= λ_=>pure ()) >>= λ_=>
      again (.compLoop (.ListComp elt [⟨target,iter,[c],0⟩] scope pos) 0 it acc env)
     else again (.compLoop (.ListComp elt [⟨target,iter,[c],0⟩] scope pos) 0 it acc env)):=by rfl
def Ziv(hts:ts.length<=1)(I:Nat->Shared->Prop) (turn:∀n s,I n s->wpAny (model prog w) A (pyNext it) (λr s₁=>match r with
   | none=>R (.ok .next) s₁
   | some v=>wpAny (model prog w) A (letOwnedTupleGo target it v) (λ_ s1'=>wpAny (model prog w) A (assign target env v) (λ_ s₂=>wpAny (model prog w) A (ZpZ ts env) (λb s2'=>if b=true then wpAny (model prog w) A (eval elt env) (λx s₃=>
     wpAny (model prog w) A (call (.builtin "list.append") [acc,x]) (λ_ s₄=>∃m,m<n/\I m s₄) (notedBy (model prog w) A env λe s'=>R (.error e) s') s₃)
     (notedBy (model prog w) A env λe s'=>R (.error e) s') s2' else ∃m,m<n/\I m s2') (notedBy (model prog w) A env λe s'=>R (.error e) s') s₂) (notedBy (model prog w) A env λe s'=>R (.error e) s') s1') (notedBy (model prog w) A env λe s'=>R (.error e) s') s₁) (notedBy (model prog w) A env λe s'=>R (.error e) s') s) (n:Nat) (h:I n s) :
  codeAny (model prog w) A (.compLoop (.ListComp elt [⟨target,iter,ts,0⟩] scope pos) 0 it acc env) R s:=by
 refine codeAny_loop rfl I (λn s l=>?_) n h;refine wpAny_noted ?_
 match ts,hts with
 | [],_=>
  refine Vax (wpAny_standAt (Vax (Vau (turn n s l) (λr s₁ f=>?_) λ_ _ d=>d)));cases r with
  | none=>exact Vay f
  | some v=>
   refine Vax (Vau f (λ_ s1' k=>?_) λ_ _ d=>d);refine Vax (Vau k (λ_ s₂ g=>?_) λ_ _ d=>d);show wpAny _ _ ((pure true:Sem Bool) >>= λb=>if b=true then ((eval elt env >>= λx=>call (.builtin "list.append") [acc,x] >>= λ_=>pure ()) >>= λ_=>again (.compLoop (.ListComp elt [⟨target,iter,[],0⟩] scope pos) 0 it acc env)) else again (.compLoop (.ListComp elt [⟨target,iter,[],0⟩] scope pos) 0 it acc env)) _ _ s₂
   refine Vax (Vau g (λb s2' a=>?_) λ_ _ d=>d);cases b with
   | true=>
    exact Vax (Vax (Vau a (λx s₃ i=>Vax (Vau i (λ_ s₄ j=>Vay (Vay ⟨rfl,j⟩)) λ_ _ d=>d)) λ_ _ d=>d))
   | false=>
    exact Vay ⟨rfl,a⟩
 | [c],_=>
  rw [ZjA];refine Vax (wpAny_standAt (Vax (Vau (turn n s l) (λr s₁ f=>?_) λ_ _ d=>d)));cases r with
  | none=>exact Vay f
  | some v=>
   refine Vax (Vau f (λ_ s1' k=>?_) λ_ _ d=>d);refine Vax (Vau k (λ_ s₂ g=>?_) λ_ _ d=>d);rw [Vbl];refine Vax (Vax ?_);refine Vax (Vau g (λb s2' a=>Vay ?_) λ_ _ d=>d);refine Vay ?_;cases b with
   | true=>
    exact Vax (Vax (Vau a (λx s₃ i=>Vax (Vau i (λ_ s₄ j=>Vay (Vay ⟨rfl,j⟩)) λ_ _ d=>d)) λ_ _ d=>d))
   | false=>
    exact Vay ⟨rfl,a⟩
def Zga:∀names h acc n c,(n,c)∈PySem.cellsFrom h.objs.size names acc->(n,c)∈acc\/((PySem.pushCells h names).IsCell c none/\h.objs.size<=c)
 | [],_,_,_,_,hm=>.inl hm
 | (name,kind)::r,h,acc,n,c,hm=>by
  unfold PySem.cellsFrom at hm;unfold PySem.pushCells;split at hm
  .rename_i hk;rw [iP hk];have a:(n,c)∈PySem.cellsFrom (h.push { cls:=.type "cell",data:=.cell none }).objs.size r ((name,h.objs.size)::acc):=by rw [VaP];exact hm
   rcases Zga r (h.push { cls:=.type "cell",data:=.cell none }) ((name,h.objs.size)::acc) n c a with z | ⟨z1,z2⟩
   .rcases Vaq.mp z with e | z
    .cases e;exact .inr ⟨⟨_,PySem.pushCells_keeps r _ _ _ (VaE _ rfl),rfl⟩,VaF _⟩
    .exact .inl z
   .rw [VaP] at z2;exact .inr ⟨z1,by omega⟩
  .rename_i hk;rw [iN hk];exact Zga r h acc n c hm
def Zf9:∀names k acc,(∀n c,(n,c)∈acc->c<k)->(∀n n' c,(n,c)∈acc->(n',c)∈acc->n=n')->∀n n' c,(n,c)∈PySem.cellsFrom k names acc->(n',c)∈PySem.cellsFrom k names acc->n=n'
 | [],_,_,_,hi,n,n',c,h1,h2=>hi n n' c h1 h2
 | (name,kind)::r,k,acc,hl,hi,n,n',c,h1,h2=>by
  unfold PySem.cellsFrom at h1 h2;split at h1
  .rename_i hk;rw [iP hk] at h2;refine Zf9 r (k+1) ((name,k)::acc) (λm d hm=>?_) (λm a d hm hm'=>?_) n n' c h1 h2
   .rcases Vaq.mp hm with e | hm
    .cases e;exact VaQ _
    .exact Nat.lt_succ_of_lt (hl m d hm)
   .rcases Vaq.mp hm with e | hm<;>rcases Vaq.mp hm' with e' | hm'
    .cases e;cases e';rfl
    .cases e;exact aB (hl _ _ hm') (Vag _)
    .cases e';exact aB (hl _ _ hm) (Vag _)
    .exact hi m a d hm hm'
  .rename_i hk;rw [iN hk] at h2;exact Zf9 r k acc hl hi n n' c h1 h2
def Zgh:∀names k acc,(∀y∈names,y.2=.cell->y.1≠x)->(PySem.cellsFrom k names acc).lookup x=acc.lookup x
 | [],_,_,_=>rfl
 | (name,kind)::r,k,acc,h=>by
  unfold PySem.cellsFrom;split
  .rename_i hk;rw [Zgh r (k+1) _ λy a=>h y (Vap _ a)];have b:name≠x:=h (name,kind) Vao (by simpa using hk);rw [Vbm,beq_false_of_ne (Ne.symm b)]
  .exact Zgh r k acc λy a=>h y (Vap _ a)
def Ze4:∀names k acc,((acc.lookup x).isSome=true\/(x,NameKind.cell)∈names)->((PySem.cellsFrom k names acc).lookup x).isSome=true
 | [],_,_,h=>by
  rcases h with h | h
  .exact h
  .cases h
 | (name,kind)::r,k,acc,h=>by
  unfold PySem.cellsFrom;split
  .rename_i hk;refine Ze4 r (k+1) _ ?_;by_cases e:x=name
   .subst e;exact .inl (by simp)
   .rcases h with h | h
    .exact .inl (by rw [Vbm,beq_false_of_ne e];exact h)
    .rcases Vaq.mp h with z | h
     .cases z;exact aB rfl e
     .exact .inr h
  .rename_i hk;refine Ze4 r k acc ?_;rcases h with h | h
   .exact .inl h
   .rcases Vaq.mp h with z | h
    .cases z;exact aB rfl hk
    .exact .inr h
def Zk5{M:Model}{E:Value->Shared->Prop}{scope:Scope}{globals:Addr}{closure:List (Str×Addr)}{qual:Str}{func:Option Addr}{code:Value}{outer:Env}{builtins:Addr}{Q:Env->Shared->Prop} (hQ:∀h',h'.Ns s.heap.objs.size (λ_=>none)->(∀b o,s.heap.get? b=some o->h'.get? b=some o)->(∀n c,(n,c)∈PySem.cellsFrom (s.heap.objs.size+1) scope.names closure->(n,c)∈closure\/(h'.IsCell c none/\s.heap.objs.size+1<=c)) ->
   Q (newEnv scope s.heap.objs.size globals (PySem.cellsFrom (s.heap.objs.size+1) scope.names closure) qual func code (some outer) builtins) { s with heap:=h' }) :
  wpAny M A (newFunctionEnv scope globals closure [] qual func code (some outer) builtins) Q E s:=by
 simp only [newFunctionEnv,Option.isSome_some,Va8];refine Vax (wpAny_alloc ?_);refine Vax (wpAny_layCells _ (λf a d=>by cases hkc:a==NameKind.cell<;>simp [hkc]) _ _ _ _ ?_);rw [show ({ s with heap:=s.heap.push { cls:=.type "dict",data:=.dict #[] } }:Shared).heap.objs.size=s.heap.objs.size+1 from VaP ..]
 refine Vax (Vay (Vay ?_));refine hQ _ ((Heap.Ns.new s.heap (.type "dict")).keeps (PySem.pushCells_keeps _ _)) (λb o e=>PySem.pushCells_keeps _ _ b o (VaA _ e)) λn c g=>?_;have z:=Zga scope.names (s.heap.push { cls:=.type "dict",data:=.dict #[] }) closure n c (by rw [VaP];exact g);rwa [VaP] at z
def PTs(X:Cx)(ts:List Expr)(tt:TT):Prop :=
 ∀a s Y H Q,Inv X a Y H s->tt Y H Q->wX X (ZpZ ts X.env) (TP X a Y Q) X.xe s
def tYes:TT:=λ_ H Q=>Q true H
def Zq2:PTs X [] tYes:=λ_ _ _ H _ I h=>Vay ⟨H,I,h⟩
def Zqp(h:PT X c tt):PTs X [c] tt:=h
def ZaP(X:Cx)(N:List Str)(scope:Scope)(cl:List (Str×Addr))(C:Addr)(s₂:Shared)(H₂:Hp)(fp:List Addr)(pn:List (Addr×Obj)):Cx :=
 { X with N:=N,s₀:=s₂,H₀:=H₂,env:=compEnvC scope (PySem.cellsFrom (C+1) scope.names cl) C X.env,outer:=X.stack,ex:=fp,fn:=λx=>scope.names.lookup x==some .cell,pn:=pn,xe:=λ_ _=>False }
def ZkF(X:Cx)(sc:Scope)(cl:List (Str×Addr)):List (Str×Nat)->Prop
 | []=>True
 | p::r=>(X.N[p.2]?=some p.1/\X.env.scope.names.lookup p.1=some .cell/\(sc.names.lookup p.1=some .cell)/\∃c,cl.lookup p.1=some c/\X.env.cells.lookup p.1=some c)/\ZkF X sc cl r
def ZkF.get:∀{cap:List (Str×Nat)} {j:Nat} {p:Str×Nat},ZkF X sc cl cap->cap[j]?=some p ->
  X.N[p.2]?=some p.1/\X.env.scope.names.lookup p.1=some .cell/\(sc.names.lookup p.1=some .cell)/\∃c,cl.lookup p.1=some c/\X.env.cells.lookup p.1=some c
 | [],_,_,_,e=>by simp at e
 | _::_,0,_,h,e=>by simp at e;subst e;exact h.1
 | _::_,j+1,_,h,e=>ZkF.get (j:=j) h.2 (by simpa using e)
def capt(Y:St)(cap:List (Str×Nat)):St:=cap.map λp=>(Y[p.2]?).join
def st0(own:List Str)(Y:St)(cap:List (Str×Nat)):St:=List.replicate own.length none++capt Y cap
def ZhF(J:It)(g:TG)(tt:TT)(te:TE)(own:List Str)(cap:List (Str×Nat))(Y:St)(Q:VK)(H1:Hp):Prop:=∃W:Nat->Nat->List V->Hp->Prop,(∃m,W 0 m [] H1)/\∀i m a H,W i m a H->a.length<=sizeLine /\
 ((J.stop i H/\∀p,H p=none->Q (.ref p) (upd H p (.lst a))) \/
  (J.go i H/\∀x e,J.yld i H x e->g x (st0 own Y cap) e λd h=>d.drop own.length=capt Y cap/\tt d h λb f=>if b=true then te d f λv j=>a.length<sizeLine/\∃c,c<m/\W (i+1) c (a++[v]) j else ∃c,c<m/\W (i+1) c a f))
abbrev Fam(α:Type):=Addr->Shared->Hp->List Addr->List (Addr×Obj)->α
def Zh2(wi:TI)(g:Fam TG)(tt:Fam TT)(te:Fam TE)(own:List Str)(cap:List (Str×Nat)):TE:=λY H Q=>wi Y H λJ d=>∀C s a b c,ZhF J (g C s a b c) (tt C s a b c) (te C s a b c) own cap Y Q d
structure Zeb(X:Cx)(own:List Str)(cap:List (Str×Nat))(scope:Scope)(cl:List (Str×Addr)):Prop where
 clos:closureFor scope X.env=pure cl
 kind:scope.kind=.function
 nown:∀x c,(x,c)∈cl->∀y∈scope.names,y.2=.cell->y.1≠x
 locals:∀y∈scope.names,y.2=.local->scope.names.lookup y.1=some .local
 sub:∀x c,(x,c)∈cl->X.env.cells.lookup x=some c
 has:∀k x,((relabel scope X.env).names.lookup x=some .cell\/(relabel scope X.env).names.lookup x=some .free)->∃c,(PySem.cellsFrom k scope.names cl).lookup x=some c
 cap:ZkF X (relabel scope X.env) cl cap
section
variable {own:List Str} {cap:List (Str×Nat)} {scope:Scope} {cl:List (Str×Addr)} {fp:List Addr} {tg:Expr} {J:It} {it:Addr} {tn:Nat->Heap->Prop}
def Zmo(e:(st0 own Y cap)[i]?=some (some v)):∃j p,i=own.length+j/\cap[j]?=some p/\Y[p.2]?=some (some v):=by
 unfold st0 at e;by_cases hi:i<own.length
 .rw [Va2 (by simpa using hi),Va1,iP hi] at e;cases e
 .rw [Va0 (by simpa using hi),Va6] at e;unfold capt at e;rw [Va3] at e;cases q:cap[i - own.length]? with
  | none=>rw [q] at e;cases e
  | some p=>
   rw [q] at e;have a:(Y[p.2]?).join=some v:=Vaa e;refine ⟨i - own.length,p,by omega,q,?_⟩;cases z:Y[p.2]? with
   | none=>rw [z] at a;cases a
   | some o=>rw [z] at a;have b:o=some v:=a;rw [b]
def Inv.comp(I:Inv X pins Y H s)(O:Zeb X own cap scope cl)(T:Turn X.prog X.w X.K tg J fp it tn)(st:tn 0 s.heap)(f:∀b∈fp,FpOk X pins H b)(hC:s.heap.objs.size<=C)(k:∀b o,s.heap.get? b=some o->h'.get? b=some o)(hn:h'.Ns C m)(hx:∀n c,(n,c)∈PySem.cellsFrom (C+1) scope.names cl->(n,c)∈cl\/(h'.IsCell c none/\C+1<=c)) :
  Inv (ZaP X (own++cap.map (·.1)) scope cl C s H fp (X.pn++pins)) [] (st0 own Y cap) H { s with heap:=h',toks:=t' }:=by
 have t:∀{b:Addr} {o:Obj},s.heap.get? b=some o->b≠C:=λe=>Vah (Vaf (Vae e) hC);have a:=λx c e=>I.cell x c (O.sub x c e);have L:∀x c,(x,c)∈cl->c<C+1:=λx c e=>by
  obtain ⟨v,o,A,_⟩:=a x c e;exact Nat.lt_succ_of_le (Vam (Vaf (Vae A) hC))
 have B:∀b∈fp,b≠C:=λb g=>by
  obtain ⟨o,e,_⟩:=T.obj _ _ st b g;exact t e
 refine ⟨⟨I.ok.mod,O.kind,I.ok.glob,I.ok.blt,hC,λx y c E D=>Zf9 scope.names (C+1) cl L (λn R c Z V=>I.ok.inj n R c (O.sub n c Z) (O.sub R c V)) x y c (VaZ E) (VaZ D),O.has (C+1),λx c E D=>?_,I.ok.hd,I.ok.frames,.inl rfl,λb g=>⟨B b g,λx c e=>?_⟩,I.bs,Vak I.ok.bsz I.sz,λb o e g=>?_,λb g z=>?_,I.stack,I.stkFree⟩,
  rfl,I.bare,Un.kept k,⟨m,hn,λi x v E D e3=>?_⟩,λx c e=>?_,?_,λx c e=>?_,λp F=>?_,I.hok.kept k,?_⟩
 .have h:scope.names.lookup x=some .cell:=by simpa [ZaP] using E
  rcases hx x c (VaZ D) with z | ⟨_,z⟩
  .exact aB rfl (O.nown x c z (x,.cell) (VaZ h) rfl)
  .exact Vak hC (Nat.le_of_succ_le z)
 .rcases hx x c (VaZ e) with z | ⟨_,z⟩
  .exact (f b g).2.2.2.2.1 x c (O.sub x c z)
  .obtain ⟨o,eo,_⟩:=T.obj _ _ st b g;exact VaD (Vaf (Vaf (Vae eo) hC) (Nat.le_of_succ_le z))
 .rcases (f b g).2.2.2.1 with z | z
  .exact I.ok.noex b o e z
  .exact aB (Vaf (Vae (I.ok.bs b o e).1) z) (Vag _)
 .rcases Vaq.mp (I.stkSub b z) with q | q
  .exact (f b g).2.1 q
  .exact (f b g).2.2.1 q
 .obtain ⟨j,p,rfl,F,hs⟩:=Zmo D;obtain ⟨c1,N,c3,c,Q,W⟩:=O.cap.get F;have h:(own++cap.map (·.1))[own.length+j]?=some x:=E;rw [Va0 (Nat.le_add_right _ _),Nat.add_sub_cancel_left,Va3,F] at h;have ex:=Vaa h;subst ex;obtain ⟨m2,_,hl⟩:=I.loc;obtain ⟨u,r,l⟩:=hl p.2 p.1 v c1 hs (.inr (.inl N));refine ⟨u,r,.inr ⟨.inl c3,c,(Zgh scope.names (C+1) cl λy hy hk=>O.nown p.1 c (VaZ Q) y hy hk).trans Q,?_⟩⟩;rcases l with ⟨z,_⟩ | ⟨_,c',z,⟨o,A,G⟩⟩
  .have P:X.env.scope.names.lookup p.1=some .local:=z;rw [N] at P;cases P
  .rw [W] at z;cases z;exact ⟨o,k _ _ A,G⟩
 .rcases hx x c (VaZ e) with z | ⟨z,_⟩
  .obtain ⟨v,o,A,G⟩:=a x c z;exact ⟨v,o,k _ _ A,G⟩
  .exact ⟨none,z⟩
 .exact I.hok.fresh hC
 .rcases hx x c (VaZ e) with z | ⟨_,z⟩
  .exact I.freeC x c (O.sub x c z)
  .exact I.hok.fresh (Vak hC (Nat.le_of_succ_le z))
 .have M:p∈X.pn++pins:=by simpa [ZaP] using F
  obtain ⟨e,n,S,U,d⟩:=I.pin p M;exact ⟨k _ _ e,n,t e,λz=>(Vaq.mp (I.stkSub p.1 z)).elim S U,d⟩
 .show (st0 own Y cap).length=(own++cap.map (·.1)).length;unfold st0 capt;simp
def Cx.Ok.rexe{xe:Value->Shared->Prop}(o:X.Ok):({ X with xe:=xe }:Cx).Ok:=by
 cases o;constructor<;>assumption
def Inv.rexe(I:Inv X pins Y H s):Inv { X with xe:=xe } pins Y H s:=by
 obtain ⟨ok,i1,i2,i3,i4,i5,i6,i7,i8,i9,i10⟩:=I;exact ⟨ok.rexe,i1,i2,i3,i4,i5,i6,i7,i8,i9,i10⟩
def ZbI(xf:Addr->Shared->Hp->List Addr->Value->Shared->Prop)(X:Cx)(N:List Str)(scope:Scope)(cl:List (Str×Addr))(C:Addr)(s₂:Shared)(H₂:Hp)(fp:List Addr)(pn:List (Addr×Obj)):Cx:={ ZaP X N scope cl C s₂ H₂ fp pn with xe:=xf C s₂ H₂ fp }
def ZlZ{xf:Addr->Shared->Hp->List Addr->Value->Shared->Prop}{elt iter:Expr}{ts:List Expr}{gF:Fam TG}{ttF:Fam TT}{teF:Fam TE}{E:Value->Shared->Prop}(O:Zeb X own cap scope cl)(hc:X.calm=true)(hgF:∀C s H fp pn,PG (ZbI xf X (own++cap.map (·.1)) scope cl C s H fp pn) tg (gF C s H fp pn))(htF:∀C s H fp pn,PTs (ZbI xf X (own++cap.map (·.1)) scope cl C s H fp pn) ts (ttF C s H fp pn))(heF:∀C s H fp pn,PE (ZbI xf X (own++cap.map (·.1)) scope cl C s H fp pn) elt (teF C s H fp pn))(hts:ts.length<=1)(I2:Inv X pins Y H s)(T:Turn X.prog X.w X.K tg J fp it tn)(st2:tn 0 s.heap)(f2:∀b∈fp,FpOk X pins H b){Q:VK}(hw:∀C s H2 fp pn,ZhF J (gF C s H2 fp pn) (ttF C s H2 fp pn) (teF C s H2 fp pn) own cap Y Q H){R:Value->Addr->Result->Shared->Prop} (fin:∀(D C:Addr) (H':Hp) (s':Shared) (m:Str->Option Value),s.heap.objs.size<=C->s'.heap.Ns C m->H' C=none ->
   (∀h',Heap.SameBut C s'.heap h'->Inv X pins Y H' { s' with heap:=h' })->Q (.ref D) H'->R (.ref D) C (.ok .next) s') (hexc:∀(D C:Addr) (cells:List (Str×Addr)) (e:Value) (s':Shared),s.heap.objs.size<=C->xf C s H fp e s'->notedBy (model X.prog X.w) X.A (compEnvC scope cells C X.env) (λe s'=>R (.ref D) C (.error e) s') e s') :
  wX X (newList []) (λacc s₃=>wX X (newFunctionEnv scope X.env.globals cl [] X.env.qual none .none (some X.env)) (λcenv s₄=>
   codeAny (model X.prog X.w) X.A (.compStart (.ListComp elt [⟨tg,iter,ts,0⟩] scope pos) 0 (.ref it) acc { cenv with scope:=relabel scope X.env }) (R acc cenv.locals) s₄) E s₃) E s:=by
 refine Vaz (Zk5 (λh M hk1 f=>?_));generalize hHh:s.heap.push { cls:=.type "list",dict:=none,data:=.seq ([]:List Value).toArray }=Hh at M hk1 f ⊢;have hCs:Hh.objs.size=s.heap.objs.size+1:=by rw [<-hHh,VaP]
 generalize hCC:Hh.objs.size=C at M f hCs ⊢;generalize hDD:s.heap.objs.size=D at hCs ⊢;have g:D<C:=by omega
 have N:=Vah g;have hsD:=Nat.le_of_eq hDD;have G:s.heap.objs.size<=C:=by omega
 have B:∀{b:Addr} {o:Obj},s.heap.get? b=some o->b<D:=λe=>by rw [<-hDD];exact Vae e
 have old:∀b o,s.heap.get? b=some o->h.get? b=some o:=λb o e=>by
  refine hk1 b o ?_;rw [<-hHh];exact VaA _ e
 have hD0:h.PlainList D #[]:=by
  have z:Hh.get? D=some { cls:=.type "list",dict:=none,data:=.seq ([]:List Value).toArray }:=by
   rw [<-hHh,<-hDD];exact VaE _ rfl
  exact ⟨_,hk1 D _ z⟩
 obtain ⟨W,⟨m0,w0⟩,turn⟩:=hw C s H fp (X.pn++pins);have hg:=hgF C s H fp (X.pn++pins);have ht:=htF C s H fp (X.pn++pins);have he:=heF C s H fp (X.pn++pins);have I':Inv (ZbI xf X (own++cap.map (·.1)) scope cl C s H fp (X.pn++pins)) [] (st0 own Y cap) H { s with heap:=h,toks:=s.toks }:=(I2.comp O T st2 f2 G old M f).rexe
 have cne:∀x c,(PySem.cellsFrom (C+1) scope.names cl).lookup x=some c->(∃v,s.heap.IsCell c v/\X.env.cells.lookup x=some c)\/C<c:=λx c e=>by
  rcases f x c (VaZ e) with z | ⟨_,z⟩
  .obtain ⟨v,hv⟩:=I2.cell x c (O.sub x c z);exact .inl ⟨v,hv,O.sub x c z⟩
  .exact .inr z
 have st':=T.keep _ _ _ st2 λb hb o e=>old b o e;have nofr:∀{a:Addr},s.heap.objs.size<=a->a∉frs X.stack:=λ{a} ha z=>by
  rcases Vaq.mp (I2.stkSub a z) with q | q
  .exact aB (Vaf I2.lt ha) (by rw [q];exact Vag _)
  .exact I2.nofs ha q
 have U:∀b∈fp,b<D:=λb hb=>by
  obtain ⟨o,e,_⟩:=T.obj _ _ st2 b hb;exact B e
 have fpk:∀{H3:Hp} {L:Obj},(∀b∈fp,H3 b=none)->∀b∈fp,FpOk (ZbI xf X (own++cap.map (·.1)) scope cl C s H fp (X.pn++pins)) [(D,L)] H3 b:=λ{H3 L} hn b hb=>by
  obtain ⟨_,f1,f3,f4,f5,f6⟩:=f2 b hb;have lb:=U b hb;refine ⟨hn b hb,(Vah (Vbn lb g)),λz=>?_,.inl hb,λx c e=>?_,λp I=>?_⟩
  .rcases Vaq.mp (I2.stkSub b z) with q | q
   .exact f1 q
   .exact f3 q
  .rcases cne x c e with ⟨_,_,z⟩ | z
   .exact f5 x c z
   .exact VaD (Vbn lb (Vbn g z))
  .rcases Var.mp I with z | z
   .exact f6 p z
   .have z':p=(D,L):=by simpa using z
    subst z';exact VaD lb
 have loop:∀s₃:Shared,s₃={ s with heap:=h } ->
   codeAny (model X.prog X.w) X.A (.compLoop (.ListComp elt [⟨tg,iter,ts,0⟩] scope pos) 0 (.ref it) (.ref D) (compEnvC scope (PySem.cellsFrom (C+1) scope.names cl) C X.env)) (R (.ref D) C) s₃:=by
  rintro s₃ rfl
  refine Ziv hts (λn s'=>∃(i:Nat) (acc:List V) (d:List Value) (H':Hp),Inv (ZbI xf X (own++cap.map (·.1)) scope cl C s H fp (X.pn++pins)) [] (st0 own Y cap) H' s'/\tn i s'.heap/\(∀b∈fp,H' b=none)/\H' D=none /\
   s'.heap.PlainList D d.toArray/\Vals acc d/\W i n acc H') ?_ m0 ⟨0,[],[],H,I',st',λb hb=>(f2 b hb).1,I2.hok.fresh hsD,hD0,.nil,w0⟩
  rintro n s3 ⟨i,acc,d,H3,I3,st3,fr3,nD,⟨P,hD⟩,rv,w3⟩;obtain ⟨hlen,hturn⟩:=turn i n acc H3 w3;have lenV:=rv.length;have pinD:∀{s5:Shared} {H5:Hp},s5.heap.get? D=some { cls:=.type "list",data:=.seq d.toArray P }->H5 D=none->∀p∈[(D,({ cls:=.type "list",data:=.seq d.toArray P }:Obj))],s5.heap.get? p.1=some p.2/\H5 p.1=none/\p.1≠C/\p.1∉frs X.stack/\∀v,p.2.data≠.cell v:=by
   intro s5 H5 e1 e2 p I;have z':p=(D,({ cls:=.type "list",data:=.seq d.toArray P }:Obj)):=by simpa using I
   subst z';exact ⟨e1,e2,N,nofr hsD,λv z=>by cases z⟩
  have I3p:=I3.pins_of (pinD hD nD);rcases hturn with ⟨stop,qn⟩ | ⟨go,step⟩
  .refine Vau (T.done (ZbI xf X (own++cap.map (·.1)) scope cl C s H fp (X.pn++pins)) rfl rfl rfl hc i _ s3 _ H3 (λ_ _=>False) I3p (fpk fr3) st3 stop) (λr s4 h4=>?_) (λ_ _ z=>z.elim);obtain ⟨hr,k⟩:=h4;subst hr;obtain ⟨m4,hm4,_⟩:=k.loc;have hD4:=(k.pin (D,{ cls:=.type "list",data:=.seq d.toArray P }) (VaI _ (by simp))).1;have nC:=k.free;refine fin D C (upd H3 D (.lst acc)) s4 m4 G hm4 (by rw [Zad (Ne.symm N)];exact nC) (λh' sb=>?_) (qn D nD);have kc:=λb o hb e=>sb.extBut b o hb e;have neD:∀{b:Addr} {o:Obj},s.heap.get? b=some o->b≠D:=λe=>Vah (B e);have neC:∀{b:Addr} {o:Obj},s.heap.get? b=some o->b≠C:=λe=>Vah (Vbn (B e) g);refine I2.call' (ch:=fp) k.os ⟨?_,?_,?_,?_,?_,?_,?_⟩ (λa o e=>?_) k.bare (λb hb=>?_)
   .exact λb o e n hb hx=>kc b o (neC e) (k.base.keep b o e n hb hx)
   .intro b o e n hb hx;obtain ⟨sl,q⟩:=k.base.slot b o e n hb hx;exact ⟨sl,kc b _ (neC e) q⟩
   .intro b o e n hx;rw [Zad (neD e)];exact k.base.free b o e n hx
   .intro b o e hx;obtain ⟨o',q⟩:=k.base.there b o e hx;exact ⟨o',kc b _ (neC e) q⟩
   .intro b xs e;have q:=k.base.tups b xs e;rw [Zad (Zac q nD)];exact q
   .intro b o u e;have q:=k.base.frzs b o u e;rw [Zad (Zac q nD)];exact q
   .intro b ps e;obtain ⟨more,q⟩:=k.base.tbls b ps e;exact ⟨more,by rw [Zad (Zac q nD)];exact q⟩
   .by_cases ha:a=D
    .subst ha;rw [Zae] at e;cases e;exact ⟨hlen,d,P,rv,kc _ _ N hD4⟩
    .rw [Zad ha] at e;refine (k.hok a o e).stay (λb u hb q=>kc b u ?_ q) (λb q=>?_) (λb xs q=>?_)
     .rcases hb with rfl | hb
      .exact Zac e nC
      .exact Zac hb nC
     .rw [Zad (Zac q nD)];exact q
     .rw [Zad (Zac q nD)];exact q
   .obtain ⟨_,f1,_,f4,f5,f6⟩:=f2 b hb;exact ⟨f4,f1,f5,f6⟩
  .refine Vau (T.item (ZbI xf X (own++cap.map (·.1)) scope cl C s H fp (X.pn++pins)) rfl rfl rfl hc i _ s3 _ H3 (λ_ _=>False) I3p (fpk fr3) st3 go) (λr s4 h4=>?_) (λ_ _ z=>z.elim);obtain ⟨u,hr,h4⟩:=h4;subst hr;refine Vau h4 (λ_ s5 h5=>?_) (λ_ _ z=>z.elim);obtain ⟨x,H5,I5,r5,y5,t,fr5⟩:=h5;have I5':=I5.pinned (fpk fr5) (T.obj _ _ t);refine Vau (hg _ s5 _ H5 x u _ I5' r5 (step x H5 y5)) (λ_ s6 h6=>?_) (λe s' z=>hexc D C _ e s' G z);obtain ⟨Y6,H6,I6,e6,q6⟩:=h6;refine Vau (ht _ s6 Y6 H6 _ I6 q6) (λbb s6' h6'=>?_) (λe s' z=>hexc D C _ e s' G z);obtain ⟨H6',F,q6'⟩:=h6';have stay:∀{Z:Hp} {s7:Shared},Inv (ZbI xf X (own++cap.map (·.1)) scope cl C s H fp (X.pn++pins)) [] Y6 Z s7->Inv (ZbI xf X (own++cap.map (·.1)) scope cl C s H fp (X.pn++pins)) [] (st0 own Y cap) Z s7:=λ{Z s7} I8=>by
    refine I8.weak (I'.len.trans I8.len.symm) (λj v e=>?_);obtain ⟨l,p,rfl,I,hs⟩:=Zmo e;have q:(Y6.drop own.length)[l]?=some (some v):=by
     rw [e6];unfold capt;rw [Va3,I];show some ((Y[p.2]?).join)=_;rw [hs];rfl
    rwa [List.getElem?_drop] at q
   cases bb with
   | false=>
    obtain ⟨m',hm,w7⟩:=q6';obtain ⟨hD7,S,_⟩:=F.pin (D,{ cls:=.type "list",data:=.seq d.toArray P }) (VaI _ (by simp));have st7:=T.keep _ _ _ t λb hb o e=>(F.pin (b,o) (VaI _ (VaI _ (Zce hb e)))).1;have fr7:∀b∈fp,H6' b=none:=λb hb=>by
     obtain ⟨o,e,_⟩:=T.obj _ _ t b hb;exact (F.pin (b,o) (VaI _ (VaI _ (Zce hb e)))).2.1
    exact ⟨m',hm,i+1,acc,d,H6',stay (F.pins_of λp I=>nomatch I),st7,fr7,S,⟨P,hD7⟩,rv,w7⟩
   | true=>
   refine Vau (he _ s6' Y6 H6' _ F q6') (λy s7 h7=>?_) (λe s' z=>hexc D C _ e s' G z);obtain ⟨v,Z,I7,r7,hl7,m',hm,w7⟩:=h7;obtain ⟨hD7,S,_⟩:=I7.pin (D,{ cls:=.type "list",data:=.seq d.toArray P }) (VaI _ (by simp));have st7:=T.keep _ _ _ t λb hb o e=>(I7.pin (b,o) (VaI _ (VaI _ (Zce hb e)))).1;have fr7:∀b∈fp,Z b=none:=λb hb=>by
    obtain ⟨o,e,_⟩:=T.obj _ _ t b hb;exact (I7.pin (b,o) (VaI _ (VaI _ (Zce hb e)))).2.1
   refine wpAny_list_append_plain ⟨P,hD7⟩ (λh8 hp8 hs8=>?_) (by rw [VaK];omega);have I7w:Inv (ZbI xf X (own++cap.map (·.1)) scope cl C s H fp (X.pn++pins)) [] Y6 Z s7:=I7.pins_of λp I=>nomatch I;have I8:Inv (ZbI xf X (own++cap.map (·.1)) scope cl C s H fp (X.pn++pins)) [] Y6 Z { s7 with heap:=h8 }:=by
    refine I7w.turned (λb o hb e=>hs8.extBut b o hb e) S N (.inr hsD) (λx c e=>?_) (λp I=>?_)
    .rcases cne x c e with ⟨v,⟨o,ho,_⟩,_⟩ | z
     .exact Vah (B ho)
     .exact VaD (Vbn g z)
    .have hp':p∈X.pn++pins:=by simpa [ZbI,ZaP] using I
     exact Vah (B (I2.pin p hp').1)
   have I9:=stay I8;refine ⟨m',hm,i+1,acc++[v],d++[y],Z,I9,T.keep _ _ _ st7 (λb hb o e=>hs8.extBut b o (Vah (U b hb)) e),fr7,S,?_,rv.append (.cons r7 .nil),w7⟩;simpa using hp8
 exact codeAny_compStart_list (loop _ rfl) (T.self X.A 0 _ _ _ st' (loop _ rfl))
def Zkh{elt iter:Expr}{ts:List Expr}{gF:Fam TG}{ttF:Fam TT}{teF:Fam TE}{E:Value->Shared->Prop}(O:Zeb X own cap scope cl)(hc:X.calm=true)(hgF:∀C s H fp pn,PG (ZaP X (own++cap.map (·.1)) scope cl C s H fp pn) tg (gF C s H fp pn))(htF:∀C s H fp pn,PTs (ZaP X (own++cap.map (·.1)) scope cl C s H fp pn) ts (ttF C s H fp pn))(heF:∀C s H fp pn,PE (ZaP X (own++cap.map (·.1)) scope cl C s H fp pn) elt (teF C s H fp pn))(hts:ts.length<=1)(I2:Inv X pins Y H s)(T:Turn X.prog X.w X.K tg J fp it tn)(st2:tn 0 s.heap)(f2:∀b∈fp,FpOk X pins H b){Q:VK}(hw:∀C s H2 fp pn,ZhF J (gF C s H2 fp pn) (ttF C s H2 fp pn) (teF C s H2 fp pn) own cap Y Q H){R:Value->Addr->Result->Shared->Prop} (fin:∀(D C:Addr) (H':Hp) (s':Shared) (m:Str->Option Value),s.heap.objs.size<=C->s'.heap.Ns C m->H' C=none ->
   (∀h',Heap.SameBut C s'.heap h'->Inv X pins Y H' { s' with heap:=h' })->Q (.ref D) H'->R (.ref D) C (.ok .next) s') :
  wX X (newList []) (λacc s₃=>wX X (newFunctionEnv scope X.env.globals cl [] X.env.qual none .none (some X.env)) (λcenv s₄=>
   codeAny (model X.prog X.w) X.A (.compStart (.ListComp elt [⟨tg,iter,ts,0⟩] scope pos) 0 (.ref it) acc { cenv with scope:=relabel scope X.env }) (R acc cenv.locals) s₄) E s₃) E s :=
 ZlZ O hc hgF htF heF hts I2 T st2 f2 hw fin λ_ _ _ _ _ _ z=>z.elim
def Zqt{elt iter:Expr}{wi:TI}{ts:List Expr}{g:Fam TG}{tt:Fam TT}{te:Fam TE}(hi:PI X tg iter wi)(O:Zeb X own cap scope cl)(hc:X.calm=true)(hg:∀C s H fp pn,PG (ZaP X (own++cap.map (·.1)) scope cl C s H fp pn) tg (g C s H fp pn))(ht:∀C s H fp pn,PTs (ZaP X (own++cap.map (·.1)) scope cl C s H fp pn) ts (tt C s H fp pn))(he:∀C s H fp pn,PE (ZaP X (own++cap.map (·.1)) scope cl C s H fp pn) elt (te C s H fp pn))(hts:ts.length<=1)(hs:∀x,foldedSetIterable iter X.env x=pure x:=by intro _;rfl):PE X (.ListComp elt [⟨tg,iter,ts,0⟩] scope pos) (Zh2 wi g tt te own cap):=by
 intro b s Y H Q I h;refine wpAny_comprehension_free rfl hs O.clos O.kind O.locals (thn (hi b s Y H _ I h) λz e a=>thn a λl f c=>?_);obtain ⟨v,fp,B,J,u,rfl,o,T,d,n,t⟩:=c;refine Zkh O hc hg ht he hts o T d n t ?_;intro D C r A m w j y i q;exact ⟨m,j,λp k=>⟨.ref D,r,i p k,rfl,q⟩⟩
def ZkE{elt iter:Expr}{wi:TI}{ts:List Expr}{g:Fam TG}{tt:Fam TT}{te:Fam TE}(hN:X.N.Nodup)(hix:X.N[i]?=some x)(hx:Loc X.env.scope x)(hi:PI X tg iter wi)(O:Zeb X own cap scope cl)(hc:X.calm=true)(hg:∀C s H fp pn,PG (ZaP X (own++cap.map (·.1)) scope cl C s H fp pn) tg (g C s H fp pn))(ht:∀C s H fp pn,PTs (ZaP X (own++cap.map (·.1)) scope cl C s H fp pn) ts (tt C s H fp pn))(he:∀C s H fp pn,PE (ZaP X (own++cap.map (·.1)) scope cl C s H fp pn) elt (te C s H fp pn))(hts:ts.length<=1)(hsw:swapsWith (.ListComp elt [⟨tg,iter,ts,0⟩] scope pos) (some (.Name x pos')) spos.line X.env=pure true:=by rfl)(hs:∀x,foldedSetIterable iter X.env x=pure x:=by intro _;rfl)(hf:X.fn x=true\/X.env.scope.names.lookup x=some .local:=by first | exact .inl rfl | exact .inr rfl | assumption):PS X (.Assign [.Name x pos'] (.ListComp elt [⟨tg,iter,ts,0⟩] scope pos) spos) (tAsg (Zh2 wi g tt te own cap) (Zfc i)):=by
 intro a s Y H D I h;rw [exec_Assign_Name_used _ _ _ _ hsw];refine Vax (wpAny_standAt (Vax ?_))
 refine Vax (Vau (wpAny_comprehension_free rfl hs O.clos O.kind O.locals
  (thn (hi a s Y H _ I h) λxv P f=>thn f λitv K j=>?_)) (λ_ E hq=>Vay (Vay hq)) λ_ _ e=>e)
 obtain ⟨it,fp,tn,J,H2,rfl,d,T,r,f2,hw⟩:=j;refine Zkh O hc hg ht he hts d T r f2 hw ?_;intro A C Q E m k W F R q;have L:=R E.heap (Heap.SameBut.refl ..);obtain ⟨n,V,ep,U,G,hk⟩:=id W;have l:=VaD (Vaf d.lt k);have B:=d.nofs k;have I4:Inv X (a++[(C,n)]) Y Q E:=L.pins_of λp t=>by
  rcases Var.mp t with z | z
  .exact L.pin p (VaI _ z)
  .have S:p=(C,n):=by simpa using z
   subst S;exact ⟨U,F,l,B,λv e=>by rw [G] at e;cases e⟩
 refine wpAny_assign_Name (ZeO I4 hN hix hx (v:=.ref A) rfl (λs5 M=>?_) hf);have u:=(M.pin (C,n) (VaI _ (VaI _ (by simp)))).1;refine ⟨m,⟨n,V,ep,u,G,hk⟩,λh' Z=>⟨_,Q,?_,q⟩⟩;refine (M.unpinned).turned (λb o hb e=>Z.extBut b o hb e) F l (.inr (Vak d.sz k)) (λy c e=>?_) (λp t=>?_)
 .obtain ⟨v,o,w,_⟩:=d.cell y c e;exact Vah (Vaf (Vae w) k)
 .exact Vah (Vaf (Vae (d.pin p t).1) k)
end
def ZfD(scope out:Scope):List (Str×NameKind):=scope.names.map λ(n,k)=>if (k==.free&&out.kind==.function&&out.names.lookup n==some .cell) then (n,.cell) else (n,k)
def Zmw(scope out:Scope)(cn:List Str):Bool :=
 scope.names.all (λy=>y.2 != .cell||!cn.contains y.1)&&scope.names.all (λy=>y.2 != .local||scope.names.lookup y.1==some .local)&&(ZfD scope out).all (λy=>!(y.2==.cell||y.2==.free)||cn.contains y.1||scope.names.contains (y.1,.cell))&&cn.all (λn=>out.names.lookup n==some .cell&&(ZfD scope out).lookup n==some .cell)
def Znw(X:Cx):List (Str×Addr)->Prop
 | []=>True
 | p::r=>X.env.cells.lookup p.1=some p.2/\Znw X r
def Znw.mem:∀{cl:List (Str×Addr)} {p:Str×Addr},Znw X cl->p∈cl->X.env.cells.lookup p.1=some p.2
 | _::_,_,h,.head _=>h.1
 | _::_,_,h,.tail _ m=>Znw.mem h.2 m
def CapN(X:Cx):List (Str×Nat)->Prop
 | []=>True
 | p::r=>X.N[p.2]?=some p.1/\CapN X r
def ZfO:∀{l:List (Str×α)},x∈l.map (·.1)->∃c,l.lookup x=some c
 | [],h=>by simp at h
 | (y,c)::r,h=>by
  by_cases e:x=y
  .subst e;exact ⟨c,by simp⟩
  .have a:x∈r.map (·.1):=by
    rcases Vbo.mp h with ⟨p,hp,rfl⟩;rcases Vaq.mp hp with rfl | hp
    .exact aB rfl e
    .exact Vbo.mpr ⟨p,hp,rfl⟩
   obtain ⟨d,b⟩:=ZfO a;exact ⟨d,by rw [Vbm,beq_false_of_ne e];exact b⟩
def Zeb.of{cap:List (Str×Nat)}{scope:Scope}{cl:List (Str×Addr)}(clos:closureFor scope X.env=pure cl)(kind:scope.kind=.function)(chk:Zmw scope X.env.scope (cap.map (·.1))=true)(names:cl.map (·.1)=cap.map (·.1))(sub:Znw X cl)(capn:CapN X cap):Zeb X own cap scope cl:=by
 unfold Zmw at chk;simp only [Vbg,Vbp] at chk;obtain ⟨⟨⟨w,v⟩,C⟩,B⟩:=chk;have h:∀x c,cl.lookup x=some c->X.env.cells.lookup x=some c:=λx c e=>sub.mem (VaZ e);have g:∀l,(∀p∈l,p.1∈cap.map (·.1))->CapN X l->ZkF X (relabel scope X.env) cl l:=by
  intro l
  induction l with
  | nil=>exact λ_ _=>trivial
  | cons p r ih=>
   intro f t;have j:=f p Vao;have m:=B p.1 j;have E:X.env.scope.names.lookup p.1=some .cell:=by simpa using m.1
   have D:(ZfD scope X.env.scope).lookup p.1=some .cell:=by simpa using m.2
   obtain ⟨c,d⟩:=ZfO (by rw [names];exact j);exact ⟨⟨t.1,E,D,c,d,h _ _ d⟩,ih (λq m=>f q (Vap _ m)) t.2⟩
 refine ⟨clos,kind,λx c f y o s=>?_,λy o e=>?_,λx c f=>sub.mem f,λk x u=>?_,g cap (λp j=>Vbo.mpr ⟨p,j,rfl⟩) capn⟩
 .have:=w y o;rw [s] at this;rintro rfl;have d:y.1∈cap.map (·.1):=by rw [<-names];exact Vbo.mpr ⟨_,f,rfl⟩
  simp at this;simp at d;obtain ⟨a,A⟩:=d;exact this a A
 .have:=v y o;rw [e] at this;simpa using this
 .have i:∀n,(ZfD scope X.env.scope).lookup x=some n->(n=.cell\/n=.free)->∃c,(PySem.cellsFrom k scope.names cl).lookup x=some c:=by
   intro n e s;have:=C _ (VaZ e);refine Option.isSome_iff_exists.mp (Ze4 scope.names k cl ?_);have b:x∈cap.map (·.1)\/(x,NameKind.cell)∈scope.names:=by
    rcases s with rfl | rfl
    .simpa using this
    .simpa using this
   rcases b with z | z
   .obtain ⟨c,d⟩:=ZfO (by rw [names];exact z);exact .inl (by rw [d];rfl)
   .exact .inr z
  rcases u with e | e
  .exact i _ e (.inl rfl)
  .exact i _ e (.inr rfl)
end L2
namespace L2
open PySem.Calls
structure Sk(o o':Obj):Prop where
 d:o'.dict=o.dict
 f:∀vs,o.data=.fields vs->∃vs':Array Value,o'.data=.fields vs'/\vs'[2]?=vs[2]?
def Sk.refl(o):Sk o o:=⟨rfl,λa e=>⟨a,e,rfl⟩⟩
def Sk.trans(x:Sk a b)(y:Sk b c):Sk a c:=⟨y.d.trans x.d,λj e=>by
 obtain ⟨k,m,h⟩:=x.f j e;obtain ⟨l,i,g⟩:=y.f k m
 exact ⟨l,i,g.trans h⟩⟩
def KD(h h':Heap):Prop:=∀(b:Nat) (o:Obj),h.objs[b]?=some o->∃a:Obj,h'.objs[b]?=some a/\Sk o a
def KD.refl(h:Heap):KD h h:=λ_ o e=>⟨o,e,.refl o⟩
def KD.trans(x:KD a b)(y:KD b c):KD a c:=λk o e=>by
 obtain ⟨d,j,g⟩:=x k o e;obtain ⟨f,h,i⟩:=y k d j;exact ⟨f,h,g.trans i⟩
def KD.push(h:Heap)(o:Obj):KD h (h.push o):=λb u e=>by
 obtain ⟨a,l⟩:=h;refine ⟨u,?_,.refl u⟩;show (a.push o)[b]?=some u;have e:a[b]?=some u:=e;have c:=(Array.getElem?_eq_some_iff.mp e).1;rw [Array.getElem?_push,iN (by omega)];exact e
def KD.update(h:Heap)(a:Addr)(hf:∀o,Sk o (f o)):KD h (h.update a f):=λb u e=>by
 obtain ⟨c,l⟩:=h;have e:=e;show ∃d,(c.modify a f)[b]?=some d/\_;rw [Array.getElem?_modify];by_cases q:a=b
 .rw [iP q,e];exact ⟨f u,rfl,hf u⟩
 .rw [iN q];exact ⟨u,e,.refl u⟩
def Zkq{h:Heap}(e:h.get? a=some o):h.objs[a]?=some o:=by
 unfold Heap.get? at e;split at e
 .cases e
 .exact e
def KD.at{h h':Heap}(x:KD h h')(e:h.get? a=some o)(e':h'.get? a=some o'):Sk o o':=by
 obtain ⟨d,b,c⟩:=x a o (Zkq e);rw [Zkq e'] at b;cases b;exact c
def Dk:Sem α->Prop
 | .pure _=>True
 | .raise _=>True
 | .unsupported _=>True
 | .finish _=>True
 | .rule _ k=>Dk (k ())
 | .at _ k=>Dk (k ())
 | .load _ _ k=>∀o,Dk (k o)
 | .update _ _ f k=>(∀o,Sk o (f o))/\Dk (k ())
 | .loadIfAlive _ k=>∀o,Dk (k o)
 | .point _ k=>Dk (k ())
 | .alloc _ k=>∀a,Dk (k a)
 | .fresh k=>∀t,Dk (k t)
 | .ask k=>∀x,Dk (k x)
 | .choose _ _ k=>∀n,Dk (k n)
 | .handled _ k=>∀x,Dk (k x)
 | .stack k=>∀l,Dk (k l)
 | .thread k=>∀n,Dk (k n)
 | .register _ _=>True
 | _=>False
def ZvP:∀(t:Sem α) {Q:α->Pos->Shared->Prop} {E:Value->Pos->Shared->Prop} {p:Pos} {s:Shared},Dk t->Sem.wp M Γ t Q E p s ->
  Sem.wp M Γ t (λa p' s'=>Q a p' s'/\KD s.heap s'.heap) (λe p' s'=>E e p' s'/\KD s.heap s'.heap) p s:=by
 intro t
 induction t with
 | pure a=>intro Q E p s _ h;exact ⟨h,.refl _⟩
 | raise e=>intro Q E p s _ h;exact ⟨h,.refl _⟩
 | unsupported w=>intro Q E p s _ h;exact h
 | finish e=>intro Q E p s _ h;exact h
 | rule t k ih=>intro Q E p s d h;exact ih () d h
 | «at» q k ih=>intro Q E p s d h;exact ih () d h
 | load a q k ih=>intro Q E p s d h;obtain ⟨o,e,h⟩:=h;exact ⟨o,e,ih o (d o) h⟩
 | update a q f k ih=>
  intro Q E p s d h;refine ⟨h.1,?_⟩;have z:=ih () d.2 h.2;exact Sem.wp_mono _ _ _ (λ_ _ _ x=>⟨x.1,(KD.update _ _ d.1).trans x.2⟩) (λ_ _ _ x=>⟨x.1,(KD.update _ _ d.1).trans x.2⟩) _ _ z
 | alloc o k ih=>
  intro Q E p s d h;exact Sem.wp_mono _ _ _ (λ_ _ _ x=>⟨x.1,(KD.push _ _).trans x.2⟩) (λ_ _ _ x=>⟨x.1,(KD.push _ _).trans x.2⟩) _ _ (ih _ (d _) h)
 | loadIfAlive a k ih=>intro Q E p s d h;exact ih _ (d _) h
 | point l k ih=>intro Q E p s d h;exact ih () d h
 | register a k ih=>intro Q E p s d h;exact h
 | fresh k ih=>intro Q E p s d h;exact ih _ (d _) h
 | ask k ih=>intro Q E p s d h;exact ih _ (d _) h
 | choose src n k ih=>intro Q E p s d h;exact ⟨h.1,ih _ (d _) h.2⟩
 | handled o k ih=>intro Q E p s d h;exact ih _ (d _) h
 | stack k ih=>intro Q E p s d h;exact ih _ (d _) h
 | thread k ih=>intro Q E p s d h;exact ih _ (d _) h
 | _=>intro Q E p s d h;exact d.elim
def ZuL(d:Dk t)(h:wpAny M A t Q E s):wpAny M A t (λa s'=>Q a s'/\KD s.heap s'.heap) (λe s'=>E e s'/\KD s.heap s'.heap) s :=
 λΓ p b=>ZvP t d (h Γ p b)
def Dk.bind:∀{t:Sem α} {k:α->Sem β},Dk t->(∀a,Dk (k a))->Dk (t >>= k):=by
 intro t
 induction t with
 | pure a=>intro k _ h;exact h a
 | raise e=>intro k _ h;trivial
 | unsupported w=>intro k _ h;trivial
 | finish e=>intro k _ h;trivial
 | rule t k ih=>intro k d h;exact ih () d h
 | «at» q k ih=>intro k d h;exact ih () d h
 | load a q k ih=>intro k d h o;exact ih o (d o) h
 | update a q f k ih=>intro k d h;exact ⟨d.1,ih () d.2 h⟩
 | alloc o k ih=>intro k d h a;exact ih a (d a) h
 | loadIfAlive a k ih=>intro k d h o;exact ih o (d o) h
 | point l k ih=>intro k d h;exact ih () d h
 | register a k ih=>intro k d h;trivial
 | fresh k ih=>intro k d h o;exact ih o (d o) h
 | ask k ih=>intro k d h o;exact ih o (d o) h
 | choose src n k ih=>intro k d h o;exact ih o (d o) h
 | handled o k ih=>intro k d h o;exact ih o (d o) h
 | stack k ih=>intro k d h o;exact ih o (d o) h
 | thread k ih=>intro k d h o;exact ih o (d o) h
 | _=>intro k d h;exact d.elim
def Zjx(a):Dk (load a):=λ_=>trivial
def Zhv:Dk stack:=λ_=>trivial
def Zix(a)(hf:∀o,Sk o (f o)):Dk (update a f):=⟨hf,trivial⟩
def Zo8(o):Dk (alloc o):=λ_=>trivial
def Zjd(v):Dk (fieldsOf v):=by
 unfold fieldsOf;split
 .refine Dk.bind (Zjx _) λo=>?_;split
  .trivial
  .trivial
 .trivial
def Zfy(v)(i):Dk (field v i):=by
 unfold field;refine Dk.bind (Zjd v) λo=>?_;split
 .trivial
 .trivial
def ZnT(hi:i≠2)(v)(o):Sk o (Obj.mapFields (·.setIfInBounds i v) o):=by
 obtain ⟨c,d,a,f⟩:=o;refine ⟨by cases a<;>rfl,λb e=>?_⟩;have e:=e;subst e;exact ⟨b.setIfInBounds i v,rfl,by rw [Array.getElem?_setIfInBounds_ne hi]⟩
def Zsc(a)(hi:i≠2)(v):Dk (updateField a i v):=by
 unfold updateField;refine Dk.bind (Zjx _) λo=>?_;split
 .split
  .exact Zix _ (ZnT hi _)
  .trivial
 .trivial
def Zeo(e)(hi:i≠2)(v):Dk (setField e i v):=by
 unfold setField;split
 .exact Zsc _ hi _
 .trivial
def ZhY(e)(f):Dk (setFlight e f):=by
 unfold setFlight;refine Dk.bind (Zfy _ _) λo=>?_;split
 .exact Zeo _ (by decide) _
 .trivial
def Zkf:∀l,Dk (readyFrames l)
 | []=>trivial
 | env::outer=>by
  unfold readyFrames;split
  .refine Dk.bind (Zjx _) λo=>?_;split
   .trivial
   .refine Dk.bind ?_ λb=>Dk.bind ?_ λk=>Dk.bind (Zix _ λo=>⟨rfl,λa e=>⟨a,e,rfl⟩⟩) λ_=>Zkf outer
    .unfold behindIsImport;split
     .trivial
     .split
      .trivial
      .exact Dk.bind (Zfy _ _) λ_=>trivial
    .unfold keptBack;split
     .split
      .trivial
      .unfold underTheClaimsCaller;exact Dk.bind (Dk.bind Zhv λ_=>trivial) λ_=>trivial
     .trivial
  .trivial
def Zk0(env):Dk (PySem.frameOf env):=by
 unfold PySem.frameOf frameEnvs;refine Dk.bind (Dk.bind Zhv λ_=>trivial) λl=>Dk.bind ?_ λo=>?_
 .unfold frameObject;split
  .trivial
  .exact Dk.bind (Zkf _) λ_=>trivial
 .split
  .trivial
  .trivial
def ZoR(a b c d e)(l):Dk (EntryCells.newEntry a b c d e l):=by
 unfold EntryCells.newEntry newFields;generalize ([a,b,c,d,e]++_)=vs;unfold newObj newObjAsIs;have f:Dk (alloc { cls:=Value.type "traceback",data:=Data.fields vs.toArray } >>= λa=>(pure (Value.ref a):Sem Value)):=Dk.bind (Zo8 _) λ_=>trivial;by_cases h:vs.toArray.size>sizeLine+2
 .show Dk (if vs.toArray.size>sizeLine+2 then _ else _)
  rw [iP h];trivial
 .show Dk (if vs.toArray.size>sizeLine+2 then _ else _)
  rw [iN h];exact f
def Zq4(e)(env):Dk (noteFrame e env):=by
 unfold noteFrame;split
 .refine Dk.bind (Zfy _ _) λo=>?_;have a:Dk (do setField e 1 (<-EntryCells.newEntry o (<-PySem.frameOf env) .none (rawInt ‹Addr›) .none (<-entryPlaceOf ‹Addr› (o != .none)))):=by
   refine Dk.bind (Zk0 _) λ_=>Dk.bind ?_ λ_=>Dk.bind (ZoR _ _ _ _ _ _) λ_=>Zeo _ (by decide) _;unfold entryPlaceOf;refine Dk.bind Zhv λ_=>?_;split
   .trivial
   .trivial
  split
  .refine Dk.bind (Zfy _ _) λ_=>?_;split
   .trivial
   .exact Dk.bind (Zeo _ (by decide) _) λ_=>a
  .exact a
 .trivial
def Zk1(env)(e):Dk (leaving env e):=Dk.bind (Zq4 _ _) λ_=>ZhY _ _
end L2
namespace L2
def ZdD.there(x:ZdD P w H h a o):∃ob,h.get? a=some ob:=by
 cases o with
 | lst xs=>obtain ⟨_,_,_,_,e⟩:=x;exact ⟨_,e⟩
 | tup xs=>obtain ⟨_,_,_,o,e,_⟩:=x;exact ⟨_,e⟩
 | ins C dx fs=>obtain ⟨_,_,_,e,_⟩:=x;exact ⟨_,e⟩
 | own y=>obtain ⟨_,e⟩:=x;exact ⟨_,e⟩
 | xd fs=>obtain ⟨_,⟨_,_,_,e,_⟩,_⟩:=x;exact ⟨_,e⟩
 | frz ob u=>obtain ⟨e,_⟩:=x;exact ⟨_,e⟩
 | tbl ps=>exact ⟨_,(x)⟩
 | ext φ=>obtain ⟨_,⟨_,e⟩,_⟩:=x;exact ⟨_,e⟩
structure Fly(P:Program)(w:World)(l:List Env)(H H':Hp)(s s':Shared)(x:Addr)(cls:Value):Prop where
 os:s'.os=s.os
 bare:AllBare s'.gens
 un:Un (frs l) [] H H' s.heap s'.heap
 hok:HOk P w H' s'.heap
 frf:∀b∈frs l,H' b=none
 free:H' x=none
 ex:∃(B:Heap) (a0:Value),Heap.FlyingW B l x cls a0 s'.heap/\∀b o,s'.heap.get? b=some o->(H' b≠none\/∃o',s.heap.get? b=some o')->b∉frs l->B.get? b=some o
def Zvf{s':Shared}{x:Addr}{B:Heap}(os:s'.os=s.os)(bare:AllBare s'.gens)(un:Un (frs l) [] H H' s.heap s'.heap)(hok:HOk P w H' s'.heap)(frf:∀b∈frs l,H' b=none)(nf:∀b∈frs l,∃o,s'.heap.get? b=some o/\∀vs,o.data≠.fields vs)(cov:∀b o,s'.heap.get? b=some o->(H' b≠none\/∃o',s.heap.get? b=some o')->b∉frs l->B.get? b=some o)(sub:∀b∈frs l',b∈frs l)(new:∀b∈frs l,b∉frs l'->s.heap.get? b=none)(fl:Heap.FlyingW B l' x cls a0 h')(sm:s'.heap.UpToSlots h')(free:H' x=none) :
  Fly P w l' H H' s { s' with heap:=h' } x cls:=by
 have d:=λb o e q hb=>fl.1 b o (cov b o e q hb);have f:∀{b:Addr} {o:Obj},s.heap.get? b=some o->b∉frs l'->b∉frs l:=λ{b o} e hb z=>by
  rw [new b z hb] at e;cases e
 refine ⟨os,bare,⟨λb o e n hb j=>?_,λb o e n hb j=>?_,un.free,λb o e j=>?_,un.tups,un.frzs,un.tbls⟩,λa o e=>?_,λb hb=>frf b (sub b hb),free,B,a0,fl,λb o e q hb=>?_⟩
 .exact d b o (un.keep b o e n (f e hb) j) (.inr ⟨o,e⟩) (f e hb)
 .obtain ⟨v,q⟩:=un.slot b o e n (sub b hb) j;obtain ⟨g,h,m⟩:=nf b (sub b hb);rw [q] at h;cases h;obtain ⟨i,p⟩:=sm b _ q m;exact ⟨i,p⟩
 .obtain ⟨o',q⟩:=un.there b o e j;by_cases hb:b∈frs l
  .obtain ⟨g,h,m⟩:=nf b hb;obtain ⟨i,p⟩:=sm b _ h m;exact ⟨_,p⟩
  .exact ⟨o',d b o' q (.inr ⟨o,e⟩) hb⟩
 .refine (hok a o e).stay (λb u hb q=>?_) (λ_ q=>q) λ_ _ q=>q;have r:H' b≠none:=by
   rcases hb with rfl | hb
   .rw [e];simp
   .rw [hb];simp
  exact d b u q (.inl r) λz=>r (frf b z)
 .have k:b∉frs l:=by
   intro z;rcases q with q | ⟨o',q⟩
   .exact q (frf b z)
   .exact f q hb z
  have ⟨g,h⟩ : ∃g,s'.heap.get? b=some g:=by
   rcases q with q | ⟨o',q⟩
   .cases z:H' b with
    | none=>exact aB z q
    | some u=>exact (hok b u z).there
   .exact un.there b o' q (by simp)
  have c:=cov b g h q k;have z:=fl.1 b g c;have t:=e;rw [t] at z;cases z;exact c
section
variable {H':Hp} {s':Shared} {x:Addr} {cls:Value}
def Inv.unStack(I:Inv X pins Y H s)(hex:X.ex=[])(hfs:∀b∈X.fs,b∈frs X.stack):Un (frs X.stack) [] X.H₀ H X.s₀.heap s.heap:=I.base.mono hfs (by rw [hex];exact λ_ z=>z)
def Inv.sub(I:Inv X pins Y H s):∀b∈X.fs,b∈frs X.stack:=λb a=>by
 rcases I.ok.stk with e | ⟨e,hf⟩
 .rw [e];exact a
 .rw [e];unfold frs;rw [Van,hf];exact Vap _ a
def Inv.flyOut(I:Inv X pins Y H s)(hex:X.ex=[])(F:Fly X.prog X.w X.stack H H' s s' x cls){B:Heap}(fl0:Heap.FlyingW B X.stack x cls a0 s'.heap)(cov:∀b o,s'.heap.get? b=some o->(H' b≠none\/∃o',s.heap.get? b=some o')->b∉frs X.stack->B.get? b=some o)(fl:Heap.FlyingW B X.outer x cls a0 h')(sm:s'.heap.UpToSlots h') :
  Fly X.prog X.w X.outer X.H₀ H' X.s₀ { s' with heap:=h' } x cls:=by
 refine Zvf (F.os.trans I.os) F.bare ((I.unStack hex I.sub).trans F.un) F.hok F.frf (λb a=>(fl0.2.2.1.mem a).2) (λb o e q a=>cov b o e (q.imp id λ⟨o',z⟩=>I.base.there b o' z (by rw [hex];simp)) a) I.sub (λb c d=>?_) fl sm F.free;rcases Vaq.mp (I.stkSub b c) with e | e
 .rw [e];exact Heap.get?_none_of_le I.ok.above
 .exact aB e d
end
def CtxN(x:Addr)(h:Heap):Prop:=∃a b,h.get? x=some a/\a.data=.fields b/\b[2]?=some .none
def CtxN.on{x:Addr}(k:CtxN x h)(kd:KD h h')(ht:∃ox,h'.get? x=some ox):CtxN x h':=by
 obtain ⟨ox,j,l,i,e⟩:=k;obtain ⟨c,a⟩:=ht;obtain ⟨b,g,d⟩:=(kd.at l a).f j i;exact ⟨c,b,a,g,d.trans e⟩
def Zme(p:Option Addr)(x:Addr)(H':Hp)(h0 h:Heap):Prop:=(p=none->CtxN x h)/\∀n:Nat,p=some n->∃(ox:Obj) (d:Addr) (m:Str->Option Value),h.get? x=some ox/\ox.dict=some d/\h.Ns1 d m/\(∀g,RelO (([("at",V.int ((n/2:Nat):Int))]:List (Str×V)).lookup g) (m g))/\H' d=none/\h0.get? d=none/\d≠x/\(n%2=0->∃a:Array Value,ox.data=.fields a/\a[2]?=some .none)
def Zn4{h h':Heap}(x:h.UpToSlots h')(hn:h.Ns1 a m):h'.Ns1 a m:=by
 obtain ⟨o,d,f,c,b,r⟩:=hn;obtain ⟨g,e⟩:=x a o c λi q=>by rw [b] at q;cases q
 exact ⟨_,d,f,e,b,r⟩
def Zme.on{x:Addr}(k:Zme p x H' h0 h)(kd:KD h h')(sm:h.UpToSlots h')(ht:∃ox,h'.get? x=some ox)(h01:∀b o,h1.get? b=some o->∃o',h0.get? b=some o'):Zme p x H' h1 h':=⟨λe=>(k.1 e).on kd ht,λn e=>by
 obtain ⟨ox,d,m,i,B,u,t,v,A,w,j⟩:=k.2 n e;obtain ⟨c,a⟩:=ht;refine ⟨c,d,m,a,(kd.at i a).d.trans B,Zn4 sm u,t,v,?_,w,λz=>?_⟩
 rotate_left
 .obtain ⟨C,l,y⟩:=j z;obtain ⟨g,s,r⟩:=(kd.at i a).f C l;exact ⟨g,s,r.trans y⟩
 cases q:h1.get? d with
 | none=>rfl
 | some o=>
  obtain ⟨o',z⟩:=h01 d o q
  rw [A] at z;cases z⟩
def CXR(P:Program)(w:World):CXT:=λa H s E e d=>∃x b p c,e=.ref x/\Fly P w a H c s d x b/\Zme p x c s.heap d.heap/\E b p c
section
variable {qual:Str} {scope:Scope} {f:Addr} {cd:Value} {outer:List Env} {s₀:Shared} {H₀:Hp} {E:XK}
def Zax:ZcD (CXR P w) (cxOf (CXR P w) P w K mg base N qual scope f cd A outer s₀ H₀ E) E:=by
 intro j Y H s e m I h;obtain ⟨x,d,p,t,rfl,F,u,q⟩:=h;obtain ⟨B,n,k,i⟩:=F.ex;refine Vau (ZuL (Zk1 _ _) (wpAny_leaves_onW (Q:=λ_ l=>∃c,l={ m with heap:=c }/\Heap.FlyingW B outer x d n c/\m.heap.UpToSlots c) I.ok.frames rfl k λc a g=>⟨c,rfl,a,g⟩)) (λ_ l z=>?_) λ_ _ z=>z.1
 obtain ⟨⟨c,rfl,a,g⟩,r⟩:=z;exact ⟨x,d,p,t,rfl,I.flyOut rfl F k i a g,u.on r g (let ⟨o,e,_⟩:=a.there;⟨o,e⟩) (λb o e=>I.base.there b o e (λz=>nomatch z)),q⟩
end
def ExcAt(a:Addr)(C:Value)(h:Heap):Prop:=∃b,h.get? a=some b/\b.cls=C
def exO(a:Addr)(C:Value):HO:=.ext (ExcAt a C)
end L2
namespace L2
open PySem.Calls
section
open PySem.Builtin PySem.Builtin.ObjectAttr PySem.Builtin.Getset_descriptor PySem.W
variable{prog:Program} {E:Value->Shared->Prop} {x D:Addr} {name:Str} {M:Model} {h:Heap}
end
def Zuj(a:Addr)(C:Value)(d:Addr)(h:Heap):Prop:=∃b,h.get? a=some b/\b.cls=C/\b.dict=some d/\∃c,b.data=.fields c
def exC(a:Addr)(C:Value)(d:Addr):HO:=.ext (Zuj a C d)
end L2
namespace L2
def ZmG(l)(items)(n)(sl)(b)(items2)(n2)(sl2)(hc0:items.size+items2.size<=sizeLine) :
  Meets (Builtin.«list.__add__» ⟨[.ref l,.ref b],[]⟩) (λ_ R s=>s.heap.get? l=some { cls:=.type "list",dict:=none,data:=.seq items n,slots:=sl }/\s.heap.get? b=some { cls:=.type "list",dict:=none,data:=.seq items2 n2,slots:=sl2 }/\R (.ok (.ret (Value.ref s.heap.objs.size))) { s with heap:=s.heap.push { cls:=Value.type "list",data:=Data.seq (items++items2) },toks:=s.toks }) :=
 .of_wp λa w A R s h=>by obtain ⟨p,g,d,f,i⟩:=s;obtain ⟨c,e,h⟩:=h;have k:=AutoSeq1.idx_int;have q:=AutoSeq1.sub_tuple_tuple;have j:=AutoSeq1.sub_list_list;have m:=AutoSeq1.sub_tuple_list;have o:=AutoSeq1.sub_list_tuple;wp_walk using AutoSeq1.wpAny_loadPart' c,AutoSeq1.wpAny_loadPart' e;exact ⟨_,rfl,h⟩
section
def ZoY(I:Inv X pins Y H s)(hH:SqL X.K H l xs)(hB:SqL X.K H b zs)(hz:xs.length+zs.length<=sizeLine)(q:∀p,H p=none->Q (.ref p) (upd H p (.lst (xs++zs)))) :
  wX X (binaryOp .Add (.ref l) (.ref b)) (EP X pins Y Q) X.xe s:=by
 obtain ⟨c,r,⟨⟨y,D,C,d⟩,n,e,k,h,o⟩,z⟩:=I.list hH;obtain ⟨a,i,⟨⟨x,E,B,f⟩,v,m,g,j,t⟩,G⟩:=I.list hB;simp only at k h o g j t;subst k h o g j t;refine concat_meets ⟨_,e,rfl⟩ ⟨_,m,rfl⟩ noFill_list_add seq_list_add F.slot_list_add F.entry_list_add (F.args_list_add_2 _ _) (ZmG l c.toArray n d b a.toArray v f (by rw [VaK,VaK,<-r.length,<-i.length];exact hz)) ⟨e,m,?_⟩;have u:c.toArray++a.toArray=(c++a).toArray:=by simp
 rw [u];exact ⟨.ref _,_,I.lnew (r.append i) (by rw [Va5];exact hz),rfl,q _ I.fresh⟩
def Zox(I:Inv X pins Y H s)(ha:SqT X.K H a xs)(hb:SqT X.K H b ys)(hz:xs.length+ys.length<=sizeLine)(q0:xs=[]->Q (.ref b) H)(q1:xs≠[]->ys=[]->Q (.ref a) H)(q2:xs≠[]->ys≠[]->∀p,H p=none->Q (.ref p) (upd H p (.tup (xs++ys)))) :
  wX X (binaryOp .Add (.ref a) (.ref b)) (EP X pins Y Q) X.xe s:=by
 by_cases hx:xs=[]
 .obtain ⟨z,v,B,_⟩:=I.tuple ha;obtain ⟨d,C,t,_⟩:=I.tuple hb;have r:=v.nil_iff.mpr hx;subst r;obtain ⟨⟨u,q,j,y⟩,l,k,n,m⟩:=id B;obtain ⟨⟨o,h,g,i⟩,c,e,x,f⟩:=id t;simp only at k m e f;subst k m e f;exact concat_meets ⟨_,l,rfl⟩ ⟨_,c,rfl⟩ noFill_tuple_add seq_tuple_add PySem.F.slot_tuple_add PySem.F.entry_tuple_add (PySem.F.args_tuple_add_2 _ _)
   (tuple_addW0 a b ([]:List Value).toArray d.toArray n x q h y i rfl) ⟨l,c,⟨.ref b,H,I,rfl,q0 hx⟩⟩
 .exact ZqO pins s Y H (.ref a) (.ref b) _ _ Q I rfl rfl ⟨a,b,xs,ys,rfl,rfl,ha,hb,hx,hz,q1 hx,q2 hx⟩
end
end L2
namespace HT
section
variable{prog:Program} {E:Value->Shared->Prop}
def Zen{t sl:Addr}{items:Array Value}{vl vu:Value}{lo hi:Option Int}{Q:Value->Shared->Prop}(ht:IsTup s.heap t items)(hs:s.heap.IsSliceOf sl vl vu .none)(pl:IsPart vl lo)(pu:IsPart vu hi)(hw:sIx items.size 0 lo=0/\sIx items.size items.size hi=items.size)(h:Q (.ref t) s):wpAny (model prog w) A (getItem (.ref t) (.ref sl)) Q E s:=by
 obtain ⟨e,d,b,f⟩:=id hs;have c:s.TypeIs (.ref sl) "slice":=⟨e,d,b⟩;unfold getItem
 try with_reducible refine Vbb ?_
 first | refine Vax (Vay ?_) | skip
 refine Vax (wpAny_sequenceKey ht.typeIs (by decide) ?_)
 refine Vax (Vbc ht.typeIs Vbd
  (Vbe Vbd ht.typeIs entry_tuple_getitem ?_ (args_tuple_getitem _ _)))
 show wpAny _ _ (Builtin.Tuple.tupleItemsOf (.ref t) >>= _) _ _ s;refine Vax (tupleItemsOf_ ht ?_);refine Vax (Vbf c ?_);rw [iP (by decide)];refine Vax (Zds hs pl pu ?_);have a:(((sIx items.size 0 lo:Nat):Int)==0&&(1:Int)==1&&(sIx items.size items.size hi - sIx items.size 0 lo)==items.size)=true:=by
  rw [hw.1,hw.2];simp
 show wpAny _ _ (if (((sIx items.size 0 lo:Nat):Int)==0&&(1:Int)==1&&(sIx items.size items.size hi - sIx items.size 0 lo)==items.size)=true then _ else _) _ _ s
 rw [iP a]
 first
  | exact Vax (Vax (Vbf ht.typeIs (Vay (by rw [iP (by decide)];exact Vax (wpAny_rule (Vay ⟨_,rfl,Vay h⟩))))))
  | (refine Vax (Vax (Vbf ht.typeIs (Vay ?_)))
     rw [iP (by decide)]
     trace_state
     exact Vax (wpAny_rule (Vay ⟨_,rfl,Vay h⟩)))
end
end HT
namespace L2
section
def Inv.turnNew{fp:List Addr}{T:Addr}{o:HO}{h':Heap}{t':Nat}(I:Inv X pins Y H s)(k:∀b u,b∉fp->s.heap.get? b=some u->h'.get? b=some u)(hf:∀b∈fp,FpOk X pins H b)(hT:s.heap.objs.size<=T)(new:ZdD X.prog X.w (upd H T o) h' T o) :
  Inv X pins Y (upd H T o) { s with heap:=h',toks:=t' }:=by
 have a:=I.hok.fresh hT;have f:∀b u,H b=some u->b∉fp:=λb u e z=>by rw [(hf b z).1] at e;cases e
 refine I.call ⟨λb u q _ _ d=>k b u d q,λb u q _ _ d=>⟨u.slots,k b u d q⟩,λb u q n _=>?_,λb u q d=>⟨u,k b u d q⟩,λb h q=>?_,λb u h q=>?_,λb p q=>?_⟩ (λb u e=>?_) I.bare (λb g=>?_)
 .rw [Zad (Vah (Vaf (Vae q) hT))];exact n
 .rw [Zad (Zac q a)];exact q
 .rw [Zad (Zac q a)];exact q
 .exact ⟨#[],by rw [Zad (Zac q a),q];simp⟩
 .by_cases g:b=T
  .subst g;rw [Zae] at e;cases e;exact new
  .rw [Zad g] at e;refine (I.hok b u e).stay (λc v hc q=>k c v ?_ q) (λc q=>by rw [Zad (Zac q a)];exact q) λc h q=>by rw [Zad (Zac q a)];exact q
   rcases hc with rfl | hc
   .exact f c u e
   .exact f c _ hc
 .obtain ⟨_,l,_,m,i,j⟩:=hf b g;exact ⟨m,l,i,j⟩
def Inv.turnedL{fp:List Addr}{h':Heap}{t':Nat}(I:Inv X pins Y H s)(k:∀b u,b∉fp->s.heap.get? b=some u->h'.get? b=some u)(hf:∀b∈fp,FpOk X pins H b):Inv X pins Y H { s with heap:=h',toks:=t' }:=by
 have d:∀b u,H b=some u->b∉fp:=λb u e z=>by rw [(hf b z).1] at e;cases e
 refine I.call ⟨λb u q _ _ a=>k b u a q,λb u q _ _ a=>⟨u.slots,k b u a q⟩,λb u q n _=>n,λb u q a=>⟨u,k b u a q⟩,λb f q=>q,λb u f q=>q,λb m q=>⟨#[],by rw [q];simp⟩⟩ (λb u e=>?_) I.bare (λb h=>?_)
 .refine (I.hok b u e).stay (λc v hc q=>k c v ?_ q) (λc q=>q) λc f q=>q;rcases hc with rfl | hc
  .exact d c u e
  .exact d c _ hc
 .obtain ⟨_,j,_,l,g,i⟩:=hf b h;exact ⟨l,j,g,i⟩
end
section
variable{prog:Program} {E:Value->Shared->Prop}
def Ziy(hne:t≠it):∀n i s Q,s.heap.IsListIter it t i->s.heap.IsList t items->i+n<=items.size ->
  (∀h',h'.IsListIter it t (i+n)->Heap.SameBut it s.heap h'->Q ((items.toList.drop i).take n) { s with heap:=h' })->wpAny (model prog w) A (draw (.ref it) n) Q E s
 | 0,i,s,Q,hit,_,_,hQ=>by
  exact Vay (by simpa using hQ s.heap hit (Heap.SameBut.refl ..))
 | n+1,i,s,Q,hit,ht,hle,hQ=>by
  have c:i<items.size:=by omega
  refine Vax (wpAny_pyNext_list_item hit ht (x:=items[i]) (by simp [c]) λg e a=>?_);refine Vax (Vbb (Ziy hne n (i+1) _ _ e (ht.extBut a.extBut hne) (by omega) λd f b=>Vay ?_));have h:items.toList.drop i=items[i]::items.toList.drop (i+1):=by simp [Vbq,c]
  have:=hQ d (by rw [show i+(n+1)=i+1+n by omega];exact f) (a.trans b);rw [h,List.take_succ_cons] at this;exact this
def Zft(hh:A.handled=none)(ht:s.heap.IsList t items)(hQ:∀h',Heap.ExtBut s.heap.objs.size s.heap h'->Q items.toList { s with heap:=h' }):wpAny (model prog w) A (unpackItems (.ref t) items.size none) Q E s:=by
 have f:t≠s.heap.objs.size:=by obtain ⟨o,l,_⟩:=ht;exact Vah (Vae l)
 unfold unpackItems;refine Vax ?_
 .unfold notIterableAtAll;refine Vax (Vbr ht.typeIs F.slot_list_iter.lookup ?_);refine Vay ?_;simp only [Vbs,Va7];refine Vax (Vbb (Vbt ht ?_));refine Vax (Vbb (Ziy f items.size 0 _ _ ⟨_,VaE _ rfl,rfl,rfl⟩ (ht.push _) (by omega) λj c a=>?_));have g:List.take items.size (List.drop 0 items.toList)=items.toList:=by
   rw [Vbu];exact Vbv (by simp)
  rw [g];rw [iN (by simp)];have h:=(ht.push _).extBut a.extBut f;refine Vax (Vbb (wpAny_pyNext_list_end hh c h (by simp) λd i=>?_));simp only [Option.isSome_none,Vbs,Va7];refine Vay (hQ d λb o k e=>i b o k (a.extBut b o k (VaA _ e)))
def Zfg{x1}(hh:A.handled=none)(ht:s.heap.IsList t items)(hn:(assignEach elts env).length=items.size)(hstar:(assignEach elts env).findIdx? (·.1)=none)(h:∀h',Heap.ExtBut s.heap.objs.size s.heap h'->wpAny (model prog w) A (assignInOrder ((assignEach elts env).map (·.2)) items.toList) Q E { s with heap:=h' }) :
  wpAny (model prog w) A (assign (.Tuple elts x1 pos) env (.ref t)) Q E s:=by
 rw [assign_Tuple];refine Vax (wpAny_standAt ?_);unfold unpack;rw [hn,hstar];exact Vax (Vbb (Zft hh ht h))
end
def ItK:Bool->Heap->Addr->Addr->Nat->Prop
 | false,h,a,l,i=>h.IsListIter a l i
 | true,h,a,l,i=>h.IsTupleIter a l i
def SqK:Bool->Heap->Addr->Array Value->Prop
 | false,h,a,xs=>h.IsList a xs
 | true,h,a,xs=>h.IsTuple a xs
def Zif(p:Bool)(l:Addr):Obj:={ cls:=.type (if p then "tuple_iterator" else "list_iterator"),data:=.fields #[.ref l,.int 0 0] }
def ItK.extBut(x:ItK p h a l i)(hs:Heap.ExtBut b h h')(hab:a≠b):ItK p h' a l i:=by
 cases p
 .exact Heap.IsListIter.extBut x hs hab
 .exact Heap.IsTupleIter.extBut x hs hab
def ItK.at(x:ItK p h a l i)(k:∀o,h.get? a=some o->h'.get? a=some o):ItK p h' a l i:=by
 cases p
 .obtain ⟨o,e,r⟩:=(show h.IsListIter a l i from x);exact ⟨o,k o e,r⟩
 .obtain ⟨o,e,r⟩:=(show h.IsTupleIter a l i from x);exact ⟨o,k o e,r⟩
def ItK.flds(x:ItK p h a l i):∃o vs,h.get? a=some o/\o.data=.fields vs:=by
 cases p
 .obtain ⟨o,e,_,d⟩:=(show h.IsListIter a l i from x);exact ⟨o,_,e,d⟩
 .obtain ⟨o,e,_,d⟩:=(show h.IsTupleIter a l i from x);exact ⟨o,_,e,d⟩
def ItK.new(e:h.get? a=some (Zif p l)):ItK p h a l 0:=by
 cases p
 .exact ⟨_,e,rfl,rfl⟩
 .exact ⟨_,e,rfl,rfl⟩
def SqK.extBut{xs:Array Value}(x:SqK p h a xs)(hs:Heap.ExtBut b h h')(hab:a≠b):SqK p h' a xs:=by
 cases p
 .exact Heap.IsList.extBut x hs hab
 .exact Heap.IsTuple.extBut x hs hab
def SqK.push{xs:Array Value}(x:SqK p h a xs)(o):SqK p (h.push o) a xs:=by
 cases p
 .exact Heap.IsList.push x o
 .exact Heap.IsTuple.push x o
section
variable{prog:Program} {E:Value->Shared->Prop}
def ZqS{xs:Array Value}(x:SqK p s.heap l xs)(h:Q (.ref s.heap.objs.size) { s with heap:=s.heap.push (Zif p l) }):wpAny (model prog w) A (pyIter (.ref l)) Q E s:=by
 cases p
 .exact Vbt x h
 .exact wpAny_pyIter_tuple x h
def ZkX{zs}{x:Value}(ki:s.heap.IsTupleIter ia la i)(kl:s.heap.IsTuple la zs)(kx:zs[i]?=some x)(kQ:∀h',h'.IsTupleIter ia la (i+1)->Heap.SameBut ia s.heap h'->Q x { s with heap:=h' }) :
  wpAny (model prog w) A (Builtin.SmallTypes.nextOf (.ref ia)) Q E s:=by
 obtain ⟨g,b,e,a⟩:=id ki;obtain ⟨f,c,_,h,d⟩:=kl;unfold Builtin.SmallTypes.nextOf
 refine Vax (Vbc (name:=Str.ofString "__next__") ki.typeIs Vbw
  (Vbe Vbw ki.typeIs F.entry_tuple_iterator_next ?_ (F.args_tuple_iterator_next_1 _)))
 show wpAny _ _ (field (.ref ia) 0 >>= _) _ _ s;refine Vax (Va9 b a (x:=.ref la) rfl ?_);show wpAny _ _ (if (Value.ref la==Value.none)=true then _ else _) _ _ s
 rw [iN (show ¬((Value.ref la==Value.none)=true) from VaC)];show wpAny _ _ (field (.ref ia) 1 >>= _) _ _ s;refine Vax (Va9 b a (x:=.int i 0) rfl ?_);show wpAny _ _ (seqItems? (.ref la) >>= _) _ _ s;refine Vax (Vbx c d ?_);simp only [Vby,kx];refine Vax (wpAny_setField b a (by simp) (Vay ⟨x,rfl,Vay (kQ _ ?_ (Vbz ..))⟩))
 exact ⟨_,VbA _ b (Obj.isFreed_of_fields (Obj.data_mapFields a _)),(Obj.cls_mapFields ..).trans e,by
  rw [Obj.data_mapFields a];simp [rawInt]⟩
def Zmu{zs}(kh:A.handled=none)(ki:s.heap.IsTupleIter ia la i)(kl:s.heap.IsTuple la zs)(kx:zs[i]?=none)(kE:∀h' e,Heap.ExtBut ia s.heap h'->(∃ob,h'.get? e=some ob/\ob.cls=.type "StopIteration")->E (.ref e) { s with heap:=h' }) :
  wpAny (model prog w) A (Builtin.SmallTypes.nextOf (.ref ia)) Q E s:=by
 obtain ⟨ob,c,h,d⟩:=id ki;obtain ⟨g,b,_,j,f⟩:=kl;unfold Builtin.SmallTypes.nextOf
 refine Vax (Vbc (name:=Str.ofString "__next__") ki.typeIs Vbw
  (Vbe Vbw ki.typeIs F.entry_tuple_iterator_next ?_ (F.args_tuple_iterator_next_1 _)))
 show wpAny _ _ (field (.ref ia) 0 >>= _) _ _ s;refine Vax (Va9 c d (x:=.ref la) rfl ?_);show wpAny _ _ (if (Value.ref la==Value.none)=true then _ else _) _ _ s
 rw [iN (show ¬((Value.ref la==Value.none)=true) from VaC)];show wpAny _ _ (field (.ref ia) 1 >>= _) _ _ s;refine Vax (Va9 c d (x:=.int i 0) rfl ?_);show wpAny _ _ (seqItems? (.ref la) >>= _) _ _ s;refine Vax (Vbx b f ?_);simp only [Vby,kx];refine Vax (wpAny_rule (Vax (wpAny_setField c d (by simp) ?_)));show wpAny _ _ (newExc (.type "StopIteration") [] >>= _) _ _ _;refine Vax ?_;simp only [newExc,newTuple];refine Vax (Vaz ?_ (by size_fits));refine Vax (m:=firstArgMember _ _) (wpAny_of_eq (a:=Value.none) (by first | rfl | (simp only [firstArgMember];rfl)) ?_)
 refine Vaz ?_ (by size_fits);simp only [raiseNew];refine Vax (wpAny_handled ?_)
 first | rw [show A.in1.handled=none from kh] | rw [kh]
 refine Vax (Vay (wpAny_throw ?_));exact kE _ _ (((Vbz ..).extBut.push _).push _) ⟨_,VaE _ rfl,rfl⟩
def Za0{x:Value}(ki:ItK p s.heap ia la i)(kl:SqK p s.heap la zs)(kx:zs[i]?=some x)(kQ:∀h',ItK p h' ia la (i+1)->Heap.SameBut ia s.heap h'->Q x { s with heap:=h' }):wpAny (model prog w) A (Builtin.SmallTypes.nextOf (.ref ia)) Q E s:=by
 cases p
 .exact wpAny_nextOf_list_item ki kl kx kQ
 .exact ZkX ki kl kx kQ
def Zc0(kh:A.handled=none)(ki:ItK p s.heap ia la i)(kl:SqK p s.heap la zs)(kx:zs[i]?=none)(kE:∀h' e,Heap.ExtBut ia s.heap h'->(∃o,h'.get? e=some o/\o.cls=.type "StopIteration")->E (.ref e) { s with heap:=h' }):wpAny (model prog w) A (Builtin.SmallTypes.nextOf (.ref ia)) Q E s:=by
 cases p
 .exact wpAny_nextOf_list_end kh ki kl kx kE
 .exact Zmu kh ki kl kx kE
end
def SqB(K:W.Frag):Bool->Hp->Addr->List V->Prop
 | false,H,a,xs=>SqL K H a xs
 | true,H,a,xs=>SqT K H a xs
def SqK.here{xs:Array Value}(x:SqK p h a xs):∃o,h.get? a=some o:=by
 cases p
 .obtain ⟨o,e,_⟩:=(show h.IsList a xs from x);exact ⟨o,e⟩
 .obtain ⟨o,e,_⟩:=(show h.IsTuple a xs from x);exact ⟨o,e⟩
def Inv.seqB(I:Inv X pins Y H s)(h:SqB X.K p H a xs):∃its,Vals xs its/\SqK p s.heap a its.toArray/\xs.length<=sizeLine:=by
 cases p
 .obtain ⟨its,d,c,b⟩:=I.list h;exact ⟨its,d,c.isList,b⟩
 .obtain ⟨its,d,c,b⟩:=I.tuple h;exact ⟨its,d,c,b⟩
end L2
namespace Dl
inductive D where
 | non | bl (b:Bool) | int (i:Int) | str (x:Str) | ty (n:String) | cls (c:Str)
 | tup (xs:List D) | lst (xs:List D) | exc (c:Str) | ins (c:Str) (ns:List Str) (vs:List D)
def pay(c:Str):Option Nat:=match c.cps.toList with
 | k::_=>if 0x110000<=k then some (k - 0x110000) else none
 | []=>none
def clsOf(c:Str):Str:=match c.cps.toList with
 | k::r=>if 0x110000<=k then ⟨r.toArray⟩ else c
 | []=>c
inductive Res(α:Type) where
 | ok (a:α) | ex (c:Str) | bad
noncomputable def Res.bind:Res α->(α->Res β)->Res β
 | .ok a,f=>f a
 | .ex c,_=>.ex c
 | .bad,_=>.bad
def Zdl(a:α)(f:α->Res β):(Res.ok a).bind f=f a:=rfl
inductive Cl where
 | no | im (d:D) | ow (ds:List D)
abbrev Ev:=List Cl
abbrev ME:=Ev->Res D
abbrev MB:=Ev->Res Bool
abbrev MA:=Ev->Res (List D)
def getC:Option Cl->Res D
 | some (.im d)=>.ok d
 | _=>.bad
def v(i:Nat):ME:=λZ=>getC Z[i]?
def c(d:D):ME:=λ_=>.ok d
def o1(f:D->Res D)(a:ME):ME:=λZ=>(a Z).bind f
def o2(f:D->D->Res D)(a b:ME):ME:=λZ=>(a Z).bind λx=>(b Z).bind λy=>f x y
def yaa:MA:=λ_=>.ok []
def Zaa(a:ME)(r:MA):MA:=λZ=>(a Z).bind λx=>(r Z).bind λb=>.ok (x::b)
def on(f:List D->Res D)(a:MA):ME:=λZ=>(a Z).bind f
def mtp(a:MA):ME:=λZ=>(a Z).bind λb=>.ok (.tup b)
def mls(a:MA):ME:=λZ=>(a Z).bind λb=>.ok (.lst b)
def tru:D->Res Bool
 | .bl b=>.ok b
 | _=>.bad
def trb(a:ME):MB:=λZ=>(a Z).bind tru
def bAnd(a b:MB):MB:=λZ=>(a Z).bind λx=>if x=true then b Z else .ok false
def bOr(a b:MB):MB:=λZ=>(a Z).bind λx=>if x=true then .ok true else b Z
def bNot(a:MB):MB:=λZ=>(a Z).bind λx=>.ok (!x)
def eAnd(a b:ME):ME:=λZ=>(trb a Z).bind λx=>if x=true then b Z else .ok (.bl false)
def eNot(a:ME):ME:=λZ=>(trb a Z).bind λx=>.ok (.bl (!x))
def ife(t:MB)(a b:ME):ME:=λZ=>(t Z).bind λx=>if x=true then a Z else b Z
def Zbg(a b:Int):Bool:=decide (a.natAbs<2^64)||decide (b.natAbs<2^64)||decide (a.natAbs.log2+b.natAbs.log2<100000000)
def LIM:Nat:=1000000
def yac:D->D->Res D
 | .int a,.int b=>.ok (.int (a+b))
 | .lst a,.lst b=>if a.length+b.length<=LIM then .ok (.lst (a++b)) else .bad
 | .tup a,.tup b=>if a.length+b.length<=LIM then .ok (.tup (a++b)) else .bad
 | .str a,.str b=>if a.length+b.length<=LIM then .ok (.str (a++b)) else .bad
 | _,_=>.bad
def ii(f:Int->Int->Res D):D->D->Res D
 | .int a,.int b=>f a b
 | _,_=>.bad
def iSub(a b:Int):Res D:=.ok (.int (a - b))
def iMul(a b:Int):Res D:=if Zbg a b=true then .ok (.int (a*b)) else .bad
def iMod(a b:Int):Res D:=if 0<b then .ok (.int (a%b)) else if b=0 then .bad else .ok (.int (a.fmod b))
def iDiv(a b:Int):Res D:=if b.natAbs.log2<9000 then (if 0<b then .ok (.int (a/b)) else if b=0 then .bad else .ok (.int (a.fdiv b))) else .bad
def iPow(a b:Int):Res D:=if 0<=b/\b<=1000000/\a.natAbs<2^64 then .ok (.int (a^b.toNat)) else .bad
def iShl(a b:Int):Res D:=if 0<=b/\b<=1000000/\a.natAbs<2^64 then .ok (.int (a*2^b.toNat)) else .bad
def iShr(a b:Int):Res D:=if 0<=b then .ok (.int (a/2^b.toNat)) else .bad
def iLt(a b:Int):Res D:=.ok (.bl (decide (a<b)))
def iLe(a b:Int):Res D:=.ok (.bl (decide (a<=b)))
def iGt(a b:Int):Res D:=.ok (.bl (decide (b<a)))
def iGe(a b:Int):Res D:=.ok (.bl (decide (b<=a)))
abbrev dSub:=ii iSub
abbrev yaj:=ii iMul
abbrev yau:=ii iMod
abbrev yaP:=ii iDiv
abbrev dPow:=ii iPow
abbrev dShl:=ii iShl
abbrev dShr:=ii iShr
abbrev dLt:=ii iLt
abbrev dLe:=ii iLe
abbrev dGt:=ii iGt
abbrev dGe:=ii iGe
def dNeg:D->Res D
 | .int a=>.ok (.int (-a))
 | _=>.bad
mutual
def eqD:D->D->Bool
 | .non,.non=>true
 | .bl a,.bl b=>a==b
 | .bl a,.int j=>(if a then 1 else 0)==j
 | .int i,.bl b=>i==(if b then 1 else 0)
 | .int i,.int j=>i==j
 | .str x,.str y=>x==y
 | .lst xs,.lst ys=>eqDs xs ys
 | .tup xs,.tup ys=>eqDs xs ys
 | _,_=>false
def eqDs:List D->List D->Bool
 | [],[]=>true
 | x::xs,y::ys=>eqD x y&&eqDs xs ys
 | _,_=>false
end
mutual
def plain:Nat->D->Bool
 | _,.non=>true
 | _,.bl _=>true
 | _,.int _=>true
 | _,.str x=>x.cps.all (·<0x110000)
 | k+1,.tup xs=>Zay k xs
 | k+1,.lst xs=>Zay k xs
 | _,_=>false
def Zay:Nat->List D->Bool
 | _,[]=>true
 | k,x::xs=>plain k x&&Zay k xs
end
def dEq(x y:D):Res D:=if plain 50 x&&plain 50 y then .ok (.bl (eqD x y)) else .bad
def dNe(x y:D):Res D:=if plain 50 x&&plain 50 y then .ok (.bl (!eqD x y)) else .bad
def inD(x:D)(ys:List D):Bool:=ys.any λy=>eqD y x
def seqD:D->Res (List D)
 | .lst ys=>.ok ys
 | .tup ys=>.ok ys
 | _=>.bad
def dNin(x y:D):Res D:=(seqD y).bind λa=>if plain 50 x&&Zay 50 a then .ok (.bl (!inD x a)) else .bad
def Zk6:D->Bool
 | .non=>true
 | _=>false
def dIsN(x:D):Res D:=.ok (.bl (Zk6 x))
def ZlL(x:D):Res D:=.ok (.bl (!Zk6 x))
def at_(xs:List α)(i:Int):Option α:=if 0<=i then xs[i.toNat]? else if -(xs.length:Int)<=i then xs[(i+xs.length).toNat]? else none
def ofO:Option α->Res α
 | some a=>.ok a
 | none=>.bad
def dIx:D->D->Res D
 | .lst xs,.int i=>ofO (at_ xs i)
 | .tup xs,.int i=>ofO (at_ xs i)
 | _,_=>.bad
def cutAt(n d:Nat):Option Int->Nat
 | none=>d
 | some i=>if i<0 then (i+n).toNat else min i.toNat n
def cutL(xs:List D)(lo hi:Option Int):List D:=(xs.drop (cutAt xs.length 0 lo)).take (cutAt xs.length xs.length hi - cutAt xs.length 0 lo)
def dCut(x:D)(lo hi:Option Int):Res D:=match x with
 | .lst xs=>.ok (.lst (cutL xs lo hi))
 | .tup xs=>.ok (.tup (cutL xs lo hi))
 | _=>.bad
def pno:Ev->Res (Option Int):=λ_=>.ok none
def optI:D->Res (Option Int)
 | .int i=>.ok (some i)
 | _=>.bad
def pso(a:ME):Ev->Res (Option Int):=λZ=>(a Z).bind optI
def cut(a:ME)(lo hi:Ev->Res (Option Int)):ME:=λZ=>(a Z).bind λx=>(lo Z).bind λl=>(hi Z).bind λh=>dCut x l h
def bLen:List D->Res D
 | [.lst xs]=>.ok (.int xs.length)
 | [.tup xs]=>.ok (.int xs.length)
 | _=>.bad
def bAbs:List D->Res D
 | [.int i]=>.ok (.int (if i<0 then -i else i))
 | _=>.bad
def bTup:List D->Res D
 | [.lst xs]=>.ok (.tup xs)
 | [.tup xs]=>.ok (.tup xs)
 | _=>.bad
def bLst:List D->Res D
 | [.lst xs]=>.ok (.lst xs)
 | [.tup xs]=>.ok (.lst xs)
 | _=>.bad
def Zks:D->Option String
 | .non=>some "NoneType"
 | .bl _=>some "bool"
 | .int _=>some "int"
 | .str _=>some "str"
 | .tup _=>some "tuple"
 | .lst _=>some "list"
 | _=>none
def isTy(t n:String):Bool:=t==n||(t == "bool"&&n == "int")
def ZkB:List String:=["int","bool","str","tuple","list","dict"]
def bIsi:List D->Res D
 | [x,.ty n]=>if ZkB.contains n=true then (ofO (Zks x)).bind λt=>.ok (.bl (isTy t n)) else .bad
 | _=>.bad
def bools:List D->Res (List Bool)
 | []=>.ok []
 | d::r=>match d with
  | .bl b=>(bools r).bind λa=>.ok (b::a)
  | _=>.bad
def bAll:List D->Res D
 | [d]=>match d with
  | .lst xs=>(bools xs).bind λa=>.ok (.bl (a.all id))
  | _=>.bad
 | _=>.bad
abbrev MI:=Ev->Res (List D)
def items:D->Res (List D)
 | .lst xs=>.ok xs
 | .tup xs=>.ok xs
 | _=>.bad
def iv(a:ME):MI:=λZ=>(a Z).bind items
def Zbw(lo:Int)(n:Nat):List D:=(List.range n).map λ(k:Nat)=>D.int (lo+(k:Int))
def rng1:List D->Res (List D)
 | [.int j]=>if -1000000000<=j/\j<=1000000000 then .ok (Zbw 0 j.toNat) else .bad
 | _=>.bad
def r1(a:MA):MI:=λZ=>(a Z).bind rng1
def rng2:List D->Res (List D)
 | [.int i,.int j]=>if (-1000000000<=i/\i<=1000000000)/\(-1000000000<=j/\j<=1000000000) then .ok (Zbw i (j - i).toNat) else .bad
 | _=>.bad
def r2(a:MA):MI:=λZ=>(a Z).bind rng2
abbrev MG:=D->Ev->Res Ev
abbrev MGs:=List D->Ev->Res Ev
def gN(i:Nat):MG:=λd Z=>.ok (Z.set i (.im d))
def gs0:MGs:=λa Z=>match a with
 | []=>.ok Z
 | _=>.bad
def gs1(g:MG)(r:MGs):MGs:=λa Z=>match a with
 | d::a=>(g d Z).bind λb=>r a b
 | []=>.bad
def gU(n:Nat)(g:MGs):MG:=λd Z=>(items d).bind λa=>if a.length=n then g a Z else .bad
def imOf:Option Cl->Cl
 | some (.im d)=>.im d
 | _=>.no
def yaG(Z:Ev):List Nat->Ev
 | []=>[]
 | j::r=>imOf Z[j]?::yaG Z r
def noA:Nat->Ev->Ev
 | 0,e=>e
 | k+1,e=>.no::noA k e
def ZaT(g:MG)(t:MB)(e:ME)(Z0:Ev):List D->Res (List D)
 | []=>.ok []
 | x::r=>(g x Z0).bind λa=>(t a).bind λb=>if b=true then (e a).bind λy=>(ZaT g t e Z0 r).bind λc=>.ok (y::c) else ZaT g t e Z0 r
def yes:MB:=λ_=>.ok true
def noEx:Res α->Res α
 | .ex _=>.bad
 | r=>r
def comp(it:MI)(own:Nat)(cap:List Nat)(g:MG)(t:MB)(e:ME):ME:=λZ=>(it Z).bind λa=>
 if a.length<=LIM then (noEx (ZaT g t e (noA own (yaG Z cap)) a)).bind λb=>.ok (.lst b) else .bad
inductive Fl where
 | nx (Z:Ev) | rt (d:D) | bk (Z:Ev) | ct (Z:Ev)
abbrev MS:=Ev->Res Fl
def nop:MS:=λZ=>.ok (.nx Z)
def goOn(b:MS):Fl->Res Fl
 | .nx Z=>b Z
 | f=>.ok f
def sq(a b:MS):MS:=λZ=>(a Z).bind (goOn b)
def st(i:Nat)(e:ME):MS:=λZ=>(e Z).bind λd=>.ok (.nx (Z.set i (.im d)))
def lstO:D->Res (List D)
 | .lst xs=>.ok xs
 | _=>.bad
def stO(i:Nat)(e:ME):MS:=λZ=>(e Z).bind λd=>(lstO d).bind λa=>.ok (.nx (Z.set i (.ow a)))
def getO:Option Cl->Res (List D)
 | some (.ow xs)=>.ok xs
 | _=>.bad
def frz(i:Nat)(m:MS):MS:=λZ=>(getO Z[i]?).bind λa=>m (Z.set i (.im (.lst a)))
def app(i:Nat)(e:ME):MS:=λZ=>(getO Z[i]?).bind λa=>(e Z).bind λd=>if a.length<LIM then .ok (.nx (Z.set i (.ow (a++[d])))) else .bad
def asg(g:MG)(e:ME):MS:=λZ=>(e Z).bind λd=>(g d Z).bind λa=>.ok (.nx a)
def par(i j:Nat)(a b:ME):MS:=λZ=>(a Z).bind λx=>(b Z).bind λy=>.ok (.nx ((Z.set i (.im x)).set j (.im y)))
def drp(e:ME):MS:=λZ=>(e Z).bind λ_=>.ok (.nx Z)
def ret(e:ME):MS:=λZ=>(e Z).bind λd=>.ok (.rt d)
def ifs(t:MB)(a b:MS):MS:=λZ=>(t Z).bind λx=>if x=true then a Z else b Z
def cnt:MS:=λZ=>.ok (.ct Z)
def Zie:D->Res D
 | .non=>.ok .non
 | .bl b=>.ok (.bl b)
 | .int i=>.ok (.int i)
 | .str x=>.ok (.str x)
 | _=>.bad
def pk(i:Nat)(m:ME):ME:=λZ=>(getO Z[i]?).bind λa=>(m (Z.set i (.im (.lst a)))).bind Zie
def pkB(i:Nat)(m:MB):MB:=λZ=>(getO Z[i]?).bind λa=>m (Z.set i (.im (.lst a)))
def turn(k:MS):Fl->Res Fl
 | .nx Z=>k Z
 | .ct Z=>k Z
 | .bk Z=>.ok (.nx Z)
 | .rt d=>.ok (.rt d)
def Zb2(g:MG)(b:MS):List D->MS
 | [],Z=>.ok (.nx Z)
 | x::r,Z=>(g x Z).bind λa=>(b a).bind (turn (Zb2 g b r))
def for_(it:MI)(g:MG)(b:MS):MS:=λZ=>(it Z).bind λa=>Zb2 g b a Z
def whGo(t:MB)(b:MS):Nat->MS
 | 0,_=>.bad
 | n+1,Z=>(t Z).bind λx=>if x=true then (b Z).bind (turn (whGo t b n)) else .ok (.nx Z)
def absC:Cl->Nat
 | .im (.int i)=>i.natAbs
 | _=>0
def fuel(Z:Ev):Nat:=(Z.map absC).sum+1
def whl(n:Ev->Nat)(t:MB)(b:MS):MS:=λZ=>whGo t b (n Z) Z
def evF:List D->Nat->Ev
 | [],k=>noA k []
 | d::r,k=>.im d::evF r (k - 1)
def ev0(n:Nat)(ds:List D):Ev:=evF ds n
def Zkj:∀k e,noA k e=List.replicate k .no++e
 | 0,_=>rfl
 | k+1,e=>by rw [noA,Zkj k e,List.replicate_succ,List.cons_append]
def Zhe(Z):∀cap,yaG Z cap=cap.map λj=>imOf Z[j]?
 | []=>rfl
 | j::r=>by rw [yaG,Zhe Z r,VaN]
def ZiN:∀ds n,ev0 n ds=ds.map .im++List.replicate (n - ds.length) .no
 | [],n=>by show noA n []=_;rw [Zkj];simp
 | d::r,n=>by
  have ih:=ZiN r (n - 1);show .im d::ev0 (n - 1) r=_;rw [ih,VaN,List.cons_append,VaM,Nat.sub_sub,Nat.add_comm 1]
def endOf:Fl->Res D
 | .rt d=>.ok d
 | .nx _=>.ok .non
 | _=>.bad
def fn(n:Nat)(b:MS)(ds:List D):Res D:=(b (ev0 n ds)).bind endOf
end Dl
variable{H' F0 H0 F':L2.Hp}{E:L2.XK}{Z:Dl.Ev}{ds:List Dl.D}{me:Dl.ME}{d:Dl.D}
namespace L2.Ds
open Dl
def XcO(H:Hp)(a:Addr)(cls:Value)(d:Addr)(p:Option Addr):Prop:=match p with
 | none=>H a=some (exO a cls)
 | some n=>H a=some (exC a cls d)/\H d=some (.xd [("at",.int (((n)/2:Nat):Int))])
def XcO.same{d:Addr}(h:XcO H a cls d p)(e:∀b o,H b=some o->(∀xs,o≠.lst xs)->H' b=some o):XcO H' a cls d p:=by
 cases p with
 | none=>exact e _ _ h λ_ z=>by cases z
 | some n=>exact ⟨e _ _ h.1 (λ_ z=>by cases z),e _ _ h.2 (λ_ z=>by cases z)⟩
mutual
inductive Rp(K:W.Frag)(mg:Str->Option Value)(H:Hp):V->D->Prop
 | non:Rp K mg H .non .non
 | bl (b:Bool):Rp K mg H (.bl b) (.bl b)
 | int (i:Int):Rp K mg H (.int i) (.int i)
 | str (x:Str):Rp K mg H (.str x) (.str x)
 | ty (n:String):Rp K mg H (.ty n) (.ty n)
 | cls {c:Str} {C:Addr} (h:mg c=some (.ref C)):Rp K mg H (.ref C) (.cls c)
 | tup {a:Addr} {xs:List V} {ds:List D} (h:SqT K H a xs) (r:Rps K mg H xs ds):Rp K mg H (.ref a) (.tup ds)
 | lst {a:Addr} {xs:List V} {ds:List D} (h:SqL K H a xs) (r:Rps K mg H xs ds):Rp K mg H (.ref a) (.lst ds)
 | exc {c:Str} {C a d:Addr} (m:mg (clsOf c)=some (.ref C)) (h:XcO H a (.ref C) d (pay c)):Rp K mg H (.ref a) (.exc c)
 | ins {c:Str} {C a dx:Addr} {fs:List (Str×V)} {xs:List V} {vs:List D} (m:mg c=some (.ref C)) (h:H a=some (.ins C dx fs)) (o:H dx=some (.own a)) (e:fs.map (·.2)=xs) (r:Rps K mg H xs vs):Rp K mg H (.ref a) (.ins c (fs.map (·.1)) vs)
inductive Rps(K:W.Frag)(mg:Str->Option Value)(H:Hp):List V->List D->Prop
 | nil:Rps K mg H [] []
 | cons {x:V} {xs:List V} {d:D} {ds:List D} (h:Rp K mg H x d) (r:Rps K mg H xs ds):Rps K mg H (x::xs) (d::ds)
end
section
def Zau(e:Same H H')(h:SqT K H a xs):SqT K H' a xs:=by
 rcases h with (h | ⟨o,h⟩) | h
 .exact .inl (.inl (e _ _ h))
 .exact .inl (.inr ⟨o,e _ _ h⟩)
 .exact .inr h
mutual
def Rp.same(e:Same H H'){x:V}{d:D}(h:Rp K mg H x d):Rp K mg H' x d:=by
 cases h with
 | non=>exact .non
 | bl b=>exact .bl b
 | int i=>exact .int i
 | str x=>exact .str x
 | ty n=>exact .ty n
 | cls h=>exact .cls h
 | tup h r=>exact .tup (Zau e h) (Rps.same e r)
 | lst h r=>exact .lst (e.seq h) (Rps.same e r)
 | exc m h=>exact .exc m (h.same λb o z _=>e b o z)
 | ins m h o q r=>exact .ins m (e _ _ h) (e _ _ o) q (Rps.same e r)
def Rps.same(e:Same H H'){xs:List V}{ds:List D}(h:Rps K mg H xs ds):Rps K mg H' xs ds:=by
 cases h with
 | nil=>exact .nil
 | cons h r=>exact .cons (Rp.same e h) (Rps.same e r)
end
def Rps.length:∀{xs:List V} {ds:List D},Rps K mg H xs ds->xs.length=ds.length
 | _,_,.nil=>rfl
 | _,_,.cons _ r=>Vaw (·+1) (Rps.length r)
def Rps.get:∀{xs:List V} {ds:List D} {i:Nat} {d:D},Rps K mg H xs ds->ds[i]?=some d->∃x,xs[i]?=some x/\Rp K mg H x d
 | _,_,_,_,.nil,e=>by simp at e
 | _,_,0,_,.cons h _,e=>by simp at e;subst e;exact ⟨_,rfl,h⟩
 | _,_,i+1,_,.cons _ r,e=>by
  obtain ⟨x,a,b⟩:=Rps.get r (by simpa using e);exact ⟨x,by simpa using a,b⟩
def Rps.app{es:List D}(q:Rps K mg H ys es):∀{xs:List V} {ds:List D},Rps K mg H xs ds->Rps K mg H (xs++ys) (ds++es)
 | _,_,.nil=>q
 | _,_,.cons h r=>.cons h (Rps.app q r)
def Rps.rev:∀{xs:List V} {ds:List D},Rps K mg H xs ds->Rps K mg H xs.reverse ds.reverse
 | _,_,.nil=>.nil
 | _,_,.cons h r=>by
  rw [List.reverse_cons,List.reverse_cons];exact Rps.app (.cons h .nil) (Rps.rev r)
def Rps.drop:∀{xs:List V} {ds:List D} (n:Nat),Rps K mg H xs ds->Rps K mg H (xs.drop n) (ds.drop n)
 | _,_,0,r=>r
 | _,_,_+1,.nil=>.nil
 | _,_,n+1,.cons _ r=>Rps.drop n r
def Rps.take:∀{xs:List V} {ds:List D} (n:Nat),Rps K mg H xs ds->Rps K mg H (xs.take n) (ds.take n)
 | _,_,0,_=>.nil
 | _,_,_+1,.nil=>.nil
 | _,_,n+1,.cons h r=>.cons h (Rps.take n r)
def Rps.one{xs:List V}{d:D}(h:Rps K mg H xs [d]):∃x,xs=[x]/\Rp K mg H x d:=by
 cases h with | cons h r=>cases r;exact ⟨_,rfl,h⟩
def Rps.two{xs:List V}{d e:D}(h:Rps K mg H xs [d,e]):∃x y,xs=[x,y]/\Rp K mg H x d/\Rp K mg H y e:=by
 cases h with | cons h r=>obtain ⟨_,rfl,g⟩:=Rps.one r;exact ⟨_,_,rfl,h,g⟩
end
structure Gr(F H F' H':Hp):Prop where
 f:Same F F'
 s:Same F' H'
 o:∀a o,F a=none->H a=some o->F' a=none/\H' a=some o
 z:∀a o u,F' a=some (.frz o u)->F a=some (.frz o u)
def Gr.refl{F:Hp}(s:Same F H):Gr F H F H:=⟨Same.refl _,s,λ_ _ a b=>⟨a,b⟩,λ_ _ _ h=>h⟩
def Gr.trans{F:Hp}(g:Gr F H F1 H1)(h:Gr F1 H1 F2 H2):Gr F H F2 H2:=⟨g.f.trans h.f,h.s,λa o b c=>let ⟨q1,q2⟩:=g.o a o b c;h.o a o q1 q2,λa o u e=>g.z a o u (h.z a o u e)⟩
def Zon{F:Hp}(s:Same F H):Same (upd F p o) (upd H p o):=λb u e=>by
 by_cases hb:b=p
 .subst hb;rw [Zae] at e ⊢;exact e
 .rw [Zad hb] at e ⊢;exact s b u e
def ZfY{F:Hp}(nz:∀o' u,o≠.frz o' u)(e:upd F p o a=some (.frz o' u)):F a=some (.frz o' u):=by
 by_cases ne:a=p
 .subst ne;rw [Zae] at e;exact aB (Vaa e) (nz o' u)
 .rw [Zad ne] at e;exact e
def Gr.new{F:Hp}(s:Same F H)(h:H p=none)(o)(nz:∀o' u,o≠.frz o' u:=by intro _ _ z;cases z):Gr F H (upd F p o) (upd H p o) :=
 ⟨ZaM (s.free h) o,Zon s,λa u d c=>by
  have b:=Zac c h;rw [Zad b,Zad b];exact ⟨d,c⟩,λa o' u e=>by
  by_cases b:a=p
  .subst b;rw [Zae] at e;exact aB (Vaa e) (nz o' u)
  .rw [Zad b] at e;exact e⟩
structure Rep(K:W.Frag)(mg:Str->Option Value)(F0 H0 F H:Hp)(Y:St)(Z:Ev):Prop where
 g:Gr F0 H0 F H
 len:Y.length=Z.length
 im:∀(i:Nat) (d:D),Z[i]?=some (.im d)->∃x,Y[i]?=some (some x)/\Rp K mg F x d
 ow:∀(i:Nat) (ds:List D),Z[i]?=some (.ow ds)->∃a xs,Y[i]?=some (some (.ref a))/\H0 a=none/\F a=none/\H a=some (.lst xs)/\Rps K mg F xs ds
 ne:∀(i j:Nat) (ds es:List D) (a:Addr),Z[i]?=some (.ow ds)->Z[j]?=some (.ow es)->Y[i]?=some (some (.ref a))->Y[j]?=some (some (.ref a))->i=j
section
variable {F:Hp}
def Rep.gr(r:Rep K mg F0 H0 F H Y Z)(g:Gr F H F' H'):Rep K mg F0 H0 F' H' Y Z:=by
 refine ⟨r.g.trans g,r.len,λi d e=>?_,λi m e=>?_,r.ne⟩
 .obtain ⟨x,b,c⟩:=r.im i d e;exact ⟨x,b,c.same g.f⟩
 .obtain ⟨a,h,b,c,l,j,k⟩:=r.ow i m e;obtain ⟨p,n⟩:=g.o a _ l j;exact ⟨a,h,b,c,p,n,k.same g.f⟩
def Zar{l:List α}{x:α}(h:(l.set i x)[j]?=some y):(i=j/\y=x/\i<l.length)\/(i≠j/\l[j]?=some y):=by
 rw [List.getElem?_set] at h;by_cases e:i=j
 .rw [iP e] at h;split at h
  .exact .inl ⟨e,(Vaa h).symm,by assumption⟩
  .cases h
 .rw [iN e] at h;exact .inr ⟨e,h⟩
def Zfn{l:List α}{x:α}(h:i<l.length):(l.set i x)[i]?=some x:=by
 rw [List.getElem?_set,iP rfl,iP h]
def Za6{l:List α}{x:α}(h:i≠j):(l.set i x)[j]?=l[j]?:=by
 rw [List.getElem?_set,iN h]
def Rep.set{x:V}(r:Rep K mg F0 H0 F H Y Z)(i:Nat)(h:Rp K mg F x d):Rep K mg F0 H0 F H (Y.set i (some x)) (Z.set i (.im d)):=by
 refine ⟨r.g,by rw [VbB,VbB];exact r.len,λj e q=>?_,λj c q=>?_,λj k c o a b f n m=>?_⟩
 .rcases Zar q with ⟨rfl,z,l⟩ | ⟨hij,q⟩
  .cases z;exact ⟨x,Zfn (by rw [r.len];exact l),h⟩
  .rw [Za6 hij];exact r.im j e q
 .rcases Zar q with ⟨_,z,_⟩ | ⟨hij,q⟩
  .cases z
  .rw [Za6 hij];exact r.ow j c q
 .rcases Zar b with ⟨_,z,_⟩ | ⟨h1,b⟩
  .cases z
  .rcases Zar f with ⟨_,z,_⟩ | ⟨h2,f⟩
   .cases z
   .rw [Za6 h1] at n;rw [Za6 h2] at m;exact r.ne j k c o a b f n m
def Rep.own(r:Rep K mg F0 H0 F H Y Z)(i:Nat)(hn:H a=none)(h:Rps K mg F xs ds):Rep K mg F0 H0 F (upd H a (.lst xs)) (Y.set i (some (.ref a))) (Z.set i (.ow ds)):=by
 have y:=r.g.s.free hn;have w:H0 a=none:=by
  cases q:H0 a with
  | none=>rfl
  | some o=>
   cases c:F0 a with
   | none=>rw [(r.g.o a o c q).2] at hn;cases hn
   | some u=>rw [r.g.f a u c] at y;cases y
 have v:∀{j:Nat} {m:List D} {b:Addr},Z[j]?=some (.ow m)->Y[j]?=some (some (.ref b))->b≠a:=λ{j m b} t c=>by
  obtain ⟨M,C,d,_,_,A,_⟩:=r.ow j m t;rw [c] at d;cases d;exact Zac A hn
 refine ⟨⟨r.g.f,λb o e=>?_,λb o L B=>?_,r.g.z⟩,by rw [VbB,VbB];exact r.len,λj e q=>?_,λj m q=>?_,λj k m E b t c p n=>?_⟩
 .rw [Zad (Zac e y)];exact r.g.s b o e
 .rw [Zad (Zac B w)];exact r.g.o b o L B
 .rcases Zar q with ⟨_,z,_⟩ | ⟨hij,q⟩
  .cases z
  .rw [Za6 hij];exact r.im j e q
 .rcases Zar q with ⟨rfl,z,l⟩ | ⟨hij,q⟩
  .cases z;exact ⟨a,xs,Zfn (by rw [r.len];exact l),w,y,Zae,h⟩
  .rw [Za6 hij];obtain ⟨b,G,d,x,J,A,I⟩:=r.ow j m q;exact ⟨b,G,d,x,J,by rw [Zad (Zac A hn)];exact A,I⟩
 .rcases Zar t with ⟨rfl,_,l1⟩ | ⟨d,t⟩
  .rcases Zar c with ⟨rfl,_,_⟩ | ⟨x,c⟩
   .rfl
   .rw [Zfn (by rw [r.len];exact l1)] at p;rw [Za6 x] at n;cases p;exact aB rfl (v c n)
  .rcases Zar c with ⟨rfl,_,l2⟩ | ⟨x,c⟩
   .rw [Zfn (by rw [r.len];exact l2)] at n;rw [Za6 d] at p;cases n;exact aB rfl (v t p)
   .rw [Za6 d] at p;rw [Za6 x] at n;exact r.ne j k m E b t c p n
def Rep.app{x:V}(r:Rep K mg F0 H0 F H Y Z)(e:Z[i]?=some (.ow ds))(e2:Y[i]?=some (some (.ref a)))(e3:H a=some (.lst xs))(e4:H0 a=none)(e5:F a=none)(hr:Rps K mg F xs ds)(h:Rp K mg F x d) :
  Rep K mg F0 H0 F (upd H a (.lst (xs++[x]))) Y (Z.set i (.ow (ds++[d]))):=by
 refine ⟨⟨r.g.f,λb o q=>?_,λb o v m=>?_,r.g.z⟩,by rw [VbB];exact r.len,λj u q=>?_,λj p q=>?_,λj k p J b v m D A=>?_⟩
 .rw [Zad (Zac q e5)];exact r.g.s b o q
 .rw [Zad (Zac m e4)];exact r.g.o b o v m
 .rcases Zar q with ⟨_,z,_⟩ | ⟨_,q⟩
  .cases z
  .exact r.im j u q
 .rcases Zar q with ⟨rfl,z,l⟩ | ⟨hij,q⟩
  .cases z;exact ⟨a,_,e2,e4,e5,Zae,Rps.app (.cons h .nil) hr⟩
  .obtain ⟨b,B,w,E,I,G,C⟩:=r.ow j p q;have y:b≠a:=by
    rintro rfl;exact hij (r.ne i j ds p b e q e2 w)
   exact ⟨b,B,w,E,I,by rw [Zad y];exact G,C⟩
 .have n:∃c,Z[j]?=some (.ow c):=by
   rcases Zar v with ⟨rfl,_,_⟩ | ⟨_,q⟩
   .exact ⟨_,e⟩
   .exact ⟨_,q⟩
  have t:∃c,Z[k]?=some (.ow c):=by
   rcases Zar m with ⟨rfl,_,_⟩ | ⟨_,q⟩
   .exact ⟨_,e⟩
   .exact ⟨_,q⟩
  obtain ⟨_,n⟩:=n;obtain ⟨_,t⟩:=t;exact r.ne j k _ _ b n t D A
def Rep.frz{i:Nat}{ds:List D}(r:Rep K mg F0 H0 F H Y Z)(e:Z[i]?=some (.ow ds)):∃F',Same F F'/\Rep K mg F0 H0 F' H Y (Z.set i (.im (.lst ds))):=by
 obtain ⟨a,p,t,G,J,L,C⟩:=r.ow i ds e;have d:Same F (upd F a (.lst p)):=ZaM J _;refine ⟨upd F a (.lst p),d,⟨r.g.f.trans d,λb o q=>?_,λb o h c=>?_,λb o u q=>r.g.z b o u (ZfY (λ_ _ z=>by cases z) q)⟩,by rw [VbB];exact r.len,λj u q=>?_,λj m q=>?_,λj k m y b h c E w=>?_⟩
 .by_cases hb:b=a
  .subst hb;rw [Zae] at q;cases q;exact L
  .rw [Zad hb] at q;exact r.g.s b o q
 .rw [Zad (Zac c G)];exact r.g.o b o h c
 .rcases Zar q with ⟨rfl,z,_⟩ | ⟨_,q⟩
  .cases z;exact ⟨.ref a,t,.lst (SqL.of Zae) (C.same d)⟩
  .obtain ⟨x,l,n⟩:=r.im j u q;exact ⟨x,l,n.same d⟩
 .rcases Zar q with ⟨_,z,_⟩ | ⟨hij,q⟩
  .cases z
  .obtain ⟨b,A,l,n,M,I,B⟩:=r.ow j m q;have v:b≠a:=by
    rintro rfl;exact hij (r.ne i j ds m b e q t l)
   exact ⟨b,A,l,n,by rw [Zad v];exact M,I,B.same d⟩
 .rcases Zar h with ⟨_,z,_⟩ | ⟨_,h⟩
  .cases z
  .rcases Zar c with ⟨_,z,_⟩ | ⟨_,c⟩
   .cases z
   .exact r.ne j k m y b h c E w
end
def Ans(mg:Str->Option Value)(E:XK)(R:Hp->β->α->Prop)(F H:Hp)(r:Res α)(w:(β->Hp->Prop)->Prop):Prop :=
 match r with
 | .ok a=>∀Q,(∀e d b,Gr F H e d->R e b a->Q b d)->w Q
 | .ex c=>∀Q,(∀e d C,Gr F H e d->mg (clsOf c)=some (.ref C)->E (.ref C) (pay c) d)->w Q
 | .bad=>True
section
variable{α β γ δ:Type} {R:Hp->β->α->Prop} {R':Hp->δ->γ->Prop} {F:Hp}
def Ans.ret{w:(β->Hp->Prop)->Prop}(s:Same F H)(r:R F b a)(h:∀Q,Q b H->w Q):Ans mg E R F H (.ok a) w:=λQ q=>h Q (q F H b (.refl s) r)
def Ans.bindE{r:Res α}{w:(β->Hp->Prop)->Prop}{k:α->Res γ}{w':β->Hp->(δ->Hp->Prop)->Prop}(h1:Ans mg E R F H r w)(h2:∀a,r=.ok a->∀F1 H1 b,Gr F H F1 H1->R F1 b a->Ans mg E R' F1 H1 (k a) (w' b H1)) :
  Ans mg E R' F H (r.bind k) (λQ=>w λb H1=>w' b H1 Q):=by
 cases r with
 | ok a=>
  show Ans mg E R' F H (k a) _;have f:=h2 a rfl;generalize k a=r2 at f;cases r2 with
  | ok d=>exact λQ q=>h1 _ λF1 H1 b g j=>f F1 H1 b g j Q λi h e l m=>q i h e (g.trans l) m
  | ex c=>exact λQ q=>h1 _ λF1 H1 b g j=>f F1 H1 b g j Q λi h C l n=>q i h C (g.trans l) n
  | bad=>trivial
 | ex c=>exact λQ q=>h1 _ q
 | bad=>trivial
def Ans.bind{r:Res α}{w:(β->Hp->Prop)->Prop}{k:α->Res γ}{w':β->Hp->(δ->Hp->Prop)->Prop}(h1:Ans mg E R F H r w)(h2:∀F1 H1 b a,Gr F H F1 H1->R F1 b a->Ans mg E R' F1 H1 (k a) (w' b H1)) :
  Ans mg E R' F H (r.bind k) (λQ=>w λb H1=>w' b H1 Q):=h1.bindE λa _ F1 H1 b g q=>h2 F1 H1 b a g q
end
def AnsS(K:W.Frag)(mg:Str->Option Value)(E:XK)(F0 H0 F:Hp)(r:Res Fl)(w:Ends->Prop):Prop :=
 match r with
 | .ok (.nx Z)=>∀D,(∀b a e,Same F b->Rep K mg F0 H0 b a e Z->D.nx e a)->w D
 | .ok (.bk Z)=>∀D,(∀b a e,Same F b->Rep K mg F0 H0 b a e Z->D.bk e a)->w D
 | .ok (.ct Z)=>∀D,(∀b a e,Same F b->Rep K mg F0 H0 b a e Z->D.ct e a)->w D
 | .ok (.rt d)=>∀D,(∀b a x,Gr F0 H0 b a->Rp K mg b x d->D.rt x a)->w D
 | .ex c=>∀D,(∀b a C,Gr F0 H0 b a->mg (clsOf c)=some (.ref C)->E (.ref C) (pay c) a)->w D
 | .bad=>True
abbrev RB:Hp->Bool->Bool->Prop:=λ_ b b'=>b=b'
abbrev RO:Hp->Option Int->Option Int->Prop:=λ_ b b'=>b=b'
def SE(K:W.Frag)(mg:Str->Option Value)(E:XK)(t:TE)(m:ME):Prop:=∀a b F H Y Z,Rep K mg a b F H Y Z->Ans mg E (Rp K mg) F H (m Z) (t Y H)
def STt(K:W.Frag)(mg:Str->Option Value)(E:XK)(t:TT)(m:MB):Prop:=∀a b F H Y Z,Rep K mg a b F H Y Z->Ans mg E RB F H (m Z) (t Y H)
def SA(K:W.Frag)(mg:Str->Option Value)(E:XK)(t:TA)(m:MA):Prop:=∀a b F H Y Z,Rep K mg a b F H Y Z->Ans mg E (Rps K mg) F H (m Z) (t Y H)
def SO(K:W.Frag)(mg:Str->Option Value)(E:XK)(t:TO)(m:Ev->Res (Option Int)):Prop:=∀a b F H Y Z,Rep K mg a b F H Y Z->Ans mg E RO F H (m Z) (t Y H)
def SS(K:W.Frag)(mg:Str->Option Value)(E:XK)(t:TS)(m:MS):Prop:=∀a b F H Y Z,Rep K mg a b F H Y Z->AnsS K mg E a b F (m Z) (λD=>t D Y H)
def AnsG(K:W.Frag)(mg:Str->Option Value)(F0 H0 F:Hp)(n:Nat)(Y:St)(r:Res Ev)(w:(St->Hp->Prop)->Prop):Prop :=
 match r with
 | .ok Z'=>∀Q,(∀c b a,Same F c->Rep K mg F0 H0 c b a Z'->a.drop n=Y.drop n->Q a b)->w Q
 | _=>True
def SG(K:W.Frag)(mg:Str->Option Value)(n:Nat)(t:TG)(g:MG):Prop:=∀a b F H Y Z x d,Rep K mg a b F H Y Z->Rp K mg F x d->AnsG K mg a b F n Y (g d Z) (t x Y H)
def SGs(K:W.Frag)(mg:Str->Option Value)(n:Nat)(t:TGs)(g:MGs):Prop:=∀b d F H Y Z a c,Rep K mg b d F H Y Z->Rps K mg F a c->AnsG K mg b d F n Y (g c Z) (t a Y H)
def ItOk(K:W.Frag)(mg:Str->Option Value)(F:Hp)(J:It)(ds:List D):Prop:=∀e b,Same F e->Same e b->∀i,
 (∀d,ds[i]?=some d->J.go i b/\∀x c,J.yld i b x c->∃a,Gr e b a c/\Rp K mg a x d)/\(ds.length<=i->J.stop i b)
def SI(K:W.Frag)(mg:Str->Option Value)(E:XK)(t:TI)(m:MI):Prop:=∀a b F H Y Z,Rep K mg a b F H Y Z->Ans mg E (ItOk K mg) F H (m Z) (t Y H)
def OpD(K:W.Frag)(mg:Str->Option Value)(r:R2)(f:D->D->Res D):Prop:=∀E F H x y b a,Same F H->Rp K mg F x b->Rp K mg F y a->Ans mg E (Rp K mg) F H (f b a) (r x y H)
def UnD(K:W.Frag)(mg:Str->Option Value)(r:V->Hp->VK->Prop)(f:D->Res D):Prop:=∀E F H x a,Same F H->Rp K mg F x a->Ans mg E (Rp K mg) F H (f a) (r x H)
def CallD(K:W.Frag)(mg:Str->Option Value)(r:List V->Hp->VK->Prop)(f:List D->Res D):Prop:=∀E F H a b,Same F H->Rps K mg F a b->Ans mg E (Rp K mg) F H (f b) (r a H)
section
variable {ta tb tc:TE} {ma mb mc:ME} {sa sb:TT} {na nb:MB}
def Rep.ss{F:Hp}(r:Rep K mg F0 H0 F H Y Z):Same F H:=r.g.s
def se_v(i):SE K mg E (tVar i) (v i):=by
 intro c e F H Y Z r;unfold v getC;split
 .next d h=>
  obtain ⟨x,a,b⟩:=r.im i d h;exact .ret r.ss b λQ q=>⟨x,a,q⟩
 .trivial
def se_c{x:V}(h:∀F,Rp K mg F x d):SE K mg E (tC x) (c d):=λ_ _ F _ _ _ r=>.ret r.ss (h F) λ_ q=>q
def ZoB(hf:OpD K mg r f)(ha:SE K mg E ta ma)(hb:SE K mg E tb mb):SE K mg E (tOp r ta tb) (o2 f ma mb):=by
 intro a b F H Y Z d;refine (ha a b F H Y Z d).bind λi l x h n m=>?_;refine (hb a b i l Y Z (d.gr n)).bind λk g y e c j=>?_;exact hf E k g x y h e c.s (m.same c.f) j
def Zvt(hf:UnD K mg r f)(ha:SE K mg E ta ma):SE K mg E (tUn r ta) (o1 f ma):=by
 intro e i F H Y Z a;exact (ha e i F H Y Z a).bind λh b x c g d=>hf E h b x c g.s d
def ZpQ:SA K mg E tNil yaa:=λ_ _ _ _ _ _ r=>.ret r.ss .nil λ_ q=>q
def Zsm(ha:SE K mg E ta ma)(hr:SA K mg E t m):SA K mg E (Zbq ta t) (Zaa ma m):=by
 intro a b F H Y Z d;refine (ha a b F H Y Z d).bind λe g x l j i=>?_;refine (hr a b e g Y Z (d.gr j)).bind λo k p n c h=>?_;exact .ret c.s (.cons (i.same c.f) h) λ_ q=>q
def ZsR(hf:CallD K mg r f)(ha:SA K mg E t m):SE K mg E (tCB r t) (on f m):=by
 intro e i F H Y Z a;exact (ha e i F H Y Z a).bind λh b x c g d=>hf E h b x c g.s d
def Zdx{F:Hp}{w:VK->Prop}(s:Same F H)(hr:∀p,H p=none->R (upd F p o) (.ref p) a)(h:∀Q,(∀p,H p=none->Q (.ref p) (upd H p o))->w Q)(nz:∀o' u,o≠.frz o' u:=by intro _ _ z;cases z):Ans mg E R F H (.ok a) w :=
 λQ q=>h Q λp b=>q (upd F p o) (upd H p o) (.ref p) (.new s b o nz) (hr p b)
def SAn(n:Nat)(m:MA):Prop:=∀Z a,m Z=.ok a->a.length=n
def ZmF:SAn 0 yaa:=λZ a h=>by cases h;rfl
def Zoi(h:SAn n m):SAn (n+1) (Zaa ma m):=λZ d e=>by
 unfold Zaa at e;cases ea:ma Z with
 | ok x=>
  rw [ea] at e;cases em:m Z with
  | ok xs=>
   have a:=e;rw [em] at a;have b:=a;cases b;exact Vaw (·+1) (h Z xs em)
  | ex c=>
   have a:=e;rw [em] at a;cases a
  | bad=>
   have a:=e;rw [em] at a;cases a
 | ex c=>rw [ea] at e;cases e
 | bad=>rw [ea] at e;cases e
def Ztv(ha:SA K mg E t m)(hl:SAn n m)(hn:n<=sizeLine):SE K mg E (tTup t) (mtp m):=by
 intro d f F H Y Z i;have h:=ha d f F H Y Z i;unfold mtp;cases e:m Z with
 | ok ds=>
  rw [e] at h;exact λQ q=>h _ λl k j g b=>⟨by rw [b.length,hl Z ds e];exact hn,λp a=>q _ _ _ (g.trans (.new g.s a _)) (.tup (SqT.of Zae) (b.same (ZaM (g.s.free a) _)))⟩
 | ex c=>
  rw [e] at h;exact λQ q=>h _ q
 | bad=>trivial
def ZuV(ha:SA K mg E t m)(hl:SAn n m)(hn:n<=sizeLine):SE K mg E (tLst t) (mls m):=by
 intro d f F H Y Z i;have h:=ha d f F H Y Z i;unfold mls;cases e:m Z with
 | ok ds=>
  rw [e] at h;exact λQ q=>h _ λl k j g b=>⟨by rw [b.length,hl Z ds e];exact hn,λp a=>q _ _ _ (g.trans (.new g.s a _)) (.lst (SqL.of Zae) (b.same (ZaM (g.s.free a) _)))⟩
 | ex c=>
  rw [e] at h;exact λQ q=>h _ q
 | bad=>trivial
def st_b(ha:SE K mg E ta ma):STt K mg E (L2.tB ta) (trb ma):=by
 intro e g F H Y Z a;refine (ha e g F H Y Z a).bind λi h x c f d=>?_;cases c with
 | bl b=>cases d;exact .ret f.s rfl λQ q=>⟨b,rfl,q⟩
 | _=>trivial
def Zi8(ha:SE K mg E ta ma):STt K mg E (Ze0 ta) (trb ma):=st_b ha
def Ztw(ha:STt K mg E sa na)(hb:STt K mg E sb nb):STt K mg E (tAnd sa sb) (bAnd na nb):=by
 intro b d F H Y Z a;refine (ha b d F H Y Z a).bind λg e x h c f=>?_;cases (f);cases x with
 | true=>
  have z:=hb b d g e Y Z (a.gr c);simp only [Va8];exact z
 | false=>
  exact Ans.ret c.s rfl λQ q=>q
def ZwL(ha:STt K mg E sa na)(hb:STt K mg E sb nb):STt K mg E (tOr sa sb) (bOr na nb):=by
 intro b d F H Y Z a;refine (ha b d F H Y Z a).bind λg e x h c f=>?_;cases (f);cases x with
 | true=>
  exact Ans.ret c.s rfl λQ q=>q
 | false=>
  have z:=hb b d g e Y Z (a.gr c);simp only [Vbs,Va7];exact z
def Zva(ha:STt K mg E sa na):STt K mg E (tNot sa) (bNot na):=by
 intro c e F H Y Z a;refine (ha c e F H Y Z a).bind λh f x g d b=>?_;cases (b);exact Ans.ret d.s rfl λQ q=>q
def Zs4(ha:SE K mg E ta ma)(hb:SE K mg E tb mb):SE K mg E (Zst ta tb) (eAnd ma mb):=by
 intro e f F H Y Z b;have z:=(st_b ha e f F H Y Z b).bind (k:=λx=>if x=true then mb Z else .ok (D.bl false)) (w':=λc a Q=>if c=true then tb Y a Q else Q (V.bl false) a) λh a x i d g=>by
  cases (g);cases x with
  | true=>
   have z:=hb e f h a Y Z (b.gr d);simp only [Va8];exact z
  | false=>
   exact Ans.ret d.s (.bl false) λQ q=>q
 exact z
def Zu7(ha:SE K mg E ta ma):SE K mg E (ZrJ ta) (eNot ma):=by
 intro c e F H Y Z a;exact (st_b ha c e F H Y Z a).bind λh f x g d b=>by
  cases (b);exact Ans.ret d.s (.bl _) λQ q=>q
def Ztk(hc:STt K mg E sa na)(ha:SE K mg E ta ma)(hb:SE K mg E tb mb):SE K mg E (tIf sa ta tb) (ife na ma mb):=by
 intro b c F H Y Z a;refine (hc b c F H Y Z a).bind λf d x h e g=>?_;cases (g);cases x with
 | true=>
  have z:=ha b c f d Y Z (a.gr e);simp only [Va8];exact z
 | false=>
  have z:=hb b c f d Y Z (a.gr e);simp only [Vbs,Va7];exact z
end
section
def Zpp(h:∀E F H a b,Same F H->Ans mg E (Rp K mg) F H (f a b) (r (.int a) (.int b) H)):OpD K mg r (ii f):=by
 intro E F H x y g e s c d;unfold ii;split
 .cases c;cases d;exact h E F H _ _ s
 .trivial
def ZkC(h:∀a b,(∃d,f a b=.ok d/\C a b/\∀F,Rp K mg F (g a b) d)\/f a b=.bad):OpD K mg (rI C g) (ii f):=by
 refine Zpp λE F H a b s=>?_;rcases h a b with ⟨d,e,hc,hr⟩ | e
 .rw [e];exact .ret s (hr F) λQ q=>⟨a,b,rfl,rfl,hc,q⟩
 .rw [e];trivial
def Zia(h:∀a b,(∃d,f a b=.ok d/\∀F,Rp K mg F (g a b) d)\/f a b=.bad):OpD K mg (rI0 g) (ii f):=by
 refine Zpp λE F H a b s=>?_;rcases h a b with ⟨d,e,hr⟩ | e
 .rw [e];exact .ret s (hr F) λQ q=>⟨a,b,rfl,rfl,q⟩
 .rw [e];trivial
def Zsz:OpD K mg (rI0 λi j=>.int (i - j)) dSub:=Zia λ_ _=>.inl ⟨_,rfl,λ_=>.int _⟩
def Zp2:OpD K mg (rI0 λi j=>.bl (decide (i<j))) dLt:=Zia λ_ _=>.inl ⟨_,rfl,λ_=>.bl _⟩
def ZpI:OpD K mg (rI0 λi j=>.bl (decide (i<=j))) dLe:=Zia λ_ _=>.inl ⟨_,rfl,λ_=>.bl _⟩
def ZuW:OpD K mg (rI0 λi j=>.bl (decide (j<i))) dGt:=Zia λ_ _=>.inl ⟨_,rfl,λ_=>.bl _⟩
def Zpi:OpD K mg (rI0 λi j=>.bl (decide (j<=i))) dGe:=Zia λ_ _=>.inl ⟨_,rfl,λ_=>.bl _⟩
def Zq7:OpD K mg (rI (λ_ j=>j≠0) λi j=>.int (i.fmod j)) yau:=ZkC λa b=>by
 unfold iMod;by_cases h1:0<b
 .rw [iP h1];exact .inl ⟨_,rfl,by omega,λ_=>by rw [Int.fmod_eq_emod_of_nonneg a (by omega)];exact .int _⟩
 .rw [iN h1];by_cases h2:b=0
  .rw [iP h2];exact .inr rfl
  .rw [iN h2];exact .inl ⟨_,rfl,h2,λ_=>.int _⟩
def Zrs:OpD K mg (rI ZqT λi j=>.int (i.fdiv j)) yaP:=ZkC λa b=>by
 unfold iDiv;by_cases h0:b.natAbs.log2<9000
 .rw [iP h0];by_cases h1:0<b
  .rw [iP h1];exact .inl ⟨_,rfl,⟨by omega,h0⟩,λ_=>by rw [VaJ a (by omega)];exact .int _⟩
  .rw [iN h1];by_cases h2:b=0
   .rw [iP h2];exact .inr rfl
   .rw [iN h2];exact .inl ⟨_,rfl,⟨h2,h0⟩,λ_=>.int _⟩
 .rw [iN h0];exact .inr rfl
def Zp9:OpD K mg (rI CPow λi j=>.int (i^j.toNat)) dPow:=ZkC λa b=>by
 unfold iPow;by_cases h:0<=b/\b<=1000000/\a.natAbs<2^64
 .rw [iP h];exact .inl ⟨_,rfl,h,λ_=>.int _⟩
 .rw [iN h];exact .inr rfl
def Zrt:OpD K mg (rI CPow λi j=>.int (i*2^j.toNat)) dShl:=ZkC λa b=>by
 unfold iShl;by_cases h:0<=b/\b<=1000000/\a.natAbs<2^64
 .rw [iP h];exact .inl ⟨_,rfl,h,λ_=>.int _⟩
 .rw [iN h];exact .inr rfl
def Zrd:OpD K mg (rI (λ_ j=>0<=j) λi j=>.int (i/2^j.toNat)) dShr:=ZkC λa b=>by
 unfold iShr;by_cases h:0<=b
 .rw [iP h];exact .inl ⟨_,rfl,h,λ_=>.int _⟩
 .rw [iN h];exact .inr rfl
def Zq6(h:∀i H Q,Q (.int (-i)) H->r (.int i) H Q):UnD K mg r dNeg:=by
 intro E F H x b s a;unfold dNeg;split
 .cases a;exact .ret s (.int _) λQ q=>h _ _ _ q
 .trivial
def ZuY(K:W.Frag):R2:=λx y H Q=>∃l b a c,x=.ref l/\y=.ref b/\SqL K H l a/\SqL K H b c/\a.length+c.length<=sizeLine/\∀p,H p=none->Q (.ref p) (upd H p (.lst (a++c)))
def Zvc(K:W.Frag):R2:=λx y H Q=>∃a b c d,x=.ref a/\y=.ref b/\SqT K H a c/\SqT K H b d/\c.length+d.length<=sizeLine /\
 (c=[]->Q (.ref b) H)/\(c≠[]->d=[]->Q (.ref a) H)/\(c≠[]->d≠[]->∀p,H p=none->Q (.ref p) (upd H p (.tup (c++d))))
def ZvJ:R2:=λx y H Q=>∃i j,x=.str i/\y=.str j/\i.length+j.length<=sizeLine/\Q (.str (i++j)) H
def Zsn(K:W.Frag):R2:=λx y H Q=>rI0 (λi j=>.int (i+j)) x y H Q\/ZuY K x y H Q\/Zvc K x y H Q\/ZvJ x y H Q
def ZiX(h:n<=LIM):n<=sizeLine:=Vak h (by decide)
def ZrV:OpD K mg (Zsn K) yac:=by
 intro E F H x y l k s f d;unfold yac;split
 .cases f;cases d;exact .ret s (.int _) λQ q=>.inl ⟨_,_,rfl,rfl,q⟩
 .next g i=>
  by_cases h:g.length+i.length<=LIM
  .rw [iP h];cases f with
   | lst ha ra=>
    cases d with
    | lst hb rb=>
     refine Zdx s (λp c=>.lst (SqL.of Zae) ((Rps.app rb ra).same (ZaM (s.free c) _))) λQ q=>.inr (.inl ⟨_,_,_,_,rfl,rfl,s.seq ha,s.seq hb,?_,q⟩);rw [ra.length,rb.length];exact ZiX h
  .rw [iN h];trivial
 .next g i=>
  by_cases h:g.length+i.length<=LIM
  .rw [iP h];cases f with
   | tup ha ra=>
    cases d with
    | tup hb rb=>
     rename_i a xs b ys;have j:xs.length+ys.length<=sizeLine:=by rw [ra.length,rb.length];exact ZiX h
     intro Q q;refine .inr (.inr (.inl ⟨a,b,xs,ys,rfl,rfl,Zau s ha,Zau s hb,j,λe=>?_,λ_ e=>?_,λ_ _ p c=>?_⟩))
     .subst e;cases ra;exact q F H _ (.refl s) (.tup hb rb)
     .subst e;cases rb;rw [VaT] at q;exact q F H _ (.refl s) (.tup ha ra)
     .exact q _ _ _ (.new s c _) (.tup (SqT.of Zae) ((Rps.app rb ra).same (ZaM (s.free c) _)))
  .rw [iN h];trivial
 .next a b=>
  by_cases h:a.length+b.length<=LIM
  .rw [iP h];cases f;cases d;exact .ret s (.str _) λQ q=>.inr (.inr (.inr ⟨_,_,rfl,rfl,ZiX h,q⟩))
  .rw [iN h];trivial
 .trivial
def ZtZ(ha:SE K mg E ta ma):SE K mg E (tOp (λx y H Q=>y=.non/\Q (.bl (decide (x=.non))) H) ta (tC .non)) (o1 dIsN ma):=by
 intro d g F H Y Z a;refine (ha d g F H Y Z a).bind λi h x b f c=>?_;have e:decide (x=V.non)=Zk6 b:=by cases c<;>rfl
 exact .ret f.s (.bl _) λQ q=>⟨rfl,by rw [e];exact q⟩
def ZsN(ha:SE K mg E ta ma):SE K mg E (tOp (λx y H Q=>y=.non/\Q (.bl (!decide (x=.non))) H) ta (tC .non)) (o1 ZlL ma):=by
 intro d g F H Y Z a;refine (ha d g F H Y Z a).bind λi h x b f c=>?_;have e:decide (x=V.non)=Zk6 b:=by cases c<;>rfl
 exact .ret f.s (.bl _) λQ q=>⟨rfl,by rw [e];exact q⟩
def ZpV{F:Hp}{i:Int}(r:Rps K mg F xs ds)(h:at_ ds i=some d):∃x,atI xs i=some x/\Rp K mg F x d:=by
 have b:=r.length;unfold at_ at h;unfold atI ixN;by_cases h0:0<=i
 .rw [iP h0] at h;obtain ⟨x,e,a⟩:=r.get h;have c:=(Vat.mp e).1;exact ⟨x,by rw [iP h0,iP (by omega)];exact e,a⟩
 .rw [iN h0] at h;by_cases h1:-(ds.length:Int)<=i
  .rw [iP h1] at h;obtain ⟨x,e,a⟩:=r.get h;exact ⟨x,by rw [iN h0,iP (by omega),b];exact e,a⟩
  .rw [iN h1] at h;cases h
def rIxD(K:W.Frag):R2:=λx y H Q=>rIxL K x y H Q\/rIxT K x y H Q
def Ztb:OpD K mg (rIxD K) dIx:=by
 intro E F H x y j h s g f;unfold dIx;split
 .next b i=>
  cases e:at_ b i with
  | none=>trivial
  | some d=>
   cases g with
   | lst ha ra=>
    cases f;obtain ⟨z,c,a⟩:=ZpV ra e;exact Ans.ret s a λQ q=>.inl ⟨_,_,_,_,rfl,rfl,s.seq ha,c,q⟩
 .next b i=>
  cases e:at_ b i with
  | none=>trivial
  | some d=>
   cases g with
   | tup ha ra=>
    cases f;obtain ⟨z,c,a⟩:=ZpV ra e;exact Ans.ret s a λQ q=>.inr ⟨_,_,_,_,rfl,rfl,Zau s ha,c,q⟩
 .trivial
def ZjC(n d)(o):cutAt n d o=HT.sIx n d o:=by cases o<;>rfl
def ZlE{F:Hp}(r:Rps K mg F xs ds)(lo hi):Rps K mg F (cutV xs lo hi) (cutL ds lo hi):=by
 unfold cutV cutL;simp only [ZjC,r.length];exact (r.drop _).take _
def rSlU(K:W.Frag):V->Option Int->Option Int->Hp->VK->Prop:=λx c d H Q=>∃a b,x=.ref a/\SqT K H a b /\
 ((HT.sIx b.length 0 c=0/\HT.sIx b.length b.length d=b.length)->Q (.ref a) H)/\(¬(HT.sIx b.length 0 c=0/\HT.sIx b.length b.length d=b.length)->∀p,H p=none->Q (.ref p) (upd H p (.tup (cutV b c d))))
def rSlD(K:W.Frag):V->Option Int->Option Int->Hp->VK->Prop:=λx a b H Q=>rSlL K x a b H Q\/rSlU K x a b H Q
def Zup(ha:SE K mg E ta ma)(hl:SO K mg E tl ml)(hh:SO K mg E th mh):SE K mg E (tSl (rSlD K) ta tl th) (cut ma ml mh):=by
 intro g i F H Y Z j;refine (ha g i F H Y Z j).bind λu w x C m A=>?_;refine (hl g i u w Y Z (j.gr m)).bind λv n l D k y=>?_;cases (y);refine (hh g i v n Y Z ((j.gr m).gr k)).bind λo B h G b z=>?_;cases (z);have c:=A.same (k.f.trans b.f);unfold dCut;split
 .cases c with
  | lst hx r=>
   refine Zdx b.s (λp d=>.lst (SqL.of Zae) ((ZlE r l h).same (ZaM (b.s.free d) _))) λQ q=>.inl ⟨_,_,rfl,b.s.seq hx,q⟩
 .cases c with
  | tup hx r=>
   rename_i ds a xs;intro Q q;refine .inr ⟨a,xs,rfl,Zau b.s hx,λe=>?_,λ_ p d=>q _ _ _ (.new b.s d _) (.tup (SqT.of Zae) ((ZlE r l h).same (ZaM (b.s.free d) _)))⟩;have t:cutL ds l h=ds:=by
    unfold cutL;simp only [ZjC,<-r.length,e.1,e.2];rw [Vbu,Nat.sub_zero,r.length,List.take_length]
   rw [t] at q;exact q o B _ (.refl b.s) (.tup hx r)
 .trivial
def Ze8:SO K mg E Zjv pno:=λ_ _ _ _ _ _ r=>Ans.ret (R:=RO) r.ss rfl λ_ q=>q
def Ze9(ha:SE K mg E ta ma):SO K mg E (ZrT ta) (pso ma):=by
 intro d f F H Y Z a;refine (ha d f F H Y Z a).bind λh g x b e c=>?_;cases b with
 | int i=>cases c;exact Ans.ret e.s rfl λQ q=>⟨i,rfl,q⟩
 | _=>trivial
def Zii:CallD K mg (λxs H Q=>∃p ys,xs=[.ref p]/\(SqL K H p ys\/SqT K H p ys)/\Q (.int ys.length) H) bLen:=by
 intro E F H xs b s r;unfold bLen;split
 .obtain ⟨x,rfl,a⟩:=r.one;cases a with
  | lst h q=>rw [<-q.length];exact .ret s (.int _) λQ q=>⟨_,_,rfl,.inl (s.seq h),q⟩
 .obtain ⟨x,rfl,a⟩:=r.one;cases a with
  | tup h q=>rw [<-q.length];exact .ret s (.int _) λQ q=>⟨_,_,rfl,.inr (Zau s h),q⟩
 .trivial
def ZmA:CallD K mg (λxs H Q=>∃i,xs=[.int i]/\Q (.int (if i<0 then -i else i)) H) bAbs:=by
 intro E F H xs b s r;unfold bAbs;split
 .obtain ⟨x,rfl,a⟩:=r.one;cases a;exact .ret s (.int _) λQ q=>⟨_,rfl,q⟩
 .trivial
def Zde:CallD K mg (λxs H Q=>∃p ys,xs=[.ref p]/\((SqL K H p ys/\∀l,H l=none->Q (.ref l) (upd H l (.tup ys)))\/(SqT K H p ys/\Q (.ref p) H))) bTup:=by
 intro E F H xs c s r;unfold bTup;split
 .obtain ⟨x,rfl,a⟩:=r.one;cases a with
  | lst h q=>exact Zdx s (λp b=>.tup (SqT.of Zae) (q.same (ZaM (s.free b) _))) λQ z=>⟨_,_,rfl,.inl ⟨s.seq h,z⟩⟩
 .obtain ⟨x,rfl,a⟩:=r.one;cases a with
  | tup h q=>exact .ret s (.tup h q) λQ z=>⟨_,_,rfl,.inr ⟨Zau s h,z⟩⟩
 .trivial
def Zk7:CallD K mg (λxs H Q=>∃p ys,xs=[.ref p]/\(SqL K H p ys\/SqT K H p ys)/\∀l,H l=none->Q (.ref l) (upd H l (.lst ys))) bLst:=by
 intro E F H xs c s r;unfold bLst;split
 .obtain ⟨x,rfl,a⟩:=r.one;cases a with
  | lst h q=>exact Zdx s (λp b=>.lst (SqL.of Zae) (q.same (ZaM (s.free b) _))) λQ z=>⟨_,_,rfl,.inl (s.seq h),z⟩
 .obtain ⟨x,rfl,a⟩:=r.one;cases a with
  | tup h q=>exact Zdx s (λp b=>.lst (SqL.of Zae) (q.same (ZaM (s.free b) _))) λQ z=>⟨_,_,rfl,.inr (Zau s h),z⟩
 .trivial
def spD(K:W.Frag)(mg:Str->Option Value)(n:Nat)(m:List D->Res D):Sp:=λf H Q E=>f.length=n/\∃F b,Same F H/\Rps K mg F f b/\m b≠.bad /\
 (∀d,m b=.ok d->∀e a x,Gr F H e a->Rp K mg e x d->Q x a)/\(∀c,m b=.ex c->∀e a C,Gr F H e a->mg (clsOf c)=some (.ref C)->E (.ref C) (pay c) a)
def ZhC{F:Hp}(s:Same F H)(r:Rps K mg F vs ds)(hl:ds.length=n):Ans mg E (Rp K mg) F H (m ds) (λQ=>spD K mg n m vs H Q E):=by
 have b:=r.length.trans hl;cases e:m ds with
 | ok d=>
  intro Q q;refine ⟨b,F,ds,s,r,λz=>?_,λf a=>?_,λc a=>?_⟩
  .rw [e] at z;cases z
  .rw [e] at a;cases a;exact q
  .rw [e] at a;cases a
 | ex c=>
  intro Q q;refine ⟨b,F,ds,s,r,λz=>?_,λf a=>?_,λc a=>?_⟩
  .rw [e] at z;cases z
  .rw [e] at a;cases a
  .rw [e] at a;cases a;exact q
 | bad=>trivial
def ZrA(ha:SA K mg E t ma)(hl:SAn n ma):SE K mg E (ZiA (spD K mg n m) [] E t) (on m ma):=by
 intro c g F H Y Z a;refine (ha c g F H Y Z a).bindE λd e i h j f b=>?_;have z:=ZhC (E:=E) (m:=m) f.s b (hl Z d e);simp only [VaT];exact z
end
section
variable {ta:TE} {ma:ME} {F:Hp}
def AnsS.mono{w:Ends->Prop}(s:Same F F1)(h:AnsS K mg E F0 H0 F1 r w):AnsS K mg E F0 H0 F r w:=by
 cases r with
 | ok f=>
  cases f with
  | nx Z=>exact λD q=>h D λi e g b a=>q i e g (s.trans b) a
  | bk Z=>exact λD q=>h D λi e g b a=>q i e g (s.trans b) a
  | ct Z=>exact λD q=>h D λi e g b a=>q i e g (s.trans b) a
  | rt d=>exact h
 | ex c=>exact h
 | bad=>trivial
def Ans.stm{α β:Type}{R:Hp->β->α->Prop}{r:Res α}{w:(β->Hp->Prop)->Prop}{k:α->Res Fl}{w':β->Hp->Ends->Prop}(h1:Ans mg E R F H r w)(g0:Gr F0 H0 F H)(h2:∀a,r=.ok a->∀F1 H1 b,Gr F H F1 H1->R F1 b a->AnsS K mg E F0 H0 F1 (k a) (w' b H1)) :
  AnsS K mg E F0 H0 F (r.bind k) (λD=>w λb H1=>w' b H1 D):=by
 cases r with
 | ok a=>
  show AnsS K mg E F0 H0 F (k a) _;have e:=λF1 H1 b (g:Gr F H F1 H1) q=>(h2 a rfl F1 H1 b g q).mono g.f;generalize k a=r2 at e;cases r2 with
  | ok f=>
   cases f with
   | nx Z=>exact λD q=>h1 _ λF1 H1 b g h=>e F1 H1 b g h D q
   | bk Z=>exact λD q=>h1 _ λF1 H1 b g h=>e F1 H1 b g h D q
   | ct Z=>exact λD q=>h1 _ λF1 H1 b g h=>e F1 H1 b g h D q
   | rt d=>exact λD q=>h1 _ λF1 H1 b g h=>e F1 H1 b g h D q
  | ex c=>exact λD q=>h1 _ λF1 H1 b g h=>e F1 H1 b g h D q
  | bad=>trivial
 | ex c=>exact λD q=>h1 _ λF1 H1 C g i=>q F1 H1 C (g0.trans g) i
 | bad=>trivial
def Zs1:SS K mg E Zlk nop:=λ_ _ _ _ _ _ r D q=>q _ _ _ (Same.refl _) r
def Ztq{n:MS}(h1:SS K mg E t m)(h2:SS K mg E u n):SS K mg E (tSeq t u) (sq m n):=by
 intro k l F H Y Z o;have h:=h1 k l F H Y Z o;unfold sq;cases e:m Z with
 | ok f=>
  rw [e] at h;cases f with
  | nx Z'=>
   show AnsS K mg E k l F (n Z') _;have a:=λb j g (s:Same F b) i=>(h2 k l b j g Z' i).mono s;generalize n Z'=r2 at a;cases r2 with
   | ok f=>
    cases f with
    | nx Z=>exact λD q=>h _ λb j g s i=>a b j g s i D q
    | bk Z=>exact λD q=>h _ λb j g s i=>a b j g s i D q
    | ct Z=>exact λD q=>h _ λb j g s i=>a b j g s i D q
    | rt d=>exact λD q=>h _ λb j g s i=>a b j g s i D q
   | ex c=>exact λD q=>h _ λb j g s i=>a b j g s i D q
   | bad=>trivial
  | bk Z'=>exact λD q=>h _ q
  | ct Z'=>exact λD q=>h _ q
  | rt d=>exact λD q=>h _ q
 | ex c=>rw [e] at h;exact λD q=>h _ q
 | bad=>trivial
def ZqE(ha:SE K mg E ta ma):SS K mg E (ZcU ta) (drp ma):=by
 intro c h F H Y Z a;exact (ha c h F H Y Z a).stm a.g λd _ f b x e i=>λD q=>q f b Y (Same.refl _) (a.gr e)
def ZsU(ha:SE K mg E ta ma):SS K mg E (tRet ta) (ret ma):=by
 intro e i F H Y Z a;exact (ha e i F H Y Z a).stm a.g λd _ h b x f c=>λD q=>q h b x (a.g.trans f) c
def Zub:SS K mg E Zsf cnt:=λ_ _ _ _ _ _ r D q=>q _ _ _ (Same.refl _) r
def Zv8{n:MS}(hc:STt K mg E sc nc)(h1:SS K mg E t m)(h2:SS K mg E u n):SS K mg E (tIfS sc t u) (ifs nc m n):=by
 intro c d F H Y Z a;refine (hc c d F H Y Z a).stm a.g λb _ h e x f i=>?_;cases (i);cases b with
 | true=>
  have z:=h1 c d h e Y Z (a.gr f);simp only [Va8];exact z
 | false=>
  have z:=h2 c d h e Y Z (a.gr f);simp only [Vbs,Va7];exact z
def Zi2{l:List α}{x:α}(h:i<n):(l.set i x).drop n=l.drop n:=by
 rw [List.drop_set,iP h]
def Zsi(h:i<n):SG K mg n (Zfc i) (gN i):=λ_ _ _ _ _ _ _ _ r a _ q=>q _ _ _ (Same.refl _) (r.set i a) (Zi2 h)
def Zqs:SGs K mg n gNil gs0:=by
 intro c e F H Y Z b d r a;unfold gs0;split
 .cases a;exact λQ q=>⟨rfl,q _ _ _ (Same.refl _) r rfl⟩
 .trivial
def ZoK(h1:SG K mg n t g)(h2:SGs K mg n u gs):SGs K mg n (Zr7 t u) (gs1 g gs):=by
 intro f i F H Y Z j b r k;cases k with
 | nil=>trivial
 | cons rx k=>
  rename_i x j d b;have h:=h1 f i F H Y Z x d r rx;show AnsG K mg f i F n Y ((g d Z).bind λa=>gs b a) _;cases e:g d Z with
  | ok a=>
   rw [e] at h;show AnsG K mg f i F n Y (gs b a) _;cases e2:gs b a with
   | ok Z''=>
    refine λQ q=>⟨x,j,rfl,h _ λp z v l y C=>?_⟩;have m:=h2 f i p z v a j b y (k.same l);rw [e2] at m;exact m _ λw o A B s D=>q w o A (l.trans B) s (D.trans C)
   | ex c=>trivial
   | bad=>trivial
  | ex c=>trivial
  | bad=>trivial
def gLst(K:W.Frag)(n:Nat)(t:TGs):TG:=λv Y H Q=>∃a b,v=.ref a/\SqL K H a b/\b.length=n/\t b Y H Q
def gSeq(K:W.Frag)(n:Nat)(t:TGs):TG:=λv Y H Q=>gTup K n t v Y H Q\/gLst K n t v Y H Q
def ZtX(h:SGs K mg n t g):SG K mg n (gSeq K k t) (gU k g):=by
 intro f i F H Y Z x d r j;unfold gU items;split
 .next a=>
  show AnsG K mg f i F n Y (if a.length=k then g a Z else .bad) _
  by_cases hl:a.length=k
  .rw [iP hl];cases j with
   | lst ha ra=>
    have b:=h f i F H Y Z _ _ r ra;cases e:g a Z with
    | ok Z'=>
     rw [e] at b;exact λQ q=>.inr ⟨_,_,rfl,r.ss.seq ha,ra.length.trans hl,b Q q⟩
    | ex c=>trivial
    | bad=>trivial
  .rw [iN hl];trivial
 .next a=>
  show AnsG K mg f i F n Y (if a.length=k then g a Z else .bad) _
  by_cases hl:a.length=k
  .rw [iP hl];cases j with
   | tup ha ra=>
    have b:=h f i F H Y Z _ _ r ra;cases e:g a Z with
    | ok Z'=>
     rw [e] at b;exact λQ q=>.inl ⟨_,_,rfl,Zau r.ss ha,ra.length.trans hl,b Q q⟩
    | ex c=>trivial
    | bad=>trivial
  .rw [iN hl];trivial
 .trivial
def Zul{t:TG}{g:MG}(ha:SE K mg E ta ma)(hg:SG K mg n t g)(hx:∀d Z c,g d Z≠.ex c):SS K mg E (tAsg ta t) (asg g ma):=by
 intro b f F H Y Z a;refine (ha b f F H Y Z a).stm a.g λd _ j l x p m=>?_;have h:=hg b f j l Y Z x d (a.gr p) m;cases e:g d Z with
 | ok Z'=>
  rw [e] at h;exact λD q=>h _ λr o k s i _=>q r o k s i
 | ex c=>exact aB e (hx d Z c)
 | bad=>trivial
def ZpH(ha:SE K mg E ta ma):SS K mg E (tAsg ta (Zfc i)) (st i ma):=by
 intro e j F H Y Z a;exact (ha e j F H Y Z a).stm a.g λd _ h b x f c=>λD q=>q h b _ (Same.refl _) ((a.gr f).set i c)
def Zu3{tb:TE}{mb:ME}(ha:SE K mg E ta ma)(hb:SE K mg E tb mb):SS K mg E (tPar i j (Zbq ta (Zbq tb tNil))) (par i j ma mb):=by
 intro c h F H Y Z a;refine (ha c h F H Y Z a).stm a.g λd _ m p x b r=>?_;refine (hb c h m p Y Z (a.gr b)).stm (a.g.trans b) λe _ o l y k n=>?_;exact λD q=>⟨x,y,rfl,q o l _ (Same.refl _) ((((a.gr b).gr k).set i (r.same k.f)).set j n)⟩
def Zvj(h:SS K mg E t m):SS K mg E t (frz i m):=by
 intro c f F H Y Z a;unfold frz getO;split
 .next g e=>
  obtain ⟨d,s,b⟩:=a.frz e;exact (h c f d H Y _ b).mono s
 .trivial
def Zti(ha:SE K mg E ta ma)(hty:∀H a xs,H a=some (.lst xs)->tyV K "list" (.ref a) H):SS K mg E (ZcU (tBM K "list" Zbp (tVar i) (Zbq ta tNil))) (app i ma):=by
 intro r u F H Y Z l;unfold app getO;split
 .next j e=>
  show AnsS K mg E r u F ((ma Z).bind λd=>if j.length<LIM then .ok (.nx (Z.set i (.ow (j++[d])))) else .bad) _
  obtain ⟨a,xs,w,B,G,v,t⟩:=l.ow i j e;have y:=t.length;have h:=(ha r u F H Y Z l).stm (K:=K) (k:=λd=>if j.length<LIM then .ok (.nx (Z.set i (.ow (j++[d])))) else .bad) (w':=λx n D=>Zbp (.ref a) [x] n λ_ p=>D.nx Y p) l.g λd _ A L x m I=>?_
  .generalize ((ma Z).bind λd=>if j.length<LIM then Res.ok (Fl.nx (Z.set i (.ow (j++[d])))) else .bad)=res at h
   have b:∀D:Ends,(ta Y H λx n=>Zbp (.ref a) [x] n λ_ p=>D.nx Y p)->ZcU (tBM K "list" Zbp (tVar i) (Zbq ta tNil)) D Y H:=λD z=>⟨.ref a,w,hty H a xs v,z⟩;cases res with
   | ok f=>
    cases f with
    | nx Z=>exact λD q=>b D (h D q)
    | bk Z=>exact λD q=>b D (h D q)
    | ct Z=>exact λD q=>b D (h D q)
    | rt d=>exact λD q=>b D (h D q)
   | ex c=>exact λD q=>b D (h D q)
   | bad=>trivial
  .by_cases hlim:j.length<LIM
   .simp only [hlim,Va8];have C:=l.gr m;obtain ⟨J,s⟩:=m.o a _ G v;exact λD q=>⟨a,xs,x,rfl,rfl,s,by rw [y];exact Vaf hlim (by decide),q A _ Y (Same.refl _) (C.app e w s B J (t.same m.f) I)⟩
   .simp only [hlim,Va7];trivial
 .trivial
def iSeq(K:W.Frag)(tl:TE):TI:=λY H R=>tl Y H λx b=>∃a,x=.ref a/\(((∃c,SqL K b a c)/\R (Itl K a) b)\/((∃c,SqT K b a c)/\R (Itt K a) b))
def ZtT(h:SqL K F a xs)(r:Rps K mg F xs ds):ItOk K mg F (Itl K a) ds:=by
 intro n o c g i;have b:=(c.trans g).seq h;refine ⟨λd e=>?_,λk=>⟨xs,b,by rw [r.length];exact k⟩⟩;obtain ⟨x,f,l⟩:=r.get e;refine ⟨⟨xs,x,b,f⟩,λy m q=>?_⟩;obtain ⟨rfl,q⟩:=q;have j:=q xs b;rw [f] at j;cases j;exact ⟨n,.refl g,l.same c⟩
def ZtG(h:SqT K F a xs)(r:Rps K mg F xs ds):ItOk K mg F (Itt K a) ds:=by
 intro n o c g i;have b:=Zau (c.trans g) h;refine ⟨λd e=>?_,λk=>⟨xs,b,by rw [r.length];exact k⟩⟩;obtain ⟨x,f,l⟩:=r.get e;refine ⟨⟨xs,x,b,f⟩,λy m q=>?_⟩;obtain ⟨rfl,q⟩:=q;have j:=q xs b;rw [f] at j;cases j;exact ⟨n,.refl g,l.same c⟩
def ZpC(lo)(n):ItOk K mg F (Itr lo n) (Zbw lo n):=by
 intro g j h f i;unfold Zbw;refine ⟨λd e=>?_,λb=>?_⟩
 .rw [Va3] at e;have a:i<n:=by
   rcases Nat.lt_or_ge i n with z | z
   .exact z
   .rw [VbC (by rw [VbD];exact z)] at e;cases e
  rw [VbE a] at e;cases e;refine ⟨a,λy c q=>?_⟩;obtain ⟨rfl,rfl⟩:=q;exact ⟨g,.refl f,.int _⟩
 .rw [VaO,VbD] at b;exact b
def Zu2(ha:SE K mg E ta ma):SI K mg E (iSeq K ta) (iv ma):=by
 intro e f F H Y Z c;refine (ha e f F H Y Z c).bind λi g x d a b=>?_;cases d with
 | lst ds=>
  cases b with
  | lst h r=>exact Ans.ret a.s (ZtT h r) λQ q=>⟨_,rfl,.inl ⟨⟨_,a.s.seq h⟩,q⟩⟩
 | tup ds=>
  cases b with
  | tup h r=>exact Ans.ret a.s (ZtG h r) λQ q=>⟨_,rfl,.inr ⟨⟨_,Zau a.s h⟩,q⟩⟩
 | _=>trivial
def ZvS(ha:SA K mg E t m):SI K mg E (ZqV t) (r1 m):=by
 intro d f F H Y Z a;refine (ha d f F H Y Z a).bind λl i g k e b=>?_;unfold rng1;split
 .next j=>
  by_cases h:-1000000000<=j/\j<=1000000000
  .rw [iP h];obtain ⟨x,rfl,c⟩:=b.one;cases c;exact Ans.ret e.s (ZpC 0 _) λQ q=>⟨j,rfl,by omega,by omega,q⟩
  .rw [iN h];trivial
 .trivial
def Zwv(ha:SA K mg E t m):SI K mg E (Zsa t) (r2 m):=by
 intro a b F H Y Z d;refine (ha a b F H Y Z d).bind λl o n k g e=>?_;unfold rng2;split
 .next i j=>
  by_cases h:(-1000000000<=i/\i<=1000000000)/\(-1000000000<=j/\j<=1000000000)
  .rw [iP h];obtain ⟨x,y,rfl,f,c⟩:=e.two;cases f;cases c;exact Ans.ret g.s (ZpC i _) λQ q=>⟨i,j,rfl,by omega,q⟩
  .rw [iN h];trivial
 .trivial
def Zuh{wi:TI}{mi:MI}{t:TG}{g:MG}{u:TS}{m:MS}(hi:SI K mg E wi mi)(hg:SG K mg n t g)(hx:∀d Z c,g d Z≠.ex c)(hb:SS K mg E u m):SS K mg E (tFor wi t u) (for_ mi g m):=by
 intro v w F H Y Z rr
 refine (hi v w F H Y Z rr).stm (w':=λJ H1 D=>∃W:Nat->Nat->St->Hp->Prop,(∃m,W 0 m Y H1)/\∀i m Y H,W i m Y H ->
  (J.stop i H/\D.nx Y H)\/(J.go i H/\∃N:St->Hp->Prop,(∀j a,N j a->∃S,S<m/\W (i+1) S j a)/\∀x a,J.yld i H x a->t x Y a λP A=>u { D with nx:=N,ct:=N,bk:=D.nx } P A)) rr.g λo _ O H1 J g1 jo=>?_
 have r1:=rr.gr g1;have r:∀(D:Ends) (b:Res Fl),b≠.bad->(∀l,b=.ok (.nx l)->∀h a j,Same O h->Rep K mg v w h a j l->D.nx j a)->(∀l,b=.ok (.bk l)->∀h a j,Same O h->Rep K mg v w h a j l->D.bk j a) ->
   (∀l,b=.ok (.ct l)->∀h a j,Same O h->Rep K mg v w h a j l->D.ct j a)->(∀d,b=.ok (.rt d)->∀h a x,Gr v w h a->Rp K mg h x d->D.rt x a) ->
   (∀c,b=.ex c->∀h a C,Gr v w h a->mg (clsOf c)=some (.ref C)->E (.ref C) (pay c) a)->Zb2 g m o Z=b ->
   ∃W:Nat->Nat->St->Hp->Prop,(∃m,W 0 m Y H1)/\∀i m Y H,W i m Y H ->
    (J.stop i H/\D.nx Y H)\/(J.go i H/\∃N:St->Hp->Prop,(∀j a,N j a->∃S,S<m/\W (i+1) S j a)/\∀x a,J.yld i H x a->t x Y a λP A=>u { D with nx:=N,ct:=N,bk:=D.nx } P A):=by
  intro D b G qn qb qc qr qe e0;refine ⟨λi k j a=>k=o.length - i/\i<=o.length/\∃l h,Same O h/\Rep K mg v w h a j l/\Zb2 g m (o.drop i) l=b,⟨o.length,by simp,VaR _,Z,O,Same.refl _,r1,e0⟩,?_⟩;rintro i k j a ⟨rfl,hi',l,h,V,U,e⟩;by_cases hlt:i<o.length
  .refine .inr ?_;have hd:=VbF hlt;obtain ⟨go,yl⟩:=(jo h a V U.ss i).1 _ hd;rw [Vbq hlt] at e;refine ⟨go,λP A=>∃p M,Same O M/\Rep K mg v w M A P p/\Zb2 g m (o.drop (i+1)) p=b,λP A zq=>by obtain ⟨p,M,s2,r2,s⟩:=zq;exact ⟨o.length - (i+1),by omega,rfl,hlt,p,M,s2,r2,s⟩,λx A y=>?_⟩;obtain ⟨M,g2,rx⟩:=yl x A y;have r2:=U.gr g2;have hG:=hg v w M A j l x _ r2 rx;have X:(g o[i] l).bind (λR=>(m R).bind (turn (Zb2 g m (o.drop (i+1)))))=b:=e;cases eg:g o[i] l with
   | ok R=>
    rw [eg] at X hG;refine hG _ λF3 H3 Y3 s3 r3 _=>?_;have I:=hb v w F3 H3 Y3 R r3;have sF:=V.trans (g2.f.trans s3);have s:(m R).bind (turn (Zb2 g m (o.drop (i+1))))=b:=X;cases em:m R with
    | ok f=>
     rw [em] at s I;cases f with
     | nx p=>exact I _ λB L Y4 Q T=>⟨p,B,sF.trans Q,T,s⟩
     | ct p=>exact I _ λB L Y4 Q T=>⟨p,B,sF.trans Q,T,s⟩
     | bk p=>exact I _ λB L Y4 Q T=>qn p s.symm B L Y4 (sF.trans Q) T
     | rt d=>exact I _ λB L y g4 ry=>qr d s.symm B L y g4 ry
    | ex c=>
     rw [em] at s I;exact I _ λB L C g4 hc=>qe c s.symm B L C g4 hc
    | bad=>rw [em] at s;exact aB s.symm G
   | ex c=>exact aB eg (hx _ _ c)
   | bad=>rw [eg] at X;exact aB X.symm G
  .have hi2:i=o.length:=by omega
   subst hi2;rw [VbG (VaF _)] at e;exact .inl ⟨(jo h a V U.ss _).2 (VaF _),qn l e.symm h a j V U⟩
 cases e:Zb2 g m o Z with
 | ok f=>
  cases f with
  | nx p=>exact λD q=>r D _ (λz=>by cases z) (λ_ z=>by cases z;exact q) (λ_ z=>by cases z) (λ_ z=>by cases z) (λ_ z=>by cases z) (λ_ z=>by cases z) e
  | bk p=>exact λD q=>r D _ (λz=>by cases z) (λ_ z=>by cases z) (λ_ z=>by cases z;exact q) (λ_ z=>by cases z) (λ_ z=>by cases z) (λ_ z=>by cases z) e
  | ct p=>exact λD q=>r D _ (λz=>by cases z) (λ_ z=>by cases z) (λ_ z=>by cases z) (λ_ z=>by cases z;exact q) (λ_ z=>by cases z) (λ_ z=>by cases z) e
  | rt d=>exact λD q=>r D _ (λz=>by cases z) (λ_ z=>by cases z) (λ_ z=>by cases z) (λ_ z=>by cases z) (λ_ z=>by cases z;exact q) (λ_ z=>by cases z) e
 | ex c=>exact λD q=>r D _ (λz=>by cases z) (λ_ z=>by cases z) (λ_ z=>by cases z) (λ_ z=>by cases z) (λ_ z=>by cases z) (λ_ z=>by cases z;exact q) e
 | bad=>trivial
def Zn7{n:Ev->Nat}(hc:STt K mg E sc nc)(hb:SS K mg E u m):SS K mg E (Zki sc u) (whl n nc m):=by
 intro v A F H Y Z rr;have p:∀D a,a≠.bad->(∀i,a=.ok (.nx i)->∀l j o,Same F l->Rep K mg v A l j o i->D.nx o j)->(∀i,a=.ok (.bk i)->∀l j o,Same F l->Rep K mg v A l j o i->D.bk o j) ->
   (∀i,a=.ok (.ct i)->∀l j o,Same F l->Rep K mg v A l j o i->D.ct o j)->(∀d,a=.ok (.rt d)->∀l j x,Gr v A l j->Rp K mg l x d->D.rt x j) ->
   (∀c,a=.ex c->∀l j C,Gr v A l j->mg (clsOf c)=some (.ref C)->E (.ref C) (pay c) j)->whGo nc m (n Z) Z=a->Zki sc u D Y H:=by
  intro D a t qn qb qc qr T e0;refine ⟨λk o j=>∃i l,Same F l/\Rep K mg v A l j o i/\whGo nc m k i=a,⟨n Z,Z,F,Same.refl _,rr,e0⟩,?_⟩;rintro k o j ⟨i,l,s1,Q,e⟩;cases k with
  | zero=>exact aB e.symm t
  | succ k=>
   have G:(nc i).bind (λx=>if x=true then (m i).bind (turn (whGo nc m k)) else .ok (.nx i))=a:=e
   have N:=hc v A l j o i Q;cases ec:nc i with
   | ok b=>
    rw [ec] at G N;refine N _ λS U b' O eb=>?_;cases (eb);have r2:=Q.gr O;cases b with
    | true=>
     have B:=hb v A S U o i r2;have s:=G;refine ⟨λW X=>∃M V,Same F V/\Rep K mg v A V X W M/\whGo nc m k M=a,λW X h=>⟨k,VaQ _,h⟩,?_⟩;have P:=s1.trans O.f;cases em:m i with
     | ok f=>
      rw [em] at s B;cases f with
      | nx Z2=>exact B _ λr w R I L=>⟨Z2,r,P.trans I,L,s⟩
      | ct Z2=>exact B _ λr w R I L=>⟨Z2,r,P.trans I,L,s⟩
      | bk Z2=>exact B _ λr w R I L=>qn Z2 s.symm r w R (P.trans I) L
      | rt d=>exact B _ λr w y J ry=>qr d s.symm r w y J ry
     | ex c=>
      rw [em] at s B;exact B _ λr w C J hc=>T c s.symm r w C J hc
     | bad=>rw [em] at s;exact aB s.symm t
    | false=>
     have s:=G;exact qn i s.symm S U o (s1.trans O.f) r2
   | ex c=>
    rw [ec] at G N;exact N _ λr w C J hc=>T c G.symm r w C (Q.g.trans J) hc
   | bad=>rw [ec] at G;exact aB G.symm t
 unfold whl;cases e:whGo nc m (n Z) Z with
 | ok f=>
  cases f with
  | nx Z2=>exact λD q=>p D _ (λz=>by cases z) (λ_ z=>by cases z;exact q) (λ_ z=>by cases z) (λ_ z=>by cases z) (λ_ z=>by cases z) (λ_ z=>by cases z) e
  | bk Z2=>exact λD q=>p D _ (λz=>by cases z) (λ_ z=>by cases z) (λ_ z=>by cases z;exact q) (λ_ z=>by cases z) (λ_ z=>by cases z) (λ_ z=>by cases z) e
  | ct Z2=>exact λD q=>p D _ (λz=>by cases z) (λ_ z=>by cases z) (λ_ z=>by cases z) (λ_ z=>by cases z;exact q) (λ_ z=>by cases z) (λ_ z=>by cases z) e
  | rt d=>exact λD q=>p D _ (λz=>by cases z) (λ_ z=>by cases z) (λ_ z=>by cases z) (λ_ z=>by cases z) (λ_ z=>by cases z;exact q) (λ_ z=>by cases z) e
 | ex c=>exact λD q=>p D _ (λz=>by cases z) (λ_ z=>by cases z) (λ_ z=>by cases z) (λ_ z=>by cases z) (λ_ z=>by cases z) (λ_ z=>by cases z;exact q) e
 | bad=>trivial
end
section
variable {F:Hp}
def Rep.inner{own:List Str}{cap:List (Str×Nat)}(r:Rep K mg F0 H0 F H Y Z)(gb:Gr Fb Hb F H):Rep K mg Fb Hb F H (st0 own Y cap) (noA own.length (yaG Z (cap.map (·.2)))):=by
 have b:∀i c,(noA own.length (yaG Z (cap.map (·.2))))[i]?=some c->c=.no\/∃j p d,i=own.length+j/\cap[j]?=some p/\Z[p.2]?=some (.im d)/\c=.im d:=by
  intro i c e;rw [Zkj,Zhe] at e;by_cases hi:i<own.length
  .rw [Va2 (by simpa using hi),Va1,iP hi] at e;cases e;exact .inl rfl
  .rw [Va0 (by simpa using hi),Va6] at e;rw [VbH,Va3] at e;cases q:cap[i - own.length]? with
   | none=>rw [q] at e;cases e
   | some p=>
    rw [q] at e;have f:imOf Z[p.2]?=c:=Vaa e;unfold imOf at f;split at f
    .next d h=>exact .inr ⟨i - own.length,p,d,by omega,q,h,f.symm⟩
    .exact .inl f.symm
 refine ⟨gb,?_,λi d e=>?_,λi l e=>?_,λi j l m a e=>?_⟩
 .rw [Zkj,Zhe];unfold st0 capt;simp
 .rcases b i _ e with z | ⟨j,p,d',rfl,hp,hρ,z⟩
  .cases z
  .cases z;obtain ⟨x,g,k⟩:=r.im p.2 d hρ;refine ⟨x,?_,k⟩;unfold st0 capt;rw [Va0 (by simp),Va6,Nat.add_sub_cancel_left,Va3,hp];show some ((Y[p.2]?).join)=_;rw [g];rfl
 .rcases b i _ e with z | ⟨j,p,d',rfl,hp,hρ,z⟩<;>cases z
 .rcases b i _ e with z | ⟨j,p,d',rfl,hp,hρ,z⟩<;>cases z
def ZqG:(st0 own Y cap).drop own.length=capt Y cap:=by
 unfold st0;rw [List.drop_append_of_le_length (by simp),List.drop_of_length_le (by simp)];rfl
def Zsv{own:List Str}{cap:List (Str×Nat)}(r:Rep K mg F0 H0 F H Y Z)(jo:ItOk K mg F J ds)(hg:SG K mg own.length t g)(ht:STt K mg E tt nt)(he:SE K mg E te me)(hl:ds.length<=LIM)(e0:Dl.ZaT g nt me (noA own.length (yaG Z (cap.map (·.2)))) ds=.ok ys)(Q)(q:∀F' H' xs,Gr F H F' H'->Rps K mg F' xs ys->xs.length<=sizeLine->∀p,H' p=none->Q (.ref p) (upd H' p (.lst xs))) :
  ZhF J t tt te own cap Y Q H:=by
 refine ⟨λi k a H'=>k=ds.length - i/\i<=ds.length/\a.length<=i/\∃F' v l,Gr F H F' H'/\Rps K mg F' a v/\Dl.ZaT g nt me (noA own.length (yaG Z (cap.map (·.2)))) (ds.drop i)=.ok l/\v++l=ys,
  ⟨ds.length,by simp,VaR _,VaF _,F,[],ys,.refl r.ss,.nil,e0,rfl⟩,?_⟩
 rintro i k a H' ⟨rfl,hi,U,F',v,l,j,G,A,z⟩;have D:=Vak U (Vak hi hl);refine ⟨ZiX D,?_⟩;by_cases hlt:i<ds.length
 .refine .inr ?_;have hd:=VbF hlt;obtain ⟨go,yl⟩:=(jo F' H' j.f j.s i).1 _ hd;rw [Vbq hlt] at A;refine ⟨go,λx L y=>?_⟩;obtain ⟨T,C,rx⟩:=yl x L y;have rr:=(r.gr (j.trans C)).inner (own:=own) (cap:=cap) (j.trans C);have P:=hg F H T L _ _ x _ rr rx;have n:(g ds[i] (noA own.length (yaG Z (cap.map (·.2))))).bind (λd=>(nt d).bind λb=>if b=true then (me d).bind λy=>(Dl.ZaT g nt me (noA own.length (yaG Z (cap.map (·.2)))) (ds.drop (i+1))).bind λys=>.ok (y::ys) else Dl.ZaT g nt me (noA own.length (yaG Z (cap.map (·.2)))) (ds.drop (i+1)))=.ok l:=A
  cases eg:g ds[i] (noA own.length (yaG Z (cap.map (·.2)))) with
  | ok d=>
   rw [eg] at n P;refine P _ λF3 H3 N V w W=>⟨W.trans ZqG,?_⟩;have I:=ht F H F3 H3 N d w;have O:=C.f.trans V;have h:(nt d).bind (λb=>if b=true then (me d).bind λy=>(Dl.ZaT g nt me (noA own.length (yaG Z (cap.map (·.2)))) (ds.drop (i+1))).bind λys=>.ok (y::ys) else Dl.ZaT g nt me (noA own.length (yaG Z (cap.map (·.2)))) (ds.drop (i+1)))=.ok l:=n
   cases et:nt d with
   | ok b=>
    rw [et] at h I;refine I _ λM H4 b' o X=>?_;cases (X);cases b with
    | true=>
     have e:=h;have R:=he F H M H4 N d (w.gr o);cases em:me d with
     | ok y'=>
      rw [em] at e R;refine R _ λF5 H5 u S ru=>⟨VbI D (by decide),ds.length - (i+1),by omega,rfl,hlt,by rw [Va5];show a.length+1<=i+1;omega,?_⟩;have m:=e;cases ec:Dl.ZaT g nt me (noA own.length (yaG Z (cap.map (·.2)))) (ds.drop (i+1)) with
      | ok rs'=>
       rw [ec] at m;have e6:=m;cases e6;exact ⟨F5,v++[y'],rs',w.g.trans (o.trans S),Rps.app (.cons ru .nil) (G.same (O.trans (o.f.trans S.f))),rfl,by rw [VbJ];exact z⟩
      | ex c=>rw [ec] at m;cases m
      | bad=>rw [ec] at m;cases m
     | ex c=>rw [em] at e;cases e
     | bad=>rw [em] at e;cases e
    | false=>
     have e:=h;exact ⟨ds.length - (i+1),by omega,rfl,hlt,by omega,M,v,l,w.g.trans o,G.same (O.trans o.f),e,z⟩
   | ex c=>rw [et] at h;cases h
   | bad=>rw [et] at h;cases h
  | ex c=>rw [eg] at n;cases n
  | bad=>rw [eg] at n;cases n
 .have B:i=ds.length:=by omega
  subst B;rw [VbG (VaF _)] at A;cases A;rw [VaT] at z;subst z;exact .inl ⟨(jo F' H' j.f j.s _).2 (VaF _),q F' H' a j G (ZiX D)⟩
def Znx{te:Fam TE}(hi:SI K mg E wi mi)(hg:∀C s H fp pn,SG K mg own.length (t C s H fp pn) g)(ht:∀C s H fp pn,STt K mg E0 (tt C s H fp pn) nt)(he:∀C s H fp pn,SE K mg E0 (te C s H fp pn) me) :
  SE K mg E (Zh2 wi t tt te own cap) (comp mi own.length (cap.map (·.2)) g nt me):=by
 intro i j F H Y Z h;refine (hi i j F H Y Z h).bind λn r J d l m=>?_;by_cases hl:d.length<=LIM
 .rw [iP hl];cases e:Dl.ZaT g nt me (noA own.length (yaG Z (cap.map (·.2)))) d with
  | ok ys=>exact λQ q C s a fp pn=>Zsv (h.gr l) m (hg C s a fp pn) (ht C s a fp pn) (he C s a fp pn) hl e Q λv u o b k _ p f=>q _ _ _ (b.trans (.new b.s f _)) (.lst (SqL.of Zae) (k.same (ZaM (b.s.free f) _)))
  | ex c=>trivial
  | bad=>trivial
 .rw [iN hl];trivial
end
structure DE(X:Cx)(E:XK)(e:Expr)(t:TE)(m:ME):Prop where
 p:PE X e t
 s:SE X.K X.mg E t m
structure DT(X:Cx)(E:XK)(e:Expr)(t:TT)(m:MB):Prop where
 p:PT X e t
 s:STt X.K X.mg E t m
structure DW(X:Cx)(E:XK)(e:Expr)(t:TT)(m:MB):Prop where
 p:PW X e t
 s:STt X.K X.mg E t m
structure DA(X:Cx)(E:XK)(n:Nat)(es:List Expr)(t:TA)(m:MA):Prop where
 p:PA X es t
 s:SA X.K X.mg E t m
 n:SAn n m
structure DO(X:Cx)(E:XK)(e:Option Expr)(t:TO)(m:Ev->Res (Option Int)):Prop where
 p:PO X e t
 s:SO X.K X.mg E t m
structure DS(X:Cx)(E:XK)(st:Stmt)(t:TS)(m:MS):Prop where
 p:PS X st t
 s:SS X.K X.mg E t m
structure DSs(X:Cx)(E:XK)(st:List Stmt)(t:TS)(m:MS):Prop where
 p:PSs X st t
 s:SS X.K X.mg E t m
structure DG(X:Cx)(n:Nat)(e:Expr)(t:TG)(g:MG):Prop where
 p:PG X e t
 s:SG X.K X.mg n t g
 x:∀d Z c,g d Z≠.ex c
structure DGs(X:Cx)(n:Nat)(es:List Expr)(t:TGs)(g:MGs):Prop where
 p:PGs X es t
 s:SGs X.K X.mg n t g
 x:∀d Z c,g d Z≠.ex c
structure DI(X:Cx)(E:XK)(tg e:Expr)(t:TI)(m:MI):Prop where
 p:PI X tg e t
 s:SI X.K X.mg E t m
section
variable {a b c':Expr} {ta tb tc:TE} {ma mb mc:ME} {sa sb:TT} {na nb:MB} {t:TA} {m:MA}
def d_v(i)(hN:X.N[i]?=some x:=by rfl)(hv:Vis X.env.scope x:=by first | exact Or.inl rfl | exact Or.inr (Or.inl rfl) | exact Or.inr (Or.inr rfl))(hd:ND x:=by decide)(hcd:NE x:=by decide):DE X E (.Name x pos) (tVar i) (v i):=⟨Zdp hN hv hd hcd,se_v i⟩
def Zdt{i j}:DE X E (.Constant (.int i) j pos) (tC (.int i)) (c (.int i)):=⟨Znf,se_c λ_=>.int _⟩
def yaS{i j}:DE X E (.Constant (.bool i) j pos) (tC (.bl i)) (c (.bl i)):=⟨ZvD,se_c λ_=>.bl _⟩
def ZtC{j}:DE X E (.Constant .none j pos) (tC .non) (c .non):=⟨ZlY,se_c λ_=>.non⟩
def ZbE{i j}:DE X E (.Constant (.str i) j pos) (tC (.str i)) (c (.str i)):=⟨Zp3,se_c λ_=>.str _⟩
def yaX{k:String}(hg:Gl X x)(hm:X.mg x=none)(hv:bootBuiltins x=some (.type k))(hn:x ≠ "__name__":=by decide)(hd:ND x:=by decide):DE X E (.Name x pos) (tC (.ty k)) (c (.ty k)) :=
 ⟨Zvl hg hm hv hn hd,se_c λ_=>.ty _⟩
def yaY{i:Int}(hg:Gl X x)(hm:X.mg x=some (.int i tk))(hd:ND x:=by decide):DE X E (.Name x pos) (tC (.int i)) (c (.int i)):=⟨Zgm hg hm ⟨_,rfl⟩ hd,se_c λ_=>.int _⟩
def Zir(ho:OpR X (binaryOp op) r)(hf:OpD X.K X.mg r f)(ha:DE X E a ta ma)(hb:DE X E b tb mb):DE X E (.BinOp a op b pos) (tOp r ta tb) (o2 f ma mb):=⟨ZvI ho ha.p hb.p,ZoB hf ha.s hb.s⟩
def ZlJ(ho:OpR X (compareOp op) r)(hf:OpD X.K X.mg r f)(ha:DE X E a ta ma)(hb:DE X E b tb mb)(hm:behindInMarks op b=false):DE X E (.Compare a [op] [b] pos) (tOp r ta tb) (o2 f ma mb):=⟨Zq3 ho ha.p hb.p hm,ZoB hf ha.s hb.s⟩
def Zfl(ho:OpR X (compareOp op) r)(hf:OpD X.K X.mg r f)(ha:DE X E a ta ma)(hb:DE X E b tb mb)(hm:behindInMarks op b=false):DT X E (.Compare a [op] [b] pos) (Ze0 (tOp r ta tb)) (trb (o2 f ma mb)):=⟨Zjh ho ha.p hb.p hm,Zi8 (ZoB hf ha.s hb.s)⟩
def OpR.or(h:OpR X f r)(h':OpR X f r'):OpR X f (λx y H Q=>r x y H Q\/r' x y H Q):=by
 intro a s Y H x y v u Q I b c q;rcases q with q | q
 .exact h a s Y H x y v u Q I b c q
 .exact h' a s Y H x y v u Q I b c q
def ZsD:OpR X (binaryOp .Add) (ZuY X.K):=by
 intro a s Y H x y v u Q I g d h;obtain ⟨l,b,i,j,rfl,rfl,e,c,f,q⟩:=h;cases g;cases d;exact ZoY I e c f q
def ZqP:OpR X (binaryOp .Add) (Zvc X.K):=by
 intro c s Y H x y v u Q I j f h;obtain ⟨a,b,n,m,rfl,rfl,g,e,i,d,l,k⟩:=h;cases j;cases f;exact Zox I g e i d l k
def Zqh:OpR X (binaryOp .Add) (Zsn X.K):=OpR.or ZuP (OpR.or ZsD (OpR.or ZqP Zlb))
def Zi9(ha:DE X E a ta ma)(hb:DE X E b tb mb):DE X E (.BinOp a .Add b pos) (tOp (Zsn X.K) ta tb) (o2 yac ma mb):=Zir Zqh ZrV ha hb
def ZwM(ha:DE X E a ta ma)(hb:DE X E b tb mb):DE X E (.BinOp a .Sub b pos) (tOp (rI0 λi j=>V.int (i - j)) ta tb) (o2 dSub ma mb):=Zir ZsT Zsz ha hb
def Ztc{a b:Int}(h:Zbg a b=true):IntMulOk a b:=by
 have h':(a.natAbs<2^64\/b.natAbs<2^64)\/a.natAbs.log2+b.natAbs.log2<100000000:=by simpa [Zbg] using h
 rcases h' with (h' | h') | h'
 .exact .of_left (intBits_le_iff.mpr h')
 .exact .of_right (intBits_le_iff.mpr h')
 .have c:a.natAbs<2^(a.natAbs.log2+1):=Nat.lt_log2_self;have d:b.natAbs<2^(b.natAbs.log2+1):=Nat.lt_log2_self;exact IntMulOk.of_le (intBits_le_iff.mpr c) (intBits_le_iff.mpr d) (by omega)
def Zr8:OpD K mg (rI IntMulOk λi j=>.int (i*j)) yaj:=ZkC λa b=>by
 unfold iMul;by_cases h:Zbg a b=true
 .rw [iP h];exact .inl ⟨_,rfl,Ztc h,λ_=>.int _⟩
 .rw [iN h];exact .inr rfl
def ZwK(ha:DE X E a ta ma)(hb:DE X E b tb mb):DE X E (.BinOp a .Mult b pos) (tOp (rI IntMulOk λi j=>V.int (i*j)) ta tb) (o2 yaj ma mb):=Zir Zqr Zr8 ha hb
def ZtA(ha:DE X E a ta ma)(hb:DE X E b tb mb):DE X E (.BinOp a .Mod b pos) (tOp (rI (λ_ j=>j≠0) λi j=>V.int (i.fmod j)) ta tb) (o2 yau ma mb):=Zir ZrC Zq7 ha hb
def ZwJ(ha:DE X E a ta ma)(hb:DE X E b tb mb):DE X E (.BinOp a .FloorDiv b pos) (tOp (rI ZqT λi j=>V.int (i.fdiv j)) ta tb) (o2 yaP ma mb):=Zir Zoz Zrs ha hb
def Zwd(ha:DE X E a ta ma)(hb:DE X E b tb mb):DE X E (.BinOp a .Pow b pos) (tOp (rI CPow λi j=>V.int (i^j.toNat)) ta tb) (o2 dPow ma mb):=Zir ZsP Zp9 ha hb
def Zwf(ha:DE X E a ta ma)(hb:DE X E b tb mb):DE X E (.BinOp a .LShift b pos) (tOp (rI CPow λi j=>V.int (i*2^j.toNat)) ta tb) (o2 dShl ma mb):=Zir ZtY Zrt ha hb
def ZwU(ha:DE X E a ta ma)(hb:DE X E b tb mb):DE X E (.BinOp a .RShift b pos) (tOp (rI (λ_ j=>0<=j) λi j=>V.int (i/2^j.toNat)) ta tb) (o2 dShr ma mb):=Zir Zvw Zrd ha hb
def ZwT(ha:DE X E a ta ma):DE X E (.UnaryOp .USub a pos) (tUn (rU λi=>V.int (-i)) ta) (o1 dNeg ma):=⟨ZtO ZpJ ha.p,Zvt (Zq6 λ_ _ _ q=>⟨_,rfl,q⟩) ha.s⟩
def ya2(ha:DE X E a ta ma)(hb:DE X E b tb mb):DE X E (.Compare a [.Lt] [b] pos) (tOp (rI0 λi j=>V.bl (decide (i<j))) ta tb) (o2 dLt ma mb):=ZlJ Zth Zp2 ha hb (Zdr _)
def ya3(ha:DE X E a ta ma)(hb:DE X E b tb mb):DE X E (.Compare a [.LtE] [b] pos) (tOp (rI0 λi j=>V.bl (decide (i<=j))) ta tb) (o2 dLe ma mb):=ZlJ Zs7 ZpI ha hb (Zdr _)
def ya4(ha:DE X E a ta ma)(hb:DE X E b tb mb):DE X E (.Compare a [.GtE] [b] pos) (tOp (rI0 λi j=>V.bl (decide (j<=i))) ta tb) (o2 dGe ma mb):=ZlJ Zuy Zpi ha hb (Zdr _)
def Zwq(ha:DE X E a ta ma)(hb:DE X E b tb mb):DT X E (.Compare a [.Lt] [b] pos) (Ze0 (tOp (rI0 λi j=>V.bl (decide (i<j))) ta tb)) (trb (o2 dLt ma mb)):=Zfl Zth Zp2 ha hb (Zdr _)
def Zwy(ha:DE X E a ta ma)(hb:DE X E b tb mb):DT X E (.Compare a [.LtE] [b] pos) (Ze0 (tOp (rI0 λi j=>V.bl (decide (i<=j))) ta tb)) (trb (o2 dLe ma mb)):=Zfl Zs7 ZpI ha hb (Zdr _)
def Zn6(ha:DE X E a ta ma)(hb:DE X E b tb mb):DT X E (.Compare a [.Gt] [b] pos) (Ze0 (tOp (rI0 λi j=>V.bl (decide (j<i))) ta tb)) (trb (o2 dGt ma mb)):=Zfl Zv2 ZuW ha hb (Zdr _)
def Zv4(ha:DE X E a ta ma)(hb:DE X E b tb mb):DT X E (.Compare a [.GtE] [b] pos) (Ze0 (tOp (rI0 λi j=>V.bl (decide (j<=i))) ta tb)) (trb (o2 dGe ma mb)):=Zfl Zuy Zpi ha hb (Zdr _)
mutual
def pyD:D->PyData
 | .non=>.none
 | .bl b=>.bool b
 | .int i=>.int i
 | .str x=>.str x
 | .tup xs=>.tuple (pyDs xs)
 | .lst xs=>.list (pyDs xs)
 | _=>.none
def pyDs:List D->List PyData
 | []=>[]
 | x::r=>pyD x::pyDs r
end
mutual
def ZjK:∀x y,∀k l,Dl.plain k x=true->Dl.plain l y=true->eqD x y=PyData.eqv (pyD x) (pyD y)
 | .non,y,_,_,_,hy=>by cases y<;>first | rfl | (simp [Dl.plain] at hy)
 | .bl _,y,_,_,_,hy=>by cases y<;>first | rfl | (simp [Dl.plain] at hy)
 | .int _,y,_,_,_,hy=>by cases y<;>first | rfl | (simp [Dl.plain] at hy)
 | .str _,y,_,_,_,hy=>by cases y<;>first | rfl | (simp [Dl.plain] at hy)
 | .tup xs,y,k,l,hx,hy=>by
  cases y<;>first | rfl | (simp [Dl.plain] at hy;done) | skip
  rename_i ys;cases k with
  | zero=>simp [Dl.plain] at hx
  | succ k=>
   cases l with
   | zero=>simp [Dl.plain] at hy
   | succ l=>exact Zjz xs ys k l (by simpa [Dl.plain] using hx) (by simpa [Dl.plain] using hy)
 | .lst xs,y,k,l,hx,hy=>by
  cases y<;>first | rfl | (simp [Dl.plain] at hy;done) | skip
  rename_i ys;cases k with
  | zero=>simp [Dl.plain] at hx
  | succ k=>
   cases l with
   | zero=>simp [Dl.plain] at hy
   | succ l=>exact Zjz xs ys k l (by simpa [Dl.plain] using hx) (by simpa [Dl.plain] using hy)
 | .ty _,_,k,_,hx,_=>by cases k<;>simp [Dl.plain] at hx
 | .cls _,_,k,_,hx,_=>by cases k<;>simp [Dl.plain] at hx
 | .exc _,_,k,_,hx,_=>by cases k<;>simp [Dl.plain] at hx
 | .ins _ _ _,_,k,_,hx,_=>by cases k<;>simp [Dl.plain] at hx
def Zjz:∀xs ys,∀k l,Dl.Zay k xs=true->Dl.Zay l ys=true->eqDs xs ys=PyData.eqvAll (pyDs xs) (pyDs ys)
 | [],[],_,_,_,_=>rfl
 | [],_::_,_,_,_,_=>rfl
 | _::_,[],_,_,_,_=>rfl
 | x::xs,y::ys,k,l,hx,hy=>by
  have a:Dl.plain k x=true/\Dl.Zay k xs=true:=by simpa [Dl.Zay] using hx
  have b:Dl.plain l y=true/\Dl.Zay l ys=true:=by simpa [Dl.Zay] using hy
  show (eqD x y&&eqDs xs ys)=(PyData.eqv (pyD x) (pyD y)&&PyData.eqvAll (pyDs xs) (pyDs ys));rw [ZjK x y k l a.1 b.1,Zjz xs ys k l a.2 b.2]
end
mutual
def ZdQ:∀x k,Dl.plain k x=true->(pyD x).canLay0=true/\(pyD x).depth<=k
 | .non,_,_=>⟨rfl,VaR _⟩
 | .bl _,_,_=>⟨rfl,VaR _⟩
 | .int _,_,_=>⟨rfl,VaR _⟩
 | .str x,_,h=>⟨by simpa [Dl.plain,pyD,PyData.canLay0,PyData.strOk] using h,VaR _⟩
 | .tup xs,0,h=>by simp [Dl.plain] at h
 | .lst xs,0,h=>by simp [Dl.plain] at h
 | .tup xs,k+1,h=>by
  obtain ⟨a,b⟩:=ZeA xs k (by simpa [Dl.plain] using h);exact ⟨a,VbK b⟩
 | .lst xs,k+1,h=>by
  obtain ⟨a,b⟩:=ZeA xs k (by simpa [Dl.plain] using h);exact ⟨a,VbK b⟩
 | .ty _,k,h=>by cases k<;>simp [Dl.plain] at h
 | .cls _,k,h=>by cases k<;>simp [Dl.plain] at h
 | .exc _,k,h=>by cases k<;>simp [Dl.plain] at h
 | .ins _ _ _,k,h=>by cases k<;>simp [Dl.plain] at h
def ZeA:∀xs k,Dl.Zay k xs=true->PyData.canLayAll0 (pyDs xs)=true/\PyData.depthAll (pyDs xs)<=k
 | [],_,_=>⟨rfl,VaR _⟩
 | x::xs,k,h=>by
  have a:Dl.plain k x=true/\Dl.Zay k xs=true:=by simpa [Dl.Zay] using h
  obtain ⟨d,c⟩:=ZdQ x k a.1;obtain ⟨b,e⟩:=ZeA xs k a.2;refine ⟨?_,Nat.max_le.mpr ⟨c,e⟩⟩;show (PyData.canLay0 (pyD x)&&PyData.canLayAll0 (pyDs xs))=true;rw [d,b];rfl
end
mutual
def ZkQ{K:W.Frag}{mg:Str->Option Value}{F:Hp}{x:V}{d:D}{k:Nat}(h:Rp K mg F x d)(p:Dl.plain k d=true):DV K F x (pyD d):=by
 cases h with
 | non=>exact .non
 | bl b=>exact .bl b
 | int b=>exact .int b
 | str b=>exact .str b
 | tup h r=>
  cases k with
  | zero=>simp [Dl.plain] at p
  | succ k=>exact .tup h (Zhd r (by simpa [Dl.plain] using p))
 | lst h r=>
  cases k with
  | zero=>simp [Dl.plain] at p
  | succ k=>exact .lst h (Zhd r (by simpa [Dl.plain] using p))
 | ty _=>cases k<;>simp [Dl.plain] at p
 | cls _=>cases k<;>simp [Dl.plain] at p
 | exc _ _=>cases k<;>simp [Dl.plain] at p
 | ins _ _ _ _ _=>cases k<;>simp [Dl.plain] at p
def Zhd{K:W.Frag}{mg:Str->Option Value}{F:Hp}{xs:List V}{ds:List D}{k:Nat}(h:Rps K mg F xs ds)(p:Dl.Zay k ds=true):DVs K F xs (pyDs ds):=by
 cases h with
 | nil=>exact .nil
 | cons h r=>
  have a:=(by simpa [Dl.Zay] using p);exact .cons (ZkQ h a.1) (Zhd r a.2)
end
mutual
def Ze5{K:W.Frag}{F H:Hp}(s:Same F H){x:V}{d:PyData}(h:DV K F x d):DV K H x d:=by
 cases h with
 | non=>exact .non
 | bl b=>exact .bl b
 | int b=>exact .int b
 | str b=>exact .str b
 | tup h r=>exact .tup (Zau s h) (Zfz s r)
 | lst h r=>exact .lst (s.seq h) (Zfz s r)
def Zfz{K:W.Frag}{F H:Hp}(s:Same F H){xs:List V}{ds:List PyData}(h:DVs K F xs ds):DVs K H xs ds:=by
 cases h with
 | nil=>exact .nil
 | cons h r=>exact .cons (Ze5 s h) (Zfz s r)
end
def Zpg:OpD K mg (rEqD K id) dEq:=by
 intro E F H x y c b s e i;unfold dEq;by_cases h:(Dl.plain 50 c&&Dl.plain 50 b)=true
 .rw [iP h];have a:Dl.plain 50 c=true/\Dl.plain 50 b=true:=by simpa using h
  obtain ⟨g,f⟩:=ZdQ c 50 a.1;obtain ⟨d,j⟩:=ZdQ b 50 a.2;exact .ret s (.bl _) λQ q=>⟨_,_,Ze5 s (ZkQ e a.1),Ze5 s (ZkQ i a.2),g,d,Vak f (by decide),by rw [<-ZjK c b 50 50 a.1 a.2];exact q⟩
 .rw [iN h];trivial
def Ztg:OpD K mg (rEqD K not) dNe:=by
 intro E F H x y c b s e i;unfold dNe;by_cases h:(Dl.plain 50 c&&Dl.plain 50 b)=true
 .rw [iP h];have a:Dl.plain 50 c=true/\Dl.plain 50 b=true:=by simpa using h
  obtain ⟨g,f⟩:=ZdQ c 50 a.1;obtain ⟨d,j⟩:=ZdQ b 50 a.2;exact .ret s (.bl _) λQ q=>⟨_,_,Ze5 s (ZkQ e a.1),Ze5 s (ZkQ i a.2),g,d,Vak f (by decide),by rw [<-ZjK c b 50 50 a.1 a.2];exact q⟩
 .rw [iN h];trivial
def ya5(hr:Room k X.A)(ha:DE X E a ta ma)(hb:DE X E b tb mb):DE X E (.Compare a [.Eq] [b] pos) (tOp (rEqD X.K id) ta tb) (o2 dEq ma mb):=ZlJ (Zpn hr.units) Zpg ha hb (Zdr _)
def ZkO(hr:Room k X.A)(ha:DE X E a ta ma)(hb:DE X E b tb mb):DT X E (.Compare a [.Eq] [b] pos) (Ze0 (tOp (rEqD X.K id) ta tb)) (trb (o2 dEq ma mb)):=Zfl (Zpn hr.units) Zpg ha hb (Zdr _)
def ZmQ(hr:Room k X.A)(ha:DE X E a ta ma)(hb:DE X E b tb mb):DT X E (.Compare a [.NotEq] [b] pos) (Ze0 (tOp (rEqD X.K not) ta tb)) (trb (o2 dNe ma mb)):=Zfl (Zvb hr.units) Ztg ha hb (Zdr _)
def ZsQ{j pos'}(ha:DE X E a ta ma):DT X E (.Compare a [.Is] [.Constant .none j pos'] pos) (Ze0 (tOp (λx y H Q=>y=V.non/\Q (V.bl (decide (x=V.non))) H) ta (tC .non))) (trb (o1 dIsN ma)):=⟨Zjh Zvm ha.p ZlY (Zdr _),Zi8 (ZtZ ha.s)⟩
def Zm3{j pos'}(ha:DE X E a ta ma):DT X E (.Compare a [.IsNot] [.Constant .none j pos'] pos) (Ze0 (tOp (λx y H Q=>y=V.non/\Q (V.bl (!decide (x=V.non))) H) ta (tC .non))) (trb (o1 ZlL ma)):=⟨Zjh ZqR ha.p ZlY (Zdr _),Zi8 (ZsN ha.s)⟩
def yaU(ha:DE X E a ta ma)(hb:DE X E b tb mb)(hs:Zm5 b:=by exact λ_ _=>rfl):DE X E (.Subscript a b pos) (tOp (rIxD X.K) ta tb) (o2 dIx ma mb):=⟨ZsI (IxR.or Zi5 ZlP) ha.p hb.p hs,ZoB Ztb ha.s hb.s⟩
def Zd9(ha:DE X E a ta ma)(he:∀whole,isTrue a X.env whole=(do let v <-whole;standAt a.pos;holding [v] (truthy v)):=by intro _;rfl):DT X E a (L2.tB ta) (trb ma):=⟨Zuw ha.p he,st_b ha.s⟩
def ZrG(ha:DT X E a sa na):DW X E (.BoolOp .And [a] pos) sa na:=⟨Zqw ha.p,ha.s⟩
def Zgd(ha:DT X E a sa na):DW X E (.BoolOp .Or [a] pos) sa na:=⟨ZtK ha.p,ha.s⟩
def ZlO{rest:List Expr}(ha:DT X E a sa na)(hb:DW X E (.BoolOp .And (b::rest) pos) sb nb):DW X E (.BoolOp .And (a::b::rest) pos) (tAnd sa sb) (bAnd na nb):=⟨ZuM ha.p hb.p,Ztw ha.s hb.s⟩
def ZiC{rest:List Expr}(ha:DT X E a sa na)(hb:DW X E (.BoolOp .Or (b::rest) pos) sb nb):DW X E (.BoolOp .Or (a::b::rest) pos) (tOr sa sb) (bOr na nb):=⟨Zw0 ha.p hb.p,ZwL ha.s hb.s⟩
def DW.dt(h:DW X E a sa na):DT X E a sa na:=⟨h.p.pt,h.s⟩
def ZgW(ha:DT X E a sa na):DT X E (.UnaryOp .Not a pos) (tNot sa) (bNot na):=⟨Zum ha.p,Zva ha.s⟩
def Zwc{op}(ha:DE X E a ta ma):DE X E (.BoolOp op [a] pos) ta ma:=⟨ZtS ha.p,ha.s⟩
def ZwG{rest:List Expr}(ha:DE X E a ta ma)(hb:DE X E (.BoolOp .And (b::rest) pos) tb mb):DE X E (.BoolOp .And (a::b::rest) pos) (Zst ta tb) (eAnd ma mb):=⟨Zs2 ha.p hb.p,Zs4 ha.s hb.s⟩
def ZvL(ha:DE X E a ta ma):DE X E (.UnaryOp .Not a pos) (ZrJ ta) (eNot ma):=⟨Ztp ha.p,Zu7 ha.s⟩
def Zu1(hc:DT X E c' sa na)(ha:DE X E a ta ma)(hb:DE X E b tb mb):DE X E (.IfExp c' a b pos) (tIf sa ta tb) (ife na ma mb):=⟨Zo1 hc.p ha.p hb.p,Ztk hc.s ha.s hb.s⟩
def ZaI:DA X E 0 [] tNil yaa:=⟨Zcv,ZpQ,ZmF⟩
def Zai(ha:DE X E e te me)(hr:DA X E n es t m)(hs:starEach (e::es) X.env=(false,eval e X.env)::starEach es X.env:=by rfl):DA X E (n+1) (e::es) (Zbq te t) (Zaa me m):=⟨Zbo ha.p hr.p hs,Zsm ha.s hr.s,Zoi hr.n⟩
def ZtW{x1}(h:DA X E n es t m)(hn:n<=sizeLine:=by decide):DE X E (.Tuple es x1 pos) (tTup t) (mtp m):=⟨ZuN h.p,Ztv h.s h.n hn⟩
def ZuG(h:DA X E n es t m)(hn:n<=sizeLine:=by decide):DE X E (.List es pos) (tLst t) (mls m):=⟨ZiB h.p,ZuV h.s h.n hn⟩
def yaT{id:String}{r:List V->Hp->VK->Prop}{f:List D->Res D}{p:Pos}(hc:Zef X (.builtin id) r)(hf:CallD X.K X.mg r f)(hg:Gl X x)(hm:X.mg x=none)(hv:bootBuiltins x=some (.builtin id))(ha:DA X E n (e::es) t m)(hn:x ≠ "__name__":=by decide)(hdb:ND x:=by decide)(he:starEach (e::es) X.env=(false,eval e X.env)::starEach es X.env:=by rfl)(hpl:(backTo pos (starEach es X.env)).any (·.1)=false:=by rfl):DE X E (.Call (.Name x p) (e::es) [] pos) (tCB r t) (on f m):=⟨ZjR hc hg hm hv ha.p hn hdb he hpl,ZsR hf ha.s⟩
def yaV(hc:Zef X (.type T) r)(hf:CallD X.K X.mg r f)(hg:Gl X x)(hm:X.mg x=none)(hv:bootBuiltins x=some (.type T))(ha:DA X E n (e::es) t m)(hn:x ≠ "__name__":=by decide)(hdb:ND x:=by decide)(he:starEach (e::es) X.env=(false,eval e X.env)::starEach es X.env:=by rfl)(hpl:(backTo pos (starEach es X.env)).any (·.1)=false:=by rfl):DE X E (.Call (.Name x p) (e::es) [] pos) (tCB r t) (on f m):=⟨ZiL hc hg hm hv ha.p hn hdb he hpl,ZsR hf ha.s⟩
structure Cal(P:Program)(w:World)(K:W.Frag)(mg:Str->Option Value)(base:Heap)(n:Nat)(x:Str)(ps:List Str)(m:List D->Res D):Prop where
 ex:∃(f:Addr) (fd:FuncData),FnOk P w K mg base (CXR P w) n f fd ps (spD K mg ps.length m)/\Binds K fd ps []/\W.keepIn K (.ref f)=true/\mg x=some (.ref f)
def ZcT(C:Cal X.prog X.w X.K X.mg X.base k x ps f)(hr:Room l X.A)(hn:k<=l)(hg:Gl X x)(hx:ZcD (CXR X.prog X.w) X E)(ha:DA X E n (e::es) t m)(hps:ps.length=n:=by rfl)(hdb:ND x:=by decide)(he:starEach (e::es) X.env=(false,eval e X.env)::starEach es X.env:=by rfl)(hpl:(backTo pos (starEach es X.env)).any (·.1)=false:=by rfl) :
  DE X E (.Call (.Name x p) (e::es) [] pos) (ZiA (spD X.K X.mg ps.length f) [] E t) (on f m):=by
 obtain ⟨g,d,F,b,c,a⟩:=C.ex;exact ⟨ZrP F (hr.mono hn) hg a c b .nil hx ha.p hdb he hpl,by rw [hps];exact ZrA ha.s ha.n⟩
def ZsO:ZcD (CXR X.prog X.w) (ZaP X N scope cl C s H fp pn) E0:=by
 intro a Y H s e b I h;obtain ⟨_,_,_,_,_,_,_,q⟩:=h;exact q.elim
end
section
variable {a b c' tg:Expr} {ta tb tc:TE} {ma mb mc:ME} {sa sb:TT} {na nb:MB} {t:TA} {m:MA}
def ZrU:SlR X (rSlU X.K):=by
 intro c s Y H x v p o i f u Q I l m j k h;obtain ⟨a,b,rfl,g,t,q⟩:=h;by_cases hw:HT.sIx b.length 0 i=0/\HT.sIx b.length b.length f=b.length
 .cases l;obtain ⟨e,r,n,w⟩:=I.tuple g;have d:e.toArray.size=b.length:=by rw [VaK];exact r.length.symm
  exact ⟨"tuple",_,PyProof.Rows.slot_tuple_getitem.lookup,n.typeIs,HT.Zen n m j k (by rw [d];exact hw) ⟨.ref a,H,I,rfl,t hw⟩⟩
 .exact ZtL c s Y H (.ref a) v p o i f u Q I l m j k ⟨a,b,rfl,g,hw,q hw⟩
def ZlT:DO X E none Zjv pno:=⟨Zq0,Ze8⟩
def Zmc(h:DE X E a ta ma):DO X E (some a) (ZrT ta) (pso ma):=⟨ZqQ h.p,Ze9 h.s⟩
def Zwe{lo hi:Option Expr}{tl th:TO}{ml mh:Ev->Res (Option Int)}{p2:Pos}(ha:DE X E a ta ma)(hl:DO X E lo tl ml)(hh:DO X E hi th mh):DE X E (.Subscript a (.Slice lo hi none p2) pos) (tSl (rSlD X.K) ta tl th) (cut ma ml mh) :=
 ⟨Zka (SlR.or Zru ZrU) ha.p hl.p hh.p,Zup ha.s hl.s hh.s⟩
def Zsy{n:String}(ht:Zks d=some tn)(hn:ZkB.contains n=true):W.kitOne K (.type tn) (.type n)=some (isTy tn n):=by
 have b:n = "int"\/n = "bool"\/n = "str"\/n = "tuple"\/n = "list"\/n = "dict":=by
  simpa [ZkB] using hn
 have a:tn = "NoneType"\/tn = "bool"\/tn = "int"\/tn = "str"\/tn = "tuple"\/tn = "list":=by
  cases d<;>simp [Zks] at ht<;>subst ht<;>simp
 rcases a with rfl | rfl | rfl | rfl | rfl | rfl<;>rcases b with rfl | rfl | rfl | rfl | rfl | rfl <;>
  first
  | exact Zow K _
  | exact Zuo K (by decide +kernel) (by decide +kernel) (by decide +kernel)
def rIsi(K:W.Frag):List V->Hp->VK->Prop:=λd H Q=>∃x n c b,d=[x,.ty n]/\W.kitOne K (.type c) (.type n)=some b/\Q (.bl b) H /\
 ((x=.non/\c = "NoneType")\/(∃y,x=.bl y/\c = "bool")\/(∃y,x=.int y/\c = "int")\/(∃y,x=.str y/\c = "str")\/(∃a d,x=.ref a/\SqT K H a d/\c = "tuple")\/(∃a d,x=.ref a/\SqL K H a d/\c = "list"))
def Zlr:Zef X (.builtin "isinstance") (rIsi X.K):=by
 intro d s Y H l t Q I r h;obtain ⟨x,n,v,j,rfl,e,q,h⟩:=h;obtain ⟨u,p,rfl,c,m⟩:=vals2 r;cases m;have b:∀k,EP X d Y Q (.bool j) { s with toks:=k }:=λk=>⟨.bl j,H,I.tok _,rfl,q⟩
 rcases h with ⟨rfl,rfl⟩ | ⟨y,rfl,rfl⟩ | ⟨y,rfl,rfl⟩ | ⟨y,rfl,rfl⟩ | ⟨a,l,rfl,hq,rfl⟩ | ⟨a,l,rfl,hq,rfl⟩
 .exact Zes I c .non e b
 .exact Zes I c (.bl y) e b
 .exact Zes I c (.int y) e b
 .exact Zes I c (.str y) e b
 .cases c;obtain ⟨i,_,⟨o,g,f,_⟩,_⟩:=I.tuple hq;exact VaS W.kitx_tuple I.kIn ⟨o,g,f⟩ e (λz=>nomatch z) b
 .cases c;obtain ⟨i,_,⟨o,_,g,f,_⟩,_⟩:=I.list hq;exact VaS W.kitx_list I.kIn ⟨o,g,f⟩ e (λz=>nomatch z) b
def ZmB:CallD K mg (rIsi K) bIsi:=by
 intro E F H f g s r;unfold bIsi;split
 .next d a=>
  obtain ⟨x,y,rfl,b,c⟩:=r.two;cases c;by_cases hn:ZkB.contains a=true
  .rw [iP hn];cases e:Zks d with
   | none=>trivial
   | some tn=>
    have k:=Zsy (K:=K) e hn;refine .ret s (.bl _) λQ q=>⟨x,a,tn,_,rfl,k,q,?_⟩;cases b with
    | non=>cases e;exact .inl ⟨rfl,rfl⟩
    | bl y=>cases e;exact .inr (.inl ⟨y,rfl,rfl⟩)
    | int y=>cases e;exact .inr (.inr (.inl ⟨y,rfl,rfl⟩))
    | str y=>cases e;exact .inr (.inr (.inr (.inl ⟨y,rfl,rfl⟩)))
    | ty y=>cases e
    | cls y=>cases e
    | exc y h=>cases e
    | ins m h o q r=>cases e
    | tup h r=>cases e;exact .inr (.inr (.inr (.inr (.inl ⟨_,_,rfl,Zau s h,rfl⟩))))
    | lst h r=>cases e;exact .inr (.inr (.inr (.inr (.inr ⟨_,_,rfl,s.seq h,rfl⟩))))
  .rw [iN hn];trivial
 .trivial
def ZlA(hN:X.N.Nodup)(hi:X.N[i]?=some x)(hx:Loc X.env.scope x)(hl:i<n)(hf:X.fn x=true\/X.env.scope.names.lookup x=some .local:=by first | exact .inl rfl | exact .inr rfl | assumption):DG X n (.Name x pos) (Zfc i) (gN i) :=
 ⟨Znt hN hi hx hf,Zsi hl,λ_ _ _ h=>by cases h⟩
def ZsH:DGs X n [] gNil gs0:=⟨Zsh,Zqs,λd Z c h=>by
 unfold gs0 at h
 split at h<;>cases h⟩
def ZnO{t:TG}{u:TGs}{g:MG}{gs:MGs}(h1:DG X n e t g)(h2:DGs X n es u gs)(hs:(assignEach (e::es) X.env).map (·.2)=assign e X.env::(assignEach es X.env).map (·.2):=by rfl):DGs X n (e::es) (Zr7 t u) (gs1 g gs) :=
 ⟨Zog h1.p h2.p hs,ZoK h1.s h2.s,λd Z c h=>by
  unfold gs1 at h;split at h
  .next a b=>
   cases eg:g a Z with
   | ok Z'=>
    rw [eg] at h;exact h2.x b Z' c h
   | ex c'=>exact h1.x a Z c' eg
   | bad=>rw [eg] at h;cases h
  .cases h⟩
def Zvu(hc:X.calm=true)(h:DGs X n es u g)(hn:(assignEach es X.env).length=j:=by rfl)(hst:(assignEach es X.env).findIdx? (·.1)=none:=by rfl):DG X n (.Tuple es k pos) (gSeq X.K j u) (gU j g):=by
 refine ⟨?_,ZtX h.s,λd Z c l=>?_⟩
 .intro f s Y H v w Q I r hw;rcases hw with hw | hw
  .exact Ztr hc h.p hn hst f s Y H v w Q I r hw
  .obtain ⟨a,m,D,A,t,hw⟩:=hw;subst D;cases r;obtain ⟨B,q,C,E⟩:=I.list A;refine Zfg (I.ok.hd hc) C.isList (by simp [hn,<-t,q.length]) hst λF y=>?_;have z:=I.kept (t':=s.toks) λb o e=>y b o (Vah (Vae e)) e;exact h.p f _ Y H m _ Q z (by simpa using q) hw
 .unfold gU at l;cases ei:items d with
  | ok m=>
   rw [ei] at l;have i:(if m.length=j then g m Z else .bad)=.ex c:=l
   split at i
   .exact h.x m Z c i
   .cases i
  | ex c'=>unfold items at ei;split at ei<;>cases ei
  | bad=>rw [ei] at l;cases l
def ZaS(h:DE X E a ta ma):DI X E tg a (iSeq X.K ta) (iv ma):=by
 refine ⟨?_,Zu2 h.s⟩;intro f s Y H R I t;refine thn (h.p f s Y H _ I t) λv d zq=>?_;obtain ⟨x,l,c,n,j⟩:=zq;obtain ⟨p,rfl,j⟩:=j;cases n;rcases j with ⟨⟨xs,hq⟩,q⟩ | ⟨⟨xs,hq⟩,q⟩
 .obtain ⟨k,m,g,r⟩:=c.list hq;refine Vbt g.isList ?_;refine ⟨d.heap.objs.size,[d.heap.objs.size],_,_,l,rfl,c.kept λb o e=>VaA _ e,Zmf p _,⟨_,VaE _ rfl,rfl,rfl⟩,λb i=>?_,q⟩;have e:b=d.heap.objs.size:=by simpa using i
  subst e;exact c.fpOk (VaF _) (c.hok.fresh (VaF _))
 .obtain ⟨k,m,g,r⟩:=c.tuple hq;refine wpAny_pyIter_tuple (g) ?_;refine ⟨d.heap.objs.size,[d.heap.objs.size],_,_,l,rfl,c.kept λb o e=>VaA _ e,ZkR p _,⟨_,VaE _ rfl,rfl,rfl⟩,λb i=>?_,q⟩;have e:b=d.heap.objs.size:=by simpa using i
  subst e;exact c.fpOk (VaF _) (c.hok.fresh (VaF _))
def ZvV(hg:Gl X "range")(hm:X.mg "range"=none)(ha:DA X E n [a] t m)(hs:starEach [a] X.env=[(false,eval a X.env)]:=by rfl):DI X E tg (.Call (.Name "range" p) [a] [] pos) (ZqV t) (r1 m):=⟨Znc hg hm ha.p hs,ZvS ha.s⟩
def ZsZ(hg:Gl X "range")(hm:X.mg "range"=none)(ha:DA X E n [a,b] t m)(hs:starEach [a,b] X.env=[(false,eval a X.env),(false,eval b X.env)]:=by rfl)(hs2:starEach [b] X.env=[(false,eval b X.env)]:=by rfl) :
  DI X E tg (.Call (.Name "range" p) [a,b] [] pos) (Zsa t) (r2 m):=⟨ZmS hg hm ha.p hs hs2,Zwv ha.s⟩
def ZhM{p:Bool}{a:Addr}(e:Same H H')(h:SqB K p H a xs):SqB K p H' a xs:=by
 cases p
 .exact e.seq h
 .exact Zau e h
def Zmm{F:Hp}{x:V}(r:Rp K mg F x d)(e:seqD d=.ok ds):∃p a xs,x=.ref a/\SqB K p F a xs/\Rps K mg F xs ds:=by
 cases r with
 | tup h q=>cases e;exact ⟨true,_,_,rfl,h,q⟩
 | lst h q=>cases e;exact ⟨false,_,_,rfl,h,q⟩
 | _=>cases e
def ZmV{c:Str}:seqD d≠.ex c:=by cases d<;>intro h<;>cases h
end
structure DTs(X:Cx)(E:XK)(ts:List Expr)(t:TT)(m:MB):Prop where
 p:PTs X ts t
 s:STt X.K X.mg E t m
section
variable {a b c' tg iter elt:Expr} {ts:List Expr} {ta tb tc:TE} {ma mb mc:ME} {sa sb:TT} {na nb:MB} {t:TA} {m:MA} {y:Str}
def Zs0:STt K mg E tYes yes:=λ_ _ _ _ _ _ r=>Ans.ret (R:=RB) r.ss rfl λ_ q=>q
def Zqb:DTs X E [] tYes yes:=⟨Zq2,Zs0⟩
def Zrv(h:DT X E a sa na):DTs X E [a] sa na:=⟨Zqp h.p,h.s⟩
def ZaJ(hi:DI X E tg iter wi mi)(O:Zeb X own cap scope cl)(hc:X.calm=true)(hg:∀C s H fp pn,DG (ZaP X (own++cap.map (·.1)) scope cl C s H fp pn) own.length tg (g C s H fp pn) gm)(ht:∀C s H fp pn,DTs (ZaP X (own++cap.map (·.1)) scope cl C s H fp pn) E0 ts (tt C s H fp pn) na)(he:∀C s H fp pn,DE (ZaP X (own++cap.map (·.1)) scope cl C s H fp pn) E0 elt (tf C s H fp pn) me)(hts:ts.length<=1:=by decide)(hs:∀x,foldedSetIterable iter X.env x=pure x:=by intro _;rfl) :
  DE X E (.ListComp elt [⟨tg,iter,ts,0⟩] scope pos) (Zh2 wi g tt tf own cap) (comp mi own.length (cap.map (·.2)) gm na me) :=
 ⟨Zqt hi.p O hc (λC s H fp pn=>(hg C s H fp pn).p) (λC s H fp pn=>(ht C s H fp pn).p) (λC s H fp pn=>(he C s H fp pn).p) hts hs,
  Znx hi.s (λC s H fp pn=>(hg C s H fp pn).s) (λC s H fp pn=>(ht C s H fp pn).s) (λC s H fp pn=>(he C s H fp pn).s)⟩
def Zhb(hN:X.N.Nodup)(hix:X.N[i]?=some x)(hx:Loc X.env.scope x)(hi:DI X E tg iter wi mi)(O:Zeb X own cap scope cl)(hc:X.calm=true)(hg:∀C s H fp pn,DG (ZaP X (own++cap.map (·.1)) scope cl C s H fp pn) own.length tg (g C s H fp pn) gm)(ht:∀C s H fp pn,DTs (ZaP X (own++cap.map (·.1)) scope cl C s H fp pn) E0 ts (tt C s H fp pn) na)(he:∀C s H fp pn,DE (ZaP X (own++cap.map (·.1)) scope cl C s H fp pn) E0 elt (tf C s H fp pn) me)(hts:ts.length<=1:=by decide)(hsw:swapsWith (.ListComp elt [⟨tg,iter,ts,0⟩] scope pos) (some (.Name x pos')) spos.line X.env=pure true:=by rfl)(hs:∀x,foldedSetIterable iter X.env x=pure x:=by intro _;rfl)(hf:X.fn x=true\/X.env.scope.names.lookup x=some .local:=by first | exact .inl rfl | exact .inr rfl | assumption) :
  DS X E (.Assign [.Name x pos'] (.ListComp elt [⟨tg,iter,ts,0⟩] scope pos) spos) (tAsg (Zh2 wi g tt tf own cap) (Zfc i)) (st i (comp mi own.length (cap.map (·.2)) gm na me)) :=
 ⟨ZkE hN hix hx hi.p O hc (λC s H fp pn=>(hg C s H fp pn).p) (λC s H fp pn=>(ht C s H fp pn).p) (λC s H fp pn=>(he C s H fp pn).p) hts hsw hs hf,
  ZpH (Znx hi.s (λC s H fp pn=>(hg C s H fp pn).s) (λC s H fp pn=>(ht C s H fp pn).s) (λC s H fp pn=>(he C s H fp pn).s))⟩
def Zcm(hN:X.N.Nodup)(hi:X.N[i]?=some x)(hx:Loc X.env.scope x)(he:DE X E e te me)(hs:swapsWith e (some (.Name x pos')) spos.line X.env=pure false:=by rfl)(hf:X.fn x=true\/X.env.scope.names.lookup x=some .local:=by first | exact .inl rfl | exact .inr rfl | assumption) :
  DS X E (.Assign [.Name x pos'] e spos) (tAsg te (Zfc i)) (st i me):=⟨ZkA hN hi hx he.p hs hf,ZpH he.s⟩
def ZpK(he:DE X E e te me)(hg:DG X 1000 tg g gm)(hs:swapsWithSole [tg] e spos.line X.env=pure false:=by rfl)(hw:swappedStores [tg] e X.env=pure none:=by rfl)(h1:(assignEach [tg] X.env).map (·.2)=[assign tg X.env]:=by rfl):DS X E (.Assign [tg] e spos) (tAsg te g) (asg gm me):=⟨ZuD he.p hg.p hs hw h1,Zul he.s hg.s hg.x⟩
def ZuF(he:DE X E e te me)(hs:swapsWith e none spos.line X.env=pure false:=by rfl):DS X E (.Expr e spos) (ZcU te) (drp me):=⟨Zdz he.p hs,ZqE he.s⟩
def Zap(he:DE X E e te me):DS X E (.Return (some e) spos) (tRet te) (ret me):=⟨Zp1 he.p,ZsU he.s⟩
def ZpL:DS X E (.Continue spos) Zsf cnt:=⟨Zjg,Zub⟩
def ZpG{st:Stmt}{u:TS}{k:MS}(h:DS X E st u k):DS X E st u (frz i k):=⟨h.p,Zvj h.s⟩
def Zam:DSs X E [] Zlk nop:=⟨Zjq,Zs1⟩
def Zaf{st:Stmt}{u:TS}{k:MS}(h:DS X E st u k):DSs X E [st] u k:=⟨Zgs h.p,h.s⟩
def Zab{st:Stmt}{rest:List Stmt}{u u':TS}{k k':MS}(h:DS X E st u k)(h':DSs X E rest u' k'):DSs X E (st::rest) (tSeq u u') (sq k k'):=⟨ZbK h.p h'.p,Ztq h.s h'.s⟩
def ZaU{k:MS}(hc:DT X E c' sa na)(ha:DSs X E as u k)(hb:DSs X E bs u' k'):DS X E (.If c' as bs spos) (tIfS sa u u') (ifs na k k'):=⟨ZqA hc.p ha.p hb.p,Zv8 hc.s ha.s hb.s⟩
def Zfj{k:MS}(hp:PassesOwn (model X.prog X.w) X.A X.env X.xe)(hc:X.calm=true)(hi:DI X E tg iter wi mi)(hg:DG X 1000 tg g gm)(hb:DSs X E body u k)(hs:∀x,foldedSetIterable iter X.env x=pure x:=by intro _;rfl):DS X E (.For tg iter body [] spos) (tFor wi g u) (for_ mi gm k):=⟨ZpS hp hc hi.p hg.p hb.p hs,Zuh hi.s hg.s hg.x hb.s⟩
def Zmd{k:MS}(hp:PassesOwn (model X.prog X.w) X.A X.env X.xe)(hc:DT X E c' sa na)(hb:DSs X E body u k):DS X E (.While c' body [] spos) (Zki sa u) (whl fu na k):=⟨ZnV hp hc.p hb.p,Zn7 hc.s hb.s⟩
def Zty{kt k2 pt2}(hc:X.calm=true)(hN:X.N.Nodup)(hi:X.N[i]?=some x)(hj:X.N[j]?=some y)(hij:i≠j)(hx:X.env.scope.names.lookup x=some .local)(hy:X.env.scope.names.lookup y=some .local)(ha:DE X E a ta ma)(hb:DE X E b tb mb)(hw:swappedStores [.Tuple [.Name x px,.Name y py] kt pt] (.Tuple [a,b] k2 pt2) X.env=pure (some [x,y]):=by rfl)(hs:swapsWithSole [.Tuple [.Name x px,.Name y py] kt pt] (.Tuple [a,b] k2 pt2) spos.line X.env=pure false:=by rfl)(hs1:starEach [a,b] X.env=(false,eval a X.env)::starEach [b] X.env:=by rfl)(hs2:starEach [b] X.env=(false,eval b X.env)::starEach [] X.env:=by rfl) :
  DS X E (.Assign [.Tuple [.Name x px,.Name y py] kt pt] (.Tuple [a,b] k2 pt2) spos) (tPar i j (Zbq ta (Zbq tb tNil))) (par i j ma mb) :=
 ⟨Zs5 hc hN hi hj hij hx hy (Zbo ha.p (Zbo hb.p Zcv hs2) hs1) hw hs,Zu3 ha.s hb.s⟩
end
section
variable {qual:Str} {scope:Scope} {f:Addr} {cd:Value} {outer:List Env} {s₀:Shared} {H₀:Hp} {t:TA} {m:MA}
def ZfL{F:Hp}(s:Same F H)(r:Rps K mg F vs ds):Rep K mg F H F H (start N vs) (ev0 N.length ds):=by
 have k:=r.length;have b:∀(i:Nat) (c:Cl),(ev0 N.length ds)[i]?=some c->c=.no\/∃d,ds[i]?=some d/\c=.im d:=by
  intro i c e;rw [ZiN] at e;by_cases f:i<ds.length
  .rw [Va2 (by simpa using f),Va3,VbF f] at e;exact .inr ⟨ds[i],VbF f,(Vaa e).symm⟩
  .rw [Va0 (by simpa using f),Va1] at e;split at e
   .exact .inl (Vaa e).symm
   .cases e
 refine ⟨.refl s,?_,λi d e=>?_,λi g e=>?_,λi j g l a e=>?_⟩
 .rw [ZiN];unfold start;simp [k]
 .rcases b i _ e with z | ⟨d',e1,z⟩
  .cases z
  .cases z;obtain ⟨v,h,m⟩:=r.get e1;refine ⟨v,?_,m⟩;have f:=(Vat.mp h).1;unfold start;rw [Va2 (by simpa using f),Va3,h];rfl
 .rcases b i _ e with z | ⟨d',e1,z⟩<;>cases z
 .rcases b i _ e with z | ⟨d',e1,z⟩<;>cases z
def okD{st:Stmt}{mb:MS}(F:Fun K x x st f fd)(S:ZaE N ps (Zag st))(h:∀(cdv:Value) (A:Around) (outer:List Env) (s:Shared) (H:Hp) (E:XK),Room k (A.deeper (envOfC x (Zag st) s.heap.objs.size f cdv))->∃t,DSs (cxOf (CXR P w) P w K mg base N x (Zag st) f cdv A outer s H E) E (Zbd st) t mb) :
  FnOk P w K mg base (CXR P w) (k+1) f fd ps (spD K mg ps.length (fn N.length mb)):=by
 obtain ⟨U,T,Y,B,V,W,cdv,ct,M,rfl,D,n⟩:=F.ex;refine ZoO D n S (λy H Q E q=>q.1) λA outer s H y Q E L m=>?_;obtain ⟨t,r⟩:=h cdv A outer s H E L;refine ⟨t,r.p,?_⟩;obtain ⟨_,o,u,R,O,i,a,b⟩:=m;have z:=r.s o H o H (start N y) (ev0 N.length u) (ZfL R O);unfold fn at i a b;cases e:mb (ev0 N.length u) with
 | ok fl=>
  rw [e] at z i a b;cases fl with
  | nx Z=>exact z _ λl j X _ G=>a .non rfl l j .non G.g .non
  | rt d=>exact z _ λl j v g J=>a d rfl l j v g J
  | bk Z=>exact aB rfl i
  | ct Z=>exact aB rfl i
 | ex c=>
  rw [e] at z b;exact z _ λl j C g I=>b c rfl l j C g I
 | bad=>rw [e] at i;exact aB rfl i
def _root_.L2.Def.cal{st:Stmt}{mb:MS}(D:Def K mg x st ps)(S:ZaE N ps (Zag st))(h:∀(f:Addr) (cdv:Value) (A:Around) (outer:List Env) (s:Shared) (H:Hp) (E:XK),Room k (A.deeper (envOfC x (Zag st) s.heap.objs.size f cdv))->∃t,DSs (cxOf (CXR P w) P w K mg base N x (Zag st) f cdv A outer s H E) E (Zbd st) t mb) :
  Cal P w K mg base (k+1) x ps (fn N.length mb):=by
 obtain ⟨f,c,F,b,a⟩:=D.ex;exact ⟨f,c,okD F S (h f),b,F.kp,a⟩
end
def Zta{e:Value}(h:CXR P w l H s (λ_ _ _=>False) e s'):False:=by
 obtain ⟨_,_,_,_,_,_,_,q⟩:=h;exact q
def ZoL(K:W.Frag):Sp:=λc H Q _=>∃(a:Addr) (ns:List Int),c=[.ref a]/\SqL K H a (ns.map V.int)/\ns.length<=63/\∀b,Q (.bl true) b
def ZjO:∀ns:List Int,Rps K mg H (ns.map V.int) (ns.map D.int)
 | []=>.nil
 | n::r=>.cons (.int n) (ZjO r)
def Zua(h:∀ns:List Int,ns.length<=63->m [.lst (ns.map .int)]=.ok (.bl true)):∀vs H Q E,ZoL K vs H Q E->spD K mg 1 m vs H Q E:=by
 rintro vs H Q E ⟨a,ns,rfl,j,f,q⟩;have e:=h ns f;refine ⟨rfl,H,_,Same.refl _,.cons (.lst j (ZjO ns)) .nil,λz=>?_,λd b=>?_,λc b=>?_⟩
 .rw [e] at z;cases z
 .rw [e] at b;cases b;intro k i x _ g;cases g;exact q i
 .rw [e] at b;cases b
def ZnC(C:Cal X.prog X.w X.K X.mg X.base k x ps f)(hr:Room l X.A)(hn:k<=l)(hg:Gl (ZaP X N scope cl C' s H fp pn) x)(ha:DA (ZaP X N scope cl C' s H fp pn) E0 n (e::es) t m)(hps:ps.length=n:=by rfl)(hdb:ND x:=by decide)(he:starEach (e::es) (ZaP X N scope cl C' s H fp pn).env=(false,eval e (ZaP X N scope cl C' s H fp pn).env)::starEach es (ZaP X N scope cl C' s H fp pn).env:=by rfl)(hpl:(backTo pos (starEach es (ZaP X N scope cl C' s H fp pn).env)).any (·.1)=false:=by rfl) :
  DE (ZaP X N scope cl C' s H fp pn) E0 (.Call (.Name x p) (e::es) [] pos) (ZiA (spD X.K X.mg ps.length f) [] E0 t) (on f m) :=
 ZcT C hr hn hg ZsO ha hps hdb he hpl
section
def all_range:∀bs:List Bool,((List.range bs.length).all λi=>bs.getD i true)=bs.all id
 | []=>rfl
 | b::r=>by
  rw [VaM,List.range_succ_eq_map,List.all_cons,List.all_map,List.all_cons,<-all_range r];rfl
def ZgV:∀(bs:List Bool) (its:List Value),Vals (bs.map V.bl) its->its=bs.map Value.bool
 | [],_,.nil=>rfl
 | b::r,_,.cons h t=>by
  cases h;rw [VaN,ZgV r _ t]
def rAll(K:W.Frag):List V->Hp->VK->Prop:=λb H Q=>∃(a:Addr) (bs:List Bool),b=[.ref a]/\SqL K H a (bs.map V.bl)/\Q (.bl (bs.all id)) H
def ZdF(hc:X.calm=true):Zef X (.builtin "all") (rAll X.K):=by
 intro j s Y H D x Q I r h;obtain ⟨a,c,rfl,p,q⟩:=h;obtain ⟨u,rfl,w⟩:=vals1 r;cases w;obtain ⟨g,m,f,E⟩:=I.list p;obtain rfl:=ZgV c g m;have l:a<s.heap.objs.size:=by
  obtain ⟨o,_,n,_⟩:=f;exact Vae n
 refine call_all_walk (Vbt f.isList ?_);refine ⟨s.heap.objs.size,_,_,_,_,_,λi=>c.getD i true,rfl,Walks.list (A:=X.A.in1) (I.ok.hd hc) s.heap.objs.size a (Vah l) (c.map Value.bool).toArray,⟨⟨_,VaE _ rfl,rfl,rfl⟩,?_⟩,?_,λG C k=>?_⟩
 .exact f.isList.at λo e=>VaA _ e
 .intro i v F B y d t;have e:v=.bool (c.getD i true):=by
   rw [List.getElem?_toArray,Va3] at d;cases q:c[i]? with
   | none=>rw [q] at d;cases d
   | some b=>
    rw [q] at d;cases d;rw [List.getD_eq_getElem?_getD,q];rfl
  subst e;exact Vay t
 .have e:(List.range (c.map Value.bool).toArray.size).all (λi=>c.getD i true)=c.all id:=by
   rw [VaK,VaO];exact all_range c
  rw [e];exact ⟨.bl (c.all id),H,I.kept λb o z=>k b o (by simp;exact Vah (Vae z)) (VaA _ z),rfl,q⟩
def Zj0{F:Hp}:∀{xs:List V} {ds:List D} {bs:List Bool},Rps K mg F xs ds->bools ds=.ok bs->xs=bs.map V.bl
 | _,_,_,.nil,e=>by cases e;rfl
 | _,_,bs,.cons (d:=d) (ds:=ds) h r,e=>by
  unfold bools at e;cases d with
  | bl b=>
   cases q:bools ds with
   | ok bs'=>
    simp only [q,Res.bind] at e;cases e;cases h;rw [VaN,Zj0 r q]
   | ex c=>simp only [q,Res.bind] at e;cases e
   | bad=>simp only [q,Res.bind] at e;cases e
  | _=>cases e
def ZjG{c:Str}:∀ds:List D,bools ds≠.ex c
 | [],h=>by cases h
 | d::r,h=>by
  unfold bools at h;cases d with
  | bl b=>
   cases q:bools r with
   | ok bs'=>simp only [q,Res.bind] at h;cases h
   | ex c'=>exact ZjG r q
   | bad=>simp only [q,Res.bind] at h;cases h
  | _=>cases h
def Zdw:CallD K mg (rAll K) bAll:=by
 intro E F H f g s r;unfold bAll;split
 .next d=>
  obtain ⟨x,rfl,b⟩:=r.one;cases d with
  | lst es=>
   cases b with
   | lst h rs=>
    show Ans mg E (Rp K mg) F H ((bools es).bind λa=>.ok (.bl (a.all id))) _;cases q:bools es with
    | ok a=>
     have e:=Zj0 rs q;subst e;exact Ans.ret s (.bl _) λQ z=>⟨_,a,rfl,s.seq h,z⟩
    | ex c=>exact aB q (ZjG es)
    | bad=>trivial
  | _=>trivial
 .trivial
def Rps.three{K:W.Frag}{mg:Str->Option Value}{H:Hp}{xs:List V}{d e f:D}(h:Rps K mg H xs [d,e,f]):∃x y z,xs=[x,y,z]/\Rp K mg H x d/\Rp K mg H y e/\Rp K mg H z f:=by
 cases h with | cons h r=>obtain ⟨_,_,rfl,g⟩:=Rps.two r;exact ⟨_,_,_,rfl,h,g⟩
end
section
def Zr2(ha:SA K mg E t m)(hl:SAn n m)(hn:n<=sizeLine):SS K mg E (tAsg (tLst t) (Zfc i)) (stO i (mls m)):=by
 intro k o F H Y Z a;have h:=ha k o F H Y Z a;unfold stO mls;cases e:m Z with
 | ok ds=>
  rw [e] at h;exact λD q=>h _ λb j s g d=>⟨by rw [d.length,hl Z ds e];exact hn,λp l=>q b _ _ g.f ((a.gr g).own i l d)⟩
 | ex c=>
  rw [e] at h;exact λD q=>h _ λb j C g r=>q b j C (a.g.trans g) r
 | bad=>trivial
end
section
variable {a b c' tg iter elt:Expr} {ts:List Expr} {ta tb tc:TE} {ma mb mc:ME} {sa sb:TT} {na nb:MB} {t:TA} {m:MA} {y:Str}
def Zq1(hN:X.N.Nodup)(hi:X.N[i]?=some x)(hx:Loc X.env.scope x)(ha:DA X E n es t m)(hn:n<=sizeLine:=by decide)(hs:swapsWith (.List es pos) (some (.Name x pos')) spos.line X.env=pure false:=by rfl)(hf:X.fn x=true\/X.env.scope.names.lookup x=some .local:=by first | exact .inl rfl | exact .inr rfl | assumption) :
  DS X E (.Assign [.Name x pos'] (.List es pos) spos) (tAsg (tLst t) (Zfc i)) (stO i (mls m)):=⟨ZkA hN hi hx (ZiB ha.p) hs hf,Zr2 ha.s ha.n hn⟩
def Zph(i)(he:DE X E e te me)(hN:X.N[i]?=some x:=by rfl)(hv:Vis X.env.scope x:=by first | exact Or.inl rfl | exact Or.inr (Or.inl rfl) | exact Or.inr (Or.inr rfl))(hd:ND x:=by decide)(hcd:NE x:=by decide)(hbase:attributeBase (.Name x np) "append" X.env (eval (.Name x np) X.env)=eval (.Name x np) X.env:=by rfl) (hfew:((backTo cpos (starEach [e] X.env)).all (λx=>!x.1)&&(backToKw cpos (keywordEach [] X.env)).all (λx=>x.1.isSome)
   && decide ([e].length+([]:List Keyword).length+(if ([]:List Keyword).isEmpty then 0 else 1)<30))=true:=by rfl) (hline:(apos.endLine==cpos.line)=true:=by rfl) (hs:starEach [e] X.env=(false,eval e X.env)::starEach [] X.env:=by rfl) (hplain:(backTo cpos (starEach [] X.env)).any (·.1)=false:=by rfl) (hsw:swapsWith (.Call (.Attribute (.Name x np) "append" apos) [e] [] cpos) none spos.line X.env=pure false:=by rfl) :
  DS X E (.Expr (.Call (.Attribute (.Name x np) "append" apos) [e] [] cpos) spos) (ZcU (tBM X.K "list" Zbp (tVar i) (Zbq te tNil))) (app i me) :=
 ⟨Zdz (Zk4 VbL VbM VbN ZeJ (Zdp hN hv hd hcd) (Zbo he.p Zcv hs) hbase hfew hline hs hplain) hsw,
  Zti he.s λH a b h=>.inl ⟨rfl,b,SqL.of h⟩⟩
end
end L2.Ds
namespace L2.Ds
open Dl
section
def del(F:Hp)(a:Addr):Hp:=λb=>if b=a then none else F b
def Zgp{F:Hp}:del F a a=none:=iP rfl
def Zd5{F:Hp}(h:b≠a):del F a b=F b:=iN h
def Zpd{F:Hp}(h:del F a b=some o):F b=some o:=by
 by_cases hb:b=a
 .subst hb;rw [Zgp] at h;cases h
 .rw [Zd5 hb] at h;exact h
def Rep.look{F:Hp}(r:Rep K mg F0 H0 F H Y Z)(e:Z[i]?=some (.ow ds)) :
  ∃F',Rep K mg F0 H0 F' H Y (Z.set i (.im (.lst ds)))/\∀F1 H1,Gr F' H F1 H1->∃F2,Gr F H F2 H1:=by
 obtain ⟨a,p,w,I,t,v,E⟩:=r.ow i ds e;have h:Same F (upd F a (.lst p)):=ZaM t _;refine ⟨upd F a (.lst p),⟨⟨r.g.f.trans h,λb o q=>?_,λb o d c=>?_,λb o u q=>r.g.z b o u (ZfY (λ_ _ z=>by cases z) q)⟩,by rw [VbB];exact r.len,λj u q=>?_,λj m q=>?_,λj k m B b d c G A=>?_⟩,λF1 H1 g=>⟨del F1 a,⟨λb o q=>?_,λb o q=>?_,λb o d c=>?_,λb o u q=>ZfY (λ_ _ z=>by cases z) (g.z b o u (Zpd q))⟩⟩⟩
 .by_cases hb:b=a
  .subst hb;rw [Zae] at q;cases q;exact v
  .rw [Zad hb] at q;exact r.g.s b o q
 .rw [Zad (Zac c I)];exact r.g.o b o d c
 .rcases Zar q with ⟨rfl,z,_⟩ | ⟨_,q⟩
  .cases z;exact ⟨.ref a,w,.lst (SqL.of Zae) (E.same h)⟩
  .obtain ⟨x,l,n⟩:=r.im j u q;exact ⟨x,l,n.same h⟩
 .rcases Zar q with ⟨_,z,_⟩ | ⟨hij,q⟩
  .cases z
  .obtain ⟨b,C,l,n,L,J,D⟩:=r.ow j m q;have y:b≠a:=by
    rintro rfl;exact hij (r.ne i j ds m b e q w l)
   exact ⟨b,C,l,n,by rw [Zad y];exact L,J,D.same h⟩
 .rcases Zar d with ⟨_,z,_⟩ | ⟨_,d⟩
  .cases z
  .rcases Zar c with ⟨_,z,_⟩ | ⟨_,c⟩
   .cases z
   .exact r.ne j k m B b d c G A
 .rw [Zd5 (Zac q t)];exact g.f b o (h b o q)
 .by_cases hb:b=a
  .subst hb;rw [Zgp] at q;cases q
  .rw [Zd5 hb] at q;exact g.s b o q
 .by_cases hb:b=a
  .subst hb;rw [v] at c;cases c;exact ⟨Zgp,g.s _ _ (g.f _ _ Zae)⟩
  .rw [Zd5 hb];exact g.o b o (by rw [Zad hb];exact d) c
def Zr3{F:Hp}{x:V}(r:Rp K mg F x d)(e:Zie d=.ok d'):Rp K mg F' x d':=by
 cases r with
 | non=>cases e;exact .non
 | bl b=>cases e;exact .bl b
 | int b=>cases e;exact .int b
 | str b=>cases e;exact .str b
 | _=>cases e
def Zrm{c:Str}:Zie d≠.ex c:=by cases d<;>intro h<;>cases h
def Zwi(i)(h:SE K mg E t m):SE K mg E t (pk i m):=by
 intro r s F H Y Z v;unfold pk getO;split
 .next n e=>
  obtain ⟨w,p,a⟩:=v.look e;have z:=h r s w H Y _ p;show Ans mg E (Rp K mg) F H ((m (Z.set i (.im (.lst n)))).bind Zie) _;cases em:m (Z.set i (.im (.lst n))) with
  | ok d=>
   rw [em] at z;show Ans mg E (Rp K mg) F H (Zie d) _;cases es:Zie d with
   | ok d'=>
    exact λQ q=>z Q λg f b l o=>by
     obtain ⟨k,j⟩:=a g f l;exact q k f b j (Zr3 o es)
   | ex c=>exact aB es Zrm
   | bad=>trivial
  | ex c=>
   rw [em] at z;exact λQ q=>z Q λg f C l u=>by
    obtain ⟨k,j⟩:=a g f l;exact q k f C j u
  | bad=>trivial
 .trivial
def ZvQ(i)(h:STt K mg E t m):STt K mg E t (pkB i m):=by
 intro r s F H Y Z v;unfold pkB getO;split
 .next n e=>
  obtain ⟨w,p,a⟩:=v.look e;have z:=h r s w H Y _ p;show Ans mg E RB F H (m (Z.set i (.im (.lst n)))) _;cases em:m (Z.set i (.im (.lst n))) with
  | ok d=>
   rw [em] at z;exact λQ q=>z Q λg f b l o=>by
    obtain ⟨k,j⟩:=a g f l;exact q k f b j o
  | ex c=>
   rw [em] at z;exact λQ q=>z Q λg f C l u=>by
    obtain ⟨k,j⟩:=a g f l;exact q k f C j u
  | bad=>trivial
 .trivial
end
section
variable {l:Nat} {y:Str} {Cy:Addr} {f:List D->Res D} {t:TA} {m:MA} {u:Addr->TS} {b:MS} {p yp epos hpos:Pos} {b₀:Stmt} {suite:List Stmt} {hits:List Str} {tt:TT} {mt:MB}
def ya6(i)(h:DE X E e te me):DE X E e te (pk i me):=⟨h.p,Zwi i h.s⟩
def Zwg(i)(h:DT X E e tt mt):DT X E e tt (pkB i mt):=⟨h.p,ZvQ i h.s⟩
end
section
mutual
def Zps(I:Inv X pins Y H s){x:V}{d d':PyData}(h:DV X.K H x d)(h':DV X.K H x d'):d=d':=by
 cases h with
 | non=>cases h';rfl
 | bl _=>cases h';rfl
 | int _=>cases h';rfl
 | str _=>cases h';rfl
 | tup h q=>
  cases h' with
  | tup h' q'=>
   have e:=I.tuple_inj h h';subst e;rw [Zjw I q q']
  | lst h' q'=>
   obtain ⟨_,_,⟨o,f,c,_⟩,_⟩:=I.tuple h;obtain ⟨_,_,⟨g,_,b,a,_⟩,_⟩:=I.list h';rw [f] at b;cases b;rw [c] at a;simp at a
 | lst h q=>
  cases h' with
  | lst h' q'=>
   have e:=I.list_inj h h';subst e;rw [Zjw I q q']
  | tup h' q'=>
   obtain ⟨_,_,⟨o,f,c,_⟩,_⟩:=I.tuple h';obtain ⟨_,_,⟨g,_,b,a,_⟩,_⟩:=I.list h;rw [f] at b;cases b;rw [c] at a;simp at a
def Zjw(I:Inv X pins Y H s){xs:List V}{ds ds':List PyData}(h:DVs X.K H xs ds)(h':DVs X.K H xs ds'):ds=ds':=by
 cases h with
 | nil=>cases h';rfl
 | cons h r=>
  cases h' with
  | cons h' r'=>rw [Zps I h h',Zjw I r r']
end
def hitE(X:Cx)(H:Hp)(dx:PyData)(u:Value):Bool:=@decide (∃y d,RelV y u/\DV X.K H y d/\PyData.eqv d dx=true) (Classical.propDecidable _)
def Zm2(I:Inv X pins Y H s){d:PyData}(r:RelV y u)(h:DV X.K H y d):hitE X H dx u=PyData.eqv d dx:=by
 unfold hitE;cases e:PyData.eqv d dx with
 | true=>exact @Vbk _ (Classical.propDecidable _) ⟨y,d,r,h,e⟩
 | false=>
  refine @Vac _ (Classical.propDecidable _) ?_;rintro ⟨g,i,c,f,a⟩;have b:=r.inj c;subst b;rw [Zps I h f,a] at e;cases e
def Zjl(I:Inv X pins Y H s):∀{ys:List V} {its:List Value} {ds:List PyData},Vals ys its->DVs X.K H ys ds->its.any (hitE X H dx)=ds.any λd=>PyData.eqv d dx
 | _,_,_,.nil,.nil=>rfl
 | _,_,_,.cons r1 r2,.cons h1 h2=>by rw [List.any_cons,List.any_cons,Zjl I r2 h2,Zm2 I r1 h1]
def Zpv(I:Inv X pins Y H s):∀{ys:List V} {its:List Value} {ds:List PyData} {u:Value},Vals ys its->DVs X.K H ys ds->PyData.canLayAll0 ds=true->u∈its->∃y d,RelV y u/\DV X.K H y d/\d.canLay0=true
 | _,_,_,_,.nil,.nil,_,hu=>by cases hu
 | _,_,_,u,.cons r1 r2,.cons h1 h2,hc,hu=>by
  have a:=(by simpa [PyData.canLayAll0] using hc);rcases Vaq.mp hu with rfl | hu
  .exact ⟨_,_,r1,h1,a.1⟩
  .exact Zpv I r2 h2 a.2 hu
def rInD(K:W.Frag)(f:Bool->Bool):R2:=λx y H Q=>∃a e c b,y=.ref a/\(SqL K H a e\/SqT K H a e)/\DV K H x c/\DVs K H e b/\c.canLay0=true/\PyData.canLayAll0 b=true/\c.depth<=50/\Q (.bl (f (b.any λd=>PyData.eqv d c))) H
end
section
def Zsu(hu:X.A.units+64<cLine):OpR X (compareOp .NotIn) (rInD X.K not):=by
 intro m s Y H x y v u Q I L F h;obtain ⟨a,C,c,g,rfl,hq,t,i,z,w,M,q⟩:=h;cases F;obtain ⟨J,p⟩:=t.reads I L;have l:∀{b:List Value},Vals C b->∀u,u∈b.toArray->PySem.SeqAt.EqAt X.A.in1 s u v (hitE X H c u):=λ{b} f u r=>by
  obtain ⟨N,D,k,n,E⟩:=Zpv I f i w (by simpa using r);obtain ⟨o,B⟩:=n.reads I k;rw [Zm2 I k n];exact PySem.SeqAt.eqAt_reads D c X.A.in1 s u v o J B p E z (by show X.A.units+1+_<_;omega)
 rcases hq with hq | hq
 .obtain ⟨b,f,j,G⟩:=I.list hq;refine PySem.SeqAt.notIn_listAt (hitE X H c) j.isList (l f) ?_;have e:b.toArray.any (hitE X H c)=g.any λd=>PyData.eqv d c:=by rw [List.any_toArray];exact Zjl I f i
  rw [e];exact ⟨.bl _,H,I,rfl,q⟩
 .obtain ⟨b,f,j,G⟩:=I.tuple hq;refine PySem.SeqAt.notIn_tupleAt (hitE X H c) (j) (l f) ?_;have e:b.toArray.any (hitE X H c)=g.any λd=>PyData.eqv d c:=by rw [List.any_toArray];exact Zjl I f i
  rw [e];exact ⟨.bl _,H,I,rfl,q⟩
def Zp0(x)(k)(hx:Dl.plain k x=true):∀ys l,Dl.Zay l ys=true->((pyDs ys).any λd=>PyData.eqv d (pyD x))=inD x ys
 | [],_,_=>rfl
 | y::r,l,h=>by
  have a:Dl.plain l y=true/\Dl.Zay l r=true:=by simpa [Dl.Zay] using h
  show (PyData.eqv (pyD y) (pyD x)||(pyDs r).any _)=(eqD y x||inD x r);rw [Zp0 x k hx r l a.2,<-ZjK y x l k a.1 hx]
def ZsC{F:Hp}{x:V}(s:Same F H)(rx:Rp K mg F x dx)(ry:Rp K mg F y dy) :
  Ans mg E (Rp K mg) F H ((seqD dy).bind λys=>if Dl.plain 50 dx&&Dl.Zay 50 ys then .ok (.bl (f (inD dx ys))) else .bad) (rInD K f x y H):=by
 have c:∀a b ys,y=.ref a->(SqL K H a b\/SqT K H a b)->Rps K mg F b ys->Ans mg E (Rp K mg) F H (if Dl.plain 50 dx&&Dl.Zay 50 ys then .ok (.bl (f (inD dx ys))) else .bad) (rInD K f x y H):=by
  rintro a b ys rfl d g;by_cases hp:(Dl.plain 50 dx&&Dl.Zay 50 ys)=true
  .rw [iP hp];rw [Vbg] at hp;obtain ⟨j,e⟩:=ZdQ dx 50 hp.1;obtain ⟨i,_⟩:=ZeA ys 50 hp.2;refine Ans.ret s (.bl _) λQ q=>⟨a,b,pyD dx,pyDs ys,rfl,d,Ze5 s (ZkQ rx hp.1),Zfz s (Zhd g hp.2),j,i,e,?_⟩;rw [Zp0 dx 50 hp.1 ys 50 hp.2];exact q
  .rw [iN hp];trivial
 cases dy with
 | lst ys=>
  cases ry with
  | lst h r=>exact c _ _ ys rfl (.inl (s.seq h)) r
 | tup ys=>
  cases ry with
  | tup h r=>exact c _ _ ys rfl (.inr (Zau s h)) r
 | _=>trivial
def Zr4:OpD K mg (rInD K not) dNin:=λ_ _ _ _ _ _ _ s a b=>ZsC (f:=not) s a b
variable{a b:Expr}{ta tb:TE}{ma mb:ME}
def Zlq(hr:Room k X.A)(ha:DE X E a ta ma)(hb:DE X E b tb mb)(hm:behindInMarks .NotIn b=false:=by rfl):DT X E (.Compare a [.NotIn] [b] pos) (Ze0 (tOp (rInD X.K not) ta tb)) (trb (o2 dNin ma mb)):=Zfl (Zsu hr.units) Zr4 ha hb hm
end
end L2.Ds
namespace Dl
def trips:List D->List D->List D->List D
 | x::xs,y::ys,z::zs=>.tup [x,y,z]::trips xs ys zs
 | _,_,_=>[]
def zip3:List D->Res (List D)
 | [x,y,z]=>(seqD x).bind λa=>(seqD y).bind λb=>(seqD z).bind λc=>.ok (trips a b c)
 | _=>.bad
def lz3(ds:List D):Res D:=(zip3 ds).bind λa=>.ok (.lst a)
end Dl
namespace L2.Ds
open Dl
section
variable {ta tb:TE} {ma mb:ME} {F:Hp}
def Rep.put{es:List D}(r:Rep K mg F0 H0 F H Y Z)(e:Z[i]?=some (.ow ds))(e2:Y[i]?=some (some (.ref a)))(e3:H a=some (.lst xs))(e4:H0 a=none)(e5:F a=none)(hr:Rps K mg F ys es) :
  Rep K mg F0 H0 F (upd H a (.lst ys)) Y (Z.set i (.ow es)):=by
 refine ⟨⟨r.g.f,λb o q=>?_,λb o n d=>?_,r.g.z⟩,by rw [VbB];exact r.len,λj u q=>?_,λj es q=>?_,λj k es C b n d x v=>?_⟩
 .rw [Zad (Zac q e5)];exact r.g.s b o q
 .rw [Zad (Zac d e4)];exact r.g.o b o n d
 .rcases Zar q with ⟨_,z,_⟩ | ⟨_,q⟩
  .cases z
  .exact r.im j u q
 .rcases Zar q with ⟨rfl,z,l⟩ | ⟨hij,q⟩
  .cases z;exact ⟨a,_,e2,e4,e5,Zae,hr⟩
  .obtain ⟨b,ys,p,y,B,A,w⟩:=r.ow j es q;have t:b≠a:=by
    rintro rfl;exact hij (r.ne i j ds es b e q e2 p)
   exact ⟨b,ys,p,y,B,by rw [Zad t];exact A,w⟩
 .have h:∃c,Z[j]?=some (.ow c):=by
   rcases Zar n with ⟨rfl,_,_⟩ | ⟨_,q⟩
   .exact ⟨_,e⟩
   .exact ⟨_,q⟩
  have m:∃c,Z[k]?=some (.ow c):=by
   rcases Zar d with ⟨rfl,_,_⟩ | ⟨_,q⟩
   .exact ⟨_,e⟩
   .exact ⟨_,q⟩
  obtain ⟨_,h⟩:=h;obtain ⟨_,m⟩:=m;exact r.ne j k _ _ b h m x v
end
end L2.Ds
namespace L2
abbrev Z3(h:Heap)(z TI TO:Addr)(f0 f1:Value):Prop:=h.get? z=some { cls:=.type "zip",dict:=none,data:=.fields #[f0,f1,.bool false,.ref TI,.ref TO],slots:=#[] }
abbrev Tr(h:Heap)(T:Addr)(a b c:Value):Prop:=h.get? T=some { cls:=.type "tuple",data:=.seq #[a,b,c] }
def Mk3(f0:Value):Prop:=f0=.none\/∃T,f0=rawInt T
structure Ap3(z TI TO i1 i2 i3 l1 l2 l3:Addr):Prop where
 o1:@LT.lt Nat _ i1 i2
 o2:@LT.lt Nat _ i2 i3
 o3:@LT.lt Nat _ i3 TI
 o4:@LT.lt Nat _ TI TO
 o5:@LT.lt Nat _ TO z
 a1:@LT.lt Nat _ l1 i1
 a2:@LT.lt Nat _ l2 i1
 a3:@LT.lt Nat _ l3 i1
def ya0{a b:Nat}(h:a<b\/b<a):a≠b:=by omega
local macro_rules | `(tactic| walk_at "nl")=>`(tactic| first | exact VaD (by assumption) | exact Vah (by assumption))
section
variable{prog:Program} {E:Value->Shared->Prop}
def ZiD{x:Value}(kT:Tr s.heap T a b c)(h:∀h',h'.get? T=some { cls:=.type "tuple",data:=.seq ((#[a,b,c]:Array Value).setIfInBounds k x) }->Heap.SameBut T s.heap h'->Q () { s with heap:=h' }) :
  wpAny (model prog w) A (updateSeq T (·.setIfInBounds k x)) Q E s:=by
 refine VbO kT rfl (h _ ?_ (Vbz ..));rw [VbA _ kT rfl];simp [Obj.mapSeq]
def Zpf(h:Q (s.heap.get? a) s):wpAny (model prog w) A (loadIfAlive a) Q E s:=λΓ p _=>by
 show PySem.Sem.wp _ Γ (Sem.loadIfAlive a λx=>.pure x) _ _ p s;rw [PySem.Sem.wp_loadIfAlive];exact h
def ZjZ{z TI TO:Addr}{f0 f1:Value}{Q:Bool->Shared->Prop}(kz:Z3 s.heap z TI TO f0 f1)(kf:Mk3 f0)(h1:Q true s)(h2:∀h' f,Z3 h' z TI TO f0 f->Heap.SameBut z s.heap h'->Q false { s with heap:=h' }) :
  wpAny (model prog w) A (Builtin.SmallTypes.ownedTupleIsFree (.ref z)) Q E s:=by
 unfold Builtin.SmallTypes.ownedTupleIsFree;refine Vax (Va9 kz rfl (x:=f0) rfl ?_);rcases kf with rfl | ⟨T,rfl⟩
 .exact Vay h1
 .refine Vax (Zpf ?_);split
  .exact Vay h1
  .refine Vax (Va9 kz rfl (x:=f1) rfl ?_);split
   .refine Vax (VbP kz (by simp) λg b a=>Vay (h2 g _ b a))
   .exact Vay (h2 s.heap f1 kz (Heap.SameBut.refl ..))
def Zq5{p q r:Bool}{z TI TO i1 i2 i3 l1 l2 l3:Addr}{us vs ws:Array Value}{x y u a b c f0 f1:Value}{Q:Value->Shared->Prop}(D:Ap3 z TI TO i1 i2 i3 l1 l2 l3)(kz:Z3 s.heap z TI TO f0 f1)(kf:Mk3 f0)(kTI:Tr s.heap TI (.ref i1) (.ref i2) (.ref i3))(kTO:Tr s.heap TO a b c)(m1:ItK p s.heap i1 l1 k)(m2:ItK q s.heap i2 l2 k)(m3:ItK r s.heap i3 l3 k)(n1:SqK p s.heap l1 us)(n2:SqK q s.heap l2 vs)(n3:SqK r s.heap l3 ws)(kx:us[k]?=some x)(ky:vs[k]?=some y)(ku:ws[k]?=some u) (kQ:∀h' f0' f1',Z3 h' z TI TO f0' f1'->Mk3 f0'->(∃a b c,Tr h' TO a b c)->ItK p h' i1 l1 (k+1)->ItK q h' i2 l2 (k+1)->ItK r h' i3 l3 (k+1)->Tr h' s.heap.objs.size x y u ->
   (∀c o,c≠z->c≠TO->c≠i1->c≠i2->c≠i3->s.heap.get? c=some o->h'.get? c=some o)->Q (.ref s.heap.objs.size) { s with heap:=h' }) :
  wpAny (model prog w) A (Builtin.«zip.__next__» ⟨[.ref z],[]⟩) (λfin s'=>∃v,fin=.done (.ret v)/\Q v s') E s:=by
 obtain ⟨o1,o2,o3,o4,o5,a1,a2,a3⟩:=D;have x1:=Vbn o1 o2;have x2:=Vbn o3 o4;have x3:=Vbn o2 x2;have x4:=Vbn o1 x3;have y1:=Vbn x2 o5;have y2:=Vbn x3 o5;have y3:=Vbn x4 o5;have b1:=Vbn a1 o1;have B:=Vbn a1 x1;have d1:=Vbn a1 x4;have e1:=Vbn a1 y3;have b2:=Vbn a2 o1;have K:=Vbn a2 x1;have d2:=Vbn a2 x4;have e2:=Vbn a2 y3;have b3:=Vbn a3 o1;have O:=Vbn a3 x1;have d3:=Vbn a3 x4;have e3:=Vbn a3 y3;show wpAny _ _ (field (.ref z) 2 >>= _) _ _ _;refine Vax (Va9 kz rfl (x:=.bool false) rfl ?_);show wpAny _ _ (field (.ref z) 3 >>= _) _ _ _;refine Vax (Va9 kz rfl (x:=.ref TI) rfl ?_);refine Vax (Vbx kTI rfl ?_);show wpAny _ _ (Builtin.SmallTypes.ownedTupleIsFree (.ref z) >>= _) _ _ _;refine Vax (ZjZ kz kf ?_ λM f G g=>?_)
 .simp only [Va8];refine Vax (wpAny_rule ?_);refine Vax (Va9 kz rfl (x:=.ref TO) rfl ?_);refine Vax (VbP kz (by simp) λM G g=>?_);replace G:Z3 M z TI TO .ellipsis f1:=G;refine Vax ?_;simp only [List.zipIdx_cons,List.zipIdx_nil,Vbl,List.forIn_nil];refine Vax (Vax (VbQ ?_));show wpAny _ _ (Builtin.SmallTypes.nextOf (.ref i1) >>= _) _ _ _;refine Vax (Za0 (m1.extBut g.extBut (by walk_at "nl")) (n1.extBut g.extBut (by walk_at "nl")) kx λL V h=>Vay ?_);have kT2:Tr L TO a b c:=h.extBut _ _ (by walk_at "nl") (g.extBut _ _ (by walk_at "nl") kTO);refine Vax (Vbx kT2 rfl ?_);refine Vax (ZiD kT2 λN U i=>?_);replace U:Tr N TO x b c:=U;refine Vax (wpAny_letGo (Vay ?_));refine Vax (Vax (VbQ ?_));show wpAny _ _ (Builtin.SmallTypes.nextOf (.ref i2) >>= _) _ _ _;refine Vax (Za0 (((m2.extBut g.extBut (by walk_at "nl")).extBut h.extBut (by walk_at "nl")).extBut i.extBut (by walk_at "nl")) (((n2.extBut g.extBut (by walk_at "nl")).extBut h.extBut (by walk_at "nl")).extBut i.extBut (by walk_at "nl")) ky λd m24 j=>Vay ?_);have J:Tr d TO x b c:=j.extBut _ _ (by walk_at "nl") U;refine Vax (Vbx J rfl ?_);refine Vax (ZiD J λY W l=>?_);replace W:Tr Y TO x y c:=W;refine Vax (wpAny_letGo (Vay ?_));refine Vax (Vax (VbQ ?_));show wpAny _ _ (Builtin.SmallTypes.nextOf (.ref i3) >>= _) _ _ _;refine Vax (Za0 (((((m3.extBut g.extBut (by walk_at "nl")).extBut h.extBut (by walk_at "nl")).extBut i.extBut (by walk_at "nl")).extBut j.extBut (by walk_at "nl")).extBut l.extBut (by walk_at "nl")) (((((n3.extBut g.extBut (by walk_at "nl")).extBut h.extBut (by walk_at "nl")).extBut i.extBut (by walk_at "nl")).extBut j.extBut (by walk_at "nl")).extBut l.extBut (by walk_at "nl")) ku λg₆ m36 t=>Vay ?_);have kT6:Tr g₆ TO x y c:=t.extBut _ _ (by walk_at "nl") W;refine Vax (Vbx kT6 rfl ?_);refine Vax (ZiD kT6 λm I n=>?_);replace I:Tr m TO x y u:=I;refine Vax (wpAny_letGo (Vay (Vay ?_)));refine Vax (Vbx I rfl ?_);refine Vax (wpAny_newTuple ?_);have Z:m.objs.size=s.heap.objs.size:=by rw [n.1,t.1,l.1,j.1,i.1,h.1,g.1]
  have kz7:Z3 m z TI TO .ellipsis f1:=n.extBut _ _ (by walk_at "nl") (t.extBut _ _ (by walk_at "nl") (l.extBut _ _ (by walk_at "nl") (j.extBut _ _ (by walk_at "nl") (i.extBut _ _ (by walk_at "nl") (h.extBut _ _ (by walk_at "nl") G)))));have F:∀c o,c≠z->c≠TO->c≠i1->c≠i2->c≠i3->s.heap.get? c=some o->m.get? c=some o:=λc o B K O P R e=>
   n.extBut _ _ K (t.extBut _ _ R (l.extBut _ _ K (j.extBut _ _ P (i.extBut _ _ K (h.extBut _ _ O (g.extBut _ _ B e))))))
  have q1:ItK p m i1 l1 (k+1):=((((V.extBut i.extBut (by walk_at "nl")).extBut j.extBut (by walk_at "nl")).extBut l.extBut (by walk_at "nl")).extBut t.extBut (by walk_at "nl")).extBut n.extBut (by walk_at "nl");have q2:ItK q m i2 l2 (k+1):=((m24.extBut l.extBut (by walk_at "nl")).extBut t.extBut (by walk_at "nl")).extBut n.extBut (by walk_at "nl");have q3:ItK r m i3 l3 (k+1):=m36.extBut n.extBut (by walk_at "nl");have X:z<m.objs.size:=Vae kz7;show wpAny _ _ (Builtin.SmallTypes.ownedTupleHandOut (.ref z) (.ref m.objs.size) >>= _) _ _ _;refine Vax ?_;unfold Builtin.SmallTypes.ownedTupleHandOut;have kz8:Z3 (m.push { cls:=.type "tuple",data:=.seq #[x,y,u] }) z TI TO .ellipsis f1:=VaA _ kz7;refine Vax (VbP kz8 (by simp) λg9 T ks9=>?_);replace T:Z3 g9 z TI TO (rawInt m.objs.size) f1:=T;refine VbP T (by simp) λgA S ksA=>?_;replace S:Z3 gA z TI TO (rawInt m.objs.size) (.bool false):=S;have C:∀c o,c≠z->m.get? c=some o->gA.get? c=some o:=λc o B e=>ksA.extBut _ _ B (ks9.extBut _ _ B (VaA _ e));have H:Tr gA m.objs.size x y u:=ksA.extBut _ _ (VaD X) (ks9.extBut _ _ (VaD X) (VaE _ rfl));rw [Z] at H;refine Vay ⟨_,rfl,?_⟩;show Q (.ref m.objs.size) _;rw [Z];exact kQ gA _ _ S (.inr ⟨_,rfl⟩) ⟨_,_,_,C _ _ (by walk_at "nl") I⟩ (q1.at λo e=>C _ o (by walk_at "nl") e) (q2.at λo e=>C _ o (by walk_at "nl") e) (q3.at λo e=>C _ o (by walk_at "nl") e) H λc o B K O P R e=>C c o B (F c o B K O P R e)
 .simp only [Vbs,Va7];rw [<-VbR];simp only [Vbl,List.forIn_nil];refine Vax (Vax (Vax (Vbb ?_)));show wpAny _ _ (Builtin.SmallTypes.nextOf (.ref i1) >>= _) _ _ _;refine Vax (Za0 (m1.extBut g.extBut (by walk_at "nl")) (n1.extBut g.extBut (by walk_at "nl")) kx λL V h=>Vay (Vay ?_));refine Vax (Vax (Vbb ?_));show wpAny _ _ (Builtin.SmallTypes.nextOf (.ref i2) >>= _) _ _ _;refine Vax (Za0 ((m2.extBut g.extBut (by walk_at "nl")).extBut h.extBut (by walk_at "nl")) ((n2.extBut g.extBut (by walk_at "nl")).extBut h.extBut (by walk_at "nl")) ky λN m23 i=>Vay (Vay ?_));refine Vax (Vax (Vbb ?_));show wpAny _ _ (Builtin.SmallTypes.nextOf (.ref i3) >>= _) _ _ _;refine Vax (Za0 (((m3.extBut g.extBut (by walk_at "nl")).extBut h.extBut (by walk_at "nl")).extBut i.extBut (by walk_at "nl")) (((n3.extBut g.extBut (by walk_at "nl")).extBut h.extBut (by walk_at "nl")).extBut i.extBut (by walk_at "nl")) ku λd m34 j=>Vay (Vay (Vay ?_)));refine Vax (wpAny_newTuple (hsz:=show (3:Nat)<=sizeLine by decide) (Vay ⟨_,rfl,?_⟩));have Z:d.objs.size=s.heap.objs.size:=by rw [j.1,i.1,h.1,g.1]
  have F:∀c o,c≠z->c≠TO->c≠i1->c≠i2->c≠i3->s.heap.get? c=some o->d.get? c=some o:=λc o B _ O P R e=>j.extBut _ _ R (i.extBut _ _ P (h.extBut _ _ O (g.extBut _ _ B e)));have kz4:Z3 d z TI TO f0 f:=j.extBut _ _ (by walk_at "nl") (i.extBut _ _ (by walk_at "nl") (h.extBut _ _ (by walk_at "nl") G));have J:Tr d TO a b c:=j.extBut _ _ (by walk_at "nl") (i.extBut _ _ (by walk_at "nl") (h.extBut _ _ (by walk_at "nl") (g.extBut _ _ (by walk_at "nl") kTO)));have q1:ItK p d i1 l1 (k+1):=(V.extBut i.extBut (by walk_at "nl")).extBut j.extBut (by walk_at "nl");have q2:ItK q d i2 l2 (k+1):=m23.extBut j.extBut (by walk_at "nl");have C:∀c o,d.get? c=some o->(d.push { cls:=.type "tuple",data:=.seq #[x,y,u] }).get? c=some o:=λc o e=>VaA _ e;have H:Tr (d.push { cls:=.type "tuple",data:=.seq #[x,y,u] }) d.objs.size x y u:=VaE _ rfl;rw [Z] at H;show Q (.ref d.objs.size) _;rw [Z];exact kQ _ _ _ (C _ _ kz4) kf ⟨_,_,_,C _ _ J⟩ (q1.at λo e=>C _ o e) (q2.at λo e=>C _ o e) (m34.at λo e=>C _ o e) H λc o B K O P R e=>C c o (F c o B K O P R e)
def Zqn{p q r:Bool}{z TI TO i1 i2 i3 l1 l2 l3:Addr}{us vs ws:Array Value}{a b c f0 f1:Value}{Q:Fin->Shared->Prop}(kh:A.handled=none)(D:Ap3 z TI TO i1 i2 i3 l1 l2 l3)(kz:Z3 s.heap z TI TO f0 f1)(kf:Mk3 f0)(kTI:Tr s.heap TI (.ref i1) (.ref i2) (.ref i3))(kTO:Tr s.heap TO a b c)(m1:ItK p s.heap i1 l1 k)(m2:ItK q s.heap i2 l2 k)(m3:ItK r s.heap i3 l3 k)(n1:SqK p s.heap l1 us)(n2:SqK q s.heap l2 vs)(n3:SqK r s.heap l3 ws)(kend:us[k]?=none\/vs[k]?=none\/ws[k]?=none)(kE:∀h' e,(∀c o,c≠z->c≠TO->c≠i1->c≠i2->c≠i3->s.heap.get? c=some o->h'.get? c=some o)->(∃o,h'.get? e=some o/\o.cls=.type "StopIteration")->E (.ref e) { s with heap:=h' }) :
  wpAny (model prog w) A (Builtin.«zip.__next__» ⟨[.ref z],[]⟩) Q E s:=by
 obtain ⟨o1,o2,o3,o4,o5,a1,a2,a3⟩:=D;have x1:=Vbn o1 o2;have x2:=Vbn o3 o4;have x3:=Vbn o2 x2;have x4:=Vbn o1 x3;have y1:=Vbn x2 o5;have y2:=Vbn x3 o5;have y3:=Vbn x4 o5;have b1:=Vbn a1 o1;have u:=Vbn a1 x1;have d1:=Vbn a1 x4;have e1:=Vbn a1 y3;have b2:=Vbn a2 o1;have O:=Vbn a2 x1;have d2:=Vbn a2 x4;have e2:=Vbn a2 y3;have b3:=Vbn a3 o1;have F:=Vbn a3 x1;have d3:=Vbn a3 x4;have e3:=Vbn a3 y3;show wpAny _ _ (field (.ref z) 2 >>= _) _ _ _;refine Vax (Va9 kz rfl (x:=.bool false) rfl ?_);show wpAny _ _ (field (.ref z) 3 >>= _) _ _ _;refine Vax (Va9 kz rfl (x:=.ref TI) rfl ?_);refine Vax (Vbx kTI rfl ?_);show wpAny _ _ (Builtin.SmallTypes.ownedTupleIsFree (.ref z) >>= _) _ _ _;refine Vax (ZjZ kz kf ?_ λN f K d=>?_)
 .simp only [Va8];refine Vax (wpAny_rule ?_);refine Vax (Va9 kz rfl (x:=.ref TO) rfl ?_);refine Vax (VbP kz (by simp) λN K d=>?_);replace K:Z3 N z TI TO .ellipsis f1:=K;refine Vax ?_;simp only [List.zipIdx_cons,List.zipIdx_nil,Vbl,List.forIn_nil];refine Vax (Vax (VbQ ?_));show wpAny _ _ (Builtin.SmallTypes.nextOf (.ref i1) >>= _) _ _ _;cases kx:us[k]? with
  | none=>
   refine Vax (Zc0 kh (m1.extBut d.extBut (by walk_at "nl")) (n1.extBut d.extBut (by walk_at "nl")) kx λn e g H=>?_);obtain ⟨ox,l,B⟩:=H;have S:Z3 n z TI TO .ellipsis f1:=g _ _ (by walk_at "nl") K;have I:e≠z:=λx=>by subst x;rw [S] at l;cases l;simp at B
   exact VbP S (by simp) λj _ i=>kE j e (λc o u _ F _ _ x=>i.extBut _ _ u (g _ _ F (d.extBut _ _ u x))) ⟨ox,i.extBut _ _ I l,B⟩
  | some x=>
   refine Vax (Za0 (m1.extBut d.extBut (by walk_at "nl")) (n1.extBut d.extBut (by walk_at "nl")) kx λn m12 g=>Vay ?_);have Z:Tr n TO a b c:=g.extBut _ _ (by walk_at "nl") (d.extBut _ _ (by walk_at "nl") kTO);refine Vax (Vbx Z rfl ?_);refine Vax (ZiD Z λj P i=>?_);replace P:Tr j TO x b c:=P;refine Vax (wpAny_letGo (Vay ?_));refine Vax (Vax (VbQ ?_));show wpAny _ _ (Builtin.SmallTypes.nextOf (.ref i2) >>= _) _ _ _;have G:=((m2.extBut d.extBut (by walk_at "nl")).extBut g.extBut (by walk_at "nl")).extBut i.extBut (by walk_at "nl");have J:=((n2.extBut d.extBut (by walk_at "nl")).extBut g.extBut (by walk_at "nl")).extBut i.extBut (by walk_at "nl");have kz3:Z3 j z TI TO .ellipsis f1:=i.extBut _ _ (by walk_at "nl") (g.extBut _ _ (by walk_at "nl") K);have t:∀c o,c≠z->c≠TO->c≠i1->c≠i2->c≠i3->s.heap.get? c=some o->j.get? c=some o:=λc o u O F _ _ x=>i.extBut _ _ O (g.extBut _ _ F (d.extBut _ _ u x));cases ky:vs[k]? with
   | none=>
    refine Vax (Zc0 kh G J ky λv e m H=>?_);obtain ⟨ox,l,B⟩:=H;have X:Z3 v z TI TO .ellipsis f1:=m _ _ (by walk_at "nl") kz3;have I:e≠z:=λx=>by subst x;rw [X] at l;cases l;simp at B
    exact VbP X (by simp) λM _ C=>kE M e (λc o u O F L R x=>C.extBut _ _ u (m _ _ L (t c o u O F L R x))) ⟨ox,C.extBut _ _ I l,B⟩
   | some y=>
    have ku:ws[k]?=none:=by
     rcases kend with h | h | h
     .rw [kx] at h;cases h
     .rw [ky] at h;cases h
     .exact h
    refine Vax (Za0 G J ky λv m24 m=>Vay ?_);have W:Tr v TO x b c:=m.extBut _ _ (by walk_at "nl") P;refine Vax (Vbx W rfl ?_);refine Vax (ZiD W λM kT5 C=>?_);refine Vax (wpAny_letGo (Vay ?_));refine Vax (Vax (VbQ ?_));show wpAny _ _ (Builtin.SmallTypes.nextOf (.ref i3) >>= _) _ _ _;refine Vax (Zc0 kh (((((m3.extBut d.extBut (by walk_at "nl")).extBut g.extBut (by walk_at "nl")).extBut i.extBut (by walk_at "nl")).extBut m.extBut (by walk_at "nl")).extBut C.extBut (by walk_at "nl")) (((((n3.extBut d.extBut (by walk_at "nl")).extBut g.extBut (by walk_at "nl")).extBut i.extBut (by walk_at "nl")).extBut m.extBut (by walk_at "nl")).extBut C.extBut (by walk_at "nl")) ku λU e V H=>?_);obtain ⟨ox,l,B⟩:=H;have Y:Z3 U z TI TO .ellipsis f1:=V _ _ (by walk_at "nl") (C.extBut _ _ (by walk_at "nl") (m.extBut _ _ (by walk_at "nl") kz3));have I:e≠z:=λx=>by subst x;rw [Y] at l;cases l;simp at B
    exact VbP Y (by simp) λg7 _ T=>kE g7 e (λc o u O F L R x=>T.extBut _ _ u (V _ _ R (C.extBut _ _ O (m.extBut _ _ L (t c o u O F L R x))))) ⟨ox,T.extBut _ _ I l,B⟩
 .simp only [Vbs,Va7];rw [<-VbR];simp only [Vbl,List.forIn_nil];refine Vax (Vax (Vax (Vbb ?_)));show wpAny _ _ (Builtin.SmallTypes.nextOf (.ref i1) >>= _) _ _ _;cases kx:us[k]? with
  | none=>
   refine Vax (Zc0 kh (m1.extBut d.extBut (by walk_at "nl")) (n1.extBut d.extBut (by walk_at "nl")) kx λn e g H=>?_);exact kE n e (λc o u _ F _ _ x=>g _ _ F (d.extBut _ _ u x)) H
  | some x=>
   refine Vax (Za0 (m1.extBut d.extBut (by walk_at "nl")) (n1.extBut d.extBut (by walk_at "nl")) kx λn m12 g=>Vay (Vay ?_));refine Vax (Vax (Vbb ?_));show wpAny _ _ (Builtin.SmallTypes.nextOf (.ref i2) >>= _) _ _ _;have G:=(m2.extBut d.extBut (by walk_at "nl")).extBut g.extBut (by walk_at "nl");have J:=(n2.extBut d.extBut (by walk_at "nl")).extBut g.extBut (by walk_at "nl");cases ky:vs[k]? with
   | none=>
    refine Vax (Zc0 kh G J ky λj e i H=>?_);exact kE j e (λc o u _ F L _ x=>i _ _ L (g.extBut _ _ F (d.extBut _ _ u x))) H
   | some y=>
    have ku:ws[k]?=none:=by
     rcases kend with h | h | h
     .rw [kx] at h;cases h
     .rw [ky] at h;cases h
     .exact h
    refine Vax (Za0 G J ky λj m23 i=>Vay (Vay ?_));refine Vax (Vax (Vbb ?_));show wpAny _ _ (Builtin.SmallTypes.nextOf (.ref i3) >>= _) _ _ _;refine Vax (Zc0 kh (((m3.extBut d.extBut (by walk_at "nl")).extBut g.extBut (by walk_at "nl")).extBut i.extBut (by walk_at "nl")) (((n3.extBut d.extBut (by walk_at "nl")).extBut g.extBut (by walk_at "nl")).extBut i.extBut (by walk_at "nl")) ku λv e m H=>?_);exact kE v e (λc o u _ F L R x=>m _ _ R (i.extBut _ _ L (g.extBut _ _ F (d.extBut _ _ u x)))) H
def ZrZ{p q r:Bool}{z TI TO i1 i2 i3 l1 l2 l3:Addr}{us vs ws:Array Value}{x y u a b c f0 f1:Value}{Q:Option Value->Shared->Prop}(D:Ap3 z TI TO i1 i2 i3 l1 l2 l3)(kz:Z3 s.heap z TI TO f0 f1)(kf:Mk3 f0)(kTI:Tr s.heap TI (.ref i1) (.ref i2) (.ref i3))(kTO:Tr s.heap TO a b c)(m1:ItK p s.heap i1 l1 k)(m2:ItK q s.heap i2 l2 k)(m3:ItK r s.heap i3 l3 k)(n1:SqK p s.heap l1 us)(n2:SqK q s.heap l2 vs)(n3:SqK r s.heap l3 ws)(kx:us[k]?=some x)(ky:vs[k]?=some y)(ku:ws[k]?=some u) (kQ:∀h' f0' f1',Z3 h' z TI TO f0' f1'->Mk3 f0'->(∃a b c,Tr h' TO a b c)->ItK p h' i1 l1 (k+1)->ItK q h' i2 l2 (k+1)->ItK r h' i3 l3 (k+1)->Tr h' s.heap.objs.size x y u ->
   (∀c o,c≠z->c≠TO->c≠i1->c≠i2->c≠i3->s.heap.get? c=some o->h'.get? c=some o)->Q (some (.ref s.heap.objs.size)) { s with heap:=h' }) :
  wpAny (model prog w) A (pyNext (.ref z)) Q E s:=by
 have d:s.TypeIs (.ref z) "zip":=⟨_,kz,rfl⟩;unfold pyNext
 exact Vax (wpAny_attempt (Vbc (name:=Str.ofString "__next__") d F.slot_zip_next
  (Vbe F.slot_zip_next d F.entry_zip_next
   (Zq5 D kz kf kTI kTO m1 m2 m3 n1 n2 n3 kx ky ku λh' f0' f1' e i m f l g h j=>Vay (kQ h' f0' f1' e i m f l g h j)) (F.args_zip_next_1 _))))
def Zt2{p q r:Bool}{z TI TO i1 i2 i3 l1 l2 l3:Addr}{us vs ws:Array Value}{a b c f0 f1:Value}{Q:Option Value->Shared->Prop}(kh:A.handled=none)(D:Ap3 z TI TO i1 i2 i3 l1 l2 l3)(kz:Z3 s.heap z TI TO f0 f1)(kf:Mk3 f0)(kTI:Tr s.heap TI (.ref i1) (.ref i2) (.ref i3))(kTO:Tr s.heap TO a b c)(m1:ItK p s.heap i1 l1 k)(m2:ItK q s.heap i2 l2 k)(m3:ItK r s.heap i3 l3 k)(n1:SqK p s.heap l1 us)(n2:SqK q s.heap l2 vs)(n3:SqK r s.heap l3 ws)(kend:us[k]?=none\/vs[k]?=none\/ws[k]?=none)(kQ:∀h',(∀c o,c≠z->c≠TO->c≠i1->c≠i2->c≠i3->s.heap.get? c=some o->h'.get? c=some o)->Q none { s with heap:=h' }):wpAny (model prog w) A (pyNext (.ref z)) Q E s:=by
 have d:s.TypeIs (.ref z) "zip":=⟨_,kz,rfl⟩;unfold pyNext
 refine Vax (wpAny_attempt (Vbc (name:=Str.ofString "__next__") d F.slot_zip_next
  (Vbe F.slot_zip_next d F.entry_zip_next (Zqn kh D kz kf kTI kTO m1 m2 m3 n1 n2 n3 kend λh' e i g=>?_) (F.args_zip_next_1 _))))
 obtain ⟨o,f,h⟩:=g;refine Vax (wpAny_isInstance (T:="StopIteration") (b:=true) ⟨o,f,h⟩ isSubtype_stop ?_);exact Vay (kQ _ i)
def ZqC{z TI TO:Addr}{f0 f1:Value}{Q:Value->Shared->Prop}(kz:Z3 s.heap z TI TO f0 f1)(h:Q (.ref z) s):wpAny (model prog w) A (pyIter (.ref z)) Q E s:=by
 have a:s.TypeIs (.ref z) "zip":=⟨_,kz,rfl⟩;refine wpAny_pyIter_slot a F.slot_zip_iter (Vbe F.slot_zip_iter a F.entry_zip_iter ?_ (F.args_zip_iter_1 _));show wpAny _ _ (ret (.ref z)) _ _ s;exact Vay ⟨_,rfl,"zip",_,a,F.slot_zip_next.lookup,h⟩
end
def ZqD(a b c):checkTypeCall "zip" ⟨[a,b,c],[]⟩=pure ():=by kernel_rfl
def Zrb(a b c):checkBuiltinCall "zip.__new__" ⟨[.type "zip",a,b,c],[]⟩=pure ():=by kernel_rfl
def oi_4(a b c d):argsOk "object.__init__" ⟨[a,b,c,d],[]⟩:=by
 have e:=signature?_of (id:="object.__init__") (o:=['t','c','e','j','b','o']) (n:=['_','_','t','i','n','i','_','_']) (by kernel_rfl) PySem.F.owner_object;unfold argsOk;rw [e]
 kernel_rfl
abbrev j1(p:Bool)(h:Heap)(l1:Addr):Heap:=h.push (Zif p l1)
abbrev j2(p q:Bool)(h:Heap)(l1 l2:Addr):Heap:=(j1 p h l1).push (Zif q l2)
abbrev j3(p q r:Bool)(h:Heap)(l1 l2 l3:Addr):Heap:=(j2 p q h l1 l2).push (Zif r l3)
abbrev j4(p q r:Bool)(h:Heap)(l1 l2 l3:Addr):Heap:=(j3 p q r h l1 l2 l3).push { cls:=.type "tuple",data:=.seq #[.ref h.objs.size,.ref (j1 p h l1).objs.size,.ref (j2 p q h l1 l2).objs.size] }
abbrev j5(p q r:Bool)(h:Heap)(l1 l2 l3:Addr):Heap:=(j4 p q r h l1 l2 l3).push { cls:=.type "tuple",data:=.seq #[.none,.none,.none] }
abbrev j6(p q r:Bool)(h:Heap)(l1 l2 l3:Addr):Heap:=(j5 p q r h l1 l2 l3).push { cls:=.type "zip",data:=.fields #[.none,.bool false,.bool false,.ref (j3 p q r h l1 l2 l3).objs.size,.ref (j4 p q r h l1 l2 l3).objs.size] }
def ZnH(p q r)(l1 l2 l3)(us vs ws) :
  Meets (Builtin.«zip.__new__» ⟨[.type "zip",.ref l1,.ref l2,.ref l3],[]⟩) (λ_ R s=>SqK p s.heap l1 us/\SqK q s.heap l2 vs/\SqK r s.heap l3 ws /\
   R (.ok (.ret (.ref (j5 p q r s.heap l1 l2 l3).objs.size))) { s with heap:=j6 p q r s.heap l1 l2 l3 }) :=
 .of_wp λe w A R s h=>by
  obtain ⟨c,g,d,a,b⟩:=s;obtain ⟨k,i,l,h⟩:=h;have f:=sub_zip;have m:SqK p (Shared.heap ⟨c,g,d,a,b⟩) l1 us:=k;have n:SqK q (Shared.heap ⟨c.push (Zif p l1),g,d,a,b⟩) l2 vs:=SqK.push i _;have j:SqK r (Shared.heap ⟨(c.push (Zif p l1)).push (Zif q l2),g,d,a,b⟩) l3 ws:=SqK.push (SqK.push l _) _
  wp_walk using ZqS m,ZqS n,ZqS j
  exact ⟨_,rfl,h⟩
section
variable{prog:Program} {E:Value->Shared->Prop}
def Zqz{us:Array Value}(n1:SqK p s.heap l1 us)(n2:SqK q s.heap l2 vs)(n3:SqK r s.heap l3 ws) (h:∀h',Z3 h' (s.heap.objs.size+5) (s.heap.objs.size+3) (s.heap.objs.size+4) .none (.bool false)->Tr h' (s.heap.objs.size+3) (.ref s.heap.objs.size) (.ref (s.heap.objs.size+1)) (.ref (s.heap.objs.size+2)) ->
   Tr h' (s.heap.objs.size+4) .none .none .none->ItK p h' s.heap.objs.size l1 0->ItK q h' (s.heap.objs.size+1) l2 0->ItK r h' (s.heap.objs.size+2) l3 0->h'.objs.size=s.heap.objs.size+6 ->
   (∀c o,s.heap.get? c=some o->h'.get? c=some o)->Q (.ref (s.heap.objs.size+5)) { s with heap:=h' }) :
  wpAny (model prog w) A (call (.type "zip") [.ref l1,.ref l2,.ref l3]) Q E s:=by
 refine callType_new F.called_zip (by decide) (ZqD _ _ _) (Zrb _ _ _) (λl=>oi_4 l _ _ _) F.entry_zip_new (ZnH p q r l1 l2 l3 us vs ws) ⟨n1,n2,n3,?_⟩;have n:(j1 p s.heap l1).objs.size=s.heap.objs.size+1:=VaP ..;have t:(j2 p q s.heap l1 l2).objs.size=s.heap.objs.size+2:=by rw [VaP,n]
 have j:(j3 p q r s.heap l1 l2 l3).objs.size=s.heap.objs.size+3:=by rw [VaP,t]
 have i:(j4 p q r s.heap l1 l2 l3).objs.size=s.heap.objs.size+4:=by rw [VaP,j]
 have k:(j5 p q r s.heap l1 l2 l3).objs.size=s.heap.objs.size+5:=by rw [VaP,i]
 have B:(j6 p q r s.heap l1 l2 l3).objs.size=s.heap.objs.size+6:=by rw [VaP,k]
 have d:∀{c:Addr} {o:Obj},(j5 p q r s.heap l1 l2 l3).get? c=some o->(j6 p q r s.heap l1 l2 l3).get? c=some o:=λe=>VaA _ e;have f:∀{c:Addr} {o:Obj},(j4 p q r s.heap l1 l2 l3).get? c=some o->(j6 p q r s.heap l1 l2 l3).get? c=some o:=λe=>d (VaA _ e);have b:∀{c:Addr} {o:Obj},(j3 p q r s.heap l1 l2 l3).get? c=some o->(j6 p q r s.heap l1 l2 l3).get? c=some o:=λe=>f (VaA _ e);have a:∀{c:Addr} {o:Obj},(j2 p q s.heap l1 l2).get? c=some o->(j6 p q r s.heap l1 l2 l3).get? c=some o:=λe=>b (VaA _ e);have g:∀{c:Addr} {o:Obj},(j1 p s.heap l1).get? c=some o->(j6 p q r s.heap l1 l2 l3).get? c=some o:=λe=>a (VaA _ e);have m:(j6 p q r s.heap l1 l2 l3).get? (j5 p q r s.heap l1 l2 l3).objs.size=some _:=VaE _ rfl;have u:(j6 p q r s.heap l1 l2 l3).get? (j4 p q r s.heap l1 l2 l3).objs.size=some _:=d (VaE _ rfl);have v:(j6 p q r s.heap l1 l2 l3).get? (j3 p q r s.heap l1 l2 l3).objs.size=some _:=f (VaE _ rfl);have z:(j6 p q r s.heap l1 l2 l3).get? (j2 p q s.heap l1 l2).objs.size=some _:=b (VaE _ rfl);have y:(j6 p q r s.heap l1 l2 l3).get? (j1 p s.heap l1).objs.size=some _:=a (VaE _ rfl);have C:(j6 p q r s.heap l1 l2 l3).get? s.heap.objs.size=some _:=g (VaE _ rfl);show _/\_;rw [j,i,k] at m;rw [n,t,j] at v;rw [i] at u;rw [t] at z;rw [n] at y;rw [k];exact ⟨⟨_,m,rfl⟩,h _ m v u (ItK.new C) (ItK.new y) (ItK.new z) B λc o x=>g (VaA _ x)⟩
end
def At3(p q r:Bool)(z TI TO i1 i2 i3 a b c:Addr)(i:Nat)(h:Heap):Prop :=
 ∃d e u v w,Z3 h z TI TO d e/\Mk3 d/\Tr h TI (.ref i1) (.ref i2) (.ref i3)/\Tr h TO u v w/\ItK p h i1 a i/\ItK q h i2 b i/\ItK r h i3 c i
def At3.obj{p q r:Bool}{z TI TO i1 i2 i3 a b c:Addr}{h:Heap}(st:At3 p q r z TI TO i1 i2 i3 a b c i h){x:Addr}(hx:x∈[z,TI,TO,i1,i2,i3]):∃o,h.get? x=some o/\∀v,o.data≠.cell v:=by
 obtain ⟨D,F,u,v,w,s,B,e,d,l,g,f⟩:=st;obtain ⟨A,_,y,j⟩:=l.flds;obtain ⟨E,_,m,n⟩:=g.flds;obtain ⟨C,_,k,t⟩:=f.flds;simp only [Vaq,VbS,VbT] at hx;rcases hx with rfl | rfl | rfl | rfl | rfl | rfl
 .exact ⟨_,s,λv z=>by cases z⟩
 .exact ⟨_,e,λv z=>by cases z⟩
 .exact ⟨_,d,λv z=>by cases z⟩
 .exact ⟨_,y,λv z=>by rw [j] at z;cases z⟩
 .exact ⟨_,m,λv z=>by rw [n] at z;cases z⟩
 .exact ⟨_,k,λv z=>by rw [t] at z;cases z⟩
def At3.keep{p q r:Bool}{z TI TO i1 i2 i3 a b c:Addr}{h h':Heap}(st:At3 p q r z TI TO i1 i2 i3 a b c i h)(k:∀x∈[z,TI,TO,i1,i2,i3],∀o,h.get? x=some o->h'.get? x=some o):At3 p q r z TI TO i1 i2 i3 a b c i h':=by
 obtain ⟨t,l,u,v,w,n,g,f,d,m,j,s⟩:=st;exact ⟨t,l,u,v,w,k z (by simp) _ n,g,k TI (by simp) _ f,k TO (by simp) _ d,m.at λo e=>k i1 (by simp) o e,j.at λo e=>k i2 (by simp) o e,s.at λo e=>k i3 (by simp) o e⟩
section
variable {B:Around} {p q r:Bool} {z TI TO i1 i2 i3 a b c:Addr}
def Zud{E:Value->Shared->Prop}{x:V}(D:Ap3 z TI TO i1 i2 i3 a b c)(I:Inv X pins Y H s)(hf:∀d∈[z,TI,TO,i1,i2,i3],FpOk X pins H d)(st:At3 p q r z TI TO i1 i2 i3 a b c i s.heap)(hqa:SqB X.K p H a xs)(hqb:SqB X.K q H b ys)(hqc:SqB X.K r H c zs)(hx:xs[i]?=some x)(hy:ys[i]?=some y)(hu:zs[i]?=some u)(kQ:∀h' T,T=s.heap.objs.size->H T=none->Inv X pins Y (upd H T (.tup [x,y,u])) { s with heap:=h' }->At3 p q r z TI TO i1 i2 i3 a b c (i+1) h'->(∀d o,d∉[z,TI,TO,i1,i2,i3]->s.heap.get? d=some o->h'.get? d=some o)->Q (some (.ref T)) { s with heap:=h' }) :
  wpAny (model X.prog X.w) B (pyNext (.ref z)) Q E s:=by
 obtain ⟨f0,f1,u0,v0,w0,kz,S,h,k,m1,Z,m3⟩:=st;obtain ⟨its,W,U,za⟩:=I.seqB hqa;obtain ⟨L,n,pb,zb⟩:=I.seqB hqb;obtain ⟨G,j,pc,zc⟩:=I.seqB hqc;obtain ⟨P,e1,r1⟩:=W.get hx;obtain ⟨J,e2,r2⟩:=n.get hy;obtain ⟨O,e3,r3⟩:=j.get hu;refine ZrZ D kz S h k m1 Z m3 U pb pc (x:=P) (y:=J) (u:=O) (by simpa using e1) (by simpa using e2) (by simpa using e3) λh' C m b1 b2 t b4 b5 b6 b7 N=>?_;have R:H s.heap.objs.size=none:=I.hok.fresh (VaF _);have M:∀d o,d∉[z,TI,TO,i1,i2,i3]->s.heap.get? d=some o->h'.get? d=some o:=λd o f e=>N d o (λq=>f (by simp [q])) (λq=>f (by simp [q])) (λq=>f (by simp [q])) (λq=>f (by simp [q])) (λq=>f (by simp [q])) e;have g:Tr h' TI (.ref i1) (.ref i2) (.ref i3):=by
  obtain ⟨o1,o2,o3,o4,o5,a1,a2,a3⟩:=D;exact N TI _ (ya0 (by omega)) (ya0 (by omega)) (ya0 (by omega)) (ya0 (by omega)) (ya0 (by omega)) h
 obtain ⟨A,l,F,t⟩:=t;refine kQ h' _ rfl R ?_ ⟨C,m,A,l,F,b1,b2,g,t,b4,b5,b6⟩ M;refine I.turnNew (fp:=[z,TI,TO,i1,i2,i3]) (t':=s.toks) (λd ob hb e=>M d ob hb e) hf (VaF _) ?_;have v:(3:Nat)<=sizeLine:=by decide
 exact ⟨v,[P,J,O],.cons r1 (.cons r2 (.cons r3 .nil)),⟨_,b7,rfl,_,rfl⟩⟩
def ZtU{E:Value->Shared->Prop}(hc:B.handled=none)(D:Ap3 z TI TO i1 i2 i3 a b c)(I:Inv X pins Y H s)(hf:∀d∈[z,TI,TO,i1,i2,i3],FpOk X pins H d)(st:At3 p q r z TI TO i1 i2 i3 a b c i s.heap)(hqa:SqB X.K p H a xs)(hqb:SqB X.K q H b ys)(hqc:SqB X.K r H c zs)(hx:xs.length<=i\/ys.length<=i\/zs.length<=i)(kQ:∀h',Inv X pins Y H { s with heap:=h' }->(∀d o,d∉[z,TI,TO,i1,i2,i3]->s.heap.get? d=some o->h'.get? d=some o)->Q none { s with heap:=h' }) :
  wpAny (model X.prog X.w) B (pyNext (.ref z)) Q E s:=by
 obtain ⟨S,W,O,Z,T,M,u,j,h,G,A,N⟩:=st;obtain ⟨J,y,v,U⟩:=I.seqB hqa;obtain ⟨m,k,F,V⟩:=I.seqB hqb;obtain ⟨l,g,x,R⟩:=I.seqB hqc;have P:=y.length;have t:=k.length;have C:=g.length;refine Zt2 hc D M u j h G A N v F x (hx.imp (λq=>by simp;omega) (λq=>q.imp (λq=>by simp;omega) (λq=>by simp;omega))) λh' L=>?_;have n:∀d o,d∉[z,TI,TO,i1,i2,i3]->s.heap.get? d=some o->h'.get? d=some o:=λd o f e=>L d o (λq=>f (by simp [q])) (λq=>f (by simp [q])) (λq=>f (by simp [q])) (λq=>f (by simp [q])) (λq=>f (by simp [q])) e;exact kQ h' (I.turnedL (fp:=[z,TI,TO,i1,i2,i3]) (t':=s.toks) n hf) n
end
def Zsj{n:Addr}(h1:@LT.lt Nat _ a n)(h2:@LT.lt Nat _ b n)(h3:@LT.lt Nat _ c n):Ap3 (n+5) (n+3) (n+4) n (n+1) (n+2) a b c:=⟨VaQ _,VaQ _,VaQ _,VaQ _,VaQ _,h1,h2,h3⟩
def Zmr{E:Value->Shared->Prop}(I:Inv X pins Y H s)(hqa:SqB X.K p H a xs)(hqb:SqB X.K q H b ys)(hqc:SqB X.K r H c zs)(k:∀h' z TI TO i1 i2 i3,Ap3 z TI TO i1 i2 i3 a b c->Inv X pins Y H { s with heap:=h' }->At3 p q r z TI TO i1 i2 i3 a b c 0 h'->(∀d∈[z,TI,TO,i1,i2,i3],FpOk X pins H d)->(∀d∈[z,TI,TO,i1,i2,i3],@LT.lt Nat _ d h'.objs.size)->Q (.ref z) { s with heap:=h' }):wX X (call (.type "zip") [.ref a,.ref b,.ref c]) Q E s:=by
 obtain ⟨L,P,l,R⟩:=I.seqB hqa;obtain ⟨n,u,o,B⟩:=I.seqB hqb;obtain ⟨j,t,m,M⟩:=I.seqB hqc;have O:a<s.heap.objs.size:=by obtain ⟨_,e⟩:=l.here;exact Vae e
 have y:b<s.heap.objs.size:=by obtain ⟨_,e⟩:=o.here;exact Vae e
 have J:c<s.heap.objs.size:=by obtain ⟨_,e⟩:=m.here;exact Vae e
 refine Zqz l o m λh' x h i C D F v N=>?_;have G:Inv X pins Y H { s with heap:=h' }:=I.kept (t':=s.toks) N
 refine k h' _ _ _ _ _ _ (Zsj O y J) G ⟨_,_,_,_,_,x,.inl rfl,h,i,C,D,F⟩ (λd f=>?_) (λd f=>?_)
 .have g:s.heap.objs.size<=d:=by
   simp only [Vaq,VbS,VbT] at f;rcases f with rfl | rfl | rfl | rfl | rfl | rfl<;>omega
  exact I.fpOk g (I.hok.fresh g)
 .rw [v];simp only [Vaq,VbS,VbT] at f;rcases f with rfl | rfl | rfl | rfl | rfl | rfl<;>omega
def Za1:List V->List V->List V->List (V×V×V)
 | x::xs,y::ys,u::us=>(x,y,u)::Za1 xs ys us
 | _,_,_=>[]
def ZhP:∀{xs ys us:List V} {i:Nat} {x y u:V},(Za1 xs ys us)[i]?=some (x,y,u)->xs[i]?=some x/\ys[i]?=some y/\us[i]?=some u
 | [],_,_,_,_,_,_,h=>by simp [Za1] at h
 | _::_,[],_,_,_,_,_,h=>by simp [Za1] at h
 | _::_,_::_,[],_,_,_,_,h=>by simp [Za1] at h
 | _::_,_::_,_::_,0,_,_,_,h=>by simp [Za1] at h;obtain ⟨rfl,rfl,rfl⟩:=h;simp
 | _::xs,_::ys,_::us,i+1,_,_,_,h=>by
  have:=ZhP (xs:=xs) (ys:=ys) (us:=us) (i:=i) (by simpa [Za1] using h);simpa using this
def Zh7:∀xs ys us,xs.length<=(Za1 xs ys us).length\/ys.length<=(Za1 xs ys us).length\/us.length<=(Za1 xs ys us).length
 | [],_,_=>.inl (by simp)
 | _::_,[],_=>.inr (.inl (by simp))
 | _::_,_::_,[]=>.inr (.inr (by simp))
 | _::xs,_::ys,_::us=>by
  have:=Zh7 xs ys us;simp [Za1];exact this
def ZjH:∀xs ys us,(Za1 xs ys us).length<=xs.length
 | [],_,_=>by simp [Za1]
 | _::_,[],_=>by simp [Za1]
 | _::_,_::_,[]=>by simp [Za1]
 | _::xs,_::ys,_::us=>by
  have:=ZjH xs ys us;simp [Za1];exact this
inductive Lay3(H:Hp):List (V×V×V)->List Addr->Hp->Prop
 | nil:Lay3 H [] [] H
 | snoc {ts:List (V×V×V)} {as:List Addr} {H':Hp} {T:Addr} {x y u:V} (h:Lay3 H ts as H') (hT:H' T=none):Lay3 H (ts++[(x,y,u)]) (as++[T]) (upd H' T (.tup [x,y,u]))
def Lay3.same(h:Lay3 H ts as H'):Same H H':=by
 induction h with
 | nil=>exact λ_ _ e=>e
 | snoc h hT ih=>exact λb o e=>(by
   have a:=ih b o e;rw [Zad (λq=>by subst q;rw [hT] at a;cases a)]
   exact a)
def Zom(h:S≠T):upd (upd H S o) T o'=upd (upd H T o') S o:=by
 funext b;by_cases h1:b=S
 .subst h1;rw [Zad h,Zae,Zae]
 .by_cases h2:b=T
  .subst h2;rw [Zae,Zad h1,Zae]
  .rw [Zad h2,Zad h1,Zad h1,Zad h2]
def ZeQ:upd (upd H S o) S o'=upd H S o':=by
 funext b;by_cases h1:b=S
 .subst h1;rw [Zae,Zae]
 .rw [Zad h1,Zad h1,Zad h1]
def Zdj(e:Same H H')(h:SqB K p H a xs):SqB K p H' a xs:=by
 cases p
 .exact Same.seq e h
 .rcases (show SqT K H a xs from h) with (h | ⟨o,h⟩) | h
  .exact .inl (.inl (e _ _ h))
  .exact .inl (.inr ⟨o,e _ _ h⟩)
  .exact .inr h
def ZiI(h:H S=none):Same H (upd H S o):=λb u e=>by
 rw [Zad (λq=>by subst q;rw [h] at e;cases e)];exact e
section
variable {p q r:Bool} {z TI TO i1 i2 i3 a b c S:Addr} {ys us:List V}
def Zrh{B:Around}{R:Result->Shared->Prop}(kh:B.in1.handled=none)(D:Ap3 z TI TO i1 i2 i3 a b c)(hqa:SqB X.K p H a xs)(hqb:SqB X.K q H b ys)(hqc:SqB X.K r H c us)(hS:S∉[z,TI,TO,i1,i2,i3])(kR:∀s' as H',Inv X pins Y (upd H' S (.lst (as.map V.ref))) s'->H' S=none->Lay3 H (Za1 xs ys us) as H'->R (.ok (.ret .none)) s') :
  ∀(k i:Nat) (s:Shared) (H':Hp) (as:List Addr),i+k=(Za1 xs ys us).length->Inv X pins Y (upd H' S (.lst (as.map V.ref))) s->H' S=none->Lay3 H ((Za1 xs ys us).take i) as H'->At3 p q r z TI TO i1 i2 i3 a b c i s.heap->as.length=i->(∀d∈[z,TI,TO,i1,i2,i3],FpOk X pins (upd H' S (.lst (as.map V.ref))) d) ->
   codeAny (model X.prog X.w) B (.builtin "list.extend.loop" ⟨[.ref S,.ref z,.none],[]⟩) R s:=by
 intro k
 induction k with
 | zero=>
  intro i s H' as hk I g L C Q E;have j:Same H (upd H' S (.lst (as.map V.ref))):=λb o e=>ZiI g b o (L.same b o e);refine VbU F.entry_extend_loop ?_;rw [VbV VbW _];show wpAny _ B.in1 (pyNext (.ref z) >>= _) _ _ s;refine Vax (ZtU kh D I E C (Zdj j hqa) (Zdj j hqb) (Zdj j hqc) (by have:=Zh7 xs ys us;omega) λh' I' _=>?_);refine Vay (kR _ as H' I' g ?_);rw [show i=(Za1 xs ys us).length by omega,List.take_length] at L;exact L
 | succ k ih=>
  intro i s H' as hk I g L C Q E;have j:Same H (upd H' S (.lst (as.map V.ref))):=λb o e=>ZiI g b o (L.same b o e);have hi:i<(Za1 xs ys us).length:=by omega
  obtain ⟨⟨x,y,u⟩,P⟩ : ∃t,(Za1 xs ys us)[i]?=some t:=⟨_,VbF hi⟩;obtain ⟨e1,e2,e3⟩:=ZhP P;refine VbU F.entry_extend_loop ?_;rw [VbV VbW _];show wpAny _ B.in1 (pyNext (.ref z) >>= _) _ _ s;refine Vax (Zud D I E C (Zdj j hqa) (Zdj j hqb) (Zdj j hqc) e1 e2 e3 λh' T eT A O G kp=>?_);have hl:as.length<sizeLine:=by
   obtain ⟨_,_,_,hz⟩:=I.seqB (Zdj j hqa);have:=ZjH xs ys us;omega
  have J:S≠T:=λq=>by subst q;rw [Zae] at A;cases A
  have M:H' T=none:=by rw [Zad (Ne.symm J)] at A;exact A
  rw [Zom J] at O;have U:(upd (upd H' T (.tup [x,y,u])) S (.lst (as.map V.ref))) S=some (.lst (as.map V.ref)):=Zae;obtain ⟨zz,l,n,rr,v,e⟩:=O.lstM U;have N:l.length=as.length:=by rw [<-v,VaO]
  show wpAny _ B.in1 (updateSeq S (·.push (.ref T)) >>= _) _ _ _;refine Vax ?_;refine VbO e rfl (Vay ⟨plainId_quiet VbW _,?_⟩) (by rw [VaK];omega) (by show (l.toArray.push _).size<=sizeLine+1;rw [Array.size_push,VaK];omega);have W:=O.lset (f:=(·.push (.ref T))) (t':=s.toks) (ys:=as.map V.ref++[.ref T]) (its':=l++[.ref T]) U e (by simp) (rr.append (.cons (show RelV (.ref T) (.ref T) from rfl) .nil)) (by rw [Va5,VaO,Vbj];omega);rw [ZeQ] at W;refine ih (i+1) _ (upd H' T (.tup [x,y,u])) (as++[T]) (by omega) ?_ ?_ ?_ ?_ ?_ ?_
  .rw [VbX];exact W
  .rw [Zad J];exact g
  .rw [List.take_add_one,P];exact .snoc L M
  .exact G.keep λd m o e=>(Vbi _ _ (λh=>hS (by rw [h];exact m))).trans e
  .rw [Va5,Q];rfl
  .intro d m;have Z:d≠S:=λq=>hS (by rw [<-q];exact m);have dT:d≠T:=by
    obtain ⟨o,ho,_⟩:=C.obj m;rw [eT];exact Vah (Vae ho)
   have z:=E d m;refine ⟨?_,z.2⟩;rw [Zad Z,Zad dT];have z1:=z.1;rw [Zad Z] at z1;exact z1
def Zok:typeLookup (.type "zip") "__len__"=pure none:=by rw [typeLookup_type,VbY];kernel_rfl
def Zly:typeLookup (.type "zip") "__length_hint__"=pure none:=by rw [typeLookup_type,VbY];kernel_rfl
def Zre{E:Value->Shared->Prop}(hc:X.calm=true)(D:Ap3 z TI TO i1 i2 i3 a b c)(I:Inv X pins Y H s)(st:At3 p q r z TI TO i1 i2 i3 a b c 0 s.heap)(hf:∀d∈[z,TI,TO,i1,i2,i3],FpOk X pins H d)(hqa:SqB X.K p H a xs)(hqb:SqB X.K q H b ys)(hqc:SqB X.K r H c us)(kQ:∀s' S as H',Inv X pins Y (upd H' S (.lst (as.map V.ref))) s'->H' S=none->Lay3 H (Za1 xs ys us) as H'->Q (.ref S) s'):wX X (call (.type "list") [.ref z]) Q E s:=by
 have l:∀d∈[z,TI,TO,i1,i2,i3],d≠s.heap.objs.size:=λd i=>by
  obtain ⟨o,U,_⟩:=st.obj i;exact Vah (Vae U)
 have J:z∈[z,TI,TO,i1,i2,i3]:=by simp
 refine callType_codes (Q₁:=λv j=>v=.ref s.heap.objs.size/\j={ s with heap:=s.heap.push { cls:=.type "list",data:=.seq #[] } }) F.called_list (F.typeCall_list_1 _) F.entry_list_init
  (code_list_new _ ⟨rfl,rfl⟩) λv j hq=>?_
 obtain ⟨rfl,rfl⟩:=hq;have G:H s.heap.objs.size=none:=I.fresh;have R:Inv X pins Y (upd H s.heap.objs.size (.lst [])) { s with heap:=s.heap.push { cls:=.type "list",data:=.seq #[] } }:=I.lnew (its:=[]) (t':=s.toks) .nil (VaR _)
 have y:At3 p q r z TI TO i1 i2 i3 a b c 0 (s.heap.push { cls:=.type "list",data:=.seq #[] }):=st.keep λd _ o e=>VaA _ e;generalize hsz:s.heap.objs.size=S at *;have m:(s.heap.push { cls:=.type "list",data:=.seq #[] }).get? S=some { cls:=.type "list",data:=.seq #[] }:=by rw [<-hsz];exact VaE _ rfl
 generalize s.heap.push { cls:=.type "list",data:=.seq #[] }=g at *;refine ⟨⟨_,m,rfl⟩,F.args_list_init_2 _ _,?_⟩;show wpAny _ X.A.in1.in1 (do let old <-Builtin.List.listItems (.ref S);Builtin.List.listUpdate (.ref S) (λ_=>#[]);letGo old.toList.reverse;Builtin.List.listExtendWith (.ref S) (.ref z) .none) _ _ _
 refine Vax ?_;unfold Builtin.List.listItems;refine Vax (Vbx m rfl (Vay ?_));show wpAny _ X.A.in1.in1 (updateSeq S (λ_=>#[]) >>= λ_=>letGo (#[]:Array Value).toList.reverse >>= λ_=>Builtin.List.listExtendWith (.ref S) (.ref z) .none) _ _ _;refine Vax (VbO m rfl ?_);have O:=R.lset (f:=λ_=>#[]) (t':=s.toks) (its:=[]) (its':=[]) (ys:=[]) (n:=0) Zae m rfl .nil (VaR _);rw [ZeQ] at O;have t:At3 p q r z TI TO i1 i2 i3 a b c 0 (g.update S (Obj.mapSeq λ_=>#[])):=y.keep λd i o e=>(Vbi _ _ (λh=>l d i h.symm)).trans e;have k:=VbA (Obj.mapSeq (λ_=>(#[]:Array Value))) m rfl;generalize g.update S (Obj.mapSeq λ_=>#[])=g2 at *;refine Vax (wpAny_letGo ?_);unfold Builtin.List.listExtendWith;obtain ⟨f0,f1,u0,v0,w0,P,_⟩:=id t;have x:(Shared.TypeIs { s with heap:=g2 } (.ref z) "zip"):=⟨_,P,rfl⟩
 refine Vax (Vbf x ?_);have zS:S≠z:=λh=>l z J h.symm;have W:Builtin.List.listSameRef (.ref S) (.ref z)=false:=by simp [Builtin.List.listSameRef,zS]
 have T:(Value.type "zip"==Value.type "list")=false:=by decide
 have Z:(Value.type "zip"==Value.type "tuple")=false:=by decide
 simp only [W,T,Z,Bool.or_false,Vbs,Va7];refine Vax (ZqC P ?_);refine Vax (Vbb ?_);unfold Builtin.List.listLengthHint;refine Vax (Vbr x Zok ?_);show wpAny _ X.A.in1.in1 (specialOf (Value.ref z) (Str.ofString "__length_hint__") >>= _) _ _ _;refine Vax (Vbr x Zly ?_);refine Vay ?_;show wpAny _ X.A.in1.in1 (rule "list.extend.makes-room" >>= λ_=>Builtin.List.listTouch (.ref S) >>= λ_=>again (.builtin "list.extend.loop" ⟨[.ref S,.ref z,.none],[]⟩)) _ _ _;refine Vax (wpAny_rule ?_);refine Vax ?_;show wpAny _ X.A.in1.in1 (updateSeq S (·.push .none) >>= λ_=>updateSeq S (·.pop)) _ _ _;refine Vax (VbO k rfl ?_);have u:=VbA (Obj.mapSeq (·.push Value.none)) k rfl;refine VbO (hz:=by seq_fits) u rfl ?_;have M:=O.lset (f:=(·.push Value.none)) (t':=s.toks) (its:=[]) (its':=[.none]) (ys:=[.non]) Zae k rfl (.cons (show RelV .non .none from rfl) .nil) (by show (1:Nat)<=sizeLine;decide);rw [ZeQ] at M;have N:=M.lset (f:=(·.pop)) (t':=s.toks) (its:=[.none]) (its':=[]) (ys:=[]) Zae u rfl .nil (VaR _);rw [ZeQ] at N;have C:At3 p q r z TI TO i1 i2 i3 a b c 0 ((g2.update S (Obj.mapSeq (·.push Value.none))).update S (Obj.mapSeq (·.pop))):=t.keep λd i o e=>(Vbi _ _ (λh=>l d i h.symm)).trans ((Vbi _ _ (λh=>l d i h.symm)).trans e);refine Vay ⟨plainId_quiet VbW _,?_⟩;refine Zrh (B:=X.A.in1) (I.ok.hd hc) D hqa hqb hqc (λh=>l S h rfl) (λs' as H' I' e L=>⟨rfl,kQ s' S as H' I' e L⟩) (Za1 xs ys us).length 0 _ H [] (by omega) N G .nil C rfl λd i=>?_;have z:=hf d i;exact ⟨by rw [Zad (l d i)];exact z.1,z.2⟩
end
section
def tLZ(K:W.Frag)(ta:TA):TE:=λY H Q=>ta Y H λj d=>∃p q r a b c i g h,j=[.ref a,.ref b,.ref c]/\SqB K p d a i/\SqB K q d b g/\SqB K r d c h/\∀S f e,e S=none->Lay3 d (Za1 i g h) f e->Q (.ref S) (upd e S (.lst (f.map V.ref)))
def ZvW(hc:X.calm=true)(hg:Gl X "zip")(hm:X.mg "zip"=none)(hgl:Gl X "list")(hml:X.mg "list"=none)(ha:PA X [a,b,c] ta)(hs:starEach [a,b,c] X.env=[(false,eval a X.env),(false,eval b X.env),(false,eval c X.env)]:=by rfl)(hs2:starEach [b,c] X.env=[(false,eval b X.env),(false,eval c X.env)]:=by rfl)(hs3:starEach [.Call (.Name "zip" np) [a,b,c] [] pos] X.env=(false,eval (.Call (.Name "zip" np) [a,b,c] [] pos) X.env)::starEach [] X.env:=by rfl) :
  PE X (.Call (.Name "list" lp) [.Call (.Name "zip" np) [a,b,c] [] pos] [] pos') (tLZ X.K ta):=by
 intro g s Y H Q I h;refine Call_ (Zfr I hgl hml Zi1 (VaG ?_ hs3 rfl));rw [hs3];show wpAny _ _ (spliced ((false,eval (.Call (.Name "zip" np) [a,b,c] [] pos) X.env)::backTo pos' (starEach [] X.env))) _ _ s;refine Calls.spliced_cons ?_;refine Call_ (Zfr I hg hm ZtI (VaG (thn (ha pos g s Y H _ I h) λt E zq=>?_) (by rw [hs,hs2]) (by rw [hs2];rfl)));obtain ⟨T,G,p,w,y⟩:=zq;obtain ⟨κ,μ,ν,l,m,n,N,M,A,e,f,i,d,q⟩:=y;subst e;cases w with
 | cons r rr=>
  cases rr with
  | cons r' rr=>
   cases rr with
   | cons r'' rr=>
    cases rr;cases r;cases r';cases r'';refine Zmr p f i d λP z B C J F O D u o j _=>?_;refine Calls.spliced_nil ?_;exact Zre hc D u o j f i d λR S k x v e L=>⟨.ref S,_,v,rfl,q S k x e L⟩
end
end L2
namespace L2.Ds
open Dl
section
variable {F:Hp}
def Zra{us:List D}(r:Rps K mg F xs ds)(e:zip3 ds=.ok us):∃p q t a b c as bs cs d1 d2 d3,xs=[.ref a,.ref b,.ref c]/\SqB K p F a as/\SqB K q F b bs/\SqB K t F c cs/\Rps K mg F as d1/\Rps K mg F bs d2/\Rps K mg F cs d3/\us=trips d1 d2 d3:=by
 unfold zip3 at e;split at e
 .next x y z=>
  obtain ⟨w,A,B,rfl,v,n,j⟩:=r.three;cases e1:seqD x with
  | ok d1=>
   rw [e1] at e;cases e2:seqD y with
   | ok d2=>
    cases e3:seqD z with
    | ok d3=>
     have g:((seqD y).bind λh=>(seqD z).bind λf=>Res.ok (trips d1 h f))=.ok us:=e;rw [e2] at g;have d:((seqD z).bind λf=>Res.ok (trips d1 d2 f))=.ok us:=g;rw [e3] at d;have o:Res.ok (trips d1 d2 d3)=.ok us:=d;cases o;obtain ⟨p,a,as,rfl,s,u⟩:=Zmm v e1;obtain ⟨q,b,bs,rfl,l,i⟩:=Zmm n e2;obtain ⟨t,c,cs,rfl,k,m⟩:=Zmm j e3;exact ⟨p,q,t,a,b,c,as,bs,cs,d1,d2,d3,rfl,s,l,k,u,i,m,rfl⟩
    | ex c=>
     have g:((seqD y).bind λh=>(seqD z).bind λf=>Res.ok (trips d1 h f))=.ok us:=e;rw [e2] at g;have d:((seqD z).bind λf=>Res.ok (trips d1 d2 f))=.ok us:=g;rw [e3] at d;cases d
    | bad=>
     have g:((seqD y).bind λh=>(seqD z).bind λf=>Res.ok (trips d1 h f))=.ok us:=e;rw [e2] at g;have d:((seqD z).bind λf=>Res.ok (trips d1 d2 f))=.ok us:=g;rw [e3] at d;cases d
   | ex c=>
    have g:((seqD y).bind λh=>(seqD z).bind λf=>Res.ok (trips d1 h f))=.ok us:=e;rw [e2] at g;cases g
   | bad=>
    have g:((seqD y).bind λh=>(seqD z).bind λf=>Res.ok (trips d1 h f))=.ok us:=e;rw [e2] at g;cases g
  | ex c=>rw [e1] at e;cases e
  | bad=>rw [e1] at e;cases e
 .cases e
def Zqx{c:Str}:zip3 ds≠.ex c:=by
 intro e;unfold zip3 at e;split at e
 .next x y z=>
  cases e1:seqD x with
  | ok d1=>
   rw [e1] at e;have b:((seqD y).bind λf=>(seqD z).bind λd=>Res.ok (trips d1 f d))=.ex c:=e;cases e2:seqD y with
   | ok d2=>
    rw [e2] at b;have a:((seqD z).bind λd=>Res.ok (trips d1 d2 d))=.ex c:=b;cases e3:seqD z with
    | ok d3=>rw [e3] at a;cases a
    | ex c'=>exact aB e3 ZmV
    | bad=>rw [e3] at a;cases a
   | ex c'=>exact aB e2 ZmV
   | bad=>rw [e2] at b;cases b
  | ex c'=>exact aB e1 ZmV
  | bad=>rw [e1] at e;cases e
 .cases e
def ZrH:∀{H H':Hp} {ts:List (V×V×V)} {as:List Addr},Lay3 H ts as H'->∀{F:Hp},Same F H->∀{us:List D},us.length=ts.length->(∀(i:Nat) x y z d,ts[i]?=some (x,y,z)->us[i]?=some d->∃a b c,d=.tup [a,b,c]/\Rp K mg F x a/\Rp K mg F y b/\Rp K mg F z c)->∃F',Gr F H F' H'/\Rps K mg F' (as.map V.ref) us:=by
 intro H H' ts as L
 induction L with
 | nil=>
  intro F s us m _;have:us=[]:=List.length_eq_zero_iff.mp m;subst this;exact ⟨F,.refl s,.nil⟩
 | @snoc ts as H1 T x y u L hT ih=>
  intro F s us m p;have j:us.length=ts.length+1:=by rw [m,Va5];rfl
  obtain ⟨d,q⟩ : ∃d,us[ts.length]?=some d:=⟨_,VbF (by omega)⟩;obtain ⟨g,rfl⟩ : ∃g,us=g++[d]:=by
   refine ⟨us.take ts.length,?_⟩;have:=List.take_append_drop ts.length us;rw [Vbq (by omega),VbG (by omega)] at this;have e:us[ts.length]=d:=by
    have:=VbF (show ts.length<us.length by omega);rw [q] at this;exact (Vaa this).symm
   rw [e] at this;exact this.symm
  have l:g.length=ts.length:=by rw [Va5] at j;simpa using j
  obtain ⟨t,k,w⟩:=ih s l λi x y z e o n=>p i x y z e (by rw [Va2 ((Vat.mp o).1)];exact o) (by rw [Va2 ((Vat.mp n).1)];exact n);obtain ⟨a,b,c,rfl,A,r,v⟩:=p ts.length x y u d (by simp) q;have h:Gr t H1 _ _:=.new k.s hT (.tup [x,y,u]);refine ⟨_,k.trans h,?_⟩;rw [VbX];refine Rps.app (.cons (.tup (SqT.of Zae) (.cons ((A.same k.f).same h.f) (.cons ((r.same k.f).same h.f) (.cons ((v.same k.f).same h.f) .nil)))) .nil) (w.same h.f)
def ZfM:∀{xs ys zs:List V} {ds es fs:List D},Rps K mg F xs ds->Rps K mg F ys es->Rps K mg F zs fs->(trips ds es fs).length=(Za1 xs ys zs).length/\∀(i:Nat) x y z d,(Za1 xs ys zs)[i]?=some (x,y,z)->(trips ds es fs)[i]?=some d->∃a b c,d=.tup [a,b,c]/\Rp K mg F x a/\Rp K mg F y b/\Rp K mg F z c
 | _,_,_,_,_,_,.nil,_,_=>⟨by simp [trips,Za1],λi x y z d h=>by simp [Za1] at h⟩
 | _,_,_,_,_,_,.cons _ _,.nil,_=>⟨by simp [trips,Za1],λi x y z d h=>by simp [Za1] at h⟩
 | _,_,_,_,_,_,.cons _ _,.cons _ _,.nil=>⟨by simp [trips,Za1],λi x y z d h=>by simp [Za1] at h⟩
 | _,_,_,_,_,_,.cons h1 r1,.cons h2 r2,.cons h3 r3=>by
  obtain ⟨l,q⟩:=ZfM r1 r2 r3;refine ⟨by simp [trips,Za1,l],λi x y z d f e=>?_⟩;cases i with
  | zero=>
   simp [Za1] at f;obtain ⟨rfl,rfl,rfl⟩:=f;simp [trips] at e;subst e;exact ⟨_,_,_,rfl,h1,h2,h3⟩
  | succ i=>exact q i x y z d (by simpa [Za1] using f) (by simpa [trips] using e)
end
section
variable {a b c:Expr} {t:TA} {m:MA} {lp p:Pos}
def ya7(hcm:X.calm=true)(hg:Gl X "zip")(hm:X.mg "zip"=none)(hgl:Gl X "list")(hml:X.mg "list"=none)(ha:DA X E n [a,b,c] t m)(hs:starEach [a,b,c] X.env=[(false,eval a X.env),(false,eval b X.env),(false,eval c X.env)]:=by rfl)(hs2:starEach [b,c] X.env=[(false,eval b X.env),(false,eval c X.env)]:=by rfl)(hs3:starEach [.Call (.Name "zip" p) [a,b,c] [] pos] X.env=(false,eval (.Call (.Name "zip" p) [a,b,c] [] pos) X.env)::starEach [] X.env:=by rfl) :
  DE X E (.Call (.Name "list" lp) [.Call (.Name "zip" p) [a,b,c] [] pos] [] pos') (tLZ X.K t) (on lz3 m):=by
 refine ⟨ZvW hcm hg hm hgl hml ha.p hs hs2 hs3,?_⟩;intro A M F H Y Z C;refine (ha.s A M F H Y Z C).bind (w':=λU d Q=>∃p q r a b c o u k,U=[V.ref a,V.ref b,V.ref c]/\SqB X.K p d a o/\SqB X.K q d b u/\SqB X.K r d c k/\∀S h g,g S=none->Lay3 d (Za1 o u k) h g->Q (V.ref S) (upd g S (.lst (h.map V.ref)))) λF1 d o J i R=>?_;unfold lz3;cases e:zip3 J with
 | ok k=>
  obtain ⟨p,q,t,a,b,c,h,T,x,d1,d2,d3,rfl,ha,N,B,G,y,O,rfl⟩:=Zra R e;obtain ⟨l,z⟩:=ZfM G y O;refine λQ I=>⟨p,q,t,a,b,c,h,T,x,rfl,ZhM i.s ha,ZhM i.s N,ZhM i.s B,λS j g W L=>?_⟩;obtain ⟨D,v,P⟩:=ZrH L i.s l z;have w:Gr D g _ _:=.new v.s W (.lst (j.map V.ref));exact I _ _ _ (v.trans w) (.lst (SqL.of Zae) (P.same w.f))
 | ex c'=>exact aB e Zqx
 | bad=>trivial
end
end L2.Ds
namespace L2.Ds
open PySem.Calls Dl
def GTup(K:W.Frag)(mg:Str->Option Value)(x:Str)(ns:List Int):Prop:=∃a o b n,mg x=some (.ref a)/\K.lookup a=some o/\o.cls=.type "tuple"/\o.data=.seq b n/\b.size<=sizeLine/\Vals (ns.map V.int) b.toList
def ZiK{F:Hp}:∀ns:List Int,Rps K mg F (ns.map V.int) (ns.map D.int)
 | []=>.nil
 | n::r=>.cons (.int n) (ZiK r)
section
variable {a b c tg:Expr} {t:TA} {m:MA} {tb:TE} {mb:ME} {p lpos:Pos}
def Zpz{ns:List Int}{A:Addr}{o:Obj}{its:Array Value}(hg:Gl X x)(hm:X.mg x=some (.ref A))(h1:X.K.lookup A=some o)(h2:o.cls=.type "tuple")(h3:o.data=.seq its n)(h4:its.size<=sizeLine)(h5:Vals (ns.map V.int) its.toList)(hd:ND x:=by decide) :
  DE X E (.Name x pos) (tC (.ref A)) (Dl.c (.tup (ns.map .int))):=⟨Zgm hg hm rfl hd,se_c λ_=>.tup (.inr ⟨o,its,n,h1,h2,h3,h4,h5⟩) (ZiK ns)⟩
end
end L2.Ds
namespace Dl
def Zp6:Res Fl->Res Fl
 | .ok (.rt d)=>.ok (.rt d)
 | _=>.bad
end Dl
namespace L2.Ds
open Dl
section
variable {F:Hp}
def Rep.letgo{x:Option V}(r:Rep K mg F0 H0 F H Y Z)(g:Gr F H F3 H3)(ag:∀b o,H3 b=some o->(F3 b=none\/∃u,F b=some u)->H4 b=some o):Rep K mg F0 H0 F H4 (Y.set i x) (Z.set i .no):=by
 refine ⟨⟨r.g.f,λb u e=>ag b u (g.s b u (g.f b u e)) (.inr ⟨u,e⟩),λb u J I=>?_,r.g.z⟩,by rw [VbB,VbB];exact r.len,λj d q=>?_,λj h q=>?_,λj k h E a t n w v=>?_⟩
 .obtain ⟨A,C⟩:=r.g.o b u J I;obtain ⟨p,c⟩:=g.o b u A C;exact ⟨A,ag b u c (.inl p)⟩
 .rcases Zar q with ⟨_,z,_⟩ | ⟨hij,q⟩
  .cases z
  .rw [Za6 hij];exact r.im j d q
 .rcases Zar q with ⟨_,z,_⟩ | ⟨hij,q⟩
  .cases z
  .rw [Za6 hij];obtain ⟨a,D,m,l,y,G,B⟩:=r.ow j h q;obtain ⟨p,c⟩:=g.o a _ y G;exact ⟨a,D,m,l,y,ag a _ c (.inl p),B⟩
 .rcases Zar t with ⟨_,z,_⟩ | ⟨m,t⟩
  .cases z
  .rcases Zar n with ⟨_,z,_⟩ | ⟨l,n⟩
   .cases z
   .rw [Za6 m] at w;rw [Za6 l] at v;exact r.ne j k h E a t n w v
end
end L2.Ds
namespace Dl
def dFld(cs:List Str)(f:Str):D->Res D
 | .ins c ns vs=>if cs.contains c=true then ofO ((ns.zip vs).lookup f) else .bad
 | _=>.bad
def badS:MS:=λ_=>.bad
end Dl
namespace L2.Ds
open Dl
def ZeD(K:W.Frag)(mg:Str->Option Value)(cs:List Str)(f:Str):Prop:=∀c,cs.contains c=true->∀C,mg c=some (.ref C)->Cls K C/\ZeC K C f
def rFld(K:W.Frag)(f:Str):V->Hp->VK->Prop:=λx H Q=>∃a C c b v,x=.ref a/\H a=some (.ins C c b)/\Cls K C/\ZeC K C f/\b.lookup f=some v/\Q v H
section
def ZgE{F:Hp}:∀{fs:List (Str×V)} {vs:List D},Rps K mg F (fs.map (·.2)) vs->((fs.map (·.1)).zip vs).lookup f=some d->∃v,fs.lookup f=some v/\Rp K mg F v d
 | [],_,_,e=>by simp at e
 | (n,x)::r,[],q,_=>nomatch q
 | (n,x)::r,d0::vs,.cons h q,e=>by
  rw [VaN,List.zip_cons_cons,Vbm] at e;rw [Vbm];cases z:f==n with
  | true=>
   rw [show (f==(n,x).fst)=true from z] at e;cases e;exact ⟨x,rfl,h⟩
  | false=>
   rw [show (f==(n,x).fst)=false from z] at e;exact ZgE q e
def ZsA(T:ZeD K mg cs f):UnD K mg (rFld K f) (dFld cs f):=by
 intro E F H x b s i;cases b with
 | ins c ns vs=>
  show Ans mg E (Rp K mg) F H (if cs.contains c=true then ofO ((ns.zip vs).lookup f) else .bad) _
  by_cases hc:cs.contains c=true
  .rw [iP hc];cases i with
   | @ins _ C a b fs xs _ m h o e r=>
    subst e;cases q:((fs.map (·.1)).zip vs).lookup f with
    | none=>trivial
    | some d=>
     obtain ⟨v,j,k⟩:=ZgE r q;obtain ⟨l,g⟩:=T c hc C m;exact .ret s k λQ z=>⟨a,C,b,fs,v,rfl,s _ _ h,l,g,j,z⟩
  .rw [iN hc];trivial
 | _=>trivial
end
def Zot(T:ZeD X.K X.mg cs f)(he:DE X E e te me)(hb:attributeBase e f X.env (eval e X.env)=eval e X.env:=by rfl) :
  DE X E (.Attribute e f pos) (tFld X.K te f) (o1 (dFld cs f) me):=⟨Ztf he.p hb,Zvt (ZsA T) he.s⟩
def ZaD:DSs X E sts (λ_ _ _=>False) badS:=⟨λ_ _ _ _ _ _ h=>h.elim,λ_ _ _ _ _ _ _=>trivial⟩
end L2.Ds
namespace L2.Ds
open Dl
section
variable {F:Hp}
def Zpl:∀{xs:List V} {ds:List D} {G:Hp},xs.length=ds.length->(∀(k:Nat) (x:V) (d:D),xs[k]?=some x->ds[k]?=some d->Rp K mg G x d)->Rps K mg G xs ds
 | [],[],_,_,_=>.nil
 | [],_::_,_,l,_=>by cases l
 | _::_,[],_,l,_=>by cases l
 | x::xs,d::ds,G,l,h=>.cons (h 0 x d rfl rfl) (Zpl (by simpa using l) λk y e a b=>h (k+1) y e (by simpa using a) (by simpa using b))
end
end L2.Ds
namespace Dl
abbrev Fs:=List (Str×D)
abbrev MSi:=Ev->Fs->Res Fs
def iEnd:MSi:=λ_ a=>.ok a
def iDrp(e:ME)(k:MSi):MSi:=λZ a=>(e Z).bind λ_=>k Z a
def iSet(f:Str)(e:ME)(k:MSi):MSi:=λZ a=>(e Z).bind λd=>if (a.map (·.1)).contains f=true\/100<=a.length then .bad else k Z (a++[(f,d)])
def iSup(g:List D->Fs->Res Fs)(a:MA)(k:MSi):MSi:=λZ c=>(a Z).bind λd=>(g d c).bind λb=>k Z b
def fnI(n:Nat)(k:MSi):List D->Fs->Res Fs:=λb a=>k (.no::ev0 (n - 1) b) a
def make(c:Str)(g:List D->Fs->Res Fs)(a:MA):ME:=λZ=>(a Z).bind λd=>(g d []).bind λb=>.ok (.ins c (b.map (·.1)) (b.map (·.2)))
def meth(tab:List (Str×(List D->Res D)))(m:Str)(o:ME)(a:MA):ME:=λZ=>(o Z).bind λd=>match d with
 | .ins c ns vs=>if ns.contains m=true then .bad else match tab.lookup c with
  | some f=>(a Z).bind λb=>f (.ins c ns vs::b)
  | none=>.bad
 | _=>.bad
end Dl
namespace L2.Ds
open Dl
def Ans.imp{F:Hp}{w:(β->Hp->Prop)->Prop}(h:Ans mg E R F H r w)(hw:∀Q,w Q->w' Q):Ans mg E R F H r w':=by
 cases r with
 | ok a=>exact λQ q=>hw Q (h Q q)
 | ex c=>exact λQ q=>hw Q (h Q q)
 | bad=>trivial
def ZiF(P:Program)(w:World)(K:W.Frag)(mg:Str->Option Value)(base:Heap)(k:Nat)(m:Str)(E:XK)(ta:TE)(t:TA):TE:=λY H Q=>ta Y H λx d=>∃a C i b g c e f,x=.ref a/\d a=some (.ins C i b)/\b.lookup m=none /\
 Cls K C/\Meth K C m g/\FnOk P w K mg base (CXR P w) k g c e f/\Binds K c e []/\t Y d λj h=>f (x::j) h Q E
section
variable {m:Str} {o:Expr} {ta:TE} {t:TA} {apos:Pos} {pl:Sem Bool}
def Zoa(he:PE X o ta)(hr:Room k X.A)(hx:ZcD (CXR X.prog X.w) X E)(ha:PA X (e::es) t)(hst:starEach (e::es) X.env=(false,eval e X.env)::starEach es X.env:=by rfl)(hpl:(backTo pos (starEach es X.env)).any (·.1)=false:=by rfl) (ht:eval (.Call (.Attribute o m apos) (e::es) [] pos) X.env=(do
   let ov <-eval o X.env
   standAt apos.atName
   let (f,first) <-holding [ov] (getMethod ov m pl)
   callWith pos f first (backTo pos (starEach (e::es) X.env)) (backToKw pos (keywordEach [] X.env))):=by rfl) :
  PE X (.Call (.Attribute o m apos) (e::es) [] pos) (ZiF X.prog X.w X.K X.mg X.base k m E ta t):=by
 intro b s Y H Q I h;refine W.methodCall_KW (thn (he b s Y H _ I h) λu i j=>?_) ht;obtain ⟨x,H1,I1,rx,a,C,dx,fs,g,fd,ps,sp,ex,ea,l,c,hm,F,hb,q⟩:=j;subst ex;obtain rfl:u=Value.ref a:=rx;refine ZgF I1 ea c hm l ?_;refine W.callWith_K I.ok.mod.kin hm.kp (thn (ha pos b i Y H1 _ I1 q) λy v zq=>?_) hst hpl;obtain ⟨vs,p,d,r,n⟩:=zq;refine ⟨d.kIn,?_⟩;exact Zkx (vs:=.ref a::vs) F hr hb .nil hx d (.cons rfl r) (by rw [VaT];exact n)
def ZmM(he:PE X o ta)(hr:Room k X.A)(hx:ZcD (CXR X.prog X.w) X E) (ht:eval (.Call (.Attribute o m apos) [] [] pos) X.env=(do
   let ov <-eval o X.env
   standAt apos.atName
   let (f,first) <-holding [ov] (getMethod ov m pl)
   callWith pos f first (backTo pos (starEach [] X.env)) (backToKw pos (keywordEach [] X.env))):=by rfl) :
  PE X (.Call (.Attribute o m apos) [] [] pos) (ZiF X.prog X.w X.K X.mg X.base k m E ta tNil):=by
 intro b s Y H Q I h;refine W.methodCall_KW (thn (he b s Y H _ I h) λu e d=>?_) ht;obtain ⟨x,H1,I1,rx,a,C,dx,fs,g,fd,ps,sp,ex,ea,l,c,hm,F,hb,q⟩:=d;subst ex;obtain rfl:u=Value.ref a:=rx;refine ZgF I1 ea c hm l ?_;exact W.callWith_K0 I1.kIn hm.kp (Zkx (vs:=[.ref a]) F hr hb .nil hx I1 (.cons rfl .nil) q)
end
def ZcJ(P:Program)(w:World)(K:W.Frag)(mg:Str->Option Value)(base:Heap)(k n:Nat)(m:Str)(tab:List (Str×(List D->Res D))):Prop:=∀c f,tab.lookup c=some f->∀C,mg c=some (.ref C) ->
 Cls K C/\∃g b a,Meth K C m g/\FnOk P w K mg base (CXR P w) k g b a (spD K mg a.length f)/\Binds K b a []/\a.length=n+1
def ZcJ.nil:ZcJ P w K mg base k n m []:=λ_ _ e=>by cases e
def ZcJ.cons{P:Program}{w:World}{K:W.Frag}{mg:Str->Option Value}{base:Heap}{k n:Nat}{m c:Str}{f:List D->Res D}{tab:List (Str×(List D->Res D))}(h:∀C,mg c=some (.ref C)->Cls K C/\∃g fd ps,Meth K C m g/\FnOk P w K mg base (CXR P w) k g fd ps (spD K mg ps.length f)/\Binds K fd ps []/\ps.length=n+1)(r:ZcJ P w K mg base k n m tab):ZcJ P w K mg base k n m ((c,f)::tab):=by
 intro b a e;rw [Vbm] at e;split at e
 .next q=>
  cases e;rw [eq_of_beq q];exact h
 .exact r b a e
def Zio:∀{fs:List (Str×V)},¬(fs.map (·.1)).contains m=true->fs.lookup m=none
 | [],_=>rfl
 | (n,x)::r,h=>by
  rw [VaN,List.contains_cons] at h;rw [Vbm];cases z:m==n with
  | true=>exact aB (by rw [show (m==(n,x).fst)=true from z];rfl) h
  | false=>exact Zio λq=>h (by rw [q,Bool.or_true])
section
variable {m:Str} {tab:List (Str×(List D->Res D))} {ta:TE} {mo:ME} {t:TA} {ma:MA}
def Zmk(T:ZcJ P w K mg base k n m tab)(ho:SE K mg E ta mo)(ha:SA K mg E t ma)(hl:SAn n ma):SE K mg E (ZiF P w K mg base k m E ta t) (meth tab m mo ma):=by
 intro j p F H Y Z v;refine (ho j p F H Y Z v).bind λl y x d B A=>?_;cases d with
 | ins c ns vs=>
  show Ans mg E (Rp K mg) l y (if ns.contains m=true then .bad else match tab.lookup c with
   | some f=>(ma Z).bind λb=>f (.ins c ns vs::b)
   | none=>.bad) _
  by_cases hc:ns.contains m=true
  .rw [iP hc];trivial
  rw [iN hc];cases e:tab.lookup c with
  | none=>trivial
  | some f=>
   have i:=A;cases A with
   | @ins _ C a dx fs xs _ hm h o q r=>
    obtain ⟨L,g,M,D,O,N,G,J⟩:=T c f e C hm;refine Ans.imp ((ha j p l y Y Z (v.gr B)).bindE λb I V U S u R=>?_) λQ z=>⟨a,C,dx,fs,g,M,D,spD K mg D.length f,rfl,B.s _ _ h,Zio hc,L,O,N,G,z⟩;exact ZhC u.s (.cons (i.same u.f) R) (by rw [VaM,hl Z b I,J])
 | _=>trivial
end
section
variable {l:Nat} {m:Str} {o:Expr} {ta:TE} {mo:ME} {t:TA} {ma:MA} {apos:Pos} {pl:Sem Bool} {tab:List (Str×(List D->Res D))}
def ZtE(T:ZcJ X.prog X.w X.K X.mg X.base k n m tab)(hr:Room l X.A)(hn:k<=l)(hx:ZcD (CXR X.prog X.w) X E)(ho:DE X E o ta mo)(ha:DA X E n (e::es) t ma)(hst:starEach (e::es) X.env=(false,eval e X.env)::starEach es X.env:=by rfl)(hpl:(backTo pos (starEach es X.env)).any (·.1)=false:=by rfl) (ht:eval (.Call (.Attribute o m apos) (e::es) [] pos) X.env=(do
   let ov <-eval o X.env
   standAt apos.atName
   let (f,first) <-holding [ov] (getMethod ov m pl)
   callWith pos f first (backTo pos (starEach (e::es) X.env)) (backToKw pos (keywordEach [] X.env))):=by rfl) :
  DE X E (.Call (.Attribute o m apos) (e::es) [] pos) (ZiF X.prog X.w X.K X.mg X.base k m E ta t) (meth tab m mo ma):=⟨Zoa ho.p (hr.mono hn) hx ha.p hst hpl ht,Zmk T ho.s ha.s ha.n⟩
def Zi4(T:ZcJ X.prog X.w X.K X.mg X.base k 0 m tab)(hr:Room l X.A)(hn:k<=l)(hx:ZcD (CXR X.prog X.w) X E)(ho:DE X E o ta mo) (ht:eval (.Call (.Attribute o m apos) [] [] pos) X.env=(do
   let ov <-eval o X.env
   standAt apos.atName
   let (f,first) <-holding [ov] (getMethod ov m pl)
   callWith pos f first (backTo pos (starEach [] X.env)) (backToKw pos (keywordEach [] X.env))):=by rfl) :
  DE X E (.Call (.Attribute o m apos) [] [] pos) (ZiF X.prog X.w X.K X.mg X.base k m E ta tNil) (meth tab m mo yaa):=⟨ZmM ho.p (hr.mono hn) hx ht,Zmk T ho.s ZpQ ZmF⟩
end
def ZeD.nil:ZeD K mg [] f:=λ_ h=>by cases h
def ZeD.cons{K:W.Frag}{mg:Str->Option Value}{c f:Str}{cs:List Str}(h:∀C,mg c=some (.ref C)->Cls K C/\ZeC K C f)(r:ZeD K mg cs f):ZeD K mg (c::cs) f:=λb a=>by
 rw [List.contains_cons] at a;cases z:b==c with
 | true=>rw [eq_of_beq z];exact h
 | false=>
  rw [z,Bool.false_or] at a;exact r b a
structure FR(K:W.Frag)(mg:Str->Option Value)(F:Hp)(fs:List (Str×V))(fl:Fs):Prop where
 nm:fs.map (·.1)=fl.map (·.1)
 rv:Rps K mg F (fs.map (·.2)) (fl.map (·.2))
def FR.same{F:Hp}(h:FR K mg F fs fl)(s:Same F F'):FR K mg F' fs fl:=⟨h.nm,h.rv.same s⟩
def FR.len{F:Hp}(h:FR K mg F fs fl):fs.length=fl.length:=by
 have:=Vaw List.length h.nm;rwa [VaO,VaO] at this
def ZjS:∀{fs:List (Str×V)},¬(fs.map (·.1)).contains f=true->putF f y fs=fs++[(f,y)]
 | [],_=>rfl
 | (g,x)::r,h=>by
  rw [VaN,List.contains_cons] at h;have a:g≠f:=by
   rintro rfl;exact h (by rw [show ((g,x).fst==g)=true from beq_self_eq_true g];rfl)
  show (if g=f then (g,y)::r else (g,x)::putF f y r)=_
  rw [iN a,ZjS λq=>h (by rw [q,Bool.or_true])];rfl
def FR.put{F:Hp}(h:FR K mg F fs fl)(hn:¬(fl.map (·.1)).contains f=true)(ry:Rp K mg F y d):FR K mg F (putF f y fs) (fl++[(f,d)]):=by
 rw [ZjS (by rw [h.nm];exact hn)];refine ⟨by rw [VbX,VbX,h.nm];rfl,?_⟩;rw [VbX,VbX];exact Rps.app (.cons ry .nil) h.rv
def spI(K:W.Frag)(mg:Str->Option Value)(n:Nat)(cs:List Str)(m:List D->Fs->Res Fs):Sp:=λo H Q E=>o.length=n+1/\∃x i C c j l F h g,
 o=.ref x::j/\cs.contains c=true/\mg c=some (.ref C)/\H x=some (.ins C i l)/\F x=none/\Same F H/\Rps K mg F j h/\FR K mg F l g/\m h g≠.bad /\
 (∀f,m h g=.ok f->∀d b a,Gr F (del H x) d b->d x=none->b x=some (.ins C i a)->FR K mg d a f->Q .non b) /\
 (∀e,m h g=.ex e->∀d b a k,Gr F (del H x) d b->d x=none->b x=some (.ins C i a)->mg (clsOf e)=some (.ref k)->E (.ref k) (pay e) b)
structure RepI(K:W.Frag)(mg:Str->Option Value)(x dx C:Addr)(F0 H0 F H:Hp)(Y:St)(Z:Ev)(fs:List (Str×V))(fl:Fs):Prop where
 rep:Rep K mg F0 H0 F H Y Z
 h0:H0 x=none
 self:Y[0]?=some (some (.ref x))
 fx:F x=none
 hx:H x=some (.ins C dx fs)
 fr:FR K mg F fs fl
section
variable {x dx C:Addr} {F:Hp} {fs fs':List (Str×V)} {fl fl':Fs}
def RepI.gr(r:RepI K mg x dx C F0 H0 F H Y Z fs fl)(g:Gr F H F' H'):RepI K mg x dx C F0 H0 F' H' Y Z fs fl:=by
 obtain ⟨b,a⟩:=g.o x _ r.fx r.hx;exact ⟨r.rep.gr g,r.h0,r.self,b,a,r.fr.same g.f⟩
def RepI.go(r:RepI K mg x dx C F0 H0 F H Y Z fs fl)(g:Gr F (del H x) F' H')(fx:F' x=none)(hx:H' x=some (.ins C dx fs'))(fr:FR K mg F' fs' fl'):RepI K mg x dx C F0 H0 F' H' Y Z fs' fl':=by
 refine ⟨⟨⟨r.rep.g.f.trans g.f,g.s,λa o c b=>?_,λa o u e=>r.rep.g.z a o u (g.z a o u e)⟩,r.rep.len,λi d e=>?_,λi n e=>?_,r.rep.ne⟩,r.h0,r.self,fx,hx,fr⟩
 .obtain ⟨k,j⟩:=r.rep.g.o a o c b;exact g.o a o k (by rw [Zd5 (Zac b r.h0)];exact j)
 .obtain ⟨y,c,b⟩:=r.rep.im i d e;exact ⟨y,c,b.same g.f⟩
 .obtain ⟨a,p,c,b,q,h,m⟩:=r.rep.ow i n e;have l:a≠x:=by
   rintro rfl;rw [r.hx] at h;cases h
  obtain ⟨k,j⟩:=g.o a _ q (by rw [Zd5 l];exact h);exact ⟨a,p,c,b,k,j,m.same g.f⟩
def RepI.set(r:RepI K mg x dx C F0 H0 F H Y Z fs fl)(hn:¬(fl.map (·.1)).contains f=true)(ry:Rp K mg F y d):RepI K mg x dx C F0 H0 F (upd H x (.ins C dx (putF f y fs))) Y Z (putF f y fs) (fl++[(f,d)]):=by
 refine r.go ⟨Same.refl _,λa o e=>?_,λa o h b=>⟨h,?_⟩,λ_ _ _ e=>e⟩ r.fx Zae (r.fr.put hn ry)
 .rw [Zad (Zac e r.fx)];exact r.rep.g.s a o e
 .have c:a≠x:=by
   rintro rfl;rw [Zgp] at b;cases b
  rw [Zd5 c] at b;rw [Zad c];exact b
end
def AnsI(K:W.Frag)(mg:Str->Option Value)(E:XK)(x dx C:Addr)(F0 H0:Hp)(r:Res Fs)(w:Ends->Prop):Prop :=
 match r with
 | .ok fl=>∀D,(∀b a f d,Gr F0 H0 b a->b x=none->a x=some (.ins C dx d)->FR K mg b d fl->D.nx f a)->w D
 | .ex c=>∀D,(∀b a d e,Gr F0 H0 b a->b x=none->a x=some (.ins C dx d)->mg (clsOf c)=some (.ref e)->E (.ref e) (pay c) a)->w D
 | .bad=>True
def SSi(K:W.Frag)(mg:Str->Option Value)(E:XK)(cs:List Str)(t:TS)(m:MSi):Prop:=∀x a C c b e F H Y Z f d,cs.contains c=true->mg c=some (.ref C)->RepI K mg x a C b e F H Y Z f d->AnsI K mg E x a C b e (m Z d) (λD=>t D Y H)
structure DSi(X:Cx)(E:XK)(cs:List Str)(sts:List Stmt)(t:TS)(m:MSi):Prop where
 p:PSs X sts t
 s:SSi X.K X.mg E cs t m
section
variable {x dx C:Addr} {F:Hp} {α β:Type} {R:Hp->β->α->Prop} {fs:List (Str×V)} {fl:Fs}
def ZfP{r:Res α}{w:(β->Hp->Prop)->Prop}{k:α->Res Fs}{w':β->Hp->Ends->Prop}(rr:RepI K mg x dx C F0 H0 F H Y Z fs fl)(h1:Ans mg E R F H r w)(h2:∀a,r=.ok a->∀F1 H1 b,Gr F H F1 H1->R F1 b a->AnsI K mg E x dx C F0 H0 (k a) (w' b H1)) :
  AnsI K mg E x dx C F0 H0 (r.bind k) (λD=>w λb H1=>w' b H1 D):=by
 cases r with
 | ok a=>
  show AnsI K mg E x dx C F0 H0 (k a) _;have e:=h2 a rfl;generalize k a=r2 at e;cases r2 with
  | ok d=>exact λD q=>h1 _ λF1 H1 b g f=>e F1 H1 b g f D q
  | ex c=>exact λD q=>h1 _ λF1 H1 b g f=>e F1 H1 b g f D q
  | bad=>trivial
 | ex c=>exact λD q=>h1 _ λF1 H1 i g h=>let r2:=rr.gr g;q F1 H1 fs i r2.rep.g r2.fx r2.hx h
 | bad=>trivial
end
section
variable {cs cs':List Str} {rest:List Stmt} {u:TS} {k:MSi} {o:Expr} {t:TA} {ma:MA} {apos p p':Pos} {f y m:Str} {l:Nat}
def Zh9:DSi X E cs [] Zlk iEnd:=⟨Zjq,λx b C c d f F H Y Z a e _ _ r=>λD q=>q F H Y a r.rep.g r.fx r.hx r.fr⟩
def Zfp(he:DE X E e te me)(h:DSi X E cs rest u k)(hs:swapsWith e none spos.line X.env=pure false:=by rfl):DSi X E cs (.Expr e spos::rest) (tSeq (ZcU te) u) (iDrp me k):=by
 refine ⟨ZbK (Zdz he.p hs) h.p,?_⟩;intro x i C c d f F H Y Z j l m n r;exact ZfP r (he.s d f F H Y Z r.rep) λa _ o q b g _=>h.s x i C c d f o q Y Z j l m n (r.gr g)
def Zij(T:ZeD X.K X.mg cs f)(he:DE X E e te me)(h:DSi X E cs rest u k)(hN:X.N[0]?=some x:=by rfl)(hv:Vis X.env.scope x:=by first | exact Or.inl rfl | exact Or.inr (Or.inl rfl) | exact Or.inr (Or.inr rfl))(hd:ND x:=by decide)(hcd:NE x:=by decide)(hs:swapsWith e (some (.Attribute (.Name x p) f p')) spos.line X.env=pure false:=by rfl) :
  DSi X E cs (.Assign [.Attribute (.Name x p) f p'] e spos::rest) (tSeq (sFld X.K (tVar 0) te f) u) (iSet f me k):=by
 refine ⟨ZbK (Zt8 (Zdp hN hv hd hcd) he.p hs) h.p,?_⟩;intro x i C c n v F H Y Z j b o t r;refine ZfP r (he.s n v F H Y Z r.rep) λd _ A I y g B=>?_;have a:=r.gr g;by_cases hb:(b.map (·.1)).contains f=true\/100<=b.length
 .rw [iP hb];trivial
 rw [iN hb];obtain ⟨w,l⟩:=T c o C t;have G:=a.set (λz=>hb (.inl z)) B;have z:=h.s x i C c n v A _ Y Z _ _ o t G;have m:j.length<1000:=by have:=r.fr.len;have:¬100<=b.length:=λz=>hb (.inr z);omega
 generalize k Z (b++[(f,d)])=q0 at z;cases q0 with
 | ok fl'=>exact λD q=>⟨_,a.self,x,C,i,j,rfl,a.hx,w,l,m,z D q⟩
 | ex c=>exact λD q=>⟨_,a.self,x,C,i,j,rfl,a.hx,w,l,m,z D q⟩
 | bad=>trivial
end
structure ClsM(K:W.Frag)(C:Addr)(m:Str)(f:Addr):Prop where
 sg:W.specialIn K (.ref C) "__getattribute__"=some (some (.builtin "type.__getattribute__"))
 rd:∃mc,W.readsIn K C mc=true/\W.findCls K (.ref C) mc m=some (.val (.ref f))
 hh:W.handedIn (.ref f)=true
 kp:W.keepIn K (.ref f)=true
section
variable {y m:Str} {C f:Addr} {sp:Sp} {t:TA} {p apos:Pos} {pl:Sem Bool}
def Zr1(hg:Gl X y)(hy:X.mg y=some (.ref C))(c:ClsM X.K C m f)(F:FnOk X.prog X.w X.K X.mg X.base (CXR X.prog X.w) k f fd ps sp)(hr:Room k X.A)(hb:Binds X.K fd ps [])(hx:ZcD (CXR X.prog X.w) X E)(ha:PA X (e::es) t)(hd:ND y:=by decide)(hst:starEach (e::es) X.env=(false,eval e X.env)::starEach es X.env:=by rfl)(hpl:(backTo pos (starEach es X.env)).any (·.1)=false:=by rfl) (ht:eval (.Call (.Attribute (.Name y p) m apos) (e::es) [] pos) X.env=(do
   let ov <-eval (.Name y p) X.env
   standAt apos.atName
   let (f,first) <-holding [ov] (getMethod ov m pl)
   callWith pos f first (backTo pos (starEach (e::es) X.env)) (backToKw pos (keywordEach [] X.env))):=by rfl) :
  PE X (.Call (.Attribute (.Name y p) m apos) (e::es) [] pos) (ZiA sp [] E t):=by
 intro a s Y H Q I h;refine W.methodCall_KW (thn (Zgm (v:=.ref C) hg hy rfl hd a s Y H (λv b=>v=.ref C/\b=H) I ⟨rfl,rfl⟩) λu s1 zq=>?_) ht;obtain ⟨x,b,I1,rx,ex,eh⟩:=zq;subst ex eh;obtain rfl:u=Value.ref C:=rx;obtain ⟨o,i,g⟩:=c.rd;refine W.method_cls I1.kIn c.sg (W.cls_value I1.kIn i g c.hh ?_);have j:=I1.tok (s1.toks+1);refine W.callWith_K I.ok.mod.kin c.kp (thn (ha pos a _ Y b _ j h) λq z zq=>?_) hst hpl;obtain ⟨B,n,d,r,l⟩:=zq;refine ⟨d.kIn,?_⟩;exact Zkx F hr hb .nil hx d r l
end
structure CalS(P:Program)(w:World)(K:W.Frag)(mg:Str->Option Value)(base:Heap)(k:Nat)(y m:Str)(n:Nat)(cs:List Str)(g:List D->Fs->Res Fs):Prop where
 ex:∃(C f:Addr) (fd:FuncData) (ps:List Str),mg y=some (.ref C)/\ClsM K C m f/\FnOk P w K mg base (CXR P w) k f fd ps (spI K mg n cs g)/\Binds K fd ps []
section
variable {cs cs':List Str} {rest:List Stmt} {u:TS} {k:MSi} {t:TA} {ma:MA} {apos p p':Pos} {y m:Str} {l:Nat} {g:List D->Fs->Res Fs} {pl:Sem Bool}
def Zkr(S:CalS X.prog X.w X.K X.mg X.base j y m n cs' g)(hr:Room l X.A)(hn:j<=l)(hg:Gl X y)(hx:ZcD (CXR X.prog X.w) X E)(hcs:∀c,cs.contains c=true->cs'.contains c=true)(ha:DA X E n es t ma)(h:DSi X E cs rest u k)(hN:X.N[0]?=some x:=by rfl)(hv:Vis X.env.scope x:=by first | exact Or.inl rfl | exact Or.inr (Or.inl rfl) | exact Or.inr (Or.inr rfl))(hd:ND x:=by decide)(hcd:NE x:=by decide)(hdy:ND y:=by decide)(hst:starEach (.Name x p'::es) X.env=(false,eval (.Name x p') X.env)::starEach es X.env:=by rfl)(hpl:(backTo pos (starEach es X.env)).any (·.1)=false:=by rfl) (ht:eval (.Call (.Attribute (.Name y p) m apos) (.Name x p'::es) [] pos) X.env=(do
   let ov <-eval (.Name y p) X.env
   standAt apos.atName
   let (f,first) <-holding [ov] (getMethod ov m pl)
   callWith pos f first (backTo pos (starEach (.Name x p'::es) X.env)) (backToKw pos (keywordEach [] X.env))):=by rfl) (hs:swapsWith (.Call (.Attribute (.Name y p) m apos) (.Name x p'::es) [] pos) none spos.line X.env=pure false:=by rfl) :
  DSi X E cs (.Expr (.Call (.Attribute (.Name y p) m apos) (.Name x p'::es) [] pos) spos::rest) (tSeq (ZcU (ZiA (spI X.K X.mg n cs' g) [] E (Zbq (tVar 0) t))) u) (iSup g ma k):=by
 obtain ⟨C0,f,fd,ps,hy,cm,F,hb⟩:=S.ex;refine ⟨ZbK (Zdz (Zr1 hg hy cm F (hr.mono hn) hb hx (Zbo (Zdp hN hv hd hcd) ha.p hst) hdy hst hpl ht) hs) h.p,?_⟩;intro x J C c U V F H Y Z fs B W hm r;have A:=ha.s U V F H Y Z r.rep;have L:=ha.n Z;show AnsI X.K X.mg E x J C U V ((ma Z).bind λd=>(g d B).bind λfl'=>k Z fl') (λD=>∃v,Y[0]?=some (some v)/\t Y H λP H1=>spI X.K X.mg n cs' g (v::P++[]) H1 (λ_ H2=>u D Y H2) E);have M:AnsI X.K X.mg E x J C U V ((ma Z).bind λd=>(g d B).bind λfl'=>k Z fl') (λD=>t Y H λP H1=>spI X.K X.mg n cs' g (.ref x::P) H1 (λ_ H2=>u D Y H2) E):=by
  refine ZfP r A λd eds F1 H1 P g1 rs=>?_;have b:=r.gr g1;have hl:=rs.length.trans (L d eds);cases eg:g d B with
  | bad=>trivial
  | ex ec=>
   intro D q;refine ⟨by rw [VaM,hl],x,J,C,c,P,fs,F1,d,B,rfl,hcs c W,hm,b.hx,b.fx,b.rep.g.s,rs,b.fr,(by rw [eg];intro z;cases z),(λfl' e=>by rw [eg] at e;cases e),λe' G Q O fs' Ce i I hx hce=>?_⟩;rw [eg] at G;cases G;have r2:=b.go (fl':=B) (fs':=fs) i I;refine q Q O fs' Ce ?_ I hx hce;refine ⟨b.rep.g.f.trans i.f,i.s,λa o h1 h2=>?_,λa o u e=>b.rep.g.z a o u (i.z a o u e)⟩;obtain ⟨q1,q2⟩:=b.rep.g.o a o h1 h2;exact i.o a o q1 (by rw [Zd5 (Zac h2 r.h0)];exact q2)
  | ok fl'=>
   show AnsI X.K X.mg E x J C U V (k Z fl') _;have nx:=λQ O fs' i I hx T=>h.s x J C c U V Q O Y Z fs' fl' W hm (b.go i I hx T);generalize k Z fl'=q0 at nx;cases q0 with
   | bad=>trivial
   | ok fl2=>
    intro D q;refine ⟨by rw [VaM,hl],x,J,C,c,P,fs,F1,d,B,rfl,hcs c W,hm,b.hx,b.fx,b.rep.g.s,rs,b.fr,(by rw [eg];intro z;cases z),(λR e Q O fs' i I hx T=>?_),λe' G=>by rw [eg] at G;cases G⟩;rw [eg] at e;cases e;exact nx Q O fs' i I hx T D q
   | ex c2=>
    intro D q;refine ⟨by rw [VaM,hl],x,J,C,c,P,fs,F1,d,B,rfl,hcs c W,hm,b.hx,b.fx,b.rep.g.s,rs,b.fr,(by rw [eg];intro z;cases z),(λR e Q O fs' i I hx T=>?_),λe' G=>by rw [eg] at G;cases G⟩;rw [eg] at e;cases e;exact nx Q O fs' i I hx T D q
 generalize ((ma Z).bind λd=>(g d B).bind λfl'=>k Z fl')=q0 at M;cases q0 with
 | bad=>trivial
 | ok fl'=>exact λD q=>⟨.ref x,r.self,by simpa using M D q⟩
 | ex c'=>exact λD q=>⟨.ref x,r.self,by simpa using M D q⟩
end
section
variable {qual:Str} {f:Addr} {cs:List Str}
def ZkU{F:Hp}(s:Same F H)(fa:F a=none)(r:Rps K mg F vs ds)(hN:1<=N.length):Rep K mg F (del H a) F H (start N (z::vs)) (.no::ev0 (N.length - 1) ds):=by
 have n:=r.length;have m:∀(i:Nat) (c:Cl),(ev0 (N.length - 1) ds)[i]?=some c->c=.no\/∃d,ds[i]?=some d/\c=.im d:=by
  intro i c e;rw [ZiN] at e;by_cases g:i<ds.length
  .rw [Va2 (by simpa using g),Va3,VbF g] at e;exact .inr ⟨ds[i],VbF g,(Vaa e).symm⟩
  .rw [Va0 (by simpa using g),Va1] at e;split at e
   .exact .inl (Vaa e).symm
   .cases e
 have f:∀(i:Nat) (c:Cl),(Cl.no::ev0 (N.length - 1) ds)[i]?=some c->c=.no\/∃d j,i=j+1/\ds[j]?=some d/\c=.im d:=by
  intro i c e;cases i with
  | zero=>exact .inl (Vaa e).symm
  | succ j=>
   rcases m j c (by simpa using e) with q | ⟨d,e1,k⟩
   .exact .inl q
   .exact .inr ⟨d,j,rfl,e1,k⟩
 refine ⟨⟨Same.refl _,s,λb o t h=>⟨t,?_⟩,λ_ _ _ e=>e⟩,?_,λi d e=>?_,λi l e=>?_,λi j l u a e=>?_⟩
 .by_cases hb:b=a
  .subst hb;rw [Zgp] at h;cases h
  .rw [Zd5 hb] at h;exact h
 .rw [ZiN];unfold start;simp [n];omega
 .rcases f i _ e with q | ⟨d',j,rfl,e1,q⟩
  .cases q
  .cases q;obtain ⟨v,k,p⟩:=r.get e1;refine ⟨v,?_,p⟩;have g:=(Vat.mp k).1;unfold start;rw [VaN,List.cons_append,List.getElem?_cons_succ,Va2 (by simpa using g),Va3,k];rfl
 .rcases f i _ e with q | ⟨d',j,_,e1,q⟩<;>cases q
 .rcases f i _ e with q | ⟨d',j,_,e1,q⟩<;>cases q
def okI{st:Stmt}{mb:MSi}(F:Fun K x qual st f fd)(S:ZaE N ps (Zag st))(hN:1<=N.length)(hp:ps.length=n+1)(h:∀(cdv:Value) (A:Around) (outer:List Env) (s:Shared) (H:Hp) (E:XK),Room k (A.deeper (envOfC qual (Zag st) s.heap.objs.size f cdv))->∃t,DSi (cxOf (CXR P w) P w K mg base N qual (Zag st) f cdv A outer s H E) E cs (Zbd st) t mb) :
  FnOk P w K mg base (CXR P w) (k+1) f fd ps (spI K mg n cs (fnI N.length mb)):=by
 obtain ⟨oc,od,kV,J,pm,an,cdv,ct,X,rfl,O,j⟩:=F.ex;refine ZoO O j S (λvs H Q E q=>q.1.trans hp.symm) λA outer s H vs Q E W i=>?_;obtain ⟨t,B⟩:=h cdv A outer s H E W;refine ⟨t,B.p,?_⟩;obtain ⟨_,x,L,C,c,Y,fs,y,G,D,rfl,U,V,Z,I,R,rs,M,hb,l,r⟩:=i;have z:=B.s x L C c y (del H x) y H (start N (.ref x::Y)) (.no::ev0 (N.length - 1) G) fs D U V ⟨ZkU R I rs hN,Zgp,rfl,I,Z,M⟩;cases e:mb (.no::ev0 (N.length - 1) G) D with
 | ok fl'=>
  rw [e] at z;exact z _ λv u Y' a g b d m=>l fl' e v u a g b d m
 | ex c'=>
  rw [e] at z;exact z _ λv u a T g b d o=>r c' e v u a T g b d o
 | bad=>exact aB e hb
def okM{st:Stmt}{mb:MS}(F:Fun K x qual st f fd)(S:ZaE N ps (Zag st))(h:∀(cdv:Value) (A:Around) (outer:List Env) (s:Shared) (H:Hp) (E:XK),Room k (A.deeper (envOfC qual (Zag st) s.heap.objs.size f cdv))->∃t,DSs (cxOf (CXR P w) P w K mg base N qual (Zag st) f cdv A outer s H E) E (Zbd st) t mb) :
  FnOk P w K mg base (CXR P w) (k+1) f fd ps (spD K mg ps.length (fn N.length mb)):=by
 obtain ⟨U,T,Y,B,V,W,cdv,ct,M,rfl,D,n⟩:=F.ex;refine ZoO D n S (λy H Q E q=>q.1) λA outer s H y Q E L m=>?_;obtain ⟨t,r⟩:=h cdv A outer s H E L;refine ⟨t,r.p,?_⟩;obtain ⟨_,o,u,R,O,i,a,b⟩:=m;have z:=r.s o H o H (start N y) (ev0 N.length u) (ZfL R O);unfold fn at i a b;cases e:mb (ev0 N.length u) with
 | ok fl=>
  rw [e] at z i a b;cases fl with
  | nx Z=>exact z _ λl j X _ G=>a .non rfl l j .non G.g .non
  | rt d=>exact z _ λl j v g J=>a d rfl l j v g J
  | bk Z=>exact aB rfl i
  | ct Z=>exact aB rfl i
 | ex c=>
  rw [e] at z b;exact z _ λl j C g I=>b c rfl l j C g I
 | bad=>rw [e] at i;exact aB rfl i
end
structure CalI(P:Program)(w:World)(K:W.Frag)(mg:Str->Option Value)(base:Heap)(k:Nat)(c:Str)(n:Nat)(cs:List Str)(g:List D->Fs->Res Fs):Prop where
 ex:∃(C f:Addr) (fd:FuncData) (ps:List Str),mg c=some (.ref C)/\Mk K C f/\FnOk P w K mg base (CXR P w) k f fd ps (spI K mg n cs g)/\Binds K fd ps []/\cs.contains c=true
def Zpu(K:W.Frag)(mg:Str->Option Value)(c:Str)(n:Nat)(cs:List Str)(g:List D->Fs->Res Fs)(E:XK)(t:TA):TE:=λY H Q=>∃C,mg c=some (.ref C)/\Zto C (spI K mg n cs g) [] E t Y H Q
section
variable {c:Str} {cs:List Str} {g:List D->Fs->Res Fs} {t:TA} {ma:MA}
def ZrR(hm:mg c=some (.ref C))(hc:cs.contains c=true)(ha:SA K mg E t ma)(hl:SAn n ma):SE K mg E (Zpu K mg c n cs g E t) (make c g ma):=by
 intro F0 H0 F H Y Z rr;refine Ans.imp ?_ λQ q=>⟨C,hm,q⟩;refine (ha F0 H0 F H Y Z rr).bindE λD G w v vs R N=>?_;have A:=N.length.trans (hl Z D G);have l:∀x b,v x=none->v b=none->b≠x->w x=none/\w b=none/\Same w (upd (upd v b (.own x)) x (.ins C b []))/\del (upd (upd v b (.own x)) x (.ins C b [])) x=upd v b (.own x):=by
  intro x b m i d;refine ⟨R.s.free m,R.s.free i,λa o e=>?_,?_⟩
  .have z:=R.s a o e;rw [Zad (Zac z m),Zad (Zac z i)];exact z
  .funext a;by_cases h:a=x
   .subst h;rw [Zgp,Zad (Ne.symm d)];exact m.symm
   .rw [Zd5 h,Zad h]
 cases eg:g D [] with
 | bad=>trivial
 | ex ec=>
  intro Q q x b m i d;obtain ⟨P,X,J,T⟩:=l x b m i d;refine ⟨by simp [A],x,b,C,c,vs,[],w,D,[],by simp,hc,hm,Zae,P,J,N,⟨rfl,.nil⟩,(by rw [eg];intro z;cases z),(λI e=>by rw [eg] at e;cases e),λe' B p O k Ce j S y M=>?_⟩;rw [eg] at B;cases B;rw [T] at j;refine q p O Ce ⟨j.f,j.s,λa o L r=>?_,j.z⟩ M;exact j.o a o L (by rw [Zad (Zac r i)];exact r)
 | ok fl=>
  intro Q q x b m i d;obtain ⟨P,X,J,T⟩:=l x b m i d;refine ⟨by simp [A],x,b,C,c,vs,[],w,D,[],by simp,hc,hm,Zae,P,J,N,⟨rfl,.nil⟩,(by rw [eg];intro z;cases z),(λI e p O k j S y U=>?_),λe' B=>by rw [eg] at B;cases B⟩;rw [eg] at e;cases e;rw [T] at j;obtain ⟨W,d2⟩:=j.o b _ X Zae;refine ⟨rfl,q (upd (upd p b (.own x)) x (.ins C b k)) O (.ref x) ⟨?_,?_,λa o L r=>?_,λa o u e=>j.z a o u (ZfY (λ_ _ z=>by cases z) (ZfY (λ_ _ z=>by cases z) e))⟩ ?_⟩
  .refine (j.f.trans (ZaM W _)).trans (ZaM ?_ _);rw [Zad (Ne.symm d)];exact S
  .intro a o e;by_cases ha:a=x
   .subst ha;rw [Zae] at e;cases e;exact y
   .rw [Zad ha] at e;by_cases hb:a=b
    .subst hb;rw [Zae] at e;cases e;exact d2
    .rw [Zad hb] at e;exact j.s a o e
  .have n1:a≠x:=Zac r m;have V:=Zac r i;obtain ⟨q1,q2⟩:=j.o a o L (by rw [Zad V];exact r);rw [Zad n1,Zad V];exact ⟨q1,q2⟩
  .have sF:Same p (upd (upd p b (.own x)) x (.ins C b k)):=(ZaM W _).trans (ZaM (by rw [Zad (Ne.symm d)];exact S) _);have z:Rp K mg (upd (upd p b (.own x)) x (.ins C b k)) (.ref x) (.ins c (k.map (·.1)) (fl.map (·.2))):=.ins hm Zae (by rw [Zad d,Zae]) rfl (U.rv.same sF);rw [U.nm] at z;exact z
end
section
variable {l:Nat} {c:Str} {cs:List Str} {g:List D->Fs->Res Fs} {t:TA} {ma:MA} {p:Pos}
def Zfk(M:CalI X.prog X.w X.K X.mg X.base k c n cs g)(hr:Room l X.A)(hn:k+1<=l)(hg:Gl X c)(hx:ZcD (CXR X.prog X.w) X E)(ha:DA X E n (e::es) t ma)(hdb:ND c:=by decide)(he:starEach (e::es) X.env=(false,eval e X.env)::starEach es X.env:=by rfl)(hpl:(backTo pos (starEach es X.env)).any (·.1)=false:=by rfl) :
  DE X E (.Call (.Name c p) (e::es) [] pos) (Zpu X.K X.mg c n cs g E t) (make c g ma):=by
 obtain ⟨C,f,r,q,b,j,F,i,m⟩:=M.ex;refine ⟨?_,ZrR b m ha.s ha.n⟩;intro a s Y H Q I ⟨o,d,h⟩;rw [b] at d;cases d;exact Zr6 j F (hr.mono hn) hg b i .nil hx ha.p hdb he hpl a s Y H Q I h
end
end L2.Ds
namespace Dl
def insO(i:Nat)(k e:ME):MS:=λZ=>(getO Z[i]?).bind λa=>(k Z).bind λu=>match u with
 | .int j=>(e Z).bind λd=>if (0<=j/\j<=a.length)/\a.length<LIM then .ok (.nx (Z.set i (.ow (a.take j.toNat++d::a.drop j.toNat)))) else .bad
 | _=>.bad
end Dl
namespace L2
def Zjs:V->List V->Hp->VK->Prop:=λx b H Q=>∃l a j y,x=.ref l/\b=[.int j,y]/\H l=some (.lst a)/\(0<=j/\j<=a.length)/\a.length<sizeLine/\Q .non (upd H l (.lst (a.take j.toNat++y::a.drop j.toNat)))
def Vals.takeN:∀{xs:List V} {us:List Value} (n:Nat),Vals xs us->Vals (xs.take n) (us.take n)
 | _,_,0,_=>.nil
 | _,_,_+1,.nil=>.nil
 | _,_,n+1,.cons h r=>.cons h (Vals.takeN n r)
def Vals.dropN:∀{xs:List V} {us:List Value} (n:Nat),Vals xs us->Vals (xs.drop n) (us.drop n)
 | _,_,0,r=>r
 | _,_,_+1,.nil=>.nil
 | _,_,n+1,.cons _ r=>Vals.dropN n r
def Znp:MtR X "list.insert" Zjs:=by
 intro c s Y H x B v m Q I i b h;obtain ⟨l,p,j,y,rfl,rfl,d,o,w,q⟩:=h;cases i;cases b with
 | @cons _ u0 _ us0 r1 b=>
  have b:Vals [y] us0:=b;obtain ⟨u,rfl,f⟩:=b.one;obtain ⟨t,rfl⟩:=r1;obtain ⟨z,a,n,r,k,e⟩:=I.lstM d;have A:sizeLine<2^63:=by decide
  refine call_meets F.slot_list_insert ⟨_,e,rfl⟩ F.entry_list_insert (F.args_list_insert_3 _ _ _) (PySem.AutoSeq1.list_insert_list_int_val_1 l a.toArray n j t u (by rw [fitsIndex_both (by omega) (by omega)];exact VaC) (by rw [VaK];omega)) ⟨e,?_⟩;refine ⟨.non,_,I.lset (its':=a.take j.toNat++u::a.drop j.toNat) d e ?_ ((r.takeN j.toNat).append (.cons f (r.dropN j.toNat))) ?_,rfl,q⟩
  .have g:(if j<0 then (j+(a.toArray.size:Int)).toNat else min j.toNat a.toArray.size)=j.toNat:=by
    rw [iN (by omega),VaK];omega
   show (a.toArray.extract 0 (if j<0 then (j+(a.toArray.size:Int)).toNat else min j.toNat a.toArray.size)).push u++a.toArray.extract (if j<0 then (j+(a.toArray.size:Int)).toNat else min j.toNat a.toArray.size)=_
   rw [g];apply Array.toList_inj.mp;simp
   try rw [Vbv (by simp)]
  .rw [Va5,VaM,VaY,Vba];omega
end L2
namespace L2.Ds
open Dl
section
variable {tk:TE} {mk:ME}
def ZuR(hk:SE K mg E tk mk)(ha:SE K mg E te me):SS K mg E (ZcU (tBM K "list" Zjs (tVar i) (Zbq tk (Zbq te tNil)))) (insO i mk me):=by
 intro t w F H Y Z s;unfold insO getO;split
 .next b e=>
  obtain ⟨a,B,N,T,U,M,J⟩:=s.ow i b e;have L:B.length=b.length:=J.length;have G:tyV K "list" (.ref a) H:=.inl ⟨rfl,B,SqL.of M⟩
  have h:=(hk t w F H Y Z s).stm (K:=K) (k:=λu=>match u with
   | .int j=>(me Z).bind λd=>if (0<=j/\j<=b.length)/\b.length<LIM then .ok (.nx (Z.set i (.ow (b.take j.toNat++d::b.drop j.toNat)))) else .bad
   | _=>.bad) (w':=λx n D=>te Y n λy m=>Zjs (.ref a) [x,y] m λ_ r=>D.nx Y r) s.g λu _ Q n x v V=>?_
  .show AnsS K mg E t w F ((mk Z).bind λu=>match u with
    | .int j=>(me Z).bind λd=>if (0<=j/\j<=b.length)/\b.length<LIM then .ok (.nx (Z.set i (.ow (b.take j.toNat++d::b.drop j.toNat)))) else .bad
    | _=>.bad) _
   have l:∀D,(tk Y H λx n=>te Y n λy m=>Zjs (.ref a) [x,y] m λ_ r=>D.nx Y r)->ZcU (tBM K "list" Zjs (tVar i) (Zbq tk (Zbq te tNil))) D Y H:=λD z=>⟨.ref a,N,G,z⟩
   generalize ((mk Z).bind λu=>match u with
    | .int j=>(me Z).bind λd=>if (0<=j/\j<=b.length)/\b.length<LIM then Res.ok (Fl.nx (Z.set i (.ow (b.take j.toNat++d::b.drop j.toNat)))) else .bad
    | _=>.bad)=res at h
   cases res with
   | ok f=>
    cases f with
    | nx Z=>exact λD q=>l D (h D q)
    | bk Z=>exact λD q=>l D (h D q)
    | ct Z=>exact λD q=>l D (h D q)
    | rt d=>exact λD q=>l D (h D q)
   | ex c=>exact λD q=>l D (h D q)
   | bad=>trivial
  .cases u with
   | int j=>
    cases V;have C:=s.gr v;obtain ⟨W,P⟩:=v.o a _ U M;refine (ha t w Q n Y Z C).stm (w':=λy m D=>Zjs (.ref a) [.int j,y] m λ_ r=>D.nx Y r) C.g λd _ O m y A R=>?_;have S:=C.gr A;obtain ⟨X,I⟩:=A.o a _ W P;have p:=(J.same v.f).same A.f;by_cases hc:(0<=j/\j<=b.length)/\b.length<LIM
    .rw [iP hc];exact λD q=>⟨a,B,j,y,rfl,rfl,I,by rw [L];exact hc.1,by rw [L];exact Vaf hc.2 (by decide),q O _ Y (Same.refl _) (S.put e N I T X (Rps.app (.cons R (p.drop j.toNat)) (p.take j.toNat)))⟩
    .rw [iN hc];trivial
   | _=>trivial
 .trivial
end
section
variable {k':Expr} {tk:TE} {mk:ME} {np apos:Pos}
def Zt3(i)(hk:DE X E k' tk mk)(he:DE X E e te me)(hN:X.N[i]?=some x:=by rfl)(hv:Vis X.env.scope x:=by first | exact Or.inl rfl | exact Or.inr (Or.inl rfl) | exact Or.inr (Or.inr rfl))(hd:ND x:=by decide)(hcd:NE x:=by decide)(hbase:attributeBase (.Name x np) "insert" X.env (eval (.Name x np) X.env)=eval (.Name x np) X.env:=by rfl) (hfew:((backTo cpos (starEach [k',e] X.env)).all (λx=>!x.1)&&(backToKw cpos (keywordEach [] X.env)).all (λx=>x.1.isSome)
   && decide ([k',e].length+([]:List Keyword).length+(if ([]:List Keyword).isEmpty then 0 else 1)<30))=true:=by rfl) (hline:(apos.endLine==cpos.line)=true:=by rfl) (hs:starEach [k',e] X.env=(false,eval k' X.env)::starEach [e] X.env:=by rfl) (hs2:starEach [e] X.env=(false,eval e X.env)::starEach [] X.env:=by rfl) (hplain:(backTo cpos (starEach [e] X.env)).any (·.1)=false:=by rfl) (hsw:swapsWith (.Call (.Attribute (.Name x np) "insert" apos) [k',e] [] cpos) none spos.line X.env=pure false:=by rfl) :
  DS X E (.Expr (.Call (.Attribute (.Name x np) "insert" apos) [k',e] [] cpos) spos) (ZcU (tBM X.K "list" Zjs (tVar i) (Zbq tk (Zbq te tNil)))) (insO i mk me) :=
 ⟨Zdz (Zk4 VbL PySem.F.slot_list_insert PySem.F.type_list_insert Znp (Zdp hN hv hd hcd) (Zbo hk.p (Zbo he.p Zcv hs2) hs) hbase hfew hline hs hplain) hsw,ZuR hk.s he.s⟩
end
end L2.Ds
namespace L2.Ds
open Dl
section
variable {G Gb F:Hp} {x:V}
def Zqy(h:noEx r=.ok a):r=.ok a:=by
 cases r with
 | ok b=>exact h
 | ex c=>cases h
 | bad=>cases h
def Zqj{r:Res α}(h:r.bind f=.ok b):∃a,r=.ok a/\f a=.ok b:=by
 cases r with
 | ok a=>exact ⟨a,rfl,h⟩
 | ex c=>cases h
 | bad=>cases h
end
end L2.Ds
namespace L2
open PySem.W
def objX(a:Addr)(o:Obj):HO:=.ext λh=>h.get? a=some o
def ZrN{P:Program}{w:World}{H:Hp}{h:Heap}{a:Addr}{o:Obj}(e:h.get? a=some o):ZdD P w H h a (objX a o):=⟨e,⟨o,e⟩,λ_ _ x k=>k o x⟩
def ZnD{P:Program}{w:World}{H:Hp}{h:Heap}{a:Addr}{o:Obj}(x:HOk P w H h)(e:H a=some (objX a o)):h.get? a=some o:=(show _/\_ from x a _ e).1
end L2
namespace Dl
def firsts(kf:Nat->List Int):Nat->List (List Int)
 | 0=>[]
 | i+1=>if kf i∈firsts kf i then firsts kf i else firsts kf i++[kf i]
def intsOf:List D->Option (List Int)
 | []=>some []
 | .int n::r=>(intsOf r).map (n::·)
 | _::_=>none
def keysOf:List D->Option (List (List Int))
 | []=>some []
 | .tup ds::r=>(intsOf ds).bind λk=>(keysOf r).map (k::·)
 | _::_=>none
def Zju:D->Res D
 | .lst ds=>match keysOf ds with
  | some ks=>if ds.length<=16 then .ok (.int ((firsts (λi=>ks.getD i []) ds.length).length:Nat)) else .bad
  | none=>.bad
 | _=>.bad
end Dl
namespace L2.Sx
open PySem.SetTable
def adv(m:Nat)(p:Probe):Probe :=
 if p.more>0 then { p with j:=p.j+1,more:=p.more - 1 } else
 { p with j:=(leap m p.i p.perturb).1,more:=runEnd m (leap m p.i p.perturb).1 - (leap m p.i p.perturb).1,i:=(leap m p.i p.perturb).1,perturb:=(leap m p.i p.perturb).2 }
def ZgK(t:SetTable)(p:Probe):t.advance p=adv t.mask p:=rfl
def run(m i pt:Nat):Probe:={ j:=i,more:=runEnd m i - i,i,perturb:=pt,dummy:=none }
inductive Rch(m:Nat)(occ:Nat->Prop):Probe->Nat->Prop
 | here (p:Probe):Rch m occ p p.j
 | next {p:Probe} {j:Nat}:occ p.j->Rch m occ (adv m p) j->Rch m occ p j
def Rch.mono(h:∀j,occ j->occ' j)(r:Rch m occ p j):Rch m occ' p j:=by
 induction r with
 | here p=>exact .here p
 | next o _ ih=>exact .next (h _ o) ih
def Zei(m:Nat)(occ:Nat->Prop):Nat->Probe->Prop
 | 0,p=>¬occ p.j
 | n+1,p=>¬occ p.j\/Zei m occ n (adv m p)
def advs(m:Nat):Nat->Probe->Probe
 | 0,p=>p
 | n+1,p=>advs m n (adv m p)
def Zei.of:∀{n:Nat} {p:Probe},¬occ (advs m n p).j->Zei m occ n p
 | 0,_,h=>h
 | _+1,_,h=>.inr (Zei.of h)
def Zei.mono:∀{n n':Nat} {p:Probe},n<=n'->Zei m occ n p->Zei m occ n' p
 | 0,0,_,_,h=>h
 | 0,_+1,_,_,h=>.inl h
 | n+1,0,_,hl,_=>by omega
 | n+1,n'+1,_,hl,h=>h.elim .inl λh=>.inr (Zei.mono (by omega) h)
def ZfA(m):∀a b p,advs m (a+b) p=advs m b (advs m a p)
 | 0,b,p=>by rw [Nat.zero_add];rfl
 | a+1,b,p=>by rw [Nat.add_right_comm];exact ZfA m a b (adv m p)
def ZeX(m i pt):∀k,k<=runEnd m i - i->advs m k (run m i pt)={ j:=i+k,more:=runEnd m i - i - k,i,perturb:=pt,dummy:=none }
 | 0,_=>rfl
 | k+1,h=>by
  rw [ZfA m k 1,ZeX m i pt k (by omega)];show adv m _=_;unfold adv;rw [iP (show runEnd m i - i - k>0 by omega)];simp only [Probe.mk.injEq,and_true];omega
def Zkd(m i pt):advs m (runEnd m i - i+1) (run m i pt)=run m (leap m i pt).1 (leap m i pt).2:=by
 rw [ZfA m (runEnd m i - i) 1,ZeX m i pt _ (VaF _)];show adv m _=_;unfold adv;rw [iN (by simp)];rfl
def Zq9(m i):runEnd m i - i+1<=10:=by
 unfold runEnd;split<;>omega
def Zc6(m:Nat):Nat->Nat×Nat->Nat×Nat
 | 0,p=>p
 | n+1,p=>Zc6 m n (leap m p.1 p.2)
def ZhR(m):∀a b p,Zc6 m (a+b) p=Zc6 m b (Zc6 m a p)
 | 0,b,p=>by rw [Nat.zero_add];rfl
 | a+1,b,p=>by rw [Nat.add_right_comm];exact ZhR m a b _
def ZiR(m):∀n i pt,∃k,k<=10*n/\advs m k (run m i pt)=run m (Zc6 m n (i,pt)).1 (Zc6 m n (i,pt)).2
 | 0,i,pt=>⟨0,VaF _,rfl⟩
 | n+1,i,pt=>by
  obtain ⟨k,a,e⟩:=ZiR m n (leap m i pt).1 (leap m i pt).2;refine ⟨(runEnd m i - i+1)+k,?_,?_⟩
  .have:=Zq9 m i;omega
  .rw [ZfA,Zkd,e];rfl
def Zik(m):∀n i pt,(Zc6 m n (i,pt)).2=pt/32^n
 | 0,i,pt=>by rw [Nat.pow_zero,Nat.div_one];rfl
 | n+1,i,pt=>by
  show (Zc6 m n (leap m i pt)).2=_;have e:=Zik m n (leap m i pt).1 (leap m i pt).2;have z:Zc6 m n (leap m i pt)=Zc6 m n ((leap m i pt).1,(leap m i pt).2):=rfl;rw [z,e];show pt/32/32^n=pt/32^(n+1);rw [Nat.div_div_eq_div_mul,Nat.pow_succ,Nat.mul_comm]
def ZjI(m):∀n i pt,i<=m->(Zc6 m n (i,pt)).1<=m
 | 0,i,pt,h=>h
 | n+1,i,pt,h=>by
  show (Zc6 m n ((leap m i pt).1,(leap m i pt).2)).1<=m;exact ZjI m n _ _ (by unfold leap;have:=Nat.mod_lt (i*5+1+pt/32) (show 0<m+1 by omega);simp only [];omega)
def Zml(h):bits h<2^64:=by
 unfold bits;have a:=Vb0 h (show ((2:Int)^64)≠0 by decide);have b:=Vb1 h (show (0:Int)<2^64 by decide);omega
def cyc7:∀i≤7,∀e≤7,∃k≤7,(Zc6 7 k (i,0)).1=e:=by decide +kernel
def Zv9:∀i≤31,∀e≤31,∃k≤31,(Zc6 31 k (i,0)).1=e:=by decide +kernel
def Mk(m:Nat):Prop:=m=7\/m=31
def cyc(hm:Mk m):∀i≤m,∀e≤m,∃k≤m,(Zc6 m k (i,0)).1=e:=by
 rcases hm with rfl | rfl
 .exact cyc7
 .exact Zv9
def cover(hm:Mk m){e:Nat}(hi:i<=m)(hp:pt<2^64)(he:e<=m):∃n,n<=13+m/\(Zc6 m n (i,pt)).1=e:=by
 have a:(Zc6 m 13 (i,pt)).2=0:=by
  rw [Zik];exact Nat.div_eq_of_lt (Vaf hp (by decide))
 obtain ⟨k,c,b⟩:=cyc hm _ (ZjI m 13 i pt hi) e he;refine ⟨13+k,by omega,?_⟩;rw [ZhR];have z:Zc6 m 13 (i,pt)=((Zc6 m 13 (i,pt)).1,0):=by rw [<-a]
 rw [z];exact b
def ends(hm:Mk m){e:Nat}(hi:i<=m)(hp:pt<2^64)(he:e<=m)(ho:¬occ e):Zei m occ (10*(13+m)) (run m i pt):=by
 obtain ⟨n,c,b⟩:=cover hm hi hp he;obtain ⟨k,d,a⟩:=ZiR m n i pt;refine Zei.mono (n:=k) (by omega) (Zei.of ?_);rw [a];rw [b];exact ho
def Zhf(xs:Array Nat)(j:Nat)(h:xs.toList.Pairwise (· < ·)):∀fuel lo hi,lo<=hi->hi<=xs.size->hi - lo<=fuel->(∀i q,i<lo->xs[i]<j)->(∀i q,hi<=i->¬xs[i]<j) ->
  below.go xs j fuel lo hi<=xs.size/\∀i q,xs[i]<j↔i<below.go xs j fuel lo hi
 | 0,lo,hi,h1,h2,h3,h4,h5=>by
  have e:lo=hi:=by omega
  subst e;exact ⟨h2,λi hi=>⟨λz=>Nat.lt_of_not_le λq=>h5 i hi q z,λz=>h4 i hi z⟩⟩
 | fuel+1,lo,hi,h1,h2,h3,h4,h5=>by
  unfold below.go;by_cases hl:lo<hi
  .rw [iP hl];simp only [];have d:(lo+hi)/2<xs.size:=by omega
   have g:∀a b (l:a<xs.size) (k:b<xs.size),a<b->xs[a]<xs[b]:=λa b l k f=>by
    have:=Vb2.mp h a b (by simpa using l) (by simpa using k) f;simpa using this
   have m:xs.getD ((lo+hi)/2) j=xs[(lo+hi)/2]:=by simp [Array.getD,d]
   rw [m];by_cases hc:xs[(lo+hi)/2]<j
   .rw [iP hc];refine Zhf xs j h fuel ((lo+hi)/2+1) hi (by omega) h2 (by omega) (λi c z=>?_) h5;by_cases hz:i<(lo+hi)/2
    .exact Vbn (g i _ c d hz) hc
    .have:i=(lo+hi)/2:=by omega
     subst this;exact hc
   .rw [iN hc];refine Zhf xs j h fuel lo ((lo+hi)/2) (by omega) (by omega) (by omega) h4 λi c z=>?_;by_cases hz:(lo+hi)/2<i
    .have:=g _ i d c hz;omega
    .have:i=(lo+hi)/2:=by omega
     subst this;exact hc
  .rw [iN hl];have e:lo=hi:=by omega
   subst e;exact ⟨h2,λi hi=>⟨λz=>Nat.lt_of_not_le λq=>h5 i hi q z,λz=>h4 i hi z⟩⟩
def ZgU{xs:Array Nat}(j)(h:xs.toList.Pairwise (· < ·)):below xs j<=xs.size/\∀i hi,xs[i]<j↔i<below xs j :=
 Zhf xs j h xs.size 0 xs.size (VaR _) (VaF _) (by omega) (λ_ _ z=>by omega) λi hi z=>by omega
abbrev En:Type:=Nat×Int×Value
def Occ(l:List En)(j:Nat):Prop:=∃e∈l,e.1=j
abbrev st0(m:Nat)(h:Int):Probe:=run m (bits h%(m+1)) (bits h)
structure Tb(t:SetTable)(es:Array (Int×Value))(l:List En):Prop where
 ms:Mk t.mask
 pl:t.place.toList=l.map (·.1)
 el:es.toList=l.map (·.2)
 du:t.dummies=#[]
 up:l.Pairwise λa b=>a.1<b.1
 le:∀e∈l,e.1<=t.mask
 rc:∀e∈l,Rch t.mask (Occ l) (st0 t.mask e.2.1) e.1
section
variable{t:SetTable}{es:Array (Int×Value)}{l:List En}
def Tb.plP(T:Tb t es l):t.place.toList.Pairwise (· < ·):=by rw [T.pl,List.pairwise_map];exact T.up
def Tb.size(T:Tb t es l):t.place.size=l.length:=by rw [<-Vav,T.pl,VaO]
def Tb.esize(T:Tb t es l):es.size=l.length:=by rw [<-Vav,T.el,VaO]
def Tb.at(T:Tb t es l)(hi:i<t.place.size):t.place[i]=(l[i]'(by rw [<-T.size];exact hi)).1:=by
 have e:t.place.toList[i]'(by simpa using hi)=(l.map (·.1))[i]'(by rw [VaO,<-T.size];exact hi):=by
  congr 1;exact T.pl
 simpa using e
def Tb.live(T:Tb t es l){e:En}(h:l[i]?=some e):t.slot e.1=.live i:=by
 obtain ⟨c,rfl⟩:=Vat.mp h;have a:i<t.place.size:=by rw [T.size];exact c
 obtain ⟨j,d⟩:=ZgU l[i].1 T.plP;have g:=Vb2.mp T.up;have f:below t.place l[i].1=i:=by
  rcases Nat.lt_trichotomy (below t.place l[i].1) i with z | z | z
  .have b:below t.place l[i].1<t.place.size:=by omega
   have:=g _ i (by rw [<-T.size];exact b) c z;have q:=(d _ b).mp (by rw [T.at b];exact this);omega
  .exact z
  .have q:=(d i a).mpr z;rw [T.at a] at q;omega
 unfold slot;simp only [];rw [f,iP];rw [Vb3 a,T.at a];simp
def Tb.noDummy(T:Tb t es l)(j):has t.dummies j=false:=by
 rw [T.du];unfold has;simp
def Tb.empty(T:Tb t es l)(h:¬Occ l j):t.slot j=.empty:=by
 unfold slot;simp only [];rw [iN,T.noDummy,iN VaC];intro z;have z:=eq_of_beq z;obtain ⟨a,e⟩:=Array.getElem?_eq_some_iff.mp z;rw [T.at a] at e;exact h ⟨_,Vb4 _,e⟩
def Tb.occ(T:Tb t es l)(h:Occ l j):∃i e,l[i]?=some e/\e.1=j/\t.slot j=.live i:=by
 obtain ⟨e,b,rfl⟩:=h;obtain ⟨i,a,rfl⟩:=Vb5.mp b;exact ⟨i,_,VbF a,rfl,T.live (VbF a)⟩
def ZeW(xs:Array α)(p:Nat)(x:α)(hp:p<=xs.size):(insertAt xs p x).toList=xs.toList.take p++x::xs.toList.drop p:=by
 unfold insertAt;simp [Array.toList_extract,List.extract_eq_drop_take];exact Vbv (by simp)
def Tb.put(T:Tb t es l){x:Value}(hj:j<=t.mask)(ho:¬Occ l j)(hr:Rch t.mask (Occ l) (st0 t.mask h) j) :
  ∃l',List.Perm l' ((j,h,x)::l)/\Tb (t.put j).1 (insertAt es (t.put j).2 (h,x)) l':=by
 obtain ⟨r,s⟩:=ZgU j T.plP;have w:(t.put j).2=below t.place j:=rfl;have u:(t.put j).1={ t with place:=insertAt t.place (below t.place j) j,dummies:=t.dummies }:=by
  unfold SetTable.put;simp only [];rw [T.noDummy,iN VaC]
 have n:List.Perm (l.take (below t.place j)++(j,h,x)::l.drop (below t.place j)) ((j,h,x)::l):=by
  refine List.perm_middle.trans ?_;rw [List.take_append_drop]
 have d:∀k,Occ l k->Occ (l.take (below t.place j)++(j,h,x)::l.drop (below t.place j)) k:=λk ⟨e,he,q⟩=>⟨e,n.mem_iff.mpr (Vap _ he),q⟩;refine ⟨l.take (below t.place j)++(j,h,x)::l.drop (below t.place j),n,?_⟩;rw [w,u];refine ⟨T.ms,?_,?_,T.du,?_,λe he=>?_,λe he=>?_⟩
 .show (insertAt t.place (below t.place j) j).toList=_;rw [ZeW _ _ _ r,T.pl];simp [List.map_take,List.map_drop]
 .rw [ZeW _ _ _ (by rw [T.esize,<-T.size];exact r),T.el];simp [List.map_take,List.map_drop]
 .have f:∀e∈l.take (below t.place j),e.1<j:=λe he=>by
   obtain ⟨i,o,rfl⟩:=Vb5.mp he;have m:i<below t.place j/\i<l.length:=by rw [VaY] at o;omega
   have g:i<t.place.size:=by rw [T.size];exact m.2
   have:=(s i g).mpr m.1;rw [T.at g] at this;simpa using this
  have c:∀e∈l.drop (below t.place j),j<e.1:=λe he=>by
   obtain ⟨i,o,rfl⟩:=Vb5.mp he;rw [Vba] at o;have g:below t.place j+i<t.place.size:=by rw [T.size];omega
   have v:=λz=>by have:=(s _ g).mp z;omega
   rw [T.at g] at v;have y:(l[below t.place j+i]'(by rw [<-T.size];exact g)).1≠j:=λz=>ho ⟨_,Vb4 _,z⟩;rw [List.getElem_drop];omega
  rw [List.pairwise_append];refine ⟨T.up.sublist (List.take_sublist _ _),?_,λa p b hb=>?_⟩
  .rw [Vb6];exact ⟨λb hb=>c b hb,T.up.sublist (List.drop_sublist _ _)⟩
  .rcases Vaq.mp hb with rfl | hb
   .exact f a p
   .exact Vbn (f a p) (c b hb)
 .rcases Vaq.mp (n.mem_iff.mp he) with rfl | he
  .exact hj
  .exact T.le e he
 .rcases Vaq.mp (n.mem_iff.mp he) with rfl | he
  .exact hr.mono d
  .exact (T.rc e he).mono d
end
section
variable{t:SetTable}{es:Array (Int×Value)}{l:List En}{h:Int}{ha:Nat->Int}
def HAt(l:List En)(ha:Nat->Int):Prop:=∀i e,l[i]?=some e->ha i=e.2.1
def Zf0(T:Tb t es l)(hh:HAt l ha):∀n fuel p,p.dummy=none->Zei t.mask (Occ l) n p->n<fuel ->
  (∃j,probe.go t ha h fuel p=some (.empty j none)/\¬Occ l j/\Rch t.mask (Occ l) p j/\∀e∈l,e.2.1=h->¬Rch t.mask (Occ l) p e.1) \/
  (∃i e p' n',probe.go t ha h fuel p=some (.candidate e.1 i (adv t.mask p'))/\l[i]?=some e/\e.2.1=h/\p'.j=e.1/\p'.dummy=none/\n'<n/\Zei t.mask (Occ l) n' (adv t.mask p')/\(∀j,Rch t.mask (Occ l) (adv t.mask p') j->Rch t.mask (Occ l) p j)/\∀e'∈l,e'.2.1=h->e'≠e->Rch t.mask (Occ l) p e'.1->Rch t.mask (Occ l) (adv t.mask p') e'.1)
 | n,0,p,_,_,hf=>by omega
 | n,fuel+1,p,hd,hE,hf=>by
  by_cases ho:Occ l p.j
  .obtain ⟨i,e,w,d,B⟩:=T.occ ho;cases n with
   | zero=>exact aB ho hE
   | succ n=>
    have k:=hE.resolve_left λz=>z ho;have m:(adv t.mask p).dummy=none:=by unfold adv;split<;>exact hd
    unfold probe.go;rw [B];simp only [];have f:∀e'∈l,e'.1=e.1->e'=e:=λe' b q=>by
     obtain ⟨a,u,rfl⟩:=Vb5.mp b;obtain ⟨A,rfl⟩:=Vat.mp w;have y:=Vb2.mp T.up;rcases Nat.lt_trichotomy a i with z | z | z
     .have:=y a i u A z;omega
     .subst z;rfl
     .have:=y i a A u z;omega
    have x:∀{j:Nat},Rch t.mask (Occ l) p j->j≠p.j->Rch t.mask (Occ l) (adv t.mask p) j:=λ{j} r g=>by
     cases r with
     | here=>exact aB rfl g
     | next _ r=>exact r
    by_cases hq:ha i=h
    .rw [iP (by rw [hq];exact beq_self_eq_true h)];right;refine ⟨i,e,p,n,by rw [ZgK,d],w,by rw [<-hh i e w];exact hq,d.symm,hd,by omega,k,λj r=>.next ho r,λe' b _ g r=>x r λz=>g (f e' b (by rw [z,d]))⟩
    .rw [iN (by intro z;exact hq (eq_of_beq z)),ZgK];have s:e.2.1≠h:=by rw [<-hh i e w];exact hq
     rcases Zf0 T hh n fuel (adv t.mask p) m k (by omega) with ⟨j,e1,e2,e3,e4⟩ | ⟨i',e',p',n',e1,e2,e3,e4,e5,e6,e7,e8,e9⟩
     .left;refine ⟨j,e1,e2,.next ho e3,λe' b q r=>e4 e' b q (x r λz=>?_)⟩;have:=f e' b (by rw [z,d]);subst this;exact s q
     .right;refine ⟨i',e',p',n',e1,e2,e3,e4,e5,by omega,e7,λj r=>.next ho (e8 j r),λv c q g r=>e9 v c q g (x r λz=>?_)⟩;have:=f v c (by rw [z,d]);subst this;exact s q
  .left;unfold probe.go;rw [T.empty ho];simp only [];refine ⟨p.j,by rw [hd],ho,.here p,λe d _ r=>?_⟩;generalize hz:e.1=z at r;cases r with
   | here=>exact ho ⟨e,d,hz⟩
   | next o _=>exact ho o
end
def Zpj:∀{xs ys:List α},xs.Nodup->(∀x∈xs,x∈ys)->xs.length<=ys.length
 | [],_,_,_=>VaR _
 | x::r,ys,hn,hs=>by
  obtain ⟨a,b,rfl⟩:=List.append_of_mem (hs x Vao);rw [VaW] at hn;have:=Zpj (ys:=a++b) hn.2 λy c=>by
   rcases Var.mp (hs y (Vap _ c)) with z | z
   .exact Vas _ z
   .rcases Vaq.mp z with rfl | z
    .exact aB c hn.1
    .exact VaI _ z
  simp at this ⊢;omega
def ZiV{js:List Nat}(h:js.length<=m):∃e,e<=m/\e∉js:=by
 refine Vb7 λz=>?_;have:=Zpj (xs:=List.range (m+1)) List.nodup_range λx a=>Vb7 λq=>z ⟨x,by have:=Vaj.mp a;omega,q⟩;rw [VbD] at this;omega
def Zhz:∀{k:Nat} {p:Probe} {j:Nat},(∀k'<k,occ (advs m k' p).j)->Rch m occ (advs m k p) j->Rch m occ p j
 | 0,_,_,_,r=>r
 | k+1,p,j,h,r=>.next (h 0 (by omega)) (Zhz (k:=k) (λk' a=>h (k'+1) (by omega)) r)
def Zsd(hk:k<=runEnd m i - i)(h:∀k'<k,occ (i+k')):Rch m occ (run m i pt) (i+k):=by
 refine Zhz (k:=k) (λk' a=>?_) ?_
 .rw [ZeX m i pt k' (by omega)];exact h k' a
 .rw [ZeX m i pt k hk];exact .here _
def Zn2(h:∀k'≤runEnd m i - i,occ (i+k'))(r:Rch m occ (run m (leap m i pt).1 (leap m i pt).2) j):Rch m occ (run m i pt) j:=by
 refine Zhz (k:=runEnd m i - i+1) (λk' a=>?_) ?_
 .rw [ZeX m i pt k' (by omega)];exact h k' (by omega)
 .rw [Zkd];exact r
structure Ow(m:Nat)(owner:Array (Option Nat))(js:List Nat):Prop where
 sz:owner.size=m+1
 nd:js.Nodup
 le:∀j∈js,j<=m
 is:∀j k,j<=m->(owner[j]?=some (some k)↔js[k]?=some j)
def Ow.none(O:Ow m owner js)(hj:j<=m):(owner.getD j (some 0)).isNone=true↔j∉js:=by
 have a:j<owner.size:=by rw [O.sz];omega
 have c:owner.getD j (some 0)=owner[j]:=by simp [Array.getD,a]
 rw [c];constructor
 .intro z b;obtain ⟨k,d,e⟩:=Vb5.mp b;have:=(O.is j k hj).mpr (by rw [VbF d,e]);rw [Vb3 a] at this;rw [Vaa this] at z;exact Bool.noConfusion z
 .intro z;cases q:owner[j] with
  | none=>rfl
  | some k=>
   have:=(O.is j k hj).mp (by rw [Vb3 a,q]);exact aB (Va4 this) z
def Zf5(h:i<=m):i<=runEnd m i/\runEnd m i<=m:=by
 unfold runEnd;split<;>omega
def Zit(O:Ow m owner js){e:Nat}(he:e<=m)(hf:e∉js):∀fuel L i pt,i<=m->L<fuel->(Zc6 m L (i,pt)).1=e ->
  ∃j,j<=m/\layClean.free m owner fuel i pt=some j/\j∉js/\Rch m (·∈js) (run m i pt) j
 | 0,L,i,pt,_,hl,_=>by omega
 | fuel+1,L,i,pt,hi,hl,hL=>by
  obtain ⟨A,y⟩:=Zf5 hi;unfold layClean.free;cases q:(List.range (runEnd m i+1 - i)).find? λk=>(owner.getD (i+k) (some 0)).isNone with
  | some k=>
   obtain ⟨s,h,x,n,u⟩:=List.find?_eq_some_iff_append.mp q;have B:k<runEnd m i+1 - i:=Vaj.mp (by rw [n];simp);have f:∀a<k,(owner.getD (i+a) (some 0)).isNone=false:=λa c=>by
    have p:h.length=k:=by
     have:=Vaw (λl=>l[h.length]?) n;simp at this;rw [VbE (by have:=Vaw List.length n;simp at this;omega)] at this;exact Vaa this
    have g:a∈h:=by
     have r:(List.range (runEnd m i+1 - i))[a]?=(h++k::x)[a]?:=by rw [n]
     rw [VbE (by omega),Va2 (by omega)] at r;exact Va4 r.symm
    have:=u a g;simpa using this
   refine ⟨i+k,by omega,rfl,(O.none (by omega)).mp s,Zsd (by omega) λa c=>?_⟩;exact Vb7 λz=>by
    have d:=f a c;rw [(O.none (by omega)).mpr z] at d;exact Bool.noConfusion d
  | none=>
   have b:∀a≤runEnd m i - i,i+a∈js:=λa c=>Vb7 λz=>by
    have d:=List.find?_eq_none.mp q a (Vaj.mpr (by omega));exact d ((O.none (by omega)).mpr z)
   cases L with
   | zero=>
    have:i=e:=hL;subst this;exact aB (b 0 (by omega)) hf
   | succ L=>
    have o:(leap m i pt).1<=m:=by
     unfold leap;have:=VbZ (i*5+1+pt/32) (show 0<m+1 by omega);omega
    obtain ⟨j,d,t,w,v⟩:=Zit O he hf fuel L (leap m i pt).1 (leap m i pt).2 o (by omega) hL;exact ⟨j,d,t,w,Zn2 b v⟩
def Ow.put(O:Ow m owner js)(hj:j<=m)(hf:j∉js):Ow m (owner.setIfInBounds j (some js.length)) (js++[j]):=by
 refine ⟨by rw [Array.size_setIfInBounds];exact O.sz,?_,λi d=>?_,λi k d=>?_⟩
 .rw [List.nodup_append];refine ⟨O.nd,by simp,λa f b c=>?_⟩;rw [Vb8] at c;subst c;rintro rfl;exact hf f
 .rcases Var.mp d with z | z
  .exact O.le i z
  .rw [Vb8] at z;subst z;exact hj
 .rw [Array.getElem?_setIfInBounds];have c:j<owner.size:=by rw [O.sz];omega
  by_cases e:j=i
  .subst e;rw [iP rfl,iP c];constructor
   .intro z;cases z;simp
   .intro z;by_cases hk:k<js.length
    .rw [Va2 hk] at z;exact aB (Va4 z) hf
    .have:k=js.length:=by
      have:=(Vat.mp z).1;simp at this;omega
     rw [this]
  .rw [iN e,O.is i k d];constructor
   .intro z;rw [Va2 (Vat.mp z).1];exact z
   .intro z;by_cases hk:k<js.length
    .rw [Va2 hk] at z;exact z
    .have:k=js.length:=by
      have:=(Vat.mp z).1;simp at this;omega
     subst this;simp at z;exact aB z e
def RcW(m:Nat)(hs:List Int)(js:List Nat):Prop:=∀(k:Nat) (h:Int) (j:Nat),hs[k]?=some h->js[k]?=some j->Rch m (·∈js) (st0 m h) j
def ZjN(hm:Mk m):∀rest done owner js,Ow m owner js->js.length=done.length->RcW m done js->done.length+rest.length<=m ->
  ∃owner' js',rest.foldl (λacc h=>do
   let (owner,k) <-acc
   let j <-layClean.free m owner (turns m) (bits h%(m+1)) (bits h)
   pure (owner.setIfInBounds j (some k),k+1)) (some (owner,js.length))=some (owner',js'.length)/\Ow m owner' js'/\js'.length=(done++rest).length/\RcW m (done++rest) js'
 | [],done,owner,js,O,hl,hr,_=>⟨owner,js,rfl,O,by rw [VaT];exact hl,by rw [VaT];exact hr⟩
 | h::rest,done,owner,js,O,hl,hr,hle=>by
  simp only [VaM] at hle;obtain ⟨e,g,v⟩:=ZiV (m:=m) (js:=js) (by omega);have f:bits h%(m+1)<=m:=by
   have:=VbZ (bits h) (show 0<m+1 by omega);omega
  obtain ⟨L,w,q⟩:=cover hm f (Zml h) g;obtain ⟨j,l,i,u,p⟩:=Zit O g v (turns m) L _ (bits h) f (by unfold turns;omega) q;have o:=O.put l u;have d:RcW m (done++[h]) (js++[j]):=by
   intro k r s b a;by_cases hk:k<done.length
   .rw [Va2 hk] at b;rw [Va2 (by omega)] at a;exact (hr k r s b a).mono λx c=>Vas _ c
   .have:k=done.length:=by
     have:=(Vat.mp b).1;simp at this;omega
    subst this;simp at b;rw [<-hl] at a;simp at a;subst b a;exact p.mono λx c=>Vas _ c
  obtain ⟨owner',js',b,a,t,n⟩:=ZjN hm rest (done++[h]) _ (js++[j]) o (by simp [hl]) d (by simp;omega);refine ⟨owner',js',?_,a,by rw [t];simp,by simpa using n⟩;rw [List.foldl_cons]
  have z:(do
   let (owner,k) <-some (owner,js.length)
   let j <-layClean.free m owner (turns m) (bits h%(m+1)) (bits h)
   pure (owner.setIfInBounds j (some k),k+1):Option (Array (Option Nat)×Nat))=some (owner.setIfInBounds j (some js.length),(js++[j]).length):=by
   show (layClean.free m owner (turns m) (bits h%(m+1)) (bits h)).bind _=_;rw [i];simp
  rw [z];exact b
def Zl3(hm:Mk m)(hashes)(hl:hashes.size<=m):∃owner js,layClean m hashes=some owner/\Ow m owner js/\js.length=hashes.size/\RcW m hashes.toList js:=by
 have f:Ow m (Array.replicate (m+1) none) []:=⟨by simp,List.nodup_nil,λ_ h=>(VbS h).elim,λj k c=>by
  rw [Array.getElem?_replicate]
  simp [c]⟩
 obtain ⟨owner,js,g,d,b,a⟩:=ZjN hm hashes.toList [] _ [] f rfl (λk h j e _=>by simp at e) (by simpa using hl);refine ⟨owner,js,?_,d,by simpa using b,by simpa using a⟩;unfold layClean;rw [<-Array.foldl_toList];have z:=Vaw (Option.map (·.1)) g;exact z
section
variable{t:SetTable}{es:Array (Int×Value)}{l:List En}
def ZmI(O:Ow m owner js)(live)(hlive:live=(List.range (m+1)).filterMap λj=>(owner.getD j none).map (j,·)) :
  live.Pairwise (λa b=>a.1<b.1)/\∀j k,(j,k)∈live↔js[k]?=some j:=by
 have n:∀j k,(j,k)∈live↔js[k]?=some j:=λj k=>by
  rw [hlive,VaH];constructor
  .rintro ⟨i,l,e⟩;have l:=Vaj.mp l;have c:i<owner.size:=by rw [O.sz];exact l
   have h:owner.getD i none=owner[i]:=by simp [Array.getD,c]
   rw [h] at e;cases q:owner[i] with
   | none=>rw [q] at e;cases e
   | some k'=>
    rw [q] at e;simp only [Option.map_some,Option.some.injEq,Prod.mk.injEq] at e;obtain ⟨rfl,rfl⟩:=e;exact (O.is i k' (by omega)).mp (by rw [Vb3 c,q])
  .intro e;have o:=O.le j (Va4 e);have c:j<owner.size:=by rw [O.sz];omega
   refine ⟨j,Vaj.mpr (by omega),?_⟩;have h:owner.getD j none=owner[j]:=by simp [Array.getD,c]
   have q:=(O.is j k o).mpr e;rw [Vb3 c] at q;rw [h,Vaa q];rfl
 refine ⟨?_,n⟩;rw [hlive,List.pairwise_filterMap];refine List.pairwise_lt_range.imp λ{a b} g=>?_;intro x f y d;cases qa:owner.getD a none with
 | none=>rw [qa] at f;cases f
 | some ka=>
  cases qb:owner.getD b none with
  | none=>rw [qb] at d;cases d
  | some kb=>
   rw [qa] at f;rw [qb] at d;cases f;cases d;exact g
def Tb.relay(T:Tb t es l)(hl:l.length<=16)(hw:sizeAbove wanted=32) :
  ∃t' order l',t.relaid (es.map (·.1)) wanted=some (t',order)/\t'.mask=31/\t'.led=t.led/\t'.plain=t.plain/\Tb t' (order.filterMap (es[·]?)) l'/\List.Perm (l'.map (·.2)) (l.map (·.2)):=by
 have D:Mk 31:=.inr rfl;obtain ⟨m,w,U,O,L,Q⟩:=Zl3 D (es.map (·.1)) (by rw [Array.size_map,T.esize];omega);obtain ⟨c,g⟩ : ∃c,c=(List.range (31+1)).filterMap λj=>(m.getD j none).map (j,·):=⟨_,rfl⟩;obtain ⟨F,d⟩:=ZmI O c g;have J:w.length=l.length:=by rw [L,Array.size_map,T.esize]
 have n:∀j k,(j,k)∈c->k<l.length:=λj k h=>by
  have:=(Vat.mp ((d j k).mp h)).1;omega
 have C:∀k,k<l.length->es[k]?=some ((l.getD k (0,0,.none)).2):=λk s=>by
  rw [<-Vb9,T.el,Va3,VbF s];simp [List.getD,s]
 obtain ⟨l',f⟩ : ∃l':List En,l'=c.map λp=>(p.1,(l.getD p.2 (0,0,.none)).2):=⟨_,rfl⟩;have A:(c.map (·.2)).Nodup:=by
  unfold List.Nodup;rw [List.pairwise_map];refine List.Pairwise.imp_of_mem (λ{a b} H R S=>?_) F;intro z;have E:=(d a.1 a.2).mp H;have G:=(d b.1 b.2).mp R;rw [z,G] at E;have:=Vaa E;omega
 have o:List.Perm (c.map (·.2)) (List.range l.length):=by
  rw [List.perm_ext_iff_of_nodup A List.nodup_range];intro k;rw [Vaj];constructor
  .intro h;obtain ⟨⟨j,I⟩,u,rfl⟩:=Vbo.mp h;exact n j I u
  .intro h;refine Vbo.mpr ⟨(w[k]'(by omega),k),(d _ _).mpr (VbF (by omega)),rfl⟩
 refine ⟨{ mask:=31,place:=(c.map (·.1)).toArray,dummies:=#[],finger:=t.finger,led:=t.led,moves:=t.movedTo 31,plain:=t.plain },(c.map (·.2)).toArray,l',?_,rfl,rfl,rfl,?_,?_⟩
 .unfold relaid;rw [hw];unfold laid;rw [U];show some _=some _;rw [g]
 .have K:∀j,j∈w->Occ l' j:=λj P=>by
   obtain ⟨k,s,rfl⟩:=Vb5.mp P;exact ⟨_,by rw [f];exact Vbo.mpr ⟨(w[k],k),(d _ _).mpr (VbF s),rfl⟩,rfl⟩
  refine ⟨D,?_,?_,rfl,?_,λe v=>?_,λe v=>?_⟩
  .show c.map (·.1)=_;rw [f,VbH];rfl
  .rw [Array.toList_filterMap];rw [f,VbH,List.filterMap_map];have B:∀q:List (Nat×Nat),(∀x∈q,x.2<l.length)->q.filterMap ((es[·]?) ∘ (·.2))=q.map ((·.2) ∘ λp:Nat×Nat=>((p.1,(l.getD p.2 (0,0,Value.none)).2):En)):=by
    intro q
    induction q with
    | nil=>intro _;rfl
    | cons x r ih=>
     intro h;rw [Van,VaN,<-ih λy M=>h y (Vap _ M)];simp only [Function.comp];rw [C x.2 (h x Vao)]
   exact B c λx N=>n x.1 x.2 N
  .rw [f,List.pairwise_map];exact F
  .rw [f] at v;obtain ⟨⟨j,k⟩,u,rfl⟩:=Vbo.mp v;exact O.le j (Va4 ((d j k).mp u))
  .rw [f] at v;obtain ⟨⟨j,k⟩,u,rfl⟩:=Vbo.mp v;have s:=n j k u;refine (Q k _ j ?_ ((d j k).mp u)).mono K;rw [Array.toList_map,T.el,VbH,Va3,VbF s];simp [List.getD,s]
 .rw [f,VbH];have e:l.map (·.2)=(List.range l.length).map λk=>(l.getD k (0,0,Value.none)).2:=by
   apply List.ext_getElem?;intro i;by_cases h:i<l.length
   .simp [h]
   .simp [h]
  rw [e];have:=o.map λk=>(l.getD k (0,0,Value.none)).2;rw [VbH] at this;exact this
end
section
variable{prog:Program} {E:Value->Shared->Prop}
def items_int(h:ItemsAre (intKind prog w) ks vs):∀v∈vs,∃i t,v=Value.int i t:=by
 induction h with
 | nil=>exact λ_ h=>(VbS h).elim
 | @cons k v ks vs h1 _ ih=>
  intro u hu;rcases Vaq.mp hu with rfl | hu
  .cases u with
   | int i t=>exact ⟨i,t,rfl⟩
   | _=>exact aB h1 (by intro z;exact Bool.noConfusion z)
  .exact ih u hu
def Zis(hk:IsTupleKey (intKind prog w) s.heap ks a)(h:Q false s):wpAny (model prog w) A (ofAClassStatement 8 (.ref a)) Q E s:=by
 obtain ⟨o,g,n,k,p,q,l⟩:=hk;have m:s.TypeIs (.ref a) "tuple":=⟨o,k,p⟩;have d:=items_int l;unfold ofAClassStatement;refine Vax (Vbf m ?_);dsimp only;rw [iP (by decide)];refine Vax (Vay ?_);simp only [Bool.not_true,Vbs,Va7];refine Vax (Vbx k q ?_);refine Vax ?_;rw [<-VbR];refine wpAny_forIn_list _ (λc r f=>r.1=none/\f=s/\∀v∈c,∃i t,v=Value.int i t) _ ?_ ?_ _ _ ⟨rfl,rfl,d⟩
 .rintro v c r f ⟨j,rfl,b⟩;obtain ⟨i,t,rfl⟩:=b v Vao;refine Vax (Vay ?_);simp only [Vbs,Va7];exact Vay ⟨rfl,rfl,λu e=>b u (Vap _ e)⟩
 .rintro ⟨y,x⟩ f ⟨j,rfl,_⟩;simp only at j;subst j;exact Vay h
def Zss{x:Addr}{ks:List Int}{stored:List Value}{Q:Bool->Shared->Prop}(hx:IsTupleKey (intKind prog w) s.heap ks x)(hs:∀y∈stored,∃b ks',y=Value.ref b/\IsTupleKey (intKind prog w) s.heap ks' b)(h:Q false s) :
  wpAny (model prog w) A (searchCouldBeSeen (.ref x) stored) Q E s:=by
 unfold searchCouldBeSeen;refine Vax ?_;refine wpAny_forIn_list _ (λc r e=>r.1=none/\e=s/\∀v∈c,∃b ks',v=Value.ref b/\IsTupleKey (intKind prog w) s.heap ks' b) _ ?_ ?_ _ _ ⟨rfl,rfl,hs⟩
 .rintro v c r e ⟨f,rfl,a⟩;obtain ⟨b,ks',rfl,g⟩:=a v Vao;dsimp only;split
  .exact Vay ⟨rfl,rfl,λu d=>a u (Vap _ d)⟩
  .refine Vax (wpAny_eqIsQuiet_tuple hx ?_);simp only [Bool.not_true,Vbs,Va7];refine Vax (wpAny_eqIsQuiet_tuple g ?_);simp only [Bool.not_true,Vbs,Va7];refine Vax (Zis hx ?_);simp only [Vbs,Va7];refine Vax (Zis g ?_);simp only [Vbs,Va7];exact Vay ⟨rfl,rfl,λu d=>a u (Vap _ d)⟩
 .rintro ⟨i,j⟩ e ⟨f,rfl,_⟩;simp only at f;subst f;exact Vay h
def ZkN(hk:IsTupleKey (intKind prog w) s.heap ks a)(h:Q true s):wpAny (model prog w) A (hashByValue 8 (.ref a)) Q E s:=by
 have k:=hk.typeIs;obtain ⟨o,g,n,m,q,p,l⟩:=hk;have d:=items_int l;unfold hashByValue;refine Vax (Vbr k F.slot_tuple_hash.lookup ?_);refine Vax (Vbx m p ?_);refine Vax ?_;rw [<-VbR];refine wpAny_forIn_list _ (λc r f=>r.1=none/\f=s/\∀v∈c,∃i t,v=Value.int i t) _ ?_ ?_ _ _ ⟨rfl,rfl,d⟩
 .rintro v c r f ⟨j,rfl,b⟩;obtain ⟨i,t,rfl⟩:=b v Vao;refine Vax (Vay ?_);simp only [Bool.not_true,Vbs,Va7];exact Vay ⟨rfl,rfl,λu e=>b u (Vap _ e)⟩
 .rintro ⟨y,x⟩ f ⟨j,rfl,_⟩;simp only at j;subst j;exact Vay h
end
section
variable{prog:Program} {E:Value->Shared->Prop}
def El(prog:Program)(w:World)(h:Heap)(p:Int×Value)(ks:List Int):Prop:=∃x,p.2=.ref x/\IsTupleKey (intKind prog w) h ks x/\p.1=tupleKeyHash (intKind prog w) ks
def El.inj{h:Heap}{p:Int×Value}{a b:List Int}(ha:El prog w h p a)(hb:El prog w h p b):a=b:=by
 obtain ⟨x,e,f,_⟩:=ha;obtain ⟨y,c,d,_⟩:=hb;rw [e] at c;cases c;exact f.inj d
def Tb.fits{es:Array (Int×Value)}(T:Tb t es l)(hl:l.length<=t.mask):t.fits es.size=true:=by
 unfold SetTable.fits SetTable.fill;rw [T.du,T.size,T.esize];simp;exact hl
def Tb.odd{es:Array (Int×Value)}(T:Tb t es l):t.gaveWay=false:=by
 unfold SetTable.gaveWay;rcases T.ms with e | e<;>rw [e]<;>rfl
def Zt0{es:Array (Int×Value)}(T:Tb t es l):HAt l (λi=>(es[i]?.map (·.1)).getD 0):=λi e h=>by
 show ((es[i]?.map (·.1)).getD 0)=_;rw [<-Vb9,T.el,Va3,h];rfl
def ZlS{x:Addr}{es:Array (Int×Value)}(hu:A.units<cLine)(ho:s.heap.get? a=some o)(hd:o.data=.set es ep t)(T:Tb t es l)(hl:l.length<=t.mask)(hel:∀e∈l,∃ks',El prog w s.heap e.2 ks')(hx:IsTupleKey (intKind prog w) s.heap ks x) :
  ∀n fuel stand,n<fuel->n<=10*(13+t.mask)->(stand.getD (t.probeStart (tupleKeyHash (intKind prog w) ks))).dummy=none->Zei t.mask (Occ l) n (stand.getD (t.probeStart (tupleKeyHash (intKind prog w) ks))) ->
   ((∃e∈l,El prog w s.heap e.2 ks/\Rch t.mask (Occ l) (stand.getD (t.probeStart (tupleKeyHash (intKind prog w) ks))) e.1)/\R (.there none) s)\/((∀e∈l,¬El prog w s.heap e.2 ks)/\∀j,¬Occ l j->Rch t.mask (Occ l) (stand.getD (t.probeStart (tupleKeyHash (intKind prog w) ks))) j->R (.free j false) s) ->
   wpAny (model prog w) A (setSearchFrom a (.ref x) (tupleKeyHash (intKind prog w) ks) true fuel stand) R E s:=by
 intro n
 induction n using Nat.strongRecOn with
 | ind n ih=>
  intro fuel stand X W L V B;obtain ⟨fuel,rfl⟩ : ∃k,fuel=k+1:=⟨fuel - 1,by omega⟩;unfold setSearchFrom;refine Vax (Vca ho hd (T.fits hl) ?_);dsimp only;rw [T.odd];simp only [Vbs,Va7];generalize hp:stand.getD (t.probeStart (tupleKeyHash (intKind prog w) ks))=p at *;rcases Zf0 T (Zt0 T) n (10*turns t.mask) p L V (by unfold turns;omega) with ⟨j,e1,e2,e3,e4⟩ | ⟨i,e,p',n',e1,e2,e3,e4,e5,e6,e7,e8,e9⟩
  .generalize hm:t.probe _ (tupleKeyHash (intKind prog w) ks) p=met;have C:=hm.symm.trans e1;subst C;refine Vay ?_;rcases B with ⟨⟨e,he,hel',G⟩,_⟩ | ⟨_,B⟩
   .obtain ⟨_,_,_,N⟩:=hel';exact aB G (e4 e he N)
   .exact B j e2 e3
  .generalize hm:t.probe _ (tupleKeyHash (intKind prog w) ks) p=met;have C:=hm.symm.trans e1;subst C;dsimp only;have v:=Va4 e2;obtain ⟨ks',y,K,D,F⟩:=hel e v;have M:es[i]?=some e.2:=by rw [<-Vb9,T.el,Va3,e2];rfl
   have g:es[i]?=some (e.2.1,Value.ref y):=by rw [M,<-K]
   have m:∀c,c.getD (t.probeStart (tupleKeyHash (intKind prog w) ks))=adv t.mask p'->¬ks'=ks->wpAny (model prog w) A (setSearchFrom a (.ref x) (tupleKeyHash (intKind prog w) ks) true fuel c) R E s:=λc h J=>by
    refine ih n' e6 fuel c (by omega) (by omega) ?_ ?_ ?_
    .rw [h];unfold adv;split<;>exact e5
    .rw [h];exact e7
    .rw [h];rcases B with ⟨⟨I,r,hel',G⟩,u⟩ | ⟨hno,B⟩
     .left;refine ⟨⟨I,r,hel',e9 I r hel'.choose_spec.2.2 (λz=>?_) G⟩,u⟩;subst z;exact J (El.inj ⟨y,K,D,F⟩ hel')
     .exact .inr ⟨hno,λj S G=>B j S (e8 j G)⟩
   have d:ks'=ks->R (.there none) s:=λf=>by
    subst f;rcases B with ⟨_,u⟩ | ⟨hno,_⟩
    .exact u
    .exact aB ⟨y,K,D,F⟩ (hno e v)
   rw [g];have h:∀y∈List.map (λx=>x.2) (Array.filter (λx=>x.1==tupleKeyHash (intKind prog w) ks) es).toList,∃b ks',y=Value.ref b/\IsTupleKey (intKind prog w) s.heap ks' b:=λy D=>by
    obtain ⟨q,u,rfl⟩:=Vbo.mp D;rw [Array.toList_filter] at u;have u:=(Vai.mp u).1;rw [T.el] at u;obtain ⟨I,r,rfl⟩:=Vbo.mp u;obtain ⟨U,Q,P,O,_⟩:=hel I r;exact ⟨Q,U,P,O⟩
   have H:t.sameMemory t.moves t.mask=some true:=by unfold SetTable.sameMemory;simp
   cases hled:t.led
   all_goals simp only [Bool.not_false,Bool.not_true,Vbs,Va7,Va8]
   .refine Vax (Zss hx h ?_);simp only [Vbs,Va7];refine Vax (Vbb (wpAny_eqBool_tuple hu D hx ?_));refine Vax (Vca ho hd (T.fits hl) ?_);by_cases f:ks'=ks
    .rw [Vbk f];simp only [Bool.and_true,Va8];exact Vay (d f)
    .rw [Vac f];simp only [Bool.and_false,Vbs,Va7];rw [H];simp only [Va8];rw [T.live e2];dsimp only;rw [g];refine wpAny_bind (wpAny_of_eq (show isSame (.ref y) (.ref y)=pure true by unfold isSame;simp) ?_);refine Vax (Vay ?_);exact m (some _) rfl f
   .refine Vax (Vbb (wpAny_eqBool_tuple hu D hx ?_));refine Vax (Vca ho hd (T.fits hl) ?_);by_cases f:ks'=ks
    .rw [Vbk f];simp only [Bool.and_true,Va8];exact Vay (d f)
    .rw [Vac f];simp only [Bool.and_false,Vbs,Va7];rw [H];simp only [Va8];rw [T.live e2];dsimp only;rw [g];refine wpAny_bind (wpAny_of_eq (show isSame (.ref y) (.ref y)=pure true by unfold isSame;simp) ?_);refine Vax (Vay ?_);exact m (some _) rfl f
end
section
variable{prog:Program} {E:Value->Shared->Prop}
def SetT(prog:Program)(w:World)(h:Heap)(a:Addr)(kss:List (List Int)):Prop:=∃o c d t l,h.get? a=some o/\o.ExactSet/\o.data=.set c d t/\Tb t c l/\(t.mask=7->l.length<=4)/\l.length<=16 /\
 (∀e∈l,∃b∈kss,El prog w h e.2 b)/\(∀b∈kss,∃e∈l,El prog w h e.2 b)/\l.length=kss.length
def El.keeps{es:Array (Int×Value)}(x:El prog w h p ks)(ho:h.get? a=some o)(hd:o.data=.set es ep t)(hs:Heap.SameBut a h h'):El prog w h' p ks:=by
 obtain ⟨x,e,⟨g,c,n,d,j,b,k⟩,i⟩:=x;have f:x≠a:=by
  rintro rfl;obtain rfl:g=o:=Vaa (d.symm.trans ho);rw [hd] at b;exact nomatch b
 exact ⟨x,e,⟨g,c,n,(hs.2 x f).trans d,j,b,k⟩,i⟩
def ZuH(r:Rch m occ p j):p.j+p.more<=m->j<=m:=by
 induction r with
 | here p=>exact λh=>by omega
 | @next p j _ _ ih=>
  intro h;refine ih ?_;unfold adv;split
  .simp only [];omega
  .have a:(leap m p.i p.perturb).1<=m:=by
    unfold leap;have:=VbZ (p.i*5+1+p.perturb/32) (show 0<m+1 by omega);omega
   have:=Zf5 a;simp only [];omega
def Zo0(t:SetTable)(j:Nat):(t.put j).1.mask=t.mask/\(t.put j).1.plain=t.plain:=⟨rfl,rfl⟩
def ZuQ{x:Addr}(hu:A.units<cLine)(hS:SetT prog w s.heap a kss)(hx:IsTupleKey (intKind prog w) s.heap ks x)(hn:kss.length+1<=16)(h:∀b h',Heap.SameBut a s.heap h'->SetT prog w h' a (if ks∈kss then kss else kss++[ks])->Q b { s with heap:=h' }) :
  wpAny (model prog w) A (setAddHashed a (.ref x) (tupleKeyHash (intKind prog w) ks)) Q E s:=by
 obtain ⟨o,X,Z,t,l,y,L,u,T,h7,h16,C,J,r⟩:=hS;have F:l.length<=t.mask:=by rcases T.ms with e | e<;>rw [e]<;>omega
 refine Vbb (Vax (Vca y u (T.fits F) ?_));obtain ⟨e,he,hf⟩:=ZiV (js:=l.map (·.1)) (by rw [VaO];exact F);have hE:Zei t.mask (Occ l) (10*(13+t.mask)) (t.probeStart (tupleKeyHash (intKind prog w) ks)):=by
  exact ends T.ms (by have:=VbZ (bits (tupleKeyHash (intKind prog w) ks)) (show 0<t.mask+1 by omega);omega) (Zml _) he λ⟨f,he',q⟩=>hf (Vbo.mpr ⟨f,he',q⟩)
 have hb:10*(13+t.mask)<100000:=by rcases T.ms with e | e<;>rw [e]<;>decide
 refine Vax (ZlS hu y u T F (λe he=>let ⟨k,_,q⟩:=C e he;⟨k,q⟩) hx (10*(13+t.mask)) 100000 none hb (VaF _) rfl hE ?_);by_cases hk:ks∈kss
 .left;obtain ⟨e,he,B⟩:=J ks hk;refine ⟨⟨e,he,B,?_⟩,?_⟩
  .have:=T.rc e he;rw [B.choose_spec.2.2] at this;exact this
  .refine Vay ?_;have:=h false s.heap (Heap.SameBut.refl a s.heap) (by rw [iP hk];exact ⟨o,X,Z,t,l,y,L,u,T,h7,h16,C,J,r⟩);exact this
 .right;refine ⟨λe he B=>?_,λj hj hr=>?_⟩
  .obtain ⟨ks',hk',q⟩:=C e he;have:=El.inj B q;subst this;exact hk hk'
  .dsimp only;refine Vax (Vca y u (T.fits F) ?_);have hjm:j<=t.mask:=by
    have hi:bits (tupleKeyHash (intKind prog w) ks)%(t.mask+1)<=t.mask:=by
     have:=VbZ (bits (tupleKeyHash (intKind prog w) ks)) (show 0<t.mask+1 by omega);omega
    refine ZuH hr ?_;show bits (tupleKeyHash (intKind prog w) ks)%(t.mask+1)+(runEnd t.mask (bits (tupleKeyHash (intKind prog w) ks)%(t.mask+1)) - bits (tupleKeyHash (intKind prog w) ks)%(t.mask+1))<=t.mask;have:=Zf5 hi;omega
   obtain ⟨v,W,D⟩:=T.put hjm hj hr;obtain ⟨em,epl⟩:=Zo0 t j;generalize ht':(t.put j).1=t' at D em epl ⊢;generalize hes':insertAt X (t.put j).2 (tupleKeyHash (intKind prog w) ks,Value.ref x)=es' at D ⊢;have p:v.length=l.length+1:=by rw [W.length_eq];rfl
   have V:v.length<=t'.mask:=by rw [em,p];rcases T.ms with e | e<;>rw [e]<;>omega
   have G:wpAny (model prog w) A (do
     storeSet a es' t'
     if (!false&&t'.tooFull)=true then do
      setRelay a (grown (X.size+1))
      pure true
     else pure true) Q E s:=by
    have N:(s.heap.update a (Obj.putSet es' t')).get? a=some { o with data:=.set es' (Z+1) t' }:=by
     have:=VbA (Obj.putSet es' t') y (by rw [putSet_of es' t' u];rfl);rw [putSet_of es' t' u] at this;exact this
    have m:=Vbz s.heap a (Obj.putSet es' t');have O:El prog w (s.heap.update a (Obj.putSet es' t')) (tupleKeyHash (intKind prog w) ks,Value.ref x) ks:=El.keeps ⟨x,rfl,hx,rfl⟩ y u m;have g1:∀e∈v,∃k∈kss++[ks],El prog w (s.heap.update a (Obj.putSet es' t')) e.2 k:=λe he=>by
     rcases Vaq.mp (W.mem_iff.mp he) with rfl | he
     .exact ⟨ks,by simp,O⟩
     .obtain ⟨k,n,g⟩:=C e he;exact ⟨k,Vas _ n,g.keeps y u m⟩
    have g2:∀k∈kss++[ks],∃e∈v,El prog w (s.heap.update a (Obj.putSet es' t')) e.2 k:=λk hk'=>by
     rcases Var.mp hk' with hk' | hk'
     .obtain ⟨e,n,g⟩:=J k hk';exact ⟨e,W.mem_iff.mpr (Vap _ n),g.keeps y u m⟩
     .rw [Vb8] at hk';subst hk';exact ⟨_,W.mem_iff.mpr Vao,O⟩
    have hz:es'.size<=sizeLine:=by rw [D.esize,p,sizeLine_eq];omega
    refine Vax (wpAny_storeSet_of y u ?_ hz);have H:t'.fill=v.length:=by unfold SetTable.fill;rw [D.du,D.size];rfl
    by_cases c:t'.tooFull=true
    .rw [c];unfold SetTable.tooFull at c;rw [H,em,p] at c;have c:=of_decide_eq_true c;have e7:t.mask=7:=by
      rcases T.ms with e | e
      .exact e
      .rw [e] at c;omega
     have P:=h7 e7;have e4:l.length=4:=by omega
     have ew:X.size+1=5:=by rw [T.esize,e4]
     rw [ew];obtain ⟨M,d,Y,r1,r2,r3,r4,T2,K⟩:=D.relay (by omega) (wanted:=grown 5) (by decide);have U:∀e∈Y,∃f∈v,f.2=e.2:=λe he=>by
      have:=K.mem_iff.mp (Vbo.mpr ⟨e,he,rfl⟩);obtain ⟨f,n,g⟩:=Vbo.mp this;exact ⟨f,n,g⟩
     have I:∀e∈v,∃f∈Y,f.2=e.2:=λe he=>by
      have:=K.mem_iff.mpr (Vbo.mpr ⟨e,he,rfl⟩);obtain ⟨f,n,g⟩:=Vbo.mp this;exact ⟨f,n,g⟩
     have R:Y.length=v.length:=by have:=K.length_eq;simpa using this
     refine Vax ?_;refine Vax (Vca N rfl (D.fits V) ?_);dsimp only;rw [iN (by decide),r1];refine Vax ?_;have S:(d.filterMap (es'[·]?)).size=es'.size:=by rw [T2.esize,R,D.esize]
     show wpAny (model prog w) A (if ((d.filterMap (es'[·]?)).size != es'.size)=true then _ else _) _ _ _
     rw [iN (by rw [S];simp)];refine Vay ?_;have hg2:((s.heap.update a (Obj.putSet es' t')).update a (Obj.putSet (d.filterMap (es'[·]?)) M)).get? a=some { o with data:=.set (d.filterMap (es'[·]?)) (Z+1+1) M }:=by
      have:=VbA (Obj.putSet (d.filterMap (es'[·]?)) M) N (by rw [putSet_of _ M rfl];rfl);rw [putSet_of _ M rfl] at this;exact this
     have i:=Vbz (s.heap.update a (Obj.putSet es' t')) a (Obj.putSet (d.filterMap (es'[·]?)) M);refine wpAny_storeSet_of N rfl ?_ (by rw [S];exact hz);refine Vay (h true _ (m.trans i) ?_);rw [iN hk];refine ⟨_,_,_,M,Y,hg2,L,rfl,T2,λz=>by rw [r2] at z;omega,by omega,λe he=>?_,λk hk'=>?_,by rw [R,p,r];simp⟩
     .obtain ⟨f,n,g⟩:=U e he;obtain ⟨k,h3,P⟩:=g1 f n;rw [g] at P;exact ⟨k,h3,P.keeps N rfl i⟩
     .obtain ⟨e,n,g⟩:=g2 k hk';obtain ⟨f,h3,P⟩:=I e n;rw [<-P] at g;exact ⟨f,h3,g.keeps N rfl i⟩
    .rw [Bool.eq_false_iff.mpr c];refine Vay (h true _ m ?_);rw [iN hk];refine ⟨_,es',Z+1,t',v,N,L,rfl,D,λz=>?_,by omega,g1,g2,by rw [p,r];simp⟩;have:=of_decide_eq_false (Bool.eq_false_iff.mpr c);omega
   split
   .refine Vax (ZkN hx ?_);exact G
   .refine Vax (Vay ?_);exact G
end
end L2.Sx
namespace L2.Sx
open PySem.SetTable
open Dl (firsts)
def ZdN(kf):∀i,(firsts kf i).length<=i
 | 0=>VaF _
 | i+1=>by
  have:=ZdN kf i;unfold firsts;split
  .omega
  .simp;omega
section
variable{prog:Program} {R:Result->Shared->Prop} {I:Addr} {fp wr:List Addr} {G:Array GenState->Array GenState->Prop} {P:Nat->Value->Prop} {St:Nat->Shared->Prop}
def SetT.keep(hS:SetT prog w h a kss)(ha:∀o,h.get? a=some o->h'.get? a=some o)(hk:∀b o,h.get? b=some o->o.cls=.type "tuple"->h'.get? b=some o):SetT prog w h' a kss:=by
 obtain ⟨o,D,B,t,l,C,i,E,T,A,j,m,g,d⟩:=hS;have y:∀{e q},El prog w h e q->El prog w h' e q:=λ{e q} s=>by
  obtain ⟨x,G,⟨v,c,n,p,u,r⟩,z⟩:=s;exact ⟨x,G,⟨v,c,n,hk x v p u,u,r⟩,z⟩
 exact ⟨o,D,B,t,l,ha o C,i,E,T,A,j,λe F=>let ⟨k,h1,h2⟩:=m e F;⟨k,h1,y h2⟩,λk f=>let ⟨e,h1,h2⟩:=g k f;⟨e,h1,y h2⟩,d⟩
def SetT.cls(hS:SetT prog w h a kss):∀o,h.get? a=some o->o.cls≠.type "tuple":=λg b d=>by
 obtain ⟨o,f,i,t,l,e,c,_⟩:=hS;rw [e] at b;cases b;rw [c.1] at d;exact aB d (by decide)
def ZrE(W:WalksS prog w A.in1 I fp wr G n P St)(S)(hSf:S∉fp)(hwr:∀i s,St i s->∀b∈wr,∀o,s.heap.get? b=some o->o.cls≠.type "tuple")(kf)(hu:A.in1.units<cLine)(h0)(hval:∀i v,P i v->∃x,v=.ref x/\IsTupleKey (intKind prog w) h0 (kf i) x)(hb:n<=16) :
  ∀k i s,n - i=k->i<=n->St i s->SetT prog w s.heap S (firsts kf i)->(∀b o,h0.get? b=some o->o.cls=.type "tuple"->s.heap.get? b=some o) ->
   (∀s',Moved (S::wr) G s s'->SetT prog w s'.heap S (firsts kf n)->R (.ok (.ret .none)) s')->codeAny (model prog w) A (.builtin "set.update.loop" ⟨[.ref S,.ref I],[]⟩) R s:=by
 have q:=λh=>hSf (W.sub _ h);have f:∀b∈wr,b∈S::wr:=λb hb=>Vap _ hb;have H:∀{i s s'},St i s->Moved wr G s s'->∀b o,s.heap.get? b=some o->o.cls=.type "tuple"->s'.heap.get? b=some o:=λ{i s s'} O m b o e c=>m.heap b o (λz=>hwr i s O b z o e c) e;intro k
 induction k with
 | zero=>
  intro i s Y U a M _ E;obtain rfl:i=n:=by omega
  refine VbU F.entry_set_update_loop ?_;rw [VbV F.plain_set_update_loop _];refine Vax (W.done s _ _ a λs' g=>?_);exact Vay (E s' (g.mono f) (M.keep (λo e=>g.heap S o q e) (H a g)))
 | succ k ih=>
  intro i s Y U a M D E;have t:i<n:=by omega
  refine VbU F.entry_set_update_loop ?_;rw [VbV F.plain_set_update_loop _];refine Vax (W.item i s _ _ t a λv s' T y g=>?_);obtain ⟨x,rfl,L⟩:=hval i v T;have C:=M.keep (λo e=>g.heap S o q e) (H a g);have d:=λb o e c=>H a g b o (D b o e c) c;have N:IsTupleKey (intKind prog w) s'.heap (kf i) x:=by
   obtain ⟨o,p,m,Q,c,r⟩:=L;exact ⟨o,p,m,d x o Q c,c,r⟩
  refine Vax (Vbb ?_);unfold setAdd;refine Vbb ?_;refine Vax (wpAny_pyHash_tuple hu N ?_);refine ZuQ hu C N (by have:=ZdN kf i;omega) λb X j K=>?_;have V:∀b o,s'.heap.get? b=some o->o.cls=.type "tuple"->X.get? b=some o:=λb o e c=>by
   rw [j.2 b (λz:b=S=>by subst z;exact C.cls o e c)];exact e
  refine Vay ⟨plainId_quiet F.plain_set_update_loop _,ih (i+1) _ (by omega) t (W.frame _ s' _ _ y (Nat.le_add_right _ _) λb l o e=>?_) K (λb o e c=>V b o (d b o e c) c) λJ B u=>?_⟩
  .rw [j.2 b (λz:b=S=>hSf (by rw [<-z];exact l))];exact e
  .refine E J (Moved.trans W.gtrans ((g.mono f).then_heap (Nat.le_add_right _ _) λb o l e=>?_) B) u;rw [j.2 b (λz:b=S=>l (by rw [z];exact Vao))];exact e
end
open Dl (firsts)
section
variable{prog:Program} {E:Value->Shared->Prop}
abbrev Zgw(led:Bool):Obj:={ cls:=.type "set",dict:=none,data:=.set #[] 0 (.fresh 0 0 led) }
def Zo3{h:Heap}{a:Addr}{led:Bool}(ho:h.get? a=some (Zgw led)):SetT prog w h a [] :=
 ⟨_,#[],0,.fresh 0 0 led,[],ho,⟨rfl,rfl,rfl⟩,rfl,⟨.inl rfl,rfl,rfl,rfl,.nil,λ_ h=>(VbS h).elim,λ_ h=>(VbS h).elim⟩,λ_=>by decide,by decide,λ_ h=>(VbS h).elim,λ_ h=>(VbS h).elim,rfl⟩
set_option maxHeartbeats 8000000 in
def call_set(hh:A.handled=none)(hu:A.units+20<cLine)(hl:s.heap.IsList l items)(hi:∀i v,items[i]?=some v->∃x,v=.ref x/\IsTupleKey (intKind prog w) s.heap (kf i) x)(hb:items.size<=16)(h:∀(h':Heap) (tk:Nat),SetT prog w h' s.heap.objs.size (firsts kf items.size)->(∀b o,b<s.heap.objs.size->s.heap.get? b=some o->h'.get? b=some o)->Q (.ref s.heap.objs.size) { s with heap:=h',toks:=tk }) :
  wpAny (model prog w) A (call (.type "set") [.ref l]) Q E s:=by
 obtain ⟨c,tl,hmro⟩:=F.called_set.mro;have L:=F.called_set.made;have hsub:=F.called_set.sub;refine wpAny_call (codeAny_of_tree ?_);refine Vay ⟨Code.quiet_builtin _ (by decide +kernel),VbU F.entry_type_call ?_⟩;rw [Around.under_plain (weight_type_call_type "set" [.ref l] []) rfl];have h1:=F.called_set.notType;have h2:=F.called_set.canCreate;have hct:=F.typeCall_set_1 (.ref l)
 repeat (any_goals (first | assumption | wp_step))
 refine VaU (code_set_new_1 (.ref l) (E:=E) (Q₁:=λy j=>∃a,y=.ref s.heap.objs.size/\j={ s with heap:=s.heap.push (Zgw a) }) λa=>⟨a,rfl,rfl⟩) λr j q=>?_
 cases r with
 | error e=>exact q
 | ok fl=>
  cases fl with
  | next=>exact q.elim
  | brk=>exact q.elim
  | cont=>exact q.elim
  | ret y=>
   obtain ⟨a,rfl,rfl⟩:=q;have hS:(s.heap.push (Zgw a)).get? s.heap.objs.size=some (Zgw a):=VaE _ rfl;have hT:Shared.TypeIs { s with heap:=s.heap.push (Zgw a) } (.ref s.heap.objs.size) "set":=⟨_,hS,rfl⟩
   have hli:=F.called_set.init.lookup;have hbi:=F.called_set.init.bind (.ref s.heap.objs.size)
   repeat (any_goals (first | assumption | wp_step))
   refine VaU (codeAny_call_builtin (R:=wants (λr k=>r=.none/\∃h' tk,k={ s with heap:=h',toks:=tk }/\SetT prog w h' s.heap.objs.size (firsts kf items.size) /\
     (∀b o,b<s.heap.objs.size->s.heap.get? b=some o->h'.get? b=some o)) E) F.called_set.init.plain F.entry_set_init (check_set_init_1 hT ?_)) λz k d=>?_
   .obtain ⟨ol,u,D,nl,p⟩:=hl;obtain ⟨W,m,P,g⟩:=ol;simp only at D p;subst D;subst p;have G:(s.heap.push (Zgw a)).get? l=some { cls:=.type "list",dict:=m,data:=.seq items nl,slots:=g }:=VaA _ u;have V:=F.sub_list_set;have Y:=F.sub_list_frozenset;have t:(s.heap.push (Zgw a)).IsList l items:=⟨_,G,rfl,nl,rfl⟩;unfold Builtin.«set.__init__» noKeywords Builtin.Frozenset.updateFrom;generalize hPI:pyIter=PI
    wp_walk
    subst hPI;refine Vbt t ?_;refine Vax (wpAny_runValue ?_);have B:l<s.heap.objs.size:=Vae u;have O:A.in1.in1.in1.handled=none:=by simp [hh]
    have C:l≠(s.heap.push (Zgw a)).objs.size:=by
     rw [VaP];exact Vah (Nat.lt_succ_of_lt B)
    have T:s.heap.objs.size∉[(s.heap.push (Zgw a)).objs.size,l]:=by
     rw [VaP];simp only [Vaq,Vb8,VbS,VbT,not_or];exact ⟨Vah (VaQ _),VaD B⟩
    refine ZrE ((Walks.list O _ l C items).toS) s.heap.objs.size T ?hw kf (by show A.units+1+1+1<cLine;omega) s.heap hi hb (items.size - 0) 0 _ (by omega) (VaR _)
     ⟨⟨_,VaE _ rfl,rfl,rfl⟩,(t.push _)⟩ ?hS0 ?hT0 ?hR
    case hw=>
     rintro i X ⟨⟨o',M,S,_⟩,_⟩ b f o'' e' Z;rw [Vb8] at f;subst f;rw [M] at e';cases e';rw [S] at Z;exact aB Z (by decide)
    case hS0=>exact Zo3 (VaA _ hS)
    case hT0=>exact λb o e _=>VaA _ (VaA _ e)
    case hR=>
     intro X H n;obtain ⟨h',g',d',I,U⟩:=X;have eg:g'=s.gens:=H.gens;have ed:d'=s.drawn:=H.drawn;have eo:U=s.os:=H.os;subst eg;subst ed;subst eo;refine Vay ?_;refine Vay ⟨rfl,h',I,rfl,n,λb o f e=>?_⟩;have N:=Vah f;have K:b≠(s.heap.push (Zgw a)).objs.size:=by
      rw [VaP];exact Vah (Nat.lt_succ_of_lt f)
     exact H.heap b o (by simp only [Vaq,Vb8,VbS,VbT,not_or];exact ⟨N,K⟩) (VaA _ (VaA _ e))
   .cases z with
    | error e=>exact d
    | ok fl₂=>
     cases fl₂ with
     | next=>exact d.elim
     | brk=>exact d.elim
     | cont=>exact d.elim
     | ret r=>
      obtain ⟨rfl,h',tk,rfl,n,J⟩:=d
      repeat (any_goals (first | assumption | wp_step))
      exact h _ _ n J
end
end L2.Sx
namespace L2
def Zuk:bootBuiltins "set"=some (.type "set"):=by decide +kernel
def SetN(o:Obj)(n:Nat):Prop:=o.ExactSet/\n<=16/\∃a b t,o.data=.set a b t/\t.fits a.size=true/\a.size=n
def ZsX(K:W.Frag)(H:Hp)(xs:List V)(kss:List (List Int)):Prop:=∀i x,xs[i]?=some x->∃a,x=.ref a/\SqT K H a ((kss.getD i []).map V.int)
def rSet(K:W.Frag):List V->Hp->VK->Prop:=λd H Q=>∃l c b,d=[.ref l]/\SqL K H l c/\ZsX K H c b/\c.length<=16/\∀a o,H a=none->SetN o (Dl.firsts (λi=>b.getD i []) c.length).length->Q (.ref a) (upd H a (objX a o))
def ZtB:List V->Hp->VK->Prop:=λb H Q=>∃a o n,b=[.ref a]/\H a=some (objX a o)/\SetN o n/\Q (.int (n:Nat)) H
section
def Zkt:∀{ns:List Int} {its:List Value},Vals (ns.map V.int) its->ItemsAre (intKind prog w) ns its
 | [],_,.nil=>.nil
 | n::r,_,.cons h t=>by
  obtain ⟨a,rfl⟩:=h;exact .cons (intKind_is _ _ _ _) (Zkt t)
def Zno:∀{xs:List V} {us:List Value},Vals xs us->∀{i:Nat} {u:Value},us[i]?=some u->∃x,xs[i]?=some x/\RelV x u
 | _,_,.cons h _,0,_,e=>⟨_,rfl,by cases e;exact h⟩
 | _,_,.cons _ t,i+1,_,e=>Zno t (by simpa using e)
 | _,_,.nil,i,_,e=>by simp at e
def Zkz:∀{xs:List V} {us:List Value},Vals xs us->us.length=xs.length
 | _,_,.nil=>rfl
 | _,_,.cons _ t=>by simp [Zkz t]
def ZlM(hr:Room k X.A):Zef X (.type "set") (rSet X.K):=by
 intro y s Y H vs us Q I F ⟨l,xs,h,e,S,N,g,W⟩;subst e;cases F with
 | cons r1 rr=>
  cases rr;cases r1;obtain ⟨its,r,⟨o,n,e1,e2,_,e3⟩,_⟩:=I.list S;have c:=Zkz r;refine L2.Sx.call_set (kf:=λi=>h.getD i []) hr.hd (by have:=hr.un;omega) ⟨o,e1,e2,n,e3⟩ (λi v P=>?_) (by simpa [c] using g) λh' Z hS d=>?_
  .obtain ⟨x,U,rx⟩:=Zno r (by simpa using P);obtain ⟨a,rfl,z⟩:=N i x U;cases rx;obtain ⟨C,M,⟨p,p1,D,m,O⟩,_⟩:=I.tuple z;exact ⟨a,rfl,p,C.toArray,m,p1,D,O,by simpa using Zkt M⟩
  .have E:∀b u,s.heap.get? b=some u->h'.get? b=some u:=λb u e=>d b u (Vae e) e;obtain ⟨p,J,V,t,B,G,j,L,T,h7,w,_,_,f⟩:=hS;have q:B.length<=t.mask:=by rcases T.ms with e | e<;>rw [e]<;>omega
   have R:=I.laid (t':=Z) E (VaF _) (ZrN G);refine ⟨.ref s.heap.objs.size,_,R,rfl,W _ p (I.hok.fresh (VaF _)) ⟨j,?_,J,V,t,L,T.fits q,?_⟩⟩
   .rw [<-c];have e:=f;rw [VaK] at e;omega
   .rw [T.esize,f,<-c];simp
def Zna:Zef X (.builtin "len") ZtB:=by
 intro c s Y H r l Q I g ⟨a,o,n,e,i,⟨b,f,p,m,t,j,k,d⟩,q⟩;subst e;cases g with
 | cons r1 rr=>
  cases rr;cases r1;have h:=ZnD I.hok i;refine call_len_set h b j k (by omega) ?_;rw [d];exact ⟨.int (n:Nat),H,I.tok _,⟨_,rfl⟩,q⟩
end
end L2
namespace L2.Ds
open Dl
section
def Zgi{F:Hp}{xs:List V}{ds:List D}{ns:List Int}(h:Rps K mg F xs ds)(e:intsOf ds=some ns):xs=ns.map V.int:=by
 cases h with
 | nil=>cases e;rfl
 | @cons x xs d ds h r=>
  cases d with
  | int n=>
   cases q:intsOf ds with
   | none=>unfold intsOf at e;rw [q] at e;cases e
   | some ms=>
    unfold intsOf at e;rw [q] at e;cases e;cases h;rw [Zgi r q];rfl
  | _=>cases e
def Zj6{F H:Hp}(s:Same F H){xs:List V}{ds:List D}{ks:List (List Int)}(h:Rps K mg F xs ds)(e:keysOf ds=some ks):ZsX K H xs ks:=by
 cases h with
 | nil=>intro i x h;simp at h
 | @cons x xs d ds h r=>
  cases d with
  | tup es=>
   cases q:intsOf es with
   | none=>unfold keysOf at e;rw [q] at e;cases e
   | some k=>
    cases q2:keysOf ds with
    | none=>unfold keysOf at e;rw [q,q2] at e;cases e
    | some kr=>
     unfold keysOf at e;rw [q,q2] at e;cases e;intro i x a;cases i with
     | zero=>
      cases a;cases h with
      | tup ht rt=>
       rw [Zgi rt q] at ht;exact ⟨_,rfl,Zau s ht⟩
     | succ i=>exact Zj6 s r q2 i x (by simpa using a)
  | _=>cases e
end
section
variable {p p1 q p2:Pos}
def ZnR(hr:Room k X.A)(hgl:Gl X "len")(hml:X.mg "len"=none)(hgs:Gl X "set")(hms:X.mg "set"=none)(he:DE X E e te me)(h1:starEach [e] X.env=[(false,eval e X.env)]:=by rfl)(h2:starEach [Expr.Call (.Name "set" q) [e] [] p2] X.env=[(false,eval (.Call (.Name "set" q) [e] [] p2) X.env)]:=by rfl) :
  DE X E (.Call (.Name "len" p) [.Call (.Name "set" q) [e] [] p2] [] p1) (tCB ZtB (Zbq (tCB (rSet X.K) (Zbq te tNil)) tNil)) (o1 Zju me):=by
 refine ⟨ZjR Zna hgl hml ZjF (Zbo (ZiL (ZlM hr) hgs hms Zuk (Zbo he.p Zcv h1) (by decide) (by decide) h1 rfl) Zcv h2) (by decide) (by decide) h2 rfl,?_⟩;intro h j F H Y Z m;refine (he.s h j F H Y Z m).bind λb c x g d n=>?_;cases g with
 | lst ds=>
  cases n with
  | lst hl rl=>
   rename_i l xs;show Ans X.mg E (Rp X.K X.mg) b c (match keysOf ds with | some ks=>if ds.length<=16 then .ok (.int ((firsts (λi=>ks.getD i []) ds.length).length:Nat)) else .bad | none=>.bad) _
   cases hk:keysOf ds with
   | none=>trivial
   | some ks=>
    by_cases h16:ds.length<=16
    .show Ans X.mg E (Rp X.K X.mg) b c (if ds.length<=16 then .ok (.int ((firsts (λi=>ks.getD i []) ds.length).length:Nat)) else .bad) _
     rw [iP h16];intro Q q;refine ⟨_,_,ks,rfl,d.s.seq hl,Zj6 d.s rl hk,by rw [rl.length];exact h16,λa o f r=>⟨a,o,_,rfl,Zae,r,?_⟩⟩;rw [rl.length];exact q _ _ _ (.new d.s f _) (.int _)
    .show Ans X.mg E (Rp X.K X.mg) b c (if ds.length<=16 then .ok (.int ((firsts (λi=>ks.getD i []) ds.length).length:Nat)) else .bad) _
     rw [iN h16];trivial
 | _=>trivial
end
end L2.Ds
namespace L2
structure FunD(K:W.Frag)(x qual:Str)(st:Stmt)(dV:Value)(f:Addr)(fd:FuncData):Prop where
 ex:∃(oc:Value) (od:Option Addr) (kV doc pm:Value) (an:Option Addr) (cdv ct:Value) (osl:Array (Option Value)),
  fd=W.fnOf x qual (ZcQ st) (Zbd st) (Zag st) dV kV doc pm an cdv ct/\K.lookup f=some ⟨oc,od,.func fd,osl⟩/\W.codeIn K cdv qual=true
end L2
namespace L2.Ds
open Dl
section
variable {f:Addr} {dV:Value}
def okDF{st:Stmt}{mb:MS}(F:FunD K x x st dV f fd)(S:ZaE N ps (Zag st))(h:∀(cdv:Value) (A:Around) (outer:List Env) (s:Shared) (H:Hp) (E:XK),Room k (A.deeper (envOfC x (Zag st) s.heap.objs.size f cdv))->∃t,DSs (cxOf (CXR P w) P w K mg base N x (Zag st) f cdv A outer s H E) E (Zbd st) t mb) :
  FnOk P w K mg base (CXR P w) (k+1) f fd ps (spD K mg ps.length (fn N.length mb)):=by
 obtain ⟨U,T,Y,B,V,W,cdv,ct,M,rfl,D,n⟩:=F.ex;refine ZoO D n S (λy H Q E q=>q.1) λA outer s H y Q E L m=>?_;obtain ⟨t,r⟩:=h cdv A outer s H E L;refine ⟨t,r.p,?_⟩;obtain ⟨_,o,u,R,O,i,a,b⟩:=m;have z:=r.s o H o H (start N y) (ev0 N.length u) (ZfL R O);unfold fn at i a b;cases e:mb (ev0 N.length u) with
 | ok fl=>
  rw [e] at z i a b;cases fl with
  | nx Z=>exact z _ λl j X _ G=>a .non rfl l j .non G.g .non
  | rt d=>exact z _ λl j v g J=>a d rfl l j v g J
  | bk Z=>exact aB rfl i
  | ct Z=>exact aB rfl i
 | ex c=>
  rw [e] at z b;exact z _ λl j C g I=>b c rfl l j C g I
 | bad=>rw [e] at i;exact aB rfl i
end
end L2.Ds
namespace Dl
def mkS(l:List Nat):Str:=⟨l.toArray⟩
def cpL(x:Str):List Nat:=x.cps.toList
def bStr:List D->Res D
 | [.int i]=>if i.natAbs.log2<1920 then .ok (.str (Str.ofString (toString i))) else .bad
 | _=>.bad
def digB(c:Nat):Bool:=decide (48<=c)&&decide (c<=57)
def digV(l:List Nat):Nat:=l.foldl (λa c=>a*10+(c - 48)) 0
def figL(l:List Nat):Option Nat:=if l≠[]/\l.all digB=true then some (digV l) else none
def intL:List Nat->Option Int
 | []=>none
 | c::r=>if c=45 then (figL r).map (λn:Nat=>-(n:Int)) else (figL (c::r)).map λn:Nat=>(n:Int)
def Zou:List D->Res D
 | [.str x]=>if x.length<=640 then ofO ((intL (cpL x)).map D.int) else .bad
 | _=>.bad
def Zn9:List D->Res D
 | [.lst xs]=>.ok (.int xs.length)
 | [.tup xs]=>.ok (.int xs.length)
 | [.str x]=>if x.length<=LIM then .ok (.int x.length) else .bad
 | _=>.bad
def sD(f:Str->D->Res D)(a b:ME):ME:=λZ=>(a Z).bind λx=>match x with
 | .str z=>(b Z).bind (f z)
 | _=>.bad
def Zg9(x:Str):D->Res D
 | .str y=>.ok (.bl ((cpL x).take (cpL y).length==cpL y))
 | _=>.bad
def Zbc(c:Nat):List Nat->List (List Nat)
 | []=>[[]]
 | x::r=>if x=c then []::Zbc c r else match Zbc c r with
  | []=>[[x]]
  | w::ws=>(x::w)::ws
def Zd6(x:Str):D->Res D
 | .str y=>(match cpL y with
  | [c]=>if x.length<=LIM then .ok (.lst ((Zbc c (cpL x)).map λl=>.str (mkS l))) else .bad
  | _=>.bad)
 | _=>.bad
def Zdu(c:Nat):List Nat->Option (List Nat×List Nat)
 | []=>none
 | x::r=>if x=c then some ([],r) else (Zdu c r).map λp=>(x::p.1,p.2)
def ZlV(x:Str):D->Res D
 | .str y=>(match cpL y with
  | [c]=>if x.length<=LIM then (match Zdu c (cpL x) with
   | some (a,b)=>.ok (.tup [.str (mkS a),.str y,.str (mkS b)])
   | none=>.ok (.tup [.str x,.str Str.empty,.str Str.empty])) else .bad
  | _=>.bad)
 | _=>.bad
def txts:List D->Option (List Str)
 | []=>some []
 | .str x::r=>(txts r).map (x::·)
 | _::_=>none
def Zaq(sep:List Nat):List (List Nat)->List Nat
 | []=>[]
 | [x]=>x
 | x::y::r=>x++sep++Zaq sep (y::r)
def sumL(sep:Nat)(ts:List Str):Nat:=(ts.map (·.length)).sum+ts.length*sep
def Zjj(x:Str)(ds:List D):Res D:=match txts ds with
 | some ts=>if sumL x.length ts<=LIM then .ok (.str (mkS (Zaq (cpL x) (ts.map cpL)))) else .bad
 | none=>.bad
def Zfw(x:Str):D->Res D
 | .lst ds=>Zjj x ds
 | _=>.bad
def joinRev(x:Str)(j:Nat):ME:=λZ=>(getO Z[j]?).bind λa=>Zjj x a.reverse
def dInT:D->D->Res D
 | .str a,.str b=>(match cpL a with
  | [c]=>.ok (.bl ((cpL b).contains c))
  | _=>.bad)
 | _,_=>.bad
def ZkW:D->D->Res D
 | .str a,.str b=>(match cpL a with
  | [c]=>.ok (.bl (!(cpL b).contains c))
  | _=>.bad)
 | _,_=>.bad
def cutS(x:Str)(lo hi:Option Int):Res D:=if x.length<=LIM then (match lo,hi with
 | some i,none=>if 0<=i then .ok (.str (mkS ((cpL x).drop i.toNat))) else .bad
 | none,some j=>if 0<=j then .ok (.str (mkS ((cpL x).take j.toNat))) else .bad
 | _,_=>.bad) else .bad
def Zwp(x:D)(lo hi:Option Int):Res D:=match x with
 | .str x=>cutS x lo hi
 | _=>.bad
def cutT(a:ME)(lo hi:Ev->Res (Option Int)):ME:=λZ=>(a Z).bind λx=>(lo Z).bind λl=>(hi Z).bind λh=>Zwp x l h
def Zt5:D->Res (List D)
 | .str x=>if (cpL x).all (·<128)=true then .ok ((cpL x).map λc=>.str (mkS [c])) else .bad
 | _=>.bad
def ivT(a:ME):MI:=λZ=>(a Z).bind Zt5
def nOw:Ev->Bool
 | []=>true
 | .ow _::_=>false
 | _::r=>nOw r
def Zcs(i j:Nat)(nt:MB)(Z:Ev):List D->List (List D)->List D->Res (List (List D))
 | [],gs,g=>.ok (gs++[g])
 | d::r,gs,g=>(noEx (nt ((Z.set i .no).set j (.im d)))).bind λb=>if b=true then Zcs i j nt Z r (gs++[g]) [] else Zcs i j nt Z r gs (g++[d])
def grp(i j k:Nat)(nt:MB):MS:=λZ=>match Z[k]? with
 | some (.im (.lst ds))=>if (nOw Z&&decide (i<Z.length)&&decide (j<Z.length)&&decide (ds.length<1000))=true then (Zcs i j nt Z ds [] []).bind λa=>.ok (.rt (.lst (a.map .lst))) else .bad
 | _=>.bad
def Zeg(x):mkS (cpL x)=x:=by
 cases x;simp [mkS,cpL]
def ZaR(l):cpL (mkS l)=l:=by simp [mkS,cpL]
def ZcO(x):(cpL x).length=x.length:=by simp [cpL,Str.length]
def ZhH(x y):cpL (x++y)=cpL x++cpL y:=by
 show (x.cps++y.cps).toList=_;rw [Array.toList_append];rfl
def ZmJ(x y):mkS x++mkS y=mkS (x++y):=by
 rw [<-Zeg (mkS x++mkS y),ZhH,ZaR,ZaR]
def ZcP(l):(mkS l).length=l.length:=by rw [<-ZcO,ZaR]
def ZqN(h:mkS a=mkS b):a=b:=by rw [<-ZaR a,h,ZaR]
def ZfS{c:Nat}:∀{w:List Nat},c∉w->Zbc c w=[w]
 | [],_=>rfl
 | x::r,h=>by
  have a:¬x=c:=λe=>h (by rw [e];exact Vao);have b:=ZfS λe=>h (Vap _ e);unfold Zbc;rw [iN a,b]
def ZgO{c:Nat}(rest):∀{w:List Nat},c∉w->Zbc c (w++c::rest)=w::Zbc c rest
 | [],_=>by show Zbc c (c::rest)=_;rw [Zbc,iP rfl]
 | x::r,h=>by
  have a:¬x=c:=λe=>h (by rw [e];exact Vao);have b:=ZgO rest λe=>h (Vap _ e);show Zbc c (x::(r++c::rest))=_;rw [Zbc,iN a,b]
def ZaO{c:Nat}:∀{ws:List (List Nat)},ws≠[]->(∀w∈ws,c∉w)->Zbc c (Zaq [c] ws)=ws
 | [],h,_=>aB rfl h
 | [w],_,h=>ZfS (h w Vao)
 | w::v::r,_,h=>by
  have ih:=ZaO (by simp) λu a=>h u (Vap _ a);show Zbc c (w++[c]++Zaq [c] (v::r))=_;rw [VbJ];show Zbc c (w++c::Zaq [c] (v::r))=_;rw [ZgO _ (h w Vao),ih]
end Dl
namespace L2.Ds
open Dl
def Zht{y:Str}{c:Nat}(h:cpL y=[c]):y=⟨#[c]⟩:=by
 rw [<-Zeg y,h];rfl
def ZdZ(h:n<=LIM):n<=sizeLine:=Vak h (by decide)
section
def Zmh:CallD K mg (λxs H Q=>∃i,xs=[.int i]/\i.natAbs.log2<1920/\Q (.str (toString i)) H) bStr:=by
 intro E F H xs b s r;unfold bStr;split
 .obtain ⟨x,rfl,a⟩:=r.one;cases a;split
  .next h=>exact .ret s (.str _) λQ q=>⟨_,rfl,h,q⟩
  .trivial
 .trivial
def ZiP(h:figL l=some n):PySem.NumText.AllDigits l/\l≠[]/\PySem.NumText.digitsVal l=n:=by
 unfold figL at h;split at h
 .next e=>
  cases h;refine ⟨λc a=>?_,e.1,rfl⟩;have:=Vbp.mp e.2 c a;unfold digB at this;simpa using this
 .cases h
def Znm{n:Int}(h:intL (cpL x)=some n)(hl:x.length<=640):PySem.intText? x=some n:=by
 cases e:cpL x with
 | nil=>rw [e] at h;cases h
 | cons c r=>
  rw [e] at h;replace h:(if c=45 then (figL r).map (λn:Nat=>-(n:Int)) else (figL (c::r)).map λn:Nat=>(n:Int))=some n:=h
  split at h
  .next f=>
   subst f;cases ef:figL r with
   | none=>rw [ef] at h;cases h
   | some m=>
    rw [ef] at h;cases h;obtain ⟨b,d,a⟩:=ZiP ef;rw [PySem.intText_neg e b d (by omega),a]
  .cases ef:figL (c::r) with
   | none=>rw [ef] at h;cases h
   | some m=>
    rw [ef] at h;cases h;obtain ⟨b,d,a⟩:=ZiP ef;rw [<-e] at b d a;have:=PySem.intText_digits b d (by omega);rw [this];exact Vaw (λk:Nat=>some (k:Int)) a
def Zs9:List V->Hp->VK->Prop:=λa H Q=>∃x n,a=[.str x]/\PySem.intText? x=some n/\x.length<=640/\Q (.int n) H
def Zlu:Zef X (.type "int") Zs9:=by
 intro a s Y H d e Q I r h;obtain ⟨x,n,rfl,b,c,q⟩:=h;obtain ⟨u,rfl,t,rfl⟩:=vals1 r;exact W.KIN.call_text b c ⟨.int _,H,I.tok _,⟨_,rfl⟩,q⟩
def Zle:CallD K mg Zs9 Zou:=by
 intro E F H b c s r;unfold Zou;split
 .obtain ⟨x,rfl,a⟩:=r.one;cases a;split
  .next z h=>
   cases e:intL (cpL z) with
   | none=>trivial
   | some n=>exact .ret s (.int _) λQ q=>⟨_,n,rfl,Znm e h,h,q⟩
  .trivial
 .trivial
def ZkK:CallD K mg (λxs H Q=>∃x n,xs=[x]/\LenV K x H n/\Q (.int n) H) Zn9:=by
 intro E F H xs b s r;unfold Zn9;split
 .obtain ⟨x,rfl,a⟩:=r.one;cases a with
  | lst h q=>exact .ret s (.int _) λQ z=>⟨_,_,rfl,.inl ⟨_,s.seq h,q.length.symm⟩,z⟩
 .obtain ⟨x,rfl,a⟩:=r.one;cases a with
  | tup h q=>exact .ret s (.int _) λQ z=>⟨_,_,rfl,.inr ⟨_,Zau s h,q.length.symm⟩,z⟩
 .obtain ⟨x,rfl,a⟩:=r.one;cases a;split
  .next h=>exact .ret s (.int _) λQ z=>⟨_,_,rfl,⟨ZdZ h,rfl⟩,z⟩
  .trivial
 .trivial
def SmD(K:W.Frag)(mg:Str->Option Value)(r:V->List V->Hp->VK->Prop)(f:Str->D->Res D):Prop:=∀E F H z y a,Same F H->Rp K mg F y a->Ans mg E (Rp K mg) F H (f z a) (r (.str z) [y] H)
def ZvH(hf:SmD K mg r f)(ho:SE K mg E to mo)(ha:SE K mg E ta ma):SE K mg E (tBM K "str" r to (Zbq ta tNil)) (sD f mo ma):=by
 intro a b F H Y Z c;refine (ho a b F H Y Z c).bind λh l x g n m=>?_;cases g with
 | str z=>
  cases m;refine Ans.imp ?_ λQ q=>⟨rfl,q⟩;exact (ha a b h l Y Z (c.gr n)).bind λk e y d j i=>hf E k e z y d j.s i
 | _=>trivial
def Zng:V->List V->Hp->VK->Prop:=λx a H Q=>∃z y,x=.str z/\a=[.str y]/\Q (.bl (decide (0+y.length<=z.length)&&Builtin.Str.subAt z y 0)) H
def ZhU:MtR X "str.startswith" Zng:=by
 intro a s Y H x f v e Q I d c h;obtain ⟨z,y,rfl,rfl,q⟩:=h;obtain ⟨u,rfl,t,rfl⟩:=vals1 c;obtain ⟨b,rfl⟩:=d;exact call_gives PySem.F.slot_str_startswith (Vbh s z b) PySem.F.entry_str_startswith (PySem.F.args_str_startswith_2 _ _) (gives_str_startswith z y b t) ⟨.bl _,H,I,rfl,q⟩
def Zlm(z y):(decide (0+y.length<=z.length)&&Builtin.Str.subAt z y 0)=((cpL z).take (cpL y).length==cpL y):=by
 rw [StrLaws.subAt_eq,Vbu,ZcO];show (decide (0+y.length<=z.length)&&((cpL z).take y.length==cpL y))=_;cases h:((cpL z).take y.length==cpL y) with
 | false=>rw [Bool.and_false]
 | true=>
  have e:=Vaw List.length (eq_of_beq h);rw [VaY,ZcO,ZcO] at e;simp only [Bool.and_true,Vcb];omega
def ZgI:SmD K mg Zng Zg9:=by
 intro E F H z y a s b;cases a with
 | str w=>
  cases b;exact .ret s (.bl _) λQ q=>⟨z,w,rfl,rfl,by rw [Zlm];exact q⟩
 | _=>trivial
def Zpw:V->List V->Hp->VK->Prop:=λx a H Q=>∃z c,x=.str z/\a=[.str ⟨#[c]⟩]/\z.length<=LIM/\∀l,H l=none->Q (.ref l) (upd H l (.lst ((Txt.split z ⟨#[c]⟩).map V.str)))
def Zil:∀l,Vals ((l.map (·.1)).map V.str) (strValues l)
 | []=>.nil
 | (x,t)::r=>.cons ⟨t,rfl⟩ (Zil r)
def split_len(x)(c):(Txt.split x ⟨#[c]⟩).length<=x.length+1:=by
 have h:=Vaw Str.length (StrLaws.join_split x ⟨#[c]⟩);have f:∀d,d.length<=(Str.join ⟨#[c]⟩ d).length+1:=by
  intro d
  induction d with
  | nil=>exact VaR _
  | cons a r ih=>
   cases r with
   | nil=>exact Nat.le_add_left _ _
   | cons b r=>
    show (b::r).length+1<=(a++⟨#[c]⟩++Str.join ⟨#[c]⟩ (b::r)).length+1;have e:(a++(⟨#[c]⟩ : Str)++Str.join ⟨#[c]⟩ (b::r)).length=a.length+1+(Str.join ⟨#[c]⟩ (b::r)).length:=by
     show (a.cps++#[c]++(Str.join ⟨#[c]⟩ (b::r)).cps).size=_;rw [Array.size_append,Array.size_append];rfl
    omega
 have:=f (Txt.split x ⟨#[c]⟩);rw [h] at this;exact this
def ZhG(x):∀ts,cpL (Str.join x ts)=Zaq (cpL x) (ts.map cpL)
 | []=>rfl
 | [a]=>rfl
 | a::b::r=>by
  show cpL (a++x++Str.join x (b::r))=cpL a++cpL x++Zaq (cpL x) ((b::r).map cpL);rw [ZhH,ZhH,ZhG x (b::r)]
def ZoS(z)(c):Txt.split z ⟨#[c]⟩≠[]:=by
 unfold Txt.split;split
 .simp
 .split
  .simp
  .rw [StrLaws.partsBetween_eq];obtain ⟨p,q,e⟩:=StrLaws.partsFrom_ne z (⟨#[c]⟩ : Str).length 0 (Builtin.Str.occurrences z ⟨#[c]⟩ 0 z.length (z.length+1));rw [e];simp
def Zof(z)(c):(Txt.split z ⟨#[c]⟩).map cpL=Zbc c (cpL z):=by
 have h:=Vaw cpL (StrLaws.join_split z ⟨#[c]⟩);rw [ZhG] at h;rw [<-h];refine (ZaO (by simpa using ZoS z c) λw a=>?_).symm;obtain ⟨p,b,rfl⟩:=Vbo.mp a;exact StrLaws.split_free z c p b
def ZdO:MtR X "str.split" Zpw:=by
 intro f s Y H x p v n Q I m j h;obtain ⟨z,c,rfl,rfl,i,q⟩:=h;obtain ⟨u,rfl,t,rfl⟩:=vals1 j;obtain ⟨a,rfl⟩:=m;have g:(Txt.split z ⟨#[c]⟩).length<=sizeLine:=Vak (split_len z c) (Vak (VbK i) (by decide));have d:∀l k,l.map (·.1)=Txt.split z ⟨#[c]⟩->EP X f Y Q (.ref s.heap.objs.size) { s with toks:=k,heap:=s.heap.push { cls:=.type "list",data:=.seq (strValues l).toArray } }:=λl k e=>
  ⟨.ref _,_,I.laid (o:=.lst ((Txt.split z ⟨#[c]⟩).map V.str)) (λb o e=>VaA _ e) (VaF _) ⟨by rw [VaO];exact g,strValues l,0,by rw [<-e];exact Zil l,VaE _ rfl⟩,rfl,q _ (I.hok.fresh (VaF _))⟩
 cases h1:(decide (z.length<(⟨#[c]⟩ : Str).length)||decide (Builtin.Str.strKind z<Builtin.Str.strKind ⟨#[c]⟩))
 .cases hf:(Builtin.Str.occurrences z ⟨#[c]⟩ 0 z.length (z.length+1)).isEmpty
  .have e:Txt.split z ⟨#[c]⟩=Builtin.Str.partsBetween z (Builtin.Str.occurrences z ⟨#[c]⟩ 0 z.length (z.length+1)) (⟨#[c]⟩ : Str).length:=(iN (ne_true_of_eq_false h1)).trans (iN (ne_true_of_eq_false hf));refine call_meets PySem.F.slot_str_split (Vbh s z a) PySem.F.entry_str_split (PySem.F.args_str_split_2 _ _) (meets_str_split_sep z ⟨#[c]⟩ a t h1 rfl hf (ZdZ i) (by rw [<-e];exact g)) ?_;rw [strsFrom_eq];exact d (numbered s.toks _) _ ((numbered_texts _ _).trans e.symm)
  .exact call_meets PySem.F.slot_str_split (Vbh s z a) PySem.F.entry_str_split (PySem.F.args_str_split_2 _ _) (meets_str_split_not_found z ⟨#[c]⟩ a t h1 rfl hf) (d [(z,a)] _ ((iN (ne_true_of_eq_false h1)).trans (iP hf)).symm)
 .exact call_meets PySem.F.slot_str_split (Vbh s z a) PySem.F.entry_str_split (PySem.F.args_str_split_2 _ _) (meets_str_split_cannot_occur z ⟨#[c]⟩ a t h1) (d [(z,a)] _ (iP h1).symm)
def Zku{F:Hp}:∀ts:List Str,Rps K mg F (ts.map V.str) ((ts.map cpL).map λl=>D.str (mkS l))
 | []=>.nil
 | t::r=>.cons (by show Rp K mg F (V.str t) (D.str (mkS (cpL t)));rw [Zeg];exact .str t) (Zku r)
def Zc2:SmD K mg Zpw Zd6:=by
 intro E F H z y a s f;cases a with
 | str w=>
  cases f;unfold Zd6;dsimp only;split
  .next c e=>
   split
   .next b=>
    have d:=Zht e;subst d;refine Zdx s (λp g=>?_) λQ q=>⟨z,c,rfl,rfl,b,q⟩;rw [<-Zof];exact .lst (SqL.of Zae) (Zku _)
   .trivial
  .trivial
 | _=>trivial
def rJoin(K:W.Frag):V->List V->Hp->VK->Prop:=λx b H Q=>∃z l a,x=.str z/\b=[.ref l]/\SqL K H l (a.map V.str)/\sumL z.length a<=LIM/\Q (.str (Str.join z a)) H
def Zgj:∀{ts:List Str} {us:List Value},Vals (ts.map V.str) us->∃l,strValues l=us/\l.map (·.1)=ts
 | [],_,h=>by cases h;exact ⟨[],rfl,rfl⟩
 | t::r,_,h=>by
  cases h with
  | cons h1 h2=>
   obtain ⟨k,rfl⟩:=h1;obtain ⟨l,rfl,e⟩:=Zgj h2;exact ⟨(t,k)::l,rfl,by rw [<-e];rfl⟩
def Zh8{z:Str}{ts:List Str}(h:sumL z.length ts<=LIM):Builtin.Str.tooLong (ts.toArray.foldl (·+·.length+z.length) 0)=false:=by
 rw [StrLaws.joinTotal];exact Vac (Nat.not_lt.mpr (ZdZ h))
def ZcR:MtR X "str.join" (rJoin X.K):=by
 intro c s Y H x y v w Q I n j h;obtain ⟨z,a,p,rfl,rfl,g,m,q⟩:=h;obtain ⟨u,rfl,f⟩:=vals1 j;cases f;obtain ⟨t,rfl⟩:=n;obtain ⟨o,r,i,_⟩:=I.list g;obtain ⟨l,rfl,d⟩:=Zgj r;have b:=Zh8 m;rw [<-d] at b;refine call_meets PySem.F.slot_str_join (Vbh s z t) PySem.F.entry_str_join (PySem.F.args_str_join_2 _ _) (meets_str_join_list z t a l b) ⟨i.isList,?_⟩;refine post_join l ⟨joinFit_length b,λe k=>?_⟩;refine ⟨.str _,H,I.tok _,⟨e,rfl⟩,?_⟩;unfold Txt.join;rw [StrLaws.glued_eq_join,d];exact q
def Zj8{F:Hp}:∀{xs:List V} {ds:List D} {ts:List Str},Rps K mg F xs ds->txts ds=some ts->xs=ts.map V.str
 | _,[],_,r,e=>by cases r;cases e;rfl
 | _,d::ds,ts,r,e=>by
  cases r with
  | cons h r=>
   cases d with
   | str x=>
    have a:(txts ds).map (x::·)=some ts:=e;cases q:txts ds with
    | none=>rw [q] at a;cases a
    | some us=>
     rw [q] at a;cases a;cases h;rw [Zj8 r q];rfl
   | _=>cases e
def ZiJ{F:Hp}{w:VK->Prop}(s:Same F H)(r:Rps K mg F xs ds)(h:∀ts,xs=ts.map V.str->sumL z.length ts<=LIM->∀Q,Q (.str (Str.join z ts)) H->w Q):Ans mg E (Rp K mg) F H (Zjj z ds) w:=by
 unfold Zjj;split
 .next ts e=>
  split
  .next b=>
   have a:=Zj8 r e;refine .ret s ?_ λQ q=>h ts a b Q q;rw [<-ZhG,Zeg];exact .str _
  .trivial
 .trivial
def ZbQ:SmD K mg (rJoin K) Zfw:=by
 intro E F H z y a s e;cases a with
 | lst ds=>
  cases e with
  | lst h r=>
   exact ZiJ s r λb c d Q q=>⟨z,_,b,rfl,rfl,by rw [<-c];exact s.seq h,d,q⟩
 | _=>trivial
def Zu8:V->List V->Hp->VK->Prop:=λx d H Q=>∃z c,x=.str z/\d=[.str ⟨#[c]⟩]/\z.length<=LIM/\∀l,H l=none->Q (.ref l) (upd H l (.tup (match Zdu c (cpL z) with
 | some (a,b)=>[.str (mkS a),.str ⟨#[c]⟩,.str (mkS b)]
 | none=>[.str z,.str Str.empty,.str Str.empty])))
def ZgT{c:Nat}:∀{l:List Nat},Zdu c l=none->c∉l
 | [],_=>by simp
 | x::r,h=>by
  unfold Zdu at h;split at h
  .cases h
  .next b=>
   cases e:Zdu c r with
   | none=>
    have:=ZgT e;intro a;rcases Vaq.mp a with z | z
    .exact b z.symm
    .exact this z
   | some p=>rw [e] at h;cases h
def Zfa{c:Nat}:∀{l a b:List Nat},Zdu c l=some (a,b)->c∉a/\l=a++c::b
 | [],_,_,h=>by cases h
 | x::r,a,b,h=>by
  unfold Zdu at h;split at h
  .next d=>cases h;exact ⟨by simp,by rw [d];rfl⟩
  .next d=>
   cases e:Zdu c r with
   | none=>rw [e] at h;cases h
   | some p=>
    rw [e] at h;cases h;obtain ⟨g,i⟩:=Zfa e;refine ⟨λf=>?_,by rw [i];rfl⟩;rcases Vaq.mp f with z | z
    .exact d z.symm
    .exact g z
def ZlX(x)(c i):StrLaws.At x ⟨#[c]⟩ x.length i↔(cpL x)[i]?=some c:=StrLaws.subAt_one x c i
def Zp5(x)(i j):Builtin.Str.strSub x i j=mkS (((cpL x).drop i).take (j - i)):=by
 exact Vaw mkS (StrLaws.strSub_toList x i j)
def ZsJ:MtR X "str.partition" Zu8:=by
 intro f s Y H x M v L Q I K J h;obtain ⟨z,c,rfl,rfl,B,q⟩:=h;obtain ⟨u,rfl,t,rfl⟩:=vals1 J;obtain ⟨w,rfl⟩:=K;refine call_meets PySem.F.slot_str_partition (Vbh s z w) PySem.F.entry_str_partition (PySem.F.args_str_partition_2 _ _) (meets_str_partition z ⟨#[c]⟩ w t rfl (ZdZ B)) ?_;have m:∀(k:Nat) (j:List V) (d:List Value),Vals j d->j.length<=3->(∀l,H l=none->Q (.ref l) (upd H l (.tup j)))->EP X f Y Q (.ref s.heap.objs.size) { s with toks:=k,heap:=s.heap.push { cls:=.type "tuple",data:=.seq d.toArray } }:=λk j d r E q=>
  ⟨.ref _,_,I.laid (o:=.tup j) (λb o e=>VaA _ e) (VaF _) ⟨Vak E (by decide),d,r,IsTup.new _ _⟩,rfl,q _ (I.hok.fresh (VaF _))⟩
 rcases StrLaws.occ_head z ⟨#[c]⟩ 1 (VaF 1) with ⟨e,hn⟩ | ⟨i,r,e,ha,hn⟩
 .rw [e];have G:Zdu c (cpL z)=none:=by
   cases ep:Zdu c (cpL z) with
   | none=>rfl
   | some p=>
    obtain ⟨_,g⟩:=Zfa ep;refine aB ((ZlX z c p.1.length).mpr ?_) (hn _);rw [g];simp
  rw [G] at q;exact m _ [.str z,.str Str.empty,.str Str.empty] [.str z w,.str Str.empty s.toks,.str Str.empty s.toks] (.cons ⟨_,rfl⟩ (.cons ⟨_,rfl⟩ (.cons ⟨_,rfl⟩ .nil))) (by simp) q
 .rw [e];have n:=(ZlX z c i).mp ha;cases ep:Zdu c (cpL z) with
  | none=>exact aB (Va4 n) (ZgT ep)
  | some p=>
   rw [ep] at q;obtain ⟨a,b⟩:=p;obtain ⟨y,g⟩:=Zfa ep;have A:i=a.length:=by
    rcases Nat.lt_trichotomy i a.length with l | l | l
    .rw [g,Va2 l] at n;exact aB (Va4 n) y
    .exact l
    .refine aB ((ZlX z c a.length).mpr ?_) (hn _ l);rw [g];simp
   subst A;have D:Builtin.Str.strSub z 0 a.length=mkS a:=by
    rw [Zp5,g,Vbu,Nat.sub_zero,List.take_left' rfl]
   have C:Builtin.Str.strSub z (a.length+1) z.length=mkS b:=by
    rw [Zp5,<-ZcO z,g];have:(a++c::b).drop (a.length+1)=b:=by
     rw [show a++c::b=(a++[c])++b by simp];exact List.drop_left' (by simp)
    rw [this];refine Vaw mkS (Vbv ?_);simp;omega
   show EP X f Y Q (.ref s.heap.objs.size) { s with toks:=_,heap:=s.heap.push { cls:=.type "tuple",data:=.seq [.str (Builtin.Str.strSub z 0 a.length) s.toks,.str ⟨#[c]⟩ t,.str (Builtin.Str.strSub z (a.length+1) z.length) (s.toks+1)].toArray } }
   rw [D,C];exact m _ [.str (mkS a),.str ⟨#[c]⟩,.str (mkS b)] [_,_,_] (.cons ⟨_,rfl⟩ (.cons ⟨_,rfl⟩ (.cons ⟨_,rfl⟩ .nil))) (by simp) q
def ZnX:SmD K mg Zu8 ZlV:=by
 intro E F H z y f s i;cases f with
 | str w=>
  cases i;unfold ZlV;dsimp only;split
  .next c e=>
   split
   .next d=>
    have g:=Zht e;subst g;cases ep:Zdu c (cpL z) with
    | none=>
     exact Zdx s (λp h=>.tup (.inl (.inl Zae)) (.cons (.str _) (.cons (.str _) (.cons (.str _) .nil)))) λQ q=>⟨z,c,rfl,rfl,d,by rw [ep];exact q⟩
    | some p=>
     obtain ⟨a,b⟩:=p;exact Zdx s (λp h=>.tup (.inl (.inl Zae)) (.cons (.str _) (.cons (.str _) (.cons (.str _) .nil)))) λQ q=>⟨z,c,rfl,rfl,d,by rw [ep];exact q⟩
   .trivial
  .trivial
 | _=>trivial
def Zri:OpD K mg (λx y H Q=>∃i j,x=.str i/\y=.str j/\Q (.bl (!(Builtin.Str.occurrences j i 0 j.length 1).isEmpty)) H) dInT:=by
 intro E F H x y h g s d f;unfold dInT;split
 .next a b=>
  cases d;cases f;split
  .next c e=>
   refine .ret s (.bl _) λQ q=>⟨_,_,rfl,rfl,?_⟩;rw [Zht e,StrLaws.found_one];rw [Vcc] at q;exact q
  .trivial
 .trivial
def ZoU:OpD K mg (λx y H Q=>∃i j,x=.str i/\y=.str j/\Q (.bl (!(!(Builtin.Str.occurrences j i 0 j.length 1).isEmpty))) H) ZkW:=by
 intro E F H x y h g s d f;unfold ZkW;split
 .next a b=>
  cases d;cases f;split
  .next c e=>
   refine .ret s (.bl _) λQ q=>⟨_,_,rfl,rfl,?_⟩;rw [Zht e,StrLaws.found_one];rw [Vcc] at q;exact q
  .trivial
 .trivial
def rSlT:V->Option Int->Option Int->Hp->VK->Prop:=λx a b H Q=>∃z,x=.str z/\z.length<=sizeLine/\Q (.str (Txt.slice z a b)) H
def Ztl:SlR X rSlT:=by
 intro b s Y H x v n e g f C Q I y B m c h;obtain ⟨z,rfl,p,q⟩:=h;obtain ⟨t,rfl⟩:=y;refine ⟨"str",_,PySem.F.slot_str_getitem.lookup,Vbh _ _ _,?_⟩;have a:∀l u,n=partValue l->e=partValue u->g=l.map (·.1)->f=u.map (·.1)->wX X (getItem (.str z t) (.ref C)) (EP X b Y Q) X.xe s:=by
  intro l u E D r o;subst E D r o;exact wpAny_getItem_str_slice (st:=none) B rfl
   (post_val_or_str ⟨Vak (Txt.slice_le z _ _) p,λd k=>⟨.str _,H,I.tok _,⟨d,rfl⟩,q⟩⟩)
 cases m with
 | none=>
  cases c with
  | none=>exact a none none rfl rfl rfl rfl
  | int j tj=>exact a none (some (j,tj)) rfl rfl rfl rfl
 | int i ti=>
  cases c with
  | none=>exact a (some (i,ti)) none rfl rfl rfl rfl
  | int j tj=>exact a (some (i,ti)) (some (j,tj)) rfl rfl rfl rfl
def ZkT{i:Int}(h0:0<=i):Txt.slice z (some i) none=mkS ((cpL z).drop i.toNat):=by
 by_cases h:(z.length:Int)<=i
 .rw [slice_beyond h];have:(cpL z).drop i.toNat=[]:=VbG (by rw [ZcO];omega);rw [this];rfl
 .rw [slice_from_eq h0 (by omega) rfl];refine Vaw mkS (Vbv ?_);show ((cpL z).drop i.toNat).length<=_;rw [Vba,ZcO];omega
def ZoF{j:Int}(h0:0<=j):Txt.slice z none (some j)=mkS ((cpL z).take j.toNat):=by
 have a:∀j:Int,0<=j->j<=z.length->Txt.slice z none (some j)=mkS ((cpL z).take j.toNat):=λj h0 b=>by
  have c:j<=z.cps.toList.length:=by rw [show z.cps.toList.length=z.length from ZcO z];exact b
  have:=VaL.mp (slice_closes_to ⟨h0,c⟩);rw [this,show (0:Int).toNat=0 from rfl,Vbu,Int.sub_zero];rfl
 by_cases h:j<=z.length
 .exact a j h0 h
 .have f:Txt.slice z none (some j)=Txt.slice z none (some (z.length:Int)):=by
   unfold Txt.slice;have e:Builtin.Str.strSliceIndices none (some j) 1 z.length=Builtin.Str.strSliceIndices none (some (z.length:Int)) 1 z.length:=by
    have b:¬j<0:=by omega
    have c:¬((z.length:Int)<0):=by omega
    have d:(1:Int)>0:=by decide
    simp only [Builtin.Str.strSliceIndices,b,c,d,Va7,Va8,Int.min_eq_right (show (z.length:Int)<=j by omega),Int.min_self]
   rw [e]
  rw [f,a _ (by omega) (Int.le_refl _),Vbv (by rw [ZcO];omega),Vbv (by rw [ZcO];omega)]
def ZrX(ha:SE K mg E ta ma)(hl:SO K mg E tl ml)(hh:SO K mg E th mh):SE K mg E (tSl rSlT ta tl th) (cutT ma ml mh):=by
 intro a b F H Y Z c;refine (ha a b F H Y Z c).bind λm p x i e r=>?_;refine (hl a b m p Y Z (c.gr e)).bind λo g l y n t=>?_;refine (hh a b o g Y Z ((c.gr e).gr n)).bind λk v u w f j=>?_;cases t;cases j;cases i with
 | str z=>
  cases r;show Ans mg E (Rp K mg) k v (cutS z l u) _;unfold cutS;split
  .next d=>
   split
   .split
    .next h=>exact .ret f.s (.str _) λQ q=>⟨z,rfl,ZdZ d,by rw [ZkT h];exact q⟩
    .trivial
   .split
    .next h=>exact .ret f.s (.str _) λQ q=>⟨z,rfl,ZdZ d,by rw [ZoF h];exact q⟩
    .trivial
   .trivial
  .trivial
 | _=>trivial
def ItS(x:Str):It:=⟨λi _=>∃c,(cpL x)[i]?=some c,λi H y a=>a=H/\∀c,(cpL x)[i]?=some c->y=.str (mkS [c]),λi _=>(cpL x)[i]?=none⟩
def ZoV(x)(t)(it):Turn P w K tg (ItS x) [it] it (λi h=>h.IsStrIter it "str_ascii_iterator" x t i) where
 mem:=by simp
 obj:=λi h a b f=>by
  have e:b=it:=by simpa using f
  subst e;obtain ⟨o,e,c,d⟩:=a;exact ⟨o,e,λv z=>by rw [d] at z;cases z⟩
 keep:=λi h D a k=>by
  obtain ⟨o,e,r⟩:=a;exact ⟨o,k it (by simp) o e,r⟩
 item:=by
  intro X J Q G A i g s Y H E I l a q;obtain ⟨c,C⟩:=q;obtain ⟨n,y,O,p,m,u⟩:=l it (by simp);refine wpAny_pyNext_ascii_item a (by simpa [cpL] using C) λD j M=>?_;have F:=I.turned (t':=s.toks+1) (λb o f e=>(M.2 b f).trans e) n y p m u;obtain ⟨o,e,N,d⟩:=id j;exact ⟨_,rfl,ZnN e N d (by decide) ⟨.str (mkS [c]),H,F,⟨_,rfl⟩,⟨rfl,λR B=>by rw [C] at B;cases B;rfl⟩,j,λb f=>(l b f).1⟩⟩
 done:=by
  intro X J Q G A i g s Y H E I l a q;obtain ⟨n,y,O,p,m,u⟩:=l it (by simp)
  exact wpAny_pyNext_ascii_end (I.ok.hd A) a (by
   have h:(cpL x)[i]?=none:=q
   simpa [cpL] using h) λD L=>⟨rfl,I.turned (λb o f e=>L b o f e) n y p m u⟩
 self:=λ_ _ _ _ _ a h=>wpAny_pyIter_striter_ascii a h
def ZsV(tl:TE):TI:=λY H R=>tl Y H λx a=>∃z,x=.str z/\(cpL z).all (·<128)=true/\R (ItS z) a
def ZrO{F:Hp}(z):ItOk K mg F (ItS z) ((cpL z).map λc=>.str (mkS [c])):=by
 intro g k j b i;refine ⟨λd e=>?_,λa=>?_⟩
 .rw [Va3] at e;cases q:(cpL z)[i]? with
  | none=>rw [q] at e;cases e
  | some c=>
   rw [q] at e;cases e;refine ⟨⟨c,q⟩,λy f h=>?_⟩;obtain ⟨rfl,h⟩:=h;rw [h c q];exact ⟨g,.refl b,.str _⟩
 .rw [VaO] at a;exact VbC a
def Zu9(ha:SE K mg E ta ma):SI K mg E (ZsV ta) (ivT ma):=by
 intro f j F H Y Z a;refine (ha f j F H Y Z a).bind λi b x d g e=>?_;cases d with
 | str z=>
  cases e;show Ans mg E (ItOk K mg) i b (if (cpL z).all (·<128)=true then .ok ((cpL z).map λc=>.str (mkS [c])) else .bad) _
  split
  .next h=>exact Ans.ret g.s (ZrO z) λQ q=>⟨z,rfl,h,q⟩
  .trivial
 | _=>trivial
end
section
variable {a b o tg:Expr} {ta tb to:TE} {ma mb mo:ME} {apos:Pos}
def Zuz(h:DE X E a ta ma):DI X E tg a (ZsV ta) (ivT ma):=by
 refine ⟨?_,Zu9 h.s⟩;intro c s Y H R I l;refine thn (h.p c s Y H _ I l) λv f zq=>?_;obtain ⟨x,j,d,i,m⟩:=zq;obtain ⟨z,rfl,k,q⟩:=m;obtain ⟨t,rfl⟩:=i;refine wpAny_pyIter_ascii (by rw [<-k];simp [cpL]) ?_;refine ⟨f.heap.objs.size,[f.heap.objs.size],_,_,j,rfl,d.kept λb o e=>VaA _ e,ZoV z t _,⟨_,VaE _ rfl,rfl,rfl⟩,λb g=>?_,q⟩;have e:b=f.heap.objs.size:=by simpa using g
 subst e;exact d.fpOk (VaF _) (d.hok.fresh (VaF _))
end
def ZlK:typeLookup (.type "list_reverseiterator") "__len__"=pure none:=by rw [typeLookup_type,VbY];kernel_rfl
def ZoE:typeLookup (.type "list_reverseiterator") "__length_hint__"=pure (some (.builtin "list_reverseiterator.__length_hint__")):=by rw [typeLookup_type,VbY];kernel_rfl
def Zr9:isSubtype (.type "list_reverseiterator") (.type "list_reverseiterator")=pure true:=by rw [isSubtype_type];kernel_rfl
section
variable{prog:Program} {E:Value->Shared->Prop}
def Zop(hT:s.TypeIs (.ref I) "list_reverseiterator")(h:Q false s):wpAny (model prog w) A (Builtin.List.listLengthHint (.ref I)) Q E s:=by
 refine Vax (Vbr hT ZlK ?_);refine Vax (Vbr hT ZoE ?_);generalize hid:("list_reverseiterator.__length_hint__" : String)=id0;subst hid;refine Vax (wpAny_isInstance hT Zr9 ?_);exact Vay h
def Zi6{items:Array Value}(hh:A.handled=none)(hne:l≠I)(hit:s.heap.IsRevIter I l ((items.size:Int) - 1))(hl:s.heap.IsList l items)(hn:items.size<=sizeLine)(hQ:∀s',Moved [I] (λa b=>b=a) s s'->Q items.toList.reverse s'):wpAny (model prog w) A (collect (.ref I)) Q E s:=by
 have W:=(Walks.listRev (prog:=prog) (w:=w) (A:=A.in1) hh I l hne items).toS;have t:∀i s,(i<=items.size/\Heap.IsRevIter s.heap I l ((items.size:Int) - 1 - (i:Int))/\s.heap.IsList l items)->Shared.TypeIs s (.ref I) "list_reverseiterator":=λ_ _ h=>h.2.1.typeIs;have n:0<=items.size/\Heap.IsRevIter s.heap I l ((items.size:Int) - 1 - ((0:Nat):Int))/\s.heap.IsList l items:=⟨VaR _,by simpa using hit,hl⟩;have r:∀b∈[I,l],b<s.heap.objs.size:=λb hb=>by
  rcases Vaq.mp hb with rfl | hb
  .obtain ⟨o,q,_⟩:=hit;exact Vae q
  .rw [Vb8.mp hb];obtain ⟨o,q,_⟩:=hl;exact Vae q
 have g:=λp=>Vag _ (r _ p);have m:s.heap.objs.size≠I:=λe=>g (e▸Vao);refine Vax (wpAny_runValue (VbU F.entry_proto_collect ?_));refine Vax (Vaz ?_);refine Vay ⟨plainId_quiet F.plain_list_iadd _,VbU F.entry_list_iadd ?_⟩;have c:=W.frame 0 s (s.heap.push { cls:=.type "list",data:=.seq ([]:List Value).toArray }) s.toks n (VaF _) λb _ o e=>VaA _ e;have j:(s.heap.push { cls:=.type "list",data:=.seq ([]:List Value).toArray }).get? s.heap.objs.size=some { cls:=.type "list",data:=.seq ([]:List Value).toArray }:=VaE _ rfl;have v:Builtin.List.listSameRef (.ref s.heap.objs.size) (.ref I)=false:=by simp [Builtin.List.listSameRef,m]
 show wpAny _ A.in1 (Builtin.List.listExtendWith (.ref s.heap.objs.size) (.ref I) (.ref s.heap.objs.size)) _ _ _;refine Vax (Vbf (t 0 _ c) ?_);rw [iN (by rw [v];decide)];refine Vax (W.self 0 _ _ _ c ?_);refine Vax (Vbb ?_);refine Zop (t 0 _ c) ?_;refine Vay ⟨plainId_quiet VbW _,codeAny_extend_loopS W hn _ g _ items.size 0 _ _ _ rfl (VaR _) c j (ItemsOf.nil _) λs' d z p k f=>?_⟩;refine Vax (wpAny_load k ?_);have u:d.toList=items.toList.reverse:=by
  apply List.ext_getElem?;intro i;obtain ⟨B,y⟩:=f;by_cases hi:i<items.size
  .have e:d[i]?=some d[i]:=Vb3 (by omega);have x:=y i _ e;rw [List.getElem?_reverse (by simpa using hi)];rw [Vb9,Vb9,e,Vav];exact x.symm
  .rw [VbC (by simp;omega),VbC (by simp;omega)]
 have:=hQ s' (Moved.drop_new p (VaF _));rw [<-u] at this;exact Vay this
end
def Zje(z):∀m,Builtin.Str.tooLong ((m.map (·.1)).toArray.foldl (·+·.length+z.length) 0)=false->Gives (joinTail z (strValues m)) (joinMade z m)
 | [],h=>gives_joinTail z [] h
 | [p],h=>gives_joinTail z [p] h
 | p::q::r,h=>gives_joinTail z (p::q::r) h
def Zoy{z:Str}{ts:List Str}(hc:X.calm=true)(I:Inv X pins Y H s)(hz:sumL z.length ts<=LIM)(ha:H a=some (.lst (ts.map V.str)))(hn:it≠a)(hf:FpOk X pins H it)(hit:s.heap.IsRevIter it a ((ts.length:Int) - 1))(q:Q (.str (Str.join z ts.reverse)) H):wX X (call (.builtin "str.join") [.str z t,.ref it]) (EP X pins Y Q) X.xe s:=by
 obtain ⟨B,r,u,c⟩:=I.list (SqL.of ha);obtain ⟨l,rfl,E⟩:=Zgj r;refine wpAny_call (codeAny_call_builtin F.slot_str_join.plain F.entry_str_join (F.slot_str_join.check _ _ _ _ _ _ _ _ (Vbh _ _ _) (F.args_str_join_2 _ _) ?_));rw [join_tree_other];refine Vax (Vbf hit.typeIs ?_);refine Vax (wpAny_tryCatch (wpAny_pyIter_revIter hit ?_));have f:(strValues l).toArray.size=ts.length:=by
  have:=r.length;rw [VaO] at this;exact this.symm
 refine Vax (Zi6 (I.ok.hd hc) (Ne.symm hn) (by rw [f];exact hit) u.isList (by rw [f];rw [VaO] at c;exact c) λm h=>?_);have L:(strValues l).toArray.toList.reverse=strValues l.reverse:=by
  show (l.map _).reverse=l.reverse.map _;rw [Vcd]
 rw [L];have j:l.reverse.map (·.1)=ts.reverse:=by rw [Vcd,E]
 have i:sumL z.length ts.reverse<=LIM:=by
  unfold sumL at hz ⊢;rw [Vcd,List.sum_reverse,List.length_reverse];exact hz
 have d:=Zh8 i;rw [<-j] at d;have g:=Zje z l.reverse d;refine g X.prog X.w X.A (wants (EP X pins Y Q) X.xe) m (post_join l.reverse ⟨joinFit_length d,λt' k=>?_⟩);obtain ⟨y,J,P,K,n,D⟩:=hf;have p:=I.turned (t':=k) (λb o v e=>h.heap b o (by simpa using v) e) y J K n D;refine ⟨.str _,H,?_,⟨t',rfl⟩,?_⟩
 .have C:=h.gens;have x:=h.drawn;have G:=h.os;obtain ⟨S,N,M,R,O⟩:=m;cases C;cases x;cases G;exact p
 .unfold Txt.join;rw [StrLaws.glued_eq_join,j];exact q
def Zg7(z:Str)(j:Nat):TE:=λY H Q=>∃a b,Y[j]?=some (some (.ref a))/\H a=some (.lst (b.map V.str))/\sumL z.length b<=LIM/\Q (.str (Str.join z b.reverse)) H
def ZkZ(z)(j):SE K mg E (Zg7 z j) (joinRev z j):=by
 intro m n F H Y Z c;unfold joinRev getO;split
 .next g e=>
  obtain ⟨a,h,i,o,p,k,f⟩:=c.ow j g e;refine ZiJ c.ss f.rev λd l b Q q=>⟨a,d.reverse,i,?_,?_,by rw [List.reverse_reverse];exact q⟩
  .rw [k,<-List.reverse_reverse h,l,<-Vcd]
  .unfold sumL at b ⊢;rw [Vcd,List.sum_reverse,List.length_reverse];exact b
 .trivial
section
variable {a b o:Expr} {ta tb to:TE} {ma mb mo:ME} {apos p1 p2 p3 p4:Pos} {z:Str}
def Zli(j)(hc:X.calm=true)(hg:Gl X "reversed")(hm:X.mg "reversed"=none)(hN:X.N[j]?=some x)(hv:Vis X.env.scope x)(hd:ND x)(hcd:NE x)(hbase:attributeBase (.Constant (.str z) k p1) "join" X.env (eval (.Constant (.str z) k p1) X.env)=eval (.Constant (.str z) k p1) X.env)(hline:(apos.endLine==cpos.line)=true):PE X (.Call (.Attribute (.Constant (.str z) k p1) "join" apos) [.Call (.Name "reversed" p2) [.Name x p3] [] p4] [] cpos) (Zg7 z j):=by
 intro c s Y H Q I h;obtain ⟨a,y,E,m,O,q⟩:=h;refine wpAny_Call_method_late hbase (by rfl) hline rfl (thn (Zp3 c s Y H (λv d=>v=.str z/\d=H) I ⟨rfl,rfl⟩) λv D zq=>?_);obtain ⟨U,d,l,M,S,R⟩:=zq;subst S R;obtain ⟨t,rfl⟩:=M;refine ⟨"str","str.join",PySem.F.plainAttrs_str,PySem.F.slot_str_join,PySem.F.type_str_join,Vbh _ _ _,(λ_ e=>nomatch e),?_⟩;refine Calls.callWith_builtin (by rfl) (Calls.evalArgs_plain ?_);refine Calls.spliced_cons ?_;refine VaV (Zfr l hg hm rfl ?_ (by decide) (by decide));refine VaG (thn ((Zbo (Zdp hN hv hd hcd) Zcv) p4 c D Y d (λL n=>L=[.ref a]/\n=d) l ⟨.ref a,E,rfl,rfl⟩) λT P zq=>?_) rfl (by rfl);obtain ⟨V,n,f,C,K,J⟩:=zq;subst K J;obtain ⟨u,rfl,A⟩:=vals1 C;cases A;obtain ⟨g,r,p,w⟩:=f.list (SqL.of m);refine call_reversed_list p.isList ?_;refine Calls.spliced_nil ?_;have i:(g.toArray.size:Int)=(y.length:Int):=by
  have:=r.length;rw [VaO] at this;rw [VaK,this]
 have B:a<P.heap.objs.size:=by
  obtain ⟨o,G,_⟩:=p.isList;exact Vae G
 refine Zoy hc (f.kept λb o e=>VaA _ e) O m (VaD B) (f.fpOk (VaF _) (f.hok.fresh (VaF _))) ?_ q;rw [<-i];exact ⟨_,VaE _ rfl,rfl,rfl⟩
def Zm8(j)(hc:X.calm=true)(hg:Gl X "reversed")(hm:X.mg "reversed"=none)(hN:X.N[j]?=some x:=by rfl)(hv:Vis X.env.scope x:=by first | exact Or.inl rfl | exact Or.inr (Or.inl rfl) | exact Or.inr (Or.inr rfl))(hd:ND x:=by decide)(hcd:NE x:=by decide)(hbase:attributeBase (.Constant (.str z) k p1) "join" X.env (eval (.Constant (.str z) k p1) X.env)=eval (.Constant (.str z) k p1) X.env:=by rfl)(hline:(apos.endLine==cpos.line)=true:=by rfl) :
  DE X E (.Call (.Attribute (.Constant (.str z) k p1) "join" apos) [.Call (.Name "reversed" p2) [.Name x p3] [] p4] [] cpos) (Zg7 z j) (joinRev z j):=⟨Zli j hc hg hm hN hv hd hcd hbase hline,ZkZ z j⟩
def ya8(hg:Gl X x)(hm:X.mg x=some (.str y tk))(hd:ND x:=by decide):DE X E (.Name x pos) (tC (.str y)) (c (.str y)):=⟨Zgm hg hm ⟨_,rfl⟩ hd,se_c λ_=>.str _⟩
def yaD{id:String}{name:Str}{r:V->List V->Hp->VK->Prop}{f:Str->D->Res D}(slot:Slot "str" name id)(hty:typeOf (.builtin id)=pure (.type "method_descriptor"))(hm:MtR X id r)(hf:SmD X.K X.mg r f)(ho:DE X E o to mo)(ha:DE X E a ta ma)(hbase:attributeBase o name X.env (eval o X.env)=eval o X.env:=by rfl) (hfew:((backTo cpos (starEach [a] X.env)).all (λx=>!x.1)&&(backToKw cpos (keywordEach [] X.env)).all (λx=>x.1.isSome)
   && decide ([a].length+([]:List Keyword).length+(if ([]:List Keyword).isEmpty then 0 else 1)<30))=true:=by rfl) (hline:(apos.endLine==cpos.line)=true:=by rfl) (hs:starEach [a] X.env=(false,eval a X.env)::starEach [] X.env:=by rfl) (hplain:(backTo cpos (starEach [] X.env)).any (·.1)=false:=by rfl) :
  DE X E (.Call (.Attribute o name apos) [a] [] cpos) (tBM X.K "str" r to (Zbq ta tNil)) (sD f mo ma):=⟨Zk4 PySem.F.plainAttrs_str slot hty hm ho.p (Zbo ha.p Zcv hs) hbase hfew hline hs hplain,ZvH hf ho.s ha.s⟩
def Zwn(ha:DE X E a ta ma)(hb:DE X E b tb mb)(hm:behindInMarks .In b=false:=by rfl):DE X E (.Compare a [.In] [b] pos) (tOp (λx y H Q=>∃i j,x=.str i/\y=.str j/\Q (.bl (!(Builtin.Str.occurrences j i 0 j.length 1).isEmpty)) H) ta tb) (o2 dInT ma mb):=ZlJ ZmO Zri ha hb hm
def Zqa(ha:DE X E a ta ma)(hb:DE X E b tb mb)(hm:behindInMarks .NotIn b=false:=by rfl):DT X E (.Compare a [.NotIn] [b] pos) (Ze0 (tOp (λx y H Q=>∃i j,x=.str i/\y=.str j/\Q (.bl (!(!(Builtin.Str.occurrences j i 0 j.length 1).isEmpty))) H) ta tb)) (trb (o2 ZkW ma mb)):=Zfl ZhX ZoU ha hb hm
def Ztn{lo hi:Option Expr}{tl th:TO}{ml mh:Ev->Res (Option Int)}{p2:Pos}(ha:DE X E a ta ma)(hl:DO X E lo tl ml)(hh:DO X E hi th mh):DE X E (.Subscript a (.Slice lo hi none p2) pos) (tSl rSlT ta tl th) (cutT ma ml mh) :=
 ⟨Zka Ztl ha.p hl.p hh.p,ZrX ha.s hl.s hh.s⟩
end
section
variable {F:Hp}
def ZgJ:∀{Z:Ev} {i:Nat} {ds:List D},nOw Z=true->Z[i]?≠some (.ow ds)
 | [],_,_,_,e=>by simp at e
 | .ow _::_,_,_,h,_=>by cases h
 | .no::r,0,_,_,e=>by simp at e
 | .im _::r,0,_,_,e=>by simp at e
 | .no::r,i+1,_,h,e=>ZgJ (Z:=r) h (by simpa using e)
 | .im _::r,i+1,_,h,e=>ZgJ (Z:=r) h (by simpa using e)
def Zfb:∀{Z:Ev} {i:Nat} {c:Cl},nOw Z=true->(∀ds,c≠.ow ds)->nOw (Z.set i c)=true
 | [],_,_,_,_=>rfl
 | .ow _::_,_,_,h,_=>by cases h
 | .no::r,0,c,h,hc=>by cases c<;>first | exact h | exact aB rfl (hc _)
 | .im _::r,0,c,h,hc=>by cases c<;>first | exact h | exact aB rfl (hc _)
 | .no::r,i+1,c,h,hc=>Zfb (Z:=r) h hc
 | .im _::r,i+1,c,h,hc=>Zfb (i:=i) h hc
def Rep.putE{g:Addr}{o:HO}(r:Rep K mg F0 H0 F H Y Z)(hn:nOw Z=true)(h0:H0 g=none)(hf:F g=none):Rep K mg F0 H0 F (upd H g o) Y Z:=by
 refine ⟨⟨r.g.f,λb u e=>?_,λb u h c=>?_,r.g.z⟩,r.len,r.im,λi d e=>aB e (ZgJ hn),λi j d k a e=>aB e (ZgJ hn)⟩
 .rw [Zad (Zac e hf)];exact r.g.s b u e
 .rw [Zad (Zac c h0)];exact r.g.o b u h c
def Rep.forg{x:V}(r:Rep K mg F0 H0 F H Y Z)(hn:nOw Z=true)(i):Rep K mg F0 H0 F H (Y.set i (some x)) (Z.set i .no):=by
 have b:nOw (Z.set i .no)=true:=Zfb hn (by simp);refine ⟨r.g,by rw [VbB,VbB];exact r.len,λj e q=>?_,λj c e=>aB e (ZgJ b),λj k c d a e=>aB e (ZgJ b)⟩;rcases Zar q with ⟨_,z,_⟩ | ⟨hij,q⟩
 .cases z
 .rw [Za6 hij];exact r.im j e q
def Rep.h0(r:Rep K mg F0 H0 F H Y Z)(hn:H a=none):H0 a=none:=by
 have b:=r.g.s.free hn;cases q:H0 a with
 | none=>rfl
 | some o=>
  cases q2:F0 a with
  | none=>rw [(r.g.o a o q2 q).2] at hn;cases hn
  | some u=>rw [r.g.f a u q2] at b;cases b
def Mine(K:W.Frag)(mg:Str->Option Value)(H0 F H:Hp)(q:Addr)(ds:List D):Prop:=H0 q=none/\F q=none/\∃a,H q=some (.lst a)/\Rps K mg F a ds
def Mine.gr(h:Mine K mg H0 F H q ds)(g:Gr F H F' H'):Mine K mg H0 F' H' q ds:=by
 obtain ⟨b,j,a,c,e⟩:=h;obtain ⟨d,i⟩:=g.o q _ j c;exact ⟨b,d,a,i,e.same g.f⟩
def Mine.put(h:Mine K mg H0 F H q ds)(hn:q≠g):Mine K mg H0 F (upd H g o) q ds:=by
 obtain ⟨b,e,a,c,d⟩:=h;exact ⟨b,e,a,by rw [Zad hn];exact c,d⟩
structure Gst(K:W.Frag)(mg:Str->Option Value)(H0:Hp)(i:Nat)(g:Addr)(rs:List Addr)(r:Addr)(gs:List (List D))(cur:List D)(F H:Hp)(Y:St):Prop where
 a:Y[i]?=some (some (.ref g))
 z:H0 g=none
 f:F g=none
 h:H g=some (.lst ((rs++[r]).map V.ref))
 n:∀q∈rs++[r],q≠g
 m:∀q∈rs,q≠r
 l:rs.length=gs.length
 d:∀(k:Nat) (q:Addr) (ds:List D),rs[k]?=some q->gs[k]?=some ds->Mine K mg H0 F H q ds
 c:Mine K mg H0 F H r cur
variable {g r:Addr} {rs:List Addr} {gs:List (List D)} {cur:List D}
def Gst.gr(s:Gst K mg H0 i g rs r gs cur F H Y)(q:Gr F H F' H'):Gst K mg H0 i g rs r gs cur F' H' Y:=by
 obtain ⟨j,t⟩:=q.o g _ s.f s.h;exact ⟨s.a,s.z,j,t,s.n,s.m,s.l,λk p e u b=>(s.d k p e u b).gr q,s.c.gr q⟩
def Gst.st(s:Gst K mg H0 i g rs r gs cur F H Y)(e:Y'[i]?=Y[i]?):Gst K mg H0 i g rs r gs cur F H Y' :=
 ⟨e.trans s.a,s.z,s.f,s.h,s.n,s.m,s.l,s.d,s.c⟩
def Gst.new(s:Gst K mg H0 i g rs r gs cur F H Y)(hp:H p=none)(h0:H0 p=none)(hf:F p=none) :
  Gst K mg H0 i g (rs++[r]) p (gs++[cur]) [] F (upd (upd H p (.lst [])) g (.lst ((rs++[r]).map V.ref++[.ref p]))) Y:=by
 have w:=Zac s.h hp;have u:∀{q:Addr} {e:List D},Mine K mg H0 F H q e->q≠p:=λh=>by
  obtain ⟨_,_,A,y,_⟩:=h;exact Zac y hp
 have m:∀{q:Addr} {e:List D},q≠g->Mine K mg H0 F H q e->Mine K mg H0 F (upd (upd H p (.lst [])) g (.lst ((rs++[r]).map V.ref++[.ref p]))) q e:=λx h=>(h.put (u h)).put x;refine ⟨s.a,s.z,s.f,by rw [Zae,VbX (l₁:=rs++[r])];rfl,λq v=>?_,λq v=>?_,by rw [Va5,Va5,s.l];rfl,λk q e b o=>?_,⟨h0,hf,[],by rw [Zad (Ne.symm w)];exact Zae,.nil⟩⟩
 .rcases Var.mp v with h | h
  .exact s.n q h
  .rw [Vb8.mp h];exact Ne.symm w
 .rcases Var.mp v with h | h
  .obtain ⟨k,t,rfl⟩:=Vb5.mp h;exact u (s.d k rs[k] (gs[k]'(by rw [<-s.l];exact t)) (VbF t) (VbF _))
  .rw [Vb8.mp h];exact u s.c
 .by_cases t:k<rs.length
  .rw [Va2 t] at b;rw [Va2 (by rw [<-s.l];exact t)] at o;exact m (s.n q (Vas _ (Va4 b))) (s.d k q e b o)
  .rw [Va0 (by omega)] at b;rw [Va0 (by rw [<-s.l];omega)] at o;have j:k - rs.length=0:=by
    have:=(Vat.mp b).1;simp at this;omega
   rw [j] at b;rw [show k - gs.length=0 by rw [<-s.l];exact j] at o;cases b;cases o;exact m (s.n _ (VaI _ Vao)) s.c
def Gst.app{x:V}(s:Gst K mg H0 i g rs r gs cur F H Y)(hr:H r=some (.lst xs))(hx:Rp K mg F x d):Gst K mg H0 i g rs r gs (cur++[d]) F (upd H r (.lst (xs++[x]))) Y:=by
 have o:=s.n r (VaI _ Vao);obtain ⟨v,j,w,b,t⟩:=s.c;rw [hr] at b;cases b;exact ⟨s.a,s.z,s.f,by rw [Zad (Ne.symm o)];exact s.h,s.n,s.m,s.l,λk q p e u=>(s.d k q p e u).put (s.m q (Va4 e)),⟨v,j,_,Zae,Rps.app (.cons hx .nil) t⟩⟩
def Gst.ret(s:Gst K mg H0 i g rs r gs cur F H Y)(rr:Rep K mg F0 H0 F H Y Z):∃F',Gr F0 H0 F' H/\Rp K mg F' (.ref g) (.lst ((gs++[cur]).map D.lst)):=by
 let F':Hp:=λb=>match F b with
  | some o=>some o
  | none=>if b=g\/b∈rs++[r] then H b else none
 have B:Same F F':=λb o e=>by show (match F b with | some o=>some o | none=>_)=some o;rw [e]
 have v:∀{b:Addr},F b=none->(b=g\/b∈rs++[r])->F' b=H b:=λ{b} e h=>by
  show (match F b with | some o=>some o | none=>_)=_
  rw [e];exact iP h
 have x:∀{q:Addr} {ds:List D},q∈rs++[r]->Mine K mg H0 F H q ds->Rp K mg F' (.ref q) (.lst ds):=λhm h=>by
  obtain ⟨P,J,m,A,L⟩:=h;exact .lst (SqL.of ((v J (.inr hm)).trans A)) (L.same B)
 have E:∀b,b=g\/b∈rs++[r]->∃m,H b=some (.lst m):=λb h=>by
  rcases h with rfl | h
  .exact ⟨_,s.h⟩
  .rcases Var.mp h with h | h
   .obtain ⟨k,n,e⟩:=Vb5.mp h;have C:k<gs.length:=by have:=s.l;omega
    obtain ⟨_,_,m,A,_⟩:=s.d k b gs[k] (by rw [VbF n,e]) (VbF C);exact ⟨m,A⟩
   .have:b=r:=by simpa using h
    subst this;obtain ⟨_,_,m,A,_⟩:=s.c;exact ⟨m,A⟩
 refine ⟨F',⟨rr.g.f.trans B,λb o e=>?_,λb o p j=>?_,λb o u e=>by
  cases q:F b with
  | some w=>
   rw [B b w q] at e;cases e;exact rr.g.z b o u q
  | none=>
   have a:(match F b with | some o=>some o | none=>if b=g\/b∈rs++[r] then H b else none)=some (.frz o u):=e
   rw [q] at a;dsimp only at a;split at a
   .next I=>
    obtain ⟨m,G⟩:=E b I;rw [G] at a;cases a
   .cases a⟩,.lst (SqL.of ((v s.f (.inl rfl)).trans s.h)) (Zpl (by rw [VaO,VaO,Va5,Va5,s.l];rfl) λk y d p j=>?_)⟩
 .cases q:F b with
  | some u=>
   rw [B b u q] at e;cases e;exact rr.g.s b _ q
  | none=>
   have a:(match F b with | some o=>some o | none=>if b=g\/b∈rs++[r] then H b else none)=some o:=e
   rw [q] at a;dsimp only at a;split at a
   .exact a
   .cases a
 .obtain ⟨M,O⟩:=rr.g.o b o p j;refine ⟨?_,O⟩;show (match F b with | some o=>some o | none=>if b=g\/b∈rs++[r] then H b else none)=none
  rw [M];refine iN ?_;rintro (rfl | hm)
  .rw [s.z] at j;cases j
  .have N:H0 b=none:=by
    rcases Var.mp hm with h | h
    .obtain ⟨k,n,rfl⟩:=Vb5.mp h;exact (s.d k rs[k] (gs[k]'(by rw [<-s.l];exact n)) (VbF n) (VbF _)).1
    .rw [Vb8.mp h];exact s.c.1
   rw [N] at j;cases j
 .rw [Va3] at p j;cases q1:(rs++[r])[k]? with
  | none=>rw [q1] at p;cases p
  | some q=>
   rw [q1] at p;cases p;cases q2:(gs++[cur])[k]? with
   | none=>rw [q2] at j;cases j
   | some ds=>
    rw [q2] at j;cases j;refine x (Va4 q1) ?_;by_cases n:k<rs.length
    .rw [Va2 n] at q1;rw [Va2 (by rw [<-s.l];exact n)] at q2;exact s.d k q ds q1 q2
    .rw [Va0 (by omega)] at q1;rw [Va0 (by rw [<-s.l];omega)] at q2;have t:k - rs.length=0:=by
      have:=(Vat.mp q1).1;simp at this;omega
     rw [t] at q1;rw [show k - gs.length=0 by rw [<-s.l];exact t] at q2;cases q1;cases q2;exact s.c
def tGrp(K:W.Frag)(i j k:Nat)(sc:TT):TS:=tSeq (tAsg (tLst (Zbq (tLst tNil) tNil)) (Zfc i)) (tSeq (tFor (iSeq K (tVar k)) (Zfc j) (tIfS sc (ZcU (tBM K "list" Zbp (tVar i) (Zbq (tLst tNil) tNil))) (ZcU (tBM K "list" Zbp (tOp (rIxD K) (tVar i) (tUn (rU λi=>V.int (-i)) (tC (.int 1)))) (Zbq (tVar j) tNil))))) (tRet (tVar i)))
def ZhI{nt:MB}{c:Str}:∀(ds:List D) (gs:List (List D)) (g:List D),Zcs i j nt Z ds gs g≠.ex c
 | [],_,_,h=>by cases h
 | d::r,gs,g,h=>by
  unfold Zcs at h;cases e:noEx (nt ((Z.set i .no).set j (.im d))) with
  | bad=>rw [e] at h;cases h
  | ex c'=>cases z:nt ((Z.set i .no).set j (.im d))<;>rw [z] at e<;>cases e
  | ok b=>
   rw [e] at h;have a:(if b=true then Zcs i j nt Z r (gs++[g]) [] else Zcs i j nt Z r gs (g++[d]))=.ex c:=h
   split at a
   .exact ZhI r _ _ a
   .exact ZhI r _ _ a
def Zu6(hij:i≠j)(hik:i≠k)(ht:STt K mg E sc nt):SS K mg E (tGrp K i j k sc) (grp i j k nt):=by
 intro X M F H Y Z O;unfold grp;split
 .next G ek=>
  split
  .next hc=>
   simp only [Vbg,Vcb] at hc;obtain ⟨⟨⟨R,li⟩,lj⟩,hl⟩:=hc;cases er:Zcs i j nt Z G [] [] with
   | bad=>trivial
   | ex c=>exact aB er (ZhI _ _ _)
   | ok res=>
   intro D q;obtain ⟨x,ex,rx⟩:=O.im k _ ek;cases rx with
   | lst hq hrs=>
   rename_i aw xs;refine ⟨(VaR _),λN W=>⟨(show 1<=sizeLine by decide),λp hp=>?_⟩⟩;have n1:p≠N:=by
    rintro rfl;rw [Zae] at hp;cases hp
   have S:H p=none:=by rwa [Zad n1] at hp
   have z1:=O.h0 W;have z2:=O.h0 S;have f1:=O.g.s.free W;have f2:=O.g.s.free S;have r1:Rep K mg X M F (upd (upd H N (.lst [])) p (.lst [.ref N])) (Y.set i (some (.ref p))) (Z.set i .no):=((O.putE R z1 f1).putE R z2 f2).forg R i;have s1:Gst K mg M i p [] N [] [] F (upd (upd H N (.lst [])) p (.lst [.ref N])) (Y.set i (some (.ref p))) :=
    ⟨Zfn (by rw [O.len];exact li),z2,f2,Zae,λu hu=>by rw [Vb8.mp hu];exact Ne.symm n1,λu hu=>by simp at hu,rfl,λk u es e=>by simp at e,⟨z1,f1,[],by rw [Zad (Ne.symm n1)];exact Zae,.nil⟩⟩
   refine ⟨.ref aw,by rw [Za6 hik];exact ex,aw,rfl,.inl ⟨⟨xs,r1.ss.seq hq⟩,?_⟩⟩
   refine ⟨λm fu Y' H'=>fu=G.length - m/\m<=G.length/\∃I B g v r A t,Same F I/\Rep K mg X M I H' Y' B/\nOw B=true/\(∀d,B.set j (.im d)=(Z.set i .no).set j (.im d))/\Gst K mg M i g v r A t I H' Y'/\A.length<=m/\t.length<=m/\Zcs i j nt Z (G.drop m) A t=.ok res,
    ⟨_,rfl,VaR _,F,Z.set i .no,p,[],N,[],[],Same.refl _,r1,Zfb R (by simp),λ_=>rfl,s1,VaF _,VaF _,er⟩,?_⟩
   rintro m fu Y' H' ⟨rfl,hm,I,B,g,v,r,A,t,sF,r',hn',J,st,lg,lc,L⟩;have P:=r'.ss.seq (sF.seq hq);by_cases hlt:m<G.length
   .refine .inr ?_;have hd:=VbF hlt;obtain ⟨y,ey,ry⟩:=hrs.get hd;rw [Vbq hlt] at L;generalize G[m]=d at L ry hd;obtain ⟨b,eb,L⟩:=Zqj L;have eb:=Zqy eb
    refine ⟨⟨xs,y,P,ey⟩,λY2 Q=>∃I B g v r A t,Same F I/\Rep K mg X M I Q Y2 B/\nOw B=true/\(∀d,B.set j (.im d)=(Z.set i .no).set j (.im d))/\Gst K mg M i g v r A t I Q Y2/\A.length<=m+1/\t.length<=m+1/\Zcs i j nt Z (G.drop (m+1)) A t=.ok res,
     λY2 Q z=>⟨G.length - (m+1),by omega,rfl,hlt,z⟩,?_⟩
    rintro y' Q ⟨rfl,hy⟩;have e2:=hy xs P;rw [ey] at e2;cases e2;have U:=ry.same sF;have r2:=r'.set j U;rw [J d] at r2;have st2:=st.st (Y':=Y'.set j (some y)) (Za6 (Ne.symm hij));have hT:=ht X M I Q _ _ r2;rw [eb] at hT;refine hT _ λF3 H3 b' T hb=>?_;cases (hb);have r3:=r2.gr T;have o:=st2.gr T;have w:nOw ((Z.set i .no).set j (.im d))=true:=Zfb (Zfb R (by simp)) (by simp)
    have sj:(Y'.set j (some y))[j]?=some (some y):=Zfn (by
     have:=r'.len;have e3:B.length=Z.length:=by
      have:=Vaw List.length (J d);simpa using this
     omega)
    have bd:∀n,n<=m+1->n<sizeLine:=λn h=>VbI (Vak h hlt) (Vaf hl (by decide));cases b with
    | true=>
     refine ⟨.ref g,o.a,.inl ⟨rfl,_,SqL.of o.h⟩,by decide,λp3 C=>?_⟩;have gp:=Zac o.h C;refine ⟨g,(v++[r]).map V.ref,.ref p3,rfl,rfl,by rw [Zad gp];exact o.h,bd _ (by rw [VaO,Va5,st.l];exact VbK lg),?_⟩;have w0:=r3.h0 C;have wf:=r3.g.s.free C;exact ⟨F3,_,g,v++[r],p3,A++[t],[],sF.trans T.f,(r3.putE w w0 wf).putE w o.z o.f,w,λd'=>by rw [List.set_set],o.new C w0 wf,by rw [Va5];exact VbK lg,VaR _,L⟩
    | false=>
     obtain ⟨c1,c2,cs,c3,c4⟩:=o.c;refine ⟨.ref g,o.a,1,rfl,.inl ⟨g,(v++[r]).map V.ref,-1,.ref r,rfl,rfl,SqL.of o.h,?_,.inl ⟨rfl,cs,SqL.of c3⟩,y,sj,r,cs,y,rfl,rfl,c3,bd _ (by rw [c4.length];exact Nat.le_succ_of_le lc),?_⟩⟩
     .unfold atI ixN;rw [iN (by decide),iP (by rw [VaO,Va5];simp;omega)];show ((v++[r]).map V.ref)[(-1+(((v++[r]).map V.ref).length:Int)).toNat]?=_;rw [VaO,Va5,Vbj,show (-1+((v.length+1:Nat):Int)).toNat=v.length by omega,Va3,Va0 (VaF _),Nat.sub_self];rfl
     .exact ⟨F3,_,g,v,r,A,t++[d],sF.trans T.f,r3.putE w c1 c2,w,λd'=>by rw [List.set_set],o.app c3 (U.same T.f),Nat.le_succ_of_le lg,by rw [Va5];exact VbK lc,L⟩
   .refine .inl ⟨⟨xs,P,by rw [hrs.length];omega⟩,?_⟩;have e0:G.drop m=[]:=VbG (by omega);rw [e0] at L;cases L;obtain ⟨F5,g5,x5⟩:=st.ret r';exact ⟨.ref g,st.a,q F5 H' (.ref g) g5 x5⟩
  .trivial
 .trivial
end
section
variable {y z:Str} {t':Expr} {sc:TT} {nt:MB} {p1 p2 p3 p4 p5 p6 p7 p8 p9 q1 q2 q3 q4 q5 q6 q7 q8 q9:Pos} {n1:Nat}
def ZsK(hN:X.N.Nodup)(hp:PassesOwn (model X.prog X.w) X.A X.env X.xe)(hc:X.calm=true)(hij:i≠j)(hik:i≠k)(hi:X.N[i]?=some x)(hx:Loc X.env.scope x)(hj:X.N[j]?=some y)(hy:Loc X.env.scope y)(hk:X.N[k]?=some z)(ht:DT X E t' sc nt)(hv:Vis X.env.scope x:=by first | exact Or.inl rfl | exact Or.inr (Or.inl rfl) | exact Or.inr (Or.inr rfl))(hd:ND x:=by decide)(hcd:NE x:=by decide)(hvy:Vis X.env.scope y:=by first | exact Or.inl rfl | exact Or.inr (Or.inl rfl) | exact Or.inr (Or.inr rfl))(hdy:ND y:=by decide)(hcdy:NE y:=by decide)(hvz:Vis X.env.scope z:=by first | exact Or.inl rfl | exact Or.inr (Or.inl rfl) | exact Or.inr (Or.inr rfl))(hdz:ND z:=by decide)(hcdz:NE z:=by decide)(hs:swapsWith (.List [.List [] p1] p2) (some (.Name x p3)) p4.line X.env=pure false:=by rfl)(hf:X.fn x=true\/X.env.scope.names.lookup x=some .local:=by first | exact .inl rfl | exact .inr rfl | assumption)(hfy:X.fn y=true\/X.env.scope.names.lookup y=some .local:=by first | exact .inl rfl | exact .inr rfl | assumption)(hse:starEach [.List [] p1] X.env=(false,eval (.List [] p1) X.env)::starEach [] X.env:=by rfl)(hfs:∀u,foldedSetIterable (.Name z p6) X.env u=pure u:=by intro _;rfl)(hb1:attributeBase (.Name x p7) "append" X.env (eval (.Name x p7) X.env)=eval (.Name x p7) X.env:=by rfl) (hw1:((backTo p9 (starEach [.List [] q1] X.env)).all (λx=>!x.1)&&(backToKw p9 (keywordEach [] X.env)).all (λx=>x.1.isSome)
   && decide (([.List [] q1]:List Expr).length+([]:List Keyword).length+(if ([]:List Keyword).isEmpty then 0 else 1)<30))=true:=by rfl) (hl1:(p8.endLine==p9.line)=true:=by rfl) (hs1:starEach [.List [] q1] X.env=(false,eval (.List [] q1) X.env)::starEach [] X.env:=by rfl) (hp1:(backTo p9 (starEach [] X.env)).any (·.1)=false:=by rfl) (hsw1:swapsWith (.Call (.Attribute (.Name x p7) "append" p8) [.List [] q1] [] p9) none q2.line X.env=pure false:=by rfl) (hb2:attributeBase (.Subscript (.Name x q3) (.UnaryOp .USub (.Constant (.int 1) n1 q4) q5) q6) "append" X.env (eval (.Subscript (.Name x q3) (.UnaryOp .USub (.Constant (.int 1) n1 q4) q5) q6) X.env)=eval (.Subscript (.Name x q3) (.UnaryOp .USub (.Constant (.int 1) n1 q4) q5) q6) X.env:=by rfl) (hw2:((backTo q8 (starEach [.Name y q9] X.env)).all (λx=>!x.1)&&(backToKw q8 (keywordEach [] X.env)).all (λx=>x.1.isSome)
   && decide (([.Name y q9]:List Expr).length+([]:List Keyword).length+(if ([]:List Keyword).isEmpty then 0 else 1)<30))=true:=by rfl) (hl2:(q7.endLine==q8.line)=true:=by rfl) (hs2:starEach [.Name y q9] X.env=(false,eval (.Name y q9) X.env)::starEach [] X.env:=by rfl) (hp2:(backTo q8 (starEach [] X.env)).any (·.1)=false:=by rfl) {r1 r2 r3 r4 r5:Pos} (hsw2:swapsWith (.Call (.Attribute (.Subscript (.Name x q3) (.UnaryOp .USub (.Constant (.int 1) n1 q4) q5) q6) "append" q7) [.Name y q9] [] q8) none r1.line X.env=pure false:=by rfl) :
  DSs X E [.Assign [.Name x p3] (.List [.List [] p1] p2) p4,.For (.Name y p5) (.Name z p6) [.If t' [.Expr (.Call (.Attribute (.Name x p7) "append" p8) [.List [] q1] [] p9) q2] [.Expr (.Call (.Attribute (.Subscript (.Name x q3) (.UnaryOp .USub (.Constant (.int 1) n1 q4) q5) q6) "append" q7) [.Name y q9] [] q8) r1] r2] [] r3,.Return (some (.Name x r4)) r5]
   (tGrp X.K i j k sc) (grp i j k nt) :=
 ⟨ZbK (ZkA hN hi hx (ZiB (Zbo (ZiB Zcv) Zcv hse)) hs hf) (ZbK (ZpS hp hc (ZaS (E:=E) (d_v k hk hvz hdz hcdz)).p (Znt hN hj hy hfy) (Zgs (ZqA ht.p
   (Zgs (Zdz (Zk4 VbL VbM VbN ZeJ (Zdp hi hv hd hcd) (Zbo (ZiB Zcv) Zcv hs1) hb1 hw1 hl1 hs1 hp1) hsw1))
   (Zgs (Zdz (Zk4 VbL VbM VbN ZeJ (ZsI (IxR.or Zi5 ZlP) (Zdp hi hv hd hcd) (ZtO ZpJ Znf) (λ_ _=>rfl)) (Zbo (Zdp hj hvy hdy hcdy) Zcv hs2) hb2 hw2 hl2 hs2 hp2) hsw2)))) hfs) (Zgs (Zp1 (Zdp hi hv hd hcd)))),
Zu6 hij hik ht.s⟩
end
end L2.Ds
namespace L2
open PySem.Calls
section
open PySem.Builtin PySem.Builtin.ObjectAttr PySem.W
variable{prog:Program} {E:Value->Shared->Prop} {x C:Addr} {name:Str} {v:Value}
end
section
open PySem.Builtin PySem.Builtin.ObjectAttr
variable {a C:Addr} {f:Str} {E:Value->Shared->Prop}
end
end L2
namespace L2.Ds
open PySem.Calls Dl
abbrev TBr:=St->Hp->VK->XK->Prop
def PBr(X:Cx)(body:List Stmt)(t:TBr):Prop :=
 ∀b s Y H R j,Inv X b Y H s->t Y H R j->wX X (execs body X.env) (λf d=>∃u v h,f=.ret u/\RelV v u/\Inv X b Y h d/\R v h)
  (λk d=>∃e i a c p g,k=.ref a/\Inv X b Y i e/\Fly X.prog X.w X.stack i g e d a c/\Zme p a g e.heap d.heap/\j c p g) s
def Zpm(K:W.Frag)(mg:Str->Option Value)(tab:List (Str×(List D->Res D)))(n i:Nat)(t:TA):TBr:=λY H R c=>∃g m a,(g,m)∈tab/\mg g=some (.ref a)/\Y[i]?=some (some (.ref a))/\t Y H λd b=>spD K mg n m d b R c
section
variable {l:Nat} {y:Str} {tab:List (Str×(List D->Res D))} {t:TA} {p rpos:Pos}
def ZmH(hi:X.N[i]?=some y)(hv:Vis X.env.scope y)(T:∀q∈tab,Cal X.prog X.w X.K X.mg X.base k q.1 ps q.2)(hps:ps.length=n)(hr:Room l X.A)(hn:k<=l)(ha:PA X.nox (e::es) t)(hd:ND y)(hcd:NE y)(he:starEach (e::es) X.env=(false,eval e X.env)::starEach es X.env)(hpl:(backTo cpos (starEach es X.env)).any (·.1)=false) :
  PBr X [.Return (some (.Call (.Name y p) (e::es) [] cpos)) rpos] (Zpm X.K X.mg tab n i t):=by
 intro c s Y H R XE I h;obtain ⟨g,m,fa,hg,O,B,h⟩:=h;obtain ⟨f,fd,F,b,kp,hf⟩:=(T (g,m) hg).ex;rw [show X.mg g=some (.ref f) from hf] at O;cases O;refine wpAny_execs_cons (wpAny_Return_some ?_);refine VaV ?_;refine Vau (Zdp (X:=X.nox) hi hv hd hcd c s Y H (λv G=>v=.ref fa/\G=H) (I.wish _) ⟨_,B,rfl,rfl⟩) (λuv s1 zq=>?_) λ_ _ z=>z.elim;obtain ⟨v,G,J,r,C,D⟩:=zq;subst C D;cases (r);have M:=J.unwish;refine W.callWith_K M.ok.mod.kin kp (Vau (ha cpos c s1 Y G _ (M.wish _) h) (λu L zq=>?_) λ_ _ z=>z.elim) he hpl;obtain ⟨vs,P,j,Q,q⟩:=zq;refine ⟨j.unwish.kIn,?_⟩;have x:=j.unwish;subst hps;have hl:(u++[]).length=ps.length:=by rw [VaT,<-Q.length];exact F.len _ _ _ _ q
 have d:=b L u x.kIn hl;rw [VaT] at d;refine wpAny_call (VaU (F.run X.A X.stack L P ⟨u,[]⟩ u vs _ _ (hr.mono hn) x.env0 d Q q) λrr s' o=>?_);cases rr with
 | ok fl=>
  cases fl with
  | ret v=>
   obtain ⟨S,H3,I3,Z,V⟩:=x.after o;exact ⟨v,S,H3,rfl,Z,I3,V⟩
  | next=>exact False.elim o
  | brk=>exact False.elim o
  | cont=>exact False.elim o
 | error ev=>
  obtain ⟨a,E,p,H',rfl,Fl,py,U⟩:=o;exact ⟨L,P,a,E,p,H',rfl,x,Fl,py,U⟩
end
end L2.Ds
namespace L2.Ds
open PySem.Calls Dl
def mem_lookup:∀{tab:List (Str×α)},tab.lookup g=some m->(g,m)∈tab
 | [],h=>by cases h
 | (a,b)::r,h=>by
  rw [Vbm] at h;cases q:g==a with
  | true=>
   rw [q] at h;cases h;rw [VaL.mp q];exact Vao
  | false=>
   rw [q] at h;exact Vap _ (mem_lookup h)
end L2.Ds
namespace L2
open PySem.Calls
section
open PySem.Builtin PySem.Builtin.ObjectAttr PySem.W
variable{prog:Program} {E:Value->Shared->Prop} {x C d:Addr} {name:Str} {v:Value} {mA:Str->Option Value}
end
end L2
namespace L2.Ds
open PySem.Calls Dl
def tFn(mg:Str->Option Value)(x:Str):TE:=λ_ H Q=>∃f,mg x=some (.ref f)/\Q (.ref f) H
section
variable {m:List D->Res D}
def ya1(C:Cal X.prog X.w X.K X.mg X.base k x ps m)(hg:Gl X x)(hd:ND x:=by decide):DE X E (.Name x pos) (tFn X.mg x) (c (.cls x)):=by
 refine ⟨λa s Y H Q I h=>?_,λe i F H Y Z d=>?_⟩
 .obtain ⟨f,b,q⟩:=h;exact (Zgm (v:=.ref f) hg b rfl hd) a s Y H Q I q
 .obtain ⟨f,j,_,_,_,b⟩:=C.ex;exact λQ q=>⟨f,b,q F H _ (Gr.refl d.g.s) (.cls b)⟩
end
def Cal.mono(C:Cal P w K mg base k x ps m)(h:k<=j):Cal P w K mg base j x ps m:=by
 obtain ⟨f,d,F,b,c,a⟩:=C.ex;exact ⟨f,d,F.mono h,b,c,a⟩
end L2.Ds
namespace Dl
def scD:D->Bool
 | .str _=>true
 | .int _=>true
 | .bl _=>true
 | .non=>true
 | _=>false
end Dl
namespace L2.Ds
open PySem.Calls Dl
def Znj(K:W.Frag):Prop:=∀a o,K.lookup a=some o->o.cls≠.type "list"
def Zpt{F:Hp}:∀{xs:List V} {ds:List D},Rps K mg F xs ds->ds.all scD=true->Rps K mg F' xs ds
 | _,_,.nil,_=>.nil
 | _,_,.cons h r,p=>by
  rw [List.all_cons,Vbg] at p;refine .cons ?_ (Zpt r p.2);cases h with
  | non=>exact .non
  | bl b=>exact .bl b
  | int i=>exact .int i
  | str x=>exact .str x
  | _=>exact aB p.1 (by simp [scD])
def Fj(F F':Hp):Hp:=λb=>match F' b with
 | some o=>some o
 | none=>F b
def ZmD{F:Hp}(h:F' b=some o):Fj F F' b=some o:=by unfold Fj;rw [h]
def Zkw{F:Hp}(h:F' b=none):Fj F F' b=F b:=by unfold Fj;rw [h]
section
variable {F:Hp}
def Zhh(s:Same F H)(g:Gr (λ_=>none) H F' H'):Gr F H (Fj F F') H'/\(∀b o,F' b=some o->F b=none)/\Same F' (Fj F F'):=by
 have a:∀b o,F' b=some o->F b=none:=λb o e=>by
  cases q:F b with
  | none=>rfl
  | some u=>
   have z:=(g.o b u rfl (s b u q)).1;rw [e] at z;cases z
 refine ⟨⟨λb o e=>?_,λb o e=>?_,λb o c h=>?_,λb o u e=>?_⟩,a,λb o e=>ZmD e⟩
 .rw [Zkw (g.o b o rfl (s b o e)).1];exact e
 .cases q:F' b with
  | some u=>rw [ZmD q] at e;cases e;exact g.s b _ q
  | none=>rw [Zkw q] at e;exact (g.o b o rfl (s b o e)).2
 .obtain ⟨d,f⟩:=g.o b o rfl h;exact ⟨by rw [Zkw d];exact c,f⟩
 .cases q:F' b with
  | some w=>
   rw [ZmD q] at e;cases e;have:=g.z b o u q;cases this
  | none=>rw [Zkw q] at e;exact e
def ZpD(nl:Znj K)(g:Gr (λ_=>none) H F' H')(h:SqL K F' a xs):F' a=some (.lst xs):=by
 rcases h with (h | ⟨o,h⟩) | ⟨o,its,n,h1,h2,_⟩
 .exact h
 .have:=g.z a o _ h;cases this
 .exact aB h2 (nl a o h1)
end
def Zo2(h:K.all (λp=>!(p.2.cls==.type "list"))=true):Znj K:=λa o e z=>by
 have c:∀{K:W.Frag},K.lookup a=some o->(a,o)∈K:=by
  intro K
  induction K with
  | nil=>intro h;cases h
  | cons q r ih=>
   obtain ⟨b,d⟩:=q;intro h;rw [Vbm] at h;cases qa:a==b with
   | true=>
    rw [qa] at h;cases h;rw [VaL.mp qa];exact Vao
   | false=>
    rw [qa] at h;exact Vap _ (ih h)
 have w:=Vbp.mp h (a,o) (c e);rw [z] at w;simp at w
end L2.Ds
namespace Dl
abbrev MX:=Ev->D->Res Fl
def nwE(i:Nat)(mv:ME)(m:MS):MX:=λZ d=>match d with
 | .tup [_,_,_,.lst as,.lst bs]=>if as.length<1000/\bs.length<1000/\i<Z.length then (noEx (mv (Z.set i (.im d)))).bind λ_=>m (Z.set i .no) else .bad
 | _=>.bad
def nwI(i:Nat)(t:MB)(k:MS)(r:MX):MX:=λZ d=>(t (Z.set i (.im d))).bind λb=>if b=true then Zp6 (k (Z.set i (.im d))) else r Z d
def nwF(f:List D->Res D)(a:MA)(r:MX):MS:=λZ=>(a Z).bind λb=>if b.all scD=true then (f b).bind (r Z) else .bad
end Dl
namespace L2.Ds
open PySem.Calls Dl
section
variable {F F1 F2:Hp} {x:V} {sa:TT} {na:MB} {ub ur:TS} {kb kr:MS} {r:MX} {tv:TE} {mv:ME}
def AnsS.all{ι:Type}{φ:ι->Prop}{re:Res Fl}{w':ι->Ends->Prop}{w:Ends->Prop}(h:∀j,φ j->AnsS K mg E F0 H0 F re (w' j))(k:∀D,(∀j,φ j->w' j D)->w D):AnsS K mg E F0 H0 F re w:=by
 cases re with
 | ok f=>cases f<;>exact λD q=>k D λj p=>h j p D q
 | ex c=>exact λD q=>k D λj p=>h j p D q
 | bad=>trivial
def NewR(K:W.Frag)(mg:Str->Option Value)(F F1:Hp)(x:V)(d:D):Prop:=∃a e c,Gr (λ_=>none) e a c/\Same a F1/\(∀b o,a b=some o->F b=none)/\Rp K mg a x d
def NewR.up(h:NewR K mg F F1 x d)(s:Same F1 F2):NewR K mg F F2 x d:=by
 obtain ⟨a,b,c,g,e,p,q⟩:=h;exact ⟨a,b,c,g,e.trans s,p,q⟩
def SX(K:W.Frag)(mg:Str->Option Value)(E:XK)(i:Nat)(u:TS)(r:MX):Prop:=∀b e F H Y Z,Rep K mg b e F H Y Z->∀c a,Gr F H c a->∀x d,NewR K mg F c x d->AnsS K mg E b e F (r Z d) (λD=>u D (Y.set i (some x)) a)
def ZwN(ht:STt K mg E sa na)(hb:SS K mg E ub kb)(hr:SX K mg E i ur r):SX K mg E i (tSeq (tIfS sa ub Zlk) ur) (nwI i na kb r):=by
 intro s t F H Y Z y v z g x d A;have G:Rp K mg v x d:=by
  obtain ⟨a,b,c,g,e,p,q⟩:=A;exact q.same e
 have w:=(y.gr g).set i G;have l:=ht s t v z _ _ w;unfold nwI;cases et:na (Z.set i (.im d)) with
 | bad=>trivial
 | ex c=>rw [et] at l;exact λD q=>l _ λL I C J B=>q L I C (w.g.trans J) B
 | ok b=>
  rw [et] at l;cases b with
  | true=>
   show AnsS K mg E s t F (Zp6 (kb (Z.set i (.im d)))) _;have o:=λm n h=>hb s t m n _ _ (w.gr h);generalize kb (Z.set i (.im d))=rb at o
   match rb,o with
   | .ok (.rt d'),o=>
    exact λD q=>l _ λm n b h u=>by
     cases u;exact o m n h _ q
   | .ok (.nx _),_=>trivial
   | .ok (.bk _),_=>trivial
   | .ok (.ct _),_=>trivial
   | .ex _,_=>trivial
   | .bad,_=>trivial
  | false=>
   exact AnsS.all (ι:=Hp×Hp) (φ:=λj=>Gr v z j.1 j.2) (λj h=>hr s t F H Y Z y j.1 j.2 (g.trans h) x d (A.up h.f)) λD k=>l _ λm n b h u=>by
    cases u;exact k (m,n) h
def Zrp{p q:Addr}{xs zs:List V}{o:HO}(t:SqT K H p xs)(h:H q=some (.lst zs)):SqT K (upd H q o) p xs:=by
 rcases t with (t | ⟨u,t⟩) | t
 .exact .inl (.inl (by rw [Zad λz=>by rw [z,h] at t;cases t];exact t))
 .exact .inl (.inr ⟨u,by rw [Zad λz=>by rw [z,h] at t;cases t];exact t⟩)
 .exact .inr t
def ZsW(nl:Znj K)(hv:SE K mg E tv mv)(hr:SS K mg E ur kr) :
  SX K mg E i (tSeq (ZcU (tBM K "list" Zbp (tOp (rIxD K) (tVar i) (tC (.int 3))) (Zbq tv tNil))) (tSeq (ZcU (tBM K "list" Zbp (tOp (rIxD K) (tVar i) (tC (.int 4))) (Zbq (tC .non) tNil))) ur)) (nwE i mv kr):=by
 intro n q F H Y Z w F1 W g x d nx;unfold nwE;split
 case h_2=>trivial
 next d0 d1 d2 G P=>
 by_cases hd:G.length<1000/\P.length<1000/\i<Z.length
 case neg=>rw [iN hd];trivial
 rw [iP hd];obtain ⟨S,lb,t⟩:=hd;rw [<-w.len] at t;obtain ⟨X,Hn,Hm,N,h,C,Q⟩:=nx;have r1:=(w.gr g).set i (Q.same h);have M:=hv n q F1 W _ _ r1;cases ev:mv (Z.set i (.im (.tup [d0,d1,d2,.lst G,.lst P]))) with
 | bad=>trivial
 | ex c=>trivial
 | ok dv=>
 rw [ev] at M;show AnsS K mg E n q F (kr (Z.set i .no)) _;cases Q with
 | @tup p _ _ hA ra=>
 cases ra with | cons _ ra=>
 cases ra with | cons _ ra=>
 cases ra with | cons _ ra=>
 cases ra with | cons r3 ra=>
 cases ra with | cons r4 ra=>
 cases ra;cases r3 with
 | @lst q3 zs _ h3 s3=>
 cases r4 with
 | @lst q4 ws _ h4 s4=>
 have y:=ZpD nl N h3;have J:=ZpD nl N h4;refine AnsS.all (ι:=Hp×V) (φ:=λj=>Rep K mg n q F j.1 (Y.set i (some j.2)) (Z.set i .no)) (w':=λj D=>ur D (Y.set i (some j.2)) j.1) (λj p=>hr n q F j.1 _ _ p) λD k=>?_;have B:=g.s _ _ (h _ _ y);refine ⟨_,Zfn t,.inr ⟨p,_,3,.ref q3,rfl,rfl,Zau (h.trans g.s) hA,(by simp [atI,ixN]),.inl ⟨rfl,_,SqL.of B⟩,?_⟩⟩;refine M _ λT z v e rv=>?_;have m:=e.s _ _ (e.f _ _ (h _ _ y));have r:=e.s _ _ (e.f _ _ (h _ _ J));have t3:=Zrp (o:=.lst (zs++[v])) (Zau ((h.trans e.f).trans e.s) hA) m;refine ⟨_,_,v,rfl,rfl,m,Vaf (by rw [s3.length];exact S) (by decide),_,Zfn t,.inr ⟨p,_,4,.ref q4,rfl,rfl,t3,(by simp [atI,ixN]),?_⟩⟩;have I:∀{b c:Addr} {o O:HO},z b=some o->(T b=none\/∃u,F b=some u)->X c=some O->b≠c:=λ{b c o O} _ a R U=>by
  subst U;rcases a with a | ⟨u,a⟩
  .rw [e.f _ _ (h _ _ R)] at a;cases a
  .rw [C _ _ R] at a;cases a
 obtain ⟨l,hw,L⟩ : ∃l:List V,l.length<1001/\upd z q3 (.lst (zs++[v])) q4=some (.lst l):=by
  by_cases hqa:q4=q3
  .exact ⟨zs++[v],by rw [Va5,s3.length];simp;omega,by rw [hqa,Zae]⟩
  .exact ⟨ws,by rw [s4.length];omega,by rw [Zad hqa];exact r⟩
 exact ⟨.inl ⟨rfl,l,SqL.of L⟩,_,l,.non,rfl,rfl,L,Vaf hw (by decide),k (upd (upd z q3 (.lst (zs++[v]))) q4 (.lst (l++[.non])),.ref p) (w.letgo (g.trans e) λb o A a=>by
  show upd _ _ _ b=_
  rw [Zad (I A a J),Zad (I A a y)];exact A)⟩
end
structure DSx(X:Cx)(E:XK)(i:Nat)(sts:List Stmt)(u:TS)(r:MX):Prop where
 p:PSs X sts u
 s:SX X.K X.mg E i u r
section
variable {y:Str} {ev c':Expr} {s3 s4:Stmt} {rest body:List Stmt} {sa:TT} {na:MB} {ub ur:TS} {kb kr:MS} {r:MX} {tv:TE} {mv:ME} {t:TA} {m:MA} {f:List D->Res D} {np ip zp apos:Pos}
def Zmy(ht:DT X E c' sa na)(hb:DSs X E body ub kb)(h:DSx X E i rest ur r):DSx X E i (.If c' body [] spos::rest) (tSeq (tIfS sa ub Zlk) ur) (nwI i na kb r):=⟨ZbK (ZqA ht.p hb.p Zjq) h.p,ZwN ht.s hb.s h.s⟩
def Znq{j:Nat}{k:Int}(hi:X.N[i]?=some y)(hw:DE X E ev tv mv)
  (hv:Vis X.env.scope y:=by first | exact Or.inl rfl | exact Or.inr (Or.inl rfl) | exact Or.inr (Or.inr rfl)) (hd:ND y:=by decide) (hcd:NE y:=by decide)
  (hbase:attributeBase (.Subscript (.Name y np) (.Constant (.int k) j zp) ip) "append" X.env (eval (.Subscript (.Name y np) (.Constant (.int k) j zp) ip) X.env)=eval (.Subscript (.Name y np) (.Constant (.int k) j zp) ip) X.env:=by rfl)
  (hse:starEach [ev] X.env=(false,eval ev X.env)::starEach [] X.env:=by rfl)
  (hfew:((backTo cpos (starEach [ev] X.env)).all (λx=>!x.1)&&(backToKw cpos (keywordEach [] X.env)).all (λx=>x.1.isSome)
   && decide (([ev]:List Expr).length+([]:List Keyword).length+(if ([]:List Keyword).isEmpty then 0 else 1)<30))=true:=by rfl)
  (hline:(apos.endLine==cpos.line)=true:=by rfl) (hplain:(backTo cpos (starEach [] X.env)).any (·.1)=false:=by rfl)
  (hsw:swapsWith (.Call (.Attribute (.Subscript (.Name y np) (.Constant (.int k) j zp) ip) "append" apos) [ev] [] cpos) none spos.line X.env=pure false:=by rfl) :
  PS X (.Expr (.Call (.Attribute (.Subscript (.Name y np) (.Constant (.int k) j zp) ip) "append" apos) [ev] [] cpos) spos) (ZcU (tBM X.K "list" Zbp (tOp (rIxD X.K) (tVar i) (tC (.int k))) (Zbq tv tNil)))/\SE X.K X.mg E tv mv :=
 ⟨Zdz (Zk4 VbL VbM VbN ZeJ (ZsI (IxR.or Zi5 ZlP) (Zdp hi hv hd hcd) Znf (λ_ _=>rfl)) (Zbo hw.p Zcv hse) hbase hfew hline hse hplain) hsw,hw.s⟩
def Zrg(nl:Znj X.K)(p3:PS X s3 (ZcU (tBM X.K "list" Zbp (tOp (rIxD X.K) (tVar i) (tC (.int 3))) (Zbq tv tNil)))/\SE X.K X.mg E tv mv)(p4:PS X s4 (ZcU (tBM X.K "list" Zbp (tOp (rIxD X.K) (tVar i) (tC (.int 4))) (Zbq (tC .non) tNil)))/\SE X.K X.mg E (tC .non) (c .non))(hr:DSs X E rest ur kr) :
  DSx X E i (s3::s4::rest) (tSeq (ZcU (tBM X.K "list" Zbp (tOp (rIxD X.K) (tVar i) (tC (.int 3))) (Zbq tv tNil))) (tSeq (ZcU (tBM X.K "list" Zbp (tOp (rIxD X.K) (tVar i) (tC (.int 4))) (Zbq (tC .non) tNil))) ur)) (nwE i mv kr):=⟨ZbK p3.1 (ZbK p4.1 hr.p),ZsW nl p3.2 hr.s⟩
def Zro{fn:Expr}{kws:List Keyword}(hN:X.N.Nodup)(hi:X.N[i]?=some y)(hy:Loc X.env.scope y)(hc:DE X E (.Call fn es kws cpos) (ZiA (spD X.K X.mg k f) [] E t) (on f m))(ha:DA X E n es t m)(h:DSx X E i rest ur r)(hk:n=k:=by rfl)
  (hs:swapsWith (.Call fn es kws cpos) (some (.Name y pos')) spos.line X.env=pure false:=by rfl) (hf:X.fn y=true\/X.env.scope.names.lookup y=some .local:=by first | exact .inl rfl | exact .inr rfl | assumption) :
  DSs X E (.Assign [.Name y pos'] (.Call fn es kws cpos) spos::rest) (tSeq (tAsg (ZiA (spD X.K X.mg k f) [] E t) (Zfc i)) ur) (nwF f m r):=by
 subst hk;refine ⟨ZbK (ZkA hN hi hy hc.p hs hf) h.p,λA B F H Y Z l=>?_⟩;refine (ha.s A B F H Y Z l).stm (w':=λG a D=>spD X.K X.mg n f (G++[]) a (λx I=>ur D (Y.set i (some x)) I) E) l.g λo J u a G b M=>?_;by_cases hd:o.all scD=true
 case neg=>rw [iN hd];trivial
 rw [iP hd];simp only [VaT];have e:=ZhC (E:=E) (m:=f) (F:=λ_=>none) (H:=a) (λ_ _ z=>by cases z) (Zpt M hd) (ha.n Z o J);cases ef:f o with
 | bad=>trivial
 | ex c=>rw [ef] at e;exact λD q=>e _ λw v C g L=>q (Fj u w) v C (l.g.trans (b.trans (Zhh b.s g).1)) L
 | ok d=>
  rw [ef] at e;exact AnsS.all (ι:=Hp×Hp×V) (φ:=λj=>Gr (λ_=>none) a j.1 j.2.1/\Rp X.K X.mg j.1 j.2.2 d) (w':=λj D=>ur D (Y.set i (some j.2.2)) j.2.1) (λj p=>h.s A B u a Y Z (l.gr b) (Fj u j.1) j.2.1 (Zhh b.s p.1).1 _ d ⟨j.1,a,j.2.1,p.1,(Zhh b.s p.1).2.2,(Zhh b.s p.1).2.1,p.2⟩) λD k=>e _ λw v x g O=>k (w,v,x) ⟨g,O⟩
end
end L2.Ds
namespace Dl
def Zl1(tab:List (Str×(List D->Res D)))(i:Nat)(ma:MA):MS:=λZ=>match Z[i]? with
 | some (.im (.cls g))=>match tab.lookup g with
  | some m=>(noEx (ma Z)).bind λa=>match m a with
   | .ok d=>.ok (.rt d)
   | _=>.bad
  | none=>.bad
 | _=>.bad
end Dl
namespace L2.Ds
open PySem.Calls Dl
section
variable {l:Nat} {gn:Str} {tab:List (Str×(List D->Res D))} {t:TA} {ma:MA} {p rpos:Pos} {h0:ExceptHandler} {hs:List ExceptHandler}
def ZoI(hi:X.N[i]?=some gn)(hv:Vis X.env.scope gn)(T:∀q∈tab,Cal X.prog X.w X.K X.mg X.base k q.1 ps q.2)(hr:Room l X.A)(hn:k<=l)(ha:DA X.nox E0 j (e::es) t ma)
  (hps:ps.length=j:=by rfl) (hd:ND gn:=by decide) (hcd:NE gn:=by decide)
  (he:starEach (e::es) X.env=(false,eval e X.env)::starEach es X.env:=by rfl) (hpl:(backTo cpos (starEach es X.env)).any (·.1)=false:=by rfl) :
  DS X E (.Try [.Return (some (.Call (.Name gn p) (e::es) [] cpos)) rpos] (h0::hs) [] [] pos) (λD Y H=>Zpm X.K X.mg tab j i t Y H D.rt λ_ _ _=>False) (Zl1 tab i ma):=by
 refine ⟨λa s Y H D I h=>wpAny_Try_except (Vau (ZmH hi hv T hps hr hn ha.p hd hcd he hpl a s Y H _ _ I h) (λf Q z=>?_) λev Q z=>?_),?_⟩
 .obtain ⟨u,v,L,rfl,o,P,q⟩:=z;exact ⟨v,Y,L,P,o,q⟩
 .obtain ⟨_,_,_,_,_,_,_,_,_,_,z⟩:=z;exact z.elim
 intro y B F H Y Z r;unfold Zl1;split
 case h_2=>trivial
 next g M=>
 split
 case h_2=>trivial
 next m J=>
 obtain ⟨v,b,o⟩:=r.im i _ M;cases o with
 | cls hfa=>
 have h:=ha.s y B F H Y Z r;cases em:ma Z with
 | bad=>trivial
 | ex c=>trivial
 | ok ds=>
  rw [em] at h;show AnsS X.K X.mg E y B F (match m ds with | .ok d=>.ok (.rt d) | _=>.bad) _
  cases ef:m ds with
  | bad=>trivial
  | ex c=>trivial
  | ok d=>exact λD q=>⟨g,m,_,mem_lookup J,hfa,b,h _ λO V vs G C=>⟨by rw [C.length];exact ha.n Z ds em,O,ds,G.s,C,(by rw [ef];intro z;cases z),(λW z U R w S x=>by rw [ef] at z;cases z;exact q U R w (r.g.trans (G.trans S)) x),λc z=>by rw [ef] at z;cases z⟩⟩
end
end L2.Ds
namespace Dl
def Sm(k:Nat)(x:Int):Prop:=x.natAbs<2^k
def Sm.mono{k n:Nat}{x:Int}(h:Sm k x)(hn:k<=n):Sm n x:=Vaf h (Nat.pow_le_pow_right (by decide) hn)
def Sm.mul{m n:Nat}{x y:Int}(h:Sm m x)(g:Sm n y):Sm (m+n) (x*y):=by
 unfold Sm at *;rw [Int.natAbs_mul,Nat.pow_add];rcases Nat.eq_zero_or_pos x.natAbs with z | z
 .rw [z,Nat.zero_mul];exact Nat.mul_pos (Nat.two_pow_pos _) (Nat.two_pow_pos _)
 .exact VbI (Nat.mul_le_mul_left _ (Vam g)) (Nat.mul_lt_mul_of_pos_right h (Nat.two_pow_pos _))
def Sm.add{m n:Nat}{x y:Int}(h:Sm m x)(g:Sm n y):Sm (max m n+1) (x+y):=by
 have a:=h.mono (Nat.le_max_left m n);have b:=g.mono (Nat.le_max_right m n);unfold Sm at *;rw [Nat.pow_succ];have:=Int.natAbs_add_le x y;omega
def Sm.neg{m:Nat}{x:Int}(h:Sm m x):Sm m (-x):=by
 unfold Sm at *;rw [Int.natAbs_neg];exact h
def Sm.sub{m n:Nat}{x y:Int}(h:Sm m x)(g:Sm n y):Sm (max m n+1) (x - y):=by
 rw [Int.sub_eq_add_neg];exact h.add g.neg
def Sm.le{m:Nat}{x y:Int}(h:Sm m x)(e:y.natAbs<=x.natAbs):Sm m y:=VbI e h
def Sm.of64{x:Int}(h1:-18446744073709551616<x)(h2:x<18446744073709551616):Sm 64 x:=by
 unfold Sm;have:(2:Nat)^64=18446744073709551616:=by decide
 omega
def ZjY{n k:Nat}(h:n<2^k)(hk:0<k):n.log2<k:=by
 rcases Nat.eq_zero_or_pos n with z | z
 .rw [z];simpa using hk
 .exact (Nat.log2_lt (VaD z)).mpr h
def Sm.log{m:Nat}{x:Int}(h:Sm m x)(hm:m<9000):x.natAbs.log2<9000:=ZjY (h.mono (Vam hm)) (by decide)
def ZrI{a b:Int}(h:Sm 64 a):Zbg a b=true:=by
 unfold Zbg;rw [Vbk (show a.natAbs<2^64 from h)];rfl
def Zrj{a b:Int}(h:Sm 64 b):Zbg a b=true:=by
 unfold Zbg;rw [Vbk (show b.natAbs<2^64 from h)];simp
def ZaN{a b:Int}{m n:Nat}(h:Sm m a)(g:Sm n b)(hk:m+n<99999990):Zbg a b=true:=by
 have c:=ZjY (h.mono (Nat.le_succ m)) (Nat.succ_pos _);have d:=ZjY (g.mono (Nat.le_succ n)) (Nat.succ_pos _);unfold Zbg;rw [Vbk (show a.natAbs.log2+b.natAbs.log2<100000000 by omega)];simp
def ZsE{a b:Int}(h:Zbg a b=true):iMul a b=.ok (.int (a*b)):=by unfold iMul;rw [iP h]
def ZoT{a b:Int}(h:0<b):iMod a b=.ok (.int (a%b)):=by unfold iMod;rw [iP h]
def ZnW{a b:Int}(h:0<b)(hl:b.natAbs.log2<9000):iDiv a b=.ok (.int (a/b)):=by unfold iDiv;rw [iP hl,iP h]
def Zn1{a b:Int}(h:b<0)(hl:b.natAbs.log2<9000):iDiv a b=.ok (.int (a.fdiv b)):=by unfold iDiv;rw [iP hl,iN (by omega),iN (by omega)]
def Zsl{a b:Int}(h0:0<=b)(h1:b<=1000000)(h2:a.natAbs<2^64):iPow a b=.ok (.int (a^b.toNat)):=by unfold iPow;rw [iP ⟨h0,h1,h2⟩]
def Zse{a b:Int}(h0:0<=b)(h1:b<=1000000)(h2:a.natAbs<2^64):iShl a b=.ok (.int (a*2^b.toNat)):=by unfold iShl;rw [iP ⟨h0,h1,h2⟩]
def Zqc{a b:Int}(h0:0<=b):iShr a b=.ok (.int (a/2^b.toNat)):=by unfold iShr;rw [iP h0]
def ZqU(a b:Int):dEq (.int a) (.int b)=.ok (.bl (decide (a=b))):=by
 show Res.ok (D.bl (a==b))=_;rw [Bool.beq_eq_decide_eq]
def Zqi(a b:Int):dNe (.int a) (.int b)=.ok (.bl (!decide (a=b))):=by
 show Res.ok (D.bl (!(a==b)))=_;rw [Bool.beq_eq_decide_eq]
def ZnE{a b:List D}(h:a.length+b.length<=1000000):yac (.lst a) (.lst b)=.ok (.lst (a++b)):=by
 show (if a.length+b.length<=LIM then Res.ok (D.lst (a++b)) else .bad)=_
 rw [iP (show a.length+b.length<=LIM from h)]
def Zhc(xs:List D)(i:Int):dIx (.lst xs) (.int i)=ofO (at_ xs i):=rfl
def Zoq(xs:List D):bLen [.lst xs]=.ok (.int xs.length):=rfl
def ZnZ(xs:List D):bLen [.tup xs]=.ok (.int xs.length):=rfl
def Zpe(i:Int):bAbs [.int i]=.ok (.int i.natAbs):=by
 show Res.ok (D.int (if i<0 then -i else i))=_
 have:(if i<0 then -i else i)=(i.natAbs:Int):=by split<;>omega
 rw [this]
def Zrx{j:Int}(h0:-1000000000<=j)(h1:j<=1000000000):rng1 [.int j]=.ok (Zbw 0 j.toNat):=by
 show (if -1000000000<=j/\j<=1000000000 then Res.ok (Zbw 0 j.toNat) else .bad)=_
 rw [iP ⟨h0,h1⟩]
def Zf8{g:MG}{b:MS}(I:List D->Ev->Prop):∀(xs pre:List D),(∀p x r,xs=p++x::r->∀Z,I (pre++p) Z->∃Z1 Z2,g x Z=.ok Z1/\b Z1=.ok (.nx Z2)/\I (pre++p++[x]) Z2)->∀Z,I pre Z->∃Z',Zb2 g b xs Z=.ok (.nx Z')/\I (pre++xs) Z'
 | [],pre,_,Z,i=>⟨Z,rfl,by rw [VaT];exact i⟩
 | x::r,pre,h,Z,i=>by
  obtain ⟨Z1,Z2,c,j,a⟩:=h [] x r rfl Z (by rw [VaT];exact i);rw [VaT] at a
  obtain ⟨Z',f,d⟩:=Zf8 I r (pre++[x]) (λp y s e Z i=>by
   have z:=h (x::p) y s (by rw [e];rfl) Z (by simpa using i)
   simpa using z) Z2 a
  refine ⟨Z',?_,by simpa using d⟩;show (g x Z).bind (λZ1=>(b Z1).bind (turn (Zb2 g b r)))=_;rw [c];show (b Z1).bind (turn (Zb2 g b r))=_;rw [j];exact f
def ZmE(t:MB)(b:MS)(n:Nat)(Z:Ev):whGo t b (n+1) Z=(t Z).bind λx=>if x=true then (b Z).bind (turn (whGo t b n)) else .ok (.nx Z):=rfl
def Zej(g:MG)(t:MB)(e:ME)(Z:Ev)(x:D)(r:List D):ZaT g t e Z (x::r)=(g x Z).bind λZ1=>(t Z1).bind λb=>if b=true then (e Z1).bind λy=>(ZaT g t e Z r).bind λys=>.ok (y::ys) else ZaT g t e Z r:=rfl
def Zkb{g:MG}{e:ME}{Z:Ev}(P:D->D->Prop):∀xs:List D,(∀x∈xs,∃Z1 y,g x Z=.ok Z1/\e Z1=.ok y/\P x y)->∃ys,ZaT g yes e Z xs=.ok ys/\ys.length=xs.length/\∀(i:Nat) x y,xs[i]?=some x->ys[i]?=some y->P x y
 | [],_=>⟨[],rfl,rfl,λi x y h=>by simp at h⟩
 | x::r,h=>by
  obtain ⟨Z1,y,m,l,k⟩:=h x Vao;obtain ⟨ys,f,j,q⟩:=Zkb P r λz n=>h z (Vap _ n);refine ⟨y::ys,?_,Vaw (·+1) j,λi a b d c=>?_⟩
  .rw [Zej,m,Zdl];unfold yes at f ⊢;rw [Zdl,iP rfl,l,Zdl,f];rfl
  .cases i with
   | zero=>simp at d c;subst d c;exact k
   | succ i=>exact q i a b (by simpa using d) (by simpa using c)
def Tl{α:Type}(r:Res α)(U:α->Prop):Prop:=∃a,r=.ok a/\U a
section
variable{α β:Type}{U:α->Prop} {a b d:ME} {s t:MB}
def Zak{r:Res α}{x:α}(e:r=.ok x)(h:U x):Tl r U:=⟨x,e,h⟩
def Zav{x:α}(h:U x):Tl (.ok x) U:=⟨x,rfl,h⟩
def Zah{r:Res β}{f:β->Res α}(h:Tl r λx=>Tl (f x) U):Tl (r.bind f) U:=by
 obtain ⟨x,rfl,y,e,q⟩:=h;exact ⟨y,e,q⟩
def Tl.mono{r:Res α}{Ψ:α->Prop}(h:Tl r Ψ)(k:∀x,Ψ x->U x):Tl r U:=by
 obtain ⟨x,e,q⟩:=h;exact ⟨x,e,k x q⟩
def Tl.eq{r:Res α}{x:α}(h:Tl r (·=x)):r=.ok x:=by
 obtain ⟨y,e,rfl⟩:=h;exact e
def ZnA{c:Bool}{A B:Res α}(hc:c=true)(h:Tl A U):Tl (if c=true then A else B) U:=by rw [iP hc];exact h
def Znu{c:Bool}{A B:Res α}(hc:c=false)(h:Tl B U):Tl (if c=true then A else B) U:=by rw [iN (by rw [hc];exact VaC)];exact h
def w_dT{P:Prop} [Decidable P] {A B:Res α} (hc:P) (h:Tl A U):Tl (if decide P=true then A else B) U:=ZnA (Vbk hc) h
def w_dF{P:Prop} [Decidable P] {A B:Res α} (hc:¬P) (h:Tl B U):Tl (if decide P=true then A else B) U:=Znu (Vac hc) h
def w_nT{P:Prop} [Decidable P] {A B:Res α} (hc:¬P) (h:Tl A U):Tl (if (!decide P)=true then A else B) U:=ZnA (by rw [Vac hc];rfl) h
def w_nF{P:Prop} [Decidable P] {A B:Res α} (hc:P) (h:Tl B U):Tl (if (!decide P)=true then A else B) U:=Znu (by rw [Vbk hc];rfl) h
def Zc8{P:Prop} [Decidable P] {A B:Res α} (h1:P->Tl A U) (h2:¬P->Tl B U):Tl (if decide P=true then A else B) U:=by
 by_cases h:P
 .exact w_dT h (h1 h)
 .exact w_dF h (h2 h)
def ZgY{P:Prop} [Decidable P] {A B:Res α} (h1:¬P->Tl A U) (h2:P->Tl B U):Tl (if (!decide P)=true then A else B) U:=by
 by_cases h:P
 .exact w_nF h (h2 h)
 .exact w_nT h (h1 h)
end
section
variable{U:D->Prop} {a b d:ME} {s t:MB} {m:MA}
def w_v'(h:Tl (getC Z[i]?) U):Tl (v i Z) U:=h
def w_gC{o:Option Cl}{x:D}(e:o=some (.im x))(h:U x):Tl (getC o) U:=Zak (by rw [e];rfl) h
def w_c{x:D}(h:U x):Tl (c x Z) U:=Zav h
def w_o1{f:D->Res D}(h:Tl (a Z) λx=>Tl (f x) U):Tl (o1 f a Z) U:=Zah h
def w_o2{f:D->D->Res D}(h:Tl (a Z) λx=>Tl (b Z) λy=>Tl (f x y) U):Tl (o2 f a b Z) U:=Zah (h.mono λ_ q=>Zah q)
def w_on{f:List D->Res D}(h:Tl (m Z) λxs=>Tl (f xs) U):Tl (on f m Z) U:=Zah h
def Zwm(h:Tl (m Z) λxs=>U (.tup xs)):Tl (mtp m Z) U:=Zah (h.mono λ_ q=>Zav q)
def ZwS(h:Tl (m Z) λxs=>U (.lst xs)):Tl (mls m Z) U:=Zah (h.mono λ_ q=>Zav q)
def Zu4(h:Tl (trb a Z) λx=>Tl (if x=true then b Z else .ok (.bl false)) U):Tl (eAnd a b Z) U:=Zah h
def Zvn(h:Tl (trb a Z) λx=>U (.bl (!x))):Tl (eNot a Z) U:=Zah (h.mono λ_ q=>Zav q)
def Zwh(h:Tl (t Z) λx=>Tl (if x=true then a Z else b Z) U):Tl (ife t a b Z) U:=Zah h
def Zv6{lo hi:Ev->Res (Option Int)}(h:Tl (a Z) λx=>Tl (lo Z) λl=>Tl (hi Z) λu=>Tl (dCut x l u) U):Tl (cut a lo hi Z) U:=Zah (h.mono λ_ q=>Zah (q.mono λ_ q=>Zah q))
def Ztm{it:MI}{own:Nat}{cap:List Nat}{g:MG}{e:ME}(h:Tl (it Z) λxs=>xs.length<=1000000/\Tl (ZaT g t e (noA own (yaG Z cap)) xs) λys=>U (.lst ys)):Tl (comp it own cap g t e Z) U:=by
 refine Zah (h.mono λxs q=>?_);rw [iP (show xs.length<=LIM from q.1)];obtain ⟨ys,b,a⟩:=q.2;rw [b];exact Zav a
def w_fn{k:MS}{ds:List D}(h:Tl (k (ev0 n ds)) λf=>Tl (endOf f) U):Tl (fn n k ds) U:=Zah h
def Zve{x y:Int}(h:U (.int (x+y))):Tl (yac (.int x) (.int y)) U:=Zav h
def ZgN{x y:List D}(hl:x.length+y.length<=1000000)(h:U (.lst (x++y))):Tl (yac (.lst x) (.lst y)) U:=Zak (ZnE hl) h
def w_sub{x y:Int}(h:U (.int (x - y))):Tl (dSub (.int x) (.int y)) U:=Zav h
def w_mul{x y:Int}(hm:Zbg x y=true)(h:U (.int (x*y))):Tl (yaj (.int x) (.int y)) U:=Zak (ZsE hm) h
def w_mod{x y:Int}(hy:0<y)(h:U (.int (x%y))):Tl (yau (.int x) (.int y)) U:=Zak (ZoT hy) h
def w_div{x y:Int}(hy:0<y)(hl:y.natAbs.log2<9000)(h:U (.int (x/y))):Tl (yaP (.int x) (.int y)) U:=Zak (ZnW hy hl) h
def w_divN{x y:Int}(hy:y<0)(hl:y.natAbs.log2<9000)(h:U (.int (x.fdiv y))):Tl (yaP (.int x) (.int y)) U:=Zak (Zn1 hy hl) h
def w_pow{x y:Int}(h0:0<=y)(h1:y<=1000000)(h2:x.natAbs<2^64)(h:U (.int (x^y.toNat))):Tl (dPow (.int x) (.int y)) U:=Zak (Zsl h0 h1 h2) h
def w_shl{x y:Int}(h0:0<=y)(h1:y<=1000000)(h2:x.natAbs<2^64)(h:U (.int (x*2^y.toNat))):Tl (dShl (.int x) (.int y)) U:=Zak (Zse h0 h1 h2) h
def w_shr{x y:Int}(h0:0<=y)(h:U (.int (x/2^y.toNat))):Tl (dShr (.int x) (.int y)) U:=Zak (Zqc h0) h
def ZwP{x:Int}(h:U (.int (-x))):Tl (dNeg (.int x)) U:=Zav h
def w_lt{x y:Int}(h:U (.bl (decide (x<y)))):Tl (dLt (.int x) (.int y)) U:=Zav h
def w_le{x y:Int}(h:U (.bl (decide (x<=y)))):Tl (dLe (.int x) (.int y)) U:=Zav h
def w_gt{x y:Int}(h:U (.bl (decide (y<x)))):Tl (dGt (.int x) (.int y)) U:=Zav h
def w_ge{x y:Int}(h:U (.bl (decide (y<=x)))):Tl (dGe (.int x) (.int y)) U:=Zav h
def ZvK{x y:Int}(h:U (.bl (decide (x=y)))):Tl (dEq (.int x) (.int y)) U:=Zak (ZqU x y) h
def Zwl{x y:Int}(h:U (.bl (!decide (x=y)))):Tl (dNe (.int x) (.int y)) U:=Zak (Zqi x y) h
def ZvG{x:D}(h:U (.bl (Zk6 x))):Tl (dIsN x) U:=Zav h
def Ztj{x:D}(h:U (.bl (!Zk6 x))):Tl (ZlL x) U:=Zav h
def ZtN{xs:List D}(h:U (.int xs.length)):Tl (bLen [.lst xs]) U:=Zav h
def ZtJ{xs:List D}(h:U (.int xs.length)):Tl (bLen [.tup xs]) U:=Zav h
def ZsB{ns:List Int}(h:U (.int ns.length)):Tl (bLen [.tup (ns.map .int)]) U:=Zak (by rw [ZnZ,VaO]) h
def Zq8{ns:List Int}(h:U (.int ns.length)):Tl (bLen [.lst (ns.map .int)]) U:=Zak (by rw [Zoq,VaO]) h
def ZvM{x:Int}(h:U (.int x.natAbs)):Tl (bAbs [.int x]) U:=Zak (Zpe x) h
def ZuS{xs:List D}(h:U (.tup xs)):Tl (bTup [.lst xs]) U:=Zav h
def Ztu{xs:List D}(h:U (.lst xs)):Tl (bLst [.lst xs]) U:=Zav h
def ZuZ{xs:List D}(h:U (.lst xs)):Tl (bLst [.tup xs]) U:=Zav h
def Zvg{xs:List D}{lo hi:Option Int}(h:U (.lst (cutL xs lo hi))):Tl (dCut (.lst xs) lo hi) U:=Zav h
def Zvi{xs:List D}{lo hi:Option Int}(h:U (.tup (cutL xs lo hi))):Tl (dCut (.tup xs) lo hi) U:=Zav h
end
section
variable{U:Bool->Prop} {a:ME} {s t:MB}
def Zwo(h:Tl (a Z) λx=>Tl (tru x) U):Tl (trb a Z) U:=Zah h
def ZvE{b:Bool}(h:U b):Tl (tru (.bl b)) U:=Zav h
def Zt6(h:Tl (s Z) λx=>Tl (if x=true then t Z else .ok false) U):Tl (bAnd s t Z) U:=Zah h
def ZwI(h:Tl (s Z) λx=>Tl (if x=true then .ok true else t Z) U):Tl (bOr s t Z) U:=Zah h
def Zt4(h:Tl (s Z) λx=>U (!x)):Tl (bNot s Z) U:=Zah (h.mono λ_ q=>Zav q)
def Zws(h:U true):Tl (yes Z) U:=Zav h
end
section
variable{U:List D->Prop} {a:ME} {m:MA}
def ZuI(h:U []):Tl (yaa Z) U:=Zav h
def Zsx(h:Tl (a Z) λx=>Tl (m Z) λxs=>U (x::xs)):Tl (Zaa a m Z) U:=Zah (h.mono λ_ q=>Zah (q.mono λ_ q=>Zav q))
def w_iv(h:Tl (a Z) λx=>Tl (items x) U):Tl (iv a Z) U:=Zah h
def ZvO{xs:List D}(h:U xs):Tl (items (.lst xs)) U:=Zav h
def ZwR{xs:List D}(h:U xs):Tl (items (.tup xs)) U:=Zav h
def w_r1(h:Tl (m Z) λxs=>Tl (rng1 xs) U):Tl (r1 m Z) U:=Zah h
def w_r2(h:Tl (m Z) λxs=>Tl (rng2 xs) U):Tl (r2 m Z) U:=Zah h
def ZtH{j:Int}(h0:-1000000000<=j/\j<=1000000000)(h:U (Zbw 0 j.toNat)):Tl (rng1 [.int j]) U:=Zak (Zrx h0.1 h0.2) h
def ZuT{g:MG}{t:MB}{e:ME}(h:U []):Tl (ZaT g t e Z []) U:=Zav h
def Zk9{g:MG}{t:MB}{e:ME}{x:D}{r:List D}(h:Tl (g x Z) λZ1=>Tl (t Z1) λb=>Tl (if b=true then (e Z1).bind λy=>(ZaT g t e Z r).bind λys=>.ok (y::ys) else ZaT g t e Z r) U):Tl (ZaT g t e Z (x::r)) U :=
 Zah (h.mono λ_ q=>Zah q)
end
section
variable{U:Option Int->Prop} {a:ME}
def ZvF(h:U none):Tl (pno Z) U:=Zav h
def Zwt(h:Tl (a Z) λx=>Tl (optI x) U):Tl (pso a Z) U:=Zah h
def Zui{i:Int}(h:U (some i)):Tl (optI (.int i)) U:=Zav h
end
section
variable{U:Ev->Prop} {x:D}
def w_gN(h:U (Z.set i (.im x))):Tl (gN i x Z) U:=Zav h
def ZwO(h:U Z):Tl (gs0 [] Z) U:=Zav h
def ZwX{g:MG}{r:MGs}{ds:List D}(h:Tl (g x Z) λZ'=>Tl (r ds Z') U):Tl (gs1 g r (x::ds) Z) U:=Zah h
def ZvN{g:MGs}{xs:List D}(hl:xs.length=n)(h:Tl (g xs Z) U):Tl (gU n g (.lst xs) Z) U:=by
 show Tl (if xs.length=n then g xs Z else .bad) U
 rw [iP hl];exact h
end
section
variable{U:Fl->Prop} {a b:ME} {k l:MS} {t:MB}
def w_sq(h:Tl (k Z) λf=>Tl (goOn l f) U):Tl (sq k l Z) U:=Zah h
def w_gx(h:Tl (l Z) U):Tl (goOn l (.nx Z)) U:=h
def w_gr{x:D}(h:U (.rt x)):Tl (goOn l (.rt x)) U:=Zav h
def w_gc(h:U (.ct Z)):Tl (goOn l (.ct Z)) U:=Zav h
def w_st(h:Tl (a Z) λx=>U (.nx (Z.set i (.im x)))):Tl (st i a Z) U:=Zah (h.mono λ_ q=>Zav q)
def Zww(h:Tl (a Z) λx=>U (.rt x)):Tl (ret a Z) U:=Zah (h.mono λ_ q=>Zav q)
def Zv0(h:U (.nx Z)):Tl (nop Z) U:=Zav h
def ZvU(h:U (.ct Z)):Tl (cnt Z) U:=Zav h
def ZvZ(h:Tl (a Z) λ_=>U (.nx Z)):Tl (drp a Z) U:=Zah (h.mono λ_ q=>Zav q)
def ZvR{g:MG}(h:Tl (a Z) λx=>Tl (g x Z) λZ'=>U (.nx Z')):Tl (asg g a Z) U:=Zah (h.mono λ_ q=>Zah (q.mono λ_ q=>Zav q))
def Zwz(h:Tl (a Z) λx=>Tl (b Z) λy=>U (.nx ((Z.set i (.im x)).set j (.im y)))):Tl (par i j a b Z) U:=Zah (h.mono λ_ q=>Zah (q.mono λ_ q=>Zav q))
def ZwW(h:Tl (t Z) λx=>Tl (if x=true then k Z else l Z) U):Tl (ifs t k l Z) U:=Zah h
def ZwH{it:MI}{g:MG}(h:Tl (it Z) λxs=>Tl (Zb2 g k xs Z) U):Tl (for_ it g k Z) U:=Zah h
def ZvC{fu:Ev->Nat}(h:Tl (whGo t k (fu Z) Z) U):Tl (whl fu t k Z) U:=h
def ZvX(h:Tl (a Z) λx=>Tl (lstO x) λxs=>U (.nx (Z.set i (.ow xs)))):Tl (stO i a Z) U:=Zah (h.mono λ_ q=>Zah (q.mono λ_ q=>Zav q))
def ZuX{Ψ:List D->Prop}{xs:List D}(h:Ψ xs):Tl (lstO (.lst xs)) Ψ:=Zav h
def Zvp(h:Tl (getO Z[i]?) λxs=>Tl (k (Z.set i (.im (.lst xs)))) U):Tl (frz i k Z) U:=Zah h
def ZtP(h:Tl (getO Z[i]?) λxs=>Tl (a Z) λd=>xs.length<1000000/\U (.nx (Z.set i (.ow (xs++[d]))))):Tl (app i a Z) U:=by
 refine Zah (h.mono λxs q=>Zah (q.mono λd q=>?_));rw [iP (show xs.length<LIM from q.1)];exact Zav q.2
def w_gO{Ψ:List D->Prop}{o:Option Cl}{xs:List D}(e:o=some (.ow xs))(h:Ψ xs):Tl (getO o) Ψ:=Zak (by rw [e];rfl) h
def w_eR{Ψ:D->Prop}{x:D}(h:Ψ x):Tl (endOf (.rt x)) Ψ:=Zav h
def w_eN{Ψ:D->Prop}(h:Ψ .non):Tl (endOf (.nx Z)) Ψ:=Zav h
def w_tx(h:Tl (k Z) U):Tl (turn k (.nx Z)) U:=h
def w_tr{x:D}(h:U (.rt x)):Tl (turn k (.rt x)) U:=Zav h
def w_f0{g:MG}(h:U (.nx Z)):Tl (Zb2 g k [] Z) U:=Zav h
def w_f1{g:MG}{x:D}{r:List D}(h:Tl (g x Z) λZ1=>Tl (k Z1) λf=>Tl (turn (Zb2 g k r) f) U):Tl (Zb2 g k (x::r) Z) U:=Zah (h.mono λ_ q=>Zah q)
def ZmL{g:MG}{xs:List D}(I:List D->Ev->Prop)(h0:I [] Z)(h:∀p x r,xs=p++x::r->∀Z,I p Z->Tl (g x Z) λZ1=>Tl (k Z1) λf=>∃Z2,f=.nx Z2/\I (p++[x]) Z2)(hd:∀Z,I xs Z->U (.nx Z)):Tl (Zb2 g k xs Z) U:=by
 obtain ⟨d,e,i⟩:=Zf8 (g:=g) (b:=k) I xs [] (λp x r j Z i=>by
  obtain ⟨Z1,a,f,l,Z2,rfl,c⟩:=h p x r j Z i
  exact ⟨Z1,Z2,a,l,c⟩) Z h0
 exact ⟨_,e,hd d i⟩
def w_wh{n:Nat}(I:Ev->Prop)(μ:Ev->Nat)(h0:I Z)(hm:μ Z<n)(h:∀Z,I Z->Tl (t Z) λb=>(b=true->Tl (k Z) λf=>∃Z2,f=.nx Z2/\I Z2/\μ Z2<μ Z)/\(b=false->U (.nx Z))):Tl (whGo t k n Z) U:=by
 induction n generalizing Z with
 | zero=>exact aB hm (Nat.not_lt_zero _)
 | succ n ih=>
  rw [ZmE];obtain ⟨b,e,q⟩:=h Z h0;rw [e];cases b with
  | true=>
   obtain ⟨f,c,Z2,rfl,a,d⟩:=q.1 rfl;show Tl ((k Z).bind (turn (whGo t k n))) U;rw [c];exact ih a (by omega)
  | false=>exact Zav (q.2 rfl)
def Zhn:∀{ns ms:List Int},ns.map D.int=ms.map D.int->ns=ms
 | [],[],_=>rfl
 | [],_::_,h=>by cases h
 | _::_,[],h=>by cases h
 | n::r,m::s,h=>by
  have a:D.int n=D.int m/\r.map D.int=s.map D.int:=by simpa using h
  rw [Zhn a.2];cases a.1;rfl
end
def ZaV{α:Type}{U:List D->Prop}{g:MG}{e:ME}{Z:Ev}{enc:α->D}(f:α->D):∀{l:List α},(∀a∈l,Tl (g (enc a) Z) λZ1=>Tl (e Z1) λy=>y=f a)->U (l.map f)->Tl (ZaT g yes e Z (l.map enc)) U:=by
 intro l h q;have c:∀l:List α,(∀a∈l,Tl (g (enc a) Z) λZ1=>Tl (e Z1) λy=>y=f a)->ZaT g yes e Z (l.map enc)=.ok (l.map f):=by
  intro l
  induction l with
  | nil=>exact λ_=>rfl
  | cons a r ih=>
   intro h;obtain ⟨Z1,j,y,d,rfl⟩:=h a Vao;have z:=ih λb i=>h b (Vap _ i);rw [VaN,Zej,j,Zdl];unfold yes at z ⊢;rw [Zdl,iP rfl,d,Zdl,z];rfl
 exact Zak (c l h) q
def w_all{U:List D->Prop}{g:MG}{e:ME}{Z:Ev}{xs:List D}(P:D->D->Prop)(h:∀x∈xs,Tl (g x Z) λZ1=>Tl (e Z1) λy=>P x y)(q:∀ys:List D,ys.length=xs.length->(∀(i:Nat) x y,xs[i]?=some x->ys[i]?=some y->P x y)->U ys):Tl (ZaT g yes e Z xs) U:=by
 obtain ⟨ys,b,l,a⟩:=Zkb (g:=g) (e:=e) (Z:=Z) P xs λx d=>by
  obtain ⟨Z1,b,y,c,a⟩:=h x d;exact ⟨Z1,y,b,c,a⟩
 exact ⟨ys,b,q ys l a⟩
section
variable{U:D->Prop}
def Zwa{x y:D}(h:Tl (dIx x y) U):Tl (dIx x y) U:=h
def ZsY{xs:List D}(h:Tl (bLen xs) U):Tl (bLen xs) U:=h
def ZvY{xs:List D}(h:Tl (bIsi xs) U):Tl (bIsi xs) U:=h
def Zlo{α:Type}{xs:List α}{i:Nat}:at_ xs (i:Int)=xs[i]?:=by
 unfold at_;rw [iP (Int.natCast_nonneg i),Vby]
def ZwE{ns:List Int}{i:Int}(h:-(ns.length:Int)<=i/\i<ns.length)(q:∀n∈ns,U (.int n)):Tl (dIx (.lst (ns.map .int)) (.int i)) U:=by
 rw [Zhc];unfold at_;rw [VaO];by_cases h0:0<=i
 .have a:i.toNat<ns.length:=by omega
  rw [iP h0,Va3,VbF a];exact Zav (q _ (Vb4 a))
 .have a:(i+ns.length).toNat<ns.length:=by omega
  rw [iN h0,iP h.1,Va3,VbF a];exact Zav (q _ (Vb4 a))
end
mutual
def ZhK:∀(x:D) (k:Nat),plain k x=true->eqD x x=true
 | .non,_,_=>rfl
 | .bl b,_,_=>by show (b==b)=true;simp
 | .int b,_,_=>by show (b==b)=true;simp
 | .str b,_,_=>by show (b==b)=true;simp
 | .tup xs,0,h=>by simp [plain] at h
 | .lst xs,0,h=>by simp [plain] at h
 | .tup xs,k+1,h=>Zgc xs k (by simpa [plain] using h)
 | .lst xs,k+1,h=>Zgc xs k (by simpa [plain] using h)
 | .ty _,k,h=>by cases k<;>simp [plain] at h
 | .cls _,k,h=>by cases k<;>simp [plain] at h
 | .exc _,k,h=>by cases k<;>simp [plain] at h
def Zgc:∀(xs:List D) (k:Nat),Zay k xs=true->eqDs xs xs=true
 | [],_,_=>rfl
 | x::xs,k,h=>by
  have a:plain k x=true/\Zay k xs=true:=by simpa [Zay] using h
  show (eqD x x&&eqDs xs xs)=true;rw [ZhK x k a.1,Zgc xs k a.2];rfl
end
def ZfK(i:Nat)(Z:Ev):Nat:=((Z[i]?).map absC).getD 0
def ZdV:∀(Z:Ev) (i:Nat),ZfK i Z<fuel Z
 | [],i=>by simp [ZfK,fuel]
 | c::r,0=>by simp [ZfK,fuel];omega
 | c::r,i+1=>by
  have:=ZdV r i;simp [ZfK,fuel] at this ⊢;omega
def Zhs{U:D->Prop}{ys:List D}(h:∀y∈ys,y=.bl true)(q:U (.bl true)):Tl (bAll [.lst ys]) U:=by
 have b:∀ys:List D,(∀y∈ys,y=.bl true)->∃a,bools ys=.ok a/\a.all id=true:=by
  intro ys
  induction ys with
  | nil=>exact λ_=>⟨[],rfl,rfl⟩
  | cons y r ih=>
   intro h;obtain ⟨a,d,c⟩:=ih λz e=>h z (Vap _ e);obtain rfl:=h y Vao;exact ⟨true::a,by show (bools r).bind _=_;rw [d];rfl,by simpa using c⟩
 obtain ⟨a,d,c⟩:=b ys h;refine Zak (x:=.bl true) ?_ q;show (bools ys).bind (λa=>Res.ok (D.bl (a.all id)))=_;rw [d];show Res.ok (D.bl (a.all id))=_;rw [c]
section
variable{U:D->Prop}
def w_pk{m:ME}(h:Tl (getO Z[i]?) λxs=>Tl (m (Z.set i (.im (.lst xs)))) λd=>Tl (Zie d) U):Tl (pk i m Z) U:=Zah (h.mono λ_ q=>Zah q)
def Zwj{Ψ:Bool->Prop}{m:MB}(h:Tl (getO Z[i]?) λxs=>Tl (m (Z.set i (.im (.lst xs)))) Ψ):Tl (pkB i m Z) Ψ:=Zah h
def Zwu{n:Int}(h:U (.int n)):Tl (Zie (.int n)) U:=Zav h
def ZuK{x:D}{ys:List D}(h1:plain 50 x=true)(h2:Zay 50 ys=true)(h:U (.bl (!inD x ys))):Tl (dNin x (.lst ys)) U:=by
 refine Zak (x:=.bl (!inD x ys)) ?_ h;show (if (plain 50 x&&Zay 50 ys)=true then Res.ok (D.bl (!inD x ys)) else .bad)=_
 rw [h1,h2];rfl
end
end Dl
namespace Dl
section
variable{Ψ:List D->Prop}{U:D->Prop} {m:MA} {xs ys zs:List D} {a b:ME}
def Zvv(h:U (.lst (trips xs ys zs))):Tl (lz3 [.tup xs,.tup ys,.tup zs]) U:=Zav h
end
end Dl
namespace Mt
def gcdL(g:Nat):List Int->Nat
 | []=>g
 | x::r=>gcdL (Nat.gcd g x.natAbs) r
def Zke(a b:Nat):Nat.gcd b (a%b)=Nat.gcd a b:=by
 rw [Nat.gcd_comm a b,Nat.gcd_rec b a,Nat.gcd_comm]
def Zj4(t b:Int):gcdL 0 [t,b]=Int.gcd t b:=by
 show Nat.gcd (Nat.gcd 0 t.natAbs) b.natAbs=_;rw [Nat.gcd_zero_left];rfl
def Zny(a b:Int):Int.gcd b (a%b)=Int.gcd a b:=by
 have e:=Int.gcd_add_mul_left_left b (a%b) (a/b);rw [Int.emod_add_mul_ediv] at e;rw [Int.gcd_comm b,e]
def frT(t b:Int):Int:=if b<0 then t.fdiv (-(Int.gcd t b:Int)) else t.fdiv (Int.gcd t b:Int)
def frB(t b:Int):Int:=if b<0 then b.fdiv (-(Int.gcd t b:Int)) else b.fdiv (Int.gcd t b:Int)
def Zew{t b:Int}(h:b≠0):0<Int.gcd t b:=Int.gcd_pos_of_ne_zero_right t h
def ZfE{a d q:Int}(h:a=d*q)(hd:d≠0):a.fdiv d=q:=by
 subst h;exact Int.mul_fdiv_cancel_left q hd
structure Fr(t b p q:Int):Prop where
 pos:1<=q
 low:Int.gcd p q=1
 same:p*b=t*q
 np:p.natAbs<=t.natAbs
 nq:q.natAbs<=b.natAbs
def ZtR{t b:Int}(h:b≠0):Fr t b (frT t b) (frB t b):=by
 have l:=Zew (t:=t) h;obtain ⟨p,f⟩:=Int.gcd_dvd_left t b;obtain ⟨q,i⟩:=Int.gcd_dvd_right t b;have k:(0:Int)<(Int.gcd t b:Int):=Int.natCast_pos.mpr l;have d:Int.gcd p q=1:=by
  have e:Int.gcd ((Int.gcd t b:Int)*p) ((Int.gcd t b:Int)*q)=Int.gcd t b*Int.gcd p q:=by
   rw [Int.gcd_mul_left,Vce]
  rw [<-f,<-i] at e;have n:Int.gcd t b*Int.gcd p q=Int.gcd t b*1:=by rw [Nat.mul_one];exact e.symm
  exact Nat.eq_of_mul_eq_mul_left l n
 unfold frT frB;generalize Int.gcd t b=g at *;have a:∀{x y:Int},x=(g:Int)*y->y.natAbs<=x.natAbs:=λ{x y} e=>by
  rw [e,Int.natAbs_mul,Vce];exact Nat.le_mul_of_pos_left _ l
 have c:p*b=t*q:=by
  rw [i,f,Int.mul_left_comm,Int.mul_assoc]
 have j:-(g:Int)≠0:=by omega
 by_cases hb:b<0
 .rw [iP hb,iP hb,ZfE (q:=-p) (by rw [Int.neg_mul_neg];exact f) j,ZfE (q:=-q) (by rw [Int.neg_mul_neg];exact i) j];have m:q<0:=by
   rcases Int.lt_or_le q 0 with z | z
   .exact z
   .have o:0<=(g:Int)*q:=Int.mul_nonneg (Int.le_of_lt k) z;omega
  exact ⟨by omega,by rw [Int.gcd_neg,Int.neg_gcd];exact d,by rw [Int.neg_mul,Int.mul_neg,c],by rw [Int.natAbs_neg];exact a f,by rw [Int.natAbs_neg];exact a i⟩
 .rw [iN hb,iN hb,ZfE (q:=p) f (Int.ne_of_gt k),ZfE (q:=q) i (Int.ne_of_gt k)];have m:1<=q:=by
   rcases Int.lt_or_le 0 q with z | z
   .exact z
   .have o:(g:Int)*q<=0:=Int.mul_nonpos_of_nonneg_of_nonpos (Int.le_of_lt k) z;omega
  exact ⟨m,d,c,a f,a i⟩
def Zug{p q r s:Int}(h1:1<=q)(h2:Int.gcd p q=1)(h3:1<=s)(h4:Int.gcd r s=1)(e:p*s=r*q):p=r/\q=s:=by
 have b:q∣s:=by
  have z:q∣p*s:=⟨r,by rw [e,Int.mul_comm]⟩;have a:q.natAbs∣p.natAbs*s.natAbs:=by rw [<-Int.natAbs_mul];exact Vcf.mpr z
  exact Vcf.mp (Nat.Coprime.dvd_of_dvd_mul_left (k:=q.natAbs) (m:=p.natAbs) (by show Nat.gcd _ _=1;rw [Nat.gcd_comm];exact h2) a)
 have d:s∣q:=by
  have z:s∣r*q:=⟨p,by rw [<-e,Int.mul_comm]⟩;have a:s.natAbs∣r.natAbs*q.natAbs:=by rw [<-Int.natAbs_mul];exact Vcf.mpr z
  exact Vcf.mp (Nat.Coprime.dvd_of_dvd_mul_left (k:=s.natAbs) (m:=r.natAbs) (by show Nat.gcd _ _=1;rw [Nat.gcd_comm];exact h4) a)
 have c:q=s:=Int.le_antisymm (Int.le_of_dvd (by omega) b) (Int.le_of_dvd (by omega) d);subst c;exact ⟨Int.eq_of_mul_eq_mul_right (by omega) e,rfl⟩
def Zhr{a d:Int}(h:0<d):(a.fdiv d).natAbs<=a.natAbs:=by
 rw [VaJ a (Int.le_of_lt h)];have e:=Int.emod_add_mul_ediv a d;have g:=Vb0 a (Int.ne_of_gt h);have f:=Vb1 a h;rcases Int.lt_or_le a 0 with z | z
 .have c:a/d<0:=Int.ediv_neg_of_neg_of_pos z h;have:a<=a/d:=by
   have i:a=a%d+d*(a/d):=e.symm;have:d*(a/d)<=1*(a/d):=Int.mul_le_mul_of_nonpos_right (by omega) (by omega);rcases Int.lt_or_le a (a/d+1) with z | z
   .omega
   .exfalso;have b:(d - 1)*(a/d)<=(d - 1)*(-1):=Int.mul_le_mul_of_nonneg_left (by omega) (by omega);rw [Int.sub_mul] at b;omega
  omega
 .have c:0<=a/d:=Int.ediv_nonneg z (Int.le_of_lt h);have:a/d<=a:=Int.ediv_le_self d z;omega
end Mt
end
end
local macro_rules|`(tactic|ac_rfl)=>`(tactic|first|lia|omega)
local macro_rules | `(tactic| walk_at "sm")=>`(tactic| first | assumption | exact Dl.Sm.of64 (by ac_rfl) (by ac_rfl) | exact Dl.Sm.mul (by walk_at "sm") (by walk_at "sm") | exact Dl.Sm.add (by walk_at "sm") (by walk_at "sm") | exact Dl.Sm.sub (by walk_at "sm") (by walk_at "sm") | exact Dl.Sm.neg (by walk_at "sm") | exact Dl.Sm.min (by walk_at "sm") (by walk_at "sm") | exact Dl.Sm.max (by walk_at "sm") (by walk_at "sm"))
local macro_rules | `(tactic| walk_at "mo")=>`(tactic| first | assumption | exact Dl.ZrI (Dl.Sm.of64 (by ac_rfl) (by ac_rfl)) | exact Dl.Zrj (Dl.Sm.of64 (by ac_rfl) (by ac_rfl)) | exact Dl.ZaN (by walk_at "sm") (by walk_at "sm") (by decide))
local macro_rules | `(tactic| walk_at "lg")=>`(tactic| first | assumption | decide | exact Dl.Sm.log (by walk_at "sm") (by decide))
local macro_rules | `(tactic| walk_at "w1")=>`(tactic| first
 | ((with_reducible refine Dl.w_v' ?_);refine Dl.w_gC rfl ?_) |(with_reducible first |refine Dl.w_o2 ?_ |refine Dl.w_c ?_ |refine Dl.w_on ?_ |refine Dl.Zsx ?_ |refine Dl.ZuI ?_ |refine Dl.w_sq ?_ |refine Dl.w_gx ?_ |refine Dl.w_st ?_ |refine Dl.ZwW ?_ |refine Dl.Zwo ?_ |refine Dl.ZvE ?_) 
 | with_reducible refine Dl.Zve ?_ | with_reducible refine Dl.w_sub ?_ | ((with_reducible refine Dl.w_mul ?_ ?_);walk_at "mo") | ((with_reducible refine Dl.w_mod ?_ ?_);(first | decide | ac_rfl)) | ((with_reducible refine Dl.w_div ?_ ?_ ?_);(first | decide | ac_rfl);walk_at "lg")
 |(with_reducible first |refine Dl.w_lt ?_ |refine Dl.w_le ?_ |refine Dl.w_gt ?_ |refine Dl.w_ge ?_ |refine Dl.ZvK ?_ |refine Dl.Zwl ?_ |refine Dl.Zt6 ?_ |refine Dl.ZwI ?_ |refine Dl.Zt4 ?_) 
 |(with_reducible first |refine Dl.Zww ?_ |refine Dl.w_gr ?_ |refine Dl.w_eR ?_ |refine Dl.Zv0 ?_ |refine Dl.Zwm ?_ |refine Dl.ZwS ?_ |refine Dl.w_fn ?_ |refine Dl.w_o1 ?_ |refine Dl.Zu4 ?_ |refine Dl.w_eOr ?_ |refine Dl.Zvn ?_ |refine Dl.Zwh ?_ |refine Dl.w_chain ?_) 
 |(with_reducible first |refine Dl.ZsB ?_ |refine Dl.Zq8 ?_ |refine Dl.ZtN ?_ |refine Dl.ZtJ ?_ |refine Dl.ZvM ?_ |refine Dl.w_max ?_ |refine Dl.w_min ?_ |refine Dl.ZuS ?_ |refine Dl.w_tupT ?_ |refine Dl.Ztu ?_ |refine Dl.ZuZ ?_ |refine Dl.ZwP ?_) 
 |(with_reducible first |refine Dl.Zv6 ?_ |refine Dl.ZvF ?_ |refine Dl.Zwt ?_ |refine Dl.Zui ?_ |refine Dl.Zvg ?_ |refine Dl.Zvi ?_ |refine Dl.w_iv ?_ |refine Dl.ZvO ?_ |refine Dl.ZwR ?_ |refine Dl.w_r1 ?_) | ((with_reducible refine Dl.ZtH ?_ ?_);ac_rfl) |(with_reducible first |refine Dl.w_gN ?_ |refine Dl.ZwO ?_ |refine Dl.ZwX ?_) 
 | ((with_reducible refine Dl.w_gUT ?_ ?_);exact rfl) | ((with_reducible refine Dl.ZvN ?_ ?_);exact rfl) |(with_reducible first |refine Dl.ZvZ ?_ |refine Dl.ZvR ?_ |refine Dl.Zwz ?_ |refine Dl.ZwH ?_ |refine Dl.ZvC ?_ |refine Dl.w_zip ?_ |refine Dl.w_zip2 ?_ |refine Dl.w_zipTL ?_ |refine Dl.w_zipLT ?_ |refine Dl.w_zipTT ?_ |refine Dl.w_iz3 ?_ |refine Dl.w_zip3T ?_ |refine Dl.Zvv ?_ |refine Dl.w_mLst ?_ |refine Dl.w_enum ?_ |refine Dl.w_enum1 ?_ |refine Dl.Ztm ?_) 
 |(with_reducible first |refine Dl.w_retN ?_ |refine Dl.w_eN ?_ |refine Dl.w_brk ?_ |refine Dl.ZvU ?_ |refine Dl.w_gb ?_ |refine Dl.w_gc ?_ |refine Dl.ZvG ?_ |refine Dl.Ztj ?_ |refine Dl.w_p6 ?_ |refine Dl.w_p8 ?_ |refine Dl.w_p20 ?_) | ((with_reducible refine Dl.w_pow ?_ ?_ ?_ ?_);decide;decide;decide) | ((with_reducible refine Dl.w_shl ?_ ?_ ?_ ?_);decide;decide;decide) | ((with_reducible refine Dl.w_shr ?_ ?_);ac_rfl) | with_reducible refine Dl.Zws ?_
 |(with_reducible first |refine Dl.w_tx ?_ |refine Dl.w_tc ?_ |refine Dl.w_tb ?_ |refine Dl.w_tr ?_ |refine Dl.w_max3 ?_ |refine Dl.w_sum ?_ |refine Dl.w_rev ?_) | ((with_reducible refine Dl.Zwj ?_);refine Dl.w_gO rfl ?_) | ((with_reducible refine Dl.w_pk ?_);refine Dl.w_gO rfl ?_) |(with_reducible first |refine Dl.Zwu ?_ |refine Dl.w_scB ?_ |refine Dl.w_endT ?_ |refine Dl.ZvX ?_ |refine Dl.ZuX ?_) | ((with_reducible refine Dl.Zvp ?_);refine Dl.w_gO rfl ?_) | ((with_reducible refine Dl.ZtP ?_);refine Dl.w_gO rfl ?_) | ((with_reducible refine Dl.Zwa ?_);refine Dl.Zak rfl ?_) | ((with_reducible refine Dl.ZvY ?_);refine Dl.Zak rfl ?_) | ((with_reducible refine Dl.ZsY ?_);refine Dl.Zak rfl ?_) | with_reducible refine Dl.Zav ?_ | with_reducible refine Dl.Zah ?_)
local macro_rules | `(tactic| walk_at "wi")=>`(tactic| first | ((with_reducible refine Dl.ZnA ?_ ?_);exact rfl) | ((with_reducible refine Dl.Znu ?_ ?_);exact rfl) | ((with_reducible refine Dl.w_dT ?_ ?_);first | assumption | ac_rfl) | ((with_reducible refine Dl.w_dF ?_ ?_);first | assumption | ac_rfl) | ((with_reducible refine Dl.w_nT ?_ ?_);first | assumption | ac_rfl) | ((with_reducible refine Dl.w_nF ?_ ?_);first | assumption | ac_rfl))
local macro_rules | `(tactic| walk_at "wr")=>`(tactic| (refine Dl.Zak rfl ?_))
local macro_rules | `(tactic| walk_at "w")=>`(tactic| (repeat (first | walk_at "w1" | walk_at "wi"));try dsimp only [List.set_cons_zero,List.set_cons_succ,Dl.ev0,Dl.evF,Dl.noA,Dl.yaG,Dl.imOf,List.getElem?_cons_zero,List.getElem?_cons_succ,Nat.reduceAdd,Nat.reduceSub])
local macro_rules | `(tactic| symm)=>`(tactic| walk_at "w")
namespace My
open PySem Dl
def objs:List Str:=["Plain","Shaded","Patterned","Glass"]
def Zbe:List D->Res D:=fn 2
  (sq (ifs (trb (o2 dLt (v 1) (on bLen (Zaa (v 0) yaa))))
  (ret (o2 dIx (v 0) (v 1)))
  nop)
  (ret (c (.int 0))))
def Zdc:List D->Res D:=fn 1
  (sq (ifs (trb (o2 dEq (o2 dIx (v 0) (c (.int 1))) (c (.int 1))))
  (ret (on bStr (Zaa (o2 dIx (v 0) (c (.int 0))) yaa)))
  nop)
  (ret (o2 yac (o2 yac (on bStr (Zaa (o2 dIx (v 0) (c (.int 0))) yaa)) (c (.str "/"))) (on bStr (Zaa (o2 dIx (v 0) (c (.int 1))) yaa)))))
def Zat:List D->Res D:=fn 3
  (sq (stO 1 (mls yaa))
  (sq (st 2 (on bAbs (Zaa (v 0) yaa)))
  (sq (whl fuel (trb (o2 dGe (v 2) (o2 dPow (c (.int 10)) (c (.int 60)))))
  badS)
  (sq (app 1 (on bStr (Zaa (v 2) yaa)))
  (sq (ifs (trb (o2 dLt (v 0) (c (.int 0))))
  (app 1 (c (.str "-")))
  nop)
  (ret (joinRev "" 1)))))))
def ZdE:List D->Res D:=fn 1
  (ret (o2 yac (on bLst (Zaa (cut (v 0) pno (pso (c (.int 4)))) yaa)) (on bLst (Zaa (o2 dIx (v 0) (c (.int 4))) yaa))))
def Zb6:List D->Res D:=fn 1
  (ret (sD Zfw (c (.str " ")) (o2 yac (mls (Zaa (c (.str "/")) yaa)) (comp (iv (on ZdE (Zaa (v 0) yaa))) 1 [] (gN 0) yes (on Zat (Zaa (v 0) yaa))))))
def Zb7:List D->Res D:=fn 1
  (ret (c (.str "glass")))
def Zbb:List D->Res D:=fn 1
  (ret (c (.str "patterned")))
def Zb9:List D->Res D:=fn 1
  (ret (c (.str "plain")))
def ZbR:List D->Res D:=fn 1
  (ret (c (.str "shaded")))
def ZjT:List (Str×(List D->Res D)):=[("Plain",Zb9),("Shaded",ZbR),("Patterned",Zbb),("Glass",Zb7)]
def ZaA:List D->Res D:=fn 1
  (sq (ifs (trb (o2 dEq (o2 dIx (v 0) (c (.int 1))) (c (.int 1))))
  (ret (on Zat (Zaa (o2 dIx (v 0) (c (.int 0))) yaa)))
  nop)
  (ret (o2 yac (o2 yac (on Zat (Zaa (o2 dIx (v 0) (c (.int 0))) yaa)) (c (.str "/"))) (on Zat (Zaa (o2 dIx (v 0) (c (.int 1))) yaa)))))
def ZbO:List D->Res D:=fn 1
  (ret (sD Zfw (c (.str ";")) (comp (iv (v 0)) 1 [] (gN 0) yes (sD Zfw (c (.str ",")) (comp (iv (v 0)) 1 [] (gN 0) yes (on ZaA (Zaa (v 0) yaa)))))))
def ZcG:List D->Res D:=fn 2
  (sq (st 1 (meth ZjT "word" (v 0) yaa))
  (sq (ifs (trb (o2 dEq (v 1) (c (.str "plain"))))
  (ret (mls (Zaa (v 1) (Zaa (on ZaA (Zaa (o1 (dFld objs "colour") (v 0)) yaa)) yaa))))
  nop)
  (sq (ifs (trb (o2 dEq (v 1) (c (.str "patterned"))))
  (ret (mls (Zaa (v 1) (Zaa (on ZbO (Zaa (o1 (dFld objs "pattern") (v 0)) yaa)) yaa))))
  nop)
  (sq (ifs (trb (o2 dEq (v 1) (c (.str "glass"))))
  (ret (mls (Zaa (v 1) (Zaa (on ZaA (Zaa (o1 (dFld objs "colour") (v 0)) yaa)) (Zaa (on ZaA (Zaa (o1 (dFld objs "part") (v 0)) yaa)) yaa)))))
  nop)
  (ret (mls (Zaa (v 1) yaa)))))))
def ZaK:List D->Res D:=fn 1
  (ret (sD Zfw (c (.str " ")) (o2 yac (on ZcG (Zaa (v 0) yaa)) (comp (iv (o1 (dFld objs "triangle") (v 0))) 1 [] (gN 0) yes (on Zb6 (Zaa (v 0) yaa))))))
def ZdW:List D->Res D:=fn 6
  (sq (stO 5 (mls (Zaa (o2 yac (o2 yac (o2 yac (c (.str "floor ")) (on bStr (Zaa (v 0) yaa))) (c (.str " "))) (on bStr (Zaa (v 1) yaa))) (Zaa (o2 yac (c (.str "ground ")) (on Zdc (Zaa (v 2) yaa))) yaa))))
  (sq (app 5 (o2 yac (c (.str "spots ")) (sD Zfw (c (.str " ")) (comp (iv (v 3)) 1 [] (gN 0) yes (o2 yac (o2 yac (on bStr (Zaa (o2 dIx (v 0) (c (.int 0))) yaa)) (c (.str ","))) (on bStr (Zaa (o2 dIx (v 0) (c (.int 1))) yaa)))))))
  (frz 5 (ret (sD Zfw (c (.str "\n")) (o2 yac (v 5) (comp (iv (v 4)) 1 [] (gN 0) yes (on ZaK (Zaa (v 0) yaa)))))))))
def ZbL:List D->Res D:=fn 2
  (sq (whl fuel (trb (o2 dNe (v 1) (c (.int 0))))
  (par 0 1 (v 1) (o2 yau (v 0) (v 1))))
  (ret (on bAbs (Zaa (v 0) yaa))))
def Zal:List D->Res D:=fn 3
  (sq (ifs (bAnd (trb (o2 dGe (v 0) (o2 dShl (c (.int 1)) (c (.int 90))))) (bAnd (trb (o2 dEq (o2 yau (v 0) (c (.int 2))) (c (.int 1)))) (trb (o2 dGt (o2 dShr (v 0) (o2 yac (c (.int 1)) (o2 yaj (c (.int 31)) (v 1)))) (c (.int 0))))))
  (ret (o2 yau (o2 dShr (v 0) (o2 yac (c (.int 1)) (o2 yaj (c (.int 31)) (v 1)))) (c (.int 2147483648))))
  nop)
  (sq (st 2 (o2 yau (o2 yaj (o2 yac (o2 yac (v 0) (o2 yaj (c (.int 7919)) (v 1))) (c (.int 1))) (c (.int 48271))) (c (.int 2147483647))))
  (sq (st 2 (o2 yau (o2 yaj (v 2) (o2 yac (o2 yaP (v 2) (c (.int 1009))) (c (.int 69621)))) (c (.int 2147483647))))
  (ret (o2 yau (o2 yaj (v 2) (o2 yac (o2 yac (o2 yaP (v 2) (c (.int 2003))) (c (.int 39373))) (v 1))) (c (.int 2147483629)))))))
def ZaB:List D->Res D:=fn 6
  (sq (st 2 (on Zal (Zaa (v 0) (Zaa (v 1) yaa))))
  (sq (st 3 (o2 dSub (o2 yau (v 2) (c (.int 41))) (c (.int 20))))
  (sq (st 4 (o2 yac (c (.int 1)) (o2 yau (o2 yaP (v 2) (c (.int 64))) (c (.int 9)))))
  (sq (st 5 (on ZbL (Zaa (v 3) (Zaa (v 4) yaa))))
  (ret (mtp (Zaa (o2 yaP (v 3) (v 5)) (Zaa (o2 yaP (v 4) (v 5)) yaa))))))))
def ZcC:List D->Res D:=fn 4
  (sq (stO 1 (mls yaa))
  (sq (for_ (r1 (Zaa (o2 yac (c (.int 1)) (o2 yau (on Zal (Zaa (v 0) (Zaa (c (.int 4)) yaa))) (o2 dIx (mls (Zaa (c (.int 3)) (Zaa (c (.int 16)) yaa))) (o2 yau (on Zal (Zaa (v 0) (Zaa (c (.int 5)) yaa))) (c (.int 2)))))) yaa)) (gN 2)
  (sq (st 3 (mtp (Zaa (o2 yac (c (.int 1)) (o2 yau (on Zal (Zaa (v 0) (Zaa (o2 yac (c (.int 6)) (o2 yaj (c (.int 2)) (v 2))) yaa))) (c (.int 7)))) (Zaa (o2 yac (c (.int 1)) (o2 yau (on Zal (Zaa (v 0) (Zaa (o2 yac (c (.int 7)) (o2 yaj (c (.int 2)) (v 2))) yaa))) (c (.int 7)))) yaa))))
  (ifs (pkB 1 (trb (o2 dNin (v 3) (v 1))))
  (app 1 (v 3))
  nop)))
  (frz 1 (ret (v 1)))))
def Zaw:List D->Res D:=fn 2
  (for_ (iv (v 0)) (gN 1)
  (ifs (trb (o2 dLe (o2 dIx (v 1) (c (.int 2))) (c (.int 0))))
  badS
  nop))
def ZaZ:List D->Res D:=fn 1
  (ret (eAnd (on bIsi (Zaa (v 0) (Zaa (c (.ty "int")) yaa))) (eNot (on bIsi (Zaa (v 0) (Zaa (c (.ty "bool")) yaa))))))
def ZcE:List D->Res D:=fn 1
  (sq (ifs (bOr (bNot (trb (on bIsi (Zaa (v 0) (Zaa (c (.ty "tuple")) yaa))))) (trb (o2 dGt (on bLen (Zaa (v 0) yaa)) (c (.int 3)))))
  (ret (c (.bl false)))
  nop)
  (ret (on bAll (Zaa (comp (iv (v 0)) 1 [] (gN 0) yes (on ZaZ (Zaa (v 0) yaa))) yaa))))
def Zdd:List D->Res D:=fn 1
  (sq (ifs (bOr (bNot (trb (on bIsi (Zaa (v 0) (Zaa (c (.ty "tuple")) yaa))))) (trb (o2 dNe (on bLen (Zaa (v 0) yaa)) (c (.int 5)))))
  (ret (c (.bl false)))
  nop)
  (sq (ifs (bNot (trb (on bAll (Zaa (comp (iv (cut (v 0) pno (pso (c (.int 4))))) 1 [] (gN 0) yes (on ZaZ (Zaa (v 0) yaa))) yaa))))
  (ret (c (.bl false)))
  nop)
  (ret (eAnd (o2 dGe (o2 dIx (v 0) (c (.int 3))) (c (.int 1))) (on ZcE (Zaa (o2 dIx (v 0) (c (.int 4))) yaa))))))
def Zbk:List D->Res D:=fn 2
  (sq (ifs (bOr (bNot (trb (on bIsi (Zaa (v 0) (Zaa (c (.ty "tuple")) yaa))))) (trb (o2 dNe (on bLen (Zaa (v 0) yaa)) (c (.int 3)))))
  badS
  nop)
  (for_ (iv (v 0)) (gN 1)
  (sq (ifs (bNot (trb (on Zdd (Zaa (v 1) yaa))))
  badS
  nop)
  (ifs (trb (o2 dNe (on bLen (Zaa (o2 dIx (v 1) (c (.int 4))) yaa)) (on bLen (Zaa (o2 dIx (o2 dIx (v 0) (c (.int 0))) (c (.int 4))) yaa))))
  badS
  nop))))
def ZdI:List D->Fs->Res Fs:=fnI 2
  (iDrp (on Zbk (Zaa (v 1) yaa))
  (iDrp (on Zaw (Zaa (v 1) yaa))
  (iSet "triangle" (v 1)
  iEnd)))
def Zas:List D->Res D:=fn 5
  (sq (st 1 (c (.int 0)))
  (sq (for_ (iv (v 0)) (gN 2)
  (sq (st 3 (on bAbs (Zaa (v 2) yaa)))
  (whl fuel (trb (o2 dNe (v 3) (c (.int 0))))
  (sq (st 4 (o2 yau (v 1) (v 3)))
  (sq (st 1 (v 3))
  (st 3 (v 4)))))))
  (ret (v 1))))
def ZaW:List D->Res D:=fn 1
  (sq (ifs (bOr (bNot (trb (on bIsi (Zaa (v 0) (Zaa (c (.ty "tuple")) yaa))))) (trb (o2 dNe (on bLen (Zaa (v 0) yaa)) (c (.int 2)))))
  (ret (c (.bl false)))
  nop)
  (sq (ifs (bOr (bNot (trb (on ZaZ (Zaa (o2 dIx (v 0) (c (.int 0))) yaa)))) (bNot (trb (on ZaZ (Zaa (o2 dIx (v 0) (c (.int 1))) yaa)))))
  (ret (c (.bl false)))
  nop)
  (ret (eAnd (o2 dGe (o2 dIx (v 0) (c (.int 1))) (c (.int 1))) (o2 dEq (on Zas (Zaa (v 0) yaa)) (c (.int 1)))))))
def Zbj:List D->Res D:=fn 1
  (ifs (bNot (trb (on ZaW (Zaa (v 0) yaa))))
  badS
  nop)
def ZcI:List D->Res D:=fn 1
  (ifs (bOr (bNot (trb (on ZaW (Zaa (v 0) yaa)))) (bOr (trb (o2 dLt (o2 dIx (v 0) (c (.int 0))) (c (.int 0)))) (trb (o2 dGt (o2 dIx (v 0) (c (.int 0))) (o2 dIx (v 0) (c (.int 1)))))))
  badS
  nop)
def Ze2:List D->Fs->Res Fs:=fnI 4
  (iSup ZdI (Zaa (v 1) yaa)
  (iDrp (on Zbj (Zaa (v 2) yaa))
  (iDrp (on ZcI (Zaa (v 3) yaa))
  (iSet "colour" (v 2)
  (iSet "part" (v 3)
  iEnd)))))
def Za8:List D->Res D:=fn 2
  (sq (ifs (bOr (bNot (trb (on bIsi (Zaa (v 0) (Zaa (c (.ty "list")) yaa))))) (trb (o2 dNin (on bLen (Zaa (v 0) yaa)) (c (.tup [.int 1,.int 2,.int 4,.int 8,.int 16])))))
  badS
  nop)
  (for_ (iv (v 0)) (gN 1)
  (sq (ifs (bOr (bNot (trb (on bIsi (Zaa (v 1) (Zaa (c (.ty "list")) yaa))))) (trb (o2 dNin (on bLen (Zaa (v 1) yaa)) (c (.tup [.int 1,.int 2,.int 4,.int 8,.int 16])))))
  badS
  nop)
  (sq (ifs (trb (o2 dNe (on bLen (Zaa (v 1) yaa)) (on bLen (Zaa (o2 dIx (v 0) (c (.int 0))) yaa))))
  badS
  nop)
  (ifs (bNot (trb (on bAll (Zaa (comp (iv (v 1)) 1 [] (gN 0) yes (on ZaW (Zaa (v 0) yaa))) yaa))))
  badS
  nop)))))
def Zbi:List D->Res D:=fn 2
  (ifs (trb (o2 dLt (on bLen (Zaa (o2 dIx (o2 dIx (v 0) (c (.int 0))) (c (.int 4))) yaa)) (v 1)))
  badS
  nop)
def ZeY:List D->Res D:=fn 1
  (ret (comp (iv (v 0)) 1 [] (gN 0) yes (on bLst (Zaa (v 0) yaa))))
def ZbJ:List D->Fs->Res Fs:=fnI 3
  (iSup ZdI (Zaa (v 1) yaa)
  (iDrp (on Zbi (Zaa (v 1) (Zaa (c (.int 2)) yaa)))
  (iDrp (on Za8 (Zaa (v 2) yaa))
  (iSet "pattern" (on ZeY (Zaa (v 2) yaa))
  iEnd))))
def Ze7:List D->Fs->Res Fs:=fnI 3
  (iSup ZdI (Zaa (v 1) yaa)
  (iDrp (on Zbj (Zaa (v 2) yaa))
  (iSet "colour" (v 2)
  iEnd)))
def ZdX:List D->Fs->Res Fs:=fnI 2
  (iSup ZdI (Zaa (v 1) yaa)
  (iDrp (on Zbi (Zaa (v 1) (Zaa (c (.int 1)) yaa)))
  iEnd))
def Zba:List D->Res D:=fn 5
  (sq (st 2 (o2 yac (c (.int 1)) (o2 yau (on Zal (Zaa (v 0) (Zaa (v 1) yaa))) (c (.int 5)))))
  (sq (st 3 (o2 dSub (o2 yau (on Zal (Zaa (v 0) (Zaa (o2 yac (v 1) (c (.int 1))) yaa))) (c (.int 13))) (c (.int 4))))
  (sq (st 4 (o2 dSub (o2 yau (on Zal (Zaa (v 0) (Zaa (o2 yac (v 1) (c (.int 2))) yaa))) (c (.int 13))) (c (.int 4))))
  (ret (mtp (Zaa (o2 yaj (v 3) (v 2)) (Zaa (o2 yaj (v 4) (v 2)) (Zaa (v 2) (Zaa (o2 yac (c (.int 1)) (o2 yau (on Zal (Zaa (v 0) (Zaa (o2 yac (v 1) (c (.int 3))) yaa))) (c (.int 3)))) (Zaa (mtp (Zaa (o2 yac (v 3) (v 4)) (Zaa (o2 dSub (o2 yau (on Zal (Zaa (v 0) (Zaa (o2 yac (v 1) (c (.int 4))) yaa))) (c (.int 9))) (c (.int 4))) yaa))) yaa))))))))))
def Zct:List D->Res D:=fn 4
  (sq (st 2 (mtp (Zaa (on Zba (Zaa (v 0) (Zaa (v 1) yaa))) (Zaa (on Zba (Zaa (v 0) (Zaa (o2 yac (v 1) (c (.int 5))) yaa))) (Zaa (on Zba (Zaa (v 0) (Zaa (o2 yac (v 1) (c (.int 10))) yaa))) yaa)))))
  (sq (st 3 (o2 yau (on Zal (Zaa (v 0) (Zaa (o2 yac (v 1) (c (.int 15))) yaa))) (c (.int 4))))
  (sq (ifs (trb (o2 dEq (v 3) (c (.int 0))))
  (ret (make "Plain" Ze7 (Zaa (v 2) (Zaa (on ZaB (Zaa (v 0) (Zaa (o2 yac (v 1) (c (.int 16))) yaa))) yaa))))
  nop)
  (sq (ifs (trb (o2 dEq (v 3) (c (.int 1))))
  (ret (make "Shaded" ZdX (Zaa (v 2) yaa)))
  nop)
  (sq (ifs (trb (o2 dEq (v 3) (c (.int 2))))
  (ret (make "Patterned" ZbJ (Zaa (v 2) (Zaa (mls (Zaa (mls (Zaa (on ZaB (Zaa (v 0) (Zaa (o2 yac (v 1) (c (.int 16))) yaa))) (Zaa (mtp (Zaa (c (.int 1)) (Zaa (c (.int 2)) yaa))) yaa))) (Zaa (mls (Zaa (mtp (Zaa (c (.int 3)) (Zaa (c (.int 1)) yaa))) (Zaa (on ZaB (Zaa (v 0) (Zaa (o2 yac (v 1) (c (.int 17))) yaa))) yaa))) yaa))) yaa))))
  nop)
  (ret (make "Glass" Ze2 (Zaa (v 2) (Zaa (on ZaB (Zaa (v 0) (Zaa (o2 yac (v 1) (c (.int 16))) yaa))) (Zaa (mtp (Zaa (c (.int 1)) (Zaa (o2 yac (c (.int 1)) (o2 yau (on Zal (Zaa (v 0) (Zaa (o2 yac (v 1) (c (.int 18))) yaa))) (c (.int 4)))) yaa))) yaa))))))))))
def Za4:List D->Res D:=fn 3
  (ret (eAnd (on ZaZ (Zaa (v 0) yaa)) (eAnd (o2 dGe (v 0) (v 1)) (o2 dLe (v 0) (v 2)))))
def ZbA:List D->Res D:=fn 2
  (ifs (bOr (bNot (trb (on Za4 (Zaa (v 0) (Zaa (c (.int 1)) (Zaa (c (.int 64)) yaa)))))) (bNot (trb (on Za4 (Zaa (v 1) (Zaa (c (.int 1)) (Zaa (c (.int 64)) yaa)))))))
  badS
  nop)
def Zbl:List D->Res D:=fn 1
  (ret (ife (trb (o1 dIsN (v 0))) (mtp (Zaa (c (.int 0)) (Zaa (c (.int 1)) yaa))) (v 0)))
def ZcB:List D->Res D:=fn 2
  (ret (o1 (dFld objs "colour") (v 0)))
def Zh0:List D->Res D:=fn 1
  (ret (o2 yaP (o2 dIx (v 0) (c (.int 0))) (o2 dIx (v 0) (c (.int 1)))))
def ZdT:List D->Res D:=fn 4
  (sq (st 3 (o2 dIx (v 0) (o2 yau (on Zh0 (Zaa (v 2) yaa)) (on bLen (Zaa (v 0) yaa)))))
  (ret (o2 dIx (v 3) (o2 yau (on Zh0 (Zaa (v 1) yaa)) (on bLen (Zaa (v 3) yaa))))))
def Zao:List D->Res D:=fn 2
  (ret (on ZdT (Zaa (o1 (dFld objs "pattern") (v 0)) (Zaa (o2 dIx (v 1) (c (.int 0))) (Zaa (o2 dIx (v 1) (c (.int 1))) yaa)))))
def ZbB:List D->Res D:=fn 2
  (ret (o1 (dFld objs "colour") (v 0)))
def Zbm:List D->Res D:=fn 2
  (ret (o2 dIx (v 1) (c (.int 0))))
def ZbC:List (Str×(List D->Res D)):=[("Plain",ZbB),("Shaded",Zbm),("Patterned",Zao),("Glass",ZcB)]
def Zcq:List D->Res D:=fn 3
  (sq (st 2 (on Zas (Zaa (mls (Zaa (v 0) (Zaa (v 1) yaa))) yaa)))
  (sq (ifs (trb (o2 dLt (v 1) (c (.int 0))))
  (st 2 (o1 dNeg (v 2)))
  nop)
  (ret (mtp (Zaa (o2 yaP (v 0) (v 2)) (Zaa (o2 yaP (v 1) (v 2)) yaa))))))
def Zf6:List D->Res D:=fn 2
  (ret (on Zcq (Zaa (o2 dSub (o2 yaj (o2 dIx (v 0) (c (.int 0))) (o2 dIx (v 1) (c (.int 1)))) (o2 yaj (o2 dIx (v 1) (c (.int 0))) (o2 dIx (v 0) (c (.int 1))))) (Zaa (o2 yaj (o2 dIx (v 0) (c (.int 1))) (o2 dIx (v 1) (c (.int 1)))) yaa))))
def Zf2:List D->Res D:=fn 2
  (ret (on Zcq (Zaa (o2 yac (o2 yaj (o2 dIx (v 0) (c (.int 0))) (o2 dIx (v 1) (c (.int 1)))) (o2 yaj (o2 dIx (v 1) (c (.int 0))) (o2 dIx (v 0) (c (.int 1))))) (Zaa (o2 yaj (o2 dIx (v 0) (c (.int 1))) (o2 dIx (v 1) (c (.int 1)))) yaa))))
def ZdJ:List D->Res D:=fn 2
  (ret (on Zcq (Zaa (o2 yaj (o2 dIx (v 0) (c (.int 0))) (o2 dIx (v 1) (c (.int 0)))) (Zaa (o2 yaj (o2 dIx (v 0) (c (.int 1))) (o2 dIx (v 1) (c (.int 1)))) yaa))))
def Zcp:List D->Res D:=fn 3
  (sq (st 2 (on Zf6 (Zaa (mtp (Zaa (c (.int 1)) (Zaa (c (.int 1)) yaa))) (Zaa (o1 (dFld objs "part") (v 0)) yaa))))
  (ret (on Zf2 (Zaa (on ZdJ (Zaa (o1 (dFld objs "part") (v 0)) (Zaa (o1 (dFld objs "colour") (v 0)) yaa))) (Zaa (on ZdJ (Zaa (v 2) (Zaa (v 1) yaa))) yaa)))))
def ZbH:List D->Res D:=fn 1
  (ret (c (.bl true)))
def Zaz:List D->Res D:=fn 1
  (ret (c (.bl false)))
def ZbW:List (Str×(List D->Res D)):=[("Plain",Zaz),("Shaded",Zaz),("Patterned",Zaz),("Glass",ZbH)]
def Zel:List D->Res D:=fn 2
  (ret (o2 dLt (o2 yaj (o2 dIx (v 0) (c (.int 0))) (o2 dIx (v 1) (c (.int 1)))) (o2 yaj (o2 dIx (v 1) (c (.int 0))) (o2 dIx (v 0) (c (.int 1))))))
def Zbv:List D->Res D:=fn 5
  (sq (stO 2 (mls yaa))
  (sq (for_ (iv (v 1)) (gN 3)
  (ifs (bAnd (trb (meth ZbW "is_glass" (o2 dIx (v 3) (c (.int 0))) yaa)) (bOr (trb (o1 dIsN (v 0))) (trb (on Zel (Zaa (o2 dIx (v 3) (c (.int 1))) (Zaa (o2 dIx (v 0) (c (.int 1))) yaa))))))
  (sq (st 4 (pk 2 (on bLen (Zaa (comp (iv (v 2)) 1 [3] (gN 0) (trb (on Zel (Zaa (o2 dIx (v 1) (c (.int 1))) (Zaa (o2 dIx (v 0) (c (.int 1))) yaa)))) (v 0)) yaa))))
  (insO 2 (v 4) (v 3)))
  nop))
  (frz 2 (ret (v 2)))))
def ZcK:List D->Res D:=fn 3
  (sq (st 1 (c .non))
  (sq (for_ (iv (v 0)) (gN 2)
  (sq (ifs (trb (meth ZbW "is_glass" (o2 dIx (v 2) (c (.int 0))) yaa))
  cnt
  nop)
  (ifs (bOr (trb (o1 dIsN (v 1))) (trb (on Zel (Zaa (o2 dIx (v 2) (c (.int 1))) (Zaa (o2 dIx (v 1) (c (.int 1))) yaa)))))
  (st 1 (v 2))
  nop)))
  (ret (v 1))))
def Zcg:List D->Res D:=fn 5
  (sq (st 2 (on ZcK (Zaa (v 0) yaa)))
  (sq (st 3 (v 1))
  (sq (ifs (trb (o1 ZlL (v 2)))
  (st 3 (meth ZbC "colour_at" (o2 dIx (v 2) (c (.int 0))) (Zaa (o2 dIx (v 2) (c (.int 2))) yaa)))
  nop)
  (sq (for_ (iv (on Zbv (Zaa (v 2) (Zaa (v 0) yaa)))) (gN 4)
  (st 3 (on Zcp (Zaa (o2 dIx (v 4) (c (.int 0))) (Zaa (v 3) yaa)))))
  (ret (v 3))))))
def ZeF:List D->Res D:=fn 3
  (sq (st 1 (mtp (Zaa (c (.int 0)) (Zaa (c (.int 1)) yaa))))
  (sq (for_ (iv (v 0)) (gN 2)
  (st 1 (on Zf2 (Zaa (v 1) (Zaa (v 2) yaa)))))
  (ret (on Zcq (Zaa (o2 dIx (v 1) (c (.int 0))) (Zaa (o2 yaj (o2 dIx (v 1) (c (.int 1))) (on bLen (Zaa (v 0) yaa))) yaa))))))
def Zb8:List D->Res D:=fn 2
  (ret (on ZeF (Zaa (comp (iv (v 0)) 1 [1] (gN 0) yes (on Zcg (Zaa (v 0) (Zaa (v 1) yaa)))) yaa)))
def Zaj:List D->Res D:=fn 2
  (ret (o2 yac (o2 yac (o2 yaj (o2 dIx (v 0) (c (.int 0))) (o2 dIx (v 1) (c (.int 0)))) (o2 yaj (o2 dIx (v 0) (c (.int 1))) (o2 dIx (v 1) (c (.int 1))))) (o2 yaj (o2 dIx (v 0) (c (.int 2))) (o2 dIx (v 1) (c (.int 2))))))
def Zda:List D->Res D:=fn 2
  (ret (on Zaj (Zaa (comp (iv (v 0)) 1 [] (gN 0) yes (o2 dIx (v 0) (c (.int 3)))) (Zaa (v 1) yaa))))
def Za2:List D->Res D:=fn 5
  (sq (st 2 (on Zda (Zaa (v 0) (Zaa (v 1) yaa))))
  (sq (st 3 (on Zcq (Zaa (on Zaj (Zaa (comp (iv (v 0)) 1 [] (gN 0) yes (o2 dIx (v 0) (c (.int 2)))) (Zaa (v 1) yaa))) (Zaa (v 2) yaa))))
  (sq (st 4 (on lz3 (Zaa (o2 dIx (o2 dIx (v 0) (c (.int 0))) (c (.int 4))) (Zaa (o2 dIx (o2 dIx (v 0) (c (.int 1))) (c (.int 4))) (Zaa (o2 dIx (o2 dIx (v 0) (c (.int 2))) (c (.int 4))) yaa)))))
  (ret (mtp (Zaa (v 3) (Zaa (on bTup (Zaa (comp (iv (v 4)) 1 [2,1] (gN 0) yes (on Zcq (Zaa (on Zaj (Zaa (v 0) (Zaa (v 2) yaa))) (Zaa (v 1) yaa)))) yaa)) yaa)))))))
def Zbf:List D->Res D:=fn 2
  (ret (mtp (Zaa (o2 dSub (o2 yaj (o2 dIx (v 0) (c (.int 1))) (o2 dIx (v 1) (c (.int 2)))) (o2 yaj (o2 dIx (v 0) (c (.int 2))) (o2 dIx (v 1) (c (.int 1))))) (Zaa (o2 dSub (o2 yaj (o2 dIx (v 0) (c (.int 2))) (o2 dIx (v 1) (c (.int 0)))) (o2 yaj (o2 dIx (v 0) (c (.int 0))) (o2 dIx (v 1) (c (.int 2))))) (Zaa (o2 dSub (o2 yaj (o2 dIx (v 0) (c (.int 0))) (o2 dIx (v 1) (c (.int 1)))) (o2 yaj (o2 dIx (v 0) (c (.int 1))) (o2 dIx (v 1) (c (.int 0))))) yaa)))))
def ZgH:List D->Res D:=fn 5
  (sq (st 3 (on Zbf (Zaa (v 0) (Zaa (v 1) yaa))))
  (sq (for_ (iv (mtp (Zaa (on Zaj (Zaa (v 3) (Zaa (v 2) yaa))) (Zaa (o2 dIx (v 3) (c (.int 0))) (Zaa (o2 dIx (v 3) (c (.int 1))) yaa))))) (gN 4)
  (ifs (trb (o2 dNe (v 4) (c (.int 0))))
  (ret (ife (trb (o2 dGt (v 4) (c (.int 0)))) (c (.int 1)) (o1 dNeg (c (.int 1)))))
  nop))
  (ret (c (.int 0)))))
def Zov:List D->Res D:=fn 3
  (sq (drp (on Zaw (Zaa (v 0) yaa)))
  (sq (st 2 (on ZgH (Zaa (o2 dIx (v 0) (c (.int 0))) (Zaa (o2 dIx (v 0) (c (.int 1))) (Zaa (v 1) yaa)))))
  (sq (ifs (bOr (trb (o2 dNe (on ZgH (Zaa (o2 dIx (v 0) (c (.int 1))) (Zaa (o2 dIx (v 0) (c (.int 2))) (Zaa (v 1) yaa)))) (v 2))) (trb (o2 dNe (on ZgH (Zaa (o2 dIx (v 0) (c (.int 2))) (Zaa (o2 dIx (v 0) (c (.int 0))) (Zaa (v 1) yaa)))) (v 2))))
  (ret (c (.int 0)))
  nop)
  (ret (v 2)))))
def Zcd:List D->Res D:=fn 3
  (ret (on Zaj (Zaa (on Zbf (Zaa (v 0) (Zaa (v 1) yaa))) (Zaa (v 2) yaa))))
def ZeN:List D->Res D:=fn 2
  (ret (mtp (Zaa (on Zcd (Zaa (o2 dIx (v 0) (c (.int 1))) (Zaa (o2 dIx (v 0) (c (.int 2))) (Zaa (v 1) yaa)))) (Zaa (on Zcd (Zaa (o2 dIx (v 0) (c (.int 2))) (Zaa (o2 dIx (v 0) (c (.int 0))) (Zaa (v 1) yaa)))) (Zaa (on Zcd (Zaa (o2 dIx (v 0) (c (.int 0))) (Zaa (o2 dIx (v 0) (c (.int 1))) (Zaa (v 1) yaa)))) yaa)))))
def ZaF:List D->Res D:=fn 2
  (sq (ifs (trb (o2 dEq (on Zov (Zaa (v 0) (Zaa (v 1) yaa))) (c (.int 0))))
  (ret (c .non))
  nop)
  (ret (on Za2 (Zaa (v 0) (Zaa (on ZeN (Zaa (v 0) (Zaa (v 1) yaa))) yaa)))))
def Zcl:List D->Res D:=fn 5
  (sq (stO 2 (mls yaa))
  (sq (for_ (iv (v 0)) (gN 3)
  (sq (st 4 (on ZaF (Zaa (o1 (dFld objs "triangle") (v 3)) (Zaa (v 1) yaa))))
  (ifs (trb (o1 ZlL (v 4)))
  (app 2 (mtp (Zaa (v 3) (Zaa (o2 dIx (v 4) (c (.int 0))) (Zaa (o2 dIx (v 4) (c (.int 1))) yaa)))))
  nop)))
  (frz 2 (ret (v 2)))))
def Zgb:List D->Res D:=fn 3
  (ret (mtp (Zaa (o2 yac (o2 yaj (c (.int 8)) (v 0)) (o2 dIx (v 2) (c (.int 0)))) (Zaa (o2 yac (o2 yaj (c (.int 8)) (v 1)) (o2 dIx (v 2) (c (.int 1)))) (Zaa (c (.int 8)) yaa)))))
def Zdf:List D->Res D:=fn 4
  (ret (comp (iv (v 3)) 1 [0,2,1] (gN 0) yes (on Zcl (Zaa (v 1) (Zaa (on Zgb (Zaa (v 3) (Zaa (v 2) (Zaa (v 0) yaa)))) yaa)))))
def Zdb:List D->Res D:=fn 5
  (ret (comp (r1 (Zaa (v 1) yaa)) 1 [0,3,2,4] (gN 0) yes (on Zb8 (Zaa (on Zdf (Zaa (v 1) (Zaa (v 0) (Zaa (v 3) (Zaa (v 2) yaa))))) (Zaa (v 4) yaa)))))
def ZeU:List D->Res D:=fn 1
  (sq (ifs (bOr (bNot (trb (on bIsi (Zaa (v 0) (Zaa (c (.ty "tuple")) yaa))))) (trb (o2 dNe (on bLen (Zaa (v 0) yaa)) (c (.int 2)))))
  (ret (c (.bl false)))
  nop)
  (ret (eAnd (on Za4 (Zaa (o2 dIx (v 0) (c (.int 0))) (Zaa (c (.int 1)) (Zaa (c (.int 7)) yaa)))) (on Za4 (Zaa (o2 dIx (v 0) (c (.int 1))) (Zaa (c (.int 1)) (Zaa (c (.int 7)) yaa)))))))
def Zbz:List D->Res D:=fn 1
  (sq (ifs (bOr (bNot (trb (on bIsi (Zaa (v 0) (Zaa (c (.ty "list")) yaa))))) (bOr (trb (o2 dLt (on bLen (Zaa (v 0) yaa)) (c (.int 1)))) (trb (o2 dGt (on bLen (Zaa (v 0) yaa)) (c (.int 16))))))
  badS
  nop)
  (sq (ifs (bNot (trb (on bAll (Zaa (comp (iv (v 0)) 1 [] (gN 0) yes (on ZeU (Zaa (v 0) yaa))) yaa))))
  badS
  nop)
  (ifs (trb (o2 dNe (o1 Zju (v 0)) (on bLen (Zaa (v 0) yaa))))
  badS
  nop)))
def ZaQ:List D->Res D:=fn 1
  (sq (ifs (trb (o1 dIsN (v 0)))
  (ret (mls (Zaa (mtp (Zaa (c (.int 4)) (Zaa (c (.int 4)) yaa))) yaa)))
  nop)
  (sq (drp (on Zbz (Zaa (v 0) yaa)))
  (ret (v 0))))
def ZdC:List D->Res D:=fn 7
  (sq (drp (on ZbA (Zaa (v 1) (Zaa (v 2) yaa))))
  (sq (st 5 (on ZaQ (Zaa (v 3) yaa)))
  (sq (st 6 (on Zbl (Zaa (v 4) yaa)))
  (ret (comp (r1 (Zaa (v 2) yaa)) 1 [1,0,5,6] (gN 0) yes (on Zdb (Zaa (v 2) (Zaa (v 1) (Zaa (v 0) (Zaa (v 3) (Zaa (v 4) yaa)))))))))))
def ZbV:List D->Res D:=fn 1
  (ifs (bNot (trb (on bIsi (Zaa (v 0) (Zaa (c (.ty "str")) yaa)))))
  badS
  nop)
def Zbh:List D->Res D:=fn 3
  (sq (st 2 (sD Zd6 (v 1) (c (.str " "))))
  (sq (ifs (trb (o2 dNe (o2 dIx (v 2) (c (.int 0))) (v 0)))
  badS
  nop)
  (ret (cut (v 2) (pso (c (.int 1))) pno))))
def ZaH:List D->Res D:=fn 4
  (sq (st 3 (on Zbh (Zaa (v 0) (Zaa (v 1) yaa))))
  (sq (ifs (trb (o2 dNe (on bLen (Zaa (v 3) yaa)) (v 2)))
  badS
  nop)
  (ret (v 3))))
def Zby:List D->Res D:=fn 1
  (sq (ifs (bOr (trb (o2 dEq (v 0) (c (.str "")))) (trb (o2 dGt (on Zn9 (Zaa (v 0) yaa)) (c (.int 30)))))
  (ret (c (.bl false)))
  nop)
  (sq (ifs (bAnd (trb (sD Zg9 (v 0) (c (.str "0")))) (trb (o2 dNe (v 0) (c (.str "0")))))
  (ret (c (.bl false)))
  nop)
  (ret (on bAll (Zaa (comp (ivT (v 0)) 1 [] (gN 0) yes (o2 dInT (v 0) (c (.str "0123456789")))) yaa)))))
def ZaG:List D->Res D:=fn 2
  (sq (st 1 (ife (trb (sD Zg9 (v 0) (c (.str "-")))) (cutT (v 0) (pso (c (.int 1))) pno) (v 0)))
  (sq (ifs (bOr (bNot (trb (on Zby (Zaa (v 1) yaa)))) (trb (o2 dEq (v 0) (c (.str "-0")))))
  badS
  nop)
  (ret (on Zou (Zaa (v 0) yaa)))))
def Zb0:List D->Res D:=fn 3
  (ret (comp (iv (on ZaH (Zaa (v 0) (Zaa (v 1) (Zaa (v 2) yaa))))) 1 [] (gN 0) yes (on ZaG (Zaa (v 0) yaa))))
def Zbt:List D->Res D:=fn 2
  (sq (st 1 (on Zb0 (Zaa (c (.str "floor")) (Zaa (v 0) (Zaa (c (.int 2)) yaa)))))
  (sq (drp (on ZbA (Zaa (o2 dIx (v 1) (c (.int 0))) (Zaa (o2 dIx (v 1) (c (.int 1))) yaa))))
  (ret (v 1))))
def ZaC:List D->Res D:=fn 3
  (sq (ifs (trb (o2 ZkW (c (.str "/")) (v 0)))
  (ret (mtp (Zaa (on ZaG (Zaa (v 0) yaa)) (Zaa (c (.int 1)) yaa))))
  nop)
  (sq (st 1 (sD ZlV (v 0) (c (.str "/"))))
  (sq (st 2 (mtp (Zaa (on ZaG (Zaa (o2 dIx (v 1) (c (.int 0))) yaa)) (Zaa (on ZaG (Zaa (o2 dIx (v 1) (c (.int 2))) yaa)) yaa))))
  (sq (ifs (bOr (trb (o2 dEq (o2 dIx (v 2) (c (.int 1))) (c (.int 1)))) (bNot (trb (on ZaW (Zaa (v 2) yaa)))))
  badS
  nop)
  (ret (v 2))))))
def Za9:List D->Res D:=fn 1
  (ret (on ZaC (Zaa (o2 dIx (on ZaH (Zaa (c (.str "ground")) (Zaa (v 0) (Zaa (c (.int 1)) yaa)))) (c (.int 0))) yaa)))
def Zem:List D->Res D:=fn 1
  (ret (on bTup (Zaa (comp (iv (sD Zd6 (v 0) (c (.str ",")))) 1 [] (gN 0) yes (on ZaG (Zaa (v 0) yaa))) yaa)))
def Zbs:List D->Res D:=fn 2
  (sq (st 1 (comp (iv (on Zbh (Zaa (c (.str "spots")) (Zaa (v 0) yaa)))) 1 [] (gN 0) yes (on Zem (Zaa (v 0) yaa))))
  (sq (drp (on Zbz (Zaa (v 1) yaa)))
  (ret (v 1))))
def Zdk:List D->Res D:=fn 3
  (grp 1 2 0 (trb (o2 dEq (v 2) (c (.str "/")))))
def Zcb:List D->Res D:=fn 2
  (sq (ifs (trb (o2 dLt (on bLen (Zaa (v 0) yaa)) (c (.int 4))))
  badS
  nop)
  (sq (st 1 (comp (iv (v 0)) 1 [] (gN 0) yes (on ZaG (Zaa (v 0) yaa))))
  (ret (mtp (Zaa (o2 dIx (v 1) (c (.int 0))) (Zaa (o2 dIx (v 1) (c (.int 1))) (Zaa (o2 dIx (v 1) (c (.int 2))) (Zaa (o2 dIx (v 1) (c (.int 3))) (Zaa (on bTup (Zaa (cut (v 1) (pso (c (.int 4))) pno) yaa)) yaa)))))))))
def ZbP:List D->Res D:=fn 1
  (ret (comp (iv (sD Zd6 (v 0) (c (.str ";")))) 1 [] (gN 0) yes (comp (iv (sD Zd6 (v 0) (c (.str ",")))) 1 [] (gN 0) yes (on ZaC (Zaa (v 0) yaa)))))
def ZdP:List D->Res D:=fn 2
  (sq (ifs (bAnd (trb (o2 dEq (cut (v 0) pno (pso (c (.int 1)))) (mls (Zaa (c (.str "plain")) yaa)))) (trb (o2 dEq (on bLen (Zaa (v 0) yaa)) (c (.int 2)))))
  (ret (make "Plain" Ze7 (Zaa (v 1) (Zaa (on ZaC (Zaa (o2 dIx (v 0) (c (.int 1))) yaa)) yaa))))
  nop)
  (sq (ifs (trb (o2 dEq (v 0) (mls (Zaa (c (.str "shaded")) yaa))))
  (ret (make "Shaded" ZdX (Zaa (v 1) yaa)))
  nop)
  (sq (ifs (bAnd (trb (o2 dEq (cut (v 0) pno (pso (c (.int 1)))) (mls (Zaa (c (.str "patterned")) yaa)))) (trb (o2 dEq (on bLen (Zaa (v 0) yaa)) (c (.int 2)))))
  (ret (make "Patterned" ZbJ (Zaa (v 1) (Zaa (on ZbP (Zaa (o2 dIx (v 0) (c (.int 1))) yaa)) yaa))))
  nop)
  (sq (ifs (bAnd (trb (o2 dEq (cut (v 0) pno (pso (c (.int 1)))) (mls (Zaa (c (.str "glass")) yaa)))) (trb (o2 dEq (on bLen (Zaa (v 0) yaa)) (c (.int 3)))))
  (ret (make "Glass" Ze2 (Zaa (v 1) (Zaa (on ZaC (Zaa (o2 dIx (v 0) (c (.int 1))) yaa)) (Zaa (on ZaC (Zaa (o2 dIx (v 0) (c (.int 2))) yaa)) yaa)))))
  nop)
  badS))))
def Za5:List D->Res D:=fn 2
  (sq (drp (on ZbV (Zaa (v 0) yaa)))
  (sq (st 1 (on Zdk (Zaa (sD Zd6 (v 0) (c (.str " "))) yaa)))
  (sq (ifs (trb (o2 dNe (on bLen (Zaa (v 1) yaa)) (c (.int 4))))
  badS
  nop)
  (ret (on ZdP (Zaa (o2 dIx (v 1) (c (.int 0))) (Zaa (on bTup (Zaa (comp (iv (cut (v 1) (pso (c (.int 1))) pno)) 1 [] (gN 0) yes (on Zcb (Zaa (v 0) yaa))) yaa)) yaa)))))))
def Zch:List D->Res D:=fn 3
  (sq (ifs (trb (o2 dGe (v 1) (on bLen (Zaa (v 0) yaa))))
  badS
  nop)
  (Zl1 [("read_floor",Zbt),("read_ground",Za9),("read_spots",Zbs),("read_thing",Za5)] 2 (Zaa (o2 dIx (v 0) (v 1)) yaa)))
def ZbU:List D->Res D:=fn 6
  (sq (drp (on ZbV (Zaa (v 0) yaa)))
  (sq (st 1 (sD Zd6 (v 0) (c (.str "\n"))))
  (sq (st 2 (on Zch (Zaa (v 1) (Zaa (c (.int 0)) (Zaa (c (.cls "read_floor")) yaa)))))
  (sq (st 3 (on Zch (Zaa (v 1) (Zaa (c (.int 1)) (Zaa (c (.cls "read_ground")) yaa)))))
  (sq (st 4 (on Zch (Zaa (v 1) (Zaa (c (.int 2)) (Zaa (c (.cls "read_spots")) yaa)))))
  (sq (st 5 (comp (r2 (Zaa (c (.int 3)) (Zaa (on bLen (Zaa (v 1) yaa)) yaa))) 1 [1] (gN 0) yes (on Zch (Zaa (v 1) (Zaa (v 0) (Zaa (c (.cls "read_thing")) yaa))))))
  (ret (mtp (Zaa (o2 dIx (v 2) (c (.int 0))) (Zaa (o2 dIx (v 2) (c (.int 1))) (Zaa (v 3) (Zaa (v 4) (Zaa (v 5) yaa)))))))))))))
def Zee:List D->Res D:=fn 1
  (ret (o2 yac (o2 yac (on Zat (Zaa (o2 dIx (v 0) (c (.int 0))) yaa)) (c (.str ","))) (on Zat (Zaa (o2 dIx (v 0) (c (.int 1))) yaa))))
def Za7:List D->Res D:=fn 2
  (sq (st 1 (mls (Zaa (sD Zfw (c (.str " ")) (mls (Zaa (c (.str "floor")) (Zaa (on Zat (Zaa (o2 dIx (v 0) (c (.int 0))) yaa)) (Zaa (on Zat (Zaa (o2 dIx (v 0) (c (.int 1))) yaa)) yaa))))) (Zaa (sD Zfw (c (.str " ")) (mls (Zaa (c (.str "ground")) (Zaa (on ZaA (Zaa (o2 dIx (v 0) (c (.int 2))) yaa)) yaa)))) (Zaa (sD Zfw (c (.str " ")) (o2 yac (mls (Zaa (c (.str "spots")) yaa)) (comp (iv (o2 dIx (v 0) (c (.int 3)))) 1 [] (gN 0) yes (on Zee (Zaa (v 0) yaa))))) yaa)))))
  (ret (sD Zfw (c (.str "\n")) (o2 yac (v 1) (comp (iv (o2 dIx (v 0) (c (.int 4)))) 1 [] (gN 0) yes (on ZaK (Zaa (v 0) yaa)))))))
def ZbT:List D->Res D:=fn 9
  (sq (asg (gU 2 (gs1 (gN 1) (gs1 (gN 2) gs0))) (comp (r2 (Zaa (c (.int 1)) (Zaa (c (.int 3)) yaa))) 1 [0] (gN 0) yes (o2 yac (c (.int 1)) (o2 yau (on Zal (Zaa (v 1) (Zaa (v 0) yaa))) (o2 dIx (mls (Zaa (c (.int 4)) (Zaa (c (.int 64)) yaa))) (o2 yaP (o2 yau (on Zal (Zaa (v 1) (Zaa (c (.int 3)) yaa))) (c (.int 4))) (c (.int 3))))))))
  (sq (st 3 (on ZaB (Zaa (v 0) (Zaa (c (.int 40)) yaa))))
  (sq (st 4 (on ZcC (Zaa (v 0) yaa)))
  (sq (st 5 (comp (r1 (Zaa (o2 yau (on Zal (Zaa (v 0) (Zaa (c (.int 41)) yaa))) (c (.int 7))) yaa)) 1 [0] (gN 0) yes (on Zct (Zaa (v 1) (Zaa (o2 yac (c (.int 50)) (o2 yaj (c (.int 20)) (v 0))) yaa)))))
  (sq (st 6 (mtp (Zaa (on bLst (Zaa (v 4) yaa)) (Zaa (on bLst (Zaa (v 5) yaa)) yaa))))
  (sq (st 7 (on Za7 (Zaa (mtp (Zaa (v 1) (Zaa (v 2) (Zaa (v 3) (Zaa (o2 dIx (v 6) (c (.int 0))) (Zaa (o2 dIx (v 6) (c (.int 1))) yaa)))))) yaa)))
  (sq (ifs (bOr (bNot (trb (on bIsi (Zaa (v 7) (Zaa (c (.ty "str")) yaa))))) (trb (o2 dNe (v 7) (on ZdW (Zaa (v 1) (Zaa (v 2) (Zaa (v 3) (Zaa (v 4) (Zaa (v 5) yaa)))))))))
  (ret (c (.bl false)))
  nop)
  (nwF ZbU (Zaa (v 7) yaa)
  (nwI 8 (bOr (bNot (trb (on bIsi (Zaa (v 8) (Zaa (c (.ty "tuple")) yaa))))) (bOr (trb (o2 dNe (cut (v 8) pno (pso (c (.int 4)))) (mtp (Zaa (v 1) (Zaa (v 2) (Zaa (v 3) (Zaa (v 4) yaa))))))) (bNot (trb (on bIsi (Zaa (o2 dIx (v 8) (c (.int 4))) (Zaa (c (.ty "list")) yaa)))))))
  (ret (c (.bl false)))
  (nwI 8 (bOr (trb (o2 dNe (o2 dIx (v 6) (c (.int 0))) (v 4))) (trb (o2 dNe (on bLen (Zaa (o2 dIx (v 6) (c (.int 1))) yaa)) (on bLen (Zaa (v 5) yaa)))))
  (ret (c (.bl false)))
  (nwI 8 (trb (o2 dNe (comp (iv (o2 dIx (v 8) (c (.int 4)))) 1 [] (gN 0) yes (on ZaK (Zaa (v 0) yaa))) (comp (iv (v 5)) 1 [] (gN 0) yes (on ZaK (Zaa (v 0) yaa)))))
  (ret (c (.bl false)))
  (nwE 8 (mtp (Zaa (c (.int 1)) (Zaa (c (.int 1)) yaa)))
  (sq (st 8 (on ZbU (Zaa (v 7) yaa)))
  (sq (ifs (bOr (trb (o2 dNe (cut (v 8) pno (pso (c (.int 4)))) (mtp (Zaa (v 1) (Zaa (v 2) (Zaa (v 3) (Zaa (v 4) yaa))))))) (trb (o2 dNe (on bLen (Zaa (o2 dIx (v 8) (c (.int 4))) yaa)) (on bLen (Zaa (v 5) yaa)))))
  (ret (c (.bl false)))
  nop)
  (sq (ifs (bOr (trb (o2 dNe (on Za7 (Zaa (v 8) yaa)) (v 7))) (bOr (trb (o2 dGt (v 1) (c (.int 4)))) (bOr (trb (o2 dGt (v 2) (c (.int 4)))) (trb (o2 dGt (on bLen (Zaa (v 4) yaa)) (c (.int 3)))))))
  (ret (o2 dEq (on Za7 (Zaa (v 8) yaa)) (v 7)))
  nop)
  (ret (o2 dEq (on ZdC (Zaa (o2 dIx (v 8) (c (.int 4))) (Zaa (v 1) (Zaa (v 2) (Zaa (o2 dIx (v 8) (c (.int 3))) (Zaa (o2 dIx (v 8) (c (.int 2))) yaa)))))) (on ZdC (Zaa (v 5) (Zaa (v 1) (Zaa (v 2) (Zaa (v 4) (Zaa (v 3) yaa)))))))))))))))))))))))
def ZqJ:List D->Res D:=fn 1
  (ret (eAnd (on ZbT (Zaa (on Zbe (Zaa (v 0) (Zaa (c (.int 0)) yaa))) yaa)) (on ZbT (Zaa (on Zbe (Zaa (v 0) (Zaa (c (.int 1)) yaa))) yaa))))
variable{U:Dl.D->Prop}{Z:Dl.Ev}{t w:List Nat}{Ψ:Dl.Fl->Prop}{ns:List Int}{cs:List (List Int)}{e:Dl.ME}{k i:Nat}
def Zbn{k:Int}(hk:0<=k/\k<=4000)(h:∀r,0<=r/\r<2147483648->U (.int r)):Tl (Zal [.int cc,.int k]) U:=by
 unfold Zal;symm;refine Zc8 (λ_=>?_) (λ_=>?_)
 .symm;refine Zc8 (λ_=>?_) (λ_=>?_)
  .symm;refine Zc8 (λ_=>?_) (λ_=>?_)
   .symm;exact h _ (by ac_rfl)
   .symm;exact h _ (by ac_rfl)
  .symm;exact h _ (by ac_rfl)
 .symm;exact h _ (by ac_rfl)
def cor(x y w h:Int)(vs:List Int):D:=.tup [.int x,.int y,.int w,.int h,.tup (vs.map .int)]
def Bd(x:Int):Prop:=-1000000<=x/\x<=1000000
def Zid{k:Int}(hk:0<=k)(h:∀n,U (.int n)):Tl (Zbe [.lst (ns.map .int),.int k]) U:=by
 unfold Zbe;symm;refine Zc8 (λa=>?_) (λ_=>?_)
 .symm;refine ZwE (by ac_rfl) λn _=>?_;symm;exact h n
 .symm;exact h 0
end My
namespace Mt
def ZnQ{x y:Int}(h:y<0):(x.fmod y).natAbs<y.natAbs:=by
 rw [Int.fmod_eq_emod];have a:=Vb0 x (show y≠0 by ac_rfl);have b:=Int.emod_lt x (show y≠0 by ac_rfl);by_cases hd:y∣x
 .have e:x%y=0:=Int.emod_eq_zero_of_dvd hd;rw [iP (.inr hd),e];ac_rfl
 .rw [iN (by ac_rfl)];ac_rfl
def Zod(x y:Int):Int.gcd y (x.fmod y)=Int.gcd x y:=by
 have e:x.fmod y=x+y*(-(x.fdiv y)):=by rw [Int.fmod_def,Int.mul_neg,Int.sub_eq_add_neg]
 rw [e,Int.gcd_comm,Int.gcd_add_mul_left_left]
end Mt
namespace My
open PySem Dl
variable{U:Dl.D->Prop}{Z:Dl.Ev}{t w:List Nat}{Ψ:Dl.Fl->Prop}{ns:List Int}{cs:List (List Int)}{e:Dl.ME}{k i:Nat}
def w_modN(hy:y<0)(h:U (.int (x.fmod y))):Tl (yau (.int x) (.int y)) U:=by
 refine Zak ?_ h;show iMod x y=_;unfold iMod;rw [iN (by ac_rfl),iN (by ac_rfl)]
def ZeZ(h:U (.int (Mt.gcdL 0 ns))):Tl (Zas [.lst (ns.map .int)]) U:=by
 unfold Zas;symm;refine ZmL (λp Z=>∃(a:List Int) (k c b:Cl),p=a.map .int/\Z=[.im (.lst (ns.map .int)),.im (.int (Mt.gcdL 0 a)),k,c,b]) ⟨[],_,_,_,rfl,rfl⟩ ?_ ?_
 .rintro p x r o Z ⟨a,k,c,b,rfl,rfl⟩;obtain ⟨n,rfl⟩ : ∃n:Int,x=.int n:=by
   have:x∈ns.map .int:=by rw [o];simp
   obtain ⟨n,_,rfl⟩:=Vbo.mp this;exact ⟨n,rfl⟩
  symm;refine w_wh (λZ=>∃(f m:Nat) (b:Cl),Z=[.im (.lst (ns.map .int)),.im (.int f),.im (.int n),.im (.int m),b]/\Nat.gcd f m=Nat.gcd (Mt.gcdL 0 a) n.natAbs) (ZfK 3) ⟨_,_,_,rfl,rfl⟩ (ZdV _ _) ?_;rintro Z ⟨f,m,b,rfl,e⟩;symm;refine ⟨λi=>?_,λi=>?_⟩
  .have d:m≠0:=by simpa using i
   symm;refine ⟨_,rfl,⟨m,f%m,_,rfl,?_⟩,?_⟩
   .rw [<-e,Mt.Zke]
   .have:=VbZ f (Nat.pos_of_ne_zero d);simp [ZfK,absC];ac_rfl
  .have d:m=0:=by simpa using i
   subst d;rw [Nat.gcd_zero_right] at e;have s:Mt.gcdL 0 (a++[n])=Nat.gcd (Mt.gcdL 0 a) n.natAbs:=by
    have j:∀(l:List Int) (g:Nat),Mt.gcdL g (l++[n])=Nat.gcd (Mt.gcdL g l) n.natAbs:=by
     intro l
     induction l with
     | nil=>exact λg=>rfl
     | cons y l ih=>exact λg=>ih _
    exact j a 0
   exact ⟨_,rfl,a++[n],.im (.int n),.im (.int ((0:Nat):Int)),b,by simp,by rw [s,<-e]⟩
 .rintro Z ⟨a,k,c,b,q,rfl⟩;symm;have:ns=a:=Zhn q;rw [<-this];exact h
def Zep(h:U (.int (Mt.gcdL 0 ns))):Tl (Zas [.tup (ns.map .int)]) U:=by
 unfold Zas;symm;refine ZmL (λp Z=>∃(a:List Int) (k c b:Cl),p=a.map .int/\Z=[.im (.tup (ns.map .int)),.im (.int (Mt.gcdL 0 a)),k,c,b]) ⟨[],_,_,_,rfl,rfl⟩ ?_ ?_
 .rintro p x r o Z ⟨a,k,c,b,rfl,rfl⟩;obtain ⟨n,rfl⟩ : ∃n:Int,x=.int n:=by
   have:x∈ns.map .int:=by rw [o];simp
   obtain ⟨n,_,rfl⟩:=Vbo.mp this;exact ⟨n,rfl⟩
  symm;refine w_wh (λZ=>∃(f m:Nat) (b:Cl),Z=[.im (.tup (ns.map .int)),.im (.int f),.im (.int n),.im (.int m),b]/\Nat.gcd f m=Nat.gcd (Mt.gcdL 0 a) n.natAbs) (ZfK 3) ⟨_,_,_,rfl,rfl⟩ (ZdV _ _) ?_;rintro Z ⟨f,m,b,rfl,e⟩;symm;refine ⟨λi=>?_,λi=>?_⟩
  .have d:m≠0:=by simpa using i
   symm;refine ⟨_,rfl,⟨m,f%m,_,rfl,?_⟩,?_⟩
   .rw [<-e,Mt.Zke]
   .have:=VbZ f (Nat.pos_of_ne_zero d);simp [ZfK,absC];ac_rfl
  .have d:m=0:=by simpa using i
   subst d;rw [Nat.gcd_zero_right] at e;have s:Mt.gcdL 0 (a++[n])=Nat.gcd (Mt.gcdL 0 a) n.natAbs:=by
    have j:∀(l:List Int) (g:Nat),Mt.gcdL g (l++[n])=Nat.gcd (Mt.gcdL g l) n.natAbs:=by
     intro l
     induction l with
     | nil=>exact λg=>rfl
     | cons y l ih=>exact λg=>ih _
    exact j a 0
   exact ⟨_,rfl,a++[n],.im (.int n),.im (.int ((0:Nat):Int)),b,by simp,by rw [s,<-e]⟩
 .rintro Z ⟨a,k,c,b,q,rfl⟩;symm;have:ns=a:=Zhn q;rw [<-this];exact h
def fra(t b:Int):D:=.tup [.int (Mt.frT t b),.int (Mt.frB t b)]
def ZpP{t b:Int}(h:b≠0):Int.gcd t b<=b.natAbs:=Nat.le_of_dvd (by ac_rfl) (Vcf.mpr (Int.gcd_dvd_right t b) |> λy=>by simpa using y)
def ZpU{U:D->Prop}{x y:Int}{k:Nat}(hy:0<y)(s:Sm k y)(hk:k<=8900)(h:U (.int (x.fdiv y))):Tl (yaP (.int x) (.int y)) U:=by
 refine w_div hy (s.log (by ac_rfl)) ?_;rw [<-VaJ _ (by ac_rfl)];exact h
def ZpX{U:D->Prop}{x y:Int}{k:Nat}(hy:y<0)(s:Sm k y)(hk:k<=8900)(h:U (.int (x.fdiv y))):Tl (yaP (.int x) (.int y)) U:=w_divN hy (s.log (by ac_rfl)) h
def Zg1{U:D->Prop}{t b:Int}{k:Nat}(hb:b≠0)(sb:Sm k b)(hk:k<=8900)(h:U (fra t b)):Tl (Zcq [.int t,.int b]) U:=by
 have d:=Mt.Zew (t:=t) hb;have c:Sm k (Int.gcd t b:Int):=sb.le (by rw [Vce];exact ZpP hb);unfold Zcq;symm;refine ZeZ (ns:=[t,b]) ?_;rw [Mt.Zj4];symm;unfold fra Mt.frT Mt.frB at h;refine Zc8 (λa=>?_) (λa=>?_)
 .symm;rw [iP a,iP a] at h;refine ZpX (by ac_rfl) c.neg hk ?_;symm;refine ZpX (by ac_rfl) c.neg hk ?_;symm;exact h
 .symm;rw [iN a,iN a] at h;refine ZpU (by ac_rfl) c hk ?_;symm;refine ZpU (by ac_rfl) c hk ?_;symm;exact h
abbrev dot(x y z e f g:Int):Int:=x*e+y*f+z*g
def Zkm{x y z e f g:Int}{k n:Nat}(hx:Sm k x)(hy:Sm k y)(hz:Sm k z)(he:Sm n e)(hf:Sm n f)(hg:Sm n g):Sm (k+n+2) (dot x y z e f g):=(((hx.mul he).add (hy.mul hf)).add (hz.mul hg)).mono (by ac_rfl)
def Zpk{U:D->Prop}{x y z e f g:Int}{k n:Nat}(hx:Sm k x)(hy:Sm k y)(hz:Sm k z)(he:Sm n e)(hf:Sm n f)(hg:Sm n g)(hk:k+n<=8000)(q:U (.int (dot x y z e f g))):Tl (Zaj [.lst [.int x,.int y,.int z],.tup [.int e,.int f,.int g]]) U:=by
 have a:Zbg x e=true:=ZaN hx he (by ac_rfl);have b:Zbg y f=true:=ZaN hy hf (by ac_rfl);have c:Zbg z g=true:=ZaN hz hg (by ac_rfl);unfold Zaj;symm;exact q
def Zt9{U:D->Prop}{x y z e f g:Int}{k n:Nat}(hx:Sm k x)(hy:Sm k y)(hz:Sm k z)(he:Sm n e)(hf:Sm n f)(hg:Sm n g)(hk:k+n<=8000)(q:U (.int (dot x y z e f g))):Tl (Zaj [.tup [.int x,.int y,.int z],.tup [.int e,.int f,.int g]]) U:=by
 have a:Zbg x e=true:=ZaN hx he (by ac_rfl);have b:Zbg y f=true:=ZaN hy hf (by ac_rfl);have c:Zbg z g=true:=ZaN hz hg (by ac_rfl);unfold Zaj;symm;exact q
structure Cv(k:Nat)(x y w h:Int)(vs:List Int):Prop where
 fx:Sm k x
 fy:Sm k y
 fw:Sm k w
 fh:Sm k h
 fv:∀v∈vs,Sm k v
 f1:1<=h
def ZmN{U:D->Prop}{ax ay aw ah bx bY bw bh cx cy cw ch e f g:Int}{av bv cv:List Int}{k n:Nat}(a:Cv k ax ay aw ah av)(b:Cv k bx bY bw bh bv)(c:Cv k cx cy cw ch cv)(he:Sm n e)(hf:Sm n f)(hg:Sm n g)(hk:k+n<=8000)(q:U (.int (dot ah bh ch e f g))):Tl (Zda [.tup [cor ax ay aw ah av,cor bx bY bw bh bv,cor cx cy cw ch cv],.tup [.int e,.int f,.int g]]) U:=by
 unfold Zda cor;symm;refine ⟨by show (3:Nat)<=_;ac_rfl,?_⟩;refine Zk9 ?_;symm;refine Zk9 ?_;symm;refine Zk9 ?_;symm;refine ZuT ?_;symm;refine Zpk a.fh b.fh c.fh he hf hg hk ?_;symm;exact q
def ZgR:∀(xs ys zs:List Int),trips (xs.map .int) (ys.map .int) (zs.map .int)=(xs.zip (ys.zip zs)).map λt=>.tup [.int t.1,.int t.2.1,.int t.2.2]
 | [],_,_=>by simp [trips]
 | _::_,[],_=>by simp [trips]
 | _::_,_::_,[]=>by simp [trips]
 | x::xs,y::ys,z::zs=>by simp [trips,ZgR xs ys zs]
def vls(av bv cv:List Int)(e f g B:Int):List D:=(av.zip (bv.zip cv)).map λt=>fra (dot t.1 t.2.1 t.2.2 e f g) B
def ZjQ{av bv cv:List Int}{t:Int×Int×Int}(h:t∈av.zip (bv.zip cv)):t.1∈av/\t.2.1∈bv/\t.2.2∈cv:=by
 obtain ⟨x,y,z⟩:=t;have a:=VaX h;have b:=VaX a.2;exact ⟨a.1,b.1,b.2⟩
def ZrQ{U:D->Prop}{ax ay aw ah bx bY bw bh cx cy cw ch e f g:Int}{av bv cv:List Int}{k n:Nat}(a:Cv k ax ay aw ah av)(b:Cv k bx bY bw bh bv)(c:Cv k cx cy cw ch cv)(he:Sm n e)(hf:Sm n f)(hg:Sm n g)(hk:k+n<=7000)(hl:av.length<=1000)(h0:dot ah bh ch e f g≠0)
  (q:U (.tup [fra (dot aw bw cw e f g) (dot ah bh ch e f g),.tup (vls av bv cv e f g (dot ah bh ch e f g))])):Tl (Za2 [.tup [cor ax ay aw ah av,cor bx bY bw bh bv,cor cx cy cw ch cv],.tup [.int e,.int f,.int g]]) U:=by
 have d:=Zkm a.fh b.fh c.fh he hf hg;unfold Za2;symm;refine ZmN a b c he hf hg (by ac_rfl) ?_;generalize dot ah bh ch e f g=B at *;unfold cor;symm;refine ⟨by show (3:Nat)<=_;ac_rfl,?_⟩;refine Zk9 ?_;symm;refine Zk9 ?_;symm;refine Zk9 ?_;symm;refine ZuT ?_;symm;refine Zpk a.fw b.fw c.fw he hf hg (by ac_rfl) ?_;symm;refine Zg1 h0 d (by ac_rfl) ?_;symm;rw [ZgR];refine ⟨by rw [VaO,List.length_zip];ac_rfl,?_⟩;refine ZaV (λt=>fra (dot t.1 t.2.1 t.2.2 e f g) B) (λt i=>?_) ?_
 .obtain ⟨h,l,j⟩:=ZjQ i;symm;refine Zt9 (a.fv _ h) (b.fv _ l) (c.fv _ j) he hf hg (by ac_rfl) ?_;symm;exact Zg1 h0 d (by ac_rfl) rfl
 symm;exact q
abbrev ow(ax ay aw bx bY bw cx cy cw:Int):Int:=(ay*bw - aw*bY)*cx+(aw*bx - ax*bw)*cy+(ax*bY - ay*bx)*cw
def sm6{x:Int}(h:-100000000<=x/\x<=100000000):Sm 64 x:=Sm.of64 (by ac_rfl) (by ac_rfl)
structure Cr(x y w:Int):Prop where
 x:Sm 64 x
 y:Sm 64 y
 w:Sm 64 w
def Cr.n{ax ay aw bx bY bw:Int}(a:Cr ax ay aw)(b:Cr bx bY bw):Sm 129 (ay*bw - aw*bY)/\Sm 129 (aw*bx - ax*bw)/\Sm 129 (ax*bY - ay*bx) :=
 ⟨(a.y.mul b.w).sub (a.w.mul b.y),(a.w.mul b.x).sub (a.x.mul b.w),(a.x.mul b.y).sub (a.y.mul b.x)⟩
def Cr.ow{ax ay aw bx bY bw cx cy cw:Int}(a:Cr ax ay aw)(b:Cr bx bY bw)(c:Cr cx cy cw):Sm 200 (ow ax ay aw bx bY bw cx cy cw):=by
 obtain ⟨d,e,f⟩:=a.n b;exact (((d.mul c.x).add (e.mul c.y)).add (f.mul c.w)).mono (by decide)
def Bd.s{x:Int}(h:Bd x):Sm 64 x:=sm6 ⟨by have:=h.1;ac_rfl,by have:=h.2;ac_rfl⟩
def Zd7{U:D->Prop}{ax ay aw ah bx bY bw bh:Int}{av bv:List Int}(a:Cr ax ay aw)(b:Cr bx bY bw)(h:U (.tup [.int (ay*bw - aw*bY),.int (aw*bx - ax*bw),.int (ax*bY - ay*bx)])):Tl (Zbf [cor ax ay aw ah av,cor bx bY bw bh bv]) U:=by
 obtain ⟨f,e,c⟩:=a;obtain ⟨d,i,g⟩:=b;unfold Zbf cor;symm;exact h
def ZjE{U:D->Prop}{l m n px py ps:Int}(hl:Sm 129 l)(hm:Sm 129 m)(hn:Sm 129 n)(p:Cr px py ps)(h:U (.int (l*px+m*py+n*ps))):Tl (Zaj [.tup [.int l,.int m,.int n],.tup [.int px,.int py,.int ps]]) U:=by
 obtain ⟨b,a,c⟩:=p;unfold Zaj;symm;exact h
def sg(x:Int):Int:=if 0<x then 1 else if x<0 then -1 else 0
def sd3(s m n:Int):Int:=if s=0 then (if m=0 then sg n else sg m) else sg s
def Zmb{x:Int}(h:0<x):sg x=1:=iP h
def Zma{x:Int}(h:x<0):sg x=-1:=by unfold sg;rw [iN (by ac_rfl),iP h]
def Zsr:sg 0=0:=rfl
def Zl7(x:Int):sg (-x)=- sg x:=by unfold sg;split<;>split<;>(try split)<;>(try split)<;>ac_rfl
def ZsM(s m n:Int):sd3 (-s) (-m) (-n)=- sd3 s m n:=by
 unfold sd3;rw [Zl7,Zl7,Zl7];split<;>split<;>(try split)<;>(try split)<;>ac_rfl
def ZrY{x:Int}:sg x=1/\0<x\/sg x=0/\x=0\/sg x=-1/\x<0:=by
 unfold sg;split<;>(try split)<;>ac_rfl
def ZmU(x:Int):sg x=1\/sg x=0\/sg x=-1:=by
 rcases ZrY (x:=x) with h | h | h
 .exact .inl h.1
 .exact .inr (.inl h.1)
 .exact .inr (.inr h.1)
def ZuA(s m n:Int):sd3 s m n=1\/sd3 s m n=0\/sd3 s m n=-1:=by
 unfold sd3;by_cases h:s=0
 .rw [iP h];by_cases h':m=0
  .rw [iP h'];exact ZmU n
  .rw [iN h'];exact ZmU m
 .rw [iN h];exact ZmU s
def Zlp{s m n e:Int}{P Q R:Prop}(h1:sg s=e↔P)(h2:sg m=e↔Q)(h3:sg n=e↔R):sd3 s m n=e↔(¬s=0/\P)\/(s=0/\((¬m=0/\Q)\/(m=0/\R))):=by
 unfold sd3;by_cases h:s=0
 .rw [iP h];by_cases h':m=0
  .rw [iP h',h3];simp [h,h']
  .rw [iN h',h2];simp [h,h']
 .rw [iN h,h1];simp [h]
def Zl2{x:Int}:sg x=1↔0<x:=by rcases ZrY (x:=x) with h | h | h<;>ac_rfl
def Zlx{x:Int}:sg x=-1↔x<0:=by rcases ZrY (x:=x) with h | h | h<;>ac_rfl
abbrev sdE(ax ay aw bx bY bw px py ps:Int):Int:=sd3 (ow ax ay aw bx bY bw px py ps) (ay*bw - aw*bY) (aw*bx - ax*bw)
def Zjc(ax ay aw bx bY bw px py ps:Int):sdE bx bY bw ax ay aw px py ps=- sdE ax ay aw bx bY bw px py ps:=by
 unfold sdE;rw [<-ZsM];congr 1
 .unfold ow;grind
 .grind
 .grind
def w_side{U:D->Prop}{ax ay aw ah bx bY bw bh px py ps:Int}{av bv:List Int}(a:Cr ax ay aw)(b:Cr bx bY bw)(p:Cr px py ps)(h:U (.int (sdE ax ay aw bx bY bw px py ps))):Tl (ZgH [cor ax ay aw ah av,cor bx bY bw bh bv,.tup [.int px,.int py,.int ps]]) U:=by
 unfold ZgH;symm;refine Zd7 a b ?_;symm;obtain ⟨g,f,e⟩:=a.n b;refine ZjE g f e p ?_;symm;unfold sdE sd3 at h;change U (.int (if ow ax ay aw bx bY bw px py ps=0 then _ else _)) at h
 show Tl (Zb2 _ _ [.int (ow ax ay aw bx bY bw px py ps),.int _,.int _] _) _;generalize ow ax ay aw bx bY bw px py ps=s at *;generalize ay*bw - aw*bY=m at *;generalize aw*bx - ax*bw=n at *;refine w_f1 ?_;symm;refine ZgY (λc=>?_) (λc=>?_)
 .rw [iN c] at h;symm;refine Zc8 (λd=>?_) (λd=>?_)
  .symm;rw [Zmb d] at h;exact h
  .symm;rw [Zma (by ac_rfl)] at h;exact h
 rw [iP c] at h;symm;refine w_f1 ?_;symm;refine ZgY (λc=>?_) (λc=>?_)
 .rw [iN c] at h;symm;refine Zc8 (λd=>?_) (λd=>?_)
  .symm;rw [Zmb d] at h;exact h
  .symm;rw [Zma (by ac_rfl)] at h;exact h
 rw [iP c] at h;symm;refine w_f1 ?_;symm;refine ZgY (λc=>?_) (λc=>?_)
 .symm;refine Zc8 (λd=>?_) (λd=>?_)
  .symm;rw [Zmb d] at h;exact h
  .symm;rw [Zma (by ac_rfl)] at h;exact h
 symm;refine w_f0 ?_;symm;rw [c,Zsr] at h;exact h
def ZrW{U:D->Prop}{ax ay aw ah bx bY bw bh cx cy cw ch:Int}{av bv cv:List Int}(ha:1<=aw)(hb:1<=bw)(hc:1<=cw)(h:U .non):Tl (Zaw [.tup [cor ax ay aw ah av,cor bx bY bw bh bv,cor cx cy cw ch cv]]) U:=by
 unfold Zaw cor;symm;refine w_f1 ?_;symm;refine w_f1 ?_;symm;refine w_f1 ?_;symm;refine w_f0 ?_;symm;exact h
def hd3(ab bc ca:Int):Int:=if ab=bc/\bc=ca then ab else 0
def Zvy{U:D->Prop}{ax ay aw ah bx bY bw bh cx cy cw ch px py ps:Int}{av bv cv:List Int}(ha:1<=aw)(hb:1<=bw)(hc:1<=cw)(a:Cr ax ay aw)(b:Cr bx bY bw)(c:Cr cx cy cw)(p:Cr px py ps)(h:U (.int (hd3 (sdE ax ay aw bx bY bw px py ps) (sdE bx bY bw cx cy cw px py ps) (sdE cx cy cw ax ay aw px py ps)))):Tl (Zov [.tup [cor ax ay aw ah av,cor bx bY bw bh bv,cor cx cy cw ch cv],.tup [.int px,.int py,.int ps]]) U:=by
 unfold Zov;symm;refine ZrW ha hb hc ?_;symm;refine w_side a b p ?_;symm;refine w_side b c p ?_;symm;unfold hd3 at h;refine ZgY (λe=>?_) (λe=>?_)
 .symm;rw [iN (by ac_rfl)] at h;exact h
 symm;refine w_side c a p ?_;symm;refine ZgY (λd=>?_) (λd=>?_)
 .symm;rw [iN (by ac_rfl)] at h;exact h
 symm;rw [iP (by ac_rfl)] at h;exact h
def Ze1{U:D->Prop}{ax ay aw ah bx bY bw bh px py ps:Int}{av bv:List Int}(a:Cr ax ay aw)(b:Cr bx bY bw)(p:Cr px py ps)(h:U (.int (ow ax ay aw bx bY bw px py ps))):Tl (Zcd [cor ax ay aw ah av,cor bx bY bw bh bv,.tup [.int px,.int py,.int ps]]) U:=by
 unfold Zcd;symm;refine Zd7 a b ?_;symm;obtain ⟨c,d,e⟩:=a.n b;refine ZjE c d e p ?_;symm;exact h
def ZlF{U:D->Prop}{ax ay aw ah bx bY bw bh cx cy cw ch px py ps:Int}{av bv cv:List Int}(a:Cr ax ay aw)(b:Cr bx bY bw)(c:Cr cx cy cw)(p:Cr px py ps)
  (h:U (.tup [.int (ow bx bY bw cx cy cw px py ps),.int (ow cx cy cw ax ay aw px py ps),.int (ow ax ay aw bx bY bw px py ps)])):Tl (ZeN [.tup [cor ax ay aw ah av,cor bx bY bw bh bv,cor cx cy cw ch cv],.tup [.int px,.int py,.int ps]]) U:=by
 unfold ZeN;symm;refine Ze1 b c p ?_;symm;refine Ze1 c a p ?_;symm;refine Ze1 a b p ?_;symm;exact h
def ZmR{s m n:Int}:sd3 s m n=1↔0<s\/(s=0/\(0<m\/(m=0/\0<n))):=by
 rw [Zlp Zl2 Zl2 Zl2];ac_rfl
def ZnI{s m n:Int}:sd3 s m n=-1↔s<0\/(s=0/\(m<0\/(m=0/\n<0))):=by
 rw [Zlp Zlx Zlx Zlx];ac_rfl
def mul0{a b:Int}(ha:0<a)(hb:0<=b):0<=a*b:=Int.mul_nonneg (Int.le_of_lt ha) hb
def Zjf{a b c x y z:Int}(ha:0<a)(hb:0<b)(hc:0<c)(hx:0<=x)(hy:0<=y)(hz:0<=z)(h:a*x+b*y+c*z<=0):x=0/\y=0/\z=0:=by
 have e:=mul0 ha hx;have f:=mul0 hb hy;have d:=mul0 hc hz;refine ⟨?_,?_,?_⟩
 .rcases Int.mul_eq_zero.mp (show a*x=0 by ac_rfl) with h | h<;>ac_rfl
 .rcases Int.mul_eq_zero.mp (show b*y=0 by ac_rfl) with h | h<;>ac_rfl
 .rcases Int.mul_eq_zero.mp (show c*z=0 by ac_rfl) with h | h<;>ac_rfl
def ZmZ{ax ay aw bx bY bw cx cy cw px py ps:Int}(ha:0<aw)(hb:0<bw)(hc:0<cw)(hp:0<ps)(h1:sdE ax ay aw bx bY bw px py ps=1)(h2:sdE bx bY bw cx cy cw px py ps=1)(h3:sdE cx cy cw ax ay aw px py ps=1):0<ow ax ay aw bx bY bw cx cy cw:=by
 unfold sdE at h1 h2 h3;rw [ZmR] at h1 h2 h3;have i:aw*ow bx bY bw cx cy cw px py ps+bw*ow cx cy cw ax ay aw px py ps+cw*ow ax ay aw bx bY bw px py ps=ow ax ay aw bx bY bw cx cy cw*ps:=by unfold ow;grind
 have n:aw*(bY*cw - bw*cy)+bw*(cy*aw - cw*ay)+cw*(ay*bw - aw*bY)=0:=by grind
 have b:aw*(bw*cx - bx*cw)+bw*(cw*ax - cx*aw)+cw*(aw*bx - ax*bw)=0:=by grind
 generalize ow bx bY bw cx cy cw px py ps=e at *;generalize ow cx cy cw ax ay aw px py ps=f at *;generalize ow ax ay aw bx bY bw px py ps=g at *;generalize ow ax ay aw bx bY bw cx cy cw=o at *;by_cases ho:0<o
 .exact ho
 exfalso;have a:o*ps<=0:=by
  have:=Int.mul_nonneg (show 0<=-o by ac_rfl) (show 0<=ps by ac_rfl);rw [Int.neg_mul] at this;ac_rfl
 obtain ⟨h,q,c⟩:=Zjf ha hb hc (x:=e) (y:=f) (z:=g) (by ac_rfl) (by ac_rfl) (by ac_rfl) (by ac_rfl);obtain ⟨k,m,p⟩:=Zjf ha hb hc (x:=bY*cw - bw*cy) (y:=cy*aw - cw*ay) (z:=ay*bw - aw*bY) (by ac_rfl) (by ac_rfl) (by ac_rfl) (by ac_rfl);obtain ⟨j,d,l⟩:=Zjf ha hb hc (x:=bw*cx - bx*cw) (y:=cw*ax - cx*aw) (z:=aw*bx - ax*bw) (by ac_rfl) (by ac_rfl) (by ac_rfl) (by ac_rfl);ac_rfl
def Zrw{ax ay aw bx bY bw cx cy cw px py ps:Int}(ha:0<aw)(hb:0<bw)(hc:0<cw)(hp:0<ps)(h1:sdE ax ay aw bx bY bw px py ps=-1)(h2:sdE bx bY bw cx cy cw px py ps=-1)(h3:sdE cx cy cw ax ay aw px py ps=-1):ow ax ay aw bx bY bw cx cy cw<0:=by
 have z:=ZmZ hc hb ha hp (by rw [Zjc bx bY bw cx cy cw,h2];rfl) (by rw [Zjc ax ay aw bx bY bw,h1];rfl) (by rw [Zjc cx cy cw ax ay aw,h3];rfl);have e:ow cx cy cw bx bY bw ax ay aw=- ow ax ay aw bx bY bw cx cy cw:=by unfold ow;grind
 ac_rfl
abbrev hdE(ax ay aw bx bY bw cx cy cw px py ps:Int):Int:=hd3 (sdE ax ay aw bx bY bw px py ps) (sdE bx bY bw cx cy cw px py ps) (sdE cx cy cw ax ay aw px py ps)
def ZlB{x y z:Int}(hx:x=1\/x=0\/x=-1)(h:hd3 x y z≠0):∃e,(e=1\/e=-1)/\x=e/\y=e/\z=e:=by
 unfold hd3 at h;split at h
 .exact ⟨x,by ac_rfl,rfl,by ac_rfl,by ac_rfl⟩
 .exact aB rfl h
def ZtF{U:Fl->Prop}{g:MG}{k:MS}{Z:Ev}{enc:Nat->D}{n:Nat}(I:Nat->Ev->Prop)(h0:I 0 Z)(h:∀j,j<n->∀Z,I j Z->Tl (g (enc j) Z) λZ1=>Tl (k Z1) λf=>∃Z2,f=.nx Z2/\I (j+1) Z2)(hd:∀Z,I n Z->U (.nx Z)):Tl (Zb2 g k ((List.range n).map enc) Z) U:=by
 refine ZmL (λp Z=>I p.length Z) h0 (λp x r e Z i=>?_) λZ i=>?_
 .have l:p.length<n:=by
   have:=Vaw List.length e;simp at this;ac_rfl
  have ex:x=enc p.length:=by
   have z:=Vaw (λl=>l[p.length]?) e;simp [l] at z;exact z.symm
  subst ex;obtain ⟨Z1,a,f,c,Z2,rfl,b⟩:=h _ l Z i;refine ⟨Z1,a,_,c,Z2,rfl,?_⟩;simpa using b
 .simp at i;exact hd Z i
def Zgr(n:Nat):Zbw 0 n=(List.range n).map λ(k:Nat)=>D.int k:=by
 unfold Zbw;simp
def Wt(e f g:Int):Prop:=(0<=e/\0<=f/\0<=g/\0<e+f+g)\/(e<=0/\f<=0/\g<=0/\e+f+g<0)
def ZpN{ax ay aw bx bY bw cx cy cw px py ps:Int}(ha:0<aw)(hb:0<bw)(hc:0<cw)(hp:0<ps)(h:hdE ax ay aw bx bY bw cx cy cw px py ps≠0):Wt (ow bx bY bw cx cy cw px py ps) (ow cx cy cw ax ay aw px py ps) (ow ax ay aw bx bY bw px py ps):=by
 obtain ⟨s,j,c,a,b⟩:=ZlB (ZuA _ _ _) h;have i:aw*ow bx bY bw cx cy cw px py ps+bw*ow cx cy cw ax ay aw px py ps+cw*ow ax ay aw bx bY bw px py ps=ow ax ay aw bx bY bw cx cy cw*ps:=by unfold ow;grind
 rcases j with rfl | rfl
 .have o:=ZmZ ha hb hc hp c a b;have g:=Vcg o hp;rw [ZmR] at c a b;left;refine ⟨by ac_rfl,by ac_rfl,by ac_rfl,?_⟩;by_cases z:0<ow bx bY bw cx cy cw px py ps+ow cx cy cw ax ay aw px py ps+ow ax ay aw bx bY bw px py ps
  .exact z
  .exfalso;have f:ow bx bY bw cx cy cw px py ps=0:=by ac_rfl
   have e:ow cx cy cw ax ay aw px py ps=0:=by ac_rfl
   have d:ow ax ay aw bx bY bw px py ps=0:=by ac_rfl
   rw [f,e,d] at i;ac_rfl
 .have o:=Zrw ha hb hc hp c a b;have g:=Vcg (show 0 < - ow ax ay aw bx bY bw cx cy cw by ac_rfl) hp;rw [Int.neg_mul] at g;rw [ZnI] at c a b;right;refine ⟨by ac_rfl,by ac_rfl,by ac_rfl,?_⟩;by_cases z:ow bx bY bw cx cy cw px py ps+ow cx cy cw ax ay aw px py ps+ow ax ay aw bx bY bw px py ps<0
  .exact z
  .exfalso;have f:ow bx bY bw cx cy cw px py ps=0:=by ac_rfl
   have e:ow cx cy cw ax ay aw px py ps=0:=by ac_rfl
   have d:ow ax ay aw bx bY bw px py ps=0:=by ac_rfl
   rw [f,e,d] at i;ac_rfl
def Zlw{a x:Int}(ha:1<=a)(hx:0<=x):x<=a*x:=by
 have:=Int.mul_le_mul_of_nonneg_right ha hx;ac_rfl
def Zjp{a x:Int}(ha:1<=a)(hx:x<=0):a*x<=x:=by
 have:=Int.mul_le_mul_of_nonneg_right ha (show 0<=-x by ac_rfl);rw [Int.mul_neg,Int.mul_neg,Int.one_mul] at this;ac_rfl
def ZoQ{x y z e f g:Int}(hx:1<=x)(hy:1<=y)(hz:1<=z)(w:Wt e f g):(0<e+f+g/\0<dot x y z e f g)\/(e+f+g<0/\dot x y z e f g<0):=by
 unfold dot;rcases w with ⟨h1,h2,h3,h4⟩ | ⟨h1,h2,h3,h4⟩
 .have:=Zlw hx h1;have:=Zlw hy h2;have:=Zlw hz h3;left;ac_rfl
 .have:=Zjp hx h1;have:=Zjp hy h2;have:=Zjp hz h3;right;ac_rfl
def ZpF{x y z e f g:Int}(hx:1<=x)(hy:1<=y)(hz:1<=z)(w:Wt e f g):dot x y z e f g≠0:=by
 rcases ZoQ hx hy hz w with h | h<;>ac_rfl
def Zrn{U:D->Prop}{ax ay aw ah bx bY bw bh cx cy cw ch px py ps:Int}{av bv cv:List Int}(ha:1<=aw)(hb:1<=bw)(hc:1<=cw)(a:Cr ax ay aw)(b:Cr bx bY bw)(c:Cr cx cy cw)(p:Cr px py ps)(h0:hdE ax ay aw bx bY bw cx cy cw px py ps=0)(q:U .non):Tl (ZaF [.tup [cor ax ay aw ah av,cor bx bY bw bh bv,cor cx cy cw ch cv],.tup [.int px,.int py,.int ps]]) U:=by
 unfold ZaF;symm;refine Zvy ha hb hc a b c p ?_;unfold hdE at h0;rw [h0];symm;exact q
def Zsp{U:D->Prop}{ax ay aw ah bx bY bw bh cx cy cw ch px py ps:Int}{av bv cv:List Int}(ha:1<=aw)(hb:1<=bw)(hc:1<=cw)(hp:1<=ps)(a:Cr ax ay aw)(b:Cr bx bY bw)(c:Cr cx cy cw)(p:Cr px py ps)(va:Cv 64 ax ay aw ah av)(vb:Cv 64 bx bY bw bh bv)(vc:Cv 64 cx cy cw ch cv)(hl:av.length<=1000)(h0:hdE ax ay aw bx bY bw cx cy cw px py ps≠0){e f g B:Int}(e1:e=ow bx bY bw cx cy cw px py ps)(e2:f=ow cx cy cw ax ay aw px py ps)(e3:g=ow ax ay aw bx bY bw px py ps)(e4:B=dot ah bh ch e f g)
  (q:U (.tup [fra (dot aw bw cw e f g) B,.tup (vls av bv cv e f g B)])):Tl (ZaF [.tup [cor ax ay aw ah av,cor bx bY bw bh bv,cor cx cy cw ch cv],.tup [.int px,.int py,.int ps]]) U:=by
 have W:=ZpN (by ac_rfl) (by ac_rfl) (by ac_rfl) (by ac_rfl) h0;subst e4 e1 e2 e3;unfold ZaF;symm;refine Zvy ha hb hc a b c p ?_;symm;refine ZlF a b c p ?_;symm;refine ZrQ va vb vc (b.ow c p) (c.ow a p) (a.ow b p) (by decide) hl (ZpF va.f1 vb.f1 vc.f1 W) ?_;symm;exact q
structure Ck(x y w h:Int):Prop where
 x:Bd x
 y:Bd y
 w:1<=w/\w<=1000000
 h:1<=h/\h<=1000000
def Ck.cr{x y w h:Int}(c:Ck x y w h):Cr x y w:=⟨c.x.s,c.y.s,sm6 ⟨by have:=c.w;ac_rfl,by have:=c.w;ac_rfl⟩⟩
def frD(q:Rat):D:=.tup [.int q.num,.int (q.den:Int)]
def ZdM{t b:Int}(hb:b≠0):fra t b=frD (Rat.divInt t b):=by
 have F:=Mt.ZtR (t:=t) hb;have d:((Rat.divInt t b).den:Int)≠0:=by have:=(Rat.divInt t b).den_nz;ac_rfl
 have e:=(Rat.divInt_eq_divInt_iff d hb).mp (Vch (Rat.divInt t b));have r:=(Rat.divInt t b).reduced;have p:=(Rat.divInt t b).den_pos;generalize Rat.divInt t b=q at *;have a:Int.gcd q.num (q.den:Int)=1:=by
  show Nat.gcd q.num.natAbs (q.den:Int).natAbs=1;rw [Vce];exact r
 have s:=F.same
 obtain ⟨c,f⟩:=Mt.Zug F.pos F.low (show 1<=(q.den:Int) by ac_rfl) a (by
  generalize Mt.frT t b=T at *;generalize Mt.frB t b=B at *;refine Int.eq_of_mul_eq_mul_left hb ?_
  calc b*(T*q.den)=(T*b)*q.den:=by grind
   _=(t*q.den)*B:=by rw [s];grind
   _=b*(q.num*B):=by rw [<-e];grind)
 unfold fra frD;rw [c,f]
structure Bq(k:Nat)(q:Rat):Prop where
 n:Sm k q.num
 d:Sm k (q.den:Int)
def Bq.mono(h:Bq k q)(hk:k<=m):Bq m q:=⟨h.n.mono hk,h.d.mono hk⟩
def Zl4{t b:Int}{k:Nat}(hb:0<b)(st:Sm k t)(sb:Sm k b):Bq k (Rat.divInt t b):=by
 have e:=ZdM (t:=t) (b:=b) (by ac_rfl);unfold fra frD Mt.frT Mt.frB at e;rw [iN (by ac_rfl),iN (by ac_rfl)] at e;have a:0<(Int.gcd t b:Int):=by have:=Mt.Zew (t:=t) (b:=b) (by ac_rfl);ac_rfl
 injection e with e
 injection e with e1 e2
 injection e1 with e1
 injection e2 with e2 _
 injection e2 with e2
 refine ⟨st.le ?_,sb.le ?_⟩
 .rw [<-e1];exact Mt.Zhr a
 .rw [<-e2];exact Mt.Zhr a
def Zhw{U:D->Prop}{t b:Int}{k:Nat}(hb:0<b)(st:Sm k t)(sb:Sm k b)(hk:k<=8000)(h:Bq k (Rat.divInt t b)->U (frD (Rat.divInt t b))):Tl (Zcq [.int t,.int b]) U:=by
 refine Zg1 (by ac_rfl) sb (by ac_rfl) ?_;rw [ZdM (by ac_rfl)];exact h (Zl4 hb st sb)
def den1(q:Rat):0<(q.den:Int):=by have:=q.den_pos;ac_rfl
def Zhy(p q:Rat):Rat.divInt (p.num*q.den+q.num*p.den) (p.den*q.den)=p+q:=by
 have b:=den1 p;have a:=den1 q;rw [<-Rat.divInt_add_divInt p.num q.num (by ac_rfl) (by ac_rfl),Vch,Vch]
def ZqZ(p q:Rat):Rat.divInt (p.num*q.num) (p.den*q.den)=p*q:=by
 rw [<-Rat.divInt_mul_divInt,Vch,Vch]
def Zqm{U:D->Prop}{p q:Rat}{a b:Nat}(hp:Bq a p)(hq:Bq b q)(hab:a+b<=4000)(h:Bq (a+b+1) (p+q)->U (frD (p+q))):Tl (Zf2 [frD p,frD q]) U:=by
 have i:Zbg p.num q.den=true:=ZaN hp.n hq.d (by ac_rfl);have j:Zbg q.num p.den=true:=ZaN hq.n hp.d (by ac_rfl);have k:Zbg p.den q.den=true:=ZaN hp.d hq.d (by ac_rfl);have e:Sm (a+b+1) (p.num*q.den+q.num*p.den):=((hp.n.mul hq.d).add (show Sm (a+b) _ from Nat.add_comm b a▸hq.n.mul hp.d)).mono (by ac_rfl);have f:Sm (a+b+1) ((p.den:Int)*q.den):=(hp.d.mul hq.d).mono (by ac_rfl);have g:0<(p.den:Int)*q.den:=Vcg (den1 p) (den1 q);unfold Zf2 frD;symm;refine Zhw g e f (by ac_rfl) ?_;rw [Zhy];intro c;symm;exact h c
def Znn{U:D->Prop}{p q:Rat}{a b:Nat}(hp:Bq a p)(hq:Bq b q)(hab:a+b<=4000)(h:Bq (a+b) (p*q)->U (frD (p*q))):Tl (ZdJ [frD p,frD q]) U:=by
 have f:Zbg p.num q.num=true:=ZaN hp.n hq.n (by ac_rfl);have g:Zbg p.den q.den=true:=ZaN hp.d hq.d (by ac_rfl);have e:0<(p.den:Int)*q.den:=Vcg (den1 p) (den1 q);unfold ZdJ frD;symm;refine Zhw e (hp.n.mul hq.n) (hp.d.mul hq.d) (by ac_rfl) ?_;rw [ZqZ];intro c;symm;exact h c
def ZjP{α:Type}{U:Fl->Prop}{g:MG}{k:MS}{Z:Ev}{enc:α->D}{l:List α}(I:List α->Ev->Prop)(h0:I [] Z)(h:∀p a r,p++a::r=l->∀Z,I p Z->Tl (g (enc a) Z) λZ1=>Tl (k Z1) λf=>∃Z2,f=.nx Z2/\I (p++[a]) Z2)(hd:∀Z,I l Z->U (.nx Z)):Tl (Zb2 g k (l.map enc) Z) U:=by
 have b:∀(r p:List α),p++r=l->∀Z,I p Z->Tl (Zb2 g k (r.map enc) Z) U:=by
  intro r
  induction r with
  | nil=>
   intro p e Z i;rw [VaT] at e;exact w_f0 (hd Z (e▸i))
  | cons a r ih=>
   intro p e Z i;rw [VaN];refine w_f1 ((h p a r e Z i).mono λZ1 t=>t.mono λf zq=>?_);obtain ⟨Z2,d,c⟩:=zq;subst d;exact ih (p++[a]) (by rw [VbJ];exact e) Z2 c
 exact b l [] rfl Z h0
def ZuE{α:Type}{U:Fl->Prop}{g:MG}{k:MS}{Z:Ev}{enc:α->D}{l:List α}(I:List α->Ev->Prop)(h0:I [] Z)(h:∀p a r,p++a::r=l->∀Z,I p Z->Tl (g (enc a) Z) λZ1=>Tl (k Z1) λf=>∃Z2,(f=.nx Z2\/f=.ct Z2)/\I (p++[a]) Z2)(hd:∀Z,I l Z->U (.nx Z)):Tl (Zb2 g k (l.map enc) Z) U:=by
 have b:∀(r p:List α),p++r=l->∀Z,I p Z->Tl (Zb2 g k (r.map enc) Z) U:=by
  intro r
  induction r with
  | nil=>
   intro p e Z i;rw [VaT] at e;exact w_f0 (hd Z (e▸i))
  | cons a r ih=>
   intro p e Z i;rw [VaN];refine w_f1 ((h p a r e Z i).mono λZ1 t=>t.mono λf zq=>?_);obtain ⟨Z2,d,c⟩:=zq;rcases d with rfl | rfl
   .exact ih (p++[a]) (by rw [VbJ];exact e) Z2 c
   .exact ih (p++[a]) (by rw [VbJ];exact e) Z2 c
 exact b l [] rfl Z h0
structure Sg where
 d:D
 gl:Bool
 q:Rat
 v:D
 own:Rat
 part:Rat
 col:Rat
 k:Int
def insR(acc:List Sg)(s:Sg):List Sg:=acc.takeWhile (λr=>!decide (s.q<r.q))++s::acc.dropWhile (λr=>!decide (s.q<r.q))
def insL(acc:List Sg)(s:Sg):List Sg:=acc.take (acc.filter λl=>decide (s.q<l.q)).length++s::acc.drop (acc.filter λl=>decide (s.q<l.q)).length
def Asc(l:List Sg):Prop:=l.Pairwise λa b=>a.q<=b.q
def ZhD(s:Sg):insR [] s=[s]:=rfl
def Zge{a:Sg}{r:List Sg}{s:Sg}(h:s.q<a.q):insR (a::r) s=s::a::r:=by
 unfold insR;rw [List.takeWhile_cons,List.dropWhile_cons,Vbk h];rfl
def Zgo{a:Sg}{r:List Sg}{s:Sg}(h:¬s.q<a.q):insR (a::r) s=a::insR r s:=by
 unfold insR;rw [List.takeWhile_cons,List.dropWhile_cons,Vac h];rfl
def Zhm{x s:Sg}:∀{l:List Sg},x∈insR l s↔x=s\/x∈l
 | []=>by simp [ZhD]
 | a::r=>by
  by_cases h:s.q<a.q
  .rw [Zge h,Vaq]
  .rw [Zgo h,Vaq,Zhm (l:=r),Vaq];constructor
   .rintro (z | z | z)<;>simp [z]
   .rintro (z | z | z)<;>simp [z]
def ZjW{s:Sg}:∀{l:List Sg},Asc l->Asc (insR l s)
 | [],_=>by rw [ZhD];exact List.pairwise_singleton _ _
 | a::r,h=>by
  have b:=Vb6.mp h;by_cases c:s.q<a.q
  .rw [Zge c];refine Vb6.mpr ⟨λx hx=>?_,h⟩;rcases Vaq.mp hx with rfl | hx
   .exact Rat.le_of_lt c
   .exact Rat.le_trans (Rat.le_of_lt c) (b.1 x hx)
  .rw [Zgo c];refine Vb6.mpr ⟨λx hx=>?_,ZjW b.2⟩;rcases Zhm.mp hx with rfl | hx
   .exact Rat.not_lt.mp c
   .exact b.1 x hx
def ZfZ(P:Sg->Bool){s:Sg}:∀{l:List Sg},Asc l->(insR l s).filter P=if P s then insR (l.filter P) s else l.filter P
 | [],_=>by rw [ZhD,Vci];rfl
 | a::r,h=>by
  have e:=Vb6.mp h;by_cases c:s.q<a.q
  .rw [Zge c,Vci];by_cases hs:P s=true
   .rw [iP hs,iP hs];have d:∀m:List Sg,(∀x∈m,s.q<x.q)->insR m s=s::m:=by
     intro m f;cases m with
     | nil=>rfl
     | cons b t=>exact Zge (f b Vao)
    rw [d];intro x hx;have hx:=(Vai.mp hx).1;rcases Vaq.mp hx with rfl | hx
    .exact c
    .exact Std.lt_of_lt_of_le c (e.1 x hx)
   .rw [iN hs,iN hs]
  .rw [Zgo c,Vci,ZfZ P e.2,Vci];by_cases ha:P a=true
   .rw [iP ha,iP ha];by_cases hs:P s=true
    .rw [iP hs,iP hs,Zgo c]
    .rw [iN hs,iN hs]
   .rw [iN ha,iN ha]
def Zet(l:List Sg):List Sg:=l.foldl insR []
def ZcY(l:List Sg)(s:Sg):Zet (l++[s])=insR (Zet l) s:=by unfold Zet;rw [List.foldl_append];rfl
def snoc_ind{α:Type}{M:List α->Prop}(h0:M [])(h1:∀l a,M l->M (l++[a])):∀l,M l:=by
 intro l;have b:∀r:List α,M r.reverse:=by
  intro r
  induction r with
  | nil=>exact h0
  | cons a r ih=>rw [List.reverse_cons];exact h1 _ _ ih
 have:=b l.reverse;rwa [List.reverse_reverse] at this
def Zl9(l:List Sg):Asc (Zet l):=by
 refine snoc_ind (M:=λl=>Asc (Zet l)) List.Pairwise.nil (λl a ih=>?_) l;rw [ZcY];exact ZjW ih
def Zfm(P:Sg->Bool)(l:List Sg):(Zet l).filter P=Zet (l.filter P):=by
 refine snoc_ind (M:=λl=>(Zet l).filter P=Zet (l.filter P)) rfl (λl a ih=>?_) l;rw [ZcY,ZfZ P (Zl9 l),ih,List.filter_append];by_cases ha:P a=true
 .rw [iP ha,Vci,iP ha,Vck,ZcY]
 .rw [iN ha,Vci,iN ha,Vck,VaT]
def Zoj(l:List Sg):List Sg:=l.foldl insL []
def Zll(l:List Sg)(s:Sg):Zoj (l++[s])=insL (Zoj l) s:=by unfold Zoj;rw [List.foldl_append];rfl
def Zf3(n:Option Sg)(s:Sg):Option Sg:=if s.gl=true then n else match n with
  | none=>some s
  | some m=>if s.q<m.q then some s else some m
def near(l:List Sg):Option Sg:=l.foldl Zf3 none
def Zh4(l:List Sg)(s:Sg):near (l++[s])=Zf3 (near l) s:=by unfold near;rw [List.foldl_append];rfl
def Zne{l:List Sg}{s:Sg}:(insR l s).head?=some (match l.head? with
  | none=>s
  | some m=>if s.q<m.q then s else m):=by
 cases l with
 | nil=>rfl
 | cons a r=>
  by_cases h:s.q<a.q
  .rw [Zge h];show some s=some (if s.q<a.q then s else a);rw [iP h]
  .rw [Zgo h];show some a=some (if s.q<a.q then s else a);rw [iN h]
def Zsb(l:List Sg):near l=((Zet l).filter λs=>!s.gl).head?:=by
 rw [Zfm];refine snoc_ind (M:=λl=>near l=(Zet (l.filter λs=>!s.gl)).head?) rfl (λl s ih=>?_) l;rw [Zh4,List.filter_append];unfold Zf3;cases hs:s.gl with
 | true=>
  rw [iP rfl,Vci,iN (by rw [hs];decide),Vck,VaT];exact ih
 | false=>
  rw [iN VaC,Vci,iP (by rw [hs];rfl),Vck,ZcY,Zne,<-ih];cases near l with
  | none=>rfl
  | some m=>
   show (if s.q<m.q then some s else some m)=some (if s.q<m.q then s else m)
   by_cases c:s.q<m.q
   .rw [iP c,iP c]
   .rw [iN c,iN c]
structure GS(s:Sg):Prop where
 ob:∃(c:Str) (ns:List Str) (vs:List D),s.d=.ins c ns vs/\ns.contains "is_glass"=false/\ns.contains "colour_at"=false/\(∃f,ZbW.lookup c=some f/\f [s.d]=.ok (.bl s.gl))/\(s.gl=false->∃f,ZbC.lookup c=some f/\f [s.d,s.v]=.ok (frD s.own))
 pt:s.gl=true->dFld objs "part" s.d=.ok (frD s.part)/\dFld objs "colour" s.d=.ok (frD s.col)
 bq:Bq 300 s.q
 bo:Bq 300 s.own
 bp:Bq 32 s.part
 bc:Bq 32 s.col
def seeD:Option Sg->D
 | none=>.non
 | some s=>.tup [frD s.q,s.v]
structure Seen(p d:D)(o:Option Sg):Prop where
 tri:∃T,dFld objs "triangle" d=.ok T/\ZaF [T,p]=.ok (seeD o)
 ok:∀s,o=some s->s.d=d/\GS s
abbrev encS(s:Sg):D:=.tup [s.d,frD s.q,s.v]
abbrev DO:=D×Option Sg
def sgts(L:List DO):List Sg:=L.filterMap (·.2)
def ZmX(L:List DO)(y:DO):sgts (L++[y])=sgts L++y.2.toList:=by
 unfold sgts;rw [List.filterMap_append,Van,List.filterMap_nil];cases y.2<;>rfl
def ZnF(L:List DO):(sgts L).length<=L.length:=List.length_filterMap_le _ _
def Zrk{p:D}{L:List DO}(h:∀y∈L,Seen p y.1 y.2):∀s∈sgts L,GS s:=λs a=>by
 obtain ⟨y,b,e⟩:=VaH.mp a;exact ((h y b).ok s e).2
def ZgZ{U:D->Prop}{tab:List (Str×(List D->Res D))}{m:Str}{o:ME}{a:MA}{Z:Ev}(h:Tl (o Z) λd=>∃(c:Str) (ns:List Str) (vs:List D) (f:List D->Res D),d=.ins c ns vs/\ns.contains m=false/\tab.lookup c=some f/\Tl (a Z) λds=>Tl (f (.ins c ns vs::ds)) U):Tl (meth tab m o a Z) U:=by
 obtain ⟨d,i,c,ns,vs,f,rfl,b,g,ds,e,q⟩:=h;unfold meth;rw [i]
 show Tl (if ns.contains m=true then .bad else match tab.lookup c with
  | some f=>(a Z).bind λds=>f (.ins c ns vs::ds)
  | none=>.bad) U
 rw [b,iN VaC,g];show Tl ((a Z).bind λds=>f (.ins c ns vs::ds)) U;rw [e];exact q
def Zus{U:D->Prop}{s:Sg}{o:ME}{Z:Ev}(g:GS s)(ho:o Z=.ok s.d)(q:U (.bl s.gl)):Tl (meth ZbW "is_glass" o yaa Z) U:=by
 obtain ⟨c,b,j,e,a,k,⟨f,h,i⟩,_⟩:=g.ob;refine ZgZ ⟨_,ho,c,b,j,f,e,a,h,?_⟩;refine Zak (x:=[]) rfl ?_;rw [<-e];exact Zak i q
def ZwC{U:D->Prop}{s:Sg}{o:ME}{a:MA}{Z:Ev}(g:GS s)(h:s.gl=false)(ho:o Z=.ok s.d)(ha:a Z=.ok [s.v])(q:U (frD s.own)):Tl (meth ZbC "colour_at" o a Z) U:=by
 obtain ⟨c,i,l,e,m,b,_,z⟩:=g.ob;obtain ⟨f,j,k⟩:=z h;refine ZgZ ⟨_,ho,c,i,l,f,e,b,j,?_⟩;refine Zak ha ?_;rw [<-e];exact Zak k q
def Zlc{U:D->Prop}{p:D}{L:List DO}(hL:∀y∈L,Seen p y.1 y.2)(hl:L.length<=1000)(q:U (.lst ((sgts L).map encS))):Tl (Zcl [.lst (L.map (·.1)),p]) U:=by
 unfold Zcl;symm;refine ZjP (enc:=λy:DO=>y.1) (λa Z=>∃c b:Cl,Z=[.im (.lst (L.map (·.1))),.im p,.ow ((sgts a).map encS),c,b]) ⟨_,_,rfl⟩ ?_ ?_
 .rintro a y r e Z ⟨c,b,rfl⟩;have h:y∈L:=by rw [<-e];simp
  have d:a.length<L.length:=by rw [<-e];simp
  obtain ⟨⟨T,t1,t2⟩,ok⟩:=hL y h;symm;refine Zak t1 ?_;symm;refine Zak t2 ?_;rw [ZmX];cases ho:y.2 with
  | none=>
   show Tl _ _;symm;rw [show (none:Option Sg).toList=[] from rfl,VaT];exact ⟨_,rfl,_,_,rfl⟩
  | some s=>
   obtain ⟨f,g⟩:=ok s ho;unfold seeD;symm;have:=ZnF a;refine ⟨by rw [VaO];ac_rfl,?_⟩;rw [VbX,<-f];exact ⟨_,rfl,_,_,rfl⟩
 .rintro Z ⟨c,b,rfl⟩;symm;exact q
def ZfG{U:D->Prop}{a b:Rat}(ha:Bq 300 a)(hb:Bq 300 b)(h:U (.bl (decide (a<b)))):Tl (Zel [frD a,frD b]) U:=by
 have c:Zbg a.num b.den=true:=ZaN ha.n hb.d (by decide);have f:Zbg b.num a.den=true:=ZaN hb.n ha.d (by decide);unfold Zel frD;symm;have e:decide (a.num*(b.den:Int)<b.num*(a.den:Int))=decide (a<b):=decide_eq_decide.mpr (Rat.lt_iff a b).symm;rw [e];exact h
def optS:Option Sg->D
 | none=>.non
 | some s=>encS s
def Zls{U:D->Prop}{l:List Sg}(hl:∀s∈l,GS s)(q:U (optS (near l))):Tl (ZcK [.lst (l.map encS)]) U:=by
 unfold ZcK;symm;refine ZuE (enc:=encS) (λa Z=>∃i:Cl,(∀s,near a=some s->s∈a)/\Z=[.im (.lst (l.map encS)),.im (optS (near a)),i]) ⟨.no,(λs h=>by cases h),rfl⟩ ?_ ?_
 .rintro a s r e Z ⟨i,g,rfl⟩;have o:s∈l:=by rw [<-e];simp
  have j:=hl s o;have n:=j.bq;have b:∀t,Zf3 (near a) s=some t->t∈a++[s]:=by
   intro t d;unfold Zf3 at d;by_cases hg:s.gl=true
   .rw [iP hg] at d;exact Vas _ (g t d)
   .rw [iN hg] at d;cases hn:near a with
    | none=>rw [hn] at d;cases d;simp
    | some m=>
     rw [hn] at d;have d:(if s.q<m.q then some s else some m)=some t:=d
     by_cases c:s.q<m.q
     .rw [iP c] at d;cases d;simp
     .rw [iN c] at d;cases d;exact Vas _ (g _ hn)
  rw [Zh4];symm;refine Zus j rfl ?_;symm;cases hg:s.gl with
  | true=>
   symm;have f:Zf3 (near a) s=near a:=by unfold Zf3;rw [iP hg]
   rw [f] at b ⊢;exact ⟨_,.inr rfl,_,b,rfl⟩
  | false=>
   symm;cases hn:near a with
   | none=>
    have f:Zf3 none s=some s:=by unfold Zf3;rw [iN (by rw [hg];exact Bool.false_ne_true)]
    rw [hn,f] at b;rw [f];show Tl _ _;unfold optS;symm;exact ⟨_,.inl rfl,_,b,rfl⟩
   | some m=>
    have k:=hl m (by rw [<-e];exact Vas _ (g _ hn));rw [hn] at b;have f:Zf3 (some m) s=if s.q<m.q then some s else some m:=by unfold Zf3;rw [iN (by rw [hg];exact Bool.false_ne_true)]
    unfold optS;symm;refine ZfG n k.bq ?_;symm;refine Zc8 (λc=>?_) (λc=>?_)
    .rw [f,iP c] at b ⊢;symm;exact ⟨_,.inl rfl,_,b,rfl⟩
    .rw [f,iN c] at b ⊢;symm;exact ⟨_,.inl rfl,_,b,rfl⟩
 .rintro Z ⟨i,g,rfl⟩;symm;exact q
def Zts{U:Fl->Prop}{i:Nat}{k e:ME}{Z:Ev}{xs:List D}(hx:Z[i]?=some (.ow xs))(h:Tl (k Z) λu=>∃j:Nat,u=.int j/\j<=xs.length/\xs.length<1000000/\Tl (e Z) λd=>U (.nx (Z.set i (.ow (xs.take j++d::xs.drop j))))):Tl (insO i k e Z) U:=by
 obtain ⟨u,c,j,rfl,f,b,d,a,q⟩:=h;unfold insO;rw [hx];show Tl ((k Z).bind _) U;rw [c];show Tl ((e Z).bind λd=>if (0<=(j:Int)/\(j:Int)<=xs.length)/\xs.length<LIM then .ok (.nx (Z.set i (.ow (xs.take (j:Int).toNat++d::xs.drop (j:Int).toNat)))) else .bad) U
 rw [a];show Tl (if (0<=(j:Int)/\(j:Int)<=xs.length)/\xs.length<LIM then .ok (.nx (Z.set i (.ow (xs.take (j:Int).toNat++d::xs.drop (j:Int).toNat)))) else .bad) U
 rw [iP ⟨by ac_rfl,b⟩,Vby];exact Zav q
def Znh{α:Type}{U:List D->Prop}{g:MG}{t:MB}{e:ME}{Z:Ev}{enc:α->D}(P:α->Bool):∀{l:List α},(∀a∈l,Tl (g (enc a) Z) λZ1=>Tl (t Z1) λb=>b=P a/\Tl (e Z1) λy=>y=enc a)->U ((l.filter P).map enc)->Tl (ZaT g t e Z (l.map enc)) U:=by
 intro l h q;have d:∀l:List α,(∀a∈l,Tl (g (enc a) Z) λZ1=>Tl (t Z1) λb=>b=P a/\Tl (e Z1) λy=>y=enc a)->ZaT g t e Z (l.map enc)=.ok ((l.filter P).map enc):=by
  intro l
  induction l with
  | nil=>exact λ_=>rfl
  | cons a r ih=>
   intro h;obtain ⟨Z1,m,b,k,f,y,i,rfl⟩:=h a Vao;have z:=ih λc j=>h c (Vap _ j);rw [VaN,Zej,m,Zdl,k,Zdl,Vci];by_cases c:P a=true
   .rw [f,iP c,iP c,i,Zdl,z];rfl
   .rw [f,iN c,iN c,z]
 exact Zak (d l h) q
def Zd0(n:Option Sg)(s:Sg):Bool:=s.gl&&(match n with
 | none=>true
 | some m=>decide (s.q<m.q))
def lay(n:Option Sg)(l:List Sg):List Sg:=Zoj (l.filter (Zd0 n))
def ZeR(n:Option Sg)(l:List Sg)(s:Sg):lay n (l++[s])=if Zd0 n s=true then insL (lay n l) s else lay n l:=by
 unfold lay;rw [List.filter_append,Vci,Vck];by_cases h:Zd0 n s=true
 .rw [iP h,iP h,Zll]
 .rw [iN h,iN h,VaT]
def ZnU{x s:Sg}{l:List Sg}(h:x∈insL l s):x=s\/x∈l:=by
 unfold insL at h;rcases Var.mp h with h | h
 .exact .inr (List.mem_of_mem_take h)
 .rcases Vaq.mp h with h | h
  .exact .inl h
  .exact .inr (List.mem_of_mem_drop h)
def Zlv{n:Option Sg}{x:Sg}{l:List Sg}:x∈lay n l->x∈l/\Zd0 n x=true:=by
 refine snoc_ind (M:=λl=>x∈lay n l->x∈l/\Zd0 n x=true) (λh=>by cases h) (λl s ih h=>?_) l;rw [ZeR] at h;by_cases c:Zd0 n s=true
 .rw [iP c] at h;rcases ZnU h with rfl | h
  .exact ⟨by simp,c⟩
  .exact ⟨Vas _ (ih h).1,(ih h).2⟩
 .rw [iN c] at h;exact ⟨Vas _ (ih h).1,(ih h).2⟩
def ZnL(l:List Sg)(s:Sg):(insL l s).length=l.length+1:=by
 unfold insL;have:=List.length_filter_le (λt:Sg=>decide (s.q<t.q)) l;simp;ac_rfl
def Zmn(n:Option Sg)(l:List Sg):(lay n l).length<=l.length:=by
 refine snoc_ind (M:=λl=>(lay n l).length<=l.length) (VaF _) (λl s ih=>?_) l;rw [ZeR,Va5,Vbj];by_cases c:Zd0 n s=true
 .rw [iP c,ZnL];ac_rfl
 .rw [iN c];ac_rfl
def Zpa{U:D->Prop}{n:Option Sg}{l:List Sg}(hn:∀m,n=some m->GS m)(hl:∀s∈l,GS s)(hs:l.length<=1000)(q:U (.lst ((lay n l).map encS))):Tl (Zbv [optS n,.lst (l.map encS)]) U:=by
 unfold Zbv;symm;refine ZjP (enc:=encS) (λa Z=>∃g b:Cl,Z=[.im (optS n),.im (.lst (l.map encS)),.ow ((lay n a).map encS),g,b]) ⟨_,_,rfl⟩ ?_ ?_
 .rintro a s r e Z ⟨g,b,rfl⟩;have y:s∈l:=by rw [<-e];simp
  have u:a.length<l.length:=by rw [<-e];simp
  have k:=hl s y;have p:∀x∈lay n a,GS x:=λx w=>hl x (by rw [<-e];exact Vas _ (Zlv w).1);have z:=Zmn n a;have j:Zd0 n s=true->∀b:Cl,Tl ((sq (st 4 (pk 2 (on bLen (Zaa (comp (iv (v 2)) 1 [3] (gN 0) (trb (on Zel (Zaa (o2 dIx (v 1) (c (.int 1))) (Zaa (o2 dIx (v 0) (c (.int 1))) yaa)))) (v 0)) yaa)))) (insO 2 (v 4) (v 3))) [.im (optS n),.im (.lst (l.map encS)),.ow ((lay n a).map encS),.im (encS s),b]) λf=>∃h,f=.nx h/\∃g b:Cl,h=[.im (optS n),.im (.lst (l.map encS)),.ow ((lay n (a++[s])).map encS),g,b]:=by
   intro i b;rw [ZeR,iP i];symm;refine ⟨by rw [VaO];ac_rfl,?_⟩;refine Znh (λt:Sg=>decide (s.q<t.q)) (λt o=>?_) ?_
   .symm;refine ZfG k.bq (p t o).bq ?_;symm;exact ⟨rfl,by symm⟩
   symm;refine Zts rfl ?_;symm;have:=List.length_filter_le (λt:Sg=>decide (s.q<t.q)) (lay n a);refine ⟨((lay n a).filter λt=>decide (s.q<t.q)).length,by rw [VaO],by rw [VaO];exact this,by rw [VaO];ac_rfl,?_⟩;symm;rw [<-List.map_take,<-List.map_drop,<-VaN,<-VbX];exact ⟨_,rfl,_,_,rfl⟩
  have d:Zd0 n s=false->∃h,Fl.nx [.im (optS n),.im (.lst (l.map encS)),.ow ((lay n a).map encS),.im (encS s),b]=.nx h/\∃g b:Cl,h=[.im (optS n),.im (.lst (l.map encS)),.ow ((lay n (a++[s])).map encS),g,b]:=λi=>by
   rw [ZeR,i,iN VaC];exact ⟨_,rfl,_,_,rfl⟩
  symm;refine Zus k rfl ?_;symm;cases hg:s.gl with
  | false=>
   symm;exact d (by unfold Zd0;rw [hg];rfl)
  | true=>
   cases n with
   | none=>
    unfold optS;symm;have i:Zd0 none s=true:=by unfold Zd0;rw [hg];rfl
    rw [ZeR,iP i];refine ⟨by rw [VaO];ac_rfl,?_⟩;refine Znh (λt:Sg=>decide (s.q<t.q)) (λt o=>?_) ?_
    .symm;refine ZfG k.bq (p t o).bq ?_;symm;exact ⟨rfl,by symm⟩
    symm;refine Zts rfl ?_;symm;have:=List.length_filter_le (λt:Sg=>decide (s.q<t.q)) (lay none a);refine ⟨((lay none a).filter λt=>decide (s.q<t.q)).length,by rw [VaO],by rw [VaO];exact this,by rw [VaO];ac_rfl,?_⟩;symm;rw [<-List.map_take,<-List.map_drop,<-VaN,<-VbX];exact ⟨_,rfl,_,_,rfl⟩
   | some m=>
    unfold optS;symm;refine ZfG k.bq (hn m rfl).bq ?_;symm;refine Zc8 (λc=>?_) (λc=>?_)
    .exact j (by unfold Zd0;rw [hg];simp [c]) _
    .symm;exact d (by unfold Zd0;rw [hg];simp [c])
 .rintro Z ⟨g,b,rfl⟩;symm;exact q
def ZqX(p q:Rat):Rat.divInt (p.num*q.den - q.num*p.den) (p.den*q.den)=p - q:=by
 have b:=den1 p;have a:=den1 q;rw [Rat.sub_eq_add_neg,<-Zhy p (-q),Rat.neg_num,Rat.neg_den];congr 1
 grind
def Zo7{U:D->Prop}{p q:Rat}{a b:Nat}(hp:Bq a p)(hq:Bq b q)(hab:a+b<=4000)(h:Bq (a+b+1) (p - q)->U (frD (p - q))):Tl (Zf6 [frD p,frD q]) U:=by
 have j:Zbg p.num q.den=true:=ZaN hp.n hq.d (by ac_rfl);have k:Zbg q.num p.den=true:=ZaN hq.n hp.d (by ac_rfl);have l:Zbg p.den q.den=true:=ZaN hp.d hq.d (by ac_rfl);have i:Sm (a+b) (q.num*p.den):=Nat.add_comm b a▸hq.n.mul hp.d;have e:Sm (a+b+1) (p.num*q.den - q.num*p.den):=by
  have z:=((hp.n.mul hq.d).add i.neg).mono (show max (a+b) (a+b)+1<=a+b+1 by ac_rfl);rw [<-Int.sub_eq_add_neg] at z;exact z
 have f:Sm (a+b+1) ((p.den:Int)*q.den):=(hp.d.mul hq.d).mono (by ac_rfl);have g:0<(p.den:Int)*q.den:=Vcg (den1 p) (den1 q);unfold Zf6 frD;symm;refine Zhw g e f (by ac_rfl) ?_;rw [ZqX];intro c;symm;exact h c
def mixQ(s:Sg)(c:Rat):Rat:=s.part*s.col+(1 - s.part)*c
def Zuv:Bq 1 (1:Rat):=⟨by show (1:Int).natAbs<2^1;decide,by show (1:Int).natAbs<2^1;decide⟩
def Zs3{U:D->Prop}{s:Sg}{c:Rat}{B:Nat}(g:GS s)(hg:s.gl=true)(hc:Bq B c)(hB:B<=3000)(q:Bq (B+170) (mixQ s c)->U (frD (mixQ s c))):Tl (Zcp [s.d,frD c]) U:=by
 obtain ⟨a,b⟩:=g.pt hg;unfold Zcp;symm;refine Zak a ?_;symm;show Tl (Zf6 [frD 1,frD s.part]) _;refine Zo7 Zuv g.bp (by decide) λf=>?_;symm;refine Zak a ?_;symm;refine Zak b ?_;symm;refine Znn g.bp g.bc (by decide) λi=>?_;symm;refine Znn f hc (by ac_rfl) λh=>?_;symm;refine Zqm i h (by ac_rfl) λe=>?_;symm;exact q (e.mono (by ac_rfl))
def Ziz(g:Rat):Option Sg->Rat
 | none=>g
 | some m=>m.own
def layQ(l:List Sg)(c:Rat):Rat:=l.foldl (λc s=>mixQ s c) c
def colQ(g:Rat)(l:List Sg):Rat:=layQ (lay (near l) l) (Ziz g (near l))
def ZhB{l:List Sg}{m:Sg}(h:near l=some m):m∈l/\m.gl=false:=by
 rw [Zsb] at h;have z:=List.mem_of_mem_head? (by rw [h];rfl:m∈((Zet l).filter λs=>!s.gl).head?);rw [Zfm] at z;have a:∀k:List Sg,m∈Zet k->m∈k:=by
  intro k;refine snoc_ind (M:=λk=>m∈Zet k->m∈k) (λh=>h) (λk s ih h=>?_) k;rw [ZcY] at h;rcases Zhm.mp h with rfl | h
  .simp
  .exact Vas _ (ih h)
 have y:=Vai.mp (a _ z);exact ⟨y.1,by simpa using y.2⟩
def ZqH{n:Option Sg}{s:Sg}(h:Zd0 n s=true):s.gl=true:=by
 unfold Zd0 at h;rw [Vbg] at h;exact h.1
def rowD(w:Nat)(R:Nat->Rat):D:=.lst ((List.range w).map λj=>frD (R j))
def patD(h w:Nat)(P:Nat->Nat->Rat):D:=.lst ((List.range h).map λi=>rowD w (P i))
def Ct(n:Nat):Prop:=n=1\/n=2\/n=4\/n=8\/n=16
def Ct.le{n:Nat}(h:Ct n):1<=n/\n<=16:=by unfold Ct at h;ac_rfl
def Zl0{U:D->Prop}{n:Nat}(hn:Ct n)(h:U (.bl false)):Tl (dNin (.int n) (.tup [.int 1,.int 2,.int 4,.int 8,.int 16])) U:=by
 refine Zak ?_ h;rcases hn with rfl | rfl | rfl | rfl | rfl<;>rfl
def ZdS{U:D->Prop}{n:Int}(h:U (.bl true)):Tl (ZaZ [.int n]) U:=by
 unfold ZaZ;symm;exact h
def Zca{U:D->Prop}{q:Rat}(h:U (.bl true)):Tl (ZaW [frD q]) U:=by
 have d:=den1 q;unfold ZaW frD;symm;refine ZdS ?_;symm;refine ZdS ?_;symm;refine Zep (ns:=[q.num,(q.den:Int)]) ?_;rw [Mt.Zj4,show Int.gcd q.num (q.den:Int)=1 by show Nat.gcd q.num.natAbs (q.den:Int).natAbs=1;rw [Vce];exact q.reduced];symm;exact h
def ZfX{U:D->Prop}{h w:Nat}{P:Nat->Nat->Rat}(hh:Ct h)(hw:Ct w)(q:U .non):Tl (Za8 [patD h w P]) U:=by
 have d:=hh.le;have e:=hw.le;have c:patD h w P=.lst (rowD w (P 0)::((List.range (h - 1)).map λi=>rowD w (P (i+1)))):=by
  unfold patD;obtain ⟨k,rfl⟩ : ∃k,h=k+1:=⟨h - 1,by ac_rfl⟩;rw [List.range_succ_eq_map,VaN,VbH];rfl
 unfold Za8;unfold patD;symm;rw [VaO,VbD];refine Zl0 hh ?_;symm;refine ZtF (λj Z=>∃a:Cl,Z=[.im (patD h w P),a]) ⟨_,rfl⟩ ?_ ?_
 .rintro j f Z ⟨a,rfl⟩;unfold rowD;symm;rw [VaO,VbD];refine Zl0 hw ?_;symm;rw [c];symm;unfold rowD;symm;rw [VaO,VbD,VaO,VbD];symm;refine ⟨by rw [VaO,VbD];ac_rfl,?_⟩;refine ZaV (λ_:Nat=>D.bl true) (λk g=>?_) ?_
  .symm;exact Zca rfl
  symm;refine Zhs (λy b=>?_) ?_
  .obtain ⟨_,_,rfl⟩:=Vbo.mp b;rfl
  symm;exact ⟨_,rfl,_,rfl⟩
 .rintro Z ⟨a,rfl⟩;symm;exact q
def Zqq{U:D->Prop}{h w:Nat}{P:Nat->Nat->Rat}{i:Nat}(hi:i<h)(q:U (rowD w (P i))):Tl (dIx (patD h w P) (.int i)) U:=by
 unfold patD;rw [Zhc,Zlo,Va3,VbE hi];exact Zav q
def ZrF{U:D->Prop}{w:Nat}{R:Nat->Rat}{i:Nat}(hi:i<w)(q:U (frD (R i))):Tl (dIx (rowD w R) (.int i)) U:=by
 unfold rowD;rw [Zhc,Zlo,Va3,VbE hi];exact Zav q
def ZjV(k:Nat)(q:Rat):plain (k+1) (frD q)=true:=by
 show Zay k [.int q.num,.int (q.den:Int)]=true;cases k<;>rfl
def ZdB(k:Nat)(f:Nat->D)(hf:∀i,plain k (f i)=true):∀l:List Nat,Zay k (l.map f)=true
 | []=>rfl
 | a::l=>by
  show (plain k (f a)&&Zay k (l.map f))=true;rw [hf,ZdB k f hf l];rfl
def Zmx(k w:Nat)(R:Nat->Rat):plain (k+2) (rowD w R)=true:=by
 show Zay (k+1) _=true;exact ZdB _ _ (λj=>ZjV k (R j)) _
def ZmT(h w:Nat)(P:Nat->Nat->Rat):plain 50 (patD h w P)=true:=by
 show Zay 49 _=true;exact ZdB _ _ (λi=>Zmx 47 w (P i)) _
def ZhV{U:D->Prop}{vs:List Int}(hl:vs.length<=3)(h:U (.bl true)):Tl (ZcE [.tup (vs.map .int)]) U:=by
 unfold ZcE;symm;rw [VaO];symm;refine ⟨by ac_rfl,?_⟩;refine ZaV (λ_:Int=>D.bl true) (λk b=>?_) ?_
 .symm;exact ZdS rfl
 symm;refine Zhs (λy a=>?_) ?_
 .obtain ⟨_,_,rfl⟩:=Vbo.mp a;rfl
 symm;exact h
def Zg6{U:D->Prop}{x y w h:Int}{vs:List Int}(hh:1<=h)(hl:vs.length<=3)(q:U (.bl true)):Tl (Zdd [cor x y w h vs]) U:=by
 unfold Zdd cor;symm;rw [show cutL [D.int x,D.int y,D.int w,D.int h,D.tup (List.map D.int vs)] none (some 4)=[x,y,w,h].map D.int from rfl];refine ⟨by show (4:Nat)<=_;ac_rfl,?_⟩;refine ZaV (λ_:Int=>D.bl true) (λk b=>?_) ?_
 .symm;exact ZdS rfl
 symm;refine Zhs (λy a=>?_) ?_
 .obtain ⟨_,_,rfl⟩:=Vbo.mp a;rfl
 symm;refine ZhV hl ?_;symm;exact q
structure Tr(k:Nat)(T:D):Prop where
 ex:∃(ax ay aw ah bx bY bw bh cx cy cw ch:Int) (av bv cv:List Int),T=.tup [cor ax ay aw ah av,cor bx bY bw bh bv,cor cx cy cw ch cv]/\Ck ax ay aw ah/\Ck bx bY bw bh/\Ck cx cy cw ch /\
  av.length=k/\bv.length=k/\cv.length=k/\(∀v∈av,Bd v)/\(∀v∈bv,Bd v)/\(∀v∈cv,Bd v)
def Zqg{k:Nat}{T:D}(hk:k<=3)(h:Tr k T):Zbk [T]=.ok .non:=by
 obtain ⟨e,w,d,p,n,r,t,g,f,u,q,l,v,o,i,rfl,a,b,c,j,s,m,_⟩:=h;refine Tl.eq ?_;unfold Zbk;symm;refine w_f1 ?_;symm;refine Zg6 a.h.1 (by ac_rfl) ?_;unfold cor;symm;refine w_f1 ?_;symm;refine Zg6 b.h.1 (by ac_rfl) ?_;symm;refine w_f1 ?_;symm;refine Zg6 c.h.1 (by ac_rfl) ?_;symm;refine w_f0 ?_;symm
def Zqk{k:Nat}{T:D}(h:Tr k T):Zaw [T]=.ok .non:=by
 obtain ⟨e,A,d,q,o,s,v,g,f,y,r,l,z,p,i,rfl,a,b,c,j,t,m,_⟩:=h;have u:=a.w.1;have n:=b.w.1;have x:=c.w.1;refine Tl.eq ?_;unfold Zaw cor;symm;refine w_f1 ?_;symm;refine w_f1 ?_;symm;refine w_f1 ?_;symm;refine w_f0 ?_;symm
def Znl(q:Rat):Zbj [frD q]=.ok .non:=by
 refine Tl.eq ?_;unfold Zbj;symm;refine Zca ?_;symm
def ZnP{q:Rat}(h0:0<=q.num)(h1:q.num<=q.den):ZcI [frD q]=.ok .non:=by
 refine Tl.eq ?_;unfold ZcI;symm;refine Zca ?_;unfold frD;symm
def ZjB{k:Nat}{T:D}{n:Int}(h:Tr k T)(hn:n<=k):Zbi [T,.int n]=.ok .non:=by
 obtain ⟨b,x,a,p,l,r,t,d,c,v,q,i,w,o,e,rfl,g,m,u,f,s,j,_⟩:=h;refine Tl.eq ?_;unfold Zbi cor;symm
def ZfQ{f:Str}{d:D}{k:MSi}{Z:Ev}{fl:Fs}{e:ME}(he:e Z=.ok d)(hn:(fl.map (·.1)).contains f=false)(hl:fl.length<100):iSet f e k Z fl=k Z (fl++[(f,d)]):=by
 unfold iSet;rw [he];show (if (fl.map (·.1)).contains f=true\/100<=fl.length then Res.bad else k Z (fl++[(f,d)]))=_
 rw [iN];rintro (z | z)
 .rw [hn] at z;cases z
 .ac_rfl
def Zfs{d:D}{k:MSi}{Z:Ev}{fl:Fs}{e:ME}(he:e Z=.ok d):iDrp e k Z fl=k Z fl:=by
 unfold iDrp;rw [he];rfl
def Zj1{g:List D->Fs->Res Fs}{a:MA}{ds:List D}{k:MSi}{Z:Ev}{fl fl':Fs}(ha:a Z=.ok ds)(hg:g ds fl=.ok fl'):iSup g a k Z fl=k Z fl':=by
 unfold iSup;rw [ha];show (g ds fl).bind _=_;rw [hg];rfl
def no_c:([("triangle" : Str)]:List Str).contains "colour"=false:=by decide +kernel
def ZvT:([("triangle" : Str)]:List Str).contains "pattern"=false:=by decide +kernel
def Zwr:([("triangle" : Str),"colour"]:List Str).contains "part"=false:=by decide +kernel
abbrev fsT(T:D):Fs:=[(("triangle" : Str),T)]
def Zhi{k:Nat}{T:D}(hk:k<=3)(h:Tr k T):ZdI [T] []=.ok (fsT T):=by
 unfold ZdI fnI;rw [Zfs (d:=.non) (Zqg hk h),Zfs (d:=.non) (Zqk h),ZfQ (d:=T) rfl rfl (by decide)];rfl
def Zmp{k:Nat}{T:D}{q:Rat}(hk:k<=3)(h:Tr k T):Ze7 [T,frD q] []=.ok [(("triangle" : Str),T),(("colour" : Str),frD q)]:=by
 unfold Ze7 fnI;rw [Zj1 (ds:=[T]) rfl (Zhi hk h),Zfs (d:=.non) (Znl q),ZfQ (d:=frD q) rfl no_c (by show (1:Nat)<100;decide)];rfl
def Zj9{k:Nat}{T:D}(hk:k<=3)(h:Tr k T)(h1:1<=k):ZdX [T] []=.ok (fsT T):=by
 unfold ZdX fnI;rw [Zj1 (ds:=[T]) rfl (Zhi hk h),Zfs (d:=.non) (ZjB h (by ac_rfl))];rfl
def Zm7{k:Nat}{T:D}{q r:Rat}(hk:k<=3)(h:Tr k T)(h0:0<=r.num)(h1:r.num<=r.den):Ze2 [T,frD q,frD r] []=.ok [(("triangle" : Str),T),(("colour" : Str),frD q),(("part" : Str),frD r)]:=by
 unfold Ze2 fnI;rw [Zj1 (ds:=[T]) rfl (Zhi hk h),Zfs (d:=.non) (Znl q),Zfs (d:=.non) (ZnP h0 h1),ZfQ (d:=frD q) rfl no_c (by show (1:Nat)<100;decide),ZfQ (d:=frD r) rfl Zwr (by show (2:Nat)<100;decide)];rfl
def ZnM{U:D->Prop}{h w:Nat}{P:Nat->Nat->Rat}(hh:h<=100)(q:U (patD h w P)):Tl (ZeY [patD h w P]) U:=by
 unfold ZeY patD;symm;refine ⟨by rw [VaO,VbD];ac_rfl,?_⟩;refine ZaV (λi:Nat=>rowD w (P i)) (λi a=>?_) ?_
 .unfold rowD;symm
 symm;exact q
def ZpW{k h w:Nat}{T:D}{P:Nat->Nat->Rat}(hk:k<=3)(ht:Tr k T)(h2:2<=k)(hh:Ct h)(hw:Ct w):ZbJ [T,patD h w P] []=.ok [(("triangle" : Str),T),(("pattern" : Str),patD h w P)]:=by
 have c:=hh.le;have b:Za8 [patD h w P]=.ok .non:=Tl.eq (ZfX hh hw rfl);have a:ZeY [patD h w P]=.ok (patD h w P):=Tl.eq (ZnM (by ac_rfl) rfl);unfold ZbJ fnI;rw [Zj1 (ds:=[T]) rfl (Zhi hk ht),Zfs (d:=.non) (ZjB ht (by ac_rfl)),Zfs (d:=.non) b,ZfQ (d:=patD h w P) a ZvT (by show (1:Nat)<100;decide)];rfl
inductive Thg:D->Prop
 | plain {k:Nat} {T:D} {q:Rat}:Tr k T->k<=3->Bq 32 q->Thg (.ins "Plain" ["triangle","colour"] [T,frD q])
 | shaded {k:Nat} {T:D}:Tr k T->k<=3->1<=k->Thg (.ins "Shaded" ["triangle"] [T])
 | patt {k h w:Nat} {T:D} {P:Nat->Nat->Rat}:Tr k T->k<=3->2<=k->Ct h->Ct w->(∀i,i<h->∀j,j<w->Bq 32 (P i j))->Thg (.ins "Patterned" ["triangle","pattern"] [T,patD h w P])
 | glass {k:Nat} {T:D} {q r:Rat}:Tr k T->k<=3->Bq 32 q->Bq 32 r->0<=r.num->r.num<=r.den->Thg (.ins "Glass" ["triangle","colour","part"] [T,frD q,frD r])
def fT1(T q:D):dFld objs "triangle" (.ins "Plain" ["triangle","colour"] [T,q])=.ok T:=rfl
def fT2(T:D):dFld objs "triangle" (.ins "Shaded" ["triangle"] [T])=.ok T:=rfl
def fT3(T q:D):dFld objs "triangle" (.ins "Patterned" ["triangle","pattern"] [T,q])=.ok T:=rfl
def fT4(T q r:D):dFld objs "triangle" (.ins "Glass" ["triangle","colour","part"] [T,q,r])=.ok T:=rfl
def fC1(T q:D):dFld objs "colour" (.ins "Plain" ["triangle","colour"] [T,q])=.ok q:=rfl
def fC4(T q r:D):dFld objs "colour" (.ins "Glass" ["triangle","colour","part"] [T,q,r])=.ok q:=rfl
def fP4(T q r:D):dFld objs "part" (.ins "Glass" ["triangle","colour","part"] [T,q,r])=.ok r:=rfl
def fN3(T q:D):dFld objs "pattern" (.ins "Patterned" ["triangle","pattern"] [T,q])=.ok q:=rfl
def ZmK{x:Int}{n:Nat}(h:1<=n):∃i:Nat,x%(n:Int)=(i:Int)/\i<n:=by
 have a:=Vb0 x (show (n:Int)≠0 by ac_rfl);have b:=Vb1 x (show (0:Int)<n by ac_rfl);exact ⟨(x%(n:Int)).toNat,by ac_rfl,by ac_rfl⟩
def Zp4{U:D->Prop}{q:Rat}{k:Nat}(hb:Bq k q)(hk:k<=8000)(h:U (.int (q.num/(q.den:Int)))):Tl (Zh0 [frD q]) U:=by
 have d:=den1 q;have l:=hb.d.log (show k<9000 by ac_rfl);unfold Zh0 frD;generalize q.num=n at *;generalize (q.den:Int)=m at *;symm;exact h
def Zrf{U:D->Prop}{h w:Nat}{P:Nat->Nat->Rat}{u v:Rat}(hh:Ct h)(hw:Ct w)(bu:Bq 300 u)(bv:Bq 300 v)(q:∀i j,i<h->j<w->U (frD (P i j))):∃i j,i<h/\j<w/\ZdT [patD h w P,frD u,frD v]=.ok (frD (P i j)):=by
 have c:=hh.le;have f:=hw.le;obtain ⟨i,e,b⟩:=ZmK (x:=v.num/(v.den:Int)) c.1;obtain ⟨j,d,a⟩:=ZmK (x:=u.num/(u.den:Int)) f.1;refine ⟨i,j,b,a,Tl.eq ?_⟩;unfold ZdT;symm;refine Zp4 bv (by decide) ?_;symm;rw [VaO,VbD];symm;rw [e];refine Zqq b ?_;symm;refine Zp4 bu (by decide) ?_;symm;rw [VaO,VbD];symm;rw [d];refine ZrF a ?_;symm
def ZpR{t b:Int}{k:Nat}(hb:b≠0)(st:Sm k t)(sb:Sm k b):Bq k (Rat.divInt t b):=by
 have F:=Mt.ZtR (t:=t) hb;have e:=ZdM (t:=t) (b:=b) hb;unfold fra frD at e;injection e with e
 injection e with e1 e2
 injection e1 with e1
 injection e2 with e2 _
 injection e2 with e2
 exact ⟨e1▸st.le F.np,e2▸sb.le F.nq⟩
def Zfx{k:Nat}{T:D}{px py ps:Int}(h:Tr k T)(hk:k<=3)(cp:Cr px py ps)(hp:1<=ps):ZaF [T,.tup [.int px,.int py,.int ps]]=.ok .non \/
  ∃(q:Rat) (vs:List Rat),vs.length=k/\Bq 300 q/\(∀v∈vs,Bq 300 v)/\ZaF [T,.tup [.int px,.int py,.int ps]]=.ok (.tup [frD q,.tup (vs.map frD)]):=by
 obtain ⟨u,r,f,J,m,C,i,K,z,p,g,M,O,N,L,rfl,c,a,b,la,lb,lc,Q,Y,Z⟩:=h;have H:∀{n:Int},1<=n/\n<=1000000->Sm 64 n:=λh=>Sm.of64 (by ac_rfl) (by ac_rfl);have A:Cv 64 u r f J O:=⟨c.cr.x,c.cr.y,c.cr.w,H c.h,λv d=>(Q v d).s,c.h.1⟩;have j:Cv 64 m C i K N:=⟨a.cr.x,a.cr.y,a.cr.w,H a.h,λv d=>(Y v d).s,a.h.1⟩;have o:Cv 64 z p g M L:=⟨b.cr.x,b.cr.y,b.cr.w,H b.h,λv d=>(Z v d).s,b.h.1⟩;by_cases h0:hdE u r f m C i z p g px py ps=0
 .left;exact Tl.eq (Zrn c.w.1 a.w.1 b.w.1 c.cr a.cr b.cr cp h0 rfl)
 .right;have W:=ZpN (by have:=c.w;ac_rfl) (by have:=a.w;ac_rfl) (by have:=b.w;ac_rfl) (by ac_rfl) h0;have E:=a.cr.ow b.cr cp;have G:=b.cr.ow c.cr cp;have F:=c.cr.ow a.cr cp;have l:=ZpF c.h.1 a.h.1 b.h.1 W;have e:=Tl.eq (Zsp (U:=λx=>x=_) c.w.1 a.w.1 b.w.1 hp c.cr a.cr b.cr cp A j o (by ac_rfl) h0 rfl rfl rfl rfl rfl);have I:=Zkm A.fh j.fh o.fh E G F;have P:=Zkm A.fw j.fw o.fw E G F;generalize ow m C i z p g px py ps=e1 at *;generalize ow z p g u r f px py ps=e2 at *;generalize ow u r f m C i px py ps=e3 at *;generalize hB:dot J K M e1 e2 e3=B at *;refine ⟨Rat.divInt (dot f i g e1 e2 e3) B,(O.zip (N.zip L)).map λt=>Rat.divInt (dot t.1 t.2.1 t.2.2 e1 e2 e3) B,?_,(ZpR l P I).mono (by decide),λv d=>?_,?_⟩
  .rw [VaO,List.length_zip,List.length_zip];ac_rfl
  .obtain ⟨t,S,rfl⟩:=Vbo.mp d;obtain ⟨R,X,V⟩:=ZjQ S;exact (ZpR l (Zkm (A.fv _ R) (j.fv _ X) (o.fv _ V) E G F) I).mono (by decide)
  .rw [e,ZdM l];unfold vls;rw [VbH];congr 3;congr 1;congr 1;exact List.map_congr_left λt _=>ZdM l
def ZdY(kf:Nat->List Int):∀(n:Nat) (k:List Int),k∈firsts kf n↔∃i,i<n/\kf i=k
 | 0,k=>by simp [firsts]
 | n+1,k=>by
  have ih:=ZdY kf n k;unfold firsts;split
  .next h=>
   rw [ih];constructor
   .rintro ⟨i,a,e⟩;exact ⟨i,by ac_rfl,e⟩
   .rintro ⟨i,a,e⟩;by_cases z:i=n
    .subst z;obtain ⟨j,b,c⟩:=(ZdY kf i (kf i)).mp h;exact ⟨j,b,c.trans e⟩
    .exact ⟨i,by ac_rfl,e⟩
  .rw [Var,ih,Vb8];constructor
   .rintro (⟨i,a,e⟩ | e)
    .exact ⟨i,by ac_rfl,e⟩
    .exact ⟨n,by ac_rfl,e.symm⟩
   .rintro ⟨i,a,e⟩;by_cases z:i=n
    .subst z;exact .inr e.symm
    .exact .inl ⟨i,by ac_rfl,e⟩
def ZdN(kf:Nat->List Int):∀n,(firsts kf n).length<=n
 | 0=>VaF _
 | n+1=>by
  have:=ZdN kf n;unfold firsts;split
  .ac_rfl
  .simp;ac_rfl
def Zgl(kf:Nat->List Int):∀n,(firsts kf n).length=n↔∀i j,i<j->j<n->kf i≠kf j
 | 0=>by simp [firsts]
 | n+1=>by
  have ih:=Zgl kf n;have g:=ZdN kf n;unfold firsts;split
  .next h=>
   obtain ⟨i,b,e⟩:=(ZdY kf n (kf n)).mp h;constructor
   .intro z;ac_rfl
   .intro z;exact aB e (z i n b (by ac_rfl))
  .next h=>
   have c:∀i,i<n->kf i≠kf n:=λi b e=>h ((ZdY kf n (kf n)).mpr ⟨i,b,e⟩);rw [Va5,Vbj];constructor
   .intro z i j a f;have d:=ih.mp (by ac_rfl);by_cases q:j=n
    .subst q;exact c i a
    .exact d i j a (by ac_rfl)
   .intro z;have:=ih.mpr λi j a f=>z i j a (by ac_rfl);ac_rfl
def ZjD{α:Type}{enc:α->D}{key:α->List Int}(h:∀a,∃ds,enc a=.tup ds/\intsOf ds=some (key a)):∀l:List α,keysOf (l.map enc)=some (l.map key)
 | []=>rfl
 | a::r=>by
  obtain ⟨ds,c,b⟩:=h a;rw [VaN,c];unfold keysOf;rw [b,ZjD h r];rfl
def ZrK{α:Type} [DecidableEq α] {enc:α->D} {key:α->List Int} (h:∀a,∃ds,enc a=.tup ds/\intsOf ds=some (key a)) (inj:∀a b,key a=key b->a=b) {l:List α} (hl:l.length<=16) :
  ∃n:Nat,Zju (.lst (l.map enc))=.ok (.int n)/\(n=l.length↔l.Nodup):=by
 refine ⟨(firsts (λi=>(l.map key).getD i []) (l.map enc).length).length,?_,?_⟩
 .show (match keysOf (l.map enc) with | some ks=>if (l.map enc).length<=16 then Res.ok (D.int ((firsts (λi=>ks.getD i []) (l.map enc).length).length:Nat)) else Res.bad | none=>Res.bad)=_
  rw [ZjD h];show (if _ then _ else _)=_
  rw [iP (by rw [VaO];exact hl)]
 .rw [VaO,Zgl];unfold List.Nodup;rw [Vb2];have c:∀i (g:i<l.length),(l.map key).getD i []=key l[i]:=λi g=>by simp [List.getD,g]
  constructor
  .intro z i j g f d e;exact z i j d f (by rw [c i g,c j f,e])
  .intro z i j d f e;rw [c i (by ac_rfl),c j f] at e;exact z i j (by ac_rfl) f d (inj _ _ e)
def Zsw{α:Type}{U:Fl->Prop}{g:MG}{k:MS}{enc:α->D}{ts:List α}(I:List α->Ev->Prop)(h:∀us t vs,ts=us++t::vs->∀Z,I us Z->Tl (g (enc t) Z) λZ1=>Tl (k Z1) λf=>(∃Z2,f=.nx Z2/\I (us++[t]) Z2)\/∃d,f=.rt d/\U (.rt d))(hd:∀Z,I ts Z->U (.nx Z)){Z:Ev}(h0:I [] Z):Tl (Zb2 g k (ts.map enc) Z) U:=by
 have a:∀(vs us:List α) (Z:Ev),ts=us++vs->I us Z->Tl (Zb2 g k (vs.map enc) Z) U:=by
  intro vs
  induction vs with
  | nil=>
   intro us Z e i;rw [VaT] at e;subst e;exact w_f0 (hd Z i)
  | cons t vs ih=>
   intro us Z e i;obtain ⟨Z1,b,f,c,q⟩:=h us t vs e Z i;rw [VaN];refine w_f1 ⟨Z1,b,_,c,?_⟩;rcases q with ⟨Z2,rfl,i2⟩ | ⟨d,rfl,q⟩
   .exact ih (us++[t]) Z2 (by rw [e];simp) i2
   .exact Zav q
 exact a ts [] Z rfl h0
abbrev encP(d:Int×Int):D:=.tup [.int d.1,.int d.2]
def Zo6{U:D->Prop}{x:Int}(q:U (.bl true)):Tl (ZaZ [.int x]) U:=by
 unfold ZaZ;symm;exact q
def ZeK{U:D->Prop}{x a b:Int}(h:a<=x/\x<=b)(q:U (.bl true)):Tl (Za4 [.int x,.int a,.int b]) U:=by
 unfold Za4;symm;refine Zo6 ?_;symm;rw [Vbk h.2];exact q
def ZgS{U:D->Prop}{w h:Nat}(hw:1<=w/\w<=64)(hh:1<=h/\h<=64)(q:U .non):Tl (ZbA [.int w,.int h]) U:=by
 unfold ZbA;symm;refine ZeK (by ac_rfl) ?_;symm;refine ZeK (by ac_rfl) ?_;symm;exact q
def ZhO{α:Type}(f:α->Bool):∀l:List α,bools (l.map λa=>D.bl (f a))=.ok (l.map f)
 | []=>rfl
 | a::r=>by
  rw [VaN];show (bools (r.map λa=>D.bl (f a))).bind _=_;rw [ZhO f r];rfl
def Zn3{U:D->Prop}{d:Int×Int}(hd:(1<=d.1/\d.1<=7)/\1<=d.2/\d.2<=7)(q:U (.bl true)):Tl (ZeU [encP d]) U:=by
 unfold ZeU;symm;refine ZeK hd.1 ?_;symm;refine ZeK hd.2 ?_;symm;exact q
def ZuC{α:Type}{U:D->Prop}{f:α->Bool}{l:List α}(h:∀a∈l,f a=true)(q:U (.bl true)):Tl (bAll [.lst (l.map λa=>D.bl (f a))]) U:=by
 refine Zak ?_ q;show (bools (l.map λa=>D.bl (f a))).bind _=_;rw [ZhO f l];show Res.ok (D.bl ((l.map f).all id))=_;rw [List.all_map,Vbp.mpr λa b=>(show (id ∘ f) a=true from h a b)]
def ZgD{U:D->Prop}{dots:List (Int×Int)}(h1:1<=dots.length/\dots.length<=16)(hd:∀d∈dots,(1<=d.1/\d.1<=7)/\1<=d.2/\d.2<=7)(hnd:dots.Nodup)(q:U .non):Tl (Zbz [.lst (dots.map encP)]) U:=by
 unfold Zbz;symm;rw [VaO];refine Zc8 (λz=>by ac_rfl) (λ_=>?_);symm;rw [VaO];rw [Vac (by ac_rfl)];symm;refine ⟨by rw [VaO];ac_rfl,?_⟩;refine ZaV (enc:=encP) (λd:Int×Int=>D.bl ((λ_=>true) d)) (λd c=>?_) ?_
 .symm;exact Zn3 (hd d c) rfl
 symm;refine ZuC (f:=λ_:Int×Int=>true) (λ_ _=>rfl) ?_;symm
 obtain ⟨n,e,g⟩:=ZrK (enc:=encP) (key:=λd:Int×Int=>[d.1,d.2]) (λa=>⟨_,rfl,rfl⟩) (λa b h=>by
  injection h with h1 h2
  injection h2 with h2 _
  exact Vab h1 h2) h1.2
 refine Zak e ?_;symm;rw [g.mpr hnd,VaO];symm;exact q
def ZkH{dots:List (Int×Int)}(h1:1<=dots.length/\dots.length<=16)(hd:∀d∈dots,(1<=d.1/\d.1<=7)/\1<=d.2/\d.2<=7)(hnd:dots.Nodup):ZaQ [.lst (dots.map encP)]=.ok (.lst (dots.map encP)):=by
 refine Tl.eq ?_;unfold ZaQ;symm;refine ZgD h1 hd hnd ?_;symm
def ZvA(a b:Int×Int):eqD (encP a) (encP b)=decide (a=b):=by
 unfold eqD eqDs eqDs eqDs;show ((a.1==b.1)&&((a.2==b.2)&&true))=_;rw [Bool.and_true,Bool.eq_iff_iff,Vbg,VaL,VaL,Vcb];constructor
 .rintro ⟨c,d⟩;exact Vab c d
 .rintro rfl;exact ⟨rfl,rfl⟩
def Zur(q:Int×Int):∀qs:List (Int×Int),inD (encP q) (qs.map encP)=decide (q∈qs)
 | []=>rfl
 | a::r=>by
  have ih:=Zur q r;unfold inD at ih ⊢;rw [VaN,List.any_cons,ih,ZvA,<-Bool.decide_or,decide_eq_decide,Vaq];constructor
  .rintro (rfl | h)
   .exact .inl rfl
   .exact .inr h
  .rintro (rfl | h)
   .exact .inl rfl
   .exact .inr h
def ZoZ(k:Nat):∀qs:List (Int×Int),Zay (k+1) (qs.map encP)=true
 | []=>rfl
 | a::r=>by
  rw [VaN];show (plain (k+1) (encP a)&&Zay (k+1) (r.map encP))=true;rw [ZoZ k r];rfl
def Dots(dots:List (Int×Int)):Prop:=(∀d∈dots,(1<=d.1/\d.1<=7)/\1<=d.2/\d.2<=7)/\dots.Nodup
def Zhl{x:D}(h:plain 50 x=true):dNe x x=.ok (.bl false):=by
 unfold dNe;rw [h,ZhK x 50 h];rfl
def ZsL{x:D}(h:plain 50 x=true):dEq x x=.ok (.bl true):=by
 unfold dEq;rw [h,ZhK x 50 h];rfl
def val:Res D->D
 | .ok d=>d
 | _=>.non
def unF:D->Rat
 | .tup [.int n,.int d]=>Rat.divInt n d
 | _=>0
def Zgk(q:Rat):unF (frD q)=q:=Vch q
def ownOf(c:Str)(d v:D):Rat:=match ZbC.lookup c with
 | some f=>unF (val (f [d,v]))
 | none=>0
def mkG(c:Str)(ns:List Str)(vs:List D)(q:Rat)(v:D):Sg :=
 { d:=.ins c ns vs,gl:=c == "Glass",q:=q,v:=v,own:=if (c == "Glass")=true then 0 else ownOf c (.ins c ns vs) v,part:=unF (val (dFld objs "part" (.ins c ns vs))),col:=unF (val (dFld objs "colour" (.ins c ns vs))),k:=0 }
def so(p d:D):Option Sg:=match d with
 | .ins c ns (T::r)=>match ZaF [T,p] with
  | .ok (.tup [q,v])=>some (mkG c ns (T::r) (unF q) v)
  | _=>none
 | _=>none
def Ze8{c:Str}{ns:List Str}{T p:D}{r:List D}(e:ZaF [T,p]=.ok .non):so p (.ins c ns (T::r))=none:=by
 show (match ZaF [T,p] with
  | .ok (.tup [q,v])=>some (mkG c ns (T::r) (unF q) v)
  | _=>none)=none
 rw [e]
def Ze9{c:Str}{ns:List Str}{T p v:D}{r:List D}{q:Rat}(e:ZaF [T,p]=.ok (.tup [frD q,v])):so p (.ins c ns (T::r))=some (mkG c ns (T::r) q v):=by
 show (match ZaF [T,p] with
  | .ok (.tup [q,v])=>some (mkG c ns (T::r) (unF q) v)
  | _=>none)=_
 rw [e];show some (mkG c ns (T::r) (unF (frD q)) v)=_;rw [Zgk]
def b0:Bq 32 (0:Rat):=⟨by show (0:Int).natAbs<2^32;decide,by show (1:Int).natAbs<2^32;decide⟩
def ZeI{p d:D}{T:D}(e1:dFld objs "triangle" d=.ok T)(e2:ZaF [T,p]=.ok .non)(e3:so p d=none):Seen p d (so p d):=by
 rw [e3];exact ⟨⟨T,e1,e2⟩,λs h=>by cases h⟩
def ZeH{p d v:D}{T:D}{q:Rat}{s:Sg}(e1:dFld objs "triangle" d=.ok T)(e2:ZaF [T,p]=.ok (.tup [frD q,v]))(e3:so p d=some s)(hq:s.q=q)(hv:s.v=v)(hd:s.d=d)(g:GS s):Seen p d (so p d):=by
 rw [e3];refine ⟨⟨T,e1,?_⟩,λt h=>?_⟩
 .rw [e2];show _=Res.ok (D.tup [frD s.q,s.v]);rw [hq,hv]
 .cases h;exact ⟨hd,g⟩
def ZwY{d:D}{px py ps:Int}(h:Thg d)(cp:Cr px py ps)(hp:1<=ps):Seen (.tup [.int px,.int py,.int ps]) d (so (.tup [.int px,.int py,.int ps]) d):=by
 cases h with
 | @plain k T q ht hk hq=>
  rcases Zfx ht hk cp hp with e | ⟨z,vs,lv,bz,bv,e⟩
  .exact ZeI (fT1 _ _) e (Ze8 e)
  .have a:(mkG "Plain" ["triangle","colour"] [T,frD q] z (.tup (vs.map frD))).own=q:=Zgk q;have b:(mkG "Plain" ["triangle","colour"] [T,frD q] z (.tup (vs.map frD))).col=q:=Zgk q;have c:(mkG "Plain" ["triangle","colour"] [T,frD q] z (.tup (vs.map frD))).part=0:=rfl;refine ZeH (fT1 _ _) e (Ze9 e) rfl rfl rfl ⟨⟨_,_,_,rfl,by decide +kernel,by decide +kernel,⟨Zaz,by rfl,rfl⟩,λ_=>⟨ZbB,by rfl,?_⟩⟩,(λh=>by cases h),bz,?_,?_,?_⟩
   .rw [a];rfl
   .rw [a];exact hq.mono (by decide)
   .rw [c];exact b0
   .rw [b];exact hq
 | @shaded k T ht hk h1=>
  rcases Zfx ht hk cp hp with e | ⟨z,vs,lv,bz,bv,e⟩
  .exact ZeI (fT2 _) e (Ze8 e)
  .cases vs with
   | nil=>simp at lv;ac_rfl
   | cons u vs=>
    have a:(mkG "Shaded" ["triangle"] [T] z (.tup ((u::vs).map frD))).own=u:=Zgk u;refine ZeH (fT2 _) e (Ze9 e) rfl rfl rfl ⟨⟨_,_,_,rfl,by decide +kernel,by decide +kernel,⟨Zaz,by rfl,rfl⟩,λ_=>⟨Zbm,by rfl,?_⟩⟩,(λh=>by cases h),bz,?_,b0,b0⟩
    .rw [a];rfl
    .rw [a];exact bv u Vao
 | @patt k h w T P ht hk h2 hh hw hP=>
  rcases Zfx ht hk cp hp with e | ⟨z,vs,lv,bz,bv,e⟩
  .exact ZeI (fT3 _ _) e (Ze8 e)
  .match vs,lv,bv,e with
   | [],lv,_,_=>simp at lv;ac_rfl
   | [_],lv,_,_=>simp at lv;ac_rfl
   | u::v::vs,lv,bv,e=>
    obtain ⟨i,j,g,m,l⟩:=Zrf (U:=λ_=>True) (P:=P) hh hw (bv u Vao) (bv v (Vap _ Vao)) (λ_ _ _ _=>trivial);have f:Zao [.ins "Patterned" ["triangle","pattern"] [T,patD h w P],.tup ((u::v::vs).map frD)]=.ok (frD (P i j)):=by
     refine Tl.eq ?_;unfold Zao;symm;refine Zak (fN3 _ _) ?_;symm;refine Zak l ?_;symm
    have a:(mkG "Patterned" ["triangle","pattern"] [T,patD h w P] z (.tup ((u::v::vs).map frD))).own=P i j:=by
     show unF (val (Zao [.ins "Patterned" ["triangle","pattern"] [T,patD h w P],.tup ((u::v::vs).map frD)]))=_;rw [f];exact Zgk _
    refine ZeH (fT3 _ _) e (Ze9 e) rfl rfl rfl ⟨⟨_,_,_,rfl,by decide +kernel,by decide +kernel,⟨Zaz,by rfl,rfl⟩,λ_=>⟨Zao,by rfl,?_⟩⟩,(λh=>by cases h),bz,?_,b0,b0⟩
    .rw [a];exact f
    .rw [a];exact (hP i g j m).mono (by decide)
 | @glass k T q r ht hk hq hr h0 h1=>
  rcases Zfx ht hk cp hp with e | ⟨z,vs,lv,bz,bv,e⟩
  .exact ZeI (fT4 _ _ _) e (Ze8 e)
  .have b:(mkG "Glass" ["triangle","colour","part"] [T,frD q,frD r] z (.tup (vs.map frD))).col=q:=Zgk q;have c:(mkG "Glass" ["triangle","colour","part"] [T,frD q,frD r] z (.tup (vs.map frD))).part=r:=Zgk r;refine ZeH (fT4 _ _ _) e (Ze9 e) rfl rfl rfl ⟨⟨_,_,_,rfl,by decide +kernel,by decide +kernel,⟨ZbH,by rfl,rfl⟩,λh=>by cases h⟩,λ_=>⟨?_,?_⟩,bz,b0.mono (by decide),?_,?_⟩
   .rw [c];exact fP4 _ _ _
   .rw [b];exact fC4 _ _ _
   .rw [c];exact hr
   .rw [b];exact hq
abbrev pt8(x y:Int):D:=.tup [.int x,.int y,.int 8]
def sgs(ts:List D)(p:D):List Sg:=ts.filterMap (so p)
def lk(ts:List D)(p:D):List DO:=ts.map λd=>(d,so p d)
def ZuU(ts:List D)(p:D):(lk ts p).map (·.1)=ts:=by
 unfold lk;rw [VbH];exact List.map_id _
def Zte(ts:List D)(p:D):sgts (lk ts p)=sgs ts p:=by
 unfold sgts lk sgs;rw [List.filterMap_map];rfl
def Zuc{ts:List D}{px py ps:Int}(h:∀t∈ts,Thg t)(cp:Cr px py ps)(hp:1<=ps):∀y∈lk ts (.tup [.int px,.int py,.int ps]),Seen (.tup [.int px,.int py,.int ps]) y.1 y.2:=by
 intro y a;obtain ⟨d,b,rfl⟩:=Vbo.mp a;exact ZwY (h d b) cp hp
def Zvd{ts:List D}{px py ps:Int}(h:∀t∈ts,Thg t)(cp:Cr px py ps)(hp:1<=ps):∀s∈sgs ts (.tup [.int px,.int py,.int ps]),GS s:=by
 rw [<-Zte];exact Zrk (Zuc h cp hp)
def Zqu(ts:List D)(p:D):(sgs ts p).length<=ts.length:=List.length_filterMap_le _ _
def Znr{ts:List D}{px py ps:Int}(h:∀t∈ts,Thg t)(hl:ts.length<=1000)(cp:Cr px py ps)(hp:1<=ps):Zcl [.lst ts,.tup [.int px,.int py,.int ps]]=.ok (.lst ((sgs ts (.tup [.int px,.int py,.int ps])).map encS)):=by
 have e:=Tl.eq (Zlc (U:=λx=>x=_) (Zuc h cp hp) (by unfold lk;rw [List.length_map];exact hl) rfl);rwa [ZuU,Zte] at e
def Zql{t b:Int}{k:Nat}(hb:0<b)(sb:Sm k b):Sm k ((Rat.divInt t b).den:Int):=by
 have e:=ZdM (t:=t) (b:=b) (by ac_rfl);unfold fra frD Mt.frT Mt.frB at e;rw [iN (by ac_rfl),iN (by ac_rfl)] at e;have a:0<(Int.gcd t b:Int):=by have:=Mt.Zew (t:=t) (b:=b) (by ac_rfl);ac_rfl
 injection e with e
 injection e with e1 e2
 injection e2 with e2 _
 injection e2 with e2
 refine sb.le ?_;rw [<-e2];exact Mt.Zhr a
def ZjX{U:D->Prop}{t b:Int}{k:Nat}(hb:0<b)(sb:Sm k b)(hk:k<=8900)(h:U (frD (Rat.divInt t b))):Tl (Zcq [.int t,.int b]) U:=by
 refine Zg1 (by ac_rfl) sb (by ac_rfl) ?_;rw [ZdM (by ac_rfl)];exact h
def Zqf{U:D->Prop}{p q:Rat}{a b da db:Nat}(hp:Bq a p)(hq:Bq b q)(dp:Sm da (p.den:Int))(dq:Sm db (q.den:Int))(hab:a+b<=10000000)(hd:da+db<=8900)(h:Bq (a+b+1) (p+q)->Sm (da+db) ((p+q).den:Int)->U (frD (p+q))):Tl (Zf2 [frD p,frD q]) U:=by
 have j:Zbg p.num q.den=true:=ZaN hp.n hq.d (by ac_rfl);have k:Zbg q.num p.den=true:=ZaN hq.n hp.d (by ac_rfl);have l:Zbg p.den q.den=true:=ZaN hp.d hq.d (by ac_rfl);have g:Sm (a+b+1) (p.num*q.den+q.num*p.den):=((hp.n.mul hq.d).add (show Sm (a+b) _ from Nat.add_comm b a▸hq.n.mul hp.d)).mono (by ac_rfl);have i:Sm (a+b+1) ((p.den:Int)*q.den):=(hp.d.mul hq.d).mono (by ac_rfl);have c:0<(p.den:Int)*q.den:=Vcg (den1 p) (den1 q);have f:=Zl4 c g i;have e:=Zql (t:=p.num*q.den+q.num*p.den) c (dp.mul dq);rw [Zhy] at f e;unfold Zf2 frD;symm;refine ZjX c (dp.mul dq) hd ?_;rw [Zhy];symm;exact h f e
def sumQ(l:List Rat):Rat:=l.foldl (·+·) 0
def Zl5(l:List Rat)(q:Rat):sumQ (l++[q])=sumQ l+q:=by unfold sumQ;rw [List.foldl_append];rfl
def Zn8(l:List Rat):Rat:=Rat.divInt (sumQ l).num ((sumQ l).den*(l.length:Int))
def ZrL{U:D->Prop}{qs:List Rat}{K k:Nat}(hK:∀q∈qs,Bq K q)(hd:∀q∈qs,Sm k (q.den:Int))(h1:1<=qs.length)(hn:qs.length<=16)(hK':K<=100000)(hk:qs.length*k+10<=8900)(h:U (frD (Zn8 qs))):Tl (ZeF [.lst (qs.map frD)]) U:=by
 unfold ZeF;symm;show Tl (Zb2 _ _ (qs.map frD) [.im (.lst (qs.map frD)),.im (frD 0),.no]) _;refine ZjP (enc:=frD) (λa Z=>∃c:Cl,Bq (a.length*(K+1)+1) (sumQ a)/\Sm (a.length*k+1) ((sumQ a).den:Int)/\Z=[.im (.lst (qs.map frD)),.im (frD (sumQ a)),c]) ⟨.no,?_,?_,rfl⟩ ?_ ?_
 .exact ⟨by show (0:Int).natAbs<_;exact Nat.two_pow_pos _,by show (1:Int).natAbs<2^(0*_+1);rw [Nat.zero_mul];decide⟩
 .show (1:Int).natAbs<2^(0*_+1);rw [Nat.zero_mul];decide
 .rintro a q r e Z ⟨c,B,S,rfl⟩;have f:q∈qs:=by rw [<-e];simp
  have b:a.length<qs.length:=by rw [<-e];simp
  have n:(a.length+1)*k<=qs.length*k:=Nat.mul_le_mul_right k b;have i:(a.length+1)*(K+1)<=16*(K+1):=Nat.mul_le_mul_right (K+1) (by ac_rfl);rw [Nat.succ_mul] at n i;symm;refine Zqf B (hK q f) S (hd q f) (by ac_rfl) (by ac_rfl) λj m=>?_;rw [Zl5];refine ⟨_,rfl,_,j.mono ?_,m.mono ?_,rfl⟩
  .rw [Va5,Vbj,Nat.succ_mul];ac_rfl
  .rw [Va5,Vbj,Nat.succ_mul];ac_rfl
 .rintro Z ⟨c,B,S,rfl⟩;have i:qs.length*(K+1)<=16*(K+1):=Nat.mul_le_mul_right (K+1) hn;have g:Sm 5 (qs.length:Int):=by show (qs.length:Int).natAbs<2^5;ac_rfl
  have o:Zbg (sumQ qs).den (qs.length:Int)=true:=ZaN B.d g (by ac_rfl);have l:0<((sumQ qs).den:Int)*(qs.length:Int):=Vcg (den1 _) (by ac_rfl);unfold Zn8 at h;generalize sumQ qs=t at *;unfold frD;symm;rw [VaO];symm;refine ZjX l (S.mul g) (by ac_rfl) ?_;symm;exact h
def ZlC{U:D->Prop}{g:Rat}{l:List Sg}{n:Nat}(hg:Bq 300 g)(hl:∀s∈l,GS s)(hs:l.length<=n)(hn:n<=12)(q:Bq (300+170*n) (colQ g l)->U (frD (colQ g l))):Tl (Zcg [.lst (l.map encS),frD g]) U:=by
 have k:Bq 300 (Ziz g (near l)):=by
  cases e:near l with
  | none=>exact hg
  | some m=>exact (hl m (ZhB e).1).bo
 have t:=Zmn (near l) l;unfold Zcg;symm;refine Zls hl ?_
 have h:∀b:Cl,Tl ((sq (for_ (iv (on Zbv (Zaa (v 2) (Zaa (v 0) yaa)))) (gN 4)
  (st 3 (on Zcp (Zaa (o2 dIx (v 4) (c (.int 0))) (Zaa (v 3) yaa)))))
  (ret (v 3))) [.im (.lst (l.map encS)),.im (frD g),.im (optS (near l)),.im (frD (Ziz g (near l))),b]) λf=>Tl (endOf f) U:=by
  intro b;symm;refine Zpa (λm e=>hl m (ZhB e).1) hl (by ac_rfl) ?_;symm;refine ZjP (enc:=encS) (λa Z=>∃b:Cl,Bq (300+170*a.length) (layQ a (Ziz g (near l)))/\Z=[.im (.lst (l.map encS)),.im (frD g),.im (optS (near l)),.im (frD (layQ a (Ziz g (near l)))),b]) ⟨_,k,rfl⟩ ?_ ?_
  .rintro a s r e Z ⟨b,B,rfl⟩;have i:s∈lay (near l) l:=by rw [<-e];simp
   have j:a.length<(lay (near l) l).length:=by rw [<-e];simp
   have d:=Zlv i;symm;refine Zs3 (hl s d.1) (ZqH d.2) B (by ac_rfl) λo=>?_;have p:layQ (a++[s]) (Ziz g (near l))=mixQ s (layQ a (Ziz g (near l))):=by unfold layQ;rw [List.foldl_append];rfl
   rw [p];refine ⟨_,rfl,_,o.mono ?_,rfl⟩;rw [Va5,Vbj];ac_rfl
  .rintro Z ⟨b,B,rfl⟩;symm;exact q (B.mono (by ac_rfl))
 symm;refine Tl.mono (Ψ:=λf=>f=Fl.nx [.im (.lst (l.map encS)),.im (frD g),.im (optS (near l)),.im (frD (Ziz g (near l))),.no]) ?_ ?_
 .cases hn:near l with
  | none=>
   show Tl (if (false:Bool)=true then _ else _) _
   symm;rfl
  | some m=>
   have i:=ZhB hn;show Tl (if (true:Bool)=true then _ else _) _
   symm;refine ZwC (s:=m) (hl m i.1) i.2 rfl rfl ?_;rfl
 .rintro f rfl;exact h .no
def sm6'{x:Int}(h:-1000000<=x/\x<=1000000):Sm 64 x:=Sm.of64 (by ac_rfl) (by ac_rfl)
def cr8{px py:Int}(hx:0<=px/\px<=1000)(hy:0<=py/\py<=1000):Cr px py 8:=⟨sm6' (by ac_rfl),sm6' (by ac_rfl),sm6' (by decide)⟩
abbrev ptA(c r:Nat)(d:Int×Int):D:=pt8 (8*(c:Int)+d.1) (8*(r:Int)+d.2)
def Zpo(dots:List (Int×Int)):Prop:=∀d∈dots,(1<=d.1/\d.1<=7)/\1<=d.2/\d.2<=7
def cellQ(ts:List D)(g:Rat)(dots:List (Int×Int))(c r:Nat):Rat:=Zn8 (dots.map λd=>colQ g (sgs ts (ptA c r d)))
def rowP(f:Nat->Nat->Rat)(w r:Nat):D:=.lst ((List.range w).map λc=>frD (f c r))
def picP(f:Nat->Nat->Rat)(w h:Nat):D:=.lst ((List.range h).map λr=>rowP f w r)
section
variable{ts:List D}{dots:List (Int×Int)}
def Zla{U:D->Prop}{c r:Nat}(hts:∀t∈ts,Thg t)(hl:ts.length<=1000)(hc:c<=100)(hr:r<=100)(hd:Zpo dots)(hn:dots.length<=16)
  (q:U (.lst (dots.map λd=>D.lst ((sgs ts (ptA c r d)).map encS)))):Tl (Zdf [.lst ts,.int c,.int r,.lst (dots.map encP)]) U:=by
 unfold Zdf;symm;symm;refine ⟨by rw [VaO];ac_rfl,?_⟩;refine ZaV (λd:Int×Int=>D.lst ((sgs ts (ptA c r d)).map encS)) (λd a=>?_) ?_
 .have b:=hd d a;symm;unfold Zgb;symm;exact Zak (Znr hts hl (cr8 (by ac_rfl) (by ac_rfl)) (by decide)) rfl
 .symm;exact q
def ZlQ{U:D->Prop}{g:Rat}{n:Nat}{ls:List (List Sg)}(hg:Bq 300 g)(hl:∀l∈ls,(∀s∈l,GS s)/\l.length<=n)(hn:n<=12)(h1:1<=ls.length)(h16:ls.length<=16)(hk:ls.length*(300+170*n)+10<=8900)(q:U (frD (Zn8 (ls.map λl=>colQ g l)))):Tl (Zb8 [.lst (ls.map λl=>D.lst (l.map encS)),frD g]) U:=by
 have c:∀l∈ls,Bq (300+170*n) (colQ g l)/\Zcg [.lst (l.map encS),frD g]=.ok (frD (colQ g l)):=λl a=>by
  obtain ⟨x,e,h⟩:=ZlC (U:=λx=>Bq (300+170*n) (colQ g l)/\x=frD (colQ g l)) hg (hl l a).1 (hl l a).2 hn (λB=>⟨B,rfl⟩);exact ⟨h.1,h.2▸e⟩
 unfold Zb8;symm;refine ⟨by rw [VaO];ac_rfl,?_⟩;refine ZaV (λl:List Sg=>frD (colQ g l)) (λl a=>?_) ?_
 .symm;exact Zak (c l a).2 rfl
 symm;rw [show List.map (λl:List Sg=>frD (colQ g l)) ls=(ls.map λl=>colQ g l).map frD by rw [VbH];rfl];refine ZrL (K:=300+170*n) (k:=300+170*n) (λx b=>?_) (λx b=>?_) (by rw [VaO];exact h1) (by rw [VaO];exact h16) (by ac_rfl) (by rw [VaO];exact hk) ?_
 .obtain ⟨l,a,rfl⟩:=Vbo.mp b;exact (c l a).1
 .obtain ⟨l,a,rfl⟩:=Vbo.mp b;exact (c l a).1.d
 .symm;exact q
def ZqB{U:D->Prop}{w h n:Nat}{sp gr:D}{g:Rat}(hts:∀t∈ts,Thg t)(hl:ts.length<=n)(hn:n<=12)(hw:1<=w/\w<=64)(hh:1<=h/\h<=64)(hs:ZaQ [sp]=.ok (.lst (dots.map encP)))(hgr:Zbl [gr]=.ok (frD g))(hg:Bq 300 g)(hd:Zpo dots)(h1:1<=dots.length)(h16:dots.length<=16)(hk:dots.length*(300+170*n)+10<=8900)
  (q:U (picP (cellQ ts g dots) w h)):Tl (ZdC [.lst ts,.int w,.int h,sp,gr]) U:=by
 unfold ZdC;symm;refine ZgS hw hh ?_;symm;refine Zak hs ?_;symm;refine Zak hgr ?_;symm;symm;rw [Zgr,Vby];refine ⟨by rw [VaO,VbD];ac_rfl,?_⟩;refine ZaV (λr:Nat=>rowP (cellQ ts g dots) w r) (λr e=>?_) ?_
 .have e:=Vaj.mp e;symm;unfold Zdb;symm;symm;rw [Zgr,Vby];refine ⟨by rw [VaO,VbD];ac_rfl,?_⟩;refine ZaV (λc:Nat=>frD (cellQ ts g dots c r)) (λc f=>?_) ?_
  .have f:=Vaj.mp f;symm;refine Zla hts (by ac_rfl) (by ac_rfl) (by ac_rfl) hd h16 ?_;symm;rw [show (List.map (λd=>D.lst ((sgs ts (ptA c r d)).map encS)) dots)=(dots.map λd=>sgs ts (ptA c r d)).map λl=>D.lst (l.map encS) by rw [VbH];rfl];refine ZlQ (n:=n) hg (λl a=>?_) hn (by rw [VaO];exact h1) (by rw [VaO];exact h16) (by rw [VaO];exact hk) ?_
   .obtain ⟨d,b,rfl⟩:=Vbo.mp a;have i:=hd d b;exact ⟨Zvd hts (cr8 (by ac_rfl) (by ac_rfl)) (by decide),Vak (Zqu _ _) hl⟩
   .unfold cellQ;rw [VbH];rfl
  .symm;rfl
 .symm;exact q
end
def D10(m:Nat):List Nat:=(Nat.toDigits 10 m).map Char.toNat
def tI(n:Int):List Nat:=if n<0 then 45::D10 n.natAbs else D10 n.natAbs
def Zso(a b):Str.ofString (a++b)=Str.ofString a++Str.ofString b:=by
 rw [<-Zeg (Str.ofString a++Str.ofString b),ZhH,<-Zeg (Str.ofString (a++b))];refine Vaw mkS ?_;show (Str.ofString (a++b)).cps.toList=(Str.ofString a).cps.toList++(Str.ofString b).cps.toList;rw [Vcl,Vcl,Vcl,String.toList_append,VbX]
def Zjo(m:Nat):Str.ofString (toString (m:Int))=mkS (D10 m):=by
 rw [<-Zeg (Str.ofString _)];exact Vaw mkS (W.KIN.signs_num m)
def ZuO(n):Str.ofString (toString n)=mkS (tI n):=by
 unfold tI;split
 .next h=>
  rw [PyProof.Rows.toString_neg h,Zso,show (0:Int) - n=(n.natAbs:Int) by ac_rfl,Zjo,show Str.ofString "-"=mkS [45] by decide +kernel,ZmJ];rfl
 .next h=>
  have e:n=(n.natAbs:Int):=by ac_rfl
  rw [e,Zjo];rfl
def Zeq{m c:Nat}(h:c∈D10 m):48<=c/\c<=57:=by
 obtain ⟨b,a,e⟩:=Vbo.mp h;rw [<-e];exact PyProof.Rows.digit_range (Nat.isDigit_of_mem_toDigits (by decide) (by decide) a)
def Zrl(m):digV (D10 m)=m:=W.KIN.val_back m
def Zji(hk:0<k)(h:m<10^k):(D10 m).length<=k:=by
 have:=PyProof.Rows.toString_length_le (v:=(m:Int)) (by ac_rfl) hk (by exact_mod_cast h);rw [Zjo,ZcP] at this;exact this
def ZhT(m):D10 m≠[]:=by
 unfold D10;intro e;have:=PySem.toDigits_len_ge 10 m;rw [List.map_eq_nil_iff.mp e] at this;exact aB this (by decide)
def ZoH(h:10<=m):D10 m=D10 (m/10)++D10 (m%10):=by
 unfold D10;rw [<-VbX];have t:Nat.toDigits 10 (m/10)++Nat.toDigits 10 (m%10)=Nat.toDigits 10 (10*(m/10)+m%10):=Nat.toDigits_append_toDigits (by decide) (by ac_rfl) (by ac_rfl);rw [Nat.div_add_mod] at t;rw [t]
def Zko:∀(m:Nat) {c:Nat} {r:List Nat},D10 m=c::r->c=48->m=0:=by
 intro m
 induction m using Nat.strongRecOn with
 | _ m ih=>
  intro c r e f;by_cases h:m<10
  .have g:D10 m=[(Nat.digitChar m).toNat]:=by unfold D10;rw [Nat.toDigits_of_lt_base h];rfl
   rw [g] at e;have d:(Nat.digitChar m).toNat=c:=by injection e
   subst f;have:∀m,m<10->(Nat.digitChar m).toNat=48->m=0:=by decide
   exact this m h d
  .rw [ZoH (by ac_rfl)] at e;cases e1:D10 (m/10) with
   | nil=>exact aB e1 (ZhT _)
   | cons a b=>
    rw [e1] at e;have d:a=c:=by injection e
    have:=ih (m/10) (by ac_rfl) e1 (d.trans f);ac_rfl
def Zdq{n:Int}{c:Nat}(h:c∈tI n):c=45\/(48<=c/\c<=57):=by
 unfold tI at h;split at h
 .rcases Vaq.mp h with h | h
  .exact .inl h
  .exact .inr (Zeq h)
 .exact .inr (Zeq h)
def ZwA(n):tI n≠[]:=by
 unfold tI;split
 .simp
 .exact ZhT _
def Zeu(hk:0<k)(h:n.natAbs<10^k):(tI n).length<=k+1:=by
 unfold tI;have:=Zji hk h;split
 .simpa using this
 .ac_rfl
def Ta(l:List Nat):Prop:=∀c∈l,c<128
def Ta.pl{l:List Nat}(h:Ta l):(mkS l).cps.all (·<0x110000)=true:=by
 rw [Array.all_eq_true];intro i b;have:(mkS l).cps[i]∈l:=by
  have a:i<l.length:=by simpa [mkS] using b
  have e:(mkS l).cps[i]=l[i]:=by simp [mkS]
  exact e▸Vb4 a
 have:=h _ this;simp only [Vcb];ac_rfl
def ZmC(n):Ta (tI n):=λc h=>by have:=Zdq h;ac_rfl
def Zjy(a b):(mkS a==mkS b)=decide (a=b):=by
 rw [Bool.eq_iff_iff,VaL,Vcb];exact ⟨ZqN,λh=>by rw [h]⟩
def ZeP(ha:Ta a)(hb:Ta b)(h:U (.bl (decide (a=b)))):Tl (dEq (.str (mkS a)) (.str (mkS b))) U:=by
 refine Zak (x:=.bl (decide (a=b))) ?_ h;unfold dEq;have d:plain 50 (.str (mkS a))=true:=ha.pl;have c:plain 50 (.str (mkS b))=true:=hb.pl;rw [d,c];show Res.ok (D.bl (mkS a==mkS b))=_;rw [Zjy]
def Zo4(ha:Ta a)(hb:Ta b)(h:U (.bl (!decide (a=b)))):Tl (dNe (.str (mkS a)) (.str (mkS b))) U:=by
 refine Zak (x:=.bl (!decide (a=b))) ?_ h;unfold dNe;have d:plain 50 (.str (mkS a))=true:=ha.pl;have c:plain 50 (.str (mkS b))=true:=hb.pl;rw [d,c];show Res.ok (D.bl (!(mkS a==mkS b)))=_;rw [Zjy]
def w_sD(h:Tl (a Z) λx=>∃z,x=.str z/\Tl (b Z) λd=>Tl (f z d) U):Tl (sD f a b Z) U:=by
 obtain ⟨x,e,z,rfl,d,c,q⟩:=h;unfold sD;rw [e];show Tl ((b Z).bind (f z)) U;rw [c];exact q
def ZjL(h:U (.bl (a.take b.length==b))):Tl (Zg9 (mkS a) (.str (mkS b))) U:=by
 refine Zak (x:=.bl (a.take b.length==b)) ?_ h;show Res.ok (D.bl ((cpL (mkS a)).take (cpL (mkS b)).length==cpL (mkS b)))=_;rw [ZaR,ZaR]
def ZdR{a:List Nat}{c:Nat}(hl:a.length<=1000000)(h:U (.lst ((Zbc c a).map λl=>.str (mkS l)))):Tl (Zd6 (mkS a) (.str (mkS [c]))) U:=by
 refine Zak ?_ h;unfold Zd6;dsimp only;rw [ZaR [c]];dsimp only;rw [ZcP,iP (show _<=LIM from hl),ZaR]
def ZhS:∀ls:List (List Nat),txts (ls.map λl=>D.str (mkS l))=some (ls.map mkS)
 | []=>rfl
 | l::r=>by
  show (txts (r.map λl=>D.str (mkS l))).map (mkS l::·)=_;rw [ZhS r];rfl
def totL(s:Nat)(ls:List (List Nat)):Nat:=(ls.map List.length).sum+ls.length*s
def Zqd(s)(ls):sumL s (ls.map mkS)=totL s ls:=by
 unfold sumL totL;rw [VbH,VaO];rw [show ls.map ((λx:Str=>x.length) ∘ mkS)=ls.map List.length from List.map_congr_left λl _=>ZcP l]
def Zkg{s:List Nat}{ls:List (List Nat)}(hl:totL s.length ls<=1000000):Zjj (mkS s) (ls.map λl=>D.str (mkS l))=.ok (.str (mkS (Zaq s ls))):=by
 unfold Zjj;rw [ZhS];dsimp only;rw [ZcP,Zqd,iP (show _<=LIM from hl),ZaR,VbH];have:(cpL ∘ mkS)=id:=funext ZaR;rw [this,List.map_id]
def ZcS(hl:totL s.length ls<=1000000)(h:U (.str (mkS (Zaq s ls)))):Tl (Zfw (mkS s) (.lst (ls.map λl=>.str (mkS l)))) U:=Zak (Zkg hl) h
def Zc5(hl:a.length+b.length<=1000000)(h:U (.str (mkS (a++b)))):Tl (yac (.str (mkS a)) (.str (mkS b))) U:=by
 refine Zak ?_ h;show (if (mkS a).length+(mkS b).length<=LIM then Res.ok (D.str (mkS a++mkS b)) else .bad)=_
 rw [ZcP,ZcP,iP (show _<=LIM from hl),ZmJ]
def Zue(hl:a.length<=1000000)(h:U (.int a.length)):Tl (Zn9 [.str (mkS a)]) U:=by
 refine Zak ?_ h;show (if (mkS a).length<=LIM then Res.ok (D.int (mkS a).length) else .bad)=_
 rw [ZcP,iP (show _<=LIM from hl)]
def w_inS{c:Nat}{b:List Nat}(h:U (.bl (b.contains c))):Tl (dInT (.str (mkS [c])) (.str (mkS b))) U:=by
 refine Zak (x:=.bl (b.contains c)) ?_ h;unfold dInT;dsimp only;rw [ZaR [c]];dsimp only;rw [ZaR]
def ZtM{c:Nat}{b:List Nat}(h:U (.bl (!b.contains c))):Tl (ZkW (.str (mkS [c])) (.str (mkS b))) U:=by
 refine Zak (x:=.bl (!b.contains c)) ?_ h;unfold ZkW;dsimp only;rw [ZaR [c]];dsimp only;rw [ZaR]
def Zrc{a b:List Nat}{c:Nat}(hc:c∉a)(hl:(a++c::b).length<=1000000)(h:U (.tup [.str (mkS a),.str (mkS [c]),.str (mkS b)])):Tl (ZlV (mkS (a++c::b)) (.str (mkS [c]))) U:=by
 refine Zak ?_ h;have e:∀a:List Nat,c∉a->Zdu c (a++c::b)=some (a,b):=by
  intro a
  induction a with
  | nil=>intro _;show Zdu c (c::b)=_;unfold Zdu;rw [iP rfl]
  | cons x r ih=>
   intro h;have d:¬x=c:=λe=>h (by rw [e];exact Vao);show Zdu c (x::(r++c::b))=_;unfold Zdu;rw [iN d,ih λm=>h (Vap _ m)];rfl
 unfold ZlV;dsimp only;rw [ZaR [c]];dsimp only;rw [ZcP,iP (show _<=LIM from hl),ZaR,e a hc]
def Zvx{i:Int}(ha:a Z=.ok (.str (mkS l)))(hi:0<=i)(hl:l.length<=1000000)(h:U (.str (mkS (l.drop i.toNat)))):Tl (cutT a (pso (c (.int i))) pno Z) U:=by
 refine Zak ?_ h;unfold cutT;rw [ha];show cutS (mkS l) (some i) none=_;unfold cutS;rw [ZcP,iP (show _<=LIM from hl)];dsimp only;rw [iP hi,ZaR]
def Zfh(s:Sm k n)(hk:k<=1900)(h:U (.str (mkS (tI n)))):Tl (bStr [.int n]) U:=by
 refine Zak ?_ h;show (if n.natAbs.log2<1920 then Res.ok (D.str (Str.ofString (toString n))) else .bad)=_
 rw [iP (show n.natAbs.log2<1920 from Vaf (ZjY (s.mono (show k<=1900 from hk)) (by decide)) (by decide)),ZuO]
def ZwD{U:List D->Prop}(ha:a Z=.ok (.str (mkS l)))(hl:Ta l)(h:U (l.map λc=>.str (mkS [c]))):Tl (ivT a Z) U:=by
 refine Zak ?_ h;unfold ivT;rw [ha];show (if (cpL (mkS l)).all (·<128)=true then Res.ok ((cpL (mkS l)).map λc=>D.str (mkS [c])) else .bad)=_
 rw [ZaR,iP (Vbp.mpr λc b=>by simpa using hl c b)]
def lit0:Str.ofString ""=mkS []:=by decide +kernel
def litM:Str.ofString "-"=mkS [45]:=by decide +kernel
def litZ:Str.ofString "0"=mkS [48]:=by decide +kernel
def Zuq:Str.ofString "-0"=mkS [45,48]:=by decide +kernel
def litF:Str.ofString "0123456789"=mkS [48,49,50,51,52,53,54,55,56,57]:=by decide +kernel
def litS:Str.ofString "/"=mkS [47]:=by decide +kernel
def Zan(h:l.all (·<128)=true):Ta l:=λc a=>by simpa using Vbp.mp h c a
def ZtV{U:D->Prop}{l:List Nat}(hd:∀c∈l,48<=c/\c<=57)(hn:l≠[])(hl:l.length<=30)(hh:∀r,l=48::r->r=[])(q:U (.bl true)):Tl (Zby [.str (mkS l)]) U:=by
 have f:Ta l:=λc g=>by have:=hd c g;ac_rfl
 unfold Zby
 symm;rw [lit0];refine ZeP f (Zan rfl) ?_;rw [Vac hn];symm;refine Zue (by ac_rfl) ?_;symm;refine w_sD ?_;symm;refine ⟨_,rfl,?_⟩;symm;rw [litZ];refine ZjL ?_;symm;have b:Tl (ivT (v 0) [Cl.im (D.str (mkS l))]) λd=>d.length<=1000000/\Tl (ZaT (gN 0) yes (o2 dInT (v 0) (c (D.str (Str.ofString "0123456789")))) [Cl.no] d) λj=>Tl (yaa [Cl.im (D.str (mkS l))]) λd=>Tl (bAll (D.lst j::d)) λx=>Tl (endOf (Fl.rt x)) U:=by
  refine ZwD rfl f ?_;refine ⟨by simp;ac_rfl,?_⟩;refine ZaV (enc:=λc=>D.str (mkS [c])) (λ_=>.bl true) (λc g=>?_) ?_
  .symm;rw [litF];refine w_inS ?_;have:=hd c g;have e:[48,49,50,51,52,53,54,55,56,57].contains c=true:=by
    obtain ⟨k,m⟩:=this;have:c=48\/c=49\/c=50\/c=51\/c=52\/c=53\/c=54\/c=55\/c=56\/c=57:=by ac_rfl
    rcases this with rfl | rfl | rfl | rfl | rfl | rfl | rfl | rfl | rfl | rfl<;>rfl
   rw [e]
  .symm;refine Zhs (λy i=>?_) ?_
   .obtain ⟨_,_,rfl⟩:=Vbo.mp i;rfl
   .symm;exact q
 by_cases h:l=[48]
 .subst h;symm;refine Zo4 f f ?_;symm;exact b
 .have e:(List.take [48].length l==[48])=false:=by
   rw [Vad];intro e;cases l with
   | nil=>exact hn rfl
   | cons a r=>
    have:a=48:=by simpa using e
    subst this;exact h (by rw [hh r rfl])
  rw [e];symm;exact b
def ZpE(hl:l.length<=640)(e:intL l=some n)(h:U (.int n)):Tl (Zou [.str (mkS l)]) U:=by
 refine Zak ?_ h;show (if (mkS l).length<=640 then ofO ((intL (cpL (mkS l))).map D.int) else .bad)=_
 rw [ZcP,iP hl,ZaR,e];rfl
def Zkn(m):figL (D10 m)=some m:=by
 unfold figL;rw [iP ⟨ZhT m,Vbp.mpr λc a=>by have:=Zeq a;simp [digB];ac_rfl⟩,Zrl]
def Zm6(n):intL (tI n)=some n:=by
 unfold tI;split
 .next h=>
  show (if 45=45 then (figL (D10 n.natAbs)).map (λn:Nat=>-(n:Int)) else (figL (45::D10 n.natAbs)).map λn:Nat=>(n:Int))=_
  rw [iP rfl,Zkn];show some (-(n.natAbs:Int))=_;congr 1;ac_rfl
 .next h=>
  have a:=Zkn n.natAbs;cases e:D10 n.natAbs with
  | nil=>exact aB e (ZhT _)
  | cons c r=>
   have b:¬c=45:=by
    have:=Zeq (m:=n.natAbs) (c:=c) (by rw [e];exact Vao);ac_rfl
   show (if c=45 then (figL r).map (λn:Nat=>-(n:Int)) else (figL (c::r)).map λn:Nat=>(n:Int))=_
   rw [iN b,<-e,a];show some ((n.natAbs:Int))=_;congr 1;ac_rfl
def Zky{U:D->Prop}{m:Nat}(h:m<10^30)(q:U (.bl true)):Tl (Zby [.str (mkS (D10 m))]) U :=
 ZtV (λc a=>Zeq a) (ZhT m) (Zji (by decide) h) (λr e=>by
  have:=Zko m e rfl;subst this;have b:D10 0=[48]:=by decide +kernel
  rw [b] at e;injection e with _ e
  exact e.symm) q
def Zc7{U:D->Prop}{n:Int}(h:n.natAbs<10^30)(q:U (.int n)):Tl (ZaG [.str (mkS (tI n))]) U:=by
 unfold ZaG;symm;refine w_sD ?_;symm;refine ⟨_,rfl,?_⟩;symm;rw [litM];refine ZjL ?_;symm;have d:tI n≠[45,48]:=by
  intro e;unfold tI at e;split at e
  .next a=>
   injection e with _ e
   have:=Zko n.natAbs e rfl;ac_rfl
  .have:=Zeq (m:=n.natAbs) (c:=45) (by rw [e];exact Vao);ac_rfl
 have j:(tI n).length<=31:=Zeu (by decide) h;by_cases a:n<0
 .have e:tI n=45::D10 n.natAbs:=by unfold tI;rw [iP a]
  have b:(List.take [45].length (tI n)==[45])=true:=by rw [e];rfl
  rw [b,iP rfl];refine Zvx (l:=tI n) rfl (by decide) (by ac_rfl) ?_;rw [show (tI n).drop (1:Int).toNat=D10 n.natAbs by rw [e];rfl];symm;refine Zky h ?_;symm;rw [Zuq];refine ZeP (ZmC n) (Zan rfl) ?_;rw [Vac d];symm;exact ZpE (by ac_rfl) (Zm6 n) (by symm; exact q)
 .have e:tI n=D10 n.natAbs:=by unfold tI;rw [iN a]
  have b:(List.take [45].length (tI n)==[45])=false:=by
   rw [Vad,e];intro g
   have:=Zeq (m:=n.natAbs) (c:=45) (List.mem_of_mem_take (i:=1) (by
    have f:List.take 1 (D10 n.natAbs)=[45]:=g
    rw [f];exact Vao))
   ac_rfl
  rw [b,iN VaC];symm;rw [e];refine Zky h ?_;rw [<-e];symm;rw [Zuq];refine ZeP (ZmC n) (Zan rfl) ?_;rw [Vac d];symm;exact ZpE (by ac_rfl) (Zm6 n) (by symm; exact q)
def ZiO{s:List Nat}{ls:List (List Nat)}(e:Z[j]?=some (.ow (ls.map λl=>D.str (mkS l))))(hl:totL s.length ls.reverse<=1000000)(h:U (.str (mkS (Zaq s ls.reverse)))):Tl (joinRev (mkS s) j Z) U:=by
 refine Zak ?_ h;unfold joinRev;rw [e];show Zjj (mkS s) ((ls.map λl=>D.str (mkS l)).reverse)=_;rw [<-Vcd];exact Zkg hl
def ZbY{n:Int}(h:n.natAbs<10^60)(q:U (.str (mkS (tI n)))):Tl (Zat [.int n]) U:=by
 unfold Zat;symm;refine w_wh (λZ=>Z=[Cl.im (D.int n),Cl.ow [],Cl.im (D.int (n.natAbs:Int))]) (λ_=>0) rfl (by unfold fuel;ac_rfl) ?_;rintro Z rfl;symm;have d:((10:Int)^(60:Int).toNat<=(n.natAbs:Int))=False:=by
  rw [eq_iff_iff,iff_false,show ((10:Int)^(60:Int).toNat)=((10^60:Nat):Int) by decide];ac_rfl
 simp only [d,decide_false];refine ⟨(λz=>nomatch z),λ_=>?_⟩;have c:Sm 256 ((n.natAbs:Int)):=by
  unfold Sm;rw [Vce];exact Vbn h (by decide)
 symm;refine Zfh c (by decide) ?_;have e:tI (n.natAbs:Int)=D10 n.natAbs:=by
  unfold tI;rw [iN (by ac_rfl),Vce]
 rw [e];symm;refine ⟨by simp,?_⟩;symm;have b:=Zji (m:=n.natAbs) (by decide) h;refine Zc8 (λa=>?_) (λa=>?_)
 .symm;refine ⟨by simp,?_⟩;symm;rw [lit0,litM];refine ZiO (ls:=[D10 n.natAbs,[45]]) rfl (by simp [totL];ac_rfl) ?_;symm;have:tI n=Zaq [] [D10 n.natAbs,[45]].reverse:=by unfold tI;rw [iP a];rfl
  rw [<-this];exact q
 .symm;rw [lit0];refine ZiO (ls:=[D10 n.natAbs]) rfl (by simp [totL];ac_rfl) ?_;symm;have:tI n=Zaq [] [D10 n.natAbs].reverse:=by unfold tI;rw [iN a];rfl
  rw [<-this];exact q
def fT(q:Rat):List Nat:=if q.den=1 then tI q.num else tI q.num++47::tI (q.den:Int)
structure B30(q:Rat):Prop where
 n:q.num.natAbs<10^30
 d:q.den<10^30
def sm30(h:n.natAbs<10^30):Sm 128 n:=Vbn h (by decide)
def Zed{q:Rat}{c:Nat}(h:c∈fT q):c=45\/c=47\/(48<=c/\c<=57):=by
 unfold fT at h;split at h
 .have:=Zdq h;ac_rfl
 .rcases Var.mp h with h | h
  .have:=Zdq h;ac_rfl
  .rcases Vaq.mp h with h | h
   .ac_rfl
   .have:=Zdq h;ac_rfl
def Zut(q):Ta (fT q):=λc h=>by have:=Zed h;ac_rfl
def Zgn(h:B30 q):(fT q).length<=63:=by
 have a:=Zeu (n:=q.num) (by decide) h.n;have b:=Zeu (n:=(q.den:Int)) (k:=30) (by decide) (by rw [Vce];exact h.d);unfold fT;split
 .ac_rfl
 .rw [Va5,VaM];ac_rfl
def Ztz:fT q≠[47]:=by
 unfold fT;split
 .intro e;have:=Zdq (n:=q.num) (c:=47) (by rw [e];exact Vao);ac_rfl
 .intro e;have:=Vaw List.length e;rw [Va5,VaM] at this;have a:tI q.num≠[]:=ZwA _;have:0<(tI q.num).length:=List.length_pos_iff.mpr a;simp at *;ac_rfl
def Zc9(h:B30 q)(k:U (.str (mkS (fT q)))):Tl (ZaA [frD q]) U:=by
 have b:=Zeu (n:=q.num) (by decide) h.n;have c:=Zeu (n:=(q.den:Int)) (k:=30) (by decide) (by rw [Vce];exact h.d);unfold ZaA frD;symm;refine Zc8 (λa=>?_) (λa=>?_)
 .symm;refine ZbY (Vbn h.n (by decide)) ?_;symm;have e:fT q=tI q.num:=by unfold fT;rw [iP (by ac_rfl)]
  rw [<-e];exact k
 .symm;refine ZbY (Vbn h.n (by decide)) ?_;symm;rw [litS];refine Zc5 (by simp;ac_rfl) ?_;symm;refine ZbY (by rw [Vce];exact Vbn h.d (by decide)) ?_;refine Zc5 (by simp;ac_rfl) ?_;symm;have e:fT q=tI q.num++[47]++tI (q.den:Int):=by unfold fT;rw [iN (by ac_rfl)];simp
  rw [<-e];exact k
def ZlW{U:D->Prop}{q:Rat}(h:B30 q)(k:U (.str (mkS (fT q)))):Tl (Zdc [frD q]) U:=by
 have c:=Zeu (n:=q.num) (by decide) h.n;have f:=Zeu (n:=(q.den:Int)) (k:=30) (by decide) (by rw [Vce];exact h.d);have b:Sm 128 (q.den:Int):=sm30 (by rw [Vce];exact h.d);unfold Zdc frD;symm;refine Zc8 (λa=>?_) (λa=>?_)
 .symm;refine Zfh (sm30 h.n) (by decide) ?_;symm;have e:fT q=tI q.num:=by unfold fT;rw [iP (by ac_rfl)]
  rw [<-e];exact k
 .symm;refine Zfh (sm30 h.n) (by decide) ?_;symm;rw [litS];refine Zc5 (by simp;ac_rfl) ?_;symm;refine Zfh b (by decide) ?_;refine Zc5 (by simp;ac_rfl) ?_;symm;have e:fT q=tI q.num++[47]++tI (q.den:Int):=by unfold fT;rw [iN (by ac_rfl)];simp
  rw [<-e];exact k
def Zc4{U:D->Prop}{q:Rat}(h:B30 q)(k:U (frD q)):Tl (ZaC [.str (mkS (fT q))]) U:=by
 unfold ZaC;symm;rw [litS];refine ZtM ?_;by_cases hd:q.den=1
 .have e:fT q=tI q.num:=by unfold fT;rw [iP hd]
  have a:(fT q).contains 47=false:=by
   rw [Vcc,decide_eq_false_iff_not,e];intro b;have:=Zdq b;ac_rfl
  rw [a];symm;rw [e];refine Zc7 h.n ?_;symm;have:frD q=.tup [.int q.num,.int 1]:=by unfold frD;rw [hd];rfl
  rw [<-this];exact k
 .have e:fT q=tI q.num++47::tI (q.den:Int):=by unfold fT;rw [iN hd]
  have a:(fT q).contains 47=true:=by
   rw [Vcc,Vcb,e];exact VaI _ Vao
  rw [a];symm;refine w_sD ?_;symm;refine ⟨_,rfl,?_⟩;symm;rw [e];have c:=Zgn h;rw [e] at c;refine Zrc (λb=>by have:=Zdq b;ac_rfl) (by ac_rfl) ?_;symm;refine Zc7 h.n ?_;symm;refine Zc7 (by rw [Vce];exact h.d) ?_;symm;refine Zca (q:=q) ?_;symm;exact k
def Zfo{U:D->Prop}{c:Str}{g:List D->Fs->Res Fs}{a:MA}{Z:Ev}(h:Tl (a Z) λds=>∃fl,g ds []=.ok fl/\U (.ins c (fl.map (·.1)) (fl.map (·.2)))):Tl (make c g a Z) U:=by
 obtain ⟨ds,d,fl,b,q⟩:=h;refine Zak ?_ q;unfold make;rw [d];show (g ds []).bind _=_;rw [b];rfl
abbrev S(l:List Nat):D:=.str (mkS l)
def Zcc{s x:List Nat}{r:List (List Nat)}(h:r≠[]):Zaq s (x::r)=x++s++Zaq s r:=by
 cases r with
 | nil=>exact aB rfl h
 | cons y r=>rfl
def Zci{s:List Nat}{b:List (List Nat)}(hb:b≠[]):∀{a:List (List Nat)},a≠[]->Zaq s (a++b)=Zaq s a++s++Zaq s b
 | [],h=>aB rfl h
 | [x],_=>Zcc hb
 | x::y::r,_=>by
  have ih:=Zci (s:=s) hb (a:=y::r) (by simp);show Zaq s (x::((y::r)++b))=_;rw [Zcc (by simp),ih,Zcc (s:=s) (x:=x) (r:=y::r) (by simp)];simp [VbJ]
def Zfd{α:Type}{s:List Nat}(f:α->List (List Nat))(hf:∀a,f a≠[]):∀(l:List α) {ws:List (List Nat)},ws≠[]->Zaq s (ws++l.map λa=>Zaq s (f a))=Zaq s (ws++l.flatMap f)
 | [],ws,_=>rfl
 | a::r,ws,h=>by
  have d:ws++(a::r).map (λa=>Zaq s (f a))=(ws++[Zaq s (f a)])++r.map λa=>Zaq s (f a):=by simp
  have c:ws++(a::r).flatMap f=(ws++f a)++r.flatMap f:=by simp
  rw [d,Zfd f hf r (by simp),c];cases hr:r.flatMap f with
  | nil=>rw [VaT,VaT,Zci (by simp) h,Zci (hf a) h];rfl
  | cons p q=>
   rw [Zci (a:=ws++[Zaq s (f a)]) (b:=p::q) (by simp) (by simp),Zci (a:=ws++f a) (b:=p::q) (by simp) (by simp [h]),Zci (a:=ws) (b:=[Zaq s (f a)]) (by simp) h,Zci (a:=ws) (b:=f a) (hf a) h];rfl
def ZaY{s:List Nat}{c:Nat}:∀{ls:List (List Nat)},c∈Zaq s ls->c∈s\/∃l∈ls,c∈l
 | [],h=>(VbS h).elim
 | [x],h=>.inr ⟨x,Vao,h⟩
 | x::y::r,h=>by
  rw [Zcc (by simp)] at h;rcases Var.mp h with h | h
  .rcases Var.mp h with h | h
   .exact .inr ⟨x,Vao,h⟩
   .exact .inl h
  .rcases ZaY h with h | ⟨l,hl,h⟩
   .exact .inl h
   .exact .inr ⟨l,Vap _ hl,h⟩
def ZaL{s:List Nat}:∀(ls:List (List Nat)),(Zaq s ls).length<=totL s.length ls
 | []=>VaR _
 | [x]=>by unfold totL;simp [Zaq]
 | x::y::r=>by
  have ih:=ZaL (s:=s) (y::r);rw [Zcc (by simp),Va5,Va5];unfold totL at ih ⊢;simp only [VaN,List.sum_cons,VaM,Nat.add_mul] at ih ⊢;ac_rfl
def ZdG{s B:Nat}:∀{ls:List (List Nat)},(∀l∈ls,l.length<=B)->totL s ls<=ls.length*(B+s)
 | [],_=>by simp [totL]
 | x::r,h=>by
  have ih:=ZdG (s:=s) (B:=B) (ls:=r) λl a=>h l (Vap _ a);have b:=h x Vao;unfold totL at ih ⊢;simp only [VaN,List.sum_cons,VaM,Nat.add_mul] at ih ⊢;ac_rfl
def rwT(w:Nat)(R:Nat->Rat):List Nat:=Zaq [44] ((List.range w).map λj=>fT (R j))
def patT(h w:Nat)(P:Nat->Nat->Rat):List Nat:=Zaq [59] ((List.range h).map λi=>rwT w (P i))
def litC:Str.ofString ","=mkS [44]:=by decide +kernel
def Zuf:Str.ofString ";"=mkS [59]:=by decide +kernel
def litB:Str.ofString " "=mkS [32]:=by decide +kernel
def ZhE{w:Nat}{R:Nat->Rat}(hw:w<=16)(hR:∀j,j<w->B30 (R j)):totL 1 ((List.range w).map λj=>fT (R j))<=1024:=by
 refine Vak (ZdG (B:=63) λl b=>?_) (by rw [VaO,VbD];ac_rfl);obtain ⟨j,a,rfl⟩:=Vbo.mp b;exact Zgn (hR j (Vaj.mp a))
def Zg3{h w:Nat}{P:Nat->Nat->Rat}(hh:h<=16)(hw:w<=16)(hP:∀i,i<h->∀j,j<w->B30 (P i j)):totL 1 ((List.range h).map λi=>rwT w (P i))<=16400:=by
 refine Vak (ZdG (B:=1024) λl b=>?_) (by rw [VaO,VbD];ac_rfl);obtain ⟨i,a,rfl⟩:=Vbo.mp b;exact Vak (ZaL _) (ZhE hw (hP i (Vaj.mp a)))
def Zmt{U:D->Prop}{h w:Nat}{P:Nat->Nat->Rat}(hh:h<=16)(hw:w<=16)(hP:∀i,i<h->∀j,j<w->B30 (P i j))(q:U (S (patT h w P))):Tl (ZbO [patD h w P]) U:=by
 unfold ZbO patD;symm;refine w_sD ?_;symm;refine ⟨_,rfl,?_⟩;symm;refine ⟨by simp;ac_rfl,?_⟩;refine ZaV (λi=>S (rwT w (P i))) (λi a=>?_) ?_
 .unfold rowD;symm;refine w_sD ?_;symm;refine ⟨_,rfl,?_⟩;symm;refine ⟨by simp;ac_rfl,?_⟩;refine ZaV (λj=>S (fT (P i j))) (λj b=>?_) ?_
  .symm;exact Zc9 (hP i (Vaj.mp a) j (Vaj.mp b)) rfl
  .symm;rw [litC,show (List.range w).map (λj=>S (fT (P i j)))=((List.range w).map λj=>fT (P i j)).map S by rw [VbH];rfl];exact ZcS (Vak (ZhE hw (hP i (Vaj.mp a))) (by decide)) rfl
 .symm;rw [Zuf,show (List.range h).map (λi=>S (rwT w (P i)))=((List.range h).map λi=>rwT w (P i)).map S by rw [VbH];rfl];exact ZcS (Vak (Zg3 hh hw hP) (by decide)) (by symm; exact q)
def nsC(x y w h:Int)(vs:List Int):List Int:=x::y::w::h::vs
def wdC(ns:List Int):List (List Nat):=[47]::ns.map tI
def tI7{n:Int}(h:Bd n):(tI n).length<=8:=Zeu (k:=7) (by decide) (by unfold Bd at h;ac_rfl)
def Zm4{ns:List Int}(hl:ns.length<=7)(hb:∀n∈ns,Bd n):totL 1 (wdC ns)<=80:=by
 refine Nat.le_trans (ZdG (B:=8) λl hl=>?_) (by unfold wdC;rw [List.length_cons,List.length_map];ac_rfl);rcases Vaq.mp hl with rfl | hl
 .simp
 .obtain ⟨n,a,rfl⟩:=Vbo.mp hl;exact tI7 (hb n a)
def Znk{U:D->Prop}{x y w h:Int}{vs:List Int}(hl:vs.length<=3)(hb:∀n∈nsC x y w h vs,Bd n)(q:U (S (Zaq [32] (wdC (nsC x y w h vs))))):Tl (Zb6 [cor x y w h vs]) U:=by
 unfold Zb6 cor;symm;refine w_sD ?_;symm;refine ⟨_,rfl,?_⟩;symm;unfold ZdE;symm;rw [show cutL [D.int x,D.int y,D.int w,D.int h,D.tup (List.map D.int vs)] none (some 4)=[D.int x,D.int y,D.int w,D.int h] from rfl];refine ZgN (by simp;ac_rfl) ?_;rw [show [D.int x,D.int y,D.int w,D.int h]++vs.map D.int=(nsC x y w h vs).map D.int from rfl];symm;have b:(nsC x y w h vs).length<=7:=by simp [nsC];ac_rfl
 generalize nsC x y w h vs=ns at *;refine ⟨by simp;ac_rfl,?_⟩;refine ZaV (λn=>S (tI n)) (λn a=>?_) ?_
 .symm;have:=hb n a;exact ZbY (by unfold Bd at this;ac_rfl) rfl
 rw [litS,litB];refine ZgN (by simp;ac_rfl) ?_;rw [show [D.str (mkS [47])]++ns.map (λn=>S (tI n))=(wdC ns).map S by unfold wdC;simp];refine ZcS (Vak (Zm4 b hb) (by decide)) ?_;symm;exact q
inductive Kd where
 | pl (q:Rat) | sh | pa (h w:Nat) (P:Nat->Nat->Rat) | gl (q r:Rat)
def thD:Kd->D->D
 | .pl q,T=>.ins "Plain" ["triangle","colour"] [T,frD q]
 | .sh,T=>.ins "Shaded" ["triangle"] [T]
 | .pa h w P,T=>.ins "Patterned" ["triangle","pattern"] [T,patD h w P]
 | .gl q r,T=>.ins "Glass" ["triangle","colour","part"] [T,frD q,frD r]
def lPl:List Nat:=[112,108,97,105,110]
def lSh:List Nat:=[115,104,97,100,101,100]
def lPa:List Nat:=[112,97,116,116,101,114,110,101,100]
def lGl:List Nat:=[103,108,97,115,115]
def Zib:Str.ofString "plain"=mkS lPl:=by decide +kernel
def Zo5:Str.ofString "shaded"=mkS lSh:=by decide +kernel
def ZlD:Str.ofString "patterned"=mkS lPa:=by decide +kernel
def ZqY:Str.ofString "glass"=mkS lGl:=by decide +kernel
def hdW:Kd->List (List Nat)
 | .pl q=>[lPl,fT q]
 | .sh=>[lSh]
 | .pa h w P=>[lPa,patT h w P]
 | .gl q r=>[lGl,fT q,fT r]
def KOk(k:Nat):Kd->Prop
 | .pl q=>B30 q
 | .sh=>1<=k
 | .pa h w P=>2<=k/\Ct h/\Ct w/\∀i,i<h->∀j,j<w->B30 (P i j)
 | .gl q r=>B30 q/\B30 r/\0<=r.num/\r.num<=r.den
def ZiY{U:D->Prop}{k:Nat}{K:Kd}{T:D}(hk:KOk k K)(q:U (.lst ((hdW K).map S))):Tl (ZcG [thD K T]) U:=by
 unfold ZcG;cases K with
 | pl c0=>
  unfold thD;symm;refine ZgZ ?_;symm;refine ⟨_,_,_,Zb9,rfl,by decide +kernel,by rfl,?_⟩;symm;unfold Zb9;symm;rw [Zib];refine ZeP (Zan rfl) (Zan rfl) ?_;symm;refine Zak (fC1 _ _) ?_;symm;refine Zc9 hk ?_;symm;exact q
 | sh=>
  unfold thD;symm;refine ZgZ ?_;symm;refine ⟨_,_,_,ZbR,rfl,by decide +kernel,by rfl,?_⟩;symm;unfold ZbR;symm;rw [Zib,Zo5];refine ZeP (Zan rfl) (Zan rfl) ?_;rw [Vac (show lSh≠lPl by decide)];symm;rw [ZlD];refine ZeP (Zan rfl) (Zan rfl) ?_;rw [Vac (show lSh≠lPa by decide)];symm;rw [ZqY];refine ZeP (Zan rfl) (Zan rfl) ?_;rw [Vac (show lSh≠lGl by decide)];symm;exact q
 | pa h w P=>
  obtain ⟨i,a,d,c⟩:=hk;unfold thD;symm;refine ZgZ ?_;symm;refine ⟨_,_,_,Zbb,rfl,by decide +kernel,by rfl,?_⟩;symm;unfold Zbb;symm;rw [Zib,ZlD];refine ZeP (Zan rfl) (Zan rfl) ?_;rw [Vac (show lPa≠lPl by decide)];symm;refine ZeP (Zan rfl) (Zan rfl) ?_;symm;refine Zak (fN3 _ _) ?_;symm;refine Zmt a.le.2 d.le.2 c ?_;symm;exact q
 | gl c0 r=>
  obtain ⟨b,e,g,f⟩:=hk;unfold thD;symm;refine ZgZ ?_;symm;refine ⟨_,_,_,Zb7,rfl,by decide +kernel,by rfl,?_⟩;symm;unfold Zb7;symm;rw [Zib,ZqY];refine ZeP (Zan rfl) (Zan rfl) ?_;rw [Vac (show lGl≠lPl by decide)];symm;rw [ZlD];refine ZeP (Zan rfl) (Zan rfl) ?_;rw [Vac (show lGl≠lPa by decide)];symm;refine ZeP (Zan rfl) (Zan rfl) ?_;symm;refine Zak (fC4 _ _ _) ?_;symm;refine Zc9 b ?_;symm;refine Zak (fP4 _ _ _) ?_;symm;refine Zc9 e ?_;symm;exact q
def fTri(K:Kd)(T:D):dFld objs "triangle" (thD K T)=.ok T:=by cases K<;>rfl
def Zni(K:Kd):hdW K≠[]:=by cases K<;>simp [hdW]
def Zm0{k:Nat}{K:Kd}(hk:KOk k K):totL 1 (hdW K)<=17000:=by
 cases K with
 | pl q=>have:=Zgn hk;simp [totL,hdW,lPl];ac_rfl
 | sh=>simp [totL,hdW,lSh]
 | pa h w P=>
  obtain ⟨g,a,d,c⟩:=hk;have:=Vak (ZaL (s:=[59]) ((List.range h).map λi=>rwT w (P i))) (Zg3 a.le.2 d.le.2 c);have e:(patT h w P).length<=16400:=this;simp [totL,hdW,lPa];ac_rfl
 | gl q r=>
  obtain ⟨b,f,_⟩:=hk;have:=Zgn b;have:=Zgn f;simp [totL,hdW,lGl];ac_rfl
abbrev C5:=Int×Int×Int×Int×List Int
def encC(c:C5):D:=cor c.1 c.2.1 c.2.2.1 c.2.2.2.1 c.2.2.2.2
def nsOf(c:C5):List Int:=nsC c.1 c.2.1 c.2.2.1 c.2.2.2.1 c.2.2.2.2
structure C5k(k:Nat)(c:C5):Prop where
 l:c.2.2.2.2.length=k
 k3:k<=3
 b:∀n∈nsOf c,Bd n
structure Cs(k:Nat)(T:D)(cs:List C5):Prop where
 e:T=.tup (cs.map encC)
 l:cs.length=3
 b:∀c∈cs,C5k k c
def ZqL{x y w h:Int}{vs:List Int}(c:Ck x y w h)(hv:∀v∈vs,Bd v):∀n∈nsC x y w h vs,Bd n:=by
 intro n hn;unfold nsC at hn;have a:=c.w;have b:=c.h;simp only [Vaq] at hn;rcases hn with rfl | rfl | rfl | rfl | hn
 .exact c.x
 .exact c.y
 .unfold Bd;ac_rfl
 .unfold Bd;ac_rfl
 .exact hv n hn
def Zv1{k:Nat}{T:D}(hk:k<=3)(h:Tr k T):∃cs,Cs k T cs:=by
 obtain ⟨d,z,b,r,n,s,u,f,e,x,q,l,y,p,g,rfl,j,o,w,i,t,m,v,A,B⟩:=h;refine ⟨[(d,z,b,r,y),(n,s,u,f,p),(e,x,q,l,g)],rfl,rfl,λc a=>?_⟩;simp only [Vaq,VbS,VbT] at a;rcases a with rfl | rfl | rfl
 .exact ⟨i,hk,ZqL j v⟩
 .exact ⟨t,hk,ZqL o A⟩
 .exact ⟨m,hk,ZqL w B⟩
def C5k.n7{k:Nat}{c:C5}(h:C5k k c):(nsOf c).length=4+k:=by
 have:=h.l;unfold nsOf nsC;simp only [VaM];ac_rfl
def wdO(c:C5):List (List Nat):=wdC (nsOf c)
def ZpB(c:C5):wdO c≠[]:=by simp [wdO,wdC]
def C5k.tot{k:Nat}{c:C5}(h:C5k k c):totL 1 (wdO c)<=80:=Zm4 (by rw [h.n7];have:=h.k3;ac_rfl) h.b
def rowW(K:Kd)(cs:List C5):List (List Nat):=hdW K++cs.flatMap wdO
def Zjk{U:D->Prop}{k:Nat}{K:Kd}{T:D}{cs:List C5}(hk:KOk k K)(h:Cs k T cs)(q:U (S (Zaq [32] (rowW K cs)))):Tl (ZaK [thD K T]) U:=by
 obtain ⟨rfl,i,g⟩:=h;have f:=Zm0 hk;have d:(hdW K).length<=3:=by cases K<;>simp [hdW]
 unfold ZaK;symm;refine w_sD ?_;symm;refine ⟨_,rfl,?_⟩;symm;refine ZiY hk ?_;symm;refine Zak (fTri _ _) ?_;symm;refine ⟨by simp;ac_rfl,?_⟩;refine ZaV (λc=>S (Zaq [32] (wdO c))) (λc a=>?_) ?_
 .symm;have:=g c a;exact Znk (by rw [this.l];exact this.k3) this.b rfl
 rw [litB];refine ZgN (by simp;ac_rfl) ?_;rw [show (hdW K).map S++cs.map (λc=>S (Zaq [32] (wdO c)))=(hdW K++cs.map λc=>Zaq [32] (wdO c)).map S by simp];refine ZcS ?_ ?_
 .unfold totL at f ⊢;have e:totL 1 (cs.map λc=>Zaq [32] (wdO c))<=3*81:=by
   refine Vak (ZdG (B:=80) λl d=>?_) (by rw [VaO];ac_rfl);obtain ⟨c,a,rfl⟩:=Vbo.mp d;exact Vak (ZaL _) (g c a).tot
  unfold totL at e;simp only [VbX,List.sum_append,Va5,Vbj,Nat.mul_one] at f e ⊢;ac_rfl
 .symm;rw [Zfd wdO ZpB cs (Zni K)];exact q
def nsW(c:C5):List (List Nat):=(nsOf c).map tI
def Zvk(c:C5):wdO c=[47]::nsW c:=rfl
section
variable{nt:MB}{Z:Ev}
def ZiZ:∀(l:List (List Nat)) (rest:List D) (gs:List (List D)) (g:List D),(∀w∈l,nt ((Z.set 1 .no).set 2 (.im (S w)))=.ok false)->Zcs 1 2 nt Z (l.map S++rest) gs g=Zcs 1 2 nt Z rest gs (g++l.map S)
 | [],rest,gs,g,_=>by simp
 | w::r,rest,gs,g,h=>by
  show Zcs 1 2 nt Z (S w::(r.map S++rest)) gs g=_;rw [Zcs,h w Vao];show Zcs 1 2 nt Z (r.map S++rest) gs (g++[S w])=_;rw [ZiZ r rest gs (g++[S w]) λu a=>h u (Vap _ a)];simp
def Zln(hs:nt ((Z.set 1 .no).set 2 (.im (S [47])))=.ok true):∀(cs:List C5) (gs:List (List D)) (g:List D),(∀c∈cs,∀w∈nsW c,nt ((Z.set 1 .no).set 2 (.im (S w)))=.ok false)->Zcs 1 2 nt Z ((cs.flatMap wdO).map S) gs g=.ok (gs++[g]++cs.map λc=>(nsW c).map S)
 | [],gs,g,_=>by simp [Zcs]
 | c::r,gs,g,h=>by
  have e:((c::r).flatMap wdO).map S=S [47]::((nsW c).map S++(r.flatMap wdO).map S):=by rw [List.flatMap_cons,Zvk];simp
  rw [e,Zcs,hs];show Zcs 1 2 nt Z ((nsW c).map S++(r.flatMap wdO).map S) (gs++[g]) []=_;rw [ZiZ _ _ _ _ (h c Vao),Zln hs r _ _ λc a=>h c (Vap _ a)];simp
end
def Zn0{U:D->Prop}{ws:List (List Nat)}{cs:List C5}(hw:∀w∈ws,Ta w/\w≠[47])(hl:(ws++cs.flatMap wdO).length<1000)(q:U (.lst (.lst (ws.map S)::cs.map λc=>.lst ((nsW c).map S)))):Tl (Zdk [.lst ((ws++cs.flatMap wdO).map S)]) U:=by
 have a:∀w:List Nat,Ta w->trb (o2 dEq (v 2) (c (.str "/"))) (([Cl.im (.lst ((ws++cs.flatMap wdO).map S)),.no,.no].set 1 .no).set 2 (.im (S w)))=.ok (decide (w=[47])):=by
  intro w hw;refine Tl.eq ?_;dsimp only [List.set_cons_zero,List.set_cons_succ];symm;rw [litS];refine ZeP hw (Zan rfl) ?_;symm
 have b:grp 1 2 0 (trb (o2 dEq (v 2) (c (.str "/")))) [Cl.im (.lst ((ws++cs.flatMap wdO).map S)),.no,.no]=.ok (.rt (.lst (.lst (ws.map S)::cs.map λc=>.lst ((nsW c).map S)))):=by
  unfold grp;show (if (true&&decide (1<3)&&decide (2<3)&&decide (((ws++cs.flatMap wdO).map S).length<1000))=true then (Zcs 1 2 (trb (o2 dEq (v 2) (c (.str "/")))) [Cl.im (.lst ((ws++cs.flatMap wdO).map S)),.no,.no] ((ws++cs.flatMap wdO).map S) [] []).bind λd=>Res.ok (Fl.rt (D.lst (d.map D.lst))) else Res.bad)=_
  rw [VaO,Vbk hl];show (Zcs 1 2 (trb (o2 dEq (v 2) (c (.str "/")))) [Cl.im (.lst ((ws++cs.flatMap wdO).map S)),.no,.no] ((ws++cs.flatMap wdO).map S) [] []).bind (λd=>Res.ok (Fl.rt (D.lst (d.map D.lst))))=_;have e:Zcs 1 2 (trb (o2 dEq (v 2) (c (.str "/")))) [Cl.im (.lst ((ws++cs.flatMap wdO).map S)),.no,.no] ((ws++cs.flatMap wdO).map S) [] []=.ok (ws.map S::cs.map λc=>(nsW c).map S):=by
   have g:(ws++cs.flatMap wdO).map S=ws.map S++(cs.flatMap wdO).map S:=VbX
   conv=>lhs;arg 5;rw [g]
   rw [ZiZ ws _ _ _ λw h=>by rw [a w (hw w h).1,Vac (hw w h).2]]
   rw [Zln (a [47] (Zan rfl)) cs _ _ λc j w f=>by
    obtain ⟨n,i,rfl⟩:=Vbo.mp f
    rw [a _ (ZmC n),Vac λe=>by
     have:=Zdq (n:=n) (c:=47) (by rw [e];exact Vao)
     ac_rfl]]
   simp
  rw [e];show Res.ok (Fl.rt (D.lst ((ws.map S::cs.map λc=>(nsW c).map S).map D.lst)))=_;rw [VaN,VbH];rfl
 unfold Zdk;symm;refine Zak b ?_;symm;exact q
def cut4(a b c d:D)(r:List D):cutL (a::b::c::d::r) (some 4) none=r:=by
 unfold cutL cutAt;have:min (4:Int).toNat (a::b::c::d::r).length=4:=by simp
 simp only [];rw [iN (by decide),this];simp
def Zlt{U:D->Prop}{k:Nat}{c:C5}(h:C5k k c)(q:U (encC c)):Tl (Zcb [.lst ((nsW c).map S)]) U:=by
 have d:=h.n7;have f:=h.k3;have e:=h.b;unfold Zcb;symm;rw [show ((nsW c).map S).length=4+k by rw [List.length_map];unfold nsW;rw [List.length_map];exact d];symm;refine ⟨by ac_rfl,?_⟩;rw [show (nsW c).map S=(nsOf c).map (λn=>S (tI n)) by unfold nsW;rw [List.map_map];rfl];refine ZaV (λn=>D.int n) (λn a=>?_) ?_
 .symm;have:=e n a;exact Zc7 (by unfold Bd at this;ac_rfl) rfl
 rw [show (nsOf c).map (λn=>D.int n)=.int c.1::.int c.2.1::.int c.2.2.1::.int c.2.2.2.1::c.2.2.2.2.map .int from rfl];symm;rw [cut4];symm;exact q
def Zp7:∀as bs:List (List Nat),eqDs (as.map S) (bs.map S)=decide (as=bs)
 | [],[]=>by simp [eqDs]
 | [],_::_=>by simp [eqDs]
 | _::_,[]=>by simp [eqDs]
 | a::as,b::bs=>by
  show (eqD (S a) (S b)&&eqDs (as.map S) (bs.map S))=_;rw [Zp7 as bs];show ((mkS a==mkS b)&&_)=_;rw [Zjy,Bool.eq_iff_iff];simp
def Zg5{as:List (List Nat)}(h:∀a∈as,Ta a):∀k,Zay k (as.map S)=true:=by
 intro k
 induction as with
 | nil=>simp [Zay]
 | cons a r ih=>
  show (plain k (S a)&&Zay k (r.map S))=true;rw [ih λx b=>h x (Vap _ b),Bool.and_true];cases k<;>exact (h a Vao).pl
def ZpM{U:D->Prop}{as bs:List (List Nat)}(ha:∀a∈as,Ta a)(hb:∀b∈bs,Ta b)(h:U (.bl (decide (as=bs)))):Tl (dEq (.lst (as.map S)) (.lst (bs.map S))) U:=by
 refine Zak (x:=.bl (decide (as=bs))) ?_ h;unfold dEq;have d:plain 50 (.lst (as.map S))=true:=Zg5 ha 49;have c:plain 50 (.lst (bs.map S))=true:=Zg5 hb 49;rw [d,c];show Res.ok (D.bl (eqDs (as.map S) (bs.map S)))=_;rw [Zp7]
def ZlI{U:D->Prop}{h w:Nat}{P:Nat->Nat->Rat}(hh:Ct h)(hw:Ct w)(hP:∀i,i<h->∀j,j<w->B30 (P i j))(q:U (patD h w P)):Tl (ZbP [S (patT h w P)]) U:=by
 have f:=hh.le;have d:=hw.le;have n:=Zg3 f.2 d.2 hP;have o:=Vak (ZaL (s:=[59]) ((List.range h).map λi=>rwT w (P i))) n;unfold ZbP;symm;symm;refine w_sD ?_;symm;refine ⟨_,rfl,?_⟩;symm;rw [Zuf];refine ZdR (by show (patT h w P).length<=_;exact Vak o (by decide)) ?_;have e:Zbc 59 (patT h w P)=(List.range h).map λi=>rwT w (P i):=by
  refine ZaO (by simp;ac_rfl) λr c=>?_;obtain ⟨i,_,rfl⟩:=Vbo.mp c;intro a;rcases ZaY a with a | ⟨l,hl,a⟩
  .simp at a
  .obtain ⟨j,_,rfl⟩:=Vbo.mp hl;have:=Zed a;ac_rfl
 rw [e,VbH];symm;refine ⟨by simp;ac_rfl,?_⟩;refine ZaV (enc:=(λl=>D.str (mkS l)) ∘ λi=>rwT w (P i)) (λi=>rowD w (P i)) (λi b=>?_) ?_
 .have b:=Vaj.mp b;have g:=Vak (ZaL (s:=[44]) ((List.range w).map λj=>fT (P i j))) (ZhE d.2 (hP i b));dsimp only [Function.comp];symm;refine w_sD ?_;symm;refine ⟨_,rfl,?_⟩;symm;rw [litC];refine ZdR (by show (rwT w (P i)).length<=_;exact Vak g (by decide)) ?_;have m:Zbc 44 (rwT w (P i))=(List.range w).map λj=>fT (P i j):=by
   refine ZaO (by simp;ac_rfl) λr c=>?_;obtain ⟨j,_,rfl⟩:=Vbo.mp c;intro a;have:=Zed a;ac_rfl
  rw [m,VbH];symm;refine ⟨by simp;ac_rfl,?_⟩;refine ZaV (enc:=(λl=>D.str (mkS l)) ∘ λj=>fT (P i j)) (λj=>frD (P i j)) (λj k=>?_) ?_
  .dsimp only [Function.comp];symm;exact Zc4 (hP i b j (Vaj.mp k)) rfl
  .rfl
 .symm;exact q
def Zhp{h w:Nat}{P:Nat->Nat->Rat}{c:Nat}(hc:c∈patT h w P):c=44\/c=45\/c=47\/c=59\/(48<=c/\c<=57):=by
 rcases ZaY hc with hm | ⟨l,hl,hm⟩
 .simp at hm;ac_rfl
 .obtain ⟨i,_,rfl⟩:=Vbo.mp hl;rcases ZaY hm with hm | ⟨l,hl,hm⟩
  .simp at hm;ac_rfl
  .obtain ⟨j,_,rfl⟩:=Vbo.mp hl;have:=Zed hm;ac_rfl
def ZnG(h w:Nat)(P:Nat->Nat->Rat):Ta (patT h w P):=λc a=>by have:=Zhp a;ac_rfl
def Zry{h w:Nat}{P:Nat->Nat->Rat}(hh:0<h)(hw:0<w):patT h w P≠[47]:=by
 intro e;have d:Zbc 59 (patT h w P)=(List.range h).map λi=>rwT w (P i):=by
  refine ZaO (by simp;ac_rfl) λr c=>?_;obtain ⟨i,_,rfl⟩:=Vbo.mp c;intro a;rcases ZaY a with a | ⟨l,hl,a⟩
  .simp at a
  .obtain ⟨j,_,rfl⟩:=Vbo.mp hl;have:=Zed a;ac_rfl
 rw [e,show Zbc 59 [47]=[[47]] by decide] at d;have f:h=1:=by
  have:=Vaw List.length d;simpa using this.symm
 subst f;have k:rwT w (P 0)=[47]:=by simpa using d.symm
 have b:Zbc 44 (rwT w (P 0))=(List.range w).map λj=>fT (P 0 j):=by
  refine ZaO (by simp;ac_rfl) λr c=>?_;obtain ⟨j,_,rfl⟩:=Vbo.mp c;intro a;have:=Zed a;ac_rfl
 rw [k,show Zbc 44 [47]=[[47]] by decide] at b;have g:w=1:=by
  have:=Vaw List.length b;simpa using this.symm
 subst g;exact Ztz (q:=P 0 0) (by simpa using b.symm)
def Zkp{k:Nat}{K:Kd}(hk:KOk k K):∀w∈hdW K,Ta w/\w≠[47]/\32∉w:=by
 have f:∀q:Rat,Ta (fT q)/\fT q≠[47]/\32∉fT q:=λq=>⟨Zut q,Ztz,λh=>by have:=Zed h;ac_rfl⟩;intro w a;cases K with
 | pl q=>
  simp only [hdW,Vaq,VbS,VbT] at a;rcases a with rfl | rfl
  .exact ⟨Zan rfl,by decide,by decide⟩
  .exact f _
 | sh=>
  simp only [hdW,Vaq,VbS,VbT] at a;subst a;exact ⟨Zan rfl,by decide,by decide⟩
 | pa h w P=>
  obtain ⟨e,c,b,d⟩:=hk;simp only [hdW,Vaq,VbS,VbT] at a;rcases a with rfl | rfl
  .exact ⟨Zan rfl,by decide,by decide⟩
  .exact ⟨ZnG _ _ _,Zry (by have:=c.le;ac_rfl) (by have:=b.le;ac_rfl),λh=>by have:=Zhp h;ac_rfl⟩
 | gl q r=>
  simp only [hdW,Vaq,VbS,VbT] at a;rcases a with rfl | rfl | rfl
  .exact ⟨Zan rfl,by decide,by decide⟩
  .exact f _
  .exact f _
def ZiG{U:D->Prop}{a b:List Nat}(ha:Ta a)(hb:Ta b)(h:U (.bl (decide (a=b)))):Tl (dEq (.lst [S a]) (.lst [S b])) U:=by
 refine ZpM (as:=[a]) (bs:=[b]) (by simpa using ha) (by simpa using hb) ?_;rw [show decide ([a]=[b])=decide (a=b) by simp];exact h
def Ztt{U:D->Prop}{as:List D}{b:List Nat}{ws:List (List Nat)}(e:as=ws.map S)(hw:∀a∈ws,Ta a)(hb:Ta b)(hne:ws≠[b])(h:U (.bl false)):Tl (dEq (.lst as) (.lst [S b])) U:=by
 subst e;refine ZpM (bs:=[b]) hw (by simpa using hb) ?_;rw [Vac hne];exact h
def cut1(a:D)(r:List D):cutL (a::r) none (some 1)=[a]:=by
 unfold cutL cutAt;have:min (1:Int).toNat (a::r).length=1:=by simp
 simp only [];rw [iN (by decide),this];simp
def ZlG{U:D->Prop}{k:Nat}{K:Kd}{T:D}(hk:KOk k K)(k3:k<=3)(ht:Tr k T)(q:U (thD K T)):Tl (ZdP [.lst ((hdW K).map S),T]) U:=by
 have ok:=λw h=>(Zkp hk w h).1;unfold ZdP;cases K with
 | pl c0=>
  show Tl (fn 2 _ [.lst [S lPl,S (fT c0)],T]) U;symm;rw [Zib,cut1];refine ZiG (Zan rfl) (Zan rfl) ?_;symm;refine Zfo ?_;symm;refine Zc4 hk ?_;symm;refine ⟨_,Zmp k3 ht,?_⟩;symm;exact q
 | sh=>
  show Tl (fn 2 _ [.lst [S lSh],T]) U;symm;rw [Zib,cut1];refine ZiG (Zan rfl) (Zan rfl) ?_;rw [Vac (show lSh≠lPl by decide)];symm;rw [Zo5];refine ZiG (Zan rfl) (Zan rfl) ?_;symm;refine Zfo ?_;symm;refine ⟨_,Zj9 k3 ht hk,?_⟩;symm;exact q
 | pa h w P=>
  obtain ⟨g,a,b,f⟩:=hk;show Tl (fn 2 _ [.lst [S lPa,S (patT h w P)],T]) U;symm;rw [Zib,cut1];refine ZiG (Zan rfl) (Zan rfl) ?_;rw [Vac (show lPa≠lPl by decide)];symm;rw [Zo5];refine Ztt (ws:=[lPa,patT h w P]) rfl ok (Zan rfl) (by simp) ?_;symm;rw [ZlD,cut1];refine ZiG (Zan rfl) (Zan rfl) ?_;symm;refine Zfo ?_;symm;refine ZlI a b f ?_;symm;refine ⟨_,ZpW k3 ht g a b,?_⟩;symm;exact q
 | gl c0 r=>
  obtain ⟨c,i,e,d⟩:=hk;show Tl (fn 2 _ [.lst [S lGl,S (fT c0),S (fT r)],T]) U;symm;rw [Zib,cut1];refine ZiG (Zan rfl) (Zan rfl) ?_;rw [Vac (show lGl≠lPl by decide)];symm;rw [Zo5];refine Ztt (ws:=[lGl,fT c0,fT r]) rfl ok (Zan rfl) (by simp) ?_;symm;rw [ZlD,cut1];refine ZiG (Zan rfl) (Zan rfl) ?_;rw [Vac (show lGl≠lPa by decide)];symm;rw [ZqY,cut1];refine ZiG (Zan rfl) (Zan rfl) ?_;symm;refine Zfo ?_;symm;refine Zc4 c ?_;symm;refine Zc4 i ?_;symm;refine ⟨_,Zm7 k3 ht e d,?_⟩;symm;exact q
def Zvr(a:D)(r:List D):cutL (a::r) (some 1) none=r:=by
 unfold cutL cutAt;have:min (1:Int).toNat (a::r).length=1:=by simp
 simp only [];rw [iN (by decide),this];simp
def Zn5{k:Nat}{K:Kd}{T:D}{cs:List C5}(h:Cs k T cs):(rowW K cs).length<=30:=by
 obtain ⟨_,n,g⟩:=h;have m:(hdW K).length<=3:=by cases K<;>simp [hdW]
 have a:∀l:List C5,(∀c∈l,C5k k c)->(l.flatMap wdO).length<=l.length*8:=by
  intro l
  induction l with
  | nil=>intro _;simp
  | cons c r ih=>
   intro b;have:=ih λd f=>b d (Vap _ f);have e:=b c Vao;have j:=e.n7;have i:=e.k3;rw [List.flatMap_cons,Va5,VaM];have:(wdO c).length=(nsOf c).length+1:=by simp [wdO,wdC]
   ac_rfl
 have:=a cs g;unfold rowW;rw [Va5];ac_rfl
def Zj5{k:Nat}{K:Kd}{T:D}{cs:List C5}(hk:KOk k K)(h:Cs k T cs):(Zaq [32] (rowW K cs)).length<=18000:=by
 obtain ⟨_,i,g⟩:=h;have b:=Zm0 hk;have e:Zaq [32] (rowW K cs)=Zaq [32] (hdW K++cs.map λc=>Zaq [32] (wdO c)):=(Zfd wdO ZpB cs (Zni K)).symm;rw [e];refine Vak (ZaL _) ?_;have a:totL 1 (cs.map λc=>Zaq [32] (wdO c))<=3*81:=by
  refine Vak (ZdG (B:=80) λl f=>?_) (by rw [VaO];ac_rfl);obtain ⟨c,d,rfl⟩:=Vbo.mp f;exact Vak (ZaL _) (g c d).tot
 unfold totL at a b ⊢;simp only [VbX,List.sum_append,Va5,Vbj,Nat.mul_one] at b a ⊢;ac_rfl
def Zrr{k:Nat}{K:Kd}{cs:List C5}(hk:KOk k K):∀w∈rowW K cs,32∉w:=by
 intro w hw;rcases Var.mp hw with hw | hw
 .exact (Zkp hk w hw).2.2
 .obtain ⟨c,_,hw⟩:=List.mem_flatMap.mp hw;rcases Vaq.mp hw with rfl | hw
  .decide
  .obtain ⟨n,_,rfl⟩:=Vbo.mp hw;intro a;have:=Zdq a;ac_rfl
def Zjr{U:D->Prop}{k:Nat}{K:Kd}{T:D}{cs:List C5}(hk:KOk k K)(ht:Tr k T)(h:Cs k T cs)(q:U (thD K T)):Tl (Za5 [S (Zaq [32] (rowW K cs))]) U:=by
 have m:=Zj5 hk h;have j:=Zn5 (K:=K) h;have d:=Zrr (cs:=cs) hk;have f:=h.l;have i:=h.b;unfold Za5;symm;unfold ZbV;symm;refine w_sD ?_;symm;refine ⟨_,rfl,?_⟩;symm;rw [litB];refine ZdR (by ac_rfl) ?_;rw [ZaO (by unfold rowW;simp [Zni]) d];symm;unfold rowW at j ⊢;refine Zn0 (λw g=>⟨(Zkp hk w g).1,(Zkp hk w g).2.1⟩) (by ac_rfl) ?_;symm;rw [VaM,VaO,f];symm;symm;rw [Zvr];symm;refine ⟨by simp;ac_rfl,?_⟩;refine ZaV (λc=>encC c) (λc a=>?_) ?_
 .symm;exact Zlt (i c a) rfl
 symm;rw [<-h.e];refine ZlG hk ?_ ht ?_
 .obtain ⟨c,a⟩ : ∃c,c∈cs:=by
   cases cs with
   | nil=>simp at f
   | cons c r=>exact ⟨c,Vao⟩
  exact (i c a).k3
 symm;exact q
def Znb(h:U (.int (Int.gcd a b))):Tl (ZbL [.int a,.int b]) U:=by
 unfold ZbL;symm;refine w_wh (λZ=>∃x y,Z=[.im (.int x),.im (.int y)]/\Int.gcd x y=Int.gcd a b) (ZfK 1) ⟨a,b,rfl,rfl⟩ (ZdV _ _) ?_;rintro Z ⟨x,y,rfl,e⟩;symm;refine ⟨λd=>?_,λd=>?_⟩
 .have c:y≠0:=by simpa using d
  rcases Int.lt_or_gt_of_ne c with hn | hp
  .symm;refine w_modN hn ?_;refine ⟨_,rfl,⟨y,x.fmod y,rfl,by rw [Mt.Zod];exact e⟩,?_⟩;have:=Mt.ZnQ (x:=x) hn;simp [ZfK,absC];exact this
  .symm;refine ⟨_,rfl,⟨y,x%y,rfl,by rw [Mt.Zny];exact e⟩,?_⟩;have g:=Vb0 x c;have i:=Vb1 x hp;simp [ZfK,absC];ac_rfl
 .have c:y=0:=by simpa using d
  subst c;symm;have f:x.natAbs=Int.gcd a b:=by rw [<-e,Int.gcd_zero_right]
  rw [f];exact h
def lowf{t b:Int}(hb:0<b)(sb:b.natAbs<10^30):0<(Int.gcd t b:Int)/\Sm 128 (Int.gcd t b:Int)/\D.tup [.int (t/(Int.gcd t b:Int)),.int (b/(Int.gcd t b:Int))]=frD (Rat.divInt t b):=by
 have e:=ZdM (t:=t) (b:=b) (by ac_rfl);unfold fra Mt.frT Mt.frB at e;rw [iN (by ac_rfl),iN (by ac_rfl)] at e;have a:0<(Int.gcd t b:Int):=by have:=Mt.Zew (t:=t) (b:=b) (by ac_rfl);ac_rfl
 rw [VaJ _ (by ac_rfl),VaJ _ (by ac_rfl)] at e;exact ⟨a,(sm30 sb).le (by rw [Vce];exact ZpP (by ac_rfl)),e⟩
def b30{q:Rat}(h:Bq 32 q):B30 q:=⟨Vbn h.n (by decide),Vbn (by simpa [Sm] using h.d) (show 2^32<10^30 by decide)⟩
def Zgf{U:D->Prop}{cc k:Int}(hk:0<=k/\k<=3900)(q:∀r:Rat,Bq 32 r->U (frD r)):Tl (ZaB [.int cc,.int k]) U:=by
 unfold ZaB;symm;refine Zbn (by ac_rfl) λr d=>?_;symm;refine Znb ?_;obtain ⟨a,c,e⟩:=lowf (t:=r%41 - 20) (b:=1+r/64%9) (by ac_rfl) (by ac_rfl);symm;rw [e];exact q _ (Zl4 (by ac_rfl) (show (r%41 - 20).natAbs<2^32 by ac_rfl) (show (1+r/64%9).natAbs<2^32 by ac_rfl))
def ZpO{x w:Int}(hx:-4<=x/\x<=8)(hw:1<=w/\w<=5):Bd (x*w):=by
 obtain ⟨a,b⟩:=hw;have:w=1\/w=2\/w=3\/w=4\/w=5:=by ac_rfl
 unfold Bd;rcases this with rfl | rfl | rfl | rfl | rfl<;>ac_rfl
def isC(d:D):Prop:=∃(x y w h:Int) (vs:List Int),d=cor x y w h vs/\Ck x y w h/\vs.length=2/\∀v∈vs,Bd v
def Zmq{U:D->Prop}{cc k:Int}(hk:0<=k/\k<=3900)(q:∀d,isC d->U d):Tl (Zba [.int cc,.int k]) U:=by
 unfold Zba;symm;refine Zbn (by ac_rfl) λl m=>?_;symm;refine Zbn (by ac_rfl) λb g=>?_;symm;refine Zbn (by ac_rfl) λe h=>?_;symm;refine Zbn (by ac_rfl) λf j=>?_;symm;refine Zbn (by ac_rfl) λc i=>?_;symm;refine q _ ⟨_,_,_,_,[b%13 - 4+(e%13 - 4),c%9 - 4],rfl,⟨ZpO (by ac_rfl) (by ac_rfl),ZpO (by ac_rfl) (by ac_rfl),by ac_rfl,by ac_rfl⟩,rfl,λv a=>?_⟩;unfold Bd;simp only [Vaq,VbS,VbT] at a;rcases a with rfl | rfl<;>ac_rfl
def Zu5{a b c:D}(ha:isC a)(hb:isC b)(hc:isC c):Tr 2 (.tup [a,b,c]):=by
 obtain ⟨_,_,_,_,_,rfl,k,j,i⟩:=ha;obtain ⟨_,_,_,_,_,rfl,d,h,l⟩:=hb;obtain ⟨_,_,_,_,_,rfl,g,e,f⟩:=hc;exact ⟨_,_,_,_,_,_,_,_,_,_,_,_,_,_,_,rfl,k,d,g,j,h,e,i,l,f⟩
def Th(d:D):Prop:=∃K T,d=thD K T/\KOk 2 K/\Tr 2 T/\Thg d
def half:Rat:=⟨1,2,by decide,by decide⟩
def three:Rat:=⟨3,1,by decide,by decide⟩
def P4(a b:Rat):Nat->Nat->Rat:=λi j=>if i=0 then (if j=0 then a else half) else if j=0 then three else b
def pat4(a b:Rat):D.lst [.lst [frD a,.tup [.int 1,.int 2]],.lst [.tup [.int 3,.int 1],frD b]]=patD 2 2 (P4 a b):=rfl
def ZwZ{a b:Rat}(ha:Bq 32 a)(hb:Bq 32 b)(i j:Nat):Bq 32 (P4 a b i j):=by
 unfold P4;split
 .split
  .exact ha
  .exact ⟨show (1:Int).natAbs<2^32 by decide,show (2:Int).natAbs<2^32 by decide⟩
 .split
  .exact ⟨show (3:Int).natAbs<2^32 by decide,show (1:Int).natAbs<2^32 by decide⟩
  .exact hb
def ZqI{r:Int}:∃p:Rat,D.tup [.int 1,.int (1+r%4)]=frD p/\Bq 32 p/\0<=p.num/\p.num<=p.den:=by
 have:r%4=0\/r%4=1\/r%4=2\/r%4=3:=by ac_rfl
 rcases this with e | e | e | e<;>rw [e]
 .exact ⟨⟨1,1,by decide,by decide⟩,rfl,⟨show (1:Int).natAbs<2^32 by decide,show (1:Int).natAbs<2^32 by decide⟩,by decide,by decide⟩
 .exact ⟨⟨1,2,by decide,by decide⟩,rfl,⟨show (1:Int).natAbs<2^32 by decide,show (2:Int).natAbs<2^32 by decide⟩,by decide,by decide⟩
 .exact ⟨⟨1,3,by decide,by decide⟩,rfl,⟨show (1:Int).natAbs<2^32 by decide,show (3:Int).natAbs<2^32 by decide⟩,by decide,by decide⟩
 .exact ⟨⟨1,4,by decide,by decide⟩,rfl,⟨show (1:Int).natAbs<2^32 by decide,show (4:Int).natAbs<2^32 by decide⟩,by decide,by decide⟩
def ZoW{U:D->Prop}{cc k:Int}(hk:0<=k/\k<=3800)(q:∀d,Th d->U d):Tl (Zct [.int cc,.int k]) U:=by
 unfold Zct;symm;refine Zmq (by ac_rfl) λa v=>?_;symm;refine Zmq (by ac_rfl) λb t=>?_;symm;refine Zmq (by ac_rfl) λc s=>?_;symm;have e:=Zu5 v t s;generalize D.tup [a,b,c]=T at e;refine Zbn (by ac_rfl) λr y=>?_;symm;refine Zc8 (λz=>?_) λz=>?_
 .symm;refine Zfo ?_;symm;refine Zgf (by ac_rfl) λp g=>?_;symm;refine ⟨_,Zmp (by decide) e,?_⟩;symm;exact q _ ⟨.pl p,T,rfl,b30 g,e,.plain e (by decide) g⟩
 symm;refine Zc8 (λz=>?_) λz=>?_
 .symm;refine Zfo ?_;symm;refine ⟨_,Zj9 (by decide) e (by decide),?_⟩;symm;exact q _ ⟨.sh,T,rfl,show 1<=2 by decide,e,.shaded e (by decide) (by decide)⟩
 symm;refine Zc8 (λz=>?_) λz=>?_
 .symm;refine Zfo ?_;symm;refine Zgf (by ac_rfl) λp g=>?_;symm;refine Zgf (by ac_rfl) λl f=>?_;symm;have h:Ct 2:=.inr (.inl rfl);have o:=ZwZ g f;rw [pat4];refine ⟨_,ZpW (P:=P4 p l) (by decide) e (by decide) h h,?_⟩;symm;exact q _ ⟨.pa 2 2 (P4 p l),T,rfl,⟨VaF _,h,h,λi _ j _=>b30 (o i j)⟩,e,.patt e (by decide) (VaF _) h h λi _ j _=>o i j⟩
 symm;refine Zfo ?_;symm;refine Zgf (by ac_rfl) λp g=>?_;symm;refine Zbn (by ac_rfl) λu w=>?_;symm;obtain ⟨l,x,f,n,m⟩:=ZqI (r:=u);rw [x];refine ⟨_,Zm7 (by decide) e n m,?_⟩;symm;exact q _ ⟨.gl p l,T,rfl,⟨b30 g,b30 f,n,m⟩,e,.glass e (by decide) g f n m⟩
def ZoN{U:D->Prop}{cc:Int}(q:∀dots:List (Int×Int),1<=dots.length->dots.length<=16->Dots dots->U (.lst (dots.map encP))):Tl (ZcC [.int cc]) U:=by
 unfold ZcC;symm;refine Zbn (by ac_rfl) λs I=>?_;symm;refine Zbn (by ac_rfl) λo C=>?_;symm;obtain ⟨m,G,e⟩ : ∃m:Int,(1<=m/\m<=16)/\dIx (.lst [.int 3,.int 16]) (.int (o%2))=.ok (.int m):=by
  have:o%2=0\/o%2=1:=by ac_rfl
  rcases this with z | z<;>rw [z]
  .exact ⟨3,by ac_rfl,rfl⟩
  .exact ⟨16,by ac_rfl,rfl⟩
 refine Zak e ?_;symm;have F:=Vb0 s (show m≠0 by ac_rfl);have K:=Vb1 s (show 0<m by ac_rfl);generalize s%m=n at *;obtain ⟨n,rfl⟩ : ∃k:Nat,n=k:=⟨n.toNat,by ac_rfl⟩;symm;rw [show (1+(n:Int)).toNat=n+1 by ac_rfl,Zgr];refine Zsw (λj Z=>∃(dots:List (Int×Int)) (u v:Cl),(j≠[]->1<=dots.length)/\dots.length<=j.length/\Dots dots/\Z=[.im (.int cc),.ow (dots.map encP),u,v]) ?_ ?_ ⟨[],_,_,λz=>aB rfl z,VaF _,⟨λ_ h=>(VbS h).elim,List.nodup_nil⟩,rfl⟩
 .rintro j t L e Z ⟨dots,u,v,f,g,c,rfl⟩;have J:t<n+1:=Vaj.mp (e▸VaI _ Vao);have A:j.length<n+1:=by have:=Vaw List.length e;simp at this;ac_rfl
  symm;refine Zbn (by ac_rfl) λl H=>?_;symm;refine Zbn (by ac_rfl) λi E=>?_;symm;have r:(1<=1+l%7/\1+l%7<=7)/\1<=1+i%7/\1+i%7<=7:=by ac_rfl
  obtain ⟨p,y⟩ : ∃p:Int×Int,p=(1+l%7,1+i%7):=⟨_,rfl⟩;rw [show D.tup [.int (1+l%7),.int (1+i%7)]=encP p by rw [y]];have r:(1<=p.1/\p.1<=7)/\1<=p.2/\p.2<=7:=by rw [y];exact r
  refine ZuK rfl (ZoZ _ _) ?_;rw [Zur];symm;refine ZgY (λz=>?_) (λz=>?_)
  .symm;refine ⟨by rw [VaO];ac_rfl,?_⟩;left;refine ⟨_,rfl,dots++[p],_,_,λ_=>by simp,by simp;ac_rfl,⟨λd x=>?_,?_⟩,by rw [VbX];rfl⟩
   .rcases Var.mp x with h | h
    .exact c.1 d h
    .have:d=p:=by simpa using h
     subst this;exact r
   .rw [List.nodup_append];refine ⟨c.2,by simp,λa B b w=>?_⟩;have w:b=p:=by simpa using w
    rintro rfl;subst w;exact z B
  .symm;left;refine ⟨_,rfl,dots,_,_,λ_=>?_,by simp;ac_rfl,c,rfl⟩;have:=List.length_pos_of_mem z;ac_rfl
 .rintro Z ⟨dots,u,v,f,g,c,rfl⟩;symm;rw [VbD] at g;exact q dots (f (by simp)) (by ac_rfl) c
def ZrM{k:Nat}{K:Kd}{cs:List C5}(hk:KOk k K):∀c∈Zaq [32] (rowW K cs),32<=c/\c<128:=by
 have f:∀(n:Int),∀c∈tI n,32<=c/\c<128:=λn c h=>by have:=Zdq h;ac_rfl
 have b:∀(q:Rat),∀c∈fT q,32<=c/\c<128:=λq c h=>by have:=Zed h;ac_rfl
 have a:∀l:List Nat,l.all (λc=>decide (32<=c/\c<128))=true->∀c∈l,32<=c/\c<128:=λl h c e=>of_decide_eq_true (Vbp.mp h c e);intro c e;rcases ZaY e with hm | ⟨l,hl,hm⟩
 .simp at hm;ac_rfl
 .rcases Var.mp hl with hl | hl
  .cases K with
   | pl q=>
    simp only [hdW,Vaq,VbS,VbT] at hl;rcases hl with rfl | rfl
    .exact a _ (by decide) c hm
    .exact b _ c hm
   | sh=>
    simp only [hdW,Vaq,VbS,VbT] at hl;subst hl;exact a _ (by decide) c hm
   | pa h w P=>
    simp only [hdW,Vaq,VbS,VbT] at hl;rcases hl with rfl | rfl
    .exact a _ (by decide) c hm
    .have:=Zhp hm;ac_rfl
   | gl q r=>
    simp only [hdW,Vaq,VbS,VbT] at hl;rcases hl with rfl | rfl | rfl
    .exact a _ (by decide) c hm
    .exact b _ c hm
    .exact b _ c hm
  .obtain ⟨d,_,hw⟩:=List.mem_flatMap.mp hl;rcases Vaq.mp hw with rfl | hw
   .simp at hm;ac_rfl
   .obtain ⟨n,_,rfl⟩:=Vbo.mp hw;exact f n c hm
structure Tx(d:D)(l:List Nat):Prop where
 t:ZaK [d]=.ok (S l)
 r:Za5 [S l]=.ok d
 c:∀c∈l,32<=c/\c<128
 l:l.length<=18000
 g:Thg d
def ZwB{d:D}(h:Th d):∃l,Tx d l:=by
 obtain ⟨K,T,rfl,a,c,g⟩:=h;obtain ⟨e,b⟩:=Zv1 (by decide) c;exact ⟨_,Tl.eq (Zjk a b rfl),Tl.eq (Zjr a c b rfl),ZrM a,Zj5 a b,g⟩
abbrev DL:=D×List Nat
def Ztx{ts:List D}(h:∀t∈ts,Th t):∃L:List DL,ts=L.map (·.1)/\∀p∈L,Tx p.1 p.2:=by
 induction ts with
 | nil=>exact ⟨[],rfl,by simp⟩
 | cons t r ih=>
  obtain ⟨L,rfl,e⟩:=ih λt c=>h t (Vap _ c);obtain ⟨l,d⟩:=ZwB (h t Vao);exact ⟨(t,l)::L,rfl,by simpa using ⟨d,λa b=>e (a,b)⟩⟩
def lFl:List Nat:=[102,108,111,111,114]
def lGr:List Nat:=[103,114,111,117,110,100]
def lSp:List Nat:=[115,112,111,116,115]
def ZtQ:Str.ofString "floor"=mkS lFl:=by decide +kernel
def Ztd:Str.ofString "ground"=mkS lGr:=by decide +kernel
def Zuu:Str.ofString "spots"=mkS lSp:=by decide +kernel
def litN:Str.ofString "\n"=mkS [10]:=by decide +kernel
def Zwb:Str.ofString "floor "=mkS (lFl++[32]):=by decide +kernel
def Zwx:Str.ofString "ground "=mkS (lGr++[32]):=by decide +kernel
def Zv5:Str.ofString "spots "=mkS (lSp++[32]):=by decide +kernel
def pT(d:Int×Int):List Nat:=Zaq [44] [tI d.1,tI d.2]
def rwF(w h:Nat):List Nat:=Zaq [32] [lFl,tI w,tI h]
def rwG(g:Rat):List Nat:=Zaq [32] [lGr,fT g]
def rwS(dots:List (Int×Int)):List Nat:=Zaq [32] (lSp::dots.map pT)
def rws(w h:Nat)(g:Rat)(dots:List (Int×Int))(L:List DL):List (List Nat):=rwF w h::rwG g::rwS dots::L.map (·.2)
structure Sc(w h:Nat)(g:Rat)(dots:List (Int×Int))(L:List DL):Prop where
 w:1<=w/\w<=64
 h:1<=h/\h<=64
 g:Bq 32 g
 d:Dots dots
 n:1<=dots.length/\dots.length<=16
 l:L.length<=6
 t:∀p∈L,Tx p.1 p.2
def ti3{n:Int}(h:-999<=n/\n<=999):(tI n).length<=4:=Zeu (k:=3) (by decide) (by ac_rfl)
section
variable{w h:Nat}{g:Rat}{dots:List (Int×Int)}{L:List DL}
def Sc.pt(s:Sc w h g dots L){d:Int×Int}(hd:d∈dots):(tI d.1).length<=4/\(tI d.2).length<=4:=by
 have:=s.d.1 d hd;exact ⟨ti3 (by ac_rfl),ti3 (by ac_rfl)⟩
def Sc.pl(s:Sc w h g dots L){l:List Nat}(hl:l∈dots.map pT):l.length<=9:=by
 obtain ⟨d,a,rfl⟩:=Vbo.mp hl;have:=s.pt a;simp [pT,Zaq];ac_rfl
def Sc.tS(s:Sc w h g dots L):totL 1 (lSp::dots.map pT)<=200:=by
 have:=ZdG (s:=1) (B:=9) λl=>s.pl (l:=l);have n:=s.n;unfold totL at this ⊢;rw [VaO] at this;simp only [VaN,List.sum_cons,VaM,VaO];show lSp.length+_+_<=_;show 5+_+_<=_;ac_rfl
def Sc.tF(s:Sc w h g dots L):totL 1 [lFl,tI w,tI h]<=200:=by
 have a:=s.w;have b:=s.h;have:=ti3 (n:=w) (by ac_rfl);have:=ti3 (n:=h) (by ac_rfl);simp [totL,lFl];ac_rfl
def Sc.tG(s:Sc w h g dots L):totL 1 [lGr,fT g]<=200:=by
 have:=Zgn (b30 s.g);simp [totL,lGr];ac_rfl
def Sc.tot(s:Sc w h g dots L):totL 1 (rws w h g dots L)<=200000:=by
 have e:=Vak (ZaL (s:=[32]) [lFl,tI w,tI h]) s.tF;have f:=Vak (ZaL (s:=[32]) [lGr,fT g]) s.tG;have d:=Vak (ZaL (s:=[32]) (lSp::dots.map pT)) s.tS;have a:=ZdG (s:=1) (B:=18000) (ls:=L.map (·.2)) λl c=>by
  obtain ⟨p,b,rfl⟩:=Vbo.mp c;exact (s.t p b).l
 have:=s.l;unfold totL at a ⊢;rw [VaO] at a;unfold rws rwF rwG rwS;simp only [VaN,List.sum_cons,VaM,VaO];simp only [VbH] at a ⊢;ac_rfl
def ZfB{U:List D->Prop}(s:Sc w h g dots L){e:ME}{Z:Ev}(he:∀d,e (Z.set 0 (.im d))=ZaK [d])(q:U ((L.map (·.2)).map S)):Tl (ZaT (gN 0) yes e Z (L.map (·.1))) U:=by
 refine ZaV (λp=>S p.2) (λp a=>?_) (by rw [VbH] at q;exact q);symm;rw [he];exact Zak (s.t p a).t rfl
def Zic(w h:Nat)(g:Rat)(dots:List (Int×Int))(ts:List D):D:=.tup [.int w,.int h,frD g,.lst (dots.map encP),.lst ts]
def Zjb{U:D->Prop}(s:Sc w h g dots L)(q:U (S (Zaq [10] (rws w h g dots L)))):Tl (Za7 [Zic w h g dots (L.map (·.1))]) U:=by
 have c:=s.w;have b:=s.h;have e:=s.n;have f:=s.l;unfold Za7 Zic;symm;refine w_sD ?_;symm;refine ⟨_,rfl,?_⟩;symm;refine ZbY (by ac_rfl) ?_;symm;refine ZbY (by ac_rfl) ?_;symm;rw [ZtQ,litB,Ztd,Zuu,litN];refine ZcS (ls:=[lFl,tI w,tI h]) (Vak s.tF (by decide)) ?_;symm;refine w_sD ?_;symm;refine ⟨_,rfl,?_⟩;symm;refine Zc9 (b30 s.g) ?_;symm;refine ZcS (ls:=[lGr,fT g]) (Vak s.tG (by decide)) ?_;symm;refine w_sD ?_;symm;refine ⟨_,rfl,?_⟩;symm;refine ⟨by simp;ac_rfl,?_⟩;refine ZaV (λd=>S (pT d)) (λd a=>?_) ?_
 .have:=s.d.1 d a;symm;unfold Zee;symm;refine ZbY (by ac_rfl) ?_;symm;have:=s.pt a;rw [litC];refine Zc5 (by simp;ac_rfl) ?_;symm;refine ZbY (by ac_rfl) ?_;symm;refine Zc5 (by simp;ac_rfl) ?_;symm;simp [pT,Zaq]
 refine ZgN (by simp;ac_rfl) ?_;rw [show [D.str (mkS lSp)]++dots.map (λd=>S (pT d))=(lSp::dots.map pT).map S by simp];refine ZcS (Vak s.tS (by decide)) ?_;symm;refine w_sD ?_;symm;refine ⟨_,rfl,?_⟩;symm;refine ⟨by simp;ac_rfl,?_⟩;refine ZfB s (λd=>rfl) ?_;refine ZgN (by simp;ac_rfl) ?_;refine ZcS (ls:=rws w h g dots L) (Vak s.tot (by decide)) ?_;symm;exact q
end
section
variable{w h:Nat}{g:Rat}{dots:List (Int×Int)}{L:List DL}
def ZoD{U:D->Prop}(s:Sc w h g dots L)(q:U (S (Zaq [10] (rws w h g dots L)))):Tl (ZdW [.int w,.int h,frD g,.lst (dots.map encP),.lst (L.map (·.1))]) U:=by
 have r:=s.w;have m:=s.h;have b:=s.n;have p:=s.l;have t:=ti3 (n:=w) (by ac_rfl);have u:=ti3 (n:=h) (by ac_rfl);unfold ZdW;symm;rw [Zwb,litB,Zwx,Zv5,litN];refine Zfh (k:=64) (Sm.of64 (by ac_rfl) (by ac_rfl)) (by decide) ?_;symm;refine Zc5 (by simp [lFl];ac_rfl) ?_;symm;refine Zc5 (by simp [lFl];ac_rfl) ?_;symm;refine Zfh (k:=64) (Sm.of64 (by ac_rfl) (by ac_rfl)) (by decide) ?_;symm;refine Zc5 (by simp [lFl];ac_rfl) ?_;symm;refine ZlW (b30 s.g) ?_;have o:=Zgn (b30 s.g);symm;refine Zc5 (by simp [lGr];ac_rfl) ?_;symm;refine w_sD ?_;symm;refine ⟨_,rfl,?_⟩;symm;refine ⟨by simp;ac_rfl,?_⟩;refine ZaV (λd=>S (pT d)) (λd c=>?_) ?_
 .have:=s.d.1 d c;have:=s.pt c;symm;refine Zfh (k:=64) (Sm.of64 (by ac_rfl) (by ac_rfl)) (by decide) ?_;symm;rw [litC];refine Zc5 (by simp;ac_rfl) ?_;symm;refine Zfh (k:=64) (Sm.of64 (by ac_rfl) (by ac_rfl)) (by decide) ?_;symm;refine Zc5 (by simp;ac_rfl) ?_;symm;simp [pT,Zaq]
 rw [show dots.map (λd=>S (pT d))=(dots.map pT).map S by simp];have f:=s.tS;have j:=ZaL (s:=[32]) (dots.map pT);have i:totL 1 (dots.map pT)<=200:=by unfold totL at f ⊢;simp at f ⊢;ac_rfl
 refine ZcS (Vak i (by decide)) ?_;symm;refine Zc5 (by have:=Vak j i;simp [lSp];ac_rfl) ?_;symm;refine ⟨by show (2:Nat)<_;decide,?_⟩;symm;refine w_sD ?_;symm;refine ⟨_,rfl,?_⟩;symm;refine ⟨by simp;ac_rfl,?_⟩;refine ZfB s (λd=>rfl) ?_;refine ZgN (by simp;ac_rfl) ?_;have e:[D.str (mkS (lFl++[32]++tI w++[32]++tI h)),.str (mkS (lGr++[32]++fT g))]++[.str (mkS (lSp++[32]++Zaq [32] (dots.map pT)))]++(L.map (·.2)).map S=(rws w h g dots L).map S:=by
  have a:dots.map pT≠[]:=λz=>by rw [List.map_eq_nil_iff] at z;rw [z] at b;simp at b
  unfold rws rwF rwG rwS;rw [Zcc a];simp [Zaq]
 rw [e];refine ZcS (Vak s.tot (by decide)) ?_;symm;exact q
end
def Zpy{U:List D->Prop}{i:Int}(h0:(-1000000000<=i/\i<=1000000000)/\(-1000000000<=j/\j<=1000000000))(h:U (Zbw i (j - i).toNat)):Tl (rng2 [.int i,.int j]) U:=by
 refine Zak ?_ h;show (if (-1000000000<=i/\i<=1000000000)/\(-1000000000<=j/\j<=1000000000) then Res.ok (Zbw i (j - i).toNat) else .bad)=_
 rw [iP h0]
def Zoh{i:Int}(h:x∈Zbw i (j - i).toNat):∃k,i<=k/\k<j/\x=.int k:=by
 unfold Zbw at h;obtain ⟨k,a,rfl⟩:=Vbo.mp h;have:=Vaj.mp a;exact ⟨_,by ac_rfl,by ac_rfl,rfl⟩
def ZsG{U:Fl->Prop}{tab:List (Str×(List D->Res D))}{i:Nat}{ma:MA}{Z:Ev}{g:Str}{m:List D->Res D}(hi:Z[i]?=some (.im (.cls g)))(hm:tab.lookup g=some m)(h:Tl (ma Z) λds=>Tl (m ds) λd=>U (.rt d)):Tl (Zl1 tab i ma Z) U:=by
 obtain ⟨ds,e,d,a,q⟩:=h;refine ⟨_,?_,q⟩;unfold Zl1;rw [hi];simp only [hm,e];show (match m ds with | .ok d=>Res.ok (Fl.rt d) | _=>.bad)=_
 rw [a]
abbrev rtab:List (Str×(List D->Res D)):=[("read_floor",Zbt),("read_ground",Za9),("read_spots",Zbs),("read_thing",Za5)]
def ZfF{U:D->Prop}{R:List (List Nat)}{n:Nat}{l:List Nat}{g:Str}{m:List D->Res D}{d:D}(hl:R[n]?=some l)(hm:rtab.lookup g=some m)(e:m [S l]=.ok d)(q:U d):Tl (Zch [.lst (R.map S),.int n,.cls g]) U:=by
 have a:n<R.length:=(Vat.mp hl).1;unfold Zch;symm;rw [VaO];symm;refine ZsG rfl hm ?_;symm;refine Zak (show dIx (.lst (R.map S)) (.int n)=.ok (S l) by rw [Zhc,Zlo,Va3,hl];rfl) ?_;symm;refine Zak e ?_;symm;exact q
def Znv{U:D->Prop}{hd:List Nat}{ws:List (List Nat)}(ha:Ta hd)(h32:∀w∈hd::ws,32∉w)(hl:totL 1 (hd::ws)<=1000)(q:U (.lst (ws.map S))):Tl (Zbh [S hd,S (Zaq [32] (hd::ws))]) U:=by
 unfold Zbh;symm;refine w_sD ?_;symm;refine ⟨_,rfl,?_⟩;symm;rw [litB];refine ZdR (Vak (ZaL _) (Vak hl (by decide))) ?_;rw [ZaO (by simp) h32];symm;refine Zo4 ha ha ?_;rw [Vbk rfl];symm;rw [VaN,Zvr];exact q
def ZpT{U:D->Prop}{hd:List Nat}{ws:List (List Nat)}{n:Int}(ha:Ta hd)(h32:∀w∈hd::ws,32∉w)(hl:totL 1 (hd::ws)<=1000)(hn:n=ws.length)(q:U (.lst (ws.map S))):Tl (ZaH [S hd,S (Zaq [32] (hd::ws)),.int n]) U:=by
 unfold ZaH;symm;refine Znv ha h32 hl ?_;symm;rw [VaO];symm;exact q
def ZkG{n:Int}{c:Nat}(h:c<45\/57<c):c∉tI n:=λz=>by have:=Zdq z;ac_rfl
def Zvz{n:Rat}{c:Nat}(h:c<45\/57<c):c∉fT n:=λz=>by have:=Zed z;ac_rfl
section
variable{w h:Nat}{g:Rat}{dots:List (Int×Int)}{L:List DL}
def ZnJ(s:Sc w h g dots L):Zbt [S (rwF w h)]=.ok (.lst [.int w,.int h]):=by
 have d:=s.w;have c:=s.h;refine Tl.eq ?_;unfold Zbt Zb0;symm;rw [ZtQ];refine ZpT (ws:=[tI w,tI h]) (Zan rfl) (λl b=>?_) (Vak s.tF (by decide)) rfl ?_
 .simp only [Vaq,VbS,VbT] at b;rcases b with rfl | rfl | rfl
  .decide
  .exact ZkG (by decide)
  .exact ZkG (by decide)
 symm;refine ⟨by simp,?_⟩;refine ZaV (l:=[(w:Int),(h:Int)]) (enc:=λn=>S (tI n)) D.int (λn a=>?_) ?_
 .symm;refine Zc7 ?_ rfl;simp only [Vaq,VbS,VbT] at a;rcases a with rfl | rfl<;>ac_rfl
 symm;refine ZgS d c ?_;symm;rfl
def ZmW(s:Sc w h g dots L):Za9 [S (rwG g)]=.ok (frD g):=by
 refine Tl.eq ?_;unfold Za9;symm;rw [Ztd];refine ZpT (ws:=[fT g]) (Zan rfl) (λl a=>?_) (Vak s.tG (by decide)) rfl ?_
 .simp only [Vaq,VbS,VbT] at a;rcases a with rfl | rfl
  .decide
  .exact Zvz (by decide)
 symm;refine Zc4 (b30 s.g) ?_;symm
def Zos(s:Sc w h g dots L):Zbs [S (rwS dots)]=.ok (.lst (dots.map encP)):=by
 have a:=s.n;refine Tl.eq ?_;unfold Zbs;symm;rw [Zuu];refine Znv (ws:=dots.map pT) (Zan rfl) (λl hl=>?_) (Vak s.tS (by decide)) ?_
 .rcases Vaq.mp hl with rfl | hl
  .decide
  .obtain ⟨d,_,rfl⟩:=Vbo.mp hl;intro z;rcases ZaY z with z | ⟨l,hl,z⟩
   .simp at z
   .simp only [Vaq,VbS,VbT] at hl;rcases hl with rfl | rfl
    .exact ZkG (by decide) z
    .exact ZkG (by decide) z
 symm;refine ⟨by simp;ac_rfl,?_⟩;rw [VbH];refine ZaV encP (λd b=>?_) ?_
 .have:=s.d.1 d b;have c:=s.pt b;symm;unfold Zem;symm;refine w_sD ?_;symm;refine ⟨_,rfl,?_⟩;symm;rw [litC];refine ZdR (Vak (s.pl (List.mem_map_of_mem b)) (by decide)) ?_;unfold pT
  rw [ZaO (by simp) λl hl=>by
   simp only [Vaq,VbS,VbT] at hl;rcases hl with rfl | rfl
   .exact ZkG (by decide)
   .exact ZkG (by decide)]
  symm;refine ⟨by simp,?_⟩;refine ZaV (l:=[d.1,d.2]) (enc:=λn=>S (tI n)) D.int (λn a=>?_) ?_
  .symm;refine Zc7 ?_ rfl;simp only [Vaq,VbS,VbT] at a;rcases a with rfl | rfl<;>ac_rfl
  symm;rfl
 symm;refine ZgD a s.d.1 s.d.2 ?_;symm
def Zpq(s:Sc w h g dots L):∀l∈rws w h g dots L,∀c∈l,32<=c/\c<128:=by
 have b:∀(n:Int),∀c∈tI n,32<=c/\c<128:=λn c h=>by have:=Zdq h;ac_rfl
 intro l hl c a;unfold rws at hl;simp only [Vaq] at hl;have e:∀l:List Nat,l.all (λc=>decide (32<=c/\c<128))=true->∀c∈l,32<=c/\c<128:=λl h c a=>of_decide_eq_true (Vbp.mp h c a);rcases hl with rfl | rfl | rfl | hl
 .rcases ZaY a with hm | ⟨l,hl,hm⟩
  .simp at hm;ac_rfl
  .simp only [Vaq,VbS,VbT] at hl;rcases hl with rfl | rfl | rfl
   .exact e _ (by decide) c hm
   .exact b _ c hm
   .exact b _ c hm
 .rcases ZaY a with hm | ⟨l,hl,hm⟩
  .simp at hm;ac_rfl
  .simp only [Vaq,VbS,VbT] at hl;rcases hl with rfl | rfl
   .exact e _ (by decide) c hm
   .have:=Zed hm;ac_rfl
 .rcases ZaY a with hm | ⟨l,hl,hm⟩
  .simp at hm;ac_rfl
  .rcases Vaq.mp hl with rfl | hl
   .exact e _ (by decide) c hm
   .obtain ⟨d,_,rfl⟩:=Vbo.mp hl;rcases ZaY hm with hm | ⟨l,hl,hm⟩
    .simp at hm;ac_rfl
    .simp only [Vaq,VbS,VbT] at hl;rcases hl with rfl | rfl
     .exact b _ c hm
     .exact b _ c hm
 .obtain ⟨p,f,rfl⟩:=Vbo.mp hl;exact (s.t p f).c c a
def Zpc(s:Sc w h g dots L):ZbU [S (Zaq [10] (rws w h g dots L))]=.ok (Zic w h g dots (L.map (·.1))):=by
 have c:=s.l;refine Tl.eq ?_;unfold ZbU;symm;unfold ZbV;symm;refine w_sD ?_;symm;refine ⟨_,rfl,?_⟩;symm;rw [litN];refine ZdR (Vak (ZaL _) (Vak s.tot (by decide))) ?_;rw [ZaO (by simp [rws]) λl c z=>by have:=Zpq s l c 10 z;ac_rfl];symm;refine ZfF (n:=0) (l:=rwF w h) rfl (by rfl) (ZnJ s) ?_;symm;refine ZfF (n:=1) (l:=rwG g) rfl (by rfl) (ZmW s) ?_;symm;refine ZfF (n:=2) (l:=rwS dots) rfl (by rfl) (Zos s) ?_;symm;refine w_r2 ?_;symm;have d:(List.map S (rws w h g dots L)).length=L.length+3:=by simp [rws]
 rw [d];refine Zpy (by ac_rfl) ?_;symm;rw [show ((L.length+3:Nat) - 3:Int).toNat=L.length by ac_rfl];refine ⟨by unfold Zbw;simp;ac_rfl,?_⟩;unfold Zbw;refine ZaV (λk:Nat=>((L[k]?).map (·.1)).getD .non) (λk a=>?_) ?_
 .have a:=Vaj.mp a;symm;have e:(rws w h g dots L)[3+k]?=some (L[k]).2:=by
   rw [show 3+k=k+3 by ac_rfl];show (L.map (·.2))[k]?=_;rw [Va3,VbF a];rfl
  rw [show (3+(k:Int))=((3+k:Nat):Int) by ac_rfl];refine ZfF e (by rfl) (s.t _ (Vb4 a)).r ?_;rw [VbF a];rfl
 symm;have f:(List.range L.length).map (λk:Nat=>((L[k]?).map (·.1)).getD .non)=L.map (·.1):=by
  refine List.ext_getElem (by simp) λi b j=>?_;simp at b ⊢;rw [VbF b];rfl
 rw [f];rfl
end
def ZvB{U:Fl->Prop}{f:List D->Res D}{a:MA}{r:MX}{Z:Ev}(h:Tl (a Z) λds=>ds.all scD=true/\Tl (f ds) λd=>Tl (r Z d) U):Tl (nwF f a r Z) U:=Zah (h.mono λds q=>by rw [iP q.1];exact Zah q.2)
def Zsg{U:Fl->Prop}{i:Nat}{t:MB}{k:MS}{r:MX}{Z:Ev}{d:D}(h:Tl (t (Z.set i (.im d))) λb=>b=false/\Tl (r Z d) U):Tl (nwI i t k r Z d) U:=Zah (h.mono λb q=>by rw [q.1];exact q.2)
section
variable{w h:Nat}{g:Rat}{dots:List (Int×Int)}{L:List DL}
def Zwk{U:Fl->Prop}{i:Nat}{mv:ME}{m:MS}{Z:Ev}(s:Sc w h g dots L)(hi:i<Z.length)(h':Tl (mv (Z.set i (.im (Zic w h g dots (L.map (·.1)))))) λ_=>Tl (m (Z.set i .no)) U):Tl (nwE i mv m Z (Zic w h g dots (L.map (·.1)))) U:=by
 obtain ⟨d,e,q⟩:=h';have:=s.n;have:=s.l;show Tl (if (dots.map encP).length<1000/\(L.map (·.1)).length<1000/\i<Z.length then _ else _) U
 rw [iP (by simp;ac_rfl),e];exact q
def Zqv(s:Sc w h g dots L):Ta (Zaq [10] (rws w h g dots L)):=λc a=>by
 rcases ZaY a with z | ⟨l,hl,z⟩
 .simp at z;ac_rfl
 .exact (Zpq s l hl c z).2
def Zl8(w h:Nat)(g:Rat)(dots:List (Int×Int)):plain 50 (.tup [.int w,.int h,frD g,.lst (dots.map encP)])=true:=by
 show (true&&(true&&(plain 49 (frD g)&&(Zay 48 (dots.map encP)&&true))))=true;rw [ZjV,ZoZ];rfl
def Zrq(dots:List (Int×Int)):plain 50 (.lst (dots.map encP))=true:=ZoZ _ _
def Zt7(a b c d e:D):cutL [a,b,c,d,e] none (some 4)=[a,b,c,d]:=rfl
def Zmj(f:Nat->Nat->Rat)(w h:Nat):plain 50 (picP f w h)=true:=ZmT h w λr c=>f c r
def ZgQ{U:D->Prop}{cc:Int}(q:U (.bl true)):Tl (ZbT [.int cc]) U:=by
 unfold ZbT;symm;refine w_r2 ?_;symm;refine Zpy (by ac_rfl) ?_;refine ⟨by decide,?_⟩;refine w_all (λ_ y=>∃n:Nat,y=.int n/\1<=n/\n<=64) (λx E=>?_) λys Z K=>?_
 .obtain ⟨k,k1,k2,rfl⟩:=Zoh (i:=1) (j:=3) E;symm;refine Zbn (by ac_rfl) λr X=>?_;symm;refine Zbn (by ac_rfl) λO h3=>?_;symm;obtain ⟨m,T,e⟩ : ∃m:Int,(1<=m/\m<=64)/\dIx (.lst [.int 4,.int 64]) (.int (O%4/3))=.ok (.int m):=by
   have:O%4/3=0\/O%4/3=1:=by ac_rfl
   rcases this with z | z<;>rw [z]
   .exact ⟨4,by ac_rfl,rfl⟩
   .exact ⟨64,by ac_rfl,rfl⟩
  refine Zak e ?_;symm;have n0:=Vb0 r (show m≠0 by ac_rfl);have M:=Vb1 r (show 0<m by ac_rfl);exact ⟨(1+r%m).toNat,by rw [Int.toNat_of_nonneg (by ac_rfl)],by ac_rfl,by ac_rfl⟩
 obtain ⟨a,b,rfl⟩ : ∃a b,ys=[a,b]:=by
  match ys,Z with
  | [a,b],_=>exact ⟨a,b,rfl⟩
 obtain ⟨w,rfl,hw⟩:=K 0 _ _ rfl rfl;obtain ⟨h,rfl,P⟩:=K 1 _ _ rfl rfl;clear K Z;symm;refine Zgf (by ac_rfl) λg hg=>?_;symm;refine ZoN λf M C v=>?_;symm;refine Zbn (by ac_rfl) λr X=>?_;symm;refine ⟨by unfold Zbw;simp;ac_rfl,?_⟩;refine w_all (λ_ y=>Th y) (λx E=>?_) λQ J Y=>?_
 .unfold Zbw at E;obtain ⟨k,hk,rfl⟩:=Vbo.mp E;have:=Vaj.mp hk;symm;exact ZoW (by ac_rfl) λd v=>v
 have N:Q.length<=6:=by rw [J];unfold Zbw;simp;ac_rfl
 have B:∀t∈Q,Th t:=λt I=>by
  obtain ⟨i,hi,e⟩:=List.getElem_of_mem I;have F:i<(Zbw 0 (r%7).toNat).length:=by rw [<-J];exact hi
  exact Y i _ t (VbF F) (by rw [VbF hi,e])
 obtain ⟨L,rfl,R⟩:=Ztx B;have s:Sc w h g f L:=⟨hw,P,hg,v,⟨M,C⟩,by simpa using N,R⟩;have H:∀t∈L.map (·.1),Thg t:=λt T=>by
  obtain ⟨p,G,rfl⟩:=Vbo.mp T;exact (R p G).g
 clear Y B J X;have A:Za7 [Zic w h g f (L.map (·.1))]=.ok (S (Zaq [10] (rws w h g f L))):=Tl.eq (Zjb s rfl);have W:=Zpc s;have o:=Zqv s;symm;refine Zak A ?_;symm;refine ZoD s ?_;refine Zo4 o o ?_;rw [Vbk rfl];symm;refine ZvB ?_;symm;refine ⟨rfl,Zak W ?_⟩;refine Zsg ?_;unfold Zic;symm;rw [Zt7];refine Zak (Zhl (Zl8 w h g f)) ?_;symm;refine ⟨rfl,?_⟩;refine Zsg ?_;symm;refine Zak (Zhl (Zrq f)) ?_;symm;rw [Vbk rfl];symm;refine ⟨rfl,?_⟩;refine Zsg ?_;have N:=s.l;have tx:∀a∈L.map (·.2),Ta a:=λa ha=>by
  obtain ⟨p,G,rfl⟩:=Vbo.mp ha;exact λc hc=>((s.t p G).c c hc).2
 symm;refine ⟨by simp;ac_rfl,ZfB s (λd=>rfl) ?_⟩;symm;refine ⟨by simp;ac_rfl,ZfB s (λd=>rfl) ?_⟩;refine Zak (Zhl (Zg5 tx _)) ?_;symm;refine ⟨rfl,?_⟩;refine Zwk s (show 8<9 by decide) ?_;symm;refine Zak W ?_;unfold Zic;symm;rw [Zt7];refine Zak (Zhl (Zl8 w h g f)) ?_;symm;refine Zak A ?_;symm;refine Zo4 o o ?_;rw [Vbk rfl];symm;have u:∀{Ψ:D->Prop},Ψ (.bl true)->Tl (dEq (S (Zaq [10] (rws w h g f L))) (S (Zaq [10] (rws w h g f L)))) Ψ:=λ{Ψ} hq=>ZeP o o (by rw [Vbk rfl];exact hq);refine Zc8 (λz=>?_) λz=>?_
 .symm;refine Zak A ?_;symm;refine u ?_;symm;exact q
 symm;refine Zc8 (λz=>?_) λz=>?_
 .symm;refine Zak A ?_;symm;refine u ?_;symm;exact q
 symm;rw [VaO];refine Zc8 (λz=>?_) λz=>?_
 .symm;refine Zak A ?_;symm;refine u ?_;symm;exact q
 symm;have gr:Zbl [frD g]=.ok (frD g):=rfl;have V:ZdC [.lst (L.map (·.1)),.int w,.int h,.lst (f.map encP),frD g]=.ok (picP (cellQ (L.map (·.1)) g f) w h):=Tl.eq (ZqB (n:=6) H (by simpa using N) (by decide) hw P (ZkH s.n v.1 v.2) gr (hg.mono (by decide)) v.1 M C (by ac_rfl) rfl);refine Zak V ?_;symm;refine Zak V ?_;refine Zak (ZsL (Zmj _ _ _)) ?_;symm;exact q
end
def ZoA(ns:List Int)(h63:ns.length<=63):ZqJ [.lst (ns.map .int)]=.ok (.bl true):=by
 refine Tl.eq ?_;unfold ZqJ;symm;refine Zid (by ac_rfl) λb=>?_;symm;refine ZgQ ?_;symm;refine Zid (by ac_rfl) λa=>?_;symm;refine ZgQ ?_;symm
end My
namespace My
open PySem L2 Ds Dl
def top(i:Nat):Stmt:=PySem.Challenge.pw_sampleyard_k82_whole_scenes_read.main.body.getD i (.Pass ⟨0,0,0,0⟩)
abbrev ZeG:Stmt:=(inClass (top 68) 1)
abbrev Zc1:Stmt:=(inClass (top 67) 1)
abbrev ZeL:Stmt:=(inClass (top 65) 1)
abbrev Zd8:Stmt:=(inClass (top 66) 1)
abbrev Zc3:Stmt:=(inClass (top 64) 0)
abbrev ZcV:Stmt:=(inClass (top 68) 0)
abbrev ZbX:Stmt:=(inClass (top 67) 0)
abbrev ZcZ:Stmt:=(inClass (top 65) 0)
abbrev Zcx:Stmt:=(inClass (top 66) 0)
abbrev ZcF:Stmt:=(inClass (top 68) 3)
abbrev ZbG:Stmt:=(inClass (top 67) 2)
abbrev Zcy:Stmt:=(inClass (top 65) 2)
abbrev Zcn:Stmt:=(inClass (top 66) 2)
abbrev ZcX:Stmt:=(inClass (top 68) 2)
abbrev ZcW:Stmt:=(inClass (top 64) 1)
abbrev Zdn:Stmt:=top 54
abbrev Zk3:Stmt:=top 112
local macro_rules | `(tactic| walk_at "sc")=>`(tactic| exact ⟨rfl,rfl,rfl,by decide +kernel,rfl,by decide +kernel,by decide +kernel⟩)
def Zd3:ZaE ["self"] ["self"] (Zag ZeG):=by walk_at "sc"
def Zcz:ZaE ["self"] ["self"] (Zag Zc1):=by walk_at "sc"
def Zd2:ZaE ["self"] ["self"] (Zag ZeL):=by walk_at "sc"
def Zdy:ZaE ["self"] ["self"] (Zag Zd8):=by walk_at "sc"
def ZcH:ZaE ["self","triangle"] ["self","triangle"] (Zag Zc3):=by walk_at "sc"
def ZcA:ZaE ["self","triangle","colour","part"] ["self","triangle","colour","part"] (Zag ZcV):=by walk_at "sc"
def ZbF:ZaE ["self","triangle","pattern"] ["self","triangle","pattern"] (Zag ZbX):=by walk_at "sc"
def ZcL:ZaE ["self","triangle","colour"] ["self","triangle","colour"] (Zag ZcZ):=by walk_at "sc"
def Zck:ZaE ["self","triangle"] ["self","triangle"] (Zag Zcx):=by walk_at "sc"
def Zcj:ZaE ["self","values"] ["self","values"] (Zag ZcF):=by walk_at "sc"
def ZbD:ZaE ["self","values"] ["self","values"] (Zag ZbG):=by walk_at "sc"
def Zcr:ZaE ["self","values"] ["self","values"] (Zag Zcy):=by walk_at "sc"
def Zb4:ZaE ["self","values"] ["self","values"] (Zag Zcn):=by walk_at "sc"
def ZcM:ZaE ["self"] ["self"] (Zag ZcX):=by walk_at "sc"
def Zcw:ZaE ["self"] ["self"] (Zag ZcW):=by walk_at "sc"
def Zkc:ZaE ["things","width","height","spots","ground","places","beneath"] ["things","width","height","spots","ground"] (Zag Zdn):=by walk_at "sc"
def Zpr:ZaE ["_law_script"] ["_law_script"] (Zag Zk3):=by walk_at "sc"
def fil:∀p,Hd.heap p=Hd.heap p/\PySem.Challenge.rw_sampleyard_k82_whole_scenes_read=PySem.Challenge.rw_sampleyard_k82_whole_scenes_read:=by
 k_fill;exact λ_=>⟨rfl,rfl⟩
def YY(P:Program)(w:World)(K:W.Frag)(mg:Str->Option Value)(base:Heap):Prop:=K=Hd.heap w.params/\∀{x:Str} {v:Option Value},W.nsIn K mainGlobals x=some v->mg x=v
abbrev BtT(x q:Str)(st:Stmt)(ps:List Str):Prop:=∀(kV doc pm:Value) (an:Option Addr) (cdv ct:Value) (us:List Value),us.length=ps.length->bindArgs (W.fnOf x q (ZcQ st) (Zbd st) (Zag st) .none kV doc pm an cdv ct) ⟨us,[]⟩=pure (ps.zip us)
section
variable{P:Program}{w:World}{K:W.Frag}{mg:Str->Option Value}{base:Heap}{c x q m:Str}{st:Stmt}{ps:List Str}{f C:Addr}{fd:FuncData}{n j l:Nat}
def ln1{P:List Value->Prop}(q:∀a,P [a]):∀us,us.length=1->P us:=by intro us h;rcases us with _|⟨a,_|_⟩<;>first | exact q _ | cases h
def ln2{P:List Value->Prop}(q:∀a b,P [a,b]):∀us,us.length=2->P us:=by intro us h;rcases us with _|⟨a,_|⟨b,_|_⟩⟩<;>first | exact q _ _ | cases h
def ln3{P:List Value->Prop}(q:∀a b c,P [a,b,c]):∀us,us.length=3->P us:=by intro us h;rcases us with _|⟨a,_|⟨b,_|⟨c,_|_⟩⟩⟩<;>first | exact q _ _ _ | cases h
def ln4{P:List Value->Prop}(q:∀a b c d,P [a,b,c,d]):∀us,us.length=4->P us:=by intro us h;rcases us with _|⟨a,_|⟨b,_|⟨c,_|⟨d,_|_⟩⟩⟩⟩<;>first | exact q _ _ _ _ | cases h
def ln5{P:List Value->Prop}(q:∀a b c d e,P [a,b,c,d,e]):∀us,us.length=5->P us:=by intro us h;rcases us with _|⟨a,_|⟨b,_|⟨c,_|⟨d,_|⟨e,_|_⟩⟩⟩⟩⟩<;>first | exact q _ _ _ _ _ | cases h
def exI{α:Type}{φ:α->Prop}{a:α}(h:φ a):∃a,φ a:=⟨a,h⟩
def Zt1{φ:Addr->Prop}(a:mg c=some (.ref C))(h:φ C):∀C,mg c=some (.ref C)->φ C:=by
 intro C e;cases a.symm.trans e;exact h
def Zp8(T:YY P w K mg base)(a:W.nsIn (Hd.heap w.params) mainGlobals x=some (some (.ref f)))(F:Fun (Hd.heap w.params) x x st f fd)(b:BtT x x st ps):Def K mg x st ps:=by
 obtain ⟨rfl,g⟩:=T;exact ⟨f,fd,F,F.binds b,g a⟩
def ZnS{cs:List Str}{i:List D->Fs->Res Fs}(a:mg c=some (.ref C))(h1:W.makesIn K C=true)(h2:W.findIn K (.ref C) "__init__"=some (some (.ref f)))(h3:W.isFn K (.ref f)=true)(h4:W.keepIn K (.ref C)=true)(F:Fun K x q st f fd)(o:Fun K x q st f fd->FnOk P w K mg base (CXR P w) j f fd ps (spI K mg n cs i))(b:BtT x q st ps)(e:cs.contains c=true):CalI P w K mg base j c n cs i:=⟨_,_,_,_,a,⟨h1,h2,h3,h4⟩,o F,F.binds b,e⟩
def ZwV{cs:List Str}{i:List D->Fs->Res Fs}(a:mg c=some (.ref C))(h1:W.specialIn K (.ref C) "__getattribute__"=some (some (.builtin "type.__getattribute__")))(h2:W.readsIn K C (.type "type")=true)(h3:W.findCls K (.ref C) (.type "type") "__init__"=some (.val (.ref f)))(h4:W.handedIn (.ref f)=true)(F:Fun K x q st f fd)(o:Fun K x q st f fd->FnOk P w K mg base (CXR P w) j f fd ps (spI K mg n cs i))(b:BtT x q st ps):CalS P w K mg base j c "__init__" n cs i:=⟨_,_,_,_,a,⟨h1,⟨_,h2,h3⟩,h4,F.kp⟩,o F,F.binds b⟩
def Zfu{i:List D->Res D}(a:mg c=some (.ref C))(p:Cls K C)(h1:W.findIn K (.ref C) m=some (some (.ref f)))(h2:W.isFn K (.ref f)=true)(F:Fun K x q st f fd)(o:Fun K x q st f fd->FnOk P w K mg base (CXR P w) j f fd ps (spD K mg ps.length i))(b:BtT x q st ps)(hj:j<=l)(e:ps.length=n+1):∀C,mg c=some (.ref C)->Cls K C/\∃g fd ps,Meth K C m g/\FnOk P w K mg base (CXR P w) l g fd ps (spD K mg ps.length i)/\Binds K fd ps []/\ps.length=n+1:=Zt1 a ⟨p,_,_,_,⟨h1,h2,F.kp⟩,(o F).mono hj,F.binds b,e⟩
def lawK{oc kV dc pm cd ct:Value}{od an:Option Addr}{sl:Array (Option Value)}{fa:Addr}{sp:Sp}(a:mg "law"=some (.ref f))(hfa:mg "law"=some (.ref fa))(l:K.lookup f=some ⟨oc,od,.func (W.fnOf "law" "law" (ZcQ Zk3) (Zbd Zk3) (Zag Zk3) .none kV dc pm an cd ct),sl⟩)(h1:W.codeIn K cd "law"=true)(h2:W.keepIn K (.ref f)=true)(o:∀base fd,Fun K "law" "law" Zk3 f fd->FnOk P w K mg base (CXR P w) n f fd ["_law_script"] sp):∃fd:FuncData,(∀(s:Shared) (v:Value),BindsTo s fd ⟨[v],[]⟩ [("_law_script",v)])/\∀base:Heap,K.In base->base.Ns mainGlobals mg->FnOk P w K mg base (CXR P w) n fa fd ["_law_script"] sp:=by
 cases a.symm.trans hfa;exact ⟨_,λs v=>.of_eq rfl,λbase _ _=>o base _ (Zbr l h1 h2)⟩
def cal1{mb:MS}(st:Stmt)(N:List Str)(D:Def K mg x st ps/\ZaE N ps (Zag st))(h:N.Nodup->∀(f:Addr) (cdv:Value) (A:Around) (outer:List Env) (s:Shared) (H:Hp) (E:XK),Room n (A.deeper (PyProof.Rows.envOfC x (Zag st) s.heap.objs.size f cdv))->∃t,DSs (cxOf (CXR P w) P w K mg base N x (Zag st) f cdv A outer s H E) E (Zbd st) t mb):Cal P w K mg base (n+1) x ps (fn N.length mb):=D.1.cal D.2 (h D.2.nd)
end
local macro_rules | `(tactic| walk_at "b")=>`(tactic| first | (exact λ_ _ _ _ _ _=>My.ln1 λ_=>rfl) | (exact λ_ _ _ _ _ _=>My.ln2 λ_ _=>rfl) | (exact λ_ _ _ _ _ _=>My.ln3 λ_ _ _=>rfl) | (exact λ_ _ _ _ _ _=>My.ln4 λ_ _ _ _=>rfl) | (exact λ_ _ _ _ _ _=>My.ln5 λ_ _ _ _ _=>rfl))
set_option hygiene false
local macro_rules | `(tactic| walk_at "y")=>`(tactic| obtain ⟨rfl,g⟩:=id T)
local macro_rules | `(tactic| walk_at "q")=>`(tactic| all_goals first | k_is | k_exc | kit_is | kts_exm | kernel_rfl | rfl | skip)
local macro_rules | `(tactic| walk_at "z")=>`(tactic| (walk_at "y"; refine' g ?_;k_is))
local macro_rules | `(tactic| walk_at "z1")=>`(tactic| (walk_at "y"; refine' My.exI (g ?_);walk_at "q"))
local macro_rules | `(tactic| walk_at "z2")=>`(tactic| (walk_at "y"; refine' My.exI ⟨g ?_,?_⟩;walk_at "q"))
local macro_rules | `(tactic| walk_at "fl")=>`(tactic| (walk_at "y"; (repeat' first | exact ZeD.nil | refine' ZeD.cons (My.Zt1 (g ?_) ⟨⟨?_,?_,?_,?_⟩,?_⟩) ?_);walk_at "q"))
local macro_rules | `(tactic| walk_at "d")=>`(tactic| (refine' My.Zp8 T ?_ (L2.Zbr ?_ ?_ ?_) (by walk_at "b");walk_at "q"))
local macro_rules | `(tactic| walk_at "D")=>`(tactic| (refine' ⟨My.Zp8 T ?_ (L2.Zbr ?_ ?_ ?_) (by walk_at "b"),by walk_at "sc"⟩;walk_at "q"))
set_option hygiene true
section
variable{P:Program}{w:World}{K:W.Frag}{mg:Str->Option Value}{base:Heap}(T:YY P w K mg base)
include T
def ZwQ:mg "abs"=none:=by walk_at "z"
def ZlN:mg "all"=none:=by walk_at "z"
def ZuB:mg "bool"=none:=by walk_at "z"
def Zvs:mg "int"=none:=by walk_at "z"
def ZiH:mg "isinstance"=none:=by walk_at "z"
def Zol:mg "len"=none:=by walk_at "z"
def Zlz:mg "list"=none:=by walk_at "z"
def Zi0:mg "range"=none:=by walk_at "z"
def Zk8:mg "reversed"=none:=by walk_at "z"
def Zv7:mg "set"=none:=by walk_at "z"
def Zux:mg "str"=none:=by walk_at "z"
def ZfH:mg "tuple"=none:=by walk_at "z"
def Zv3:mg "zip"=none:=by walk_at "z"
def ZfN:∃tk,mg "FIGURES"=some (.str "0123456789" tk):=by walk_at "z1"
def Zcu:∃tk,mg "MOST_CELLS"=some (.int 64 tk):=by walk_at "z1"
def ZcN:∃tk,mg "MOST_FIGURES"=some (.int 30 tk):=by walk_at "z1"
def ZdL:∃tk,mg "MOST_SPOTS"=some (.int 16 tk):=by walk_at "z1"
def Zdh:∃tk,mg "MOST_VALUES"=some (.int 3 tk):=by walk_at "z1"
def Zms{gtk0_0:Tok}{gtk0_1:Tok}{gtk0_2:Tok}{gtk0_3:Tok}{gtk0_4:Tok}{GA0:Addr}{godt0:Option Addr}{gnn0:Nat}{gsl0:Array (Option Value)}(gta0:W.nsIn K mainGlobals "COUNTS"=some (some (.ref GA0)))(gtl0:K.lookup GA0=some ⟨.type "tuple",godt0,.seq #[.int 1 gtk0_0,.int 2 gtk0_1,.int 4 gtk0_2,.int 8 gtk0_3,.int 16 gtk0_4] gnn0,gsl0⟩):GTup K mg "COUNTS" [1,2,4,8,16]:=⟨_,_,_,_,T.2 gta0,gtl0,rfl,rfl,show (5:Nat)<=sizeLine by decide,(.cons ⟨_,rfl⟩ (.cons ⟨_,rfl⟩ (.cons ⟨_,rfl⟩ (.cons ⟨_,rfl⟩ (.cons ⟨_,rfl⟩ .nil)))))⟩
def ZoC:GTup K mg "COUNTS" [1,2,4,8,16]:=by walk_at "y"; refine' Zms T ?_ ?_;walk_at "q"
def nl_:Znj K:=by walk_at "y"; refine' Zo2 ?_;walk_at "q"
def Zg2:ZeD K mg objs "colour":=by walk_at "fl"
def Zpx:ZeD K mg objs "part":=by walk_at "fl"
def Zih:ZeD K mg objs "pattern":=by walk_at "fl"
def ZgG:ZeD K mg objs "triangle":=by walk_at "fl"
set_option hygiene false in
local macro_rules | `(tactic| walk_at "e")=>`(tactic| repeat' first
 | exact Zdt
 | exact ZtC
 | exact yaS
 | exact ZbE
 | exact ZaI
 | exact ZlT
 | exact d_v _
 | refine' Zai ?_ ?_
 | refine' yaU ?_ ?_
 | refine' ZcT (by first | assumption | exact CalO.cal (by assumption) | exact CalN.cal (by assumption)) hr (by decide) rfl Zax ?_
 | refine' ZnC (by first | assumption | exact CalO.cal (by assumption) | exact CalN.cal (by assumption)) hr (by decide) rfl ?_
 | refine' d_callX (by first | assumption | exact CalO.cal (by assumption) | exact CalN.cal (by assumption)) hr (by decide) rfl ?_
 | refine' Zi9 ?_ ?_
 | refine' ZwM ?_ ?_
 | refine' ZwK ?_ ?_
 | refine' ZtA ?_ ?_
 | refine' ZwJ ?_ ?_
 | refine' Zwd ?_ ?_
 | refine' ZwU ?_ ?_
 | refine' Zwf ?_ ?_
 | refine' Zn6 ?_ ?_
 | refine' Zwq ?_ ?_
 | refine' Zv4 ?_ ?_
 | refine' Zwy ?_ ?_
 | refine' ya2 ?_ ?_
 | refine' ya3 ?_ ?_
 | refine' d_gt ?_ ?_
 | refine' ya4 ?_ ?_
 | refine' ZiC ?_ ?_
 | refine' ZlO ?_ ?_
 | refine' ZwG ?_ ?_
 | refine' d_or ?_ ?_
 | refine' ZmQ hr ?_ ?_
 | refine' ZkO hr ?_ ?_
 | refine' dt_in hr ?_ ?_
 | refine' Zlq hr ?_ ?_
 | refine' ya5 hr ?_ ?_
 | refine' d_ne hr ?_ ?_
 | refine' d_in hr ?_ ?_
 | refine' d_nin hr ?_ ?_
 | exact yaX rfl (ZuB T) Zqe
 | exact yaX rfl (Zvs T) ZpA
 | exact yaX rfl (Zlz T) Zi1
 | exact yaX rfl (Zux T) ZpY
 | exact yaX rfl (ZfH T) Zev
 | refine' yaT Zor ZmA rfl (ZwQ T) Zs6 ?_
 | refine' yaT Zlr ZmB rfl (ZiH T) Zha ?_
 | refine' yaT Zob ZkK rfl (Zol T) ZjF ?_
 | refine' yaT Zfi Zii rfl (Zol T) ZjF ?_
 | refine' yaV Zlu Zle rfl (Zvs T) ZpA ?_
 | refine' yaV Zh5 Zk7 rfl (Zlz T) Zi1 ?_
 | refine' yaV Ziq Zmh rfl (Zux T) ZpY ?_
 | refine' yaV Zb5 Zde rfl (ZfH T) Zev ?_
 | refine' Zot (Zg2 T) ?_
 | refine' Zot (Zpx T) ?_
 | refine' Zot (Zih T) ?_
 | refine' Zot (ZgG T) ?_
 | refine' ZtW ?_ ?_
 | refine' ZuG ?_ ?_
 | refine' Zwe ?_ ?_ ?_
 | refine' Zu1 ?_ ?_ ?_
 | refine' ZwT ?_
 | refine' ZgW ?_
 | refine' ZvL ?_
 | refine' ZsQ ?_
 | refine' Zm3 ?_
 | refine' d_isN ?_
 | refine' d_notN ?_
 | refine' Zmc ?_
 | refine' Zwc ?_
 | refine' Zgd ?_
 | refine' ZrG ?_
 | refine' Zd9 ?_
 | refine' DW.dt ?_
 | exact Zam
 | exact ZsH
 | exact ds_retN
 | exact ZpL
 | exact ds_brk
 | exact ds_pass
 | refine' Zaf ?_
 | refine' Zab ?_ ?_
 | refine' Zap ?_
 | refine' ZaU ?_ ?_ ?_
 | refine' Zcm hN rfl (by first | exact Or.inl rfl | exact Or.inr rfl) ?_
 | refine' Zq1 hN rfl (by first | exact Or.inl rfl | exact Or.inr rfl) ?_ ?_
 | refine' Zph _ ?_
 | refine' ZuF ?_
 | refine' ZpK ?_ ?_
 | refine' Zfj PassesOwn.leaving rfl ?_ ?_ ?_
 | exact ZlA hN rfl (by first | exact Or.inl rfl | exact Or.inr rfl) (by decide)
 | refine' Zvu rfl ?_
 | refine' ZnO ?_ ?_
 | refine' ZvV rfl (Zi0 T) ?_
 | refine' ZaS ?_
 | refine' ZpG ?_
 | decide
 | fail)
local macro_rules | `(tactic| walk_at "co")=>`(tactic| exact Zeb.of rfl rfl (by kernel_rfl) rfl (by repeat' (first | exact trivial | refine ⟨rfl,?_⟩)) (by repeat' (first | exact trivial | refine ⟨rfl,?_⟩)))
local macro_rules | `(tactic| walk_at "cg")=>`(tactic| exact λ_ _ _ _ _=>ZlA (by show List.Nodup ((_:List Str) ++ (_:List Str));decide +kernel) rfl (by first | exact Or.inl rfl | exact Or.inr rfl) (by decide))
local macro_rules | `(tactic| walk_at "ct")=>`(tactic| exact λ_ _ _ _ _=>Zqb)
local macro_rules | `(tactic| walk_at "ce")=>`(tactic| (intro _ _ _ _ _;walk_at "e"))
def ZfT:Cal P w K mg base 1 "_law_cell_at" ["_law_script","_law_k"] Zbe:=by
 exact cal1 (top 102) ["_law_script","_law_k"] (by walk_at "D") (λhN f cdv A outer s H E hr=>⟨_,(by walk_at "e")⟩)
def ZbN:Cal P w K mg base 1 "number_word" ["number"] Zat:=by
 exact cal1 (top 75) ["number","pieces","rest"] (by walk_at "D") (λhN f cdv A outer s H E hr=>⟨_,(Zab (by walk_at "e")
  (Zab (by walk_at "e")
  (Zab (Zmd PassesOwn.leaving (by walk_at "e")
  ZaD)
  (Zab (by walk_at "e")
  (Zab (by walk_at "e")
  (Zaf (Zap (Zm8 1 rfl rfl (Zk8 T)))))))))⟩)
def Zho:Cal P w K mg base 1 "numbers_of" ["corner"] ZdE:=by
 exact cal1 (top 27) ["corner"] (by walk_at "D") (λhN f cdv A outer s H E hr=>⟨_,(by walk_at "e")⟩)
def Zgt:Cal P w K mg base 2 "corner_text" ["corner"] Zb6:=by
 have yae:=ZbN T;have c_numbers_of:=Zho T;exact cal1 (top 86) ["corner"] (by walk_at "D") (λhN f cdv A outer s H E hr=>⟨_,(Zaf (Zap (yaD PySem.F.slot_str_join PySem.F.type_str_join ZcR ZbQ ZbE (Zi9 (by walk_at "e") (ZaJ (own:=["number"]) (cap:=[]) (by walk_at "e") (by walk_at "co") rfl (by walk_at "cg") (by walk_at "ct") (by walk_at "ce"))))))⟩)
theorem ZgA{f:Addr}{fd:FuncData}(F:Fun K "word" "Plain.word" ZeL f fd):FnOk P w K mg base (CXR P w) 1 f fd ["self"] (spD K mg 1 Zb9):=by
 exact okM F Zd2 (λb A a s H E c=>have d:=Zd2.nd;⟨_,(Zaf (Zap ZbE))⟩)
theorem ZfU{f:Addr}{fd:FuncData}(F:Fun K "word" "Shaded.word" Zd8 f fd):FnOk P w K mg base (CXR P w) 1 f fd ["self"] (spD K mg 1 ZbR):=by
 exact okM F Zdy (λb A a s H E c=>have d:=Zdy.nd;⟨_,(Zaf (Zap ZbE))⟩)
theorem ZeB{f:Addr}{fd:FuncData}(F:Fun K "word" "Patterned.word" Zc1 f fd):FnOk P w K mg base (CXR P w) 1 f fd ["self"] (spD K mg 1 Zbb):=by
 exact okM F Zcz (λb A a s H E c=>have d:=Zcz.nd;⟨_,(Zaf (Zap ZbE))⟩)
theorem Zgz{f:Addr}{fd:FuncData}(F:Fun K "word" "Glass.word" ZeG f fd):FnOk P w K mg base (CXR P w) 1 f fd ["self"] (spD K mg 1 Zb7):=by
 exact okM F Zd3 (λb A a s H E c=>have d:=Zd3.nd;⟨_,(Zaf (Zap ZbE))⟩)
def Zsk:ZcJ P w K mg base 1 0 "word" ZjT:=by
 walk_at "y"; refine' ZcJ.cons (Zfu (g ?_) ⟨?_,?_,?_,?_⟩ ?_ ?_ (Zbr ?_ ?_ ?_) (ZgA T) (by walk_at "b") (by decide) rfl) (.cons (Zfu (g ?_) ⟨?_,?_,?_,?_⟩ ?_ ?_ (Zbr ?_ ?_ ?_) (ZfU T) (by walk_at "b") (by decide) rfl) (.cons (Zfu (g ?_) ⟨?_,?_,?_,?_⟩ ?_ ?_ (Zbr ?_ ?_ ?_) (ZeB T) (by walk_at "b") (by decide) rfl) (.cons (Zfu (g ?_) ⟨?_,?_,?_,?_⟩ ?_ ?_ (Zbr ?_ ?_ ?_) (Zgz T) (by walk_at "b") (by decide) rfl) .nil)));walk_at "q"
def ZbZ:Cal P w K mg base 2 "fraction_word" ["fraction"] ZaA:=by
 have yae:=ZbN T;exact cal1 (top 76) ["fraction"] (by walk_at "D") (λhN f cdv A outer s H E hr=>⟨_,(by walk_at "e")⟩)
def ZfJ:Cal P w K mg base 3 "pattern_word" ["pattern"] ZbO:=by
 have yak:=ZbZ T;exact cal1 (top 85) ["pattern"] (by walk_at "D") (λhN f cdv A outer s H E hr=>⟨_,(Zaf (Zap (yaD PySem.F.slot_str_join PySem.F.type_str_join ZcR ZbQ ZbE (ZaJ (own:=["row"]) (cap:=[]) (ZaS (d_v 0)) (by walk_at "co") rfl (by walk_at "cg") (by walk_at "ct") (λ_ _ _ _ _=>(yaD PySem.F.slot_str_join PySem.F.type_str_join ZcR ZbQ ZbE (ZaJ (own:=["entry"]) (cap:=[]) (ZaS (d_v 0)) (by walk_at "co") rfl (by walk_at "cg") (by walk_at "ct") (by walk_at "ce"))))))))⟩)
def Zg8:Cal P w K mg base 4 "head_words" ["thing"] ZcG:=by
 have cm_word:=Zsk T;have yak:=ZbZ T;have c_pattern_word:=ZfJ T
 exact cal1 (top 84) ["thing","word"] (by walk_at "D") (λhN f cdv A outer s H E hr=>⟨_,(Zab (Zcm (i:=1) hN rfl (Or.inl rfl) (Zi4 cm_word hr (by decide) Zax (d_v 0)))
  (by walk_at "e"))⟩)
def Zdg:Cal P w K mg base 5 "thing_text" ["thing"] ZaK:=by
 have c_corner_text:=Zgt T;have c_head_words:=Zg8 T;exact cal1 (top 83) ["thing"] (by walk_at "D") (λhN f cdv A outer s H E hr=>⟨_,(Zaf (Zap (yaD PySem.F.slot_str_join PySem.F.type_str_join ZcR ZbQ ZbE (Zi9 (by walk_at "e") (ZaJ (own:=["corner"]) (cap:=[]) (by walk_at "e") (by walk_at "co") rfl (by walk_at "cg") (by walk_at "ct") (by walk_at "ce"))))))⟩)
def Zig:Cal P w K mg base 1 "_law_word" ["_law_fraction_here"] Zdc:=by
 exact cal1 (top 109) ["_law_fraction_here"] (by walk_at "D") (λhN f cdv A outer s H E hr=>⟨_,(by walk_at "e")⟩)
def Zi3:Cal P w K mg base 6 "_law_due" ["_law_width","_law_height","_law_ground","_law_spots_here","_law_things"] ZdW:=by
 have c__law_word:=Zig T;have yaw:=Zdg T
 exact cal1 (top 110) ["_law_width","_law_height","_law_ground","_law_spots_here","_law_things","_law_rows"] (by walk_at "D") (λhN f cdv A outer s H E hr=>⟨_,(Zab (by walk_at "e")
  (Zab (Zph 5 (Zi9 ZbE (yaD PySem.F.slot_str_join PySem.F.type_str_join ZcR ZbQ ZbE (ZaJ (own:=["_law_spot"]) (cap:=[]) (ZaS (d_v 3)) (by walk_at "co") rfl (by walk_at "cg") (by walk_at "ct") (by walk_at "ce")))))
  (Zaf (ZpG (Zap (yaD PySem.F.slot_str_join PySem.F.type_str_join ZcR ZbQ ZbE (Zi9 (d_v 5) (ZaJ (own:=["_law_thing_here"]) (cap:=[]) (ZaS (d_v 4)) (by walk_at "co") rfl (by walk_at "cg") (by walk_at "ct") (by walk_at "ce")))))))))⟩)
def Zbx:Cal P w K mg base 1 "_law_mixed" ["_law_cell","_law_k"] Zal:=by
 exact cal1 (top 104) ["_law_cell","_law_k","_law_number"] (by walk_at "D") (λhN f cdv A outer s H E hr=>⟨_,(by walk_at "e")⟩)
def Zf4:Cal P w K mg base 1 "_law_divisor" ["_law_one","_law_other"] ZbL:=by
 exact cal1 (top 103) ["_law_one","_law_other"] (by walk_at "D") (λhN f cdv A outer s H E hr=>⟨_,(Zab (Zmd PassesOwn.leaving (ZmQ hr (d_v 1) Zdt)
  (Zaf (Zty (i:=0) (j:=1) rfl hN rfl rfl (by decide) rfl rfl (d_v 1) (ZtA (d_v 0) (d_v 1)))))
  (by walk_at "e"))⟩)
def Zdo:Cal P w K mg base 2 "_law_fraction" ["_law_cell","_law_k"] ZaB:=by
 have c__law_divisor:=Zf4 T;have yad:=Zbx T;exact cal1 (top 105) ["_law_cell","_law_k","_law_number","_law_top","_law_bottom","_law_part"] (by walk_at "D") (λhN f cdv A outer s H E hr=>⟨_,(by walk_at "e")⟩)
def ZhA:Cal P w K mg base 2 "_law_spots" ["_law_cell"] ZcC:=by
 have yad:=Zbx T
 exact cal1 (top 108) ["_law_cell","_law_found","_law_k","_law_spot"] (by walk_at "D") (λhN f cdv A outer s H E hr=>⟨_,(Zab (by walk_at "e")
  (Zab (Zfj PassesOwn.leaving rfl (by walk_at "e") (by walk_at "e")
  (Zab (by walk_at "e")
  (Zaf (ZaU (Zwg 1 (by walk_at "e"))
  (by walk_at "e")
  Zam))))
  (by walk_at "e")))⟩)
def Zco:Cal P w K mg base 1 "check_before_eye" ["corners"] Zaw:=by
 exact cal1 (top 32) ["corners","corner"] (by walk_at "D") (λhN f cdv A outer s H E hr=>⟨_,(Zaf (Zfj PassesOwn.leaving rfl (ZaS (d_v 0)) (by walk_at "e")
  (Zaf (ZaU (by walk_at "e")
  ZaD
  Zam))))⟩)
def Zdm:Cal P w K mg base 1 "is_whole" ["thing"] ZaZ:=by
 exact cal1 (top 9) ["thing"] (by walk_at "D") (λhN f cdv A outer s H E hr=>⟨_,(by walk_at "e")⟩)
def ZhJ:Cal P w K mg base 2 "are_values" ["thing"] ZcE:=by
 have yav:=Zdm T;obtain ⟨tk_MOST_VALUES,Zdh⟩:=(Zdh T)
 exact cal1 (top 26) ["thing"] (by walk_at "D") (λhN f cdv A outer s H E hr=>⟨_,(Zab (ZaU (DW.dt (ZiC (by walk_at "e") (Zgd (Zn6 (by walk_at "e") (yaY rfl Zdh)))))
  (Zaf (Zap yaS))
  Zam)
  (Zaf (Zap (yaT (ZdF rfl) Zdw rfl (ZlN T) ZiM (Zai (ZaJ (own:=["number"]) (cap:=[]) (ZaS (d_v 0)) (by walk_at "co") rfl (by walk_at "cg") (by walk_at "ct") (by walk_at "ce")) ZaI)))))⟩)
def ZiE:Cal P w K mg base 3 "is_corner" ["thing"] Zdd:=by
 have yav:=Zdm T;have c_are_values:=ZhJ T
 exact cal1 (top 25) ["thing"] (by walk_at "D") (λhN f cdv A outer s H E hr=>⟨_,(Zab (by walk_at "e")
  (Zab (ZaU (ZgW (Zd9 (yaT (ZdF rfl) Zdw rfl (ZlN T) ZiM (Zai (ZaJ (own:=["number"]) (cap:=[]) (by walk_at "e") (by walk_at "co") rfl (by walk_at "cg") (by walk_at "ct") (by walk_at "ce")) ZaI))))
  (Zaf (Zap yaS))
  Zam)
  (by walk_at "e")))⟩)
def Zfe:Cal P w K mg base 4 "check_triangle" ["triangle"] Zbk:=by
 have c_is_corner:=ZiE T
 exact cal1 (top 24) ["triangle","corner"] (by walk_at "D") (λhN f cdv A outer s H E hr=>⟨_,(Zab (ZaU (by walk_at "e")
  ZaD
  Zam)
  (Zaf (Zfj PassesOwn.leaving rfl (ZaS (d_v 0)) (by walk_at "e")
  (Zab (ZaU (by walk_at "e")
  ZaD
  Zam)
  (Zaf (ZaU (by walk_at "e")
  ZaD
  Zam))))))⟩)
theorem ZnK{f:Addr}{fd:FuncData}(F:Fun K "__init__" "Thing.__init__" Zc3 f fd):FnOk P w K mg base (CXR P w) 5 f fd ["self","triangle"] (spI K mg 1 objs ZdI):=by
 have yar:=Zco T;have c_check_triangle:=Zfe T
 exact okI F ZcH (by decide) rfl (λcdv A outer s H E hr=>have hN:=ZcH.nd;⟨_,(Zfp (by walk_at "e")
  (Zfp (by walk_at "e")
  (Zij (ZgG T) (d_v 1)
  Zh9)))⟩)
def ZfC:CalS P w K mg base 5 "Thing" "__init__" 1 objs ZdI:=by
 walk_at "y"; refine' ZwV (g ?_) ?_ ?_ ?_ ?_ (Zbr ?_ ?_ ?_) (ZnK T) (by walk_at "b");walk_at "q"
def Zcf:Cal P w K mg base 1 "greatest_divisor" ["numbers"] Zas:=by
 exact cal1 (top 11) ["numbers","found","number","rest","left"] (by walk_at "D") (λhN f cdv A outer s H E hr=>⟨_,(Zab (by walk_at "e")
  (Zab (Zfj PassesOwn.leaving rfl (ZaS (d_v 0)) (by walk_at "e")
  (Zab (by walk_at "e")
  (Zaf (Zmd PassesOwn.leaving (ZmQ hr (d_v 3) Zdt)
  (by walk_at "e")))))
  (by walk_at "e")))⟩)
def ZbS:Cal P w K mg base 2 "is_fraction" ["thing"] ZaW:=by
 have yav:=Zdm T;have yas:=Zcf T;exact cal1 (top 21) ["thing"] (by walk_at "D") (λhN f cdv A outer s H E hr=>⟨_,(by walk_at "e")⟩)
def Zdv:Cal P w K mg base 3 "check_colour" ["colour"] Zbj:=by
 have yaf:=ZbS T
 exact cal1 (top 70) ["colour"] (by walk_at "D") (λhN f cdv A outer s H E hr=>⟨_,(Zaf (ZaU (by walk_at "e")
  ZaD
  Zam))⟩)
def Zhx:Cal P w K mg base 3 "check_part" ["part"] ZcI:=by
 have yaf:=ZbS T
 exact cal1 (top 71) ["part"] (by walk_at "D") (λhN f cdv A outer s H E hr=>⟨_,(Zaf (ZaU (by walk_at "e")
  ZaD
  Zam))⟩)
theorem ZoJ{f:Addr}{fd:FuncData}(F:Fun K "__init__" "Glass.__init__" ZcV f fd):FnOk P w K mg base (CXR P w) 7 f fd ["self","triangle","colour","part"] (spI K mg 3 objs Ze2):=by
 have yag:=ZfC T;have yaz:=Zdv T;have c_check_part:=Zhx T
 exact okI F ZcA (by decide) rfl (λcdv A outer s H E hr=>have hN:=ZcA.nd;⟨_,(Zkr yag hr (by decide) rfl Zax (λ_ h=>h) (Zai (d_v 1) ZaI)
  (Zfp (by walk_at "e")
  (Zfp (by walk_at "e")
  (Zij (Zg2 T) (d_v 2)
  (Zij (Zpx T) (d_v 3)
  Zh9)))))⟩)
def Zj7:CalI P w K mg base 7 "Glass" 3 objs Ze2:=by
 walk_at "y"; refine' ZnS (g ?_) ?_ ?_ ?_ ?_ (Zbr ?_ ?_ ?_) (ZoJ T) (by walk_at "b") rfl;walk_at "q"
def Zfv:Cal P w K mg base 3 "check_pattern" ["pattern"] Za8:=by
 have yaf:=ZbS T;obtain ⟨ga_COUNTS,go_COUNTS,gi_COUNTS,gn_COUNTS,yaH,yaI,yaJ,yaK,yaL,yaM⟩:=(ZoC T)
 exact cal1 (top 60) ["pattern","row"] (by walk_at "D") (λhN f cdv A outer s H E hr=>⟨_,(Zab (ZaU (DW.dt (ZiC (by walk_at "e") (Zgd (Zlq hr (by walk_at "e") (Zpz (ns:=[1,2,4,8,16]) rfl yaH yaI yaJ yaK yaL yaM)))))
  ZaD
  Zam)
  (Zaf (Zfj PassesOwn.leaving rfl (ZaS (d_v 0)) (by walk_at "e")
  (Zab (ZaU (DW.dt (ZiC (by walk_at "e") (Zgd (Zlq hr (by walk_at "e") (Zpz (ns:=[1,2,4,8,16]) rfl yaH yaI yaJ yaK yaL yaM)))))
  ZaD
  Zam)
  (Zab (ZaU (by walk_at "e")
  ZaD
  Zam)
  (Zaf (ZaU (ZgW (Zd9 (yaT (ZdF rfl) Zdw rfl (ZlN T) ZiM (Zai (ZaJ (own:=["entry"]) (cap:=[]) (ZaS (d_v 1)) (by walk_at "co") rfl (by walk_at "cg") (by walk_at "ct") (by walk_at "ce")) ZaI))))
  ZaD
  Zam)))))))⟩)
def ZdK:Cal P w K mg base 1 "check_values" ["triangle","least"] Zbi:=by
 exact cal1 (top 69) ["triangle","least"] (by walk_at "D") (λhN f cdv A outer s H E hr=>⟨_,(Zaf (ZaU (by walk_at "e")
  ZaD
  Zam))⟩)
def Zmv:Cal P w K mg base 1 "copied" ["pattern"] ZeY:=by
 exact cal1 (top 61) ["pattern"] (by walk_at "D") (λhN f cdv A outer s H E hr=>⟨_,(Zaf (Zap (ZaJ (own:=["row"]) (cap:=[]) (ZaS (d_v 0)) (by walk_at "co") rfl (by walk_at "cg") (by walk_at "ct") (by walk_at "ce"))))⟩)
theorem Zin{f:Addr}{fd:FuncData}(F:Fun K "__init__" "Patterned.__init__" ZbX f fd):FnOk P w K mg base (CXR P w) 7 f fd ["self","triangle","pattern"] (spI K mg 2 objs ZbJ):=by
 have yag:=ZfC T;have c_check_pattern:=Zfv T;have yaA:=ZdK T;have c_copied:=Zmv T
 exact okI F ZbF (by decide) rfl (λcdv A outer s H E hr=>have hN:=ZbF.nd;⟨_,(Zkr yag hr (by decide) rfl Zax (λ_ h=>h) (Zai (d_v 1) ZaI)
  (Zfp (by walk_at "e")
  (Zfp (by walk_at "e")
  (Zij (Zih T) (by walk_at "e")
  Zh9))))⟩)
def Zfq:CalI P w K mg base 7 "Patterned" 2 objs ZbJ:=by
 walk_at "y"; refine' ZnS (g ?_) ?_ ?_ ?_ ?_ (Zbr ?_ ?_ ?_) (Zin T) (by walk_at "b") rfl;walk_at "q"
theorem ZoG{f:Addr}{fd:FuncData}(F:Fun K "__init__" "Plain.__init__" ZcZ f fd):FnOk P w K mg base (CXR P w) 7 f fd ["self","triangle","colour"] (spI K mg 2 objs Ze7):=by
 have yag:=ZfC T;have yaz:=Zdv T
 exact okI F ZcL (by decide) rfl (λcdv A outer s H E hr=>have hN:=ZcL.nd;⟨_,(Zkr yag hr (by decide) rfl Zax (λ_ h=>h) (Zai (d_v 1) ZaI)
  (Zfp (by walk_at "e")
  (Zij (Zg2 T) (d_v 2)
  Zh9)))⟩)
def Zkl:CalI P w K mg base 7 "Plain" 2 objs Ze7:=by
 walk_at "y"; refine' ZnS (g ?_) ?_ ?_ ?_ ?_ (Zbr ?_ ?_ ?_) (ZoG T) (by walk_at "b") rfl;walk_at "q"
theorem Zmg{f:Addr}{fd:FuncData}(F:Fun K "__init__" "Shaded.__init__" Zcx f fd):FnOk P w K mg base (CXR P w) 7 f fd ["self","triangle"] (spI K mg 1 objs ZdX):=by
 have yag:=ZfC T;have yaA:=ZdK T
 exact okI F Zck (by decide) rfl (λcdv A outer s H E hr=>have hN:=Zck.nd;⟨_,(Zkr yag hr (by decide) rfl Zax (λ_ h=>h) (Zai (d_v 1) ZaI)
  (Zfp (by walk_at "e")
  Zh9))⟩)
def ZiU:CalI P w K mg base 7 "Shaded" 1 objs ZdX:=by
 walk_at "y"; refine' ZnS (g ?_) ?_ ?_ ?_ ?_ (Zbr ?_ ?_ ?_) (Zmg T) (by walk_at "b") rfl;walk_at "q"
def Zgv:Cal P w K mg base 2 "_law_corner" ["_law_cell","_law_k"] Zba:=by
 have yad:=Zbx T;exact cal1 (top 106) ["_law_cell","_law_k","_law_w","_law_x","_law_y"] (by walk_at "D") (λhN f cdv A outer s H E hr=>⟨_,(by walk_at "e")⟩)
def Zhq:Cal P w K mg base 9 "_law_thing" ["_law_cell","_law_k"] Zct:=by
 have yad:=Zbx T;have yax:=Zdo T;have ci_Glass:=Zj7 T;have ci_Patterned:=Zfq T;have ci_Plain:=Zkl T;have ci_Shaded:=ZiU T;have c__law_corner:=Zgv T
 exact cal1 (top 107) ["_law_cell","_law_k","_law_triangle","_law_way"] (by walk_at "D") (λhN f cdv A outer s H E hr=>⟨_,(Zab (by walk_at "e")
  (Zab (by walk_at "e")
  (Zab (ZaU (ZkO hr (d_v 3) Zdt)
  (Zaf (Zap (Zfk ci_Plain hr (by decide) rfl Zax (by walk_at "e"))))
  Zam)
  (Zab (ZaU (ZkO hr (d_v 3) Zdt)
  (Zaf (Zap (Zfk ci_Shaded hr (by decide) rfl Zax (Zai (d_v 2) ZaI))))
  Zam)
  (Zab (ZaU (ZkO hr (d_v 3) Zdt)
  (Zaf (Zap (Zfk ci_Patterned hr (by decide) rfl Zax (by walk_at "e"))))
  Zam)
  (Zaf (Zap (Zfk ci_Glass hr (by decide) rfl Zax (by walk_at "e")))))))))⟩)
def Zez:Cal P w K mg base 2 "is_between" ["thing","least","most"] Za4:=by
 have yav:=Zdm T;exact cal1 (top 10) ["thing","least","most"] (by walk_at "D") (λhN f cdv A outer s H E hr=>⟨_,(by walk_at "e")⟩)
def Zec:Cal P w K mg base 3 "check_floor" ["width","height"] ZbA:=by
 have yal:=Zez T;obtain ⟨tk_MOST_CELLS,Zcu⟩:=(Zcu T)
 exact cal1 (top 44) ["width","height"] (by walk_at "D") (λhN f cdv A outer s H E hr=>⟨_,(Zaf (ZaU (DW.dt (ZiC (ZgW (Zd9 (ZcT yal hr (by decide) rfl Zax (Zai (d_v 0) (Zai Zdt (Zai (yaY rfl Zcu) ZaI)))))) (Zgd (ZgW (Zd9 (ZcT yal hr (by decide) rfl Zax (Zai (d_v 1) (Zai Zdt (Zai (yaY rfl Zcu) ZaI)))))))))
  ZaD
  Zam))⟩)
def Zff:Cal P w K mg base 1 "ground_or_none" ["ground"] Zbl:=by
 exact cal1 (top 48) ["ground"] (by walk_at "D") (λhN f cdv A outer s H E hr=>⟨_,(by walk_at "e")⟩)
theorem Zer{f:Addr}{fd:FuncData}(F:Fun K "colour_at" "Plain.colour_at" Zcy f fd):FnOk P w K mg base (CXR P w) 1 f fd ["self","values"] (spD K mg 2 ZbB):=by
 exact okM F Zcr (λcdv A outer s H E hr=>have hN:=Zcr.nd;⟨_,(by walk_at "e")⟩)
theorem Zd1{f:Addr}{fd:FuncData}(F:Fun K "colour_at" "Shaded.colour_at" Zcn f fd):FnOk P w K mg base (CXR P w) 1 f fd ["self","values"] (spD K mg 2 Zbm):=by
 exact okM F Zb4 (λcdv A outer s H E hr=>have hN:=Zb4.nd;⟨_,(by walk_at "e")⟩)
def Zsq:Cal P w K mg base 1 "down" ["one"] Zh0:=by
 exact cal1 (top 20) ["one"] (by walk_at "D") (λhN f cdv A outer s H E hr=>⟨_,(by walk_at "e")⟩)
def Zjn:Cal P w K mg base 2 "entry_at" ["pattern","u","v"] ZdT:=by
 have c_down:=Zsq T;exact cal1 (top 62) ["pattern","u","v","row"] (by walk_at "D") (λhN f cdv A outer s H E hr=>⟨_,(by walk_at "e")⟩)
theorem Zdi{f:Addr}{fd:FuncData}(F:Fun K "colour_at" "Patterned.colour_at" ZbG f fd):FnOk P w K mg base (CXR P w) 3 f fd ["self","values"] (spD K mg 2 Zao):=by
 have c_entry_at:=Zjn T;exact okM F ZbD (λcdv A outer s H E hr=>have hN:=ZbD.nd;⟨_,(by walk_at "e")⟩)
theorem Zeh{f:Addr}{fd:FuncData}(F:Fun K "colour_at" "Glass.colour_at" ZcF f fd):FnOk P w K mg base (CXR P w) 1 f fd ["self","values"] (spD K mg 2 ZcB):=by
 exact okM F Zcj (λcdv A outer s H E hr=>have hN:=Zcj.nd;⟨_,(by walk_at "e")⟩)
def ZhW:ZcJ P w K mg base 3 1 "colour_at" ZbC:=by
 walk_at "y"; refine' ZcJ.cons (Zfu (g ?_) ⟨?_,?_,?_,?_⟩ ?_ ?_ (Zbr ?_ ?_ ?_) (Zer T) (by walk_at "b") (by decide) rfl) (.cons (Zfu (g ?_) ⟨?_,?_,?_,?_⟩ ?_ ?_ (Zbr ?_ ?_ ?_) (Zd1 T) (by walk_at "b") (by decide) rfl) (.cons (Zfu (g ?_) ⟨?_,?_,?_,?_⟩ ?_ ?_ (Zbr ?_ ?_ ?_) (Zdi T) (by walk_at "b") (by decide) rfl) (.cons (Zfu (g ?_) ⟨?_,?_,?_,?_⟩ ?_ ?_ (Zbr ?_ ?_ ?_) (Zeh T) (by walk_at "b") (by decide) rfl) .nil)));walk_at "q"
def ZeV:Cal P w K mg base 2 "ratio" ["top","bottom"] Zcq:=by
 have yas:=Zcf T;exact cal1 (top 14) ["top","bottom","divisor"] (by walk_at "D") (λhN f cdv A outer s H E hr=>⟨_,(by walk_at "e")⟩)
def Zoc:Cal P w K mg base 3 "minus" ["one","other"] Zf6:=by
 have yay:=ZeV T;exact cal1 (top 16) ["one","other"] (by walk_at "D") (λhN f cdv A outer s H E hr=>⟨_,(by walk_at "e")⟩)
def Zm9:Cal P w K mg base 3 "plus" ["one","other"] Zf2:=by
 have yay:=ZeV T;exact cal1 (top 15) ["one","other"] (by walk_at "D") (λhN f cdv A outer s H E hr=>⟨_,(by walk_at "e")⟩)
def ZkD:Cal P w K mg base 3 "product" ["one","other"] ZdJ:=by
 have yay:=ZeV T;exact cal1 (top 17) ["one","other"] (by walk_at "D") (λhN f cdv A outer s H E hr=>⟨_,(by walk_at "e")⟩)
def Zh6:Cal P w K mg base 4 "laid_over" ["glass","colour"] Zcp:=by
 have c_minus:=Zoc T;have yaZ:=Zm9 T;have c_product:=ZkD T;exact cal1 (top 53) ["glass","colour","left"] (by walk_at "D") (λhN f cdv A outer s H E hr=>⟨_,(by walk_at "e")⟩)
theorem Zbu{f:Addr}{fd:FuncData}(F:Fun K "is_glass" "Thing.is_glass" ZcW f fd):FnOk P w K mg base (CXR P w) 1 f fd ["self"] (spD K mg 1 Zaz):=by
 exact okM F Zcw (λb A a s H E c=>have d:=Zcw.nd;⟨_,(Zaf (Zap yaS))⟩)
theorem Zex{f:Addr}{fd:FuncData}(F:Fun K "is_glass" "Glass.is_glass" ZcX f fd):FnOk P w K mg base (CXR P w) 1 f fd ["self"] (spD K mg 1 ZbH):=by
 exact okM F ZcM (λb A a s H E c=>have d:=ZcM.nd;⟨_,(Zaf (Zap yaS))⟩)
def ZfV:ZcJ P w K mg base 1 0 "is_glass" ZbW:=by
 walk_at "y"; refine' ZcJ.cons (Zfu (g ?_) ⟨?_,?_,?_,?_⟩ ?_ ?_ (Zbr ?_ ?_ ?_) (Zbu T) (by walk_at "b") (by decide) rfl) (.cons (Zfu (g ?_) ⟨?_,?_,?_,?_⟩ ?_ ?_ (Zbr ?_ ?_ ?_) (Zbu T) (by walk_at "b") (by decide) rfl) (.cons (Zfu (g ?_) ⟨?_,?_,?_,?_⟩ ?_ ?_ (Zbr ?_ ?_ ?_) (Zbu T) (by walk_at "b") (by decide) rfl) (.cons (Zfu (g ?_) ⟨?_,?_,?_,?_⟩ ?_ ?_ (Zbr ?_ ?_ ?_) (Zex T) (by walk_at "b") (by decide) rfl) .nil)));walk_at "q"
def Zkk:Cal P w K mg base 1 "under" ["one","other"] Zel:=by
 exact cal1 (top 19) ["one","other"] (by walk_at "D") (λhN f cdv A outer s H E hr=>⟨_,(by walk_at "e")⟩)
def ZgC:Cal P w K mg base 2 "layers_over" ["nearest","sights"] Zbv:=by
 have cm_is_glass:=ZfV T;have yaW:=Zkk T
 exact cal1 (top 52) ["nearest","sights","layers","sight","place"] (by walk_at "D") (λhN f cdv A outer s H E hr=>⟨_,(Zab (by walk_at "e")
  (Zab (Zfj PassesOwn.leaving rfl (ZaS (d_v 1)) (by walk_at "e")
  (Zaf (ZaU (DW.dt (ZlO (Zd9 (Zi4 cm_is_glass hr (by decide) Zax (yaU (d_v 3) Zdt))) (by walk_at "e")))
  (Zab (Zcm (i:=4) hN rfl (Or.inl rfl) (ya6 2 (yaT Zfi Zii rfl (Zol T) ZjF (Zai (ZaJ (own:=["layer"]) (cap:=[("sight",3)]) (ZaS (d_v 2)) (by walk_at "co") rfl (by walk_at "cg") (λ_ _ _ _ _=>Zrv (by walk_at "e")) (λ_ _ _ _ _=>(d_v 0))) ZaI))))
  (Zaf (Zt3 2 (d_v 4) (d_v 3))))
  Zam)))
  (by walk_at "e")))⟩)
def Zg4:Cal P w K mg base 2 "nearest_of" ["sights"] ZcK:=by
 have cm_is_glass:=ZfV T;have yaW:=Zkk T
 exact cal1 (top 51) ["sights","nearest","sight"] (by walk_at "D") (λhN f cdv A outer s H E hr=>⟨_,(Zab (by walk_at "e")
  (Zab (Zfj PassesOwn.leaving rfl (ZaS (d_v 0)) (by walk_at "e")
  (Zab (ZaU (Zd9 (Zi4 cm_is_glass hr (by decide) Zax (yaU (d_v 2) Zdt)))
  (Zaf ZpL)
  Zam)
  (by walk_at "e")))
  (by walk_at "e")))⟩)
def ZiQ:Cal P w K mg base 5 "colour_of" ["sights","ground"] Zcg:=by
 have cm_colour_at:=ZhW T;have c_laid_over:=Zh6 T;have c_layers_over:=ZgC T;have c_nearest_of:=Zg4 T
 exact cal1 (top 50) ["sights","ground","nearest","colour","sight"] (by walk_at "D") (λhN f cdv A outer s H E hr=>⟨_,(Zab (by walk_at "e")
  (Zab (by walk_at "e")
  (Zab (ZaU (Zm3 (d_v 2))
  (Zaf (Zcm (i:=3) hN rfl (Or.inl rfl) (ZtE cm_colour_at hr (by decide) Zax (yaU (d_v 2) Zdt) (by walk_at "e"))))
  Zam)
  (by walk_at "e"))))⟩)
def Zlh:Cal P w K mg base 4 "mean_of" ["some"] ZeF:=by
 have yay:=ZeV T;have yaZ:=Zm9 T;exact cal1 (top 18) ["some","total","fraction"] (by walk_at "D") (λhN f cdv A outer s H E hr=>⟨_,(by walk_at "e")⟩)
def Zgu:Cal P w K mg base 6 "cell_colour" ["sights_by_spot","ground"] Zb8:=by
 have c_colour_of:=ZiQ T;have yaR:=Zlh T;exact cal1 (top 57) ["sights_by_spot","ground"] (by walk_at "D") (λhN f cdv A outer s H E hr=>⟨_,(Zaf (Zap (ZcT yaR hr (by decide) rfl Zax (Zai (ZaJ (own:=["sights"]) (cap:=[("ground",1)]) (ZaS (d_v 0)) (by walk_at "co") rfl (by walk_at "cg") (by walk_at "ct") (by walk_at "ce")) ZaI))))⟩)
def Za3:Cal P w K mg base 1 "summed_products" ["three","other"] Zaj:=by
 exact cal1 (top 12) ["three","other"] (by walk_at "D") (λhN f cdv A outer s H E hr=>⟨_,(by walk_at "e")⟩)
def ZhQ:Cal P w K mg base 2 "weighed_h" ["triangle","amounts"] Zda:=by
 have yab:=Za3 T;exact cal1 (top 38) ["triangle","amounts"] (by walk_at "D") (λhN f cdv A outer s H E hr=>⟨_,(Zaf (Zap (ZcT yab hr (by decide) rfl Zax (Zai (ZaJ (own:=["corner"]) (cap:=[]) (ZaS (d_v 0)) (by walk_at "co") rfl (by walk_at "cg") (by walk_at "ct") (λ_ _ _ _ _=>(yaU (d_v 0) Zdt))) (Zai (d_v 1) ZaI)))))⟩)
def Zek:Cal P w K mg base 3 "depth_and_values" ["triangle","amounts"] Za2:=by
 have yay:=ZeV T;have yab:=Za3 T;have c_weighed_h:=ZhQ T
 exact cal1 (top 37) ["triangle","amounts","bottom","depth","threes"] (by walk_at "D") (λhN f cdv A outer s H E hr=>⟨_,(Zab (by walk_at "e")
  (Zab (Zcm (i:=3) hN rfl (Or.inl rfl) (ZcT yay hr (by decide) rfl Zax (Zai (ZcT yab hr (by decide) rfl Zax (Zai (ZaJ (own:=["corner"]) (cap:=[]) (ZaS (d_v 0)) (by walk_at "co") rfl (by walk_at "cg") (by walk_at "ct") (λ_ _ _ _ _=>(yaU (d_v 0) Zdt))) (Zai (d_v 1) ZaI))) (Zai (d_v 2) ZaI))))
  (Zab (Zcm (i:=4) hN rfl (Or.inl rfl) (ya7 rfl rfl (Zv3 T) rfl (Zlz T) (by walk_at "e")))
  (Zaf (Zap (ZtW (Zai (d_v 3) (Zai (yaV Zb5 Zde rfl (ZfH T) Zev (Zai (ZaJ (own:=["three"]) (cap:=[("bottom",2),("amounts",1)]) (ZaS (d_v 4)) (by walk_at "co") rfl (by walk_at "cg") (by walk_at "ct") (by walk_at "ce")) ZaI)) ZaI))))))))⟩)
def ZdA:Cal P w K mg base 1 "edge_numbers" ["one","other"] Zbf:=by
 exact cal1 (top 30) ["one","other"] (by walk_at "D") (λhN f cdv A outer s H E hr=>⟨_,(by walk_at "e")⟩)
def Zrz:Cal P w K mg base 2 "side" ["one","other","point"] ZgH:=by
 have yab:=Za3 T;have yaB:=ZdA T;exact cal1 (top 29) ["one","other","point","n","number"] (by walk_at "D") (λhN f cdv A outer s H E hr=>⟨_,(by walk_at "e")⟩)
def Zvq:Cal P w K mg base 3 "had" ["triangle","point"] Zov:=by
 have yar:=Zco T;have c_side:=Zrz T;exact cal1 (top 33) ["triangle","point","turn"] (by walk_at "D") (λhN f cdv A outer s H E hr=>⟨_,(by walk_at "e")⟩)
def Zi7:Cal P w K mg base 2 "edge_sum" ["one","other","point"] Zcd:=by
 have yab:=Za3 T;have yaB:=ZdA T;exact cal1 (top 31) ["one","other","point"] (by walk_at "D") (λhN f cdv A outer s H E hr=>⟨_,(by walk_at "e")⟩)
def ZkY:Cal P w K mg base 3 "weights" ["triangle","point"] ZeN:=by
 have c_edge_sum:=Zi7 T;exact cal1 (top 34) ["triangle","point"] (by walk_at "D") (λhN f cdv A outer s H E hr=>⟨_,(by walk_at "e")⟩)
def ZkS:Cal P w K mg base 4 "seen_at" ["triangle","point"] ZaF:=by
 have c_depth_and_values:=Zek T;have c_had:=Zvq T;have c_weights:=ZkY T;exact cal1 (top 36) ["triangle","point"] (by walk_at "D") (λhN f cdv A outer s H E hr=>⟨_,(by walk_at "e")⟩)
def ZiW:Cal P w K mg base 5 "sights_at" ["things","p"] Zcl:=by
 have c_seen_at:=ZkS T;exact cal1 (top 49) ["things","p","sights","thing","seen"] (by walk_at "D") (λhN f cdv A outer s H E hr=>⟨_,(by walk_at "e")⟩)
def Zlj:Cal P w K mg base 1 "spot_at" ["column","row","spot"] Zgb:=by
 exact cal1 (top 40) ["column","row","spot"] (by walk_at "D") (λhN f cdv A outer s H E hr=>⟨_,(by walk_at "e")⟩)
def Zip:Cal P w K mg base 6 "sights_in" ["things","column","row","spots"] Zdf:=by
 have c_sights_at:=ZiW T;have c_spot_at:=Zlj T;exact cal1 (top 56) ["things","column","row","spots"] (by walk_at "D") (λhN f cdv A outer s H E hr=>⟨_,(Zaf (Zap (ZaJ (own:=["spot"]) (cap:=[("things",0),("row",2),("column",1)]) (ZaS (d_v 3)) (by walk_at "co") rfl (by walk_at "cg") (by walk_at "ct") (by walk_at "ce"))))⟩)
def Zgy:Cal P w K mg base 7 "painted_row" ["things","width","row","spots","ground"] Zdb:=by
 have c_cell_colour:=Zgu T;have c_sights_in:=Zip T;exact cal1 (top 55) ["things","width","row","spots","ground"] (by walk_at "D") (λhN f cdv A outer s H E hr=>⟨_,(Zaf (Zap (ZaJ (own:=["column"]) (cap:=[("things",0),("spots",3),("row",2),("ground",4)]) (by walk_at "e") (by walk_at "co") rfl (by walk_at "cg") (by walk_at "ct") (by walk_at "ce"))))⟩)
def ZkJ:Cal P w K mg base 3 "is_spot" ["thing"] ZeU:=by
 have yal:=Zez T;exact cal1 (top 46) ["thing"] (by walk_at "D") (λhN f cdv A outer s H E hr=>⟨_,(by walk_at "e")⟩)
def Zea:Cal P w K mg base 4 "check_spots" ["spots"] Zbz:=by
 have c_is_spot:=ZkJ T;obtain ⟨tk_MOST_SPOTS,ZdL⟩:=(ZdL T)
 exact cal1 (top 45) ["spots"] (by walk_at "D") (λhN f cdv A outer s H E hr=>⟨_,(Zab (ZaU (DW.dt (ZiC (by walk_at "e") (ZiC (by walk_at "e") (Zgd (Zn6 (by walk_at "e") (yaY rfl ZdL))))))
  ZaD
  Zam)
  (Zab (ZaU (ZgW (Zd9 (yaT (ZdF rfl) Zdw rfl (ZlN T) ZiM (Zai (ZaJ (own:=["spot"]) (cap:=[]) (ZaS (d_v 0)) (by walk_at "co") rfl (by walk_at "cg") (by walk_at "ct") (by walk_at "ce")) ZaI))))
  ZaD
  Zam)
  (Zaf (ZaU (ZmQ hr (ZnR hr rfl (Zol T) rfl (Zv7 T) (d_v 0)) (by walk_at "e"))
  ZaD
  Zam))))⟩)
def ZeT:Cal P w K mg base 5 "spots_or_middle" ["spots"] ZaQ:=by
 have yaE:=Zea T;exact cal1 (top 47) ["spots"] (by walk_at "D") (λhN f cdv A outer s H E hr=>⟨_,(by walk_at "e")⟩)
theorem Zoe{f:Addr}{fd:FuncData}{dV:Value}(F:FunD K "paint" "paint" Zdn dV f fd):FnOk P w K mg base (CXR P w) 8 f fd ["things","width","height","spots","ground"] (spD K mg 5 ZdC):=by
 have yaF:=Zec T;have c_ground_or_none:=Zff T;have c_painted_row:=Zgy T;have c_spots_or_middle:=ZeT T
 exact okDF F Zkc (λcdv A outer s H E hr=>have hN:=Zkc.nd;⟨_,(Zab (by walk_at "e")
  (Zab (by walk_at "e")
  (Zab (by walk_at "e")
  (Zaf (Zap (ZaJ (own:=["row"]) (cap:=[("width",1),("things",0),("places",5),("beneath",6)]) (by walk_at "e") (by walk_at "co") rfl (by walk_at "cg") (by walk_at "ct") (by walk_at "ce")))))))⟩)
def ZoM{f76:Addr}{od76:Option Addr}{an76:Option Addr}{sl76:Array (Option Value)}{oc76:Value}{kV76:Value}{dc76:Value}{pm76:Value}{cd76:Value}{ct76:Value}{dT76:Addr}{dc_76:Value}{dd_76:Option Addr}{dn_76:Nat}{ds_76:Array (Option Value)}(a76:W.nsIn K mainGlobals "paint"=some (some (.ref f76)))(l76:K.lookup f76=some ⟨oc76,od76,.func (W.fnOf "paint" "paint" (ZcQ Zdn) (Zbd Zdn) (Zag Zdn) (.ref dT76) kV76 dc76 pm76 an76 cd76 ct76),sl76⟩)(c76:W.codeIn K cd76 "paint"=true)(k76:W.keepIn K (.ref f76)=true)(dl76:K.lookup dT76=some ⟨dc_76,dd_76,.seq #[.none,.none] dn_76,ds_76⟩):Cal P w K mg base 8 "paint" ["things","width","height","spots","ground"] ZdC:=by
 have d:FunD K "paint" "paint" Zdn (.ref dT76) f76 _:=⟨_,_,_,_,_,_,_,_,_,rfl,l76,c76⟩;have a:=Zoe T d;have b:Binds K (W.fnOf "paint" "paint" (ZcQ Zdn) (Zbd Zdn) (Zag Zdn) (.ref dT76) kV76 dc76 pm76 an76 cd76 ct76) ["things","width","height","spots","ground"] []:=λs c X e=>My.ln5 (P:=λc=>BindsTo s _ {pos:=c} (List.zip (["things","width","height","spots","ground"]:List Str) (c++[]))) (λ_ _ _ _ _=>BindsTo.of_defaults rfl (X _ _ dl76) rfl rfl rfl) c (by simpa using e);exact ⟨_,_,a,b,k76,T.2 a76⟩
def ZqM:Cal P w K mg base 8 "paint" ["things","width","height","spots","ground"] ZdC:=by
 walk_at "y"; refine' ZoM T ?_ ?_ ?_ ?_ ?_;walk_at "q"
def Zey:Cal P w K mg base 1 "check_text" ["text"] ZbV:=by
 exact cal1 (top 88) ["text"] (by walk_at "D") (λhN f cdv A outer s H E hr=>⟨_,(Zaf (ZaU (by walk_at "e")
  ZaD
  Zam))⟩)
def ZdH:Cal P w K mg base 1 "words_behind" ["head","row"] Zbh:=by
 exact cal1 (top 80) ["head","row","words"] (by walk_at "D") (λhN f cdv A outer s H E hr=>⟨_,(Zab (Zcm (i:=2) hN rfl (Or.inl rfl) (yaD PySem.F.slot_str_split PySem.F.type_str_split ZdO Zc2 (d_v 1) ZbE))
  (Zab (ZaU (by walk_at "e")
  ZaD
  Zam)
  (by walk_at "e")))⟩)
def Zb3:Cal P w K mg base 2 "just_words_behind" ["head","row","count"] ZaH:=by
 have yaC:=ZdH T
 exact cal1 (top 81) ["head","row","count","words"] (by walk_at "D") (λhN f cdv A outer s H E hr=>⟨_,(Zab (by walk_at "e")
  (Zab (ZaU (by walk_at "e")
  ZaD
  Zam)
  (by walk_at "e")))⟩)
def Zgx:Cal P w K mg base 1 "are_figures" ["word"] Zby:=by
 obtain ⟨tk_FIGURES,ZfN⟩:=(ZfN T);obtain ⟨tk_MOST_FIGURES,ZcN⟩:=(ZcN T)
 exact cal1 (top 78) ["word"] (by walk_at "D") (λhN f cdv A outer s H E hr=>⟨_,(Zab (ZaU (DW.dt (ZiC (ZkO hr (d_v 0) ZbE) (Zgd (Zn6 (by walk_at "e") (yaY rfl ZcN)))))
  (Zaf (Zap yaS))
  Zam)
  (Zab (ZaU (DW.dt (ZlO (Zd9 (yaD PySem.F.slot_str_startswith PySem.F.type_str_startswith ZhU ZgI (d_v 0) ZbE)) (by walk_at "e")))
  (Zaf (Zap yaS))
  Zam)
  (Zaf (Zap (yaT (ZdF rfl) Zdw rfl (ZlN T) ZiM (Zai (ZaJ (own:=["sign"]) (cap:=[]) (Zuz (d_v 0)) (by walk_at "co") rfl (by walk_at "cg") (by walk_at "ct") (λ_ _ _ _ _=>(Zwn (d_v 0) (ya8 rfl ZfN)))) ZaI))))))⟩)
def ZbM:Cal P w K mg base 2 "read_number" ["word"] ZaG:=by
 have c_are_figures:=Zgx T
 exact cal1 (top 77) ["word","figures"] (by walk_at "D") (λhN f cdv A outer s H E hr=>⟨_,(Zab (Zcm (i:=1) hN rfl (Or.inl rfl) (Zu1 (Zd9 (yaD PySem.F.slot_str_startswith PySem.F.type_str_startswith ZhU ZgI (d_v 0) ZbE)) (Ztn (d_v 0) (Zmc Zdt) ZlT) (d_v 0)))
  (Zab (ZaU (by walk_at "e")
  ZaD
  Zam)
  (by walk_at "e")))⟩)
def Ze6:Cal P w K mg base 3 "numbers_behind" ["head","row","count"] Zb0:=by
 have yaq:=Zb3 T;have yah:=ZbM T;exact cal1 (top 82) ["head","row","count"] (by walk_at "D") (λhN f cdv A outer s H E hr=>⟨_,(Zaf (Zap (ZaJ (own:=["word"]) (cap:=[]) (by walk_at "e") (by walk_at "co") rfl (by walk_at "cg") (by walk_at "ct") (by walk_at "ce"))))⟩)
def ZeM:Cal P w K mg base 4 "read_floor" ["row"] Zbt:=by
 have yaF:=Zec T;have c_numbers_behind:=Ze6 T;exact cal1 (top 97) ["row","size"] (by walk_at "D") (λhN f cdv A outer s H E hr=>⟨_,(by walk_at "e")⟩)
def Zb1:Cal P w K mg base 3 "read_fraction" ["word"] ZaC:=by
 have yaf:=ZbS T;have yah:=ZbM T
 exact cal1 (top 79) ["word","pieces","fraction"] (by walk_at "D") (λhN f cdv A outer s H E hr=>⟨_,(Zab (ZaU (Zqa ZbE (d_v 0))
  (by walk_at "e")
  Zam)
  (Zab (Zcm (i:=1) hN rfl (Or.inl rfl) (yaD PySem.F.slot_str_partition PySem.F.type_str_partition ZsJ ZnX (d_v 0) ZbE))
  (Zab (by walk_at "e")
  (Zab (ZaU (by walk_at "e")
  ZaD
  Zam)
  (by walk_at "e")))))⟩)
def Zd4:Cal P w K mg base 4 "read_ground" ["row"] Za9:=by
 have yaq:=Zb3 T;have yam:=Zb1 T;exact cal1 (top 98) ["row"] (by walk_at "D") (λhN f cdv A outer s H E hr=>⟨_,(by walk_at "e")⟩)
def Zh1:Cal P w K mg base 3 "read_spot" ["word"] Zem:=by
 have yah:=ZbM T;exact cal1 (top 100) ["word"] (by walk_at "D") (λhN f cdv A outer s H E hr=>⟨_,(Zaf (Zap (yaV Zb5 Zde rfl (ZfH T) Zev (Zai (ZaJ (own:=["number"]) (cap:=[]) (ZaS (yaD PySem.F.slot_str_split PySem.F.type_str_split ZdO Zc2 (d_v 0) ZbE)) (by walk_at "co") rfl (by walk_at "cg") (by walk_at "ct") (by walk_at "ce")) ZaI))))⟩)
def ZeE:Cal P w K mg base 5 "read_spots" ["row"] Zbs:=by
 have yaE:=Zea T;have yaC:=ZdH T;have c_read_spot:=Zh1 T
 exact cal1 (top 99) ["row","spots"] (by walk_at "D") (λhN f cdv A outer s H E hr=>⟨_,(Zab (Zhb (i:=1) hN rfl (Or.inl rfl) (own:=["word"]) (cap:=[]) (by walk_at "e") (by walk_at "co") rfl (by walk_at "cg") (by walk_at "ct") (by walk_at "ce"))
  (by walk_at "e"))⟩)
def ZhN:Cal P w K mg base 1 "groups_of" ["words"] Zdk:=by
 exact cal1 (top 89) ["words","groups","word"] (by walk_at "D") (λhN f cdv A outer s H E hr=>⟨_,(ZsK (i:=1) (j:=2) (k:=0) hN PassesOwn.leaving rfl (by decide) (by decide) rfl (Or.inl rfl) rfl (Or.inl rfl) rfl (ZkO hr (d_v 2) ZbE))⟩)
def ZgB:Cal P w K mg base 3 "read_corner" ["words"] Zcb:=by
 have yah:=ZbM T
 exact cal1 (top 90) ["words","numbers"] (by walk_at "D") (λhN f cdv A outer s H E hr=>⟨_,(Zab (ZaU (by walk_at "e")
  ZaD
  Zam)
  (Zab (Zhb (i:=1) hN rfl (Or.inl rfl) (own:=["word"]) (cap:=[]) (ZaS (d_v 0)) (by walk_at "co") rfl (by walk_at "cg") (by walk_at "ct") (by walk_at "ce"))
  (by walk_at "e")))⟩)
def ZfR:Cal P w K mg base 4 "read_pattern" ["word"] ZbP:=by
 have yam:=Zb1 T;exact cal1 (top 92) ["word"] (by walk_at "D") (λhN f cdv A outer s H E hr=>⟨_,(Zaf (Zap (ZaJ (own:=["row"]) (cap:=[]) (ZaS (yaD PySem.F.slot_str_split PySem.F.type_str_split ZdO Zc2 (d_v 0) ZbE)) (by walk_at "co") rfl (by walk_at "cg") (by walk_at "ct") (λ_ _ _ _ _=>(ZaJ (own:=["entry"]) (cap:=[]) (ZaS (yaD PySem.F.slot_str_split PySem.F.type_str_split ZdO Zc2 (d_v 0) ZbE)) (by walk_at "co") rfl (by walk_at "cg") (by walk_at "ct") (by walk_at "ce"))))))⟩)
def Zjt:Cal P w K mg base 9 "thing_of" ["head","triangle"] ZdP:=by
 have ci_Glass:=Zj7 T;have ci_Patterned:=Zfq T;have ci_Plain:=Zkl T;have ci_Shaded:=ZiU T;have yam:=Zb1 T;have c_read_pattern:=ZfR T
 exact cal1 (top 91) ["head","triangle"] (by walk_at "D") (λhN f cdv A outer s H E hr=>⟨_,(Zab (ZaU (by walk_at "e")
  (Zaf (Zap (Zfk ci_Plain hr (by decide) rfl Zax (by walk_at "e"))))
  Zam)
  (Zab (ZaU (by walk_at "e")
  (Zaf (Zap (Zfk ci_Shaded hr (by decide) rfl Zax (Zai (d_v 1) ZaI))))
  Zam)
  (Zab (ZaU (by walk_at "e")
  (Zaf (Zap (Zfk ci_Patterned hr (by decide) rfl Zax (by walk_at "e"))))
  Zam)
  (Zab (ZaU (by walk_at "e")
  (Zaf (Zap (Zfk ci_Glass hr (by decide) rfl Zax (by walk_at "e"))))
  Zam)
  ZaD))))⟩)
def ZeS:Cal P w K mg base 10 "read_thing" ["row"] Za5:=by
 have yaN:=Zey T;have yaO:=ZhN T;have c_read_corner:=ZgB T;have yaQ:=Zjt T
 exact cal1 (top 87) ["row","groups"] (by walk_at "D") (λhN f cdv A outer s H E hr=>⟨_,(Zab (by walk_at "e")
  (Zab (Zcm (i:=1) hN rfl (Or.inl rfl) (ZcT yaO hr (by decide) rfl Zax (Zai (yaD PySem.F.slot_str_split PySem.F.type_str_split ZdO Zc2 (d_v 0) ZbE) ZaI)))
  (Zab (ZaU (by walk_at "e")
  ZaD
  Zam)
  (Zaf (Zap (ZcT yaQ hr (by decide) rfl Zax (Zai (yaU (d_v 1) Zdt) (Zai (yaV Zb5 Zde rfl (ZfH T) Zev (Zai (ZaJ (own:=["words"]) (cap:=[]) (by walk_at "e") (by walk_at "co") rfl (by walk_at "cg") (by walk_at "ct") (by walk_at "ce")) ZaI)) ZaI))))))))⟩)
def ZkM:Cal P w K mg base 11 "read_at" ["rows","number","read"] Zch:=by
 have yan:=ZeM T;have yai:=Zd4 T;have yao:=ZeE T;have yap:=ZeS T
 exact cal1 (top 96) ["rows","number","read"] (by walk_at "D") (λhN f cdv A outer s H E hr=>⟨_,(Zab (ZaU (by walk_at "e")
  ZaD
  Zam)
  (Zaf (ZoI (tab:=[("read_floor",Zbt),("read_ground",Za9),("read_spots",Zbs),("read_thing",Za5)]) (i:=2) rfl (Or.inl rfl) (List.forall_mem_cons.mpr ⟨yan.mono (by decide),(List.forall_mem_cons.mpr ⟨yai.mono (by decide),(List.forall_mem_cons.mpr ⟨yao.mono (by decide),(List.forall_mem_cons.mpr ⟨yap.mono (by decide),(λ_ h=>aB h List.not_mem_nil)⟩)⟩)⟩)⟩) hr (Nat.le_refl _) (by walk_at "e"))))⟩)
def Zg0:Cal P w K mg base 12 "read_scene" ["text"] ZbU:=by
 have yaN:=Zey T;have yan:=ZeM T;have yai:=Zd4 T;have yao:=ZeE T;have yap:=ZeS T;have yat:=ZkM T
 exact cal1 (top 95) ["text","rows","size","ground","spots","things"] (by walk_at "D") (λhN f cdv A outer s H E hr=>⟨_,(Zab (by walk_at "e")
  (Zab (Zcm (i:=1) hN rfl (Or.inr rfl) (yaD PySem.F.slot_str_split PySem.F.type_str_split ZdO Zc2 (d_v 0) ZbE))
  (Zab (Zcm (i:=2) hN rfl (Or.inl rfl) (ZcT yat hr (by decide) rfl Zax (Zai (d_v 1) (Zai Zdt (Zai (ya1 yan rfl) ZaI)))))
  (Zab (Zcm (i:=3) hN rfl (Or.inl rfl) (ZcT yat hr (by decide) rfl Zax (Zai (d_v 1) (Zai Zdt (Zai (ya1 yai rfl) ZaI)))))
  (Zab (Zcm (i:=4) hN rfl (Or.inl rfl) (ZcT yat hr (by decide) rfl Zax (Zai (d_v 1) (Zai Zdt (Zai (ya1 yao rfl) ZaI)))))
  (Zab (Zhb (i:=5) hN rfl (Or.inl rfl) (own:=["number"]) (cap:=[("rows",1)]) (ZsZ rfl (Zi0 T) (by walk_at "e")) (by walk_at "co") rfl (by walk_at "cg") (by walk_at "ct") (λ_ _ _ _ _=>(ZnC yat hr (by decide) rfl (Zai (d_v 1) (Zai (d_v 0) (Zai (ya1 yap rfl) ZaI))))))
  (by walk_at "e")))))))⟩)
def Ziu:Cal P w K mg base 2 "pair_word" ["pair"] Zee:=by
 have yae:=ZbN T;exact cal1 (top 94) ["pair"] (by walk_at "D") (λhN f cdv A outer s H E hr=>⟨_,(by walk_at "e")⟩)
def ZhL:Cal P w K mg base 6 "scene_text" ["scene"] Za7:=by
 have yae:=ZbN T;have yak:=ZbZ T;have yaw:=Zdg T;have c_pair_word:=Ziu T
 exact cal1 (top 93) ["scene","rows"] (by walk_at "D") (λhN f cdv A outer s H E hr=>⟨_,(Zab (Zcm (i:=1) hN rfl (Or.inl rfl) (ZuG (Zai (yaD PySem.F.slot_str_join PySem.F.type_str_join ZcR ZbQ ZbE (by walk_at "e")) (Zai (yaD PySem.F.slot_str_join PySem.F.type_str_join ZcR ZbQ ZbE (by walk_at "e")) (Zai (yaD PySem.F.slot_str_join PySem.F.type_str_join ZcR ZbQ ZbE (Zi9 (by walk_at "e") (ZaJ (own:=["spot"]) (cap:=[]) (by walk_at "e") (by walk_at "co") rfl (by walk_at "cg") (by walk_at "ct") (by walk_at "ce")))) ZaI)))))
  (Zaf (Zap (yaD PySem.F.slot_str_join PySem.F.type_str_join ZcR ZbQ ZbE (Zi9 (d_v 1) (ZaJ (own:=["thing"]) (cap:=[]) (by walk_at "e") (by walk_at "co") rfl (by walk_at "cg") (by walk_at "ct") (by walk_at "ce")))))))⟩)
def Zhk:Cal P w K mg base 13 "_law_right" ["_law_cell"] ZbT:=by
 have yaw:=Zdg T;have c__law_due:=Zi3 T;have yad:=Zbx T;have yax:=Zdo T;have c__law_spots:=ZhA T;have c__law_thing:=Zhq T;have c_paint:=ZqM T;have c_read_scene:=Zg0 T;have c_scene_text:=ZhL T
 exact cal1 (top 111) ["_law_cell","_law_width","_law_height","_law_ground","_law_spots_here","_law_things","_law_handed","_law_text","_law_found"] (by walk_at "D") (λhN f cdv A outer s H E hr=>⟨_,(Zab (ZpK (ZaJ (own:=["_law_k"]) (cap:=[("_law_cell",0)]) (ZsZ rfl (Zi0 T) (by walk_at "e")) (by walk_at "co") rfl (by walk_at "cg") (by walk_at "ct") (by walk_at "ce")) (by walk_at "e"))
  (Zab (by walk_at "e")
  (Zab (by walk_at "e")
  (Zab (Zhb (i:=5) hN rfl (Or.inl rfl) (own:=["_law_k"]) (cap:=[("_law_cell",0)]) (by walk_at "e") (by walk_at "co") rfl (by walk_at "cg") (by walk_at "ct") (by walk_at "ce"))
  (Zab (by walk_at "e")
  (Zab (by walk_at "e")
  (Zab (by walk_at "e")
  (Zro (i:=8) hN rfl (Or.inl rfl) (by walk_at "e") (Zai (d_v 7) ZaI)
  (Zmy (by walk_at "e")
  (Zaf (Zap yaS))
  (Zmy (by walk_at "e")
  (Zaf (Zap yaS))
  (Zmy (ZmQ hr (ZaJ (own:=["_law_thing_here"]) (cap:=[]) (by walk_at "e") (by walk_at "co") rfl (by walk_at "cg") (by walk_at "ct") (by walk_at "ce")) (ZaJ (own:=["_law_thing_here"]) (cap:=[]) (ZaS (d_v 5)) (by walk_at "co") rfl (by walk_at "cg") (by walk_at "ct") (by walk_at "ce")))
  (Zaf (Zap yaS))
  (Zrg (nl_ T) (Znq rfl (by walk_at "e")) (Znq rfl ZtC)
  (by walk_at "e")))))))))))))⟩)
theorem Zvh{f:Addr}{fd:FuncData}(F:Fun K "law" "law" Zk3 f fd):FnOk P w K mg base (CXR P w) 14 f fd ["_law_script"] (spD K mg 1 ZqJ):=by
 have c__law_cell_at:=ZfT T;have c__law_right:=Zhk T;exact okD F Zpr (λcdv A outer s H E hr=>have hN:=Zpr.nd;⟨_,(by walk_at "e")⟩)
end
def ZqF{w:World}{h:Heap}{mg:Str->Option Value}{fa:Addr}(X:(Hd.heap w.params).In h)(G:h.Ns mainGlobals mg)(hfa:mg "law"=some (.ref fa)):∃fd:FuncData,(∀(s:Shared) (v:Value),BindsTo s fd ⟨[v],[]⟩ [("_law_script",v)])/\∀base:Heap,(Hd.heap w.params).In base->base.Ns mainGlobals mg->FnOk PySem.Challenge.rw_sampleyard_k82_whole_scenes_read.prog w (Hd.heap w.params) mg base (CXR PySem.Challenge.rw_sampleyard_k82_whole_scenes_read.prog w) 14 fa fd ["_law_script"] (ZoL (Hd.heap w.params)):=by
 have g:∀{x:Str} {v:Option Value},W.nsIn (Hd.heap w.params) mainGlobals x=some v->mg x=v:=λ{x v} e=>by
  cases v with
  | none=>exact W.mg_none_of X G e
  | some u=>exact W.mg_of X G e
 refine' lawK (g ?_) hfa ?_ ?_ ?_ λbase fd F=>(Zvh ⟨rfl,g⟩ F).imp (Zua ZoA);walk_at "q"
def walk{l:W.OpenLaw}{q:Program}{loose:List Str}{XP:(Str->Option Value)->Heap->Prop}{YP:World->Heap->Prop}{d:DefRec}{K:Params->W.Frag}(hn:l.most=some 63)(hdf:d.params.defaults=[])
  (hY:∀(w:World) (h:Heap),YP w h->(K w.params).In h)
  (F:∀(w:World) (mg:Str->Option Value) (fa:Addr) (h:Heap),(K w.params).In h->h.Ns mainGlobals mg->mg d.name=some (.ref fa) ->
   ∃fd:FuncData,(∀(s:Shared) (u:Value),BindsTo s fd ⟨[u],[]⟩ [("_law_script",u)])/\∀base:Heap,(K w.params).In base->base.Ns mainGlobals mg->FnOk l.prog w (K w.params) mg base (CXR l.prog w) 14 fa fd ["_law_script"] (ZoL (K w.params))) :
  W.WalkO q loose XP YP l.row.toRowW d [] (λf vs=>PySem.call f vs) :=
 L2.Zr0 (n:=63) (k:=14) (x:="_law_script") (CX:=λw=>CXR l.prog w) (sp:=λw=>ZoL (K w.params)) hn (by decide) hdf ⟨rfl,by decide,by decide⟩ hY F (λ_ _ a b c _ e=>⟨a,b,rfl,e,c,λ_=>rfl⟩) λ_ _ _ _ _ z=>Zta z
end My
open PySem PySem.W PyProof.Rows
set_option maxRecDepth 100000 in
set_option maxHeartbeats 0 in
theorem PySem.Challenge.cw_sampleyard_k82_whole_scenes_read_holds : PySem.Challenge.rw_sampleyard_k82_whole_scenes_read.Holds := by
 w_on;refine holds_law Hd.said λsaid=>?_
 refine holds_open (r:=PySem.Challenge.rw_sampleyard_k82_whole_scenes_read.row) (q:=Hd.view) (loose:=["paint"]) (Xt:=(λs=>xlAt Hd.view [] s&&recOk (RowW.records PySem.Challenge.rw_sampleyard_k82_whole_scenes_read.row.toRowW) s)) (XP:=XL Hd.view []) (Yf:=Hook.obs (kHook Hd.heap Hd.addrs Hd.ZdU)) (Ya:=Hook.val (kHook Hd.heap Hd.addrs Hd.ZdU)) (YP:=Hook.says (kHook Hd.heap Hd.addrs Hd.ZdU)) (N:=Hd.most) Hd.left (Hook.of (kHook Hd.heap Hd.addrs Hd.ZdU)) (Hook.keeps (kHook Hd.heap Hd.addrs Hd.ZdU)) (λs e=>xl_of s (Bool.and_eq_true_iff.mp e).1) XL.keeps (by rfl) (by rfl) (by rfl) (λs e=>recFacts_of (Bool.and_eq_true_iff.mp e).2) (by rfl) (by assumption) Hd.okO Hd.bar ?hw ?hc
 case hw=>w_witness2
 exact My.walk (l:=PySem.Challenge.rw_sampleyard_k82_whole_scenes_read) rfl rfl (λw h Y0=>W.kIn_of Y0) λw mg fa h KX G hmg=>My.ZqF KX G hmg
