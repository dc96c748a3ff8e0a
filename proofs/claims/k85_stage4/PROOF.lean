import PyProof.Rows.All
import Wide.All
import OpenK.AllK
import Wide.FinOn
import Lean
import KE.KIntText
import KE.KRevIter
import PyProof.StrLawsTight
import PyProof.StrLawsChain
import PyProof.Rows.CatFin
import PyProof.CollectIter
import PyProof.JoinWalk
import PyProof.Rows.StrDigitsNeg
import PyProof.Rows.StrJoinMade
import PyProof.Rows.StrBin
import KE.KLam
import KE.KNestM
import PyProof.EqAt
import PyProof.EqKinds
import PyProof.TupleCall
import PyProof.P3Eq
import PyProof.NeData
import PySem.Challenge.RW_sampleyard_k85_whole_texts_by_signs
set_option Elab.async false
set_option linter.all false
set_option maxRecDepth 100000
set_option compiler.extract_closed false
noncomputable section
abbrev iP:=@if_pos
abbrev iN:=@if_neg
abbrev aB:=@absurd
def Hd.said:PySem.W.OpenLaw.wellSaid PySem.Challenge.rw_sampleyard_k85_whole_texts_by_signs=true:=by kernel_rfl
abbrev Nk:=@List.map_congr_left
abbrev KC:=@Bool.eq_false_iff
abbrev Be:=@Option.some.inj
abbrev Al:=@decide_eq_false
abbrev Jp:=@beq_eq_false_iff_ne
abbrev BW:=@PySem.Heap.lt_size
abbrev Bp:=@Nat.lt_of_lt_of_le
abbrev GK:=@Nat.lt_irrefl
abbrev Bq:=@Nat.ne_of_lt
abbrev Io:=@PySem.W.hideAll_get
abbrev Gj:=@PySem.W.of_hideAll
abbrev GJ:=@List.mem_range
abbrev NB:=@PySem.W.hideAll_none
abbrev Ar:=@Nat.le_trans
abbrev Mj:=@List.filterMap_cons
abbrev Aw:=@List.mem_cons_self
abbrev Av:=@List.mem_cons_of_mem
abbrev Fg:=@PySem.Heap.get?_none_of_le
abbrev An:=@List.mem_cons
abbrev Dv:=@List.mem_append
abbrev HD:=@List.mem_append_left
abbrev Dd:=@List.getElem?_eq_some_iff
abbrev BV:=@PySem.wpAny_mono
abbrev Fy:=@PySem.wpAny_truthy_bool
abbrev Ko:=@Array.length_toList
abbrev Bl:=@congrArg
abbrev J9:=@PySem.wpAny_execs_nil
abbrev Nu:=@PySem.wpAny_execs_cons
abbrev Ac:=@PySem.wpAny_bind
abbrev Gi:=@PySem.wpAny_standAt
abbrev Af:=@PySem.wpAny_pure
abbrev JQ:=@PySem.wpAny_newObj_type
abbrev Bc:=@PySem.Heap.get?_push_of_some
abbrev Je:=@PySem.wpAny_passesOwn
abbrev Cj:=@Bool.false_ne_true
abbrev Gh:=@Nat.ne_of_gt
abbrev Fw:=@Bool.false_and
abbrev Dq:=@PySem.Heap.get?_push_size
abbrev Ao:=@Nat.le_refl
abbrev Pz:=@PyProof.Rows.callWith_type1
abbrev Ku:=@List.mem_filterMap
abbrev CK:=@List.mem_append_right
abbrev CT:=@List.size_toArray
abbrev Dc:=@beq_iff_eq
abbrev Jf:=@PySem.wpAny_loadPart
abbrev BP:=@List.length_cons
abbrev Ig:=@PySem.W.looks_findIn
abbrev Bx:=@List.map_cons
abbrev Ah:=@List.length_map
abbrev Ga:=@PySem.Heap.size_push
abbrev Oe:=@Nat.lt_succ_self
abbrev DX:=@Nat.zero_le
abbrev Gd:=@PySem.W.kia_one
abbrev Cq:=@List.append_nil
abbrev GR:=@PySem.wpAny_call
abbrev HQ:=@PySem.codeAny_mono
abbrev HX:=@PySem.wpAny_Call_Name_kw
abbrev Jj:=@PySem.W.callWith_K
abbrev MT:=@List.nodup_cons
abbrev Hj:=@List.length_take
abbrev Ei:=@PySem.mem_of_lookup
abbrev Ff:=@List.getElem?_append_right
abbrev Lz:=@List.getElem?_replicate
abbrev Dn:=@List.getElem?_append_left
abbrev DK:=@List.getElem?_map
abbrev Ef:=@List.mem_of_getElem?
abbrev Bm:=@List.length_append
abbrev RM:=@List.length_replicate
abbrev Cu:=@if_false
abbrev Cw:=@if_true
abbrev Es:=@PySem.wpAny_field
abbrev DP:=@List.length_drop
abbrev Cv:=@PySem.wpAny_holding
abbrev PL:=@PyProof.Rows.slot_tuple_getitem
abbrev JX:=@PySem.wpAny_typeOf
abbrev Bo:=@Bool.and_eq_true
abbrev GX:=@PySem.typeIs_str
abbrev K5:=@PySem.Heap.get?_update_other
abbrev Aj:=@decide_eq_true
abbrev Lx:=@Nat.lt_of_le_of_lt
abbrev Gu:=@List.lookup_cons
abbrev Fj:=@Nat.lt_trans
abbrev QF:=@PySem.wpAny_comprehension_free
abbrev Bk:=@List.mem_map
abbrev Ey:=@List.all_eq_true
abbrev Hk:=@Array.getElem?_eq_some_iff
abbrev Pb:=@PySem.F.excBase_ValueError
abbrev Kh:=@PySem.codeAny_call_builtin
abbrev Qa:=@PySem.Code.quiet_builtin
abbrev JV:=@PySem.codeAny_builtin
abbrev Kv:=@PySem.W.looks_mroIn
abbrev NQ:=@List.drop_eq_getElem_cons
abbrev Di:=@Bool.false_eq_true
abbrev Iz:=@List.drop_zero
abbrev Il:=@List.take_of_length_le
abbrev Gm:=@List.length_set
abbrev Mu:=@List.getElem?_eq_none
abbrev U9:=@List.length_range
abbrev Bg:=@List.getElem?_eq_getElem
abbrev Om:=@List.drop_eq_nil_of_le
abbrev Ck:=@List.map_map
abbrev Ia:=@List.append_assoc
abbrev JM:=@Nat.succ_le_succ
abbrev Gy:=@List.all_cons
abbrev H8:=@List.all_map
abbrev GQ:=@List.getD_eq_getElem?_getD
abbrev CN:=@List.not_mem_nil
abbrev G4:=@List.getElem_mem
abbrev Gp:=@List.mem_iff_getElem
abbrev Le:=@PySem.wpAny_setField
abbrev Ip:=@PySem.Heap.get?_update_self
abbrev O9:=@PySem.Obj.data_mapFields
abbrev De:=@List.mem_singleton
abbrev QG:=@List.contains_cons
abbrev GD:=@List.map_append
abbrev Qy:=@List.pairwise_iff_getElem
abbrev Ka:=@Array.getElem?_eq_getElem
abbrev JB:=@List.take_append_drop
abbrev RD:=@Classical.byContradiction
abbrev Ng:=@Array.getElem?_toList
abbrev J6:=@PySem.wpAny_setState_of
abbrev K1:=@Bool.and_true
abbrev Ez:=@Bool.and_false
abbrev MK:=@of_decide_eq_true
abbrev FZ:=@or_false
abbrev CQ:=@decide_eq_true_eq
abbrev KZ:=@List.map_reverse
abbrev Fo:=@List.length_nil
abbrev JR:=@Int.toNat_natCast
abbrev Uj:=@PyProof.Rows.signs_ofString
abbrev Ld:=@Bool.eq_iff_iff
abbrev JF:=@Int.natAbs_natCast
abbrev Kf:=@List.cons.inj
abbrev NK:=@List.length_eq_zero_iff
abbrev JC:=@decide_eq_decide
abbrev Ba:=@Option.bind_some
abbrev MN:=@List.filter_eq_self
abbrev Bw:=@Bool.true_and
abbrev K3:=@List.mem_map_of_mem
abbrev S9:=@List.getElem?_eq_none_iff
abbrev Gn:=@List.forall_mem_cons
namespace L2
open PySem
def inClass(s:Stmt)(j:Nat):Stmt:=match s with
 | .ClassDef _ _ _ body _ _ _ _ _ _ _=>body.getD j (.Pass ⟨0,0,0,0⟩)
 | _=>.Pass ⟨0,0,0,0⟩
def Ja(s:Stmt):Arguments:=match s with
 | .FunctionDef _ a _ _ _ _ _ _ _ _=>a
 | _=>{ posonlyargs:=[],args:=[],vararg:=none,kwonlyargs:=[],kw_defaults:=[],kwarg:=none,defaults:=[] }
def FN(s:Stmt):List Stmt:=match s with
 | .FunctionDef _ _ b _ _ _ _ _ _ _=>b
 | _=>[]
def Bd(s:Stmt):Scope:=match s with
 | .FunctionDef _ _ _ _ _ _ sc _ _ _=>sc
 | _=>{ kind:=.function,names:=[],isGenerator:=false,isCoroutine:=false }
end L2
namespace Hd
open PySem PySem.W L2
abbrev top(i:Nat):Stmt:=PySem.Challenge.pw_sampleyard_k85_whole_texts_by_signs.main.body.getD i (.Pass ⟨0,0,0,0⟩)
noncomputable def view:Program:={ PySem.Challenge.pw_sampleyard_k85_whole_texts_by_signs with main:={ PySem.Challenge.pw_sampleyard_k85_whole_texts_by_signs.main with body:=[top 0,top 2,top 3,top 4,top 5,top 6,top 7,top 9,top 10,top 11,top 13,top 15,top 16,top 17,top 18,top 19,top 21,top 23,top 24,top 25,top 26,top 27,top 29,top 30,top 31,top 33,top 34,top 35,top 36,top 37,top 38,top 39,top 40,top 42,top 43,top 44,top 45,top 46,top 47,top 48,top 49,top 50,top 51,top 52,top 53,top 54,top 55,top 56,top 57,top 58,top 59,top 60,top 61,top 62,top 63,top 64,top 65,top 66,top 67,top 68,top 69,top 71,top 72,top 73,top 74,top 75,top 76,top 77,top 78,top 79,top 80,top 81,top 82,top 83,top 84,top 85] } }
abbrev S(x:String):Str:=Str.ofString x
abbrev st(x:String)(t:Nat):Value:=.str (Str.ofString x) t
abbrev en(P:Params)(x:String)(t:Nat)(v:Value):DictEntry:=⟨PyData.keyHash P (Str.ofString x),.str (Str.ofString x) t,v⟩
abbrev fd(s:Stmt)(n q:String)(an:Option Addr)(d k c e m t:Value):Data:=.func { name:=Str.ofString n,qualname:=Str.ofString q,params:=Ja s,body:=.stmts (FN s),scope:=Bd s,globals:=mainGlobals,closure:=[],defaults:=d,kwdefaults:=k,doc:=e,pyModule:=m,annotations:=an,code:=c,closureTuple:=t,builtins:=builtinsNs }
abbrev T(xs:Array Value):Obj:=⟨.type "tuple",none,.seq xs 0,#[]⟩
abbrev F(s:Stmt)(n q:String)(an:Option Addr)(d k c e m t:Value):Obj:=⟨.type "function",none,fd s n q an d k c e m t,#[]⟩
abbrev G(i:Nat)(n:String)(c:Nat)(m:String)(t:Nat):Obj:=F (top i) n n none .none .none (.ref c) .none (st m t) .none
abbrev D(es:List DictEntry)(n:Nat):Obj:=⟨.type "dict",none,.dict (List.toArray es) n,#[]⟩
abbrev C(n:String)(a:Nat)(q:String)(b c:Nat)(d e f g h:Int)(i:Value)(j:Bool)(k:Int)(l m o p r:Value)(s t:Int)(u:Nat):Obj:=⟨.type "code",none,.fields #[st n a,st q b,st "/claim/cut.py" c,.int d 0,.int e 0,.int f 0,.int g 0,.int h 0,i,.bool j,.int k 0,l,m,o,p,r,.int s 0,.int t 0,st "/claim/cut.py" u],#[]⟩
abbrev B(n:String)(a b c:Nat)(d e:Int)(i l o p r:Nat)(s:Int)(u:Nat):Obj:=C n a n b c d e 0 0 3 (.ref i) true 181 (.ref l) .none (.ref o) (.ref p) (.ref r) s d u
abbrev E(n:String)(a b c:Nat)(d e:Int)(i l r:Nat)(s:Int)(u:Nat):Obj:=C n a n b c d e 0 0 3 (.ref i) true 181 (.ref l) .none .none .none (.ref r) s d u
abbrev L(n:String)(b m:List Value)(a:Addr)(s:List Value)(sl:Array (Option Value)):Obj:=⟨.type "type",none,.cls { name:=Str.ofString n,bases:=b,mro:=m,ns:=a,qualname:=Str.ofString n,hasDict:=true,slotNames:=[],subclasses:=s,abstract:=false,collection:=none,hasDel:=false },sl⟩
abbrev B1(n:String)(a:Nat)(d e:Int)(i s:Nat):Obj:=B n a (a+1) (a+2) d e i (i+1) (i+2) (i+3) (i+4) (Int.ofNat s) (s+1)
abbrev E1(n:String)(a:Nat)(d e:Int)(i s:Nat):Obj:=E n a (a+1) (a+2) d e i (i+1) (i+2) (Int.ofNat s) (s+1)
abbrev G1(i:Nat)(n:String)(c:Nat)(m:Value):Obj:=F (top i) n n none .none .none (.ref c) .none m .none
abbrev o0_:Value:=st "__main__" 164
abbrev o1_:Value:=st "sampleyard.whole" 303
abbrev o2_:Value:=st "sampleyard.fractions" 332
abbrev o3_:Value:=st "sampleyard.corners" 341
abbrev o4_:Value:=st "sampleyard.edges" 372
abbrev o5_:Value:=st "sampleyard.paint" 382
abbrev o6_:Value:=st "sampleyard.patterns" 409
abbrev o7_:Value:=st "sampleyard.things" 429
abbrev o8_:Value:=st "sampleyard.texts" 692
abbrev o9_:Value:=st "law_sampleyard_k85_whole_texts_by_signs" 885
noncomputable def heap:Params->Frag:=λP=>
  (nat_lit 2,⟨.none,none,(.dict (List.toArray []) 0),#[]⟩)::
(nat_lit 3,D [(en P "__name__" 165 (st "law_sampleyard_k85_whole_texts_by_signs" 885)),(en P "__doc__" 166 .none),(en P "__package__" 167 .none),(en P "__loader__" 168 (.builtin "__main__.__loader__#opaque")),(en P "__spec__" 169 .none),(en P "__annotations__" 170 (.ref 6)),(en P "__builtins__" 171 (.ref 4)),(en P "__file__" 173 (st "/claim/cut.py" 172)),(en P "__cached__" 174 .none),(en P "_wall" 193 (.ref 21)),(en P "YardError" 213 (.ref 31)),(en P "BadTriangle" 229 (.ref 44)),(en P "BadThing" 245 (.ref 56)),(en P "BadFloor" 261 (.ref 68)),(en P "BadPattern" 277 (.ref 80)),(en P "NoRow" 302 (.ref 99)),(en P "is_whole" 311 (.ref 108)),(en P "is_between" 320 (.ref 115)),(en P "greatest_divisor" 331 (.ref 122)),(en P "is_fraction" 340 (.ref 129)),(en P "MOST_VALUES" 344 (.int (3) 343)),(en P "check_triangle" 352 (.ref 136)),(en P "is_corner" 358 (.ref 141)),(en P "are_values" 364 (.ref 146)),(en P "numbers_of" 371 (.ref 153)),(en P "check_before_eye" 381 (.ref 160)),(en P "MOST_CELLS" 385 (.int (64) 384)),(en P "MOST_SPOTS" 387 (.int (16) 386)),(en P "check_floor" 395 (.ref 167)),(en P "check_spots" 401 (.ref 172)),(en P "is_spot" 408 (.ref 179)),(en P "COUNTS" 416 (.ref 180)),(en P "check_pattern" 422 (.ref 185)),(en P "copied" 428 (.ref 190)),(en P "Thing" 466 (.ref 214)),(en P "Plain" 515 (.ref 256)),(en P "Shaded" 562 (.ref 296)),(en P "Patterned" 611 (.ref 336)),(en P "Glass" 669 (.ref 383)),(en P "check_values" 677 (.ref 392)),(en P "check_colour" 684 (.ref 399)),(en P "check_part" 691 (.ref 406)),(en P "FIGURES" 695 (st "0123456789" 694)),(en P "MOST_FIGURES" 697 (.int (30) 696)),(en P "number_word" 706 (.ref 413)),(en P "fraction_word" 713 (.ref 420)),(en P "read_number" 721 (.ref 427)),(en P "are_figures" 727 (.ref 432)),(en P "read_fraction" 736 (.ref 439)),(en P "words_behind" 745 (.ref 446)),(en P "just_words_behind" 755 (.ref 453)),(en P "numbers_behind" 761 (.ref 458)),(en P "thing_text" 767 (.ref 463)),(en P "head_words" 775 (.ref 470)),(en P "pattern_word" 781 (.ref 475)),(en P "corner_text" 787 (.ref 480)),(en P "read_thing" 793 (.ref 485)),(en P "check_text" 800 (.ref 492)),(en P "groups_of" 809 (.ref 499)),(en P "read_corner" 815 (.ref 504)),(en P "thing_of" 823 (.ref 511)),(en P "read_pattern" 829 (.ref 516)),(en P "scene_text" 835 (.ref 521)),(en P "pair_word" 842 (.ref 528)),(en P "read_scene" 848 (.ref 533)),(en P "read_at" 857 (.ref 540)),(en P "read_floor" 865 (.ref 547)),(en P "read_ground" 872 (.ref 554)),(en P "read_spots" 878 (.ref 559)),(en P "read_spot" 884 (.ref 564)),(en P "_law_cell_at" 894 (.ref 571)),(en P "_law_divisor" 902 (.ref 578)),(en P "_law_mixed" 911 (.ref 585)),(en P "_law_rows" 917 (.ref 590)),(en P "_law_changed" 932 (.ref 597)),(en P "_law_number" 938 (.ref 602)),(en P "_law_fraction" 944 (.ref 607)),(en P "_law_is_pattern" 950 (.ref 612)),(en P "_law_corners" 956 (.ref 617)),(en P "_law_is_thing" 967 (.ref 624)),(en P "_law_is_spots" 973 (.ref 629)),(en P "_law_stands" 979 (.ref 634)),(en P "_law_due" 988 (.ref 641)),(en P "_law_right" 999 (.ref 648)),(en P "law" 1007 (.ref 655))] 85)::
(nat_lit 20,B1 "_wall" 187 1 1 15 191)::
(nat_lit 21,G1 0 "_wall" 20 o0_)::
(nat_lit 22,T #[(.type "ValueError")])::
(nat_lit 30,D [(en P "__module__" 203 (st "sampleyard.errors" 194)),(en P "__firstlineno__" 207 (.int (5) 206)),(en P "__static_attributes__" 208 (.ref 29)),(en P "__weakref__" 210 (.ref 32)),(en P "__doc__" 211 .none)] 3)::
(nat_lit 31,L "YardError" [(.type "ValueError")] [(.ref 31),(.type "ValueError"),(.type "Exception"),(.type "BaseException"),(.type "object")] 30 [(.ref 44),(.ref 56),(.ref 68),(.ref 80),(.ref 99)] #[(some (.ref 22)),none,(some (st "YardError" 196)),(some (st "YardError" 204)),(some (.builtin "ValueError.__new__")),(some (.bool true))])::
(nat_lit 32,⟨(.type "getset_descriptor"),none,(.fields #[(st "__weakref__" 209),(.ref 31),(.builtin "ExceptionGroup.__weakref__"),.none]),#[]⟩)::
(nat_lit 35,T #[(.ref 31)])::
(nat_lit 43,D [(en P "__module__" 221 (st "sampleyard.errors" 194)),(en P "__firstlineno__" 225 (.int (7) 224)),(en P "__static_attributes__" 226 (.ref 42)),(en P "__doc__" 227 .none)] 2)::
(nat_lit 44,L "BadTriangle" [(.ref 31)] [(.ref 44),(.ref 31),(.type "ValueError"),(.type "Exception"),(.type "BaseException"),(.type "object")] 43 [] #[(some (.ref 35)),none,(some (st "BadTriangle" 214)),(some (st "BadTriangle" 222)),(some (.builtin "ValueError.__new__")),(some (.bool true))])::
(nat_lit 47,T #[(.ref 31)])::
(nat_lit 55,D [(en P "__module__" 237 (st "sampleyard.errors" 194)),(en P "__firstlineno__" 241 (.int (9) 240)),(en P "__static_attributes__" 242 (.ref 54)),(en P "__doc__" 243 .none)] 2)::
(nat_lit 56,L "BadThing" [(.ref 31)] [(.ref 56),(.ref 31),(.type "ValueError"),(.type "Exception"),(.type "BaseException"),(.type "object")] 55 [] #[(some (.ref 47)),none,(some (st "BadThing" 230)),(some (st "BadThing" 238)),(some (.builtin "ValueError.__new__")),(some (.bool true))])::
(nat_lit 59,T #[(.ref 31)])::
(nat_lit 67,D [(en P "__module__" 253 (st "sampleyard.errors" 194)),(en P "__firstlineno__" 257 (.int (11) 256)),(en P "__static_attributes__" 258 (.ref 66)),(en P "__doc__" 259 .none)] 2)::
(nat_lit 68,L "BadFloor" [(.ref 31)] [(.ref 68),(.ref 31),(.type "ValueError"),(.type "Exception"),(.type "BaseException"),(.type "object")] 67 [] #[(some (.ref 59)),none,(some (st "BadFloor" 246)),(some (st "BadFloor" 254)),(some (.builtin "ValueError.__new__")),(some (.bool true))])::
(nat_lit 71,T #[(.ref 31)])::
(nat_lit 79,D [(en P "__module__" 269 (st "sampleyard.errors" 194)),(en P "__firstlineno__" 273 (.int (13) 272)),(en P "__static_attributes__" 274 (.ref 78)),(en P "__doc__" 275 .none)] 2)::
(nat_lit 80,L "BadPattern" [(.ref 31)] [(.ref 80),(.ref 31),(.type "ValueError"),(.type "Exception"),(.type "BaseException"),(.type "object")] 79 [] #[(some (.ref 71)),none,(some (st "BadPattern" 262)),(some (st "BadPattern" 270)),(some (.builtin "ValueError.__new__")),(some (.bool true))])::
(nat_lit 83,T #[(.ref 31)])::
(nat_lit 95,C "__init__" 290 "NoRow.__init__" 291 292 17 2 0 0 3 (.ref 90) true 181 (.ref 91) .none (.ref 92) (.ref 93) (.ref 94) 295 17 296)::
(nat_lit 96,F (inClass (top 7) 0) "__init__" "NoRow.__init__" none .none .none (.ref 95) .none (st "sampleyard.errors" 194) .none)::
(nat_lit 98,D [(en P "__module__" 285 (st "sampleyard.errors" 194)),(en P "__firstlineno__" 289 (.int (15) 288)),(en P "__init__" 297 (.ref 96)),(en P "__static_attributes__" 299 (.ref 97)),(en P "__doc__" 300 .none)] 2)::
(nat_lit 99,L "NoRow" [(.ref 31)] [(.ref 99),(.ref 31),(.type "ValueError"),(.type "Exception"),(.type "BaseException"),(.type "object")] 98 [] #[(some (.ref 83)),none,(some (st "NoRow" 278)),(some (st "NoRow" 286)),(some (.builtin "ValueError.__new__")),(some (.bool true))])::
(nat_lit 107,B1 "is_whole" 305 20 1 102 309)::
(nat_lit 108,G1 9 "is_whole" 107 o1_)::
(nat_lit 114,B1 "is_between" 312 22 3 109 318)::
(nat_lit 115,G1 10 "is_between" 114 o1_)::
(nat_lit 121,B1 "greatest_divisor" 321 24 1 116 329)::
(nat_lit 122,G1 11 "greatest_divisor" 121 o1_)::
(nat_lit 128,B1 "is_fraction" 334 34 1 123 338)::
(nat_lit 129,G1 13 "is_fraction" 128 o2_)::
(nat_lit 135,B1 "check_triangle" 345 42 1 130 350)::
(nat_lit 136,G1 16 "check_triangle" 135 o3_)::
(nat_lit 140,E1 "is_corner" 353 50 1 137 356)::
(nat_lit 141,G1 17 "is_corner" 140 o3_)::
(nat_lit 145,E1 "are_values" 359 56 1 142 362)::
(nat_lit 146,G1 18 "are_values" 145 o3_)::
(nat_lit 152,B1 "numbers_of" 365 60 1 147 369)::
(nat_lit 153,G1 19 "numbers_of" 152 o3_)::
(nat_lit 159,B1 "check_before_eye" 374 63 1 154 379)::
(nat_lit 160,G1 21 "check_before_eye" 159 o4_)::
(nat_lit 166,B1 "check_floor" 388 70 2 161 393)::
(nat_lit 167,G1 25 "check_floor" 166 o5_)::
(nat_lit 171,E1 "check_spots" 396 73 1 168 399)::
(nat_lit 172,G1 26 "check_spots" 171 o5_)::
(nat_lit 178,B1 "is_spot" 402 80 1 173 406)::
(nat_lit 179,G1 27 "is_spot" 178 o5_)::
(nat_lit 180,T #[(.int (1) 411),(.int (2) 412),(.int (4) 413),(.int (8) 414),(.int (16) 415)])::
(nat_lit 184,E1 "check_pattern" 417 86 1 181 420)::
(nat_lit 185,G1 30 "check_pattern" 184 o6_)::
(nat_lit 189,E1 "copied" 423 96 1 186 426)::
(nat_lit 190,G1 31 "copied" 189 o6_)::
(nat_lit 203,C "__init__" 443 "Thing.__init__" 444 445 101 2 0 0 3 (.ref 198) true 181 (.ref 199) .none (.ref 200) (.ref 201) (.ref 202) 448 101 449)::
(nat_lit 204,F (inClass (top 33) 0) "__init__" "Thing.__init__" none .none .none (.ref 203) .none (st "sampleyard.things" 429) .none)::
(nat_lit 210,C "is_glass" 451 "Thing.is_glass" 452 453 106 1 0 0 3 (.ref 205) true 181 (.ref 206) .none (.ref 207) (.ref 208) (.ref 209) 455 106 456)::
(nat_lit 211,F (inClass (top 33) 1) "is_glass" "Thing.is_glass" none .none .none (.ref 210) .none (st "sampleyard.things" 429) .none)::
(nat_lit 213,D [(en P "__module__" 438 (st "sampleyard.things" 429)),(en P "__firstlineno__" 442 (.int (99) 441)),(en P "__init__" 450 (.ref 204)),(en P "is_glass" 457 (.ref 211)),(en P "__static_attributes__" 459 (.ref 212)),(en P "__dict__" 461 (.ref 215)),(en P "__weakref__" 463 (.ref 216)),(en P "__doc__" 464 .none)] 4)::
(nat_lit 214,L "Thing" [(.type "object")] [(.ref 214),(.type "object")] 213 [(.ref 256),(.ref 296),(.ref 336),(.ref 383)] #[none,none,(some (st "Thing" 431)),(some (st "Thing" 439)),(some (.builtin "object.__new__")),(some (.bool true))])::
(nat_lit 215,⟨(.type "getset_descriptor"),none,(.fields #[(st "__dict__" 460),(.ref 214),(.builtin "function.__dict__"),(.builtin "function.__dict__#set")]),#[]⟩)::
(nat_lit 216,⟨(.type "getset_descriptor"),none,(.fields #[(st "__weakref__" 462),(.ref 214),(.builtin "ExceptionGroup.__weakref__"),.none]),#[]⟩)::
(nat_lit 219,T #[(.ref 214)])::
(nat_lit 231,C "__init__" 479 "Plain.__init__" 480 481 110 3 0 0 3 (.ref 226) true 181 (.ref 227) .none (.ref 228) (.ref 229) (.ref 230) 485 110 486)::
(nat_lit 232,F (inClass (top 34) 0) "__init__" "Plain.__init__" none .none .none (.ref 231) .none (st "sampleyard.things" 429) .none)::
(nat_lit 238,C "word" 488 "Plain.word" 489 490 115 1 0 0 3 (.ref 233) true 181 (.ref 234) .none (.ref 235) (.ref 236) (.ref 237) 492 115 493)::
(nat_lit 239,F (inClass (top 34) 1) "word" "Plain.word" none .none .none (.ref 238) .none (st "sampleyard.things" 429) .none)::
(nat_lit 245,C "colour_at" 495 "Plain.colour_at" 496 497 118 2 0 0 3 (.ref 240) true 181 (.ref 241) .none (.ref 242) (.ref 243) (.ref 244) 500 118 501)::
(nat_lit 246,F (inClass (top 34) 2) "colour_at" "Plain.colour_at" none .none .none (.ref 245) .none (st "sampleyard.things" 429) .none)::
(nat_lit 252,C "like" 503 "Plain.like" 504 505 121 2 0 0 3 (.ref 247) true 181 (.ref 248) .none (.ref 249) (.ref 250) (.ref 251) 508 121 509)::
(nat_lit 253,F (inClass (top 34) 3) "like" "Plain.like" none .none .none (.ref 252) .none (st "sampleyard.things" 429) .none)::
(nat_lit 255,D [(en P "__module__" 474 (st "sampleyard.things" 429)),(en P "__firstlineno__" 478 (.int (108) 477)),(en P "__init__" 487 (.ref 232)),(en P "word" 494 (.ref 239)),(en P "colour_at" 502 (.ref 246)),(en P "like" 510 (.ref 253)),(en P "__static_attributes__" 512 (.ref 254)),(en P "__doc__" 513 .none)] 2)::
(nat_lit 256,L "Plain" [(.ref 214)] [(.ref 256),(.ref 214),(.type "object")] 255 [] #[(some (.ref 219)),none,(some (st "Plain" 467)),(some (st "Plain" 475)),(some (.builtin "object.__new__")),(some (.bool true))])::
(nat_lit 259,T #[(.ref 214)])::
(nat_lit 271,C "__init__" 528 "Shaded.__init__" 529 530 125 2 0 0 3 (.ref 266) true 181 (.ref 267) .none (.ref 268) (.ref 269) (.ref 270) 533 125 534)::
(nat_lit 272,F (inClass (top 35) 0) "__init__" "Shaded.__init__" none .none .none (.ref 271) .none (st "sampleyard.things" 429) .none)::
(nat_lit 278,C "word" 536 "Shaded.word" 537 538 129 1 0 0 3 (.ref 273) true 181 (.ref 274) .none (.ref 275) (.ref 276) (.ref 277) 540 129 541)::
(nat_lit 279,F (inClass (top 35) 1) "word" "Shaded.word" none .none .none (.ref 278) .none (st "sampleyard.things" 429) .none)::
(nat_lit 285,C "colour_at" 543 "Shaded.colour_at" 544 545 132 2 0 0 3 (.ref 280) true 181 (.ref 281) .none (.ref 282) (.ref 283) (.ref 284) 548 132 549)::
(nat_lit 286,F (inClass (top 35) 2) "colour_at" "Shaded.colour_at" none .none .none (.ref 285) .none (st "sampleyard.things" 429) .none)::
(nat_lit 292,C "like" 551 "Shaded.like" 552 553 135 2 0 0 3 (.ref 287) true 181 (.ref 288) .none (.ref 289) (.ref 290) (.ref 291) 556 135 557)::
(nat_lit 293,F (inClass (top 35) 3) "like" "Shaded.like" none .none .none (.ref 292) .none (st "sampleyard.things" 429) .none)::
(nat_lit 295,D [(en P "__module__" 523 (st "sampleyard.things" 429)),(en P "__firstlineno__" 527 (.int (123) 526)),(en P "__init__" 535 (.ref 272)),(en P "word" 542 (.ref 279)),(en P "colour_at" 550 (.ref 286)),(en P "like" 558 (.ref 293)),(en P "__static_attributes__" 559 (.ref 294)),(en P "__doc__" 560 .none)] 2)::
(nat_lit 296,L "Shaded" [(.ref 214)] [(.ref 296),(.ref 214),(.type "object")] 295 [] #[(some (.ref 259)),none,(some (st "Shaded" 516)),(some (st "Shaded" 524)),(some (.builtin "object.__new__")),(some (.bool true))])::
(nat_lit 299,T #[(.ref 214)])::
(nat_lit 311,C "__init__" 575 "Patterned.__init__" 576 577 139 3 0 0 3 (.ref 306) true 181 (.ref 307) .none (.ref 308) (.ref 309) (.ref 310) 581 139 582)::
(nat_lit 312,F (inClass (top 36) 0) "__init__" "Patterned.__init__" none .none .none (.ref 311) .none (st "sampleyard.things" 429) .none)::
(nat_lit 318,C "word" 584 "Patterned.word" 585 586 145 1 0 0 3 (.ref 313) true 181 (.ref 314) .none (.ref 315) (.ref 316) (.ref 317) 588 145 589)::
(nat_lit 319,F (inClass (top 36) 1) "word" "Patterned.word" none .none .none (.ref 318) .none (st "sampleyard.things" 429) .none)::
(nat_lit 325,C "colour_at" 591 "Patterned.colour_at" 592 593 148 2 0 0 3 (.ref 320) true 181 (.ref 321) .none (.ref 322) (.ref 323) (.ref 324) 596 148 597)::
(nat_lit 326,F (inClass (top 36) 2) "colour_at" "Patterned.colour_at" none .none .none (.ref 325) .none (st "sampleyard.things" 429) .none)::
(nat_lit 332,C "like" 599 "Patterned.like" 600 601 151 2 0 0 3 (.ref 327) true 181 (.ref 328) .none (.ref 329) (.ref 330) (.ref 331) 604 151 605)::
(nat_lit 333,F (inClass (top 36) 3) "like" "Patterned.like" none .none .none (.ref 332) .none (st "sampleyard.things" 429) .none)::
(nat_lit 335,D [(en P "__module__" 570 (st "sampleyard.things" 429)),(en P "__firstlineno__" 574 (.int (137) 573)),(en P "__init__" 583 (.ref 312)),(en P "word" 590 (.ref 319)),(en P "colour_at" 598 (.ref 326)),(en P "like" 606 (.ref 333)),(en P "__static_attributes__" 608 (.ref 334)),(en P "__doc__" 609 .none)] 2)::
(nat_lit 336,L "Patterned" [(.ref 214)] [(.ref 336),(.ref 214),(.type "object")] 335 [] #[(some (.ref 299)),none,(some (st "Patterned" 563)),(some (st "Patterned" 571)),(some (.builtin "object.__new__")),(some (.bool true))])::
(nat_lit 339,T #[(.ref 214)])::
(nat_lit 351,C "__init__" 624 "Glass.__init__" 625 626 155 4 0 0 3 (.ref 346) true 181 (.ref 347) .none (.ref 348) (.ref 349) (.ref 350) 631 155 632)::
(nat_lit 352,F (inClass (top 37) 0) "__init__" "Glass.__init__" none .none .none (.ref 351) .none (st "sampleyard.things" 429) .none)::
(nat_lit 358,C "word" 634 "Glass.word" 635 636 162 1 0 0 3 (.ref 353) true 181 (.ref 354) .none (.ref 355) (.ref 356) (.ref 357) 638 162 639)::
(nat_lit 359,F (inClass (top 37) 1) "word" "Glass.word" none .none .none (.ref 358) .none (st "sampleyard.things" 429) .none)::
(nat_lit 365,C "is_glass" 641 "Glass.is_glass" 642 643 165 1 0 0 3 (.ref 360) true 181 (.ref 361) .none (.ref 362) (.ref 363) (.ref 364) 645 165 646)::
(nat_lit 366,F (inClass (top 37) 2) "is_glass" "Glass.is_glass" none .none .none (.ref 365) .none (st "sampleyard.things" 429) .none)::
(nat_lit 372,C "colour_at" 648 "Glass.colour_at" 649 650 168 2 0 0 3 (.ref 367) true 181 (.ref 368) .none (.ref 369) (.ref 370) (.ref 371) 653 168 654)::
(nat_lit 373,F (inClass (top 37) 3) "colour_at" "Glass.colour_at" none .none .none (.ref 372) .none (st "sampleyard.things" 429) .none)::
(nat_lit 379,C "like" 656 "Glass.like" 657 658 171 2 0 0 3 (.ref 374) true 181 (.ref 375) .none (.ref 376) (.ref 377) (.ref 378) 661 171 662)::
(nat_lit 380,F (inClass (top 37) 4) "like" "Glass.like" none .none .none (.ref 379) .none (st "sampleyard.things" 429) .none)::
(nat_lit 382,D [(en P "__module__" 619 (st "sampleyard.things" 429)),(en P "__firstlineno__" 623 (.int (153) 622)),(en P "__init__" 633 (.ref 352)),(en P "word" 640 (.ref 359)),(en P "is_glass" 647 (.ref 366)),(en P "colour_at" 655 (.ref 373)),(en P "like" 663 (.ref 380)),(en P "__static_attributes__" 666 (.ref 381)),(en P "__doc__" 667 .none)] 2)::
(nat_lit 383,L "Glass" [(.ref 214)] [(.ref 383),(.ref 214),(.type "object")] 382 [] #[(some (.ref 339)),none,(some (st "Glass" 612)),(some (st "Glass" 620)),(some (.builtin "object.__new__")),(some (.bool true))])::
(nat_lit 391,B1 "check_values" 670 173 2 386 675)::
(nat_lit 392,G1 38 "check_values" 391 o7_)::
(nat_lit 398,B1 "check_colour" 678 176 1 393 682)::
(nat_lit 399,G1 39 "check_colour" 398 o7_)::
(nat_lit 405,B1 "check_part" 685 179 1 400 689)::
(nat_lit 406,G1 40 "check_part" 405 o7_)::
(nat_lit 412,B1 "number_word" 698 185 1 407 704)::
(nat_lit 413,G1 44 "number_word" 412 o8_)::
(nat_lit 419,B1 "fraction_word" 707 195 1 414 711)::
(nat_lit 420,G1 45 "fraction_word" 419 o8_)::
(nat_lit 426,B1 "read_number" 714 199 1 421 719)::
(nat_lit 427,G1 46 "read_number" 426 o8_)::
(nat_lit 431,E1 "are_figures" 722 204 1 428 725)::
(nat_lit 432,G1 47 "are_figures" 431 o8_)::
(nat_lit 438,B1 "read_fraction" 728 210 1 433 734)::
(nat_lit 439,G1 48 "read_fraction" 438 o8_)::
(nat_lit 445,B1 "words_behind" 737 218 2 440 743)::
(nat_lit 446,G1 49 "words_behind" 445 o8_)::
(nat_lit 452,B1 "just_words_behind" 746 223 3 447 753)::
(nat_lit 453,G1 50 "just_words_behind" 452 o8_)::
(nat_lit 457,E1 "numbers_behind" 756 228 3 454 759)::
(nat_lit 458,G1 51 "numbers_behind" 457 o8_)::
(nat_lit 462,E1 "thing_text" 762 230 1 459 765)::
(nat_lit 463,G1 52 "thing_text" 462 o8_)::
(nat_lit 469,B1 "head_words" 768 232 1 464 773)::
(nat_lit 470,G1 53 "head_words" 469 o8_)::
(nat_lit 474,E1 "pattern_word" 776 241 1 471 779)::
(nat_lit 475,G1 54 "pattern_word" 474 o8_)::
(nat_lit 479,E1 "corner_text" 782 243 1 476 785)::
(nat_lit 480,G1 55 "corner_text" 479 o8_)::
(nat_lit 484,E1 "read_thing" 788 245 1 481 791)::
(nat_lit 485,G1 56 "read_thing" 484 o8_)::
(nat_lit 491,B1 "check_text" 794 251 1 486 798)::
(nat_lit 492,G1 57 "check_text" 491 o8_)::
(nat_lit 498,B1 "groups_of" 801 254 1 493 807)::
(nat_lit 499,G1 58 "groups_of" 498 o8_)::
(nat_lit 503,E1 "read_corner" 810 262 1 500 813)::
(nat_lit 504,G1 59 "read_corner" 503 o8_)::
(nat_lit 510,B1 "thing_of" 816 267 2 505 821)::
(nat_lit 511,G1 60 "thing_of" 510 o8_)::
(nat_lit 515,E1 "read_pattern" 824 277 1 512 827)::
(nat_lit 516,G1 61 "read_pattern" 515 o8_)::
(nat_lit 520,E1 "scene_text" 830 279 1 517 833)::
(nat_lit 521,G1 62 "scene_text" 520 o8_)::
(nat_lit 527,B1 "pair_word" 836 282 1 522 840)::
(nat_lit 528,G1 63 "pair_word" 527 o8_)::
(nat_lit 532,E1 "read_scene" 843 284 1 529 846)::
(nat_lit 533,G1 64 "read_scene" 532 o8_)::
(nat_lit 539,B1 "read_at" 849 292 3 534 855)::
(nat_lit 540,G1 65 "read_at" 539 o8_)::
(nat_lit 546,B1 "read_floor" 858 299 1 541 863)::
(nat_lit 547,G1 66 "read_floor" 546 o8_)::
(nat_lit 553,B1 "read_ground" 866 303 1 548 870)::
(nat_lit 554,G1 67 "read_ground" 553 o8_)::
(nat_lit 558,E1 "read_spots" 873 305 1 555 876)::
(nat_lit 559,G1 68 "read_spots" 558 o8_)::
(nat_lit 563,E1 "read_spot" 879 309 1 560 882)::
(nat_lit 564,G1 69 "read_spot" 563 o8_)::
(nat_lit 570,B1 "_law_cell_at" 887 312 2 565 892)::
(nat_lit 571,G1 71 "_law_cell_at" 570 o9_)::
(nat_lit 577,B1 "_law_divisor" 895 316 2 572 900)::
(nat_lit 578,G1 72 "_law_divisor" 577 o9_)::
(nat_lit 584,B1 "_law_mixed" 903 320 2 579 909)::
(nat_lit 585,G1 73 "_law_mixed" 584 o9_)::
(nat_lit 589,E1 "_law_rows" 912 326 1 586 915)::
(nat_lit 590,G1 74 "_law_rows" 589 o9_)::
(nat_lit 596,B1 "_law_changed" 918 334 2 591 930)::
(nat_lit 597,G1 75 "_law_changed" 596 o9_)::
(nat_lit 601,E1 "_law_number" 933 345 1 598 936)::
(nat_lit 602,G1 76 "_law_number" 601 o9_)::
(nat_lit 606,E1 "_law_fraction" 939 354 1 603 942)::
(nat_lit 607,G1 77 "_law_fraction" 606 o9_)::
(nat_lit 611,E1 "_law_is_pattern" 945 363 1 608 948)::
(nat_lit 612,G1 78 "_law_is_pattern" 611 o9_)::
(nat_lit 616,E1 "_law_corners" 951 368 1 613 954)::
(nat_lit 617,G1 79 "_law_corners" 616 o9_)::
(nat_lit 623,B1 "_law_is_thing" 957 375 1 618 965)::
(nat_lit 624,G1 80 "_law_is_thing" 623 o9_)::
(nat_lit 628,E1 "_law_is_spots" 968 391 1 625 971)::
(nat_lit 629,G1 81 "_law_is_spots" 628 o9_)::
(nat_lit 633,E1 "_law_stands" 974 399 2 630 977)::
(nat_lit 634,G1 82 "_law_stands" 633 o9_)::
(nat_lit 640,B1 "_law_due" 980 411 1 635 986)::
(nat_lit 641,G1 83 "_law_due" 640 o9_)::
(nat_lit 647,B1 "_law_right" 989 417 1 642 997)::
(nat_lit 648,G1 84 "_law_right" 647 o9_)::
(nat_lit 654,B1 "law" 1000 428 1 649 1005)::
(nat_lit 655,G1 85 "law" 654 o9_)::
[]
noncomputable abbrev addrs:List Addr:=[2,3,20,21,22,30,31,32,35,43,44,47,55,56,59,67,68,71,79,80,83,95,96,98,99,107,108,114,115,121,122,128,129,135,136,140,141,145,146,152,153,159,160,166,167,171,172,178,179,180,184,185,189,190,203,204,210,211,213,214,215,216,219,231,232,238,239,245,246,252,253,255,256,259,271,272,278,279,285,286,292,293,295,296,299,311,312,318,319,325,326,332,333,335,336,339,351,352,358,359,365,366,372,373,379,380,382,383,391,392,398,399,405,406,412,413,419,420,426,427,431,432,438,439,445,446,452,453,457,458,462,463,469,470,474,475,479,480,484,485,491,492,498,499,503,504,510,511,515,516,520,521,527,528,532,533,539,540,546,547,553,554,558,559,563,564,570,571,577,578,584,585,589,590,596,597,601,602,606,607,611,612,616,617,623,624,628,629,633,634,640,641,647,648,654,655]
abbrev most:Nat:=9666
def Ks(P:Params):addrs=(heap P).map (·.1):=rfl
abbrev hook:Hook:=kHook heap addrs Ks
end Hd
namespace Hd
open PySem PySem.W PyProof.Rows
def Oh(tb:String->Option Builtin)(p:Program)(w:World)(n₀:Nat)(ann:Option Value):Nat->SharedT->Thread->Option SharedT
 | 0,_,_=>none
 | n+1,s,t=>match through t with
  | true=>some s
  | false=>match stepOk n₀ ann t with
   | false=>none
   | true=>match stepT (denote tb) p w s t with
    | some (s',t')=>Oh tb p w n₀ ann n s' t'
    | none=>none
def Zgr{tb:String->Option Builtin}{p:Program}{w:World}{n₀:Nat}{ann:Option Value}:∀{n:Nat} {s s':SharedT} {t:Thread},Oh tb p w n₀ ann n s t=some s'->topRun tb p w n₀ ann n s.abs t=some s'.abs
 | 0,_,_,_,h=>by cases h
 | n+1,s,s',t,h=>by
  unfold Oh at h;unfold topRun;cases he:through t with
  | true=>rw [he] at h;cases h;rfl
  | false=>
   rw [he] at h;cases hk:stepOk n₀ ann t with
   | false=>rw [hk] at h;cases h
   | true=>
    rw [hk] at h;cases hs:stepT (denote tb) p w s t with
    | none=>rw [hs] at h;cases h
    | some r=>obtain ⟨s₂,t₂⟩:=r;rw [hs] at h;rw [stepT_spec hs];exact Zgr h
def Rb(p:Program)(w:World)(n₀:Nat)(ann:Option Value):Nat->SharedT->Thread->Option SharedT
 | 0,_,_=>none
 | n+1,s,t=>match through t with
  | true=>some s
  | false=>match Fast.tw6613529449190102663 n₀ ann t with
   | false=>none
   | true=>match Fast.tw10156331382660048174 (Fast.tw11892475500146522536 Fast.tw14364793385576792824) p w s t with
    | some (s',t')=>Rb p w n₀ ann n s' t'
    | none=>none
def Zgt(p:Program)(w:World)(n₀:Nat)(ann:Option Value):∀(n:Nat) (s:SharedT) (t:Thread),Oh treeTable p w n₀ ann n s t=Rb p w n₀ ann n s t
 | 0,_,_=>rfl
 | n+1,s,t=>by
  unfold Oh Rb;rw [Fast.te6613529449190102663,Fast.te10156331382660048174,Fast.te11892475500146522536,Fast.te14364793385576792824];cases through t with
  | true=>rfl
  | false=>
   cases Fast.tw6613529449190102663 n₀ ann t with
   | false=>rfl
   | true=>
    cases Fast.tw10156331382660048174 (Fast.tw11892475500146522536 Fast.tw14364793385576792824) p w s t with
    | none=>rfl
    | some r=>
     obtain ⟨b,a⟩:=r;have:=Zgt p w n₀ ann n b a;rw [Fast.te14364793385576792824] at this;exact this
def Zkc(i:Nat)(t:BT):List Obj->BT
 | []=>t
 | o::r=>Zkc (i+1) (t.ins i o) r
def Zuo(w:World)(os:OsState):SharedT:=⟨Zkc 0 .nil (boot_heap w.params).objs.toList,(boot_heap w.params).objs.size,(boot_heap w.params).life,Array.mk [],boot_drawn,boot_toks,os⟩
def ZmF(w:World)(os:OsState):(Zuo w os).abs=⟨boot_heap w.params,Array.mk [],boot_drawn,boot_toks,os⟩:=by kernel_rfl
def obsT(as:List Addr)(s:SharedT):List (Option Obj):=as.map λa=>match Nat.blt a s.n with
 | true=>alive ((s.tree.get a).getD default)
 | false=>none
def Zqu(as:List Addr)(s:SharedT):as.map s.abs.heap.get?=obsT as s:=by
 unfold obsT;refine Nk λa _=>?_;show (absHeap s.tree s.n s.life).get? a=_;unfold Heap.get?;rw [absHeap_at];by_cases h:a<s.n
 .rw [iP h,show Nat.blt a s.n=true from Nat.ble_eq.mpr h];generalize (s.tree.get a).getD default=o;obtain ⟨c,d,b,e⟩:=o;cases b<;>rfl
 .rw [iN h,show Nat.blt a s.n=false from KC.mpr λz=>h (Nat.le_of_ble_eq_true z)]
abbrev U0{α:Type}(p:Program)(N m₀:Nat)(ann:Option Value)(f:SharedT->α)(d:α)(w:World)(os:OsState):Prop:=(Rb p w m₀ ann N (Zuo w os) (topStub p)).map f=some d
abbrev U1{α:Type}(p q:Program)(loose:List Str)(Xt:Shared->Bool)(N m₀:Nat)(ann:Option Value)(g0:Bool)(Yt:SharedT->α)(Ya:World->α):Prop:=∀w os,U0 p N m₀ ann (λs=>((staticsOk (importedModules p.main.body) (boot_heap w.params) s.abs.heap&&namesBound p s.abs.heap&&gensDone s.abs&&laidKept (boot_heap w.params) s.abs.heap),Yt s,(Fast.tw4187177175401517315 q loose (importedModules p.main.body) Xt g0 s.abs).1)) (true,Ya w,expectedOf q) w os
abbrev U2(p q:Program)(loose:List Str)(Xt:Shared->Bool)(N m₀:Nat)(ann:Option Value)(g0:Bool):Prop:=∀w os,U0 p N m₀ ann (λs=>((Fast.tw4187177175401517315 q loose (importedModules p.main.body) Xt g0 s.abs).2.1,(Fast.tw4187177175401517315 q loose (importedModules p.main.body) Xt g0 s.abs).2.2.1,(Fast.tw4187177175401517315 q loose (importedModules p.main.body) Xt g0 s.abs).2.2.2.1)) (bltViewBooted,true,true) w os
abbrev U3(p q:Program)(loose:List Str)(Xt:Shared->Bool)(N m₀:Nat)(ann:Option Value)(g0:Bool):Prop:=∀w os,U0 p N m₀ ann (λs=>(Fast.tw4187177175401517315 q loose (importedModules p.main.body) Xt g0 s.abs).2.2.2.2) (pinGoodD (drecsOf q),plainGoodE q (looseW q loose),plainGoodD q loose,wideGood q,clsGoodW q loose) w os
def ZlC{p q:Program}{loose:List Str}{Xt:Shared->Bool}{α:Type}{Yf:Shared->α}{Yt:SharedT->α}{Ya:World->α}{N m₀:Nat}{ann:Option Value}{g0:Bool}(hY:∀s,Yf s.abs=Yt s)
  (e:opening p=plainProg p.main.scope.names) (hN:Nat.ble 600 N=true) (f:∀s,fenceModules? p s=some s)
  (hz:∀w:World,((boot_heap w.params).isNs mainGlobals,(boot_heap w.params).objs.size,(boot_heap w.params).nsMap mainGlobals "__annotations__")=(true,m₀,ann))
  (h:U1 p q loose Xt N m₀ ann g0 Yt Ya) (hh:U2 p q loose Xt N m₀ ann g0) (hj:U3 p q loose Xt N m₀ ann g0) :
  LeftO p q loose Xt Yf Ya N g0:=λw=>by
 obtain ⟨s,B,D⟩:=Option.map_eq_some_iff.mp (boot_open e hN f w);unfold openEnds;rw [B];obtain ⟨n,g,d,k,b⟩:=s;obtain ⟨rfl,rfl,rfl,rfl⟩ : n=boot_heap w.params/\g=Array.mk []/\d=boot_drawn/\k=boot_toks:=by simpa using D
 obtain ⟨a,c,l⟩:=Option.map_eq_some_iff.mp (h w b);have i:(_:Option _).map _=_:=hh w b;have j:(_:Option _).map _=_:=hj w b;rw [c] at i j;rw [<-Zgt] at c;rw [<-Fast.te4187177175401517315] at l i j;have r:=Zgr c;rw [ZmF] at r;obtain ⟨A,u,m⟩ : _/\_/\_:=by simpa only [Prod.mk.injEq] using hz w
 obtain ⟨x,t,o⟩ : _/\_/\_:=by simpa only [Prod.mk.injEq] using l
 obtain ⟨z,v,C⟩ : _/\_/\_:=by simpa only [Prod.mk.injEq] using Be i
 have y:openSeen q loose (importedModules p.main.body) Xt g0 a.abs=openGood q loose:=Prod.ext o (Prod.ext z (Prod.ext v (Prod.ext C (Be j))));show (topFrom treeTable p w N ⟨boot_heap w.params,Array.mk [],boot_drawn,boot_toks,b⟩).map _=_;unfold topFrom;dsimp only;rw [A]
 show (((topRun treeTable p w (boot_heap w.params).objs.size ((boot_heap w.params).nsMap mainGlobals "__annotations__") N ⟨boot_heap w.params,Array.mk [],boot_drawn,boot_toks,b⟩ (topStub p)).bind λa=>match staticsOk (importedModules p.main.body) (boot_heap w.params) a.heap&&namesBound p a.heap&&gensDone a&&laidKept (boot_heap w.params) a.heap with
   | true=>some a
   | false=>none).map _)=_
 rw [u,m,r]
 show ((match staticsOk (importedModules p.main.body) (boot_heap w.params) a.abs.heap&&namesBound p a.abs.heap&&gensDone a.abs&&laidKept (boot_heap w.params) a.abs.heap with
   | true=>some a.abs
   | false=>none).map _)=_
 rw [x];show some (openSeen q loose (importedModules p.main.body) Xt g0 a.abs,Yf a.abs)=_;rw [y,hY,t]
set_option maxRecDepth 100000 in
set_option maxHeartbeats 0 in
def l1:U1 PySem.Challenge.pw_sampleyard_k85_whole_texts_by_signs view [] (λs=>xlAt view [] s&&recOk (RowW.records PySem.Challenge.rw_sampleyard_k85_whole_texts_by_signs.row.toRowW) s) most 11 (some (.ref 6)) true (obsT addrs) (Hook.val hook):=λw a=>by kernel_rfl
set_option maxRecDepth 100000 in
set_option maxHeartbeats 0 in
def l2:U2 PySem.Challenge.pw_sampleyard_k85_whole_texts_by_signs view [] (λs=>xlAt view [] s&&recOk (RowW.records PySem.Challenge.rw_sampleyard_k85_whole_texts_by_signs.row.toRowW) s) most 11 (some (.ref 6)) true:=λw a=>by kernel_rfl
set_option maxRecDepth 100000 in
set_option maxHeartbeats 0 in
def l3:U3 PySem.Challenge.pw_sampleyard_k85_whole_texts_by_signs view [] (λs=>xlAt view [] s&&recOk (RowW.records PySem.Challenge.rw_sampleyard_k85_whole_texts_by_signs.row.toRowW) s) most 11 (some (.ref 6)) true:=λw a=>by kernel_rfl
def left:LeftO PySem.Challenge.pw_sampleyard_k85_whole_texts_by_signs view [] (λs=>xlAt view [] s&&recOk (RowW.records PySem.Challenge.rw_sampleyard_k85_whole_texts_by_signs.row.toRowW) s) (Hook.obs hook) (Hook.val hook) most :=
 ZlC (Zqu addrs) (by kernel_rfl) (by decide) (λs=>by kernel_rfl) (λw=>by kernel_rfl) l1 l2 l3
def okO:(chainsOk view&&opensWell PySem.Challenge.rw_sampleyard_k85_whole_texts_by_signs.row.prog&&(frees PySem.Challenge.rw_sampleyard_k85_whole_texts_by_signs.row.toRowW&&PySem.Challenge.rw_sampleyard_k85_whole_texts_by_signs.row.within.isEmpty))=true:=by decide +kernel
def bar:PySem.Challenge.rw_sampleyard_k85_whole_texts_by_signs.row.prog.bare:=⟨rfl,rfl,rfl,rfl,rfl,by decide +kernel⟩
end Hd
set_option maxHeartbeats 4000000
section
open PySem PySem.Spec PyProof.Rows
abbrev ND(x:PySem.Str):=(x==("__debug__" : PySem.Str))=false
abbrev NE(x:PySem.Str):=(x==("__classdict__" : PySem.Str))=false
namespace L2
inductive V where
 | non | bl (b:Bool) | int (i:Int) | str (x:Str) | ref (a:Addr) | ty (n:String)
 deriving DecidableEq
def RelV:V->Value->Prop
 | .non,u=>u=Value.none
 | .bl b,u=>u=Value.bool b
 | .int i,u=>∃t,u=Value.int i t
 | .str x,u=>∃t,u=Value.str x t
 | .ref a,u=>u=Value.ref a
 | .ty n,u=>u=Value.type n
abbrev Vals:List V->List Value->Prop:=Paired RelV
def Vals.length(r:Vals xs us):xs.length=us.length:=Paired.length r
def Vals.get:∀{xs:List V} {us:List Value} {i:Nat} {x:V},Vals xs us->xs[i]?=some x->∃u,us[i]?=some u/\RelV x u
 | _,_,_,_,.nil,e=>by simp at e
 | _,_,0,_,.cons r _,e=>by simp at e;subst e;exact ⟨_,rfl,r⟩
 | _,_,i+1,x,.cons _ t,e=>by
  obtain ⟨u,b,a⟩:=Vals.get t (by simpa using e);exact ⟨u,by simpa using b,a⟩
def Vals.append:∀{xs ys:List V} {us ws:List Value},Vals xs us->Vals ys ws->Vals (xs++ys) (us++ws)
 | _,_,_,_,.nil,s=>s
 | _,_,_,_,.cons r t,s=>.cons r (Vals.append t s)
def Vals.take:∀{xs:List V} {us:List Value} (n:Nat),Vals xs us->Vals (xs.take n) (us.take n)
 | _,_,0,_=>.nil
 | _,_,_+1,.nil=>.nil
 | _,_,n+1,.cons r t=>.cons r (Vals.take n t)
def Vals.drop:∀{xs:List V} {us:List Value} (n:Nat),Vals xs us->Vals (xs.drop n) (us.drop n)
 | _,_,0,r=>r
 | _,_,_+1,.nil=>.nil
 | _,_,n+1,.cons _ t=>Vals.drop n t
def RelO:Option V->Option Value->Prop
 | some v,some u=>RelV v u
 | none,none=>True
 | _,_=>False
inductive HO where
 | lst (xs:List V)
 | tup (xs:List V)
 | ins (C dx:Addr) (fs:List (Str×V))
 | own (x:Addr)
 | xd (fs:List (Str×V))
 | frz (o:Obj) (u:HO)
 | tbl (ps:Array Value)
 | ext (φ:Heap->Prop)
abbrev Hp:=Addr->Option HO
def upd(H:Hp)(a:Addr)(o:HO):Hp:=λb=>if b=a then some o else H b
def Ax:upd H a o a=some o:=by unfold upd;rw [iP rfl]
def Ag(h:b≠a):upd H a o b=H b:=by unfold upd;rw [iN h]
def Bj{H:Hp}{a b:Addr}{o:HO}(h:H a=some o)(h':H b=none):a≠b:=by
 intro e;subst e;rw [h] at h';cases h'
section
variable(P:Program)(w:World)
def Dj(P:Program)(w:World)(H:Hp)(h:Heap)(a:Addr):HO->Prop
 | .lst c=>c.length<=sizeLine/\∃b n,Vals c b/\h.get? a=some { cls:=.type "list",data:=.seq b.toArray n }
 | .tup c=>c.length<=sizeLine/\∃b,Vals c b/\IsTup h a b.toArray
 | .ins C dx fs=>H dx=some (.own a)/\fs.length<=1000/\dx≠a/\h.get? a=some (W.instObj C dx) /\
   ∃d,h.Ns1 dx d/\(∀f,RelO (fs.lookup f) (d f))/\PySem.Within d (fs.map (·.1))
 | .own _=>∃o,h.get? a=some o
 | .xd fs=>∃d,h.Ns1 a d/\∀f,RelO (fs.lookup f) (d f)
 | .frz o u=>h.get? a=some o/\Dj P w H h a u
 | .tbl ps=>h.get? a=some { cls:=.none,data:=.fields ps }
 | .ext φ=>φ h/\(∃o,h.get? a=some o)/\∀e i,φ e->(∀o,e.get? a=some o->i.get? a=some o)->φ i
def HOk(H:Hp)(h:Heap):Prop:=∀a o,H a=some o->Dj P w H h a o
end
section
variable{P:Program}{w:World}{H H':Hp}{h h':Heap}{a:Addr}{o:HO}
def Dj.lt(x:Dj P w H h a o):a<h.objs.size:=by
 cases o with
 | lst xs=>obtain ⟨_,_,_,_,e⟩:=x;exact BW e
 | tup xs=>obtain ⟨_,_,_,p⟩:=x;exact p.lt
 | ins C dx fs=>obtain ⟨_,_,_,e,_⟩:=x;exact BW e
 | own y=>obtain ⟨_,e⟩:=x;exact BW e
 | xd fs=>obtain ⟨_,⟨_,_,_,e,_⟩,_⟩:=x;exact BW e
 | frz ob u=>obtain ⟨e,_⟩:=x;exact BW e
 | tbl ps=>exact BW (x)
 | ext φ=>obtain ⟨_,⟨_,e⟩,_⟩:=x;exact BW e
def Dj.stay(x:Dj P w H h a o)(k:∀b u,(b=a\/H b=some (.own a))->h.get? b=some u->h'.get? b=some u)(ho:∀b,H b=some (.own a)->H' b=some (.own a))(ht:∀b xs,H b=some (.tup xs)->H' b=some (.tup xs)):Dj P w H' h' a o:=by
 induction o with
 | lst xs=>obtain ⟨z,its,n,r,e⟩:=x;exact ⟨z,its,n,r,k _ _ (.inl rfl) e⟩
 | tup xs=>obtain ⟨z,its,r,g,e,c⟩:=x;exact ⟨z,its,r,g,k _ _ (.inl rfl) e,c⟩
 | ins C dx fs=>
  obtain ⟨d,z,s,e,l,⟨m,i,j,A,c⟩,r⟩:=x;exact ⟨ho _ d,z,s,k _ _ (.inl rfl) e,l,⟨m,i,j,k _ _ (.inr d) A,c⟩,r⟩
 | own y=>obtain ⟨g,e⟩:=x;exact ⟨g,k _ _ (.inl rfl) e⟩
 | xd fs=>obtain ⟨l,⟨m,i,j,e,c⟩,r⟩:=x;exact ⟨l,⟨m,i,j,k _ _ (.inl rfl) e,c⟩,r⟩
 | frz g u ih=>obtain ⟨e,q⟩:=x;exact ⟨k _ _ (.inl rfl) e,ih q⟩
 | tbl ps=>
  have e:=x;exact k a _ (.inl rfl) e
 | ext φ=>obtain ⟨p,⟨o,e⟩,st⟩:=x;exact ⟨st _ _ p λo q=>k _ _ (.inl rfl) q,⟨o,k _ _ (.inl rfl) e⟩,st⟩
def HOk.lt(x:HOk P w H h)(e:H a=some o):a<h.objs.size:=(x a o e).lt
def HOk.fresh(x:HOk P w H h)(e:h.objs.size<=a):H a=none:=by
 cases q:H a with
 | none=>rfl
 | some u=>exact aB (Bp (x.lt q) e) (GK _)
def HOk.kept(x:HOk P w H h)(k:∀b u,h.get? b=some u->h'.get? b=some u):HOk P w H h':=λa o e=>
 (x a o e).stay (λb u _ q=>k b u q) (λ_ q=>q) λ_ _ q=>q
def HOk.laid(x:HOk P w H h)(k:∀b u,h.get? b=some u->h'.get? b=some u)(hp:h.objs.size<=a)(new:Dj P w (upd H a o) h' a o):HOk P w (upd H a o) h':=λb u e=>by
 have d:=x.fresh hp;by_cases hb:b=a
 .subst hb;rw [Ax] at e;cases e;exact new
 .rw [Ag hb] at e;exact (x b u e).stay (λc v _ q=>k c v q) (λc q=>by rw [Ag (Bj q d)];exact q) λc f q=>by rw [Ag (Bj q d)];exact q
end
def Rd(H:Hp)(a:Addr)(u:HO):Prop:=H a=some u\/∃o,H a=some (.frz o u)
def Rd.ok(r:Rd H a u)(x:HOk P w H h):Dj P w H h a u:=by
 rcases r with r | ⟨o,r⟩
 .exact x a u r
 .obtain ⟨_,q⟩:=x a _ r;exact q
def Mut:Option HO->Prop
 | some (.lst _)=>True
 | some (.ins _ _ _)=>True
 | some (.ext _)=>True
 | _=>False
section
variable{P:Program}{w:World}{H:Hp}{h h':Heap}{x e:Addr}{o':HO}
def HOk.write(ok:HOk P w H h)(mu:Mut (H x))(he:e=x\/H e=some (.own x))(k:∀b u,b≠e->h.get? b=some u->h'.get? b=some u)(heo:∃u,h'.get? e=some u)(new:Dj P w (upd H x o') h' x o'):HOk P w (upd H x o') h':=λb u q=>by
 have a:∀c y,H c=some (.own y)->c≠x:=λc y r z=>by subst z;rw [r] at mu;exact mu
 have d:∀c f,H c=some (.tup f)->c≠x:=λc f r z=>by subst z;rw [r] at mu;exact mu
 by_cases hb:b=x
 .subst hb;rw [Ax] at q;cases q;exact new
 .rw [Ag hb] at q;by_cases hbe:b=e
  .have g:H b=some (.own x):=by
    rcases he with z | z
    .exact aB (hbe.trans z) hb
    .rw [hbe];exact z
   rw [q] at g;cases g;obtain ⟨v,i⟩:=heo;exact ⟨v,by rw [hbe];exact i⟩
  .refine (ok b u q).stay (λc v hc r=>k c v ?_ r) (λc r=>by rw [Ag (a c b r)];exact r) λc f r=>by rw [Ag (d c f r)];exact r
   rcases hc with rfl | hc
   .exact hbe
   .rintro rfl;rcases he with z | z
    .exact a c b hc z
    .rw [hc] at z;cases z;exact hb rfl
end
structure Un(fs ex:List Addr)(H H':Hp)(h h':Heap):Prop where
 keep:∀b o,h.get? b=some o->H b=none->b∉fs->b∉ex->h'.get? b=some o
 slot:∀b o,h.get? b=some o->H b=none->b∈fs->b∉ex->∃sl,h'.get? b=some { o with slots:=sl }
 free:∀b o,h.get? b=some o->H b=none->b∉ex->H' b=none
 there:∀b o,h.get? b=some o->b∉ex->∃o',h'.get? b=some o'
 tups:∀b xs,H b=some (.tup xs)->H' b=some (.tup xs)
 frzs:∀b o u,H b=some (.frz o u)->H' b=some (.frz o u)
 tbls:∀b ps,H b=some (.tbl ps)->∃more,H' b=some (.tbl (ps++more))
section
variable{fs fs' ex ex':List Addr}{H H1 H2:Hp}{h h1 h2 h':Heap}{a x e:Addr}{o:HO}
def Un.any(u:Un fs ex H H1 h h1)(q:h.get? b=some ob)(n:H b=none)(hx:b∉ex):∃sl,h1.get? b=some { ob with slots:=sl }:=by
 by_cases hb:b∈fs
 .exact u.slot b ob q n hb hx
 .exact ⟨ob.slots,u.keep b ob q n hb hx⟩
def Un.trans(a:Un fs ex H H1 h h1)(b:Un fs ex H1 H2 h1 h2):Un fs ex H H2 h h2 where
 keep:=λc d q n i e=>b.keep c d (a.keep c d q n i e) (a.free c d q n e) i e
 slot:=λc d q n i e=>by
  obtain ⟨r,f⟩:=a.slot c d q n i e;obtain ⟨j,l⟩:=b.slot c _ f (a.free c d q n e) i e;exact ⟨j,l⟩
 free:=λc d q n e=>by
  obtain ⟨k,f⟩:=a.there c d q e;exact b.free c k f (a.free c d q n e) e
 there:=λc d q e=>by
  obtain ⟨k,f⟩:=a.there c d q e;exact b.there c k f e
 tups:=λc g q=>b.tups c g (a.tups c g q)
 frzs:=λc d g q=>b.frzs c d g (a.frzs c d g q)
 tbls:=λc p q=>by
  obtain ⟨o,f⟩:=a.tbls c p q;obtain ⟨m,l⟩:=b.tbls c _ f;exact ⟨o++m,by rw [l,Array.append_assoc]⟩
def Un.kept(k:∀b u,h.get? b=some u->h'.get? b=some u):Un fs ex H H h h' :=
 ⟨λb a q _ _ _=>k b a q,λb a q _ _ _=>⟨a.slots,k b a q⟩,λ_ _ _ n _=>n,λb a q _=>⟨a,k b a q⟩,λ_ _ q=>q,λ_ _ _ q=>q,λ_ c q=>⟨#[],by rw [q];simp⟩⟩
def Un.refl:Un fs ex H H h h:=Un.kept λ_ _ q=>q
def Un.laid(k:∀b u,h.get? b=some u->h'.get? b=some u)(hp:h.objs.size<=a)(hn:H a=none):Un fs ex H (upd H a o) h h' where
 keep:=λb u q _ _ _=>k b u q
 slot:=λb u q _ _ _=>⟨u.slots,k b u q⟩
 free:=λb u q n _=>by rw [Ag (Bq (Bp (BW q) hp))];exact n
 there:=λb u q _=>⟨u,k b u q⟩
 tups:=λb c q=>by rw [Ag (Bj q hn)];exact q
 frzs:=λb u c q=>by rw [Ag (Bj q hn)];exact q
 tbls:=λb d q=>⟨#[],by rw [Ag (Bj q hn),q];simp⟩
def Un.write(mu:Mut (H x))(he:e=x\/H e=some (.own x))(k:∀b u,b≠e->h.get? b=some u->h'.get? b=some u)(heo:∃u,h'.get? e=some u):Un fs ex H (upd H x o) h h':=by
 have c:∀b,H b=none->b≠x:=λb n z=>by subst z;rw [n] at mu;exact mu
 have d:∀b,H b=none->b≠e:=λb n z=>by
  subst z;rcases he with r | r
  .exact c b n r
  .rw [n] at r;cases r
 have a:∀b u,H b=some u->¬Mut (some u)->b≠x:=λb u q f z=>by subst z;rw [q] at mu;exact f mu
 refine ⟨λb u q n _ _=>k b u (d b n) q,λb u q n _ _=>⟨u.slots,k b u (d b n) q⟩,λb u q n _=>by rw [Ag (c b n)];exact n,λb u q _=>?_,
  λb g q=>by rw [Ag (a b _ q λz=>z)];exact q,λb u g q=>by rw [Ag (a b _ q λz=>z)];exact q,λb i q=>⟨#[],by rw [Ag (a b _ q λz=>z),q];simp⟩⟩
 by_cases hbe:b=e
 .subst hbe;exact heo
 .exact ⟨u,k b u hbe q⟩
def Un.mono(u:Un fs ex H H1 h h1)(hs:∀b∈fs,b∈fs')(hx:∀b∈ex,b∈ex'):Un fs' ex' H H1 h h1 :=
 ⟨λb c q n d a=>u.keep b c q n (λz=>d (hs b z)) λz=>a (hx b z),λ_ _ q n _ a=>u.any q n λz=>a (hx _ z),λb c q n a=>u.free b c q n λz=>a (hx b z),λb c q a=>u.there b c q λz=>a (hx b z),u.tups,u.frzs,u.tbls⟩
end
def trk(h:Heap)(H:Hp):List Addr:=(List.range h.objs.size).filter λa=>(H a).isSome
def hidT(h:Heap)(H:Hp):Heap:=W.hideAll h (trk h H)
def Zlm(h)(H):(hidT h H).objs.size=h.objs.size:=W.hideAll_size _ _
def Zph(e:h.get? b=some o)(n:H b=none):(hidT h H).get? b=some o :=
 Io _ e λa=>by
  have q:=(List.mem_filter.mp a).2;rw [n] at q;simp at q
def ZqN(e:(hidT h H).get? b=some o):h.get? b=some o/\H b=none:=by
 have a:=Gj (trk h H) e;refine ⟨a,?_⟩;cases q:H b with
 | none=>rfl
 | some x=>
  have c:b∈trk h H:=List.mem_filter.mpr ⟨GJ.mpr (BW a),by simp [q]⟩;have z:(hidT h H).get? b=none:=NB (trk h H) c;rw [z] at e;cases e
structure Mod(K:W.Frag)(mg:Str->Option Value)(base:Heap):Prop where
 kin:K.In base
 glob:base.Ns mainGlobals mg
 blt:∃mb,base.Ns builtinsNs mb/\∀x:Str,x ≠ "__name__"->mb x=bootBuiltins x
 nolimit:base.NoLimit
structure Cx where
 prog:Program
 w:World
 K:W.Frag
 mg:Str->Option Value
 base:Heap
 A:Around
 N:List Str
 s₀:Shared
 H₀:Hp
 env:Env
 outer:List Env
 stack:List Env
 ex:List Addr
 fn:Str->Bool
 calm:Bool
 pn:List (Addr×Obj)
 xe:Value->Shared->Prop
def frs(l:List Env):List Addr:=l.filterMap (·.frame)
abbrev Cx.fs(X:Cx):List Addr:=frs X.outer
def Eg(sc:Scope)(x:Str):Prop:=sc.names.lookup x=some .local\/sc.names.lookup x=some .cell\/sc.names.lookup x=some .free
def Loc(sc:Scope)(x:Str):Prop:=sc.names.lookup x=some .local\/sc.names.lookup x=some .cell
def Look(env:Env)(h:Heap)(m:Str->Option Value)(x:Str)(u:Value):Prop :=
 (env.kindOf x=some .local/\m x=some u)\/((env.kindOf x=some .cell\/env.kindOf x=some .free)/\∃c,env.cells.lookup x=some c/\h.IsCell c (some u))
structure Cx.Ok(X:Cx):Prop where
 mod:Mod X.K X.mg X.base
 kind:X.env.scope.kind=.function
 glob:X.env.globals=mainGlobals
 blt:X.env.builtins=builtinsNs
 above:X.s₀.heap.objs.size<=X.env.locals
 inj:∀x y c,X.env.cells.lookup x=some c->X.env.cells.lookup y=some c->x=y
 has:∀x,(X.env.kindOf x=some .cell\/X.env.kindOf x=some .free)->∃c,X.env.cells.lookup x=some c
 cab:∀x c,X.fn x=true->X.env.cells.lookup x=some c->X.s₀.heap.objs.size<=c
 hd:X.calm=true->X.A.handled=none
 frames:X.A.frames=some X.stack
 stk:X.stack=X.outer\/(X.stack=X.env::X.outer/\X.env.frame=some X.env.locals)
 exf:∀b∈X.ex,b≠X.env.locals/\∀x c,X.env.cells.lookup x=some c->c≠b
 bs:∀b o,X.base.get? b=some o->X.s₀.heap.get? b=some o/\X.H₀ b=none
 bsz:X.base.objs.size<=X.s₀.heap.objs.size
 noex:∀b o,X.base.get? b=some o->b∉X.ex
 exfs:∀b∈X.ex,b∉X.fs
 funs:X.s₀.heap.FunFrames X.base X.outer
 frf:∀b∈X.fs,X.H₀ b=none
structure Inv(X:Cx)(pins:List (Addr×Obj))(Y:List (Option V))(H:Hp)(s:Shared):Prop where
 ok:X.Ok
 os:s.os=X.s₀.os
 bare:AllBare s.gens
 base:Un X.fs X.ex X.H₀ H X.s₀.heap s.heap
 loc:∃m,s.heap.Ns X.env.locals m/\∀(i:Nat) (x:Str) (v:V),X.N[i]?=some x->Y[i]?=some (some v)->Eg X.env.scope x->∃u,RelV v u/\Look X.env s.heap m x u
 cell:∀x c,X.env.cells.lookup x=some c->∃v,s.heap.IsCell c v
 free:H X.env.locals=none
 freeC:∀x c,X.env.cells.lookup x=some c->H c=none
 pin:∀p∈X.pn++pins,s.heap.get? p.1=some p.2/\H p.1=none/\p.1≠X.env.locals/\p.1∉X.fs/\∀v,p.2.data≠.cell v
 hok:HOk X.prog X.w H s.heap
 len:Y.length=X.N.length
section
variable{X:Cx}{pins:List (Addr×Obj)}{Y:List (Option V)}{H H':Hp}{s:Shared}{h':Heap}
def Cx.Ok.nofr(ok:X.Ok)(e:X.base.get? b=some o):b∉X.fs:=λa=>by
 have:=(ok.funs.mem a).1;rw [e] at this;cases this
def Inv.bs(I:Inv X pins Y H s):∀b o,X.base.get? b=some o->s.heap.get? b=some o/\H b=none:=λb o e=>
 ⟨I.base.keep b o (I.ok.bs b o e).1 (I.ok.bs b o e).2 (I.ok.nofr e) (I.ok.noex b o e),I.base.free b o (I.ok.bs b o e).1 (I.ok.bs b o e).2 (I.ok.noex b o e)⟩
def Inv.bk(I:Inv X pins Y H s):∀b o,X.base.get? b=some o->s.heap.get? b=some o:=λb o e=>(I.bs b o e).1
def Inv.mod(I:Inv X pins Y H s):Mod X.K X.mg X.base:=I.ok.mod
def Inv.kIn(I:Inv X pins Y H s):X.K.In s.heap:=I.ok.mod.kin.keeps I.bk
def Inv.lt(I:Inv X pins Y H s):X.env.locals<s.heap.objs.size:=let ⟨_,hn,_⟩:=I.loc;hn.lt
def Inv.sz(I:Inv X pins Y H s):X.s₀.heap.objs.size<=s.heap.objs.size:=Ar I.ok.above (Nat.le_of_lt I.lt)
def Inv.nofs(I:Inv X pins Y H s)(h:s.heap.objs.size<=a):a∉X.fs:=λb=>by
 obtain ⟨_,o,c,_⟩:=I.ok.funs.mem b;exact aB (Bp (BW c) (Ar I.sz h)) (GK _)
def Inv.cne(I:Inv X pins Y H s):∀x c,X.env.cells.lookup x=some c->c≠X.env.locals:=λx c e z=>by
 obtain ⟨v,o,d,f⟩:=I.cell x c e;obtain ⟨m,⟨i,g,h,a,b,_⟩,_⟩:=I.loc;rw [z,a] at d;cases d;rw [b] at f;cases f
def Inv.funs(I:Inv X pins Y H s):s.heap.FunFrames X.base X.outer:=by
 have d:∀l,(∀b∈frs l,b∈X.fs)->X.s₀.heap.FunFrames X.base l->s.heap.FunFrames X.base l:=by
  intro l
  induction l with
  | nil=>intro _ _;trivial
  | cons env r ih=>
   intro g k;obtain ⟨h,⟨L,o,f,m,i,n⟩,j⟩:=k;have a:=g L (by unfold frs;rw [List.filterMap_cons,f];exact List.mem_cons_self);obtain ⟨p,e⟩:=I.base.slot L o i (I.ok.frf L a) a λz=>I.ok.exfs L z a;exact ⟨h,⟨L,_,f,m,e,n⟩,ih (λb c=>g b (by unfold frs;rw [List.filterMap_cons,f];exact List.mem_cons_of_mem _ c)) j⟩
 exact d X.outer (λ_ c=>c) I.ok.funs
def Inv.stack(I:Inv X pins Y H s):s.heap.FunFrames X.base X.stack:=by
 rcases I.ok.stk with e | ⟨e,hf⟩
 .rw [e];exact I.funs
 .rw [e];obtain ⟨m,a,_⟩:=I.loc;refine .cons (by rw [I.ok.kind];decide) hf a ?_ I.funs;exact Fg (Ar I.ok.bsz I.ok.above)
def Inv.stkSub(I:Inv X pins Y H s):∀b∈frs X.stack,b∈X.env.locals::X.fs:=λb a=>by
 rcases I.ok.stk with e | ⟨e,hf⟩
 .rw [e] at a;exact Av _ a
 .rw [e] at a;unfold frs at a;rw [Mj,hf] at a;exact a
def Inv.stkFree(I:Inv X pins Y H s):∀b∈frs X.stack,H b=none:=λb hb=>by
 rcases An.mp (I.stkSub b hb) with e | hb
 .rw [e];exact I.free
 .obtain ⟨_,o,a,_⟩:=I.ok.funs.mem hb;exact I.base.free b o a (I.ok.frf b hb) λz=>I.ok.exfs b z hb
def Inv.step{g':Array GenState}{t':Nat}{d':Drawn}{ch:List Addr}(I:Inv X pins Y H s)(hch:∀b∈ch,(b∈X.ex\/X.s₀.heap.objs.size<=b)/\b≠X.env.locals/\(∀x c,X.env.cells.lookup x=some c->c≠b)/\∀p∈X.pn++pins,p.1≠b)(keep:∀b o,b≠X.env.locals->b∉X.fs->b∉ch->s.heap.get? b=some o->H b=none->h'.get? b=some o)(slot:∀b o,b≠X.env.locals->b∈X.fs->b∉ch->s.heap.get? b=some o->H b=none->∃sl,h'.get? b=some { o with slots:=sl })(free:∀b o,b∉ch->s.heap.get? b=some o->H b=none->H' b=none)(there:∀b o,b∉ch->s.heap.get? b=some o->∃o',h'.get? b=some o')(tups:∀b xs,H b=some (.tup xs)->H' b=some (.tup xs))(frzs:∀b o u,H b=some (.frz o u)->H' b=some (.frz o u))(tbls:∀b ps,H b=some (.tbl ps)->∃more,H' b=some (.tbl (ps++more)))(ns:∀m,s.heap.Ns X.env.locals m->h'.Ns X.env.locals m)(hok:HOk X.prog X.w H' h')(hg:AllBare g') :
  Inv X pins Y H' { s with heap:=h',gens:=g',drawn:=d',toks:=t' }:=by
 have A:∀b o,X.s₀.heap.get? b=some o->b≠X.env.locals:=λb o e=>Bq (Bp (BW e) I.ok.above);have h:∀b o,X.s₀.heap.get? b=some o->b∉X.ex->b∉ch:=λb o e a t=>by
  rcases (hch b t).1 with z | z
  .exact a z
  .exact aB (Bp (BW e) z) (GK _)
 have f:∀x c,X.env.cells.lookup x=some c->∀v,s.heap.IsCell c v->h'.IsCell c v:=λx c e v ⟨o,y,D⟩=>by
  have g:=λz=>(hch c z).2.2.1 x c e rfl;by_cases hc:c∈X.fs
  .obtain ⟨sl,q⟩:=slot c o (I.cne x c e) hc g y (I.freeC x c e);exact ⟨_,q,D⟩
  .exact ⟨o,keep c o (I.cne x c e) hc g y (I.freeC x c e),D⟩
 refine ⟨I.ok,I.os,hg,⟨λb o e n t a=>?_,λb o e n t a=>?_,λb o e n a=>?_,λb o e a=>?_,λb xs e=>tups b xs (I.base.tups b xs e),λb o xs e=>frzs b o xs (I.base.frzs b o xs e),λb ps e=>?_⟩,?_,λx c e=>?_,?_,λx c e=>?_,λp E=>?_,hok,I.len⟩
 .exact keep b o (A b o e) t (h b o e a) (I.base.keep b o e n t a) (I.base.free b o e n a)
 .obtain ⟨sl,j⟩:=I.base.slot b o e n t a;obtain ⟨C,B⟩:=slot b _ (A b o e) t (h b o e a) j (I.base.free b o e n a);exact ⟨C,B⟩
 .obtain ⟨o',j⟩:=I.base.there b o e a;exact free b o' (h b o e a) j (I.base.free b o e n a)
 .obtain ⟨o',j⟩:=I.base.there b o e a;exact there b o' (h b o e a) j
 .obtain ⟨M,j⟩:=I.base.tbls b ps e;obtain ⟨K,B⟩:=tbls b _ j;exact ⟨M++K,by rw [B,Array.append_assoc]⟩
 .obtain ⟨m,L,N⟩:=I.loc;refine ⟨m,ns m L,λi x v j B J=>?_⟩;obtain ⟨u,r,l⟩:=N i x v j B J;refine ⟨u,r,?_⟩;rcases l with l | ⟨k,c,e,z⟩
  .exact .inl l
  .exact .inr ⟨k,c,e,f x c e _ z⟩
 .obtain ⟨v,z⟩:=I.cell x c e;exact ⟨v,f x c e v z⟩
 .obtain ⟨m,⟨o,_,_,y,_⟩,_⟩:=I.loc;exact free _ o (λz=>(hch _ z).2.1 rfl) y I.free
 .obtain ⟨v,o,y,D⟩:=I.cell x c e;exact free c o (λz=>(hch c z).2.2.1 x c e rfl) y (I.freeC x c e)
 .obtain ⟨e,n,F,G,d⟩:=I.pin p E;have g:=λz=>(hch p.1 z).2.2.2 p E rfl;exact ⟨keep p.1 p.2 F G g e n,free p.1 p.2 g e n,F,G,d⟩
def Inv.un{t':Nat}(I:Inv X pins Y H s)(u:Un X.fs [] H H' s.heap h')(hok:HOk X.prog X.w H' h'):Inv X pins Y H' { s with heap:=h',toks:=t' }:=by
 obtain ⟨m,⟨o,l,q,g,r⟩,_⟩:=id I.loc;obtain ⟨p,h⟩:=u.any g I.free (by simp)
 exact I.step (ch:=[]) (λ_ z=>nomatch z) (λb o _ d _ e n=>u.keep b o e n d (by simp)) (λb o _ d _ e n=>u.slot b o e n d (by simp)) (λb o _ e n=>u.free b o e n (by simp)) (λb o _ e=>u.there b o e (by simp)) u.tups u.frzs u.tbls (λk i=>by
  obtain ⟨t,f,c,a,j⟩:=i;rw [g] at a;cases a
  exact ⟨_,f,c,h,j⟩) hok I.bare
def Inv.call{g':Array GenState}{t':Nat}{d':Drawn}{ch:List Addr}(I:Inv X pins Y H s)(u:Un (frs X.stack) ch H H' s.heap h')(hok:HOk X.prog X.w H' h')(hg:AllBare g')(hch:∀b∈ch,(b∈X.ex\/X.s₀.heap.objs.size<=b)/\b≠X.env.locals/\(∀x c,X.env.cells.lookup x=some c->c≠b)/\∀p∈X.pn++pins,p.1≠b) :
  Inv X pins Y H' { s with heap:=h',gens:=g',drawn:=d',toks:=t' }:=by
 obtain ⟨m,⟨o,t,y,i,r⟩,_⟩:=id I.loc;obtain ⟨v,f⟩:=u.any i I.free λz=>(hch _ z).2.1 rfl
 exact I.step hch (λb o f k a e n=>u.keep b o e n (λz=>(An.mp (I.stkSub b z)).elim f k) a) (λb o _ _ a e n=>u.any e n a) (λb o a e n=>u.free b o e n a) (λb o a e=>u.there b o e a) u.tups u.frzs u.tbls (λq j=>by
  obtain ⟨A,h,g,d,l⟩:=j;rw [i] at d;cases d
  exact ⟨_,h,g,f,l⟩) hok hg
def Inv.turned{t':Nat}{it:Addr}(I:Inv X pins Y H s)(k:∀b o,b≠it->s.heap.get? b=some o->h'.get? b=some o)(hn:H it=none)(hL:it≠X.env.locals)(h1:it∈X.ex\/X.s₀.heap.objs.size<=it)(h2:∀x c,X.env.cells.lookup x=some c->c≠it)(h3:∀p∈X.pn++pins,p.1≠it):Inv X pins Y H { s with heap:=h',toks:=t' }:=by
 have d:∀b u,H b=some u->b≠it:=λb u e z=>by rw [z,hn] at e;cases e
 refine I.step (ch:=[it]) (λb h=>?_) (λb o _ _ a e _=>k b o (λz=>a (by simp [z])) e) (λb o _ _ a e _=>⟨o.slots,k b o (λz=>a (by simp [z])) e⟩) (λ_ _ _ _ n=>n)
  (λb o a e=>⟨o,k b o (λz=>a (by simp [z])) e⟩) (λ_ _ e=>e) (λ_ _ _ e=>e) (λb l e=>⟨#[],by rw [e];simp⟩) (λm g=>?_) (λb u e=>?_) I.bare
 .have e:b=it:=by simpa using h
  subst e;exact ⟨h1,hL,h2,h3⟩
 .obtain ⟨o,i,j,f,r⟩:=g;exact ⟨o,i,j,k _ o (Ne.symm hL) f,r⟩
 .refine (I.hok b u e).stay (λc v a q=>k c v ?_ q) (λ_ q=>q) λ_ _ q=>q;rcases a with z | z
  .rw [z];exact d b u e
  .exact d c _ z
def Inv.tok(I:Inv X pins Y H s)(t):Inv X pins Y H { s with toks:=t }:=I.un (h':=s.heap) (t':=t) Un.refl I.hok
def Inv.kept(I:Inv X pins Y H s)(k:∀b u,s.heap.get? b=some u->h'.get? b=some u):Inv X pins Y H { s with heap:=h',toks:=t' }:=I.un (Un.kept k) (I.hok.kept k)
def Inv.laid(I:Inv X pins Y H s)(k:∀b u,s.heap.get? b=some u->h'.get? b=some u)(hp:s.heap.objs.size<=a)(new:Dj X.prog X.w (upd H a o) h' a o) :
  Inv X pins Y (upd H a o) { s with heap:=h',toks:=t' }:=I.un (Un.laid k hp (I.hok.fresh hp)) (I.hok.laid k hp new)
def Inv.write(I:Inv X pins Y H s)(mu:Mut (H x))(he:e=x\/H e=some (.own x))(k:∀b u,b≠e->s.heap.get? b=some u->h'.get? b=some u)(heo:∃u,h'.get? e=some u)(new:Dj X.prog X.w (upd H x o) h' x o):Inv X pins Y (upd H x o) { s with heap:=h',toks:=t' }:=I.un (Un.write mu he k heo) (I.hok.write mu he k heo new)
def Inv.weak{Y':List (Option V)}(I:Inv X pins Y H s)(hl:Y'.length=Y.length)(w:∀(i:Nat) v,Y'[i]?=some (some v)->Y[i]?=some (some v)):Inv X pins Y' H s :=
 ⟨I.ok,I.os,I.bare,I.base,let ⟨m,hn,hl'⟩:=I.loc;⟨m,hn,λi x v b c a=>hl' i x v b (w i v c) a⟩,I.cell,I.free,I.freeC,I.pin,I.hok,hl.trans I.len⟩
def Inv.pins_of(I:Inv X pins Y H s)(h:∀p∈pins',s.heap.get? p.1=some p.2/\H p.1=none/\p.1≠X.env.locals/\p.1∉X.fs/\∀v,p.2.data≠.cell v):Inv X pins' Y H s :=
 ⟨I.ok,I.os,I.bare,I.base,I.loc,I.cell,I.free,I.freeC,λp a=>(Dv.mp a).elim (λz=>I.pin p (HD _ z)) (h p),I.hok,I.len⟩
def SX{N:List Str}(hN:N.Nodup){i j:Nat}{x:Str}(a:N[i]?=some x)(b:N[j]?=some x):i=j:=by
 obtain ⟨f,c⟩:=Dd.mp a;obtain ⟨e,d⟩:=Dd.mp b;exact (List.getElem_inj hN).mp (c.trans d.symm)
def Zmn(I:Inv X pins Y H s)(hN:X.N.Nodup)(hi:X.N[i]?=some x)(hx:Loc X.env.scope x)(r:RelV v u)(h:∀s',Inv X pins (Y.set i (some v)) H s'->(∃a,Heap.SameBut a s.heap s'.heap/\(a=X.env.locals\/X.env.cells.lookup x=some a))->Q () s')(hf:X.fn x=true\/X.env.scope.names.lookup x=some .local:=by first | exact .inl rfl | exact .inr rfl | assumption):wpAny M A (storeName X.env x u) Q E s:=by
 obtain ⟨m,W,hl⟩:=id I.loc;have K:(X.env.scope.kind==.class||(X.env.scope.kind==.module&&X.env.locals != X.env.globals))=false:=by rw [I.ok.kind];rfl
 have C:i<Y.length:=by rw [I.len];exact (Dd.mp hi).1
 have G:=I.cne;have g:∀{a:Addr} {J:Heap},(∃o,s.heap.get? a=some o/\H a=none)->Heap.SameBut a s.heap J->HOk X.prog X.w H J:=λ{a J} ha f b ob e=>by
  obtain ⟨_,_,t⟩:=ha;refine (I.hok b ob e).stay (λc T hc q=>(f.2 c ?_).trans q) (λ_ q=>q) λ_ _ q=>q;rintro rfl;rcases hc with rfl | hc
  .rw [t] at e;cases e
  .rw [t] at hc;cases hc
 rcases hx with hk | hk
 .refine wpAny_storeName_local hk W (λJ hn' f=>?_) K;obtain ⟨oL,_,_,hoL,_⟩:=id W;refine h _ ⟨I.ok,I.os,I.bare,⟨λb o e n F hx=>?_,λb o e n F hx=>?_,I.base.free,λb o e hx=>?_,I.base.tups,I.base.frzs,I.base.tbls⟩,⟨_,hn',λj y v' l B V=>?_⟩,λy c e=>?_,I.free,I.freeC,λp U=>?_,g ⟨oL,hoL,I.free⟩ f,by simpa using I.len⟩ ⟨_,f,.inl rfl⟩
  .exact (f.2 b (Bq (Bp (BW e) I.ok.above))).trans (I.base.keep b o e n F hx)
  .obtain ⟨sl,l⟩:=I.base.slot b o e n F hx;exact ⟨sl,(f.2 b (Bq (Bp (BW e) I.ok.above))).trans l⟩
  .obtain ⟨o',l⟩:=I.base.there b o e hx;exact ⟨o',(f.2 b (Bq (Bp (BW e) I.ok.above))).trans l⟩
  .by_cases hj:j=i
   .subst hj;rw [hi] at l;cases l;rw [List.getElem?_set_self C] at B;cases B;exact ⟨u,r,.inl ⟨hk,by simp⟩⟩
   .rw [List.getElem?_set_ne (Ne.symm hj)] at B;obtain ⟨u',Z,q⟩:=hl j y v' l B V;refine ⟨u',Z,?_⟩;rcases q with ⟨k,e⟩ | ⟨k,c,e,z⟩
    .refine .inl ⟨k,?_⟩;have:y≠x:=λe=>hj (SX hN l (e▸hi));simp [this,e]
    .exact .inr ⟨k,c,e,z.sameBut f (G y c e)⟩
  .obtain ⟨T,z⟩:=I.cell y c e;exact ⟨T,z.sameBut f (G y c e)⟩
  .obtain ⟨e,n,R,nf,d⟩:=I.pin p U;exact ⟨(f.2 p.1 R).trans e,n,R,nf,d⟩
 .have D:X.fn x=true:=by
   rcases hf with z | z
   .exact z
   .rw [z] at hk;cases hk
  obtain ⟨c,hc⟩:=I.ok.has x (.inl hk);obtain ⟨T,z⟩:=I.cell x c hc;refine wpAny_storeName_cell I.ok.kind hk hc z (λJ P f=>?_);obtain ⟨oc,L,O⟩:=id z;refine h { s with heap:=J } ⟨I.ok,I.os,I.bare,⟨λb o e n F hx=>?_,λb o e n F hx=>?_,I.base.free,λb o e hx=>?_,I.base.tups,I.base.frzs,I.base.tbls⟩,⟨m,W.sameBut f (Ne.symm (G x c hc)),λj y v' l B V=>?_⟩,λy S e=>?_,I.free,I.freeC,λp U=>?_,g ⟨oc,L,I.freeC x c hc⟩ f,by simpa using I.len⟩ ⟨c,f,.inr hc⟩
  .exact (f.2 b (Bq (Bp (BW e) (I.ok.cab x c D hc)))).trans (I.base.keep b o e n F hx)
  .obtain ⟨sl,l⟩:=I.base.slot b o e n F hx;exact ⟨sl,(f.2 b (Bq (Bp (BW e) (I.ok.cab x c D hc)))).trans l⟩
  .obtain ⟨o',l⟩:=I.base.there b o e hx;exact ⟨o',(f.2 b (Bq (Bp (BW e) (I.ok.cab x c D hc)))).trans l⟩
  .by_cases hj:j=i
   .subst hj;rw [hi] at l;cases l;rw [List.getElem?_set_self C] at B;cases B;exact ⟨u,r,.inr ⟨.inl hk,c,hc,P⟩⟩
   .rw [List.getElem?_set_ne (Ne.symm hj)] at B;obtain ⟨u',Z,q⟩:=hl j y v' l B V;refine ⟨u',Z,?_⟩;rcases q with q | ⟨k,S,e,z'⟩
    .exact .inl q
    .refine .inr ⟨k,S,e,z'.sameBut f ?_⟩;rintro rfl;exact hj (SX hN l (I.ok.inj _ _ _ e hc▸hi))
  .by_cases hcc:S=c
   .subst hcc;exact ⟨_,P⟩
   .obtain ⟨w2,z2⟩:=I.cell y S e;exact ⟨w2,z2.sameBut f hcc⟩
  .obtain ⟨e,n,R,nf,d⟩:=I.pin p U;refine ⟨(f.2 p.1 ?_).trans e,n,R,nf,d⟩;intro q;rw [q,L] at e;have q':=Be e;exact d T (by rw [<-q'];exact O)
def JP(I:Inv X pins Y H s)(hN:X.N.Nodup)(hi:X.N[i]?=some x)(hx:Loc X.env.scope x)(r:RelV v u)(h:∀s',Inv X pins (Y.set i (some v)) H s'->Q () s')(hf:X.fn x=true\/X.env.scope.names.lookup x=some .local:=by first | exact .inl rfl | exact .inr rfl | assumption):wpAny M A (storeName X.env x u) Q E s :=
 Zmn I hN hi hx r (λs' a _=>h s' a) hf
def Inv.call'(I:Inv X pins Y H s)(ho:s'.os=s.os)(u:Un (frs X.stack) ch H H' s.heap s'.heap)(hok:HOk X.prog X.w H' s'.heap)(hg:AllBare s'.gens)(hch:∀b∈ch,(b∈X.ex\/X.s₀.heap.objs.size<=b)/\b≠X.env.locals/\(∀x c,X.env.cells.lookup x=some c->c≠b)/\∀p∈X.pn++pins,p.1≠b):Inv X pins Y H' s':=by
 obtain ⟨h,f,d,a,g⟩:=s';have e:=ho;subst e;exact I.call u hok hg hch
end
abbrev XK:=Value->Option Addr->Hp->Prop
abbrev St:=List (Option V)
abbrev VK:=V->Hp->Prop
abbrev TE:=St->Hp->VK->Prop
abbrev TT:=St->Hp->(Bool->Hp->Prop)->Prop
abbrev TA:=St->Hp->(List V->Hp->Prop)->Prop
structure Ends where
 nx:St->Hp->Prop
 rt:VK
 bk:St->Hp->Prop:=λ_ _=>False
 ct:St->Hp->Prop:=λ_ _=>False
abbrev TS:=Ends->St->Hp->Prop
def EP(X:Cx)(pins:List (Addr×Obj))(Y:St)(Q:VK)(u:Value)(s':Shared):Prop:=∃v a,Inv X pins Y a s'/\RelV v u/\Q v a
def TP(X:Cx)(pins:List (Addr×Obj))(Y:St)(Q:Bool->Hp->Prop)(b:Bool)(s':Shared):Prop:=∃a,Inv X pins Y a s'/\Q b a
def AP(X:Cx)(pins:List (Addr×Obj))(Y:St)(Q:List V->Hp->Prop)(us:List Value)(s':Shared):Prop:=∃a b,Inv X pins Y b s'/\Vals a us/\Q a b
def SP(X:Cx)(pins:List (Addr×Obj))(D:Ends)(f:Flow)(s':Shared):Prop :=
 match f with
 | .next=>∃b a,Inv X pins b a s'/\D.nx b a
 | .brk=>∃b a,Inv X pins b a s'/\D.bk b a
 | .cont=>∃b a,Inv X pins b a s'/\D.ct b a
 | .ret u=>∃v b a,Inv X pins b a s'/\RelV v u/\D.rt v a
abbrev wX{α}(X:Cx):=@wpAny α (model X.prog X.w) X.A
def PE(X:Cx)(e:Expr)(t:TE):Prop :=
 ∀a s Y H Q,Inv X a Y H s->t Y H Q->wX X (eval e X.env) (EP X a Y Q) X.xe s
def PT(X:Cx)(e:Expr)(t:TT):Prop :=
 ∀a s Y H Q,Inv X a Y H s->t Y H Q->wX X (isTrue e X.env (eval e X.env)) (TP X a Y Q) X.xe s
def PW(X:Cx)(e:Expr)(t:TT):Prop :=
 ∀b a s Y H Q,Inv X a Y H s->t Y H Q->wX X (isTrue e X.env b) (TP X a Y Q) X.xe s
def PW.pt(h:PW X e t):PT X e t:=h _
def PA(X:Cx)(es:List Expr)(t:TA):Prop :=
 ∀b a s Y H Q,Inv X a Y H s->t Y H Q->wX X (spliced (backTo b (starEach es X.env))) (AP X a Y Q) X.xe s
def PS(X:Cx)(st:Stmt)(t:TS):Prop :=
 ∀a s Y H D,Inv X a Y H s->t D Y H->wX X (exec st X.env) (SP X a D) X.xe s
def PSs(X:Cx)(st:List Stmt)(t:TS):Prop :=
 ∀a s Y H D,Inv X a Y H s->t D Y H->wX X (execs st X.env) (SP X a D) X.xe s
def thn(h:wpAny M A t Q E s)(hQ:∀a s,Q a s->Q' a s):wpAny M A t Q' E s:=BV h hQ λ_ _ x=>x
section
variable{X:Cx}
def tVar(i:Nat):TE:=λY H Q=>∃v,Y[i]?=some (some v)/\Q v H
def tC(v:V):TE:=λ_ H Q=>Q v H
def GF(hN:X.N[i]?=some x)(hv:Eg X.env.scope x)(hd:ND x:=by decide)(hcd:NE x:=by decide):PE X (.Name x pos) (tVar i):=by
 intro b s Y H Q I h;obtain ⟨v,e,h⟩:=h;obtain ⟨m,f,d⟩:=I.loc;obtain ⟨u,r,l⟩:=d i x v hN e hv;have a:EP X b Y Q u s:=⟨v,H,I,r,h⟩;rcases l with ⟨hk,hm⟩ | ⟨hk,c,hc,hcell⟩
 .exact wpAny_Name (wpAny_loadName_local I.ok.kind hk f hm a) hd
 .rcases hk with hk | hk
  .exact wpAny_Name (wpAny_loadName_cell I.ok.kind hk hc hcell a) hd
  .exact wpAny_Name (wpAny_loadName_free I.ok.kind hk hc hcell a hcd) hd
def Y5{i j pos}:PE X (.Constant (.int i) j pos) (tC (.int i)):=λ_ _ _ H _ I h=>wpAny_Constant_int ⟨.int i,H,I.tok _,⟨_,rfl⟩,h⟩
def ZwI{b j pos}:PE X (.Constant (.bool b) j pos) (tC (.bl b)):=λ_ _ _ H _ I h=>Constant_bool ⟨.bl b,H,I,rfl,h⟩
def QV{j pos}:PE X (.Constant .none j pos) (tC .non):=λ_ _ _ H _ I h=>Constant_none ⟨.non,H,I,rfl,h⟩
def QQ{x j pos}:PE X (.Constant (.str x) j pos) (tC (.str x)):=λ_ _ _ H _ I h=>Calls.Constant_str ⟨.str x,H,I.tok _,⟨_,rfl⟩,h⟩
def Gl(X:Cx)(x:Str):Prop:=X.env.kindOf x=some .globalImplicit
def Hz(I:Inv X pins Y H s)(hg:Gl X x)(hm:X.mg x=some u)(h:Q u s)(hd:ND x:=by decide):wX X (eval (.Name x pos) X.env) Q E s :=
 Calls.Name_function_global I.ok.kind hg (Calls.loadGlobal_global (by rw [I.ok.glob];exact I.mod.glob.keeps I.bk) hm h) hd
def KR(I:Inv X pins Y H s)(hg:Gl X x)(hm:X.mg x=none)(hv:bootBuiltins x=some u)(h:Q u s)(hn:x ≠ "__name__":=by decide)(hd:ND x:=by decide):wX X (eval (.Name x pos) X.env) Q E s:=by
 obtain ⟨c,b,a⟩:=I.mod.blt;exact Calls.Name_function_global I.ok.kind hg (Calls.loadGlobal_builtin (by rw [I.ok.glob];exact I.mod.glob.keeps I.bk) hm (by rw [I.ok.blt];exact b.keeps I.bk) ((a x hn).trans hv) h) hd
def Kp(hg:Gl X x)(hm:X.mg x=some u)(r:RelV v u)(hd:ND x:=by decide):PE X (.Name x pos) (tC v) :=
 λ_ _ _ H _ I h=>Hz I hg hm ⟨v,H,I,r,h⟩ hd
def Zrh(hg:Gl X x)(hm:X.mg x=none)(hv:bootBuiltins x=some u)(r:RelV v u)(hn:x ≠ "__name__":=by decide)(hd:ND x:=by decide):PE X (.Name x pos) (tC v) :=
 λ_ _ _ H _ I h=>KR I hg hm hv ⟨v,H,I,r,h⟩ hn hd
variable{a b:Expr}{ta tb:TE}{pos:Pos}
def tB(t:TE):TT:=λY H Q=>t Y H λx a=>∃c,x=.bl c/\Q c a
def Ztc(h:PE X e t)(he:∀whole,isTrue e X.env whole=(do let v <-whole;standAt e.pos;holding [v] (truthy v)):=by intro _;rfl):PT X e (tB t):=by
 intro a s Y H Q I b;refine isTrue_plain (thn (h a s Y H _ I b) λv j zq=>?_) (he _);obtain ⟨x,g,f,i,c⟩:=zq;obtain ⟨d,rfl,q⟩:=c;cases i;exact Fy ⟨g,f,q⟩
variable{tA tB':TT}{rest:List Expr}
def tAnd(t u:TT):TT:=λY H Q=>t Y H λc a=>if c=true then u Y a Q else Q false a
def tOr(t u:TT):TT:=λY H Q=>t Y H λc a=>if c=true then Q true a else u Y a Q
def tNot(t:TT):TT:=λY H Q=>t Y H λc a=>Q (!c) a
def Zsb(ha:PT X a tA):PW X (.BoolOp .And [a] pos) tA:=by
 intro d b s Y H Q I h;refine isTrue_and (thn (ha b s Y H Q I h) λc f e=>?_);cases c with
 | true=>exact isTrue_and_nil e
 | false=>exact e
def Zuu(ha:PT X a tA):PW X (.BoolOp .Or [a] pos) tA:=by
 intro d b s Y H Q I h;refine isTrue_or (thn (ha b s Y H Q I h) λc f e=>?_);cases c with
 | false=>exact isTrue_or_nil e
 | true=>exact e
def Ztf(ha:PT X a tA)(hb:PW X (.BoolOp .And (b::rest) pos) tB'):PW X (.BoolOp .And (a::b::rest) pos) (tAnd tA tB'):=by
 intro i d s Y H Q I h;refine isTrue_and (thn (ha d s Y H _ I h) λc j zq=>?_);obtain ⟨g,f,e⟩:=zq;cases c with
 | true=>exact hb i d j Y g Q f e
 | false=>exact ⟨g,f,e⟩
def Zwb(ha:PT X a tA)(hb:PW X (.BoolOp .Or (b::rest) pos) tB'):PW X (.BoolOp .Or (a::b::rest) pos) (tOr tA tB'):=by
 intro i d s Y H Q I h;refine isTrue_or (thn (ha d s Y H _ I h) λc j zq=>?_);obtain ⟨g,f,e⟩:=zq;cases c with
 | true=>exact ⟨g,f,e⟩
 | false=>exact hb i d j Y g Q f e
def Zve(ha:PT X a tA):PT X (.UnaryOp .Not a pos) (tNot tA):=by
 intro b s Y H Q I h;exact isTrue_not (ha b s Y H (λc d=>Q (!c) d) I h)
def Ry(ta tb:TE):TE:=λY H Q=>ta Y H λx a=>∃c,x=.bl c/\if c=true then tb Y a Q else Q (.bl false) a
def R4(ta:TE):TE:=λY H Q=>ta Y H λx a=>∃c,x=.bl c/\Q (.bl (!c)) a
def ZtO{op}(h:PE X a t):PE X (.BoolOp op [a] pos) t:=λb s Y H Q I c=>BoolOp_one (h b s Y H Q I c)
def Zs2(ha:PE X a ta)(hb:PE X (.BoolOp .And (b::rest) pos) tb):PE X (.BoolOp .And (a::b::rest) pos) (Ry ta tb):=by
 intro d s Y H Q I h;refine BoolOp_and (thn (ha d s Y H _ I h) λv i zq=>?_);obtain ⟨x,g,f,j,e⟩:=zq;obtain ⟨c,rfl,e⟩:=e;cases j;refine Fy ?_;cases c with
 | true=>exact hb d i Y g Q f e
 | false=>exact ⟨.bl false,g,f,rfl,e⟩
def ZuU(ha:PE X a ta):PE X (.UnaryOp .Not a pos) (R4 ta):=by
 intro b s Y H Q I h;refine UnaryOp_ (thn (ha b s Y H _ I h) λv i zq=>?_);obtain ⟨x,f,e,g,d⟩:=zq;obtain ⟨c,rfl,d⟩:=d;cases g;exact not_of (Fy ⟨.bl (!c),f,e,rfl,d⟩)
def tIf(t:TT)(ta tb:TE):TE:=λY H Q=>t Y H λc a=>if c=true then ta Y a Q else tb Y a Q
def ZoM(hc:PT X c tA)(ha:PE X a ta)(hb:PE X b tb):PE X (.IfExp c a b pos) (tIf tA ta tb):=by
 intro e s Y H Q I h;refine wpAny_IfExp (thn (hc e s Y H _ I h) λd f zq=>?_);obtain ⟨j,i,g⟩:=zq;cases d with
 | true=>exact ha e f Y j Q i g
 | false=>exact hb e f Y j Q i g
end
def SqL(K:W.Frag)(H:Hp)(a:Addr)(xs:List V):Prop :=
 Rd H a (.lst xs) \/
  ∃o b n,K.lookup a=some o/\o.cls=.type "list"/\o.dict=none/\o.data=.seq b n/\b.size<=sizeLine/\Vals xs b.toList
def SqT(K:W.Frag)(H:Hp)(a:Addr)(xs:List V):Prop :=
 Rd H a (.tup xs) \/
  ∃o b n,K.lookup a=some o/\o.cls=.type "tuple"/\o.data=.seq b n/\b.size<=sizeLine/\Vals xs b.toList
def absV:Value->Option V
 | .none=>some .non
 | .bool b=>some (.bl b)
 | .int i _=>some (.int i)
 | .str x _=>some (.str x)
 | .ref a=>some (.ref a)
 | .type n=>some (.ty n)
 | _=>none
def RelV.abs(r:RelV x u):absV u=some x:=by
 cases x with
 | non=>cases r;rfl
 | bl _=>cases r;rfl
 | int _=>obtain ⟨t,rfl⟩:=r;rfl
 | str _=>obtain ⟨t,rfl⟩:=r;rfl
 | ref _=>cases r;rfl
 | ty _=>cases r;rfl
def RelV.inj(r:RelV x u)(q:RelV y u):x=y:=Be (r.abs.symm.trans q.abs)
def Vals.inj:∀{xs ys:List V} {us:List Value},Vals xs us->Vals ys us->xs=ys
 | _,_,_,.nil,.nil=>rfl
 | _,_,_,.cons r t,.cons r' t'=>by rw [r.inj r',Vals.inj t t']
section
variable{X:Cx}{pins:List (Addr×Obj)}{Y:St}{H:Hp}{s:Shared}{a:Addr}{xs ys:List V}
def SqL.of{K:W.Frag}(h:H a=some (.lst xs)):SqL K H a xs:=.inl (.inl h)
def SqT.of{K:W.Frag}(h:H a=some (.tup xs)):SqT K H a xs:=.inl (.inl h)
def Inv.list(I:Inv X pins Y H s)(h:SqL X.K H a xs):∃its,Vals xs its/\PlainL s.heap a its.toArray/\xs.length<=sizeLine:=by
 rcases h with h | ⟨o,its,n,hk,hc,hd,hs,hz,r⟩
 .obtain ⟨z,its,n,r,e⟩:=h.ok I.hok;exact ⟨its,r,⟨_,n,e,rfl,rfl,rfl⟩,z⟩
 .refine ⟨its.toList,r,⟨o,n,I.kIn a o hk,hc,hd,by simpa using hs⟩,?_⟩;have e:=r.length;simp only [Ko] at e;omega
def Inv.tuple(I:Inv X pins Y H s)(h:SqT X.K H a xs):∃its,Vals xs its/\IsTup s.heap a its.toArray/\xs.length<=sizeLine:=by
 rcases h with h | ⟨o,its,n,hk,hc,hs,hz,r⟩
 .obtain ⟨z,its,r,p⟩:=h.ok I.hok;exact ⟨its,r,p,z⟩
 .refine ⟨its.toList,r,⟨o,I.kIn a o hk,hc,n,by simpa using hs⟩,?_⟩;have e:=r.length;simp only [Ko] at e;omega
def Inv.list_inj(I:Inv X pins Y H s)(h:SqL X.K H a xs)(h':SqL X.K H a ys):xs=ys:=by
 obtain ⟨c,r,⟨o,n,e,_,_,d⟩,_⟩:=I.list h;obtain ⟨b,i,⟨k,j,g,_,_,f⟩,_⟩:=I.list h';rw [e] at g;cases g;rw [d] at f;injection f with d1 _
 have:c=b:=by simpa using Bl Array.toList d1
 subst this;exact r.inj i
def Inv.tuple_inj(I:Inv X pins Y H s)(h:SqT X.K H a xs)(h':SqT X.K H a ys):xs=ys:=by
 obtain ⟨c,r,⟨o,e,_,n,d⟩,_⟩:=I.tuple h;obtain ⟨b,i,⟨k,g,_,j,f⟩,_⟩:=I.tuple h';rw [e] at g;cases g;rw [d] at f;injection f with d1 _
 have:c=b:=by simpa using Bl Array.toList d1
 subst this;exact r.inj i
end
abbrev Cx.wish(X:Cx)(E:Value->Shared->Prop):Cx:={ X with xe:=E }
abbrev Cx.nox(X:Cx):Cx:=X.wish λ_ _=>False
def Cx.Ok.wish{X:Cx}(ok:X.Ok)(E):(X.wish E).Ok :=
 ⟨ok.mod,ok.kind,ok.glob,ok.blt,ok.above,ok.inj,ok.has,ok.cab,ok.hd,ok.frames,ok.stk,ok.exf,ok.bs,ok.bsz,ok.noex,ok.exfs,ok.funs,ok.frf⟩
def Cx.Ok.unwish{X:Cx}(ok:(X.wish E).Ok):X.Ok :=
 ⟨ok.mod,ok.kind,ok.glob,ok.blt,ok.above,ok.inj,ok.has,ok.cab,ok.hd,ok.frames,ok.stk,ok.exf,ok.bs,ok.bsz,ok.noex,ok.exfs,ok.funs,ok.frf⟩
section
variable{X:Cx}{pins:List (Addr×Obj)}{Y:St}{H:Hp}{s:Shared}{E:Value->Shared->Prop}
def Inv.wish(I:Inv X pins Y H s)(E):Inv (X.wish E) pins Y H s:=⟨I.ok.wish E,I.os,I.bare,I.base,I.loc,I.cell,I.free,I.freeC,I.pin,I.hok,I.len⟩
def Inv.unwish(I:Inv (X.wish E) pins Y H s):Inv X pins Y H s:=⟨I.ok.unwish,I.os,I.bare,I.base,I.loc,I.cell,I.free,I.freeC,I.pin,I.hok,I.len⟩
end
section
variable{X:Cx}{st:Stmt}{rest:List Stmt}{t u:TS}{e:Expr}{te:TE}{pos:Pos}
def RZ:TS:=λD Y H=>D.nx Y H
def tSeq(t u:TS):TS:=λD Y H=>t { D with nx:=u D } Y H
def Vz:PSs X [] RZ:=λ_ _ Y H _ I h=>J9 ⟨Y,H,I,h⟩
def Lb(h1:PS X st t)(h2:PSs X rest u):PSs X (st::rest) (tSeq t u):=by
 intro a s Y H D I h;refine Nu (thn (h1 a s Y H { D with nx:=u D } I h) λf d q=>?_)
 cases f with
 | next=>
  obtain ⟨c,e,b,q⟩:=q;exact h2 a d c e D b q
 | ret v=>exact q
 | brk=>exact q
 | cont=>exact q
def KY(h1:PS X st t):PSs X [st] t:=by
 intro a s Y H D I h;refine Nu (thn (h1 a s Y H D I h) λf b q=>?_);cases f with
 | next=>exact J9 q
 | ret v=>exact q
 | brk=>exact q
 | cont=>exact q
def Inv.quiet(I:Inv X pins Y H s):interactive X.env=false:=by simp [interactive,I.ok.kind]
def HH(te:TE):TS:=λD Y H=>te Y H λ_ a=>D.nx Y a
def KN(he:PE X e te)(hs:swapsWith e none pos.line X.env=pure false:=by rfl):PS X (.Expr e pos) (HH te):=by
 intro a s Y H D I h;exact wpAny_Expr_any (thn (he a s Y H _ I h) λv f zq=>by obtain ⟨x,d,c,g,b⟩:=zq;exact ⟨Y,d,c,b⟩) I.quiet hs
def tRet(te:TE):TS:=λD Y H=>te Y H D.rt
def Zpz(he:PE X e te):PS X (.Return (some e) pos) (tRet te):=by
 intro a s Y H D I h;exact wpAny_Return_some (thn (he a s Y H _ I h) λv g zq=>by obtain ⟨x,d,c,f,b⟩:=zq;exact ⟨x,Y,d,c,f,b⟩)
def tIfS(c:TT)(t u:TS):TS:=λD Y H=>c Y H λb a=>if b=true then t D Y a else u D Y a
def Yn(hc:PT X c tc)(ha:PSs X a t)(hb:PSs X b u):PS X (.If c a b pos) (tIfS tc t u):=by
 intro e s Y H D I h;refine wpAny_If (thn (hc e s Y H _ I h) λd f zq=>?_);obtain ⟨j,i,g⟩:=zq;cases d with
 | true=>exact ha e f Y j D i g
 | false=>exact hb e f Y j D i g
end
abbrev TG:=V->St->Hp->(St->Hp->Prop)->Prop
abbrev TGs:=List V->St->Hp->(St->Hp->Prop)->Prop
def PG(X:Cx)(target:Expr)(t:TG):Prop :=
 ∀a s Y H v u Q,Inv X a Y H s->RelV v u->t v Y H Q ->
  wX X (assign target X.env u) (λ_ d=>∃b c,Inv X a b c d/\Q b c) X.xe s
def PGs(X:Cx)(ts:List Expr)(t:TGs):Prop :=
 ∀a s Y H d c Q,Inv X a Y H s->Vals d c->t d Y H Q ->
  wX X (assignInOrder ((assignEach ts X.env).map (·.2)) c) (λ_ f=>∃b e,Inv X a b e f/\Q b e) X.xe s
section
variable{X:Cx}{pos:Pos}
def FQ(i:Nat):TG:=λv Y H Q=>Q (Y.set i (some v)) H
def Vx(hN:X.N.Nodup)(hi:X.N[i]?=some x)(hx:Loc X.env.scope x)(hf:X.fn x=true\/X.env.scope.names.lookup x=some .local:=by first | exact .inl rfl | exact .inr rfl | assumption):PG X (.Name x pos) (FQ i):=by
 intro a s Y H v u Q I r h;exact wpAny_assign_Name (JP I hN hi hx r (λc b=>⟨_,H,b,h⟩) hf)
def gNil:TGs:=λa Y H Q=>a=[]/\Q Y H
def Tt(t:TG)(u:TGs):TGs:=λb Y H Q=>∃v r,b=v::r/\t v Y H λa c=>u r a c Q
def ZqK:PGs X [] gNil:=by
 intro a s Y H c b Q I r h;obtain ⟨e,h⟩:=h;subst e;cases r;exact assignInOrder_nil ⟨Y,H,I,h⟩
def Zpl(h1:PG X e t)(h2:PGs X es u)(hs:(assignEach (e::es) X.env).map (·.2)=assign e X.env::(assignEach es X.env).map (·.2):=by rfl):PGs X (e::es) (Tt t u):=by
 intro a s Y H l k Q I r h;obtain ⟨v,j,f,h⟩:=h;subst f;cases r with
 | cons r rr=>
  rw [hs];refine assignInOrder_cons (thn (h1 a s Y H _ _ _ I r h) λ_ b zq=>?_);obtain ⟨d,i,c,g⟩:=zq;exact h2 a b d i _ _ Q c rr g
def gTup(K:W.Frag)(n:Nat)(t:TGs):TG:=λv Y H Q=>∃a b,v=.ref a/\SqT K H a b/\b.length=n/\t b Y H Q
def ZsS(hc:X.calm=true)(h:PGs X es t)(hn:(assignEach es X.env).length=n:=by rfl)(hst:(assignEach es X.env).findIdx? (·.1)=none:=by rfl):PG X (.Tuple es k pos) (gTup X.K n t):=by
 intro c s Y H v u Q I r d;obtain ⟨a,j,m,w,l,d⟩:=d;subst m;cases r;obtain ⟨q,f,i,x⟩:=I.tuple w;refine assign_Tuple_tuple (I.ok.hd hc) i (by simp [hn,<-l,f.length]) hst λy p=>?_;have g:=I.kept (t':=s.toks) λb o e=>p b o (Bq (BW e)) e;exact h c _ Y H j _ Q g (by simpa using f) d
def tAsg(te:TE)(g:TG):TS:=λD Y H=>te Y H λx a=>g x Y a D.nx
def Zup(he:PE X e te)(hg:PG X tg g)(hs:swapsWithSole [tg] e pos.line X.env=pure false:=by rfl)(hw:swappedStores [tg] e X.env=pure none:=by rfl)(h1:(assignEach [tg] X.env).map (·.2)=[assign tg X.env]:=by rfl):PS X (.Assign [tg] e pos) (tAsg te g):=by
 intro a s Y H D I h;refine wpAny_Assign_stores (thn (he a s Y H _ I h) λv b zq=>?_) hs hw;obtain ⟨x,f,d,i,c⟩:=zq;rw [h1];exact thn (hg a b Y f x v _ d i c) λ_ j q=>q
def Rt(hN:X.N.Nodup)(hi:X.N[i]?=some x)(hx:Loc X.env.scope x)(he:PE X e te)(hs:swapsWith e (some (.Name x pos')) pos.line X.env=pure false:=by rfl)(hf:X.fn x=true\/X.env.scope.names.lookup x=some .local:=by first | exact .inl rfl | exact .inr rfl | assumption) :
  PS X (.Assign [.Name x pos'] e pos) (tAsg te (FQ i)):=by
 intro a s Y H D I h;refine wpAny_Assign_Name (thn (he a s Y H _ I h) λv j zq=>?_) hs;obtain ⟨y,f,d,g,c⟩:=zq;exact JP d hN hi hx g (λk b=>⟨_,f,b,c⟩) hf
def tPar(i j:Nat)(ta:TA):TS:=λD Y H=>ta Y H λb a=>∃v w,b=[v,w]/\D.nx ((Y.set i (some v)).set j (some w)) a
def Zvy{kt k2 pt2}(hc:X.calm=true)(hN:X.N.Nodup)(hi:X.N[i]?=some x)(hj:X.N[j]?=some y)(hij:i≠j)(hx:X.env.scope.names.lookup x=some .local)(hy:X.env.scope.names.lookup y=some .local)(ha:PA X [a,b] ta)(hw:swappedStores [.Tuple [.Name x px,.Name y py] kt pt] (.Tuple [a,b] k2 pt2) X.env=pure (some [x,y]))(hs:swapsWithSole [.Tuple [.Name x px,.Name y py] kt pt] (.Tuple [a,b] k2 pt2) pos.line X.env=pure false:=by rfl) :
  PS X (.Assign [.Tuple [.Name x px,.Name y py] kt pt] (.Tuple [a,b] k2 pt2) pos) (tPar i j ta):=by
 intro c s Y H D I h;rw [exec_Assign_arm];refine Ac (Gi ?_);rw [hs];refine Ac (Af ?_);rw [iN (by decide)];refine Ac (Tuple_ (thn (ha _ c s Y H _ I h) λC g zq=>?_));obtain ⟨L,r,u,F,m⟩:=zq;obtain ⟨v,w,A,m⟩:=m;subst A;obtain ⟨d,f,rfl,B,k⟩ : ∃d f,C=[d,f]/\RelV v d/\RelV w f:=by
  cases F with
  | cons p q=>
   cases q with
   | cons p' q'=>
    cases q';exact ⟨_,_,rfl,p,p'⟩
 refine JQ ?_ (by show 2<=sizeLine;decide);have t:Inv X c Y r { g with heap:=g.heap.push { cls:=.type "tuple",data:=.seq [d,f].toArray } }:=u.kept λb o e=>Bc _ e
 rw [hw];refine Ac (Af ?_);refine Ac (wpAny_rule (Ac (unpackItems_tuple (items:=#[d,f]) (I.ok.hd hc) (IsTup.new g.heap _) λJ l=>?_)));have z:=t.kept (t':=g.toks) λb o e=>l b o (Bq (BW e)) e;refine Ac (assignInOrder_cons (wpAny_bindName (JP z hN hj (.inl hy) k (λG E=>?_) (.inr hy))));refine assignInOrder_cons (wpAny_bindName (JP E hN hi (.inl hx) B (λK n=>assignInOrder_nil (Af ?_)) (.inr hx)));rw [List.set_comm _ _ (Ne.symm hij)] at n;exact ⟨_,r,n,m⟩
end
section
variable{X:Cx}{pos:Pos}
def Py(c:TT)(tb:TS):TS:=λD Y H=>∃W:Nat->St->Hp->Prop,(∃m,W m Y H)/\∀m Y H,W m Y H ->
 c Y H λb e=>if b=true then ∃N:St->Hp->Prop,(∀a f,N a f->∃d,d<m/\W d a f)/\tb { D with nx:=N,ct:=N,bk:=D.nx } Y e else D.nx Y e
def Zor(hp:PassesOwn (model X.prog X.w) X.A X.env X.xe)(hc:PT X c tc)(hb:PSs X body tb):PS X (.While c body [] pos) (Py tc tb):=by
 intro a s Y H D I h;obtain ⟨W,⟨J,K⟩,e⟩:=h;refine wpAny_While (codeAny_whileLoop (λn G=>∃y z,Inv X a y z G/\W n y z) ?_ J ⟨Y,H,I,K⟩);rintro n B ⟨i,r,F,C⟩;refine Je hp (thn (hc a B i r _ F (e n i r C)) λb E zq=>?_);obtain ⟨x,u,j⟩:=zq;cases b with
 | true=>
  obtain ⟨N,t,j⟩:=j;rw [iP rfl];refine Je hp (thn (hb a E i x _ u j) λf L k=>?_);cases f with
  | next=>
   obtain ⟨d,g,m,q⟩:=k;obtain ⟨l,p,o⟩:=t d g q;exact ⟨l,p,d,g,m,o⟩
  | cont=>
   obtain ⟨d,g,m,q⟩:=k;obtain ⟨l,p,o⟩:=t d g q;exact ⟨l,p,d,g,m,o⟩
  | brk=>exact k
  | ret v=>exact k
 | false=>
  rw [iN Cj];exact J9 ⟨i,x,u,j⟩
end
structure It where
 go:Nat->Hp->Prop
 yld:Nat->Hp->V->Hp->Prop
 stop:Nat->Hp->Prop
def FpOk(X:Cx)(pins:List (Addr×Obj))(H:Hp)(b:Addr):Prop :=
 H b=none/\b≠X.env.locals/\b∉X.fs/\(b∈X.ex\/X.s₀.heap.objs.size<=b)/\(∀x c,X.env.cells.lookup x=some c->c≠b)/\∀p∈X.pn++pins,p.1≠b
def Inv.fpOk(I:Inv X pins Y H s)(hb:s.heap.objs.size<=b)(hn:H' b=none):FpOk X pins H' b:=by
 refine ⟨hn,Gh (Bp I.lt hb),I.nofs hb,.inr (Ar I.sz hb),λx c e z=>?_,λp a z=>?_⟩
 .obtain ⟨v,q⟩:=I.cell x c e;exact aB (Bp q.lt (by rw [z];exact hb)) (GK _)
 .exact aB (Bp (BW (I.pin p a).1) (by rw [z];exact hb)) (GK _)
structure Turn(P:Program)(w:World)(K:W.Frag)(tg:Expr)(J:It)(fp:List Addr)(it:Addr)(tn:Nat->Heap->Prop):Prop where
 mem:it∈fp
 obj:∀i h,tn i h->∀b∈fp,∃o,h.get? b=some o/\∀v,o.data≠.cell v
 keep:∀i h h',tn i h->(∀b∈fp,∀o,h.get? b=some o->h'.get? b=some o)->tn i h'
 item:∀(X:Cx),X.prog=P->X.w=w->X.K=K->X.calm=true->∀(i:Nat) (pins:List (Addr×Obj)) (s:Shared) (Y:St) (H:Hp) (E:Value->Shared->Prop),Inv X pins Y H s->(∀b∈fp,FpOk X pins H b)->tn i s.heap->J.go i H ->
  wpAny (model P w) X.A (pyNext (.ref it)) (λr s1=>∃u,r=some u /\
   wpAny (model P w) X.A (letOwnedTupleGo tg (.ref it) u) (λ_ s2=>∃x H',Inv X pins Y H' s2/\RelV x u/\J.yld i H x H'/\tn (i+1) s2.heap/\∀b∈fp,H' b=none) E s1) E s
 done:∀(X:Cx),X.prog=P->X.w=w->X.K=K->X.calm=true->∀(i:Nat) (pins:List (Addr×Obj)) (s:Shared) (Y:St) (H:Hp) (E:Value->Shared->Prop),Inv X pins Y H s->(∀b∈fp,FpOk X pins H b)->tn i s.heap->J.stop i H ->
  wpAny (model P w) X.A (pyNext (.ref it)) (λr s1=>r=none/\Inv X pins Y H s1) E s
 self:∀(A:Around) (i:Nat) (s:Shared) (Q:Value->Shared->Prop) (E:Value->Shared->Prop),tn i s.heap->Q (.ref it) s->wpAny (model P w) A (pyIter (.ref it)) Q E s
abbrev TI:=St->Hp->(It->Hp->Prop)->Prop
def PIE(X:Cx)(pins:List (Addr×Obj))(Y:St)(tg:Expr)(R:It->Hp->Prop)(itv:Value)(s2:Shared):Prop :=
 ∃e d c J a,itv=.ref e/\Inv X pins Y a s2/\Turn X.prog X.w X.K tg J d e c/\c 0 s2.heap/\(∀b∈d,FpOk X pins a b)/\R J a
def PI(X:Cx)(tg iter:Expr)(wi:TI):Prop :=
 ∀a s Y H R,Inv X a Y H s->wi Y H R ->
  wX X (eval iter X.env) (λv b=>wX X (pyIter v) (PIE X a Y tg R) X.xe b) X.xe s
def Ri(ho:s.heap.get? it=some o)(hc:o.cls=.type n)(hd:o.data=.fields vs)(hn:["enumerate","zip","dict_itemiterator","dict_reverseitemiterator","odict_iterator","itertools.zip_longest","itertools.pairwise"].contains n=false)(hQ:Q () s):wpAny M A (letOwnedTupleGo tg (.ref it) u) Q E s:=by
 unfold letOwnedTupleGo;cases tg<;>first
  | exact Af hQ
  | (cases u<;>first
    | exact Af hQ
    | (refine Ac (wpAny_load ho ?_)
       rw [hc,hd];show wpAny M A (if (["enumerate","zip","dict_itemiterator","dict_reverseitemiterator","odict_iterator","itertools.zip_longest","itertools.pairwise"].contains n&&vs[0]?==some (rawInt _))=true then _ else _) Q E s
       rw [iN (by intro h;rw [hn,Fw] at h;cases h)]
       exact Af hQ))
def Itl(K:W.Frag)(a:Addr):It :=
 ⟨λi H=>∃b x,SqL K H a b/\b[i]?=some x,λi H x c=>c=H/\∀b,SqL K H a b->b[i]?=some x,λi H=>∃b,SqL K H a b/\b.length<=i⟩
def Itt(K:W.Frag)(a:Addr):It :=
 ⟨λi H=>∃b x,SqT K H a b/\b[i]?=some x,λi H x c=>c=H/\∀b,SqT K H a b->b[i]?=some x,λi H=>∃b,SqT K H a b/\b.length<=i⟩
def Itr(lo:Int)(n:Nat):It:=⟨λi _=>i<n,λi H x a=>a=H/\x=.int (lo+i),λi _=>n<=i⟩
def ZmS{P:Program}{w:World}{K:W.Frag}{tg:Expr}(a it):Turn P w K tg (Itl K a) [it] it (λi h=>h.IsListIter it a i) where
 mem:=by simp
 obj:=λi h f b g=>by
  have e:b=it:=by simpa using g
  subst e;obtain ⟨o,e,c,d⟩:=f;exact ⟨o,e,λv z=>by rw [d] at z;cases z⟩
 keep:=λi h M f k=>f.at λo e=>k it (by simp) o e
 item:=by
  intro X q B r N i j s Y H E I m f G;subst q B r;obtain ⟨Q,x,n,F⟩:=G;obtain ⟨J,D,p,T⟩:=I.list n;obtain ⟨u,U,R⟩:=D.get F;obtain ⟨L,C,f2,y,t,A⟩:=m it (by simp);refine wpAny_pyNext_list_item f p.isList (by simpa using U) λM l Z=>?_;have S:=I.turned (t':=s.toks) (λb o g e=>(Z.2 b g).trans e) L C y t A;obtain ⟨o,e,c,d⟩:=id l;exact ⟨u,rfl,Ri e c d (by decide) ⟨x,H,S,R,⟨rfl,λys V=>by rw [I.list_inj V n];exact F⟩,l,λb g=>(m b g).1⟩⟩
 done:=by
  intro X q B r N i j s Y H E I m f G;subst q B r;obtain ⟨Q,n,F⟩:=G;obtain ⟨J,D,p,T⟩:=I.list n;obtain ⟨L,C,f2,y,t,A⟩:=m it (by simp);have hl:=D.length;exact wpAny_pyNext_list_end (I.ok.hd N) f p.isList (by simp;omega) λM O=>⟨rfl,I.turned (λb o g e=>O b o g e) L C y t A⟩
 self:=λ_ _ _ _ _ f h=>wpAny_pyIter_listiter f h
def ZkR{P:Program}{w:World}{K:W.Frag}{tg:Expr}(a it):Turn P w K tg (Itt K a) [it] it (λi h=>h.IsTupleIter it a i) where
 mem:=by simp
 obj:=λi h f b g=>by
  have e:b=it:=by simpa using g
  subst e;obtain ⟨o,e,c,d⟩:=f;exact ⟨o,e,λv z=>by rw [d] at z;cases z⟩
 keep:=λi h M f k=>f.at λo e=>k it (by simp) o e
 item:=by
  intro X q B r N i j s Y H E I m f G;subst q B r;obtain ⟨Q,x,n,F⟩:=G;obtain ⟨J,D,p,T⟩:=I.tuple n;obtain ⟨u,U,R⟩:=D.get F;obtain ⟨L,C,f2,y,t,A⟩:=m it (by simp);refine wpAny_pyNext_tuple_item f (p) (by simpa using U) λM l Z=>?_;have S:=I.turned (t':=s.toks) (λb o g e=>(Z.2 b g).trans e) L C y t A;obtain ⟨o,e,c,d⟩:=id l;exact ⟨u,rfl,Ri e c d (by decide) ⟨x,H,S,R,⟨rfl,λys V=>by rw [I.tuple_inj V n];exact F⟩,l,λb g=>(m b g).1⟩⟩
 done:=by
  intro X q B r N i j s Y H E I m f G;subst q B r;obtain ⟨Q,n,F⟩:=G;obtain ⟨J,D,p,T⟩:=I.tuple n;obtain ⟨L,C,f2,y,t,A⟩:=m it (by simp);have hl:=D.length;exact wpAny_pyNext_tuple_end (I.ok.hd N) f (p) (by simp;omega) λM O=>⟨rfl,I.turned (λb o g e=>O b o g e) L C y t A⟩
 self:=λ_ _ _ _ _ f h=>wpAny_pyIter_tupleiter f h
def Zky{P:Program}{w:World}{K:W.Frag}{tg:Expr}(it)(lo)(n):Turn P w K tg (Itr lo n) [it] it (λi h=>IsRangeIter h it (lo+(i:Nat)*1) ((n:Int) - (i:Nat)) 1) where
 mem:=by simp
 obj:=λi h a b d=>by
  have e:b=it:=by simpa using d
  subst e
  exact ⟨_,a,λv z=>by
   have G:Data.fields _=Data.cell v:=z
   cases G⟩
 keep:=λi h q a k=>k it (by simp) _ a
 item:=by
  intro X j x l r i c s Y H E I g a A;subst j x l;obtain ⟨B,y,M,p,m,u⟩:=g it (by simp);have W:=Walks.range (prog:=X.prog) (w:=X.w) (I.ok.hd r) it lo 1 n;refine W.item i s _ _ A a λv q F J f C=>?_;obtain ⟨t,rfl⟩:=J;have L:Inv X c Y H { s with heap:=q,toks:=F }:=I.turned (λb o d e=>C b o (by simpa using d) e) B y p m u
  refine ⟨_,rfl,Ri f rfl rfl (by decide) ⟨.int (lo+i),H,L,⟨t,?_⟩,⟨rfl,rfl⟩,f,λb d=>(g b d).1⟩⟩;rw [Int.mul_one]
 done:=by
  intro X j x l r i c s Y H E I g a A;subst j x l;obtain ⟨B,y,M,p,m,u⟩:=g it (by simp);exact wpAny_pyNext_range_end (I.ok.hd r) a (by have:n<=i:=A;omega) λq D=>⟨rfl,I.turned (λb o d e=>D b o d e) B y p m u⟩
 self:=λ_ _ _ _ _ a h=>wpAny_pyIter_rangeiter a h
section
variable{X:Cx}{tg:Expr}
def Vs{pins:List (Addr×Obj)}{Y:St}{H:Hp}{s:Shared}{R:It->Hp->Prop}{E:Value->Shared->Prop}{lo hi:Int}{t u v:Tok}{tk:Nat}(I:Inv X pins Y H s)(h1:-(2^62)<=lo)(h2:lo<2^62)(h3:-(2^62)<=hi)(h4:hi<2^62)(q:R (Itr lo (hi - lo).toNat) H):wX X (pyIter (.ref s.heap.objs.size)) (PIE X pins Y tg R) E { s with heap:=s.heap.push { cls:=.type "range",data:=.fields #[.int lo t,.int hi u,.int 1 v] },toks:=tk }:=by
 refine wpAny_pyIter_range (IsRange.new ..) (small_one h1 h2 h3 h4) ?_;have a:Inv X pins Y H { s with heap:=s.heap.push { cls:=.type "range",data:=.fields #[.int lo t,.int hi u,.int 1 v] },toks:=tk }:=I.kept λb o e=>Bc _ e
 refine ⟨(s.heap.push { cls:=.type "range",data:=.fields #[.int lo t,.int hi u,.int 1 v] }).objs.size,[(s.heap.push { cls:=.type "range",data:=.fields #[.int lo t,.int hi u,.int 1 v] }).objs.size],_,_,H,rfl,
  a.kept λb o e=>Bc _ e,Zky _ lo (hi - lo).toNat,?_,λb c=>?_,q⟩
 .have d:lo+((0:Nat):Int)*1=lo:=by simp
  have f:(((hi - lo).toNat:Nat):Int) - ((0:Nat):Int)=Builtin.Range.rangeSize lo hi 1:=by rw [rangeSize_one];split<;>omega
  rw [d,f];exact Dq _ rfl
 .have e:b=(s.heap.push { cls:=.type "range",data:=.fields #[.int lo t,.int hi u,.int 1 v] }).objs.size:=by simpa using c
  subst e;exact a.fpOk (Ao _) (a.hok.fresh (Ao _))
def Tq(ta:TA):TI:=λY H R=>ta Y H λb a=>∃j,b=[.int j]/\-(2^62)<=j/\j<2^62/\R (Itr 0 j.toNat) a
def S5(ta:TA):TI:=λY H R=>ta Y H λb a=>∃i j,b=[.int i,.int j]/\(-(2^62)<=i/\i<2^62/\-(2^62)<=j/\j<2^62)/\R (Itr i (j - i).toNat) a
def Zmv{a:Expr}{ta:TA}{p pos:Pos}(hg:Gl X "range")(hm:X.mg "range"=none)(ha:PA X [a] ta)(hs:starEach [a] X.env=[(false,eval a X.env)]:=by rfl):PI X tg (.Call (.Name "range" p) [a] [] pos) (Tq ta):=by
 intro b s Y H R I h;refine Call_ (KR I hg hm boot_range (Pz (thn (ha pos b s Y H _ I h) λk i zq=>?_) hs rfl));obtain ⟨m,l,d,f,c⟩:=zq;obtain ⟨j,e,c,g,q⟩:=c;subst e;cases f with
 | cons r rr=>
  cases rr;obtain ⟨t,rfl⟩:=r;exact call_range_1 (Vs d (by omega) (by omega) c g (by simpa using q))
def Zly(hg:Gl X "range")(hm:X.mg "range"=none)(ha:PA X [a,b] ta)(hs:starEach [a,b] X.env=[(false,eval a X.env),(false,eval b X.env)]:=by rfl)(hs2:starEach [b] X.env=[(false,eval b X.env)]:=by rfl) :
  PI X tg (.Call (.Name "range" p) [a,b] [] pos) (S5 ta):=by
 intro c s Y H R I h;refine Call_ (KR I hg hm boot_range (Pz (thn (ha pos c s Y H _ I h) λo n zq=>?_) (by rw [hs,hs2]) (by rw [hs2];rfl)));obtain ⟨w,v,f,l,d⟩:=zq;obtain ⟨i,j,e,⟨d,m,k,g⟩,q⟩:=d;subst e;cases l with
 | cons r rr=>
  cases rr with
  | cons r' rr=>
   cases rr;obtain ⟨t,rfl⟩:=r;obtain ⟨u,rfl⟩:=r';exact call_range_2 (Vs f d m k g q)
def tFor(wi:TI)(g:TG)(tb:TS):TS:=λD Y H=>wi Y H λJ f=>∃W:Nat->Nat->St->Hp->Prop,(∃m,W 0 m Y f)/\∀i m Y H,W i m Y H ->
 (J.stop i H/\D.nx Y H)\/(J.go i H/\∃N:St->Hp->Prop,(∀c a,N c a->∃b,b<m/\W (i+1) b c a)/\∀x a,J.yld i H x a->g x Y a λd e=>tb { D with nx:=N,ct:=N,bk:=D.nx } d e)
def QL(fp:List Addr)(h:Heap):List (Addr×Obj):=fp.filterMap λb=>(h.get? b).map λo=>(b,o)
def Ln(hb:b∈fp)(e:h.get? b=some o):(b,o)∈QL fp h:=Ku.mpr ⟨b,hb,by rw [e];rfl⟩
def ZmP(hp:p∈QL fp h):p.1∈fp/\h.get? p.1=some p.2:=by
 obtain ⟨b,a,e⟩:=Ku.mp hp;cases q:h.get? b with
 | none=>rw [q] at e;cases e
 | some o=>
  rw [q] at e;have c:=Be e;subst c;exact ⟨a,q⟩
def Inv.pinned(I:Inv X pins Y H s)(hf:∀b∈fp,FpOk X pins H b)(ho:∀b∈fp,∃o,s.heap.get? b=some o/\∀v,o.data≠.cell v):Inv X (pins++QL fp s.heap) Y H s :=
 I.pins_of λp f=>(Dv.mp f).elim (λz=>I.pin p (CK _ z)) λz=>by
  obtain ⟨a,e⟩:=ZmP z;obtain ⟨h,g,i,_⟩:=hf p.1 a;obtain ⟨o,c,d⟩:=ho p.1 a;rw [e] at c;cases c;exact ⟨e,h,g,i,d⟩
def Inv.unpinned(I:Inv X (pins++pl) Y H s):Inv X pins Y H s:=I.pins_of λp a=>I.pin p (CK _ (HD _ a))
def XN(hp:PassesOwn (model X.prog X.w) X.A X.env X.xe)(hc:X.calm=true)(hi:PI X tg iter wi)(hg:PG X tg g)(hb:PSs X body tb)(hs:∀x,foldedSetIterable iter X.env x=pure x:=by intro _;rfl):PS X (.For tg iter body [] pos) (tFor wi g tb):=by
 intro a s Y H D I h;refine wpAny_For (thn (hi a s Y H _ I h) λv s1 h1=>thn h1 λitv s2 h2=>?_) hs;obtain ⟨it,z,tn,J,H2,e,I2,T,P,f2,W,⟨m0,w0⟩,K⟩:=h2;subst e;have k:∀{q:Hp},(∀b∈z,q b=none)->∀b∈z,FpOk X a q b:=λhn b hb=>⟨hn b hb,(f2 b hb).2⟩;refine codeAny_forLoop_any (λn Z=>∃i B q,Inv X a B q Z/\tn i Z.heap/\(∀b∈z,q b=none)/\W i n B q) ?_ m0 ⟨0,Y,H2,I2,P,λb hb=>(f2 b hb).1,w0⟩;rintro n V ⟨i,G,L,I3,F,E,w3⟩;rcases K i n G L w3 with ⟨stop,qn⟩ | ⟨go,N,hN,step⟩
 .refine Je hp (thn (T.done X rfl rfl rfl hc i a V G L X.xe I3 (k E) F stop) λr s4 ⟨R,I4⟩=>?_);subst R;exact J9 ⟨G,L,I4,qn⟩
 .refine Je hp (thn (T.item X rfl rfl rfl hc i a V G L X.xe I3 (k E) F go) λr s4 zq=>?_);obtain ⟨u,R,h4⟩:=zq;subst R;refine Je hp (thn h4 λ_ S zq=>?_);obtain ⟨x,U,I5,r5,y5,y,M⟩:=zq;have O:=I5.pinned (k M) (T.obj _ _ y);refine Je hp (thn (hg _ S G U x u _ O r5 (step x U y5)) λ_ s6 zq=>?_);obtain ⟨Y6,H6,I6,q6⟩:=zq;refine Je hp (thn (hb _ s6 Y6 H6 _ I6 q6) λf Q t=>?_);have c:∀{l:St} {j:Hp},Inv X (a++QL z S.heap) l j Q->N l j->∃m,m<n/\∃i B q,Inv X a B q Q/\tn i Q.heap/\(∀b∈z,q b=none)/\W i m B q:=λ{l j} p C=>by
   obtain ⟨m',hm,w7⟩:=hN l j C;refine ⟨m',hm,i+1,l,j,p.unpinned,T.keep _ _ _ y λb hb o e=>(p.pin (b,o) (CK _ (CK _ (Ln hb e)))).1,λb hb=>?_,w7⟩;obtain ⟨o,e,d⟩:=T.obj _ _ y b hb;exact (p.pin (b,o) (CK _ (CK _ (Ln hb e)))).2.1
  cases f with
  | next=>obtain ⟨l,j,p,C⟩:=t;exact c p C
  | cont=>obtain ⟨l,j,p,C⟩:=t;exact c p C
  | brk=>obtain ⟨l,j,p,t⟩:=t;exact ⟨l,j,p.unpinned,t⟩
  | ret v=>obtain ⟨x7,l,j,p,r7,t⟩:=t;exact ⟨x7,l,j,p.unpinned,r7,t⟩
end
abbrev R2:=V->V->Hp->VK->Prop
def OpR(X:Cx)(f:Value->Value->Sem Value)(r:R2):Prop :=
 ∀a s Y H x y v u Q,Inv X a Y H s->RelV x v->RelV y u->r x y H Q ->
  wX X (f v u) (EP X a Y Q) X.xe s
def UnR(X:Cx)(f:Value->Sem Value)(r:V->Hp->VK->Prop):Prop :=
 ∀a s Y H x v Q,Inv X a Y H s->RelV x v->r x H Q ->
  wX X (f v) (EP X a Y Q) X.xe s
def Do(X:Cx)(f:Value)(r:List V->Hp->VK->Prop):Prop :=
 ∀a s Y H b c Q,Inv X a Y H s->Vals b c->r b H Q ->
  wX X (call f c) (EP X a Y Q) X.xe s
def tOp(r:R2)(ta tb:TE):TE:=λY H Q=>ta Y H λx b=>tb Y b λy a=>r x y a Q
def tUn(r:V->Hp->VK->Prop)(ta:TE):TE:=λY H Q=>ta Y H λx a=>r x a Q
def rI(C:Int->Int->Prop)(g:Int->Int->V):R2:=λx y H Q=>∃i j,x=.int i/\y=.int j/\C i j/\Q (g i j) H
def rI0(g:Int->Int->V):R2:=λx y H Q=>∃i j,x=.int i/\y=.int j/\Q (g i j) H
def rU(g:Int->V):V->Hp->VK->Prop:=λx H Q=>∃i,x=.int i/\Q (g i) H
section
variable{X:Cx}{a b c:Expr}{ta tb tc:TE}{pos:Pos}
def binT(ha:PE X a ta)(hb:PE X b tb){pins:List (Addr×Obj)}{s:Shared}{Y:St}{H:Hp}{R:V->V->Hp->Prop}(I:Inv X pins Y H s)(h:ta Y H λx H1=>tb Y H1 λy H2=>R x y H2){Q:Value->Shared->Prop}{f:Value->Value->Sem Value}(hf:∀v u s2 x y H2,Inv X pins Y H2 s2->RelV x v->RelV y u->R x y H2->wX X (f v u) Q X.xe s2) :
  wX X (eval a X.env) (λv s₁=>wX X (eval b X.env) (λu s₂=>wX X (f v u) Q X.xe s₂) X.xe s₁) X.xe s:=by
 refine thn (ha pins s Y H _ I h) λv d zq=>?_;obtain ⟨x,H1,g,i,e⟩:=zq;refine thn (hb pins d Y H1 _ g e) λu s2 zq=>?_;obtain ⟨y,H2,c,k,j⟩:=zq;exact hf v u s2 x y H2 c i k j
def ZvP(ho:OpR X (binaryOp op) r)(ha:PE X a ta)(hb:PE X b tb):PE X (.BinOp a op b pos) (tOp r ta tb):=by
 intro c s Y H Q I h;exact wpAny_BinOp (binT ha hb I h λv u g x y i d e f q=>ho c g Y i x y v u Q d e f q)
def Xa(ho:UnR X (unaryOp op) r)(ha:PE X a ta):PE X (.UnaryOp op a pos) (tUn r ta):=by
 intro b s Y H Q I h;exact UnaryOp_ (thn (ha b s Y H _ I h) λv c zq=>by obtain ⟨x,f,e,g,d⟩:=zq;exact ho b c Y f x v Q e g d)
def opI{f:Value->Value->Sem Value}{C:Int->Int->Prop}{g:Int->Int->Int}(rule:∀(i j:Int) (t u:Tok) (s:Shared) (Q:Value->Shared->Prop) (E:Value->Shared->Prop),C i j->Q (.int (g i j) s.toks) { s with toks:=s.toks+1 }->wX X (f (.int i t) (.int j u)) Q E s) :
  OpR X f (rI C λi j=>.int (g i j)):=by
 intro a s Y H x y v u Q I b c h;obtain ⟨i,j,rfl,rfl,d,q⟩:=h;obtain ⟨t,rfl⟩:=b;obtain ⟨e,rfl⟩:=c;exact rule i j t e s _ _ d ⟨.int (g i j),H,I.tok _,⟨_,rfl⟩,q⟩
def opI0{f:Value->Value->Sem Value}{g:Int->Int->Int}(rule:∀(i j:Int) (t u:Tok) (s:Shared) (Q:Value->Shared->Prop) (E:Value->Shared->Prop),Q (.int (g i j) s.toks) { s with toks:=s.toks+1 }->wX X (f (.int i t) (.int j u)) Q E s) :
  OpR X f (rI0 λi j=>.int (g i j)):=by
 intro a s Y H x y v u Q I b d h;obtain ⟨i,j,rfl,rfl,q⟩:=h;obtain ⟨t,rfl⟩:=b;obtain ⟨c,rfl⟩:=d;exact rule i j t c s _ _ ⟨.int (g i j),H,I.tok _,⟨_,rfl⟩,q⟩
def opB0{f:Value->Value->Sem Value}{g:Int->Int->Bool}(rule:∀(i j:Int) (t u:Tok) (s:Shared) (Q:Value->Shared->Prop) (E:Value->Shared->Prop),Q (.bool (g i j)) s->wX X (f (.int i t) (.int j u)) Q E s) :
  OpR X f (rI0 λi j=>.bl (g i j)):=by
 intro a s Y H x y v u Q I b d h;obtain ⟨i,j,rfl,rfl,q⟩:=h;obtain ⟨t,rfl⟩:=b;obtain ⟨c,rfl⟩:=d;exact rule i j t c s _ _ ⟨.bl (g i j),H,I,rfl,q⟩
def CPow(i j:Int):Prop:=0<=j/\j<=1000000/\i.natAbs<2^64
def ZkX(k):(0:Int)<=2^k:=by
 rw [two_pow_cast];exact Int.natCast_nonneg _
def ZsW:OpR X (binaryOp .Add) (rI0 λi j=>.int (i+j)):=opI0 λ_ _ _ _ _ _ _ q=>add_int q
def ZsY:OpR X (binaryOp .Sub) (rI0 λi j=>.int (i - j)):=opI0 λ_ _ _ _ _ _ _ q=>sub_int q
def ZrC:OpR X (binaryOp .Mod) (rI (λ_ j=>j≠0) λi j=>.int (i.fmod j)):=opI λ_ _ _ _ _ _ _ a q=>mod_int' a q
def ZtV:OpR X (binaryOp .Pow) (rI CPow λi j=>.int (i^j.toNat)):=opI λ_ _ _ _ _ _ _ a q=>pow_int_small a.1 a.2.1 a.2.2 q
def Zs6:OpR X (binaryOp .LShift) (rI CPow λi j=>.int (i*2^j.toNat)):=opI λ_ _ _ _ _ _ _ a q=>lshift_int_small a.1 a.2.1 a.2.2 q
def ZtA:OpR X (binaryOp .RShift) (rI (λ_ j=>0<=j) λi j=>.int (i/2^j.toNat)):=opI λi j _ _ _ _ _ a q=>
 rshift_int a (by rw [Int.fdiv_eq_ediv_of_nonneg i (ZkX _)];exact q)
def unI{f:Value->Sem Value}{g:Int->Int}(rule:∀(i:Int) (t:Tok) (s:Shared) (Q:Value->Shared->Prop) (E:Value->Shared->Prop),Q (.int (g i) s.toks) { s with toks:=s.toks+1 }->wX X (f (.int i t)) Q E s) :
  UnR X f (rU λi=>.int (g i)):=by
 intro a s Y H x v Q I b h;obtain ⟨i,rfl,q⟩:=h;obtain ⟨t,rfl⟩:=b;exact rule i t s _ _ ⟨.int (g i),H,I.tok _,⟨_,rfl⟩,q⟩
def WD:UnR X (unaryOp .USub) (rU λi=>.int (-i)):=unI λ_ _ _ _ _ q=>neg_int q
end
section
variable{X:Cx}{a b c:Expr}{ta tb tc:TE}{pos:Pos}
def Kg(I:Inv X pins Y H s)(q:Q (.bl k) H)(e:k=k'):EP X pins Y Q (.bool k') s:=by
 subst e;exact ⟨.bl k,H,I,rfl,q⟩
def ZwO:OpR X (compareOp .Lt) (rI0 λi j=>.bl (decide (i<j))):=opB0 λ_ _ _ _ _ _ _ q=>lt_int q
def FW:OpR X (compareOp .LtE) (rI0 λi j=>.bl (decide (i<=j))):=opB0 λ_ _ _ _ _ _ _ q=>le_int q
def XC:OpR X (compareOp .Gt) (rI0 λi j=>.bl (decide (j<i))):=opB0 λ_ _ _ _ _ _ _ q=>gt_int q
def Xo:OpR X (compareOp .GtE) (rI0 λi j=>.bl (decide (j<=i))):=opB0 λ_ _ _ _ _ _ _ q=>ge_int q
def Zm9:OpR X (compareOp .In) (λx y H Q=>∃i j,x=.str i/\y=.str j/\Q (.bl (!(Builtin.Str.occurrences j i 0 j.length 1).isEmpty)) H):=by
 intro a s Y H x y v u Q I b c h;obtain ⟨i,j,rfl,rfl,q⟩:=h;obtain ⟨t,rfl⟩:=b;obtain ⟨d,rfl⟩:=c;exact in_str (Kg I q rfl)
def Yv:OpR X (compareOp .Is) (λx y H Q=>y=.non/\Q (.bl (decide (x=.non))) H):=by
 intro b s Y H x y v u Q I a c h;obtain ⟨rfl,q⟩:=h;cases c;refine is_none_gen (Kg I q ?_);cases x<;>first
  | (cases a;rfl)
  | (obtain ⟨t,rfl⟩:=a;rfl)
def Zss:OpR X (compareOp .IsNot) (λx y H Q=>y=.non/\Q (.bl (!decide (x=.non))) H):=by
 intro b s Y H x y v u Q I a c h;obtain ⟨rfl,q⟩:=h;cases c;refine isnot_none_gen (Kg I q ?_);cases x<;>first
  | (cases a;rfl)
  | (obtain ⟨t,rfl⟩:=a;rfl)
def ZhG:OpR X (compareOp .NotIn) (λx y H Q=>∃i j,x=.str i/\y=.str j/\Q (.bl (!(!(Builtin.Str.occurrences j i 0 j.length 1).isEmpty))) H):=by
 intro a s Y H x y v u Q I b c h;obtain ⟨i,j,rfl,rfl,q⟩:=h;obtain ⟨t,rfl⟩:=b;obtain ⟨d,rfl⟩:=c;exact notIn_str (Kg I q rfl)
def Fe(b)(h:op≠.In:=by decide)(h2:op≠.NotIn:=by decide):behindInMarks op b=false:=by
 have a:(op==CmpOp.In)=false:=by cases op<;>first | rfl | exact aB rfl h
 have c:(op==CmpOp.NotIn)=false:=by cases op<;>first | rfl | exact aB rfl h2
 cases b<;>simp [behindInMarks,a,c]
def TF(ho:OpR X (compareOp op) r)(ha:PE X a ta)(hb:PE X b tb)(hm:behindInMarks op b=false):PE X (.Compare a [op] [b] pos) (tOp r ta tb):=by
 intro c s Y H Q I h;exact wpAny_Compare1 (binT ha hb I h λv u g x y i d e f q=>ho c g Y i x y v u Q d e f q) hm
def Ec(t:TE):TT:=λY H Q=>t Y H λx a=>∃k,x=.bl k/\Q k a
def Zmc(ho:OpR X (compareOp op) r)(ha:PE X a ta)(hb:PE X b tb)(hm:behindInMarks op b=false):PT X (.Compare a [op] [b] pos) (Ec (tOp r ta tb)):=by
 intro d s Y H Q I h
 refine wpAny_isTrue_Compare1 (thn (ha d s Y H _ I h) λv g zq=>?_) hm;obtain ⟨x,t,i,A,n⟩:=zq;refine thn (hb d g Y t _ i n) λu l zq=>?_;obtain ⟨y,m,f,o,B⟩:=zq;refine thn (ho d l Y m x y v u _ f A o B) λc C zq=>?_;obtain ⟨z,w,j,p,k,e,q⟩:=zq
 subst e;cases p;exact Fy ⟨w,j,q⟩
def Nt(r r':R2)(ta tb tc:TE):TE:=λY H Q=>ta Y H λx d=>tb Y d λy b=>r x y b λz a=>∃k,z=.bl k /\
 (if k=true then tc Y a λc e=>r' y c e Q else Q (.bl false) a)
def ZnT(ho:OpR X (compareOp op) r)(ho':OpR X (compareOp op') r')(ha:PE X a ta)(hb:PE X b tb)(hc:PE X c tc)(hm:lastMarks [op,op'] [b,c]=false:=by with_unfolding_all rfl):PE X (.Compare a [op,op'] [b,c] pos) (Nt r r' ta tb tc):=by
 intro f s Y H Q I h
 refine Compare_chain (thn (ha f s Y H _ I h) λv n zq=>?_) hm;obtain ⟨x,G,q,K,E⟩:=zq;refine chain_link (thn (hb f n Y G _ q E) λu w zq=>?_);obtain ⟨y,B,m,i,M⟩:=zq;refine thn (ho f w Y B x y v u _ m K i M) λd J zq=>?_;obtain ⟨z,l,g,F,k,e,j⟩:=zq
 subst e;cases F;refine Fy ?_;cases k with
 | false=>exact ite_ff ⟨.bl false,l,g,rfl,j⟩
 | true=>exact ite_tt (chain_last (thn (hc f J Y l _ g j) λC L zq=>by obtain ⟨D,t,p,o,A⟩:=zq;exact ho' f L Y t y D u C Q p i o A))
def Zn8(ho:OpR X (compareOp op) r)(ho':OpR X (compareOp op') r')(ha:PE X a ta)(hb:PE X b tb)(hc:PE X c tc)(hm:lastMarks [op,op'] [b,c]=false:=by with_unfolding_all rfl):PT X (.Compare a [op,op'] [b,c] pos) (Ec (Nt r r' ta tb tc)):=by
 intro f s Y H Q I h
 refine isTrue_chain (thn (ha f s Y H _ I h) λv m zq=>?_) hm;obtain ⟨x,C,K,U,O⟩:=zq;refine test_link (thn (hb f m Y C _ K O) λu t zq=>?_);obtain ⟨y,M,F,i,D⟩:=zq;refine thn (ho f t Y M x y v u _ F U i D) λd P zq=>?_;obtain ⟨z,l,g,B,k,e,j⟩:=zq
 subst e;cases B;refine Fy ?_;cases k with
 | false=>
  obtain ⟨k',w,p⟩:=j;cases w;exact ite_ff ⟨l,g,p⟩
 | true=>
  refine ite_tt (test_last (thn (hc f P Y l _ g j) λN S zq=>?_));obtain ⟨A,o,R,J,L⟩:=zq;refine thn (ho' f S Y o y A u N _ R i J L) λd' V zq=>?_;obtain ⟨W,n,G,q,Z,E,T⟩:=zq;subst E;cases q;exact Fy ⟨n,G,T⟩
def M5:(sizeLine:Nat)<2^63:=by rw [sizeLine_eq];decide
def Zkn:OpR X (binaryOp .Add) (λx y H Q=>∃i j,x=.str i/\y=.str j/\i.length+j.length<=sizeLine/\Q (.str (i++j)) H):=by
 intro a s Y H x y v u Q I b c h;obtain ⟨i,j,rfl,rfl,d,q⟩:=h;obtain ⟨t,rfl⟩:=b;obtain ⟨e,rfl⟩:=c;exact add_str (λe f=>⟨.str (i++j),H,I.tok _,⟨_,rfl⟩,q⟩) d
def vals1(r:Vals [x] us):∃u,us=[u]/\RelV x u:=by
 cases r with
 | cons r1 r2=>cases r2;exact ⟨_,rfl,r1⟩
def vals2(r:Vals [x,y] us):∃u w',us=[u,w']/\RelV x u/\RelV y w':=by
 cases r with
 | cons r1 r2=>
  cases r2 with
  | cons r3 r4=>cases r4;exact ⟨_,_,rfl,r1,r3⟩
def Zom:Do X (.builtin "abs") (λxs H Q=>∃i,xs=[.int i]/\Q (.int (if i<0 then -i else i)) H):=by
 intro a s Y H xs c Q I r h;obtain ⟨i,rfl,q⟩:=h;obtain ⟨u,rfl,t,rfl⟩:=vals1 r;exact call_abs_int λu b=>⟨.int (if i<0 then -i else i),H,I.tok _,⟨_,rfl⟩,q⟩
def Zm1(hc:X.calm=true):Do X (.builtin "max") (λxs H Q=>∃i j,xs=[.int i,.int j]/\Q (.int (if j>i then j else i)) H):=by
 intro a s Y H xs e Q I r h;obtain ⟨i,j,rfl,q⟩:=h;obtain ⟨u,d,rfl,⟨t,rfl⟩,⟨f,rfl⟩⟩:=vals2 r;refine max_two_ints (I.ok.hd hc) λb c k=>⟨_,H,I.kept k,?_,q⟩;by_cases hj:j>i
 .rw [iP hj,iP hj];exact ⟨_,rfl⟩
 .rw [iN hj,iN hj];exact ⟨_,rfl⟩
def ZhF:Do X (.type "str") (λxs H Q=>∃i,xs=[.int i]/\i.natAbs.log2<1920/\Q (.str (toString i)) H):=by
 intro a s Y H xs c Q I r h;obtain ⟨i,rfl,b,q⟩:=h;obtain ⟨u,rfl,t,rfl⟩:=vals1 r;exact PySem.P.str_of_int b ⟨.str _,H,I.tok _,⟨_,rfl⟩,q⟩
def LenV(K:W.Frag)(x:V)(H:Hp)(n:Nat):Prop :=
 match x with
 | .str y=>y.length<=sizeLine/\n=y.length
 | .ref p=>(∃a,SqL K H p a/\n=a.length)\/∃a,SqT K H p a/\n=a.length
 | _=>False
def Zpc:Do X (.builtin "len") (λxs H Q=>∃x n,xs=[x]/\LenV X.K x H n/\Q (.int n) H):=by
 intro i s Y H xs m Q I r h;obtain ⟨x,n,rfl,e,q⟩:=h;obtain ⟨u,rfl,c⟩:=vals1 r;have l:=M5;have o:=sizeLine_eq;cases x with
 | str y=>
  obtain ⟨t,rfl⟩:=c;obtain ⟨k,b⟩ : y.length<=sizeLine/\n=y.length:=e;subst b;exact len_str (by omega) ⟨.int _,H,I.tok _,⟨_,rfl⟩,q⟩
 | ref p=>
  cases c;have b:=e;rcases b with ⟨xs,hx,b⟩ | ⟨xs,hx,b⟩
  .subst b;obtain ⟨g,f,d,j⟩:=I.list hx;have a:=f.length;exact Calls.call_len_list d.isList (by simp only [CT];omega) ⟨.int xs.length,H,I.tok _,⟨_,by simp only [CT];rw [a]⟩,q⟩
  .subst b;obtain ⟨g,f,d,j⟩:=I.tuple hx;have a:=f.length;exact len_tuple d (by simp only [CT];omega) ⟨.int xs.length,H,I.tok _,⟨_,by simp only [CT];rw [a]⟩,q⟩
 | _=>exact (e).elim
end
structure ObjM(h:Heap)(x dx C:Addr)(mA:Str->Option Value):Prop where
 obj:h.get? x=some (W.instObj C dx)
 ns:h.Ns1 dx mA
 ne:dx≠x
def ZK{h:Heap}(n:h.Ns1 dx mA):∃od,h.get? dx=some od/\∀name,W.lookIn name od=some (mA name):=by
 obtain ⟨o,c,l,g,k,i,_,j⟩:=n;refine ⟨o,g,λname=>?_⟩;have e:=j name;unfold nsFind findBy at e;rw [<-Array.find?_toList] at e;unfold W.lookIn;rw [k];dsimp only;split
 .rename_i y q;rw [q] at e;exact Bl some e
 .rename_i q;rw [q] at e;have a:c.toList.any (·.refKey)=false:=by
   rw [List.any_eq_false];intro y f;obtain ⟨z,t,b⟩:=i y (Array.mem_toList_iff.mp f);simp [DictEntry.refKey,b]
  have d:¬c.toList.any (·.refKey)=true:=by rw [a];exact Cj
  rw [iN d];exact Bl some e
def ObjM.look(I:ObjM h x dx C mA):∃od,W.InstAt h x (W.instObj C dx) C (some od)/\∀name,W.lookIn name od=some (mA name) :=
 let ⟨od,ho,hl⟩:=ZK I.ns
 ⟨od,⟨I.obj,rfl,rfl,ho⟩,hl⟩
section
variable{prog:Program}{w:World}{A:Around}{E:Value->Shared->Prop}{s:Shared}{K:W.Frag}{x dx C f:Addr}{mA:Str->Option Value}{name:Str}{v:Value}
def Zqy(X:K.In s.heap)(I:ObjM s.heap x dx C mA)(hg:W.plainGet K C name=true)(hh:W.hasDictIn K C=true)(ha:W.findIn K (.ref C) name=some none)(hv:mA name=some v)(hv':W.handedIn v=true)(h:Q v { s with toks:=s.toks+1 }) :
  wpAny (model prog w) A (getAttr (.ref x) name expr) Q E s:=by
 obtain ⟨b,J,a⟩:=I.look;exact W.get_value X J (W.plainGet_of hg).1 (W.findObj_own hh ha rfl (by rw [a,hv])) hv' h
def Zol(X:K.In s.heap)(I:ObjM s.heap x dx C mA)(hg:W.plainGet K C name=true)(hf:W.findIn K (.ref C) name=some (some (.ref f)))(ht:W.isFn K (.ref f)=true)(hv:mA name=none)(h:Q (.ref f,[.ref x]) s) :
  wpAny (model prog w) A (getMethod (.ref x) name pl) Q E s:=by
 obtain ⟨a,J,b⟩:=I.look;exact W.method_fn X J (W.plainGet_of hg).1 (W.plainGet_of hg).2 hf (Dc.mp ht) (by show (W.lookIn name a).map (·.isSome)=some false;rw [b,hv];rfl) h
def ZrT(X:K.In s.heap)(I:ObjM s.heap x dx C mA)(hs:W.findIn K (.ref C) "__setattr__"=some (some (.builtin "object.__setattr__")))(hp:W.plainOver K C=true)(ht:W.takerIn K C name=some none)(hh:W.hasDictIn K C=true)(hw:PySem.Within mA ns)(hsz:ns.length<=sizeLine)(h:∀h',ObjM h' x dx C (λy=>if y=name then some v else mA y)->Heap.SameBut dx s.heap h'->Q () { s with heap:=h',toks:=s.toks+2 }) :
  wpAny (model prog w) A (setAttr (.ref x) name v) Q E s:=by
 obtain ⟨p,J,o⟩:=I.look;refine W.set_plain X J hs (W.osa_open X J hp ht λb=>?_);obtain ⟨n,i,e⟩:=W.any_some hh;have j:=I.obj;refine Ac (Af (Ac (Ac (Jf j (Ac (W.Looks.here (W.looks_clsIn X i) ?_))))));rw [e];refine Af (Ac (Af (Ac ?_)));refine wpAny_nsSet1 I.ns λh' c a=>?_;obtain ⟨m,k,l,f,g,d⟩:=c.count (PySem.Within.cons name v hw);refine Ac (wpAny_lookBehind f (by rw [g];exact pastItsLine_dict (Ar d (by rw [BP];omega))) ?_);exact Af (h _ ⟨(a.2 _ (Ne.symm I.ne)).trans I.obj,c,I.ne⟩ a)
def ZnV(X:K.In s.heap)(hm:W.makesIn K C=true)(hi:W.findIn K (.ref C) "__init__"=some (some (.ref f)))(hf:W.typeIn K (.ref f)=some (.type "function")) (h:codeAny (model prog w) (A.under (.builtin "type.__call__" ⟨.ref C::vs,kw⟩)) (.call (.ref f) ⟨.ref (s.heap.objs.size+1)::vs,kw⟩) (W.InitBack (s.heap.objs.size+1) R)
   { s with heap:=(s.heap.push W.emptyDict).push (W.instObj C s.heap.objs.size) }) :
  codeAny (model prog w) A (.call (.ref C) ⟨vs,kw⟩) R s:=by
 obtain ⟨c,g,d,t,b⟩:=s;exact W.make_core (W.makes_of X hm) (Ig X hi) (λa=>W.bind_fn X a hf) (.inl rfl) h
end
def putF(f:Str)(v:V):List (Str×V)->List (Str×V)
 | []=>[(f,v)]
 | (g,x)::r=>if g=f then (g,v)::r else (g,x)::putF f v r
def Wl(f g)(v):∀fs,(putF f v fs).lookup g=if g=f then some v else fs.lookup g
 | []=>by
  show List.lookup g [(f,v)]=_;by_cases h:g=f
  .have a:(g==f)=true:=Dc.mpr h;simp only [List.lookup,a,iP h]
  .have a:(g==f)=false:=Jp.mpr h;simp only [List.lookup,a,iN h]
 | (k,x)::r=>by
  have ih:=Wl f g v r;rw [show putF f v ((k,x)::r)=(if k=f then (k,v)::r else (k,x)::putF f v r) from rfl]
  by_cases hk:k=f
  .rw [iP hk];by_cases h:g=k
   .have a:(g==k)=true:=Dc.mpr h;simp only [List.lookup,a,iP (h.trans hk)]
   .have a:(g==k)=false:=Jp.mpr h;simp only [List.lookup,a,iN (λe:g=f=>h (e.trans hk.symm))]
  .rw [iN hk];by_cases h:g=k
   .have a:(g==k)=true:=Dc.mpr h;simp only [List.lookup,a,iN (λe:g=f=>hk (h.symm.trans e))]
   .have a:(g==k)=false:=Jp.mpr h;simp only [List.lookup,a];exact ih
def Va(f)(v):∀fs,f∈(putF f v fs).map (·.1)/\∀g,g∈fs.map (·.1)->g∈(putF f v fs).map (·.1)
 | []=>⟨by simp [putF],λg h=>by simp at h⟩
 | (k,x)::r=>by
  obtain ⟨a,b⟩:=Va f v r;rw [show putF f v ((k,x)::r)=(if k=f then (k,v)::r else (k,x)::putF f v r) from rfl]
  by_cases hk:k=f
  .rw [iP hk];subst hk;exact ⟨by simp,λg h=>by simpa using h⟩
  .rw [iN hk];refine ⟨?_,λg h=>?_⟩
   .rw [Bx];exact Av _ a
   .rw [Bx] at h ⊢;rcases An.mp h with e | e
    .exact An.mpr (.inl e)
    .exact Av _ (b g e)
def ZfL(f)(v):∀fs,(putF f v fs).length<=fs.length+1
 | []=>by simp [putF]
 | (k,x)::r=>by
  have ih:=ZfL f v r;rw [show putF f v ((k,x)::r)=(if k=f then (k,v)::r else (k,x)::putF f v r) from rfl]
  by_cases hk:k=f
  .rw [iP hk,BP,BP];omega
  .rw [iN hk,BP,BP];omega
def RelO.some_of(r:RelO (some v) o):∃u,o=some u/\RelV v u:=by
 cases o with
 | none=>exact (r).elim
 | some u=>exact ⟨u,rfl,r⟩
def RelO.none_of(r:RelO none o):o=none:=by
 cases o with
 | none=>rfl
 | some u=>exact (r).elim
def Zhp(r:RelV v u):W.handedIn u=true:=by
 cases v with
 | non=>cases (r);rfl
 | bl b=>cases (r);rfl
 | int i=>obtain ⟨t,e⟩:=(r);cases e;rfl
 | str x=>obtain ⟨t,e⟩:=(r);cases e;rfl
 | ref a=>cases (r);rfl
 | ty n=>cases (r);rfl
section
variable{P:Program}{w:World}{H H':Hp}{h h':Heap}{a C dx:Addr}{fs fs':List (Str×V)}
def Qx(hok:HOk P w H h)(e:H a=some (.ins C dx fs)):∃mA,ObjM h a dx C mA/\(∀f,RelO (fs.lookup f) (mA f))/\PySem.Within mA (fs.map (·.1))/\fs.length<=1000/\H dx=some (.own a):=by
 obtain ⟨d,z,b,c,mA,n,r,q⟩:=(hok a _ e);exact ⟨mA,⟨c,n,b⟩,r,q,z,d⟩
end
structure Cls(K:W.Frag)(C:Addr):Prop where
 pg:W.plainGet K C Str.empty=true
 hd:W.hasDictIn K C=true
 po:W.plainOver K C=true
 sa:W.findIn K (.ref C) "__setattr__"=some (some (.builtin "object.__setattr__"))
def Cls.get{K:W.Frag}{C:Addr}(c:Cls K C)(f):W.plainGet K C f=true:=c.pg
def Hw(K:W.Frag)(C:Addr)(f:Str):Prop:=W.findIn K (.ref C) f=some none
def Hw.taker{K:W.Frag}{C:Addr}{f:Str}(n:Hw K C f):W.takerIn K C f=some none:=by
 unfold W.takerIn;rw [show W.findIn K (.ref C) f=some none from n];rfl
structure Meth(K:W.Frag)(C:Addr)(m:Str)(f:Addr):Prop where
 at_:W.findIn K (.ref C) m=some (some (.ref f))
 fn:W.isFn K (.ref f)=true
 kp:W.keepIn K (.ref f)=true
section
variable{X:Cx}{pins:List (Addr×Obj)}{Y:St}{H:Hp}{s:Shared}{a C dx:Addr}{fs:List (Str×V)}{f:Str}{v:V}{A:Around}{E:Value->Shared->Prop}
def Zkl(I:Inv X pins Y H s)(e:H a=some (.ins C dx fs))(c:Cls X.K C)(n:Hw X.K C f)(l:fs.lookup f=some v)(h:∀u s',Inv X pins Y H s'->RelV v u->Q u s'):wpAny (model X.prog X.w) A (getAttr (.ref a) f b) Q E s:=by
 obtain ⟨i,O,r,_,_,_⟩:=Qx I.hok e;obtain ⟨u,g,d⟩:=RelO.some_of (by rw [<-l];exact r f);exact Zqy I.kIn O (c.get f) c.hd n g (Zhp d) (h u _ (I.tok _) d)
def Zk0(I:Inv X pins Y H s)(e:H a=some (.ins C dx fs))(c:Cls X.K C)(k:Meth X.K C m g)(l:fs.lookup m=none)(h:Q (.ref g,[.ref a]) s):wpAny (model X.prog X.w) A (getMethod (.ref a) m pl) Q E s:=by
 obtain ⟨d,O,r,_,_,_⟩:=Qx I.hok e;have b:=RelO.none_of (by rw [<-l];exact r m);exact Zol I.kIn O (c.get m) k.at_ k.fn b h
def Zk1(I:Inv X pins Y H s)(e:H a=some (.ins C dx fs))(c:Cls X.K C)(n:Hw X.K C f)(hl:fs.length<1000)(ry:RelV y u)(h:∀s',Inv X pins Y (upd H a (.ins C dx (putF f y fs))) s'->Q () s'):wpAny (model X.prog X.w) A (setAttr (.ref a) f u) Q E s:=by
 obtain ⟨k,O,r,j,_,i⟩:=Qx I.hok e;have m:(fs.map (·.1)).length<=sizeLine:=by rw [Ah,sizeLine_eq];omega
 refine ZrT I.kIn O c.sa c.po n.taker c.hd j m λp d x=>h _ ?_;have v:∃o,p.get? dx=some o:=let ⟨o,_,_,e',_⟩:=d.ns;⟨o,e'⟩;refine I.write (by rw [e];exact True.intro) (.inr i) (λb q l z=>(x.2 b l).trans z) v ?_;refine ⟨by rw [Ag O.ne];exact i,?_,O.ne,d.obj,_,d.ns,λg=>?_,λg t=>?_⟩
 .have:=ZfL f y fs;omega
 .show RelO ((putF f y fs).lookup g) (if g=f then some u else k g)
  rw [Wl];by_cases q:g=f
  .rw [iP q,iP q];exact ry
  .rw [iN q,iN q];exact r g
 .by_cases q:g=f
  .rw [q];exact (Va f y fs).1
  .refine (Va f y fs).2 g (j g λz=>t ?_);show (if g=f then some u else k g)=none
   rw [iN q];exact z
def Inv.made(I:Inv X pins Y H s):Inv X pins Y (upd (upd H s.heap.objs.size (.own (s.heap.objs.size+1))) (s.heap.objs.size+1) (.ins C s.heap.objs.size []))
  { s with heap:=(s.heap.push W.emptyDict).push (W.instObj C s.heap.objs.size) }:=by
 have a:(s.heap.push W.emptyDict).get? s.heap.objs.size=some W.emptyDict:=Dq s.heap rfl;have i:((s.heap.push W.emptyDict).push (W.instObj C s.heap.objs.size)).get? (s.heap.objs.size+1)=some (W.instObj C s.heap.objs.size):=by
  have:=Dq (s.heap.push W.emptyDict) (o:=W.instObj C s.heap.objs.size) rfl;rwa [Ga] at this
 have f:(s.heap.push W.emptyDict).Ns s.heap.objs.size (λ_=>none):=⟨W.emptyDict,#[],_,a,rfl,(λe h=>aB h (by simp)),λ_=>rfl⟩;have g:=I.laid (o:=.own (s.heap.objs.size+1)) (t':=s.toks) (λb u q=>Bc _ q) (Ao _) ⟨_,a⟩;refine g.laid (λb u q=>Bc _ q) (Nat.le_of_eq (Ga _ _)) ?_;have c:s.heap.objs.size≠s.heap.objs.size+1:=Bq (Oe _);refine ⟨by rw [Ag c,Ax],DX _,c,i,λ_=>none,(Heap.Ns1.of_empty f).at λo q=>Bc _ q,λ_=>True.intro,λy d=>aB rfl d⟩
def Zk7(hb:attributeBase e f env (eval e env)=eval e env)(h:wpAny (model prog w) A (eval e env) (λo s₁=>wpAny (model prog w) A (getAttr o f true) Q E s₁) E s):wpAny (model prog w) A (eval (.Attribute e f pos) env) Q E s :=
 Attribute_any_ h (by rw [arm_eval_Attribute,hb])
end
def tFld(K:W.Frag)(ta:TE)(f:Str):TE:=λY H Q=>ta Y H λx b=>∃a C d c v,x=.ref a/\b a=some (.ins C d c)/\Cls K C/\Hw K C f/\c.lookup f=some v/\Q v b
def sFld(K:W.Frag)(ta tv:TE)(f:Str):TS:=λD Y H=>tv Y H λy e=>ta Y e λx c=>∃a C d b,x=.ref a/\c a=some (.ins C d b)/\Cls K C/\Hw K C f/\b.length<1000 /\
 D.nx Y (upd c a (.ins C d (putF f y b)))
section
variable{X:Cx}{o e value:Expr}{f:Str}{pos pos' tpos:Pos}{ta tv:TE}
def ZuX(he:PE X e ta)(hb:attributeBase e f X.env (eval e X.env)=eval e X.env):PE X (.Attribute e f pos) (tFld X.K ta f):=by
 intro b s Y H Q I h;refine Zk7 hb (thn (he b s Y H _ I h) λu s1 zq=>?_);obtain ⟨x,H1,I1,rx,a,C,dx,fs,v,ex,ea,c,n,l,q⟩:=zq;subst ex;obtain rfl:u=Value.ref a:=rx;exact Zkl I1 ea c n l λj i d g=>⟨v,H1,d,g,q⟩
def Ztg(ha:PE X o ta)(hv:PE X value tv)(hs:swapsWith value (some (.Attribute o f pos')) pos.line X.env=pure false):PS X (.Assign [.Attribute o f pos'] value pos) (sFld X.K ta tv f):=by
 intro b s Y H D I h;refine plainObj_wpAny_Assign_Attribute (thn (hv b s Y H _ I h) λu d zq=>?_) hs;obtain ⟨y,i,g,e,q⟩:=zq;refine thn (ha b d Y i _ g q) λov s2 zq=>?_;obtain ⟨x,H2,I2,rx,a,C,dx,fs,ex,ea,c,n,l,q2⟩:=zq;subst ex;obtain rfl:ov=Value.ref a:=rx;exact Zk1 I2 ea c n l e λk j=>⟨Y,_,j,q2⟩
end
section
variable{X:Cx}{pins:List (Addr×Obj)}{Y:St}{H:Hp}{s:Shared}{A:Around}{E:Value->Shared->Prop}{Q:Value->Shared->Prop}{c:Value}{b:Bool}
inductive TyOf(K:W.Frag)(H:Hp):V->Value->Prop where
 | non:TyOf K H .non (.type "NoneType")
 | bl (x:Bool):TyOf K H (.bl x) (.type "bool")
 | int (i:Int):TyOf K H (.int i) (.type "int")
 | str (x:Str):TyOf K H (.str x) (.type "str")
 | lst {a:Addr} {xs:List V} (e:H a=some (.lst xs)):TyOf K H (.ref a) (.type "list")
 | frz {a:Addr} {o:Obj} {xs:List V} (e:H a=some (.frz o (.lst xs))):TyOf K H (.ref a) (.type "list")
 | tup {a:Addr} {xs:List V} (e:H a=some (.tup xs)):TyOf K H (.ref a) (.type "tuple")
 | ins {a C dx:Addr} {fs:List (Str×V)} (e:H a=some (.ins C dx fs)) (cl:Cls K C) (ha:W.findIn K (.ref C) "__class__"=some (some (.builtin "object.__class__")))
   (hn:W.specialIn K (.builtin "object.__class__") "__get__"=some (some (.builtin "getset_descriptor.__get__"))) (htk:W.takesIn K (.builtin "object.__class__")=some true)
   (hm:W.mroIn K C (.type "object")=some true):TyOf K H (.ref a) (.ref C)
def RC(I:Inv X pins Y H s)(rx:RelV x u)(ty:TyOf X.K H x t)(e:W.kitOne X.K t c=some b)(h:∀tk,Q (.bool b) { s with toks:=tk }) :
  wpAny (model X.prog X.w) A (call (.builtin "isinstance") [u,c]) Q E s:=by
 cases ty with
 | non=>cases (show u=Value.none from rx);exact Gd W.kitx_none I.kIn True.intro e (λz=>nomatch z) h
 | bl y=>cases (rx);exact Gd W.kitx_bool I.kIn True.intro e (λz=>nomatch z) h
 | int i=>obtain ⟨t,q⟩:=(rx);cases q;exact Gd W.kitx_int I.kIn True.intro e (λz=>nomatch z) h
 | str y=>obtain ⟨t,q⟩:=(rx);cases q;exact Gd W.kitx_str I.kIn True.intro e (λz=>nomatch z) h
 | @lst a g ea=>
  cases (rx);obtain ⟨_,_,n,_,d⟩:=(I.hok a _ ea);exact Gd W.kitx_list I.kIn ⟨_,d,rfl⟩ e (λz=>nomatch z) h
 | @frz a ob g ea=>
  cases (rx);obtain ⟨_,_,_,n,_,d⟩:=(I.hok a _ ea);exact Gd W.kitx_list I.kIn ⟨_,d,rfl⟩ e (λz=>nomatch z) h
 | @tup a g ea=>
  cases (rx);obtain ⟨_,_,_,p⟩:=(I.hok a _ ea);obtain ⟨o,d,f,_⟩:=p;exact Gd W.kitx_tuple I.kIn ⟨o,d,f⟩ e (λz=>nomatch z) h
 | @ins a C dx fs ea cl ha hn htk hm=>
  cases (show u=Value.ref a from rx);obtain ⟨l,O,_⟩:=Qx I.hok ea;obtain ⟨m,J,_⟩:=O.look;exact Gd (W.kitx_own (cl.get _) cl.hd ha hn htk hm) I.kIn J e (λz=>nomatch z) h
end
structure Room(k:Nat)(A:Around):Prop where
 hd:A.handled=none
 dp:A.depth+3*k+5<recursionLimit
 un:A.units+16*k+200<cLine
def Room.mono(r:Room k A)(h:j<=k):Room j A:=⟨r.hd,by have:=r.dp;omega,by have:=r.un;omega⟩
def Room.deeper(r:Room (k+1) A)(env):Room k (A.deeper env) :=
 ⟨r.hd,by have:=r.dp;show A.depth+1+3*k+5<_;omega,by have:=r.un;show A.units+3+16*k+200<_;omega⟩
def ZkK{A:Around}:(A.under (.builtin "type.__call__" ⟨.ref C::us,kw⟩)).depth=A.depth+1:=by
 first | rfl | simp [Around.under,Code.weight,Code.isCreation,Code.isGuard,Code.isCaller,Code.frames,Code.isFrame,guardIds]
def Zkv{A:Around}:(A.under (.builtin "type.__call__" ⟨.ref C::us,kw⟩)).units=A.units+1:=by
 first | rfl | simp [Around.under,Code.cUnits,Code.frames,Code.isFrame]
def Room.make(r:Room (k+1) A)(C)(us)(kw):Room k (A.under (.builtin "type.__call__" ⟨.ref C::us,kw⟩)) :=
 ⟨r.hd,by have:=r.dp;rw [ZkK];omega,by have:=r.un;rw [Zkv];omega⟩
def Room.depth(r:Room k A):A.depth<recursionLimit:=by have:=r.dp;omega
def Room.units(r:Room k A):A.units+64<cLine:=by have:=r.un;omega
def tNil:TA:=λ_ H Q=>Q [] H
def Dt(ta:TE)(tr:TA):TA:=λY H Q=>ta Y H λx b=>tr Y b λc a=>Q (x::c) a
section
variable{X:Cx}{e:Expr}{es:List Expr}{te:TE}{t:TA}{pos:Pos}
def GC:PA X [] tNil:=λ_ _ _ _ H Q I h=>Calls.spliced_nil ⟨[],H,I,.nil,h⟩
def Fz(ha:PE X e te)(hr:PA X es t)(hs:starEach (e::es) X.env=(false,eval e X.env)::starEach es X.env:=by rfl):PA X (e::es) (Dt te t):=by
 intro b a s Y H Q I h;rw [hs];refine Calls.spliced_cons (thn (ha a s Y H _ I h) λu d zq=>?_);obtain ⟨x,l,f,m,j⟩:=zq;exact thn (hr b a d Y l _ f j) λp o ⟨i,g,c,k,n⟩=>⟨x::i,g,c,.cons m k,n⟩
def tTup(t:TA):TE:=λY H Q=>t Y H λb a=>b.length<=sizeLine/\∀p,a p=none->Q (.ref p) (upd a p (.tup b))
def tLst(t:TA):TE:=λY H Q=>t Y H λb a=>b.length<=sizeLine/\∀p,a p=none->Q (.ref p) (upd a p (.lst b))
def ZuZ{x1}(h:PA X es t):PE X (.Tuple es x1 pos) (tTup t):=by
 intro a s Y H Q I k;refine wpAny_Tuple_spliced (thn (h pos a s Y H _ I k) λi c zq=>?_);obtain ⟨f,j,d,r,z,q⟩:=zq;refine ⟨by rw [<-r.length];exact z,?_⟩;have g:=d.hok.fresh (Ao _);refine ⟨.ref c.heap.objs.size,upd j c.heap.objs.size (.tup f),d.laid (λb u e=>Bc _ e) (Ao _) ?_,rfl,q _ g⟩;exact ⟨z,i,r,⟨_,Dq _ rfl,rfl,_,rfl⟩⟩
def MF(h:PA X es t):PE X (.List es pos) (tLst t):=by
 intro a s Y H Q I k;refine wpAny_List_spliced (thn (h pos a s Y H _ I k) λi c zq=>?_);obtain ⟨f,j,d,r,z,q⟩:=zq;refine ⟨by rw [<-r.length];exact z,?_⟩;have g:=d.hok.fresh (Ao _);refine ⟨.ref c.heap.objs.size,upd j c.heap.objs.size (.lst f),d.laid (λb u e=>Bc _ e) (Ao _) ?_,rfl,q _ g⟩;exact ⟨z,i,0,r,Dq _ rfl⟩
end
abbrev Sp:=List V->Hp->VK->XK->Prop
abbrev CXT:=List Env->Hp->Shared->XK->Value->Shared->Prop
structure Env0(P:Program)(w:World)(K:W.Frag)(mg:Str->Option Value)(base:Heap)(A:Around)(outer:List Env)(s:Shared)(H:Hp):Prop where
 frames:A.frames=some outer
 mod:Mod K mg base
 bs:∀b o,base.get? b=some o->s.heap.get? b=some o/\H b=none
 bsz:base.objs.size<=s.heap.objs.size
 funs:s.heap.FunFrames base outer
 frf:∀b∈frs outer,H b=none
 hok:HOk P w H s.heap
 bare:AllBare s.gens
def CE(outer:List Env)(P:Program)(w:World)(H:Hp)(s:Shared)(Q:VK)(u:Value)(s':Shared):Prop :=
 ∃v a,s'.os=s.os/\AllBare s'.gens/\Un (frs outer) [] H a s.heap s'.heap/\HOk P w a s'.heap/\RelV v u/\Q v a
def CR(CX:CXT)(outer:List Env)(P:Program)(w:World)(H:Hp)(s:Shared)(Q:VK)(E:XK)(r:Result)(s':Shared):Prop :=
 match r with
 | .ok (.ret u)=>CE outer P w H s Q u s'
 | .ok _=>False
 | .error e=>CX outer H s E e s'
structure FnOk(P:Program)(w:World)(K:W.Frag)(mg:Str->Option Value)(base:Heap)(CX:CXT)(k:Nat)(f:Addr)(fd:FuncData)(ps:List Str)(sp:Sp):Prop where
 len:∀vs H Q E,sp vs H Q E->vs.length=ps.length
 run:∀(A:Around) (outer:List Env) (s:Shared) (H:Hp) (args:Args) (us:List Value) (vs:List V) (Q:VK) (E:XK),Room k A->Env0 P w K mg base A outer s H->BindsTo s fd args (ps.zip us)->Vals vs us->sp vs H Q E ->
  codeAny (model P w) A (.call (.ref f) args) (CR CX outer P w H s Q E) s
def FnOk.mono{P:Program}{w:World}{K:W.Frag}{mg:Str->Option Value}{base:Heap}{CX:CXT}{j k:Nat}{f:Addr}{fd:FuncData}{ps:List Str}{sp:Sp}(F:FnOk P w K mg base CX j f fd ps sp)(h:j<=k) :
  FnOk P w K mg base CX k f fd ps sp:=⟨F.len,λA a s H b c d Q E e=>F.run A a s H b c d Q E (e.mono h)⟩
def FnOk.imp{P:Program}{w:World}{K:W.Frag}{mg:Str->Option Value}{base:Heap}{CX:CXT}{k:Nat}{f:Addr}{fd:FuncData}{ps:List Str}{sp sp':Sp}(F:FnOk P w K mg base CX k f fd ps sp)(h:∀vs H Q E,sp' vs H Q E->sp vs H Q E):FnOk P w K mg base CX k f fd ps sp' :=
 ⟨λvs H Q E q=>F.len vs H Q E (h _ _ _ _ q),λA a s H b g vs Q E c e d j i=>F.run A a s H b g vs Q E c e d j (h _ _ _ _ i)⟩
def Env0.make{P:Program}{w:World}{K:W.Frag}{mg:Str->Option Value}{base:Heap}{A:Around}{outer:List Env}{s:Shared}{H:Hp}(e:Env0 P w K mg base A outer s H)(C)(us)(kw) :
  Env0 P w K mg base (A.under (.builtin "type.__call__" ⟨.ref C::us,kw⟩)) outer s H:=⟨by first | exact e.frames | (simpa [Around.under,Code.envs,Code.isFrame,pushEnvs] using e.frames),e.mod,e.bs,e.bsz,e.funs,e.frf,e.hok,e.bare⟩
section
variable{X:Cx}{pins:List (Addr×Obj)}{Y:St}{H:Hp}{s s':Shared}
def Inv.env0(I:Inv X pins Y H s):Env0 X.prog X.w X.K X.mg X.base X.A X.stack s H :=
 ⟨I.ok.frames,I.ok.mod,I.bs,Ar I.ok.bsz I.sz,I.stack,I.stkFree,I.hok,I.bare⟩
def Inv.after(I:Inv X pins Y H s)(h:CE X.stack X.prog X.w H s Q u s'):EP X pins Y Q u s':=by
 obtain ⟨v,j,f,a,i,c,r,q⟩:=h;obtain ⟨k,g,d,t,e⟩:=s';obtain rfl:e=s.os:=f;exact ⟨v,j,I.call i c a (λb z=>aB z (by simp)),r,q⟩
end
def Ju(sp:Sp)(dvs:List V)(E:XK)(t:TA):TE:=λY H Q=>t Y H λb a=>sp (b++dvs) a Q E
def Zuh(C:Addr)(sp:Sp)(dvs:List V)(E:XK)(t:TA):TE:=λY H Q=>t Y H λd b=>∀x a,b x=none->b a=none->a≠x ->
 sp (.ref x::(d++dvs)) (upd (upd b a (.own x)) x (.ins C a [])) (λv c=>v=.non/\Q (.ref x) c) E
def Binds(K:W.Frag)(fd:FuncData)(ps:List Str)(ds:List Value):Prop :=
 ∀s a,K.In s.heap->(a++ds).length=ps.length->BindsTo s fd ⟨a,[]⟩ (ps.zip (a++ds))
def Binds.all{K:W.Frag}{fd:FuncData}{ps:List Str}(h:∀us:List Value,us.length=ps.length->bindArgs fd ⟨us,[]⟩=pure (ps.zip us)):Binds K fd ps []:=λs us _ a=>by
 rw [Cq] at a ⊢;exact .of_eq (h us a)
def Fd(CX:CXT)(X:Cx)(E:XK):Prop:=∀a Y H s e b,Inv X a Y H s->CX X.stack H s E e b->X.xe e b
section
variable{X:Cx}{CX:CXT}{k:Nat}{f C:Addr}{fd:FuncData}{ps:List Str}{sp:Sp}{dvs:List V}{ds:List Value}{E:XK}{x m:Str}{p pos apos:Pos}{e o:Expr}{es:List Expr}{ta:TE}{t:TA}
def Te(F:FnOk X.prog X.w X.K X.mg X.base CX k f fd ps sp)(hr:Room k X.A)(hb:Binds X.K fd ps ds)(hd:Vals dvs ds)(hx:Fd CX X E)(I:Inv X pins Y H s)(r:Vals vs us)(h:sp (vs++dvs) H Q E):wX X (call (.ref f) us) (EP X pins Y Q) X.xe s:=by
 have b:=r.append hd;have d:(us++ds).length=ps.length:=by rw [<-b.length];exact F.len _ _ _ _ h
 refine GR (HQ (F.run X.A X.stack s H ⟨us,[]⟩ (us++ds) (vs++dvs) Q E hr I.env0 (hb s us I.kIn d) b h) λr c a=>?_);cases r with
 | error e=>exact hx pins Y H s e c I a
 | ok fl=>
  cases fl with
  | ret u=>exact I.after a
  | next=>exact False.elim a
  | brk=>exact False.elim a
  | cont=>exact False.elim a
def ZqJ(F:FnOk X.prog X.w X.K X.mg X.base CX k f fd ps sp)(hr:Room k X.A)(hg:Gl X x)(hm:X.mg x=some (.ref f))(hk:W.keepIn X.K (.ref f)=true)(hb:Binds X.K fd ps ds)(hd:Vals dvs ds)(hx:Fd CX X E)(ha:PA X (e::es) t)(hdb:ND x:=by decide)(he:starEach (e::es) X.env=(false,eval e X.env)::starEach es X.env:=by rfl)(hpl:(backTo pos (starEach es X.env)).any (·.1)=false:=by rfl) :
  PE X (.Call (.Name x p) (e::es) [] pos) (Ju sp dvs E t):=by
 intro a s Y H Q I h;refine HX (Hz I hg hm ?_ hdb);refine Jj I.ok.mod.kin hk (thn (ha pos a s Y H _ I h) λd c zq=>?_) he hpl;obtain ⟨i,g,b,r,q⟩:=zq;refine ⟨b.kIn,?_⟩;exact Te F hr hb hd hx b r q
structure Mk(K:W.Frag)(C f:Addr):Prop where
 makes:W.makesIn K C=true
 init:W.findIn K (.ref C) "__init__"=some (some (.ref f))
 fn:W.isFn K (.ref f)=true
 kp:W.keepIn K (.ref C)=true
def Zon(M:Mk X.K C f)(F:FnOk X.prog X.w X.K X.mg X.base CX k f fd ps sp)(hr:Room (k+1) X.A)(hb:Binds X.K fd ps ds)(hd:Vals dvs ds)(hx:Fd CX X E)(I:Inv X pins Y H s)(r:Vals vs us)(h:∀x dx,H x=none->H dx=none->dx≠x->sp (.ref x::(vs++dvs)) (upd (upd H dx (.own x)) x (.ins C dx [])) (λv H2=>v=.non/\Q (.ref x) H2) E) :
  wX X (call (.ref C) us) (EP X pins Y Q) X.xe s:=by
 have c:=h (s.heap.objs.size+1) s.heap.objs.size (I.hok.fresh (Nat.le_succ _)) (I.hok.fresh (Ao _)) (Bq (Oe _));have b:=Inv.made (C:=C) I;have d:Vals (V.ref (s.heap.objs.size+1)::(vs++dvs)) (Value.ref (s.heap.objs.size+1)::(us++ds)):=.cons rfl (r.append hd);have g:(Value.ref (s.heap.objs.size+1)::us++ds).length=ps.length:=by
  have e:=d.length;rw [F.len _ _ _ _ c] at e;exact e.symm
 refine GR (ZnV I.kIn M.makes M.init (Dc.mp M.fn) (HQ (F.run _ X.stack _ _ ⟨Value.ref (s.heap.objs.size+1)::us,[]⟩ (Value.ref (s.heap.objs.size+1)::(us++ds)) _ _ E (hr.make C us [])
  (b.env0.make C us []) (hb _ (Value.ref (s.heap.objs.size+1)::us) b.kIn g) d c) λr m a=>?_))
 cases r with
 | error e=>exact hx pins Y _ _ e m b a
 | ok fl=>
  cases fl with
  | ret u=>
   obtain ⟨v,o,n,i,l,j⟩:=b.after a;subst l;exact ⟨i,⟨V.ref (s.heap.objs.size+1),o,n,rfl,j⟩⟩
  | next=>exact False.elim a
  | brk=>exact False.elim a
  | cont=>exact False.elim a
def ZqX(M:Mk X.K C f)(F:FnOk X.prog X.w X.K X.mg X.base CX k f fd ps sp)(hr:Room (k+1) X.A)(hg:Gl X x)(hm:X.mg x=some (.ref C))(hb:Binds X.K fd ps ds)(hd:Vals dvs ds)(hx:Fd CX X E)(ha:PA X (e::es) t)(hdb:ND x:=by decide)(he:starEach (e::es) X.env=(false,eval e X.env)::starEach es X.env:=by rfl)(hpl:(backTo pos (starEach es X.env)).any (·.1)=false:=by rfl) :
  PE X (.Call (.Name x p) (e::es) [] pos) (Zuh C sp dvs E t):=by
 intro a s Y H Q I h;refine HX (Hz I hg hm ?_ hdb);refine Jj I.ok.mod.kin M.kp (thn (ha pos a s Y H _ I h) λd c zq=>?_) he hpl;obtain ⟨i,g,b,r,q⟩:=zq;refine ⟨b.kIn,?_⟩;exact Zon M F hr hb hd hx b r q
end
structure Df(N P:List Str)(sc:Scope):Prop where
 kind:sc.kind=.function
 co:sc.isCoroutine=false
 gen:sc.isGenerator=false
 nd:N.Nodup
 pre:N.take P.length=P
 par:∀x∈P,sc.names.lookup x=some .local\/sc.names.lookup x=some .cell
 nofree:∀y∈sc.names,y.2≠.free
def Zhw{kindOf:Str->Option NameKind}{x:Str}:∀{binds:List (Str×Value)} {m:Str->Option Value},(∀v,(x,v)∉binds)->bindL kindOf binds m x=m x
 | [],_,_=>rfl
 | (n,v)::r,m,h=>by
  unfold bindL;rw [Zhw λw a=>h w (Av _ a)];split
  .have:x≠n:=by rintro rfl;exact h v Aw
   simp [this]
  .rfl
def Zif{kindOf:Str->Option NameKind}{x:Str}:∀{binds:List (Str×Value)} {m:Str->Option Value},(∀v,(x,v)∉binds)->bindC kindOf binds m x=m x
 | [],_,_=>rfl
 | (n,v)::r,m,h=>by
  unfold bindC;rw [Zif λw a=>h w (Av _ a)];split
  .rfl
  .have:x≠n:=by rintro rfl;exact h v Aw
   simp [this]
def ZhE{kindOf:Str->Option NameKind}{x:Str}{v:Value}:∀{P:List Str} {vs:List Value} {i:Nat} {m:Str->Option Value},P.Nodup->P[i]?=some x->vs[i]?=some v->kindOf x=some .local ->
  bindL kindOf (P.zip vs) m x=some v
 | [],_,_,_,_,h,_,_=>by simp at h
 | _::_,[],_,_,_,_,h,_=>by simp at h
 | p::P,w::vs,0,m,nd,h1,h2,hk=>by
  simp at h1 h2;subst h1;subst h2;show bindL kindOf ((p,w)::P.zip vs) m p=_;unfold bindL;rw [Zhw λv a=>(MT.mp nd).1 (List.of_mem_zip a).1,iP hk];simp
 | p::P,w::vs,i+1,m,nd,h1,h2,hk=>by
  show bindL kindOf ((p,w)::P.zip vs) m x=_;unfold bindL;exact ZhE (i:=i) (MT.mp nd).2 (by simpa using h1) (by simpa using h2) hk
def Zio{kindOf:Str->Option NameKind}{x:Str}{v:Value}:∀{P:List Str} {vs:List Value} {i:Nat} {m:Str->Option Value},P.Nodup->P[i]?=some x->vs[i]?=some v->kindOf x≠some .local ->
  bindC kindOf (P.zip vs) m x=some v
 | [],_,_,_,_,h,_,_=>by simp at h
 | _::_,[],_,_,_,_,h,_=>by simp at h
 | p::P,w::vs,0,m,nd,h1,h2,hk=>by
  simp at h1 h2;subst h1;subst h2;show bindC kindOf ((p,w)::P.zip vs) m p=_;unfold bindC;rw [Zif λv a=>(MT.mp nd).1 (List.of_mem_zip a).1,iN hk];simp
 | p::P,w::vs,i+1,m,nd,h1,h2,hk=>by
  show bindC kindOf ((p,w)::P.zip vs) m x=_;unfold bindC;exact Zio (i:=i) (MT.mp nd).2 (by simpa using h1) (by simpa using h2) hk
def start(N:List Str)(vs:List V):St:=vs.map some++List.replicate (N.length - vs.length) none
def cxOf(CX:CXT)(P:Program)(w:World)(K:W.Frag)(mg:Str->Option Value)(base:Heap)(N:List Str)(qual:Str)(scope:Scope)(f:Addr)(cd:Value)(A:Around)(outer:List Env)(s:Shared)(H:Hp)(E:XK):Cx where
 prog:=P
 w:=w
 K:=K
 mg:=mg
 base:=base
 A:=A.deeper (envOfC qual scope s.heap.objs.size f cd)
 N:=N
 s₀:=s
 H₀:=H
 env:=envOfC qual scope s.heap.objs.size f cd
 outer:=outer
 stack:=envOfC qual scope s.heap.objs.size f cd::outer
 ex:=[]
 calm:=true
 fn:=λ_=>true
 pn:=[]
 xe:=λe b=>wpAny (model P w) (A.deeper (envOfC qual scope s.heap.objs.size f cd)) (leaving (envOfC qual scope s.heap.objs.size f cd) e) (λ_ a=>CX outer H s E e a) (λc a=>CX outer H s E c a) b
def Wk{sc:Scope}(h:sc.names.lookup x=some .cell):∃c,(cellsFrom n sc.names []).lookup x=some c:=by
 have q:=W.cellsFrom_some sc.names n [] (.inl h);exact Option.isSome_iff_exists.mp q
def Xx{CX:CXT}{P:Program}{w:World}{K:W.Frag}{mg:Str->Option Value}{base:Heap}{N ps:List Str}{qual:Str}{scope:Scope}{f:Addr}{cd:Value}{A:Around}{outer:List Env}{s s1:Shared}{H:Hp}{E:XK}{us:List Value}{vs:List V}(S:Df N ps scope)(hd:A.handled=none)(e0:Env0 P w K mg base A outer s H)(hl:vs.length=ps.length)(r:Vals vs us)(x:InCallC s s.heap.objs.size (bindL (envOfC qual scope s.heap.objs.size f cd).kindOf (ps.zip us) λ_=>none) (cellsFrom (s.heap.objs.size+1) scope.names []) (bindC (envOfC qual scope s.heap.objs.size f cd).kindOf (ps.zip us) λ_=>none) s1) :
  Inv (cxOf CX P w K mg base N qual scope f cd A outer s H E) [] (start N vs) H s1:=by
 have D:ps.length<=N.length:=by have:=Bl List.length S.pre;rw [Hj] at this;omega
 obtain ⟨n,G,rfl,o⟩:=x.done;have g:∀b:Addr,b∉(cxOf CX P w K mg base N qual scope f cd A outer s H E).ex:=λb z=>aB (show b∈([]:List Addr) from z) (by simp)
 refine ⟨⟨e0.mod,S.kind,rfl,rfl,Ao _,λy z c n d=>?_,λy hy=>?_,λy c _ h=>?_,λ_=>hd,Around.frames_deeper e0.frames,.inr ⟨rfl,rfl⟩,λb z=>aB z (g b),e0.bs,e0.bsz,λb _ _=>g b,λb z=>aB z (g b),e0.funs,e0.frf⟩,
  rfl,e0.bare,Un.kept o,⟨_,x.toInCall.ns,λi y v n d F=>?_⟩,λy c h=>⟨_,x.cell y c h⟩,e0.hok.fresh (Ao _),λy c h=>?_,λp j=>aB (show p∈([]:List (Addr×Obj)) from j) (by simp),e0.hok.kept o,?_⟩
 .exact name_of_addr x.apart (Ei n) (Ei d)
 .have hy:scope.names.lookup y=some .cell\/scope.names.lookup y=some .free:=hy;rcases hy with hy | hy
  .exact Wk hy
  .exact aB rfl (S.nofree _ (Ei hy))
 .exact Nat.le_of_lt (x.above y c (Ei h))
 .have m:i<vs.length:=by
   unfold start at d;by_cases m:i<vs.length
   .exact m
   .rw [Ff (by simpa using m)] at d;rw [Lz] at d;split at d<;>cases d
  have B:vs[i]?=some v:=by
   unfold start at d;rw [Dn (by simpa using m),DK] at d;cases e:vs[i]? with
   | none=>rw [e] at d;cases d
   | some a=>rw [e] at d;cases d;rfl
  obtain ⟨u,t,C⟩:=r.get B;have j:ps[i]?=some y:=by
   rw [<-S.pre,List.getElem?_take_of_lt (by omega)];exact n
  have l:ps.Nodup:=by rw [<-S.pre];exact S.nd.sublist (List.take_sublist _ _)
  refine ⟨u,C,?_⟩;rcases S.par y (Ef j) with k | k
  .exact .inl ⟨k,ZhE l j t k⟩
  .obtain ⟨c,e⟩:=Wk k;refine .inr ⟨.inl k,c,e,?_⟩;have q:=x.cell y c e;rw [Zio l j t (by show scope.names.lookup y≠_;rw [k];decide)] at q;exact q
 .exact e0.hok.fresh (Nat.le_of_lt (x.above y c (Ei h)))
 .unfold start;show _=N.length;rw [Bm,Ah,RM];omega
def VR{CX:CXT}{P:Program}{w:World}{K:W.Frag}{mg:Str->Option Value}{base:Heap}{k:Nat}{f:Addr}{name qual:Str}{params:Arguments}{body:List Stmt}{scope:Scope}{dV kV doc pm cdv ct oc:Value}{an od:Option Addr}{osl:Array (Option Value)}{N ps:List Str}{sp:Sp}(lk:K.lookup f=some ⟨oc,od,.func (W.fnOf name qual params body scope dV kV doc pm an cdv ct),osl⟩)(hcd:W.codeIn K cdv qual=true)(S:Df N ps scope)(len:∀vs H Q E,sp vs H Q E->vs.length=ps.length) (hbody:∀(A:Around) (outer:List Env) (s:Shared) (H:Hp) (vs:List V) (Q:VK) (E:XK),Room k (A.deeper (envOfC qual scope s.heap.objs.size f cdv))->sp vs H Q E ->
   ∃t,PSs (cxOf CX P w K mg base N qual scope f cdv A outer s H E) body t/\t { nx:=λ_ H'=>Q .non H',rt:=Q } (start N vs) H) :
  FnOk P w K mg base CX (k+1) f (W.fnOf name qual params body scope dV kV doc pm an cdv ct) ps sp:=by
 refine ⟨len,λA outer s H B T vs Q E l g G r d=>?_⟩;have O:=len _ _ _ _ d;have C:=g.mod.kin.keeps λb o e=>(g.bs b o e).1;have j:=g.mod.nolimit.keeps λb o e=>(g.bs b o e).1;have a:∀y∈ps.zip T,scope.names.lookup y.1=some .local\/(scope.names.lookup y.1=some .cell/\((cellsFrom (s.heap.objs.size+1) scope.names []).lookup y.1).isSome=true):=λ⟨n,v⟩ R=>by
  rcases S.par n (List.of_mem_zip R).1 with q | q
  .exact .inl q
  .exact .inr ⟨q,W.cellsFrom_some _ _ _ (.inl q)⟩
 refine codeAny_call_function l.depth (C _ _ lk) rfl S.co S.gen rfl (W.codeRec_of C hcd) (G _ _ _ _ ?_);refine wpAny_newFunctionEnv_cells S.kind a λM L z x=>?_;subst L;refine ⟨j.keeps x.toInCall.keep,codeAny_func ?_⟩;obtain ⟨t,F,U⟩:=hbody A outer s H vs Q E (l.deeper _) d;have I:Inv (cxOf CX P w K mg base N qual scope f cdv A outer s H E) [] (start N vs) H z:=Xx S l.hd g O r x;refine BV (F [] z (start N vs) H _ I U) (λD p c=>?_) λe p c=>c;have h:∀{i:St} {H':Hp} {v:V} {u:Value},Inv (cxOf CX P w K mg base N qual scope f cdv A outer s H E) [] i H' p->RelV v u->Q v H'->CE outer P w H s Q u p :=
  λ{i H' v u} J m q=>⟨v,H',J.os,J.bare,J.base,J.hok,m,q⟩
 cases D with
 | ret u=>
  obtain ⟨v,i,H',J,m,q⟩:=c;exact h J m q
 | next=>
  obtain ⟨i,H',J,q⟩:=c;exact h (v:=V.non) J rfl q
 | brk=>
  obtain ⟨_,_,_,q⟩:=c;exact False.elim q
 | cont=>
  obtain ⟨_,_,_,q⟩:=c;exact False.elim q
section
variable{X:Cx}{x:Str}{p pos:Pos}{e:Expr}{es:List Expr}{t:TA}{id T:String}{r:List V->Hp->VK->Prop}
def tCB(r:List V->Hp->VK->Prop)(t:TA):TE:=λY H Q=>t Y H λb a=>r b a Q
def Yy(hc:Do X (.builtin id) r)(hg:Gl X x)(hm:X.mg x=none)(hv:bootBuiltins x=some (.builtin id))(ha:PA X (e::es) t)(hn:x ≠ "__name__":=by decide)(hdb:ND x:=by decide)(he:starEach (e::es) X.env=(false,eval e X.env)::starEach es X.env:=by rfl)(hpl:(backTo pos (starEach es X.env)).any (·.1)=false:=by rfl):PE X (.Call (.Name x p) (e::es) [] pos) (tCB r t):=by
 intro a s Y H Q I h;refine HX (KR I hg hm hv ?_ hn hdb);exact PyProof.Rows.callWith_builtin1 (thn (ha pos a s Y H _ I h) λd b zq=>by obtain ⟨i,g,f,j,c⟩:=zq;exact hc a b Y g i d Q f j c) he hpl
def Zc(hc:Do X (.type T) r)(hg:Gl X x)(hm:X.mg x=none)(hv:bootBuiltins x=some (.type T))(ha:PA X (e::es) t)(hn:x ≠ "__name__":=by decide)(hdb:ND x:=by decide)(he:starEach (e::es) X.env=(false,eval e X.env)::starEach es X.env:=by rfl)(hpl:(backTo pos (starEach es X.env)).any (·.1)=false:=by rfl):PE X (.Call (.Name x p) (e::es) [] pos) (tCB r t):=by
 intro a s Y H Q I h;refine HX (KR I hg hm hv ?_ hn hdb);exact Pz (thn (ha pos a s Y H _ I h) λd b zq=>by obtain ⟨i,g,f,j,c⟩:=zq;exact hc a b Y g i d Q f j c) he hpl
end
end L2
namespace HT
section
open PySem.SeqAt
open PySem.AutoSeq1 (wpAny_loadPart')
open PySem.MeetsSeq PySem.MeetsSeq2 PySem.MeetsSeq3
end
section
variable{prog:Program}{w:World}{A:Around}{E:Value->Shared->Prop}{s:Shared}
def ZqE(ht:IsTup s.heap t vs.toArray)(hb:IsTup s.heap b ws.toArray)(hv:vs≠[])(h1:ws=[]->Q (.ref t) s)(h2:ws≠[]->Q (.ref s.heap.objs.size) { s with heap:=s.heap.push { cls:=.type "tuple",data:=.seq (vs++ws).toArray } })(hsz:vs.length+ws.length<=sizeLine):wpAny (model prog w) A (binaryOp .Add (.ref t) (.ref b)) Q E s:=by
 obtain ⟨⟨cls,p,data,j⟩,h,k,n,o⟩:=id ht;obtain ⟨⟨m,f,i,g⟩,a,d,l,c⟩:=id hb;simp only at k o d c;subst k o d c;have e:vs.toArray++ws.toArray=(vs++ws).toArray:=by simp
 by_cases hw:ws=[]
 .exact concat_meets ⟨_,h,rfl⟩ ⟨_,a,rfl⟩ noFill_tuple_add seq_tuple_add PySem.F.slot_tuple_add PySem.F.entry_tuple_add (PySem.F.args_tuple_add_2 _ _)
   (tuple_addW1 t b vs.toArray ws.toArray n l p f j g (by simpa using hv) (by simp [hw])) ⟨h,a,h1 hw⟩
 .refine concat_meets ⟨_,h,rfl⟩ ⟨_,a,rfl⟩ noFill_tuple_add seq_tuple_add PySem.F.slot_tuple_add PySem.F.entry_tuple_add (PySem.F.args_tuple_add_2 _ _)
   (tuple_addW2 t b vs.toArray ws.toArray n l p f j g (by simpa using hv) (by simpa using hw) (by rw [CT,CT];exact hsz)) ⟨h,a,?_⟩
  rw [e];exact h2 hw
def sIx(n d:Nat):Option Int->Nat
 | none=>d
 | some v=>if v<0 then (v+(n:Int)).toNat else min v.toNat n
def Zl6(v:Int)(n d:Nat):(if v<0 then max (v+(n:Int)) 0 else min v (n:Int))=((sIx n d (some v):Nat):Int):=by
 show (if v<0 then max (v+(n:Int)) 0 else min v (n:Int))=(((if v<0 then (v+(n:Int)).toNat else min v.toNat n):Nat):Int)
 by_cases hv:v<0
 .simp only [iP hv];omega
 .simp only [iN hv];omega
def Zks(lo hi:Option Int)(n:Nat):Builtin.Slice.sliceAdjust lo hi 1 (n:Int)=(((sIx n 0 lo:Nat):Int),((sIx n n hi:Nat):Int)):=by
 have a:¬((1:Int)<0):=by omega
 unfold Builtin.Slice.sliceAdjust;simp only [a,Cu];refine Prod.ext ?_ ?_
 .cases lo with
  | none=>rfl
  | some v=>exact Zl6 v n 0
 .cases hi with
  | none=>rfl
  | some v=>exact Zl6 v n n
def ZkC(i j:Nat):Builtin.Slice.slicePlaces (i:Int) (j:Int) 1=j - i:=by
 unfold Builtin.Slice.slicePlaces;have a:(1:Int)>0:=by omega
 simp only [a,Cw,Int.ediv_one];split<;>omega
def YK(p:IsPart v o)(h:Q o s):wpAny (model prog w) A (Builtin.Slice.slicePartIndex v) Q E s:=by
 cases p with
 | none=>exact slicePart_none h
 | int i t=>exact slicePart_int h
def Wv{sl:Addr}{vl vu:Value}{lo hi:Option Int}{n:Nat}{Q:Int×Int×Nat->Shared->Prop}(hs:s.heap.IsSliceOf sl vl vu .none)(pl:IsPart vl lo)(pu:IsPart vu hi)(h:Q (((sIx n 0 lo:Nat):Int),1,sIx n n hi - sIx n 0 lo) s):wpAny (model prog w) A (Builtin.Slice.sliceApplied (.ref sl) (pure (n:Int))) Q E s:=by
 obtain ⟨d,a,c,b⟩:=id hs;unfold Builtin.Slice.sliceApplied Builtin.Slice.sliceFields;refine Ac (Ac (Es a b rfl (Ac (Es a b rfl (Ac (Es a b rfl (Af ?_)))))));refine Ac (slicePart_none ?_);rw [iN (by decide)];refine Ac (YK pl (Ac (YK pu (Ac (Af ?_)))));show wpAny _ _ (match Builtin.Slice.sliceAdjust lo hi 1 (n:Int) with | (lo,hi)=>pure (lo,(1:Int),Builtin.Slice.slicePlaces lo hi 1)) _ _ s
 rw [Zks lo hi n];show wpAny _ _ (pure (((sIx n 0 lo:Nat):Int),(1:Int),Builtin.Slice.slicePlaces ((sIx n 0 lo:Nat):Int) ((sIx n n hi:Nat):Int) 1)) _ _ s;rw [ZkC];exact Af h
def ZnW(xs:Array Value)(i k:Nat):((List.range k).filterMap λ(m:Nat)=>xs[((i:Int)+(m:Int)*1).toNat]?).toArray=((xs.toList.drop i).take k).toArray:=by
 have e:(λ(m:Nat)=>xs[((i:Int)+(m:Int)*1).toNat]?)=λm=>xs[i+m]?:=by
  funext m;have:((i:Int)+(m:Int)*1).toNat=i+m:=by omega
  rw [this]
 rw [e];have:=pick_run xs i k;rw [List.filterMap_map] at this;have a:((λx=>xs[x]?) ∘ λx=>i+x)=λm=>xs[i+m]?:=rfl;rw [a] at this;rw [this]
def Zev{t sl:Addr}{items:Array Value}{vl vu:Value}{lo hi:Option Int}{Q:Value->Shared->Prop}(ht:IsTup s.heap t items)(hs:s.heap.IsSliceOf sl vl vu .none)(pl:IsPart vl lo)(pu:IsPart vu hi)(hw:¬(sIx items.size 0 lo=0/\sIx items.size items.size hi=items.size))(h:Q (.ref s.heap.objs.size) { s with heap:=s.heap.push { cls:=.type "tuple",data:=.seq ((items.toList.drop (sIx items.size 0 lo)).take (sIx items.size items.size hi - sIx items.size 0 lo)).toArray } })(hsz:items.size<=sizeLine):wpAny (model prog w) A (getItem (.ref t) (.ref sl)) Q E s:=by
 have a:sizeOk (.seq ((items.toList.drop (sIx items.size 0 lo)).take (sIx items.size items.size hi - sIx items.size 0 lo)).toArray):=by
  show ((items.toList.drop (sIx items.size 0 lo)).take (sIx items.size items.size hi - sIx items.size 0 lo)).toArray.size<=sizeLine;rw [CT,Hj,DP,Ko];omega
 obtain ⟨g,b,c,f⟩:=id hs;have e:s.TypeIs (.ref sl) "slice":=⟨g,b,c⟩;unfold getItem
 try with_reducible refine Cv ?_
 first | refine Ac (Af ?_) | skip
 refine Ac (wpAny_sequenceKey ht.typeIs (by decide) ?_)
 refine Ac (wpAny_callSpecial?_slot ht.typeIs PL
  (wpAny_call_entry PL ht.typeIs entry_tuple_getitem ?_ (args_tuple_getitem _ _)))
 show wpAny _ _ (Builtin.Tuple.tupleItemsOf (.ref t) >>= _) _ _ s;refine Ac (tupleItemsOf_ ht ?_);refine Ac (JX e ?_);rw [iP (by decide)];refine Ac (Wv hs pl pu ?_);have d:¬((((sIx items.size 0 lo:Nat):Int)==0&&(1:Int)==1&&(sIx items.size items.size hi - sIx items.size 0 lo)==items.size)=true):=by
  intro q;rw [Bo,Bo] at q;have i:=eq_of_beq q.1.1;have j:=eq_of_beq q.2;exact hw ⟨by omega,by omega⟩
 show wpAny _ _ (if (((sIx items.size 0 lo:Nat):Int)==0&&(1:Int)==1&&(sIx items.size items.size hi - sIx items.size 0 lo)==items.size)=true then _ else _) _ _ s
 rw [iN d,ZnW]
 first
  | exact Ac (JQ (Af ⟨_,rfl,Af h⟩) a)
  | exact Ac (JQ (Ac (Af (Af ⟨_,rfl,Af h⟩))) a)
  | exact Ac (Ac (JQ (Af (Af ⟨_,rfl,Af h⟩)) a))
  | exact Ac (Ac (JQ (Af ⟨_,rfl,Af h⟩) a))
end
end HT
namespace L2
abbrev TO:=St->Hp->(Option Int->Hp->Prop)->Prop
def PO(X:Cx)(e:Option Expr)(t:TO):Prop :=
 ∀a s Y H Q,Inv X a Y H s->t Y H Q ->
  wX X (evalPart e X.env) (λu c=>∃o b,Inv X a Y b c/\IsPart u o/\Q o b) X.xe s
def Ud:TO:=λ_ H Q=>Q none H
def Rw(t:TE):TO:=λY H Q=>t Y H λx a=>∃i,x=.int i/\Q (some i) a
section
variable{X:Cx}{e:Expr}{te:TE}{lo hi:Option Expr}{tl th:TO}{pos p2:Pos}
def Zrx:PO X none Ud:=by
 intro a s Y H Q I h;rw [evalPart_none];exact Af ⟨none,H,I,.none,h⟩
def Zq7(h:PE X e te):PO X (some e) (Rw te):=by
 intro a s Y H Q I b;rw [evalPart_some];refine thn (h a s Y H _ I b) λu j zq=>?_;obtain ⟨x,f,d,g,c⟩:=zq;obtain ⟨i,rfl,q⟩:=c;obtain ⟨t,rfl⟩:=g;exact ⟨some i,f,d,.int i t,q⟩
def SlR(X:Cx)(r:V->Option Int->Option Int->Hp->VK->Prop):Prop :=
 ∀a s Y H x v f e d c b Q,Inv X a Y H s->RelV x v->s.heap.IsSliceOf b f e .none->IsPart f d->IsPart e c->r x d c H Q ->
  ∃T g,typeLookup (.type T) "__getitem__"=pure (some (.builtin g))/\s.TypeIs v T/\wX X (getItem v (.ref b)) (EP X a Y Q) X.xe s
def SlR.or(h:SlR X r)(h':SlR X r'):SlR X (λx lo hi H Q=>r x lo hi H Q\/r' x lo hi H Q):=by
 intro a s Y H x v f e lo hi d Q I c g i b q;rcases q with q | q
 .exact h a s Y H x v f e lo hi d Q I c g i b q
 .exact h' a s Y H x v f e lo hi d Q I c g i b q
def tSl(r:V->Option Int->Option Int->Hp->VK->Prop)(te:TE)(tl th:TO):TE:=λY H Q=>te Y H λx c=>tl Y c λl a=>th Y a λu b=>r x l u b Q
def V6(hr:SlR X r)(he:PE X e te)(hl:PO X lo tl)(hu:PO X hi th):PE X (.Subscript e (.Slice lo hi none p2) pos) (tSl r te tl th):=by
 intro a s Y H Q I h;refine Subscript_ (thn (he a s Y H _ I h) λv k zq=>?_);obtain ⟨x,z,m,C,w⟩:=zq;refine wpAny_Slice (thn (hl a k Y z _ m w) λf p zq=>?_);obtain ⟨l,t,i,D,E⟩:=zq;refine thn (hu a p Y t _ i E) λd c zq=>?_;obtain ⟨u,g,o,j,y⟩:=zq;rw [evalPart_none];refine Af ?_;have A:Inv X a Y g { c with heap:=c.heap.push { cls:=.type "slice",data:=.fields #[f,d,.none] } }:=o.kept λb G q=>Bc _ q
 obtain ⟨T,J,B,n,F⟩:=hr a { c with heap:=c.heap.push { cls:=.type "slice",data:=.fields #[f,d,.none] } } Y g x v f d l u c.heap.objs.size Q A C (Heap.IsSliceOf.new ..) D j y;exact tail_any n B F (by with_unfolding_all rfl)
def cutV(xs:List V)(lo hi:Option Int):List V:=(xs.drop (HT.sIx xs.length 0 lo)).take (HT.sIx xs.length xs.length hi - HT.sIx xs.length 0 lo)
def ZfI(xs)(lo hi):(cutV xs lo hi).length<=xs.length:=by
 unfold cutV;rw [Hj,DP];omega
def rSlT(K:W.Frag):V->Option Int->Option Int->Hp->VK->Prop:=λx d c H Q=>∃a b,x=.ref a/\SqT K H a b /\
 ¬(HT.sIx b.length 0 d=0/\HT.sIx b.length b.length c=b.length)/\∀p,H p=none->Q (.ref p) (upd H p (.tup (cutV b d c)))
def ZuS:SlR X (rSlT X.K):=by
 intro k s Y H x v z y e g w Q I n p t l h;obtain ⟨a,d,rfl,o,m,q⟩:=h;cases n;obtain ⟨f,r,i,j⟩:=I.tuple o;have c:f.toArray.size=d.length:=by rw [CT];exact r.length.symm
 refine ⟨"tuple",_,PyProof.Rows.slot_tuple_getitem.lookup,i.typeIs,?_⟩;refine HT.Zev i p t l (by rw [c];exact m) ?_ (by rw [c];exact j);rw [c];refine ⟨.ref s.heap.objs.size,_,I.laid (λb u q=>Bc _ q) (Ao _) ?_,rfl,q _ (I.hok.fresh (Ao _))⟩;exact ⟨Ar (ZfI d e g) j,_,(r.drop (HT.sIx d.length 0 e)).take (HT.sIx d.length d.length g - HT.sIx d.length 0 e),IsTup.new _ _⟩
def Zwx(K:W.Frag):R2:=λx y H Q=>∃a b d c,x=.ref a/\y=.ref b/\SqT K H a d/\SqT K H b c/\d≠[]/\d.length+c.length<=sizeLine /\
 (c=[]->Q (.ref a) H)/\(c≠[]->∀p,H p=none->Q (.ref p) (upd H p (.tup (d++c))))
def Vals.nil_iff(r:Vals xs us):us=[]↔xs=[]:=by
 cases r with
 | nil=>simp
 | cons _ _=>simp
def ZrE:OpR X (binaryOp .Add) (Zwx X.K):=by
 intro g s Y H x y v u Q I j k h;obtain ⟨a,b,B,C,rfl,rfl,m,l,o,f,n,t⟩:=h;cases j;cases k;obtain ⟨r,d,p,_⟩:=I.tuple m;obtain ⟨e,c,i,_⟩:=I.tuple l;refine HT.ZqE p i (λz=>o (d.nil_iff.mp z)) (λz=>⟨.ref a,H,I,rfl,n (c.nil_iff.mp z)⟩) (λz=>?_) (by rw [<-d.length,<-c.length];exact f);refine ⟨.ref s.heap.objs.size,_,I.laid (λb A q=>Bc _ q) (Ao _) ?_,rfl,t (λw=>z (c.nil_iff.mpr w)) _ (I.hok.fresh (Ao _))⟩;exact ⟨by rw [Bm];exact f,_,d.append c,IsTup.new _ _⟩
end
def ixN(n:Nat)(i:Int):Option Nat:=if 0<=i then (if i<n then some i.toNat else none) else if -(n:Int)<=i then some (i+n).toNat else none
def atI(xs:List α)(i:Int):Option α:=(ixN xs.length i).bind λj=>xs[j]?
def ZqG(h:ixN n i=some j):seqIndex? i n=some j/\j<n/\-(n:Int)<=i/\i<n:=by
 unfold ixN at h;by_cases h0:0<=i
 .rw [iP h0] at h;by_cases h1:i<n
  .rw [iP h1] at h;have e:=Be h;exact ⟨by rw [seqIndex_of h0 h1,e],by omega,by omega,h1⟩
  .rw [iN h1] at h;cases h
 .rw [iN h0] at h;by_cases h1:-(n:Int)<=i
  .rw [iP h1] at h;have e:=Be h;exact ⟨by rw [seqIndex_neg (by omega) h1,e],by omega,h1,by omega⟩
  .rw [iN h1] at h;cases h
def Tr(h:atI xs i=some v):∃j,seqIndex? i xs.length=some j/\xs[j]?=some v/\j<xs.length/\-(xs.length:Int)<=i/\i<xs.length:=by
 unfold atI at h;cases e:ixN xs.length i with
 | none=>rw [e] at h;cases h
 | some j=>
  rw [e] at h;obtain ⟨d,b,a,c⟩:=ZqG e;exact ⟨j,d,h,b,a,c⟩
def Sv(b:Expr):Prop:=∀o i,subscripted b false o i=operate [o,i] (getItem o i)
def IxR(X:Cx)(r:R2):Prop :=
 ∀c a b s Y H x y v u Q,Inv X b Y H s->RelV x v->RelV y u->r x y H Q ->
  subscripted a false v u=operate [v,u] (getItem v u)->wX X (subscriptTail c a v u) (EP X b Y Q) X.xe s
def MtR(X:Cx)(id:String)(r:V->List V->Hp->VK->Prop):Prop :=
 ∀a s Y H x b v c Q,Inv X a Y H s->RelV x v->Vals b c->r x b H Q ->
  wX X (call (.builtin id) (v::c)) (EP X a Y Q) X.xe s
section
variable{X:Cx}{a b:Expr}{ta tb:TE}{pos:Pos}
def IxR.or(h:IxR X r)(h':IxR X r'):IxR X (λx y H Q=>r x y H Q\/r' x y H Q):=by
 intro a b c s Y H x y v u Q I d e q f;rcases q with q | q
 .exact h a b c s Y H x y v u Q I d e q f
 .exact h' a b c s Y H x y v u Q I d e q f
def Sh(hr:IxR X r)(ha:PE X a ta)(hb:PE X b tb)(hs:Sv b):PE X (.Subscript a b pos) (tOp r ta tb):=by
 intro c s Y H Q I h;exact Subscript_ (binT ha hb I h λv u g x y i d e f q=>hr a b c g Y i x y v u Q d e f q (hs _ _))
def rIxL(K:W.Frag):R2:=λx y H Q=>∃p a i v,x=.ref p/\y=.int i/\SqL K H p a/\atI a i=some v/\Q v H
def rIxT(K:W.Frag):R2:=λx y H Q=>∃p a i v,x=.ref p/\y=.int i/\SqT K H p a/\atI a i=some v/\Q v H
def rIxS:R2:=λx y H Q=>∃z i c,x=.str z/\y=.int i/\z.length<=sizeLine/\atI z.cps.toList i=some c/\Q (.str ⟨#[c]⟩) H
def Ww:IxR X (rIxL X.K):=by
 intro k d a s Y H x y v u Q I C o h n;obtain ⟨p,J,i,z,rfl,rfl,G,A,q⟩:=h;cases C;obtain ⟨t,rfl⟩:=o;obtain ⟨e,r,l,N⟩:=I.list G;obtain ⟨j,c,E,M,D,F⟩:=Tr A;obtain ⟨w,m,f⟩:=r.get E;have B:=r.length;have L:=M5;have b:EP X a Y Q w s:=⟨z,H,I,f,q⟩;by_cases h0:0<=i
 .have g:i.toNat=j:=by
   rw [seqIndex_of h0 F] at c;exact Be c
  exact item_listR l.isList h0 (by omega) (by rw [g];simpa using m) b n
 .have g:(i+(e.toArray.size:Int)).toNat=j:=by
   rw [seqIndex_neg (by omega) D] at c;rw [CT,<-B];exact Be c
  exact subscriptTail_builtinR l.isList.typeIs slot_list_getitem.lookup
   (wpAny_getItem_list_neg l.isList (by omega) (by rw [CT]<;>omega) (by omega) (by rw [g];simpa using m) ⟨rfl,b⟩) n
def ZpT:IxR X (rIxT X.K):=by
 intro e b a s Y H x y v u Q I o k h C;obtain ⟨p,E,i,z,rfl,rfl,D,l,q⟩:=h;cases o;obtain ⟨t,rfl⟩:=k;obtain ⟨n,r,f,L⟩:=I.tuple D;obtain ⟨j,g,A,G,J,M⟩:=Tr l;obtain ⟨w,B,d⟩:=r.get A;have m:=r.length;have F:=M5;have c:EP X a Y Q w s:=⟨z,H,I,d,q⟩;exact subscriptTail_builtinR f.typeIs slot_tuple_getitem.lookup
  (getItem_tuple f (by omega) (by omega) (by rw [CT,<-m];exact g) (by simpa using B) ⟨rfl,c⟩) C
def Zui:IxR X rIxS:=by
 intro a b e s Y H x y v u Q I f g h r;obtain ⟨z,i,c,rfl,rfl,B,k,q⟩:=h;obtain ⟨t,rfl⟩:=f;obtain ⟨D,rfl⟩:=g;obtain ⟨j,d,l,A,p,o⟩:=Tr k;have m:z.cps.toList.length=z.length:=by simp [Str.length]
 rw [m] at d p o;have C:=M5
 exact tail_any (GX s z t) slot_str_getitem.lookup (getItem_str (by
  have n:decide (i < -(2^63:Int))=false:=Al (by omega);have w:decide (i>=2^63)=false:=Al (by omega)
  rw [n,w,Bool.or_false]) (by rw [d];simpa using l) ⟨.str ⟨#[c]⟩,H,I.tok _,⟨_,rfl⟩,q⟩) r
def Ziu(lo hi)(n):(sliceBounds lo hi none n).1=((HT.sIx n 0 lo:Nat):Int)/\(sliceBounds lo hi none n).2.1=((HT.sIx n n hi:Nat):Int)/\(sliceBounds lo hi none n).2.2=1:=by
 refine ⟨?_,?_,rfl⟩
 .cases lo with
  | none=>simp [sliceBounds,HT.sIx]
  | some i=>
   simp only [sliceBounds,HT.sIx,Option.getD_none,show (1:Int)>0 by decide,Cw];by_cases h:i<0
   .simp only [h,Cw]<;>omega
   .simp only [h,Cu]<;>omega
 .cases hi with
  | none=>simp [sliceBounds,HT.sIx]
  | some i=>
   simp only [sliceBounds,HT.sIx,Option.getD_none,show (1:Int)>0 by decide,Cw];by_cases h:i<0
   .simp only [h,Cw]<;>omega
   .simp only [h,Cu]<;>omega
def ZgE(its:List Value)(lo hi:Option Int):slicePick its.toArray lo hi none=((its.drop (HT.sIx its.length 0 lo)).take (HT.sIx its.length its.length hi - HT.sIx its.length 0 lo)).toArray:=by
 obtain ⟨c,b,a⟩:=Ziu lo hi its.toArray.size;unfold slicePick;rw [c,b,a];simp only [sliceRange_one,pick_run,CT]<;>rfl
def rSlL(K:W.Frag):V->Option Int->Option Int->Hp->VK->Prop:=λx d c H Q=>∃a b,x=.ref a/\SqL K H a b/\∀p,H p=none->Q (.ref p) (upd H p (.lst (cutV b d c)))
def Zsz:SlR X (rSlL X.K):=by
 intro i s Y H x v y w e f u Q I k o p j h;obtain ⟨a,c,rfl,n,q⟩:=h;cases k;obtain ⟨m,r,g,l⟩:=I.list n;have d:=r.length;refine ⟨"list",_,slot_list_getitem.lookup,g.isList.typeIs,?_⟩;refine wpAny_getItem_list_slice g.isList o p j .none (by simp) ?_ (by rw [CT]<;>omega);rw [ZgE,<-d];refine ⟨.ref s.heap.objs.size,_,I.laid (λb t q=>Bc _ q) (Ao _) ?_,rfl,q _ (I.hok.fresh (Ao _))⟩;exact ⟨Ar (ZfI c e f) l,_,0,(r.drop (HT.sIx c.length 0 e)).take (HT.sIx c.length c.length f - HT.sIx c.length 0 e),Dq _ rfl⟩
def Zv:Do X (.builtin "len") (λxs H Q=>∃p ys,xs=[.ref p]/\(SqL X.K H p ys\/SqT X.K H p ys)/\Q (.int ys.length) H):=by
 intro e s Y H xs j Q I r h;obtain ⟨p,ys,rfl,hq,q⟩:=h;obtain ⟨u,rfl,f⟩:=vals1 r;cases f;have i:=M5;rcases hq with hq | hq
 .obtain ⟨d,c,b,g⟩:=I.list hq;have a:=c.length;exact Calls.call_len_list b.isList (by simp only [CT]<;>omega) ⟨.int ys.length,H,I.tok _,⟨s.toks+1,by rw [CT,a]⟩,q⟩
 .obtain ⟨d,c,b,g⟩:=I.tuple hq;have a:=c.length;exact len_tuple b (by simp only [CT]<;>omega) ⟨.int ys.length,H,I.tok _,⟨s.toks+1,by rw [CT,a]⟩,q⟩
def ZhS:Do X (.type "list") (λxs H Q=>∃p ys,xs=[.ref p]/\(SqL X.K H p ys\/SqT X.K H p ys)/\∀l,H l=none->Q (.ref l) (upd H l (.lst ys))):=by
 intro g s Y H xs B Q I r h;obtain ⟨p,ys,rfl,hq,q⟩:=h;obtain ⟨u,rfl,A⟩:=vals1 r;cases A;have j:∀a,Vals ys a->ys.length<=sizeLine->∀c f,(∀b z,s.heap.get? b=some z->c.get? b=some z) ->
   c.get? s.heap.objs.size=some { cls:=.type "list",dict:=none,data:=.seq a.toArray f,slots:=#[] }->EP X g Y Q (.ref s.heap.objs.size) { s with heap:=c }:=λa d k c f i e=>
  ⟨.ref s.heap.objs.size,_,I.laid i (Ao _) (show Dj X.prog X.w _ c _ (.lst ys) from ⟨k,a,f,d,e⟩),rfl,q _ (I.hok.fresh (Ao _))⟩
 rcases hq with hq | hq
 .obtain ⟨a,d,v,k⟩:=I.list hq;have m:=d.length;obtain ⟨o,t,x,n,y⟩:=v.isList;exact call_list_seq p (.inl rfl) t x y (λc f i e=>j a d k c f i e) (by simp only [CT]<;>omega)
 .obtain ⟨a,d,v,k⟩:=I.tuple hq;have m:=d.length;obtain ⟨o,t,x,n,y⟩:=v;exact call_list_seq p (.inr rfl) t x y (λc f i e=>j a d k c f i e) (by simp only [CT]<;>omega)
def VF:Do X (.type "tuple") (λxs H Q=>∃p ys,xs=[.ref p]/\((SqL X.K H p ys/\∀l,H l=none->Q (.ref l) (upd H l (.tup ys)))\/(SqT X.K H p ys/\Q (.ref p) H))):=by
 intro c s Y H xs v Q I r h;obtain ⟨p,ys,rfl,h⟩:=h;obtain ⟨u,rfl,m⟩:=vals1 r;cases m;rcases h with ⟨hq,q⟩ | ⟨hq,q⟩
 .obtain ⟨a,f,g,j⟩:=I.list hq;have k:=f.length;refine call_tuple_list g.isList (λd n=>?_) (by simp only [CT]<;>omega);have i:=I.kept (t':=s.toks) n;have t:Inv X c Y (upd H d.objs.size (.tup ys)) { s with heap:=d.push { cls:=.type "tuple",data:=.seq a.toArray } } :=
   i.laid (λb o e=>Bc _ e) (Ao _) (⟨j,a,f,IsTup.new _ _⟩)
  exact ⟨.ref d.objs.size,_,t,rfl,q _ (i.hok.fresh (Ao _))⟩
 .obtain ⟨a,f,g,j⟩:=I.tuple hq;exact call_tuple_same g ⟨.ref p,H,I,rfl,q⟩
def tyV(K:W.Frag)(T:String)(x:V)(H:Hp):Prop:=match x with
 | .str _=>T = "str"
 | .int _=>T = "int"
 | .ref p=>(T = "list"/\∃b,SqL K H p b)\/(T = "tuple"/\∃o,K.lookup p=some o/\o.cls=.type "tuple"/\o.dict=none) \/False
 | _=>False
def Zu4(I:Inv X pins Y H s)(r:RelV x v)(ty:tyV X.K T x H) :
  s.TypeIs v T/\∀a,v=.ref a->∃ob,s.heap.get? a=some ob/\ob.dict=none:=by
 cases x with
 | str z=>
  obtain ⟨t,rfl⟩:=r;cases (ty);exact ⟨GX s z t,λ_ e=>nomatch e⟩
 | int i=>
  obtain ⟨t,rfl⟩:=r;cases (ty);exact ⟨typeIs_int s i t,λ_ e=>nomatch e⟩
 | ref p=>
  cases r;rcases ty with ⟨rfl,xs,hq⟩ | ⟨rfl,o,hk,hc,b⟩ | c
  .obtain ⟨g,_,f,_⟩:=I.list hq;refine ⟨f.isList.typeIs,λa e=>?_⟩;cases e;obtain ⟨o,n,e,c,b,_⟩:=f;exact ⟨o,e,b⟩
  .refine ⟨⟨o,I.kIn p o hk,hc⟩,λa e=>?_⟩;cases e;exact ⟨o,I.kIn _ o hk,b⟩
  .exact c.elim
 | _=>exact False.elim ty
def tBM(K:W.Frag)(T:String)(r:V->List V->Hp->VK->Prop)(to:TE)(t:TA):TE:=λY H Q=>to Y H λx a=>tyV K T x a/\t Y a λc b=>r x c b Q
variable{o e:Expr}{es:List Expr}{to:TE}{t:TA}{name:Str}{apos cpos:Pos}{T id:String}{r:V->List V->Hp->VK->Prop}
def PX(pa:PlainAttrs T)(slot:Slot T name id)(hty:typeOf (.builtin id)=pure (.type "method_descriptor"))(hm:MtR X id r)(ho:PE X o to)(ha:PA X (e::es) t)(hbase:attributeBase o name X.env (eval o X.env)=eval o X.env:=by rfl) (hfew:((backTo cpos (starEach (e::es) X.env)).all (λx=>!x.1)&&(backToKw cpos (keywordEach [] X.env)).all (λx=>x.1.isSome)
   && decide ((e::es).length+([]:List Keyword).length+(if ([]:List Keyword).isEmpty then 0 else 1)<30))=true:=by rfl) (hline:(apos.endLine==cpos.line)=true:=by rfl) (hs:starEach (e::es) X.env=(false,eval e X.env)::starEach es X.env:=by rfl) (hplain:(backTo cpos (starEach es X.env)).any (·.1)=false:=by rfl) :
  PE X (.Call (.Attribute o name apos) (e::es) [] cpos) (tBM X.K T r to t):=by
 intro a s Y H Q I h;refine wpAny_Call_method_late hbase hfew hline rfl (thn (ho a s Y H _ I h) λv i zq=>?_);obtain ⟨x,q,b,d,y,m⟩:=zq;obtain ⟨g,k⟩:=Zu4 b d y;refine ⟨T,id,pa,slot,hty,g,k,?_⟩;have c:=ha cpos a i Y q _ b m;rw [hs] at c ⊢;refine Calls.callWith_builtin (by show (false||(backTo cpos (starEach es X.env)).any (·.1))=false;rw [hplain]<;>rfl) (Calls.evalArgs_plain ?_);exact thn c λn j ⟨u,l,f,p,w⟩=>hm a j Y l x u v n Q f d p w
end
def MtM(X:Cx)(id:String)(r:V->List V->Hp->VK->Prop):Prop :=
 ∀a s Y H x b v c Q,Inv X a Y H s->RelV x v->Vals b c->r x b H Q ->
  wX X (call (.builtin id) (v::c)) (EP X a Y Q) X.xe s
def Vals.one:∀{x:V} {us:List Value},Vals [x] us->∃u,us=[u]/\RelV x u
 | _,_,.cons r .nil=>⟨_,rfl,r⟩
section
variable{X:Cx}{pins:List (Addr×Obj)}{Y:St}{H:Hp}{s:Shared}{l b:Addr}{xs ys zs:List V}
def Inv.lset{its its':List Value}(I:Inv X pins Y H s)(hH:H l=some (.lst xs))(e:s.heap.get? l=some { cls:=.type "list",data:=.seq its.toArray n })(hf:f its.toArray=its'.toArray)(hv:Vals ys its')(hz:ys.length<=sizeLine) :
  Inv X pins Y (upd H l (.lst ys)) { s with heap:=s.heap.update l (Obj.mapSeq f),toks:=t' }:=by
 have q:=PySem.IsL.update e f;rw [hf] at q;refine I.write (by rw [hH];exact trivial) (.inl rfl) (λc u b a=>(K5 s.heap (Obj.mapSeq f) (Ne.symm b)).trans a) ⟨_,q⟩ ?_;exact ⟨hz,its',_,hv,q⟩
def Inv.lnew(I:Inv X pins Y H s)(hv:Vals ys its)(hz:ys.length<=sizeLine) :
  Inv X pins Y (upd H s.heap.objs.size (.lst ys)) { s with heap:=s.heap.push { cls:=.type "list",data:=.seq its.toArray },toks:=t' } :=
 I.laid (λ_ _ q=>Bc _ q) (Ao _) ⟨hz,its,0,hv,Dq _ rfl⟩
def Inv.fresh(I:Inv X pins Y H s):H s.heap.objs.size=none:=I.hok.fresh (Ao _)
def Inv.lstM(I:Inv X pins Y H s)(hH:H l=some (.lst xs)):xs.length<=sizeLine/\∃its n,Vals xs its/\xs.length=its.length/\s.heap.get? l=some { cls:=.type "list",data:=.seq its.toArray n }:=by
 obtain ⟨z,its,n,r,e⟩:=I.hok l _ hH;exact ⟨z,its,n,r,r.length,e⟩
end
section
variable{X:Cx}
def JK:V->List V->Hp->VK->Prop:=λx b H Q=>∃l a y,x=.ref l/\b=[y]/\H l=some (.lst a)/\a.length<sizeLine/\Q .non (upd H l (.lst (a++[y])))
def Uv:MtM X "list.append" JK:=by
 intro c s Y H x o v m Q I d g h;obtain ⟨l,j,y,rfl,rfl,b,i,q⟩:=h;cases d;obtain ⟨u,rfl,f⟩:=g.one;obtain ⟨z,a,n,r,k,e⟩:=I.lstM b;refine call_meets F.slot_list_append ⟨_,e,rfl⟩ F.entry_list_append (F.args_list_append_2 _ _) (PySem.list_append l a.toArray n u (by rw [CT];omega)) ⟨e,?_⟩;refine ⟨.non,_,I.lset b e (by simp) (r.append (.cons f .nil)) ?_,rfl,q⟩;rw [Bm,List.length_singleton];omega
end
section
variable{prog:Program}{w:World}{A:Around}{E:Value->Shared->Prop}{s:Shared}
set_option maxRecDepth 100000 in
end
end L2
namespace Att
open PySem.W PySem.Calls
def ZfS:∀ns vs,WellAll P h vs (ns.map WData.int)->IntsAre vs ns:=by
 intro ns
 induction ns with
 | nil=>
  intro vs w;rw [List.map_nil] at w;cases w;exact .nil
 | cons n ns ih=>
  intro vs w;rw [Bx] at w;cases w with
  | cons a b=>
   cases a;exact .cons _ _ (ih _ b)
def Zl0{l:OpenLaw}(hn:l.most=some n){h:Heap}(hpre:l.row.toRowW.claim.pre args=true)(hwl:WellAll P h vals args) :
  ∃a vs ns,vals=[Value.ref a]/\args=[WData.list (ns.map WData.int)]/\h.get? a=some { cls:=.type "list",data:=.seq vs.toArray }/\IntsAre vs ns/\ns.length<=n:=by
 have f:=(pre_splitW hpre).1;have g:l.pre.holds [] { args:=args }=true:=(pre_splitW hpre).2;obtain ⟨d,r,rfl,k,i⟩:=hasAllW_cons f;obtain rfl:=hasAllW_nil i;obtain ⟨o,rfl,j⟩:=hasW_list k;obtain ⟨ns,rfl⟩:=items_int j;have b:ns.length<=n:=by
  unfold OpenLaw.pre at g;have c:(WTm.not (.lt (.lit (.int n)) (.len (.arg 0)))).holds [] { args:=[.list (ns.map .int)] }=true:=by
   have c:=(holds_andW g).1;rw [hn] at c;exact c
  have e:=condW_of c (w_not (w_lt w_lit (w_len_list (w_arg rfl))));rw [Ah] at e;refine Nat.le_of_not_lt λq=>?_;have m:(n:Int)<((ns.length:Nat):Int):=by omega
  first
   | (rw [Aj m] at e;exact aB e (by decide))
   | (simp at e;omega)
 cases hwl with
 | cons w1 w2=>
  cases w2;cases w1 with
  | list ho hall=>exact ⟨_,_,ns,rfl,rfl,ho,ZfS ns _ hall,b⟩
def Zk4(l:OpenLaw)(args:List WData):l.row.toRowW.claim.post args (.bool true) args=true :=
 postW_of
  (by first | rfl | decide | simp [WShape.has,WShape.arms,WShape.armsAll])
  (w_eq_bool (w_res rfl) w_lit) rfl
def Zi7{l:OpenLaw}{d:DefRec}(hn:l.most=some n)(hdf:d.params.defaults=[]) (call:∀(w:World) (s₀ s₁:Shared) (mg mb:Str->Option Value) (fa:Addr) (o:Obj) (pm cd doc:Value) (a:Addr) (vs:List Value) (ns:List Int),
   Ground q loose [] XP w s₀ mg mb s₁.heap->YP w s₁.heap ->
   s₁.heap.get? fa=some o->o.data=.func (docDef d.name d.params d.body d.scope pm cd doc)->s₁.heap.CodeRec cd d.name->mg d.name=some (.ref fa) ->
   s₁.heap.get? a=some { cls:=.type "list",data:=.seq vs.toArray }->IntsAre vs ns->ns.length<=n->s₁.gens=#[] ->
   codeAny (model l.prog w) callerA (.call (.ref fa) ⟨[.ref a],[]⟩) (λr s'=>r=.ok (.ret (.bool true))/\OldK s₁.heap s'.heap/\s'.os=s₁.os/\AllBare s'.gens) s₁) :
  WalkO q loose XP YP l.row.toRowW d [] (λf vs=>PySem.call f vs):=by
 intro w s₀ s₁ mg mb G v fa o pm cd doc u A t y i s j F k m I e p E h z;obtain rfl:u=.none:=Dflts.none s hdf;obtain rfl:A=.none:=Dflts.noKw s;obtain ⟨a,vs,ns,rfl,rfl,c,b,g⟩:=Zl0 hn e h;refine enter_call (HQ (call w s₀ s₁ mg mb fa o pm cd doc a vs ns G v t (fd_plain y) i j c b g F) λr s' H=>?_);obtain ⟨rfl,D,B,x⟩:=H;exact ⟨.inl ⟨.bool true,.bool true,[],rfl,λ_=>rfl,.bool true,Zk4 l _,λ_=>⟨List.Pairwise.nil,λ_ C=>(nomatch C)⟩⟩,D,B,x⟩
end Att
namespace L2
def KJ:∀{vs:List Value} {ns:List Int},IntsAre vs ns->Vals (ns.map V.int) vs
 | _,_,.nil=>.nil
 | _,_,.cons n t h=>.cons ⟨t,rfl⟩ (KJ h)
def Only(H:Hp):Prop:=∀b,H b=none\/∃o a,H b=some (.frz o (.lst a))
def Zoa{K:W.Frag}{s₁:Shared}{vs:List Value}{ns:List Int}(KX:K.In s₁.heap)(hns:s₁.heap.Ns mainGlobals mg)(hb:s₁.heap.Ns builtinsNs mb)(hbb:∀x:Str,x ≠ "__name__"->mb x=bootBuiltins x)(hlim:s₁.heap.NoLimit)(hg:s₁.gens=#[])(ha:s₁.heap.get? a=some { cls:=.type "list",data:=.seq vs.toArray })(hi:IntsAre vs ns)(hl:ns.length<=sizeLine)(hr:Room k callerA)(F:∀base:Heap,K.In base->base.Ns mainGlobals mg->FnOk P w K mg base CX k fa fd [x] sp)(hbind:∀(s:Shared) (u:Value),BindsTo s fd ⟨[u],[]⟩ [(x,u)])(hsp:∀H:Hp,Only H->SqL K H a (ns.map V.int)->sp [.ref a] H (λv _=>v=.bl true) λ_ _ _=>False)(hCX:∀H e s',CX [] H s₁ (λ_ _ _=>False) e s'->False) :
  codeAny (model P w) callerA (.call (.ref fa) ⟨[.ref a],[]⟩) (λr s'=>r=.ok (.ret (.bool true))/\OldK s₁.heap s'.heap/\s'.os=s₁.os/\AllBare s'.gens) s₁:=by
 have I:=KJ hi;have p:=hi.length;have g:∀H:Hp,Only H->SqL K H a (ns.map V.int)->HOk P w H s₁.heap->(∀b,H b≠none->b=a)->(H a≠none->K.lookup a=none) ->
   codeAny (model P w) callerA (.call (.ref fa) ⟨[.ref a],[]⟩) (λr s'=>r=.ok (.ret (.bool true))/\OldK s₁.heap s'.heap/\s'.os=s₁.os/\AllBare s'.gens) s₁:=by
  intro H J R t E M;have c:∀{b:Addr} {o:Obj},s₁.heap.get? b=some o->H b=none->(hidT s₁.heap H).get? b=some o:=λe n=>Zph e n;have D:∀{b:Addr} {o:Obj} {A:Array DictEntry} {B:Nat},s₁.heap.get? b=some o->o.data=.dict A B->H b=none:=λ{b o A B} e d=>by
   cases q:H b with
   | none=>rfl
   | some u=>
    have C:=E b (by rw [q];simp);subst C;rw [ha] at e;cases e;have Q:=d;cases Q
  have f:∀{b:Addr} {m:Str->Option Value},s₁.heap.Ns b m->(hidT s₁.heap H).Ns b m:=λ{b m} ⟨o,A,B,e,d,r⟩=>⟨o,A,B,c e (D e d),d,r⟩
  have i:K.In (hidT s₁.heap H):=λb o e=>c (KX b o e) (by
   cases q:H b with
   | none=>rfl
   | some u=>
    have C:=E b (by rw [q];simp);subst C
    rw [M (by rw [q];simp)] at e;cases e)
  have S:Mod K mg (hidT s₁.heap H):=⟨i,f hns,⟨mb,f hb,hbb⟩,let ⟨mc,h1,h2⟩:=hlim;⟨mc,f h1,h2⟩⟩;have U:Env0 P w K mg (hidT s₁.heap H) callerA [] s₁ H:=⟨rfl,S,λb o e=>ZqN e,Nat.le_of_eq (Zlm _ _),trivial,λb hb=>aB (show b∈([]:List Addr) from hb) (by simp),t,.of_eq hg⟩;refine HQ ((F _ i (f hns)).run callerA [] s₁ H ⟨[.ref a],[]⟩ [.ref a] [.ref a] _ _ hr U (hbind s₁ (.ref a)) (.cons rfl .nil) (hsp H J R)) λr s' h=>?_;cases r with
  | error e=>exact (hCX H e s' h).elim
  | ok fl=>
   cases fl with
   | next=>exact False.elim h
   | brk=>exact False.elim h
   | cont=>exact False.elim h
   | ret u=>
    obtain ⟨v,Y,os,l,L,y,T,q⟩:=h;have O:=q;subst O;obtain rfl:u=Value.bool true:=T;refine ⟨rfl,OldK.of_keep λb o e=>?_,os,l⟩;cases q:H b with
    | none=>exact L.keep b o e q (by intro z;exact aB (show b∈([]:List Addr) from z) (by simp)) (by simp)
    | some u=>
     rcases J b with z | ⟨ob,xs,z⟩
     .rw [q] at z;cases z
     .have N:=L.frzs b ob _ z;obtain ⟨G,_⟩:=t b _ z;obtain ⟨X,_⟩:=y b _ N;rw [e] at G;cases G;exact X
 cases hk:K.lookup a with
 | some o=>
  have e:=KX a o hk;rw [ha] at e;cases e;refine g (λ_=>none) (λ_=>.inl rfl) (.inr ⟨_,vs.toArray,_,hk,rfl,rfl,rfl,by rw [CT,p];exact hl,by simpa using I⟩) (λb u z=>by have j:(none:Option HO)=some u:=z;cases j) (λb z=>aB rfl z) λz=>aB rfl z
 | none=>
  refine g (λb=>if b=a then some (.frz { cls:=.type "list",data:=.seq vs.toArray } (.lst (ns.map V.int))) else none) (λb=>?_) (.inl (.inr ⟨{ cls:=.type "list",data:=.seq vs.toArray },iP rfl⟩)) (λb u z=>?_) (λb z=>?_) λ_=>hk
  .by_cases hb:b=a
   .exact .inr ⟨_,_,iP hb⟩
   .exact .inl (iN hb)
  .by_cases hb:b=a
   .have j:=(iP hb).symm.trans z;cases j;subst hb;exact ⟨ha,by rw [Ah];exact hl,vs,_,I,ha⟩
   .have j:=(iN hb).symm.trans z;cases j
  .by_cases hb:b=a
   .exact hb
   .exact aB (iN hb) z
def Zrw{l:W.OpenLaw}{n k:Nat}{q:Program}{loose:List Str}{XP:(Str->Option Value)->Heap->Prop}{YP:World->Heap->Prop}{d:DefRec}{K:Params->W.Frag}{CX:World->CXT}{sp:World->Sp}{x:Str}(hn:l.most=some n)(hn2:n<=sizeLine)(hdf:d.params.defaults=[])(hr:Room k callerA)(hY:∀(w:World) (h:Heap),YP w h->(K w.params).In h) (F:∀(w:World) (mg:Str->Option Value) (fa:Addr) (h:Heap),(K w.params).In h->h.Ns mainGlobals mg->mg d.name=some (.ref fa) ->
   ∃fd:FuncData,(∀(s:Shared) (u:Value),BindsTo s fd ⟨[u],[]⟩ [(x,u)]) /\
    ∀base:Heap,(K w.params).In base->base.Ns mainGlobals mg->FnOk l.prog w (K w.params) mg base (CX w) k fa fd [x] (sp w)) (hsp:∀(w:World) (H:Hp) (a:Addr) (ns:List Int),ns.length<=n->Only H->SqL (K w.params) H a (ns.map V.int)->sp w [.ref a] H (λv _=>v=.bl true) λ_ _ _=>False) (hCX:∀(w:World) (H:Hp) (s:Shared) (e:Value) (s':Shared),CX w [] H s (λ_ _ _=>False) e s'->False) :
  W.WalkO q loose XP YP l.row.toRowW d [] (λf vs=>PySem.call f vs):=by
 refine Att.Zi7 hn hdf λw t j mg M fa o O L B a vs ns G z J N C p m i c D=>?_;have r:=hY w _ z;obtain ⟨fd,y,A⟩:=F w mg fa _ r G.T.g p;exact Zoa r G.T.g G.T.b G.T.builtins G.T.nolimit D m i (Ar c hn2) hr A y (λH E I=>hsp w H a ns c E I) λH e s'=>hCX w H j e s'
abbrev E0:XK:=λ_ _ _=>False
structure Fun(K:W.Frag)(x qual:Str)(st:Stmt)(f:Addr)(fd:FuncData):Prop where
 ex:∃(oc:Value) (od:Option Addr) (kV doc pm:Value) (an:Option Addr) (cdv ct:Value) (osl:Array (Option Value)),
  fd=W.fnOf x qual (Ja st) (FN st) (Bd st) .none kV doc pm an cdv ct/\K.lookup f=some ⟨oc,od,.func fd,osl⟩/\W.codeIn K cdv qual=true
 kp:W.keepIn K (.ref f)=true
section
variable{P:Program}{w:World}{K:W.Frag}{mg:Str->Option Value}{base:Heap}
def Fun.binds{x qual:Str}{st:Stmt}{f:Addr}{fd:FuncData}{ps:List Str}(F:Fun K x qual st f fd)(h:∀(kV doc pm:Value) (an:Option Addr) (cdv ct:Value) (us:List Value),us.length=ps.length->bindArgs (W.fnOf x qual (Ja st) (FN st) (Bd st) .none kV doc pm an cdv ct) ⟨us,[]⟩=pure (ps.zip us)):Binds K fd ps []:=by
 obtain ⟨c,d,kV,doc,pm,an,cdv,ct,a,rfl,e,b⟩:=F.ex;exact .all (h kV doc pm an cdv ct)
def Fp{x qual:Str}{st:Stmt}{f:Addr}{oc:Value}{od an:Option Addr}{osl:Array (Option Value)}{kV doc pm cdv ct:Value}(l:K.lookup f=some ⟨oc,od,.func (W.fnOf x qual (Ja st) (FN st) (Bd st) .none kV doc pm an cdv ct),osl⟩)(c:W.codeIn K cdv qual=true)(k:W.keepIn K (.ref f)=true):Fun K x qual st f (W.fnOf x qual (Ja st) (FN st) (Bd st) .none kV doc pm an cdv ct):=⟨⟨oc,od,kV,doc,pm,an,cdv,ct,osl,rfl,l,c⟩,k⟩
end
def Znp(h:n<=1000):n<sizeLine:=Lx h (by decide)
def Same(H H':Hp):Prop:=∀b o,H b=some o->H' b=some o
def Same.refl(H):Same H H:=λ_ _ h=>h
def Same.trans(a:Same H H1)(b:Same H1 H2):Same H H2:=λc o h=>b c o (a c o h)
def Same.free(e:Same H H')(h:H' l=Option.none):H l=Option.none:=by
 cases q:H l with
 | none=>rfl
 | some o=>
  rw [e l o q] at h;cases h
def Same.seq{K:W.Frag}{H H':Hp}{a:Addr}{xs:List V}(e:Same H H')(h:SqL K H a xs):SqL K H' a xs:=by
 rcases h with (h | ⟨o,h⟩) | h
 .exact .inl (.inl (e _ _ h))
 .exact .inl (.inr ⟨o,e _ _ h⟩)
 .exact .inr h
end L2
section
variable{X:L2.Cx}{Y:L2.St}{H:L2.Hp}{s:PySem.Shared}{pins:List (PySem.Addr×PySem.Obj)}{us:List PySem.Value}{pos spos cpos pos':PySem.Pos}{A:PySem.Around}{i n k j:Nat}{e:PySem.Expr}{w:PySem.World}{P:PySem.Program}{K:W.Frag}{x:PySem.Str}{xs:List L2.V}{mg:PySem.Str->Option PySem.Value}{base:PySem.Heap}{ps N:List PySem.Str}{es:List PySem.Expr}{te:L2.TE}{fd:PySem.FuncData}
namespace L2
section
def ZrY:OpR X (binaryOp .Mult) (rI IntMulOk λi j=>.int (i*j)):=opI λ_ _ _ _ _ _ _ a q=>mul_int q a
def Uk(_ j:Int):Prop:=j≠0/\j.natAbs.log2<9000
def ZnX:OpR X (binaryOp .FloorDiv) (rI Uk λi j=>.int (i.fdiv j)):=opI λ_ _ _ _ _ _ _ a q=>floordiv_int a.1 q (.inl (PyProof.noPylong_of_log2 a.2))
def Ztv{n:String}(hg:Gl X x)(hm:X.mg x=none)(hv:bootBuiltins x=some (.type n))(hn:x ≠ "__name__":=by decide)(hd:ND x:=by decide):PE X (.Name x pos) (tC (.ty n)) :=
 Zrh hg hm hv rfl hn hd
end
def ZtB:bootBuiltins "abs"=some (.builtin "abs"):=by decide +kernel
def Jy:bootBuiltins "all"=some (.builtin "all"):=by decide +kernel
def Vd:bootBuiltins "isinstance"=some (.builtin "isinstance"):=by decide +kernel
def RX:bootBuiltins "len"=some (.builtin "len"):=by decide +kernel
def Z7:bootBuiltins "max"=some (.builtin "max"):=by decide +kernel
def ZvD:bootBuiltins "min"=some (.builtin "min"):=by decide +kernel
def Zz:bootBuiltins "int"=some (.type "int"):=by decide +kernel
def ZqR:bootBuiltins "bool"=some (.type "bool"):=by decide +kernel
def Qn:bootBuiltins "tuple"=some (.type "tuple"):=by decide +kernel
def ZmD:bootBuiltins "list"=some (.type "list"):=by decide +kernel
def Zpw:bootBuiltins "str"=some (.type "str"):=by decide +kernel
def Zoj(K)(t):W.kitOne K t t=some true:=by
 unfold W.kitOne;rw [iP (beq_self_eq_true t)]
def Zts(K)(hne:(Value.type T==Value.type U00)=false)(hm:W.kitMeta U00=true)(h:(fastBuiltinMro T).map (·.contains (Value.type U00))=some b):W.kitOne K (.type T) (.type U00)=some b:=by
 unfold W.kitOne;rw [iN (by rw [hne];exact Cj)];show (if W.kitMeta U00=true then _ else none)=_
 rw [iP hm];exact h
mutual
inductive DV(K:W.Frag)(H:Hp):V->PyData->Prop
 | non:DV K H .non .none
 | bl (b:Bool):DV K H (.bl b) (.bool b)
 | int (i:Int):DV K H (.int i) (.int i)
 | str (x:Str):DV K H (.str x) (.str x)
 | tup {a:Addr} {xs:List V} {ds:List PyData} (h:SqT K H a xs) (r:DVs K H xs ds):DV K H (.ref a) (.tuple ds)
 | lst {a:Addr} {xs:List V} {ds:List PyData} (h:SqL K H a xs) (r:DVs K H xs ds):DV K H (.ref a) (.list ds)
inductive DVs(K:W.Frag)(H:Hp):List V->List PyData->Prop
 | nil:DVs K H [] []
 | cons {x:V} {xs:List V} {d:PyData} {ds:List PyData} (h:DV K H x d) (r:DVs K H xs ds):DVs K H (x::xs) (d::ds)
end
section
mutual
def DV.reads(I:Inv X pins Y H s){x:V}{d:PyData}{u:Value}(h:DV X.K H x d)(r:RelV x u):∃as,Reads s.heap u d as:=by
 cases h with
 | non=>cases r;exact ⟨_,.none⟩
 | bl b=>cases r;exact ⟨_,.bool b⟩
 | int i=>obtain ⟨t,rfl⟩:=r;exact ⟨_,.int i t⟩
 | str i=>obtain ⟨t,rfl⟩:=r;exact ⟨_,.str i t⟩
 | tup h q=>
  cases r;obtain ⟨g,f,⟨o,e,a,n,c⟩,_⟩:=I.tuple h;obtain ⟨as,j⟩:=DVs.reads I q f;exact ⟨_,.tuple e a c (by simpa using j)⟩
 | lst h q=>
  cases r;obtain ⟨g,f,k,_⟩:=I.list h;obtain ⟨o,e,a,n,c⟩:=k.isList;obtain ⟨as,j⟩:=DVs.reads I q f;exact ⟨_,.list e a c (by simpa using j)⟩
def DVs.reads(I:Inv X pins Y H s){xs:List V}{ds:List PyData}{us:List Value}(h:DVs X.K H xs ds)(r:Vals xs us):∃as,ReadsAll s.heap us ds as:=by
 cases h with
 | nil=>cases r;exact ⟨_,.nil⟩
 | cons h q=>
  cases r with
  | cons r1 r2=>
   obtain ⟨as,b⟩:=DV.reads I h r1;obtain ⟨c,a⟩:=DVs.reads I q r2;exact ⟨_,.cons b a⟩
end
end
section
def rEqD(K:W.Frag)(f:Bool->Bool):R2:=λx y H Q=>∃a b,DV K H x a/\DV K H y b/\a.canLay0=true/\b.canLay0=true/\a.depth<=60/\Q (.bl (f (PyData.eqv a b))) H
def Zp0(hu:X.A.units+64<cLine):OpR X (compareOp .Eq) (rEqD X.K id):=by
 intro a s Y H x y v u Q I e f h;obtain ⟨n,l,d,g,b,i,o,q⟩:=h;obtain ⟨k,j⟩:=d.reads I e;obtain ⟨m,c⟩:=g.reads I f;exact PySem.SeqAt.compareEq_reads j c b i (by omega) (Kg I q rfl)
def Zuk(hu:X.A.units+64<cLine):OpR X (compareOp .NotEq) (rEqD X.K not):=by
 intro a s Y H x y v u Q I e f h;obtain ⟨n,l,d,g,b,i,o,q⟩:=h;obtain ⟨k,j⟩:=d.reads I e;obtain ⟨m,c⟩:=g.reads I f;exact PySem.SeqAt.compareNe_reads j c b i (by omega) (Kg I q rfl)
end
structure Def(K:W.Frag)(mg:Str->Option Value)(x:Str)(st:Stmt)(ps:List Str):Prop where
 ex:∃(f:Addr) (fd:FuncData),Fun K x x st f fd/\Binds K fd ps []/\mg x=some (.ref f)
def Du(h:H p=none)(o):Same H (upd H p o):=λb u q=>by rw [Ag (Bj q h)];exact q
end L2
namespace L2
def Wz(ts:List Expr)(env:Env):Sem Bool:=match ts with
 | []=>pure true
 | c::_=>isTrue c env (eval c env)
def ZiE(elt target iter c)(scope)(pos)(it acc)(env) :
  compTurn (.ListComp elt [⟨target,iter,[c],0⟩] scope pos) 0 it acc env=(standAt iter.pos >>= λ_=>pyNext it >>= λr=>match r with
   | none=>pure (.done .next)
   | some v=>letOwnedTupleGo target it v >>= λ_=>assign target env v >>= λ_=>
    (forIn [c] true λ(c:Expr) (s:Bool)=>if s=true then (isTrue c env (eval c env) >>= λok=>pure (ForInStep.yield ok)) else pure (ForInStep.yield s)) >>= λs=>if s=true then
     (eval elt env >>= λx=>call (.builtin "list.append") [acc,x] >>= λ_=>pure ()) >>= λ_=>
      again (.compLoop (.ListComp elt [⟨target,iter,[c],0⟩] scope pos) 0 it acc env)
     else again (.compLoop (.ListComp elt [⟨target,iter,[c],0⟩] scope pos) 0 it acc env)):=by rfl
def Zhz(hts:ts.length<=1)(I:Nat->Shared->Prop) (turn:∀n s,I n s->wpAny (model prog w) A (pyNext it) (λr s₁=>match r with
   | none=>R (.ok .next) s₁
   | some v=>wpAny (model prog w) A (letOwnedTupleGo target it v) (λ_ s1'=>wpAny (model prog w) A (assign target env v) (λ_ s₂=>wpAny (model prog w) A (Wz ts env) (λb s2'=>if b=true then wpAny (model prog w) A (eval elt env) (λx s₃=>
     wpAny (model prog w) A (call (.builtin "list.append") [acc,x]) (λ_ s₄=>∃m,m<n/\I m s₄) (notedBy (model prog w) A env λe s'=>R (.error e) s') s₃)
     (notedBy (model prog w) A env λe s'=>R (.error e) s') s2' else ∃m,m<n/\I m s2') (notedBy (model prog w) A env λe s'=>R (.error e) s') s₂) (notedBy (model prog w) A env λe s'=>R (.error e) s') s1') (notedBy (model prog w) A env λe s'=>R (.error e) s') s₁) (notedBy (model prog w) A env λe s'=>R (.error e) s') s) (n:Nat) (h:I n s) :
  codeAny (model prog w) A (.compLoop (.ListComp elt [⟨target,iter,ts,0⟩] scope pos) 0 it acc env) R s:=by
 refine codeAny_loop rfl I (λn s l=>?_) n h;refine wpAny_noted ?_
 match ts,hts with
 | [],_=>
  refine Ac (Gi (Ac (BV (turn n s l) (λr s₁ f=>?_) λ_ _ a=>a)));cases r with
  | none=>exact Af f
  | some v=>
   refine Ac (BV f (λ_ s1' k=>?_) λ_ _ a=>a);refine Ac (BV k (λ_ s₂ i=>?_) λ_ _ a=>a);show wpAny _ _ ((pure true:Sem Bool) >>= λb=>if b=true then ((eval elt env >>= λx=>call (.builtin "list.append") [acc,x] >>= λ_=>pure ()) >>= λ_=>again (.compLoop (.ListComp elt [⟨target,iter,[],0⟩] scope pos) 0 it acc env)) else again (.compLoop (.ListComp elt [⟨target,iter,[],0⟩] scope pos) 0 it acc env)) _ _ s₂
   refine Ac (BV i (λb s2' d=>?_) λ_ _ a=>a);cases b with
   | true=>
    exact Ac (Ac (BV d (λx s₃ g=>Ac (BV g (λ_ s₄ j=>Af (Af ⟨rfl,j⟩)) λ_ _ a=>a)) λ_ _ a=>a))
   | false=>
    exact Af ⟨rfl,d⟩
 | [c],_=>
  rw [ZiE];refine Ac (Gi (Ac (BV (turn n s l) (λr s₁ f=>?_) λ_ _ a=>a)));cases r with
  | none=>exact Af f
  | some v=>
   refine Ac (BV f (λ_ s1' k=>?_) λ_ _ a=>a);refine Ac (BV k (λ_ s₂ i=>?_) λ_ _ a=>a);rw [List.forIn_cons];refine Ac (Ac ?_);refine Ac (BV i (λb s2' d=>Af ?_) λ_ _ a=>a);refine Af ?_;cases b with
   | true=>
    exact Ac (Ac (BV d (λx s₃ g=>Ac (BV g (λ_ s₄ j=>Af (Af ⟨rfl,j⟩)) λ_ _ a=>a)) λ_ _ a=>a))
   | false=>
    exact Af ⟨rfl,d⟩
def Sd:∀names h acc n c,(n,c)∈PySem.cellsFrom h.objs.size names acc->(n,c)∈acc\/((PySem.pushCells h names).IsCell c none/\h.objs.size<=c)
 | [],_,_,_,_,hm=>.inl hm
 | (name,kind)::r,h,acc,n,c,hm=>by
  unfold PySem.cellsFrom at hm;unfold PySem.pushCells;split at hm
  .rename_i hk;rw [iP hk];have a:(n,c)∈PySem.cellsFrom (h.push { cls:=.type "cell",data:=.cell none }).objs.size r ((name,h.objs.size)::acc):=by rw [Ga];exact hm
   rcases Sd r (h.push { cls:=.type "cell",data:=.cell none }) ((name,h.objs.size)::acc) n c a with z | ⟨z1,z2⟩
   .rcases An.mp z with e | z
    .cases e;exact .inr ⟨⟨_,PySem.pushCells_keeps r _ _ _ (Dq _ rfl),rfl⟩,Ao _⟩
    .exact .inl z
   .rw [Ga] at z2;exact .inr ⟨z1,by omega⟩
  .rename_i hk;rw [iN hk];exact Sd r h acc n c hm
def Tn:∀names k acc,(∀n c,(n,c)∈acc->c<k)->(∀n n' c,(n,c)∈acc->(n',c)∈acc->n=n')->∀n n' c,(n,c)∈PySem.cellsFrom k names acc->(n',c)∈PySem.cellsFrom k names acc->n=n'
 | [],_,_,_,hi,n,n',c,h1,h2=>hi n n' c h1 h2
 | (name,kind)::r,k,acc,hl,hi,n,n',c,h1,h2=>by
  unfold PySem.cellsFrom at h1 h2;split at h1
  .rename_i hk;rw [iP hk] at h2;refine Tn r (k+1) ((name,k)::acc) (λm d hm=>?_) (λm a d hm hm'=>?_) n n' c h1 h2
   .rcases An.mp hm with e | hm
    .cases e;exact Oe _
    .exact Nat.lt_succ_of_lt (hl m d hm)
   .rcases An.mp hm with e | hm<;>rcases An.mp hm' with e' | hm'
    .cases e;cases e';rfl
    .cases e;exact aB (hl _ _ hm') (GK _)
    .cases e';exact aB (hl _ _ hm) (GK _)
    .exact hi m a d hm hm'
  .rename_i hk;rw [iN hk] at h2;exact Tn r k acc hl hi n n' c h1 h2
def S7:∀names k acc,(∀y∈names,y.2=.cell->y.1≠x)->(PySem.cellsFrom k names acc).lookup x=acc.lookup x
 | [],_,_,_=>rfl
 | (name,kind)::r,k,acc,h=>by
  unfold PySem.cellsFrom;split
  .rename_i hk;rw [S7 r (k+1) _ λy a=>h y (Av _ a)];have b:name≠x:=h (name,kind) Aw (by simpa using hk);rw [Gu,beq_false_of_ne (Ne.symm b)]
  .exact S7 r k acc λy a=>h y (Av _ a)
def U4:∀names k acc,((acc.lookup x).isSome=true\/(x,NameKind.cell)∈names)->((PySem.cellsFrom k names acc).lookup x).isSome=true
 | [],_,_,h=>by
  rcases h with h | h
  .exact h
  .cases h
 | (name,kind)::r,k,acc,h=>by
  unfold PySem.cellsFrom;split
  .rename_i hk;refine U4 r (k+1) _ ?_;by_cases e:x=name
   .subst e;exact .inl (by simp)
   .rcases h with h | h
    .exact .inl (by rw [Gu,beq_false_of_ne e];exact h)
    .rcases An.mp h with z | h
     .cases z;exact aB rfl e
     .exact .inr h
  .rename_i hk;refine U4 r k acc ?_;rcases h with h | h
   .exact .inl h
   .rcases An.mp h with z | h
    .cases z;exact aB rfl hk
    .exact .inr h
def Zkk{M:Model}{E:Value->Shared->Prop}{scope:Scope}{globals:Addr}{closure:List (Str×Addr)}{qual:Str}{func:Option Addr}{code:Value}{outer:Env}{builtins:Addr}{Q:Env->Shared->Prop} (hQ:∀h',h'.Ns s.heap.objs.size (λ_=>none)->(∀b o,s.heap.get? b=some o->h'.get? b=some o)->(∀n c,(n,c)∈PySem.cellsFrom (s.heap.objs.size+1) scope.names closure->(n,c)∈closure\/(h'.IsCell c none/\s.heap.objs.size+1<=c)) ->
   Q (newEnv scope s.heap.objs.size globals (PySem.cellsFrom (s.heap.objs.size+1) scope.names closure) qual func code (some outer) builtins) { s with heap:=h' }) :
  wpAny M A (newFunctionEnv scope globals closure [] qual func code (some outer) builtins) Q E s:=by
 simp only [newFunctionEnv,Option.isSome_some,Cw];refine Ac (wpAny_alloc ?_);refine Ac (wpAny_layCells _ (λf a d=>by cases hkc:a==NameKind.cell<;>simp [hkc]) _ _ _ _ ?_);rw [show ({ s with heap:=s.heap.push { cls:=.type "dict",data:=.dict #[] } }:Shared).heap.objs.size=s.heap.objs.size+1 from Ga ..]
 refine Ac (Af (Af ?_));refine hQ _ ((Heap.Ns.new s.heap (.type "dict")).keeps (PySem.pushCells_keeps _ _)) (λb o e=>PySem.pushCells_keeps _ _ b o (Bc _ e)) λn c g=>?_;have z:=Sd scope.names (s.heap.push { cls:=.type "dict",data:=.dict #[] }) closure n c (by rw [Ga];exact g);rwa [Ga] at z
def PTs(X:Cx)(ts:List Expr)(tt:TT):Prop :=
 ∀a s Y H Q,Inv X a Y H s->tt Y H Q->wX X (Wz ts X.env) (TP X a Y Q) X.xe s
def tYes:TT:=λ_ H Q=>Q true H
def ZrF:PTs X [] tYes:=λ_ _ _ H _ I h=>Af ⟨H,I,h⟩
def Cd(X:Cx)(N:List Str)(scope:Scope)(cl:List (Str×Addr))(C:Addr)(s₂:Shared)(H₂:Hp)(fp:List Addr)(pn:List (Addr×Obj)):Cx :=
 { X with N:=N,s₀:=s₂,H₀:=H₂,env:=compEnvC scope (PySem.cellsFrom (C+1) scope.names cl) C X.env,outer:=X.stack,ex:=fp,fn:=λx=>scope.names.lookup x==some .cell,pn:=pn,xe:=λ_ _=>False }
def La(X:Cx)(sc:Scope)(cl:List (Str×Addr)):List (Str×Nat)->Prop
 | []=>True
 | p::r=>(X.N[p.2]?=some p.1/\X.env.scope.names.lookup p.1=some .cell/\(sc.names.lookup p.1=some .cell)/\∃c,cl.lookup p.1=some c/\X.env.cells.lookup p.1=some c)/\La X sc cl r
def La.get:∀{cap:List (Str×Nat)} {j:Nat} {p:Str×Nat},La X sc cl cap->cap[j]?=some p ->
  X.N[p.2]?=some p.1/\X.env.scope.names.lookup p.1=some .cell/\(sc.names.lookup p.1=some .cell)/\∃c,cl.lookup p.1=some c/\X.env.cells.lookup p.1=some c
 | [],_,_,_,e=>by simp at e
 | _::_,0,_,h,e=>by simp at e;subst e;exact h.1
 | _::_,j+1,_,h,e=>La.get (j:=j) h.2 (by simpa using e)
def capt(Y:St)(cap:List (Str×Nat)):St:=cap.map λp=>(Y[p.2]?).join
def st0(own:List Str)(Y:St)(cap:List (Str×Nat)):St:=List.replicate own.length none++capt Y cap
def K7(J:It)(g:TG)(tt:TT)(te:TE)(own:List Str)(cap:List (Str×Nat))(Y:St)(Q:VK)(H1:Hp):Prop:=∃W:Nat->Nat->List V->Hp->Prop,(∃m,W 0 m [] H1)/\∀i m a H,W i m a H->a.length<=sizeLine /\
 ((J.stop i H/\∀p,H p=none->Q (.ref p) (upd H p (.lst a))) \/
  (J.go i H/\∀x f,J.yld i H x f->g x (st0 own Y cap) f λd h=>d.drop own.length=capt Y cap/\tt d h λb e=>if b=true then te d e λv j=>a.length<sizeLine/\∃c,c<m/\W (i+1) c (a++[v]) j else ∃c,c<m/\W (i+1) c a e))
abbrev Fam(α:Type):=Addr->Shared->Hp->List Addr->List (Addr×Obj)->α
def HF(wi:TI)(g:Fam TG)(tt:Fam TT)(te:Fam TE)(own:List Str)(cap:List (Str×Nat)):TE:=λY H Q=>wi Y H λJ d=>∀C s c a b,K7 J (g C s c a b) (tt C s c a b) (te C s c a b) own cap Y Q d
structure FT(X:Cx)(own:List Str)(cap:List (Str×Nat))(scope:Scope)(cl:List (Str×Addr)):Prop where
 clos:closureFor scope X.env=pure cl
 kind:scope.kind=.function
 nown:∀x c,(x,c)∈cl->∀y∈scope.names,y.2=.cell->y.1≠x
 locals:∀y∈scope.names,y.2=.local->scope.names.lookup y.1=some .local
 sub:∀x c,(x,c)∈cl->X.env.cells.lookup x=some c
 has:∀k x,((relabel scope X.env).names.lookup x=some .cell\/(relabel scope X.env).names.lookup x=some .free)->∃c,(PySem.cellsFrom k scope.names cl).lookup x=some c
 cap:La X (relabel scope X.env) cl cap
section
variable {own:List Str} {cap:List (Str×Nat)} {scope:Scope} {cl:List (Str×Addr)} {fp:List Addr} {tg:Expr} {J:It} {it:Addr} {tn:Nat->Heap->Prop}
def ZlV(e:(st0 own Y cap)[i]?=some (some v)):∃j p,i=own.length+j/\cap[j]?=some p/\Y[p.2]?=some (some v):=by
 unfold st0 at e;by_cases hi:i<own.length
 .rw [Dn (by simpa using hi),Lz,iP hi] at e;cases e
 .rw [Ff (by simpa using hi),RM] at e;unfold capt at e;rw [DK] at e;cases q:cap[i - own.length]? with
  | none=>rw [q] at e;cases e
  | some p=>
   rw [q] at e;have a:(Y[p.2]?).join=some v:=Be e;refine ⟨i - own.length,p,by omega,q,?_⟩;cases z:Y[p.2]? with
   | none=>rw [z] at a;cases a
   | some o=>rw [z] at a;have b:o=some v:=a;rw [b]
def Inv.comp(I:Inv X pins Y H s)(O:FT X own cap scope cl)(T:Turn X.prog X.w X.K tg J fp it tn)(st:tn 0 s.heap)(f:∀b∈fp,FpOk X pins H b)(hC:s.heap.objs.size<=C)(k:∀b o,s.heap.get? b=some o->h'.get? b=some o)(hn:h'.Ns C m)(hx:∀n c,(n,c)∈PySem.cellsFrom (C+1) scope.names cl->(n,c)∈cl\/(h'.IsCell c none/\C+1<=c)) :
  Inv (Cd X (own++cap.map (·.1)) scope cl C s H fp (X.pn++pins)) [] (st0 own Y cap) H { s with heap:=h',toks:=t' }:=by
 have B:∀{b:Addr} {o:Obj},s.heap.get? b=some o->b≠C:=λe=>Bq (Bp (BW e) hC);have a:=λx c e=>I.cell x c (O.sub x c e);have M:∀x c,(x,c)∈cl->c<C+1:=λx c e=>by
  obtain ⟨v,o,A,_⟩:=a x c e;exact Nat.lt_succ_of_le (Nat.le_of_lt (Bp (BW A) hC))
 have t:∀b∈fp,b≠C:=λb g=>by
  obtain ⟨o,e,_⟩:=T.obj _ _ st b g;exact B e
 refine ⟨⟨I.ok.mod,O.kind,I.ok.glob,I.ok.blt,hC,λx y c D E=>Tn scope.names (C+1) cl M (λn R c S h2=>I.ok.inj n R c (O.sub n c S) (O.sub R c h2)) x y c (Ei D) (Ei E),O.has (C+1),λx c D E=>?_,I.ok.hd,I.ok.frames,.inl rfl,λb g=>⟨t b g,λx c e=>?_⟩,I.bs,Ar I.ok.bsz I.sz,λb o e g=>?_,λb g z=>?_,I.stack,I.stkFree⟩,
  rfl,I.bare,Un.kept k,⟨m,hn,λi x v D E e3=>?_⟩,λx c e=>?_,?_,λx c e=>?_,λp F=>?_,I.hok.kept k,?_⟩
 .have h:scope.names.lookup x=some .cell:=by simpa [Cd] using D
  rcases hx x c (Ei E) with z | ⟨_,z⟩
  .exact aB rfl (O.nown x c z (x,.cell) (Ei h) rfl)
  .exact Ar hC (Nat.le_of_succ_le z)
 .rcases hx x c (Ei e) with z | ⟨_,z⟩
  .exact (f b g).2.2.2.2.1 x c (O.sub x c z)
  .obtain ⟨o,eo,_⟩:=T.obj _ _ st b g;exact Gh (Bp (Bp (BW eo) hC) (Nat.le_of_succ_le z))
 .rcases (f b g).2.2.2.1 with z | z
  .exact I.ok.noex b o e z
  .exact aB (Bp (BW (I.ok.bs b o e).1) z) (GK _)
 .rcases An.mp (I.stkSub b z) with q | q
  .exact (f b g).2.1 q
  .exact (f b g).2.2.1 q
 .obtain ⟨j,p,rfl,F,hs⟩:=ZlV E;obtain ⟨W,N,V,c,Q,c5⟩:=O.cap.get F;have h:(own++cap.map (·.1))[own.length+j]?=some x:=D;rw [Ff (Nat.le_add_right _ _),Nat.add_sub_cancel_left,DK,F] at h;have ex:=Be h;subst ex;obtain ⟨m2,_,hl⟩:=I.loc;obtain ⟨u,r,l⟩:=hl p.2 p.1 v W hs (.inr (.inl N));refine ⟨u,r,.inr ⟨.inl V,c,(S7 scope.names (C+1) cl λy hy hk=>O.nown p.1 c (Ei Q) y hy hk).trans Q,?_⟩⟩;rcases l with ⟨z,_⟩ | ⟨_,c',z,⟨o,A,L⟩⟩
  .have P:X.env.scope.names.lookup p.1=some .local:=z;rw [N] at P;cases P
  .rw [c5] at z;cases z;exact ⟨o,k _ _ A,L⟩
 .rcases hx x c (Ei e) with z | ⟨z,_⟩
  .obtain ⟨v,o,A,L⟩:=a x c z;exact ⟨v,o,k _ _ A,L⟩
  .exact ⟨none,z⟩
 .exact I.hok.fresh hC
 .rcases hx x c (Ei e) with z | ⟨_,z⟩
  .exact I.freeC x c (O.sub x c z)
  .exact I.hok.fresh (Ar hC (Nat.le_of_succ_le z))
 .have G:p∈X.pn++pins:=by simpa [Cd] using F
  obtain ⟨e,n,U,Z,d⟩:=I.pin p G;exact ⟨k _ _ e,n,B e,λz=>(An.mp (I.stkSub p.1 z)).elim U Z,d⟩
 .show (st0 own Y cap).length=(own++cap.map (·.1)).length;unfold st0 capt;simp
def Cx.Ok.rexe{xe:Value->Shared->Prop}(o:X.Ok):({ X with xe:=xe }:Cx).Ok:=by
 cases o;constructor<;>assumption
def Inv.rexe(I:Inv X pins Y H s):Inv { X with xe:=xe } pins Y H s:=by
 obtain ⟨ok,i1,i2,i3,i4,i5,i6,i7,i8,i9,i10⟩:=I;exact ⟨ok.rexe,i1,i2,i3,i4,i5,i6,i7,i8,i9,i10⟩
def Bs(xf:Addr->Shared->Hp->List Addr->Value->Shared->Prop)(X:Cx)(N:List Str)(scope:Scope)(cl:List (Str×Addr))(C:Addr)(s₂:Shared)(H₂:Hp)(fp:List Addr)(pn:List (Addr×Obj)):Cx:={ Cd X N scope cl C s₂ H₂ fp pn with xe:=xf C s₂ H₂ fp }
def Us{xf:Addr->Shared->Hp->List Addr->Value->Shared->Prop}{elt iter:Expr}{ts:List Expr}{gF:Fam TG}{ttF:Fam TT}{teF:Fam TE}{E:Value->Shared->Prop}(O:FT X own cap scope cl)(hc:X.calm=true)(hgF:∀C s H fp pn,PG (Bs xf X (own++cap.map (·.1)) scope cl C s H fp pn) tg (gF C s H fp pn))(htF:∀C s H fp pn,PTs (Bs xf X (own++cap.map (·.1)) scope cl C s H fp pn) ts (ttF C s H fp pn))(heF:∀C s H fp pn,PE (Bs xf X (own++cap.map (·.1)) scope cl C s H fp pn) elt (teF C s H fp pn))(hts:ts.length<=1)(I2:Inv X pins Y H s)(T:Turn X.prog X.w X.K tg J fp it tn)(st2:tn 0 s.heap)(f2:∀b∈fp,FpOk X pins H b){Q:VK}(hw:∀C s H2 fp pn,K7 J (gF C s H2 fp pn) (ttF C s H2 fp pn) (teF C s H2 fp pn) own cap Y Q H){R:Value->Addr->Result->Shared->Prop} (fin:∀(D C:Addr) (H':Hp) (s':Shared) (m:Str->Option Value),s.heap.objs.size<=C->s'.heap.Ns C m->H' C=none ->
   (∀h',Heap.SameBut C s'.heap h'->Inv X pins Y H' { s' with heap:=h' })->Q (.ref D) H'->R (.ref D) C (.ok .next) s') (hexc:∀(D C:Addr) (cells:List (Str×Addr)) (e:Value) (s':Shared),s.heap.objs.size<=C->xf C s H fp e s'->notedBy (model X.prog X.w) X.A (compEnvC scope cells C X.env) (λe s'=>R (.ref D) C (.error e) s') e s') :
  wX X (newList []) (λacc s₃=>wX X (newFunctionEnv scope X.env.globals cl [] X.env.qual none .none (some X.env)) (λcenv s₄=>
   codeAny (model X.prog X.w) X.A (.compStart (.ListComp elt [⟨tg,iter,ts,0⟩] scope pos) 0 (.ref it) acc { cenv with scope:=relabel scope X.env }) (R acc cenv.locals) s₄) E s₃) E s:=by
 refine JQ (Zkk (λh I hk1 f=>?_));generalize hHh:s.heap.push { cls:=.type "list",dict:=none,data:=.seq ([]:List Value).toArray }=Hh at I hk1 f ⊢;have hCs:Hh.objs.size=s.heap.objs.size+1:=by rw [<-hHh,Ga]
 generalize hCC:Hh.objs.size=C at I f hCs ⊢;generalize hDD:s.heap.objs.size=D at hCs ⊢;have g:D<C:=by omega
 have S:=Bq g;have hsD:=Nat.le_of_eq hDD;have F:s.heap.objs.size<=C:=by omega
 have M:∀{b:Addr} {o:Obj},s.heap.get? b=some o->b<D:=λe=>by rw [<-hDD];exact BW e
 have old:∀b o,s.heap.get? b=some o->h.get? b=some o:=λb o e=>by
  refine hk1 b o ?_;rw [<-hHh];exact Bc _ e
 have hD0:h.PlainList D #[]:=by
  have z:Hh.get? D=some { cls:=.type "list",dict:=none,data:=.seq ([]:List Value).toArray }:=by
   rw [<-hHh,<-hDD];exact Dq _ rfl
  exact ⟨_,hk1 D _ z⟩
 obtain ⟨W,⟨m0,w0⟩,turn⟩:=hw C s H fp (X.pn++pins);have hg:=hgF C s H fp (X.pn++pins);have ht:=htF C s H fp (X.pn++pins);have he:=heF C s H fp (X.pn++pins);have I':Inv (Bs xf X (own++cap.map (·.1)) scope cl C s H fp (X.pn++pins)) [] (st0 own Y cap) H { s with heap:=h,toks:=s.toks }:=(I2.comp O T st2 f2 F old I f).rexe
 have cne:∀x c,(PySem.cellsFrom (C+1) scope.names cl).lookup x=some c->(∃v,s.heap.IsCell c v/\X.env.cells.lookup x=some c)\/C<c:=λx c e=>by
  rcases f x c (Ei e) with z | ⟨_,z⟩
  .obtain ⟨v,hv⟩:=I2.cell x c (O.sub x c z);exact .inl ⟨v,hv,O.sub x c z⟩
  .exact .inr z
 have st':=T.keep _ _ _ st2 λb hb o e=>old b o e;have nofr:∀{a:Addr},s.heap.objs.size<=a->a∉frs X.stack:=λ{a} ha z=>by
  rcases An.mp (I2.stkSub a z) with q | q
  .exact aB (Bp I2.lt ha) (by rw [q];exact GK _)
  .exact I2.nofs ha q
 have ltfp:∀b∈fp,b<D:=λb hb=>by
  obtain ⟨o,e,_⟩:=T.obj _ _ st2 b hb;exact M e
 have fpk:∀{H3:Hp} {G:Obj},(∀b∈fp,H3 b=none)->∀b∈fp,FpOk (Bs xf X (own++cap.map (·.1)) scope cl C s H fp (X.pn++pins)) [(D,G)] H3 b:=λ{H3 G} hn b hb=>by
  obtain ⟨_,f1,f3,f4,f5,f6⟩:=f2 b hb;have lb:=ltfp b hb;refine ⟨hn b hb,(Bq (Fj lb g)),λz=>?_,.inl hb,λx c e=>?_,λp t=>?_⟩
  .rcases An.mp (I2.stkSub b z) with q | q
   .exact f1 q
   .exact f3 q
  .rcases cne x c e with ⟨_,_,z⟩ | z
   .exact f5 x c z
   .exact Gh (Fj lb (Fj g z))
  .rcases Dv.mp t with z | z
   .exact f6 p z
   .have z':p=(D,G):=by simpa using z
    subst z';exact Gh lb
 have U:∀s₃:Shared,s₃={ s with heap:=h } ->
   codeAny (model X.prog X.w) X.A (.compLoop (.ListComp elt [⟨tg,iter,ts,0⟩] scope pos) 0 (.ref it) (.ref D) (compEnvC scope (PySem.cellsFrom (C+1) scope.names cl) C X.env)) (R (.ref D) C) s₃:=by
  rintro s₃ rfl
  refine Zhz hts (λn s'=>∃(i:Nat) (acc:List V) (d:List Value) (H':Hp),Inv (Bs xf X (own++cap.map (·.1)) scope cl C s H fp (X.pn++pins)) [] (st0 own Y cap) H' s'/\tn i s'.heap/\(∀b∈fp,H' b=none)/\H' D=none /\
   s'.heap.PlainList D d.toArray/\Vals acc d/\W i n acc H') ?_ m0 ⟨0,[],[],H,I',st',λb hb=>(f2 b hb).1,I2.hok.fresh hsD,hD0,.nil,w0⟩
  rintro n s3 ⟨i,acc,d,H3,I3,st3,fr3,nD,⟨P,hD⟩,rv,w3⟩;obtain ⟨hlen,hturn⟩:=turn i n acc H3 w3;have lenV:=rv.length;have pinD:∀{s5:Shared} {H5:Hp},s5.heap.get? D=some { cls:=.type "list",data:=.seq d.toArray P }->H5 D=none->∀p∈[(D,({ cls:=.type "list",data:=.seq d.toArray P }:Obj))],s5.heap.get? p.1=some p.2/\H5 p.1=none/\p.1≠C/\p.1∉frs X.stack/\∀v,p.2.data≠.cell v:=by
   intro s5 H5 e1 e2 p t;have z':p=(D,({ cls:=.type "list",data:=.seq d.toArray P }:Obj)):=by simpa using t
   subst z';exact ⟨e1,e2,S,nofr hsD,λv z=>by cases z⟩
  have I3p:=I3.pins_of (pinD hD nD);rcases hturn with ⟨stop,qn⟩ | ⟨go,step⟩
  .refine BV (T.done (Bs xf X (own++cap.map (·.1)) scope cl C s H fp (X.pn++pins)) rfl rfl rfl hc i _ s3 _ H3 (λ_ _=>False) I3p (fpk fr3) st3 stop) (λr s4 h4=>?_) (λ_ _ z=>z.elim);obtain ⟨hr,k⟩:=h4;subst hr;obtain ⟨m4,hm4,_⟩:=k.loc;have hD4:=(k.pin (D,{ cls:=.type "list",data:=.seq d.toArray P }) (CK _ (by simp))).1;have nC:=k.free;refine fin D C (upd H3 D (.lst acc)) s4 m4 F hm4 (by rw [Ag (Ne.symm S)];exact nC) (λh' sb=>?_) (qn D nD);have kc:=λb o hb e=>sb.extBut b o hb e;have neD:∀{b:Addr} {o:Obj},s.heap.get? b=some o->b≠D:=λe=>Bq (M e);have neC:∀{b:Addr} {o:Obj},s.heap.get? b=some o->b≠C:=λe=>Bq (Fj (M e) g);refine I2.call' (ch:=fp) k.os ⟨?_,?_,?_,?_,?_,?_,?_⟩ (λa o e=>?_) k.bare (λb hb=>?_)
   .exact λb o e n hb hx=>kc b o (neC e) (k.base.keep b o e n hb hx)
   .intro b o e n hb hx;obtain ⟨sl,q⟩:=k.base.slot b o e n hb hx;exact ⟨sl,kc b _ (neC e) q⟩
   .intro b o e n hx;rw [Ag (neD e)];exact k.base.free b o e n hx
   .intro b o e hx;obtain ⟨o',q⟩:=k.base.there b o e hx;exact ⟨o',kc b _ (neC e) q⟩
   .intro b xs e;have q:=k.base.tups b xs e;rw [Ag (Bj q nD)];exact q
   .intro b o u e;have q:=k.base.frzs b o u e;rw [Ag (Bj q nD)];exact q
   .intro b ps e;obtain ⟨more,q⟩:=k.base.tbls b ps e;exact ⟨more,by rw [Ag (Bj q nD)];exact q⟩
   .by_cases ha:a=D
    .subst ha;rw [Ax] at e;cases e;exact ⟨hlen,d,P,rv,kc _ _ S hD4⟩
    .rw [Ag ha] at e;refine (k.hok a o e).stay (λb u hb q=>kc b u ?_ q) (λb q=>?_) (λb xs q=>?_)
     .rcases hb with rfl | hb
      .exact Bj e nC
      .exact Bj hb nC
     .rw [Ag (Bj q nD)];exact q
     .rw [Ag (Bj q nD)];exact q
   .obtain ⟨_,f1,_,f4,f5,f6⟩:=f2 b hb;exact ⟨f4,f1,f5,f6⟩
  .refine BV (T.item (Bs xf X (own++cap.map (·.1)) scope cl C s H fp (X.pn++pins)) rfl rfl rfl hc i _ s3 _ H3 (λ_ _=>False) I3p (fpk fr3) st3 go) (λr s4 h4=>?_) (λ_ _ z=>z.elim);obtain ⟨u,hr,h4⟩:=h4;subst hr;refine BV h4 (λ_ s5 h5=>?_) (λ_ _ z=>z.elim);obtain ⟨x,H5,I5,r5,y5,L,fr5⟩:=h5;have I5':=I5.pinned (fpk fr5) (T.obj _ _ L);refine BV (hg _ s5 _ H5 x u _ I5' r5 (step x H5 y5)) (λ_ s6 h6=>?_) (λe s' z=>hexc D C _ e s' F z);obtain ⟨Y6,H6,I6,e6,q6⟩:=h6;refine BV (ht _ s6 Y6 H6 _ I6 q6) (λbb s6' h6'=>?_) (λe s' z=>hexc D C _ e s' F z);obtain ⟨H6',B,q6'⟩:=h6';have Z:∀{H7:Hp} {s7:Shared},Inv (Bs xf X (own++cap.map (·.1)) scope cl C s H fp (X.pn++pins)) [] Y6 H7 s7->Inv (Bs xf X (own++cap.map (·.1)) scope cl C s H fp (X.pn++pins)) [] (st0 own Y cap) H7 s7:=λ{H7 s7} I8=>by
    refine I8.weak (I'.len.trans I8.len.symm) (λj v e=>?_);obtain ⟨l,p,rfl,t,hs⟩:=ZlV e;have q:(Y6.drop own.length)[l]?=some (some v):=by
     rw [e6];unfold capt;rw [DK,t];show some ((Y[p.2]?).join)=_;rw [hs];rfl
    rwa [List.getElem?_drop] at q
   cases bb with
   | false=>
    obtain ⟨m',hm,w7⟩:=q6';obtain ⟨hD7,N,_⟩:=B.pin (D,{ cls:=.type "list",data:=.seq d.toArray P }) (CK _ (by simp));have st7:=T.keep _ _ _ L λb hb o e=>(B.pin (b,o) (CK _ (CK _ (Ln hb e)))).1;have fr7:∀b∈fp,H6' b=none:=λb hb=>by
     obtain ⟨o,e,_⟩:=T.obj _ _ L b hb;exact (B.pin (b,o) (CK _ (CK _ (Ln hb e)))).2.1
    exact ⟨m',hm,i+1,acc,d,H6',Z (B.pins_of λp t=>nomatch t),st7,fr7,N,⟨P,hD7⟩,rv,w7⟩
   | true=>
   refine BV (he _ s6' Y6 H6' _ B q6') (λy s7 h7=>?_) (λe s' z=>hexc D C _ e s' F z);obtain ⟨v,H7,I7,r7,hl7,m',hm,w7⟩:=h7;obtain ⟨hD7,N,_⟩:=I7.pin (D,{ cls:=.type "list",data:=.seq d.toArray P }) (CK _ (by simp));have st7:=T.keep _ _ _ L λb hb o e=>(I7.pin (b,o) (CK _ (CK _ (Ln hb e)))).1;have fr7:∀b∈fp,H7 b=none:=λb hb=>by
    obtain ⟨o,e,_⟩:=T.obj _ _ L b hb;exact (I7.pin (b,o) (CK _ (CK _ (Ln hb e)))).2.1
   refine wpAny_list_append_plain ⟨P,hD7⟩ (λh8 hp8 hs8=>?_) (by rw [CT];omega);have I7w:Inv (Bs xf X (own++cap.map (·.1)) scope cl C s H fp (X.pn++pins)) [] Y6 H7 s7:=I7.pins_of λp t=>nomatch t;have I8:Inv (Bs xf X (own++cap.map (·.1)) scope cl C s H fp (X.pn++pins)) [] Y6 H7 { s7 with heap:=h8 }:=by
    refine I7w.turned (λb o hb e=>hs8.extBut b o hb e) N S (.inr hsD) (λx c e=>?_) (λp t=>?_)
    .rcases cne x c e with ⟨v,⟨o,ho,_⟩,_⟩ | z
     .exact Bq (M ho)
     .exact Gh (Fj g z)
    .have hp':p∈X.pn++pins:=by simpa [Bs,Cd] using t
     exact Bq (M (I2.pin p hp').1)
   have I9:=Z I8;refine ⟨m',hm,i+1,acc++[v],d++[y],H7,I9,T.keep _ _ _ st7 (λb hb o e=>hs8.extBut b o (Bq (ltfp b hb)) e),fr7,N,?_,rv.append (.cons r7 .nil),w7⟩;simpa using hp8
 exact codeAny_compStart_list (U _ rfl) (T.self X.A 0 _ _ _ st' (U _ rfl))
def ZjW{elt iter:Expr}{ts:List Expr}{gF:Fam TG}{ttF:Fam TT}{teF:Fam TE}{E:Value->Shared->Prop}(O:FT X own cap scope cl)(hc:X.calm=true)(hgF:∀C s H fp pn,PG (Cd X (own++cap.map (·.1)) scope cl C s H fp pn) tg (gF C s H fp pn))(htF:∀C s H fp pn,PTs (Cd X (own++cap.map (·.1)) scope cl C s H fp pn) ts (ttF C s H fp pn))(heF:∀C s H fp pn,PE (Cd X (own++cap.map (·.1)) scope cl C s H fp pn) elt (teF C s H fp pn))(hts:ts.length<=1)(I2:Inv X pins Y H s)(T:Turn X.prog X.w X.K tg J fp it tn)(st2:tn 0 s.heap)(f2:∀b∈fp,FpOk X pins H b){Q:VK}(hw:∀C s H2 fp pn,K7 J (gF C s H2 fp pn) (ttF C s H2 fp pn) (teF C s H2 fp pn) own cap Y Q H){R:Value->Addr->Result->Shared->Prop} (fin:∀(D C:Addr) (H':Hp) (s':Shared) (m:Str->Option Value),s.heap.objs.size<=C->s'.heap.Ns C m->H' C=none ->
   (∀h',Heap.SameBut C s'.heap h'->Inv X pins Y H' { s' with heap:=h' })->Q (.ref D) H'->R (.ref D) C (.ok .next) s') :
  wX X (newList []) (λacc s₃=>wX X (newFunctionEnv scope X.env.globals cl [] X.env.qual none .none (some X.env)) (λcenv s₄=>
   codeAny (model X.prog X.w) X.A (.compStart (.ListComp elt [⟨tg,iter,ts,0⟩] scope pos) 0 (.ref it) acc { cenv with scope:=relabel scope X.env }) (R acc cenv.locals) s₄) E s₃) E s :=
 Us O hc hgF htF heF hts I2 T st2 f2 hw fin λ_ _ _ _ _ _ z=>z.elim
def Zrf{elt iter:Expr}{wi:TI}{ts:List Expr}{g:Fam TG}{tt:Fam TT}{te:Fam TE}(hi:PI X tg iter wi)(O:FT X own cap scope cl)(hc:X.calm=true)(hg:∀C s H fp pn,PG (Cd X (own++cap.map (·.1)) scope cl C s H fp pn) tg (g C s H fp pn))(ht:∀C s H fp pn,PTs (Cd X (own++cap.map (·.1)) scope cl C s H fp pn) ts (tt C s H fp pn))(he:∀C s H fp pn,PE (Cd X (own++cap.map (·.1)) scope cl C s H fp pn) elt (te C s H fp pn))(hts:ts.length<=1)(hs:∀x,foldedSetIterable iter X.env x=pure x:=by intro _;rfl):PE X (.ListComp elt [⟨tg,iter,ts,0⟩] scope pos) (HF wi g tt te own cap):=by
 intro b s Y H Q I h;refine QF rfl hs O.clos O.kind O.locals (thn (hi b s Y H _ I h) λz f a=>thn a λn e c=>?_);obtain ⟨w,fp,u,J,A,rfl,i,T,d,t,j⟩:=c;refine ZjW O hc hg ht he hts i T d t j ?_;intro D C p B m v o y k q;exact ⟨m,o,λl r=>⟨.ref D,p,k l r,rfl,q⟩⟩
def Zkx{elt iter:Expr}{wi:TI}{ts:List Expr}{g:Fam TG}{tt:Fam TT}{te:Fam TE}(hN:X.N.Nodup)(hix:X.N[i]?=some x)(hx:Loc X.env.scope x)(hi:PI X tg iter wi)(O:FT X own cap scope cl)(hc:X.calm=true)(hg:∀C s H fp pn,PG (Cd X (own++cap.map (·.1)) scope cl C s H fp pn) tg (g C s H fp pn))(ht:∀C s H fp pn,PTs (Cd X (own++cap.map (·.1)) scope cl C s H fp pn) ts (tt C s H fp pn))(he:∀C s H fp pn,PE (Cd X (own++cap.map (·.1)) scope cl C s H fp pn) elt (te C s H fp pn))(hts:ts.length<=1)(hsw:swapsWith (.ListComp elt [⟨tg,iter,ts,0⟩] scope pos) (some (.Name x pos')) spos.line X.env=pure true:=by rfl)(hs:∀x,foldedSetIterable iter X.env x=pure x:=by intro _;rfl)(hf:X.fn x=true\/X.env.scope.names.lookup x=some .local:=by first | exact .inl rfl | exact .inr rfl | assumption):PS X (.Assign [.Name x pos'] (.ListComp elt [⟨tg,iter,ts,0⟩] scope pos) spos) (tAsg (HF wi g tt te own cap) (FQ i)):=by
 intro a s Y H D I h;rw [exec_Assign_Name_used _ _ _ _ hsw];refine Ac (Gi (Ac ?_))
 refine Ac (BV (QF rfl hs O.clos O.kind O.locals
  (thn (hi a s Y H _ I h) λxv L k=>thn k λitv K l=>?_)) (λ_ B hq=>Af (Af hq)) λ_ _ e=>e)
 obtain ⟨it,fp,tn,J,H2,rfl,d,T,w,U,hw⟩:=l;refine ZjW O hc hg ht he hts d T w U hw ?_;intro A C Q B m f W G S q;have F:=S B.heap (Heap.SameBut.refl ..);obtain ⟨n,es,Z,R,M,hk⟩:=id W;have j:=Gh (Bp d.lt f);have t:=d.nofs f;have I4:Inv X (a++[(C,n)]) Y Q B:=F.pins_of λp r=>by
  rcases Dv.mp r with z | z
  .exact F.pin p (CK _ z)
  .have V:p=(C,n):=by simpa using z
   subst V;exact ⟨R,G,j,t,λv e=>by rw [M] at e;cases e⟩
 refine wpAny_assign_Name (JP I4 hN hix hx (v:=.ref A) rfl (λs5 P=>?_) hf);have E:=(P.pin (C,n) (CK _ (CK _ (by simp)))).1;refine ⟨m,⟨n,es,Z,E,M,hk⟩,λh' sb=>⟨_,Q,?_,q⟩⟩;refine (P.unpinned).turned (λb o hb e=>sb.extBut b o hb e) G j (.inr (Ar d.sz f)) (λy c e=>?_) (λp r=>?_)
 .obtain ⟨v,o,u,_⟩:=d.cell y c e;exact Bq (Bp (BW u) f)
 .exact Bq (Bp (BW (d.pin p r).1) f)
end
def Qt(scope out:Scope):List (Str×NameKind):=scope.names.map λ(n,k)=>if (k==.free&&out.kind==.function&&out.names.lookup n==some .cell) then (n,.cell) else (n,k)
def ZC(scope out:Scope)(cn:List Str):Bool :=
 scope.names.all (λy=>y.2 != .cell||!cn.contains y.1)&&scope.names.all (λy=>y.2 != .local||scope.names.lookup y.1==some .local)&&(Qt scope out).all (λy=>!(y.2==.cell||y.2==.free)||cn.contains y.1||scope.names.contains (y.1,.cell))&&cn.all (λn=>out.names.lookup n==some .cell&&(Qt scope out).lookup n==some .cell)
def Oq(X:Cx):List (Str×Addr)->Prop
 | []=>True
 | p::r=>X.env.cells.lookup p.1=some p.2/\Oq X r
def Oq.mem:∀{cl:List (Str×Addr)} {p:Str×Addr},Oq X cl->p∈cl->X.env.cells.lookup p.1=some p.2
 | _::_,_,h,.head _=>h.1
 | _::_,_,h,.tail _ m=>Oq.mem h.2 m
def CapN(X:Cx):List (Str×Nat)->Prop
 | []=>True
 | p::r=>X.N[p.2]?=some p.1/\CapN X r
def Tw:∀{l:List (Str×α)},x∈l.map (·.1)->∃c,l.lookup x=some c
 | [],h=>by simp at h
 | (y,c)::r,h=>by
  by_cases e:x=y
  .subst e;exact ⟨c,by simp⟩
  .have b:x∈r.map (·.1):=by
    rcases Bk.mp h with ⟨p,hp,rfl⟩;rcases An.mp hp with rfl | hp
    .exact aB rfl e
    .exact Bk.mpr ⟨p,hp,rfl⟩
   obtain ⟨d,a⟩:=Tw b;exact ⟨d,by rw [Gu,beq_false_of_ne e];exact a⟩
def FT.of{cap:List (Str×Nat)}{scope:Scope}{cl:List (Str×Addr)}(clos:closureFor scope X.env=pure cl)(kind:scope.kind=.function)(chk:ZC scope X.env.scope (cap.map (·.1))=true)(names:cl.map (·.1)=cap.map (·.1))(sub:Oq X cl)(capn:CapN X cap):FT X own cap scope cl:=by
 unfold ZC at chk;simp only [Bo,Ey] at chk;obtain ⟨⟨⟨v,w⟩,u⟩,C⟩:=chk;have i:∀x c,cl.lookup x=some c->X.env.cells.lookup x=some c:=λx c e=>sub.mem (Ei e);have h:∀l,(∀p∈l,p.1∈cap.map (·.1))->CapN X l->La X (relabel scope X.env) cl l:=by
  intro l
  induction l with
  | nil=>exact λ_ _=>trivial
  | cons p r ih=>
   intro f t;have j:=f p Aw;have n:=C p.1 j;have B:X.env.scope.names.lookup p.1=some .cell:=by simpa using n.1
   have E:(Qt scope X.env.scope).lookup p.1=some .cell:=by simpa using n.2
   obtain ⟨c,d⟩:=Tw (by rw [names];exact j);exact ⟨⟨t.1,B,E,c,d,i _ _ d⟩,ih (λq n=>f q (Av _ n)) t.2⟩
 refine ⟨clos,kind,λx c f y s o=>?_,λy s e=>?_,λx c f=>sub.mem f,λk x D=>?_,h cap (λp j=>Bk.mpr ⟨p,j,rfl⟩) capn⟩
 .have:=v y s;rw [o] at this;rintro rfl;have d:y.1∈cap.map (·.1):=by rw [<-names];exact Bk.mpr ⟨_,f,rfl⟩
  simp at this;simp at d;obtain ⟨a,A⟩:=d;exact this a A
 .have:=w y s;rw [e] at this;simpa using this
 .have g:∀m,(Qt scope X.env.scope).lookup x=some m->(m=.cell\/m=.free)->∃c,(PySem.cellsFrom k scope.names cl).lookup x=some c:=by
   intro m e o;have:=u _ (Ei e);refine Option.isSome_iff_exists.mp (U4 scope.names k cl ?_);have b:x∈cap.map (·.1)\/(x,NameKind.cell)∈scope.names:=by
    rcases o with rfl | rfl
    .simpa using this
    .simpa using this
   rcases b with z | z
   .obtain ⟨c,d⟩:=Tw (by rw [names];exact z);exact .inl (by rw [d];rfl)
   .exact .inr z
  rcases D with e | e
  .exact g _ e (.inl rfl)
  .exact g _ e (.inr rfl)
end L2
namespace L2
open PySem.Calls
structure Sk(o o':Obj):Prop where
 d:o'.dict=o.dict
 f:∀vs,o.data=.fields vs->∃vs':Array Value,o'.data=.fields vs'/\vs'[2]?=vs[2]?
def Sk.refl(o):Sk o o:=⟨rfl,λa e=>⟨a,e,rfl⟩⟩
def Sk.trans(x:Sk a b)(y:Sk b c):Sk a c:=⟨y.d.trans x.d,λh e=>by
 obtain ⟨g,j,l⟩:=x.f h e;obtain ⟨m,k,i⟩:=y.f g j
 exact ⟨m,k,i.trans l⟩⟩
def KD(h h':Heap):Prop:=∀(b:Nat) (o:Obj),h.objs[b]?=some o->∃a:Obj,h'.objs[b]?=some a/\Sk o a
def KD.refl(h:Heap):KD h h:=λ_ o e=>⟨o,e,.refl o⟩
def KD.trans(x:KD a b)(y:KD b c):KD a c:=λk o e=>by
 obtain ⟨h,f,j⟩:=x k o e;obtain ⟨d,i,g⟩:=y k h f;exact ⟨d,i,j.trans g⟩
def KD.push(h:Heap)(o:Obj):KD h (h.push o):=λb u e=>by
 obtain ⟨a,l⟩:=h;refine ⟨u,?_,.refl u⟩;show (a.push o)[b]?=some u;have e:a[b]?=some u:=e;have c:=(Hk.mp e).1;rw [Array.getElem?_push,iN (by omega)];exact e
def KD.update(h:Heap)(a:Addr)(hf:∀o,Sk o (f o)):KD h (h.update a f):=λb u e=>by
 obtain ⟨c,l⟩:=h;have e:=e;show ∃d,(c.modify a f)[b]?=some d/\_;rw [Array.getElem?_modify];by_cases q:a=b
 .rw [iP q,e];exact ⟨f u,rfl,hf u⟩
 .rw [iN q];exact ⟨u,e,.refl u⟩
def WF{h:Heap}(e:h.get? a=some o):h.objs[a]?=some o:=by
 unfold Heap.get? at e;split at e
 .cases e
 .exact e
def KD.at{h h':Heap}(x:KD h h')(e:h.get? a=some o)(e':h'.get? a=some o'):Sk o o':=by
 obtain ⟨d,b,c⟩:=x a o (WF e);rw [WF e'] at b;cases b;exact c
def Dk:Sem α->Prop
 | .pure _=>True
 | .raise _=>True
 | .unsupported _=>True
 | .finish _=>True
 | .rule _ k=>Dk (k ())
 | .at _ k=>Dk (k ())
 | .load _ _ k=>∀o,Dk (k o)
 | .update _ _ f k=>(∀o,Sk o (f o))/\Dk (k ())
 | .loadIfAlive _ k=>∀o,Dk (k o)
 | .point _ k=>Dk (k ())
 | .alloc _ k=>∀a,Dk (k a)
 | .fresh k=>∀t,Dk (k t)
 | .ask k=>∀x,Dk (k x)
 | .choose _ _ k=>∀n,Dk (k n)
 | .handled _ k=>∀x,Dk (k x)
 | .stack k=>∀l,Dk (k l)
 | .thread k=>∀n,Dk (k n)
 | .register _ _=>True
 | _=>False
def Zv3:∀(t:Sem α) {Q:α->Pos->Shared->Prop} {E:Value->Pos->Shared->Prop} {p:Pos} {s:Shared},Dk t->Sem.wp M Γ t Q E p s ->
  Sem.wp M Γ t (λa p' s'=>Q a p' s'/\KD s.heap s'.heap) (λe p' s'=>E e p' s'/\KD s.heap s'.heap) p s:=by
 intro t
 induction t with
 | pure a=>intro Q E p s _ h;exact ⟨h,.refl _⟩
 | raise e=>intro Q E p s _ h;exact ⟨h,.refl _⟩
 | unsupported w=>intro Q E p s _ h;exact h
 | finish e=>intro Q E p s _ h;exact h
 | rule t k ih=>intro Q E p s d h;exact ih () d h
 | «at» q k ih=>intro Q E p s d h;exact ih () d h
 | load a q k ih=>intro Q E p s d h;obtain ⟨o,e,h⟩:=h;exact ⟨o,e,ih o (d o) h⟩
 | update a q f k ih=>
  intro Q E p s d h;refine ⟨h.1,?_⟩;have z:=ih () d.2 h.2;exact Sem.wp_mono _ _ _ (λ_ _ _ x=>⟨x.1,(KD.update _ _ d.1).trans x.2⟩) (λ_ _ _ x=>⟨x.1,(KD.update _ _ d.1).trans x.2⟩) _ _ z
 | alloc o k ih=>
  intro Q E p s d h;exact Sem.wp_mono _ _ _ (λ_ _ _ x=>⟨x.1,(KD.push _ _).trans x.2⟩) (λ_ _ _ x=>⟨x.1,(KD.push _ _).trans x.2⟩) _ _ (ih _ (d _) h)
 | loadIfAlive a k ih=>intro Q E p s d h;exact ih _ (d _) h
 | point l k ih=>intro Q E p s d h;exact ih () d h
 | register a k ih=>intro Q E p s d h;exact h
 | fresh k ih=>intro Q E p s d h;exact ih _ (d _) h
 | ask k ih=>intro Q E p s d h;exact ih _ (d _) h
 | choose src n k ih=>intro Q E p s d h;exact ⟨h.1,ih _ (d _) h.2⟩
 | handled o k ih=>intro Q E p s d h;exact ih _ (d _) h
 | stack k ih=>intro Q E p s d h;exact ih _ (d _) h
 | thread k ih=>intro Q E p s d h;exact ih _ (d _) h
 | _=>intro Q E p s d h;exact d.elim
def Ha(d:Dk t)(h:wpAny M A t Q E s):wpAny M A t (λa s'=>Q a s'/\KD s.heap s'.heap) (λe s'=>E e s'/\KD s.heap s'.heap) s :=
 λΓ p b=>Zv3 t d (h Γ p b)
def Dk.bind:∀{t:Sem α} {k:α->Sem β},Dk t->(∀a,Dk (k a))->Dk (t >>= k):=by
 intro t
 induction t with
 | pure a=>intro k _ h;exact h a
 | raise e=>intro k _ h;trivial
 | unsupported w=>intro k _ h;trivial
 | finish e=>intro k _ h;trivial
 | rule t k ih=>intro k d h;exact ih () d h
 | «at» q k ih=>intro k d h;exact ih () d h
 | load a q k ih=>intro k d h o;exact ih o (d o) h
 | update a q f k ih=>intro k d h;exact ⟨d.1,ih () d.2 h⟩
 | alloc o k ih=>intro k d h a;exact ih a (d a) h
 | loadIfAlive a k ih=>intro k d h o;exact ih o (d o) h
 | point l k ih=>intro k d h;exact ih () d h
 | register a k ih=>intro k d h;trivial
 | fresh k ih=>intro k d h o;exact ih o (d o) h
 | ask k ih=>intro k d h o;exact ih o (d o) h
 | choose src n k ih=>intro k d h o;exact ih o (d o) h
 | handled o k ih=>intro k d h o;exact ih o (d o) h
 | stack k ih=>intro k d h o;exact ih o (d o) h
 | thread k ih=>intro k d h o;exact ih o (d o) h
 | _=>intro k d h;exact d.elim
def Uc(a):Dk (load a):=λ_=>trivial
def R0:Dk stack:=λ_=>trivial
def ZhX(a)(hf:∀o,Sk o (f o)):Dk (update a f):=⟨hf,trivial⟩
def ZnB(o):Dk (alloc o):=λ_=>trivial
def ZiC(v):Dk (fieldsOf v):=by
 unfold fieldsOf;split
 .refine Dk.bind (Uc _) λo=>?_;split
  .trivial
  .trivial
 .trivial
def RP(v)(i):Dk (field v i):=by
 unfold field;refine Dk.bind (ZiC v) λo=>?_;split
 .trivial
 .trivial
def VN(hi:i≠2)(v)(o):Sk o (Obj.mapFields (·.setIfInBounds i v) o):=by
 obtain ⟨c,d,b,f⟩:=o;refine ⟨by cases b<;>rfl,λa e=>?_⟩;have e:=e;subst e;exact ⟨a.setIfInBounds i v,rfl,by rw [Array.getElem?_setIfInBounds_ne hi]⟩
def Zsg(a)(hi:i≠2)(v):Dk (updateField a i v):=by
 unfold updateField;refine Dk.bind (Uc _) λo=>?_;split
 .split
  .exact ZhX _ (VN hi _)
  .trivial
 .trivial
def R5(e)(hi:i≠2)(v):Dk (setField e i v):=by
 unfold setField;split
 .exact Zsg _ hi _
 .trivial
def Sg(e)(f):Dk (setFlight e f):=by
 unfold setFlight;refine Dk.bind (RP _ _) λo=>?_;split
 .exact R5 _ (by decide) _
 .trivial
def Vl:∀l,Dk (readyFrames l)
 | []=>trivial
 | env::outer=>by
  unfold readyFrames;split
  .refine Dk.bind (Uc _) λo=>?_;split
   .trivial
   .refine Dk.bind ?_ λb=>Dk.bind ?_ λk=>Dk.bind (ZhX _ λo=>⟨rfl,λa e=>⟨a,e,rfl⟩⟩) λ_=>Vl outer
    .unfold behindIsImport;split
     .trivial
     .split
      .trivial
      .exact Dk.bind (RP _ _) λ_=>trivial
    .unfold keptBack;split
     .split
      .trivial
      .unfold underTheClaimsCaller;exact Dk.bind (Dk.bind R0 λ_=>trivial) λ_=>trivial
     .trivial
  .trivial
def ZkB(env):Dk (PySem.frameOf env):=by
 unfold PySem.frameOf frameEnvs;refine Dk.bind (Dk.bind R0 λ_=>trivial) λl=>Dk.bind ?_ λo=>?_
 .unfold frameObject;split
  .trivial
  .exact Dk.bind (Vl _) λ_=>trivial
 .split
  .trivial
  .trivial
def ZoU(a b c d e)(l):Dk (EntryCells.newEntry a b c d e l):=by
 unfold EntryCells.newEntry newFields;generalize ([a,b,c,d,e]++_)=vs;unfold newObj newObjAsIs;have f:Dk (alloc { cls:=Value.type "traceback",data:=Data.fields vs.toArray } >>= λa=>(pure (Value.ref a):Sem Value)):=Dk.bind (ZnB _) λ_=>trivial;by_cases h:vs.toArray.size>sizeLine+2
 .show Dk (if vs.toArray.size>sizeLine+2 then _ else _)
  rw [iP h];trivial
 .show Dk (if vs.toArray.size>sizeLine+2 then _ else _)
  rw [iN h];exact f
def QZ(e)(env):Dk (noteFrame e env):=by
 unfold noteFrame;split
 .refine Dk.bind (RP _ _) λo=>?_;have a:Dk (do setField e 1 (<-EntryCells.newEntry o (<-PySem.frameOf env) .none (rawInt ‹Addr›) .none (<-entryPlaceOf ‹Addr› (o != .none)))):=by
   refine Dk.bind (ZkB _) λ_=>Dk.bind ?_ λ_=>Dk.bind (ZoU _ _ _ _ _ _) λ_=>R5 _ (by decide) _;unfold entryPlaceOf;refine Dk.bind R0 λ_=>?_;split
   .trivial
   .trivial
  split
  .refine Dk.bind (RP _ _) λ_=>?_;split
   .trivial
   .exact Dk.bind (R5 _ (by decide) _) λ_=>a
  .exact a
 .trivial
def Ov(env)(e):Dk (leaving env e):=Dk.bind (QZ _ _) λ_=>Sg _ _
end L2
namespace L2
def Dj.there(x:Dj P w H h a o):∃ob,h.get? a=some ob:=by
 cases o with
 | lst xs=>obtain ⟨_,_,_,_,e⟩:=x;exact ⟨_,e⟩
 | tup xs=>obtain ⟨_,_,_,o,e,_⟩:=x;exact ⟨_,e⟩
 | ins C dx fs=>obtain ⟨_,_,_,e,_⟩:=x;exact ⟨_,e⟩
 | own y=>obtain ⟨_,e⟩:=x;exact ⟨_,e⟩
 | xd fs=>obtain ⟨_,⟨_,_,_,e,_⟩,_⟩:=x;exact ⟨_,e⟩
 | frz ob u=>obtain ⟨e,_⟩:=x;exact ⟨_,e⟩
 | tbl ps=>exact ⟨_,(x)⟩
 | ext φ=>obtain ⟨_,⟨_,e⟩,_⟩:=x;exact ⟨_,e⟩
def HOk.free(x:HOk P w H h)(e:h.get? a=none):H a=none:=by
 cases q:H a with
 | none=>rfl
 | some o=>
  obtain ⟨b,z⟩:=(x a o q).there;rw [e] at z;cases z
structure Fly(P:Program)(w:World)(l:List Env)(H H':Hp)(s s':Shared)(x:Addr)(cls:Value):Prop where
 os:s'.os=s.os
 bare:AllBare s'.gens
 un:Un (frs l) [] H H' s.heap s'.heap
 hok:HOk P w H' s'.heap
 frf:∀b∈frs l,H' b=none
 free:H' x=none
 ex:∃(B:Heap) (a0:Value),Heap.FlyingW B l x cls a0 s'.heap/\∀b o,s'.heap.get? b=some o->(H' b≠none\/∃o',s.heap.get? b=some o')->b∉frs l->B.get? b=some o
def NT{s':Shared}{x:Addr}{B:Heap}(os:s'.os=s.os)(bare:AllBare s'.gens)(un:Un (frs l) [] H H' s.heap s'.heap)(hok:HOk P w H' s'.heap)(frf:∀b∈frs l,H' b=none)(nf:∀b∈frs l,∃o,s'.heap.get? b=some o/\∀vs,o.data≠.fields vs)(cov:∀b o,s'.heap.get? b=some o->(H' b≠none\/∃o',s.heap.get? b=some o')->b∉frs l->B.get? b=some o)(sub:∀b∈frs l',b∈frs l)(new:∀b∈frs l,b∉frs l'->s.heap.get? b=none)(fl:Heap.FlyingW B l' x cls a0 h')(sm:s'.heap.UpToSlots h')(free:H' x=none) :
  Fly P w l' H H' s { s' with heap:=h' } x cls:=by
 have d:=λb o e q hb=>fl.1 b o (cov b o e q hb);have f:∀{b:Addr} {o:Obj},s.heap.get? b=some o->b∉frs l'->b∉frs l:=λ{b o} e hb z=>by
  rw [new b z hb] at e;cases e
 refine ⟨os,bare,⟨λb o e n hb j=>?_,λb o e n hb j=>?_,un.free,λb o e j=>?_,un.tups,un.frzs,un.tbls⟩,λa o e=>?_,λb hb=>frf b (sub b hb),free,B,a0,fl,λb o e q hb=>?_⟩
 .exact d b o (un.keep b o e n (f e hb) j) (.inr ⟨o,e⟩) (f e hb)
 .obtain ⟨v,q⟩:=un.slot b o e n (sub b hb) j;obtain ⟨h,g,k⟩:=nf b (sub b hb);rw [q] at g;cases g;obtain ⟨i,p⟩:=sm b _ q k;exact ⟨i,p⟩
 .obtain ⟨o',q⟩:=un.there b o e j;by_cases hb:b∈frs l
  .obtain ⟨h,g,k⟩:=nf b hb;obtain ⟨i,p⟩:=sm b _ g k;exact ⟨_,p⟩
  .exact ⟨o',d b o' q (.inr ⟨o,e⟩) hb⟩
 .refine (hok a o e).stay (λb u hb q=>?_) (λ_ q=>q) λ_ _ q=>q;have r:H' b≠none:=by
   rcases hb with rfl | hb
   .rw [e];simp
   .rw [hb];simp
  exact d b u q (.inl r) λz=>r (frf b z)
 .have m:b∉frs l:=by
   intro z;rcases q with q | ⟨o',q⟩
   .exact q (frf b z)
   .exact f q hb z
  have ⟨h,g⟩ : ∃h,s'.heap.get? b=some h:=by
   rcases q with q | ⟨o',q⟩
   .cases z:H' b with
    | none=>exact aB z q
    | some u=>exact (hok b u z).there
   .exact un.there b o' q (by simp)
  have c:=cov b h g q m;have z:=fl.1 b h c;have t:=e;rw [t] at z;cases z;exact c
def Fly.moved{x:Addr}(F:Fly P w l H H' s s' x cls)(fl0:Heap.FlyingW B l x cls a0 s'.heap)(cov:∀b o,s'.heap.get? b=some o->(H' b≠none\/∃o',s.heap.get? b=some o')->b∉frs l->B.get? b=some o)(fl:Heap.FlyingW B l x cls a0 h')(sm:s'.heap.UpToSlots h') :
  Fly P w l H H' s { s' with heap:=h' } x cls :=
 NT F.os F.bare F.un F.hok F.frf (λb a=>(fl0.2.2.1.mem a).2) cov (λ_ a=>a) (λ_ d c=>aB d c) fl sm F.free
section
variable {H':Hp} {s':Shared} {x:Addr} {cls:Value}
def Inv.unStack(I:Inv X pins Y H s)(hex:X.ex=[])(hfs:∀b∈X.fs,b∈frs X.stack):Un (frs X.stack) [] X.H₀ H X.s₀.heap s.heap:=I.base.mono hfs (by rw [hex];exact λ_ z=>z)
def Inv.sub(I:Inv X pins Y H s):∀b∈X.fs,b∈frs X.stack:=λb a=>by
 rcases I.ok.stk with e | ⟨e,hf⟩
 .rw [e];exact a
 .rw [e];unfold frs;rw [Mj,hf];exact Av _ a
def Inv.flyOut(I:Inv X pins Y H s)(hex:X.ex=[])(F:Fly X.prog X.w X.stack H H' s s' x cls){B:Heap}(fl0:Heap.FlyingW B X.stack x cls a0 s'.heap)(cov:∀b o,s'.heap.get? b=some o->(H' b≠none\/∃o',s.heap.get? b=some o')->b∉frs X.stack->B.get? b=some o)(fl:Heap.FlyingW B X.outer x cls a0 h')(sm:s'.heap.UpToSlots h') :
  Fly X.prog X.w X.outer X.H₀ H' X.s₀ { s' with heap:=h' } x cls:=by
 refine NT (F.os.trans I.os) F.bare ((I.unStack hex I.sub).trans F.un) F.hok F.frf (λb a=>(fl0.2.2.1.mem a).2) (λb o e q a=>cov b o e (q.imp id λ⟨o',z⟩=>I.base.there b o' z (by rw [hex];simp)) a) I.sub (λb d c=>?_) fl sm F.free;rcases An.mp (I.stkSub b d) with e | e
 .rw [e];exact Fg I.ok.above
 .exact aB e c
end
def CtxN(x:Addr)(h:Heap):Prop:=∃a b,h.get? x=some a/\a.data=.fields b/\b[2]?=some .none
def CtxN.on{x:Addr}(k:CtxN x h)(kd:KD h h')(ht:∃ox,h'.get? x=some ox):CtxN x h':=by
 obtain ⟨ox,g,d,j,i⟩:=k;obtain ⟨c,a⟩:=ht;obtain ⟨b,e,l⟩:=(kd.at d a).f g j;exact ⟨c,b,a,e,l.trans i⟩
def HW(p:Option Addr)(x:Addr)(H':Hp)(h0 h:Heap):Prop:=(p=none->CtxN x h)/\∀n:Nat,p=some n->∃(ox:Obj) (d:Addr) (m:Str->Option Value),h.get? x=some ox/\ox.dict=some d/\h.Ns1 d m/\(∀g,RelO (([("at",V.int ((n/2:Nat):Int))]:List (Str×V)).lookup g) (m g))/\H' d=none/\h0.get? d=none/\d≠x/\(n%2=0->∃a:Array Value,ox.data=.fields a/\a[2]?=some .none)
def HW.no{x:Addr}(k:CtxN x h):HW none x H' h0 h:=⟨λ_=>k,λ_ z=>by cases z⟩
def U5{h h':Heap}(x:h.UpToSlots h')(hn:h.Ns1 a m):h'.Ns1 a m:=by
 obtain ⟨o,c,e,d,b,r⟩:=hn;obtain ⟨g,f⟩:=x a o d λi q=>by rw [b] at q;cases q
 exact ⟨_,c,e,f,b,r⟩
def HW.on{x:Addr}(k:HW p x H' h0 h)(kd:KD h h')(sm:h.UpToSlots h')(ht:∃ox,h'.get? x=some ox)(h01:∀b o,h1.get? b=some o->∃o',h0.get? b=some o'):HW p x H' h1 h':=⟨λe=>(k.1 e).on kd ht,λn e=>by
 obtain ⟨ox,d,m,i,C,r,v,j,l,u,s⟩:=k.2 n e;obtain ⟨c,a⟩:=ht;refine ⟨c,d,m,a,(kd.at i a).d.trans C,U5 sm r,v,j,?_,u,λz=>?_⟩
 rotate_left
 .obtain ⟨A,w,B⟩:=s z;obtain ⟨g,y,t⟩:=(kd.at i a).f A w;exact ⟨g,y,t.trans B⟩
 cases q:h1.get? d with
 | none=>rfl
 | some o=>
  obtain ⟨o',z⟩:=h01 d o q
  rw [l] at z;cases z⟩
def CXR(P:Program)(w:World):CXT:=λa H s E e d=>∃x b p c,e=.ref x/\Fly P w a H c s d x b/\HW p x c s.heap d.heap/\E b p c
section
variable {qual:Str} {scope:Scope} {f:Addr} {cd:Value} {outer:List Env} {s₀:Shared} {H₀:Hp} {E:XK}
def Dr:Fd (CXR P w) (cxOf (CXR P w) P w K mg base N qual scope f cd A outer s₀ H₀ E) E:=by
 intro l Y H s e m I h;obtain ⟨x,d,p,u,rfl,F,r,q⟩:=h;obtain ⟨B,n,j,i⟩:=F.ex;refine BV (Ha (Ov _ _) (wpAny_leaves_onW (Q:=λ_ k=>∃c,k={ m with heap:=c }/\Heap.FlyingW B outer x d n c/\m.heap.UpToSlots c) I.ok.frames rfl j λc a g=>⟨c,rfl,a,g⟩)) (λ_ k z=>?_) λ_ _ z=>z.1
 obtain ⟨⟨c,rfl,a,g⟩,t⟩:=z;exact ⟨x,d,p,u,rfl,I.flyOut rfl F j i a g,r.on t g (let ⟨o,e,_⟩:=a.there;⟨o,e⟩) (λb o e=>I.base.there b o e (λz=>nomatch z)),q⟩
end
abbrev G7:List Value:=[.type "ValueError",.type "Exception",.type "BaseException",.type "object"]
def ZvA(X:K.In h₀)(m:mg x=some (.ref C))(q:W.excIn K C bmB newId=true):OwnCls x C bmB newId mg h₀:=by
 refine ⟨m,?_⟩;unfold W.excIn at q;split at q
 .rename_i dd cd sl ho;split at q
  .rename_i C' bm k0 k1 k2 k3 n k5 hm hs;simp only [Bo,Dc,Bool.not_eq_true'] at q;obtain ⟨⟨⟨⟨⟨rfl,rfl⟩,a⟩,p⟩,b⟩,e⟩:=q;obtain ⟨g,i,s,o,j,r,t,d,h,f,k⟩:=cd;subst hm a;have c:sl=#[k0,k1,k2,k3,some (.builtin n),k5]:=by
    obtain ⟨l⟩:=sl;simp only at hs;rw [hs]
   subst c;exact ⟨bm,o,g,j,i,r,t,d,h,f,dd,k0,k1,k2,k3,k5,_,X _ _ ho,.of_isNs (W.isNs_of_in X b),W.nsMap_none_of_in X b e,W.tail_of_in X p⟩
  .cases q
 .cases q
section
def Inv.flyMade(I:Inv X pins Y H s)(hex:X.ex=[])(hst:X.stack=X.env::X.outer)(hfr:X.env.frame=some X.env.locals){x:Addr}{s1:Shared}(e1:s1={ s with heap:=h1,toks:=s1.toks })(hx:Heap.MadeExcOf s.heap h1 x cls args)(k:∀s2,Fly X.prog X.w X.outer X.H₀ H X.s₀ s2 x cls->CtxN x s2.heap->Q () s2):wX X (leaving X.env (.ref x)) Q E s1:=by
 have h:∀env∈X.stack,∀b,env.frame=some b->b∈frs X.stack:=λenv i b d=>Ku.mpr ⟨env,i,d⟩;have c:s1.heap=h1:=by rw [e1]
 refine BV (Ha (Ov _ _) (wpAny_leaves_madeW (Q:=λ_ s2=>∃a t,s2={ s1 with heap:=a }/\Heap.FlyingW (W.hideAll s.heap (frs X.stack)) X.outer x cls (.ref t) a/\s1.heap.UpToSlots a) (by rw [<-hst];exact I.ok.frames) hfr (λb o q=>Gj _ q) (by rw [<-hst];exact W.funFrames_hide I.stack h) (by rw [c];exact hx) λa t f _ _ g=>⟨a,t,rfl,f,g⟩)) (λ_ s2 z=>?_) λ_ _ z=>z.1
 obtain ⟨⟨a,t,rfl,f,g⟩,j⟩:=z;refine k _ ?_ (CtxN.on (by rw [c];exact let ⟨t,e,_⟩:=hx.there;⟨_,_,e,rfl,rfl⟩) j (let ⟨o,e,_⟩:=f.there;⟨o,e⟩));have F:Fly X.prog X.w X.outer X.H₀ H X.s₀ { s with heap:=a } x cls:=by
  refine NT I.os I.bare (I.unStack hex I.sub) I.hok I.stkFree (λb d=>(I.stack.mem d).2) (λb o e _ d=>Io _ e d) I.sub (λb h1 a=>?_) f ((Heap.UpToSlots.of_keeps hx.keeps).trans (by rw [<-c];exact g)) (I.hok.free hx.new);rcases An.mp (I.stkSub b h1) with e | e
  .rw [e];exact Fg I.ok.above
  .exact aB e a
 refine ⟨?_,?_,F.un,F.hok,F.frf,F.free,F.ex⟩
 .rw [e1];exact I.os
 .rw [e1];exact I.bare
end
section
variable {qual:Str} {scope:Scope} {f:Addr} {cd:Value} {outer:List Env} {s₀:Shared} {H₀:Hp} {E:XK}
def Yo(E:XK)(C:Addr)(te:TA):TS:=λ_ Y H=>te Y H λb a=>b.length<=1000/\E (.ref C) none a
def Zoz(hg:Gl (cxOf (CXR P w) P w K mg base N qual scope f cd A outer s₀ H₀ E) x)(hm:mg x=some (.ref C))(hq:W.excIn K C G7 "ValueError.__new__"=true)(ha:PA (cxOf (CXR P w) P w K mg base N qual scope f cd A outer s₀ H₀ E) (e::es) t)(hd:ND x:=by decide)(he:starEach (e::es) (cxOf (CXR P w) P w K mg base N qual scope f cd A outer s₀ H₀ E).env=(false,eval e (cxOf (CXR P w) P w K mg base N qual scope f cd A outer s₀ H₀ E).env)::starEach es (cxOf (CXR P w) P w K mg base N qual scope f cd A outer s₀ H₀ E).env:=by rfl)(hpl:(backTo cpos (starEach es (cxOf (CXR P w) P w K mg base N qual scope f cd A outer s₀ H₀ E).env)).any (·.1)=false:=by rfl) :
  PS (cxOf (CXR P w) P w K mg base N qual scope f cd A outer s₀ H₀ E) (.Raise (some (.Call (.Name x np) (e::es) [] cpos)) none pos) (Yo E C t):=by
 intro a s Y H D I h;obtain ⟨p,m,nm,q,bs,hdct,sn,sub,ab,col,dd,k0,k1,k2,k3,k5,r,g,k,c,T⟩:=(ZvA I.mod.kin hm hq).obj;refine wpAny_Raise_call_subU (nm:=nm) (q:=q) (N:=m) (bs:=bs) (hdct:=hdct) (sn:=sn) (sub:=sub) (ab:=ab) (col:=col) (dd:=dd) (k0:=k0) (k1:=k1) (k2:=k2) (k3:=k3) (k5:=k5)
  Pb (by decide +kernel) Pb (T.hasType PySem.F.excBase_ValueError.hasBase) (I.ok.hd rfl) (by rw [he];show (false||(backTo cpos (starEach es _)).any (·.1))=false;rw [hpl];rfl) c (Hz I hg hm ⟨rfl,?_⟩ hd)
 have d:=ha cpos a s Y H _ I h;rw [he] at d ⊢;refine Calls.evalArgs_plain (BV d (λv u z=>?_) λ_ _ y=>y);obtain ⟨G,l,b,o,n,j⟩:=z;refine ⟨rfl,by rw [<-o.length];exact Nat.le_of_lt (Znp n),b.bk _ _ g,k.keeps b.bk,T.keeps b.bk,λh' ex hx=>?_⟩;exact b.flyMade rfl rfl rfl rfl hx λB F i=>⟨ex,.ref C,none,l,rfl,F,.no i,j⟩
end
def ExcAt(a:Addr)(C:Value)(h:Heap):Prop:=∃b,h.get? a=some b/\b.cls=C
def exO(a:Addr)(C:Value):HO:=.ext (ExcAt a C)
end L2
namespace L2
open PySem.Calls
def ZuA(e:ExcAt a C h):Dj P w H h a (exO a C) :=
 ⟨e,e.imp λ_ z=>z.1,λ_ _ ⟨o,q,c⟩ k=>⟨o,k o q,c⟩⟩
def ExcAt.ty(e:ExcAt a C h):W.Looks M h (typeOf (.ref a)) C:=by
 obtain ⟨o,c,b⟩:=e;exact b▸(W.Looks.ld c).andThen .now
structure HJ(K:W.Frag)(D:Addr):Prop where
 g:W.findIn K (.ref D) "__getattribute__"=some (some (.builtin "BaseException.__getattribute__"))
 n:W.findIn K (.ref D) "__getattr__"=some none
 b:W.mroIn K D (.type "BaseException")=some true
 d:W.hasDictIn K D=true
 f:W.findIn K (.ref D) "__class__"=some (some (.builtin "object.__class__"))
 s:W.specialIn K (.builtin "object.__class__") "__get__"=some (some (.builtin "getset_descriptor.__get__"))
 t:W.takesIn K (.builtin "object.__class__")=some true
 m:W.mroIn K D (.type "object")=some true
section
open PySem.Builtin PySem.Builtin.ObjectAttr PySem.Builtin.Getset_descriptor PySem.W
variable{prog:Program} {E:Value->Shared->Prop} {x D:Addr} {name:Str} {M:Model} {h:Heap}
def Zn7(XI:K.In h)(ha:W.findIn K (.ref D) name=some (some a))(hg:W.specialIn K a "__get__"=some (some g))(ht:W.takesIn K a=some true):W.Looks M h (find v (.ref D) name) (.bind g a):=by
 have d:=Ig (M:=M) XI ha;have b:W.Looks M h (getOf (some a)) (some g):=W.looks_specialIn XI hg;have c:W.Looks M h (dataDescriptor? (some a) (some g)) (some (g,a)):=(W.looks_takesIn XI ht).andThen .now;exact d.andThen (b.andThen (c.andThen (W.Looks.tag .now)))
def XS{nameV:Value}{Q:Unit->Shared->Prop}{hh:Heap}{gg:Array GenState}{dd:Drawn}{tt:Nat}{os:OsState}(t0:Looks M hh (typeOf (.ref x)) (.ref D))(t5:Looks M hh (isSubtype (.ref D) (.type "BaseException")) true)(hq:Q () ⟨hh,gg,dd,tt,os⟩) :
  wpAny M A (checkBuiltinCall "BaseException.__getattribute__" ⟨[.ref x,nameV],[]⟩) Q E ⟨hh,gg,dd,tt,os⟩:=by
 have a:=F.args_bexc_ga (.ref x) nameV;refine Ac ?_;refine Ac (t0.at (t5.at ?_))
 repeat (first | wp_step)
 exact hq
def Zoo{tk:Tok}{Q:Fin->Shared->Prop}{hh:Heap}{gg:Array GenState}{dd:Drawn}{tt:Nat}{os:OsState}(t0:Looks (model prog w) hh (typeOf (.ref x)) (.ref D))(t2:Looks (model prog w) hh (find (.ref x) (.ref D) "__class__") (.bind (.builtin "getset_descriptor.__get__") (.builtin "object.__class__")))(t4:Looks (model prog w) hh (isSubtype (.ref D) (.type "object")) true)(hq:Q (.done (.ret (.ref D))) ⟨hh,gg,dd,tt,os⟩) :
  wpAny (model prog w) A (Builtin.«object.__getattribute__» ⟨[.ref x,.str "__class__" tk],[]⟩) Q E ⟨hh,gg,dd,tt,os⟩:=by
 refine Ac (Af (Ac (Af (Ac (t0.at (Ac (t2.at ?_)))))));unfold bindTo
 repeat (first | with_reducible refine Ac ?_ | with_reducible refine Cv ?_)
 refine GR (Kh KF.slot_gs.plain KF.entry_gs (KF.slot_gs.check _ _ _ _ _ _ _ _ KF.type_class (KF.args_gs _ _ _) ?_));refine Ac (Af ?_);unfold descrGetter descrCheckInstance descrNameAndClass isInstance;simp only [KF.owner_class]
 repeat lk
 refine ⟨Qa _ (by decide +kernel),JV KF.entry_class ?_⟩
 repeat lk
 exact hq
def Znl(XI:K.In s.heap)(I:ExcAt x (.ref D) s.heap)(C:HJ K D)(hQ:Q (some (.ref D)) { s with toks:=s.toks+1 }):wpAny (model prog w) A (getAttr? (.ref x) "__class__") Q E s:=by
 obtain ⟨o,j,l,p,q⟩:=s;have a:=I.ty (M:=model prog w);have c:=Ig (M:=model prog w) XI C.g;have e:=Zn7 (M:=model prog w) (v:=.ref x) XI C.f C.s C.t;have i:=Ig (M:=model prog w) XI C.n;have h:=Kv (M:=model prog w) XI C.m;have d:=Kv (M:=model prog w) XI C.b;have k:=(F.excAttr_ValueError.ga).bind (.ref x);refine Ac (wpAny_mkText (Ac (wpAny_attempt (Cv (Ac (a.at (Ac (c.at ?_))))))));refine Ac (i.at (Ac (wpAny_attempt (Cv ?_))));refine Ac (Af (GR ?_));refine Kh F.excAttr_ValueError.ga.plain F.entry_bexc_ga (XS a d (Zoo a e h ?_));exact handed_on rfl (Af hQ)
def Zkb(C:HJ K D):KitX K (.ref x) (.ref D) (ExcAt x (.ref D)) where
 ty:=λ_ _ _ I=>I.ty
 it:=λ_ _ b _=>by
  obtain ⟨f,a,_⟩:=any_some C.d;unfold clsIn at a;split at a
  .rename_i c1 c2 c3 c4 ho;intro _ _ _ _ k q;exact Ac (Jf (k _ _ (b _ _ ho)) (Af q))
  .cases a
 ne:=λh i j g n l b c=>by
  obtain ⟨f,a,_⟩:=any_some C.d;refine KC.mpr λq=>?_;have e:=Value.ref.inj (Dc.mp q);subst e;unfold clsIn at a;split at a
  .rename_i c1 c2 c3 c4 ho;have z:=(b _ _ ho).symm.trans c;cases z
  .cases a
 ca:=λb I k=>Znl b I C k
end
def Cx.inX(X:Cx)(e:Addr):Cx:={ X with A:=X.A.mark (some (.ref e)),calm:=false,xe:=λ_ _=>False }
section
variable {H':Hp} {s':Shared} {x:Addr} {cls:Value}
def Cx.Ok.inX(ok:X.Ok)(e):(X.inX e).Ok :=
 ⟨ok.mod,ok.kind,ok.glob,ok.blt,ok.above,ok.inj,ok.has,ok.cab,(λz=>nomatch z),ok.frames,ok.stk,ok.exf,ok.bs,ok.bsz,ok.noex,ok.exfs,ok.funs,ok.frf⟩
def Inv.inX(I:Inv X pins Y H s)(e):Inv (X.inX e) pins Y H s:=⟨I.ok.inX e,I.os,I.bare,I.base,I.loc,I.cell,I.free,I.freeC,I.pin,I.hok,I.len⟩
def Inv.outX{e:Addr}(I:Inv (X.inX e) pins Y H s)(ok:X.Ok):Inv X pins Y H s:=⟨ok,I.os,I.bare,I.base,I.loc,I.cell,I.free,I.freeC,I.pin,I.hok,I.len⟩
def Inv.goes{n:Str}(I:Inv X pins Y H s)(hN:X.N.Nodup)(hi:X.N[i]?=some n)(hk:X.env.kindOf n=some .local)(h:∀s',Inv X pins (Y.set i none) H s'->Q () s'):wpAny M A (do bindName X.env n .none;unbindBehindTheSuite X.env n pos) Q E s:=by
 obtain ⟨m,D,S⟩:=id I.loc;have l:(X.env.scope.kind==.class||(X.env.scope.kind==.module&&X.env.locals != X.env.globals))=false:=by rw [I.ok.kind];rfl
 have t:i<Y.length:=by rw [I.len];exact (Dd.mp hi).1
 have r:=I.cne;obtain ⟨Z,_,_,T,_⟩:=id D;refine wpAny_nameGoes_keeps hk D l λh' v B f=>?_;have a:∀b o,X.s₀.heap.get? b=some o->b≠X.env.locals:=λb o e=>Bq (Bp (BW e) I.ok.above);refine h _ ⟨I.ok,I.os,I.bare,⟨λb o e n x u=>?_,λb o e n x u=>?_,I.base.free,λb o e u=>?_,I.base.tups,I.base.frzs,I.base.tbls⟩,⟨_,B,λj y U g w K=>?_⟩,λy c e=>?_,I.free,I.freeC,λp G=>?_,λb J e=>?_,by simpa using I.len⟩
 .exact (f.2 b (a b o e)).trans (I.base.keep b o e n x u)
 .obtain ⟨R,g⟩:=I.base.slot b o e n x u;exact ⟨R,(f.2 b (a b o e)).trans g⟩
 .obtain ⟨V,g⟩:=I.base.there b o e u;exact ⟨V,(f.2 b (a b o e)).trans g⟩
 .by_cases hj:j=i
  .subst hj;rw [List.getElem?_set_self t] at w;cases w
  .rw [List.getElem?_set_ne (Ne.symm hj)] at w;obtain ⟨W,L,q⟩:=S j y U g w K;refine ⟨W,L,?_⟩;rcases q with ⟨k,e⟩ | ⟨k,c,e,z⟩
   .refine .inl ⟨k,?_⟩;have P:y≠n:=λe=>hj (SX hN g (e▸hi));simp [P,e]
   .exact .inr ⟨k,c,e,z.sameBut f (r y c e)⟩
 .obtain ⟨F,z⟩:=I.cell y c e;exact ⟨F,z.sameBut f (r y c e)⟩
 .obtain ⟨e,n,C,O,d⟩:=I.pin p G;exact ⟨(f.2 p.1 C).trans e,n,C,O,d⟩
 .refine (I.hok b J e).stay (λc F hc q=>(f.2 c ?_).trans q) (λ_ q=>q) λ_ _ q=>q;rintro rfl;rcases hc with rfl | hc
  .rw [I.free] at e;cases e
  .rw [I.free] at hc;cases hc
def Inv.landed(I:Inv X pins Y H s)(F:Fly X.prog X.w X.stack H H' s s' x cls):Inv X pins Y H' s':=I.call' (ch:=[]) F.os F.un F.hok F.bare λ_ z=>nomatch z
def Inv.caught(I:Inv X pins Y H s)(F:Fly X.prog X.w X.stack H H' s s' x cls):Inv X pins Y (upd H' x (exO x cls)) s':=by
 obtain ⟨B,D,f,g⟩:=F.ex;have ex:=f.there;have k:s.heap.get? x=none:=by
  cases q:s.heap.get? x with
  | none=>rfl
  | some o=>
   obtain ⟨l,C,_⟩:=ex;have v:x∉frs X.stack:=λz=>by
    obtain ⟨_,L,j,m⟩:=f.2.2.1.mem z;obtain ⟨_,_,_,G,K,T,J,E,p,_,t,_⟩:=f;rw [p] at j;cases j;exact m _ t
   have z:=g x l C (.inr ⟨o,q⟩) v;rw [f.2.1] at z;cases z
 have h:∀b o,s.heap.get? b=some o->b≠x:=λb o e z=>by rw [z,k] at e;cases e
 have a:∀b o,H' b=some o->b≠x:=λb o e z=>by rw [z,F.free] at e;cases e
 refine I.call' F.os ⟨F.un.keep,F.un.slot,λb o e n y=>?_,F.un.there,λb i e=>?_,λb o u e=>?_,λb A e=>?_⟩ (λb o e=>?_) F.bare λ_ z=>nomatch z
 .rw [Ag (h b o e)];exact F.un.free b o e n y
 .have z:=F.un.tups b i e;rw [Ag (a b _ z)];exact z
 .have z:=F.un.frzs b o u e;rw [Ag (a b _ z)];exact z
 .obtain ⟨d,z⟩:=F.un.tbls b A e;exact ⟨d,by rw [Ag (a b _ z)];exact z⟩
 .by_cases hb:b=x
  .subst hb;rw [Ax] at e;cases e;exact ZuA ex
  .rw [Ag hb] at e;exact (F.hok b o e).stay (λ_ _ _ r=>r) (λc r=>by rw [Ag (a c _ r)];exact r) λc i r=>by rw [Ag (a c _ r)];exact r
end
section
variable{M:Model} {E:Value->Shared->Prop} {env:Env} {outer l:List Env} {L e:Addr} {cls a0:Value} {Q:Unit->Shared->Prop}
def ZV(hfr:A.frames=some (env::outer))(hf:env.frame=some L)(hfl:Heap.FlyingW base (env::outer) e cls a0 s.heap)(hQ:∀h',Heap.HeldW base (env::outer) e cls a0 L h'->s.heap.UpToSlots h'->KD s.heap h'->Q () { s with heap:=h' }):wpAny M A (noteFrame (.ref e) env) Q E s :=
 BV (Ha (QZ _ _) (wpAny_looks_onW (Q:=λ_ d=>∃h',d={ s with heap:=h' }/\Heap.HeldW base (env::outer) e cls a0 L h'/\s.heap.UpToSlots h') hfr hf hfl λh' b a=>⟨h',rfl,b,a⟩))
  (λ_ _ ⟨⟨h',z,b,a⟩,c⟩=>by subst z;exact hQ h' b a c) λ_ _ z=>z.1
def Vk(hh:Heap.HeldW base l e cls a0 L s.heap)(hQ:∀h',Heap.FlyingW base l e cls a0 h'->s.heap.UpToSlots h'->KD s.heap h'->Q () { s with heap:=h' }):wpAny M A (setFlight (.ref e) none) Q E s :=
 BV (Ha (Sg _ _) (wpAny_landsW (Q:=λ_ d=>∃h',d={ s with heap:=h' }/\Heap.FlyingW base l e cls a0 h'/\s.heap.UpToSlots h') hh λh' b a=>⟨h',rfl,b,a⟩))
  (λ_ _ ⟨⟨h',z,b,a⟩,c⟩=>by subst z;exact hQ h' b a c) λ_ _ z=>z.1
def Zqb(hh:Heap.FlyingW base l e cls a0 s.heap)(hQ:∀h',Heap.FlyingW base l e cls a0 h'->s.heap.UpToSlots h'->KD s.heap h'->Q () { s with heap:=h' }):wpAny M A (setFlight (.ref e) none) Q E s :=
 BV (Ha (Sg _ _) (lands_againW (Q:=λ_ d=>∃h',d={ s with heap:=h' }/\Heap.FlyingW base l e cls a0 h'/\s.heap.UpToSlots h') hh λh' b a=>⟨h',rfl,b,a⟩))
  (λ_ _ ⟨⟨h',z,b,a⟩,c⟩=>by subst z;exact hQ h' b a c) λ_ _ z=>z.1
end
def Rg(a:Addr)(C:Value)(d:Addr)(h:Heap):Prop:=∃b,h.get? a=some b/\b.cls=C/\b.dict=some d/\∃c,b.data=.fields c
def exC(a:Addr)(C:Value)(d:Addr):HO:=.ext (Rg a C d)
def ZuG(e:Rg a C d h):Dj P w H h a (exC a C d) :=
 ⟨e,e.imp λ_ z=>z.1,λ_ _ ⟨o,q,c⟩ k=>⟨o,k o q,c⟩⟩
def trkX(p:Option Addr)(x d:Addr)(cls:Value)(H:Hp):Hp:=match p with
 | none=>upd H x (exO x cls)
 | some n=>upd (upd H x (exC x cls d)) d (.xd [("at",.int (((n)/2:Nat):Int))])
section
variable {H':Hp} {s':Shared} {x:Addr} {cls:Value}
def Inv.caughtP(I:Inv X pins Y H s)(F:Fly X.prog X.w X.stack H H' s s' x cls)(py:HW p x H' s.heap s'.heap):∃d,(p.isSome=true->H' d=none/\d≠x)/\Inv X pins Y (trkX p x d cls H') s':=by
 cases p with
 | none=>exact ⟨0,(λz=>by cases z),I.caught F⟩
 | some n=>
  obtain ⟨G,d,m,D,V,M,S,C,K,N,_⟩:=py.2 n rfl;refine ⟨d,λ_=>⟨C,N⟩,?_⟩;obtain ⟨B,W,j,v⟩:=F.ex;have ex:Rg x cls d s'.heap:=by
   obtain ⟨y,E,g,l,J,_⟩:=j.first;rw [D] at g;cases g;exact ⟨G,D,l,V,E,J⟩
  have L:s.heap.get? x=none:=by
   cases q:s.heap.get? x with
   | none=>rfl
   | some o=>
    obtain ⟨y,Q,_⟩:=ex;have O:x∉frs X.stack:=λz=>by
     obtain ⟨_,o',g,l⟩:=j.2.2.1.mem z;obtain ⟨_,_,_,oe,E,T,oT,Z,R,_,k,_⟩:=j;rw [R] at g;cases g;exact l _ k
    have z:=v x y Q (.inr ⟨o,q⟩) O;rw [j.2.1] at z;cases z
  have t:∀b o,s.heap.get? b=some o->b≠x:=λb o e z=>by rw [z,L] at e;cases e
  have h:∀b o,s.heap.get? b=some o->b≠d:=λb o e z=>by rw [z,K] at e;cases e
  have f:∀b o,H' b=some o->b≠x:=λb o e z=>by rw [z,F.free] at e;cases e
  have a:∀b o,H' b=some o->b≠d:=λb o e z=>by rw [z,C] at e;cases e
  refine I.call' F.os ⟨F.un.keep,F.un.slot,λb o e n U=>?_,F.un.there,λb A e=>?_,λb o u e=>?_,λb P e=>?_⟩ (λb o e=>?_) F.bare λ_ z=>nomatch z
  .unfold trkX;dsimp only;rw [Ag (h b o e),Ag (t b o e)];exact F.un.free b o e n U
  .have z:=F.un.tups b A e;unfold trkX;dsimp only;rw [Ag (a b _ z),Ag (f b _ z)];exact z
  .have z:=F.un.frzs b o u e;unfold trkX;dsimp only;rw [Ag (a b _ z),Ag (f b _ z)];exact z
  .obtain ⟨i,z⟩:=F.un.tbls b P e;exact ⟨i,by unfold trkX;dsimp only;rw [Ag (a b _ z),Ag (f b _ z)];exact z⟩
  .unfold trkX at e;dsimp only at e;by_cases k:b=d
   .subst k;rw [Ax] at e;cases e;exact ⟨m,M,S⟩
   .rw [Ag k] at e;by_cases hb:b=x
    .subst hb;rw [Ax] at e;cases e;exact ZuG ex
    .rw [Ag hb] at e;exact (F.hok b o e).stay (λ_ _ _ r=>r) (λc r=>by unfold trkX;dsimp only;rw [Ag (a c _ r),Ag (f c _ r)];exact r) λc A r=>by unfold trkX;dsimp only;rw [Ag (a c _ r),Ag (f c _ r)];exact r
end
def offI(i:Nat)(D:Ends):Ends:={ nx:=λY H=>D.nx (Y.set i none) H,rt:=D.rt,bk:=λY H=>D.bk (Y.set i none) H,ct:=λY H=>D.ct (Y.set i none) H }
def tTry(sp:Sp)(hit:Value->Prop)(i:Nat)(u:Addr->TS)(t:TA):TS:=λD Y H=>t Y H λe c=>sp e c (λ_ a=>D.nx Y a) λb p a=>hit b/\∀x d,a x=none->(p.isSome=true->a d=none/\d≠x)->u x (offI i D) (Y.set i (some (.ref x))) (trkX p x d b a)
section
variable {y n:Str} {Cy fa:Addr} {sp:Sp} {t:TA} {u:Addr->TS} {p yp epos hpos:Pos} {b0:Stmt} {suite:List Stmt}
def ZtZ(hst:X.stack=X.env::X.outer)(hfr:X.env.frame=some X.env.locals)(F:FnOk X.prog X.w X.K X.mg X.base (CXR X.prog X.w) k fa fd ps sp)(hr:Room k X.A)(hg:Gl X x)(hm:X.mg x=some (.ref fa))(hk:W.keepIn X.K (.ref fa)=true)(hb:Binds X.K fd ps [])(ha:PA X.nox (e::es) t)(hgy:Gl X y)(hmy:X.mg y=some (.ref Cy))(hN:X.N.Nodup)(hi:X.N[i]?=some n)(hlo:X.env.kindOf n=some .local)(hnl:X.env.scope.names.lookup n=some .local)(hs:∀a,PSs (X.inX a) (b0::suite) (u a))(hdb:ND x)(hdy:ND y)(hsw:swapsWith (.Call (.Name x p) (e::es) [] cpos) none epos.line X.env=pure false)(he:starEach (e::es) X.env=(false,eval e X.env)::starEach es X.env)(hpl:(backTo cpos (starEach es X.env)).any (·.1)=false) :
  PS X (.Try [.Expr (.Call (.Name x p) (e::es) [] cpos) epos] [.ExceptHandler (some (.Name y yp)) (some n) (b0::suite) hpos] [] [] pos) (tTry sp (λcls=>W.exmOne X.K cls (.ref Cy)=some true) i u t):=by
 intro b s Y H D I h;refine wpAny_Try_except (Nu (wpAny_Expr_any ?_ I.quiet hsw));refine HX (Hz I hg hm ?_ hdb);refine Jj I.ok.mod.kin hk (BV (ha cpos b s Y H _ (I.wish _) h) (λV s1 zq=>?_) λ_ _ z=>z.elim) he hpl;obtain ⟨vs,H1,S,r,q⟩:=zq;refine ⟨S.unwish.kIn,?_⟩;have J:=S.unwish;have hl:(V++[]).length=ps.length:=by rw [Cq,<-r.length];exact F.len _ _ _ _ q
 have R:=hb s1 V J.kIn hl;rw [Cq] at R;refine GR (HQ (F.run X.A X.stack s1 H1 ⟨V,[]⟩ V vs _ _ hr J.env0 R r q) λrr s' U=>?_);cases rr with
 | ok O=>
  cases O with
  | ret v=>
   obtain ⟨v',H2,Z,_,q2⟩:=J.after U;exact J9 (J9 ⟨Y,H2,Z,q2⟩)
  | next=>exact False.elim U
  | brk=>exact False.elim U
  | cont=>exact False.elim U
 | error ev=>
  obtain ⟨a,cls,p,H',rfl,Fl,py,hit,kk⟩:=U;obtain ⟨B,a0,O,T⟩:=Fl.ex;have fl':=hst▸O;refine ZV (by rw [I.ok.frames,hst]) hfr fl' λh1 P E kd1=>?_;refine Vk P λh2 l C kd2=>?_;have F2:=Fl.moved O T (hst.symm▸l) (E.trans C);have Z:=J.landed F2;refine wpAny_handleBy_cons (codeAny_handlers_test ?_) (by intro q;cases q);refine Hz (Z.inX a) hgy hmy ?_ hdy;have LT:W.Looks (model X.prog X.w) h2 (typeOf (.ref a)) cls:=ExcAt.ty (l.there);refine (W.exm_one (Z.kIn) LT hit).here ?_;refine codeAny_handlers_suite_as ?_;refine Zqb l λh3 M L kd3=>?_;have F3:=Fl.moved O T (hst.symm▸M) ((E.trans C).trans L);obtain ⟨dx,hdx,I3⟩:=J.caughtP F3 (py.on ((kd1.trans kd2).trans kd3) ((E.trans C).trans L) (let ⟨o,e,_⟩:=M.there;⟨o,e⟩) λ_ o e=>⟨o,e⟩);refine JP (X:=X.inX a) (v:=.ref a) (I3.inX a) hN hi (.inl hnl) rfl (λs4 I4=>?_) (.inr hnl);refine BV (hs a b s4 _ _ _ I4 (kk a dx F3.free hdx)) (λf s5 q5=>?_) λ_ _ z=>False.elim z;have j:∀{G:St} {c:Hp} {Q:Unit->Shared->Prop},Inv (X.inX a) b G c s5->(∀s',Inv X b (G.set i none) c s'->Q () s')->wX X (do bindName X.env n .none;unbindBehindTheSuite X.env n hpos) Q X.xe s5:=λd g=>(d.outX I.ok).goes hN hi hlo g
  cases f with
  | next=>
   obtain ⟨G,c,d,q⟩:=q5;exact j d λs6 m=>⟨_,c,m,q⟩
  | brk=>
   obtain ⟨G,c,d,q⟩:=q5;exact j d λs6 m=>⟨_,c,m,q⟩
  | cont=>
   obtain ⟨G,c,d,q⟩:=q5;exact j d λs6 m=>⟨_,c,m,q⟩
  | ret v=>
   obtain ⟨v',G,c,d,r5,q⟩:=q5;exact j d λs6 m=>⟨v',_,c,m,r5,q⟩
end
end L2
namespace L2
def Zmh(l)(items)(n)(sl)(b)(items2)(n2)(sl2)(hc0:items.size+items2.size<=sizeLine) :
  Meets (Builtin.«list.__add__» ⟨[.ref l,.ref b],[]⟩) (λ_ R s=>s.heap.get? l=some { cls:=.type "list",dict:=none,data:=.seq items n,slots:=sl }/\s.heap.get? b=some { cls:=.type "list",dict:=none,data:=.seq items2 n2,slots:=sl2 }/\R (.ok (.ret (Value.ref s.heap.objs.size))) { s with heap:=s.heap.push { cls:=Value.type "list",data:=Data.seq (items++items2) },toks:=s.toks }) :=
 .of_wp λa w A R s h=>by obtain ⟨i,g,d,f,p⟩:=s;obtain ⟨c,e,h⟩:=h;have k:=AutoSeq1.idx_int;have q:=AutoSeq1.sub_tuple_tuple;have o:=AutoSeq1.sub_list_list;have j:=AutoSeq1.sub_tuple_list;have m:=AutoSeq1.sub_list_tuple;wp_walk using AutoSeq1.wpAny_loadPart' c,AutoSeq1.wpAny_loadPart' e;exact ⟨_,rfl,h⟩
section
def Zod(I:Inv X pins Y H s)(hH:SqL X.K H l xs)(hB:SqL X.K H b zs)(hz:xs.length+zs.length<=sizeLine)(q:∀p,H p=none->Q (.ref p) (upd H p (.lst (xs++zs)))) :
  wX X (binaryOp .Add (.ref l) (.ref b)) (EP X pins Y Q) X.xe s:=by
 obtain ⟨c,r,⟨⟨D,C,x,d⟩,n,e,h,i,g⟩,z⟩:=I.list hH;obtain ⟨a,m,⟨⟨E,B,G,f⟩,u,o,j,k,t⟩,y⟩:=I.list hB;simp only at h i g j k t;subst h i g j k t;refine concat_meets ⟨_,e,rfl⟩ ⟨_,o,rfl⟩ noFill_list_add seq_list_add F.slot_list_add F.entry_list_add (F.args_list_add_2 _ _) (Zmh l c.toArray n d b a.toArray u f (by rw [CT,CT,<-r.length,<-m.length];exact hz)) ⟨e,o,?_⟩;have v:c.toArray++a.toArray=(c++a).toArray:=by simp
 rw [v];exact ⟨.ref _,_,I.lnew (r.append m) (by rw [Bm];exact hz),rfl,q _ I.fresh⟩
def ZoH(I:Inv X pins Y H s)(ha:SqT X.K H a xs)(hb:SqT X.K H b ys)(hz:xs.length+ys.length<=sizeLine)(q0:xs=[]->Q (.ref b) H)(q1:xs≠[]->ys=[]->Q (.ref a) H)(q2:xs≠[]->ys≠[]->∀p,H p=none->Q (.ref p) (upd H p (.tup (xs++ys)))) :
  wX X (binaryOp .Add (.ref a) (.ref b)) (EP X pins Y Q) X.xe s:=by
 by_cases hx:xs=[]
 .obtain ⟨B,z,y,_⟩:=I.tuple ha;obtain ⟨c,C,r,_⟩:=I.tuple hb;have q:=z.nil_iff.mpr hx;subst q;obtain ⟨⟨u,v,l,x⟩,j,m,n,o⟩:=id y;obtain ⟨⟨k,g,i,h⟩,d,f,t,e⟩:=id r;simp only at m o f e;subst m o f e;exact concat_meets ⟨_,j,rfl⟩ ⟨_,d,rfl⟩ noFill_tuple_add seq_tuple_add PySem.F.slot_tuple_add PySem.F.entry_tuple_add (PySem.F.args_tuple_add_2 _ _)
   (tuple_addW0 a b ([]:List Value).toArray c.toArray n t v g x h rfl) ⟨j,d,⟨.ref b,H,I,rfl,q0 hx⟩⟩
 .exact ZrE pins s Y H (.ref a) (.ref b) _ _ Q I rfl rfl ⟨a,b,xs,ys,rfl,rfl,ha,hb,hx,hz,q1 hx,q2 hx⟩
end
end L2
namespace HT
section
variable{prog:Program} {E:Value->Shared->Prop}
def ZdP{t sl:Addr}{items:Array Value}{vl vu:Value}{lo hi:Option Int}{Q:Value->Shared->Prop}(ht:IsTup s.heap t items)(hs:s.heap.IsSliceOf sl vl vu .none)(pl:IsPart vl lo)(pu:IsPart vu hi)(hw:sIx items.size 0 lo=0/\sIx items.size items.size hi=items.size)(h:Q (.ref t) s):wpAny (model prog w) A (getItem (.ref t) (.ref sl)) Q E s:=by
 obtain ⟨f,b,d,e⟩:=id hs;have c:s.TypeIs (.ref sl) "slice":=⟨f,b,d⟩;unfold getItem
 try with_reducible refine Cv ?_
 first | refine Ac (Af ?_) | skip
 refine Ac (wpAny_sequenceKey ht.typeIs (by decide) ?_)
 refine Ac (wpAny_callSpecial?_slot ht.typeIs PL
  (wpAny_call_entry PL ht.typeIs entry_tuple_getitem ?_ (args_tuple_getitem _ _)))
 show wpAny _ _ (Builtin.Tuple.tupleItemsOf (.ref t) >>= _) _ _ s;refine Ac (tupleItemsOf_ ht ?_);refine Ac (JX c ?_);rw [iP (by decide)];refine Ac (Wv hs pl pu ?_);have a:(((sIx items.size 0 lo:Nat):Int)==0&&(1:Int)==1&&(sIx items.size items.size hi - sIx items.size 0 lo)==items.size)=true:=by
  rw [hw.1,hw.2];simp
 show wpAny _ _ (if (((sIx items.size 0 lo:Nat):Int)==0&&(1:Int)==1&&(sIx items.size items.size hi - sIx items.size 0 lo)==items.size)=true then _ else _) _ _ s
 rw [iP a]
 first
  | exact Ac (Ac (JX ht.typeIs (Af (by rw [iP (by decide)];exact Ac (wpAny_rule (Af ⟨_,rfl,Af h⟩))))))
  | (refine Ac (Ac (JX ht.typeIs (Af ?_)))
     rw [iP (by decide)]
     trace_state
     exact Ac (wpAny_rule (Af ⟨_,rfl,Af h⟩)))
end
end HT
namespace L2
section
variable{prog:Program} {E:Value->Shared->Prop}
def Zt(hne:t≠it):∀n i s Q,s.heap.IsListIter it t i->s.heap.IsList t items->i+n<=items.size ->
  (∀h',h'.IsListIter it t (i+n)->Heap.SameBut it s.heap h'->Q ((items.toList.drop i).take n) { s with heap:=h' })->wpAny (model prog w) A (draw (.ref it) n) Q E s
 | 0,i,s,Q,hit,_,_,hQ=>by
  exact Af (by simpa using hQ s.heap hit (Heap.SameBut.refl ..))
 | n+1,i,s,Q,hit,ht,hle,hQ=>by
  have c:i<items.size:=by omega
  refine Ac (wpAny_pyNext_list_item hit ht (x:=items[i]) (by simp [c]) λg e a=>?_);refine Ac (Cv (Zt hne n (i+1) _ _ e (ht.extBut a.extBut hne) (by omega) λf d b=>Af ?_));have h:items.toList.drop i=items[i]::items.toList.drop (i+1):=by simp [NQ,c]
  have:=hQ f (by rw [show i+(n+1)=i+1+n by omega];exact d) (a.trans b);rw [h,List.take_succ_cons] at this;exact this
def ZeR(hh:A.handled=none)(ht:s.heap.IsList t items)(hQ:∀h',Heap.ExtBut s.heap.objs.size s.heap h'->Q items.toList { s with heap:=h' }):wpAny (model prog w) A (unpackItems (.ref t) items.size none) Q E s:=by
 have d:t≠s.heap.objs.size:=by obtain ⟨o,l,_⟩:=ht;exact Bq (BW l)
 unfold unpackItems;refine Ac ?_
 .unfold notIterableAtAll;refine Ac (wpAny_specialOf ht.typeIs F.slot_list_iter.lookup ?_);refine Af ?_;simp only [Di,Cu];refine Ac (Cv (wpAny_pyIter_list ht ?_));refine Ac (Cv (Zt d items.size 0 _ _ ⟨_,Dq _ rfl,rfl,rfl⟩ (ht.push _) (by omega) λj f a=>?_));have h:List.take items.size (List.drop 0 items.toList)=items.toList:=by
   rw [Iz];exact Il (by simp)
  rw [h];rw [iN (by simp)];have i:=(ht.push _).extBut a.extBut d;refine Ac (Cv (wpAny_pyNext_list_end hh f i (by simp) λg c=>?_));simp only [Option.isSome_none,Di,Cu];refine Af (hQ g λb o k e=>c b o k (a.extBut b o k (Bc _ e)))
def ZeF{x1}(hh:A.handled=none)(ht:s.heap.IsList t items)(hn:(assignEach elts env).length=items.size)(hstar:(assignEach elts env).findIdx? (·.1)=none)(h:∀h',Heap.ExtBut s.heap.objs.size s.heap h'->wpAny (model prog w) A (assignInOrder ((assignEach elts env).map (·.2)) items.toList) Q E { s with heap:=h' }) :
  wpAny (model prog w) A (assign (.Tuple elts x1 pos) env (.ref t)) Q E s:=by
 rw [assign_Tuple];refine Ac (Gi ?_);unfold unpack;rw [hn,hstar];exact Ac (Cv (ZeR hh ht h))
end
end L2
namespace Dl
inductive D where
 | non | bl (b:Bool) | int (i:Int) | str (x:Str) | ty (n:String) | cls (c:Str)
 | tup (xs:List D) | lst (xs:List D) | exc (c:Str) | ins (c:Str) (ns:List Str) (vs:List D)
def tagX(n:Nat)(c:Str):Str:=⟨((0x110000+n)::c.cps.toList).toArray⟩
def pay(c:Str):Option Nat:=match c.cps.toList with
 | k::_=>if 0x110000<=k then some (k - 0x110000) else none
 | []=>none
def clsOf(c:Str):Str:=match c.cps.toList with
 | k::r=>if 0x110000<=k then ⟨r.toArray⟩ else c
 | []=>c
def R6(n)(c):pay (tagX n c)=some n:=by
 unfold pay tagX;simp
def Nj(n)(c):clsOf (tagX n c)=c:=by
 unfold clsOf tagX;simp
inductive Res(α:Type) where
 | ok (a:α) | ex (c:Str) | bad
noncomputable def Res.bind:Res α->(α->Res β)->Res β
 | .ok a,f=>f a
 | .ex c,_=>.ex c
 | .bad,_=>.bad
def Ci(a:α)(f:α->Res β):(Res.ok a).bind f=f a:=rfl
inductive Cl where
 | no | im (d:D) | ow (ds:List D)
abbrev Ev:=List Cl
abbrev ME:=Ev->Res D
abbrev MB:=Ev->Res Bool
abbrev MA:=Ev->Res (List D)
def getC:Option Cl->Res D
 | some (.im d)=>.ok d
 | _=>.bad
def v(i:Nat):ME:=λZ=>getC Z[i]?
def c(d:D):ME:=λ_=>.ok d
def o1(f:D->Res D)(a:ME):ME:=λZ=>(a Z).bind f
def o2(f:D->D->Res D)(a b:ME):ME:=λZ=>(a Z).bind λx=>(b Z).bind λy=>f x y
def Ab:MA:=λ_=>.ok []
def Aa(a:ME)(r:MA):MA:=λZ=>(a Z).bind λx=>(r Z).bind λb=>.ok (x::b)
def on(f:List D->Res D)(a:MA):ME:=λZ=>(a Z).bind f
def mtp(a:MA):ME:=λZ=>(a Z).bind λb=>.ok (.tup b)
def mls(a:MA):ME:=λZ=>(a Z).bind λb=>.ok (.lst b)
def tru:D->Res Bool
 | .bl b=>.ok b
 | _=>.bad
def trb(a:ME):MB:=λZ=>(a Z).bind tru
def bAnd(a b:MB):MB:=λZ=>(a Z).bind λx=>if x=true then b Z else .ok false
def bOr(a b:MB):MB:=λZ=>(a Z).bind λx=>if x=true then .ok true else b Z
def bNot(a:MB):MB:=λZ=>(a Z).bind λx=>.ok (!x)
def eAnd(a b:ME):ME:=λZ=>(trb a Z).bind λx=>if x=true then b Z else .ok (.bl false)
def eNot(a:ME):ME:=λZ=>(trb a Z).bind λx=>.ok (.bl (!x))
def ife(t:MB)(a b:ME):ME:=λZ=>(t Z).bind λx=>if x=true then a Z else b Z
def Gw(a b:Int):Bool:=decide (a.natAbs<2^64)||decide (b.natAbs<2^64)||decide (a.natAbs.log2+b.natAbs.log2<100000000)
def LIM:Nat:=1000000
def BX:D->D->Res D
 | .int a,.int b=>.ok (.int (a+b))
 | .lst a,.lst b=>if a.length+b.length<=LIM then .ok (.lst (a++b)) else .bad
 | .tup a,.tup b=>if a.length+b.length<=LIM then .ok (.tup (a++b)) else .bad
 | .str a,.str b=>if a.length+b.length<=LIM then .ok (.str (a++b)) else .bad
 | _,_=>.bad
def ii(f:Int->Int->Res D):D->D->Res D
 | .int a,.int b=>f a b
 | _,_=>.bad
def iSub(a b:Int):Res D:=.ok (.int (a - b))
def iMul(a b:Int):Res D:=if Gw a b=true then .ok (.int (a*b)) else .bad
def iMod(a b:Int):Res D:=if 0<b then .ok (.int (a%b)) else if b=0 then .bad else .ok (.int (a.fmod b))
def iDiv(a b:Int):Res D:=if b.natAbs.log2<9000 then (if 0<b then .ok (.int (a/b)) else if b=0 then .bad else .ok (.int (a.fdiv b))) else .bad
def iPow(a b:Int):Res D:=if 0<=b/\b<=1000000/\a.natAbs<2^64 then .ok (.int (a^b.toNat)) else .bad
def iShl(a b:Int):Res D:=if 0<=b/\b<=1000000/\a.natAbs<2^64 then .ok (.int (a*2^b.toNat)) else .bad
def iShr(a b:Int):Res D:=if 0<=b then .ok (.int (a/2^b.toNat)) else .bad
def iLt(a b:Int):Res D:=.ok (.bl (decide (a<b)))
def iLe(a b:Int):Res D:=.ok (.bl (decide (a<=b)))
def iGt(a b:Int):Res D:=.ok (.bl (decide (b<a)))
def iGe(a b:Int):Res D:=.ok (.bl (decide (b<=a)))
abbrev dSub:=ii iSub
abbrev Ft:=ii iMul
abbrev Cz:=ii iMod
abbrev IW:=ii iDiv
abbrev dPow:=ii iPow
abbrev dShl:=ii iShl
abbrev dShr:=ii iShr
abbrev dLt:=ii iLt
abbrev dLe:=ii iLe
abbrev dGt:=ii iGt
abbrev dGe:=ii iGe
def dNeg:D->Res D
 | .int a=>.ok (.int (-a))
 | _=>.bad
def chain(f g:D->D->Res D)(a b d:ME):ME:=λZ=>(a Z).bind λx=>(b Z).bind λy=>(f x y).bind λz=>(tru z).bind λb=>if b=true then (d Z).bind λu=>g y u else .ok (.bl false)
mutual
def eqD:D->D->Bool
 | .non,.non=>true
 | .bl a,.bl b=>a==b
 | .bl a,.int j=>(if a then 1 else 0)==j
 | .int i,.bl b=>i==(if b then 1 else 0)
 | .int i,.int j=>i==j
 | .str x,.str y=>x==y
 | .lst xs,.lst ys=>eqDs xs ys
 | .tup xs,.tup ys=>eqDs xs ys
 | _,_=>false
def eqDs:List D->List D->Bool
 | [],[]=>true
 | x::xs,y::ys=>eqD x y&&eqDs xs ys
 | _,_=>false
end
mutual
def plain:Nat->D->Bool
 | _,.non=>true
 | _,.bl _=>true
 | _,.int _=>true
 | _,.str x=>x.cps.all (·<0x110000)
 | k+1,.tup xs=>Bv k xs
 | k+1,.lst xs=>Bv k xs
 | _,_=>false
def Bv:Nat->List D->Bool
 | _,[]=>true
 | k,x::xs=>plain k x&&Bv k xs
end
def dEq(x y:D):Res D:=if plain 50 x&&plain 50 y then .ok (.bl (eqD x y)) else .bad
def dNe(x y:D):Res D:=if plain 50 x&&plain 50 y then .ok (.bl (!eqD x y)) else .bad
def inD(x:D)(ys:List D):Bool:=ys.any λy=>eqD y x
def seqD:D->Res (List D)
 | .lst ys=>.ok ys
 | .tup ys=>.ok ys
 | _=>.bad
def dIn(x y:D):Res D:=(seqD y).bind λa=>if plain 50 x&&Bv 50 a then .ok (.bl (inD x a)) else .bad
def dNin(x y:D):Res D:=(seqD y).bind λa=>if plain 50 x&&Bv 50 a then .ok (.bl (!inD x a)) else .bad
def Jv:D->Bool
 | .non=>true
 | _=>false
def dIsN(x:D):Res D:=.ok (.bl (Jv x))
def Ke(x:D):Res D:=.ok (.bl (!Jv x))
def at_(xs:List α)(i:Int):Option α:=if 0<=i then xs[i.toNat]? else if -(xs.length:Int)<=i then xs[(i+xs.length).toNat]? else none
def ofO:Option α->Res α
 | some a=>.ok a
 | none=>.bad
def dIx:D->D->Res D
 | .lst xs,.int i=>ofO (at_ xs i)
 | .tup xs,.int i=>ofO (at_ xs i)
 | _,_=>.bad
def cutAt(n d:Nat):Option Int->Nat
 | none=>d
 | some i=>if i<0 then (i+n).toNat else min i.toNat n
def cutL(xs:List D)(lo hi:Option Int):List D:=(xs.drop (cutAt xs.length 0 lo)).take (cutAt xs.length xs.length hi - cutAt xs.length 0 lo)
def dCut(x:D)(lo hi:Option Int):Res D:=match x with
 | .lst xs=>.ok (.lst (cutL xs lo hi))
 | .tup xs=>.ok (.tup (cutL xs lo hi))
 | _=>.bad
def pno:Ev->Res (Option Int):=λ_=>.ok none
def optI:D->Res (Option Int)
 | .int i=>.ok (some i)
 | _=>.bad
def pso(a:ME):Ev->Res (Option Int):=λZ=>(a Z).bind optI
def cut(a:ME)(lo hi:Ev->Res (Option Int)):ME:=λZ=>(a Z).bind λx=>(lo Z).bind λl=>(hi Z).bind λh=>dCut x l h
def bLen:List D->Res D
 | [.lst xs]=>.ok (.int xs.length)
 | [.tup xs]=>.ok (.int xs.length)
 | _=>.bad
def bAbs:List D->Res D
 | [.int i]=>.ok (.int (if i<0 then -i else i))
 | _=>.bad
def bMax:List D->Res D
 | [.int i,.int j]=>.ok (.int (if j>i then j else i))
 | _=>.bad
def bTup:List D->Res D
 | [.lst xs]=>.ok (.tup xs)
 | [.tup xs]=>.ok (.tup xs)
 | _=>.bad
def bLst:List D->Res D
 | [.lst xs]=>.ok (.lst xs)
 | [.tup xs]=>.ok (.lst xs)
 | _=>.bad
def Pu:D->Option String
 | .non=>some "NoneType"
 | .bl _=>some "bool"
 | .int _=>some "int"
 | .str _=>some "str"
 | .tup _=>some "tuple"
 | .lst _=>some "list"
 | _=>none
def isTy(t n:String):Bool:=t==n||(t == "bool"&&n == "int")
def Pn:List String:=["int","bool","str","tuple","list","dict"]
def bIsi:List D->Res D
 | [x,.ty n]=>if Pn.contains n=true then (ofO (Pu x)).bind λt=>.ok (.bl (isTy t n)) else .bad
 | _=>.bad
def bools:List D->Res (List Bool)
 | []=>.ok []
 | d::r=>match d with
  | .bl b=>(bools r).bind λa=>.ok (b::a)
  | _=>.bad
def bAll:List D->Res D
 | [d]=>match d with
  | .lst xs=>(bools xs).bind λa=>.ok (.bl (a.all id))
  | _=>.bad
 | _=>.bad
def EY:List D->Res (List Int)
 | []=>.ok []
 | d::r=>match d with
  | .int n=>(EY r).bind λa=>.ok (n::a)
  | _=>.bad
def maxI:List Int->Res D
 | []=>.bad
 | n::r=>.ok (.int (r.foldl max n))
def minI:List Int->Res D
 | []=>.bad
 | n::r=>.ok (.int (r.foldl min n))
def Ik:List D->Res D
 | [d]=>match d with
  | .lst xs=>(EY xs).bind maxI
  | _=>.bad
 | _=>.bad
def Im:List D->Res D
 | [d]=>match d with
  | .lst xs=>(EY xs).bind minI
  | _=>.bad
 | _=>.bad
def oneX(tc:List (Str×Str×Bool))(tt:List (Str×String×Bool))(c:Str):D->Res Bool
 | .cls k=>ofO ((tc.find? λe=>e.1==c&&e.2.1==k).map (·.2.2))
 | .ty n=>ofO ((tt.find? λe=>e.1==c&&e.2.1==n).map (·.2.2))
 | _=>.bad
def anyX(tc:List (Str×Str×Bool))(tt:List (Str×String×Bool))(c:Str):List D->Res Bool
 | []=>.ok false
 | k::r=>(oneX tc tt c k).bind λb=>if b=true then .ok true else anyX tc tt c r
def askX(tc:List (Str×Str×Bool))(tt:List (Str×String×Bool))(c:Str):D->Res D
 | .tup []=>.bad
 | .tup (k::ks)=>(anyX tc tt c (k::ks)).bind λb=>.ok (.bl b)
 | k=>(oneX tc tt c k).bind λb=>.ok (.bl b)
def bIsX(tc:List (Str×Str×Bool))(tt:List (Str×String×Bool)):List D->Res D
 | [d,k]=>match d with
  | .exc c=>askX tc tt (clsOf c) k
  | _=>.bad
 | _=>.bad
abbrev MI:=Ev->Res (List D)
def items:D->Res (List D)
 | .lst xs=>.ok xs
 | .tup xs=>.ok xs
 | _=>.bad
def iv(a:ME):MI:=λZ=>(a Z).bind items
def CZ(lo:Int)(n:Nat):List D:=(List.range n).map λ(k:Nat)=>D.int (lo+(k:Int))
def rng1:List D->Res (List D)
 | [.int j]=>if -1000000000<=j/\j<=1000000000 then .ok (CZ 0 j.toNat) else .bad
 | _=>.bad
def r1(a:MA):MI:=λZ=>(a Z).bind rng1
def rng2:List D->Res (List D)
 | [.int i,.int j]=>if (-1000000000<=i/\i<=1000000000)/\(-1000000000<=j/\j<=1000000000) then .ok (CZ i (j - i).toNat) else .bad
 | _=>.bad
def r2(a:MA):MI:=λZ=>(a Z).bind rng2
abbrev MG:=D->Ev->Res Ev
abbrev MGs:=List D->Ev->Res Ev
def gN(i:Nat):MG:=λd Z=>.ok (Z.set i (.im d))
def gs0:MGs:=λa Z=>match a with
 | []=>.ok Z
 | _=>.bad
def gs1(g:MG)(r:MGs):MGs:=λa Z=>match a with
 | d::a=>(g d Z).bind λb=>r a b
 | []=>.bad
def gU(n:Nat)(g:MGs):MG:=λd Z=>(items d).bind λa=>if a.length=n then g a Z else .bad
def imOf:Option Cl->Cl
 | some (.im d)=>.im d
 | _=>.no
def Bu(Z:Ev):List Nat->Ev
 | []=>[]
 | j::r=>imOf Z[j]?::Bu Z r
def noA:Nat->Ev->Ev
 | 0,e=>e
 | k+1,e=>.no::noA k e
def BR(g:MG)(t:MB)(e:ME)(Z0:Ev):List D->Res (List D)
 | []=>.ok []
 | x::r=>(g x Z0).bind λa=>(t a).bind λb=>if b=true then (e a).bind λy=>(BR g t e Z0 r).bind λc=>.ok (y::c) else BR g t e Z0 r
def yes:MB:=λ_=>.ok true
def noEx:Res α->Res α
 | .ex _=>.bad
 | r=>r
def comp(it:MI)(own:Nat)(cap:List Nat)(g:MG)(t:MB)(e:ME):ME:=λZ=>(it Z).bind λa=>
 if a.length<=LIM then (noEx (BR g t e (noA own (Bu Z cap)) a)).bind λb=>.ok (.lst b) else .bad
inductive Fl where
 | nx (Z:Ev) | rt (d:D) | bk (Z:Ev) | ct (Z:Ev)
abbrev MS:=Ev->Res Fl
def nop:MS:=λZ=>.ok (.nx Z)
def goOn(b:MS):Fl->Res Fl
 | .nx Z=>b Z
 | f=>.ok f
def sq(a b:MS):MS:=λZ=>(a Z).bind (goOn b)
def st(i:Nat)(e:ME):MS:=λZ=>(e Z).bind λd=>.ok (.nx (Z.set i (.im d)))
def lstO:D->Res (List D)
 | .lst xs=>.ok xs
 | _=>.bad
def stO(i:Nat)(e:ME):MS:=λZ=>(e Z).bind λd=>(lstO d).bind λa=>.ok (.nx (Z.set i (.ow a)))
def getO:Option Cl->Res (List D)
 | some (.ow xs)=>.ok xs
 | _=>.bad
def frz(i:Nat)(m:MS):MS:=λZ=>(getO Z[i]?).bind λa=>m (Z.set i (.im (.lst a)))
def app(i:Nat)(e:ME):MS:=λZ=>(getO Z[i]?).bind λa=>(e Z).bind λd=>if a.length<LIM then .ok (.nx (Z.set i (.ow (a++[d])))) else .bad
def asg(g:MG)(e:ME):MS:=λZ=>(e Z).bind λd=>(g d Z).bind λa=>.ok (.nx a)
def par(i j:Nat)(a b:ME):MS:=λZ=>(a Z).bind λx=>(b Z).bind λy=>.ok (.nx ((Z.set i (.im x)).set j (.im y)))
def drp(e:ME):MS:=λZ=>(e Z).bind λ_=>.ok (.nx Z)
def ret(e:ME):MS:=λZ=>(e Z).bind λd=>.ok (.rt d)
def ifs(t:MB)(a b:MS):MS:=λZ=>(t Z).bind λx=>if x=true then a Z else b Z
def rse(c:Str)(a:MA):MS:=λZ=>(a Z).bind λ_=>.ex c
def endT(i:Nat):Res Fl->Res Fl
 | .ok (.nx Z)=>.ok (.nx (Z.set i .no))
 | .ok (.bk Z)=>.ok (.bk (Z.set i .no))
 | .ok (.ct Z)=>.ok (.ct (Z.set i .no))
 | .ok (.rt d)=>.ok (.rt d)
 | _=>.bad
def Km(hits:List Str)(i:Nat)(b:MS)(Z:Ev):Res D->Res Fl
 | .ok _=>.ok (.nx Z)
 | .ex c=>if hits.contains (clsOf c)=true then endT i (b (Z.set i (.im (.exc c)))) else .bad
 | .bad=>.bad
def pkB(i:Nat)(m:MB):MB:=λZ=>(getO Z[i]?).bind λa=>m (Z.set i (.im (.lst a)))
def try_(f:List D->Res D)(a:MA)(hits:List Str)(i:Nat)(b:MS):MS:=λZ=>(noEx (a Z)).bind λc=>Km hits i b Z (f c)
def turn(k:MS):Fl->Res Fl
 | .nx Z=>k Z
 | .ct Z=>k Z
 | .bk Z=>.ok (.nx Z)
 | .rt d=>.ok (.rt d)
def CP(g:MG)(b:MS):List D->MS
 | [],Z=>.ok (.nx Z)
 | x::r,Z=>(g x Z).bind λa=>(b a).bind (turn (CP g b r))
def for_(it:MI)(g:MG)(b:MS):MS:=λZ=>(it Z).bind λa=>CP g b a Z
def whGo(t:MB)(b:MS):Nat->MS
 | 0,_=>.bad
 | n+1,Z=>(t Z).bind λx=>if x=true then (b Z).bind (turn (whGo t b n)) else .ok (.nx Z)
def absC:Cl->Nat
 | .im (.int i)=>i.natAbs
 | _=>0
def fuel(Z:Ev):Nat:=(Z.map absC).sum+1
def whl(n:Ev->Nat)(t:MB)(b:MS):MS:=λZ=>whGo t b (n Z) Z
def evF:List D->Nat->Ev
 | [],k=>noA k []
 | d::r,k=>.im d::evF r (k - 1)
def ev0(n:Nat)(ds:List D):Ev:=evF ds n
def Pj:∀k e,noA k e=List.replicate k .no++e
 | 0,_=>rfl
 | k+1,e=>by rw [noA,Pj k e,List.replicate_succ,List.cons_append]
def UL(Z):∀cap,Bu Z cap=cap.map λj=>imOf Z[j]?
 | []=>rfl
 | j::r=>by rw [Bu,UL Z r,Bx]
def Mg:∀ds n,ev0 n ds=ds.map .im++List.replicate (n - ds.length) .no
 | [],n=>by show noA n []=_;rw [Pj];simp
 | d::r,n=>by
  have ih:=Mg r (n - 1);show .im d::ev0 (n - 1) r=_;rw [ih,Bx,List.cons_append,BP,Nat.sub_sub,Nat.add_comm 1]
def endOf:Fl->Res D
 | .rt d=>.ok d
 | .nx _=>.ok .non
 | _=>.bad
def fn(n:Nat)(b:MS)(ds:List D):Res D:=(b (ev0 n ds)).bind endOf
end Dl
variable{H' F0 H0 F':L2.Hp}{E:L2.XK}{Z:Dl.Ev}{ds:List Dl.D}{me:Dl.ME}{d:Dl.D}
namespace L2.Ds
open Dl
def XcO(H:Hp)(a:Addr)(cls:Value)(d:Addr)(p:Option Addr):Prop:=match p with
 | none=>H a=some (exO a cls)
 | some n=>H a=some (exC a cls d)/\H d=some (.xd [("at",.int (((n)/2:Nat):Int))])
def XcO.same{d:Addr}(h:XcO H a cls d p)(e:∀b o,H b=some o->(∀xs,o≠.lst xs)->H' b=some o):XcO H' a cls d p:=by
 cases p with
 | none=>exact e _ _ h λ_ z=>by cases z
 | some n=>exact ⟨e _ _ h.1 (λ_ z=>by cases z),e _ _ h.2 (λ_ z=>by cases z)⟩
def XcO.ext{d:Addr}(h:XcO H a cls d p):∃φ,H a=some (.ext φ)/\∀g,φ g->ExcAt a cls g:=by
 cases p with
 | none=>exact ⟨_,h,λ_ z=>z⟩
 | some n=>exact ⟨_,h.1,λ_ ⟨o,c,b,_⟩=>⟨o,c,b⟩⟩
mutual
inductive Rp(K:W.Frag)(mg:Str->Option Value)(H:Hp):V->D->Prop
 | non:Rp K mg H .non .non
 | bl (b:Bool):Rp K mg H (.bl b) (.bl b)
 | int (i:Int):Rp K mg H (.int i) (.int i)
 | str (x:Str):Rp K mg H (.str x) (.str x)
 | ty (n:String):Rp K mg H (.ty n) (.ty n)
 | cls {c:Str} {C:Addr} (h:mg c=some (.ref C)):Rp K mg H (.ref C) (.cls c)
 | tup {a:Addr} {xs:List V} {ds:List D} (h:SqT K H a xs) (r:Rps K mg H xs ds):Rp K mg H (.ref a) (.tup ds)
 | lst {a:Addr} {xs:List V} {ds:List D} (h:SqL K H a xs) (r:Rps K mg H xs ds):Rp K mg H (.ref a) (.lst ds)
 | exc {c:Str} {C a d:Addr} (m:mg (clsOf c)=some (.ref C)) (h:XcO H a (.ref C) d (pay c)):Rp K mg H (.ref a) (.exc c)
 | ins {c:Str} {C a dx:Addr} {fs:List (Str×V)} {xs:List V} {vs:List D} (m:mg c=some (.ref C)) (h:H a=some (.ins C dx fs)) (o:H dx=some (.own a)) (e:fs.map (·.2)=xs) (r:Rps K mg H xs vs):Rp K mg H (.ref a) (.ins c (fs.map (·.1)) vs)
inductive Rps(K:W.Frag)(mg:Str->Option Value)(H:Hp):List V->List D->Prop
 | nil:Rps K mg H [] []
 | cons {x:V} {xs:List V} {d:D} {ds:List D} (h:Rp K mg H x d) (r:Rps K mg H xs ds):Rps K mg H (x::xs) (d::ds)
end
section
def Ed(e:Same H H')(h:SqT K H a xs):SqT K H' a xs:=by
 rcases h with (h | ⟨o,h⟩) | h
 .exact .inl (.inl (e _ _ h))
 .exact .inl (.inr ⟨o,e _ _ h⟩)
 .exact .inr h
mutual
def Rp.same(e:Same H H'){x:V}{d:D}(h:Rp K mg H x d):Rp K mg H' x d:=by
 cases h with
 | non=>exact .non
 | bl b=>exact .bl b
 | int i=>exact .int i
 | str x=>exact .str x
 | ty n=>exact .ty n
 | cls h=>exact .cls h
 | tup h r=>exact .tup (Ed e h) (Rps.same e r)
 | lst h r=>exact .lst (e.seq h) (Rps.same e r)
 | exc m h=>exact .exc m (h.same λb o z _=>e b o z)
 | ins m h o q r=>exact .ins m (e _ _ h) (e _ _ o) q (Rps.same e r)
def Rps.same(e:Same H H'){xs:List V}{ds:List D}(h:Rps K mg H xs ds):Rps K mg H' xs ds:=by
 cases h with
 | nil=>exact .nil
 | cons h r=>exact .cons (Rp.same e h) (Rps.same e r)
end
def Rps.length:∀{xs:List V} {ds:List D},Rps K mg H xs ds->xs.length=ds.length
 | _,_,.nil=>rfl
 | _,_,.cons _ r=>Bl (·+1) (Rps.length r)
def Rps.get:∀{xs:List V} {ds:List D} {i:Nat} {d:D},Rps K mg H xs ds->ds[i]?=some d->∃x,xs[i]?=some x/\Rp K mg H x d
 | _,_,_,_,.nil,e=>by simp at e
 | _,_,0,_,.cons h _,e=>by simp at e;subst e;exact ⟨_,rfl,h⟩
 | _,_,i+1,_,.cons _ r,e=>by
  obtain ⟨x,b,a⟩:=Rps.get r (by simpa using e);exact ⟨x,by simpa using b,a⟩
def Rps.app{es:List D}(q:Rps K mg H ys es):∀{xs:List V} {ds:List D},Rps K mg H xs ds->Rps K mg H (xs++ys) (ds++es)
 | _,_,.nil=>q
 | _,_,.cons h r=>.cons h (Rps.app q r)
def Rps.rev:∀{xs:List V} {ds:List D},Rps K mg H xs ds->Rps K mg H xs.reverse ds.reverse
 | _,_,.nil=>.nil
 | _,_,.cons h r=>by
  rw [List.reverse_cons,List.reverse_cons];exact Rps.app (.cons h .nil) (Rps.rev r)
def Rps.drop:∀{xs:List V} {ds:List D} (n:Nat),Rps K mg H xs ds->Rps K mg H (xs.drop n) (ds.drop n)
 | _,_,0,r=>r
 | _,_,_+1,.nil=>.nil
 | _,_,n+1,.cons _ r=>Rps.drop n r
def Rps.take:∀{xs:List V} {ds:List D} (n:Nat),Rps K mg H xs ds->Rps K mg H (xs.take n) (ds.take n)
 | _,_,0,_=>.nil
 | _,_,_+1,.nil=>.nil
 | _,_,n+1,.cons h r=>.cons h (Rps.take n r)
def Rps.one{xs:List V}{d:D}(h:Rps K mg H xs [d]):∃x,xs=[x]/\Rp K mg H x d:=by
 cases h with | cons h r=>cases r;exact ⟨_,rfl,h⟩
def Rps.two{xs:List V}{d e:D}(h:Rps K mg H xs [d,e]):∃x y,xs=[x,y]/\Rp K mg H x d/\Rp K mg H y e:=by
 cases h with | cons h r=>obtain ⟨_,rfl,g⟩:=Rps.one r;exact ⟨_,_,rfl,h,g⟩
end
structure Gr(F H F' H':Hp):Prop where
 f:Same F F'
 s:Same F' H'
 o:∀a o,F a=none->H a=some o->F' a=none/\H' a=some o
 z:∀a o u,F' a=some (.frz o u)->F a=some (.frz o u)
def Gr.refl{F:Hp}(s:Same F H):Gr F H F H:=⟨Same.refl _,s,λ_ _ b a=>⟨b,a⟩,λ_ _ _ h=>h⟩
def Gr.trans{F:Hp}(g:Gr F H F1 H1)(h:Gr F1 H1 F2 H2):Gr F H F2 H2:=⟨g.f.trans h.f,h.s,λa o c b=>let ⟨q1,q2⟩:=g.o a o c b;h.o a o q1 q2,λa o u e=>g.z a o u (h.z a o u e)⟩
def ZnR{F:Hp}(s:Same F H):Same (upd F p o) (upd H p o):=λb u e=>by
 by_cases hb:b=p
 .subst hb;rw [Ax] at e ⊢;exact e
 .rw [Ag hb] at e ⊢;exact s b u e
def Mr{F:Hp}(nz:∀o' u,o≠.frz o' u)(e:upd F p o a=some (.frz o' u)):F a=some (.frz o' u):=by
 by_cases ne:a=p
 .subst ne;rw [Ax] at e;exact aB (Be e) (nz o' u)
 .rw [Ag ne] at e;exact e
def Gr.new{F:Hp}(s:Same F H)(h:H p=none)(o)(nz:∀o' u,o≠.frz o' u:=by intro _ _ z;cases z):Gr F H (upd F p o) (upd H p o) :=
 ⟨Du (s.free h) o,ZnR s,λa u d c=>by
  have b:=Bj c h;rw [Ag b,Ag b];exact ⟨d,c⟩,λa o' u e=>by
  by_cases b:a=p
  .subst b;rw [Ax] at e;exact aB (Be e) (nz o' u)
  .rw [Ag b] at e;exact e⟩
def Zvs{F:Hp}{x d:Addr}(s:Same F H)(hx:H x=none)(hd:p.isSome=true->H d=none/\d≠x):∃F',Gr F H F' (trkX p x d cls H)/\XcO F' x cls d p:=by
 cases p with
 | none=>exact ⟨_,Gr.new s hx _,Ax⟩
 | some n=>
  obtain ⟨e,a⟩:=hd rfl;have b:=Gr.new s hx (exC x cls d);have c:=Gr.new b.s (by rw [Ag a];exact e) (.xd [("at",.int (((n)/2:Nat):Int))]);exact ⟨_,b.trans c,by rw [Ag (Ne.symm a)];exact Ax,Ax⟩
structure Rep(K:W.Frag)(mg:Str->Option Value)(F0 H0 F H:Hp)(Y:St)(Z:Ev):Prop where
 g:Gr F0 H0 F H
 len:Y.length=Z.length
 im:∀(i:Nat) (d:D),Z[i]?=some (.im d)->∃x,Y[i]?=some (some x)/\Rp K mg F x d
 ow:∀(i:Nat) (ds:List D),Z[i]?=some (.ow ds)->∃a xs,Y[i]?=some (some (.ref a))/\H0 a=none/\F a=none/\H a=some (.lst xs)/\Rps K mg F xs ds
 ne:∀(i j:Nat) (ds es:List D) (a:Addr),Z[i]?=some (.ow ds)->Z[j]?=some (.ow es)->Y[i]?=some (some (.ref a))->Y[j]?=some (some (.ref a))->i=j
section
variable {F:Hp}
def Rep.gr(r:Rep K mg F0 H0 F H Y Z)(g:Gr F H F' H'):Rep K mg F0 H0 F' H' Y Z:=by
 refine ⟨r.g.trans g,r.len,λi d e=>?_,λi k e=>?_,r.ne⟩
 .obtain ⟨x,c,b⟩:=r.im i d e;exact ⟨x,c,b.same g.f⟩
 .obtain ⟨a,j,c,b,h,m,l⟩:=r.ow i k e;obtain ⟨n,p⟩:=g.o a _ h m;exact ⟨a,j,c,b,n,p,l.same g.f⟩
def Cm{l:List α}{x:α}(h:(l.set i x)[j]?=some y):(i=j/\y=x/\i<l.length)\/(i≠j/\l[j]?=some y):=by
 rw [List.getElem?_set] at h;by_cases e:i=j
 .rw [iP e] at h;split at h
  .exact .inl ⟨e,(Be h).symm,by assumption⟩
  .cases h
 .rw [iN e] at h;exact .inr ⟨e,h⟩
def Li{l:List α}{x:α}(h:i<l.length):(l.set i x)[i]?=some x:=by
 rw [List.getElem?_set,iP rfl,iP h]
def Eb{l:List α}{x:α}(h:i≠j):(l.set i x)[j]?=l[j]?:=by
 rw [List.getElem?_set,iN h]
def Rep.set{x:V}(r:Rep K mg F0 H0 F H Y Z)(i:Nat)(h:Rp K mg F x d):Rep K mg F0 H0 F H (Y.set i (some x)) (Z.set i (.im d)):=by
 refine ⟨r.g,by rw [Gm,Gm];exact r.len,λj e q=>?_,λj b q=>?_,λj k b o a c f m n=>?_⟩
 .rcases Cm q with ⟨rfl,z,l⟩ | ⟨hij,q⟩
  .cases z;exact ⟨x,Li (by rw [r.len];exact l),h⟩
  .rw [Eb hij];exact r.im j e q
 .rcases Cm q with ⟨_,z,_⟩ | ⟨hij,q⟩
  .cases z
  .rw [Eb hij];exact r.ow j b q
 .rcases Cm c with ⟨_,z,_⟩ | ⟨h1,c⟩
  .cases z
  .rcases Cm f with ⟨_,z,_⟩ | ⟨h2,f⟩
   .cases z
   .rw [Eb h1] at m;rw [Eb h2] at n;exact r.ne j k b o a c f m n
def Rep.own(r:Rep K mg F0 H0 F H Y Z)(i:Nat)(hn:H a=none)(h:Rps K mg F xs ds):Rep K mg F0 H0 F (upd H a (.lst xs)) (Y.set i (some (.ref a))) (Z.set i (.ow ds)):=by
 have y:=r.g.s.free hn;have v:H0 a=none:=by
  cases q:H0 a with
  | none=>rfl
  | some o=>
   cases c:F0 a with
   | none=>rw [(r.g.o a o c q).2] at hn;cases hn
   | some u=>rw [r.g.f a u c] at y;cases y
 have x:∀{j:Nat} {m:List D} {b:Addr},Z[j]?=some (.ow m)->Y[j]?=some (some (.ref b))->b≠a:=λ{j m b} p c=>by
  obtain ⟨M,C,d,_,_,A,_⟩:=r.ow j m p;rw [c] at d;cases d;exact Bj A hn
 refine ⟨⟨r.g.f,λb o e=>?_,λb o J B=>?_,r.g.z⟩,by rw [Gm,Gm];exact r.len,λj e q=>?_,λj m q=>?_,λj k m G b p c t n=>?_⟩
 .rw [Ag (Bj e y)];exact r.g.s b o e
 .rw [Ag (Bj B v)];exact r.g.o b o J B
 .rcases Cm q with ⟨_,z,_⟩ | ⟨hij,q⟩
  .cases z
  .rw [Eb hij];exact r.im j e q
 .rcases Cm q with ⟨rfl,z,l⟩ | ⟨hij,q⟩
  .cases z;exact ⟨a,xs,Li (by rw [r.len];exact l),v,y,Ax,h⟩
  .rw [Eb hij];obtain ⟨b,I,d,w,E,A,L⟩:=r.ow j m q;exact ⟨b,I,d,w,E,by rw [Ag (Bj A hn)];exact A,L⟩
 .rcases Cm p with ⟨rfl,_,l1⟩ | ⟨d,p⟩
  .rcases Cm c with ⟨rfl,_,_⟩ | ⟨w,c⟩
   .rfl
   .rw [Li (by rw [r.len];exact l1)] at t;rw [Eb w] at n;cases t;exact aB rfl (x c n)
  .rcases Cm c with ⟨rfl,_,l2⟩ | ⟨w,c⟩
   .rw [Li (by rw [r.len];exact l2)] at n;rw [Eb d] at t;cases n;exact aB rfl (x p t)
   .rw [Eb d] at t;rw [Eb w] at n;exact r.ne j k m G b p c t n
def Rep.app{x:V}(r:Rep K mg F0 H0 F H Y Z)(e:Z[i]?=some (.ow ds))(e2:Y[i]?=some (some (.ref a)))(e3:H a=some (.lst xs))(e4:H0 a=none)(e5:F a=none)(hr:Rps K mg F xs ds)(h:Rp K mg F x d) :
  Rep K mg F0 H0 F (upd H a (.lst (xs++[x]))) Y (Z.set i (.ow (ds++[d]))):=by
 refine ⟨⟨r.g.f,λb o q=>?_,λb o t m=>?_,r.g.z⟩,by rw [Gm];exact r.len,λj u q=>?_,λj n q=>?_,λj k n J b t m E B=>?_⟩
 .rw [Ag (Bj q e5)];exact r.g.s b o q
 .rw [Ag (Bj m e4)];exact r.g.o b o t m
 .rcases Cm q with ⟨_,z,_⟩ | ⟨_,q⟩
  .cases z
  .exact r.im j u q
 .rcases Cm q with ⟨rfl,z,l⟩ | ⟨hij,q⟩
  .cases z;exact ⟨a,_,e2,e4,e5,Ax,Rps.app (.cons h .nil) hr⟩
  .obtain ⟨b,D,w,C,y,G,I⟩:=r.ow j n q;have A:b≠a:=by
    rintro rfl;exact hij (r.ne i j ds n b e q e2 w)
   exact ⟨b,D,w,C,y,by rw [Ag A];exact G,I⟩
 .have v:∃c,Z[j]?=some (.ow c):=by
   rcases Cm t with ⟨rfl,_,_⟩ | ⟨_,q⟩
   .exact ⟨_,e⟩
   .exact ⟨_,q⟩
  have p:∃c,Z[k]?=some (.ow c):=by
   rcases Cm m with ⟨rfl,_,_⟩ | ⟨_,q⟩
   .exact ⟨_,e⟩
   .exact ⟨_,q⟩
  obtain ⟨_,v⟩:=v;obtain ⟨_,p⟩:=p;exact r.ne j k _ _ b v p E B
def Rep.frz{i:Nat}{ds:List D}(r:Rep K mg F0 H0 F H Y Z)(e:Z[i]?=some (.ow ds)):∃F',Same F F'/\Rep K mg F0 H0 F' H Y (Z.set i (.im (.lst ds))):=by
 obtain ⟨a,p,t,I,w,A,B⟩:=r.ow i ds e;have h:Same F (upd F a (.lst p)):=Du w _;refine ⟨upd F a (.lst p),h,⟨r.g.f.trans h,λb o q=>?_,λb o d c=>?_,λb o u q=>r.g.z b o u (Mr (λ_ _ z=>by cases z) q)⟩,by rw [Gm];exact r.len,λj u q=>?_,λj m q=>?_,λj k m y b d c J E=>?_⟩
 .by_cases hb:b=a
  .subst hb;rw [Ax] at q;cases q;exact A
  .rw [Ag hb] at q;exact r.g.s b o q
 .rw [Ag (Bj c I)];exact r.g.o b o d c
 .rcases Cm q with ⟨rfl,z,_⟩ | ⟨_,q⟩
  .cases z;exact ⟨.ref a,t,.lst (SqL.of Ax) (B.same h)⟩
  .obtain ⟨x,l,n⟩:=r.im j u q;exact ⟨x,l,n.same h⟩
 .rcases Cm q with ⟨_,z,_⟩ | ⟨hij,q⟩
  .cases z
  .obtain ⟨b,G,l,n,v,L,M⟩:=r.ow j m q;have C:b≠a:=by
    rintro rfl;exact hij (r.ne i j ds m b e q t l)
   exact ⟨b,G,l,n,by rw [Ag C];exact v,L,M.same h⟩
 .rcases Cm d with ⟨_,z,_⟩ | ⟨_,d⟩
  .cases z
  .rcases Cm c with ⟨_,z,_⟩ | ⟨_,c⟩
   .cases z
   .exact r.ne j k m y b d c J E
end
def Ans(mg:Str->Option Value)(E:XK)(R:Hp->β->α->Prop)(F H:Hp)(r:Res α)(w:(β->Hp->Prop)->Prop):Prop :=
 match r with
 | .ok a=>∀Q,(∀e d b,Gr F H e d->R e b a->Q b d)->w Q
 | .ex c=>∀Q,(∀e d C,Gr F H e d->mg (clsOf c)=some (.ref C)->E (.ref C) (pay c) d)->w Q
 | .bad=>True
section
variable{α β γ δ:Type} {R:Hp->β->α->Prop} {R':Hp->δ->γ->Prop} {F:Hp}
def Ans.ret{w:(β->Hp->Prop)->Prop}(s:Same F H)(r:R F b a)(h:∀Q,Q b H->w Q):Ans mg E R F H (.ok a) w:=λQ q=>h Q (q F H b (.refl s) r)
def Ans.bindE{r:Res α}{w:(β->Hp->Prop)->Prop}{k:α->Res γ}{w':β->Hp->(δ->Hp->Prop)->Prop}(h1:Ans mg E R F H r w)(h2:∀a,r=.ok a->∀F1 H1 b,Gr F H F1 H1->R F1 b a->Ans mg E R' F1 H1 (k a) (w' b H1)) :
  Ans mg E R' F H (r.bind k) (λQ=>w λb H1=>w' b H1 Q):=by
 cases r with
 | ok a=>
  show Ans mg E R' F H (k a) _;have f:=h2 a rfl;generalize k a=r2 at f;cases r2 with
  | ok d=>exact λQ q=>h1 _ λF1 H1 b g i=>f F1 H1 b g i Q λj h e l m=>q j h e (g.trans l) m
  | ex c=>exact λQ q=>h1 _ λF1 H1 b g i=>f F1 H1 b g i Q λj h C l n=>q j h C (g.trans l) n
  | bad=>trivial
 | ex c=>exact λQ q=>h1 _ q
 | bad=>trivial
def Ans.bind{r:Res α}{w:(β->Hp->Prop)->Prop}{k:α->Res γ}{w':β->Hp->(δ->Hp->Prop)->Prop}(h1:Ans mg E R F H r w)(h2:∀F1 H1 b a,Gr F H F1 H1->R F1 b a->Ans mg E R' F1 H1 (k a) (w' b H1)) :
  Ans mg E R' F H (r.bind k) (λQ=>w λb H1=>w' b H1 Q):=h1.bindE λa _ F1 H1 b g q=>h2 F1 H1 b a g q
end
def AnsS(K:W.Frag)(mg:Str->Option Value)(E:XK)(F0 H0 F:Hp)(r:Res Fl)(w:Ends->Prop):Prop :=
 match r with
 | .ok (.nx Z)=>∀D,(∀b a e,Same F b->Rep K mg F0 H0 b a e Z->D.nx e a)->w D
 | .ok (.bk Z)=>∀D,(∀b a e,Same F b->Rep K mg F0 H0 b a e Z->D.bk e a)->w D
 | .ok (.ct Z)=>∀D,(∀b a e,Same F b->Rep K mg F0 H0 b a e Z->D.ct e a)->w D
 | .ok (.rt d)=>∀D,(∀b a x,Gr F0 H0 b a->Rp K mg b x d->D.rt x a)->w D
 | .ex c=>∀D,(∀b a C,Gr F0 H0 b a->mg (clsOf c)=some (.ref C)->E (.ref C) (pay c) a)->w D
 | .bad=>True
abbrev RB:Hp->Bool->Bool->Prop:=λ_ b b'=>b=b'
abbrev RO:Hp->Option Int->Option Int->Prop:=λ_ b b'=>b=b'
def SE(K:W.Frag)(mg:Str->Option Value)(E:XK)(t:TE)(m:ME):Prop:=∀b a F H Y Z,Rep K mg b a F H Y Z->Ans mg E (Rp K mg) F H (m Z) (t Y H)
def STt(K:W.Frag)(mg:Str->Option Value)(E:XK)(t:TT)(m:MB):Prop:=∀b a F H Y Z,Rep K mg b a F H Y Z->Ans mg E RB F H (m Z) (t Y H)
def SA(K:W.Frag)(mg:Str->Option Value)(E:XK)(t:TA)(m:MA):Prop:=∀b a F H Y Z,Rep K mg b a F H Y Z->Ans mg E (Rps K mg) F H (m Z) (t Y H)
def SO(K:W.Frag)(mg:Str->Option Value)(E:XK)(t:TO)(m:Ev->Res (Option Int)):Prop:=∀b a F H Y Z,Rep K mg b a F H Y Z->Ans mg E RO F H (m Z) (t Y H)
def SS(K:W.Frag)(mg:Str->Option Value)(E:XK)(t:TS)(m:MS):Prop:=∀b a F H Y Z,Rep K mg b a F H Y Z->AnsS K mg E b a F (m Z) (λD=>t D Y H)
def AnsG(K:W.Frag)(mg:Str->Option Value)(F0 H0 F:Hp)(n:Nat)(Y:St)(r:Res Ev)(w:(St->Hp->Prop)->Prop):Prop :=
 match r with
 | .ok Z'=>∀Q,(∀b c a,Same F b->Rep K mg F0 H0 b c a Z'->a.drop n=Y.drop n->Q a c)->w Q
 | _=>True
def SG(K:W.Frag)(mg:Str->Option Value)(n:Nat)(t:TG)(g:MG):Prop:=∀b a F H Y Z x d,Rep K mg b a F H Y Z->Rp K mg F x d->AnsG K mg b a F n Y (g d Z) (t x Y H)
def SGs(K:W.Frag)(mg:Str->Option Value)(n:Nat)(t:TGs)(g:MGs):Prop:=∀d c F H Y Z a b,Rep K mg d c F H Y Z->Rps K mg F a b->AnsG K mg d c F n Y (g b Z) (t a Y H)
def ItOk(K:W.Frag)(mg:Str->Option Value)(F:Hp)(J:It)(ds:List D):Prop:=∀e b,Same F e->Same e b->∀i,
 (∀d,ds[i]?=some d->J.go i b/\∀x c,J.yld i b x c->∃a,Gr e b a c/\Rp K mg a x d)/\(ds.length<=i->J.stop i b)
def SI(K:W.Frag)(mg:Str->Option Value)(E:XK)(t:TI)(m:MI):Prop:=∀b a F H Y Z,Rep K mg b a F H Y Z->Ans mg E (ItOk K mg) F H (m Z) (t Y H)
def OpD(K:W.Frag)(mg:Str->Option Value)(r:R2)(f:D->D->Res D):Prop:=∀E F H x y b a,Same F H->Rp K mg F x b->Rp K mg F y a->Ans mg E (Rp K mg) F H (f b a) (r x y H)
def UnD(K:W.Frag)(mg:Str->Option Value)(r:V->Hp->VK->Prop)(f:D->Res D):Prop:=∀E F H x a,Same F H->Rp K mg F x a->Ans mg E (Rp K mg) F H (f a) (r x H)
def CallD(K:W.Frag)(mg:Str->Option Value)(r:List V->Hp->VK->Prop)(f:List D->Res D):Prop:=∀E F H a b,Same F H->Rps K mg F a b->Ans mg E (Rp K mg) F H (f b) (r a H)
section
variable {ta tb tc:TE} {ma mb mc:ME} {sa sb:TT} {na nb:MB}
def Rep.ss{F:Hp}(r:Rep K mg F0 H0 F H Y Z):Same F H:=r.g.s
def se_v(i):SE K mg E (tVar i) (v i):=by
 intro e c F H Y Z r;unfold v getC;split
 .next d h=>
  obtain ⟨x,b,a⟩:=r.im i d h;exact .ret r.ss a λQ q=>⟨x,b,q⟩
 .trivial
def se_c{x:V}(h:∀F,Rp K mg F x d):SE K mg E (tC x) (c d):=λ_ _ F _ _ _ r=>.ret r.ss (h F) λ_ q=>q
def Nv(hf:OpD K mg r f)(ha:SE K mg E ta ma)(hb:SE K mg E tb mb):SE K mg E (tOp r ta tb) (o2 f ma mb):=by
 intro d c F H Y Z a;refine (ha d c F H Y Z a).bind λi n x m l e=>?_;refine (hb d c i n Y Z (a.gr l)).bind λg j y k b h=>?_;exact hf E g j x y m k b.s (e.same b.f) h
def Zh(hf:UnD K mg r f)(ha:SE K mg E ta ma):SE K mg E (tUn r ta) (o1 f ma):=by
 intro i d F H Y Z g;exact (ha i d F H Y Z g).bind λh e x b a c=>hf E h e x b a.s c
def ZpD:SA K mg E tNil Ab:=λ_ _ _ _ _ _ r=>.ret r.ss .nil λ_ q=>q
def ZrO(ha:SE K mg E ta ma)(hr:SA K mg E t m):SA K mg E (Dt ta t) (Aa ma m):=by
 intro d c F H Y Z a;refine (ha d c F H Y Z a).bind λh j x p i e=>?_;refine (hr d c h j Y Z (a.gr i)).bind λl n o k b g=>?_;exact .ret b.s (.cons (e.same b.f) g) λ_ q=>q
def ZuE(hf:CallD K mg r f)(ha:SA K mg E t m):SE K mg E (tCB r t) (on f m):=by
 intro i d F H Y Z g;exact (ha i d F H Y Z g).bind λh e x b a c=>hf E h e x b a.s c
def IK{F:Hp}{w:VK->Prop}(s:Same F H)(hr:∀p,H p=none->R (upd F p o) (.ref p) a)(h:∀Q,(∀p,H p=none->Q (.ref p) (upd H p o))->w Q)(nz:∀o' u,o≠.frz o' u:=by intro _ _ z;cases z):Ans mg E R F H (.ok a) w :=
 λQ q=>h Q λp b=>q (upd F p o) (upd H p o) (.ref p) (.new s b o nz) (hr p b)
def SAn(n:Nat)(m:MA):Prop:=∀Z a,m Z=.ok a->a.length=n
def ZlZ:SAn 0 Ab:=λZ a h=>by cases h;rfl
def ZnO(h:SAn n m):SAn (n+1) (Aa ma m):=λZ d e=>by
 unfold Aa at e;cases ea:ma Z with
 | ok x=>
  rw [ea] at e;cases em:m Z with
  | ok xs=>
   have a:=e;rw [em] at a;have b:=a;cases b;exact Bl (·+1) (h Z xs em)
  | ex c=>
   have a:=e;rw [em] at a;cases a
  | bad=>
   have a:=e;rw [em] at a;cases a
 | ex c=>rw [ea] at e;cases e
 | bad=>rw [ea] at e;cases e
def Zt4(ha:SA K mg E t m)(hl:SAn n m)(hn:n<=sizeLine):SE K mg E (tTup t) (mtp m):=by
 intro f i F H Y Z d;have h:=ha f i F H Y Z d;unfold mtp;cases e:m Z with
 | ok ds=>
  rw [e] at h;exact λQ q=>h _ λk l j g b=>⟨by rw [b.length,hl Z ds e];exact hn,λp a=>q _ _ _ (g.trans (.new g.s a _)) (.tup (SqT.of Ax) (b.same (Du (g.s.free a) _)))⟩
 | ex c=>
  rw [e] at h;exact λQ q=>h _ q
 | bad=>trivial
def Ztn(ha:SA K mg E t m)(hl:SAn n m)(hn:n<=sizeLine):SE K mg E (tLst t) (mls m):=by
 intro f i F H Y Z d;have h:=ha f i F H Y Z d;unfold mls;cases e:m Z with
 | ok ds=>
  rw [e] at h;exact λQ q=>h _ λk l j g b=>⟨by rw [b.length,hl Z ds e];exact hn,λp a=>q _ _ _ (g.trans (.new g.s a _)) (.lst (SqL.of Ax) (b.same (Du (g.s.free a) _)))⟩
 | ex c=>
  rw [e] at h;exact λQ q=>h _ q
 | bad=>trivial
def st_b(ha:SE K mg E ta ma):STt K mg E (L2.tB ta) (trb ma):=by
 intro g e F H Y Z f;refine (ha g e F H Y Z f).bind λi h x c a d=>?_;cases c with
 | bl b=>cases d;exact .ret a.s rfl λQ q=>⟨b,rfl,q⟩
 | _=>trivial
def RV(ha:SE K mg E ta ma):STt K mg E (Ec ta) (trb ma):=st_b ha
def Ztt(ha:STt K mg E sa na)(hb:STt K mg E sb nb):STt K mg E (tAnd sa sb) (bAnd na nb):=by
 intro d b F H Y Z c;refine (ha d b F H Y Z c).bind λg f x h a e=>?_;cases (e);cases x with
 | true=>
  have z:=hb d b g f Y Z (c.gr a);simp only [Cw];exact z
 | false=>
  exact Ans.ret a.s rfl λQ q=>q
def ZwV(ha:STt K mg E sa na)(hb:STt K mg E sb nb):STt K mg E (tOr sa sb) (bOr na nb):=by
 intro d b F H Y Z c;refine (ha d b F H Y Z c).bind λg f x h a e=>?_;cases (e);cases x with
 | true=>
  exact Ans.ret a.s rfl λQ q=>q
 | false=>
  have z:=hb d b g f Y Z (c.gr a);simp only [Di,Cu];exact z
def ZtC(ha:STt K mg E sa na):STt K mg E (tNot sa) (bNot na):=by
 intro e c F H Y Z d;refine (ha e c F H Y Z d).bind λh g x f a b=>?_;cases (b);exact Ans.ret a.s rfl λQ q=>q
def ZuQ(ha:SE K mg E ta ma)(hb:SE K mg E tb mb):SE K mg E (Ry ta tb) (eAnd ma mb):=by
 intro f d F H Y Z e;have z:=(st_b ha f d F H Y Z e).bind (k:=λx=>if x=true then mb Z else .ok (D.bl false)) (w':=λc a Q=>if c=true then tb Y a Q else Q (V.bl false) a) λh a x i b g=>by
  cases (g);cases x with
  | true=>
   have z:=hb f d h a Y Z (e.gr b);simp only [Cw];exact z
  | false=>
   exact Ans.ret b.s (.bl false) λQ q=>q
 exact z
def ZsQ(ha:SE K mg E ta ma):SE K mg E (R4 ta) (eNot ma):=by
 intro e c F H Y Z d;exact (st_b ha e c F H Y Z d).bind λh g x f a b=>by
  cases (b);exact Ans.ret a.s (.bl _) λQ q=>q
def ZuY(hc:STt K mg E sa na)(ha:SE K mg E ta ma)(hb:SE K mg E tb mb):SE K mg E (tIf sa ta tb) (ife na ma mb):=by
 intro c a F H Y Z b;refine (hc c a F H Y Z b).bind λf e x h d g=>?_;cases (g);cases x with
 | true=>
  have z:=ha c a f e Y Z (b.gr d);simp only [Cw];exact z
 | false=>
  have z:=hb c a f e Y Z (b.gr d);simp only [Di,Cu];exact z
def Wq(hf:OpD K mg r f)(hg:OpD K mg r' g)(ha:SE K mg E ta ma)(hb:SE K mg E tb mb)(hc:SE K mg E tc mc):SE K mg E (Nt r r' ta tb tc) (chain f g ma mb mc):=by
 intro k j F H Y Z e;refine (ha k j F H Y Z e).bind λG M x J n A=>?_;refine (hb k j G M Y Z (e.gr n)).bind λB I y a i l=>?_;refine (hf E B I x y J a i.s (A.same i.f) l).bind λp o z t h L=>?_;cases t with
 | bl b=>
  cases L;show Ans mg E (Rp K mg) p o (if b=true then (mc Z).bind λu=>g a u else .ok (.bl false)) _
  cases b with
  | true=>
   have w:=(hc k j p o Y Z ((e.gr n).gr (i.trans h))).bind λv D u N m C=>hg E v D y u a N m.s (l.same (h.f.trans m.f)) C;generalize ((mc Z).bind λu=>g a u)=res at w;cases res with
   | ok d=>exact λQ q=>⟨true,rfl,by simp only [Cw];exact w Q q⟩
   | ex c=>exact λQ q=>⟨true,rfl,by simp only [Cw];exact w Q q⟩
   | bad=>trivial
  | false=>
   exact .ret h.s (.bl false) λQ q=>⟨false,rfl,by simp only [Di,Cu];exact q⟩
 | _=>trivial
end
section
def V2(h:∀E F H a b,Same F H->Ans mg E (Rp K mg) F H (f a b) (r (.int a) (.int b) H)):OpD K mg r (ii f):=by
 intro E F H x y g e s c d;unfold ii;split
 .cases c;cases d;exact h E F H _ _ s
 .trivial
def J4(h:∀a b,(∃d,f a b=.ok d/\C a b/\∀F,Rp K mg F (g a b) d)\/f a b=.bad):OpD K mg (rI C g) (ii f):=by
 refine V2 λE F H a b s=>?_;rcases h a b with ⟨d,e,hc,hr⟩ | e
 .rw [e];exact .ret s (hr F) λQ q=>⟨a,b,rfl,rfl,hc,q⟩
 .rw [e];trivial
def Ma(h:∀a b,(∃d,f a b=.ok d/\∀F,Rp K mg F (g a b) d)\/f a b=.bad):OpD K mg (rI0 g) (ii f):=by
 refine V2 λE F H a b s=>?_;rcases h a b with ⟨d,e,hr⟩ | e
 .rw [e];exact .ret s (hr F) λQ q=>⟨a,b,rfl,rfl,q⟩
 .rw [e];trivial
def ZrB:OpD K mg (rI0 λi j=>.int (i - j)) dSub:=Ma λ_ _=>.inl ⟨_,rfl,λ_=>.int _⟩
def Zt0:OpD K mg (rI0 λi j=>.bl (decide (i<j))) dLt:=Ma λ_ _=>.inl ⟨_,rfl,λ_=>.bl _⟩
def Ex:OpD K mg (rI0 λi j=>.bl (decide (i<=j))) dLe:=Ma λ_ _=>.inl ⟨_,rfl,λ_=>.bl _⟩
def Wf:OpD K mg (rI0 λi j=>.bl (decide (j<i))) dGt:=Ma λ_ _=>.inl ⟨_,rfl,λ_=>.bl _⟩
def Xg:OpD K mg (rI0 λi j=>.bl (decide (j<=i))) dGe:=Ma λ_ _=>.inl ⟨_,rfl,λ_=>.bl _⟩
def ZqV:OpD K mg (rI (λ_ j=>j≠0) λi j=>.int (i.fmod j)) Cz:=J4 λa b=>by
 unfold iMod;by_cases h1:0<b
 .rw [iP h1];exact .inl ⟨_,rfl,by omega,λ_=>by rw [Int.fmod_eq_emod_of_nonneg a (by omega)];exact .int _⟩
 .rw [iN h1];by_cases h2:b=0
  .rw [iP h2];exact .inr rfl
  .rw [iN h2];exact .inl ⟨_,rfl,h2,λ_=>.int _⟩
def ZrI:OpD K mg (rI Uk λi j=>.int (i.fdiv j)) IW:=J4 λa b=>by
 unfold iDiv;by_cases h0:b.natAbs.log2<9000
 .rw [iP h0];by_cases h1:0<b
  .rw [iP h1];exact .inl ⟨_,rfl,⟨by omega,h0⟩,λ_=>by rw [Int.fdiv_eq_ediv_of_nonneg a (by omega)];exact .int _⟩
  .rw [iN h1];by_cases h2:b=0
   .rw [iP h2];exact .inr rfl
   .rw [iN h2];exact .inl ⟨_,rfl,⟨h2,h0⟩,λ_=>.int _⟩
 .rw [iN h0];exact .inr rfl
def ZqZ:OpD K mg (rI CPow λi j=>.int (i^j.toNat)) dPow:=J4 λa b=>by
 unfold iPow;by_cases h:0<=b/\b<=1000000/\a.natAbs<2^64
 .rw [iP h];exact .inl ⟨_,rfl,h,λ_=>.int _⟩
 .rw [iN h];exact .inr rfl
def Zsm:OpD K mg (rI CPow λi j=>.int (i*2^j.toNat)) dShl:=J4 λa b=>by
 unfold iShl;by_cases h:0<=b/\b<=1000000/\a.natAbs<2^64
 .rw [iP h];exact .inl ⟨_,rfl,h,λ_=>.int _⟩
 .rw [iN h];exact .inr rfl
def Zqv:OpD K mg (rI (λ_ j=>0<=j) λi j=>.int (i/2^j.toNat)) dShr:=J4 λa b=>by
 unfold iShr;by_cases h:0<=b
 .rw [iP h];exact .inl ⟨_,rfl,h,λ_=>.int _⟩
 .rw [iN h];exact .inr rfl
def Zq8(h:∀i H Q,Q (.int (-i)) H->r (.int i) H Q):UnD K mg r dNeg:=by
 intro E F H x b s a;unfold dNeg;split
 .cases a;exact .ret s (.int _) λQ q=>h _ _ _ q
 .trivial
def W2(K:W.Frag):R2:=λx y H Q=>∃l b a c,x=.ref l/\y=.ref b/\SqL K H l a/\SqL K H b c/\a.length+c.length<=sizeLine/\∀p,H p=none->Q (.ref p) (upd H p (.lst (a++c)))
def Ze(K:W.Frag):R2:=λx y H Q=>∃a b c d,x=.ref a/\y=.ref b/\SqT K H a c/\SqT K H b d/\c.length+d.length<=sizeLine /\
 (c=[]->Q (.ref b) H)/\(c≠[]->d=[]->Q (.ref a) H)/\(c≠[]->d≠[]->∀p,H p=none->Q (.ref p) (upd H p (.tup (c++d))))
def ZvS:R2:=λx y H Q=>∃i j,x=.str i/\y=.str j/\i.length+j.length<=sizeLine/\Q (.str (i++j)) H
def Ss(K:W.Frag):R2:=λx y H Q=>rI0 (λi j=>.int (i+j)) x y H Q\/W2 K x y H Q\/Ze K x y H Q\/ZvS x y H Q
def Kw(h:n<=LIM):n<=sizeLine:=Ar h (by decide)
def ZsI:OpD K mg (Ss K) BX:=by
 intro E F H x y l k s d f;unfold BX;split
 .cases d;cases f;exact .ret s (.int _) λQ q=>.inl ⟨_,_,rfl,rfl,q⟩
 .next g i=>
  by_cases h:g.length+i.length<=LIM
  .rw [iP h];cases d with
   | lst ha ra=>
    cases f with
    | lst hb rb=>
     refine IK s (λp c=>.lst (SqL.of Ax) ((Rps.app rb ra).same (Du (s.free c) _))) λQ q=>.inr (.inl ⟨_,_,_,_,rfl,rfl,s.seq ha,s.seq hb,?_,q⟩);rw [ra.length,rb.length];exact Kw h
  .rw [iN h];trivial
 .next g i=>
  by_cases h:g.length+i.length<=LIM
  .rw [iP h];cases d with
   | tup ha ra=>
    cases f with
    | tup hb rb=>
     rename_i a xs b ys;have j:xs.length+ys.length<=sizeLine:=by rw [ra.length,rb.length];exact Kw h
     intro Q q;refine .inr (.inr (.inl ⟨a,b,xs,ys,rfl,rfl,Ed s ha,Ed s hb,j,λe=>?_,λ_ e=>?_,λ_ _ p c=>?_⟩))
     .subst e;cases ra;exact q F H _ (.refl s) (.tup hb rb)
     .subst e;cases rb;rw [Cq] at q;exact q F H _ (.refl s) (.tup ha ra)
     .exact q _ _ _ (.new s c _) (.tup (SqT.of Ax) ((Rps.app rb ra).same (Du (s.free c) _)))
  .rw [iN h];trivial
 .next a b=>
  by_cases h:a.length+b.length<=LIM
  .rw [iP h];cases d;cases f;exact .ret s (.str _) λQ q=>.inr (.inr (.inr ⟨_,_,rfl,rfl,Kw h,q⟩))
  .rw [iN h];trivial
 .trivial
def Yg(ha:SE K mg E ta ma):SE K mg E (tOp (λx y H Q=>y=.non/\Q (.bl (decide (x=.non))) H) ta (tC .non)) (o1 dIsN ma):=by
 intro g d F H Y Z f;refine (ha g d F H Y Z f).bind λi h x b a c=>?_;have e:decide (x=V.non)=Jv b:=by cases c<;>rfl
 exact .ret a.s (.bl _) λQ q=>⟨rfl,by rw [e];exact q⟩
def Zqn(ha:SE K mg E ta ma):SE K mg E (tOp (λx y H Q=>y=.non/\Q (.bl (!decide (x=.non))) H) ta (tC .non)) (o1 Ke ma):=by
 intro g d F H Y Z f;refine (ha g d F H Y Z f).bind λi h x b a c=>?_;have e:decide (x=V.non)=Jv b:=by cases c<;>rfl
 exact .ret a.s (.bl _) λQ q=>⟨rfl,by rw [e];exact q⟩
def Xe{F:Hp}{i:Int}(r:Rps K mg F xs ds)(h:at_ ds i=some d):∃x,atI xs i=some x/\Rp K mg F x d:=by
 have b:=r.length;unfold at_ at h;unfold atI ixN;by_cases h0:0<=i
 .rw [iP h0] at h;obtain ⟨x,e,a⟩:=r.get h;have c:=(Dd.mp e).1;exact ⟨x,by rw [iP h0,iP (by omega)];exact e,a⟩
 .rw [iN h0] at h;by_cases h1:-(ds.length:Int)<=i
  .rw [iP h1] at h;obtain ⟨x,e,a⟩:=r.get h;exact ⟨x,by rw [iN h0,iP (by omega),b];exact e,a⟩
  .rw [iN h1] at h;cases h
def rIxD(K:W.Frag):R2:=λx y H Q=>rIxL K x y H Q\/rIxT K x y H Q
def Zs4:OpD K mg (rIxD K) dIx:=by
 intro E F H x y j h s f g;unfold dIx;split
 .next a i=>
  cases e:at_ a i with
  | none=>trivial
  | some d=>
   cases f with
   | lst ha ra=>
    cases g;obtain ⟨z,b,c⟩:=Xe ra e;exact Ans.ret s c λQ q=>.inl ⟨_,_,_,_,rfl,rfl,s.seq ha,b,q⟩
 .next a i=>
  cases e:at_ a i with
  | none=>trivial
  | some d=>
   cases f with
   | tup ha ra=>
    cases g;obtain ⟨z,b,c⟩:=Xe ra e;exact Ans.ret s c λQ q=>.inr ⟨_,_,_,_,rfl,rfl,Ed s ha,b,q⟩
 .trivial
def Yd(n d)(o):cutAt n d o=HT.sIx n d o:=by cases o<;>rfl
def X5{F:Hp}(r:Rps K mg F xs ds)(lo hi):Rps K mg F (cutV xs lo hi) (cutL ds lo hi):=by
 unfold cutV cutL;simp only [Yd,r.length];exact (r.drop _).take _
def rSlU(K:W.Frag):V->Option Int->Option Int->Hp->VK->Prop:=λx d c H Q=>∃a b,x=.ref a/\SqT K H a b /\
 ((HT.sIx b.length 0 d=0/\HT.sIx b.length b.length c=b.length)->Q (.ref a) H)/\(¬(HT.sIx b.length 0 d=0/\HT.sIx b.length b.length c=b.length)->∀p,H p=none->Q (.ref p) (upd H p (.tup (cutV b d c))))
def rSlD(K:W.Frag):V->Option Int->Option Int->Hp->VK->Prop:=λx b a H Q=>rSlL K x b a H Q\/rSlU K x b a H Q
def ZtF(ha:SE K mg E ta ma)(hl:SO K mg E tl ml)(hh:SO K mg E th mh):SE K mg E (tSl (rSlD K) ta tl th) (cut ma ml mh):=by
 intro j i F H Y Z g;refine (ha j i F H Y Z g).bind λu A x D k n=>?_;refine (hl j i u A Y Z (g.gr k)).bind λo v l G m B=>?_;cases (B);refine (hh j i o v Y Z ((g.gr k).gr m)).bind λz y h C b t=>?_;cases (t);have c:=n.same (m.f.trans b.f);unfold dCut;split
 .cases c with
  | lst hx r=>
   refine IK b.s (λp d=>.lst (SqL.of Ax) ((X5 r l h).same (Du (b.s.free d) _))) λQ q=>.inl ⟨_,_,rfl,b.s.seq hx,q⟩
 .cases c with
  | tup hx r=>
   rename_i ds a xs;intro Q q;refine .inr ⟨a,xs,rfl,Ed b.s hx,λe=>?_,λ_ p d=>q _ _ _ (.new b.s d _) (.tup (SqT.of Ax) ((X5 r l h).same (Du (b.s.free d) _)))⟩;have w:cutL ds l h=ds:=by
    unfold cutL;simp only [Yd,<-r.length,e.1,e.2];rw [Iz,Nat.sub_zero,r.length,List.take_length]
   rw [w] at q;exact q z y _ (.refl b.s) (.tup hx r)
 .trivial
def Zsi:SO K mg E Ud pno:=λ_ _ _ _ _ _ r=>Ans.ret (R:=RO) r.ss rfl λ_ q=>q
def ZrN(ha:SE K mg E ta ma):SO K mg E (Rw ta) (pso ma):=by
 intro f d F H Y Z e;refine (ha f d F H Y Z e).bind λh g x b a c=>?_;cases b with
 | int i=>cases c;exact Ans.ret a.s rfl λQ q=>⟨i,rfl,q⟩
 | _=>trivial
def ZhP:CallD K mg (λxs H Q=>∃p ys,xs=[.ref p]/\(SqL K H p ys\/SqT K H p ys)/\Q (.int ys.length) H) bLen:=by
 intro E F H xs b s r;unfold bLen;split
 .obtain ⟨x,rfl,a⟩:=r.one;cases a with
  | lst h q=>rw [<-q.length];exact .ret s (.int _) λQ q=>⟨_,_,rfl,.inl (s.seq h),q⟩
 .obtain ⟨x,rfl,a⟩:=r.one;cases a with
  | tup h q=>rw [<-q.length];exact .ret s (.int _) λQ q=>⟨_,_,rfl,.inr (Ed s h),q⟩
 .trivial
def ZmW:CallD K mg (λxs H Q=>∃i,xs=[.int i]/\Q (.int (if i<0 then -i else i)) H) bAbs:=by
 intro E F H xs b s r;unfold bAbs;split
 .obtain ⟨x,rfl,a⟩:=r.one;cases a;exact .ret s (.int _) λQ q=>⟨_,rfl,q⟩
 .trivial
def Znb:CallD K mg (λxs H Q=>∃i j,xs=[.int i,.int j]/\Q (.int (if j>i then j else i)) H) bMax:=by
 intro E F H xs c s r;unfold bMax;split
 .obtain ⟨x,y,rfl,a,b⟩:=r.two;cases a;cases b;exact .ret s (.int _) λQ q=>⟨_,_,rfl,q⟩
 .trivial
def VD:CallD K mg (λxs H Q=>∃p ys,xs=[.ref p]/\((SqL K H p ys/\∀l,H l=none->Q (.ref l) (upd H l (.tup ys)))\/(SqT K H p ys/\Q (.ref p) H))) bTup:=by
 intro E F H xs c s r;unfold bTup;split
 .obtain ⟨x,rfl,a⟩:=r.one;cases a with
  | lst h q=>exact IK s (λp b=>.tup (SqT.of Ax) (q.same (Du (s.free b) _))) λQ z=>⟨_,_,rfl,.inl ⟨s.seq h,z⟩⟩
 .obtain ⟨x,rfl,a⟩:=r.one;cases a with
  | tup h q=>exact .ret s (.tup h q) λQ z=>⟨_,_,rfl,.inr ⟨Ed s h,z⟩⟩
 .trivial
def ZkZ:CallD K mg (λxs H Q=>∃p ys,xs=[.ref p]/\(SqL K H p ys\/SqT K H p ys)/\∀l,H l=none->Q (.ref l) (upd H l (.lst ys))) bLst:=by
 intro E F H xs c s r;unfold bLst;split
 .obtain ⟨x,rfl,b⟩:=r.one;cases b with
  | lst h q=>exact IK s (λp a=>.lst (SqL.of Ax) (q.same (Du (s.free a) _))) λQ z=>⟨_,_,rfl,.inl (s.seq h),z⟩
 .obtain ⟨x,rfl,b⟩:=r.one;cases b with
  | tup h q=>exact IK s (λp a=>.lst (SqL.of Ax) (q.same (Du (s.free a) _))) λQ z=>⟨_,_,rfl,.inr (Ed s h),z⟩
 .trivial
def spD(K:W.Frag)(mg:Str->Option Value)(n:Nat)(m:List D->Res D):Sp:=λf H Q E=>f.length=n/\∃F b,Same F H/\Rps K mg F f b/\m b≠.bad /\
 (∀d,m b=.ok d->∀e a x,Gr F H e a->Rp K mg e x d->Q x a)/\(∀c,m b=.ex c->∀e a C,Gr F H e a->mg (clsOf c)=some (.ref C)->E (.ref C) (pay c) a)
def Vn{F:Hp}(s:Same F H)(r:Rps K mg F vs ds)(hl:ds.length=n):Ans mg E (Rp K mg) F H (m ds) (λQ=>spD K mg n m vs H Q E):=by
 have b:=r.length.trans hl;cases e:m ds with
 | ok d=>
  intro Q q;refine ⟨b,F,ds,s,r,λz=>?_,λf a=>?_,λc a=>?_⟩
  .rw [e] at z;cases z
  .rw [e] at a;cases a;exact q
  .rw [e] at a;cases a
 | ex c=>
  intro Q q;refine ⟨b,F,ds,s,r,λz=>?_,λf a=>?_,λc a=>?_⟩
  .rw [e] at z;cases z
  .rw [e] at a;cases a
  .rw [e] at a;cases a;exact q
 | bad=>trivial
def ZqB(ha:SA K mg E t ma)(hl:SAn n ma):SE K mg E (Ju (spD K mg n m) [] E t) (on m ma):=by
 intro g c F H Y Z d;refine (ha g c F H Y Z d).bindE λb e j h i a f=>?_;have z:=Vn (E:=E) (m:=m) a.s f (hl Z b e);simp only [Cq];exact z
end
section
variable {ta:TE} {ma:ME} {F:Hp}
def AnsS.mono{w:Ends->Prop}(s:Same F F1)(h:AnsS K mg E F0 H0 F1 r w):AnsS K mg E F0 H0 F r w:=by
 cases r with
 | ok f=>
  cases f with
  | nx Z=>exact λD q=>h D λg i a e b=>q g i a (s.trans e) b
  | bk Z=>exact λD q=>h D λg i a e b=>q g i a (s.trans e) b
  | ct Z=>exact λD q=>h D λg i a e b=>q g i a (s.trans e) b
  | rt d=>exact h
 | ex c=>exact h
 | bad=>trivial
def Ans.stm{α β:Type}{R:Hp->β->α->Prop}{r:Res α}{w:(β->Hp->Prop)->Prop}{k:α->Res Fl}{w':β->Hp->Ends->Prop}(h1:Ans mg E R F H r w)(g0:Gr F0 H0 F H)(h2:∀a,r=.ok a->∀F1 H1 b,Gr F H F1 H1->R F1 b a->AnsS K mg E F0 H0 F1 (k a) (w' b H1)) :
  AnsS K mg E F0 H0 F (r.bind k) (λD=>w λb H1=>w' b H1 D):=by
 cases r with
 | ok a=>
  show AnsS K mg E F0 H0 F (k a) _;have e:=λF1 H1 b (g:Gr F H F1 H1) q=>(h2 a rfl F1 H1 b g q).mono g.f;generalize k a=r2 at e;cases r2 with
  | ok f=>
   cases f with
   | nx Z=>exact λD q=>h1 _ λF1 H1 b g h=>e F1 H1 b g h D q
   | bk Z=>exact λD q=>h1 _ λF1 H1 b g h=>e F1 H1 b g h D q
   | ct Z=>exact λD q=>h1 _ λF1 H1 b g h=>e F1 H1 b g h D q
   | rt d=>exact λD q=>h1 _ λF1 H1 b g h=>e F1 H1 b g h D q
  | ex c=>exact λD q=>h1 _ λF1 H1 b g h=>e F1 H1 b g h D q
  | bad=>trivial
 | ex c=>exact λD q=>h1 _ λF1 H1 C g i=>q F1 H1 C (g0.trans g) i
 | bad=>trivial
def Zuw:SS K mg E RZ nop:=λ_ _ _ _ _ _ r D q=>q _ _ _ (Same.refl _) r
def Zs0{n:MS}(h1:SS K mg E t m)(h2:SS K mg E u n):SS K mg E (tSeq t u) (sq m n):=by
 intro l k F H Y Z o;have h:=h1 l k F H Y Z o;unfold sq;cases e:m Z with
 | ok f=>
  rw [e] at h;cases f with
  | nx Z'=>
   show AnsS K mg E l k F (n Z') _;have a:=λb i g (s:Same F b) j=>(h2 l k b i g Z' j).mono s;generalize n Z'=r2 at a;cases r2 with
   | ok f=>
    cases f with
    | nx Z=>exact λD q=>h _ λb i g s j=>a b i g s j D q
    | bk Z=>exact λD q=>h _ λb i g s j=>a b i g s j D q
    | ct Z=>exact λD q=>h _ λb i g s j=>a b i g s j D q
    | rt d=>exact λD q=>h _ λb i g s j=>a b i g s j D q
   | ex c=>exact λD q=>h _ λb i g s j=>a b i g s j D q
   | bad=>trivial
  | bk Z'=>exact λD q=>h _ q
  | ct Z'=>exact λD q=>h _ q
  | rt d=>exact λD q=>h _ q
 | ex c=>rw [e] at h;exact λD q=>h _ q
 | bad=>trivial
def Zrq(ha:SE K mg E ta ma):SS K mg E (HH ta) (drp ma):=by
 intro h c F H Y Z a;exact (ha h c F H Y Z a).stm a.g λd _ f e x b i=>λD q=>q f e Y (Same.refl _) (a.gr b)
def Zt9(ha:SE K mg E ta ma):SS K mg E (tRet ta) (ret ma):=by
 intro i e F H Y Z a;exact (ha i e F H Y Z a).stm a.g λd _ h f x b c=>λD q=>q h f x (a.g.trans b) c
def ZvR{n:MS}(hc:STt K mg E sc nc)(h1:SS K mg E t m)(h2:SS K mg E u n):SS K mg E (tIfS sc t u) (ifs nc m n):=by
 intro d c F H Y Z a;refine (hc d c F H Y Z a).stm a.g λb _ h f x e i=>?_;cases (i);cases b with
 | true=>
  have z:=h1 d c h f Y Z (a.gr e);simp only [Cw];exact z
 | false=>
  have z:=h2 d c h f Y Z (a.gr e);simp only [Di,Cu];exact z
def Zi2{l:List α}{x:α}(h:i<n):(l.set i x).drop n=l.drop n:=by
 rw [List.drop_set,iP h]
def ZsC(h:i<n):SG K mg n (FQ i) (gN i):=λ_ _ _ _ _ _ _ _ r a _ q=>q _ _ _ (Same.refl _) (r.set i a) (Zi2 h)
def Zq6:SGs K mg n gNil gs0:=by
 intro e d F H Y Z b c r a;unfold gs0;split
 .cases a;exact λQ q=>⟨rfl,q _ _ _ (Same.refl _) r rfl⟩
 .trivial
def ZoJ(h1:SG K mg n t g)(h2:SGs K mg n u gs):SGs K mg n (Tt t u) (gs1 g gs):=by
 intro i f F H Y Z k a r j;cases j with
 | nil=>trivial
 | cons rx j=>
  rename_i x k d a;have h:=h1 i f F H Y Z x d r rx;show AnsG K mg i f F n Y ((g d Z).bind λb=>gs a b) _;cases e:g d Z with
  | ok b=>
   rw [e] at h;show AnsG K mg i f F n Y (gs a b) _;cases e2:gs a b with
   | ok Z''=>
    refine λQ q=>⟨x,k,rfl,h _ λy B A l C w=>?_⟩;have m:=h2 i f y B A b k a C (j.same l);rw [e2] at m;exact m _ λo z v s D p=>q o z v (l.trans s) D (p.trans w)
   | ex c=>trivial
   | bad=>trivial
  | ex c=>trivial
  | bad=>trivial
def gLst(K:W.Frag)(n:Nat)(t:TGs):TG:=λv Y H Q=>∃a b,v=.ref a/\SqL K H a b/\b.length=n/\t b Y H Q
def gSeq(K:W.Frag)(n:Nat)(t:TGs):TG:=λv Y H Q=>gTup K n t v Y H Q\/gLst K n t v Y H Q
def Zvu(h:SGs K mg n t g):SG K mg n (gSeq K k t) (gU k g):=by
 intro i f F H Y Z x d r j;unfold gU items;split
 .next a=>
  show AnsG K mg i f F n Y (if a.length=k then g a Z else .bad) _
  by_cases hl:a.length=k
  .rw [iP hl];cases j with
   | lst ha ra=>
    have b:=h i f F H Y Z _ _ r ra;cases e:g a Z with
    | ok Z'=>
     rw [e] at b;exact λQ q=>.inr ⟨_,_,rfl,r.ss.seq ha,ra.length.trans hl,b Q q⟩
    | ex c=>trivial
    | bad=>trivial
  .rw [iN hl];trivial
 .next a=>
  show AnsG K mg i f F n Y (if a.length=k then g a Z else .bad) _
  by_cases hl:a.length=k
  .rw [iP hl];cases j with
   | tup ha ra=>
    have b:=h i f F H Y Z _ _ r ra;cases e:g a Z with
    | ok Z'=>
     rw [e] at b;exact λQ q=>.inl ⟨_,_,rfl,Ed r.ss ha,ra.length.trans hl,b Q q⟩
    | ex c=>trivial
    | bad=>trivial
  .rw [iN hl];trivial
 .trivial
def ZtU{t:TG}{g:MG}(ha:SE K mg E ta ma)(hg:SG K mg n t g)(hx:∀d Z c,g d Z≠.ex c):SS K mg E (tAsg ta t) (asg g ma):=by
 intro f b F H Y Z a;refine (ha f b F H Y Z a).stm a.g λd _ j p x l i=>?_;have h:=hg f b j p Y Z x d (a.gr l) i;cases e:g d Z with
 | ok Z'=>
  rw [e] at h;exact λD q=>h _ λr m k s o _=>q r m k s o
 | ex c=>exact aB e (hx d Z c)
 | bad=>trivial
def Ve(ha:SE K mg E ta ma):SS K mg E (tAsg ta (FQ i)) (st i ma):=by
 intro j e F H Y Z a;exact (ha j e F H Y Z a).stm a.g λd _ h f x b c=>λD q=>q h f _ (Same.refl _) ((a.gr b).set i c)
def Zta{tb:TE}{mb:ME}(ha:SE K mg E ta ma)(hb:SE K mg E tb mb):SS K mg E (tPar i j (Dt ta (Dt tb tNil))) (par i j ma mb):=by
 intro k h F H Y Z a;refine (ha k h F H Y Z a).stm a.g λd _ o r x b l=>?_;refine (hb k h o r Y Z (a.gr b)).stm (a.g.trans b) λe _ m p y c n=>?_;exact λD q=>⟨x,y,rfl,q m p _ (Same.refl _) ((((a.gr b).gr c).set i (l.same c.f)).set j n)⟩
def Zuq(h:SS K mg E t m):SS K mg E t (frz i m):=by
 intro f b F H Y Z c;unfold frz getO;split
 .next g e=>
  obtain ⟨d,s,a⟩:=c.frz e;exact (h f b d H Y _ a).mono s
 .trivial
def ZsR(ha:SE K mg E ta ma)(hty:∀H a xs,H a=some (.lst xs)->tyV K "list" (.ref a) H):SS K mg E (HH (tBM K "list" JK (tVar i) (Dt ta tNil))) (app i ma):=by
 intro w u F H Y Z l;unfold app getO;split
 .next j e=>
  show AnsS K mg E w u F ((ma Z).bind λd=>if j.length<LIM then .ok (.nx (Z.set i (.ow (j++[d])))) else .bad) _
  obtain ⟨a,xs,v,G,B,r,t⟩:=l.ow i j e;have C:=t.length;have h:=(ha w u F H Y Z l).stm (K:=K) (k:=λd=>if j.length<LIM then .ok (.nx (Z.set i (.ow (j++[d])))) else .bad) (w':=λx m D=>JK (.ref a) [x] m λ_ p=>D.nx Y p) l.g λd _ A L x n y=>?_
  .generalize ((ma Z).bind λd=>if j.length<LIM then Res.ok (Fl.nx (Z.set i (.ow (j++[d])))) else .bad)=res at h
   have b:∀D:Ends,(ta Y H λx m=>JK (.ref a) [x] m λ_ p=>D.nx Y p)->HH (tBM K "list" JK (tVar i) (Dt ta tNil)) D Y H:=λD z=>⟨.ref a,v,hty H a xs r,z⟩;cases res with
   | ok f=>
    cases f with
    | nx Z=>exact λD q=>b D (h D q)
    | bk Z=>exact λD q=>b D (h D q)
    | ct Z=>exact λD q=>b D (h D q)
    | rt d=>exact λD q=>b D (h D q)
   | ex c=>exact λD q=>b D (h D q)
   | bad=>trivial
  .by_cases hlim:j.length<LIM
   .simp only [hlim,Cw];have J:=l.gr n;obtain ⟨I,s⟩:=n.o a _ B r;exact λD q=>⟨a,xs,x,rfl,rfl,s,by rw [C];exact Bp hlim (by decide),q A _ Y (Same.refl _) (J.app e v s G I (t.same n.f) y)⟩
   .simp only [hlim,Cu];trivial
 .trivial
def iSeq(K:W.Frag)(tl:TE):TI:=λY H R=>tl Y H λx b=>∃a,x=.ref a/\(((∃c,SqL K b a c)/\R (Itl K a) b)\/((∃c,SqT K b a c)/\R (Itt K a) b))
def ZtL(h:SqL K F a xs)(r:Rps K mg F xs ds):ItOk K mg F (Itl K a) ds:=by
 intro n o f g i;have b:=(f.trans g).seq h;refine ⟨λd e=>?_,λl=>⟨xs,b,by rw [r.length];exact l⟩⟩;obtain ⟨x,c,m⟩:=r.get e;refine ⟨⟨xs,x,b,c⟩,λy k q=>?_⟩;obtain ⟨rfl,q⟩:=q;have j:=q xs b;rw [c] at j;cases j;exact ⟨n,.refl g,m.same f⟩
def Ztk(h:SqT K F a xs)(r:Rps K mg F xs ds):ItOk K mg F (Itt K a) ds:=by
 intro n o f g i;have b:=Ed (f.trans g) h;refine ⟨λd e=>?_,λl=>⟨xs,b,by rw [r.length];exact l⟩⟩;obtain ⟨x,c,m⟩:=r.get e;refine ⟨⟨xs,x,b,c⟩,λy k q=>?_⟩;obtain ⟨rfl,q⟩:=q;have j:=q xs b;rw [c] at j;cases j;exact ⟨n,.refl g,m.same f⟩
def Wb(lo)(n):ItOk K mg F (Itr lo n) (CZ lo n):=by
 intro g j h c i;unfold CZ;refine ⟨λd e=>?_,λb=>?_⟩
 .rw [DK] at e;have a:i<n:=by
   rcases Nat.lt_or_ge i n with z | z
   .exact z
   .rw [Mu (by rw [U9];exact z)] at e;cases e
  rw [List.getElem?_range a] at e;cases e;refine ⟨a,λy f q=>?_⟩;obtain ⟨rfl,rfl⟩:=q;exact ⟨g,.refl c,.int _⟩
 .rw [Ah,U9] at b;exact b
def ZtS(ha:SE K mg E ta ma):SI K mg E (iSeq K ta) (iv ma):=by
 intro f d F H Y Z e;refine (ha f d F H Y Z e).bind λi g x c a b=>?_;cases c with
 | lst ds=>
  cases b with
  | lst h r=>exact Ans.ret a.s (ZtL h r) λQ q=>⟨_,rfl,.inl ⟨⟨_,a.s.seq h⟩,q⟩⟩
 | tup ds=>
  cases b with
  | tup h r=>exact Ans.ret a.s (Ztk h r) λQ q=>⟨_,rfl,.inr ⟨⟨_,Ed a.s h⟩,q⟩⟩
 | _=>trivial
def ZwF(ha:SA K mg E t m):SI K mg E (Tq t) (r1 m):=by
 intro f c F H Y Z d;refine (ha f c F H Y Z d).bind λl k g i a e=>?_;unfold rng1;split
 .next j=>
  by_cases h:-1000000000<=j/\j<=1000000000
  .rw [iP h];obtain ⟨x,rfl,b⟩:=e.one;cases b;exact Ans.ret a.s (Wb 0 _) λQ q=>⟨j,rfl,by omega,by omega,q⟩
  .rw [iN h];trivial
 .trivial
def Zv7(ha:SA K mg E t m):SI K mg E (S5 t) (r2 m):=by
 intro g f F H Y Z c;refine (ha g f F H Y Z c).bind λl o n k e d=>?_;unfold rng2;split
 .next i j=>
  by_cases h:(-1000000000<=i/\i<=1000000000)/\(-1000000000<=j/\j<=1000000000)
  .rw [iP h];obtain ⟨x,y,rfl,a,b⟩:=d.two;cases a;cases b;exact Ans.ret e.s (Wb i _) λQ q=>⟨i,j,rfl,by omega,q⟩
  .rw [iN h];trivial
 .trivial
def ZuT{wi:TI}{mi:MI}{t:TG}{g:MG}{u:TS}{m:MS}(hi:SI K mg E wi mi)(hg:SG K mg n t g)(hx:∀d Z c,g d Z≠.ex c)(hb:SS K mg E u m):SS K mg E (tFor wi t u) (for_ mi g m):=by
 intro w v F H Y Z rr
 refine (hi w v F H Y Z rr).stm (w':=λJ H1 D=>∃W:Nat->Nat->St->Hp->Prop,(∃m,W 0 m Y H1)/\∀i m Y H,W i m Y H ->
  (J.stop i H/\D.nx Y H)\/(J.go i H/\∃N:St->Hp->Prop,(∀j a,N j a->∃S,S<m/\W (i+1) S j a)/\∀x a,J.yld i H x a->t x Y a λO A=>u { D with nx:=N,ct:=N,bk:=D.nx } O A)) rr.g λo _ P H1 J g1 jo=>?_
 have r1:=rr.gr g1;have r:∀(D:Ends) (b:Res Fl),b≠.bad->(∀l,b=.ok (.nx l)->∀h a j,Same P h->Rep K mg w v h a j l->D.nx j a)->(∀l,b=.ok (.bk l)->∀h a j,Same P h->Rep K mg w v h a j l->D.bk j a) ->
   (∀l,b=.ok (.ct l)->∀h a j,Same P h->Rep K mg w v h a j l->D.ct j a)->(∀d,b=.ok (.rt d)->∀h a x,Gr w v h a->Rp K mg h x d->D.rt x a) ->
   (∀c,b=.ex c->∀h a C,Gr w v h a->mg (clsOf c)=some (.ref C)->E (.ref C) (pay c) a)->CP g m o Z=b ->
   ∃W:Nat->Nat->St->Hp->Prop,(∃m,W 0 m Y H1)/\∀i m Y H,W i m Y H ->
    (J.stop i H/\D.nx Y H)\/(J.go i H/\∃N:St->Hp->Prop,(∀j a,N j a->∃S,S<m/\W (i+1) S j a)/\∀x a,J.yld i H x a->t x Y a λO A=>u { D with nx:=N,ct:=N,bk:=D.nx } O A):=by
  intro D b G qn qb qc qr qe e0;refine ⟨λi k j a=>k=o.length - i/\i<=o.length/\∃l h,Same P h/\Rep K mg w v h a j l/\CP g m (o.drop i) l=b,⟨o.length,by simp,DX _,Z,P,Same.refl _,r1,e0⟩,?_⟩;rintro i k j a ⟨rfl,hi',l,h,U,X,e⟩;by_cases hlt:i<o.length
  .refine .inr ?_;have hd:=Bg hlt;obtain ⟨go,yl⟩:=(jo h a U X.ss i).1 _ hd;rw [NQ hlt] at e;refine ⟨go,λO A=>∃p M,Same P M/\Rep K mg w v M A O p/\CP g m (o.drop (i+1)) p=b,λO A zq=>by obtain ⟨p,M,s2,r2,s⟩:=zq;exact ⟨o.length - (i+1),by omega,rfl,hlt,p,M,s2,r2,s⟩,λx A y=>?_⟩;obtain ⟨M,g2,rx⟩:=yl x A y;have r2:=X.gr g2;have hG:=hg w v M A j l x _ r2 rx;have V:(g o[i] l).bind (λQ=>(m Q).bind (turn (CP g m (o.drop (i+1)))))=b:=e;cases eg:g o[i] l with
   | ok Q=>
    rw [eg] at V hG;refine hG _ λF3 H3 Y3 s3 r3 _=>?_;have L:=hb w v F3 H3 Y3 Q r3;have sF:=U.trans (g2.f.trans s3);have s:(m Q).bind (turn (CP g m (o.drop (i+1))))=b:=V;cases em:m Q with
    | ok f=>
     rw [em] at s L;cases f with
     | nx p=>exact L _ λB I Y4 R T=>⟨p,B,sF.trans R,T,s⟩
     | ct p=>exact L _ λB I Y4 R T=>⟨p,B,sF.trans R,T,s⟩
     | bk p=>exact L _ λB I Y4 R T=>qn p s.symm B I Y4 (sF.trans R) T
     | rt d=>exact L _ λB I y g4 ry=>qr d s.symm B I y g4 ry
    | ex c=>
     rw [em] at s L;exact L _ λB I C g4 hc=>qe c s.symm B I C g4 hc
    | bad=>rw [em] at s;exact aB s.symm G
   | ex c=>exact aB eg (hx _ _ c)
   | bad=>rw [eg] at V;exact aB V.symm G
  .have hi2:i=o.length:=by omega
   subst hi2;rw [Om (Ao _)] at e;exact .inl ⟨(jo h a U X.ss _).2 (Ao _),qn l e.symm h a j U X⟩
 cases e:CP g m o Z with
 | ok f=>
  cases f with
  | nx p=>exact λD q=>r D _ (λz=>by cases z) (λ_ z=>by cases z;exact q) (λ_ z=>by cases z) (λ_ z=>by cases z) (λ_ z=>by cases z) (λ_ z=>by cases z) e
  | bk p=>exact λD q=>r D _ (λz=>by cases z) (λ_ z=>by cases z) (λ_ z=>by cases z;exact q) (λ_ z=>by cases z) (λ_ z=>by cases z) (λ_ z=>by cases z) e
  | ct p=>exact λD q=>r D _ (λz=>by cases z) (λ_ z=>by cases z) (λ_ z=>by cases z) (λ_ z=>by cases z;exact q) (λ_ z=>by cases z) (λ_ z=>by cases z) e
  | rt d=>exact λD q=>r D _ (λz=>by cases z) (λ_ z=>by cases z) (λ_ z=>by cases z) (λ_ z=>by cases z) (λ_ z=>by cases z;exact q) (λ_ z=>by cases z) e
 | ex c=>exact λD q=>r D _ (λz=>by cases z) (λ_ z=>by cases z) (λ_ z=>by cases z) (λ_ z=>by cases z) (λ_ z=>by cases z) (λ_ z=>by cases z;exact q) e
 | bad=>trivial
def Zoq{n:Ev->Nat}(hc:STt K mg E sc nc)(hb:SS K mg E u m):SS K mg E (Py sc u) (whl n nc m):=by
 intro A w F H Y Z rr;have p:∀D a,a≠.bad->(∀i,a=.ok (.nx i)->∀l j o,Same F l->Rep K mg A w l j o i->D.nx o j)->(∀i,a=.ok (.bk i)->∀l j o,Same F l->Rep K mg A w l j o i->D.bk o j) ->
   (∀i,a=.ok (.ct i)->∀l j o,Same F l->Rep K mg A w l j o i->D.ct o j)->(∀d,a=.ok (.rt d)->∀l j x,Gr A w l j->Rp K mg l x d->D.rt x j) ->
   (∀c,a=.ex c->∀l j C,Gr A w l j->mg (clsOf c)=some (.ref C)->E (.ref C) (pay c) j)->whGo nc m (n Z) Z=a->Py sc u D Y H:=by
  intro D a s R qb qc qr X e0;refine ⟨λk o j=>∃i l,Same F l/\Rep K mg A w l j o i/\whGo nc m k i=a,⟨n Z,Z,F,Same.refl _,rr,e0⟩,?_⟩;rintro k o j ⟨i,l,S,O,e⟩;cases k with
  | zero=>exact aB e.symm s
  | succ k=>
   have B:(nc i).bind (λx=>if x=true then (m i).bind (turn (whGo nc m k)) else .ok (.nx i))=a:=e
   have M:=hc A w l j o i O;cases ec:nc i with
   | ok b=>
    rw [ec] at B M;refine M _ λT U b' Q eb=>?_;cases (eb);have W:=O.gr Q;cases b with
    | true=>
     have G:=hb A w T U o i W;have t:=B;refine ⟨λY3 H3=>∃Z3 V,Same F V/\Rep K mg A w V H3 Y3 Z3/\whGo nc m k Z3=a,λY3 H3 h=>⟨k,Oe _,h⟩,?_⟩;have P:=S.trans Q.f;cases em:m i with
     | ok f=>
      rw [em] at t G;cases f with
      | nx Z2=>exact G _ λr v N I L=>⟨Z2,r,P.trans I,L,t⟩
      | ct Z2=>exact G _ λr v N I L=>⟨Z2,r,P.trans I,L,t⟩
      | bk Z2=>exact G _ λr v N I L=>R Z2 t.symm r v N (P.trans I) L
      | rt d=>exact G _ λr v y J ry=>qr d t.symm r v y J ry
     | ex c=>
      rw [em] at t G;exact G _ λr v C J hc=>X c t.symm r v C J hc
     | bad=>rw [em] at t;exact aB t.symm s
    | false=>
     have t:=B;exact R i t.symm T U o (S.trans Q.f) W
   | ex c=>
    rw [ec] at B M;exact M _ λr v C J hc=>X c B.symm r v C (O.g.trans J) hc
   | bad=>rw [ec] at B;exact aB B.symm s
 unfold whl;cases e:whGo nc m (n Z) Z with
 | ok f=>
  cases f with
  | nx Z2=>exact λD q=>p D _ (λz=>by cases z) (λ_ z=>by cases z;exact q) (λ_ z=>by cases z) (λ_ z=>by cases z) (λ_ z=>by cases z) (λ_ z=>by cases z) e
  | bk Z2=>exact λD q=>p D _ (λz=>by cases z) (λ_ z=>by cases z) (λ_ z=>by cases z;exact q) (λ_ z=>by cases z) (λ_ z=>by cases z) (λ_ z=>by cases z) e
  | ct Z2=>exact λD q=>p D _ (λz=>by cases z) (λ_ z=>by cases z) (λ_ z=>by cases z) (λ_ z=>by cases z;exact q) (λ_ z=>by cases z) (λ_ z=>by cases z) e
  | rt d=>exact λD q=>p D _ (λz=>by cases z) (λ_ z=>by cases z) (λ_ z=>by cases z) (λ_ z=>by cases z) (λ_ z=>by cases z;exact q) (λ_ z=>by cases z) e
 | ex c=>exact λD q=>p D _ (λz=>by cases z) (λ_ z=>by cases z) (λ_ z=>by cases z) (λ_ z=>by cases z) (λ_ z=>by cases z) (λ_ z=>by cases z;exact q) e
 | bad=>trivial
end
section
variable {F:Hp}
def Rep.inner{own:List Str}{cap:List (Str×Nat)}(r:Rep K mg F0 H0 F H Y Z)(gb:Gr Fb Hb F H):Rep K mg Fb Hb F H (st0 own Y cap) (noA own.length (Bu Z (cap.map (·.2)))):=by
 have b:∀i c,(noA own.length (Bu Z (cap.map (·.2))))[i]?=some c->c=.no\/∃j p d,i=own.length+j/\cap[j]?=some p/\Z[p.2]?=some (.im d)/\c=.im d:=by
  intro i c e;rw [Pj,UL] at e;by_cases hi:i<own.length
  .rw [Dn (by simpa using hi),Lz,iP hi] at e;cases e;exact .inl rfl
  .rw [Ff (by simpa using hi),RM] at e;rw [Ck,DK] at e;cases q:cap[i - own.length]? with
   | none=>rw [q] at e;cases e
   | some p=>
    rw [q] at e;have f:imOf Z[p.2]?=c:=Be e;unfold imOf at f;split at f
    .next d h=>exact .inr ⟨i - own.length,p,d,by omega,q,h,f.symm⟩
    .exact .inl f.symm
 refine ⟨gb,?_,λi d e=>?_,λi g e=>?_,λi j g m a e=>?_⟩
 .rw [Pj,UL];unfold st0 capt;simp
 .rcases b i _ e with z | ⟨j,p,d',rfl,hp,hρ,z⟩
  .cases z
  .cases z;obtain ⟨x,l,k⟩:=r.im p.2 d hρ;refine ⟨x,?_,k⟩;unfold st0 capt;rw [Ff (by simp),RM,Nat.add_sub_cancel_left,DK,hp];show some ((Y[p.2]?).join)=_;rw [l];rfl
 .rcases b i _ e with z | ⟨j,p,d',rfl,hp,hρ,z⟩<;>cases z
 .rcases b i _ e with z | ⟨j,p,d',rfl,hp,hρ,z⟩<;>cases z
def WX:(st0 own Y cap).drop own.length=capt Y cap:=by
 unfold st0;rw [List.drop_append_of_le_length (by simp),List.drop_of_length_le (by simp)];rfl
def ZlS{own:List Str}{cap:List (Str×Nat)}(r:Rep K mg F0 H0 F H Y Z)(jo:ItOk K mg F J ds)(hg:SG K mg own.length t g)(ht:STt K mg E tt nt)(he:SE K mg E te me)(hl:ds.length<=LIM)(e0:Dl.BR g nt me (noA own.length (Bu Z (cap.map (·.2)))) ds=.ok ys)(Q)(q:∀F' H' xs,Gr F H F' H'->Rps K mg F' xs ys->xs.length<=sizeLine->∀p,H' p=none->Q (.ref p) (upd H' p (.lst xs))) :
  K7 J t tt te own cap Y Q H:=by
 refine ⟨λi k a H'=>k=ds.length - i/\i<=ds.length/\a.length<=i/\∃F' o n,Gr F H F' H'/\Rps K mg F' a o/\Dl.BR g nt me (noA own.length (Bu Z (cap.map (·.2)))) (ds.drop i)=.ok n/\o++n=ys,
  ⟨ds.length,by simp,DX _,Ao _,F,[],ys,.refl r.ss,.nil,e0,rfl⟩,?_⟩
 rintro i k a H' ⟨rfl,hi,W,F',o,n,j,D,z,A⟩;have C:=Ar W (Ar hi hl);refine ⟨Kw C,?_⟩;by_cases hlt:i<ds.length
 .refine .inr ?_;have X:=Bg hlt;obtain ⟨go,yl⟩:=(jo F' H' j.f j.s i).1 _ X;rw [NQ hlt] at z;refine ⟨go,λx M y=>?_⟩;obtain ⟨F2,G,rx⟩:=yl x M y;have rr:=(r.gr (j.trans G)).inner (own:=own) (cap:=cap) (j.trans G);have P:=hg F H F2 M _ _ x _ rr rx;have l:(g ds[i] (noA own.length (Bu Z (cap.map (·.2))))).bind (λd=>(nt d).bind λb=>if b=true then (me d).bind λy=>(Dl.BR g nt me (noA own.length (Bu Z (cap.map (·.2)))) (ds.drop (i+1))).bind λys=>.ok (y::ys) else Dl.BR g nt me (noA own.length (Bu Z (cap.map (·.2)))) (ds.drop (i+1)))=.ok n:=z
  cases eg:g ds[i] (noA own.length (Bu Z (cap.map (·.2)))) with
  | ok d=>
   rw [eg] at l P;refine P _ λF3 H3 S s3 w d3=>⟨d3.trans WX,?_⟩;have N:=ht F H F3 H3 S d w;have O:=G.f.trans s3;have h:(nt d).bind (λb=>if b=true then (me d).bind λy=>(Dl.BR g nt me (noA own.length (Bu Z (cap.map (·.2)))) (ds.drop (i+1))).bind λys=>.ok (y::ys) else Dl.BR g nt me (noA own.length (Bu Z (cap.map (·.2)))) (ds.drop (i+1)))=.ok n:=l
   cases et:nt d with
   | ok b=>
    rw [et] at h N;refine N _ λR V b' v T=>?_;cases (T);cases b with
    | true=>
     have e:=h;have I:=he F H R V S d (w.gr v);cases em:me d with
     | ok y'=>
      rw [em] at e I;refine I _ λU H5 u L ru=>⟨Lx C (by decide),ds.length - (i+1),by omega,rfl,hlt,by rw [Bm];show a.length+1<=i+1;omega,?_⟩;have m:=e;cases ec:Dl.BR g nt me (noA own.length (Bu Z (cap.map (·.2)))) (ds.drop (i+1)) with
      | ok rs'=>
       rw [ec] at m;have e6:=m;cases e6;exact ⟨U,o++[y'],rs',w.g.trans (v.trans L),Rps.app (.cons ru .nil) (D.same (O.trans (v.f.trans L.f))),rfl,by rw [Ia];exact A⟩
      | ex c=>rw [ec] at m;cases m
      | bad=>rw [ec] at m;cases m
     | ex c=>rw [em] at e;cases e
     | bad=>rw [em] at e;cases e
    | false=>
     have e:=h;exact ⟨ds.length - (i+1),by omega,rfl,hlt,by omega,R,o,n,w.g.trans v,D.same (O.trans v.f),e,A⟩
   | ex c=>rw [et] at h;cases h
   | bad=>rw [et] at h;cases h
  | ex c=>rw [eg] at l;cases l
  | bad=>rw [eg] at l;cases l
 .have B:i=ds.length:=by omega
  subst B;rw [Om (Ao _)] at z;cases z;rw [Cq] at A;subst A;exact .inl ⟨(jo F' H' j.f j.s _).2 (Ao _),q F' H' a j D (Kw C)⟩
def Zne{te:Fam TE}(hi:SI K mg E wi mi)(hg:∀C s H fp pn,SG K mg own.length (t C s H fp pn) g)(ht:∀C s H fp pn,STt K mg E0 (tt C s H fp pn) nt)(he:∀C s H fp pn,SE K mg E0 (te C s H fp pn) me) :
  SE K mg E (HF wi t tt te own cap) (comp mi own.length (cap.map (·.2)) g nt me):=by
 intro m l F H Y Z h;refine (hi m l F H Y Z h).bind λn u J f j k=>?_;by_cases hl:f.length<=LIM
 .rw [iP hl];cases e:Dl.BR g nt me (noA own.length (Bu Z (cap.map (·.2)))) f with
  | ok ys=>exact λQ q C s a fp pn=>ZlS (h.gr j) k (hg C s a fp pn) (ht C s a fp pn) (he C s a fp pn) hl e Q λv r o b i _ p d=>q _ _ _ (b.trans (.new b.s d _)) (.lst (SqL.of Ax) (i.same (Du (b.s.free d) _)))
  | ex c=>trivial
  | bad=>trivial
 .rw [iN hl];trivial
end
structure DE(X:Cx)(E:XK)(e:Expr)(t:TE)(m:ME):Prop where
 p:PE X e t
 s:SE X.K X.mg E t m
structure DT(X:Cx)(E:XK)(e:Expr)(t:TT)(m:MB):Prop where
 p:PT X e t
 s:STt X.K X.mg E t m
structure DW(X:Cx)(E:XK)(e:Expr)(t:TT)(m:MB):Prop where
 p:PW X e t
 s:STt X.K X.mg E t m
structure DA(X:Cx)(E:XK)(n:Nat)(es:List Expr)(t:TA)(m:MA):Prop where
 p:PA X es t
 s:SA X.K X.mg E t m
 n:SAn n m
structure DO(X:Cx)(E:XK)(e:Option Expr)(t:TO)(m:Ev->Res (Option Int)):Prop where
 p:PO X e t
 s:SO X.K X.mg E t m
structure DS(X:Cx)(E:XK)(st:Stmt)(t:TS)(m:MS):Prop where
 p:PS X st t
 s:SS X.K X.mg E t m
structure DSs(X:Cx)(E:XK)(st:List Stmt)(t:TS)(m:MS):Prop where
 p:PSs X st t
 s:SS X.K X.mg E t m
structure DG(X:Cx)(n:Nat)(e:Expr)(t:TG)(g:MG):Prop where
 p:PG X e t
 s:SG X.K X.mg n t g
 x:∀d Z c,g d Z≠.ex c
structure DGs(X:Cx)(n:Nat)(es:List Expr)(t:TGs)(g:MGs):Prop where
 p:PGs X es t
 s:SGs X.K X.mg n t g
 x:∀d Z c,g d Z≠.ex c
structure DI(X:Cx)(E:XK)(tg e:Expr)(t:TI)(m:MI):Prop where
 p:PI X tg e t
 s:SI X.K X.mg E t m
section
variable {a b c':Expr} {ta tb tc:TE} {ma mb mc:ME} {sa sb:TT} {na nb:MB} {t:TA} {m:MA}
def d_v(i)(hN:X.N[i]?=some x:=by rfl)(hv:Eg X.env.scope x:=by first | exact Or.inl rfl | exact Or.inr (Or.inl rfl) | exact Or.inr (Or.inr rfl))(hd:ND x:=by decide)(hcd:NE x:=by decide):DE X E (.Name x pos) (tVar i) (v i):=⟨GF hN hv hd hcd,se_v i⟩
def Br{i j}:DE X E (.Constant (.int i) j pos) (tC (.int i)) (c (.int i)):=⟨Y5,se_c λ_=>.int _⟩
def LQ{i j}:DE X E (.Constant (.bool i) j pos) (tC (.bl i)) (c (.bl i)):=⟨ZwI,se_c λ_=>.bl _⟩
def Lp{j}:DE X E (.Constant .none j pos) (tC .non) (c .non):=⟨QV,se_c λ_=>.non⟩
def BZ{i j}:DE X E (.Constant (.str i) j pos) (tC (.str i)) (c (.str i)):=⟨QQ,se_c λ_=>.str _⟩
def M8{k:String}(hg:Gl X x)(hm:X.mg x=none)(hv:bootBuiltins x=some (.type k))(hn:x ≠ "__name__":=by decide)(hd:ND x:=by decide):DE X E (.Name x pos) (tC (.ty k)) (c (.ty k)) :=
 ⟨Ztv hg hm hv hn hd,se_c λ_=>.ty _⟩
def Ls{i:Int}(hg:Gl X x)(hm:X.mg x=some (.int i tk))(hd:ND x:=by decide):DE X E (.Name x pos) (tC (.int i)) (c (.int i)):=⟨Kp hg hm ⟨_,rfl⟩ hd,se_c λ_=>.int _⟩
def JH(ho:OpR X (binaryOp op) r)(hf:OpD X.K X.mg r f)(ha:DE X E a ta ma)(hb:DE X E b tb mb):DE X E (.BinOp a op b pos) (tOp r ta tb) (o2 f ma mb):=⟨ZvP ho ha.p hb.p,Nv hf ha.s hb.s⟩
def Lf(ho:OpR X (compareOp op) r)(hf:OpD X.K X.mg r f)(ha:DE X E a ta ma)(hb:DE X E b tb mb)(hm:behindInMarks op b=false):DE X E (.Compare a [op] [b] pos) (tOp r ta tb) (o2 f ma mb):=⟨TF ho ha.p hb.p hm,Nv hf ha.s hb.s⟩
def HN(ho:OpR X (compareOp op) r)(hf:OpD X.K X.mg r f)(ha:DE X E a ta ma)(hb:DE X E b tb mb)(hm:behindInMarks op b=false):DT X E (.Compare a [op] [b] pos) (Ec (tOp r ta tb)) (trb (o2 f ma mb)):=⟨Zmc ho ha.p hb.p hm,RV (Nv hf ha.s hb.s)⟩
def OpR.or(h:OpR X f r)(h':OpR X f r'):OpR X f (λx y H Q=>r x y H Q\/r' x y H Q):=by
 intro a s Y H x y v u Q I b c q;rcases q with q | q
 .exact h a s Y H x y v u Q I b c q
 .exact h' a s Y H x y v u Q I b c q
def Zq9:OpR X (binaryOp .Add) (W2 X.K):=by
 intro a s Y H x y v u Q I c d h;obtain ⟨l,b,j,i,rfl,rfl,f,g,e,q⟩:=h;cases c;cases d;exact Zod I f g e q
def ZsO:OpR X (binaryOp .Add) (Ze X.K):=by
 intro c s Y H x y v u Q I d e h;obtain ⟨a,b,m,n,rfl,rfl,i,f,g,k,j,l⟩:=h;cases d;cases e;exact ZoH I i f g k j l
def Zr2:OpR X (binaryOp .Add) (Ss X.K):=OpR.or ZsW (OpR.or Zq9 (OpR.or ZsO Zkn))
def Ii(ha:DE X E a ta ma)(hb:DE X E b tb mb):DE X E (.BinOp a .Add b pos) (tOp (Ss X.K) ta tb) (o2 BX ma mb):=JH Zr2 ZsI ha hb
def Zwz(ha:DE X E a ta ma)(hb:DE X E b tb mb):DE X E (.BinOp a .Sub b pos) (tOp (rI0 λi j=>V.int (i - j)) ta tb) (o2 dSub ma mb):=JH ZsY ZrB ha hb
def Zu3{a b:Int}(h:Gw a b=true):IntMulOk a b:=by
 have h':(a.natAbs<2^64\/b.natAbs<2^64)\/a.natAbs.log2+b.natAbs.log2<100000000:=by simpa [Gw] using h
 rcases h' with (h' | h') | h'
 .exact .of_left (intBits_le_iff.mpr h')
 .exact .of_right (intBits_le_iff.mpr h')
 .have c:a.natAbs<2^(a.natAbs.log2+1):=Nat.lt_log2_self;have d:b.natAbs<2^(b.natAbs.log2+1):=Nat.lt_log2_self;exact IntMulOk.of_le (intBits_le_iff.mpr c) (intBits_le_iff.mpr d) (by omega)
def Zry:OpD K mg (rI IntMulOk λi j=>.int (i*j)) Ft:=J4 λa b=>by
 unfold iMul;by_cases h:Gw a b=true
 .rw [iP h];exact .inl ⟨_,rfl,Zu3 h,λ_=>.int _⟩
 .rw [iN h];exact .inr rfl
def Zwu(ha:DE X E a ta ma)(hb:DE X E b tb mb):DE X E (.BinOp a .Mult b pos) (tOp (rI IntMulOk λi j=>V.int (i*j)) ta tb) (o2 Ft ma mb):=JH ZrY Zry ha hb
def Zm(ha:DE X E a ta ma)(hb:DE X E b tb mb):DE X E (.BinOp a .Mod b pos) (tOp (rI (λ_ j=>j≠0) λi j=>V.int (i.fmod j)) ta tb) (o2 Cz ma mb):=JH ZrC ZqV ha hb
def ZwA(ha:DE X E a ta ma)(hb:DE X E b tb mb):DE X E (.BinOp a .FloorDiv b pos) (tOp (rI Uk λi j=>V.int (i.fdiv j)) ta tb) (o2 IW ma mb):=JH ZnX ZrI ha hb
def ZwS(ha:DE X E a ta ma)(hb:DE X E b tb mb):DE X E (.BinOp a .Pow b pos) (tOp (rI CPow λi j=>V.int (i^j.toNat)) ta tb) (o2 dPow ma mb):=JH ZtV ZqZ ha hb
def ZwC(ha:DE X E a ta ma)(hb:DE X E b tb mb):DE X E (.BinOp a .LShift b pos) (tOp (rI CPow λi j=>V.int (i*2^j.toNat)) ta tb) (o2 dShl ma mb):=JH Zs6 Zsm ha hb
def ZwM(ha:DE X E a ta ma)(hb:DE X E b tb mb):DE X E (.BinOp a .RShift b pos) (tOp (rI (λ_ j=>0<=j) λi j=>V.int (i/2^j.toNat)) ta tb) (o2 dShr ma mb):=JH ZtA Zqv ha hb
def Zwk(ha:DE X E a ta ma):DE X E (.UnaryOp .USub a pos) (tUn (rU λi=>V.int (-i)) ta) (o1 dNeg ma):=⟨Xa WD ha.p,Zh (Zq8 λ_ _ _ q=>⟨_,rfl,q⟩) ha.s⟩
def ya9(ha:DE X E a ta ma)(hb:DE X E b tb mb):DE X E (.Compare a [.LtE] [b] pos) (tOp (rI0 λi j=>V.bl (decide (i<=j))) ta tb) (o2 dLe ma mb):=Lf FW Ex ha hb (Fe _)
def yba(ha:DE X E a ta ma)(hb:DE X E b tb mb):DE X E (.Compare a [.Gt] [b] pos) (tOp (rI0 λi j=>V.bl (decide (j<i))) ta tb) (o2 dGt ma mb):=Lf XC Wf ha hb (Fe _)
def ybb(ha:DE X E a ta ma)(hb:DE X E b tb mb):DE X E (.Compare a [.GtE] [b] pos) (tOp (rI0 λi j=>V.bl (decide (j<=i))) ta tb) (o2 dGe ma mb):=Lf Xo Xg ha hb (Fe _)
def ZvN(ha:DE X E a ta ma)(hb:DE X E b tb mb):DT X E (.Compare a [.Lt] [b] pos) (Ec (tOp (rI0 λi j=>V.bl (decide (i<j))) ta tb)) (trb (o2 dLt ma mb)):=HN ZwO Zt0 ha hb (Fe _)
def Zwo(ha:DE X E a ta ma)(hb:DE X E b tb mb):DT X E (.Compare a [.LtE] [b] pos) (Ec (tOp (rI0 λi j=>V.bl (decide (i<=j))) ta tb)) (trb (o2 dLe ma mb)):=HN FW Ex ha hb (Fe _)
def O5(ha:DE X E a ta ma)(hb:DE X E b tb mb):DT X E (.Compare a [.Gt] [b] pos) (Ec (tOp (rI0 λi j=>V.bl (decide (j<i))) ta tb)) (trb (o2 dGt ma mb)):=HN XC Wf ha hb (Fe _)
def Zv1(ha:DE X E a ta ma)(hb:DE X E b tb mb):DT X E (.Compare a [.GtE] [b] pos) (Ec (tOp (rI0 λi j=>V.bl (decide (j<=i))) ta tb)) (trb (o2 dGe ma mb)):=HN Xo Xg ha hb (Fe _)
mutual
def pyD:D->PyData
 | .non=>.none
 | .bl b=>.bool b
 | .int i=>.int i
 | .str x=>.str x
 | .tup xs=>.tuple (pyDs xs)
 | .lst xs=>.list (pyDs xs)
 | _=>.none
def pyDs:List D->List PyData
 | []=>[]
 | x::r=>pyD x::pyDs r
end
mutual
def Qm:∀x y,∀k l,Dl.plain k x=true->Dl.plain l y=true->eqD x y=PyData.eqv (pyD x) (pyD y)
 | .non,y,_,_,_,hy=>by cases y<;>first | rfl | (simp [Dl.plain] at hy)
 | .bl _,y,_,_,_,hy=>by cases y<;>first | rfl | (simp [Dl.plain] at hy)
 | .int _,y,_,_,_,hy=>by cases y<;>first | rfl | (simp [Dl.plain] at hy)
 | .str _,y,_,_,_,hy=>by cases y<;>first | rfl | (simp [Dl.plain] at hy)
 | .tup xs,y,k,l,hx,hy=>by
  cases y<;>first | rfl | (simp [Dl.plain] at hy;done) | skip
  rename_i ys;cases k with
  | zero=>simp [Dl.plain] at hx
  | succ k=>
   cases l with
   | zero=>simp [Dl.plain] at hy
   | succ l=>exact Td xs ys k l (by simpa [Dl.plain] using hx) (by simpa [Dl.plain] using hy)
 | .lst xs,y,k,l,hx,hy=>by
  cases y<;>first | rfl | (simp [Dl.plain] at hy;done) | skip
  rename_i ys;cases k with
  | zero=>simp [Dl.plain] at hx
  | succ k=>
   cases l with
   | zero=>simp [Dl.plain] at hy
   | succ l=>exact Td xs ys k l (by simpa [Dl.plain] using hx) (by simpa [Dl.plain] using hy)
 | .ty _,_,k,_,hx,_=>by cases k<;>simp [Dl.plain] at hx
 | .cls _,_,k,_,hx,_=>by cases k<;>simp [Dl.plain] at hx
 | .exc _,_,k,_,hx,_=>by cases k<;>simp [Dl.plain] at hx
 | .ins _ _ _,_,k,_,hx,_=>by cases k<;>simp [Dl.plain] at hx
def Td:∀xs ys,∀k l,Dl.Bv k xs=true->Dl.Bv l ys=true->eqDs xs ys=PyData.eqvAll (pyDs xs) (pyDs ys)
 | [],[],_,_,_,_=>rfl
 | [],_::_,_,_,_,_=>rfl
 | _::_,[],_,_,_,_=>rfl
 | x::xs,y::ys,k,l,hx,hy=>by
  have b:Dl.plain k x=true/\Dl.Bv k xs=true:=by simpa [Dl.Bv] using hx
  have a:Dl.plain l y=true/\Dl.Bv l ys=true:=by simpa [Dl.Bv] using hy
  show (eqD x y&&eqDs xs ys)=(PyData.eqv (pyD x) (pyD y)&&PyData.eqvAll (pyDs xs) (pyDs ys));rw [Qm x y k l b.1 a.1,Td xs ys k l b.2 a.2]
end
mutual
def LC:∀x k,Dl.plain k x=true->(pyD x).canLay0=true/\(pyD x).depth<=k
 | .non,_,_=>⟨rfl,DX _⟩
 | .bl _,_,_=>⟨rfl,DX _⟩
 | .int _,_,_=>⟨rfl,DX _⟩
 | .str x,_,h=>⟨by simpa [Dl.plain,pyD,PyData.canLay0,PyData.strOk] using h,DX _⟩
 | .tup xs,0,h=>by simp [Dl.plain] at h
 | .lst xs,0,h=>by simp [Dl.plain] at h
 | .tup xs,k+1,h=>by
  obtain ⟨b,a⟩:=Ph xs k (by simpa [Dl.plain] using h);exact ⟨b,JM a⟩
 | .lst xs,k+1,h=>by
  obtain ⟨b,a⟩:=Ph xs k (by simpa [Dl.plain] using h);exact ⟨b,JM a⟩
 | .ty _,k,h=>by cases k<;>simp [Dl.plain] at h
 | .cls _,k,h=>by cases k<;>simp [Dl.plain] at h
 | .exc _,k,h=>by cases k<;>simp [Dl.plain] at h
 | .ins _ _ _,k,h=>by cases k<;>simp [Dl.plain] at h
def Ph:∀xs k,Dl.Bv k xs=true->PyData.canLayAll0 (pyDs xs)=true/\PyData.depthAll (pyDs xs)<=k
 | [],_,_=>⟨rfl,DX _⟩
 | x::xs,k,h=>by
  have a:Dl.plain k x=true/\Dl.Bv k xs=true:=by simpa [Dl.Bv] using h
  obtain ⟨b,e⟩:=LC x k a.1;obtain ⟨d,c⟩:=Ph xs k a.2;refine ⟨?_,Nat.max_le.mpr ⟨e,c⟩⟩;show (PyData.canLay0 (pyD x)&&PyData.canLayAll0 (pyDs xs))=true;rw [b,d];rfl
end
mutual
def LK{K:W.Frag}{mg:Str->Option Value}{F:Hp}{x:V}{d:D}{k:Nat}(h:Rp K mg F x d)(p:Dl.plain k d=true):DV K F x (pyD d):=by
 cases h with
 | non=>exact .non
 | bl b=>exact .bl b
 | int b=>exact .int b
 | str b=>exact .str b
 | tup h r=>
  cases k with
  | zero=>simp [Dl.plain] at p
  | succ k=>exact .tup h (Qf r (by simpa [Dl.plain] using p))
 | lst h r=>
  cases k with
  | zero=>simp [Dl.plain] at p
  | succ k=>exact .lst h (Qf r (by simpa [Dl.plain] using p))
 | ty _=>cases k<;>simp [Dl.plain] at p
 | cls _=>cases k<;>simp [Dl.plain] at p
 | exc _ _=>cases k<;>simp [Dl.plain] at p
 | ins _ _ _ _ _=>cases k<;>simp [Dl.plain] at p
def Qf{K:W.Frag}{mg:Str->Option Value}{F:Hp}{xs:List V}{ds:List D}{k:Nat}(h:Rps K mg F xs ds)(p:Dl.Bv k ds=true):DVs K F xs (pyDs ds):=by
 cases h with
 | nil=>exact .nil
 | cons h r=>
  have a:=(by simpa [Dl.Bv] using p);exact .cons (LK h a.1) (Qf r a.2)
end
mutual
def KH{K:W.Frag}{F H:Hp}(s:Same F H){x:V}{d:PyData}(h:DV K F x d):DV K H x d:=by
 cases h with
 | non=>exact .non
 | bl b=>exact .bl b
 | int b=>exact .int b
 | str b=>exact .str b
 | tup h r=>exact .tup (Ed s h) (Rk s r)
 | lst h r=>exact .lst (s.seq h) (Rk s r)
def Rk{K:W.Frag}{F H:Hp}(s:Same F H){xs:List V}{ds:List PyData}(h:DVs K F xs ds):DVs K H xs ds:=by
 cases h with
 | nil=>exact .nil
 | cons h r=>exact .cons (KH s h) (Rk s r)
end
def Zps:OpD K mg (rEqD K id) dEq:=by
 intro E F H x y c b s f g;unfold dEq;by_cases h:(Dl.plain 50 c&&Dl.plain 50 b)=true
 .rw [iP h];have a:Dl.plain 50 c=true/\Dl.plain 50 b=true:=by simpa using h
  obtain ⟨d,i⟩:=LC c 50 a.1;obtain ⟨e,j⟩:=LC b 50 a.2;exact .ret s (.bl _) λQ q=>⟨_,_,KH s (LK f a.1),KH s (LK g a.2),d,e,Ar i (by decide),by rw [<-Qm c b 50 50 a.1 a.2];exact q⟩
 .rw [iN h];trivial
def Zva:OpD K mg (rEqD K not) dNe:=by
 intro E F H x y c b s f g;unfold dNe;by_cases h:(Dl.plain 50 c&&Dl.plain 50 b)=true
 .rw [iP h];have a:Dl.plain 50 c=true/\Dl.plain 50 b=true:=by simpa using h
  obtain ⟨d,i⟩:=LC c 50 a.1;obtain ⟨e,j⟩:=LC b 50 a.2;exact .ret s (.bl _) λQ q=>⟨_,_,KH s (LK f a.1),KH s (LK g a.2),d,e,Ar i (by decide),by rw [<-Qm c b 50 50 a.1 a.2];exact q⟩
 .rw [iN h];trivial
def ya7(hr:Room k X.A)(ha:DE X E a ta ma)(hb:DE X E b tb mb):DE X E (.Compare a [.Eq] [b] pos) (tOp (rEqD X.K id) ta tb) (o2 dEq ma mb):=Lf (Zp0 hr.units) Zps ha hb (Fe _)
def M4(hr:Room k X.A)(ha:DE X E a ta ma)(hb:DE X E b tb mb):DT X E (.Compare a [.Eq] [b] pos) (Ec (tOp (rEqD X.K id) ta tb)) (trb (o2 dEq ma mb)):=HN (Zp0 hr.units) Zps ha hb (Fe _)
def Qe(hr:Room k X.A)(ha:DE X E a ta ma)(hb:DE X E b tb mb):DT X E (.Compare a [.NotEq] [b] pos) (Ec (tOp (rEqD X.K not) ta tb)) (trb (o2 dNe ma mb)):=HN (Zuk hr.units) Zva ha hb (Fe _)
def Zv0{j pos'}(ha:DE X E a ta ma):DE X E (.Compare a [.Is] [.Constant .none j pos'] pos) (tOp (λx y H Q=>y=V.non/\Q (V.bl (decide (x=V.non))) H) ta (tC .non)) (o1 dIsN ma):=⟨TF Yv ha.p QV (Fe _),Yg ha.s⟩
def Zpn{j pos'}(ha:DE X E a ta ma):DE X E (.Compare a [.IsNot] [.Constant .none j pos'] pos) (tOp (λx y H Q=>y=V.non/\Q (V.bl (!decide (x=V.non))) H) ta (tC .non)) (o1 Ke ma):=⟨TF Zss ha.p QV (Fe _),Zqn ha.s⟩
def Zur{j pos'}(ha:DE X E a ta ma):DT X E (.Compare a [.Is] [.Constant .none j pos'] pos) (Ec (tOp (λx y H Q=>y=V.non/\Q (V.bl (decide (x=V.non))) H) ta (tC .non))) (trb (o1 dIsN ma)):=⟨Zmc Yv ha.p QV (Fe _),RV (Yg ha.s)⟩
def Kz(ha:DE X E a ta ma)(hb:DE X E b tb mb)(hs:Sv b:=by exact λ_ _=>rfl):DE X E (.Subscript a b pos) (tOp (rIxD X.K) ta tb) (o2 dIx ma mb):=⟨Sh (IxR.or Ww ZpT) ha.p hb.p hs,Nv Zs4 ha.s hb.s⟩
def Hf(ha:DE X E a ta ma)(he:∀whole,isTrue a X.env whole=(do let v <-whole;standAt a.pos;holding [v] (truthy v)):=by intro _;rfl):DT X E a (L2.tB ta) (trb ma):=⟨Ztc ha.p he,st_b ha.s⟩
def Zqr(ha:DT X E a sa na):DW X E (.BoolOp .And [a] pos) sa na:=⟨Zsb ha.p,ha.s⟩
def Ir(ha:DT X E a sa na):DW X E (.BoolOp .Or [a] pos) sa na:=⟨Zuu ha.p,ha.s⟩
def Uq{rest:List Expr}(ha:DT X E a sa na)(hb:DW X E (.BoolOp .And (b::rest) pos) sb nb):DW X E (.BoolOp .And (a::b::rest) pos) (tAnd sa sb) (bAnd na nb):=⟨Ztf ha.p hb.p,Ztt ha.s hb.s⟩
def Ek{rest:List Expr}(ha:DT X E a sa na)(hb:DW X E (.BoolOp .Or (b::rest) pos) sb nb):DW X E (.BoolOp .Or (a::b::rest) pos) (tOr sa sb) (bOr na nb):=⟨Zwb ha.p hb.p,ZwV ha.s hb.s⟩
def DW.dt(h:DW X E a sa na):DT X E a sa na:=⟨h.p.pt,h.s⟩
def HR(ha:DT X E a sa na):DT X E (.UnaryOp .Not a pos) (tNot sa) (bNot na):=⟨Zve ha.p,ZtC ha.s⟩
def QK{op}(ha:DE X E a ta ma):DE X E (.BoolOp op [a] pos) ta ma:=⟨ZtO ha.p,ha.s⟩
def J3{rest:List Expr}(ha:DE X E a ta ma)(hb:DE X E (.BoolOp .And (b::rest) pos) tb mb):DE X E (.BoolOp .And (a::b::rest) pos) (Ry ta tb) (eAnd ma mb):=⟨Zs2 ha.p hb.p,ZuQ ha.s hb.s⟩
def Zs9(ha:DE X E a ta ma):DE X E (.UnaryOp .Not a pos) (R4 ta) (eNot ma):=⟨ZuU ha.p,ZsQ ha.s⟩
def YL(hc:DT X E c' sa na)(ha:DE X E a ta ma)(hb:DE X E b tb mb):DE X E (.IfExp c' a b pos) (tIf sa ta tb) (ife na ma mb):=⟨ZoM hc.p ha.p hb.p,ZuY hc.s ha.s hb.s⟩
def Bf:DA X E 0 [] tNil Ab:=⟨GC,ZpD,ZlZ⟩
def Ay(ha:DE X E e te me)(hr:DA X E n es t m)(hs:starEach (e::es) X.env=(false,eval e X.env)::starEach es X.env:=by rfl):DA X E (n+1) (e::es) (Dt te t) (Aa me m):=⟨Fz ha.p hr.p hs,ZrO ha.s hr.s,ZnO hr.n⟩
def Zwf{x1}(h:DA X E n es t m)(hn:n<=sizeLine:=by decide):DE X E (.Tuple es x1 pos) (tTup t) (mtp m):=⟨ZuZ h.p,Zt4 h.s h.n hn⟩
def WW(h:DA X E n es t m)(hn:n<=sizeLine:=by decide):DE X E (.List es pos) (tLst t) (mls m):=⟨MF h.p,Ztn h.s h.n hn⟩
def Ea{id:String}{r:List V->Hp->VK->Prop}{f:List D->Res D}{p:Pos}(hc:Do X (.builtin id) r)(hf:CallD X.K X.mg r f)(hg:Gl X x)(hm:X.mg x=none)(hv:bootBuiltins x=some (.builtin id))(ha:DA X E n (e::es) t m)(hn:x ≠ "__name__":=by decide)(hdb:ND x:=by decide)(he:starEach (e::es) X.env=(false,eval e X.env)::starEach es X.env:=by rfl)(hpl:(backTo pos (starEach es X.env)).any (·.1)=false:=by rfl):DE X E (.Call (.Name x p) (e::es) [] pos) (tCB r t) (on f m):=⟨Yy hc hg hm hv ha.p hn hdb he hpl,ZuE hf ha.s⟩
def Lg(hc:Do X (.type T) r)(hf:CallD X.K X.mg r f)(hg:Gl X x)(hm:X.mg x=none)(hv:bootBuiltins x=some (.type T))(ha:DA X E n (e::es) t m)(hn:x ≠ "__name__":=by decide)(hdb:ND x:=by decide)(he:starEach (e::es) X.env=(false,eval e X.env)::starEach es X.env:=by rfl)(hpl:(backTo pos (starEach es X.env)).any (·.1)=false:=by rfl):DE X E (.Call (.Name x p) (e::es) [] pos) (tCB r t) (on f m):=⟨Zc hc hg hm hv ha.p hn hdb he hpl,ZuE hf ha.s⟩
structure Cal(P:Program)(w:World)(K:W.Frag)(mg:Str->Option Value)(base:Heap)(n:Nat)(x:Str)(ps:List Str)(m:List D->Res D):Prop where
 ex:∃(f:Addr) (fd:FuncData),FnOk P w K mg base (CXR P w) n f fd ps (spD K mg ps.length m)/\Binds K fd ps []/\W.keepIn K (.ref f)=true/\mg x=some (.ref f)
def GP(C:Cal X.prog X.w X.K X.mg X.base k x ps f)(hr:Room l X.A)(hn:k<=l)(hg:Gl X x)(hx:Fd (CXR X.prog X.w) X E)(ha:DA X E n (e::es) t m)(hps:ps.length=n:=by rfl)(hdb:ND x:=by decide)(he:starEach (e::es) X.env=(false,eval e X.env)::starEach es X.env:=by rfl)(hpl:(backTo pos (starEach es X.env)).any (·.1)=false:=by rfl) :
  DE X E (.Call (.Name x p) (e::es) [] pos) (Ju (spD X.K X.mg ps.length f) [] E t) (on f m):=by
 obtain ⟨g,d,F,b,a,c⟩:=C.ex;exact ⟨ZqJ F (hr.mono hn) hg c a b .nil hx ha.p hdb he hpl,by rw [hps];exact ZqB ha.s ha.n⟩
def Zvr:Fd (CXR X.prog X.w) (Cd X N scope cl C s H fp pn) E0:=by
 intro a Y H s e b I h;obtain ⟨_,_,_,_,_,_,_,q⟩:=h;exact q.elim
end
section
variable {a b c' tg:Expr} {ta tb tc:TE} {ma mb mc:ME} {sa sb:TT} {na nb:MB} {t:TA} {m:MA}
def Zsh:SlR X (rSlU X.K):=by
 intro c s Y H x v t p g f o Q I j m n i h;obtain ⟨a,b,rfl,l,q,u⟩:=h;by_cases hw:HT.sIx b.length 0 g=0/\HT.sIx b.length b.length f=b.length
 .cases j;obtain ⟨e,r,k,w⟩:=I.tuple l;have d:e.toArray.size=b.length:=by rw [CT];exact r.length.symm
  exact ⟨"tuple",_,PyProof.Rows.slot_tuple_getitem.lookup,k.typeIs,HT.ZdP k m n i (by rw [d];exact hw) ⟨.ref a,H,I,rfl,q hw⟩⟩
 .exact ZuS c s Y H (.ref a) v t p g f o Q I j m n i ⟨a,b,rfl,l,hw,u hw⟩
def Kd:DO X E none Ud pno:=⟨Zrx,Zsi⟩
def Ny(h:DE X E a ta ma):DO X E (some a) (Rw ta) (pso ma):=⟨Zq7 h.p,ZrN h.s⟩
def Zwd{lo hi:Option Expr}{tl th:TO}{ml mh:Ev->Res (Option Int)}{p2:Pos}(ha:DE X E a ta ma)(hl:DO X E lo tl ml)(hh:DO X E hi th mh):DE X E (.Subscript a (.Slice lo hi none p2) pos) (tSl (rSlD X.K) ta tl th) (cut ma ml mh) :=
 ⟨V6 (SlR.or Zsz Zsh) ha.p hl.p hh.p,ZtF ha.s hl.s hh.s⟩
def ZmU(ho:OpR X (compareOp op) r)(hf:OpD X.K X.mg r f)(ho':OpR X (compareOp op') r')(hg:OpD X.K X.mg r' g)(ha:DE X E a ta ma)(hb:DE X E b tb mb)(hc:DE X E c' tc mc)(hm:lastMarks [op,op'] [b,c']=false:=by with_unfolding_all rfl) :
  DE X E (.Compare a [op,op'] [b,c'] pos) (Nt r r' ta tb tc) (chain f g ma mb mc):=⟨ZnT ho ho' ha.p hb.p hc.p (hm:=hm),Wq hf hg ha.s hb.s hc.s⟩
def Zn1(ho:OpR X (compareOp op) r)(hf:OpD X.K X.mg r f)(ho':OpR X (compareOp op') r')(hg:OpD X.K X.mg r' g)(ha:DE X E a ta ma)(hb:DE X E b tb mb)(hc:DE X E c' tc mc)(hm:lastMarks [op,op'] [b,c']=false:=by with_unfolding_all rfl) :
  DT X E (.Compare a [op,op'] [b,c'] pos) (Ec (Nt r r' ta tb tc)) (trb (chain f g ma mb mc)):=⟨Zn8 ho ho' ha.p hb.p hc.p (hm:=hm),RV (Wq hf hg ha.s hb.s hc.s)⟩
def Zrk{n:String}(ht:Pu d=some tn)(hn:Pn.contains n=true):W.kitOne K (.type tn) (.type n)=some (isTy tn n):=by
 have b:n = "int"\/n = "bool"\/n = "str"\/n = "tuple"\/n = "list"\/n = "dict":=by
  simpa [Pn] using hn
 have a:tn = "NoneType"\/tn = "bool"\/tn = "int"\/tn = "str"\/tn = "tuple"\/tn = "list":=by
  cases d<;>simp [Pu] at ht<;>subst ht<;>simp
 rcases a with rfl | rfl | rfl | rfl | rfl | rfl<;>rcases b with rfl | rfl | rfl | rfl | rfl | rfl <;>
  first
  | exact Zoj K _
  | exact Zts K (by decide +kernel) (by decide +kernel) (by decide +kernel)
def rIsi(K:W.Frag):List V->Hp->VK->Prop:=λd H Q=>∃x n c b,d=[x,.ty n]/\W.kitOne K (.type c) (.type n)=some b/\Q (.bl b) H /\
 ((x=.non/\c = "NoneType")\/(∃y,x=.bl y/\c = "bool")\/(∃y,x=.int y/\c = "int")\/(∃y,x=.str y/\c = "str")\/(∃a d,x=.ref a/\SqT K H a d/\c = "tuple")\/(∃a d,x=.ref a/\SqL K H a d/\c = "list"))
def ZhO:Do X (.builtin "isinstance") (rIsi X.K):=by
 intro d s Y H l v Q I r h;obtain ⟨x,n,p,j,rfl,e,q,h⟩:=h;obtain ⟨u,t,rfl,c,m⟩:=vals2 r;cases m;have b:∀k,EP X d Y Q (.bool j) { s with toks:=k }:=λk=>⟨.bl j,H,I.tok _,rfl,q⟩
 rcases h with ⟨rfl,rfl⟩ | ⟨y,rfl,rfl⟩ | ⟨y,rfl,rfl⟩ | ⟨y,rfl,rfl⟩ | ⟨a,l,rfl,hq,rfl⟩ | ⟨a,l,rfl,hq,rfl⟩
 .exact RC I c .non e b
 .exact RC I c (.bl y) e b
 .exact RC I c (.int y) e b
 .exact RC I c (.str y) e b
 .cases c;obtain ⟨i,_,⟨o,f,g,_⟩,_⟩:=I.tuple hq;exact Gd W.kitx_tuple I.kIn ⟨o,f,g⟩ e (λz=>nomatch z) b
 .cases c;obtain ⟨i,_,⟨o,_,f,g,_⟩,_⟩:=I.list hq;exact Gd W.kitx_list I.kIn ⟨o,f,g⟩ e (λz=>nomatch z) b
def Ws:CallD K mg (rIsi K) bIsi:=by
 intro E F H f g s r;unfold bIsi;split
 .next d a=>
  obtain ⟨x,y,rfl,b,c⟩:=r.two;cases c;by_cases hn:Pn.contains a=true
  .rw [iP hn];cases e:Pu d with
   | none=>trivial
   | some tn=>
    have k:=Zrk (K:=K) e hn;refine .ret s (.bl _) λQ q=>⟨x,a,tn,_,rfl,k,q,?_⟩;cases b with
    | non=>cases e;exact .inl ⟨rfl,rfl⟩
    | bl y=>cases e;exact .inr (.inl ⟨y,rfl,rfl⟩)
    | int y=>cases e;exact .inr (.inr (.inl ⟨y,rfl,rfl⟩))
    | str y=>cases e;exact .inr (.inr (.inr (.inl ⟨y,rfl,rfl⟩)))
    | ty y=>cases e
    | cls y=>cases e
    | exc y h=>cases e
    | ins m h o q r=>cases e
    | tup h r=>cases e;exact .inr (.inr (.inr (.inr (.inl ⟨_,_,rfl,Ed s h,rfl⟩))))
    | lst h r=>cases e;exact .inr (.inr (.inr (.inr (.inr ⟨_,_,rfl,s.seq h,rfl⟩))))
  .rw [iN hn];trivial
 .trivial
def YZ(hN:X.N.Nodup)(hi:X.N[i]?=some x)(hx:Loc X.env.scope x)(hl:i<n)(hf:X.fn x=true\/X.env.scope.names.lookup x=some .local:=by first | exact .inl rfl | exact .inr rfl | assumption):DG X n (.Name x pos) (FQ i) (gN i) :=
 ⟨Vx hN hi hx hf,ZsC hl,λ_ _ _ h=>by cases h⟩
def Zqs:DGs X n [] gNil gs0:=⟨ZqK,Zq6,λd Z c h=>by
 unfold gs0 at h
 split at h<;>cases h⟩
def Zpi{t:TG}{u:TGs}{g:MG}{gs:MGs}(h1:DG X n e t g)(h2:DGs X n es u gs)(hs:(assignEach (e::es) X.env).map (·.2)=assign e X.env::(assignEach es X.env).map (·.2):=by rfl):DGs X n (e::es) (Tt t u) (gs1 g gs) :=
 ⟨Zpl h1.p h2.p hs,ZoJ h1.s h2.s,λd Z c h=>by
  unfold gs1 at h;split at h
  .next a b=>
   cases eg:g a Z with
   | ok Z'=>
    rw [eg] at h;exact h2.x b Z' c h
   | ex c'=>exact h1.x a Z c' eg
   | bad=>rw [eg] at h;cases h
  .cases h⟩
def ZtI(hc:X.calm=true)(h:DGs X n es u g)(hn:(assignEach es X.env).length=j:=by rfl)(hst:(assignEach es X.env).findIdx? (·.1)=none:=by rfl):DG X n (.Tuple es k pos) (gSeq X.K j u) (gU j g):=by
 refine ⟨?_,Zvu h.s,λd Z c l=>?_⟩
 .intro f s Y H v w Q I r hw;rcases hw with hw | hw
  .exact ZsS hc h.p hn hst f s Y H v w Q I r hw
  .obtain ⟨a,m,A,D,z,hw⟩:=hw;subst A;cases r;obtain ⟨C,q,y,E⟩:=I.list D;refine ZeF (I.ok.hd hc) y.isList (by simp [hn,<-z,q.length]) hst λF B=>?_;have t:=I.kept (t':=s.toks) λb o e=>B b o (Bq (BW e)) e;exact h.p f _ Y H m _ Q t (by simpa using q) hw
 .unfold gU at l;cases ei:items d with
  | ok m=>
   rw [ei] at l;have i:(if m.length=j then g m Z else .bad)=.ex c:=l
   split at i
   .exact h.x m Z c i
   .cases i
  | ex c'=>unfold items at ei;split at ei<;>cases ei
  | bad=>rw [ei] at l;cases l
def DN(h:DE X E a ta ma):DI X E tg a (iSeq X.K ta) (iv ma):=by
 refine ⟨?_,ZtS h.s⟩;intro f s Y H R I m;refine thn (h.p f s Y H _ I m) λv d zq=>?_;obtain ⟨x,l,c,t,j⟩:=zq;obtain ⟨p,rfl,j⟩:=j;cases t;rcases j with ⟨⟨xs,hq⟩,q⟩ | ⟨⟨xs,hq⟩,q⟩
 .obtain ⟨k,r,i,n⟩:=c.list hq;refine wpAny_pyIter_list i.isList ?_;refine ⟨d.heap.objs.size,[d.heap.objs.size],_,_,l,rfl,c.kept λb o e=>Bc _ e,ZmS p _,⟨_,Dq _ rfl,rfl,rfl⟩,λb g=>?_,q⟩;have e:b=d.heap.objs.size:=by simpa using g
  subst e;exact c.fpOk (Ao _) (c.hok.fresh (Ao _))
 .obtain ⟨k,r,i,n⟩:=c.tuple hq;refine wpAny_pyIter_tuple (i) ?_;refine ⟨d.heap.objs.size,[d.heap.objs.size],_,_,l,rfl,c.kept λb o e=>Bc _ e,ZkR p _,⟨_,Dq _ rfl,rfl,rfl⟩,λb g=>?_,q⟩;have e:b=d.heap.objs.size:=by simpa using g
  subst e;exact c.fpOk (Ao _) (c.hok.fresh (Ao _))
def Zww(hg:Gl X "range")(hm:X.mg "range"=none)(ha:DA X E n [a] t m)(hs:starEach [a] X.env=[(false,eval a X.env)]:=by rfl):DI X E tg (.Call (.Name "range" p) [a] [] pos) (Tq t) (r1 m):=⟨Zmv hg hm ha.p hs,ZwF ha.s⟩
def Zv6(hg:Gl X "range")(hm:X.mg "range"=none)(ha:DA X E n [a,b] t m)(hs:starEach [a,b] X.env=[(false,eval a X.env),(false,eval b X.env)]:=by rfl)(hs2:starEach [b] X.env=[(false,eval b X.env)]:=by rfl) :
  DI X E tg (.Call (.Name "range" p) [a,b] [] pos) (S5 t) (r2 m):=⟨Zly hg hm ha.p hs hs2,Zv7 ha.s⟩
end
structure DTs(X:Cx)(E:XK)(ts:List Expr)(t:TT)(m:MB):Prop where
 p:PTs X ts t
 s:STt X.K X.mg E t m
section
variable {a b c' tg iter elt:Expr} {ts:List Expr} {ta tb tc:TE} {ma mb mc:ME} {sa sb:TT} {na nb:MB} {t:TA} {m:MA} {y:Str}
def Ztd:STt K mg E tYes yes:=λ_ _ _ _ _ _ r=>Ans.ret (R:=RB) r.ss rfl λ_ q=>q
def ZrQ:DTs X E [] tYes yes:=⟨ZrF,Ztd⟩
def Dz(hi:DI X E tg iter wi mi)(O:FT X own cap scope cl)(hc:X.calm=true)(hg:∀C s H fp pn,DG (Cd X (own++cap.map (·.1)) scope cl C s H fp pn) own.length tg (g C s H fp pn) gm)(ht:∀C s H fp pn,DTs (Cd X (own++cap.map (·.1)) scope cl C s H fp pn) E0 ts (tt C s H fp pn) na)(he:∀C s H fp pn,DE (Cd X (own++cap.map (·.1)) scope cl C s H fp pn) E0 elt (tf C s H fp pn) me)(hts:ts.length<=1:=by decide)(hs:∀x,foldedSetIterable iter X.env x=pure x:=by intro _;rfl) :
  DE X E (.ListComp elt [⟨tg,iter,ts,0⟩] scope pos) (HF wi g tt tf own cap) (comp mi own.length (cap.map (·.2)) gm na me) :=
 ⟨Zrf hi.p O hc (λC s H fp pn=>(hg C s H fp pn).p) (λC s H fp pn=>(ht C s H fp pn).p) (λC s H fp pn=>(he C s H fp pn).p) hts hs,
  Zne hi.s (λC s H fp pn=>(hg C s H fp pn).s) (λC s H fp pn=>(ht C s H fp pn).s) (λC s H fp pn=>(he C s H fp pn).s)⟩
def Q4(hN:X.N.Nodup)(hix:X.N[i]?=some x)(hx:Loc X.env.scope x)(hi:DI X E tg iter wi mi)(O:FT X own cap scope cl)(hc:X.calm=true)(hg:∀C s H fp pn,DG (Cd X (own++cap.map (·.1)) scope cl C s H fp pn) own.length tg (g C s H fp pn) gm)(ht:∀C s H fp pn,DTs (Cd X (own++cap.map (·.1)) scope cl C s H fp pn) E0 ts (tt C s H fp pn) na)(he:∀C s H fp pn,DE (Cd X (own++cap.map (·.1)) scope cl C s H fp pn) E0 elt (tf C s H fp pn) me)(hts:ts.length<=1:=by decide)(hsw:swapsWith (.ListComp elt [⟨tg,iter,ts,0⟩] scope pos) (some (.Name x pos')) spos.line X.env=pure true:=by rfl)(hs:∀x,foldedSetIterable iter X.env x=pure x:=by intro _;rfl)(hf:X.fn x=true\/X.env.scope.names.lookup x=some .local:=by first | exact .inl rfl | exact .inr rfl | assumption) :
  DS X E (.Assign [.Name x pos'] (.ListComp elt [⟨tg,iter,ts,0⟩] scope pos) spos) (tAsg (HF wi g tt tf own cap) (FQ i)) (st i (comp mi own.length (cap.map (·.2)) gm na me)) :=
 ⟨Zkx hN hix hx hi.p O hc (λC s H fp pn=>(hg C s H fp pn).p) (λC s H fp pn=>(ht C s H fp pn).p) (λC s H fp pn=>(he C s H fp pn).p) hts hsw hs hf,
  Ve (Zne hi.s (λC s H fp pn=>(hg C s H fp pn).s) (λC s H fp pn=>(ht C s H fp pn).s) (λC s H fp pn=>(he C s H fp pn).s))⟩
def Dg(hN:X.N.Nodup)(hi:X.N[i]?=some x)(hx:Loc X.env.scope x)(he:DE X E e te me)(hs:swapsWith e (some (.Name x pos')) spos.line X.env=pure false:=by rfl)(hf:X.fn x=true\/X.env.scope.names.lookup x=some .local:=by first | exact .inl rfl | exact .inr rfl | assumption) :
  DS X E (.Assign [.Name x pos'] e spos) (tAsg te (FQ i)) (st i me):=⟨Rt hN hi hx he.p hs hf,Ve he.s⟩
def Zus(he:DE X E e te me)(hg:DG X 1000 tg g gm)(hs:swapsWithSole [tg] e spos.line X.env=pure false:=by rfl)(hw:swappedStores [tg] e X.env=pure none:=by rfl)(h1:(assignEach [tg] X.env).map (·.2)=[assign tg X.env]:=by rfl):DS X E (.Assign [tg] e spos) (tAsg te g) (asg gm me):=⟨Zup he.p hg.p hs hw h1,ZtU he.s hg.s hg.x⟩
def Zue(he:DE X E e te me)(hs:swapsWith e none spos.line X.env=pure false:=by rfl):DS X E (.Expr e spos) (HH te) (drp me):=⟨KN he.p hs,Zrq he.s⟩
def Bt(he:DE X E e te me):DS X E (.Return (some e) spos) (tRet te) (ret me):=⟨Zpz he.p,Zt9 he.s⟩
def Q5{st:Stmt}{u:TS}{k:MS}(h:DS X E st u k):DS X E st u (frz i k):=⟨h.p,Zuq h.s⟩
def CG:DSs X E [] RZ nop:=⟨Vz,Zuw⟩
def Az{st:Stmt}{u:TS}{k:MS}(h:DS X E st u k):DSs X E [st] u k:=⟨KY h.p,h.s⟩
def Ai{st:Stmt}{rest:List Stmt}{u u':TS}{k k':MS}(h:DS X E st u k)(h':DSs X E rest u' k'):DSs X E (st::rest) (tSeq u u') (sq k k'):=⟨Lb h.p h'.p,Zs0 h.s h'.s⟩
def CJ{k:MS}(hc:DT X E c' sa na)(ha:DSs X E as u k)(hb:DSs X E bs u' k'):DS X E (.If c' as bs spos) (tIfS sa u u') (ifs na k k'):=⟨Yn hc.p ha.p hb.p,ZvR hc.s ha.s hb.s⟩
def LR{k:MS}(hp:PassesOwn (model X.prog X.w) X.A X.env X.xe)(hc:X.calm=true)(hi:DI X E tg iter wi mi)(hg:DG X 1000 tg g gm)(hb:DSs X E body u k)(hs:∀x,foldedSetIterable iter X.env x=pure x:=by intro _;rfl):DS X E (.For tg iter body [] spos) (tFor wi g u) (for_ mi gm k):=⟨XN hp hc hi.p hg.p hb.p hs,ZuT hi.s hg.s hg.x hb.s⟩
def Ug{k:MS}(hp:PassesOwn (model X.prog X.w) X.A X.env X.xe)(hc:DT X E c' sa na)(hb:DSs X E body u k):DS X E (.While c' body [] spos) (Py sa u) (whl fu na k):=⟨Zor hp hc.p hb.p,Zoq hc.s hb.s⟩
def ZtN{kt k2 pt2}(hc:X.calm=true)(hN:X.N.Nodup)(hi:X.N[i]?=some x)(hj:X.N[j]?=some y)(hij:i≠j)(hx:X.env.scope.names.lookup x=some .local)(hy:X.env.scope.names.lookup y=some .local)(ha:DE X E a ta ma)(hb:DE X E b tb mb)(hw:swappedStores [.Tuple [.Name x px,.Name y py] kt pt] (.Tuple [a,b] k2 pt2) X.env=pure (some [x,y]):=by rfl)(hs:swapsWithSole [.Tuple [.Name x px,.Name y py] kt pt] (.Tuple [a,b] k2 pt2) spos.line X.env=pure false:=by rfl)(hs1:starEach [a,b] X.env=(false,eval a X.env)::starEach [b] X.env:=by rfl)(hs2:starEach [b] X.env=(false,eval b X.env)::starEach [] X.env:=by rfl) :
  DS X E (.Assign [.Tuple [.Name x px,.Name y py] kt pt] (.Tuple [a,b] k2 pt2) spos) (tPar i j (Dt ta (Dt tb tNil))) (par i j ma mb) :=
 ⟨Zvy hc hN hi hj hij hx hy (Fz ha.p (Fz hb.p GC hs2) hs1) hw hs,Zta ha.s hb.s⟩
end
section
variable {qual:Str} {scope:Scope} {f:Addr} {cd:Value} {outer:List Env} {s₀:Shared} {H₀:Hp} {t:TA} {m:MA}
def Ms(hg:Gl (cxOf (CXR P w) P w K mg base N qual scope f cd A outer s₀ H₀ E) x)(hm:mg x=some (.ref C))(hq:W.excIn K C G7 "ValueError.__new__"=true)(ha:DA (cxOf (CXR P w) P w K mg base N qual scope f cd A outer s₀ H₀ E) E n (e::es) t m)(hn:n<=1000:=by decide)(hd:ND x:=by decide)(he:starEach (e::es) (cxOf (CXR P w) P w K mg base N qual scope f cd A outer s₀ H₀ E).env=(false,eval e (cxOf (CXR P w) P w K mg base N qual scope f cd A outer s₀ H₀ E).env)::starEach es (cxOf (CXR P w) P w K mg base N qual scope f cd A outer s₀ H₀ E).env:=by rfl)(hpl:(backTo cpos (starEach es (cxOf (CXR P w) P w K mg base N qual scope f cd A outer s₀ H₀ E).env)).any (·.1)=false:=by rfl)(hcx:clsOf x=x:=by decide +kernel)(hpx:pay x=none:=by decide +kernel) :
  DS (cxOf (CXR P w) P w K mg base N qual scope f cd A outer s₀ H₀ E) E (.Raise (some (.Call (.Name x np) (e::es) [] cpos)) none pos) (Yo E C t) (rse x m):=by
 refine ⟨Zoz hg hm hq ha.p hd he hpl,?_⟩;intro l d F H Y Z a;refine (ha.s l d F H Y Z a).stm a.g λc k i h o b j=>?_
 exact λD q=>⟨by rw [j.length,ha.n Z c k];exact hn,by
  have z:=q i h C (a.g.trans b) (by rw [hcx];exact hm);rw [hpx] at z
  exact z⟩
def Vr{F:Hp}(s:Same F H)(r:Rps K mg F vs ds):Rep K mg F H F H (start N vs) (ev0 N.length ds):=by
 have k:=r.length;have b:∀(i:Nat) (c:Cl),(ev0 N.length ds)[i]?=some c->c=.no\/∃d,ds[i]?=some d/\c=.im d:=by
  intro i c e;rw [Mg] at e;by_cases f:i<ds.length
  .rw [Dn (by simpa using f),DK,Bg f] at e;exact .inr ⟨ds[i],Bg f,(Be e).symm⟩
  .rw [Ff (by simpa using f),Lz] at e;split at e
   .exact .inl (Be e).symm
   .cases e
 refine ⟨.refl s,?_,λi d e=>?_,λi g e=>?_,λi j g m a e=>?_⟩
 .rw [Mg];unfold start;simp [k]
 .rcases b i _ e with z | ⟨d',e1,z⟩
  .cases z
  .cases z;obtain ⟨v,h,l⟩:=r.get e1;refine ⟨v,?_,l⟩;have f:=(Dd.mp h).1;unfold start;rw [Dn (by simpa using f),DK,h];rfl
 .rcases b i _ e with z | ⟨d',e1,z⟩<;>cases z
 .rcases b i _ e with z | ⟨d',e1,z⟩<;>cases z
def okD{st:Stmt}{mb:MS}(F:Fun K x x st f fd)(S:Df N ps (Bd st))(h:∀(cdv:Value) (A:Around) (outer:List Env) (s:Shared) (H:Hp) (E:XK),Room k (A.deeper (envOfC x (Bd st) s.heap.objs.size f cdv))->∃t,DSs (cxOf (CXR P w) P w K mg base N x (Bd st) f cdv A outer s H E) E (FN st) t mb) :
  FnOk P w K mg base (CXR P w) (k+1) f fd ps (spD K mg ps.length (fn N.length mb)):=by
 obtain ⟨X,U,T,I,Y,W,cdv,ct,J,rfl,R,m⟩:=F.ex;refine VR R m S (λu H Q E q=>q.1) λA outer s H u Q E M n=>?_;obtain ⟨t,o⟩:=h cdv A outer s H E M;refine ⟨t,o.p,?_⟩;obtain ⟨_,y,r,L,B,i,b,a⟩:=n;have z:=o.s y H y H (start N u) (ev0 N.length r) (Vr L B);unfold fn at i b a;cases e:mb (ev0 N.length r) with
 | ok fl=>
  rw [e] at z i b a;cases fl with
  | nx Z=>exact z _ λl j V _ G=>b .non rfl l j .non G.g .non
  | rt d=>exact z _ λl j v g O=>b d rfl l j v g O
  | bk Z=>exact aB rfl i
  | ct Z=>exact aB rfl i
 | ex c=>
  rw [e] at z a;exact z _ λl j C g D=>a c rfl l j C g D
 | bad=>rw [e] at i;exact aB rfl i
def _root_.L2.Def.cal{st:Stmt}{mb:MS}(D:Def K mg x st ps)(S:Df N ps (Bd st))(h:∀(f:Addr) (cdv:Value) (A:Around) (outer:List Env) (s:Shared) (H:Hp) (E:XK),Room k (A.deeper (envOfC x (Bd st) s.heap.objs.size f cdv))->∃t,DSs (cxOf (CXR P w) P w K mg base N x (Bd st) f cdv A outer s H E) E (FN st) t mb) :
  Cal P w K mg base (k+1) x ps (fn N.length mb):=by
 obtain ⟨f,c,F,b,a⟩:=D.ex;exact ⟨f,c,okD F S (h f),b,F.kp,a⟩
end
def Ztp{e:Value}(h:CXR P w l H s (λ_ _ _=>False) e s'):False:=by
 obtain ⟨_,_,_,_,_,_,_,q⟩:=h;exact q
def Pg(K:W.Frag):Sp:=λb H Q _=>∃(a:Addr) (ns:List Int),b=[.ref a]/\SqL K H a (ns.map V.int)/\ns.length<=63/\∀c,Q (.bl true) c
def Zj1:∀ns:List Int,Rps K mg H (ns.map V.int) (ns.map D.int)
 | []=>.nil
 | n::r=>.cons (.int n) (Zj1 r)
def Zs3(h:∀ns:List Int,ns.length<=63->m [.lst (ns.map .int)]=.ok (.bl true)):∀vs H Q E,Pg K vs H Q E->spD K mg 1 m vs H Q E:=by
 rintro vs H Q E ⟨a,ns,rfl,i,g,q⟩;have e:=h ns g;refine ⟨rfl,H,_,Same.refl _,.cons (.lst i (Zj1 ns)) .nil,λz=>?_,λd b=>?_,λc b=>?_⟩
 .rw [e] at z;cases z
 .rw [e] at b;cases b;intro k j x _ f;cases f;exact q j
 .rw [e] at b;cases b
def Zsp(C:Cal X.prog X.w X.K X.mg X.base k x ps f)(hr:Room l X.A)(hn:k<=l)(hg:Gl (Cd X N scope cl C' s H fp pn) x)(ha:DA (Cd X N scope cl C' s H fp pn) E0 n (e::es) t m)(hps:ps.length=n:=by rfl)(hdb:ND x:=by decide)(he:starEach (e::es) (Cd X N scope cl C' s H fp pn).env=(false,eval e (Cd X N scope cl C' s H fp pn).env)::starEach es (Cd X N scope cl C' s H fp pn).env:=by rfl)(hpl:(backTo pos (starEach es (Cd X N scope cl C' s H fp pn).env)).any (·.1)=false:=by rfl) :
  DE (Cd X N scope cl C' s H fp pn) E0 (.Call (.Name x p) (e::es) [] pos) (Ju (spD X.K X.mg ps.length f) [] E0 t) (on f m) :=
 GP C hr hn hg Zvr ha hps hdb he hpl
section
def all_range:∀bs:List Bool,((List.range bs.length).all λi=>bs.getD i true)=bs.all id
 | []=>rfl
 | b::r=>by
  rw [BP,List.range_succ_eq_map,Gy,H8,Gy,<-all_range r];rfl
def Zgf:∀(bs:List Bool) (its:List Value),Vals (bs.map V.bl) its->its=bs.map Value.bool
 | [],_,.nil=>rfl
 | b::r,_,.cons h t=>by
  cases h;rw [Bx,Zgf r _ t]
def rAll(K:W.Frag):List V->Hp->VK->Prop:=λb H Q=>∃(a:Addr) (bs:List Bool),b=[.ref a]/\SqL K H a (bs.map V.bl)/\Q (.bl (bs.all id)) H
def Jq(hc:X.calm=true):Do X (.builtin "all") (rAll X.K):=by
 intro j s Y H D F Q I r h;obtain ⟨a,c,rfl,w,q⟩:=h;obtain ⟨u,rfl,t⟩:=vals1 r;cases t;obtain ⟨f,n,g,E⟩:=I.list w;obtain rfl:=Zgf c f n;have p:a<s.heap.objs.size:=by
  obtain ⟨o,_,l,_⟩:=g;exact BW l
 refine call_all_walk (wpAny_pyIter_list g.isList ?_);refine ⟨s.heap.objs.size,_,_,_,_,_,λi=>c.getD i true,rfl,Walks.list (A:=X.A.in1) (I.ok.hd hc) s.heap.objs.size a (Bq p) (c.map Value.bool).toArray,⟨⟨_,Dq _ rfl,rfl,rfl⟩,?_⟩,?_,λB C k=>?_⟩
 .exact g.isList.at λo e=>Bc _ e
 .intro i v y G x d m;have e:v=.bool (c.getD i true):=by
   rw [List.getElem?_toArray,DK] at d;cases q:c[i]? with
   | none=>rw [q] at d;cases d
   | some b=>
    rw [q] at d;cases d;rw [GQ,q];rfl
  subst e;exact Af m
 .have e:(List.range (c.map Value.bool).toArray.size).all (λi=>c.getD i true)=c.all id:=by
   rw [CT,Ah];exact all_range c
  rw [e];exact ⟨.bl (c.all id),H,I.kept λb o z=>k b o (by simp;exact Bq (BW z)) (Bc _ z),rfl,q⟩
def Yq{F:Hp}:∀{xs:List V} {ds:List D} {bs:List Bool},Rps K mg F xs ds->bools ds=.ok bs->xs=bs.map V.bl
 | _,_,_,.nil,e=>by cases e;rfl
 | _,_,bs,.cons (d:=d) (ds:=ds) h r,e=>by
  unfold bools at e;cases d with
  | bl b=>
   cases q:bools ds with
   | ok bs'=>
    simp only [q,Res.bind] at e;cases e;cases h;rw [Bx,Yq r q]
   | ex c=>simp only [q,Res.bind] at e;cases e
   | bad=>simp only [q,Res.bind] at e;cases e
  | _=>cases e
def Yx{c:Str}:∀ds:List D,bools ds≠.ex c
 | [],h=>by cases h
 | d::r,h=>by
  unfold bools at h;cases d with
  | bl b=>
   cases q:bools r with
   | ok bs'=>simp only [q,Res.bind] at h;cases h
   | ex c'=>exact Yx r q
   | bad=>simp only [q,Res.bind] at h;cases h
  | _=>cases h
def Ji:CallD K mg (rAll K) bAll:=by
 intro E F H f g s r;unfold bAll;split
 .next d=>
  obtain ⟨x,rfl,b⟩:=r.one;cases d with
  | lst es=>
   cases b with
   | lst h rs=>
    show Ans mg E (Rp K mg) F H ((bools es).bind λa=>.ok (.bl (a.all id))) _;cases q:bools es with
    | ok a=>
     have e:=Yq rs q;subst e;exact Ans.ret s (.bl _) λQ z=>⟨_,a,rfl,s.seq h,z⟩
    | ex c=>exact aB q (Yx es)
    | bad=>trivial
  | _=>trivial
 .trivial
def Zwg(hg:Gl X x)(hm:X.mg x=some (.ref C))(hd:ND x:=by decide):DE X E (.Name x pos) (tC (.ref C)) (c (.cls x)):=⟨Kp hg hm rfl hd,se_c λ_=>.cls hm⟩
structure TabOk(K:W.Frag)(mg:Str->Option Value)(tc:List (Str×Str×Bool))(tt:List (Str×String×Bool)):Prop where
 c:∀e∈tc,∃D C,mg e.1=some (.ref D)/\mg e.2.1=some (.ref C)/\HJ K D/\W.kitOne K (.ref D) (.ref C)=some e.2.2
 t:∀e∈tt,∃D,mg e.1=some (.ref D)/\HJ K D/\W.kitOne K (.ref D) (.type e.2.1)=some e.2.2
def rIsX(K:W.Frag):List V->Hp->VK->Prop:=λf H Q=>∃a D y b,f=[.ref a,y]/\(∃φ,H a=some (.ext φ)/\∀g,φ g->ExcAt a (.ref D) g)/\HJ K D/\Q (.bl b) H /\
 ((∀u,RelV y u->W.kitOne K (.ref D) u=some b)\/∃c d,y=.ref c/\SqT K H c d/\∀e,Vals d e->W.kitAny K (.ref D) e=some b)
def Zok:Do X (.builtin "isinstance") (rIsX X.K):=by
 intro b s Y H x F Q I r h;obtain ⟨a,D,y,i,rfl,e,C,q,h⟩:=h;obtain ⟨u,B,rfl,v,g⟩:=vals2 r;cases v;obtain ⟨φ,e,d⟩:=e;have ex:=d _ (I.hok a _ e).1;have c:∀f,EP X b Y Q (.bool i) { s with toks:=f }:=λf=>⟨.bl i,H,I.tok _,rfl,q⟩
 rcases h with h | ⟨tp,ys,rfl,hq,h⟩
 .exact Gd (Zkb C) I.kIn ex (h _ g) (λz=>nomatch z) c
 .cases g;obtain ⟨w,t,⟨o,j,p,n,l⟩,_⟩:=I.tuple hq;obtain ⟨E,A,k,m⟩:=o;subst p l;exact W.kia_tup (Zkb C) I.kIn ex j (h _ t) (λz=>nomatch z) c
def Zp4{F:Hp}{tc:List (Str×Str×Bool)}{tt:List (Str×String×Bool)}(T:TabOk K mg tc tt){c:Str}{C:Addr}(hm:mg c=some (.ref C)){y:V}{k:D}{b:Bool}(ry:Rp K mg F y k)(e:oneX tc tt c k=.ok b) :
  HJ K C/\∀u,RelV y u->W.kitOne K (.ref C) u=some b:=by
 cases k with
 | cls k=>
  cases ry with
  | cls hk=>
   have e:ofO ((tc.find? λe=>e.1==c&&e.2.1==k).map (·.2.2))=.ok b:=e;cases q:tc.find? λe=>e.1==c&&e.2.1==k with
   | none=>rw [q] at e;cases e
   | some en=>
    rw [q] at e;cases e;have d:=List.find?_some q;have a:=List.mem_of_find?_eq_some q;rw [Bo,Dc,Dc] at d;obtain ⟨j,l,f,i,h,g⟩:=T.c en a;rw [d.1,hm] at f;rw [d.2,hk] at i;cases f;cases i;exact ⟨h,λu r=>by cases r;exact g⟩
 | ty n=>
  cases ry with
  | ty=>
   have e:ofO ((tt.find? λe=>e.1==c&&e.2.1==n).map (·.2.2))=.ok b:=e;cases q:tt.find? λe=>e.1==c&&e.2.1==n with
   | none=>rw [q] at e;cases e
   | some en=>
    rw [q] at e;cases e;have d:=List.find?_some q;have a:=List.mem_of_find?_eq_some q;rw [Bo,Dc,Dc] at d;obtain ⟨j,f,h,g⟩:=T.t en a;rw [d.1,hm] at f;cases f;exact ⟨h,λu r=>by cases r;rw [<-d.2];exact g⟩
 | _=>cases e
def UW{tc:List (Str×Str×Bool)}{tt:List (Str×String×Bool)}{c c':Str}(k):oneX tc tt c k≠.ex c':=by
 intro h;unfold oneX at h;split at h
 .cases q:(tc.find? λe=>e.1==c&&e.2.1==‹Str›).map (·.2.2)<;>rw [q] at h<;>cases h
 .cases q:(tt.find? λe=>e.1==c&&e.2.1==‹String›).map (·.2.2)<;>rw [q] at h<;>cases h
 .cases h
def ZpR{F:Hp}{tc:List (Str×Str×Bool)}{tt:List (Str×String×Bool)}(T:TabOk K mg tc tt){c:Str}{C:Addr}(hm:mg c=some (.ref C)):∀{ys:List V} {ks:List D} {b:Bool},Rps K mg F ys ks->anyX tc tt c ks=.ok b ->
  (ks≠[]->HJ K C)/\∀us,Vals ys us->W.kitAny K (.ref C) us=some b
 | _,_,b,.nil,e=>by
  cases e;exact ⟨λz=>aB rfl z,λus r=>by cases r;rfl⟩
 | _,_,b,.cons (d:=d) h r,e=>by
  unfold anyX at e;cases q:oneX tc tt c d with
  | ok b1=>
   rw [q] at e;obtain ⟨a,g⟩:=Zp4 T hm h q;refine ⟨λ_=>a,λus f=>?_⟩;cases f with
   | cons r1 r2=>
    unfold W.kitAny;rw [g _ r1];cases b1 with
    | true=>cases e;rfl
    | false=>exact (ZpR T hm r e).2 _ r2
  | ex c'=>exact aB q (UW d)
  | bad=>rw [q] at e;cases e
def Yr{tc:List (Str×Str×Bool)}{tt:List (Str×String×Bool)}{c c':Str}:∀ks:List D,anyX tc tt c ks≠.ex c'
 | [],h=>by cases h
 | k::r,h=>by
  unfold anyX at h;cases q:oneX tc tt c k with
  | ok b1=>
   rw [q] at h;cases b1 with
   | true=>cases h
   | false=>exact Yr r h
  | ex c'=>exact UW k q
  | bad=>rw [q] at h;cases h
def Zmx(T:TabOk K mg tc tt):CallD K mg (rIsX K) (bIsX tc tt):=by
 intro E F H n p s r;unfold bIsX;split
 .next d k=>
  obtain ⟨x,y,rfl,m,i⟩:=r.two;cases d with
  | exc c=>
   cases m with
   | @exc _ C' a' _ hm hx0=>
    have j:=(hx0.same λb o z _=>s b o z).ext;show Ans mg E (Rp K mg) F H (askX tc tt (clsOf c) k) _;generalize clsOf c=c at hm ⊢;have h:∀a,Rp K mg F y a->askX tc tt c a=(oneX tc tt c a).bind (λb=>.ok (.bl b))->Ans mg E (Rp K mg) F H (askX tc tt c a) (rIsX K [.ref a',y] H):=by
     intro a l e;rw [e];cases q:oneX tc tt c a with
     | ok b=>
      obtain ⟨f,g⟩:=Zp4 T hm l q;exact Ans.ret s (.bl _) λQ z=>⟨_,_,y,b,rfl,j,f,z,.inl g⟩
     | ex c'=>exact aB q (UW a)
     | bad=>trivial
    cases k with
    | tup ks=>
     cases i with
     | tup hq rq=>
      cases ks with
      | nil=>trivial
      | cons k0 kr=>
       show Ans mg E (Rp K mg) F H ((anyX tc tt c (k0::kr)).bind λb=>.ok (.bl b)) _;cases q:anyX tc tt c (k0::kr) with
       | ok b=>
        obtain ⟨f,g⟩:=ZpR T hm rq q;exact Ans.ret s (.bl _) λQ z=>⟨_,_,_,b,rfl,j,f (by simp),z,.inr ⟨_,_,rfl,Ed s hq,g⟩⟩
       | ex c'=>exact aB q (Yr _)
       | bad=>trivial
    | _=>exact h _ i rfl
  | _=>trivial
 .trivial
end
section
variable {F:Hp}
def Rep.unset(r:Rep K mg F0 H0 F H Y Z)(i):Rep K mg F0 H0 F H (Y.set i none) (Z.set i .no):=by
 refine ⟨r.g,by rw [Gm,Gm];exact r.len,λj e q=>?_,λj b q=>?_,λj k b l a c d f h=>?_⟩
 .rcases Cm q with ⟨_,z,_⟩ | ⟨hij,q⟩
  .cases z
  .rw [Eb hij];exact r.im j e q
 .rcases Cm q with ⟨_,z,_⟩ | ⟨hij,q⟩
  .cases z
  .rw [Eb hij];exact r.ow j b q
 .rcases Cm c with ⟨_,z,_⟩ | ⟨h1,c⟩
  .cases z
  .rcases Cm d with ⟨_,z,_⟩ | ⟨h2,d⟩
   .cases z
   .rw [Eb h1] at f;rw [Eb h2] at h;exact r.ne j k b l a c d f h
def ZuW(ha:SA K mg E0 t m)(hn:∀Z ds,m Z=.ok ds->ds.length=n)(hh:∀c∈hits,∀C,mg c=some (.ref C)->hit (.ref C))(hb:∀a,SS K mg E0 (u a) b):SS K mg E (tTry (spD K mg n f) hit i u t) (try_ f m hits i b):=by
 intro w A F H Y Z N;have h:=ha w A F H Y Z N;unfold try_;cases e:m Z with
 | ex c=>trivial
 | bad=>trivial
 | ok ds=>
  rw [e] at h;show AnsS K mg E w A F (Km hits i b Z (f ds)) _;cases ef:f ds with
  | bad=>trivial
  | ok d=>
   exact λD q=>h _ λM U vs y G=>⟨by rw [G.length];exact hn Z ds e,M,ds,y.s,G,(by rw [ef];intro z;cases z),(λd' _ j k x Q _=>q j k Y (y.trans Q).f (N.gr (y.trans Q))),λc z=>by rw [ef] at z;cases z⟩
  | ex c=>
   show AnsS K mg E w A F (if hits.contains (clsOf c)=true then endT i (b (Z.set i (.im (.exc c)))) else .bad) _
   by_cases hc:hits.contains (clsOf c)=true
   .rw [iP hc];have o:∀D,(∀a j k l,Same F j->Rep K mg w A j k l (Z.set i (.im (.exc c)))->u a (offI i D) l k)->tTry (spD K mg n f) hit i u t D Y H:=by
     intro D q;refine h _ λM U vs y G=>⟨by rw [G.length];exact hn Z ds e,M,ds,y.s,G,(by rw [ef];intro z;cases z),(λd' z=>by rw [ef] at z;cases z),λX z F2 H2 C g2 O=>?_⟩;rw [ef] at z;cases z;refine ⟨hh (clsOf c) (by simpa using hc) C O,λx d hx V=>?_⟩;have g:=y.trans g2;obtain ⟨r,P,T⟩:=Zvs g.s hx V;exact q x _ _ _ (g.f.trans P.f) (((N.gr g).gr P).set i (.exc O T))
    have J:=λ(a:Addr) j k l (p:Rep K mg w A j k l (Z.set i (.im (.exc c))))=>hb a w A j k l _ p;cases es:b (Z.set i (.im (.exc c))) with
    | ok fl=>
     rw [es] at J;cases fl with
     | nx Z2=>exact λD q=>o D λa j k l B p=>J a j k l p _ λr v R L I=>q r v _ (B.trans L) (I.unset i)
     | bk Z2=>exact λD q=>o D λa j k l B p=>J a j k l p _ λr v R L I=>q r v _ (B.trans L) (I.unset i)
     | ct Z2=>exact λD q=>o D λa j k l B p=>J a j k l p _ λr v R L I=>q r v _ (B.trans L) (I.unset i)
     | rt d=>exact λD q=>o D λa j k l B p=>J a j k l p _ λr v x W S=>q r v x W S
    | ex X=>trivial
    | bad=>trivial
   .rw [iN hc];trivial
end
section
variable {l:Nat} {y n:Str} {Cy:Addr} {f:List D->Res D} {t:TA} {m:MA} {u:Addr->TS} {b:MS} {p yp epos hpos:Pos} {b0:Stmt} {suite:List Stmt} {hits:List Str}
def ZtJ(hst:X.stack=X.env::X.outer)(hfr:X.env.frame=some X.env.locals)(C:Cal X.prog X.w X.K X.mg X.base k x ps f)(hr:Room l X.A)(hn:k<=l)(hg:Gl X x)(ha:DA X.nox E0 j (e::es) t m)(hgy:Gl X y)(hmy:X.mg y=some (.ref Cy))(hh:∀c∈hits,∃D,X.mg c=some (.ref D)/\W.exmOne X.K (.ref D) (.ref Cy)=some true)(hN:X.N.Nodup)(hi:X.N[i]?=some n)(hlo:X.env.kindOf n=some .local)(hnl:X.env.scope.names.lookup n=some .local)(hs:∀a,DSs (X.inX a) E0 (b0::suite) (u a) b)(hps:ps.length=j:=by rfl)(hdb:ND x:=by decide)(hdy:ND y:=by decide)(hsw:swapsWith (.Call (.Name x p) (e::es) [] cpos) none epos.line X.env=pure false:=by rfl)(he:starEach (e::es) X.env=(false,eval e X.env)::starEach es X.env:=by rfl)(hpl:(backTo cpos (starEach es X.env)).any (·.1)=false:=by rfl) :
  DS X E (.Try [.Expr (.Call (.Name x p) (e::es) [] cpos) epos] [.ExceptHandler (some (.Name y yp)) (some n) (b0::suite) hpos] [] [] pos) (tTry (spD X.K X.mg ps.length f) (λcls=>W.exmOne X.K cls (.ref Cy)=some true) i u t) (try_ f m hits i b):=by
 obtain ⟨G,H,F,h,g,v⟩:=C;refine ⟨ZtZ hst hfr (F.mono hn) hr hg v g h ha.p hgy hmy hN hi hlo hnl (λa=>(hs a).p) hdb hdy hsw he hpl,?_⟩;refine ZuW ha.s (λZ r z=>by rw [hps];exact ha.n Z r z) (λc o D B=>?_) λa=>(hs a).s;obtain ⟨I,d,q⟩:=hh c o;rw [B] at d;cases d;exact q
end
section
def KJ:∀(ns:List Int) (its:List Value),Vals (ns.map V.int) its->∃xs:List (Int×Tok),its=xs.map (λp=>Value.int p.1 p.2)/\xs.map (·.1)=ns
 | [],_,.nil=>⟨[],rfl,rfl⟩
 | n::r,_,.cons h t=>by
  obtain ⟨a,rfl⟩:=h;obtain ⟨xs,rfl,rfl⟩:=KJ r _ t;exact ⟨(n,a)::xs,rfl,rfl⟩
def Lr(xs:List (Int×Tok)):(xs.map (λp=>Value.int p.1 p.2)).toArray=intItems xs.toArray:=by simp [intItems]
def XQ:∀(r:List Int) (n:Int),n<=r.foldl max n/\(∀a∈r,a<=r.foldl max n)/\(r.foldl max n=n\/r.foldl max n∈r)
 | [],n=>⟨Int.le_refl _,(λ_ h=>aB h CN),.inl rfl⟩
 | a::r,n=>by
  obtain ⟨c,f,d⟩:=XQ r (max n a);refine ⟨Int.le_trans (Int.le_max_left n a) c,λb hb=>?_,?_⟩
  .rcases An.mp hb with rfl | hb
   .exact Int.le_trans (Int.le_max_right n b) c
   .exact f b hb
  .show r.foldl max (max n a)=n\/r.foldl max (max n a)∈a::r;rcases d with e | e
   .rw [e];rcases Int.le_total n a with z | z
    .rw [Int.max_eq_right z];exact .inr Aw
    .rw [Int.max_eq_left z];exact .inl rfl
   .exact .inr (Av _ e)
def Zna:∀(r:List Int) (n:Int),r.foldl min n<=n/\(∀a∈r,r.foldl min n<=a)/\(r.foldl min n=n\/r.foldl min n∈r)
 | [],n=>⟨Int.le_refl _,(λ_ h=>aB h CN),.inl rfl⟩
 | a::r,n=>by
  obtain ⟨c,f,d⟩:=Zna r (min n a);refine ⟨Int.le_trans c (Int.min_le_left n a),λb hb=>?_,?_⟩
  .rcases An.mp hb with rfl | hb
   .exact Int.le_trans c (Int.min_le_right n b)
   .exact f b hb
  .show r.foldl min (min n a)=n\/r.foldl min (min n a)∈a::r;rcases d with e | e
   .rw [e];rcases Int.le_total n a with z | z
    .rw [Int.min_eq_left z];exact .inl rfl
    .rw [Int.min_eq_right z];exact .inr Aw
   .exact .inr (Av _ e)
def Ztq(K:W.Frag):List V->Hp->VK->Prop:=λb H Q=>∃a n r,b=[.ref a]/\SqL K H a ((n::r).map V.int)/\Q (.int (r.foldl max n)) H
def Wn(K:W.Frag):List V->Hp->VK->Prop:=λb H Q=>∃a n r,b=[.ref a]/\SqL K H a ((n::r).map V.int)/\Q (.int (r.foldl min n)) H
def X6(xs:List (Int×Tok))(h:i<xs.length):numAt xs.toArray i∈xs.map (·.1):=by
 unfold numAt;rw [List.getElem?_toArray,Bg h];exact Bk.mpr ⟨xs[i],G4 h,rfl⟩
def Za(xs:List (Int×Tok))(h:a∈xs.map (·.1)):∃i,i<xs.length/\a=numAt xs.toArray i:=by
 obtain ⟨p,c,rfl⟩:=Bk.mp h;obtain ⟨i,b,rfl⟩:=Gp.mp c;refine ⟨i,b,?_⟩;unfold numAt;rw [List.getElem?_toArray,Bg b];rfl
def Zm4(hc:X.calm=true):Do X (.builtin "max") (Ztq X.K):=by
 intro g s Y H P S Q I r h;obtain ⟨a,n,l,rfl,G,q⟩:=h;obtain ⟨u,rfl,x⟩:=vals1 r;cases x;obtain ⟨y,E,F,U⟩:=I.list G;obtain ⟨c,rfl,f⟩:=KJ _ _ E;have d:=F.isList;rw [Lr] at d;have C:c.length=l.length+1:=by rw [<-Ah,f];rfl
 refine max_intList (I.ok.hd hc) d (by simp;omega) λv N O w k=>?_;obtain ⟨t,rfl⟩:=intItems_at w;obtain ⟨L,D⟩:=argBest_gt (numAt c.toArray) (c.toArray.size - 1);generalize hM:argBest (λi j=>decide (numAt c.toArray i>numAt c.toArray j)) (c.toArray.size - 1)=M at *;have T:c.toArray.size=c.length:=by simp
 have p:numAt c.toArray M∈n::l:=by rw [<-f];exact X6 c (by omega)
 have o:∀b∈n::l,b<=numAt c.toArray M:=λb m=>by
  rw [<-f] at m;obtain ⟨i,R,rfl⟩:=Za c m;exact D i (by omega)
 obtain ⟨B,J,A⟩:=XQ l n;have e:numAt c.toArray M=l.foldl max n:=by
  refine Int.le_antisymm ?_ ?_
  .rcases An.mp p with z | z
   .rw [z];exact B
   .exact J _ z
  .refine o _ ?_;rcases A with z | z
   .rw [z];exact Aw
   .exact Av _ z
 exact ⟨.int (l.foldl max n),H,I.kept k,⟨t,by rw [e]⟩,q⟩
def Zmt(hc:X.calm=true):Do X (.builtin "min") (Wn X.K):=by
 intro g s Y H P S Q I r h;obtain ⟨a,n,l,rfl,G,q⟩:=h;obtain ⟨u,rfl,x⟩:=vals1 r;cases x;obtain ⟨y,E,F,U⟩:=I.list G;obtain ⟨c,rfl,f⟩:=KJ _ _ E;have d:=F.isList;rw [Lr] at d;have C:c.length=l.length+1:=by rw [<-Ah,f];rfl
 refine min_intList (I.ok.hd hc) d (by simp;omega) λv N O w k=>?_;obtain ⟨t,rfl⟩:=intItems_at w;obtain ⟨L,D⟩:=argBest_lt (numAt c.toArray) (c.toArray.size - 1);generalize hM:argBest (λi j=>decide (numAt c.toArray i<numAt c.toArray j)) (c.toArray.size - 1)=M at *;have T:c.toArray.size=c.length:=by simp
 have p:numAt c.toArray M∈n::l:=by rw [<-f];exact X6 c (by omega)
 have o:∀b∈n::l,numAt c.toArray M<=b:=λb m=>by
  rw [<-f] at m;obtain ⟨i,R,rfl⟩:=Za c m;exact D i (by omega)
 obtain ⟨B,J,A⟩:=Zna l n;have e:numAt c.toArray M=l.foldl min n:=by
  refine Int.le_antisymm ?_ ?_
  .refine o _ ?_;rcases A with z | z
   .rw [z];exact Aw
   .exact Av _ z
  .rcases An.mp p with z | z
   .rw [z];exact B
   .exact J _ z
 exact ⟨.int (l.foldl min n),H,I.kept k,⟨t,by rw [e]⟩,q⟩
def UJ{F:Hp}:∀{xs:List V} {ds:List D} {ns:List Int},Rps K mg F xs ds->EY ds=.ok ns->xs=ns.map V.int
 | _,_,_,.nil,e=>by cases e;rfl
 | _,_,ns,.cons (d:=d) (ds:=ds) h r,e=>by
  unfold EY at e;cases d with
  | int b=>
   cases q:EY ds with
   | ok bs'=>
    simp only [q,Res.bind] at e;cases e;cases h;rw [Bx,UJ r q]
   | ex c=>simp only [q,Res.bind] at e;cases e
   | bad=>simp only [q,Res.bind] at e;cases e
  | _=>cases e
def Sw{c:Str}:∀ds:List D,EY ds≠.ex c
 | [],h=>by cases h
 | d::r,h=>by
  unfold EY at h;cases d with
  | int b=>
   cases q:EY r with
   | ok bs'=>simp only [q,Res.bind] at h;cases h
   | ex c'=>exact Sw r q
   | bad=>simp only [q,Res.bind] at h;cases h
  | _=>cases h
def ZkL:CallD K mg (Ztq K) Ik:=by
 intro E F H b f s r;unfold Ik;split
 .next d=>
  obtain ⟨x,rfl,a⟩:=r.one;cases d with
  | lst es=>
   cases a with
   | lst h rs=>
    show Ans mg E (Rp K mg) F H ((EY es).bind maxI) _;cases q:EY es with
    | ok ns=>
     have e:=UJ rs q;subst e;cases ns with
     | nil=>trivial
     | cons n l=>exact Ans.ret s (.int _) λQ z=>⟨_,n,l,rfl,s.seq h,z⟩
    | ex c=>exact aB q (Sw es)
    | bad=>trivial
  | _=>trivial
 .trivial
def ZkS:CallD K mg (Wn K) Im:=by
 intro E F H b f s r;unfold Im;split
 .next d=>
  obtain ⟨x,rfl,a⟩:=r.one;cases d with
  | lst es=>
   cases a with
   | lst h rs=>
    show Ans mg E (Rp K mg) F H ((EY es).bind minI) _;cases q:EY es with
    | ok ns=>
     have e:=UJ rs q;subst e;cases ns with
     | nil=>trivial
     | cons n l=>exact Ans.ret s (.int _) λQ z=>⟨_,n,l,rfl,s.seq h,z⟩
    | ex c=>exact aB q (Sw es)
    | bad=>trivial
  | _=>trivial
 .trivial
end
section
def Zr8(ha:SA K mg E t m)(hl:SAn n m)(hn:n<=sizeLine):SS K mg E (tAsg (tLst t) (FQ i)) (stO i (mls m)):=by
 intro o r F H Y Z a;have h:=ha o r F H Y Z a;unfold stO mls;cases e:m Z with
 | ok ds=>
  rw [e] at h;exact λD q=>h _ λb j s g d=>⟨by rw [d.length,hl Z ds e];exact hn,λp l=>q b _ _ g.f ((a.gr g).own i l d)⟩
 | ex c=>
  rw [e] at h;exact λD q=>h _ λb j C g k=>q b j C (a.g.trans g) k
 | bad=>trivial
end
section
variable {a b c' tg iter elt:Expr} {ts:List Expr} {ta tb tc:TE} {ma mb mc:ME} {sa sb:TT} {na nb:MB} {t:TA} {m:MA} {y:Str}
def ZqH(hN:X.N.Nodup)(hi:X.N[i]?=some x)(hx:Loc X.env.scope x)(ha:DA X E n es t m)(hn:n<=sizeLine:=by decide)(hs:swapsWith (.List es pos) (some (.Name x pos')) spos.line X.env=pure false:=by rfl)(hf:X.fn x=true\/X.env.scope.names.lookup x=some .local:=by first | exact .inl rfl | exact .inr rfl | assumption) :
  DS X E (.Assign [.Name x pos'] (.List es pos) spos) (tAsg (tLst t) (FQ i)) (stO i (mls m)):=⟨Rt hN hi hx (MF ha.p) hs hf,Zr8 ha.s ha.n hn⟩
def Sq(i)(he:DE X E e te me)(hN:X.N[i]?=some x:=by rfl)(hv:Eg X.env.scope x:=by first | exact Or.inl rfl | exact Or.inr (Or.inl rfl) | exact Or.inr (Or.inr rfl))(hd:ND x:=by decide)(hcd:NE x:=by decide)(hbase:attributeBase (.Name x np) "append" X.env (eval (.Name x np) X.env)=eval (.Name x np) X.env:=by rfl) (hfew:((backTo cpos (starEach [e] X.env)).all (λx=>!x.1)&&(backToKw cpos (keywordEach [] X.env)).all (λx=>x.1.isSome)
   && decide ([e].length+([]:List Keyword).length+(if ([]:List Keyword).isEmpty then 0 else 1)<30))=true:=by rfl) (hline:(apos.endLine==cpos.line)=true:=by rfl) (hs:starEach [e] X.env=(false,eval e X.env)::starEach [] X.env:=by rfl) (hplain:(backTo cpos (starEach [] X.env)).any (·.1)=false:=by rfl) (hsw:swapsWith (.Call (.Attribute (.Name x np) "append" apos) [e] [] cpos) none spos.line X.env=pure false:=by rfl) :
  DS X E (.Expr (.Call (.Attribute (.Name x np) "append" apos) [e] [] cpos) spos) (HH (tBM X.K "list" JK (tVar i) (Dt te tNil))) (app i me) :=
 ⟨KN (PX PySem.F.plainAttrs_list PySem.F.slot_list_append PySem.F.type_list_append Uv (GF hN hv hd hcd) (Fz he.p GC hs) hbase hfew hline hs hplain) hsw,
  ZsR he.s λH a b h=>.inl ⟨rfl,b,SqL.of h⟩⟩
end
end L2.Ds
namespace L2.Ds
open Dl
section
def del(F:Hp)(a:Addr):Hp:=λb=>if b=a then none else F b
def JZ{F:Hp}:del F a a=none:=iP rfl
def Gq{F:Hp}(h:b≠a):del F a b=F b:=iN h
def ZnG{F:Hp}(h:del F a b=some o):F b=some o:=by
 by_cases hb:b=a
 .subst hb;rw [JZ] at h;cases h
 .rw [Gq hb] at h;exact h
def Rep.look{F:Hp}(r:Rep K mg F0 H0 F H Y Z)(e:Z[i]?=some (.ow ds)) :
  ∃F',Rep K mg F0 H0 F' H Y (Z.set i (.im (.lst ds)))/\∀F1 H1,Gr F' H F1 H1->∃F2,Gr F H F2 H1:=by
 obtain ⟨a,v,w,G,p,t,B⟩:=r.ow i ds e;have h:Same F (upd F a (.lst v)):=Du p _;refine ⟨upd F a (.lst v),⟨⟨r.g.f.trans h,λb o q=>?_,λb o d c=>?_,λb o u q=>r.g.z b o u (Mr (λ_ _ z=>by cases z) q)⟩,by rw [Gm];exact r.len,λj u q=>?_,λj m q=>?_,λj k m A b d c I D=>?_⟩,λF1 H1 g=>⟨del F1 a,⟨λb o q=>?_,λb o q=>?_,λb o d c=>?_,λb o u q=>Mr (λ_ _ z=>by cases z) (g.z b o u (ZnG q))⟩⟩⟩
 .by_cases hb:b=a
  .subst hb;rw [Ax] at q;cases q;exact t
  .rw [Ag hb] at q;exact r.g.s b o q
 .rw [Ag (Bj c G)];exact r.g.o b o d c
 .rcases Cm q with ⟨rfl,z,_⟩ | ⟨_,q⟩
  .cases z;exact ⟨.ref a,w,.lst (SqL.of Ax) (B.same h)⟩
  .obtain ⟨x,l,n⟩:=r.im j u q;exact ⟨x,l,n.same h⟩
 .rcases Cm q with ⟨_,z,_⟩ | ⟨hij,q⟩
  .cases z
  .obtain ⟨b,E,l,n,y,J,L⟩:=r.ow j m q;have C:b≠a:=by
    rintro rfl;exact hij (r.ne i j ds m b e q w l)
   exact ⟨b,E,l,n,by rw [Ag C];exact y,J,L.same h⟩
 .rcases Cm d with ⟨_,z,_⟩ | ⟨_,d⟩
  .cases z
  .rcases Cm c with ⟨_,z,_⟩ | ⟨_,c⟩
   .cases z
   .exact r.ne j k m A b d c I D
 .rw [Gq (Bj q p)];exact g.f b o (h b o q)
 .by_cases hb:b=a
  .subst hb;rw [JZ] at q;cases q
  .rw [Gq hb] at q;exact g.s b o q
 .by_cases hb:b=a
  .subst hb;rw [t] at c;cases c;exact ⟨JZ,g.s _ _ (g.f _ _ Ax)⟩
  .rw [Gq hb];exact g.o b o (by rw [Ag hb];exact d) c
def Zwe(i)(h:STt K mg E t m):STt K mg E t (pkB i m):=by
 intro w u F H Y Z r;unfold pkB getO;split
 .next n e=>
  obtain ⟨v,s,a⟩:=r.look e;have z:=h w u v H Y _ s;show Ans mg E RB F H (m (Z.set i (.im (.lst n)))) _;cases em:m (Z.set i (.im (.lst n))) with
  | ok d=>
   rw [em] at z;exact λQ q=>z Q λj f b k o=>by
    obtain ⟨g,l⟩:=a j f k;exact q g f b l o
  | ex c=>
   rw [em] at z;exact λQ q=>z Q λj f C k p=>by
    obtain ⟨g,l⟩:=a j f k;exact q g f C l p
  | bad=>trivial
 .trivial
end
section
variable {l:Nat} {y:Str} {Cy:Addr} {f:List D->Res D} {t:TA} {m:MA} {u:Addr->TS} {b:MS} {p yp epos hpos:Pos} {b0:Stmt} {suite:List Stmt} {hits:List Str} {tt:TT} {mt:MB}
def ZvQ(i)(h:DT X E e tt mt):DT X E e tt (pkB i mt):=⟨h.p,Zwe i h.s⟩
end
section
mutual
def Xy(I:Inv X pins Y H s){x:V}{d d':PyData}(h:DV X.K H x d)(h':DV X.K H x d'):d=d':=by
 cases h with
 | non=>cases h';rfl
 | bl _=>cases h';rfl
 | int _=>cases h';rfl
 | str _=>cases h';rfl
 | tup h q=>
  cases h' with
  | tup h' q'=>
   have e:=I.tuple_inj h h';subst e;rw [Uu I q q']
  | lst h' q'=>
   obtain ⟨_,_,⟨o,c,f,_⟩,_⟩:=I.tuple h;obtain ⟨_,_,⟨g,_,a,b,_⟩,_⟩:=I.list h';rw [c] at a;cases a;rw [f] at b;simp at b
 | lst h q=>
  cases h' with
  | lst h' q'=>
   have e:=I.list_inj h h';subst e;rw [Uu I q q']
  | tup h' q'=>
   obtain ⟨_,_,⟨o,c,f,_⟩,_⟩:=I.tuple h';obtain ⟨_,_,⟨g,_,a,b,_⟩,_⟩:=I.list h;rw [c] at a;cases a;rw [f] at b;simp at b
def Uu(I:Inv X pins Y H s){xs:List V}{ds ds':List PyData}(h:DVs X.K H xs ds)(h':DVs X.K H xs ds'):ds=ds':=by
 cases h with
 | nil=>cases h';rfl
 | cons h r=>
  cases h' with
  | cons h' r'=>rw [Xy I h h',Uu I r r']
end
def hitE(X:Cx)(H:Hp)(dx:PyData)(u:Value):Bool:=@decide (∃y d,RelV y u/\DV X.K H y d/\PyData.eqv d dx=true) (Classical.propDecidable _)
def Tv(I:Inv X pins Y H s){d:PyData}(r:RelV y u)(h:DV X.K H y d):hitE X H dx u=PyData.eqv d dx:=by
 unfold hitE;cases e:PyData.eqv d dx with
 | true=>exact @Aj _ (Classical.propDecidable _) ⟨y,d,r,h,e⟩
 | false=>
  refine @Al _ (Classical.propDecidable _) ?_;rintro ⟨g,i,c,f,a⟩;have b:=r.inj c;subst b;rw [Xy I h f,a] at e;cases e
def M3(I:Inv X pins Y H s):∀{ys:List V} {its:List Value} {ds:List PyData},Vals ys its->DVs X.K H ys ds->its.any (hitE X H dx)=ds.any λd=>PyData.eqv d dx
 | _,_,_,.nil,.nil=>rfl
 | _,_,_,.cons r1 r2,.cons h1 h2=>by rw [List.any_cons,List.any_cons,M3 I r2 h2,Tv I r1 h1]
def Su(I:Inv X pins Y H s):∀{ys:List V} {its:List Value} {ds:List PyData} {u:Value},Vals ys its->DVs X.K H ys ds->PyData.canLayAll0 ds=true->u∈its->∃y d,RelV y u/\DV X.K H y d/\d.canLay0=true
 | _,_,_,_,.nil,.nil,_,hu=>by cases hu
 | _,_,_,u,.cons r1 r2,.cons h1 h2,hc,hu=>by
  have a:=(by simpa [PyData.canLayAll0] using hc);rcases An.mp hu with rfl | hu
  .exact ⟨_,_,r1,h1,a.1⟩
  .exact Su I r2 h2 a.2 hu
def rInD(K:W.Frag)(f:Bool->Bool):R2:=λx y H Q=>∃a e c b,y=.ref a/\(SqL K H a e\/SqT K H a e)/\DV K H x c/\DVs K H e b/\c.canLay0=true/\PyData.canLayAll0 b=true/\c.depth<=50/\Q (.bl (f (b.any λd=>PyData.eqv d c))) H
end
section
def ZtM(hu:X.A.units+64<cLine):OpR X (compareOp .In) (rInD X.K id):=by
 intro k s Y H x y v u Q I p r h;obtain ⟨a,w,c,g,rfl,hq,o,j,C,z,N,q⟩:=h;cases r;obtain ⟨L,D⟩:=o.reads I p;have n:∀{b:List Value},Vals w b->∀u,u∈b.toArray->PySem.SeqAt.EqAt X.A.in1 s u v (hitE X H c u):=λ{b} f u F=>by
  obtain ⟨M,J,m,l,E⟩:=Su I f j z (by simpa using F);obtain ⟨t,B⟩:=l.reads I m;rw [Tv I m l];exact PySem.SeqAt.eqAt_reads J c X.A.in1 s u v t L B D E C (by show X.A.units+1+_<_;omega)
 rcases hq with hq | hq
 .obtain ⟨b,f,i,G⟩:=I.list hq;refine PySem.SeqAt.in_listAt (hitE X H c) i.isList (n f) ?_;have e:b.toArray.any (hitE X H c)=g.any λd=>PyData.eqv d c:=by rw [List.any_toArray];exact M3 I f j
  rw [e];exact ⟨.bl _,H,I,rfl,q⟩
 .obtain ⟨b,f,i,G⟩:=I.tuple hq;refine PySem.SeqAt.in_tupleAt (hitE X H c) (i) (n f) ?_;have e:b.toArray.any (hitE X H c)=g.any λd=>PyData.eqv d c:=by rw [List.any_toArray];exact M3 I f j
  rw [e];exact ⟨.bl _,H,I,rfl,q⟩
def Xb(hu:X.A.units+64<cLine):OpR X (compareOp .NotIn) (rInD X.K not):=by
 intro k s Y H x y v u Q I p r h;obtain ⟨a,w,c,g,rfl,hq,o,j,C,z,N,q⟩:=h;cases r;obtain ⟨L,D⟩:=o.reads I p;have n:∀{b:List Value},Vals w b->∀u,u∈b.toArray->PySem.SeqAt.EqAt X.A.in1 s u v (hitE X H c u):=λ{b} f u F=>by
  obtain ⟨M,J,m,l,E⟩:=Su I f j z (by simpa using F);obtain ⟨t,B⟩:=l.reads I m;rw [Tv I m l];exact PySem.SeqAt.eqAt_reads J c X.A.in1 s u v t L B D E C (by show X.A.units+1+_<_;omega)
 rcases hq with hq | hq
 .obtain ⟨b,f,i,G⟩:=I.list hq;refine PySem.SeqAt.notIn_listAt (hitE X H c) i.isList (n f) ?_;have e:b.toArray.any (hitE X H c)=g.any λd=>PyData.eqv d c:=by rw [List.any_toArray];exact M3 I f j
  rw [e];exact ⟨.bl _,H,I,rfl,q⟩
 .obtain ⟨b,f,i,G⟩:=I.tuple hq;refine PySem.SeqAt.notIn_tupleAt (hitE X H c) (i) (n f) ?_;have e:b.toArray.any (hitE X H c)=g.any λd=>PyData.eqv d c:=by rw [List.any_toArray];exact M3 I f j
  rw [e];exact ⟨.bl _,H,I,rfl,q⟩
def ZpX(x)(k)(hx:Dl.plain k x=true):∀ys l,Dl.Bv l ys=true->((pyDs ys).any λd=>PyData.eqv d (pyD x))=inD x ys
 | [],_,_=>rfl
 | y::r,l,h=>by
  have a:Dl.plain l y=true/\Dl.Bv l r=true:=by simpa [Dl.Bv] using h
  show (PyData.eqv (pyD y) (pyD x)||(pyDs r).any _)=(eqD y x||inD x r);rw [ZpX x k hx r l a.2,<-Qm y x l k a.1 hx]
def Zmp{F:Hp}{x:V}(s:Same F H)(rx:Rp K mg F x dx)(ry:Rp K mg F y dy) :
  Ans mg E (Rp K mg) F H ((seqD dy).bind λys=>if Dl.plain 50 dx&&Dl.Bv 50 ys then .ok (.bl (f (inD dx ys))) else .bad) (rInD K f x y H):=by
 have c:∀a b ys,y=.ref a->(SqL K H a b\/SqT K H a b)->Rps K mg F b ys->Ans mg E (Rp K mg) F H (if Dl.plain 50 dx&&Dl.Bv 50 ys then .ok (.bl (f (inD dx ys))) else .bad) (rInD K f x y H):=by
  rintro a b ys rfl i j;by_cases hp:(Dl.plain 50 dx&&Dl.Bv 50 ys)=true
  .rw [iP hp];rw [Bo] at hp;obtain ⟨d,e⟩:=LC dx 50 hp.1;obtain ⟨g,_⟩:=Ph ys 50 hp.2;refine Ans.ret s (.bl _) λQ q=>⟨a,b,pyD dx,pyDs ys,rfl,i,KH s (LK rx hp.1),Rk s (Qf j hp.2),d,g,e,?_⟩;rw [ZpX dx 50 hp.1 ys 50 hp.2];exact q
  .rw [iN hp];trivial
 cases dy with
 | lst ys=>
  cases ry with
  | lst h r=>exact c _ _ ys rfl (.inl (s.seq h)) r
 | tup ys=>
  cases ry with
  | tup h r=>exact c _ _ ys rfl (.inr (Ed s h)) r
 | _=>trivial
def ZsU:OpD K mg (rInD K id) dIn:=λ_ _ _ _ _ _ _ s b a=>Zmp (f:=id) s b a
def ZmE:OpD K mg (rInD K not) dNin:=λ_ _ _ _ _ _ _ s b a=>Zmp (f:=not) s b a
variable{a b:Expr}{ta tb:TE}{ma mb:ME}
def Zu8(hr:Room k X.A)(ha:DE X E a ta ma)(hb:DE X E b tb mb)(hm:behindInMarks .NotIn b=false:=by rfl):DE X E (.Compare a [.NotIn] [b] pos) (tOp (rInD X.K not) ta tb) (o2 dNin ma mb):=Lf (Xb hr.units) ZmE ha hb hm
def T3(hr:Room k X.A)(ha:DE X E a ta ma)(hb:DE X E b tb mb)(hm:behindInMarks .In b=false:=by rfl):DT X E (.Compare a [.In] [b] pos) (Ec (tOp (rInD X.K id) ta tb)) (trb (o2 dIn ma mb)):=HN (ZtM hr.units) ZsU ha hb hm
def T7(hr:Room k X.A)(ha:DE X E a ta ma)(hb:DE X E b tb mb)(hm:behindInMarks .NotIn b=false:=by rfl):DT X E (.Compare a [.NotIn] [b] pos) (Ec (tOp (rInD X.K not) ta tb)) (trb (o2 dNin ma mb)):=HN (Xb hr.units) ZmE ha hb hm
end
end L2.Ds
namespace Dl
def H9(f g h:D->D->Res D)(a b d e:ME):ME:=λZ=>(a Z).bind λx=>(b Z).bind λy=>(f x y).bind λz=>(tru z).bind λb=>if b=true then (d Z).bind λu=>(g y u).bind λz=>(tru z).bind λb=>if b=true then (e Z).bind λw=>h u w else .ok (.bl false) else .ok (.bl false)
end Dl
namespace L2.Ds
open PySem.Calls Dl
def GTup(K:W.Frag)(mg:Str->Option Value)(x:Str)(ns:List Int):Prop:=∃a o b n,mg x=some (.ref a)/\K.lookup a=some o/\o.cls=.type "tuple"/\o.data=.seq b n/\b.size<=sizeLine/\Vals (ns.map V.int) b.toList
def Ys{F:Hp}:∀ns:List Int,Rps K mg F (ns.map V.int) (ns.map D.int)
 | []=>.nil
 | n::r=>.cons (.int n) (Ys r)
section
variable {a b c tg:Expr} {t:TA} {m:MA} {tb:TE} {mb:ME} {p lpos:Pos}
def Zqf{ns:List Int}{A:Addr}{o:Obj}{its:Array Value}(hg:Gl X x)(hm:X.mg x=some (.ref A))(h1:X.K.lookup A=some o)(h2:o.cls=.type "tuple")(h3:o.data=.seq its n)(h4:its.size<=sizeLine)(h5:Vals (ns.map V.int) its.toList)(hd:ND x:=by decide) :
  DE X E (.Name x pos) (tC (.ref A)) (Dl.c (.tup (ns.map .int))):=⟨Kp hg hm rfl hd,se_c λ_=>.tup (.inr ⟨o,its,n,h1,h2,h3,h4,h5⟩) (Ys ns)⟩
end
end L2.Ds
namespace L2.Ds
open PySem.Calls Dl
section
variable {a b c d o:Expr} {ta tb tc td to:TE} {ma mb mc md mo:ME} {apos:Pos}
def Mf(r r' r'':R2)(ta tb tc td:TE):TE:=λY H Q=>ta Y H λx g=>tb Y g λy e=>r x y e λz c=>∃k,z=.bl k /\
 (if k=true then tc Y c λa i=>r' y a i λf d=>∃b,f=.bl b/\(if b=true then td Y d λj h=>r'' a j h Q else Q (.bl false) d) else Q (.bl false) c)
def Zmy(ho:OpR X (compareOp op) r)(ho':OpR X (compareOp op') r')(ho'':OpR X (compareOp op'') r'')(ha:PE X a ta)(hb:PE X b tb)(hc:PE X c tc)(hd:PE X d td)(hm:lastMarks [op,op',op''] [b,c,d]=false:=by with_unfolding_all rfl):PT X (.Compare a [op,op',op''] [b,c,d] pos) (Ec (Mf r r' r'' ta tb tc td)):=by
 intro f s Y H Q I h
 refine isTrue_chain (thn (ha f s Y H _ I h) λv E zq=>?_) hm;obtain ⟨x,P,V,r1,q1⟩:=zq;refine test_link (thn (hb f E Y P _ V q1) λu L zq=>?_);obtain ⟨y,H2,U,n,S⟩:=zq;refine thn (ho f L Y H2 x y v u _ U r1 n S) λd s3 zq=>?_;obtain ⟨z,w,l,N,k,e,t⟩:=zq
 subst e;cases N;refine Fy ?_;cases k with
 | false=>
  obtain ⟨k',i,g⟩:=t;cases i;exact ite_ff ⟨w,l,g⟩
 | true=>
  refine ite_tt (test_link (thn (hc f s3 Y w _ l t) λq s4 zq=>?_));obtain ⟨m,J,I4,p,Z⟩:=zq;refine thn (ho' f s4 Y J y m u q _ I4 n p Z) λd' F zq=>?_;obtain ⟨z2,j,o,K,M,T,A⟩:=zq;subst T;cases K;refine Fy ?_;cases M with
  | false=>
   obtain ⟨k',i,g⟩:=A;cases i;exact ite_ff ⟨j,o,g⟩
  | true=>
   refine ite_tt (test_last (thn (hd f F Y j _ o A) λw2 D zq=>?_));obtain ⟨B,H6,I6,R,W⟩:=zq;refine thn (ho'' f D Y H6 m B q w2 _ I6 p R W) λd2 s7 zq=>?_;obtain ⟨z4,O,I7,C,k3,G,q7⟩:=zq;subst G;cases C;exact Fy ⟨O,I7,q7⟩
def Zr(hf:OpD K mg r f)(hg:OpD K mg r' g)(hh:OpD K mg r'' h)(ha:SE K mg E ta ma)(hb:SE K mg E tb mb)(hc:SE K mg E tc mc)(hd:SE K mg E td md):SE K mg E (Mf r r' r'' ta tb tc td) (H9 f g h ma mb mc md):=by
 intro l i F H Y Z A;refine (ha l i F H Y Z A).bind λT p x dx M R=>?_;refine (hb l i T p Y Z (A.gr M)).bind λW X y e B G=>?_;refine (hf E W X x y dx e B.s (R.same B.f) G).bind λP O z m t o=>?_;cases m with
 | bl b=>
  cases o;show Ans mg E (Rp K mg) P O (if b=true then (mc Z).bind λu=>(g e u).bind λz=>(tru z).bind λb=>if b=true then (md Z).bind λw=>h u w else .ok (.bl false) else .ok (.bl false)) _
  have J:=(A.gr M).gr (B.trans t);cases b with
  | true=>
   rw [iP rfl];have w:=(hc l i P O Y Z J).bind (k:=λu=>(g e u).bind λz=>(tru z).bind λb=>if b=true then (md Z).bind λw=>h u w else .ok (.bl false)) (w':=λu p Q=>r' y u p λU a=>∃N,U=.bl N/\(if N=true then td Y a λD C=>r'' u D C Q else Q (.bl false) a)) λV S u j n L=>by
    refine (hg E V S y u e j n.s (G.same (t.f.trans n.f)) L).bind (R':=Rp K mg) λI a z m v o=>?_;cases m with
    | bl b=>
     cases o;show Ans mg E (Rp K mg) I a (if b=true then (md Z).bind λw=>h j w else .ok (.bl false)) _
     cases b with
     | true=>
      rw [iP rfl];have w:=(hd l i I a Y Z (J.gr (n.trans v))).bind λF6 C D dw g6 rw=>hh E F6 C u D j dw g6.s (L.same (v.f.trans g6.f)) rw;generalize ((md Z).bind λw=>h j w)=res at w;cases res with
      | ok d=>exact λQ q=>⟨true,rfl,by simp only [Cw];exact w Q q⟩
      | ex c=>exact λQ q=>⟨true,rfl,by simp only [Cw];exact w Q q⟩
      | bad=>trivial
     | false=>
      rw [iN Cj];exact .ret v.s (.bl false) λQ q=>⟨false,rfl,by simp only [Di,Cu];exact q⟩
    | _=>trivial
   generalize ((mc Z).bind λu=>(g e u).bind λz=>(tru z).bind λb=>if b=true then (md Z).bind λw=>h u w else .ok (.bl false))=res at w
   cases res with
   | ok d=>exact λQ q=>⟨true,rfl,by simp only [Cw];exact w Q q⟩
   | ex c=>exact λQ q=>⟨true,rfl,by simp only [Cw];exact w Q q⟩
   | bad=>trivial
  | false=>
   rw [iN Cj];exact .ret t.s (.bl false) λQ q=>⟨false,rfl,by simp only [Di,Cu];exact q⟩
 | _=>trivial
def Zmb(ho:OpR X (compareOp op) r)(hf:OpD X.K X.mg r f)(ho':OpR X (compareOp op') r')(hg:OpD X.K X.mg r' g)(ho'':OpR X (compareOp op'') r'')(hh:OpD X.K X.mg r'' h)(ha:DE X E a ta ma)(hb:DE X E b tb mb)(hc:DE X E c tc mc)(hd:DE X E d td md)(hm:lastMarks [op,op',op''] [b,c,d]=false:=by with_unfolding_all rfl) :
  DT X E (.Compare a [op,op',op''] [b,c,d] pos) (Ec (Mf r r' r'' ta tb tc td)) (trb (H9 f g h ma mb mc md)):=⟨Zmy ho ho' ho'' ha.p hb.p hc.p hd.p (hm:=hm),RV (Zr hf hg hh ha.s hb.s hc.s hd.s)⟩
end
end L2.Ds
namespace Dl
def Cr(it:MI)(own:Nat)(cap:List Nat)(g:MG)(t:MB)(e:ME):ME:=λZ=>(it Z).bind λa=>
 if a.length<=LIM then (BR g t e (noA own (Bu Z cap)) a).bind λb=>.ok (.lst b) else .bad
end Dl
namespace L2
section
variable{M:Model} {E:Value->Shared->Prop} {B:Heap} {env cenv:Env} {outer l:List Env} {L e:Addr} {cls a0 fl:Value}
def Zi{h h' B':Heap}(sB:∀b o,B'.get? b=some o->B.get? b=some o)(k:∀b o,b≠C->h.get? b=some o->h'.get? b=some o):∀{l:List Env},C∉frs l->h.FunFrames B l->h'.FunFrames B' l
 | [],_,_=>trivial
 | v::r,hC,⟨h1,⟨L,o,h2,h3,h4,h5⟩,h6⟩=>by
  have a:L≠C/\C∉frs r:=by
   unfold frs at hC ⊢;rw [Mj,h2] at hC;exact ⟨λz=>hC (z▸Aw),λz=>hC (Av _ z)⟩
  refine ⟨h1,⟨L,o,h2,?_,k L o a.1 h4,h5⟩,Zi sB k a.2 h6⟩;cases q:B'.get? L with
  | none=>rfl
  | some u=>rw [sB L u q] at h3;cases h3
def ZeQ(hfr:A.frames=some (env::outer))(hf:env.frame=some L)(hkb:B.StaysIn s.heap)(hen:B.get? e=none)(hl:s.heap.FunFrames B (env::outer))(ht:s.heap.TracedAtW B e cls a0 fl)(hQ:∀h',Heap.FlyingW B outer e cls a0 h'->s.heap.UpToSlots h'->Q () { s with heap:=h' }):wpAny M A (leaving env (.ref e)) Q E s:=by
 by_cases hfl:fl=rawInt L
 .subst hfl;refine Ac (wpAny_noteFrame_againW hf ht ?_);refine wpAny_landsW ⟨hkb,hen,hl,ht⟩ λh' m F=>?_;obtain ⟨D,y,⟨_,_,G⟩,C⟩:=m;exact hQ h' ⟨D,y,G,C⟩ F
 .obtain ⟨J,u,T,K,w,t,⟨h,v⟩,p,n,l,j,k,f,r⟩:=ht;subst h;have a:∀b,b≠T->(s.heap.update T (Obj.mapFields (·.setIfInBounds 3 Value.none))).get? b=s.heap.get? b:=λb d=>K5 _ _ (Ne.symm d);have i:∀b o,s.heap.get? b=some o->(∀u,o.data≠.fields u)->b≠T:=λb o d c q=>by
   rw [q,k] at d;cases d;exact c w f
  unfold leaving noteFrame;simp only [hf];refine Ac (Ac (Es t p n ?_));refine Ac (Es k f r ?_);rw [iN (by simpa using hfl)];refine Ac (Le k f (Hk.mp r).1 ?_);refine wpAny_newEntryW hfr (hl.of_keeps λb o d c=>⟨o,(a b (i b o d c)).trans d,rfl⟩) hf ((a e (Ne.symm j)).trans t) (λb o g=>(a b λq=>by rw [q,l] at g;cases g).trans (hkb b o g)) hen p (Hk.mp n).1 v λh' x=>?_;obtain ⟨m,⟨_,_,z⟩,H,I⟩:=x;exact hQ h' ⟨m,hen,z,H⟩ λb o d c=>I b o ((a b (i b o d c)).trans d) c
def Vy(hfr:A.frames=some (env::outer))(hf:env.frame=some L)(hkb:B.StaysIn s.heap)(hen:B.get? e=none)(hl:s.heap.FunFrames B (env::outer))(ht:s.heap.TracedAtW B e cls a0 fl)(hQ:∀h',Heap.FlyingW B outer e cls a0 h'->s.heap.UpToSlots h'->KD s.heap h'->Q () { s with heap:=h' }):wpAny M A (leaving env (.ref e)) Q E s :=
 BV (Ha (Ov _ _) (ZeQ (Q:=λ_ d=>∃h',d={ s with heap:=h' }/\Heap.FlyingW B outer e cls a0 h'/\s.heap.UpToSlots h') hfr hf hkb hen hl ht λh' b a=>⟨h',rfl,b,a⟩))
  (λ_ _ ⟨⟨h',z,b,a⟩,c⟩=>by subst z;exact hQ h' b a c) λ_ _ z=>z.1
def Ze2(hkb:B.StaysIn s.heap)(hl:s.heap.FunFrames B l)(ht:s.heap.TracedAtW B e cls a0 fl)(h:∀h' fl',B.StaysIn h'->h'.FunFrames B l->h'.TracedAtW B e cls a0 fl'->(∀b o,s.heap.get? b=some o->(∀vs,o.data≠.fields vs)->h'.get? b=some o)->KD s.heap h'->E (.ref e) { s with heap:=h' }) :
  wpAny M A (PySem.passOn what (.ref e) cenv:Sem Value) (λ_ _=>False) E s:=by
 obtain ⟨y,vs,T,z,x,r,j,u,p,k,m,t,g,w⟩:=ht;have v:=(Hk.mp w).1;have a:∀b,b≠T->(s.heap.update T (Obj.mapFields (·.setIfInBounds 3 (cenv.frame.elim Value.none λf=>rawInt f)))).get? b=s.heap.get? b:=λb d=>K5 _ _ (Ne.symm d);have n:∀b o,s.heap.get? b=some o->(∀vs,o.data≠.fields vs)->b≠T:=λb o d c q=>by
  rw [q,t] at d;cases d;exact c x g
 refine Ac (Es r u p ?_);refine Ac ?_;refine Ac (Es r u p ?_);refine Le t g v ?_;refine wpAny_throw ?_;refine h _ (cenv.frame.elim Value.none λf=>rawInt f) (λb o i=>(a b λq=>by rw [q,k] at i;cases i).trans (hkb b o i)) (hl.of_keeps λb o d c=>⟨o,(a b (n b o d c)).trans d,rfl⟩) ?_ (λb o d c=>(a b (n b o d c)).trans d) (KD.update _ _ (VN (by decide) _));exact ⟨y,vs,T,_,_,(a e (Ne.symm m)).trans r,j,u,p,k,m,Ip _ t (Obj.isFreed_of_fields (O9 g _)),O9 g _,by simp [v]⟩
end
structure FlyA(ff:Value)(P:Program)(w:World)(l:List Env)(H H':Hp)(s s':Shared)(x:Addr)(cls:Value):Prop where
 os:s'.os=s.os
 bare:AllBare s'.gens
 un:Un (frs l) [] H H' s.heap s'.heap
 hok:HOk P w H' s'.heap
 frf:∀b∈frs l,H' b=none
 free:H' x=none
 ex:∃(B:Heap) (a0:Value),(B.StaysIn s'.heap/\B.get? x=none/\s'.heap.FunFrames B l/\s'.heap.TracedAtW B x cls a0 ff)/\∀b o,s'.heap.get? b=some o->(H' b≠none\/∃o',s.heap.get? b=some o')->b∉frs l->B.get? b=some o
def CXA(P:Program)(w:World):CXT:=λa H s E e d=>∃x b p c f,e=.ref x/\FlyA f P w a H c s d x b/\HW p x c s.heap d.heap/\E b p c
def CXR.a{e:Value}(h:CXR P w l H s E e s'):CXA P w l H s E e s':=by
 obtain ⟨x,b,p,d,rfl,F,c,q⟩:=h;exact ⟨x,b,p,d,.none,rfl,⟨F.os,F.bare,F.un,F.hok,F.frf,F.free,F.ex⟩,c,q⟩
def Zo1{E:Value->Shared->Prop}{e:Addr}(hfr:A.frames=some (env::outer))(hf:env.frame=some L)(hkb:B.StaysIn s.heap)(hen:B.get? e=none)(hl:s.heap.FunFrames B (env::outer))(ht:s.heap.TracedAtW B e cls a0 fl)(hQ:∀h',Heap.HeldW B (env::outer) e cls a0 L h'->s.heap.UpToSlots h'->KD s.heap h'->Q () { s with heap:=h' }):wpAny M A (noteFrame (.ref e) env) Q E s:=by
 refine BV (Ha (QZ _ _) (Q:=λ_ C=>∃h',C={ s with heap:=h' }/\Heap.HeldW B (env::outer) e cls a0 L h'/\s.heap.UpToSlots h') ?_) (λ_ _ ⟨⟨h',z,n,k⟩,G⟩=>by subst z;exact hQ h' n k G) λ_ _ z=>z.1
 by_cases hfl:fl=rawInt L
 .subst hfl;exact wpAny_noteFrame_againW hf ht ⟨s.heap,rfl,⟨hkb,hen,hl,ht⟩,λb o z _=>⟨o.slots,z⟩⟩
 .obtain ⟨H,u,T,I,y,t,⟨i,w⟩,v,r,j,l,m,g,p⟩:=ht;subst i;have a:∀b,b≠T->(s.heap.update T (Obj.mapFields (·.setIfInBounds 3 Value.none))).get? b=s.heap.get? b:=λb d=>K5 _ _ (Ne.symm d);have h:∀b o,s.heap.get? b=some o->(∀u,o.data≠.fields u)->b≠T:=λb o d c q=>by
   rw [q,m] at d;cases d;exact c y g
  unfold noteFrame;simp only [hf];refine Ac (Es t v r ?_);refine Ac (Es m g p ?_);rw [iN (by simpa using hfl)];refine Ac (Le m g (Hk.mp p).1 ?_);refine wpAny_entryW hfr (hl.of_keeps λb o d c=>⟨o,(a b (h b o d c)).trans d,rfl⟩) hf ((a e (Ne.symm l)).trans t) (λb o f=>(a b λq=>by rw [q,j] at f;cases f).trans (hkb b o f)) hen v (Hk.mp r).1 w λh' x=>?_;obtain ⟨n,k,D,F⟩:=x;exact ⟨h',rfl,⟨n,hen,k,D⟩,λb o d c=>F b o ((a b (h b o d c)).trans d) c⟩
def ZmR{s':Shared}{x:Addr}{B h':Heap}(os:s'.os=s.os)(bare:AllBare s'.gens)(un:Un (frs l) [] H H' s.heap s'.heap)(hok:HOk P w H' s'.heap)(frf:∀b∈frs l,H' b=none)(nf:∀b∈frs l,∃o,s'.heap.get? b=some o/\∀vs,o.data≠.fields vs)(cov:∀b o,s'.heap.get? b=some o->(H' b≠none\/∃o',s.heap.get? b=some o')->b∉frs l->B.get? b=some o)(sub:∀b∈frs l',b∈frs l)(new:∀b∈frs l,b∉frs l'->s.heap.get? b=none)(fl:B.StaysIn h'/\B.get? x=none/\h'.FunFrames B l'/\h'.TracedAtW B x cls a0 ff)(sm:∀b∈frs l,∀o,s'.heap.get? b=some o->(∀vs,o.data≠.fields vs)->∃sl,h'.get? b=some { o with slots:=sl })(free:H' x=none) :
  FlyA ff P w l' H H' s { s' with heap:=h' } x cls:=by
 have d:=λb o e q hb=>fl.1 b o (cov b o e q hb);have f:∀{b:Addr} {o:Obj},s.heap.get? b=some o->b∉frs l'->b∉frs l:=λ{b o} e hb z=>by
  rw [new b z hb] at e;cases e
 refine ⟨os,bare,⟨λb o e n hb j=>?_,λb o e n hb j=>?_,un.free,λb o e j=>?_,un.tups,un.frzs,un.tbls⟩,λa o e=>?_,λb hb=>frf b (sub b hb),free,B,a0,fl,λb o e q hb=>?_⟩
 .exact d b o (un.keep b o e n (f e hb) j) (.inr ⟨o,e⟩) (f e hb)
 .obtain ⟨sl,q⟩:=un.slot b o e n (sub b hb) j;obtain ⟨h,g,k⟩:=nf b (sub b hb);rw [q] at g;cases g;obtain ⟨i,p⟩:=sm b (sub b hb) _ q k;exact ⟨i,p⟩
 .obtain ⟨o',q⟩:=un.there b o e j;by_cases hb:b∈frs l
  .obtain ⟨h,g,k⟩:=nf b hb;obtain ⟨i,p⟩:=sm b hb _ g k;exact ⟨_,p⟩
  .exact ⟨o',d b o' q (.inr ⟨o,e⟩) hb⟩
 .refine (hok a o e).stay (λb u hb q=>?_) (λ_ q=>q) λ_ _ q=>q;have r:H' b≠none:=by
   rcases hb with rfl | hb
   .rw [e];simp
   .rw [hb];simp
  exact d b u q (.inl r) λz=>r (frf b z)
 .have m:b∉frs l:=by
   intro z;rcases q with q | ⟨o',q⟩
   .exact q (frf b z)
   .exact f q hb z
  have ⟨h,g⟩ : ∃h,s'.heap.get? b=some h:=by
   rcases q with q | ⟨o',q⟩
   .cases z:H' b with
    | none=>exact aB z q
    | some u=>exact (hok b u z).there
   .exact un.there b o' q (by simp)
  have c:=cov b h g q m;have z:=fl.1 b h c;have t:=e;rw [t] at z;cases z;exact c
def xfE(E:XK)(X:Cx):Addr->Shared->Hp->List Addr->Value->Shared->Prop:=λC s H c e d=>∃b a,a.os=s.os/\Un (frs X.stack) c H b s.heap a.heap/\(∃m,a.heap.Ns C m)/\b C=none/\CXA X.prog X.w X.stack b a E e d
def Zru:Fd (CXR X.prog X.w) (Bs (xfE E X) X N scope cl C s H fp pn) E:=by
 intro b Y f d e g I h;obtain ⟨m,c,_⟩:=I.loc;exact ⟨f,d,I.os,I.base,⟨m,c⟩,I.free,h.a⟩
section
variable {s7:Shared} {fp:List Addr} {scope:Scope} {cells:List (Str×Addr)} {C:Addr} {e acc:Value} {use:Option (Value->Sem Unit)} {Q:Value->Shared->Prop}
def Un.strip(u:Un fs ex H H1 h h1)(n:∀b∈ex,h.get? b=none\/b∈ex'):Un fs ex' H H1 h h1:=by
 have c:∀{b:Addr} {o:Obj},h.get? b=some o->b∉ex'->b∉ex:=λ{b o} e q z=>by
  rcases n b z with z | z
  .rw [z] at e;cases e
  .exact q z
 exact ⟨λb o e a d q=>u.keep b o e a d (c e q),λb o e a d q=>u.slot b o e a d (c e q),λb o e a q=>u.free b o e a (c e q),λb o e q=>u.there b o e (c e q),u.tups,u.frzs,u.tbls⟩
def Un.hide(u:Un fs ex H H1 h h1)(n:h.get? C=none):Un fs ex H H1 h (W.hideAll h1 [C]):=by
 have c:∀{b:Addr} {o:Obj},h.get? b=some o->b∉[C]:=λ{b o} e z=>by rw [De.mp z,n] at e;cases e
 exact ⟨λb o e d f a=>Io _ (u.keep b o e d f a) (c e),λb o e d f a=>(u.slot b o e d f a).imp λ_ z=>Io _ z (c e),u.free,λb o e q=>(u.there b o e q).imp λ_ z=>Io _ z (c e),u.tups,u.frzs,u.tbls⟩
def Un.ofHide(u:Un fs ex H H1 h h1):Un fs ex H H1 (W.hideAll h l) h1 :=
 ⟨λb o e=>u.keep b o (Gj _ e),λb o e=>u.slot b o (Gj _ e),λb o e=>u.free b o (Gj _ e),λb o e=>u.there b o (Gj _ e),u.tups,u.frzs,u.tbls⟩
def ZnU{env0:Env}(hst:X.stack=env0::outer0)(hfr:env0.frame=some L0)(hf0:X.env.frame=some L0)(I:Inv X pins Y H s)(hC:s.heap.objs.size<=C)(h:xfE E X C s H fp e s7)(K:∀s',(∃H6 s6,s6.os=s.os/\Un (frs X.stack) fp H H6 s.heap s6.heap/\CXA X.prog X.w X.stack H6 s6 E e s')->X.xe e s') :
  notedBy (model X.prog X.w) X.A (compEnvC scope cells C X.env) (λe s'=>compPost (model X.prog X.w) X.A X.xe use Q acc C (.error e) s') e s7:=by
 obtain ⟨H6,s6,os6,un6,⟨m,oc,es,ep,ho,L,hk⟩,fC,x,N,p,H',ff,rfl,F,py,q⟩:=h;obtain ⟨B,a0,⟨fl1,fl2,V,fl4⟩,cov⟩:=F.ex;have t:C∉frs X.stack:=λz=>by
  rcases An.mp (I.stkSub C z) with q | q
  .exact aB (Bp I.lt hC) (by rw [q];exact GK _)
  .exact I.nofs hC q
 have C7:=F.un.keep C oc ho fC t (by simp);have nC7:=F.un.free C oc ho fC (by simp);have C0:=Fg hC;have ns7:s7.heap.Ns C m:=⟨oc,es,ep,C7,L,hk⟩;have en:noteFrame (.ref x) (compEnvC scope cells C X.env)=noteFrame (.ref x) env0:=by
  unfold noteFrame PySem.frameOf;rw [show (compEnvC scope cells C X.env).frame=env0.frame from hf0.trans hfr.symm]
 show wpAny _ _ (noteFrame (.ref x) (compEnvC scope cells C X.env)) _ _ s7;rw [en];refine Zo1 (by rw [<-hst];exact I.ok.frames) hfr fl1 fl2 (by rw [<-hst];exact V) fl4 λh8 held i P=>?_;obtain ⟨k1,k2,k3,k4⟩:=held;refine ⟨m,i.ns ns7,λh9 sb cenv' _=>?_⟩;have a:=λb o R z=>sb.extBut b o R z;obtain ⟨sl8,C8⟩:=i C oc C7 λvs z=>by rw [L] at z;cases z
 have v:∀{b:Addr} {o:Obj} {vs:Array Value},h8.get? b=some o->o.data=.fields vs->b≠C:=λ{b o vs} j c z3=>by
  rw [z3,C8] at j;cases j;have z2':=c;rw [L] at z2';cases z2'
 have g:∀b o,(W.hideAll B [C]).get? b=some o->B.get? b=some o:=λb o z=>Gj _ z;have D:∀b o,(W.hideAll B [C]).get? b=some o->b≠C:=λb o j c=>by
  rw [c,NB [C] (by simp)] at j;cases j
 have t9:h9.TracedAtW (W.hideAll B [C]) x N a0 (rawInt L0):=by
  obtain ⟨oe,vs,T,oT,ts,he,hc,L,h1,U,hTe,hT,hdT,h3⟩:=k4;refine ⟨oe,vs,T,oT,ts,a _ _ (v he L) he,hc,L,h1,?_,hTe,a _ _ (v hT hdT) hT,hdT,h3⟩;cases z:(W.hideAll B [C]).get? T with
  | none=>rfl
  | some u=>rw [g _ _ z] at U;cases U
 have st9:=λb o z=>a b o (D b o z) (k1 b o (g b o z));have en9:(W.hideAll B [C]).get? x=none:=by
  cases z:(W.hideAll B [C]).get? x with
  | none=>rfl
  | some u=>rw [g _ _ z] at k2;cases k2
 have f9:=Zi g a t (by rw [hst];exact k3);refine Ze2 st9 f9 t9 λh10 fl' st10 f10 S l r=>?_;obtain ⟨o8,J,_⟩:=Heap.TracedAtW.there k4;have x9:=a x o8 (let ⟨oe,vs,_,_,_,he,_,hd',_⟩:=k4;v (vs:=vs) J (by rw [he] at J;cases J;exact hd')) J;obtain ⟨O,k,_⟩:=S.there;refine K _ ⟨H6,{ s6 with heap:=W.hideAll s6.heap [C] },os6,un6.hide C0,x,N,p,H',fl',rfl,?_,⟨λe=>?_,λn e=>?_⟩,q⟩
 .refine ZmR (s:={ s6 with heap:=W.hideAll s6.heap [C] }) (s':=s7) F.os F.bare F.un.ofHide F.hok F.frf (λb R=>(V.mem R).2) (λb o j c z3=>?_) (λ_ z=>z) (λb h1 h2=>aB h1 h2) ⟨st10,en9,f10,S⟩ (λb R o j c=>?_) F.free
  .have nb:b≠C:=by
    rintro rfl;rcases c with c | ⟨o',c⟩
    .exact c nC7
    .rw [show (W.hideAll s6.heap [b]).get? b=none from NB [b] (by simp)] at c;cases c
   exact Io _ (cov b o j (c.imp id λ⟨o',z⟩=>⟨o',Gj _ z⟩) z3) (by simpa using nb)
  .have nb:b≠C:=λz=>t (z▸R);obtain ⟨sl,w8⟩:=i b o j c;exact ⟨sl,l b _ (a b _ nb w8) c⟩
 .obtain ⟨ox,vs,e1,q1,q2⟩:=py.1 e;obtain ⟨G,q3,q4⟩:=((P.at e1 J).trans (r.at x9 k)).f vs q1;exact ⟨O,G,k,q3,q4.trans q2⟩
 .obtain ⟨ox,d,m',e1,e2,e3,e4,e5,e6,e7,e8⟩:=py.2 n e;have nd:d≠C:=λz=>by rw [z,ho] at e6;cases e6
  obtain ⟨od,M,epd,hod,y,rd⟩:=e3;have Z:∀{o:Obj},o.data=.dict M epd->∀vs,o.data≠.fields vs:=λz vs q=>by rw [z] at q;cases q
  obtain ⟨sl8,d8⟩:=i d od hod (Z y);have d10:=l d _ (a d _ nd d8) (Z y);have sk:=(P.at e1 J).trans (r.at x9 k);refine ⟨O,d,m',k,sk.d.trans e2,⟨_,M,epd,d10,y,rd⟩,e4,e5,?_,e7,λz=>?_⟩
  rotate_left
  .obtain ⟨vs,q1,q2⟩:=e8 z;obtain ⟨G,q3,q4⟩:=sk.f vs q1;exact ⟨G,q3,q4.trans q2⟩
  .cases z:(W.hideAll s6.heap [C]).get? d with
   | none=>rfl
   | some o=>rw [Gj _ z] at e6;cases e6
end
section
variable {own:List Str} {cap:List (Str×Nat)} {scope:Scope} {cl:List (Str×Addr)} {fp:List Addr} {tg:Expr} {J:It} {it:Addr} {tn:Nat->Heap->Prop}
structure Gf(X:Cx)(E:XK):Prop where
 hst:X.stack=X.env::X.outer
 hfr:X.env.frame=some X.env.locals
 hex:X.ex=[]
 hxe:X.xe=λe s'=>wX X (leaving X.env e) (λ_ s''=>CXR X.prog X.w X.outer X.H₀ X.s₀ E e s'') (λe' s''=>CXR X.prog X.w X.outer X.H₀ X.s₀ E e' s'') s'
structure BlkX(X:Cx)(E:XK):Prop where
 ex:∃(env0:Env) (outer0:List Env) (L0:Addr),X.stack=env0::outer0/\env0.frame=some L0/\X.env.frame=some L0
 pass:∀{pins:List (Addr×Obj)} {Y:St} {H:Hp} {s:Shared} {fp:List Addr} {e:Value} {s':Shared},Inv X pins Y H s->(∀a∈fp,FpOk X pins H a)->(∃H6 s6,s6.os=s.os/\Un (frs X.stack) fp H H6 s.heap s6.heap/\CXA X.prog X.w X.stack H6 s6 E e s')->X.xe e s'
def BlkX.out(b:BlkX X E){e:Value}(I:Inv X pins Y H s)(f2:∀a∈fp,FpOk X pins H a)(hC:s.heap.objs.size<=C)(h:xfE E X C s H fp e s7) :
  notedBy (model X.prog X.w) X.A (compEnvC scope cells C X.env) (λe s'=>compPost (model X.prog X.w) X.A X.xe use Q acc C (.error e) s') e s7:=by
 obtain ⟨d,c,j,i,f,g⟩:=b.ex;exact ZnU i f g I hC h λs' h=>b.pass I f2 h
def Gf.blk(b:Gf X E):BlkX X E:=by
 refine ⟨⟨_,_,_,b.hst,b.hfr,b.hfr⟩,λ{C Y H s W e U} I N h=>?_⟩;have j:=λa Q=>(N a Q).2.2.2.1.resolve_left λq=>by rw [b.hex] at q;cases q
 obtain ⟨H6,M,w,k,x,t,p,J,ff,rfl,F,O,q⟩:=h;obtain ⟨B,Z,⟨n,m,i,u⟩,y⟩:=F.ex;rw [b.hxe];have D:∀f o,X.s₀.heap.get? f=some o->∃A,M.heap.get? f=some A:=λf o z=>by
  obtain ⟨R,P⟩:=I.base.there f o z (by rw [b.hex];simp);exact k.there f R P λg=>by rw [Fg (j f g)] at z;cases z
 refine Vy (by rw [<-b.hst];exact I.ok.frames) b.hfr n m (by rw [<-b.hst];exact i) u λS d c l=>?_;refine ⟨x,t,p,J,rfl,?_,O.on l c (let ⟨o,e,_⟩:=d.there;⟨o,e⟩) D,q⟩;have V:Un (frs X.stack) [] X.H₀ J X.s₀.heap U.heap:=by
  refine Un.strip ?_ λb g=>.inl (Fg (j b g));exact ((I.base.mono I.sub (by rw [b.hex];simp)).trans k).trans (F.un.mono (λ_ z=>z) (by simp))
 have G:=ZmR (F.os.trans (w.trans I.os)) F.bare V F.hok F.frf (λb g=>(i.mem g).2) (λb o v r K=>y b o v (r.imp id λ⟨A,z⟩=>D b A z) K) I.sub (λb L T=>by
  rcases An.mp (I.stkSub b L) with e | e
  .rw [e];exact Fg I.ok.above
  .exact aB e T) d (λb g o v r=>c b o v r) F.free
 exact ⟨G.os,G.bare,G.un,G.hok,G.frf,G.free,G.ex⟩
def ZnY(b:Gf X E):BlkX (Bs (xfE E X) X N scope cl C s H fp pn) E:=by
 refine ⟨⟨_,_,_,b.hst,b.hfr,b.hfr⟩,λ{j Y B A i e D} I l h=>?_⟩;obtain ⟨x,n,f,a,r⟩:=h;obtain ⟨m,⟨g,u,w,c,y,p⟩,_⟩:=I.loc;have c:=c;have k:=λz=>(l C z).2.1 rfl;have d:C∉frs X.stack:=λz=>by
  obtain ⟨_,o,v,_⟩:=I.ok.funs.mem (z);cases (Fg I.ok.above).symm.trans v
 refine ⟨x,n,f.trans I.os,?_,⟨m,g,u,w,a.keep C g c I.free d k,y,p⟩,a.free C g c I.free k,r⟩;refine Un.strip ((I.base.mono I.sub λ_ z=>HD i z).trans (a.mono (λ_ z=>z) λ_ z=>CK fp z)) λb t=>?_;rcases Dv.mp t with z | z
 .exact .inr z
 .exact ((l b z).2.2.2.1).elim .inr λq=>.inl (Fg q)
def ZoD{te:Fam TE}(b:BlkX X E)(hi:PI X tg iter wi)(O:FT X own cap scope cl)(hc:X.calm=true)(hg:∀C s H fp pn,PG (Bs (xfE E X) X (own++cap.map (·.1)) scope cl C s H fp pn) tg (g C s H fp pn))(ht:∀C s H fp pn,PTs (Bs (xfE E X) X (own++cap.map (·.1)) scope cl C s H fp pn) ts (tt C s H fp pn))(he:∀C s H fp pn,PE (Bs (xfE E X) X (own++cap.map (·.1)) scope cl C s H fp pn) elt (te C s H fp pn))(hts:ts.length<=1)(hs:∀x,foldedSetIterable iter X.env x=pure x:=by intro _;rfl):PE X (.ListComp elt [⟨tg,iter,ts,0⟩] scope pos) (HF wi g tt te own cap):=by
 intro c s Y H Q I h;refine QF rfl hs O.clos O.kind O.locals (thn (hi c s Y H _ I h) λK n a=>thn a λv l d=>?_);obtain ⟨F,fp,B,J,L,rfl,o,T,i,k,u⟩:=d;refine Us O hc hg ht he hts o T i k u ?_ ?_
 .intro D C A w m j t G p q;exact ⟨m,t,λr y=>⟨.ref D,A,p r y,rfl,q⟩⟩
 .intro D C f e w j z;exact b.out o k j z
end
end L2
namespace L2.Ds
open Dl
section
variable {F:Hp}
def Zpe{t:TG}{g:MG}{tt:TT}{nt:MB}{own:List Str}{cap:List (Str×Nat)}{J:It}{c:Str}(r:Rep K mg F0 H0 F H Y Z)(jo:ItOk K mg F J ds)(hg:SG K mg own.length t g)(hgx:∀d Z c,g d Z≠.ex c)(ht:STt K mg E tt nt)(he:SE K mg E te me)(hl:ds.length<=LIM)(e0:Dl.BR g nt me (noA own.length (Bu Z (cap.map (·.2)))) ds=.ex c)(Q)(q:∀F' H' C,Gr F H F' H'->mg (clsOf c)=some (.ref C)->E (.ref C) (pay c) H') :
  K7 J t tt te own cap Y Q H:=by
 refine ⟨λi k h H'=>k=ds.length - i/\i<=ds.length/\h.length<=i/\∃F',Gr F H F' H'/\Dl.BR g nt me (noA own.length (Bu Z (cap.map (·.2)))) (ds.drop i)=.ex c,
  ⟨ds.length,by simp,DX _,Ao _,F,.refl r.ss,e0⟩,?_⟩
 rintro i k h H' ⟨rfl,hi,W,F',z,A⟩;have S:=Ar W (Ar hi hl);refine ⟨Kw S,?_⟩;by_cases hlt:i<ds.length
 case neg=>
  rw [Om (by omega)] at A;cases A
 refine .inr ?_;have X:=Bg hlt;obtain ⟨go,T⟩:=(jo F' H' z.f z.s i).1 _ X;rw [NQ hlt] at A;refine ⟨go,λx P y=>?_⟩;obtain ⟨F2,R,V⟩:=T x P y;have rr:=(r.gr (z.trans R)).inner (own:=own) (cap:=cap) (z.trans R);have N:=hg F H F2 P _ _ x _ rr V;have p:(g ds[i] (noA own.length (Bu Z (cap.map (·.2))))).bind (λa=>(nt a).bind λb=>if b=true then (me a).bind λy=>(Dl.BR g nt me (noA own.length (Bu Z (cap.map (·.2)))) (ds.drop (i+1))).bind λI=>.ok (y::I) else Dl.BR g nt me (noA own.length (Bu Z (cap.map (·.2)))) (ds.drop (i+1)))=.ex c:=A
 cases eg:g ds[i] (noA own.length (Bu Z (cap.map (·.2)))) with
 | bad=>rw [eg] at p;cases p
 | ex c'=>exact aB eg (hgx _ _ _)
 | ok a=>
  rw [eg] at p N;refine N _ λF3 H3 O s3 l d3=>⟨d3.trans WX,?_⟩;have v:=ht F H F3 H3 O a l;have e:(nt a).bind (λb=>if b=true then (me a).bind λy=>(Dl.BR g nt me (noA own.length (Bu Z (cap.map (·.2)))) (ds.drop (i+1))).bind λI=>.ok (y::I) else Dl.BR g nt me (noA own.length (Bu Z (cap.map (·.2)))) (ds.drop (i+1)))=.ex c:=p
  cases et:nt a with
  | bad=>rw [et] at e;cases e
  | ex c'=>
   rw [et] at e v;cases (e);exact v _ λw G C j B=>q w G C (l.g.trans j) B
  | ok b=>
   rw [et] at e v;refine v _ λw G b' j U=>?_;cases (U);cases b with
   | false=>
    exact ⟨ds.length - (i+1),by omega,rfl,hlt,by omega,w,l.g.trans j,e⟩
   | true=>
    have n:=e;have o:=he F H w G O a (l.gr j);cases em:me a with
    | bad=>rw [em] at n;cases n
    | ex c'=>
     rw [em] at n o;cases (n);exact o _ λD M C L B=>q D M C (l.g.trans (j.trans L)) B
    | ok y'=>
     rw [em] at n o;have m:=n;refine o _ λD M u L ru=>⟨Lx S (by decide),ds.length - (i+1),by omega,rfl,hlt,by rw [Bm];show h.length+1<=i+1;omega,D,l.g.trans (j.trans L),?_⟩;cases ec:Dl.BR g nt me (noA own.length (Bu Z (cap.map (·.2)))) (ds.drop (i+1)) with
     | ok rs=>rw [ec] at m;cases m
     | bad=>rw [ec] at m;cases m
     | ex c'=>
      rw [ec] at m;exact m
def Xk{te:Fam TE}(hi:SI K mg E wi mi)(hg:∀C s H fp pn,SG K mg own.length (t C s H fp pn) g)(hgx:∀d Z c,g d Z≠.ex c)(ht:∀C s H fp pn,STt K mg E (tt C s H fp pn) nt)(he:∀C s H fp pn,SE K mg E (te C s H fp pn) me) :
  SE K mg E (HF wi t tt te own cap) (Cr mi own.length (cap.map (·.2)) g nt me):=by
 intro v u F H Y Z f;refine (hi v u F H Y Z f).bind (w':=λJ m Q=>∀C s a fp pn,K7 J (t C s a fp pn) (tt C s a fp pn) (te C s a fp pn) own cap Y Q m) λw m J i j k=>?_;by_cases hl:i.length<=LIM
 .rw [iP hl];cases e:Dl.BR g nt me (noA own.length (Bu Z (cap.map (·.2)))) i with
  | ok ys=>exact λQ q C s a fp pn=>ZlS (f.gr j) k (hg C s a fp pn) (ht C s a fp pn) (he C s a fp pn) hl e Q λn l x b r _ p h=>q _ _ _ (b.trans (.new b.s h _)) (.lst (SqL.of Ax) (r.same (Du (b.s.free h) _)))
  | ex c=>exact λQ q C s a fp pn=>Zpe (f.gr j) k (hg C s a fp pn) hgx (ht C s a fp pn) (he C s a fp pn) hl e Q λn l C b o=>q n l C b o
  | bad=>trivial
 .rw [iN hl];trivial
end
section
variable {tg iter elt:Expr} {ts:List Expr} {na:MB}
def Np(b:BlkX X E)(hi:DI X E tg iter wi mi)(O:FT X own cap scope cl)(hc:X.calm=true)(hg:∀C s H fp pn,DG (Bs (xfE E X) X (own++cap.map (·.1)) scope cl C s H fp pn) own.length tg (g C s H fp pn) gm)(ht:∀C s H fp pn,DTs (Bs (xfE E X) X (own++cap.map (·.1)) scope cl C s H fp pn) E ts (tt C s H fp pn) na)(he:∀C s H fp pn,DE (Bs (xfE E X) X (own++cap.map (·.1)) scope cl C s H fp pn) E elt (tf C s H fp pn) me)(hts:ts.length<=1:=by decide)(hs:∀x,foldedSetIterable iter X.env x=pure x:=by intro _;rfl) :
  DE X E (.ListComp elt [⟨tg,iter,ts,0⟩] scope pos) (HF wi g tt tf own cap) (Cr mi own.length (cap.map (·.2)) gm na me) :=
 ⟨ZoD b hi.p O hc (λC s H fp pn=>(hg C s H fp pn).p) (λC s H fp pn=>(ht C s H fp pn).p) (λC s H fp pn=>(he C s H fp pn).p) hts hs,
  Xk hi.s (λC s H fp pn=>(hg C s H fp pn).s) (hg 0 X.s₀ (λ_=>none) [] []).x (λC s H fp pn=>(ht C s H fp pn).s) (λC s H fp pn=>(he C s H fp pn).s)⟩
def ZlH(C:Cal X.prog X.w X.K X.mg X.base k x ps f)(hr:Room l X.A)(hn:k<=l)(hg:Gl (Bs (xfE E X) X N scope cl C' s H fp pn) x)(ha:DA (Bs (xfE E X) X N scope cl C' s H fp pn) E n (e::es) t m)(hps:ps.length=n:=by rfl)(hdb:ND x:=by decide)(he:starEach (e::es) (Bs (xfE E X) X N scope cl C' s H fp pn).env=(false,eval e (Bs (xfE E X) X N scope cl C' s H fp pn).env)::starEach es (Bs (xfE E X) X N scope cl C' s H fp pn).env:=by rfl)(hpl:(backTo pos (starEach es (Bs (xfE E X) X N scope cl C' s H fp pn).env)).any (·.1)=false:=by rfl) :
  DE (Bs (xfE E X) X N scope cl C' s H fp pn) E (.Call (.Name x p) (e::es) [] pos) (Ju (spD X.K X.mg ps.length f) [] E t) (on f m) :=
 GP C hr hn hg Zru ha hps hdb he hpl
end
end L2.Ds
namespace Dl
def dFld(cs:List Str)(f:Str):D->Res D
 | .ins c ns vs=>if cs.contains c=true then ofO ((ns.zip vs).lookup f) else .bad
 | _=>.bad
def badS:MS:=λ_=>.bad
end Dl
namespace L2.Ds
open Dl
def FJ(K:W.Frag)(mg:Str->Option Value)(cs:List Str)(f:Str):Prop:=∀c,cs.contains c=true->∀C,mg c=some (.ref C)->Cls K C/\Hw K C f
def rFld(K:W.Frag)(f:Str):V->Hp->VK->Prop:=λx H Q=>∃a C c b v,x=.ref a/\H a=some (.ins C c b)/\Cls K C/\Hw K C f/\b.lookup f=some v/\Q v H
section
def Y8{F:Hp}:∀{fs:List (Str×V)} {vs:List D},Rps K mg F (fs.map (·.2)) vs->((fs.map (·.1)).zip vs).lookup f=some d->∃v,fs.lookup f=some v/\Rp K mg F v d
 | [],_,_,e=>by simp at e
 | (n,x)::r,[],q,_=>nomatch q
 | (n,x)::r,d0::vs,.cons h q,e=>by
  rw [Bx,List.zip_cons_cons,Gu] at e;rw [Gu];cases z:f==n with
  | true=>
   rw [show (f==(n,x).fst)=true from z] at e;cases e;exact ⟨x,rfl,h⟩
  | false=>
   rw [show (f==(n,x).fst)=false from z] at e;exact Y8 q e
def Zsq(T:FJ K mg cs f):UnD K mg (rFld K f) (dFld cs f):=by
 intro E F H x b s j;cases b with
 | ins c ns vs=>
  show Ans mg E (Rp K mg) F H (if cs.contains c=true then ofO ((ns.zip vs).lookup f) else .bad) _
  by_cases hc:cs.contains c=true
  .rw [iP hc];cases j with
   | @ins _ C a b fs xs _ m h o e r=>
    subst e;cases q:((fs.map (·.1)).zip vs).lookup f with
    | none=>trivial
    | some d=>
     obtain ⟨v,l,k⟩:=Y8 r q;obtain ⟨g,i⟩:=T c hc C m;exact .ret s k λQ z=>⟨a,C,b,fs,v,rfl,s _ _ h,g,i,l,z⟩
  .rw [iN hc];trivial
 | _=>trivial
end
def O1(T:FJ X.K X.mg cs f)(he:DE X E e te me)(hb:attributeBase e f X.env (eval e X.env)=eval e X.env:=by rfl) :
  DE X E (.Attribute e f pos) (tFld X.K te f) (o1 (dFld cs f) me):=⟨ZuX he.p hb,Zh (Zsq T) he.s⟩
def Zqo:DSs X E sts (λ_ _ _=>False) badS:=⟨λ_ _ _ _ _ _ h=>h.elim,λ_ _ _ _ _ _ _=>trivial⟩
end L2.Ds
namespace L2.Ds
open Dl
section
variable {F:Hp}
def WR:∀{xs:List V} {ds:List D} {G:Hp},xs.length=ds.length->(∀(k:Nat) (x:V) (d:D),xs[k]?=some x->ds[k]?=some d->Rp K mg G x d)->Rps K mg G xs ds
 | [],[],_,_,_=>.nil
 | [],_::_,_,l,_=>by cases l
 | _::_,[],_,l,_=>by cases l
 | x::xs,d::ds,G,l,h=>.cons (h 0 x d rfl rfl) (WR (by simpa using l) λk y e b a=>h (k+1) y e (by simpa using b) (by simpa using a))
end
end L2.Ds
namespace Dl
abbrev Fs:=List (Str×D)
abbrev MSi:=Ev->Fs->Res Fs
def iEnd:MSi:=λ_ a=>.ok a
def iDrp(e:ME)(k:MSi):MSi:=λZ a=>(e Z).bind λ_=>k Z a
def iSet(f:Str)(e:ME)(k:MSi):MSi:=λZ a=>(e Z).bind λd=>if (a.map (·.1)).contains f=true\/100<=a.length then .bad else k Z (a++[(f,d)])
def iSup(g:List D->Fs->Res Fs)(a:MA)(k:MSi):MSi:=λZ c=>(a Z).bind λd=>(g d c).bind λb=>k Z b
def fnI(n:Nat)(k:MSi):List D->Fs->Res Fs:=λb a=>k (.no::ev0 (n - 1) b) a
def make(c:Str)(g:List D->Fs->Res Fs)(a:MA):ME:=λZ=>(a Z).bind λd=>(g d []).bind λb=>.ok (.ins c (b.map (·.1)) (b.map (·.2)))
def meth(tab:List (Str×(List D->Res D)))(m:Str)(o:ME)(a:MA):ME:=λZ=>(o Z).bind λd=>match d with
 | .ins c ns vs=>if ns.contains m=true then .bad else match tab.lookup c with
  | some f=>(a Z).bind λb=>f (.ins c ns vs::b)
  | none=>.bad
 | _=>.bad
end Dl
namespace L2.Ds
open Dl
def Ans.imp{F:Hp}{w:(β->Hp->Prop)->Prop}(h:Ans mg E R F H r w)(hw:∀Q,w Q->w' Q):Ans mg E R F H r w':=by
 cases r with
 | ok a=>exact λQ q=>hw Q (h Q q)
 | ex c=>exact λQ q=>hw Q (h Q q)
 | bad=>trivial
def Sy(P:Program)(w:World)(K:W.Frag)(mg:Str->Option Value)(base:Heap)(k:Nat)(m:Str)(E:XK)(ta:TE)(t:TA):TE:=λY H Q=>ta Y H λx d=>∃a C i f g c e b,x=.ref a/\d a=some (.ins C i f)/\f.lookup m=none /\
 Cls K C/\Meth K C m g/\FnOk P w K mg base (CXR P w) k g c e b/\Binds K c e []/\t Y d λj h=>b (x::j) h Q E
section
variable {m:Str} {o:Expr} {ta:TE} {t:TA} {apos:Pos} {pl:Sem Bool}
def Znf(he:PE X o ta)(hr:Room k X.A)(hx:Fd (CXR X.prog X.w) X E) (ht:eval (.Call (.Attribute o m apos) [] [] pos) X.env=(do
   let ov <-eval o X.env
   standAt apos.atName
   let (f,first) <-holding [ov] (getMethod ov m pl)
   callWith pos f first (backTo pos (starEach [] X.env)) (backToKw pos (keywordEach [] X.env))):=by rfl) :
  PE X (.Call (.Attribute o m apos) [] [] pos) (Sy X.prog X.w X.K X.mg X.base k m E ta tNil):=by
 intro b s Y H Q I h;refine W.methodCall_KW (thn (he b s Y H _ I h) λu e d=>?_) ht;obtain ⟨x,H1,I1,rx,a,C,dx,fs,g,fd,ps,sp,ex,ea,l,c,hm,F,hb,q⟩:=d;subst ex;obtain rfl:u=Value.ref a:=rx;refine Zk0 I1 ea c hm l ?_;exact W.callWith_K0 I1.kIn hm.kp (Te (vs:=[.ref a]) F hr hb .nil hx I1 (.cons rfl .nil) q)
end
def Hn(P:Program)(w:World)(K:W.Frag)(mg:Str->Option Value)(base:Heap)(k n:Nat)(m:Str)(tab:List (Str×(List D->Res D))):Prop:=∀c f,tab.lookup c=some f->∀C,mg c=some (.ref C) ->
 Cls K C/\∃g b a,Meth K C m g/\FnOk P w K mg base (CXR P w) k g b a (spD K mg a.length f)/\Binds K b a []/\a.length=n+1
def Hn.nil:Hn P w K mg base k n m []:=λ_ _ e=>by cases e
def Hn.cons{P:Program}{w:World}{K:W.Frag}{mg:Str->Option Value}{base:Heap}{k n:Nat}{m c:Str}{f:List D->Res D}{tab:List (Str×(List D->Res D))}(h:∀C,mg c=some (.ref C)->Cls K C/\∃g fd ps,Meth K C m g/\FnOk P w K mg base (CXR P w) k g fd ps (spD K mg ps.length f)/\Binds K fd ps []/\ps.length=n+1)(r:Hn P w K mg base k n m tab):Hn P w K mg base k n m ((c,f)::tab):=by
 intro b a e;rw [Gu] at e;split at e
 .next q=>
  cases e;rw [eq_of_beq q];exact h
 .exact r b a e
def Vo:∀{fs:List (Str×V)},¬(fs.map (·.1)).contains m=true->fs.lookup m=none
 | [],_=>rfl
 | (n,x)::r,h=>by
  rw [Bx,QG] at h;rw [Gu];cases z:m==n with
  | true=>exact aB (by rw [show (m==(n,x).fst)=true from z];rfl) h
  | false=>exact Vo λq=>h (by rw [q,Bool.or_true])
section
variable {m:Str} {tab:List (Str×(List D->Res D))} {ta:TE} {mo:ME} {t:TA} {ma:MA}
def Zsj(T:Hn P w K mg base k n m tab)(ho:SE K mg E ta mo)(ha:SA K mg E t ma)(hl:SAn n ma):SE K mg E (Sy P w K mg base k m E ta t) (meth tab m mo ma):=by
 intro D y F H Y Z l;refine (ho D y F H Y Z l).bind λp A x d u j=>?_;cases d with
 | ins c ns vs=>
  show Ans mg E (Rp K mg) p A (if ns.contains m=true then .bad else match tab.lookup c with
   | some f=>(ma Z).bind λb=>f (.ins c ns vs::b)
   | none=>.bad) _
  by_cases hc:ns.contains m=true
  .rw [iP hc];trivial
  rw [iN hc];cases e:tab.lookup c with
  | none=>trivial
  | some f=>
   have i:=j;cases j with
   | @ins _ C a dx fs xs _ hm h o q r=>
    obtain ⟨M,g,N,B,I,R,S,G⟩:=T c f e C hm;refine Ans.imp ((ha D y p A Y Z (l.gr u)).bindE λb L U V O v J=>?_) λQ z=>⟨a,C,dx,fs,g,N,B,spD K mg B.length f,rfl,u.s _ _ h,Vo hc,M,I,R,S,z⟩;exact Vn v.s (.cons (i.same v.f) J) (by rw [BP,hl Z b L,G])
 | _=>trivial
end
section
variable {l:Nat} {m:Str} {o:Expr} {ta:TE} {mo:ME} {t:TA} {ma:MA} {apos:Pos} {pl:Sem Bool} {tab:List (Str×(List D->Res D))}
def ZqY(T:Hn X.prog X.w X.K X.mg X.base k 0 m tab)(hr:Room l X.A)(hn:k<=l)(hx:Fd (CXR X.prog X.w) X E)(ho:DE X E o ta mo) (ht:eval (.Call (.Attribute o m apos) [] [] pos) X.env=(do
   let ov <-eval o X.env
   standAt apos.atName
   let (f,first) <-holding [ov] (getMethod ov m pl)
   callWith pos f first (backTo pos (starEach [] X.env)) (backToKw pos (keywordEach [] X.env))):=by rfl) :
  DE X E (.Call (.Attribute o m apos) [] [] pos) (Sy X.prog X.w X.K X.mg X.base k m E ta tNil) (meth tab m mo Ab):=⟨Znf ho.p (hr.mono hn) hx ht,Zsj T ho.s ZpD ZlZ⟩
end
def FJ.nil:FJ K mg [] f:=λ_ h=>by cases h
def FJ.cons{K:W.Frag}{mg:Str->Option Value}{c f:Str}{cs:List Str}(h:∀C,mg c=some (.ref C)->Cls K C/\Hw K C f)(r:FJ K mg cs f):FJ K mg (c::cs) f:=λb a=>by
 rw [QG] at a;cases z:b==c with
 | true=>rw [eq_of_beq z];exact h
 | false=>
  rw [z,Bool.false_or] at a;exact r b a
structure FR(K:W.Frag)(mg:Str->Option Value)(F:Hp)(fs:List (Str×V))(fl:Fs):Prop where
 nm:fs.map (·.1)=fl.map (·.1)
 rv:Rps K mg F (fs.map (·.2)) (fl.map (·.2))
def FR.same{F:Hp}(h:FR K mg F fs fl)(s:Same F F'):FR K mg F' fs fl:=⟨h.nm,h.rv.same s⟩
def FR.len{F:Hp}(h:FR K mg F fs fl):fs.length=fl.length:=by
 have:=Bl List.length h.nm;rwa [Ah,Ah] at this
def Vm:∀{fs:List (Str×V)},¬(fs.map (·.1)).contains f=true->putF f y fs=fs++[(f,y)]
 | [],_=>rfl
 | (g,x)::r,h=>by
  rw [Bx,QG] at h;have a:g≠f:=by
   rintro rfl;exact h (by rw [show ((g,x).fst==g)=true from beq_self_eq_true g];rfl)
  show (if g=f then (g,y)::r else (g,x)::putF f y r)=_
  rw [iN a,Vm λq=>h (by rw [q,Bool.or_true])];rfl
def FR.put{F:Hp}(h:FR K mg F fs fl)(hn:¬(fl.map (·.1)).contains f=true)(ry:Rp K mg F y d):FR K mg F (putF f y fs) (fl++[(f,d)]):=by
 rw [Vm (by rw [h.nm];exact hn)];refine ⟨by rw [GD,GD,h.nm];rfl,?_⟩;rw [GD,GD];exact Rps.app (.cons ry .nil) h.rv
def spI(K:W.Frag)(mg:Str->Option Value)(n:Nat)(cs:List Str)(m:List D->Fs->Res Fs):Sp:=λl H Q E=>l.length=n+1/\∃x i C c k o F h g,
 l=.ref x::k/\cs.contains c=true/\mg c=some (.ref C)/\H x=some (.ins C i o)/\F x=none/\Same F H/\Rps K mg F k h/\FR K mg F o g/\m h g≠.bad /\
 (∀f,m h g=.ok f->∀d b a,Gr F (del H x) d b->d x=none->b x=some (.ins C i a)->FR K mg d a f->Q .non b) /\
 (∀e,m h g=.ex e->∀d b a j,Gr F (del H x) d b->d x=none->b x=some (.ins C i a)->mg (clsOf e)=some (.ref j)->E (.ref j) (pay e) b)
structure RepI(K:W.Frag)(mg:Str->Option Value)(x dx C:Addr)(F0 H0 F H:Hp)(Y:St)(Z:Ev)(fs:List (Str×V))(fl:Fs):Prop where
 rep:Rep K mg F0 H0 F H Y Z
 h0:H0 x=none
 self:Y[0]?=some (some (.ref x))
 fx:F x=none
 hx:H x=some (.ins C dx fs)
 fr:FR K mg F fs fl
section
variable {x dx C:Addr} {F:Hp} {fs fs':List (Str×V)} {fl fl':Fs}
def RepI.gr(r:RepI K mg x dx C F0 H0 F H Y Z fs fl)(g:Gr F H F' H'):RepI K mg x dx C F0 H0 F' H' Y Z fs fl:=by
 obtain ⟨b,a⟩:=g.o x _ r.fx r.hx;exact ⟨r.rep.gr g,r.h0,r.self,b,a,r.fr.same g.f⟩
def RepI.go(r:RepI K mg x dx C F0 H0 F H Y Z fs fl)(g:Gr F (del H x) F' H')(fx:F' x=none)(hx:H' x=some (.ins C dx fs'))(fr:FR K mg F' fs' fl'):RepI K mg x dx C F0 H0 F' H' Y Z fs' fl':=by
 refine ⟨⟨⟨r.rep.g.f.trans g.f,g.s,λa o c b=>?_,λa o u e=>r.rep.g.z a o u (g.z a o u e)⟩,r.rep.len,λi d e=>?_,λi m e=>?_,r.rep.ne⟩,r.h0,r.self,fx,hx,fr⟩
 .obtain ⟨h,k⟩:=r.rep.g.o a o c b;exact g.o a o h (by rw [Gq (Bj b r.h0)];exact k)
 .obtain ⟨y,c,b⟩:=r.rep.im i d e;exact ⟨y,c,b.same g.f⟩
 .obtain ⟨a,p,c,b,l,j,q⟩:=r.rep.ow i m e;have n:a≠x:=by
   rintro rfl;rw [r.hx] at j;cases j
  obtain ⟨h,k⟩:=g.o a _ l (by rw [Gq n];exact j);exact ⟨a,p,c,b,h,k,q.same g.f⟩
def RepI.set(r:RepI K mg x dx C F0 H0 F H Y Z fs fl)(hn:¬(fl.map (·.1)).contains f=true)(ry:Rp K mg F y d):RepI K mg x dx C F0 H0 F (upd H x (.ins C dx (putF f y fs))) Y Z (putF f y fs) (fl++[(f,d)]):=by
 refine r.go ⟨Same.refl _,λa o e=>?_,λa o h b=>⟨h,?_⟩,λ_ _ _ e=>e⟩ r.fx Ax (r.fr.put hn ry)
 .rw [Ag (Bj e r.fx)];exact r.rep.g.s a o e
 .have c:a≠x:=by
   rintro rfl;rw [JZ] at b;cases b
  rw [Gq c] at b;rw [Ag c];exact b
end
def AnsI(K:W.Frag)(mg:Str->Option Value)(E:XK)(x dx C:Addr)(F0 H0:Hp)(r:Res Fs)(w:Ends->Prop):Prop :=
 match r with
 | .ok fl=>∀D,(∀b a f d,Gr F0 H0 b a->b x=none->a x=some (.ins C dx d)->FR K mg b d fl->D.nx f a)->w D
 | .ex c=>∀D,(∀b a d e,Gr F0 H0 b a->b x=none->a x=some (.ins C dx d)->mg (clsOf c)=some (.ref e)->E (.ref e) (pay c) a)->w D
 | .bad=>True
def SSi(K:W.Frag)(mg:Str->Option Value)(E:XK)(cs:List Str)(t:TS)(m:MSi):Prop:=∀x a C c e b F H Y Z f d,cs.contains c=true->mg c=some (.ref C)->RepI K mg x a C e b F H Y Z f d->AnsI K mg E x a C e b (m Z d) (λD=>t D Y H)
structure DSi(X:Cx)(E:XK)(cs:List Str)(sts:List Stmt)(t:TS)(m:MSi):Prop where
 p:PSs X sts t
 s:SSi X.K X.mg E cs t m
section
variable {x dx C:Addr} {F:Hp} {α β:Type} {R:Hp->β->α->Prop} {fs:List (Str×V)} {fl:Fs}
def Ur{r:Res α}{w:(β->Hp->Prop)->Prop}{k:α->Res Fs}{w':β->Hp->Ends->Prop}(rr:RepI K mg x dx C F0 H0 F H Y Z fs fl)(h1:Ans mg E R F H r w)(h2:∀a,r=.ok a->∀F1 H1 b,Gr F H F1 H1->R F1 b a->AnsI K mg E x dx C F0 H0 (k a) (w' b H1)) :
  AnsI K mg E x dx C F0 H0 (r.bind k) (λD=>w λb H1=>w' b H1 D):=by
 cases r with
 | ok a=>
  show AnsI K mg E x dx C F0 H0 (k a) _;have e:=h2 a rfl;generalize k a=r2 at e;cases r2 with
  | ok d=>exact λD q=>h1 _ λF1 H1 b g f=>e F1 H1 b g f D q
  | ex c=>exact λD q=>h1 _ λF1 H1 b g f=>e F1 H1 b g f D q
  | bad=>trivial
 | ex c=>exact λD q=>h1 _ λF1 H1 i g h=>let r2:=rr.gr g;q F1 H1 fs i r2.rep.g r2.fx r2.hx h
 | bad=>trivial
end
section
variable {cs cs':List Str} {rest:List Stmt} {u:TS} {k:MSi} {o:Expr} {t:TA} {ma:MA} {apos p p':Pos} {f y m:Str} {l:Nat}
def OJ:DSi X E cs [] RZ iEnd:=⟨Vz,λx b C c f d F H Y Z a e _ _ r=>λD q=>q F H Y a r.rep.g r.fx r.hx r.fr⟩
def JD(he:DE X E e te me)(h:DSi X E cs rest u k)(hs:swapsWith e none spos.line X.env=pure false:=by rfl):DSi X E cs (.Expr e spos::rest) (tSeq (HH te) u) (iDrp me k):=by
 refine ⟨Lb (KN he.p hs) h.p,?_⟩;intro x m C c f d F H Y Z q i n j r;exact Ur r (he.s f d F H Y Z r.rep) λa _ l o b g _=>h.s x m C c f d l o Y Z q i n j (r.gr g)
def Mi(T:FJ X.K X.mg cs f)(he:DE X E e te me)(h:DSi X E cs rest u k)(hN:X.N[0]?=some x:=by rfl)(hv:Eg X.env.scope x:=by first | exact Or.inl rfl | exact Or.inr (Or.inl rfl) | exact Or.inr (Or.inr rfl))(hd:ND x:=by decide)(hcd:NE x:=by decide)(hs:swapsWith e (some (.Attribute (.Name x p) f p')) spos.line X.env=pure false:=by rfl) :
  DSi X E cs (.Assign [.Attribute (.Name x p) f p'] e spos::rest) (tSeq (sFld X.K (tVar 0) te f) u) (iSet f me k):=by
 refine ⟨Lb (Ztg (GF hN hv hd hcd) he.p hs) h.p,?_⟩;intro x i C c w v F H Y Z j b t l r;refine Ur r (he.s w v F H Y Z r.rep) λd _ B I y g A=>?_;have a:=r.gr g;by_cases hb:(b.map (·.1)).contains f=true\/100<=b.length
 .rw [iP hb];trivial
 rw [iN hb];obtain ⟨m,n⟩:=T c t C l;have G:=a.set (λz=>hb (.inl z)) A;have z:=h.s x i C c w v B _ Y Z _ _ t l G;have o:j.length<1000:=by have:=r.fr.len;have:¬100<=b.length:=λz=>hb (.inr z);omega
 generalize k Z (b++[(f,d)])=q0 at z;cases q0 with
 | ok fl'=>exact λD q=>⟨_,a.self,x,C,i,j,rfl,a.hx,m,n,o,z D q⟩
 | ex c=>exact λD q=>⟨_,a.self,x,C,i,j,rfl,a.hx,m,n,o,z D q⟩
 | bad=>trivial
end
structure ClsM(K:W.Frag)(C:Addr)(m:Str)(f:Addr):Prop where
 sg:W.specialIn K (.ref C) "__getattribute__"=some (some (.builtin "type.__getattribute__"))
 rd:∃mc,W.readsIn K C mc=true/\W.findCls K (.ref C) mc m=some (.val (.ref f))
 hh:W.handedIn (.ref f)=true
 kp:W.keepIn K (.ref f)=true
section
variable {y m:Str} {C f:Addr} {sp:Sp} {t:TA} {p apos:Pos} {pl:Sem Bool}
def ZqF(hg:Gl X y)(hy:X.mg y=some (.ref C))(c:ClsM X.K C m f)(F:FnOk X.prog X.w X.K X.mg X.base (CXR X.prog X.w) k f fd ps sp)(hr:Room k X.A)(hb:Binds X.K fd ps [])(hx:Fd (CXR X.prog X.w) X E)(ha:PA X (e::es) t)(hd:ND y:=by decide)(hst:starEach (e::es) X.env=(false,eval e X.env)::starEach es X.env:=by rfl)(hpl:(backTo pos (starEach es X.env)).any (·.1)=false:=by rfl) (ht:eval (.Call (.Attribute (.Name y p) m apos) (e::es) [] pos) X.env=(do
   let ov <-eval (.Name y p) X.env
   standAt apos.atName
   let (f,first) <-holding [ov] (getMethod ov m pl)
   callWith pos f first (backTo pos (starEach (e::es) X.env)) (backToKw pos (keywordEach [] X.env))):=by rfl) :
  PE X (.Call (.Attribute (.Name y p) m apos) (e::es) [] pos) (Ju sp [] E t):=by
 intro a s Y H Q I h;refine W.methodCall_KW (thn (Kp (v:=.ref C) hg hy rfl hd a s Y H (λv b=>v=.ref C/\b=H) I ⟨rfl,rfl⟩) λu s1 zq=>?_) ht;obtain ⟨x,b,I1,rx,ex,eh⟩:=zq;subst ex eh;obtain rfl:u=Value.ref C:=rx;obtain ⟨B,i,l⟩:=c.rd;refine W.method_cls I1.kIn c.sg (W.cls_value I1.kIn i l c.hh ?_);have g:=I1.tok (s1.toks+1);refine Jj I.ok.mod.kin c.kp (thn (ha pos a _ Y b _ g h) λq n zq=>?_) hst hpl;obtain ⟨z,o,d,r,j⟩:=zq;refine ⟨d.kIn,?_⟩;exact Te F hr hb .nil hx d r j
end
structure CalS(P:Program)(w:World)(K:W.Frag)(mg:Str->Option Value)(base:Heap)(k:Nat)(y m:Str)(n:Nat)(cs:List Str)(g:List D->Fs->Res Fs):Prop where
 ex:∃(C f:Addr) (fd:FuncData) (ps:List Str),mg y=some (.ref C)/\ClsM K C m f/\FnOk P w K mg base (CXR P w) k f fd ps (spI K mg n cs g)/\Binds K fd ps []
section
variable {cs cs':List Str} {rest:List Stmt} {u:TS} {k:MSi} {t:TA} {ma:MA} {apos p p':Pos} {y m:Str} {l:Nat} {g:List D->Fs->Res Fs} {pl:Sem Bool}
def RG(S:CalS X.prog X.w X.K X.mg X.base j y m n cs' g)(hr:Room l X.A)(hn:j<=l)(hg:Gl X y)(hx:Fd (CXR X.prog X.w) X E)(hcs:∀c,cs.contains c=true->cs'.contains c=true)(ha:DA X E n es t ma)(h:DSi X E cs rest u k)(hN:X.N[0]?=some x:=by rfl)(hv:Eg X.env.scope x:=by first | exact Or.inl rfl | exact Or.inr (Or.inl rfl) | exact Or.inr (Or.inr rfl))(hd:ND x:=by decide)(hcd:NE x:=by decide)(hdy:ND y:=by decide)(hst:starEach (.Name x p'::es) X.env=(false,eval (.Name x p') X.env)::starEach es X.env:=by rfl)(hpl:(backTo pos (starEach es X.env)).any (·.1)=false:=by rfl) (ht:eval (.Call (.Attribute (.Name y p) m apos) (.Name x p'::es) [] pos) X.env=(do
   let ov <-eval (.Name y p) X.env
   standAt apos.atName
   let (f,first) <-holding [ov] (getMethod ov m pl)
   callWith pos f first (backTo pos (starEach (.Name x p'::es) X.env)) (backToKw pos (keywordEach [] X.env))):=by rfl) (hs:swapsWith (.Call (.Attribute (.Name y p) m apos) (.Name x p'::es) [] pos) none spos.line X.env=pure false:=by rfl) :
  DSi X E cs (.Expr (.Call (.Attribute (.Name y p) m apos) (.Name x p'::es) [] pos) spos::rest) (tSeq (HH (Ju (spI X.K X.mg n cs' g) [] E (Dt (tVar 0) t))) u) (iSup g ma k):=by
 obtain ⟨C0,f,fd,ps,hy,cm,F,hb⟩:=S.ex;refine ⟨Lb (KN (ZqF hg hy cm F (hr.mono hn) hb hx (Fz (GF hN hv hd hcd) ha.p hst) hdy hst hpl ht) hs) h.p,?_⟩;intro x M C c V U F H Y Z fs B hc hm r;have A:=ha.s V U F H Y Z r.rep;have L:=ha.n Z;show AnsI X.K X.mg E x M C V U ((ma Z).bind λd=>(g d B).bind λfl'=>k Z fl') (λD=>∃v,Y[0]?=some (some v)/\t Y H λP H1=>spI X.K X.mg n cs' g (v::P++[]) H1 (λ_ H2=>u D Y H2) E);have J:AnsI X.K X.mg E x M C V U ((ma Z).bind λd=>(g d B).bind λfl'=>k Z fl') (λD=>t Y H λP H1=>spI X.K X.mg n cs' g (.ref x::P) H1 (λ_ H2=>u D Y H2) E):=by
  refine Ur r A λd eds F1 H1 P g1 W=>?_;have b:=r.gr g1;have hl:=W.length.trans (L d eds);cases eg:g d B with
  | bad=>trivial
  | ex ec=>
   intro D q;refine ⟨by rw [BP,hl],x,M,C,c,P,fs,F1,d,B,rfl,hcs c hc,hm,b.hx,b.fx,b.rep.g.s,W,b.fr,(by rw [eg];intro z;cases z),(λfl' e=>by rw [eg] at e;cases e),λe' G Q O fs' Ce i I hx hce=>?_⟩;rw [eg] at G;cases G;have r2:=b.go (fl':=B) (fs':=fs) i I;refine q Q O fs' Ce ?_ I hx hce;refine ⟨b.rep.g.f.trans i.f,i.s,λa o h1 h2=>?_,λa o u e=>b.rep.g.z a o u (i.z a o u e)⟩;obtain ⟨q1,q2⟩:=b.rep.g.o a o h1 h2;exact i.o a o q1 (by rw [Gq (Bj h2 r.h0)];exact q2)
  | ok fl'=>
   show AnsI X.K X.mg E x M C V U (k Z fl') _;have nx:=λQ O fs' i I hx T=>h.s x M C c V U Q O Y Z fs' fl' hc hm (b.go i I hx T);generalize k Z fl'=q0 at nx;cases q0 with
   | bad=>trivial
   | ok fl2=>
    intro D q;refine ⟨by rw [BP,hl],x,M,C,c,P,fs,F1,d,B,rfl,hcs c hc,hm,b.hx,b.fx,b.rep.g.s,W,b.fr,(by rw [eg];intro z;cases z),(λR e Q O fs' i I hx T=>?_),λe' G=>by rw [eg] at G;cases G⟩;rw [eg] at e;cases e;exact nx Q O fs' i I hx T D q
   | ex c2=>
    intro D q;refine ⟨by rw [BP,hl],x,M,C,c,P,fs,F1,d,B,rfl,hcs c hc,hm,b.hx,b.fx,b.rep.g.s,W,b.fr,(by rw [eg];intro z;cases z),(λR e Q O fs' i I hx T=>?_),λe' G=>by rw [eg] at G;cases G⟩;rw [eg] at e;cases e;exact nx Q O fs' i I hx T D q
 generalize ((ma Z).bind λd=>(g d B).bind λfl'=>k Z fl')=q0 at J;cases q0 with
 | bad=>trivial
 | ok fl'=>exact λD q=>⟨.ref x,r.self,by simpa using J D q⟩
 | ex c'=>exact λD q=>⟨.ref x,r.self,by simpa using J D q⟩
end
section
variable {qual:Str} {f:Addr} {cs:List Str}
def ZkF{F:Hp}(s:Same F H)(fa:F a=none)(r:Rps K mg F vs ds)(hN:1<=N.length):Rep K mg F (del H a) F H (start N (z::vs)) (.no::ev0 (N.length - 1) ds):=by
 have p:=r.length;have l:∀(i:Nat) (c:Cl),(ev0 (N.length - 1) ds)[i]?=some c->c=.no\/∃d,ds[i]?=some d/\c=.im d:=by
  intro i c e;rw [Mg] at e;by_cases g:i<ds.length
  .rw [Dn (by simpa using g),DK,Bg g] at e;exact .inr ⟨ds[i],Bg g,(Be e).symm⟩
  .rw [Ff (by simpa using g),Lz] at e;split at e
   .exact .inl (Be e).symm
   .cases e
 have f:∀(i:Nat) (c:Cl),(Cl.no::ev0 (N.length - 1) ds)[i]?=some c->c=.no\/∃d j,i=j+1/\ds[j]?=some d/\c=.im d:=by
  intro i c e;cases i with
  | zero=>exact .inl (Be e).symm
  | succ j=>
   rcases l j c (by simpa using e) with q | ⟨d,e1,k⟩
   .exact .inl q
   .exact .inr ⟨d,j,rfl,e1,k⟩
 refine ⟨⟨Same.refl _,s,λb o n h=>⟨n,?_⟩,λ_ _ _ e=>e⟩,?_,λi d e=>?_,λi m e=>?_,λi j m u a e=>?_⟩
 .by_cases hb:b=a
  .subst hb;rw [JZ] at h;cases h
  .rw [Gq hb] at h;exact h
 .rw [Mg];unfold start;simp [p];omega
 .rcases f i _ e with q | ⟨d',j,rfl,e1,q⟩
  .cases q
  .cases q;obtain ⟨v,k,t⟩:=r.get e1;refine ⟨v,?_,t⟩;have g:=(Dd.mp k).1;unfold start;rw [Bx,List.cons_append,List.getElem?_cons_succ,Dn (by simpa using g),DK,k];rfl
 .rcases f i _ e with q | ⟨d',j,_,e1,q⟩<;>cases q
 .rcases f i _ e with q | ⟨d',j,_,e1,q⟩<;>cases q
def okI{st:Stmt}{mb:MSi}(F:Fun K x qual st f fd)(S:Df N ps (Bd st))(hN:1<=N.length)(hp:ps.length=n+1)(h:∀(cdv:Value) (A:Around) (outer:List Env) (s:Shared) (H:Hp) (E:XK),Room k (A.deeper (envOfC qual (Bd st) s.heap.objs.size f cdv))->∃t,DSi (cxOf (CXR P w) P w K mg base N qual (Bd st) f cdv A outer s H E) E cs (FN st) t mb) :
  FnOk P w K mg base (CXR P w) (k+1) f fd ps (spI K mg n cs (fnI N.length mb)):=by
 obtain ⟨oc,od,kV,T,pm,an,cdv,ct,U,rfl,lk,j⟩:=F.ex;refine VR lk j S (λvs H Q E q=>q.1.trans hp.symm) λA outer s H vs Q E X l=>?_;obtain ⟨t,B⟩:=h cdv A outer s H E X;refine ⟨t,B.p,?_⟩;obtain ⟨_,x,Z,C,c,O,fs,I,D,y,rfl,R,W,hx,G,V,M,L,Y,u,m⟩:=l;have z:=B.s x Z C c I (del H x) I H (start N (.ref x::O)) (.no::ev0 (N.length - 1) D) fs y R W ⟨ZkF V G M hN,JZ,rfl,G,hx,L⟩;cases e:mb (.no::ev0 (N.length - 1) D) y with
 | ok fl'=>
  rw [e] at z;exact z _ λv r Y' a g d b i=>u fl' e v r a g d b i
 | ex c'=>
  rw [e] at z;exact z _ λv r a J g d b o=>m c' e v r a J g d b o
 | bad=>exact aB e Y
def okM{st:Stmt}{mb:MS}(F:Fun K x qual st f fd)(S:Df N ps (Bd st))(h:∀(cdv:Value) (A:Around) (outer:List Env) (s:Shared) (H:Hp) (E:XK),Room k (A.deeper (envOfC qual (Bd st) s.heap.objs.size f cdv))->∃t,DSs (cxOf (CXR P w) P w K mg base N qual (Bd st) f cdv A outer s H E) E (FN st) t mb) :
  FnOk P w K mg base (CXR P w) (k+1) f fd ps (spD K mg ps.length (fn N.length mb)):=by
 obtain ⟨X,U,T,I,Y,W,cdv,ct,J,rfl,R,m⟩:=F.ex;refine VR R m S (λu H Q E q=>q.1) λA outer s H u Q E M n=>?_;obtain ⟨t,o⟩:=h cdv A outer s H E M;refine ⟨t,o.p,?_⟩;obtain ⟨_,y,r,L,B,i,b,a⟩:=n;have z:=o.s y H y H (start N u) (ev0 N.length r) (Vr L B);unfold fn at i b a;cases e:mb (ev0 N.length r) with
 | ok fl=>
  rw [e] at z i b a;cases fl with
  | nx Z=>exact z _ λl j V _ G=>b .non rfl l j .non G.g .non
  | rt d=>exact z _ λl j v g O=>b d rfl l j v g O
  | bk Z=>exact aB rfl i
  | ct Z=>exact aB rfl i
 | ex c=>
  rw [e] at z a;exact z _ λl j C g D=>a c rfl l j C g D
 | bad=>rw [e] at i;exact aB rfl i
end
structure CalI(P:Program)(w:World)(K:W.Frag)(mg:Str->Option Value)(base:Heap)(k:Nat)(c:Str)(n:Nat)(cs:List Str)(g:List D->Fs->Res Fs):Prop where
 ex:∃(C f:Addr) (fd:FuncData) (ps:List Str),mg c=some (.ref C)/\Mk K C f/\FnOk P w K mg base (CXR P w) k f fd ps (spI K mg n cs g)/\Binds K fd ps []/\cs.contains c=true
def YM(K:W.Frag)(mg:Str->Option Value)(c:Str)(n:Nat)(cs:List Str)(g:List D->Fs->Res Fs)(E:XK)(t:TA):TE:=λY H Q=>∃C,mg c=some (.ref C)/\Zuh C (spI K mg n cs g) [] E t Y H Q
section
variable {c:Str} {cs:List Str} {g:List D->Fs->Res Fs} {t:TA} {ma:MA}
def Zr7(hm:mg c=some (.ref C))(hc:cs.contains c=true)(ha:SA K mg E t ma)(hl:SAn n ma):SE K mg E (YM K mg c n cs g E t) (make c g ma):=by
 intro F0 H0 F H Y Z rr;refine Ans.imp ?_ λQ q=>⟨C,hm,q⟩;refine (ha F0 H0 F H Y Z rr).bindE λD O y A vs P L=>?_;have v:=L.length.trans (hl Z D O);have l:∀x b,A x=none->A b=none->b≠x->y x=none/\y b=none/\Same y (upd (upd A b (.own x)) x (.ins C b []))/\del (upd (upd A b (.own x)) x (.ins C b [])) x=upd A b (.own x):=by
  intro x b m d i;refine ⟨P.s.free m,P.s.free d,λa o e=>?_,?_⟩
  .have z:=P.s a o e;rw [Ag (Bj z m),Ag (Bj z d)];exact z
  .funext a;by_cases h:a=x
   .subst h;rw [JZ,Ag (Ne.symm i)];exact m.symm
   .rw [Gq h,Ag h]
 cases eg:g D [] with
 | bad=>trivial
 | ex ec=>
  intro Q q x b m d i;obtain ⟨N,U,I,S⟩:=l x b m d i;refine ⟨by simp [v],x,b,C,c,vs,[],y,D,[],by simp,hc,hm,Ax,N,I,L,⟨rfl,.nil⟩,(by rw [eg];intro z;cases z),(λJ e=>by rw [eg] at e;cases e),λe' B r T k Ce j R w M=>?_⟩;rw [eg] at B;cases B;rw [S] at j;refine q r T Ce ⟨j.f,j.s,λa o G p=>?_,j.z⟩ M;exact j.o a o G (by rw [Ag (Bj p d)];exact p)
 | ok fl=>
  intro Q q x b m d i;obtain ⟨N,U,I,S⟩:=l x b m d i;refine ⟨by simp [v],x,b,C,c,vs,[],y,D,[],by simp,hc,hm,Ax,N,I,L,⟨rfl,.nil⟩,(by rw [eg];intro z;cases z),(λJ e r T k j R w V=>?_),λe' B=>by rw [eg] at B;cases B⟩;rw [eg] at e;cases e;rw [S] at j;obtain ⟨W,d2⟩:=j.o b _ U Ax;refine ⟨rfl,q (upd (upd r b (.own x)) x (.ins C b k)) T (.ref x) ⟨?_,?_,λa o G p=>?_,λa o u e=>j.z a o u (Mr (λ_ _ z=>by cases z) (Mr (λ_ _ z=>by cases z) e))⟩ ?_⟩
  .refine (j.f.trans (Du W _)).trans (Du ?_ _);rw [Ag (Ne.symm i)];exact R
  .intro a o e;by_cases ha:a=x
   .subst ha;rw [Ax] at e;cases e;exact w
   .rw [Ag ha] at e;by_cases hb:a=b
    .subst hb;rw [Ax] at e;cases e;exact d2
    .rw [Ag hb] at e;exact j.s a o e
  .have n1:a≠x:=Bj p m;have X:=Bj p d;obtain ⟨q1,q2⟩:=j.o a o G (by rw [Ag X];exact p);rw [Ag n1,Ag X];exact ⟨q1,q2⟩
  .have sF:Same r (upd (upd r b (.own x)) x (.ins C b k)):=(Du W _).trans (Du (by rw [Ag (Ne.symm i)];exact R) _);have z:Rp K mg (upd (upd r b (.own x)) x (.ins C b k)) (.ref x) (.ins c (k.map (·.1)) (fl.map (·.2))):=.ins hm Ax (by rw [Ag i,Ax]) rfl (V.rv.same sF);rw [V.nm] at z;exact z
end
section
variable {l:Nat} {c:Str} {cs:List Str} {g:List D->Fs->Res Fs} {t:TA} {ma:MA} {p:Pos}
def Qo(M:CalI X.prog X.w X.K X.mg X.base k c n cs g)(hr:Room l X.A)(hn:k+1<=l)(hg:Gl X c)(hx:Fd (CXR X.prog X.w) X E)(ha:DA X E n (e::es) t ma)(hdb:ND c:=by decide)(he:starEach (e::es) X.env=(false,eval e X.env)::starEach es X.env:=by rfl)(hpl:(backTo pos (starEach es X.env)).any (·.1)=false:=by rfl) :
  DE X E (.Call (.Name c p) (e::es) [] pos) (YM X.K X.mg c n cs g E t) (make c g ma):=by
 obtain ⟨C,f,q,r,b,j,F,m,i⟩:=M.ex;refine ⟨?_,Zr7 b i ha.s ha.n⟩;intro a s Y H Q I ⟨o,d,h⟩;rw [b] at d;cases d;exact ZqX j F (hr.mono hn) hg b m .nil hx ha.p hdb he hpl a s Y H Q I h
end
end L2.Ds
namespace Dl
def fstr(a b:Str)(e:ME):ME:=λZ=>(e Z).bind λd=>match d with
 | .int i=>if (0<=i/\i<10)/\a.length+b.length<=1000 then .ok (.str (a++Str.ofString (toString i)++b)) else .bad
 | _=>.bad
end Dl
namespace L2
open PySem.Calls
def tFs(a b:Str)(te:TE):TE:=λY H Q=>te Y H λx c=>∃i,x=.int i/\(0<=i/\i<10)/\a.length+b.length<=1000/\Q (.str (a++Str.ofString (toString i)++b)) c
def Zrn{k:Int}(h:0<=k/\k<10):(Str.ofString (toString k)).length=1:=by
 have z:∀n:Fin 10,(Str.ofString (toString ((n.1:Nat):Int))).length=1:=by decide +kernel
 rw [<-Int.toNat_of_nonneg h.1];exact z ⟨k.toNat,by omega⟩
def Qv(a):Str.empty++a=a:=by
 cases a with
 | mk cps=>
  show Str.mk (#[]++cps)=_;rw [Array.empty_append]
def ZqU{i j}(key:a.length+b.length<=1000)(he:PE X e te):PE X (.JoinedStr [.Constant (.str a) i p1,.FormattedValue e (-1) none p2,.Constant (.str b) j p3] pos) (tFs a b te):=by
 intro c s Y H Q I h;have m:2000<=sizeLine:=by decide
 refine wpAny_JoinedStr ?_;refine thn (QQ c s Y H (λv f=>v=.str a/\f=H) I ⟨rfl,rfl⟩) λu s1 zq=>?_;obtain ⟨x,f,I1,rx,ex,eh⟩:=zq;subst ex eh;obtain ⟨t,rfl⟩:=rx;refine ⟨a,t,rfl,by rw [Qv];omega,?_⟩;refine wpAny_FormattedValue_plain (thn (he c s1 Y f _ I1 h) λu s2 zq=>?_);obtain ⟨x,H2,I2,rx,k,ex,hk,hl,q⟩:=zq;subst ex;obtain ⟨n,rfl⟩:=rx;have d:k.natAbs.log2<1920:=Lx (Nat.log2_le_self _) (by omega);have o:=Zrn hk;refine PyProof.Rows.formatField_int_small d ⟨Str.ofString (toString k),_,rfl,by rw [Qv,strLen_append];omega,?_⟩;refine thn (QQ c _ Y H2 (λv f=>v=.str b/\f=H2) (I2.tok _) ⟨rfl,rfl⟩) λu s3 zq=>?_;obtain ⟨x,H3,I3,rx,ex,eh⟩:=zq;subst ex eh;obtain ⟨l,rfl⟩:=rx;have g:(Str.empty++a++Str.ofString (toString k)++b).length<=sizeLine:=by
  rw [Qv,strLen_append,strLen_append];omega
 refine ⟨b,l,rfl,g,g,?_⟩;rw [Qv];exact ⟨.str (a++Str.ofString (toString k)++b),H3,I3.tok _,⟨_,rfl⟩,q⟩
end L2
namespace L2.Ds
open PySem.Calls Dl
def Zrt(he:SE K mg E te me):SE K mg E (tFs a b te) (fstr a b me):=by
 intro l f F H Y Z j;refine (he l f F H Y Z j).bind λk g x d c e=>?_;cases d with
 | int i=>
  cases e;show Ans mg E (Rp K mg) k g (if (0<=i/\i<10)/\a.length+b.length<=1000 then .ok (.str (a++Str.ofString (toString i)++b)) else .bad) _
  by_cases h:(0<=i/\i<10)/\a.length+b.length<=1000
  .rw [iP h];exact .ret c.s (.str _) λQ q=>⟨i,rfl,h.1,h.2,q⟩
  .rw [iN h];trivial
 | _=>trivial
def Zu5{i j}(he:DE X E e te me)(key:a.length+b.length<=1000:=by decide +kernel):DE X E (.JoinedStr [.Constant (.str a) i p1,.FormattedValue e (-1) none p2,.Constant (.str b) j p3] pos) (tFs a b te) (fstr a b me):=⟨ZqU key he.p,Zrt he.s⟩
end L2.Ds
namespace L2
structure Hi(k:Nat)(A:Around):Prop where
 dp:A.depth+3*k+5<recursionLimit
 un:A.units+16*k+200<cLine
def ZpP(A:Around):Around:={ A with handled:=none }
def Room.h(r:Room k A)(v):Hi k (A.mark v):=⟨r.dp,r.un⟩
abbrev Ui(CX:CXT)(P:Program)(w:World)(K:W.Frag)(mg:Str->Option Value)(base:Heap)(N:List Str)(qual:Str)(scope:Scope)(f:Addr)(cd:Value)(A:Around)(outer:List Env)(s:Shared)(H:Hp)(E:XK):Cx :=
 { cxOf CX P w K mg base N qual scope f cd A outer s H E with calm:=false }
structure Qw(P:Program)(w:World)(K:W.Frag)(mg:Str->Option Value)(base:Heap)(CX:CXT)(k:Nat)(f:Addr)(fd:FuncData)(ps:List Str)(sp:Sp):Prop where
 len:∀vs H Q E,sp vs H Q E->vs.length=ps.length
 run:∀(A:Around) (outer:List Env) (s:Shared) (H:Hp) (args:Args) (us:List Value) (vs:List V) (Q:VK) (E:XK),Hi k A->Env0 P w K mg base A outer s H->BindsTo s fd args (ps.zip us)->Vals vs us->sp vs H Q E ->
  codeAny (model P w) A (.call (.ref f) args) (CR CX outer P w H s Q E) s
section
variable{CX:CXT} {qual:Str} {scope:Scope} {f:Addr} {cd:Value} {outer:List Env} {s1:Shared} {vs:List V}
def Zkp(S:Df N ps scope)(e0:Env0 P w K mg base A outer s H)(hl:vs.length=ps.length)(r:Vals vs us)(x:InCallC s s.heap.objs.size (bindL (envOfC qual scope s.heap.objs.size f cd).kindOf (ps.zip us) λ_=>none) (cellsFrom (s.heap.objs.size+1) scope.names []) (bindC (envOfC qual scope s.heap.objs.size f cd).kindOf (ps.zip us) λ_=>none) s1) :
  Inv (Ui CX P w K mg base N qual scope f cd A outer s H E) [] (start N vs) H s1:=by
 have a:Env0 P w K mg base (ZpP A) outer s H:=⟨e0.frames,e0.mod,e0.bs,e0.bsz,e0.funs,e0.frf,e0.hok,e0.bare⟩;have I:=Xx (CX:=CX) (E:=E) S rfl a hl r x;have ok:=I.ok;exact ⟨⟨ok.mod,ok.kind,ok.glob,ok.blt,ok.above,ok.inj,ok.has,ok.cab,(λz=>nomatch z),Around.frames_deeper e0.frames,ok.stk,ok.exf,ok.bs,ok.bsz,ok.noex,ok.exfs,ok.funs,ok.frf⟩,I.os,I.bare,I.base,I.loc,I.cell,I.free,I.freeC,I.pin,I.hok,I.len⟩
end
def ZtW{CX:CXT}{f:Addr}{name qual:Str}{params:Arguments}{body:List Stmt}{scope:Scope}{dV kV doc pm cdv ct oc:Value}{an od:Option Addr}{osl:Array (Option Value)}{sp:Sp}(lk:K.lookup f=some ⟨oc,od,.func (W.fnOf name qual params body scope dV kV doc pm an cdv ct),osl⟩)(hcd:W.codeIn K cdv qual=true)(S:Df N ps scope)(len:∀vs H Q E,sp vs H Q E->vs.length=ps.length) (hbody:∀(A:Around) (outer:List Env) (s:Shared) (H:Hp) (vs:List V) (Q:VK) (E:XK),Hi k (A.deeper (envOfC qual scope s.heap.objs.size f cdv))->sp vs H Q E ->
   ∃t,PSs (Ui CX P w K mg base N qual scope f cdv A outer s H E) body t/\t { nx:=λ_ H'=>Q .non H',rt:=Q } (start N vs) H) :
  Qw P w K mg base CX (k+1) f (W.fnOf name qual params body scope dV kV doc pm an cdv ct) ps sp:=by
 refine ⟨len,λA outer s H l O vs Q E h g B r d=>?_⟩;have G:=len _ _ _ _ d;have m:=g.mod.kin.keeps λb o e=>(g.bs b o e).1;have a:∀y∈ps.zip O,scope.names.lookup y.1=some .local\/(scope.names.lookup y.1=some .cell/\((cellsFrom (s.heap.objs.size+1) scope.names []).lookup y.1).isSome=true):=by
  rintro ⟨n,v⟩ L;rcases S.par n (List.of_mem_zip L).1 with q | q
  .left;exact q
  .right;exact ⟨q,W.cellsFrom_some _ _ _ (.inl q)⟩
 refine codeAny_call_function (by have:=h.dp;omega) (m _ _ lk) rfl S.co S.gen rfl (W.codeRec_of m hcd) (B _ _ _ _ (wpAny_newFunctionEnv_cells S.kind a λD C j x=>?_));subst C;have i:Hi k (A.deeper (envOfC qual scope s.heap.objs.size f cdv)):=⟨by have:=h.dp;show A.depth+1+3*k+5<_;omega,by have:=h.un;show A.units+3+16*k+200<_;omega⟩;obtain ⟨t,z,T⟩:=hbody A outer s H vs Q E i d;have I:Inv (Ui CX P w K mg base N qual scope f cdv A outer s H E) [] (start N vs) H j:=Zkp S g G r x;refine ⟨(g.mod.nolimit.keeps λb o e=>(g.bs b o e).1).keeps x.toInCall.keep,codeAny_func (BV (z [] j (start N vs) H _ I T) (λp R c=>?_) λe R c=>c)⟩;cases p with
 | ret u=>
  obtain ⟨v,F,H',J,M,q⟩:=c;exact ⟨v,H',J.os,J.bare,J.base,J.hok,M,q⟩
 | next=>
  obtain ⟨F,H',J,q⟩:=c;exact ⟨V.non,H',J.os,J.bare,J.base,J.hok,rfl,q⟩
 | brk=>
  obtain ⟨_,_,_,q⟩:=c;exact q.elim
 | cont=>
  obtain ⟨_,_,_,q⟩:=c;exact q.elim
end L2
namespace L2.Ds
open Dl
section
variable {G Gb F:Hp} {x:V}
def ZrD(h:noEx r=.ok a):r=.ok a:=by
 cases r with
 | ok b=>exact h
 | ex c=>cases h
 | bad=>cases h
def Zso{r:Res α}(h:r.bind f=.ok b):∃a,r=.ok a/\f a=.ok b:=by
 cases r with
 | ok a=>exact ⟨a,rfl,h⟩
 | ex c=>cases h
 | bad=>cases h
end
end L2.Ds
namespace L2
open PySem.W
def objX(a:Addr)(o:Obj):HO:=.ext λh=>h.get? a=some o
def ZsB{P:Program}{w:World}{H:Hp}{h:Heap}{a:Addr}{o:Obj}(e:h.get? a=some o):Dj P w H h a (objX a o):=⟨e,⟨o,e⟩,λ_ _ x k=>k o x⟩
def ZoG{P:Program}{w:World}{H:Hp}{h:Heap}{a:Addr}{o:Obj}(x:HOk P w H h)(e:H a=some (objX a o)):h.get? a=some o:=(show _/\_ from x a _ e).1
end L2
namespace Dl
def firsts(kf:Nat->List Int):Nat->List (List Int)
 | 0=>[]
 | i+1=>if kf i∈firsts kf i then firsts kf i else firsts kf i++[kf i]
def intsOf:List D->Option (List Int)
 | []=>some []
 | .int n::r=>(intsOf r).map (n::·)
 | _::_=>none
def keysOf:List D->Option (List (List Int))
 | []=>some []
 | .tup ds::r=>(intsOf ds).bind λk=>(keysOf r).map (k::·)
 | _::_=>none
def TV:D->Res D
 | .lst ds=>match keysOf ds with
  | some ks=>if ds.length<=16 then .ok (.int ((firsts (λi=>ks.getD i []) ds.length).length:Nat)) else .bad
  | none=>.bad
 | _=>.bad
end Dl
namespace L2.Sx
open PySem.SetTable
def adv(m:Nat)(p:Probe):Probe :=
 if p.more>0 then { p with j:=p.j+1,more:=p.more - 1 } else
 { p with j:=(leap m p.i p.perturb).1,more:=runEnd m (leap m p.i p.perturb).1 - (leap m p.i p.perturb).1,i:=(leap m p.i p.perturb).1,perturb:=(leap m p.i p.perturb).2 }
def Zgi(t:SetTable)(p:Probe):t.advance p=adv t.mask p:=rfl
def run(m i pt:Nat):Probe:={ j:=i,more:=runEnd m i - i,i,perturb:=pt,dummy:=none }
inductive Rch(m:Nat)(occ:Nat->Prop):Probe->Nat->Prop
 | here (p:Probe):Rch m occ p p.j
 | next {p:Probe} {j:Nat}:occ p.j->Rch m occ (adv m p) j->Rch m occ p j
def Rch.mono(h:∀j,occ j->occ' j)(r:Rch m occ p j):Rch m occ' p j:=by
 induction r with
 | here p=>exact .here p
 | next o _ ih=>exact .next (h _ o) ih
def Et(m:Nat)(occ:Nat->Prop):Nat->Probe->Prop
 | 0,p=>¬occ p.j
 | n+1,p=>¬occ p.j\/Et m occ n (adv m p)
def advs(m:Nat):Nat->Probe->Probe
 | 0,p=>p
 | n+1,p=>advs m n (adv m p)
def Et.of:∀{n:Nat} {p:Probe},¬occ (advs m n p).j->Et m occ n p
 | 0,_,h=>h
 | _+1,_,h=>.inr (Et.of h)
def Et.mono:∀{n n':Nat} {p:Probe},n<=n'->Et m occ n p->Et m occ n' p
 | 0,0,_,_,h=>h
 | 0,_+1,_,_,h=>.inl h
 | n+1,0,_,hl,_=>by omega
 | n+1,n'+1,_,hl,h=>h.elim .inl λh=>.inr (Et.mono (by omega) h)
def Qc(m):∀a b p,advs m (a+b) p=advs m b (advs m a p)
 | 0,b,p=>by rw [Nat.zero_add];rfl
 | a+1,b,p=>by rw [Nat.add_right_comm];exact Qc m a b (adv m p)
def Oo(m i pt):∀k,k<=runEnd m i - i->advs m k (run m i pt)={ j:=i+k,more:=runEnd m i - i - k,i,perturb:=pt,dummy:=none }
 | 0,_=>rfl
 | k+1,h=>by
  rw [Qc m k 1,Oo m i pt k (by omega)];show adv m _=_;unfold adv;rw [iP (show runEnd m i - i - k>0 by omega)];simp only [Probe.mk.injEq,and_true];omega
def Zjz(m i pt):advs m (runEnd m i - i+1) (run m i pt)=run m (leap m i pt).1 (leap m i pt).2:=by
 rw [Qc m (runEnd m i - i) 1,Oo m i pt _ (Ao _)];show adv m _=_;unfold adv;rw [iN (by simp)];rfl
def ZqT(m i):runEnd m i - i+1<=10:=by
 unfold runEnd;split<;>omega
def Dh(m:Nat):Nat->Nat×Nat->Nat×Nat
 | 0,p=>p
 | n+1,p=>Dh m n (leap m p.1 p.2)
def ZM(m):∀a b p,Dh m (a+b) p=Dh m b (Dh m a p)
 | 0,b,p=>by rw [Nat.zero_add];rfl
 | a+1,b,p=>by rw [Nat.add_right_comm];exact ZM m a b _
def YX(m):∀n i pt,∃k,k<=10*n/\advs m k (run m i pt)=run m (Dh m n (i,pt)).1 (Dh m n (i,pt)).2
 | 0,i,pt=>⟨0,Ao _,rfl⟩
 | n+1,i,pt=>by
  obtain ⟨k,a,e⟩:=YX m n (leap m i pt).1 (leap m i pt).2;refine ⟨(runEnd m i - i+1)+k,?_,?_⟩
  .have:=ZqT m i;omega
  .rw [Qc,Zjz,e];rfl
def Zu(m):∀n i pt,(Dh m n (i,pt)).2=pt/32^n
 | 0,i,pt=>by rw [Nat.pow_zero,Nat.div_one];rfl
 | n+1,i,pt=>by
  show (Dh m n (leap m i pt)).2=_;have e:=Zu m n (leap m i pt).1 (leap m i pt).2;have z:Dh m n (leap m i pt)=Dh m n ((leap m i pt).1,(leap m i pt).2):=rfl;rw [z,e];show pt/32/32^n=pt/32^(n+1);rw [Nat.div_div_eq_div_mul,Nat.pow_succ,Nat.mul_comm]
def Zjw(m):∀n i pt,i<=m->(Dh m n (i,pt)).1<=m
 | 0,i,pt,h=>h
 | n+1,i,pt,h=>by
  show (Dh m n ((leap m i pt).1,(leap m i pt).2)).1<=m;exact Zjw m n _ _ (by unfold leap;have:=Nat.mod_lt (i*5+1+pt/32) (show 0<m+1 by omega);simp only [];omega)
def WY(h):bits h<2^64:=by
 unfold bits;have b:=Int.emod_nonneg h (show ((2:Int)^64)≠0 by decide);have a:=Int.emod_lt_of_pos h (show (0:Int)<2^64 by decide);omega
def cyc7:∀i≤7,∀e≤7,∃k≤7,(Dh 7 k (i,0)).1=e:=by decide +kernel
def ZvK:∀i≤31,∀e≤31,∃k≤31,(Dh 31 k (i,0)).1=e:=by decide +kernel
def Mk(m:Nat):Prop:=m=7\/m=31
def cyc(hm:Mk m):∀i≤m,∀e≤m,∃k≤m,(Dh m k (i,0)).1=e:=by
 rcases hm with rfl | rfl
 .exact cyc7
 .exact ZvK
def cover(hm:Mk m){e:Nat}(hi:i<=m)(hp:pt<2^64)(he:e<=m):∃n,n<=13+m/\(Dh m n (i,pt)).1=e:=by
 have a:(Dh m 13 (i,pt)).2=0:=by
  rw [Zu];exact Nat.div_eq_of_lt (Bp hp (by decide))
 obtain ⟨k,c,b⟩:=cyc hm _ (Zjw m 13 i pt hi) e he;refine ⟨13+k,by omega,?_⟩;rw [ZM];have z:Dh m 13 (i,pt)=((Dh m 13 (i,pt)).1,0):=by rw [<-a]
 rw [z];exact b
def ends(hm:Mk m){e:Nat}(hi:i<=m)(hp:pt<2^64)(he:e<=m)(ho:¬occ e):Et m occ (10*(13+m)) (run m i pt):=by
 obtain ⟨n,c,a⟩:=cover hm hi hp he;obtain ⟨k,d,b⟩:=YX m n i pt;refine Et.mono (n:=k) (by omega) (Et.of ?_);rw [b];rw [a];exact ho
def Uy(xs:Array Nat)(j:Nat)(h:xs.toList.Pairwise (· < ·)):∀fuel lo hi,lo<=hi->hi<=xs.size->hi - lo<=fuel->(∀i q,i<lo->xs[i]<j)->(∀i q,hi<=i->¬xs[i]<j) ->
  below.go xs j fuel lo hi<=xs.size/\∀i q,xs[i]<j↔i<below.go xs j fuel lo hi
 | 0,lo,hi,h1,h2,h3,h4,h5=>by
  have e:lo=hi:=by omega
  subst e;exact ⟨h2,λi hi=>⟨λz=>Nat.lt_of_not_le λq=>h5 i hi q z,λz=>h4 i hi z⟩⟩
 | fuel+1,lo,hi,h1,h2,h3,h4,h5=>by
  unfold below.go;by_cases hl:lo<hi
  .rw [iP hl];simp only [];have d:(lo+hi)/2<xs.size:=by omega
   have g:∀a b (l:a<xs.size) (k:b<xs.size),a<b->xs[a]<xs[b]:=λa b l k f=>by
    have:=Qy.mp h a b (by simpa using l) (by simpa using k) f;simpa using this
   have m:xs.getD ((lo+hi)/2) j=xs[(lo+hi)/2]:=by simp [Array.getD,d]
   rw [m];by_cases hc:xs[(lo+hi)/2]<j
   .rw [iP hc];refine Uy xs j h fuel ((lo+hi)/2+1) hi (by omega) h2 (by omega) (λi c z=>?_) h5;by_cases hz:i<(lo+hi)/2
    .exact Fj (g i _ c d hz) hc
    .have:i=(lo+hi)/2:=by omega
     subst this;exact hc
   .rw [iN hc];refine Uy xs j h fuel lo ((lo+hi)/2) (by omega) (by omega) (by omega) h4 λi c z=>?_;by_cases hz:(lo+hi)/2<i
    .have:=g _ i d c hz;omega
    .have:i=(lo+hi)/2:=by omega
     subst this;exact hc
  .rw [iN hl];have e:lo=hi:=by omega
   subst e;exact ⟨h2,λi hi=>⟨λz=>Nat.lt_of_not_le λq=>h5 i hi q z,λz=>h4 i hi z⟩⟩
def ZD{xs:Array Nat}(j)(h:xs.toList.Pairwise (· < ·)):below xs j<=xs.size/\∀i hi,xs[i]<j↔i<below xs j :=
 Uy xs j h xs.size 0 xs.size (DX _) (Ao _) (by omega) (λ_ _ z=>by omega) λi hi z=>by omega
abbrev En:Type:=Nat×Int×Value
def Occ(l:List En)(j:Nat):Prop:=∃e∈l,e.1=j
abbrev st0(m:Nat)(h:Int):Probe:=run m (bits h%(m+1)) (bits h)
structure Tb(t:SetTable)(es:Array (Int×Value))(l:List En):Prop where
 ms:Mk t.mask
 pl:t.place.toList=l.map (·.1)
 el:es.toList=l.map (·.2)
 du:t.dummies=#[]
 up:l.Pairwise λa b=>a.1<b.1
 le:∀e∈l,e.1<=t.mask
 rc:∀e∈l,Rch t.mask (Occ l) (st0 t.mask e.2.1) e.1
section
variable{t:SetTable}{es:Array (Int×Value)}{l:List En}
def Tb.plP(T:Tb t es l):t.place.toList.Pairwise (· < ·):=by rw [T.pl,List.pairwise_map];exact T.up
def Tb.size(T:Tb t es l):t.place.size=l.length:=by rw [<-Ko,T.pl,Ah]
def Tb.esize(T:Tb t es l):es.size=l.length:=by rw [<-Ko,T.el,Ah]
def Tb.at(T:Tb t es l)(hi:i<t.place.size):t.place[i]=(l[i]'(by rw [<-T.size];exact hi)).1:=by
 have e:t.place.toList[i]'(by simpa using hi)=(l.map (·.1))[i]'(by rw [Ah,<-T.size];exact hi):=by
  congr 1;exact T.pl
 simpa using e
def Tb.live(T:Tb t es l){e:En}(h:l[i]?=some e):t.slot e.1=.live i:=by
 obtain ⟨c,rfl⟩:=Dd.mp h;have a:i<t.place.size:=by rw [T.size];exact c
 obtain ⟨j,d⟩:=ZD l[i].1 T.plP;have g:=Qy.mp T.up;have f:below t.place l[i].1=i:=by
  rcases Nat.lt_trichotomy (below t.place l[i].1) i with z | z | z
  .have b:below t.place l[i].1<t.place.size:=by omega
   have:=g _ i (by rw [<-T.size];exact b) c z;have q:=(d _ b).mp (by rw [T.at b];exact this);omega
  .exact z
  .have q:=(d i a).mpr z;rw [T.at a] at q;omega
 unfold slot;simp only [];rw [f,iP];rw [Ka a,T.at a];simp
def Tb.noDummy(T:Tb t es l)(j):has t.dummies j=false:=by
 rw [T.du];unfold has;simp
def Tb.empty(T:Tb t es l)(h:¬Occ l j):t.slot j=.empty:=by
 unfold slot;simp only [];rw [iN,T.noDummy,iN Cj];intro z;have z:=eq_of_beq z;obtain ⟨a,e⟩:=Hk.mp z;rw [T.at a] at e;exact h ⟨_,G4 _,e⟩
def Tb.occ(T:Tb t es l)(h:Occ l j):∃i e,l[i]?=some e/\e.1=j/\t.slot j=.live i:=by
 obtain ⟨e,b,rfl⟩:=h;obtain ⟨i,a,rfl⟩:=Gp.mp b;exact ⟨i,_,Bg a,rfl,T.live (Bg a)⟩
def Zer(xs:Array α)(p:Nat)(x:α)(hp:p<=xs.size):(insertAt xs p x).toList=xs.toList.take p++x::xs.toList.drop p:=by
 unfold insertAt;simp [Array.toList_extract,List.extract_eq_drop_take];exact Il (by simp)
def Tb.put(T:Tb t es l){x:Value}(hj:j<=t.mask)(ho:¬Occ l j)(hr:Rch t.mask (Occ l) (st0 t.mask h) j) :
  ∃l',List.Perm l' ((j,h,x)::l)/\Tb (t.put j).1 (insertAt es (t.put j).2 (h,x)) l':=by
 obtain ⟨p,s⟩:=ZD j T.plP;have w:(t.put j).2=below t.place j:=rfl;have v:(t.put j).1={ t with place:=insertAt t.place (below t.place j) j,dummies:=t.dummies }:=by
  unfold SetTable.put;simp only [];rw [T.noDummy,iN Cj]
 have n:List.Perm (l.take (below t.place j)++(j,h,x)::l.drop (below t.place j)) ((j,h,x)::l):=by
  refine List.perm_middle.trans ?_;rw [JB]
 have d:∀k,Occ l k->Occ (l.take (below t.place j)++(j,h,x)::l.drop (below t.place j)) k:=λk ⟨e,he,q⟩=>⟨e,n.mem_iff.mpr (Av _ he),q⟩;refine ⟨l.take (below t.place j)++(j,h,x)::l.drop (below t.place j),n,?_⟩;rw [w,v];refine ⟨T.ms,?_,?_,T.du,?_,λe he=>?_,λe he=>?_⟩
 .show (insertAt t.place (below t.place j) j).toList=_;rw [Zer _ _ _ p,T.pl];simp [List.map_take,List.map_drop]
 .rw [Zer _ _ _ (by rw [T.esize,<-T.size];exact p),T.el];simp [List.map_take,List.map_drop]
 .have f:∀e∈l.take (below t.place j),e.1<j:=λe he=>by
   obtain ⟨i,o,rfl⟩:=Gp.mp he;have m:i<below t.place j/\i<l.length:=by rw [Hj] at o;omega
   have g:i<t.place.size:=by rw [T.size];exact m.2
   have:=(s i g).mpr m.1;rw [T.at g] at this;simpa using this
  have c:∀e∈l.drop (below t.place j),j<e.1:=λe he=>by
   obtain ⟨i,o,rfl⟩:=Gp.mp he;rw [DP] at o;have g:below t.place j+i<t.place.size:=by rw [T.size];omega
   have u:=λz=>by have:=(s _ g).mp z;omega
   rw [T.at g] at u;have y:(l[below t.place j+i]'(by rw [<-T.size];exact g)).1≠j:=λz=>ho ⟨_,G4 _,z⟩;rw [List.getElem_drop];omega
  rw [List.pairwise_append];refine ⟨T.up.sublist (List.take_sublist _ _),?_,λa r b hb=>?_⟩
  .rw [List.pairwise_cons];exact ⟨λb hb=>c b hb,T.up.sublist (List.drop_sublist _ _)⟩
  .rcases An.mp hb with rfl | hb
   .exact f a r
   .exact Fj (f a r) (c b hb)
 .rcases An.mp (n.mem_iff.mp he) with rfl | he
  .exact hj
  .exact T.le e he
 .rcases An.mp (n.mem_iff.mp he) with rfl | he
  .exact hr.mono d
  .exact (T.rc e he).mono d
end
section
variable{t:SetTable}{es:Array (Int×Value)}{l:List En}{h:Int}{ha:Nat->Int}
def HAt(l:List En)(ha:Nat->Int):Prop:=∀i e,l[i]?=some e->ha i=e.2.1
def XX(T:Tb t es l)(hh:HAt l ha):∀n fuel p,p.dummy=none->Et t.mask (Occ l) n p->n<fuel ->
  (∃j,probe.go t ha h fuel p=some (.empty j none)/\¬Occ l j/\Rch t.mask (Occ l) p j/\∀e∈l,e.2.1=h->¬Rch t.mask (Occ l) p e.1) \/
  (∃i e p' n',probe.go t ha h fuel p=some (.candidate e.1 i (adv t.mask p'))/\l[i]?=some e/\e.2.1=h/\p'.j=e.1/\p'.dummy=none/\n'<n/\Et t.mask (Occ l) n' (adv t.mask p')/\(∀j,Rch t.mask (Occ l) (adv t.mask p') j->Rch t.mask (Occ l) p j)/\∀e'∈l,e'.2.1=h->e'≠e->Rch t.mask (Occ l) p e'.1->Rch t.mask (Occ l) (adv t.mask p') e'.1)
 | n,0,p,_,_,hf=>by omega
 | n,fuel+1,p,hd,hE,hf=>by
  by_cases ho:Occ l p.j
  .obtain ⟨i,e,w,d,B⟩:=T.occ ho;cases n with
   | zero=>exact aB ho hE
   | succ n=>
    have g:=hE.resolve_left λz=>z ho;have v:(adv t.mask p).dummy=none:=by unfold adv;split<;>exact hd
    unfold probe.go;rw [B];simp only [];have f:∀e'∈l,e'.1=e.1->e'=e:=λe' b q=>by
     obtain ⟨a,u,rfl⟩:=Gp.mp b;obtain ⟨A,rfl⟩:=Dd.mp w;have y:=Qy.mp T.up;rcases Nat.lt_trichotomy a i with z | z | z
     .have:=y a i u A z;omega
     .subst z;rfl
     .have:=y i a A u z;omega
    have x:∀{j:Nat},Rch t.mask (Occ l) p j->j≠p.j->Rch t.mask (Occ l) (adv t.mask p) j:=λ{j} r k=>by
     cases r with
     | here=>exact aB rfl k
     | next _ r=>exact r
    by_cases hq:ha i=h
    .rw [iP (by rw [hq];exact beq_self_eq_true h)];right;refine ⟨i,e,p,n,by rw [Zgi,d],w,by rw [<-hh i e w];exact hq,d.symm,hd,by omega,g,λj r=>.next ho r,λe' b _ k r=>x r λz=>k (f e' b (by rw [z,d]))⟩
    .rw [iN (by intro z;exact hq (eq_of_beq z)),Zgi];have m:e.2.1≠h:=by rw [<-hh i e w];exact hq
     rcases XX T hh n fuel (adv t.mask p) v g (by omega) with ⟨j,e1,e2,e3,e4⟩ | ⟨i',e',p',n',e1,e2,e3,e4,e5,e6,e7,e8,e9⟩
     .left;refine ⟨j,e1,e2,.next ho e3,λe' b q r=>e4 e' b q (x r λz=>?_)⟩;have:=f e' b (by rw [z,d]);subst this;exact m q
     .right;refine ⟨i',e',p',n',e1,e2,e3,e4,e5,by omega,e7,λj r=>.next ho (e8 j r),λs c q k r=>e9 s c q k (x r λz=>?_)⟩;have:=f s c (by rw [z,d]);subst this;exact m q
  .left;unfold probe.go;rw [T.empty ho];simp only [];refine ⟨p.j,by rw [hd],ho,.here p,λe d _ r=>?_⟩;generalize hz:e.1=z at r;cases r with
   | here=>exact ho ⟨e,d,hz⟩
   | next o _=>exact ho o
end
def Xi:∀{xs ys:List α},xs.Nodup->(∀x∈xs,x∈ys)->xs.length<=ys.length
 | [],_,_,_=>DX _
 | x::r,ys,hn,hs=>by
  obtain ⟨a,b,rfl⟩:=List.append_of_mem (hs x Aw);rw [MT] at hn;have:=Xi (ys:=a++b) hn.2 λy c=>by
   rcases Dv.mp (hs y (Av _ c)) with z | z
   .exact HD _ z
   .rcases An.mp z with rfl | z
    .exact aB c hn.1
    .exact CK _ z
  simp at this ⊢;omega
def Zho{js:List Nat}(h:js.length<=m):∃e,e<=m/\e∉js:=by
 refine RD λz=>?_;have:=Xi (xs:=List.range (m+1)) List.nodup_range λx a=>RD λq=>z ⟨x,by have:=GJ.mp a;omega,q⟩;rw [U9] at this;omega
def U8:∀{k:Nat} {p:Probe} {j:Nat},(∀k'<k,occ (advs m k' p).j)->Rch m occ (advs m k p) j->Rch m occ p j
 | 0,_,_,_,r=>r
 | k+1,p,j,h,r=>.next (h 0 (by omega)) (U8 (k:=k) (λk' a=>h (k'+1) (by omega)) r)
def Zsu(hk:k<=runEnd m i - i)(h:∀k'<k,occ (i+k')):Rch m occ (run m i pt) (i+k):=by
 refine U8 (k:=k) (λk' a=>?_) ?_
 .rw [Oo m i pt k' (by omega)];exact h k' a
 .rw [Oo m i pt k hk];exact .here _
def ZnK(h:∀k'≤runEnd m i - i,occ (i+k'))(r:Rch m occ (run m (leap m i pt).1 (leap m i pt).2) j):Rch m occ (run m i pt) j:=by
 refine U8 (k:=runEnd m i - i+1) (λk' a=>?_) ?_
 .rw [Oo m i pt k' (by omega)];exact h k' (by omega)
 .rw [Zjz];exact r
structure Ow(m:Nat)(owner:Array (Option Nat))(js:List Nat):Prop where
 sz:owner.size=m+1
 nd:js.Nodup
 le:∀j∈js,j<=m
 is:∀j k,j<=m->(owner[j]?=some (some k)↔js[k]?=some j)
def Ow.none(O:Ow m owner js)(hj:j<=m):(owner.getD j (some 0)).isNone=true↔j∉js:=by
 have a:j<owner.size:=by rw [O.sz];omega
 have c:owner.getD j (some 0)=owner[j]:=by simp [Array.getD,a]
 rw [c];constructor
 .intro z b;obtain ⟨k,d,e⟩:=Gp.mp b;have:=(O.is j k hj).mpr (by rw [Bg d,e]);rw [Ka a] at this;rw [Be this] at z;exact Bool.noConfusion z
 .intro z;cases q:owner[j] with
  | none=>rfl
  | some k=>
   have:=(O.is j k hj).mp (by rw [Ka a,q]);exact aB (Ef this) z
def Uw(h:i<=m):i<=runEnd m i/\runEnd m i<=m:=by
 unfold runEnd;split<;>omega
def W0(O:Ow m owner js){e:Nat}(he:e<=m)(hf:e∉js):∀fuel L i pt,i<=m->L<fuel->(Dh m L (i,pt)).1=e ->
  ∃j,j<=m/\layClean.free m owner fuel i pt=some j/\j∉js/\Rch m (·∈js) (run m i pt) j
 | 0,L,i,pt,_,hl,_=>by omega
 | fuel+1,L,i,pt,hi,hl,hL=>by
  obtain ⟨B,y⟩:=Uw hi;unfold layClean.free;cases q:(List.range (runEnd m i+1 - i)).find? λk=>(owner.getD (i+k) (some 0)).isNone with
  | some k=>
   obtain ⟨s,h,x,n,t⟩:=List.find?_eq_some_iff_append.mp q;have A:k<runEnd m i+1 - i:=GJ.mp (by rw [n];simp);have f:∀a<k,(owner.getD (i+a) (some 0)).isNone=false:=λa c=>by
    have p:h.length=k:=by
     have:=Bl (λl=>l[h.length]?) n;simp at this;rw [List.getElem?_range (by have:=Bl List.length n;simp at this;omega)] at this;exact Be this
    have g:a∈h:=by
     have r:(List.range (runEnd m i+1 - i))[a]?=(h++k::x)[a]?:=by rw [n]
     rw [List.getElem?_range (by omega),Dn (by omega)] at r;exact Ef r.symm
    have:=t a g;simpa using this
   refine ⟨i+k,by omega,rfl,(O.none (by omega)).mp s,Zsu (by omega) λa c=>?_⟩;exact RD λz=>by
    have d:=f a c;rw [(O.none (by omega)).mpr z] at d;exact Bool.noConfusion d
  | none=>
   have b:∀a≤runEnd m i - i,i+a∈js:=λa c=>RD λz=>by
    have d:=List.find?_eq_none.mp q a (GJ.mpr (by omega));exact d ((O.none (by omega)).mpr z)
   cases L with
   | zero=>
    have:i=e:=hL;subst this;exact aB (b 0 (by omega)) hf
   | succ L=>
    have o:(leap m i pt).1<=m:=by
     unfold leap;have:=Nat.mod_lt (i*5+1+pt/32) (show 0<m+1 by omega);omega
    obtain ⟨j,d,w,v,u⟩:=W0 O he hf fuel L (leap m i pt).1 (leap m i pt).2 o (by omega) hL;exact ⟨j,d,w,v,ZnK b u⟩
def Ow.put(O:Ow m owner js)(hj:j<=m)(hf:j∉js):Ow m (owner.setIfInBounds j (some js.length)) (js++[j]):=by
 refine ⟨by rw [Array.size_setIfInBounds];exact O.sz,?_,λi d=>?_,λi k d=>?_⟩
 .rw [List.nodup_append];refine ⟨O.nd,by simp,λa f b c=>?_⟩;rw [De] at c;subst c;rintro rfl;exact hf f
 .rcases Dv.mp d with z | z
  .exact O.le i z
  .rw [De] at z;subst z;exact hj
 .rw [Array.getElem?_setIfInBounds];have c:j<owner.size:=by rw [O.sz];omega
  by_cases e:j=i
  .subst e;rw [iP rfl,iP c];constructor
   .intro z;cases z;simp
   .intro z;by_cases hk:k<js.length
    .rw [Dn hk] at z;exact aB (Ef z) hf
    .have:k=js.length:=by
      have:=(Dd.mp z).1;simp at this;omega
     rw [this]
  .rw [iN e,O.is i k d];constructor
   .intro z;rw [Dn (Dd.mp z).1];exact z
   .intro z;by_cases hk:k<js.length
    .rw [Dn hk] at z;exact z
    .have:k=js.length:=by
      have:=(Dd.mp z).1;simp at this;omega
     subst this;simp at z;exact aB z e
def RcW(m:Nat)(hs:List Int)(js:List Nat):Prop:=∀(k:Nat) (h:Int) (j:Nat),hs[k]?=some h->js[k]?=some j->Rch m (·∈js) (st0 m h) j
def Zjm(hm:Mk m):∀rest done owner js,Ow m owner js->js.length=done.length->RcW m done js->done.length+rest.length<=m ->
  ∃owner' js',rest.foldl (λacc h=>do
   let (owner,k) <-acc
   let j <-layClean.free m owner (turns m) (bits h%(m+1)) (bits h)
   pure (owner.setIfInBounds j (some k),k+1)) (some (owner,js.length))=some (owner',js'.length)/\Ow m owner' js'/\js'.length=(done++rest).length/\RcW m (done++rest) js'
 | [],done,owner,js,O,hl,hr,_=>⟨owner,js,rfl,O,by rw [Cq];exact hl,by rw [Cq];exact hr⟩
 | h::rest,done,owner,js,O,hl,hr,hle=>by
  simp only [BP] at hle;obtain ⟨e,g,t⟩:=Zho (m:=m) (js:=js) (by omega);have f:bits h%(m+1)<=m:=by
   have:=Nat.mod_lt (bits h) (show 0<m+1 by omega);omega
  obtain ⟨L,w,p⟩:=cover hm f (WY h) g;obtain ⟨j,l,r,i,u⟩:=W0 O g t (turns m) L _ (bits h) f (by unfold turns;omega) p;have n:=O.put l i;have c:RcW m (done++[h]) (js++[j]):=by
   intro k q s a b;by_cases hk:k<done.length
   .rw [Dn hk] at a;rw [Dn (by omega)] at b;exact (hr k q s a b).mono λx d=>HD _ d
   .have:k=done.length:=by
     have:=(Dd.mp a).1;simp at this;omega
    subst this;simp at a;rw [<-hl] at b;simp at b;subst a b;exact u.mono λx d=>HD _ d
  obtain ⟨owner',js',a,b,o,v⟩:=Zjm hm rest (done++[h]) _ (js++[j]) n (by simp [hl]) c (by simp;omega);refine ⟨owner',js',?_,b,by rw [o];simp,by simpa using v⟩;rw [List.foldl_cons]
  have z:(do
   let (owner,k) <-some (owner,js.length)
   let j <-layClean.free m owner (turns m) (bits h%(m+1)) (bits h)
   pure (owner.setIfInBounds j (some k),k+1):Option (Array (Option Nat)×Nat))=some (owner.setIfInBounds j (some js.length),(js++[j]).length):=by
   show (layClean.free m owner (turns m) (bits h%(m+1)) (bits h)).bind _=_;rw [r];simp
  rw [z];exact a
def Zli(hm:Mk m)(hashes)(hl:hashes.size<=m):∃owner js,layClean m hashes=some owner/\Ow m owner js/\js.length=hashes.size/\RcW m hashes.toList js:=by
 have f:Ow m (Array.replicate (m+1) none) []:=⟨by simp,List.nodup_nil,λ_ h=>(CN h).elim,λj k a=>by
  rw [Array.getElem?_replicate]
  simp [a]⟩
 obtain ⟨owner,js,b,g,d,c⟩:=Zjm hm hashes.toList [] _ [] f rfl (λk h j e _=>by simp at e) (by simpa using hl);refine ⟨owner,js,?_,g,by simpa using d,by simpa using c⟩;unfold layClean;rw [<-Array.foldl_toList];have z:=Bl (Option.map (·.1)) b;exact z
section
variable{t:SetTable}{es:Array (Int×Value)}{l:List En}
def ZlT(O:Ow m owner js)(live)(hlive:live=(List.range (m+1)).filterMap λj=>(owner.getD j none).map (j,·)) :
  live.Pairwise (λa b=>a.1<b.1)/\∀j k,(j,k)∈live↔js[k]?=some j:=by
 have h:∀j k,(j,k)∈live↔js[k]?=some j:=λj k=>by
  rw [hlive,Ku];constructor
  .rintro ⟨i,g,e⟩;have g:=GJ.mp g;have c:i<owner.size:=by rw [O.sz];exact g
   have n:owner.getD i none=owner[i]:=by simp [Array.getD,c]
   rw [n] at e;cases q:owner[i] with
   | none=>rw [q] at e;cases e
   | some k'=>
    rw [q] at e;simp only [Option.map_some,Option.some.injEq,Prod.mk.injEq] at e;obtain ⟨rfl,rfl⟩:=e;exact (O.is i k' (by omega)).mp (by rw [Ka c,q])
  .intro e;have o:=O.le j (Ef e);have c:j<owner.size:=by rw [O.sz];omega
   refine ⟨j,GJ.mpr (by omega),?_⟩;have n:owner.getD j none=owner[j]:=by simp [Array.getD,c]
   have q:=(O.is j k o).mpr e;rw [Ka c] at q;rw [n,Be q];rfl
 refine ⟨?_,h⟩;rw [hlive,List.pairwise_filterMap];refine List.pairwise_lt_range.imp λ{a b} l=>?_;intro x f y d;cases qa:owner.getD a none with
 | none=>rw [qa] at f;cases f
 | some ka=>
  cases qb:owner.getD b none with
  | none=>rw [qb] at d;cases d
  | some kb=>
   rw [qa] at f;rw [qb] at d;cases f;cases d;exact l
def Tb.relay(T:Tb t es l)(hl:l.length<=16)(hw:sizeAbove wanted=32) :
  ∃t' order l',t.relaid (es.map (·.1)) wanted=some (t',order)/\t'.mask=31/\t'.led=t.led/\t'.plain=t.plain/\Tb t' (order.filterMap (es[·]?)) l'/\List.Perm (l'.map (·.2)) (l.map (·.2)):=by
 have F:Mk 31:=.inr rfl;obtain ⟨m,w,M,O,I,K⟩:=Zli F (es.map (·.1)) (by rw [Array.size_map,T.esize];omega);obtain ⟨c,g⟩ : ∃c,c=(List.range (31+1)).filterMap λj=>(m.getD j none).map (j,·):=⟨_,rfl⟩;obtain ⟨E,f⟩:=ZlT O c g;have N:w.length=l.length:=by rw [I,Array.size_map,T.esize]
 have n:∀j k,(j,k)∈c->k<l.length:=λj k h=>by
  have:=(Dd.mp ((f j k).mp h)).1;omega
 have C:∀k,k<l.length->es[k]?=some ((l.getD k (0,0,.none)).2):=λk s=>by
  rw [<-Ng,T.el,DK,Bg s];simp [List.getD,s]
 obtain ⟨l',d⟩ : ∃l':List En,l'=c.map λp=>(p.1,(l.getD p.2 (0,0,.none)).2):=⟨_,rfl⟩;have B:(c.map (·.2)).Nodup:=by
  unfold List.Nodup;rw [List.pairwise_map];refine List.Pairwise.imp_of_mem (λ{a b} G J P=>?_) E;intro z;have D:=(f a.1 a.2).mp G;have L:=(f b.1 b.2).mp J;rw [z,L] at D;have:=Be D;omega
 have o:List.Perm (c.map (·.2)) (List.range l.length):=by
  rw [List.perm_ext_iff_of_nodup B List.nodup_range];intro k;rw [GJ];constructor
  .intro h;obtain ⟨⟨j,Q⟩,u,rfl⟩:=Bk.mp h;exact n j Q u
  .intro h;refine Bk.mpr ⟨(w[k]'(by omega),k),(f _ _).mpr (Bg (by omega)),rfl⟩
 refine ⟨{ mask:=31,place:=(c.map (·.1)).toArray,dummies:=#[],finger:=t.finger,led:=t.led,moves:=t.movedTo 31,plain:=t.plain },(c.map (·.2)).toArray,l',?_,rfl,rfl,rfl,?_,?_⟩
 .unfold relaid;rw [hw];unfold laid;rw [M];show some _=some _;rw [g]
 .have R:∀j,j∈w->Occ l' j:=λj H=>by
   obtain ⟨k,s,rfl⟩:=Gp.mp H;exact ⟨_,by rw [d];exact Bk.mpr ⟨(w[k],k),(f _ _).mpr (Bg s),rfl⟩,rfl⟩
  refine ⟨F,?_,?_,rfl,?_,λe v=>?_,λe v=>?_⟩
  .show c.map (·.1)=_;rw [d,Ck];rfl
  .rw [Array.toList_filterMap];rw [d,Ck,List.filterMap_map];have A:∀q:List (Nat×Nat),(∀x∈q,x.2<l.length)->q.filterMap ((es[·]?) ∘ (·.2))=q.map ((·.2) ∘ λp:Nat×Nat=>((p.1,(l.getD p.2 (0,0,Value.none)).2):En)):=by
    intro q
    induction q with
    | nil=>intro _;rfl
    | cons x r ih=>
     intro h;rw [Mj,Bx,<-ih λy S=>h y (Av _ S)];simp only [Function.comp];rw [C x.2 (h x Aw)]
   exact A c λx U=>n x.1 x.2 U
  .rw [d,List.pairwise_map];exact E
  .rw [d] at v;obtain ⟨⟨j,k⟩,u,rfl⟩:=Bk.mp v;exact O.le j (Ef ((f j k).mp u))
  .rw [d] at v;obtain ⟨⟨j,k⟩,u,rfl⟩:=Bk.mp v;have s:=n j k u;refine (K k _ j ?_ ((f j k).mp u)).mono R;rw [Array.toList_map,T.el,Ck,DK,Bg s];simp [List.getD,s]
 .rw [d,Ck];have e:l.map (·.2)=(List.range l.length).map λk=>(l.getD k (0,0,Value.none)).2:=by
   apply List.ext_getElem?;intro i;by_cases h:i<l.length
   .simp [h]
   .simp [h]
  rw [e];have:=o.map λk=>(l.getD k (0,0,Value.none)).2;rw [Ck] at this;exact this
end
section
variable{prog:Program} {E:Value->Shared->Prop}
def items_int(h:ItemsAre (intKind prog w) ks vs):∀v∈vs,∃i t,v=Value.int i t:=by
 induction h with
 | nil=>exact λ_ h=>(CN h).elim
 | @cons k v ks vs h1 _ ih=>
  intro u hu;rcases An.mp hu with rfl | hu
  .cases u with
   | int i t=>exact ⟨i,t,rfl⟩
   | _=>exact aB h1 (by intro z;exact Bool.noConfusion z)
  .exact ih u hu
def Wr(hk:IsTupleKey (intKind prog w) s.heap ks a)(h:Q false s):wpAny (model prog w) A (ofAClassStatement 8 (.ref a)) Q E s:=by
 obtain ⟨o,f,n,k,m,q,l⟩:=hk;have p:s.TypeIs (.ref a) "tuple":=⟨o,k,m⟩;have d:=items_int l;unfold ofAClassStatement;refine Ac (JX p ?_);dsimp only;rw [iP (by decide)];refine Ac (Af ?_);simp only [Bool.not_true,Di,Cu];refine Ac (wpAny_seqItems k q ?_);refine Ac ?_;rw [<-Array.forIn_toList];refine wpAny_forIn_list _ (λb r j=>r.1=none/\j=s/\∀v∈b,∃i t,v=Value.int i t) _ ?_ ?_ _ _ ⟨rfl,rfl,d⟩
 .rintro v b r j ⟨g,rfl,c⟩;obtain ⟨i,t,rfl⟩:=c v Aw;refine Ac (Af ?_);simp only [Di,Cu];exact Af ⟨rfl,rfl,λu e=>c u (Av _ e)⟩
 .rintro ⟨x,y⟩ j ⟨g,rfl,_⟩;simp only at g;subst g;exact Af h
def Zqx{x:Addr}{ks:List Int}{stored:List Value}{Q:Bool->Shared->Prop}(hx:IsTupleKey (intKind prog w) s.heap ks x)(hs:∀y∈stored,∃b ks',y=Value.ref b/\IsTupleKey (intKind prog w) s.heap ks' b)(h:Q false s) :
  wpAny (model prog w) A (searchCouldBeSeen (.ref x) stored) Q E s:=by
 unfold searchCouldBeSeen;refine Ac ?_;refine wpAny_forIn_list _ (λc r e=>r.1=none/\e=s/\∀v∈c,∃b ks',v=Value.ref b/\IsTupleKey (intKind prog w) s.heap ks' b) _ ?_ ?_ _ _ ⟨rfl,rfl,hs⟩
 .rintro v c r e ⟨f,rfl,a⟩;obtain ⟨b,ks',rfl,g⟩:=a v Aw;dsimp only;split
  .exact Af ⟨rfl,rfl,λu d=>a u (Av _ d)⟩
  .refine Ac (wpAny_eqIsQuiet_tuple hx ?_);simp only [Bool.not_true,Di,Cu];refine Ac (wpAny_eqIsQuiet_tuple g ?_);simp only [Bool.not_true,Di,Cu];refine Ac (Wr hx ?_);simp only [Di,Cu];refine Ac (Wr g ?_);simp only [Di,Cu];exact Af ⟨rfl,rfl,λu d=>a u (Av _ d)⟩
 .rintro ⟨i,j⟩ e ⟨f,rfl,_⟩;simp only at f;subst f;exact Af h
def ZkI(hk:IsTupleKey (intKind prog w) s.heap ks a)(h:Q true s):wpAny (model prog w) A (hashByValue 8 (.ref a)) Q E s:=by
 have m:=hk.typeIs;obtain ⟨o,f,n,l,q,p,k⟩:=hk;have d:=items_int k;unfold hashByValue;refine Ac (wpAny_specialOf m F.slot_tuple_hash.lookup ?_);refine Ac (wpAny_seqItems l p ?_);refine Ac ?_;rw [<-Array.forIn_toList];refine wpAny_forIn_list _ (λb r j=>r.1=none/\j=s/\∀v∈b,∃i t,v=Value.int i t) _ ?_ ?_ _ _ ⟨rfl,rfl,d⟩
 .rintro v b r j ⟨g,rfl,c⟩;obtain ⟨i,t,rfl⟩:=c v Aw;refine Ac (Af ?_);simp only [Bool.not_true,Di,Cu];exact Af ⟨rfl,rfl,λu e=>c u (Av _ e)⟩
 .rintro ⟨x,y⟩ j ⟨g,rfl,_⟩;simp only at g;subst g;exact Af h
end
section
variable{prog:Program} {E:Value->Shared->Prop}
def El(prog:Program)(w:World)(h:Heap)(p:Int×Value)(ks:List Int):Prop:=∃x,p.2=.ref x/\IsTupleKey (intKind prog w) h ks x/\p.1=tupleKeyHash (intKind prog w) ks
def El.inj{h:Heap}{p:Int×Value}{a b:List Int}(ha:El prog w h p a)(hb:El prog w h p b):a=b:=by
 obtain ⟨x,e,f,_⟩:=ha;obtain ⟨y,c,d,_⟩:=hb;rw [e] at c;cases c;exact f.inj d
def Tb.fits{es:Array (Int×Value)}(T:Tb t es l)(hl:l.length<=t.mask):t.fits es.size=true:=by
 unfold SetTable.fits SetTable.fill;rw [T.du,T.size,T.esize];simp;exact hl
def Tb.odd{es:Array (Int×Value)}(T:Tb t es l):t.gaveWay=false:=by
 unfold SetTable.gaveWay;rcases T.ms with e | e<;>rw [e]<;>rfl
def ZsZ{es:Array (Int×Value)}(T:Tb t es l):HAt l (λi=>(es[i]?.map (·.1)).getD 0):=λi e h=>by
 show ((es[i]?.map (·.1)).getD 0)=_;rw [<-Ng,T.el,DK,h];rfl
def Zlv{x:Addr}{es:Array (Int×Value)}(hu:A.units<cLine)(ho:s.heap.get? a=some o)(hd:o.data=.set es ep t)(T:Tb t es l)(hl:l.length<=t.mask)(hel:∀e∈l,∃ks',El prog w s.heap e.2 ks')(hx:IsTupleKey (intKind prog w) s.heap ks x) :
  ∀n fuel stand,n<fuel->n<=10*(13+t.mask)->(stand.getD (t.probeStart (tupleKeyHash (intKind prog w) ks))).dummy=none->Et t.mask (Occ l) n (stand.getD (t.probeStart (tupleKeyHash (intKind prog w) ks))) ->
   ((∃e∈l,El prog w s.heap e.2 ks/\Rch t.mask (Occ l) (stand.getD (t.probeStart (tupleKeyHash (intKind prog w) ks))) e.1)/\R (.there none) s)\/((∀e∈l,¬El prog w s.heap e.2 ks)/\∀j,¬Occ l j->Rch t.mask (Occ l) (stand.getD (t.probeStart (tupleKeyHash (intKind prog w) ks))) j->R (.free j false) s) ->
   wpAny (model prog w) A (setSearchFrom a (.ref x) (tupleKeyHash (intKind prog w) ks) true fuel stand) R E s:=by
 intro n
 induction n using Nat.strongRecOn with
 | ind n ih=>
  intro fuel stand X W J O C;obtain ⟨fuel,rfl⟩ : ∃k,fuel=k+1:=⟨fuel - 1,by omega⟩;unfold setSearchFrom;refine Ac (J6 ho hd (T.fits hl) ?_);dsimp only;rw [T.odd];simp only [Di,Cu];generalize hp:stand.getD (t.probeStart (tupleKeyHash (intKind prog w) ks))=p at *;rcases XX T (ZsZ T) n (10*turns t.mask) p J O (by unfold turns;omega) with ⟨j,e1,e2,e3,e4⟩ | ⟨i,e,p',n',e1,e2,e3,e4,e5,e6,e7,e8,e9⟩
  .generalize hm:t.probe _ (tupleKeyHash (intKind prog w) ks) p=met;have B:=hm.symm.trans e1;subst B;refine Af ?_;rcases C with ⟨⟨e,he,hel',H⟩,_⟩ | ⟨_,C⟩
   .obtain ⟨_,_,_,U⟩:=hel';exact aB H (e4 e he U)
   .exact C j e2 e3
  .generalize hm:t.probe _ (tupleKeyHash (intKind prog w) ks) p=met;have B:=hm.symm.trans e1;subst B;dsimp only;have v:=Ef e2;obtain ⟨ks',y,L,D,F⟩:=hel e v;have M:es[i]?=some e.2:=by rw [<-Ng,T.el,DK,e2];rfl
   have f:es[i]?=some (e.2.1,Value.ref y):=by rw [M,<-L]
   have m:∀c,c.getD (t.probeStart (tupleKeyHash (intKind prog w) ks))=adv t.mask p'->¬ks'=ks->wpAny (model prog w) A (setSearchFrom a (.ref x) (tupleKeyHash (intKind prog w) ks) true fuel c) R E s:=λc h K=>by
    refine ih n' e6 fuel c (by omega) (by omega) ?_ ?_ ?_
    .rw [h];unfold adv;split<;>exact e5
    .rw [h];exact e7
    .rw [h];rcases C with ⟨⟨I,r,hel',H⟩,u⟩ | ⟨hno,C⟩
     .left;refine ⟨⟨I,r,hel',e9 I r hel'.choose_spec.2.2 (λz=>?_) H⟩,u⟩;subst z;exact K (El.inj ⟨y,L,D,F⟩ hel')
     .exact .inr ⟨hno,λj Q H=>C j Q (e8 j H)⟩
   have d:ks'=ks->R (.there none) s:=λg=>by
    subst g;rcases C with ⟨_,u⟩ | ⟨hno,_⟩
    .exact u
    .exact aB ⟨y,L,D,F⟩ (hno e v)
   rw [f];have h:∀y∈List.map (λx=>x.2) (Array.filter (λx=>x.1==tupleKeyHash (intKind prog w) ks) es).toList,∃b ks',y=Value.ref b/\IsTupleKey (intKind prog w) s.heap ks' b:=λy D=>by
    obtain ⟨q,u,rfl⟩:=Bk.mp D;rw [Array.toList_filter] at u;have u:=(List.mem_filter.mp u).1;rw [T.el] at u;obtain ⟨I,r,rfl⟩:=Bk.mp u;obtain ⟨P,S,N,V,_⟩:=hel I r;exact ⟨S,P,N,V⟩
   have G:t.sameMemory t.moves t.mask=some true:=by unfold SetTable.sameMemory;simp
   cases hled:t.led
   all_goals simp only [Bool.not_false,Bool.not_true,Di,Cu,Cw]
   .refine Ac (Zqx hx h ?_);simp only [Di,Cu];refine Ac (Cv (wpAny_eqBool_tuple hu D hx ?_));refine Ac (J6 ho hd (T.fits hl) ?_);by_cases g:ks'=ks
    .rw [Aj g];simp only [K1,Cw];exact Af (d g)
    .rw [Al g];simp only [Ez,Di,Cu];rw [G];simp only [Cw];rw [T.live e2];dsimp only;rw [f];refine wpAny_bind (wpAny_of_eq (show isSame (.ref y) (.ref y)=pure true by unfold isSame;simp) ?_);refine Ac (Af ?_);exact m (some _) rfl g
   .refine Ac (Cv (wpAny_eqBool_tuple hu D hx ?_));refine Ac (J6 ho hd (T.fits hl) ?_);by_cases g:ks'=ks
    .rw [Aj g];simp only [K1,Cw];exact Af (d g)
    .rw [Al g];simp only [Ez,Di,Cu];rw [G];simp only [Cw];rw [T.live e2];dsimp only;rw [f];refine wpAny_bind (wpAny_of_eq (show isSame (.ref y) (.ref y)=pure true by unfold isSame;simp) ?_);refine Ac (Af ?_);exact m (some _) rfl g
end
section
variable{prog:Program} {E:Value->Shared->Prop}
def SetT(prog:Program)(w:World)(h:Heap)(a:Addr)(kss:List (List Int)):Prop:=∃o c d t l,h.get? a=some o/\o.ExactSet/\o.data=.set c d t/\Tb t c l/\(t.mask=7->l.length<=4)/\l.length<=16 /\
 (∀e∈l,∃b∈kss,El prog w h e.2 b)/\(∀b∈kss,∃e∈l,El prog w h e.2 b)/\l.length=kss.length
def El.keeps{es:Array (Int×Value)}(x:El prog w h p ks)(ho:h.get? a=some o)(hd:o.data=.set es ep t)(hs:Heap.SameBut a h h'):El prog w h' p ks:=by
 obtain ⟨x,e,⟨g,c,n,d,j,b,i⟩,k⟩:=x;have f:x≠a:=by
  rintro rfl;obtain rfl:g=o:=Be (d.symm.trans ho);rw [hd] at b;exact nomatch b
 exact ⟨x,e,⟨g,c,n,(hs.2 x f).trans d,j,b,i⟩,k⟩
def Zs5(r:Rch m occ p j):p.j+p.more<=m->j<=m:=by
 induction r with
 | here p=>exact λh=>by omega
 | @next p j _ _ ih=>
  intro h;refine ih ?_;unfold adv;split
  .simp only [];omega
  .have a:(leap m p.i p.perturb).1<=m:=by
    unfold leap;have:=Nat.mod_lt (p.i*5+1+p.perturb/32) (show 0<m+1 by omega);omega
   have:=Uw a;simp only [];omega
def Zof(t:SetTable)(j:Nat):(t.put j).1.mask=t.mask/\(t.put j).1.plain=t.plain:=⟨rfl,rfl⟩
def Zuf{x:Addr}(hu:A.units<cLine)(hS:SetT prog w s.heap a kss)(hx:IsTupleKey (intKind prog w) s.heap ks x)(hn:kss.length+1<=16)(h:∀b h',Heap.SameBut a s.heap h'->SetT prog w h' a (if ks∈kss then kss else kss++[ks])->Q b { s with heap:=h' }) :
  wpAny (model prog w) A (setAddHashed a (.ref x) (tupleKeyHash (intKind prog w) ks)) Q E s:=by
 obtain ⟨o,Z,Y,t,l,v,J,u,T,h7,h16,C,L,n⟩:=hS;have B:l.length<=t.mask:=by rcases T.ms with e | e<;>rw [e]<;>omega
 refine Cv (Ac (J6 v u (T.fits B) ?_));obtain ⟨e,he,hf⟩:=Zho (js:=l.map (·.1)) (by rw [Ah];exact B);have hE:Et t.mask (Occ l) (10*(13+t.mask)) (t.probeStart (tupleKeyHash (intKind prog w) ks)):=by
  exact ends T.ms (by have:=Nat.mod_lt (bits (tupleKeyHash (intKind prog w) ks)) (show 0<t.mask+1 by omega);omega) (WY _) he λ⟨f,he',q⟩=>hf (Bk.mpr ⟨f,he',q⟩)
 have hb:10*(13+t.mask)<100000:=by rcases T.ms with e | e<;>rw [e]<;>decide
 refine Ac (Zlv hu v u T B (λe he=>let ⟨k,_,q⟩:=C e he;⟨k,q⟩) hx (10*(13+t.mask)) 100000 none hb (Ao _) rfl hE ?_);by_cases hk:ks∈kss
 .left;obtain ⟨e,he,D⟩:=L ks hk;refine ⟨⟨e,he,D,?_⟩,?_⟩
  .have:=T.rc e he;rw [D.choose_spec.2.2] at this;exact this
  .refine Af ?_;have:=h false s.heap (Heap.SameBut.refl a s.heap) (by rw [iP hk];exact ⟨o,Z,Y,t,l,v,J,u,T,h7,h16,C,L,n⟩);exact this
 .right;refine ⟨λe he D=>?_,λj hj hr=>?_⟩
  .obtain ⟨ks',hk',q⟩:=C e he;have:=El.inj D q;subst this;exact hk hk'
  .dsimp only;refine Ac (J6 v u (T.fits B) ?_);have hjm:j<=t.mask:=by
    have hi:bits (tupleKeyHash (intKind prog w) ks)%(t.mask+1)<=t.mask:=by
     have:=Nat.mod_lt (bits (tupleKeyHash (intKind prog w) ks)) (show 0<t.mask+1 by omega);omega
    refine Zs5 hr ?_;show bits (tupleKeyHash (intKind prog w) ks)%(t.mask+1)+(runEnd t.mask (bits (tupleKeyHash (intKind prog w) ks)%(t.mask+1)) - bits (tupleKeyHash (intKind prog w) ks)%(t.mask+1))<=t.mask;have:=Uw hi;omega
   obtain ⟨F,W,y⟩:=T.put hjm hj hr;obtain ⟨em,epl⟩:=Zof t j;generalize ht':(t.put j).1=t' at y em epl ⊢;generalize hes':insertAt Z (t.put j).2 (tupleKeyHash (intKind prog w) ks,Value.ref x)=es' at y ⊢;have m:F.length=l.length+1:=by rw [W.length_eq];rfl
   have R:F.length<=t'.mask:=by rw [em,m];rcases T.ms with e | e<;>rw [e]<;>omega
   have G:wpAny (model prog w) A (do
     storeSet a es' t'
     if (!false&&t'.tooFull)=true then do
      setRelay a (grown (Z.size+1))
      pure true
     else pure true) Q E s:=by
    have N:(s.heap.update a (Obj.putSet es' t')).get? a=some { o with data:=.set es' (Y+1) t' }:=by
     have:=Ip (Obj.putSet es' t') v (by rw [putSet_of es' t' u];rfl);rw [putSet_of es' t' u] at this;exact this
    have r:=Heap.SameBut.update s.heap a (Obj.putSet es' t');have S:El prog w (s.heap.update a (Obj.putSet es' t')) (tupleKeyHash (intKind prog w) ks,Value.ref x) ks:=El.keeps ⟨x,rfl,hx,rfl⟩ v u r;have g1:∀e∈F,∃k∈kss++[ks],El prog w (s.heap.update a (Obj.putSet es' t')) e.2 k:=λe he=>by
     rcases An.mp (W.mem_iff.mp he) with rfl | he
     .exact ⟨ks,by simp,S⟩
     .obtain ⟨k,i,g⟩:=C e he;exact ⟨k,HD _ i,g.keeps v u r⟩
    have g2:∀k∈kss++[ks],∃e∈F,El prog w (s.heap.update a (Obj.putSet es' t')) e.2 k:=λk hk'=>by
     rcases Dv.mp hk' with hk' | hk'
     .obtain ⟨e,i,g⟩:=L k hk';exact ⟨e,W.mem_iff.mpr (Av _ i),g.keeps v u r⟩
     .rw [De] at hk';subst hk';exact ⟨_,W.mem_iff.mpr Aw,S⟩
    have hz:es'.size<=sizeLine:=by rw [y.esize,m,sizeLine_eq];omega
    refine Ac (wpAny_storeSet_of v u ?_ hz);have M:t'.fill=F.length:=by unfold SetTable.fill;rw [y.du,y.size];rfl
    by_cases c:t'.tooFull=true
    .rw [c];unfold SetTable.tooFull at c;rw [M,em,m] at c;have c:=MK c;have e7:t.mask=7:=by
      rcases T.ms with e | e
      .exact e
      .rw [e] at c;omega
     have P:=h7 e7;have e4:l.length=4:=by omega
     have ew:Z.size+1=5:=by rw [T.esize,e4]
     rw [ew];obtain ⟨I,d,X,r1,r2,r3,r4,T2,K⟩:=y.relay (by omega) (wanted:=grown 5) (by decide);have V:∀e∈X,∃f∈F,f.2=e.2:=λe he=>by
      have:=K.mem_iff.mp (Bk.mpr ⟨e,he,rfl⟩);obtain ⟨f,i,g⟩:=Bk.mp this;exact ⟨f,i,g⟩
     have H:∀e∈F,∃f∈X,f.2=e.2:=λe he=>by
      have:=K.mem_iff.mpr (Bk.mpr ⟨e,he,rfl⟩);obtain ⟨f,i,g⟩:=Bk.mp this;exact ⟨f,i,g⟩
     have O:X.length=F.length:=by have:=K.length_eq;simpa using this
     refine Ac ?_;refine Ac (J6 N rfl (y.fits R) ?_);dsimp only;rw [iN (by decide),r1];refine Ac ?_;have U:(d.filterMap (es'[·]?)).size=es'.size:=by rw [T2.esize,O,y.esize]
     show wpAny (model prog w) A (if ((d.filterMap (es'[·]?)).size != es'.size)=true then _ else _) _ _ _
     rw [iN (by rw [U];simp)];refine Af ?_;have hg2:((s.heap.update a (Obj.putSet es' t')).update a (Obj.putSet (d.filterMap (es'[·]?)) I)).get? a=some { o with data:=.set (d.filterMap (es'[·]?)) (Y+1+1) I }:=by
      have:=Ip (Obj.putSet (d.filterMap (es'[·]?)) I) N (by rw [putSet_of _ I rfl];rfl);rw [putSet_of _ I rfl] at this;exact this
     have p:=Heap.SameBut.update (s.heap.update a (Obj.putSet es' t')) a (Obj.putSet (d.filterMap (es'[·]?)) I);refine wpAny_storeSet_of N rfl ?_ (by rw [U];exact hz);refine Af (h true _ (r.trans p) ?_);rw [iN hk];refine ⟨_,_,_,I,X,hg2,J,rfl,T2,λz=>by rw [r2] at z;omega,by omega,λe he=>?_,λk hk'=>?_,by rw [O,m,n];simp⟩
     .obtain ⟨f,i,g⟩:=V e he;obtain ⟨k,h3,P⟩:=g1 f i;rw [g] at P;exact ⟨k,h3,P.keeps N rfl p⟩
     .obtain ⟨e,i,g⟩:=g2 k hk';obtain ⟨f,h3,P⟩:=H e i;rw [<-P] at g;exact ⟨f,h3,g.keeps N rfl p⟩
    .rw [KC.mpr c];refine Af (h true _ r ?_);rw [iN hk];refine ⟨_,es',Y+1,t',F,N,J,rfl,y,λz=>?_,by omega,g1,g2,by rw [m,n];simp⟩;have:=of_decide_eq_false (KC.mpr c);omega
   split
   .refine Ac (ZkI hx ?_);exact G
   .refine Ac (Af ?_);exact G
end
end L2.Sx
namespace L2.Sx
open PySem.SetTable
open Dl (firsts)
def W3(kf):∀i,(firsts kf i).length<=i
 | 0=>Ao _
 | i+1=>by
  have:=W3 kf i;unfold firsts;split
  .omega
  .simp;omega
section
variable{prog:Program} {R:Result->Shared->Prop} {I:Addr} {fp wr:List Addr} {G:Array GenState->Array GenState->Prop} {P:Nat->Value->Prop} {St:Nat->Shared->Prop}
def SetT.keep(hS:SetT prog w h a kss)(ha:∀o,h.get? a=some o->h'.get? a=some o)(hk:∀b o,h.get? b=some o->o.cls=.type "tuple"->h'.get? b=some o):SetT prog w h' a kss:=by
 obtain ⟨o,C,E,t,l,z,f,G,T,F,m,j,s,d⟩:=hS;have u:∀{e q},El prog w h e q->El prog w h' e q:=λ{e q} p=>by
  obtain ⟨x,D,⟨y,c,n,i,v,r⟩,B⟩:=p;exact ⟨x,D,⟨y,c,n,hk x y i v,v,r⟩,B⟩
 exact ⟨o,C,E,t,l,ha o z,f,G,T,F,m,λe A=>let ⟨k,h1,h2⟩:=j e A;⟨k,h1,u h2⟩,λk g=>let ⟨e,h1,h2⟩:=s k g;⟨e,h1,u h2⟩,d⟩
def SetT.cls(hS:SetT prog w h a kss):∀o,h.get? a=some o->o.cls≠.type "tuple":=λi b d=>by
 obtain ⟨o,f,g,t,l,e,c,_⟩:=hS;rw [e] at b;cases b;rw [c.1] at d;exact aB d (by decide)
def Zr5(W:WalksS prog w A.in1 I fp wr G n P St)(S)(hSf:S∉fp)(hwr:∀i s,St i s->∀b∈wr,∀o,s.heap.get? b=some o->o.cls≠.type "tuple")(kf)(hu:A.in1.units<cLine)(h0)(hval:∀i v,P i v->∃x,v=.ref x/\IsTupleKey (intKind prog w) h0 (kf i) x)(hb:n<=16) :
  ∀k i s,n - i=k->i<=n->St i s->SetT prog w s.heap S (firsts kf i)->(∀b o,h0.get? b=some o->o.cls=.type "tuple"->s.heap.get? b=some o) ->
   (∀s',Moved (S::wr) G s s'->SetT prog w s'.heap S (firsts kf n)->R (.ok (.ret .none)) s')->codeAny (model prog w) A (.builtin "set.update.loop" ⟨[.ref S,.ref I],[]⟩) R s:=by
 have B:=λh=>hSf (W.sub _ h);have d:∀b∈wr,b∈S::wr:=λb hb=>Av _ hb;have E:∀{i s s'},St i s->Moved wr G s s'->∀b o,s.heap.get? b=some o->o.cls=.type "tuple"->s'.heap.get? b=some o:=λ{i s s'} T m b o e c=>m.heap b o (λz=>hwr i s T b z o e c) e;intro k
 induction k with
 | zero=>
  intro i s Y X a M _ L;obtain rfl:i=n:=by omega
  refine JV F.entry_set_update_loop ?_;rw [Around.under_plainId F.plain_set_update_loop _];refine Ac (W.done s _ _ a λs' g=>?_);exact Af (L s' (g.mono d) (M.keep (λo e=>g.heap S o B e) (E a g)))
 | succ k ih=>
  intro i s Y X a M K L;have u:i<n:=by omega
  refine JV F.entry_set_update_loop ?_;rw [Around.under_plainId F.plain_set_update_loop _];refine Ac (W.item i s _ _ u a λv s' O t g=>?_);obtain ⟨x,rfl,H⟩:=hval i v O;have q:=M.keep (λo e=>g.heap S o B e) (E a g);have f:=λb o e c=>E a g b o (K b o e c) c;have N:IsTupleKey (intKind prog w) s'.heap (kf i) x:=by
   obtain ⟨o,j,m,Q,c,r⟩:=H;exact ⟨o,j,m,f x o Q c,c,r⟩
  refine Ac (Cv ?_);unfold setAdd;refine Cv ?_;refine Ac (wpAny_pyHash_tuple hu N ?_);refine Zuf hu q N (by have:=W3 kf i;omega) λb U p D=>?_;have V:∀b o,s'.heap.get? b=some o->o.cls=.type "tuple"->U.get? b=some o:=λb o e c=>by
   rw [p.2 b (λz:b=S=>by subst z;exact q.cls o e c)];exact e
  refine Af ⟨plainId_quiet F.plain_set_update_loop _,ih (i+1) _ (by omega) u (W.frame _ s' _ _ t (Nat.le_add_right _ _) λb l o e=>?_) D (λb o e c=>V b o (f b o e c) c) λJ C y=>?_⟩
  .rw [p.2 b (λz:b=S=>hSf (by rw [<-z];exact l))];exact e
  .refine L J (Moved.trans W.gtrans ((g.mono d).then_heap (Nat.le_add_right _ _) λb o l e=>?_) C) y;rw [p.2 b (λz:b=S=>l (by rw [z];exact Aw))];exact e
end
open Dl (firsts)
section
variable{prog:Program} {E:Value->Shared->Prop}
abbrev G6(led:Bool):Obj:={ cls:=.type "set",dict:=none,data:=.set #[] 0 (.fresh 0 0 led) }
def ZoT{h:Heap}{a:Addr}{led:Bool}(ho:h.get? a=some (G6 led)):SetT prog w h a [] :=
 ⟨_,#[],0,.fresh 0 0 led,[],ho,⟨rfl,rfl,rfl⟩,rfl,⟨.inl rfl,rfl,rfl,rfl,.nil,λ_ h=>(CN h).elim,λ_ h=>(CN h).elim⟩,λ_=>by decide,by decide,λ_ h=>(CN h).elim,λ_ h=>(CN h).elim,rfl⟩
set_option maxHeartbeats 8000000 in
def call_set(hh:A.handled=none)(hu:A.units+20<cLine)(hl:s.heap.IsList l items)(hi:∀i v,items[i]?=some v->∃x,v=.ref x/\IsTupleKey (intKind prog w) s.heap (kf i) x)(hb:items.size<=16)(h:∀(h':Heap) (tk:Nat),SetT prog w h' s.heap.objs.size (firsts kf items.size)->(∀b o,b<s.heap.objs.size->s.heap.get? b=some o->h'.get? b=some o)->Q (.ref s.heap.objs.size) { s with heap:=h',toks:=tk }) :
  wpAny (model prog w) A (call (.type "set") [.ref l]) Q E s:=by
 obtain ⟨c,tl,hmro⟩:=F.called_set.mro;have I:=F.called_set.made;have hsub:=F.called_set.sub;refine GR (codeAny_of_tree ?_);refine Af ⟨Qa _ (by decide +kernel),JV F.entry_type_call ?_⟩;rw [Around.under_plain (weight_type_call_type "set" [.ref l] []) rfl];have h1:=F.called_set.notType;have h2:=F.called_set.canCreate;have hct:=F.typeCall_set_1 (.ref l)
 repeat (any_goals (first | assumption | wp_step))
 refine HQ (code_set_new_1 (.ref l) (E:=E) (Q₁:=λt k=>∃a,t=.ref s.heap.objs.size/\k={ s with heap:=s.heap.push (G6 a) }) λa=>⟨a,rfl,rfl⟩) λr k C=>?_
 cases r with
 | error e=>exact C
 | ok fl=>
  cases fl with
  | next=>exact C.elim
  | brk=>exact C.elim
  | cont=>exact C.elim
  | ret t=>
   obtain ⟨a,rfl,rfl⟩:=C;have Z:(s.heap.push (G6 a)).get? s.heap.objs.size=some (G6 a):=Dq _ rfl;have hT:Shared.TypeIs { s with heap:=s.heap.push (G6 a) } (.ref s.heap.objs.size) "set":=⟨_,Z,rfl⟩
   have hli:=F.called_set.init.lookup;have hbi:=F.called_set.init.bind (.ref s.heap.objs.size)
   repeat (any_goals (first | assumption | wp_step))
   refine HQ (Kh (R:=wants (λr j=>r=.none/\∃h' tk,j={ s with heap:=h',toks:=tk }/\SetT prog w h' s.heap.objs.size (firsts kf items.size) /\
     (∀b o,b<s.heap.objs.size->s.heap.get? b=some o->h'.get? b=some o)) E) F.called_set.init.plain F.entry_set_init (check_set_init_1 hT ?_)) λq j d=>?_
   .obtain ⟨ol,D,z,nl,u⟩:=hl;obtain ⟨X,n,M,g⟩:=ol;simp only at z u;subst z;subst u;have G:(s.heap.push (G6 a)).get? l=some { cls:=.type "list",dict:=n,data:=.seq items nl,slots:=g }:=Bc _ D;have hsls:=F.sub_list_set;have hslf:=F.sub_list_frozenset;have B:(s.heap.push (G6 a)).IsList l items:=⟨_,G,rfl,nl,rfl⟩;unfold Builtin.«set.__init__» noKeywords Builtin.Frozenset.updateFrom;generalize hPI:pyIter=PI
    wp_walk
    subst hPI;refine wpAny_pyIter_list B ?_;refine Ac (wpAny_runValue ?_);have y:l<s.heap.objs.size:=BW D;have U:A.in1.in1.in1.handled=none:=by simp [hh]
    have p:l≠(s.heap.push (G6 a)).objs.size:=by
     rw [Ga];exact Bq (Nat.lt_succ_of_lt y)
    have P:s.heap.objs.size∉[(s.heap.push (G6 a)).objs.size,l]:=by
     rw [Ga];simp only [An,De,CN,FZ,not_or];exact ⟨Bq (Oe _),Gh y⟩
    refine Zr5 ((Walks.list U _ l p items).toS) s.heap.objs.size P ?hw kf (by show A.units+1+1+1<cLine;omega) s.heap hi hb (items.size - 0) 0 _ (by omega) (DX _)
     ⟨⟨_,Dq _ rfl,rfl,rfl⟩,(B.push _)⟩ ?hS0 ?hT0 ?hR
    case hw=>
     rintro i Y ⟨⟨o',O,K,_⟩,_⟩ b f o'' V W;rw [De] at f;subst f;rw [O] at V;cases V;rw [K] at W;exact aB W (by decide)
    case hS0=>exact ZoT (Bc _ Z)
    case hT0=>exact λb o e _=>Bc _ (Bc _ e)
    case hR=>
     intro Y H m;obtain ⟨h',g',d',T,N⟩:=Y;have eg:g'=s.gens:=H.gens;have ed:d'=s.drawn:=H.drawn;have eo:N=s.os:=H.os;subst eg;subst ed;subst eo;refine Af ?_;refine Af ⟨rfl,h',T,rfl,m,λb o f e=>?_⟩;have S:=Bq f;have L:b≠(s.heap.push (G6 a)).objs.size:=by
      rw [Ga];exact Bq (Nat.lt_succ_of_lt f)
     exact H.heap b o (by simp only [An,De,CN,FZ,not_or];exact ⟨S,L⟩) (Bc _ (Bc _ e))
   .cases q with
    | error e=>exact d
    | ok fl₂=>
     cases fl₂ with
     | next=>exact d.elim
     | brk=>exact d.elim
     | cont=>exact d.elim
     | ret r=>
      obtain ⟨rfl,h',tk,rfl,m,J⟩:=d
      repeat (any_goals (first | assumption | wp_step))
      exact h _ _ m J
end
end L2.Sx
namespace L2
def ZsP:bootBuiltins "set"=some (.type "set"):=by decide +kernel
def SetN(o:Obj)(n:Nat):Prop:=o.ExactSet/\n<=16/\∃a b t,o.data=.set a b t/\t.fits a.size=true/\a.size=n
def Xj(K:W.Frag)(H:Hp)(xs:List V)(kss:List (List Int)):Prop:=∀i x,xs[i]?=some x->∃a,x=.ref a/\SqT K H a ((kss.getD i []).map V.int)
def rSet(K:W.Frag):List V->Hp->VK->Prop:=λd H Q=>∃l c b,d=[.ref l]/\SqL K H l c/\Xj K H c b/\c.length<=16/\∀a o,H a=none->SetN o (Dl.firsts (λi=>b.getD i []) c.length).length->Q (.ref a) (upd H a (objX a o))
def Vj:List V->Hp->VK->Prop:=λb H Q=>∃a o n,b=[.ref a]/\H a=some (objX a o)/\SetN o n/\Q (.int (n:Nat)) H
section
def Lr:∀{ns:List Int} {its:List Value},Vals (ns.map V.int) its->ItemsAre (intKind prog w) ns its
 | [],_,.nil=>.nil
 | n::r,_,.cons h t=>by
  obtain ⟨a,rfl⟩:=h;exact .cons (intKind_is _ _ _ _) (Lr t)
def Zlb:∀{xs:List V} {us:List Value},Vals xs us->∀{i:Nat} {u:Value},us[i]?=some u->∃x,xs[i]?=some x/\RelV x u
 | _,_,.cons h _,0,_,e=>⟨_,rfl,by cases e;exact h⟩
 | _,_,.cons _ t,i+1,_,e=>Zlb t (by simpa using e)
 | _,_,.nil,i,_,e=>by simp at e
def Zq:∀{xs:List V} {us:List Value},Vals xs us->us.length=xs.length
 | _,_,.nil=>rfl
 | _,_,.cons _ t=>by simp [Zq t]
def Zll(hr:Room k X.A):Do X (.type "set") (rSet X.K):=by
 intro w s Y H vs us Q I rv ⟨l,xs,q,e,hl,W,g,hq⟩;subst e;cases rv with
 | cons r1 rr=>
  cases rr;cases r1;obtain ⟨its,r,⟨o,n,e1,e2,_,G⟩,_⟩:=I.list hl;have c:=Zq r;refine L2.Sx.call_set (kf:=λi=>q.getD i []) hr.hd (by have:=hr.un;omega) ⟨o,e1,e2,n,G⟩ (λi v U=>?_) (by simpa [c] using g) λJ L hS d=>?_
  .obtain ⟨x,hx,E⟩:=Zlb r (by simpa using U);obtain ⟨a,rfl,M⟩:=W i x hx;cases E;obtain ⟨D,N,⟨j,O,V,m,C⟩,_⟩:=I.tuple M;exact ⟨a,rfl,j,D.toArray,m,O,V,C,by simpa using Lr N⟩
  .have B:∀b u,s.heap.get? b=some u->J.get? b=some u:=λb u e=>d b u (BW e) e;obtain ⟨j,Z,P,t,R,F,h,S,T,h7,y,_,_,f⟩:=hS;have p:R.length<=t.mask:=by rcases T.ms with e | e<;>rw [e]<;>omega
   have z:=I.laid (t':=L) B (Ao _) (ZsB F);refine ⟨.ref s.heap.objs.size,_,z,rfl,hq _ j (I.hok.fresh (Ao _)) ⟨h,?_,Z,P,t,S,T.fits p,?_⟩⟩
   .rw [<-c];have e:=f;rw [CT] at e;omega
   .rw [T.esize,f,<-c];simp
def Zl7:Do X (.builtin "len") Vj:=by
 intro c s Y H r m Q I j ⟨a,o,n,e,g,⟨b,f,l,p,t,k,i,h⟩,q⟩;subst e;cases j with
 | cons r1 rr=>
  cases rr;cases r1;have d:=ZoG I.hok g;refine call_len_set d b k i (by omega) ?_;rw [h];exact ⟨.int (n:Nat),H,I.tok _,⟨_,rfl⟩,q⟩
end
end L2
namespace L2.Ds
open Dl
section
def ZJ{F:Hp}{xs:List V}{ds:List D}{ns:List Int}(h:Rps K mg F xs ds)(e:intsOf ds=some ns):xs=ns.map V.int:=by
 cases h with
 | nil=>cases e;rfl
 | @cons x xs d ds h r=>
  cases d with
  | int n=>
   cases q:intsOf ds with
   | none=>unfold intsOf at e;rw [q] at e;cases e
   | some ms=>
    unfold intsOf at e;rw [q] at e;cases e;cases h;rw [ZJ r q];rfl
  | _=>cases e
def Zo{F H:Hp}(s:Same F H){xs:List V}{ds:List D}{ks:List (List Int)}(h:Rps K mg F xs ds)(e:keysOf ds=some ks):Xj K H xs ks:=by
 cases h with
 | nil=>intro i x h;simp at h
 | @cons x xs d ds h r=>
  cases d with
  | tup es=>
   cases q:intsOf es with
   | none=>unfold keysOf at e;rw [q] at e;cases e
   | some k=>
    cases q2:keysOf ds with
    | none=>unfold keysOf at e;rw [q,q2] at e;cases e
    | some kr=>
     unfold keysOf at e;rw [q,q2] at e;cases e;intro i x a;cases i with
     | zero=>
      cases a;cases h with
      | tup ht rt=>
       rw [ZJ rt q] at ht;exact ⟨_,rfl,Ed s ht⟩
     | succ i=>exact Zo s r q2 i x (by simpa using a)
  | _=>cases e
end
section
variable {p p1 q p2:Pos}
def ZoW(hr:Room k X.A)(hgl:Gl X "len")(hml:X.mg "len"=none)(hgs:Gl X "set")(hms:X.mg "set"=none)(he:DE X E e te me)(h1:starEach [e] X.env=[(false,eval e X.env)]:=by rfl)(h2:starEach [Expr.Call (.Name "set" q) [e] [] p2] X.env=[(false,eval (.Call (.Name "set" q) [e] [] p2) X.env)]:=by rfl) :
  DE X E (.Call (.Name "len" p) [.Call (.Name "set" q) [e] [] p2] [] p1) (tCB Vj (Dt (tCB (rSet X.K) (Dt te tNil)) tNil)) (o1 TV me):=by
 refine ⟨Yy Zl7 hgl hml RX (Fz (Zc (Zll hr) hgs hms ZsP (Fz he.p GC h1) (by decide) (by decide) h1 rfl) GC h2) (by decide) (by decide) h2 rfl,?_⟩;intro r m F H Y Z g;refine (he.s r m F H Y Z g).bind λb d x j c f=>?_;cases j with
 | lst ds=>
  cases f with
  | lst hl rl=>
   rename_i l xs;show Ans X.mg E (Rp X.K X.mg) b d (match keysOf ds with | some ks=>if ds.length<=16 then .ok (.int ((firsts (λi=>ks.getD i []) ds.length).length:Nat)) else .bad | none=>.bad) _
   cases hk:keysOf ds with
   | none=>trivial
   | some ks=>
    by_cases h16:ds.length<=16
    .show Ans X.mg E (Rp X.K X.mg) b d (if ds.length<=16 then .ok (.int ((firsts (λi=>ks.getD i []) ds.length).length:Nat)) else .bad) _
     rw [iP h16];intro Q q;refine ⟨_,_,ks,rfl,c.s.seq hl,Zo c.s rl hk,by rw [rl.length];exact h16,λa o h n=>⟨a,o,_,rfl,Ax,n,?_⟩⟩;rw [rl.length];exact q _ _ _ (.new c.s h _) (.int _)
    .show Ans X.mg E (Rp X.K X.mg) b d (if ds.length<=16 then .ok (.int ((firsts (λi=>ks.getD i []) ds.length).length:Nat)) else .bad) _
     rw [iN h16];trivial
 | _=>trivial
end
end L2.Ds
namespace Dl
def mkS(l:List Nat):Str:=⟨l.toArray⟩
def cpL(x:Str):List Nat:=x.cps.toList
def bStr:List D->Res D
 | [.int i]=>if i.natAbs.log2<1920 then .ok (.str (Str.ofString (toString i))) else .bad
 | _=>.bad
def digB(c:Nat):Bool:=decide (48<=c)&&decide (c<=57)
def digV(l:List Nat):Nat:=l.foldl (λa c=>a*10+(c - 48)) 0
def figL(l:List Nat):Option Nat:=if l≠[]/\l.all digB=true then some (digV l) else none
def intL:List Nat->Option Int
 | []=>none
 | c::r=>if c=45 then (figL r).map (λn:Nat=>-(n:Int)) else (figL (c::r)).map λn:Nat=>(n:Int)
def JW:List D->Res D
 | [.str x]=>if x.length<=640 then ofO ((intL (cpL x)).map D.int) else .bad
 | _=>.bad
def Hy:List D->Res D
 | [.lst xs]=>.ok (.int xs.length)
 | [.tup xs]=>.ok (.int xs.length)
 | [.str x]=>if x.length<=LIM then .ok (.int x.length) else .bad
 | _=>.bad
def sD(f:Str->D->Res D)(a b:ME):ME:=λZ=>(a Z).bind λx=>match x with
 | .str z=>(b Z).bind (f z)
 | _=>.bad
def Od(x:Str):D->Res D
 | .str y=>.ok (.bl ((cpL x).take (cpL y).length==cpL y))
 | _=>.bad
def Ae(c:Nat):List Nat->List (List Nat)
 | []=>[[]]
 | x::r=>if x=c then []::Ae c r else match Ae c r with
  | []=>[[x]]
  | w::ws=>(x::w)::ws
def CW(c:Nat):List Nat->Option (List Nat×List Nat)
 | []=>none
 | x::r=>if x=c then some ([],r) else (CW c r).map λp=>(x::p.1,p.2)
def Ky(x:Str):D->Res D
 | .str y=>(match cpL y with
  | [c]=>if x.length<=LIM then (match CW c (cpL x) with
   | some (a,b)=>.ok (.tup [.str (mkS a),.str y,.str (mkS b)])
   | none=>.ok (.tup [.str x,.str Str.empty,.str Str.empty])) else .bad
  | _=>.bad)
 | _=>.bad
def txts:List D->Option (List Str)
 | []=>some []
 | .str x::r=>(txts r).map (x::·)
 | _::_=>none
def Ak(sep:List Nat):List (List Nat)->List Nat
 | []=>[]
 | [x]=>x
 | x::y::r=>x++sep++Ak sep (y::r)
def sumL(sep:Nat)(ts:List Str):Nat:=(ts.map (·.length)).sum+ts.length*sep
def Jh(x:Str)(ds:List D):Res D:=match txts ds with
 | some ts=>if sumL x.length ts<=LIM then .ok (.str (mkS (Ak (cpL x) (ts.map cpL)))) else .bad
 | none=>.bad
def Ep(x:Str):D->Res D
 | .lst ds=>Jh x ds
 | _=>.bad
def joinRev(x:Str)(j:Nat):ME:=λZ=>(getO Z[j]?).bind λa=>Jh x a.reverse
def dInT:D->D->Res D
 | .str a,.str b=>(match cpL a with
  | [c]=>.ok (.bl ((cpL b).contains c))
  | _=>.bad)
 | _,_=>.bad
def Jw:D->D->Res D
 | .str a,.str b=>(match cpL a with
  | [c]=>.ok (.bl (!(cpL b).contains c))
  | _=>.bad)
 | _,_=>.bad
def cutS(x:Str)(lo hi:Option Int):Res D:=if x.length<=LIM then (match lo,hi with
 | some i,none=>if 0<=i then .ok (.str (mkS ((cpL x).drop i.toNat))) else .bad
 | none,some j=>if 0<=j then .ok (.str (mkS ((cpL x).take j.toNat))) else .bad
 | _,_=>.bad) else .bad
def ZvY(x:D)(lo hi:Option Int):Res D:=match x with
 | .str x=>cutS x lo hi
 | _=>.bad
def cutT(a:ME)(lo hi:Ev->Res (Option Int)):ME:=λZ=>(a Z).bind λx=>(lo Z).bind λl=>(hi Z).bind λh=>ZvY x l h
def dIxT:D->D->Res D
 | .str x,.int i=>if x.length<=LIM then ofO ((at_ (cpL x) i).map λc=>.str (mkS [c])) else .bad
 | _,_=>.bad
def Ztj:D->Res (List D)
 | .str x=>if (cpL x).all (·<128)=true then .ok ((cpL x).map λc=>.str (mkS [c])) else .bad
 | _=>.bad
def ivT(a:ME):MI:=λZ=>(a Z).bind Ztj
def nOw:Ev->Bool
 | []=>true
 | .ow _::_=>false
 | _::r=>nOw r
def Eh(i j:Nat)(nt:MB)(Z:Ev):List D->List (List D)->List D->Res (List (List D))
 | [],gs,g=>.ok (gs++[g])
 | d::r,gs,g=>(noEx (nt ((Z.set i .no).set j (.im d)))).bind λb=>if b=true then Eh i j nt Z r (gs++[g]) [] else Eh i j nt Z r gs (g++[d])
def grp(i j k:Nat)(nt:MB):MS:=λZ=>match Z[k]? with
 | some (.im (.lst ds))=>if (nOw Z&&decide (i<Z.length)&&decide (j<Z.length)&&decide (ds.length<1000))=true then (Eh i j nt Z ds [] []).bind λa=>.ok (.rt (.lst (a.map .lst))) else .bad
 | _=>.bad
def Iv(x):mkS (cpL x)=x:=by
 cases x;simp [mkS,cpL]
def Cp(l):cpL (mkS l)=l:=by simp [mkS,cpL]
def HB(x):(cpL x).length=x.length:=by simp [cpL,Str.length]
def Rm(x y):cpL (x++y)=cpL x++cpL y:=by
 show (x.cps++y.cps).toList=_;rw [Array.toList_append];rfl
def Wo(x y):mkS x++mkS y=mkS (x++y):=by
 rw [<-Iv (mkS x++mkS y),Rm,Cp,Cp]
def FP(l):(mkS l).length=l.length:=by rw [<-HB,Cp]
def ZrR(h:mkS a=mkS b):a=b:=by rw [<-Cp a,h,Cp]
def Px{c:Nat}:∀{w:List Nat},c∉w->Ae c w=[w]
 | [],_=>rfl
 | x::r,h=>by
  have b:¬x=c:=λe=>h (by rw [e];exact Aw);have a:=Px λe=>h (Av _ e);unfold Ae;rw [iN b,a]
def Rq{c:Nat}(rest):∀{w:List Nat},c∉w->Ae c (w++c::rest)=w::Ae c rest
 | [],_=>by show Ae c (c::rest)=_;rw [Ae,iP rfl]
 | x::r,h=>by
  have b:¬x=c:=λe=>h (by rw [e];exact Aw);have a:=Rq rest λe=>h (Av _ e);show Ae c (x::(r++c::rest))=_;rw [Ae,iN b,a]
def ZL{c:Nat}:∀{ws:List (List Nat)},ws≠[]->(∀w∈ws,c∉w)->Ae c (Ak [c] ws)=ws
 | [],h,_=>aB rfl h
 | [w],_,h=>Px (h w Aw)
 | w::v::r,_,h=>by
  have ih:=ZL (by simp) λu a=>h u (Av _ a);show Ae c (w++[c]++Ak [c] (v::r))=_;rw [Ia];show Ae c (w++c::Ak [c] (v::r))=_;rw [Rq _ (h w Aw),ih]
end Dl
namespace L2.Ds
open Dl
def Tu{y:Str}{c:Nat}(h:cpL y=[c]):y=⟨#[c]⟩:=by
 rw [<-Iv y,h];rfl
def Jx(h:n<=LIM):n<=sizeLine:=Ar h (by decide)
section
def Zmm:CallD K mg (λxs H Q=>∃i,xs=[.int i]/\i.natAbs.log2<1920/\Q (.str (toString i)) H) bStr:=by
 intro E F H xs b s r;unfold bStr;split
 .obtain ⟨x,rfl,a⟩:=r.one;cases a;split
  .next h=>exact .ret s (.str _) λQ q=>⟨_,rfl,h,q⟩
  .trivial
 .trivial
def Vw(h:figL l=some n):PySem.NumText.AllDigits l/\l≠[]/\PySem.NumText.digitsVal l=n:=by
 unfold figL at h;split at h
 .next e=>
  cases h;refine ⟨λc a=>?_,e.1,rfl⟩;have:=Ey.mp e.2 c a;unfold digB at this;simpa using this
 .cases h
def Zld{n:Int}(h:intL (cpL x)=some n)(hl:x.length<=640):PySem.intText? x=some n:=by
 cases e:cpL x with
 | nil=>rw [e] at h;cases h
 | cons c r=>
  rw [e] at h;replace h:(if c=45 then (figL r).map (λn:Nat=>-(n:Int)) else (figL (c::r)).map λn:Nat=>(n:Int))=some n:=h
  split at h
  .next f=>
   subst f;cases ef:figL r with
   | none=>rw [ef] at h;cases h
   | some m=>
    rw [ef] at h;cases h;obtain ⟨d,b,a⟩:=Vw ef;rw [PySem.intText_neg e d b (by omega),a]
  .cases ef:figL (c::r) with
   | none=>rw [ef] at h;cases h
   | some m=>
    rw [ef] at h;cases h;obtain ⟨d,b,a⟩:=Vw ef;rw [<-e] at d b a;have:=PySem.intText_digits d b (by omega);rw [this];exact Bl (λk:Nat=>some (k:Int)) a
def Zun:List V->Hp->VK->Prop:=λa H Q=>∃x n,a=[.str x]/\PySem.intText? x=some n/\x.length<=640/\Q (.int n) H
def ZlN:Do X (.type "int") Zun:=by
 intro a s Y H d e Q I r h;obtain ⟨x,n,rfl,c,b,q⟩:=h;obtain ⟨u,rfl,t,rfl⟩:=vals1 r;exact W.KIN.call_text c b ⟨.int _,H,I.tok _,⟨_,rfl⟩,q⟩
def Zkt:CallD K mg Zun JW:=by
 intro E F H b c s r;unfold JW;split
 .obtain ⟨x,rfl,a⟩:=r.one;cases a;split
  .next z h=>
   cases e:intL (cpL z) with
   | none=>trivial
   | some n=>exact .ret s (.int _) λQ q=>⟨_,n,rfl,Zld e h,h,q⟩
  .trivial
 .trivial
def Zk2:CallD K mg (λxs H Q=>∃x n,xs=[x]/\LenV K x H n/\Q (.int n) H) Hy:=by
 intro E F H xs b s r;unfold Hy;split
 .obtain ⟨x,rfl,a⟩:=r.one;cases a with
  | lst h q=>exact .ret s (.int _) λQ z=>⟨_,_,rfl,.inl ⟨_,s.seq h,q.length.symm⟩,z⟩
 .obtain ⟨x,rfl,a⟩:=r.one;cases a with
  | tup h q=>exact .ret s (.int _) λQ z=>⟨_,_,rfl,.inr ⟨_,Ed s h,q.length.symm⟩,z⟩
 .obtain ⟨x,rfl,a⟩:=r.one;cases a;split
  .next h=>exact .ret s (.int _) λQ z=>⟨_,_,rfl,⟨Jx h,rfl⟩,z⟩
  .trivial
 .trivial
def SmD(K:W.Frag)(mg:Str->Option Value)(r:V->List V->Hp->VK->Prop)(f:Str->D->Res D):Prop:=∀E F H z y a,Same F H->Rp K mg F y a->Ans mg E (Rp K mg) F H (f z a) (r (.str z) [y] H)
def Zwv(hf:SmD K mg r f)(ho:SE K mg E to mo)(ha:SE K mg E ta ma):SE K mg E (tBM K "str" r to (Dt ta tNil)) (sD f mo ma):=by
 intro c b F H Y Z a;refine (ho c b F H Y Z a).bind λh n x l k d=>?_;cases l with
 | str z=>
  cases d;refine Ans.imp ?_ λQ q=>⟨rfl,q⟩;exact (ha c b h n Y Z (a.gr k)).bind λe i y j m g=>hf E e i z y j m.s g
 | _=>trivial
def YC:V->List V->Hp->VK->Prop:=λx a H Q=>∃z y,x=.str z/\a=[.str y]/\Q (.bl (decide (0+y.length<=z.length)&&Builtin.Str.subAt z y 0)) H
def YD:MtR X "str.startswith" YC:=by
 intro a s Y H x e v f Q I c d h;obtain ⟨z,y,rfl,rfl,q⟩:=h;obtain ⟨u,rfl,t,rfl⟩:=vals1 d;obtain ⟨b,rfl⟩:=c;exact call_gives PySem.F.slot_str_startswith (GX s z b) PySem.F.entry_str_startswith (PySem.F.args_str_startswith_2 _ _) (gives_str_startswith z y b t) ⟨.bl _,H,I,rfl,q⟩
def Zng(z y):(decide (0+y.length<=z.length)&&Builtin.Str.subAt z y 0)=((cpL z).take (cpL y).length==cpL y):=by
 rw [StrLaws.subAt_eq,Iz,HB];show (decide (0+y.length<=z.length)&&((cpL z).take y.length==cpL y))=_;cases h:((cpL z).take y.length==cpL y) with
 | false=>rw [Ez]
 | true=>
  have e:=Bl List.length (eq_of_beq h);rw [Hj,HB,HB] at e;simp only [K1,CQ];omega
def Zgb:SmD K mg YC Od:=by
 intro E F H z y a s b;cases a with
 | str w=>
  cases b;exact .ret s (.bl _) λQ q=>⟨z,w,rfl,rfl,by rw [Zng];exact q⟩
 | _=>trivial
def Wx:∀l,Vals ((l.map (·.1)).map V.str) (strValues l)
 | []=>.nil
 | (x,t)::r=>.cons ⟨t,rfl⟩ (Wx r)
def Wj(x):∀ts,cpL (Str.join x ts)=Ak (cpL x) (ts.map cpL)
 | []=>rfl
 | [a]=>rfl
 | a::b::r=>by
  show cpL (a++x++Str.join x (b::r))=cpL a++cpL x++Ak (cpL x) ((b::r).map cpL);rw [Rm,Rm,Wj x (b::r)]
def Wt{F:Hp}:∀ts:List Str,Rps K mg F (ts.map V.str) ((ts.map cpL).map λl=>D.str (mkS l))
 | []=>.nil
 | t::r=>.cons (by show Rp K mg F (V.str t) (D.str (mkS (cpL t)));rw [Iv];exact .str t) (Wt r)
def rJoin(K:W.Frag):V->List V->Hp->VK->Prop:=λx b H Q=>∃z l a,x=.str z/\b=[.ref l]/\SqL K H l (a.map V.str)/\sumL z.length a<=LIM/\Q (.str (Str.join z a)) H
def Rz:∀{ts:List Str} {us:List Value},Vals (ts.map V.str) us->∃l,strValues l=us/\l.map (·.1)=ts
 | [],_,h=>by cases h;exact ⟨[],rfl,rfl⟩
 | t::r,_,h=>by
  cases h with
  | cons h1 h2=>
   obtain ⟨k,rfl⟩:=h1;obtain ⟨l,rfl,e⟩:=Rz h2;exact ⟨(t,k)::l,rfl,by rw [<-e];rfl⟩
def Zim{z:Str}{ts:List Str}(h:sumL z.length ts<=LIM):Builtin.Str.tooLong (ts.toArray.foldl (·+·.length+z.length) 0)=false:=by
 rw [StrLaws.joinTotal];exact Al (Nat.not_lt.mpr (Jx h))
def Hm:MtR X "str.join" (rJoin X.K):=by
 intro c s Y H x w v y Q I e i h;obtain ⟨z,a,p,rfl,rfl,j,g,q⟩:=h;obtain ⟨u,rfl,f⟩:=vals1 i;cases f;obtain ⟨t,rfl⟩:=e;obtain ⟨o,r,m,_⟩:=I.list j;obtain ⟨l,rfl,d⟩:=Rz r;have b:=Zim g;rw [<-d] at b;refine call_meets PySem.F.slot_str_join (GX s z t) PySem.F.entry_str_join (PySem.F.args_str_join_2 _ _) (meets_str_join_list z t a l b) ⟨m.isList,?_⟩;refine post_join l ⟨joinFit_length b,λn k=>?_⟩;refine ⟨.str _,H,I.tok _,⟨n,rfl⟩,?_⟩;unfold Txt.join;rw [StrLaws.glued_eq_join,d];exact q
def Zkd{F:Hp}:∀{xs:List V} {ds:List D} {ts:List Str},Rps K mg F xs ds->txts ds=some ts->xs=ts.map V.str
 | _,[],_,r,e=>by cases r;cases e;rfl
 | _,d::ds,ts,r,e=>by
  cases r with
  | cons h r=>
   cases d with
   | str x=>
    have a:(txts ds).map (x::·)=some ts:=e;cases q:txts ds with
    | none=>rw [q] at a;cases a
    | some us=>
     rw [q] at a;cases a;cases h;rw [Zkd r q];rfl
   | _=>cases e
def ZhK{F:Hp}{w:VK->Prop}(s:Same F H)(r:Rps K mg F xs ds)(h:∀ts,xs=ts.map V.str->sumL z.length ts<=LIM->∀Q,Q (.str (Str.join z ts)) H->w Q):Ans mg E (Rp K mg) F H (Jh z ds) w:=by
 unfold Jh;split
 .next ts e=>
  split
  .next a=>
   have b:=Zkd r e;refine .ret s ?_ λQ q=>h ts b a Q q;rw [<-Wj,Iv];exact .str _
  .trivial
 .trivial
def Ho:SmD K mg (rJoin K) Ep:=by
 intro E F H z y a s d;cases a with
 | lst ds=>
  cases d with
  | lst h r=>
   exact ZhK s r λc e b Q q=>⟨z,_,c,rfl,rfl,by rw [<-e];exact s.seq h,b,q⟩
 | _=>trivial
def Zte:V->List V->Hp->VK->Prop:=λx d H Q=>∃z c,x=.str z/\d=[.str ⟨#[c]⟩]/\z.length<=LIM/\∀l,H l=none->Q (.ref l) (upd H l (.tup (match CW c (cpL z) with
 | some (a,b)=>[.str (mkS a),.str ⟨#[c]⟩,.str (mkS b)]
 | none=>[.str z,.str Str.empty,.str Str.empty])))
def Jc{c:Nat}:∀{l:List Nat},CW c l=none->c∉l
 | [],_=>by simp
 | x::r,h=>by
  unfold CW at h;split at h
  .cases h
  .next b=>
   cases e:CW c r with
   | none=>
    have:=Jc e;intro a;rcases An.mp a with z | z
    .exact b z.symm
    .exact this z
   | some p=>rw [e] at h;cases h
def Hc{c:Nat}:∀{l a b:List Nat},CW c l=some (a,b)->c∉a/\l=a++c::b
 | [],_,_,h=>by cases h
 | x::r,a,b,h=>by
  unfold CW at h;split at h
  .next d=>cases h;exact ⟨by simp,by rw [d];rfl⟩
  .next d=>
   cases e:CW c r with
   | none=>rw [e] at h;cases h
   | some p=>
    rw [e] at h;cases h;obtain ⟨i,f⟩:=Hc e;refine ⟨λg=>?_,by rw [f];rfl⟩;rcases An.mp g with z | z
    .exact d z.symm
    .exact i z
def U7(x)(c i):StrLaws.At x ⟨#[c]⟩ x.length i↔(cpL x)[i]?=some c:=StrLaws.subAt_one x c i
def V7(x)(i j):Builtin.Str.strSub x i j=mkS (((cpL x).drop i).take (j - i)):=by
 exact Bl mkS (StrLaws.strSub_toList x i j)
def ZrK:MtR X "str.partition" Zte:=by
 intro f s Y H x L v M Q I B C h;obtain ⟨z,c,rfl,rfl,J,q⟩:=h;obtain ⟨u,rfl,t,rfl⟩:=vals1 C;obtain ⟨w,rfl⟩:=B;refine call_meets PySem.F.slot_str_partition (GX s z w) PySem.F.entry_str_partition (PySem.F.args_str_partition_2 _ _) (meets_str_partition z ⟨#[c]⟩ w t rfl (Jx J)) ?_;have j:∀(k:Nat) (m:List V) (d:List Value),Vals m d->m.length<=3->(∀l,H l=none->Q (.ref l) (upd H l (.tup m)))->EP X f Y Q (.ref s.heap.objs.size) { s with toks:=k,heap:=s.heap.push { cls:=.type "tuple",data:=.seq d.toArray } }:=λk m d r A q=>
  ⟨.ref _,_,I.laid (o:=.tup m) (λb o e=>Bc _ e) (Ao _) ⟨Ar A (by decide),d,r,IsTup.new _ _⟩,rfl,q _ (I.hok.fresh (Ao _))⟩
 rcases StrLaws.occ_head z ⟨#[c]⟩ 1 (Ao 1) with ⟨e,hn⟩ | ⟨i,r,e,ha,hn⟩
 .rw [e];have G:CW c (cpL z)=none:=by
   cases ep:CW c (cpL z) with
   | none=>rfl
   | some p=>
    obtain ⟨_,g⟩:=Hc ep;refine aB ((U7 z c p.1.length).mpr ?_) (hn _);rw [g];simp
  rw [G] at q;exact j _ [.str z,.str Str.empty,.str Str.empty] [.str z w,.str Str.empty s.toks,.str Str.empty s.toks] (.cons ⟨_,rfl⟩ (.cons ⟨_,rfl⟩ (.cons ⟨_,rfl⟩ .nil))) (by simp) q
 .rw [e];have n:=(U7 z c i).mp ha;cases ep:CW c (cpL z) with
  | none=>exact aB (Ef n) (Jc ep)
  | some p=>
   rw [ep] at q;obtain ⟨a,b⟩:=p;obtain ⟨y,g⟩:=Hc ep;have E:i=a.length:=by
    rcases Nat.lt_trichotomy i a.length with l | l | l
    .rw [g,Dn l] at n;exact aB (Ef n) y
    .exact l
    .refine aB ((U7 z c a.length).mpr ?_) (hn _ l);rw [g];simp
   subst E;have K:Builtin.Str.strSub z 0 a.length=mkS a:=by
    rw [V7,g,Iz,Nat.sub_zero,List.take_left' rfl]
   have D:Builtin.Str.strSub z (a.length+1) z.length=mkS b:=by
    rw [V7,<-HB z,g];have:(a++c::b).drop (a.length+1)=b:=by
     rw [show a++c::b=(a++[c])++b by simp];exact List.drop_left' (by simp)
    rw [this];refine Bl mkS (Il ?_);simp;omega
   show EP X f Y Q (.ref s.heap.objs.size) { s with toks:=_,heap:=s.heap.push { cls:=.type "tuple",data:=.seq [.str (Builtin.Str.strSub z 0 a.length) s.toks,.str ⟨#[c]⟩ t,.str (Builtin.Str.strSub z (a.length+1) z.length) (s.toks+1)].toArray } }
   rw [K,D];exact j _ [.str (mkS a),.str ⟨#[c]⟩,.str (mkS b)] [_,_,_] (.cons ⟨_,rfl⟩ (.cons ⟨_,rfl⟩ (.cons ⟨_,rfl⟩ .nil))) (by simp) q
def Zpf:SmD K mg Zte Ky:=by
 intro E F H z y h s g;cases h with
 | str w=>
  cases g;unfold Ky;dsimp only;split
  .next c e=>
   split
   .next d=>
    have i:=Tu e;subst i;cases ep:CW c (cpL z) with
    | none=>
     exact IK s (λp f=>.tup (.inl (.inl Ax)) (.cons (.str _) (.cons (.str _) (.cons (.str _) .nil)))) λQ q=>⟨z,c,rfl,rfl,d,by rw [ep];exact q⟩
    | some p=>
     obtain ⟨a,b⟩:=p;exact IK s (λp f=>.tup (.inl (.inl Ax)) (.cons (.str _) (.cons (.str _) (.cons (.str _) .nil)))) λQ q=>⟨z,c,rfl,rfl,d,by rw [ep];exact q⟩
   .trivial
  .trivial
 | _=>trivial
def Zq5:OpD K mg (λx y H Q=>∃i j,x=.str i/\y=.str j/\Q (.bl (!(Builtin.Str.occurrences j i 0 j.length 1).isEmpty)) H) dInT:=by
 intro E F H x y h g s d f;unfold dInT;split
 .next a b=>
  cases d;cases f;split
  .next c e=>
   refine .ret s (.bl _) λQ q=>⟨_,_,rfl,rfl,?_⟩;rw [Tu e,StrLaws.found_one];rw [List.contains_eq_mem] at q;exact q
  .trivial
 .trivial
def Zoi:OpD K mg (λx y H Q=>∃i j,x=.str i/\y=.str j/\Q (.bl (!(!(Builtin.Str.occurrences j i 0 j.length 1).isEmpty))) H) Jw:=by
 intro E F H x y h g s d f;unfold Jw;split
 .next a b=>
  cases d;cases f;split
  .next c e=>
   refine .ret s (.bl _) λQ q=>⟨_,_,rfl,rfl,?_⟩;rw [Tu e,StrLaws.found_one];rw [List.contains_eq_mem] at q;exact q
  .trivial
 .trivial
def rSlT:V->Option Int->Option Int->Hp->VK->Prop:=λx b a H Q=>∃z,x=.str z/\z.length<=sizeLine/\Q (.str (Txt.slice z b a)) H
def Zvb:SlR X rSlT:=by
 intro b s Y H x v B p e d n Q I f C D c h;obtain ⟨z,rfl,m,q⟩:=h;obtain ⟨t,rfl⟩:=f;refine ⟨"str",_,PySem.F.slot_str_getitem.lookup,GX _ _ _,?_⟩;have a:∀l u,B=partValue l->p=partValue u->e=l.map (·.1)->d=u.map (·.1)->wX X (getItem (.str z t) (.ref n)) (EP X b Y Q) X.xe s:=by
  intro l u o E g r;subst o E g r;exact wpAny_getItem_str_slice (st:=none) C rfl
   (post_val_or_str ⟨Ar (Txt.slice_le z _ _) m,λy k=>⟨.str _,H,I.tok _,⟨y,rfl⟩,q⟩⟩)
 cases D with
 | none=>
  cases c with
  | none=>exact a none none rfl rfl rfl rfl
  | int j tj=>exact a none (some (j,tj)) rfl rfl rfl rfl
 | int i ti=>
  cases c with
  | none=>exact a (some (i,ti)) none rfl rfl rfl rfl
  | int j tj=>exact a (some (i,ti)) (some (j,tj)) rfl rfl rfl rfl
def ZkH{i:Int}(h0:0<=i):Txt.slice z (some i) none=mkS ((cpL z).drop i.toNat):=by
 by_cases h:(z.length:Int)<=i
 .rw [slice_beyond h];have:(cpL z).drop i.toNat=[]:=Om (by rw [HB];omega);rw [this];rfl
 .rw [slice_from_eq h0 (by omega) rfl];refine Bl mkS (Il ?_);show ((cpL z).drop i.toNat).length<=_;rw [DP,HB];omega
def Zny{j:Int}(h0:0<=j):Txt.slice z none (some j)=mkS ((cpL z).take j.toNat):=by
 have a:∀j:Int,0<=j->j<=z.length->Txt.slice z none (some j)=mkS ((cpL z).take j.toNat):=λj h0 c=>by
  have b:j<=z.cps.toList.length:=by rw [show z.cps.toList.length=z.length from HB z];exact c
  have:=Dc.mp (slice_closes_to ⟨h0,b⟩);rw [this,show (0:Int).toNat=0 from rfl,Iz,Int.sub_zero];rfl
 by_cases h:j<=z.length
 .exact a j h0 h
 .have f:Txt.slice z none (some j)=Txt.slice z none (some (z.length:Int)):=by
   unfold Txt.slice;have e:Builtin.Str.strSliceIndices none (some j) 1 z.length=Builtin.Str.strSliceIndices none (some (z.length:Int)) 1 z.length:=by
    have c:¬j<0:=by omega
    have b:¬((z.length:Int)<0):=by omega
    have d:(1:Int)>0:=by decide
    simp only [Builtin.Str.strSliceIndices,c,b,d,Cu,Cw,Int.min_eq_right (show (z.length:Int)<=j by omega),Int.min_self]
   rw [e]
  rw [f,a _ (by omega) (Int.le_refl _),Il (by rw [HB];omega),Il (by rw [HB];omega)]
def Zse(ha:SE K mg E ta ma)(hl:SO K mg E tl ml)(hh:SO K mg E th mh):SE K mg E (tSl rSlT ta tl th) (cutT ma ml mh):=by
 intro c b F H Y Z a;refine (ha c b F H Y Z a).bind λm v x o e g=>?_;refine (hl c b m v Y Z (a.gr e)).bind λi n l w p k=>?_;refine (hh c b i n Y Z ((a.gr e).gr p)).bind λt r u y f j=>?_;cases k;cases j;cases o with
 | str z=>
  cases g;show Ans mg E (Rp K mg) t r (cutS z l u) _;unfold cutS;split
  .next d=>
   split
   .split
    .next h=>exact .ret f.s (.str _) λQ q=>⟨z,rfl,Jx d,by rw [ZkH h];exact q⟩
    .trivial
   .split
    .next h=>exact .ret f.s (.str _) λQ q=>⟨z,rfl,Jx d,by rw [Zny h];exact q⟩
    .trivial
   .trivial
  .trivial
 | _=>trivial
def ZuI{α:Type}{xs:List α}{i:Int}{c:α}(h:at_ xs i=some c):atI xs i=some c:=by
 unfold at_ at h;unfold atI ixN;split at h
 .next a=>
  have d:i.toNat<xs.length:=by
   rcases Nat.lt_or_ge i.toNat xs.length with z | z
   .exact z
   .rw [Mu z] at h;cases h
  rw [iP a,iP (by omega)];exact h
 .next a=>
  split at h
  .next b=>
   rw [iN a,iP b];exact h
  .cases h
def Zqt:OpD K mg rIxS dIxT:=by
 intro E F H x y g f s a b;unfold dIxT;split
 .next z i=>
  cases a;cases b;split
  .next d=>
   cases e:at_ (cpL z) i with
   | none=>trivial
   | some c=>exact .ret s (.str _) λQ q=>⟨z,i,c,rfl,rfl,Jx d,ZuI e,q⟩
  .trivial
 .trivial
def ItS(x:Str):It:=⟨λi _=>∃c,(cpL x)[i]?=some c,λi H y a=>a=H/\∀c,(cpL x)[i]?=some c->y=.str (mkS [c]),λi _=>(cpL x)[i]?=none⟩
def ZnH(x)(t)(it):Turn P w K tg (ItS x) [it] it (λi h=>h.IsStrIter it "str_ascii_iterator" x t i) where
 mem:=by simp
 obj:=λi h a b f=>by
  have e:b=it:=by simpa using f
  subst e;obtain ⟨o,e,c,d⟩:=a;exact ⟨o,e,λv z=>by rw [d] at z;cases z⟩
 keep:=λi h A a k=>by
  obtain ⟨o,e,r⟩:=a;exact ⟨o,k it (by simp) o e,r⟩
 item:=by
  intro X F L J B i g s Y H E I l a u;obtain ⟨c,D⟩:=u;obtain ⟨y,q,Q,n,m,p⟩:=l it (by simp);refine wpAny_pyNext_ascii_item a (by simpa [cpL] using D) λA j O=>?_;have N:=I.turned (t':=s.toks+1) (λb o f e=>(O.2 b f).trans e) y q n m p;obtain ⟨o,e,M,d⟩:=id j;exact ⟨_,rfl,Ri e M d (by decide) ⟨.str (mkS [c]),H,N,⟨_,rfl⟩,⟨rfl,λR C=>by rw [D] at C;cases C;rfl⟩,j,λb f=>(l b f).1⟩⟩
 done:=by
  intro X F L J B i g s Y H E I l a u;obtain ⟨y,q,Q,n,m,p⟩:=l it (by simp)
  exact wpAny_pyNext_ascii_end (I.ok.hd B) a (by
   have h:(cpL x)[i]?=none:=u
   simpa [cpL] using h) λA G=>⟨rfl,I.turned (λb o f e=>G b o f e) y q n m p⟩
 self:=λ_ _ _ _ _ a h=>wpAny_pyIter_striter_ascii a h
def Z6(tl:TE):TI:=λY H R=>tl Y H λx a=>∃z,x=.str z/\(cpL z).all (·<128)=true/\R (ItS z) a
def ZqL{F:Hp}(z):ItOk K mg F (ItS z) ((cpL z).map λc=>.str (mkS [c])):=by
 intro g k j f i;refine ⟨λd e=>?_,λa=>?_⟩
 .rw [DK] at e;cases q:(cpL z)[i]? with
  | none=>rw [q] at e;cases e
  | some c=>
   rw [q] at e;cases e;refine ⟨⟨c,q⟩,λy b h=>?_⟩;obtain ⟨rfl,h⟩:=h;rw [h c q];exact ⟨g,.refl f,.str _⟩
 .rw [Ah] at a;exact Mu a
def Zvg(ha:SE K mg E ta ma):SI K mg E (Z6 ta) (ivT ma):=by
 intro j e F H Y Z g;refine (ha j e F H Y Z g).bind λi f x b a d=>?_;cases b with
 | str z=>
  cases d;show Ans mg E (ItOk K mg) i f (if (cpL z).all (·<128)=true then .ok ((cpL z).map λc=>.str (mkS [c])) else .bad) _
  split
  .next h=>exact Ans.ret a.s (ZqL z) λQ q=>⟨z,rfl,h,q⟩
  .trivial
 | _=>trivial
end
section
variable {a b o tg:Expr} {ta tb to:TE} {ma mb mo:ME} {apos:Pos}
def ZpG(h:DE X E a ta ma):DI X E tg a (Z6 ta) (ivT ma):=by
 refine ⟨?_,Zvg h.s⟩;intro c s Y H R I g;refine thn (h.p c s Y H _ I g) λv d zq=>?_;obtain ⟨x,l,f,m,k⟩:=zq;obtain ⟨z,rfl,i,q⟩:=k;obtain ⟨t,rfl⟩:=m;refine wpAny_pyIter_ascii (by rw [<-i];simp [cpL]) ?_;refine ⟨d.heap.objs.size,[d.heap.objs.size],_,_,l,rfl,f.kept λb o e=>Bc _ e,ZnH z t _,⟨_,Dq _ rfl,rfl,rfl⟩,λb j=>?_,q⟩;have e:b=d.heap.objs.size:=by simpa using j
 subst e;exact f.fpOk (Ao _) (f.hok.fresh (Ao _))
end
def Zl8:typeLookup (.type "list_reverseiterator") "__len__"=pure none:=by rw [typeLookup_type,builtinLookup_eq_fast];kernel_rfl
def ZnI:typeLookup (.type "list_reverseiterator") "__length_hint__"=pure (some (.builtin "list_reverseiterator.__length_hint__")):=by rw [typeLookup_type,builtinLookup_eq_fast];kernel_rfl
def Zro:isSubtype (.type "list_reverseiterator") (.type "list_reverseiterator")=pure true:=by rw [isSubtype_type];kernel_rfl
section
variable{prog:Program} {E:Value->Shared->Prop}
def Zn3(hT:s.TypeIs (.ref I) "list_reverseiterator")(h:Q false s):wpAny (model prog w) A (Builtin.List.listLengthHint (.ref I)) Q E s:=by
 refine Ac (wpAny_specialOf hT Zl8 ?_);refine Ac (wpAny_specialOf hT ZnI ?_);generalize hid:("list_reverseiterator.__length_hint__" : String)=id0;subst hid;refine Ac (wpAny_isInstance hT Zro ?_);exact Af h
def Zi5{items:Array Value}(hh:A.handled=none)(hne:l≠I)(hit:s.heap.IsRevIter I l ((items.size:Int) - 1))(hl:s.heap.IsList l items)(hn:items.size<=sizeLine)(hQ:∀s',Moved [I] (λa b=>b=a) s s'->Q items.toList.reverse s'):wpAny (model prog w) A (collect (.ref I)) Q E s:=by
 have W:=(Walks.listRev (prog:=prog) (w:=w) (A:=A.in1) hh I l hne items).toS;have t:∀i s,(i<=items.size/\Heap.IsRevIter s.heap I l ((items.size:Int) - 1 - (i:Int))/\s.heap.IsList l items)->Shared.TypeIs s (.ref I) "list_reverseiterator":=λ_ _ h=>h.2.1.typeIs;have q:0<=items.size/\Heap.IsRevIter s.heap I l ((items.size:Int) - 1 - ((0:Nat):Int))/\s.heap.IsList l items:=⟨DX _,by simpa using hit,hl⟩;have p:∀b∈[I,l],b<s.heap.objs.size:=λb hb=>by
  rcases An.mp hb with rfl | hb
  .obtain ⟨o,m,_⟩:=hit;exact BW m
  .rw [De.mp hb];obtain ⟨o,m,_⟩:=hl;exact BW m
 have f:=λn=>GK _ (p _ n);have r:s.heap.objs.size≠I:=λe=>f (e▸Aw);refine Ac (wpAny_runValue (JV F.entry_proto_collect ?_));refine Ac (JQ ?_);refine Af ⟨plainId_quiet F.plain_list_iadd _,JV F.entry_list_iadd ?_⟩;have c:=W.frame 0 s (s.heap.push { cls:=.type "list",data:=.seq ([]:List Value).toArray }) s.toks q (Ao _) λb _ o e=>Bc _ e;have k:(s.heap.push { cls:=.type "list",data:=.seq ([]:List Value).toArray }).get? s.heap.objs.size=some { cls:=.type "list",data:=.seq ([]:List Value).toArray }:=Dq _ rfl;have u:Builtin.List.listSameRef (.ref s.heap.objs.size) (.ref I)=false:=by simp [Builtin.List.listSameRef,r]
 show wpAny _ A.in1 (Builtin.List.listExtendWith (.ref s.heap.objs.size) (.ref I) (.ref s.heap.objs.size)) _ _ _;refine Ac (JX (t 0 _ c) ?_);rw [iN (by rw [u];decide)];refine Ac (W.self 0 _ _ _ c ?_);refine Ac (Cv ?_);refine Zn3 (t 0 _ c) ?_;refine Af ⟨plainId_quiet F.plain_extend_loop _,codeAny_extend_loopS W hn _ f _ items.size 0 _ _ _ rfl (DX _) c k (ItemsOf.nil _) λs' d z n j g=>?_⟩;refine Ac (wpAny_load j ?_);have x:d.toList=items.toList.reverse:=by
  apply List.ext_getElem?;intro i;obtain ⟨B,v⟩:=g;by_cases hi:i<items.size
  .have e:d[i]?=some d[i]:=Ka (by omega);have y:=v i _ e;rw [List.getElem?_reverse (by simpa using hi)];rw [Ng,Ng,e,Ko];exact y.symm
  .rw [Mu (by simp;omega),Mu (by simp;omega)]
 have:=hQ s' (Moved.drop_new n (Ao _));rw [<-x] at this;exact Af this
end
def Zjb(z):∀m,Builtin.Str.tooLong ((m.map (·.1)).toArray.foldl (·+·.length+z.length) 0)=false->Gives (joinTail z (strValues m)) (joinMade z m)
 | [],h=>gives_joinTail z [] h
 | [p],h=>gives_joinTail z [p] h
 | p::q::r,h=>gives_joinTail z (p::q::r) h
def ZoY{z:Str}{ts:List Str}(hc:X.calm=true)(I:Inv X pins Y H s)(hz:sumL z.length ts<=LIM)(ha:H a=some (.lst (ts.map V.str)))(hn:it≠a)(hf:FpOk X pins H it)(hit:s.heap.IsRevIter it a ((ts.length:Int) - 1))(q:Q (.str (Str.join z ts.reverse)) H):wX X (call (.builtin "str.join") [.str z t,.ref it]) (EP X pins Y Q) X.xe s:=by
 obtain ⟨G,r,D,c⟩:=I.list (SqL.of ha);obtain ⟨l,rfl,K⟩:=Rz r;refine GR (Kh F.slot_str_join.plain F.entry_str_join (F.slot_str_join.check _ _ _ _ _ _ _ _ (GX _ _ _) (F.args_str_join_2 _ _) ?_));rw [join_tree_other];refine Ac (JX hit.typeIs ?_);refine Ac (wpAny_tryCatch (wpAny_pyIter_revIter hit ?_));have f:(strValues l).toArray.size=ts.length:=by
  have:=r.length;rw [Ah] at this;exact this.symm
 refine Ac (Zi5 (I.ok.hd hc) (Ne.symm hn) (by rw [f];exact hit) D.isList (by rw [f];rw [Ah] at c;exact c) λj h=>?_);have E:(strValues l).toArray.toList.reverse=strValues l.reverse:=by
  show (l.map _).reverse=l.reverse.map _;rw [KZ]
 rw [E];have m:l.reverse.map (·.1)=ts.reverse:=by rw [KZ,K]
 have i:sumL z.length ts.reverse<=LIM:=by
  unfold sumL at hz ⊢;rw [KZ,List.sum_reverse,List.length_reverse];exact hz
 have d:=Zim i;rw [<-m] at d;have g:=Zjb z l.reverse d;refine g X.prog X.w X.A (wants (EP X pins Y Q) X.xe) j (post_join l.reverse ⟨joinFit_length d,λt' k=>?_⟩);obtain ⟨J,v,N,x,u,L⟩:=hf;have y:=I.turned (t':=k) (λb o B e=>h.heap b o (by simpa using B) e) J v x u L;refine ⟨.str _,H,?_,⟨t',rfl⟩,?_⟩
 .have p:=h.gens;have C:=h.drawn;have n:=h.os;obtain ⟨P,S,O,R,M⟩:=j;cases p;cases C;cases n;exact y
 .unfold Txt.join;rw [StrLaws.glued_eq_join,m];exact q
def VM(z:Str)(j:Nat):TE:=λY H Q=>∃a b,Y[j]?=some (some (.ref a))/\H a=some (.lst (b.map V.str))/\sumL z.length b<=LIM/\Q (.str (Str.join z b.reverse)) H
def ZkU(z)(j):SE K mg E (VM z j) (joinRev z j):=by
 intro p o F H Y Z b;unfold joinRev getO;split
 .next f e=>
  obtain ⟨a,i,d,n,m,l,k⟩:=b.ow j f e;refine ZhK b.ss k.rev λh g c Q q=>⟨a,h.reverse,d,?_,?_,by rw [List.reverse_reverse];exact q⟩
  .rw [l,<-List.reverse_reverse i,g,<-KZ]
  .unfold sumL at c ⊢;rw [KZ,List.sum_reverse,List.length_reverse];exact c
 .trivial
section
variable {a b o:Expr} {ta tb to:TE} {ma mb mo:ME} {apos p1 p2 p3 p4:Pos} {z:Str}
def ZkT(j)(hc:X.calm=true)(hg:Gl X "reversed")(hm:X.mg "reversed"=none)(hN:X.N[j]?=some x)(hv:Eg X.env.scope x)(hd:ND x)(hcd:NE x)(hbase:attributeBase (.Constant (.str z) k p1) "join" X.env (eval (.Constant (.str z) k p1) X.env)=eval (.Constant (.str z) k p1) X.env)(hline:(apos.endLine==cpos.line)=true):PE X (.Call (.Attribute (.Constant (.str z) k p1) "join" apos) [.Call (.Name "reversed" p2) [.Name x p3] [] p4] [] cpos) (VM z j):=by
 intro c s Y H Q I h;obtain ⟨a,C,y,n,L,q⟩:=h;refine wpAny_Call_method_late hbase (by rfl) hline rfl (thn (QQ c s Y H (λv d=>v=.str z/\d=H) I ⟨rfl,rfl⟩) λv A zq=>?_);obtain ⟨T,d,m,R,M,S⟩:=zq;subst M S;obtain ⟨t,rfl⟩:=R;refine ⟨"str","str.join",PySem.F.plainAttrs_str,PySem.F.slot_str_join,PySem.F.type_str_join,GX _ _ _,(λ_ e=>nomatch e),?_⟩;refine Calls.callWith_builtin (by rfl) (Calls.evalArgs_plain ?_);refine Calls.spliced_cons ?_;refine HX (KR m hg hm rfl ?_ (by decide) (by decide));refine Pz (thn ((Fz (GF hN hv hd hcd) GC) p4 c A Y d (λE p=>E=[.ref a]/\p=d) m ⟨.ref a,y,rfl,rfl⟩) λU D zq=>?_) rfl (by rfl);obtain ⟨V,p,f,O,G,J⟩:=zq;subst G J;obtain ⟨u,rfl,K⟩:=vals1 O;cases K;obtain ⟨i,r,l,w⟩:=f.list (SqL.of n);refine call_reversed_list l.isList ?_;refine Calls.spliced_nil ?_;have g:(i.toArray.size:Int)=(C.length:Int):=by
  have:=r.length;rw [Ah] at this;rw [CT,this]
 have P:a<D.heap.objs.size:=by
  obtain ⟨o,B,_⟩:=l.isList;exact BW B
 refine ZoY hc (f.kept λb o e=>Bc _ e) L n (Gh P) (f.fpOk (Ao _) (f.hok.fresh (Ao _))) ?_ q;rw [<-g];exact ⟨_,Dq _ rfl,rfl,rfl⟩
def ZlI(j)(hc:X.calm=true)(hg:Gl X "reversed")(hm:X.mg "reversed"=none)(hN:X.N[j]?=some x:=by rfl)(hv:Eg X.env.scope x:=by first | exact Or.inl rfl | exact Or.inr (Or.inl rfl) | exact Or.inr (Or.inr rfl))(hd:ND x:=by decide)(hcd:NE x:=by decide)(hbase:attributeBase (.Constant (.str z) k p1) "join" X.env (eval (.Constant (.str z) k p1) X.env)=eval (.Constant (.str z) k p1) X.env:=by rfl)(hline:(apos.endLine==cpos.line)=true:=by rfl) :
  DE X E (.Call (.Attribute (.Constant (.str z) k p1) "join" apos) [.Call (.Name "reversed" p2) [.Name x p3] [] p4] [] cpos) (VM z j) (joinRev z j):=⟨ZkT j hc hg hm hN hv hd hcd hbase hline,ZkU z j⟩
def ybc(hg:Gl X x)(hm:X.mg x=some (.str y tk))(hd:ND x:=by decide):DE X E (.Name x pos) (tC (.str y)) (c (.str y)):=⟨Kp hg hm ⟨_,rfl⟩ hd,se_c λ_=>.str _⟩
def CV{id:String}{name:Str}{r:V->List V->Hp->VK->Prop}{f:Str->D->Res D}(slot:Slot "str" name id)(hty:typeOf (.builtin id)=pure (.type "method_descriptor"))(hm:MtR X id r)(hf:SmD X.K X.mg r f)(ho:DE X E o to mo)(ha:DE X E a ta ma)(hbase:attributeBase o name X.env (eval o X.env)=eval o X.env:=by rfl) (hfew:((backTo cpos (starEach [a] X.env)).all (λx=>!x.1)&&(backToKw cpos (keywordEach [] X.env)).all (λx=>x.1.isSome)
   && decide ([a].length+([]:List Keyword).length+(if ([]:List Keyword).isEmpty then 0 else 1)<30))=true:=by rfl) (hline:(apos.endLine==cpos.line)=true:=by rfl) (hs:starEach [a] X.env=(false,eval a X.env)::starEach [] X.env:=by rfl) (hplain:(backTo cpos (starEach [] X.env)).any (·.1)=false:=by rfl) :
  DE X E (.Call (.Attribute o name apos) [a] [] cpos) (tBM X.K "str" r to (Dt ta tNil)) (sD f mo ma):=⟨PX PySem.F.plainAttrs_str slot hty hm ho.p (Fz ha.p GC hs) hbase hfew hline hs hplain,Zwv hf ho.s ha.s⟩
def Zu1(ha:DE X E a ta ma)(hb:DE X E b tb mb)(hm:behindInMarks .In b=false:=by rfl):DE X E (.Compare a [.In] [b] pos) (tOp (λx y H Q=>∃i j,x=.str i/\y=.str j/\Q (.bl (!(Builtin.Str.occurrences j i 0 j.length 1).isEmpty)) H) ta tb) (o2 dInT ma mb):=Lf Zm9 Zq5 ha hb hm
def ZrP(ha:DE X E a ta ma)(hb:DE X E b tb mb)(hm:behindInMarks .NotIn b=false:=by rfl):DT X E (.Compare a [.NotIn] [b] pos) (Ec (tOp (λx y H Q=>∃i j,x=.str i/\y=.str j/\Q (.bl (!(!(Builtin.Str.occurrences j i 0 j.length 1).isEmpty))) H) ta tb)) (trb (o2 Jw ma mb)):=HN ZhG Zoi ha hb hm
def MP{lo hi:Option Expr}{tl th:TO}{ml mh:Ev->Res (Option Int)}{p2:Pos}(ha:DE X E a ta ma)(hl:DO X E lo tl ml)(hh:DO X E hi th mh):DE X E (.Subscript a (.Slice lo hi none p2) pos) (tSl rSlT ta tl th) (cutT ma ml mh) :=
 ⟨V6 Zvb ha.p hl.p hh.p,Zse ha.s hl.s hh.s⟩
def Zuz(ha:DE X E a ta ma)(hb:DE X E b tb mb)(hs:Sv b:=by exact λ_ _=>rfl):DE X E (.Subscript a b pos) (tOp rIxS ta tb) (o2 dIxT ma mb):=⟨Sh Zui ha.p hb.p hs,Nv Zqt ha.s hb.s⟩
end
section
variable {F:Hp}
def Kr:∀{Z:Ev} {i:Nat} {ds:List D},nOw Z=true->Z[i]?≠some (.ow ds)
 | [],_,_,_,e=>by simp at e
 | .ow _::_,_,_,h,_=>by cases h
 | .no::r,0,_,_,e=>by simp at e
 | .im _::r,0,_,_,e=>by simp at e
 | .no::r,i+1,_,h,e=>Kr (Z:=r) h (by simpa using e)
 | .im _::r,i+1,_,h,e=>Kr (Z:=r) h (by simpa using e)
def Lj:∀{Z:Ev} {i:Nat} {c:Cl},nOw Z=true->(∀ds,c≠.ow ds)->nOw (Z.set i c)=true
 | [],_,_,_,_=>rfl
 | .ow _::_,_,_,h,_=>by cases h
 | .no::r,0,c,h,hc=>by cases c<;>first | exact h | exact aB rfl (hc _)
 | .im _::r,0,c,h,hc=>by cases c<;>first | exact h | exact aB rfl (hc _)
 | .no::r,i+1,c,h,hc=>Lj (Z:=r) h hc
 | .im _::r,i+1,c,h,hc=>Lj (i:=i) h hc
def Rep.putE{g:Addr}{o:HO}(r:Rep K mg F0 H0 F H Y Z)(hn:nOw Z=true)(h0:H0 g=none)(hf:F g=none):Rep K mg F0 H0 F (upd H g o) Y Z:=by
 refine ⟨⟨r.g.f,λb u e=>?_,λb u d c=>?_,r.g.z⟩,r.len,r.im,λi h e=>aB e (Kr hn),λi j h k a e=>aB e (Kr hn)⟩
 .rw [Ag (Bj e hf)];exact r.g.s b u e
 .rw [Ag (Bj c h0)];exact r.g.o b u d c
def Rep.forg{x:V}(r:Rep K mg F0 H0 F H Y Z)(hn:nOw Z=true)(i):Rep K mg F0 H0 F H (Y.set i (some x)) (Z.set i .no):=by
 have b:nOw (Z.set i .no)=true:=Lj hn (by simp);refine ⟨r.g,by rw [Gm,Gm];exact r.len,λj e q=>?_,λj c e=>aB e (Kr b),λj k c d a e=>aB e (Kr b)⟩;rcases Cm q with ⟨_,z,_⟩ | ⟨hij,q⟩
 .cases z
 .rw [Eb hij];exact r.im j e q
def Rep.h0(r:Rep K mg F0 H0 F H Y Z)(hn:H a=none):H0 a=none:=by
 have b:=r.g.s.free hn;cases q:H0 a with
 | none=>rfl
 | some o=>
  cases q2:F0 a with
  | none=>rw [(r.g.o a o q2 q).2] at hn;cases hn
  | some u=>rw [r.g.f a u q2] at b;cases b
def Mine(K:W.Frag)(mg:Str->Option Value)(H0 F H:Hp)(q:Addr)(ds:List D):Prop:=H0 q=none/\F q=none/\∃a,H q=some (.lst a)/\Rps K mg F a ds
def Mine.gr(h:Mine K mg H0 F H q ds)(g:Gr F H F' H'):Mine K mg H0 F' H' q ds:=by
 obtain ⟨d,b,c,a,i⟩:=h;obtain ⟨j,e⟩:=g.o q _ b a;exact ⟨d,j,c,e,i.same g.f⟩
def Mine.put(h:Mine K mg H0 F H q ds)(hn:q≠g):Mine K mg H0 F (upd H g o) q ds:=by
 obtain ⟨d,b,c,a,e⟩:=h;exact ⟨d,b,c,by rw [Ag hn];exact a,e⟩
structure Gst(K:W.Frag)(mg:Str->Option Value)(H0:Hp)(i:Nat)(g:Addr)(rs:List Addr)(r:Addr)(gs:List (List D))(cur:List D)(F H:Hp)(Y:St):Prop where
 a:Y[i]?=some (some (.ref g))
 z:H0 g=none
 f:F g=none
 h:H g=some (.lst ((rs++[r]).map V.ref))
 n:∀q∈rs++[r],q≠g
 m:∀q∈rs,q≠r
 l:rs.length=gs.length
 d:∀(k:Nat) (q:Addr) (ds:List D),rs[k]?=some q->gs[k]?=some ds->Mine K mg H0 F H q ds
 c:Mine K mg H0 F H r cur
variable {g r:Addr} {rs:List Addr} {gs:List (List D)} {cur:List D}
def Gst.gr(s:Gst K mg H0 i g rs r gs cur F H Y)(q:Gr F H F' H'):Gst K mg H0 i g rs r gs cur F' H' Y:=by
 obtain ⟨u,b⟩:=q.o g _ s.f s.h;exact ⟨s.a,s.z,u,b,s.n,s.m,s.l,λk p t j e=>(s.d k p t j e).gr q,s.c.gr q⟩
def Gst.st(s:Gst K mg H0 i g rs r gs cur F H Y)(e:Y'[i]?=Y[i]?):Gst K mg H0 i g rs r gs cur F H Y' :=
 ⟨e.trans s.a,s.z,s.f,s.h,s.n,s.m,s.l,s.d,s.c⟩
def Gst.new(s:Gst K mg H0 i g rs r gs cur F H Y)(hp:H p=none)(h0:H0 p=none)(hf:F p=none) :
  Gst K mg H0 i g (rs++[r]) p (gs++[cur]) [] F (upd (upd H p (.lst [])) g (.lst ((rs++[r]).map V.ref++[.ref p]))) Y:=by
 have w:=Bj s.h hp;have v:∀{q:Addr} {e:List D},Mine K mg H0 F H q e->q≠p:=λh=>by
  obtain ⟨_,_,A,x,_⟩:=h;exact Bj x hp
 have o:∀{q:Addr} {e:List D},q≠g->Mine K mg H0 F H q e->Mine K mg H0 F (upd (upd H p (.lst [])) g (.lst ((rs++[r]).map V.ref++[.ref p]))) q e:=λy h=>(h.put (v h)).put y;refine ⟨s.a,s.z,s.f,by rw [Ax,GD (l₁:=rs++[r])];rfl,λq u=>?_,λq u=>?_,by rw [Bm,Bm,s.l];rfl,λk q e b t=>?_,⟨h0,hf,[],by rw [Ag (Ne.symm w)];exact Ax,.nil⟩⟩
 .rcases Dv.mp u with h | h
  .exact s.n q h
  .rw [De.mp h];exact Ne.symm w
 .rcases Dv.mp u with h | h
  .obtain ⟨k,j,rfl⟩:=Gp.mp h;exact v (s.d k rs[k] (gs[k]'(by rw [<-s.l];exact j)) (Bg j) (Bg _))
  .rw [De.mp h];exact v s.c
 .by_cases j:k<rs.length
  .rw [Dn j] at b;rw [Dn (by rw [<-s.l];exact j)] at t;exact o (s.n q (HD _ (Ef b))) (s.d k q e b t)
  .rw [Ff (by omega)] at b;rw [Ff (by rw [<-s.l];omega)] at t;have m:k - rs.length=0:=by
    have:=(Dd.mp b).1;simp at this;omega
   rw [m] at b;rw [show k - gs.length=0 by rw [<-s.l];exact m] at t;cases b;cases t;exact o (s.n _ (CK _ Aw)) s.c
def Gst.app{x:V}(s:Gst K mg H0 i g rs r gs cur F H Y)(hr:H r=some (.lst xs))(hx:Rp K mg F x d):Gst K mg H0 i g rs r gs (cur++[d]) F (upd H r (.lst (xs++[x]))) Y:=by
 have p:=s.n r (CK _ Aw);obtain ⟨j,o,w,b,v⟩:=s.c;rw [hr] at b;cases b;exact ⟨s.a,s.z,s.f,by rw [Ag (Ne.symm p)];exact s.h,s.n,s.m,s.l,λk q t e u=>(s.d k q t e u).put (s.m q (Ef e)),⟨j,o,_,Ax,Rps.app (.cons hx .nil) v⟩⟩
def Gst.ret(s:Gst K mg H0 i g rs r gs cur F H Y)(rr:Rep K mg F0 H0 F H Y Z):∃F',Gr F0 H0 F' H/\Rp K mg F' (.ref g) (.lst ((gs++[cur]).map D.lst)):=by
 let F':Hp:=λb=>match F b with
  | some o=>some o
  | none=>if b=g\/b∈rs++[r] then H b else none
 have B:Same F F':=λb o e=>by show (match F b with | some o=>some o | none=>_)=some o;rw [e]
 have x:∀{b:Addr},F b=none->(b=g\/b∈rs++[r])->F' b=H b:=λ{b} e h=>by
  show (match F b with | some o=>some o | none=>_)=_
  rw [e];exact iP h
 have A:∀{q:Addr} {ds:List D},q∈rs++[r]->Mine K mg H0 F H q ds->Rp K mg F' (.ref q) (.lst ds):=λhm h=>by
  obtain ⟨P,L,n,t,M⟩:=h;exact .lst (SqL.of ((x L (.inr hm)).trans t)) (M.same B)
 have C:∀b,b=g\/b∈rs++[r]->∃n,H b=some (.lst n):=λb h=>by
  rcases h with rfl | h
  .exact ⟨_,s.h⟩
  .rcases Dv.mp h with h | h
   .obtain ⟨k,m,e⟩:=Gp.mp h;have E:k<gs.length:=by have:=s.l;omega
    obtain ⟨_,_,n,t,_⟩:=s.d k b gs[k] (by rw [Bg m,e]) (Bg E);exact ⟨n,t⟩
   .have:b=r:=by simpa using h
    subst this;obtain ⟨_,_,n,t,_⟩:=s.c;exact ⟨n,t⟩
 refine ⟨F',⟨rr.g.f.trans B,λb o e=>?_,λb o p j=>?_,λb o u e=>by
  cases q:F b with
  | some w=>
   rw [B b w q] at e;cases e;exact rr.g.z b o u q
  | none=>
   have a:(match F b with | some o=>some o | none=>if b=g\/b∈rs++[r] then H b else none)=some (.frz o u):=e
   rw [q] at a;dsimp only at a;split at a
   .next I=>
    obtain ⟨n,N⟩:=C b I;rw [N] at a;cases a
   .cases a⟩,.lst (SqL.of ((x s.f (.inl rfl)).trans s.h)) (WR (by rw [Ah,Ah,Bm,Bm,s.l];rfl) λk y d p j=>?_)⟩
 .cases q:F b with
  | some u=>
   rw [B b u q] at e;cases e;exact rr.g.s b _ q
  | none=>
   have a:(match F b with | some o=>some o | none=>if b=g\/b∈rs++[r] then H b else none)=some o:=e
   rw [q] at a;dsimp only at a;split at a
   .exact a
   .cases a
 .obtain ⟨O,G⟩:=rr.g.o b o p j;refine ⟨?_,G⟩;show (match F b with | some o=>some o | none=>if b=g\/b∈rs++[r] then H b else none)=none
  rw [O];refine iN ?_;rintro (rfl | hm)
  .rw [s.z] at j;cases j
  .have J:H0 b=none:=by
    rcases Dv.mp hm with h | h
    .obtain ⟨k,m,rfl⟩:=Gp.mp h;exact (s.d k rs[k] (gs[k]'(by rw [<-s.l];exact m)) (Bg m) (Bg _)).1
    .rw [De.mp h];exact s.c.1
   rw [J] at j;cases j
 .rw [DK] at p j;cases q1:(rs++[r])[k]? with
  | none=>rw [q1] at p;cases p
  | some q=>
   rw [q1] at p;cases p;cases q2:(gs++[cur])[k]? with
   | none=>rw [q2] at j;cases j
   | some ds=>
    rw [q2] at j;cases j;refine A (Ef q1) ?_;by_cases m:k<rs.length
    .rw [Dn m] at q1;rw [Dn (by rw [<-s.l];exact m)] at q2;exact s.d k q ds q1 q2
    .rw [Ff (by omega)] at q1;rw [Ff (by rw [<-s.l];omega)] at q2;have v:k - rs.length=0:=by
      have:=(Dd.mp q1).1;simp at this;omega
     rw [v] at q1;rw [show k - gs.length=0 by rw [<-s.l];exact v] at q2;cases q1;cases q2;exact s.c
def tGrp(K:W.Frag)(i j k:Nat)(sc:TT):TS:=tSeq (tAsg (tLst (Dt (tLst tNil) tNil)) (FQ i)) (tSeq (tFor (iSeq K (tVar k)) (FQ j) (tIfS sc (HH (tBM K "list" JK (tVar i) (Dt (tLst tNil) tNil))) (HH (tBM K "list" JK (tOp (rIxD K) (tVar i) (tUn (rU λi=>V.int (-i)) (tC (.int 1)))) (Dt (tVar j) tNil))))) (tRet (tVar i)))
def UT{nt:MB}{c:Str}:∀(ds:List D) (gs:List (List D)) (g:List D),Eh i j nt Z ds gs g≠.ex c
 | [],_,_,h=>by cases h
 | d::r,gs,g,h=>by
  unfold Eh at h;cases e:noEx (nt ((Z.set i .no).set j (.im d))) with
  | bad=>rw [e] at h;cases h
  | ex c'=>cases z:nt ((Z.set i .no).set j (.im d))<;>rw [z] at e<;>cases e
  | ok b=>
   rw [e] at h;have a:(if b=true then Eh i j nt Z r (gs++[g]) [] else Eh i j nt Z r gs (g++[d]))=.ex c:=h
   split at a
   .exact UT r _ _ a
   .exact UT r _ _ a
def Zvv(hij:i≠j)(hik:i≠k)(ht:STt K mg E sc nt):SS K mg E (tGrp K i j k sc) (grp i j k nt):=by
 intro F0 P F H Y Z N;unfold grp;split
 .next C ek=>
  split
  .next hc=>
   simp only [Bo,CQ] at hc;obtain ⟨⟨⟨Q,li⟩,lj⟩,hl⟩:=hc;cases er:Eh i j nt Z C [] [] with
   | bad=>trivial
   | ex c=>exact aB er (UT _ _ _)
   | ok res=>
   intro D q;obtain ⟨x,ex,rx⟩:=N.im k _ ek;cases rx with
   | lst hq hrs=>
   rename_i aw xs;refine ⟨(DX _),λO U=>⟨(show 1<=sizeLine by decide),λp hp=>?_⟩⟩;have n1:p≠O:=by
    rintro rfl;rw [Ax] at hp;cases hp
   have T:H p=none:=by rwa [Ag n1] at hp
   have z1:=N.h0 U;have z2:=N.h0 T;have f1:=N.g.s.free U;have f2:=N.g.s.free T;have r1:Rep K mg F0 P F (upd (upd H O (.lst [])) p (.lst [.ref O])) (Y.set i (some (.ref p))) (Z.set i .no):=((N.putE Q z1 f1).putE Q z2 f2).forg Q i;have s1:Gst K mg P i p [] O [] [] F (upd (upd H O (.lst [])) p (.lst [.ref O])) (Y.set i (some (.ref p))) :=
    ⟨Li (by rw [N.len];exact li),z2,f2,Ax,λu hu=>by rw [De.mp hu];exact Ne.symm n1,λu hu=>by simp at hu,rfl,λk u es e=>by simp at e,⟨z1,f1,[],by rw [Ag (Ne.symm n1)];exact Ax,.nil⟩⟩
   refine ⟨.ref aw,by rw [Eb hik];exact ex,aw,rfl,.inl ⟨⟨xs,r1.ss.seq hq⟩,?_⟩⟩
   refine ⟨λm fu Y' H'=>fu=C.length - m/\m<=C.length/\∃I G g v r A t,Same F I/\Rep K mg F0 P I H' Y' G/\nOw G=true/\(∀d,G.set j (.im d)=(Z.set i .no).set j (.im d))/\Gst K mg P i g v r A t I H' Y'/\A.length<=m/\t.length<=m/\Eh i j nt Z (C.drop m) A t=.ok res,
    ⟨_,rfl,DX _,F,Z.set i .no,p,[],O,[],[],Same.refl _,r1,Lj Q (by simp),λ_=>rfl,s1,Ao _,Ao _,er⟩,?_⟩
   rintro m fu Y' H' ⟨rfl,hm,I,G,g,v,r,A,t,sF,r',hn',J,X,lg,lc,L⟩;have M:=r'.ss.seq (sF.seq hq);by_cases hlt:m<C.length
   .refine .inr ?_;have hd:=Bg hlt;obtain ⟨y,ey,ry⟩:=hrs.get hd;rw [NQ hlt] at L;generalize C[m]=d at L ry hd;obtain ⟨b,eb,L⟩:=Zso L;have eb:=ZrD eb
    refine ⟨⟨xs,y,M,ey⟩,λY2 S=>∃I G g v r A t,Same F I/\Rep K mg F0 P I S Y2 G/\nOw G=true/\(∀d,G.set j (.im d)=(Z.set i .no).set j (.im d))/\Gst K mg P i g v r A t I S Y2/\A.length<=m+1/\t.length<=m+1/\Eh i j nt Z (C.drop (m+1)) A t=.ok res,
     λY2 S z=>⟨C.length - (m+1),by omega,rfl,hlt,z⟩,?_⟩
    rintro y' S ⟨rfl,hy⟩;have e2:=hy xs M;rw [ey] at e2;cases e2;have W:=ry.same sF;have r2:=r'.set j W;rw [J d] at r2;have st2:=X.st (Y':=Y'.set j (some y)) (Eb (Ne.symm hij));have hT:=ht F0 P I S _ _ r2;rw [eb] at hT;refine hT _ λF3 H3 b' R hb=>?_;cases (hb);have r3:=r2.gr R;have o:=st2.gr R;have w:nOw ((Z.set i .no).set j (.im d))=true:=Lj (Lj Q (by simp)) (by simp)
    have sj:(Y'.set j (some y))[j]?=some (some y):=Li (by
     have:=r'.len;have e3:G.length=Z.length:=by
      have:=Bl List.length (J d);simpa using this
     omega)
    have bd:∀n,n<=m+1->n<sizeLine:=λn h=>Lx (Ar h hlt) (Bp hl (by decide));cases b with
    | true=>
     refine ⟨.ref g,o.a,.inl ⟨rfl,_,SqL.of o.h⟩,by decide,λp3 B=>?_⟩;have gp:=Bj o.h B;refine ⟨g,(v++[r]).map V.ref,.ref p3,rfl,rfl,by rw [Ag gp];exact o.h,bd _ (by rw [Ah,Bm,X.l];exact JM lg),?_⟩;have w0:=r3.h0 B;have wf:=r3.g.s.free B;exact ⟨F3,_,g,v++[r],p3,A++[t],[],sF.trans R.f,(r3.putE w w0 wf).putE w o.z o.f,w,λd'=>by rw [List.set_set],o.new B w0 wf,by rw [Bm];exact JM lg,DX _,L⟩
    | false=>
     obtain ⟨c1,c2,cs,c3,c4⟩:=o.c;refine ⟨.ref g,o.a,1,rfl,.inl ⟨g,(v++[r]).map V.ref,-1,.ref r,rfl,rfl,SqL.of o.h,?_,.inl ⟨rfl,cs,SqL.of c3⟩,y,sj,r,cs,y,rfl,rfl,c3,bd _ (by rw [c4.length];exact Nat.le_succ_of_le lc),?_⟩⟩
     .unfold atI ixN;rw [iN (by decide),iP (by rw [Ah,Bm];simp;omega)];show ((v++[r]).map V.ref)[(-1+(((v++[r]).map V.ref).length:Int)).toNat]?=_;rw [Ah,Bm,List.length_singleton,show (-1+((v.length+1:Nat):Int)).toNat=v.length by omega,DK,Ff (Ao _),Nat.sub_self];rfl
     .exact ⟨F3,_,g,v,r,A,t++[d],sF.trans R.f,r3.putE w c1 c2,w,λd'=>by rw [List.set_set],o.app c3 (W.same R.f),Nat.le_succ_of_le lg,by rw [Bm];exact JM lc,L⟩
   .refine .inl ⟨⟨xs,M,by rw [hrs.length];omega⟩,?_⟩;have e0:C.drop m=[]:=Om (by omega);rw [e0] at L;cases L;obtain ⟨F5,g5,x5⟩:=X.ret r';exact ⟨.ref g,X.a,q F5 H' (.ref g) g5 x5⟩
  .trivial
 .trivial
end
section
variable {y z:Str} {t':Expr} {sc:TT} {nt:MB} {p1 p2 p3 p4 p5 p6 p7 p8 p9 q1 q2 q3 q4 q5 q6 q7 q8 q9:Pos} {n1:Nat}
def ZsE(hN:X.N.Nodup)(hp:PassesOwn (model X.prog X.w) X.A X.env X.xe)(hc:X.calm=true)(hij:i≠j)(hik:i≠k)(hi:X.N[i]?=some x)(hx:Loc X.env.scope x)(hj:X.N[j]?=some y)(hy:Loc X.env.scope y)(hk:X.N[k]?=some z)(ht:DT X E t' sc nt)(hv:Eg X.env.scope x:=by first | exact Or.inl rfl | exact Or.inr (Or.inl rfl) | exact Or.inr (Or.inr rfl))(hd:ND x:=by decide)(hcd:NE x:=by decide)(hvy:Eg X.env.scope y:=by first | exact Or.inl rfl | exact Or.inr (Or.inl rfl) | exact Or.inr (Or.inr rfl))(hdy:ND y:=by decide)(hcdy:NE y:=by decide)(hvz:Eg X.env.scope z:=by first | exact Or.inl rfl | exact Or.inr (Or.inl rfl) | exact Or.inr (Or.inr rfl))(hdz:ND z:=by decide)(hcdz:NE z:=by decide)(hs:swapsWith (.List [.List [] p1] p2) (some (.Name x p3)) p4.line X.env=pure false:=by rfl)(hf:X.fn x=true\/X.env.scope.names.lookup x=some .local:=by first | exact .inl rfl | exact .inr rfl | assumption)(hfy:X.fn y=true\/X.env.scope.names.lookup y=some .local:=by first | exact .inl rfl | exact .inr rfl | assumption)(hse:starEach [.List [] p1] X.env=(false,eval (.List [] p1) X.env)::starEach [] X.env:=by rfl)(hfs:∀u,foldedSetIterable (.Name z p6) X.env u=pure u:=by intro _;rfl)(hb1:attributeBase (.Name x p7) "append" X.env (eval (.Name x p7) X.env)=eval (.Name x p7) X.env:=by rfl) (hw1:((backTo p9 (starEach [.List [] q1] X.env)).all (λx=>!x.1)&&(backToKw p9 (keywordEach [] X.env)).all (λx=>x.1.isSome)
   && decide (([.List [] q1]:List Expr).length+([]:List Keyword).length+(if ([]:List Keyword).isEmpty then 0 else 1)<30))=true:=by rfl) (hl1:(p8.endLine==p9.line)=true:=by rfl) (hs1:starEach [.List [] q1] X.env=(false,eval (.List [] q1) X.env)::starEach [] X.env:=by rfl) (hp1:(backTo p9 (starEach [] X.env)).any (·.1)=false:=by rfl) (hsw1:swapsWith (.Call (.Attribute (.Name x p7) "append" p8) [.List [] q1] [] p9) none q2.line X.env=pure false:=by rfl) (hb2:attributeBase (.Subscript (.Name x q3) (.UnaryOp .USub (.Constant (.int 1) n1 q4) q5) q6) "append" X.env (eval (.Subscript (.Name x q3) (.UnaryOp .USub (.Constant (.int 1) n1 q4) q5) q6) X.env)=eval (.Subscript (.Name x q3) (.UnaryOp .USub (.Constant (.int 1) n1 q4) q5) q6) X.env:=by rfl) (hw2:((backTo q8 (starEach [.Name y q9] X.env)).all (λx=>!x.1)&&(backToKw q8 (keywordEach [] X.env)).all (λx=>x.1.isSome)
   && decide (([.Name y q9]:List Expr).length+([]:List Keyword).length+(if ([]:List Keyword).isEmpty then 0 else 1)<30))=true:=by rfl) (hl2:(q7.endLine==q8.line)=true:=by rfl) (hs2:starEach [.Name y q9] X.env=(false,eval (.Name y q9) X.env)::starEach [] X.env:=by rfl) (hp2:(backTo q8 (starEach [] X.env)).any (·.1)=false:=by rfl) {r1 r2 r3 r4 r5:Pos} (hsw2:swapsWith (.Call (.Attribute (.Subscript (.Name x q3) (.UnaryOp .USub (.Constant (.int 1) n1 q4) q5) q6) "append" q7) [.Name y q9] [] q8) none r1.line X.env=pure false:=by rfl) :
  DSs X E [.Assign [.Name x p3] (.List [.List [] p1] p2) p4,.For (.Name y p5) (.Name z p6) [.If t' [.Expr (.Call (.Attribute (.Name x p7) "append" p8) [.List [] q1] [] p9) q2] [.Expr (.Call (.Attribute (.Subscript (.Name x q3) (.UnaryOp .USub (.Constant (.int 1) n1 q4) q5) q6) "append" q7) [.Name y q9] [] q8) r1] r2] [] r3,.Return (some (.Name x r4)) r5]
   (tGrp X.K i j k sc) (grp i j k nt) :=
 ⟨Lb (Rt hN hi hx (MF (Fz (MF GC) GC hse)) hs hf) (Lb (XN hp hc (DN (E:=E) (d_v k hk hvz hdz hcdz)).p (Vx hN hj hy hfy) (KY (Yn ht.p
   (KY (KN (PX PySem.F.plainAttrs_list PySem.F.slot_list_append PySem.F.type_list_append Uv (GF hi hv hd hcd) (Fz (MF GC) GC hs1) hb1 hw1 hl1 hs1 hp1) hsw1))
   (KY (KN (PX PySem.F.plainAttrs_list PySem.F.slot_list_append PySem.F.type_list_append Uv (Sh (IxR.or Ww ZpT) (GF hi hv hd hcd) (Xa WD Y5) (λ_ _=>rfl)) (Fz (GF hj hvy hdy hcdy) GC hs2) hb2 hw2 hl2 hs2 hp2) hsw2)))) hfs) (KY (Zpz (GF hi hv hd hcd)))),
Zvv hij hik ht.s⟩
end
end L2.Ds
namespace L2
open PySem.Calls
def PK:List Value->Bool
 | .ref _::r=>PK r
 | l=>l==G7
def Yi(self):∀{l:List Value},PK l=true->refuseLoop self "__setattr__" l=pure ()
 | .ref C::r,h=>by rw [refuseLoop_ref];exact Yi self (l:=r) h
 | [],h=>by cases h
 | .type n::r,h=>by rw [Dc.mp (h)];exact PySem.F.store_ValueError.passes self
 | .none::r,h=>by cases h
 | .ellipsis::r,h=>by cases h
 | .notImplemented::r,h=>by cases h
 | .bool _::r,h=>by cases h
 | .int _ _::r,h=>by cases h
 | .float _ _::r,h=>by cases h
 | .str _ _::r,h=>by cases h
 | .bytes _ _::r,h=>by cases h
 | .builtin _::r,h=>by cases h
structure ClsX(K:W.Frag)(C:Addr):Prop where
 m:W.mroIn K C (.type "object")=some true
 o:((W.clsIn K C).any λcd=>PK cd.mro)=true
 d:W.hasDictIn K C=true
 sa:W.findIn K (.ref C) "__setattr__"=some (some (.builtin "object.__setattr__"))
section
open PySem.Builtin PySem.Builtin.ObjectAttr PySem.W
variable{prog:Program} {E:Value->Shared->Prop} {x C:Addr} {name:Str} {v:Value}
def osaX(XI:K.In s.heap)(I:W.InstAt s.heap x ox C od)(c:ClsX K C)(hn:W.findIn K (.ref C) name=some none) (h:wpAny (model prog w) A.in1 (storeInOwnDict (.ref x) (.ref C) (.str name tk) name v false)
   (λfin s'=>match fin with | .done f=>R (.ok f) s' | .again c'=>c'.quiet=true/\codeAny (model prog w) A c' R s') (λe s'=>R (.error e) s') s) :
  codeAny (model prog w) A (.call (.builtin "object.__setattr__") ⟨[.ref x,.str name tk,v],[]⟩) R s:=by
 have a:=PySem.F.store_object;obtain ⟨d,g,i⟩:=W.any_some c.o;have b:W.Looks (model prog w) s.heap (isInstance (.ref x) (.type "object")) true:=I.type.andThen (Kv XI c.m);refine Kh a.slot.plain a.entry (@W.check_slot (model prog w) _ _ s "object.__setattr__" "object" "__setattr__" (.ref x) [.str name tk,v] [] _ a.kind a.split b (a.args (.ref x) (.str name tk) v) ?_);have j:W.Looks (model prog w) s.heap (mroOf (.ref C)) d.mro:=(W.looks_clsIn XI g).andThen .now;rw [W.osa_eq,refuse_eq];refine Ac (Ac (I.type.here (Ac (j.here ?_))));rw [Yi _ i];refine Af (Ac (I.type.here (Ac ((Ig XI hn).here (Ac ?_)))));exact (W.Looks.now).here h
end
abbrev exFs(t:Addr):Data:=.fields #[.ref t,.none,.none,.none,.bool false,.none]
def ExN(a C:Addr)(h:Heap):Prop:=∃t,h.get? a=some { cls:=.ref C,data:=exFs t }
def ExM(a C d:Addr)(h:Heap):Prop:=∃t,h.get? a=some { cls:=.ref C,dict:=some d,data:=exFs t }
def exN(a C:Addr):HO:=.ext (ExN a C)
def exM(a C d:Addr):HO:=.ext (ExM a C d)
section
variable {h:Heap} {a C d:Addr}
def Zvl(e:ExN a C h):Dj P w H h a (exN a C):=⟨e,e.elim λ_ z=>⟨_,z⟩,λ_ _ ⟨t,q⟩ k=>⟨t,k _ q⟩⟩
def Zs8(e:ExM a C d h):Dj P w H h a (exM a C d):=⟨e,e.elim λ_ z=>⟨_,z⟩,λ_ _ ⟨t,q⟩ k=>⟨t,k _ q⟩⟩
end
section
open PySem.Builtin PySem.Builtin.ObjectAttr
variable {a C:Addr} {f:Str} {E:Value->Shared->Prop}
def ZiW(I:Inv X pins Y H s)(e:H a=some (exN a C))(c:ClsX X.K C)(n:W.findIn X.K (.ref C) f=some none)(ry:RelV y u)(h:∀d s',H d=none->d≠a->Inv X pins Y (upd (upd H a (exM a C d)) d (.xd [(f,y)])) s'->Q () s'):wpAny (model X.prog X.w) A (setAttr (.ref a) f u) Q E s:=by
 obtain ⟨t,x⟩ : ExN a C s.heap:=(I.hok a _ e).1;have J:W.InstAt s.heap a { cls:=.ref C,data:=exFs t } C none:=⟨x,rfl,rfl,trivial⟩;refine W.set_plain I.kIn J c.sa (osaX I.kIn J c n ?_);obtain ⟨cd,hc,G⟩:=W.any_some c.d;have B:=BW x;refine Ac (Af (Ac ?_));refine Ac (Jf x (Ac (W.Looks.here (W.looks_clsIn I.kIn hc) ?_)));rw [G];refine Ac (wpAny_alloc' ?_);have p:(s.heap.push { cls:=.type "dict",data:=.dict #[] }).get? a=some { cls:=.ref C,data:=exFs t }:=Bc _ x;refine Ac (wpAny_update' p ?_);refine Af ?_;have P:(s.heap.push { cls:=.type "dict",data:=.dict #[] }).get? s.heap.objs.size=some { cls:=.type "dict",data:=.dict #[] }:=Heap.get?_push_at rfl rfl;have l:=Gh B;have R:((s.heap.push { cls:=.type "dict",data:=.dict #[] }).update a λo=>{ o with dict:=some s.heap.objs.size }).get? s.heap.objs.size=some { cls:=.type "dict",data:=.dict #[] } :=
  (Heap.get?_update_ne _ _ _ _ l).trans P
 have L:((s.heap.push { cls:=.type "dict",data:=.dict #[] }).update a λo=>{ o with dict:=some s.heap.objs.size }).Ns s.heap.objs.size (λ_=>none) :=
  ⟨_,#[],_,R,rfl,λe he=>aB he (by simp),λ_=>rfl⟩
 have S:((s.heap.push { cls:=.type "dict",data:=.dict #[] }).update a λo=>{ o with dict:=some s.heap.objs.size }).get? a=some { cls:=.ref C,dict:=some s.heap.objs.size,data:=exFs t }:=Ip _ p rfl
 refine Ac (Af (Ac (wpAny_nsSet1 (Heap.Ns1.of_empty L) λh' v U=>?_)));obtain ⟨oD,esD,Z,O,N,F⟩:=v.count (Within.cons f u Within.nil);refine Ac (wpAny_lookBehind O (by rw [N];exact pastItsLine_dict (Ar F (by rw [BP,Fo,sizeLine_eq];omega))) ?_);refine Af ?_;have j:=I.hok.fresh (Ao _);have i:∀b o,b≠a->s.heap.get? b=some o->h'.get? b=some o:=λb o hb z=>
  (U.2 b (Bq (BW z))).trans ((Heap.get?_update_ne _ _ _ _ hb).trans (Bc _ z))
 have D:∀b,H b=none->b≠a:=λb z q=>by rw [q,e] at z;cases z
 have M:∀b o,s.heap.get? b=some o->b≠s.heap.objs.size:=λb o z=>Bq (BW z);have k:∀b o,H b=some o->b≠s.heap.objs.size:=λb o z q=>by rw [q,j] at z;cases z
 have m:=(U.2 a (Ne.symm l)).trans S;refine h s.heap.objs.size _ j l (I.un ⟨λb o z n _ _=>i b o (D b n) z,λb o z n _ _=>⟨o.slots,i b o (D b n) z⟩,λb o z n _=>?_,λb o z _=>?_,λb T z=>?_,λb o T z=>?_,λb ps z=>⟨#[],?_⟩⟩ λb o z=>?_)
 .rw [Ag (M b o z),Ag (D b n)];exact n
 .by_cases q:b=a
  .exact ⟨_,q▸m⟩
  .exact ⟨o,i b o q z⟩
 .rw [Ag (k b _ z),Ag (λq=>by rw [q,e] at z;cases z)];exact z
 .rw [Ag (k b _ z),Ag (λq=>by rw [q,e] at z;cases z)];exact z
 .rw [Ag (k b _ z),Ag (λq=>by rw [q,e] at z;cases z),z];simp
 .by_cases q:b=s.heap.objs.size
  .subst q;rw [Ax] at z;cases z;refine ⟨_,v,λg=>?_⟩;rw [Gu];by_cases q:g=f
   .rw [iP q,Dc.mpr q];exact ry
   .rw [iN q,beq_false_of_ne q];trivial
  .rw [Ag q] at z;by_cases q2:b=a
   .subst q2;rw [Ax] at z;cases z;exact Zs8 ⟨t,m⟩
   .rw [Ag q2] at z;refine (I.hok b o z).stay (λc V hc r=>?_) (λc r=>?_) λc T r=>?_
    .refine i c V ?_ r;rcases hc with rfl | hc
     .exact q2
     .exact λq=>by rw [q,e] at hc;cases hc
    .rw [Ag (k c _ r),Ag (λq=>by rw [q,e] at r;cases r)];exact r
    .rw [Ag (k c _ r),Ag (λq=>by rw [q,e] at r;cases r)];exact r
end
def Kc(K:W.Frag)(C fI:Addr):Bool:=W.excIn.match_6 (λ_=>Bool) (K.lookup C) (λ_ a b=>W.excIn.match_1 (λ_ _=>Bool) a.mro b.toList
 (λd c _ _ _ _ n _=>d==C&&n == "ValueError.__new__"&&!a.hasDel&&W.tailIn K G7 c&&W.findIn K (.ref C) "__init__"==some (some (.ref fI))&&W.typeIn K (.ref fI)==some (.type "function")) λ_ _=>false) λ_=>false
section
variable{prog:Program} {E:Value->Shared->Prop} {h:Heap} {g:Array GenState} {d:Drawn} {t:Nat} {os:OsState} {C fI:Addr}
def Zf5{N:Addr}{rest:List Value}(XI:K.In h)(hC:h.get? C=some (excClassObj nm q C N bs bm hdct sn sub ab col dd k0 k1 k2 k3 k5 "ValueError.__new__"))(T:OwnTail h G7 bm)(hi:W.findIn K (.ref C) "__init__"=some (some (.ref fI)))(hfn:W.typeIn K (.ref fI)=some (.type "function"))(hq:∀h' e,Heap.MadeExcOf h h' e (.ref C) rest->wpAny (model prog w) A (call (.ref fI) (.ref e::rest)) (λr s'=>r=.none/\Q (.done (.ret (.ref e))) s') E ⟨h',g,d,t,os⟩)(hrest:rest.length<=sizeLine) :
  wpAny (model prog w) A (Builtin.«type.__call__» ⟨.ref C::rest,[]⟩) Q E ⟨h,g,d,t,os⟩:=by
 have i:=Pb;have c:G7.contains (.type "ValueError")=true:=by decide +kernel
 repeat (first | with_reducible refine wpAny_loadPart_at hC ?_ | with_reducible refine wpAny_madeBy_exc hC ?_ | wp_step)
 refine codeAny_call_builtin_code (Qa _ i.quiet) (wpAny_check_new_subU i c T hC ?_);refine codeAny_exc_new_subU i c i T hC ?_ hrest;have j:=Bc { cls:=.ref C,data:=.fields #[.ref h.objs.size,.none,.none,.none,.bool false,.none] }
  (Bc { cls:=.type "tuple",data:=.seq rest.toArray } hC)
 have a:((h.push { cls:=.type "tuple",data:=.seq rest.toArray }).push
   { cls:=.ref C,data:=.fields #[.ref h.objs.size,.none,.none,.none,.bool false,.none] }).get? (h.objs.size+1)=some
   { cls:=.ref C,data:=.fields #[.ref h.objs.size,.none,.none,.none,.bool false,.none] }:=by heap_get
 have k:(Value.ref C::bm).contains (.ref C)=true:=by simp
 have f:K.In ((h.push { cls:=.type "tuple",data:=.seq rest.toArray }).push { cls:=.ref C,data:=.fields #[.ref h.objs.size,.none,.none,.none,.bool false,.none] }):=λb o e=>Bc _ (Bc _ (XI b o e))
 repeat (first | with_reducible refine wpAny_loadPart_at a ?_ | (with_reducible refine wpAny_isSubtype_exc j ?_;rw [k]) | wp_step)
 refine (Ig f hi).here ?_;refine Cv (Ac ?_);refine (W.bind_fn f _ hfn).here ?_;refine Ac (BV (hq _ (h.objs.size+1) ⟨λb o n=>Bc _ (Bc _ n),Fg (Nat.le_succ _),h.objs.size,a,Fg (Ao _),?_⟩) (λr s' m=>?_) λ_ _ x=>x)
 .exact Bc _ (Heap.get?_push_at rfl rfl)
 .obtain ⟨rfl,l⟩:=m
  wp_walk
  exact l
def Zlu{rest:List Value}(XI:K.In h)(q:Kc K C fI=true) (hq:∀h' e,Heap.MadeExcOf h h' e (.ref C) rest ->
   wpAny (model prog w) (A.under (.builtin "type.__call__" ⟨.ref C::rest,[]⟩)) (call (.ref fI) (.ref e::rest)) (λr s'=>r=.none/\Q (.ref e) s') E ⟨h',g,d,t,os⟩) (hrest:rest.length<=sizeLine) :
  wpAny (model prog w) A (call (.ref C) rest) Q E ⟨h,g,d,t,os⟩:=by
 unfold Kc at q;split at q
 .rename_i dd cd sl ho;split at q
  .rename_i C' bm k0 k1 k2 k3 n k5 i hs;simp only [Bo,Dc,Bool.not_eq_true'] at q;obtain ⟨⟨⟨⟨⟨rfl,rfl⟩,a⟩,m⟩,s⟩,c⟩:=q;obtain ⟨B,F,p,G,v,j,x,k,y,u,o⟩:=cd;subst i a;have f:sl=#[k0,k1,k2,k3,some (.builtin "ValueError.__new__"),k5]:=by
    obtain ⟨l⟩:=sl;simp only at hs;rw [hs]
   subst f;have b:=XI _ _ ho;have T:=W.tail_of_in XI m;have D:=Pb;have z:=tc_lookup;have H:=tc_bind (.ref C');refine GR (codeAny_of_tree ?_)
   repeat (any_goals (first | assumption | with_reducible refine wpAny_loadPart_at b ?_ | wp_step))
   refine ⟨rfl,?_⟩;refine codeAny_call_builtin_at (Qa _ (by decide +kernel)) entry_typeCall (wpAny_check_type_call_sub b ?_);exact Zf5 XI b T s c (λh' e i=>hq h' e i) hrest
  .cases q
 .cases q
end
def ZvV(K:W.Frag)(ta tv:TE)(f:Str):TS:=λD Y H=>tv Y H λy c=>ta Y c λx b=>∃a C,x=.ref a/\b a=some (exN a C)/\ClsX K C/\W.findIn K (.ref C) f=some none /\
 ∀d,b d=none->d≠a->D.nx Y (upd (upd b a (exM a C d)) d (.xd [(f,y)]))
section
variable {o value:Expr} {f:Str} {ta tv:TE}
def ZsN(ha:PE X o ta)(hv:PE X value tv)(hs:swapsWith value (some (.Attribute o f pos')) pos.line X.env=pure false):PS X (.Assign [.Attribute o f pos'] value pos) (ZvV X.K ta tv f):=by
 intro b s Y H D I h;refine plainObj_wpAny_Assign_Attribute (thn (hv b s Y H _ I h) λu g zq=>?_) hs;obtain ⟨y,m,j,i,q⟩:=zq;refine thn (ha b g Y m _ j q) λov s2 zq=>?_;obtain ⟨x,H2,I2,rx,a,C,ex,ea,c,n,q2⟩:=zq;subst ex;obtain rfl:ov=Value.ref a:=rx;exact ZiW I2 ea c n i λd p e l k=>⟨Y,_,k,q2 d e l⟩
end
def spX(C:Addr):Sp:=λb H Q _=>∃a y,b=[.ref a,y]/\H a=some (exN a C)/\∀d,H d=none->d≠a->Q .non (upd (upd H a (exM a C d)) d (.xd [("at",y)]))
section
variable {qual:Str} {f C:Addr}
def okX{st:Stmt}{p1 p2 p3 p4:Pos}(F:Fun K x qual st f fd)(S:Df ["self","at"] ["self","at"] (Bd st))(hb:FN st=[.Assign [.Attribute (.Name "self" p1) "at" p2] (.Name "at" p3) p4])(hv1:Eg (Bd st) "self")(hv2:Eg (Bd st) "at")(hsw:∀(l:Addr) (f:Addr) (cd:Value),swapsWith (.Name "at" p3) (some (.Attribute (.Name "self" p1) "at" p2)) p4.line (envOfC qual (Bd st) l f cd)=pure false)(c:ClsX K C)(n:W.findIn K (.ref C) "at"=some none):Qw P w K mg base (CXR P w) (k+1) f fd ["self","at"] (spX C):=by
 obtain ⟨I,L,z,p,J,G,v,D,h,rfl,t,e⟩:=F.ex;refine ZtW t e S (λr H Q E q=>by obtain ⟨a,y,rfl,_⟩:=q;rfl) λA b s H r Q E B g=>?_;obtain ⟨a,y,rfl,m,u⟩:=g;rw [hb];refine ⟨_,KY (ZsN (GF (i:=0) rfl hv1) (GF (i:=1) rfl hv2) (hsw _ _ _)),?_⟩;exact ⟨y,rfl,.ref a,rfl,a,C,rfl,m,c,n,λd j o=>u d j o⟩
end
def Inv.lose(I:Inv X pins Y H2 s)(hs:∀b,H1 b=H2 b\/(H1 b=none/\((∃φ,H2 b=some (.ext φ))\/∃fs,H2 b=some (.xd fs)))):Inv X pins Y H1 s:=by
 have f:∀{b:Addr},H2 b=none->H1 b=none:=λ{b} z=>by
  rcases hs b with q | ⟨q,_⟩
  .rw [q];exact z
  .exact q
 have a:∀{b:Addr} {o:HO},H2 b=some o->(∀φ,o≠.ext φ)->(∀fs,o≠.xd fs)->H1 b=some o:=λ{b o} z k l=>by
  rcases hs b with q | ⟨_,⟨φ,q⟩ | ⟨fs,q⟩⟩
  .rw [q];exact z
  .rw [z] at q;exact aB (Be q) (k φ)
  .rw [z] at q;exact aB (Be q) (l fs)
 refine ⟨I.ok,I.os,I.bare,⟨I.base.keep,I.base.slot,λb o e n t=>f (I.base.free b o e n t),I.base.there,λb g e=>a (I.base.tups b g e) (λ_ z=>by cases z) (λ_ z=>by cases z),λb o u e=>a (I.base.frzs b o u e) (λ_ z=>by cases z) (λ_ z=>by cases z),λb v e=>?_⟩,I.loc,I.cell,f I.free,λx c e=>f (I.freeC x c e),λp j=>?_,λb o e=>?_,I.len⟩
 .obtain ⟨d,z⟩:=I.base.tbls b v e;exact ⟨d,a z (λ_ z=>by cases z) (λ_ z=>by cases z)⟩
 .obtain ⟨i,m,h⟩:=I.pin p j;exact ⟨i,f m,h⟩
 .have w:H2 b=some o:=by
   rcases hs b with q | ⟨q,_⟩
   .rw [<-q];exact e
   .rw [q] at e;cases e
  exact (I.hok b o w).stay (λ_ _ _ r=>r) (λc r=>a r (λ_ z=>by cases z) (λ_ z=>by cases z)) λc g r=>a r (λ_ z=>by cases z) (λ_ z=>by cases z)
def Room.hh(r:Room k A):Hi k A:=⟨r.dp,r.un⟩
def Hi.make(r:Hi (k+1) A)(C)(us)(kw):Hi k (A.under (.builtin "type.__call__" ⟨.ref C::us,kw⟩)):=by
 have z:=Room.make (A:=ZpP A) ⟨rfl,r.dp,r.un⟩ C us kw;exact ⟨z.dp,z.un⟩
section
variable {C fI:Addr}
def MadeX(C:Addr)(y:V)(X:Cx)(pins:List (Addr×Obj))(Y:St)(H:Hp)(s:Shared)(v:Value)(s2:Shared):Prop :=
 ∃x d t m,v=.ref x/\Inv X pins Y H s2/\s.heap.get? x=none/\s.heap.get? d=none/\d≠x/\H x=none/\H d=none/\s2.heap.get? x=some { cls:=.ref C,dict:=some d,data:=exFs t }/\s2.heap.Ns1 d m/\(∀g,RelO (([("at",y)]:List (Str×V)).lookup g) (m g))/\Un (frs X.stack) [] H H s.heap s2.heap
def Yz(q:Kc X.K C fI=true)(F:Qw X.prog X.w X.K X.mg X.base (CXR X.prog X.w) k fI fd ["self","at"] (spX C))(hr:Hi (k+1) X.A)(hb:Binds X.K fd ["self","at"] [])(I:Inv X pins Y H s)(r:RelV y u) :
  wX X (call (.ref C) [u]) (MadeX C y X pins Y H s) X.xe s:=by
 obtain ⟨Z,g,d0,tk,U⟩:=s;refine Zlu I.kIn q (λh' e a=>?_) (by rw [sizeLine_eq];simp);obtain ⟨t,he,_,_⟩:=a.there;have i:=I.hok.free a.new;have j:∀b o,Z.get? b=some o->b≠e:=λb o z q=>by rw [q,a.new] at z;cases z
 have h:∀b o,H b=some o->b≠e:=λb o z q=>by rw [q,i] at z;cases z
 have Q:Inv X pins Y (upd H e (exN e C)) ⟨h',g,d0,tk,U⟩:=by
  refine I.un ⟨λb o z n _ _=>a.keeps b o z,λb o z n _ _=>⟨o.slots,a.keeps b o z⟩,λb o z n _=>?_,λb o z _=>⟨o,a.keeps b o z⟩,λb xs z=>?_,λb o xs z=>?_,λb ps z=>⟨#[],?_⟩⟩ λb o z=>?_
  .rw [Ag (j b o z)];exact n
  .rw [Ag (h b _ z)];exact z
  .rw [Ag (h b _ z)];exact z
  .rw [Ag (h b _ z),z];simp
  .by_cases q2:b=e
   .subst q2;rw [Ax] at z;cases z;exact Zvl ⟨t,he⟩
   .rw [Ag q2] at z;exact (I.hok b o z).stay (λc ob _ r=>a.keeps c ob r) (λc r=>by rw [Ag (h c _ r)];exact r) λc xs r=>by rw [Ag (h c _ r)];exact r
 have r2:Vals [V.ref e,y] [Value.ref e,u]:=.cons rfl (.cons r .nil);have S:=hb ⟨h',g,d0,tk,U⟩ [Value.ref e,u] Q.kIn rfl
 refine GR (HQ (F.run _ X.stack _ _ ⟨[Value.ref e,u],[]⟩ [Value.ref e,u] [V.ref e,y] (λv H2=>v=.non/\∃d,upd H e (exN e C) d=none/\d≠e/\H2=upd (upd (upd H e (exN e C)) e (exM e C d)) d (.xd [("at",y)])) E0 (hr.make C [u] [])
  (Q.env0.make C [u] []) S r2 ⟨e,y,rfl,Ax,λd p D=>⟨rfl,d,p,D,rfl⟩⟩) λrr s' G=>?_)
 cases rr with
 | error ev=>
  obtain ⟨_,_,_,_,_,_,_,z⟩:=G;exact z.elim
 | ok fl=>
  cases fl with
  | ret v=>
   have M:=G;obtain ⟨v',H2',J,l,f,B,O,ev,d,p,D,eH⟩:=M;obtain ⟨hh,g',P,t',N⟩:=s';obtain rfl:N=U:=J;have L:=Q.call (d':=P) (t':=t') f B l (λb z=>aB z (by simp));subst ev;subst eH;obtain rfl:v=.none:=O;have x:H d=none:=by rw [Ag D] at p;exact p
   have e1:upd (upd (upd H e (exN e C)) e (exM e C d)) d (.xd [("at",y)]) e=some (exM e C d):=by rw [Ag (Ne.symm D)];exact Ax
   obtain ⟨t2,W⟩ : ExM e C d hh:=(L.hok e _ e1).1;obtain ⟨m,T,R⟩:=L.hok d _ Ax;refine ⟨rfl,e,d,t2,m,rfl,L.lose λb=>?_,a.new,?_,D,i,x,W,T,R,?_⟩
   rotate_right
   .refine ⟨λb o z n hb E=>?_,λb o z n hb E=>?_,λ_ _ _ n _=>n,λb o z E=>f.there b o (a.keeps b o z) E,λ_ _ z=>z,λ_ _ _ z=>z,λ_ ps z=>⟨#[],by rw [z];simp⟩⟩
    .exact f.keep b o (a.keeps b o z) (by rw [Ag (j b o z)];exact n) hb E
    .exact f.slot b o (a.keeps b o z) (by rw [Ag (j b o z)];exact n) hb E
   .by_cases q1:b=d
    .subst q1;exact .inr ⟨x,.inr ⟨_,Ax⟩⟩
    .rw [Ag q1];by_cases q2:b=e
     .subst q2;exact .inr ⟨i,.inl ⟨_,Ax⟩⟩
     .rw [Ag q2,Ag q2];exact .inl rfl
   .cases z:Z.get? d with
    | none=>rfl
    | some o=>
     have w:=f.free d o (a.keeps d o z) p (by simp);rw [Ax] at w;cases w
  | next=>exact False.elim G
  | brk=>exact False.elim G
  | cont=>exact False.elim G
end
section
def Inv.flyX(I:Inv X pins Y H s)(hex:X.ex=[])(hst:X.stack=X.env::X.outer)(hfr:X.env.frame=some X.env.locals){x:Addr}(hx:s.heap.get? x=some ox)(hd:ox.data=.fields vs)(h1:vs[1]?=some .none)(h0:vs[0]?=some a0)(hH:H x=none)(hs0:X.s₀.heap.get? x=none){E:Value->Shared->Prop}(k:∀s2,Fly X.prog X.w X.outer X.H₀ H X.s₀ s2 x ox.cls->KD s.heap s2.heap->s.heap.UpToSlots s2.heap->Q () s2):wX X (leaving X.env (.ref x)) Q E s:=by
 have f:∀env∈X.stack,∀b,env.frame=some b->b∈x::frs X.stack:=λenv l b d=>Av _ (Ku.mpr ⟨env,l,d⟩);have c:(W.hideAll s.heap (x::frs X.stack)).get? x=none:=NB _ Aw
 refine BV (Ha (Ov _ _) (wpAny_leaving_firstW (Q:=λ_ s2=>∃a,s2={ s with heap:=a }/\Heap.LeftW (W.hideAll s.heap (x::frs X.stack)) (X.env::X.outer) x ox.cls a0 s.heap a)
  (by rw [<-hst];exact I.ok.frames) (by rw [<-hst];exact W.funFrames_hide I.stack f) hfr hx (λb o q=>Gj _ q) c hd h1 h0 λa h=>⟨a,rfl,h⟩)) (λ_ s2 z=>?_) λ_ _ z=>z.1
 obtain ⟨⟨a,rfl,i,⟨_,_,m⟩,j,g⟩,n⟩:=z;refine k _ ?_ n g;refine NT I.os I.bare (I.unStack hex I.sub) I.hok I.stkFree (λb d=>(I.stack.mem d).2) (λb o e q d=>?_) I.sub (λb h1 a=>?_) ⟨i,c,m,j⟩ g hH
 .refine Io _ e λz=>?_;rcases An.mp z with z | z
  .subst z;rcases q with q | ⟨o',q⟩
   .exact q hH
   .rw [hs0] at q;cases q
  .exact d z
 .rcases An.mp (I.stkSub b h1) with e | e
  .rw [e];exact Fg I.ok.above
  .exact aB e a
end
structure ClsR(K:W.Frag)(C:Addr):Prop where
 b:W.mroIn K C (.type "BaseException")=some true
 t:W.typeIn K (.ref C)=some (.type "type")
section
variable{prog:Program} {E:Value->Shared->Prop} {env:Env}
def ZkQ{xs:Sem Value}(hh:A.handled=none)(h:wpAny (model prog w) A xs (λv s1=>∃x C d t,v=.ref x/\K.In s1.heap/\ClsR K C/\s1.heap.get? x=some { cls:=.ref C,dict:=some d,data:=exFs t }/\E (.ref x) s1) E s) :
  wpAny (model prog w) A (raiseStmt env (some xs) none) Q E s:=by
 unfold raiseStmt;refine Ac (BV h (λv s1 i=>?_) λ_ _ z=>z);obtain ⟨x,C,d,t,rfl,e,c,a,l⟩:=i;obtain ⟨j,g,n,o,p⟩:=s1;have f:W.Looks (model prog w) j (typeOf (.ref x)) (.ref C):=(W.Looks.ld a).andThen .now;have k:=Kv (M:=model prog w) e c.b;have m:=W.looks_typeIn (M:=model prog w) e c.t;refine Ac (Af (Ac (Cv ?_)));unfold excFromValue isExcClass isType loadHead;refine Ac (Ac (Ac (Jf a (Af ?_))));refine Af ?_;unfold isInstance;refine Ac (Ac (f.here (k.here ?_)));refine Af ?_;refine Ac (Ac (Jf a (Af ?_)));unfold raisedInstance;refine Ac (Ac (f.here (Ac (m.here ?_))));refine Af ?_;unfold setFlight;refine Ac (Ac (Es a rfl rfl ?_));refine Af ?_;exact wpAny_raiseNew_none hh l
end
structure MkX(P:Program)(w:World)(K:W.Frag)(mg:Str->Option Value)(base:Heap)(k:Nat)(C:Addr):Prop where
 ex:∃(fI:Addr) (fd:FuncData),Kc K C fI=true/\Qw P w K mg base (CXR P w) k fI fd ["self","at"] (spX C)/\Binds K fd ["self","at"] []
 kp:W.keepIn K (.ref C)=true
 c:ClsR K C
def YF(E:XK)(C:Addr)(te:TA):TS:=λ_ Y H=>te Y H λb a=>∃n:Nat,b=[.int n]/\E (.ref C) (some (2*n:Nat)) a
section
variable {qual:Str} {scope:Scope} {f:Addr} {cd:Value} {outer:List Env} {s₀:Shared} {H₀:Hp}
def Zm8(M:MkX P w K mg base k C)(hr:Room l (cxOf (CXR P w) P w K mg base N qual scope f cd A outer s₀ H₀ E).A)(hl:k+1<=l)(hg:Gl (cxOf (CXR P w) P w K mg base N qual scope f cd A outer s₀ H₀ E) x)(hm:mg x=some (.ref C))(ha:PA (cxOf (CXR P w) P w K mg base N qual scope f cd A outer s₀ H₀ E) (e::es) t)(hd:ND x:=by decide)(he:starEach (e::es) (cxOf (CXR P w) P w K mg base N qual scope f cd A outer s₀ H₀ E).env=(false,eval e (cxOf (CXR P w) P w K mg base N qual scope f cd A outer s₀ H₀ E).env)::starEach es (cxOf (CXR P w) P w K mg base N qual scope f cd A outer s₀ H₀ E).env:=by rfl)(hpl:(backTo cpos (starEach es (cxOf (CXR P w) P w K mg base N qual scope f cd A outer s₀ H₀ E).env)).any (·.1)=false:=by rfl) :
  PS (cxOf (CXR P w) P w K mg base N qual scope f cd A outer s₀ H₀ E) (.Raise (some (.Call (.Name x np) (e::es) [] cpos)) none pos) (YF E C t):=by
 intro a s Y H D I h;obtain ⟨fI,fd,q,F,hb⟩:=M.ex;rw [arm_exec_Raise];refine Ac (Gi ?_);refine ZkQ (K:=K) (I.ok.hd rfl) (Ac ?_);refine HX (Hz I hg hm ?_ hd);refine Jj I.ok.mod.kin M.kp (thn (ha cpos a s Y H _ I h) λus O zq=>?_) he hpl;obtain ⟨vs,W,j,r,n,U,Z⟩:=zq;refine ⟨j.kIn,?_⟩;subst U;obtain ⟨u,ru,rfl⟩ : ∃u,RelV (.int n) u/\us=[u]:=by
  cases r with
  | cons r1 r2=>cases r2;exact ⟨_,r1,rfl⟩
 refine thn (Yz q F ((hr.mono hl).hh) hb j ru) λv s2 z=>Ac (Gi (Af ?_));obtain ⟨i,d,tt,m,rfl,J,Q,nd,p,Hx,S,g,ns,rl,_⟩:=z;have L:∀b,O.heap.get? b=none->s₀.heap.get? b=none:=λb z=>by
  cases q:s₀.heap.get? b with
  | none=>rfl
  | some o=>
   obtain ⟨o',w⟩:=j.base.there b o q (λz=>nomatch z);rw [z] at w;cases w
 refine ⟨i,C,d,tt,rfl,J.kIn,M.c,g,?_⟩;refine J.flyX rfl rfl rfl g rfl rfl rfl Hx (L i Q) λs3 F V sm=>⟨i,.ref C,some (2*n:Nat),W,rfl,F,?_,Z⟩;refine ⟨(λz=>by cases z),λn' X=>?_⟩;cases X;obtain ⟨B,a0,R,_⟩:=F.ex;obtain ⟨T,G,_⟩:=R.there;have y:=V.at g G;exact ⟨T,d,m,G,y.d,U5 sm ns,by rw [show 2*n/2=n by omega];exact rl,S,L d nd,p,λ_=>y.f _ rfl⟩
end
def Zhi:entryFor table "proto.unchain"=some Builtin.«proto.unchain»:=entryFor_of_fast (by kernel_rfl)
section
variable{prog:Program} {E:Value->Shared->Prop} {env:Env}
def Zi1{x:Addr}(hh:A.handled=some (.ref a))(ne:x≠a)(ha:s.heap.get? a=some oa)(hda:oa.data=.fields va)(h2:va[2]?=some .none)(hx:s.heap.get? x=some ox)(hdx:ox.data=.fields vx)(sz:2<vx.size)(hE:E (.ref x) { s with heap:=s.heap.update x (Obj.mapFields (·.setIfInBounds 2 (.ref a))) }):wpAny (model prog w) A (raiseNew (.ref x):Sem Flow) Q E s:=by
 unfold raiseNew;refine Ac (wpAny_handled ?_);rw [hh];dsimp only;rw [iP (by simp [Ne.symm ne])];refine Ac (Cv (wpAny_runValue ?_));refine JV Zhi ?_;unfold Builtin.«proto.unchain»;refine Ac (Es ha hda h2 ?_);rw [iP (show (Value.none==Value.none)=true from rfl)];refine Af ?_;unfold updateField;refine Ac (Ac (wpAny_load hx ?_));rw [hdx];dsimp only;rw [iP sz];exact wpAny_update hx (wpAny_throw hE)
abbrev exFr(t a:Addr):Data:=.fields #[.ref t,.none,.ref a,.none,.bool true,.none]
def ZiS{xs:Sem Value}(hh:A.handled=some (.ref a)) (h:wpAny (model prog w) A xs (λv s1=>∃x C d t oa va,v=.ref x/\ClsR K C/\s1.heap.get? x=some { cls:=.ref C,dict:=some d,data:=exFs t }/\x≠a/\s1.heap.get? a=some oa/\oa.data=.fields va/\va[2]?=some .none /\
   (∀h2:Heap,(∀b,b≠x->h2.get? b=s1.heap.get? b)->K.In h2)/\wpAny (model prog w) A cs (λc s2=>c=.none/\s2=s1) E s1 /\
   ∀h2:Heap,h2.get? x=some { cls:=.ref C,dict:=some d,data:=exFr t a }->(∀b,b≠x->h2.get? b=s1.heap.get? b)->E (.ref x) { s1 with heap:=h2 }) E s) :
  wpAny (model prog w) A (raiseStmt env (some xs) (some cs)) Q E s:=by
 unfold raiseStmt;refine Ac (BV h (λv s1 y=>?_) λ_ _ z=>z);obtain ⟨x,C,d,t,oa,va,rfl,c,m,r,F,q,p,u,G,B⟩:=y;refine Ac (Cv (BV G (λO s2 z=>?_) λ_ _ z=>z));obtain ⟨rfl,rfl⟩:=z;obtain ⟨i,g,L,N,P⟩:=s2;have I:W.Looks (model prog w) i (typeOf (.ref x)) (.ref C):=(W.Looks.ld m).andThen .now;have D:=Kv (M:=model prog w) (u i λ_ _=>rfl) c.b;refine Ac (Af (Ac (Cv ?_)));unfold excFromValue isExcClass isType loadHead;refine Ac (Ac (Ac (Jf m (Af ?_))));refine Af ?_;unfold isInstance;refine Ac (Ac (I.here (D.here ?_)));refine Af ?_;refine Ac (Af (Ac (Le m rfl (by show 3<6;decide) (Ac ?_))));have n:∀(o:Heap) (f:Obj->Obj) b,b≠x->(o.update x f).get? b=o.get? b:=λo f b j=>K5 _ _ (Ne.symm j);have k:(i.update x (Obj.mapFields (·.setIfInBounds 3 .none))).get? x=some { cls:=.ref C,dict:=some d,data:=exFs t }:=Ip _ m rfl;refine Le k rfl (by show 4<6;decide) ?_;have e:((i.update x (Obj.mapFields (·.setIfInBounds 3 .none))).update x (Obj.mapFields (·.setIfInBounds 4 (.bool true)))).get? x=some { cls:=.ref C,dict:=some d,data:=.fields #[.ref t,.none,.none,.none,.bool true,.none] }:=Ip _ k rfl;have l:∀b,b≠x->((i.update x (Obj.mapFields (·.setIfInBounds 3 .none))).update x (Obj.mapFields (·.setIfInBounds 4 (.bool true)))).get? b=i.get? b:=λb j=>(n _ _ b j).trans (n _ _ b j);generalize ((i.update x (Obj.mapFields (·.setIfInBounds 3 .none))).update x (Obj.mapFields (·.setIfInBounds 4 (.bool true))))=h2 at e l ⊢;have J:W.Looks (model prog w) h2 (typeOf (.ref x)) (.ref C):=(W.Looks.ld e).andThen .now;have H:=W.looks_typeIn (M:=model prog w) (u h2 l) c.t;refine Ac (Ac (Jf e (Af ?_)));unfold raisedInstance;refine Ac (Ac (J.here (Ac (H.here ?_))));refine Af ?_;unfold setFlight;refine Ac (Ac (Es e rfl rfl ?_));refine Af ?_;refine Zi1 hh r ((l a (Ne.symm r)).trans F) q p e rfl (by show 2<6;decide) ?_;exact B _ (Ip _ e rfl) λb j=>(n _ _ b j).trans (l b j)
end
section
variable{M:Model} {E:Value->Shared->Prop} {B:Heap} {env:Env} {l:List Env} {e:Addr} {cls a0 fl:Value}
def Zi8(hkb:B.StaysIn s.heap)(hl:s.heap.FunFrames B l)(ht:s.heap.TracedAtW B e cls a0 fl)(h:∀h' fl',B.StaysIn h'->h'.FunFrames B l->h'.TracedAtW B e cls a0 fl'->(∀b o,s.heap.get? b=some o->(∀vs,o.data≠.fields vs)->h'.get? b=some o)->KD s.heap h'->E' (.ref e) { s with heap:=h' }) :
  cameBackBy M A env E' (.ref e) s:=by
 obtain ⟨y,vs,T,z,x,r,j,u,p,k,m,t,g,w⟩:=ht;have v:=(Hk.mp w).1;have a:∀b,b≠T->(s.heap.update T (Obj.mapFields (·.setIfInBounds 3 (env.frame.elim Value.none λf=>rawInt f)))).get? b=s.heap.get? b:=λb d=>K5 _ _ (Ne.symm d);have n:∀b o,s.heap.get? b=some o->(∀vs,o.data≠.fields vs)->b≠T:=λb o d c q=>by
  rw [q,t] at d;cases d;exact c x g
 unfold cameBackBy;refine Ac (Es r u p ?_);rw [iN (by simp)];unfold setFlight;refine Ac (Es r u p ?_);rw [iP (by simp)];refine Le t g v ?_;refine h _ (env.frame.elim Value.none λf=>rawInt f) (λb o i=>(a b λq=>by rw [q,k] at i;cases i).trans (hkb b o i)) (hl.of_keeps λb o d c=>⟨o,(a b (n b o d c)).trans d,rfl⟩) ?_ (λb o d c=>(a b (n b o d c)).trans d) (KD.update _ _ (VN (by decide) _));exact ⟨y,vs,T,_,_,(a e (Ne.symm m)).trans r,j,u,p,k,m,Ip _ t (Obj.isFreed_of_fields (O9 g _)),O9 g _,by simp [v]⟩
end
section
def Inv.flyH(I:Inv X pins Y H s)(hex:X.ex=[])(hst:X.stack=X.env::X.outer)(hfr:X.env.frame=some X.env.locals){Am:Around}(hm:Am.frames=X.A.frames){x:Addr}{ox:Obj}{vs:Array Value}{a0:Value}(hx:s.heap.get? x=some ox)(hd:ox.data=.fields vs)(h1:vs[1]?=some .none)(h0:vs[0]?=some a0)(hH:H x=none)(hs0:X.s₀.heap.get? x=none){Q:Value->Shared->Prop}{E1 E2:Value->Shared->Prop}(k:∀s2,Fly X.prog X.w X.outer X.H₀ H X.s₀ s2 x ox.cls->KD s.heap s2.heap->s.heap.UpToSlots s2.heap->Q (.ref x) s2) :
  wpAny (model X.prog X.w) Am (noteFrame (.ref x) X.env) (λ_ s7=>cameBackBy (model X.prog X.w) X.A X.env (λe s'=>wX X (leaving X.env e) (λ_ s''=>Q e s'') E2 s') (.ref x) s7) E1 s:=by
 have l:∀env∈X.stack,∀b,env.frame=some b->b∈x::frs X.stack:=λenv K b d=>Av _ (Ku.mpr ⟨env,K,d⟩);have c:(W.hideAll s.heap (x::frs X.stack)).get? x=none:=NB _ Aw;have O:=(Hk.mp h1).1;have v:s.heap.FunFrames (W.hideAll s.heap (x::frs X.stack)) (X.env::X.outer):=by rw [<-hst];exact W.funFrames_hide I.stack l
 have first:wpAny (model X.prog X.w) Am (noteFrame (.ref x) X.env) (λ_ s2=>∃a,s2={ s with heap:=a }/\Heap.NotedW (W.hideAll s.heap (x::frs X.stack)) (X.env::X.outer) x ox.cls a0 (rawInt X.env.locals) s.heap a) E1 s:=by
  unfold noteFrame;simp only [hfr];refine Ac (Es hx hd h1 ?_);rw [iN (by decide)];exact wpAny_entryW (by rw [hm,<-hst];exact I.ok.frames) v hfr hx (λb o q=>Gj _ q) c hd O h0 λa D=>⟨a,rfl,D⟩
 refine BV (Ha (QZ _ _) first) (λ_ s2 z=>?_) λ_ _ z=>z.1
 obtain ⟨⟨a,rfl,F,u,J,M⟩,B⟩:=z;refine Zi8 F u J λP r C G E p i=>?_;refine Vy (by rw [<-hst];exact I.ok.frames) hfr C c G E λy h m f=>?_;have n:s.heap.UpToSlots y:=λb o e j=>by
  obtain ⟨R,N⟩:=M b o e j;have t:=p b _ N j;obtain ⟨g,L⟩:=m b _ t j;exact ⟨g,L⟩
 refine k _ ?_ ((B.trans i).trans f) n;refine NT (s':=s) I.os I.bare (I.unStack hex I.sub) I.hok I.stkFree (λb d=>(I.stack.mem d).2) (λb o e q d=>?_) I.sub (λb h1 a=>?_) h n hH
 .refine Io _ e λz=>?_;rcases An.mp z with z | z
  .subst z;rcases q with q | ⟨o',q⟩
   .exact q hH
   .rw [hs0] at q;cases q
  .exact d z
 .rcases An.mp (I.stkSub b h1) with e | e
  .rw [e];exact Fg I.ok.above
  .exact aB e a
end
end L2
namespace L2.Ds
open PySem.Calls Dl
abbrev TBr:=St->Hp->VK->XK->Prop
def PBr(X:Cx)(body:List Stmt)(t:TBr):Prop :=
 ∀b s Y H R i,Inv X b Y H s->t Y H R i->wX X (execs body X.env) (λf d=>∃u v h,f=.ret u/\RelV v u/\Inv X b Y h d/\R v h)
  (λk d=>∃e j a c p g,k=.ref a/\Inv X b Y j e/\Fly X.prog X.w X.stack j g e d a c/\HW p a g e.heap d.heap/\i c p g) s
def Xf(K:W.Frag)(mg:Str->Option Value)(tab:List (Str×(List D->Res D)))(n i:Nat)(t:TA):TBr:=λY H R b=>∃g m a,(g,m)∈tab/\mg g=some (.ref a)/\Y[i]?=some (some (.ref a))/\t Y H λd c=>spD K mg n m d c R b
section
variable {l:Nat} {y:Str} {tab:List (Str×(List D->Res D))} {t:TA} {p rpos:Pos}
def Zk9(hi:X.N[i]?=some y)(hv:Eg X.env.scope y)(T:∀q∈tab,Cal X.prog X.w X.K X.mg X.base k q.1 ps q.2)(hps:ps.length=n)(hr:Room l X.A)(hn:k<=l)(ha:PA X.nox (e::es) t)(hd:ND y)(hcd:NE y)(he:starEach (e::es) X.env=(false,eval e X.env)::starEach es X.env)(hpl:(backTo cpos (starEach es X.env)).any (·.1)=false) :
  PBr X [.Return (some (.Call (.Name y p) (e::es) [] cpos)) rpos] (Xf X.K X.mg tab n i t):=by
 intro c s Y H R XE I h;obtain ⟨g,m,fa,hg,O,B,h⟩:=h;obtain ⟨f,fd,F,b,kp,Z⟩:=(T (g,m) hg).ex;rw [show X.mg g=some (.ref f) from Z] at O;cases O;refine Nu (wpAny_Return_some ?_);refine HX ?_;refine BV (GF (X:=X.nox) hi hv hd hcd c s Y H (λv E=>v=.ref fa/\E=H) (I.wish _) ⟨_,B,rfl,rfl⟩) (λuv U zq=>?_) λ_ _ z=>z.elim;obtain ⟨v,E,G,r,L,J⟩:=zq;subst L J;cases (r);have P:=G.unwish;refine Jj P.ok.mod.kin kp (BV (ha cpos c U Y E _ (P.wish _) h) (λx D zq=>?_) λ_ _ z=>z.elim) he hpl;obtain ⟨vs,Q,d,M,q⟩:=zq;refine ⟨d.unwish.kIn,?_⟩;have u:=d.unwish;subst hps;have hl:(x++[]).length=ps.length:=by rw [Cq,<-M.length];exact F.len _ _ _ _ q
 have j:=b D x u.kIn hl;rw [Cq] at j;refine GR (HQ (F.run X.A X.stack D Q ⟨x,[]⟩ x vs _ _ (hr.mono hn) u.env0 j M q) λrr s' o=>?_);cases rr with
 | ok fl=>
  cases fl with
  | ret v=>
   obtain ⟨v',H3,V,rv,q3⟩:=u.after o;exact ⟨v,v',H3,rfl,rv,V,q3⟩
  | next=>exact False.elim o
  | brk=>exact False.elim o
  | cont=>exact False.elim o
 | error ev=>
  obtain ⟨a,C,p,H',rfl,Fl,W,S⟩:=o;exact ⟨D,Q,a,C,p,H',rfl,u,Fl,W,S⟩
end
def X8(tb:TBr)(hit:Value->Prop)(t:Addr->TA)(E:XK)(C:Addr):TS:=λD Y H=>tb Y H (λv c=>D.rt v c) λb p c=>hit b/\(p=none\/∃n:Nat,p=some n/\n%2=0) /\
 ∀a,t a Y c λe d=>∃n:Nat,e=[.int n]/\E (.ref C) (some (2*n+1:Nat)) d
section
variable {l:Nat} {y:Str} {C Cy:Addr} {tb:TBr} {t:Addr->TA} {body:List Stmt} {np yp cp rpos hpos:Pos} {ck:Nat}
def Zo2(bx:Gf X E)(hB:PBr X body tb)(hgy:Gl X y)(hmy:X.mg y=some (.ref Cy))(M:MkX X.prog X.w X.K X.mg X.base k C)(hr:Room l X.A)(hl:k+1<=l)(hgx:Gl X x)(hmx:X.mg x=some (.ref C))
  (ha:∀a,PA (X.inX a) (e::es) (t a)) (hdx:ND x) (hdy:ND y)
  (he:starEach (e::es) X.env=(false,eval e X.env)::starEach es X.env) (hpl:(backTo cpos (starEach es X.env)).any (·.1)=false) :
  PS X (.Try body [.ExceptHandler (some (.Name y yp)) none [.Raise (some (.Call (.Name x np) (e::es) [] cpos)) (some (.Constant .none ck cp)) rpos] hpos] [] [] pos) (X8 tb (λcls=>W.exmOne X.K cls (.ref Cy)=some true) t E C):=by
 intro j s Y H D I h;have g:=bx.hst;have P:=bx.hfr;refine wpAny_Try_except (BV (hB j s Y H _ _ I h) (λf s' z=>?_) λev s' z=>?_)
 .obtain ⟨u,v,H2,rfl,rv,I2,q⟩:=z;exact ⟨v,Y,H2,I2,rv,q⟩
 .obtain ⟨s1,H1,a,cls,p,H',rfl,I1,Fl,py,hit,G,kk⟩:=z;obtain ⟨B,a0,fl,cov⟩:=Fl.ex;have fl':Heap.FlyingW B (X.env::X.outer) a cls a0 s'.heap:=g▸fl;refine ZV (by rw [I.ok.frames,g]) P fl' λh1 held sm1 kd1=>?_;refine Vk held λh2 O U kd2=>?_;have F2:=Fl.moved fl cov (g.symm▸O) (sm1.trans U);have I2:=I1.landed F2;refine wpAny_handleBy_cons (codeAny_handlers_test ?_) (by intro q;cases q);refine Hz (X:=X.inX a) (I2.inX a) hgy hmy ?_ hdy;have LT:W.Looks (model X.prog X.w) h2 (typeOf (.ref a)) cls:=ExcAt.ty (show ExcAt a cls h2 from O.there);refine (W.exm_one (show X.K.In h2 from I2.kIn) LT hit).here ?_;refine codeAny_handlers_suite ?_;refine Zqb O λh3 V sm3 kd3=>?_;have F3:=Fl.moved fl cov (g.symm▸V) ((sm1.trans U).trans sm3);have I3:=I1.landed F3;have py3:=py.on (h1:=s1.heap) ((kd1.trans kd2).trans kd3) ((sm1.trans U).trans sm3) (let ⟨o,e,_⟩:=V.there;⟨o,e⟩) λ_ o e=>⟨o,e⟩;obtain ⟨L,va,ga,i,J⟩ : CtxN a h3:=by
   rcases G with G | ⟨n0,rfl,G⟩
   .exact py3.1 G
   .obtain ⟨L,d0,m0,ga,_,_,_,_,_,_,ctx⟩:=py3.2 n0 rfl;obtain ⟨va,i,J⟩:=ctx G;exact ⟨L,va,ga,i,J⟩
  obtain ⟨fI,fd,q,F,hb⟩:=M.ex;refine Nu ?_;rw [arm_exec_Raise];refine Ac (Gi ?_);show wpAny _ _ (raiseStmt _ (some (do let v <-eval (.Call (.Name x np) (e::es) [] cpos) _;standAt rpos;pure v)) (some (do let v <-eval (.Constant .none ck cp) _;standAt rpos;pure v))) _ _ _
  have nfa:a∉frs X.stack:=λz=>by
   obtain ⟨_,o',z1,z2⟩:=V.2.2.1.mem (g▸z);have z1:h3.get? a=some o':=z1;rw [show h3.get? a=some L from ga] at z1;cases z1;exact z2 _ i
  have I3p:Inv X ((a,L)::j) Y H' { s' with heap:=h3 }:=by
   refine I3.pins_of λp hp=>?_;rcases An.mp hp with rfl | hp
   .refine ⟨ga,F3.free,λz=>?_,λz=>nfa (I3.sub a z),λv z=>by rw [i] at z;cases z⟩;refine nfa ?_;rw [g];unfold frs;rw [Mj,P];exact z▸Aw
   .exact I3.pin p (CK _ hp)
  refine ZiS (K:=X.K) (a:=a) rfl (Ac ?_);refine HX (Hz (X:=X.inX a) (I3p.inX a) hgx hmx ?_ hdx);refine Jj (h₀:=X.base) I3.ok.mod.kin M.kp (BV (ha a cpos _ _ Y H' _ (I3p.inX a) (kk a)) (λus s4 zq=>?_) λ_ _ z=>z.elim) he hpl;obtain ⟨vs,H4,I4,r4,n,ev4,qE⟩:=zq;refine ⟨I4.kIn,?_⟩;subst ev4;obtain ⟨u,ru,rfl⟩ : ∃u,RelV (.int n) u/\us=[u]:=by
   cases r4 with
   | cons r1 r2=>cases r2;exact ⟨_,r1,rfl⟩
  refine BV (Yz (X:=X.inX a) (y:=.int n) q F ((hr.mono hl).h _) hb I4 ru) (λv s5 z=>Ac (Gi (Af ?_))) λ_ _ z=>z.elim;obtain ⟨N,d,tt,m,rfl,I5,nx,nd,dne,Hx,Hd,ox,ns,rl,T⟩:=z;have pa4:=(I4.pin (a,L) (by simp)).1;have pa5:=(I5.pin (a,L) (by simp)).1;have nxa:N≠a:=λz=>by rw [z] at nx;rw [nx] at pa4;cases pa4
  have s0:∀b,s4.heap.get? b=none->X.s₀.heap.get? b=none:=λb z=>by
   cases q:X.s₀.heap.get? b with
   | none=>rfl
   | some o=>
    obtain ⟨o',w⟩:=I4.base.there b o q (by show b∉X.ex;rw [bx.hex];exact λz=>nomatch z);rw [z] at w;cases w
  refine ⟨N,C,d,tt,L,va,rfl,M.c,ox,nxa,pa5,i,J,λh6 Z b o e=>?_,?_,λh6 hx6 Z=>?_⟩
  .have hb4:s4.heap.get? b=some o:=I4.kIn b o e;exact (Z b λz=>by rw [z,nx] at hb4;cases hb4).trans (I5.kIn b o e)
  .exact Ac (wpAny_Constant_none (Ac (Gi (Af ⟨rfl,rfl⟩))))
  .have R:∀b o,s4.heap.get? b=some o->b≠N:=λb o z q=>by rw [q,nx] at z;cases z
   have trk:∀b o,H4 b=some o->b≠N:=λb o z q=>by rw [q,Hx] at z;cases z
   have un6:Un (frs X.stack) [] H4 H4 s4.heap h6:=⟨λb o z n hb hx=>(Z b (R b o z)).trans (T.keep b o z n hb hx),λb o z n hb hx=>(T.slot b o z n hb hx).imp λ_ w=>(Z b (R b o z)).trans w,λ_ _ _ n _=>n,
    λb o z hx=>(T.there b o z hx).imp λ_ w=>(Z b (R b o z)).trans w,λ_ _ z=>z,λ_ _ _ z=>z,λ_ ps z=>⟨#[],by rw [z];simp⟩⟩
   have hok6:HOk X.prog X.w H4 h6:=λb o z=>(I5.hok b o z).stay (λc ob hc r=>(Z c (by
    rcases hc with rfl | hc
    .exact trk _ _ z
    .exact trk _ _ hc)).trans r) (λ_ r=>r) λ_ _ r=>r
   have S:s5.os=s4.os:=I5.os.trans I4.os.symm;have I6:Inv X ((a,L)::j) Y H4 { s5 with heap:=h6 }:=by
    have z:=(I4.outX I.ok).call (h':=h6) (g':=s5.gens) (d':=s5.drawn) (t':=s5.toks) (ch:=[]) un6 hok6 I5.bare (λb z=>aB z (by simp));obtain ⟨hp5,g5,d5,t5,o5⟩:=s5;have S:o5=s4.os:=S;subst S;exact z
   show wpAny _ _ (noteFrame (.ref N) X.env) (λ_ s7=>cameBackBy _ X.A X.env X.xe (.ref N) s7) _ _;rw [bx.hxe];refine I6.flyH (Q:=λe s''=>CXR X.prog X.w X.outer X.H₀ X.s₀ E e s'') bx.hex g P (Am:=X.A.mark (some (.ref a))) rfl hx6 rfl rfl rfl Hx (s0 N nx) λs7 F7 kd sm=>⟨N,.ref C,some (2*n+1:Nat),H4,rfl,F7,?_,qE⟩;refine ⟨(λz=>by cases z),λn' en=>?_⟩;cases en;obtain ⟨B7,a7,fl7,_⟩:=F7.ex;obtain ⟨o7,g7,_⟩:=fl7.there;have ns6:h6.Ns1 d m:=by
    obtain ⟨od,esd,epd,hod,rd⟩:=ns;exact ⟨od,esd,epd,(Z d dne).trans hod,rd⟩
   exact ⟨o7,d,m,g7,(kd.at hx6 g7).d,U5 sm ns6,by rw [show (2*n+1)/2=n by omega];exact rl,Hd,s0 d nd,dne,λz=>aB z (by omega)⟩
end
end L2.Ds
namespace Dl
def natD:List D->Res Nat
 | [.int n]=>if 0<=n then .ok n.toNat else .bad
 | _=>.bad
def rsP(c:Str)(a:MA):MS:=λZ=>(a Z).bind λb=>(natD b).bind λn=>.ex (tagX (2*n) c)
def JT(c:Str):Bool:=match pay c with
 | some n=>(n)%2==0
 | none=>true
def Mv(tab:List (Str×(List D->Res D)))(i:Nat)(ma:MA)(hits:List Str)(c:Str)(me:MA):MS:=λZ=>match Z[i]? with
 | some (.im (.cls g))=>match tab.lookup g with
  | some m=>(noEx (ma Z)).bind λb=>match m b with
   | .ok d=>.ok (.rt d)
   | .ex x=>if (hits.contains (clsOf x)&&JT x)=true then (noEx (me Z)).bind λa=>(natD a).bind λn=>.ex (tagX (2*n+1) c) else .bad
   | .bad=>.bad
  | none=>.bad
 | _=>.bad
def dAt:D->Res D
 | .exc c=>match pay c with
  | some n=>.ok (.int (((show Nat from n)/2:Nat):Int))
  | none=>.bad
 | _=>.bad
end Dl
namespace L2.Ds
open PySem.Calls Dl
def YS(h:natD ds=.ok n):ds=[.int n]:=by
 unfold natD at h;split at h
 .next k=>
  split at h
  .next a=>cases h;rw [Int.toNat_of_nonneg a]
  .cases h
 .cases h
def Yk{c:Str}:natD ds≠.ex c:=by
 unfold natD;split
 .split<;>intro h<;>cases h
 .intro h;cases h
section
variable {qual:Str} {scope:Scope} {f:Addr} {cd:Value} {outer:List Env} {s₀:Shared} {H₀:Hp} {t:TA} {m:MA}
def Ht(M:MkX P w K mg base k C)(hr:Room l (cxOf (CXR P w) P w K mg base N qual scope f cd A outer s₀ H₀ E).A)(hl:k+1<=l)(hg:Gl (cxOf (CXR P w) P w K mg base N qual scope f cd A outer s₀ H₀ E) x)(hm:mg x=some (.ref C))(ha:DA (cxOf (CXR P w) P w K mg base N qual scope f cd A outer s₀ H₀ E) E n (e::es) t m)(hd:ND x:=by decide)(he:starEach (e::es) (cxOf (CXR P w) P w K mg base N qual scope f cd A outer s₀ H₀ E).env=(false,eval e (cxOf (CXR P w) P w K mg base N qual scope f cd A outer s₀ H₀ E).env)::starEach es (cxOf (CXR P w) P w K mg base N qual scope f cd A outer s₀ H₀ E).env:=by rfl)(hpl:(backTo cpos (starEach es (cxOf (CXR P w) P w K mg base N qual scope f cd A outer s₀ H₀ E).env)).any (·.1)=false:=by rfl) :
  DS (cxOf (CXR P w) P w K mg base N qual scope f cd A outer s₀ H₀ E) E (.Raise (some (.Call (.Name x np) (e::es) [] cpos)) none pos) (YF E C t) (rsP x m):=by
 refine ⟨Zm8 M hr hl hg hm ha.p hd he hpl,?_⟩;intro d i F H Y Z b;have h:=ha.s d i F H Y Z b;unfold rsP;cases em:m Z with
 | bad=>trivial
 | ex c=>
  rw [em] at h;exact λD q=>h _ λj a C g=>q j a C (b.g.trans g)
 | ok ds=>
  rw [em] at h;show AnsS K mg E d i F ((natD ds).bind λn=>.ex (tagX (2*n) x)) _;cases en:natD ds with
  | bad=>trivial
  | ex c=>exact aB en Yk
  | ok k=>
   have:=YS en;subst this;show ∀D,(∀j a o,Gr d i j a->mg (clsOf (tagX (2*k) x))=some (.ref o)->E (.ref o) (pay (tagX (2*k) x)) a)->_;rw [Nj,R6];refine λD q=>h _ λv B G z u=>⟨k,?_,q v B C (b.g.trans z) hm⟩;obtain ⟨y,rfl,r⟩:=u.one;cases r;rfl
end
def mem_lookup:∀{tab:List (Str×α)},tab.lookup g=some m->(g,m)∈tab
 | [],h=>by cases h
 | (a,b)::r,h=>by
  rw [Gu] at h;cases q:g==a with
  | true=>
   rw [q] at h;cases h;rw [Dc.mp q];exact Aw
  | false=>
   rw [q] at h;exact Av _ (mem_lookup h)
section
variable {j2 k2 l:Nat} {y gn:Str} {C Cy:Addr} {tab:List (Str×(List D->Res D))} {t:TA} {t2:Addr->TA} {ma me:MA} {hits:List Str} {e2:Expr} {es2:List Expr} {p np yp cpos2 cp rpos rpos2 hpos:Pos} {ck:Nat}
def ZoL(bx:Gf X E)(hi:X.N[i]?=some gn)(hv:Eg X.env.scope gn)(T:∀q∈tab,Cal X.prog X.w X.K X.mg X.base k q.1 ps q.2)(hr:Room l X.A)(hn:k<=l)(ha:DA X.nox E0 j (e::es) t ma)(hgy:Gl X y)(hmy:X.mg y=some (.ref Cy))(hh:∀c∈hits,∃D,X.mg c=some (.ref D)/\W.exmOne X.K (.ref D) (.ref Cy)=some true)(M:MkX X.prog X.w X.K X.mg X.base k2 C)(hl:k2+1<=l)(hgx:Gl X x)(hmx:X.mg x=some (.ref C))(hb:∀a,DA (X.inX a) E0 j2 (e2::es2) (t2 a) me)(hps:ps.length=j:=by rfl)(hd:ND gn:=by decide)(hcd:NE gn:=by decide)(hdx:ND x:=by decide)(hdy:ND y:=by decide)(he:starEach (e::es) X.env=(false,eval e X.env)::starEach es X.env:=by rfl)(hpl:(backTo cpos (starEach es X.env)).any (·.1)=false:=by rfl)(he2:starEach (e2::es2) X.env=(false,eval e2 X.env)::starEach es2 X.env:=by rfl)(hpl2:(backTo cpos2 (starEach es2 X.env)).any (·.1)=false:=by rfl) :
  DS X E (.Try [.Return (some (.Call (.Name gn p) (e::es) [] cpos)) rpos] [.ExceptHandler (some (.Name y yp)) none [.Raise (some (.Call (.Name x np) (e2::es2) [] cpos2)) (some (.Constant .none ck cp)) rpos2] hpos] [] [] pos)
   (X8 (Xf X.K X.mg tab j i t) (λcls=>W.exmOne X.K cls (.ref Cy)=some true) t2 E C) (Mv tab i ma hits x me):=by
 refine ⟨Zo2 bx (Zk9 hi hv T hps hr hn ha.p hd hcd he hpl) hgy hmy M hr hl hgx hmx (λa=>(hb a).p) hdx hdy he2 hpl2,?_⟩;intro f o F H Y Z J;unfold Mv;split
 .next g hg=>
  split
  .next m hm=>
   obtain ⟨v,G,rv⟩:=J.im i _ hg;cases rv with
   | cls hfa=>
    have h:=ha.s f o F H Y Z J;cases em:ma Z with
    | bad=>trivial
    | ex c=>trivial
    | ok ds=>
     rw [em] at h;show AnsS X.K X.mg E f o F (match m ds with | .ok d=>.ok (.rt d) | .ex x_1=>_ | .bad=>.bad) _
     cases ef:m ds with
     | bad=>trivial
     | ok d=>
      exact λD q=>⟨g,m,_,mem_lookup hm,hfa,G,h _ λQ H1 vs L I=>⟨by rw [I.length];exact ha.n Z ds em,Q,ds,L.s,I,(by rw [ef];intro z;cases z),(λd' z B u w g' b=>by rw [ef] at z;cases z;exact q B u w (J.g.trans (L.trans g')) b),λc z=>by rw [ef] at z;cases z⟩⟩
     | ex c0=>
      show AnsS X.K X.mg E f o F (if (hits.contains (clsOf c0)&&JT c0)=true then (noEx (me Z)).bind λes=>(natD es).bind λn=>.ex (tagX (2*n+1) x) else .bad) _
      by_cases hc:(hits.contains (clsOf c0)&&JT c0)=true
      .rw [iP hc];obtain ⟨R,r⟩:=Bool.and_eq_true_iff.mp hc;have S:=λ(a:Addr) B u (r':Rep X.K X.mg f o B u Y Z)=>(hb a).s f o B u Y Z r';cases ee:me Z with
       | bad=>trivial
       | ex c=>trivial
       | ok ds2=>
        rw [ee] at S;show AnsS X.K X.mg E f o F ((natD ds2).bind λn=>.ex (tagX (2*n+1) x)) _;cases en:natD ds2 with
        | bad=>trivial
        | ex c=>exact aB en Yk
        | ok n=>
         have:=YS en;subst this;show ∀D,(∀B u U,Gr f o B u->X.mg (clsOf (tagX (2*n+1) x))=some (.ref U)->E (.ref U) (pay (tagX (2*n+1) x)) u)->_;rw [Nj,R6];refine λD q=>⟨g,m,_,mem_lookup hm,hfa,G,h _ λQ H1 vs L I=>⟨by rw [I.length];exact ha.n Z ds em,Q,ds,L.s,I,(by rw [ef];intro z;cases z),(λd' z=>by rw [ef] at z;cases z),λc' z F2 H2 C1 g2 hC=>?_⟩⟩;rw [ef] at z;cases z;have gg:=L.trans g2;refine ⟨?_,?_,λa=>S a F2 H2 (J.gr gg) _ λF3 H3 ws g3 O=>⟨n,?_,q F3 H3 C (J.g.trans (gg.trans g3)) hmx⟩⟩
         .obtain ⟨D',V,q1⟩:=hh (clsOf c0) (by simpa using R);rw [hC] at V;cases V;exact q1
         .unfold JT at r;split at r
          .next n0 P=>exact .inr ⟨n0,P,Dc.mp r⟩
          .next P=>exact .inl P
         .obtain ⟨w,rfl,b⟩:=O.one;cases b;rfl
      .rw [iN hc];trivial
  .trivial
 .trivial
end
end L2.Ds
namespace L2
open PySem.Calls
section
open PySem.Builtin PySem.Builtin.ObjectAttr PySem.W
variable{prog:Program} {E:Value->Shared->Prop} {x C d:Addr} {name:Str} {v:Value} {mA:Str->Option Value}
def Zsd(XI:K.In s.heap)(I:Rg x (.ref C) d s.heap)(hn:s.heap.Ns1 d mA)(c:HJ K C)(ha:W.findIn K (.ref C) name=some none)(hv:mA name=some v)(hv':W.handedIn v=true)(hQ:Q v { s with toks:=s.toks+1 }) :
  wpAny (model prog w) A (getAttr (.ref x) name expr) Q E s:=by
 obtain ⟨r,z,y,B,G⟩:=s;obtain ⟨f,e,t,o,D,k⟩:=I;obtain ⟨l,h,u⟩:=ZK hn;have J:W.InstAt r x f C (some l):=⟨e,t,by unfold notCls;rw [k],by rw [o];exact h⟩;have a:=J.type (M:=model prog w);have p:=Ig (M:=model prog w) XI c.g;have j:=W.looks_find (M:=model prog w) XI J (W.findObj_own c.d ha rfl (by rw [u,hv]));have m:=Ig (M:=model prog w) XI c.n;have i:=Kv (M:=model prog w) XI c.b;have q:=(F.excAttr_ValueError.ga).bind (.ref x);unfold getAttr getAttrBy;refine Ac (wpAny_mkText (Cv (Ac (a.at (Ac (p.at ?_))))));unfold getAttrByItsOwn hookBefore callGetattribute boundAndCalled;rw [iP (show onTheHeap (Value.ref C)=true from rfl)];refine Ac (m.at (Ac (wpAny_attempt (Cv ?_))));rw [iN (by cases expr<;>exact Cj),q];refine Ac (Af (GR ?_));refine Kh F.excAttr_ValueError.ga.plain F.entry_bexc_ga (XS a i ?_);unfold Builtin.«object.__getattribute__»;refine Ac (Af (Ac (Af (Ac (a.at (Ac (j.at ?_)))))));refine Af ?_;show wpAny (model prog w) A (handedOut v) Q E _;rw [W.handedOut_of hv'];exact Af hQ
end
def tAt(K:W.Frag)(ta:TE)(f:Str):TE:=λY H Q=>ta Y H λx b=>∃a C d v,x=.ref a/\b a=some (exC a (.ref C) d)/\b d=some (.xd [(f,v)])/\HJ K C/\W.findIn K (.ref C) f=some none/\Q v b
section
variable {f:Str} {ta:TE}
def Zwy(he:PE X e ta)(hb:attributeBase e f X.env (eval e X.env)=eval e X.env):PE X (.Attribute e f pos) (tAt X.K ta f):=by
 intro b s Y H Q I h;refine Zk7 hb (thn (he b s Y H _ I h) λu s1 zq=>?_);obtain ⟨x,H1,I1,rx,a,C,d,v,ex,ea,ed,c,n,q⟩:=zq;subst ex;obtain rfl:u=Value.ref a:=rx;have k:=(I1.hok a _ ea).1;obtain ⟨m,j,l⟩:=I1.hok d _ ed;obtain ⟨u,i,g⟩:=RelO.some_of (by have z:=l f;rw [Gu,beq_self_eq_true] at z;exact z);exact Zsd I1.kIn k j c n i (Zhp g) ⟨v,H1,I1.tok _,g,q⟩
end
end L2
namespace L2.Ds
open PySem.Calls Dl
def AtOk(K:W.Frag)(mg:Str->Option Value)(cs:List Str):Prop:=∀c∈cs,∃C,mg c=some (.ref C)/\HJ K C/\W.findIn K (.ref C) "at"=some none
end L2.Ds
namespace Dl
def dAtC(cs:List Str):D->Res D
 | .exc c=>if cs.contains (clsOf c)=true then dAt (.exc c) else .bad
 | _=>.bad
end Dl
namespace L2.Ds
open PySem.Calls Dl
section
variable {ta:TE} {ma:ME} {cs:List Str}
def WT(T:AtOk X.K X.mg cs)(ha:DE X E e ta ma)(hb:attributeBase e "at" X.env (eval e X.env)=eval e X.env:=by rfl):DE X E (.Attribute e "at" pos) (tAt X.K ta "at") (o1 (dAtC cs) ma):=by
 refine ⟨Zwy ha.p hb,?_⟩;intro j d F H Y Z g;have h:=ha.s j d F H Y Z g;unfold o1;cases em:ma Z with
 | bad=>trivial
 | ex c=>
  rw [em] at h;exact λQ q=>h _ q
 | ok x=>
  rw [em] at h;cases x with
  | exc c=>
   show Ans X.mg E (Rp X.K X.mg) F H (if cs.contains (clsOf c)=true then dAt (.exc c) else .bad) _
   by_cases hc:cs.contains (clsOf c)=true
   .rw [iP hc];show Ans X.mg E (Rp X.K X.mg) F H (match pay c with | some n=>.ok (.int (((n)/2:Nat):Int)) | none=>.bad) _
    cases hp:pay c with
    | none=>trivial
    | some n=>
     refine λQ q=>h _ λi f v a b=>?_;cases b with
     | exc m xc=>
      rw [hp] at xc;obtain ⟨C',hC',ok,no⟩:=T (clsOf c) (by simpa using hc);rw [m] at hC';cases hC';exact ⟨_,_,_,_,rfl,a.s _ _ xc.1,a.s _ _ xc.2,ok,no,q i f _ a (.int _)⟩
   .rw [iN hc];trivial
  | _=>trivial
end
end L2.Ds
namespace L2
open PySem.Calls
structure Mm(K:W.Frag)(C:Addr)(qual:Str)(st:Stmt):Prop where
 ex:∃(fI:Addr) (fd:FuncData),Kc K C fI=true/\Fun K "__init__" qual st fI fd/\Binds K fd ["self","at"] []
 kp:W.keepIn K (.ref C)=true
 r:ClsR K C
 x:ClsX K C
 n:W.findIn K (.ref C) "at"=some none
def Mm.mk'{C:Addr}{qual:Str}{st:Stmt}{p1 p2 p3 p4:Pos}(h:Mm K C qual st)(S:Df ["self","at"] ["self","at"] (Bd st))(hb:FN st=[.Assign [.Attribute (.Name "self" p1) "at" p2] (.Name "at" p3) p4])(hv1:Eg (Bd st) "self")(hv2:Eg (Bd st) "at")(hsw:∀(l:Addr) (f:Addr) (cd:Value),swapsWith (.Name "at" p3) (some (.Attribute (.Name "self" p1) "at" p2)) p4.line (envOfC qual (Bd st) l f cd)=pure false):MkX P w K mg base 1 C:=by
 obtain ⟨a,c,q,F,b⟩:=h.ex;exact ⟨⟨a,c,q,okX (k:=0) F S hb hv1 hv2 hsw h.x h.n,b⟩,h.kp,h.r⟩
end L2
namespace L2.Ds
open PySem.Calls Dl
def tFn(mg:Str->Option Value)(x:Str):TE:=λ_ H Q=>∃f,mg x=some (.ref f)/\Q (.ref f) H
section
variable {m:List D->Res D}
def QX(C:Cal X.prog X.w X.K X.mg X.base k x ps m)(hg:Gl X x)(hd:ND x:=by decide):DE X E (.Name x pos) (tFn X.mg x) (c (.cls x)):=by
 refine ⟨λa s Y H Q I h=>?_,λj e F H Y Z d=>?_⟩
 .obtain ⟨f,b,q⟩:=h;exact (Kp (v:=.ref f) hg b rfl hd) a s Y H Q I q
 .obtain ⟨f,i,_,_,_,b⟩:=C.ex;exact λQ q=>⟨f,b,q F H _ (Gr.refl d.g.s) (.cls b)⟩
end
def Cal.mono(C:Cal P w K mg base k x ps m)(h:k<=j):Cal P w K mg base j x ps m:=by
 obtain ⟨f,d,F,b,a,c⟩:=C.ex;exact ⟨f,d,F.mono h,b,a,c⟩
end L2.Ds
namespace L2
open PySem.Calls
section
variable {own:List Str} {cap:List (Str×Nat)} {scope:Scope} {cl:List (Str×Addr)} {tg:Expr}
def Zjh{te:Fam TE}(b:Gf X E)(hN:X.N.Nodup)(hix:X.N[i]?=some x)(hx:Loc X.env.scope x)(hi:PI X tg iter wi)(O:FT X own cap scope cl)(hc:X.calm=true)(hg:∀C s H fp pn,PG (Bs (xfE E X) X (own++cap.map (·.1)) scope cl C s H fp pn) tg (g C s H fp pn))(ht:∀C s H fp pn,PTs (Bs (xfE E X) X (own++cap.map (·.1)) scope cl C s H fp pn) ts (tt C s H fp pn))(he:∀C s H fp pn,PE (Bs (xfE E X) X (own++cap.map (·.1)) scope cl C s H fp pn) elt (te C s H fp pn))(hts:ts.length<=1:=by decide)(hsw:swapsWith (.ListComp elt [⟨tg,iter,ts,0⟩] scope pos) (some (.Name x pos')) spos.line X.env=pure true:=by rfl)(hs:∀x,foldedSetIterable iter X.env x=pure x:=by intro _;rfl)(hf:X.fn x=true\/X.env.scope.names.lookup x=some .local:=by first | exact .inl rfl | exact .inr rfl | assumption):PS X (.Assign [.Name x pos'] (.ListComp elt [⟨tg,iter,ts,0⟩] scope pos) spos) (tAsg (HF wi g tt te own cap) (FQ i)):=by
 intro a s Y H D I h;rw [exec_Assign_Name_used _ _ _ _ hsw];refine Ac (Gi (Ac ?_))
 refine Ac (BV (QF rfl hs O.clos O.kind O.locals
  (thn (hi a s Y H _ I h) λxv Q k=>thn k λitv P l=>?_)) (λ_ r hq=>Af (Af hq)) λ_ _ e=>e)
 obtain ⟨it,fp,tn,J,H2,rfl,f,T,F,K,hw⟩:=l;refine Us O hc hg ht he hts f T F K hw ?_ ?_
 .intro A C U r m d hn M W q;have L:=W r.heap (Heap.SameBut.refl ..);obtain ⟨n,es,ep,V,R,hk⟩:=id hn;have j:=Gh (Bp f.lt d);have w:=f.nofs d;have I4:Inv X (a++[(C,n)]) Y U r:=L.pins_of λp t=>by
   rcases Dv.mp t with z | z
   .exact L.pin p (CK _ z)
   .have Z:p=(C,n):=by simpa using z
    subst Z;exact ⟨V,M,j,w,λv e=>by rw [R] at e;cases e⟩
  refine wpAny_assign_Name (JP I4 hN hix hx (v:=.ref A) rfl (λs5 S=>?_) hf);have G:=(S.pin (C,n) (CK _ (CK _ (by simp)))).1;refine ⟨m,⟨n,es,ep,G,R,hk⟩,λh' sb=>⟨_,U,?_,q⟩⟩;refine (S.unpinned).turned (λb o hb e=>sb.extBut b o hb e) M j (.inr (Ar f.sz d)) (λy c e=>?_) (λp t=>?_)
  .obtain ⟨v,o,B,_⟩:=f.cell y c e;exact Bq (Bp (BW B) d)
  .exact Bq (Bp (BW (f.pin p t).1) d)
 .intro A C u e r d z;exact b.blk.out f K d z
end
end L2
namespace L2.Ds
open PySem.Calls Dl
section
variable {tg iter elt:Expr} {ts:List Expr} {na:MB}
def R9(hN:X.N.Nodup)(hix:X.N[i]?=some x)(hx:Loc X.env.scope x)(b:Gf X E)(hi:DI X E tg iter wi mi)(O:FT X own cap scope cl)(hc:X.calm=true)(hg:∀C s H fp pn,DG (Bs (xfE E X) X (own++cap.map (·.1)) scope cl C s H fp pn) own.length tg (g C s H fp pn) gm)(ht:∀C s H fp pn,DTs (Bs (xfE E X) X (own++cap.map (·.1)) scope cl C s H fp pn) E ts (tt C s H fp pn) na)(he:∀C s H fp pn,DE (Bs (xfE E X) X (own++cap.map (·.1)) scope cl C s H fp pn) E elt (tf C s H fp pn) me)(hts:ts.length<=1:=by decide)(hsw:swapsWith (.ListComp elt [⟨tg,iter,ts,0⟩] scope pos) (some (.Name x pos')) spos.line X.env=pure true:=by rfl)(hs:∀x,foldedSetIterable iter X.env x=pure x:=by intro _;rfl)(hf:X.fn x=true\/X.env.scope.names.lookup x=some .local:=by first | exact .inl rfl | exact .inr rfl | assumption) :
  DS X E (.Assign [.Name x pos'] (.ListComp elt [⟨tg,iter,ts,0⟩] scope pos) spos) (tAsg (HF wi g tt tf own cap) (FQ i)) (st i (Cr mi own.length (cap.map (·.2)) gm na me)) :=
 ⟨Zjh b hN hix hx hi.p O hc (λC s H fp pn=>(hg C s H fp pn).p) (λC s H fp pn=>(ht C s H fp pn).p) (λC s H fp pn=>(he C s H fp pn).p) hts hsw hs hf,
  Ve (Xk hi.s (λC s H fp pn=>(hg C s H fp pn).s) (hg 0 X.s₀ (λ_=>none) [] []).x (λC s H fp pn=>(ht C s H fp pn).s) (λC s H fp pn=>(he C s H fp pn).s))⟩
end
end L2.Ds
namespace L2.Ds
open Dl
section
variable {a b c d:Expr} {ta tb tc td:TE} {ma mb mc md:ME}
def ZmJ(ho:OpR X (compareOp op) r)(ho':OpR X (compareOp op') r')(ho'':OpR X (compareOp op'') r'')(ha:PE X a ta)(hb:PE X b tb)(hc:PE X c tc)(hd:PE X d td)(hm:lastMarks [op,op',op''] [b,c,d]=false:=by with_unfolding_all rfl):PE X (.Compare a [op,op',op''] [b,c,d] pos) (Mf r r' r'' ta tb tc td):=by
 intro f s Y H Q I h
 refine Compare_chain (thn (ha f s Y H _ I h) λv B zq=>?_) hm;obtain ⟨x,K,P,r1,V⟩:=zq;refine chain_link (thn (hb f B Y K _ P V) λu F zq=>?_);obtain ⟨y,U,O,l,M⟩:=zq;refine thn (ho f F Y U x y v u _ O r1 l M) λd Z zq=>?_;obtain ⟨z,q,i,J,k,e,p⟩:=zq
 subst e;cases J;refine Fy ?_;cases k with
 | false=>exact ite_ff ⟨.bl false,q,i,rfl,p⟩
 | true=>
  refine ite_tt (chain_link (thn (hc f Z Y q _ i p) λo s4 zq=>?_));obtain ⟨j,D,W,n,S⟩:=zq;refine thn (ho' f s4 Y D y j u o _ W l n S) λd' C zq=>?_;obtain ⟨z2,g,m,E,G,N,t⟩:=zq;subst N;cases E;refine Fy ?_;cases G with
  | false=>exact ite_ff ⟨.bl false,g,m,rfl,t⟩
  | true=>exact ite_tt (chain_last (thn (hd f C Y g _ m t) λw2 A zq=>by obtain ⟨w,H6,T,L,R⟩:=zq;exact ho'' f A Y H6 j w o w2 Q T n L R))
def ZoK(ho:OpR X (compareOp op) r)(hf:OpD X.K X.mg r f)(ho':OpR X (compareOp op') r')(hg:OpD X.K X.mg r' g)(ho'':OpR X (compareOp op'') r'')(hh:OpD X.K X.mg r'' h)(ha:DE X E a ta ma)(hb:DE X E b tb mb)(hc:DE X E c tc mc)(hd:DE X E d td md)(hm:lastMarks [op,op',op''] [b,c,d]=false:=by with_unfolding_all rfl) :
  DE X E (.Compare a [op,op',op''] [b,c,d] pos) (Mf r r' r'' ta tb tc td) (H9 f g h ma mb mc md):=⟨ZmJ ho ho' ho'' ha.p hb.p hc.p hd.p (hm:=hm),Zr hf hg hh ha.s hb.s hc.s hd.s⟩
end
end L2.Ds
namespace Dl
def sepL(w:List Nat):Nat->List Nat->List (List Nat)
 | _,[]=>[[]]
 | k+1,_::r=>sepL w k r
 | 0,x::r=>if (x::r).take w.length=w then []::sepL w (w.length - 1) r else match sepL w 0 r with
  | []=>[[x]]
  | u::us=>(x::u)::us
def Bh(x:Str):D->Res D
 | .str y=>if (1<=y.length/\y.cps.all (·<256)=true)/\x.length<=LIM then .ok (.lst ((sepL (cpL y) 0 (cpL x)).map λl=>.str (mkS l))) else .bad
 | _=>.bad
def glW(a:List Nat):List (List Nat)->List (List Nat)
 | []=>[a]
 | u::us=>(a++u)::us
def Ziy(w):∀l k,sepL w k l=sepL w 0 (l.drop k)
 | [],k=>by rw [List.drop_nil];cases k<;>rfl
 | x::r,0=>rfl
 | x::r,k+1=>by
  show sepL w k r=_;rw [Ziy w r k];rfl
def Up(w):∀l,sepL w 0 l≠[]
 | []=>by simp [sepL]
 | x::r=>by
  unfold sepL;split
  .simp
  .split<;>simp
def Rr{w:List Nat}(hw:1<=w.length)(h:l.take w.length=w):sepL w 0 l=[]::sepL w 0 (l.drop w.length):=by
 cases l with
 | nil=>rw [List.take_nil] at h;rw [<-h] at hw;exact aB hw (by decide)
 | cons x r=>
  have e:sepL w 0 (x::r)=if (x::r).take w.length=w then []::sepL w (w.length - 1) r else _:=rfl
  rw [e,iP h,Ziy];obtain ⟨n,a⟩ : ∃n,w.length=n+1:=⟨w.length - 1,by omega⟩;rw [a];rfl
def O4{w:List Nat}{x:Nat}(h:(x::r).take w.length≠w):sepL w 0 (x::r)=glW [x] (sepL w 0 r):=by
 refine (iN h).trans ?_
 show (match sepL w 0 r with
  | []=>[[x]]
  | u::us=>(x::u)::us)=_
 cases sepL w 0 r<;>rfl
def ZsH(a b)(L):glW a (glW b L)=glW (a++b) L:=by
 cases L<;>simp [glW]
def Nm{w:List Nat}:∀a b,(∀k,k<a.length->((a++b).drop k).take w.length≠w)->sepL w 0 (a++b)=glW a (sepL w 0 b)
 | [],b,_=>by
  show sepL w 0 b=_;cases e:sepL w 0 b with
  | nil=>exact aB e (Up w b)
  | cons u us=>rfl
 | x::a,b,h=>by
  have e:=O4 (r:=a++b) (h 0 (by simp));rw [Nm a b λk c=>by have:=h (k+1) (by simpa using c);simpa using this,ZsH] at e;exact e
end Dl
namespace L2.Ds
open Dl
def VG(hw:1<=y.length):StrLaws.At x y x.length k↔((cpL x).drop k).take (cpL y).length=cpL y:=by
 have a:(cpL y).length=y.length:=by simp [cpL,Str.length]
 have ex:(cpL x).length=x.length:=by simp [cpL,Str.length]
 unfold StrLaws.At;rw [StrLaws.subAt_eq,Dc,a];refine ⟨λh=>h.2,λh=>⟨?_,h⟩⟩;have:=Bl List.length h;rw [Hj,DP,a] at this;omega
def Wy(x)(a b):cpL (Builtin.Str.strSub x a b)=((cpL x).drop a).take (b - a):=StrLaws.strSub_toList x a b
def Ti(hw:1<=y.length):∀cuts a f,StrLaws.ChainG x y x.length a cuts f->(∀k,f<=k->¬StrLaws.At x y x.length k)->(StrLaws.partsFrom x y.length a cuts).map cpL=sepL (cpL y) 0 ((cpL x).drop a)
 | [],a,f,hc,hf=>by
  cases hc;have ex:(cpL x).length=x.length:=by simp [cpL,Str.length]
  show [cpL (Builtin.Str.strSub x a x.length)]=_;rw [Wy,Il (by rw [DP,ex];exact Ao _)];have e:=Nm (w:=cpL y) ((cpL x).drop a) [] λk g=>by
   rw [Cq,List.drop_drop];exact λz=>hf (a+k) (by omega) ((VG hw).mpr z)
  rw [Cq] at e;rw [e];show [_]=[_++[]];rw [Cq]
 | c::r,a,f,hc,hf=>by
  obtain ⟨m,i,h,l⟩:=hc;have d:(cpL y).length=y.length:=by simp [cpL,Str.length]
  show cpL (Builtin.Str.strSub x a c)::(StrLaws.partsFrom x y.length (c+y.length) r).map cpL=_;have b:(cpL x).drop a=((cpL x).drop a).take (c - a)++(cpL x).drop c:=by
   have:=JB (c - a) ((cpL x).drop a);rw [List.drop_drop,show a+(c - a)=c by omega] at this;exact this.symm
  rw [Ti hw r _ f l hf,Wy,b,Nm _ _ λk g=>by
   rw [<-b,List.drop_drop];have j:=Bp g (List.length_take_le _ _)
   exact λz=>h (a+k) (by omega) (by omega) ((VG hw).mpr z),Rr (by rw [d];exact hw) ((VG hw).mp i),List.drop_drop,d]
  rw [<-b];show _=(_++[])::_;rw [Cq]
def Zh5{w:Str}(hw:1<=w.length)(ha:w.cps.all (·<256)=true):(Txt.split z w).map cpL=sepL (cpL w) 0 (cpL z):=by
 obtain ⟨f,b,c⟩:=StrLaws.occ_tight z w hw;have e:Builtin.Str.strKind w=1:=iP ha;have a:∀(h:∀k,¬StrLaws.At z w z.length k),[z].map cpL=sepL (cpL w) 0 (cpL z):=λh=>by
  have:=Ti hw [] 0 0 rfl λk _=>h k;rw [Iz] at this;rw [<-this];show [cpL z]=[cpL (Builtin.Str.strSub z 0 z.length)];rw [StrLaws.sub_whole]
 unfold Txt.split;split
 .next h=>
  refine a λk d=>?_;rw [Bool.or_eq_true,CQ,CQ,e] at h;rcases h with h | h
  .have:=d.1;omega
  .have:1<=Builtin.Str.strKind z:=by
    unfold Builtin.Str.strKind;split
    .decide
    .split<;>decide
   omega
 .split
  .next h=>
   rw [List.isEmpty_iff.mp h] at b;cases b;exact a λk=>c k (DX _)
  .rw [StrLaws.partsBetween_eq,Ti hw _ 0 f b c,Iz]
def Zns(w):∀l,(sepL w 0 l).length<=l.length+1:=by
 have a:∀l k,(sepL w k l).length<=l.length+1:=by
  intro l
  induction l with
  | nil=>intro k;cases k<;>exact Ao _
  | cons x r ih=>
   intro k;cases k with
   | zero=>
    by_cases h:(x::r).take w.length=w
    .have e:sepL w 0 (x::r)=[]::sepL w (w.length - 1) r:=iP h;rw [e];have:=ih (w.length - 1);simp only [BP];omega
    .rw [O4 h];have:=ih 0;cases e:sepL w 0 r with
     | nil=>simp [glW]
     | cons u us=>rw [e] at this;simp only [glW,BP] at *;omega
   | succ k=>
    show (sepL w k r).length<=_;have:=ih k;simp only [BP];omega
 exact λl=>a l 0
def Yw:V->List V->Hp->VK->Prop:=λx a H Q=>∃z w,x=.str z/\a=[.str w]/\(1<=w.length/\w.cps.all (·<256)=true)/\z.length<=LIM/\∀l,H l=none->Q (.ref l) (upd H l (.lst ((Txt.split z w).map V.str)))
def Ej:MtR X "str.split" Yw:=by
 intro d s Y H x r v y Q I m n h;obtain ⟨z,w,rfl,rfl,⟨j,p⟩,g,q⟩:=h;obtain ⟨u,rfl,t,rfl⟩:=vals1 n;obtain ⟨a,rfl⟩:=m;have f:(w.length==0)=false:=by rw [Jp];omega
 have i:(Txt.split z w).length<=sizeLine:=by
  have:=Zns (cpL w) (cpL z);rw [<-Zh5 j p,Ah,show (cpL z).length=z.length by simp [cpL,Str.length]] at this;exact Ar this (Ar (JM g) (by decide))
 have c:∀l k,l.map (·.1)=Txt.split z w->EP X d Y Q (.ref s.heap.objs.size) { s with toks:=k,heap:=s.heap.push { cls:=.type "list",data:=.seq (strValues l).toArray } }:=λl k e=>
  ⟨.ref _,_,I.laid (o:=.lst ((Txt.split z w).map V.str)) (λb o e=>Bc _ e) (Ao _) ⟨by rw [Ah];exact i,strValues l,0,by rw [<-e];exact Wx l,Dq _ rfl⟩,rfl,q _ (I.hok.fresh (Ao _))⟩
 cases h1:(decide (z.length<w.length)||decide (Builtin.Str.strKind z<Builtin.Str.strKind w))
 .cases hf:(Builtin.Str.occurrences z w 0 z.length (z.length+1)).isEmpty
  .have e:Txt.split z w=Builtin.Str.partsBetween z (Builtin.Str.occurrences z w 0 z.length (z.length+1)) w.length:=(iN (ne_true_of_eq_false h1)).trans (iN (ne_true_of_eq_false hf));refine call_meets PySem.F.slot_str_split (GX s z a) PySem.F.entry_str_split (PySem.F.args_str_split_2 _ _) (meets_str_split_sep z w a t h1 f hf (Jx g) (by rw [<-e];exact i)) ?_;rw [strsFrom_eq];exact c (numbered s.toks _) _ ((numbered_texts _ _).trans e.symm)
  .exact call_meets PySem.F.slot_str_split (GX s z a) PySem.F.entry_str_split (PySem.F.args_str_split_2 _ _) (meets_str_split_not_found z w a t h1 f hf) (c [(z,a)] _ ((iN (ne_true_of_eq_false h1)).trans (iP hf)).symm)
 .exact call_meets PySem.F.slot_str_split (GX s z a) PySem.F.entry_str_split (PySem.F.args_str_split_2 _ _) (meets_str_split_cannot_occur z w a t h1) (c [(z,a)] _ (iP h1).symm)
def Em:SmD K mg Yw Bh:=by
 intro E F H z y b s c;cases b with
 | str w=>
  cases c;unfold Bh;dsimp only;split
  .next h=>
   obtain ⟨a,d⟩:=h;refine IK s (λp e=>?_) λQ q=>⟨z,w,rfl,rfl,a,d,q⟩;rw [<-Zh5 a.1 a.2];exact .lst (SqL.of Ax) (Wt _)
  .trivial
 | _=>trivial
end L2.Ds
namespace Dl
def Sm(k:Nat)(x:Int):Prop:=x.natAbs<2^k
def Sm.mono{k n:Nat}{x:Int}(h:Sm k x)(hn:k<=n):Sm n x:=Bp h (Nat.pow_le_pow_right (by decide) hn)
def Sm.of64{x:Int}(h1:-18446744073709551616<x)(h2:x<18446744073709551616):Sm 64 x:=by
 unfold Sm;have:(2:Nat)^64=18446744073709551616:=by decide
 omega
def Zul{n k:Nat}(h:n<2^k)(hk:0<k):n.log2<k:=by
 rcases Nat.eq_zero_or_pos n with z | z
 .rw [z];simpa using hk
 .exact (Nat.log2_lt (Gh z)).mpr h
def Zsw{a b:Int}(h:Sm 64 a):Gw a b=true:=by
 unfold Gw;rw [Aj (show a.natAbs<2^64 from h)];rfl
def ZqD{a b:Int}(h:Sm 64 b):Gw a b=true:=by
 unfold Gw;rw [Aj (show b.natAbs<2^64 from h)];simp
def ZsF{a b:Int}(h:Gw a b=true):iMul a b=.ok (.int (a*b)):=by unfold iMul;rw [iP h]
def Zoy{a b:Int}(h:0<b):iMod a b=.ok (.int (a%b)):=by unfold iMod;rw [iP h]
def ZnA{a b:Int}(h:0<b)(hl:b.natAbs.log2<9000):iDiv a b=.ok (.int (a/b)):=by unfold iDiv;rw [iP hl,iP h]
def ZrV{a b:Int}(h0:0<=b)(h1:b<=1000000)(h2:a.natAbs<2^64):iPow a b=.ok (.int (a^b.toNat)):=by unfold iPow;rw [iP ⟨h0,h1,h2⟩]
def ZrJ{a b:Int}(h0:0<=b)(h1:b<=1000000)(h2:a.natAbs<2^64):iShl a b=.ok (.int (a*2^b.toNat)):=by unfold iShl;rw [iP ⟨h0,h1,h2⟩]
def Zqq{a b:Int}(h0:0<=b):iShr a b=.ok (.int (a/2^b.toNat)):=by unfold iShr;rw [iP h0]
def Zsv(a b:Int):dEq (.int a) (.int b)=.ok (.bl (decide (a=b))):=by
 show Res.ok (D.bl (a==b))=_;rw [Bool.beq_eq_decide_eq]
def ZqA(a b:Int):dNe (.int a) (.int b)=.ok (.bl (!decide (a=b))):=by
 show Res.ok (D.bl (!(a==b)))=_;rw [Bool.beq_eq_decide_eq]
def Zov{a b:List D}(h:a.length+b.length<=1000000):BX (.lst a) (.lst b)=.ok (.lst (a++b)):=by
 show (if a.length+b.length<=LIM then Res.ok (D.lst (a++b)) else .bad)=_
 rw [iP (show a.length+b.length<=LIM from h)]
def Wc(xs:List D)(i:Int):dIx (.lst xs) (.int i)=ofO (at_ xs i):=rfl
def Zpj(xs:List D):bLen [.lst xs]=.ok (.int xs.length):=rfl
def ZnQ(xs:List D):bLen [.tup xs]=.ok (.int xs.length):=rfl
def ZnC(i:Int):bAbs [.int i]=.ok (.int i.natAbs):=by
 show Res.ok (D.int (if i<0 then -i else i))=_
 have:(if i<0 then -i else i)=(i.natAbs:Int):=by split<;>omega
 rw [this]
def ZoZ(i j:Int):bMax [.int i,.int j]=.ok (.int (max i j)):=by
 show Res.ok (D.int (if j>i then j else i))=_
 have:(if j>i then j else i)=max i j:=by split<;>omega
 rw [this]
def ZrH{j:Int}(h0:-1000000000<=j)(h1:j<=1000000000):rng1 [.int j]=.ok (CZ 0 j.toNat):=by
 show (if -1000000000<=j/\j<=1000000000 then Res.ok (CZ 0 j.toNat) else .bad)=_
 rw [iP ⟨h0,h1⟩]
def Zr3{g:MG}{b:MS}(I:Ev->Prop)(xs:List D)(h:∀x∈xs,∀Z,I Z->∃Z1 Z2,g x Z=.ok Z1/\b Z1=.ok (.nx Z2)/\I Z2):∀Z,I Z->∃Z',CP g b xs Z=.ok (.nx Z')/\I Z':=by
 induction xs with
 | nil=>exact λZ i=>⟨Z,rfl,i⟩
 | cons x r ih=>
  intro Z i;obtain ⟨Z1,Z2,d,a,e⟩:=h x Aw Z i;obtain ⟨Z',c,j⟩:=ih (λy f=>h y (Av _ f)) Z2 e;refine ⟨Z',?_,j⟩;show (g x Z).bind (λZ1=>(b Z1).bind (turn (CP g b r)))=_;rw [d];show (b Z1).bind (turn (CP g b r))=_;rw [a];exact c
def ZfK{g:MG}{b:MS}(I:List D->Ev->Prop):∀(xs pre:List D),(∀p x r,xs=p++x::r->∀Z,I (pre++p) Z->∃Z1 Z2,g x Z=.ok Z1/\b Z1=.ok (.nx Z2)/\I (pre++p++[x]) Z2)->∀Z,I pre Z->∃Z',CP g b xs Z=.ok (.nx Z')/\I (pre++xs) Z'
 | [],pre,_,Z,i=>⟨Z,rfl,by rw [Cq];exact i⟩
 | x::r,pre,h,Z,i=>by
  obtain ⟨Z1,Z2,f,c,a⟩:=h [] x r rfl Z (by rw [Cq];exact i);rw [Cq] at a
  obtain ⟨Z',d,j⟩:=ZfK I r (pre++[x]) (λp y s e Z i=>by
   have z:=h (x::p) y s (by rw [e];rfl) Z (by simpa using i)
   simpa using z) Z2 a
  refine ⟨Z',?_,by simpa using j⟩;show (g x Z).bind (λZ1=>(b Z1).bind (turn (CP g b r)))=_;rw [f];show (b Z1).bind (turn (CP g b r))=_;rw [c];exact d
def ZmO(t:MB)(b:MS)(n:Nat)(Z:Ev):whGo t b (n+1) Z=(t Z).bind λx=>if x=true then (b Z).bind (turn (whGo t b n)) else .ok (.nx Z):=rfl
def Yb(g:MG)(t:MB)(e:ME)(Z:Ev)(x:D)(r:List D):BR g t e Z (x::r)=(g x Z).bind λZ1=>(t Z1).bind λb=>if b=true then (e Z1).bind λy=>(BR g t e Z r).bind λys=>.ok (y::ys) else BR g t e Z r:=rfl
def W6{g:MG}{e:ME}{Z:Ev}(P:D->D->Prop):∀xs:List D,(∀x∈xs,∃Z1 y,g x Z=.ok Z1/\e Z1=.ok y/\P x y)->∃ys,BR g yes e Z xs=.ok ys/\ys.length=xs.length/\∀(i:Nat) x y,xs[i]?=some x->ys[i]?=some y->P x y
 | [],_=>⟨[],rfl,rfl,λi x y h=>by simp at h⟩
 | x::r,h=>by
  obtain ⟨Z1,y,j,n,k⟩:=h x Aw;obtain ⟨ys,f,m,q⟩:=W6 P r λz l=>h z (Av _ l);refine ⟨y::ys,?_,Bl (·+1) m,λi a b d c=>?_⟩
  .rw [Yb,j,Ci];unfold yes at f ⊢;rw [Ci,iP rfl,n,Ci,f];rfl
  .cases i with
   | zero=>simp at d c;subst d c;exact k
   | succ i=>exact q i a b (by simpa using d) (by simpa using c)
def Tl{α:Type}(r:Res α)(U:α->Prop):Prop:=∃a,r=.ok a/\U a
section
variable{α β:Type}{U:α->Prop} {a b d:ME} {s t:MB}
def Ad{r:Res α}{x:α}(e:r=.ok x)(h:U x):Tl r U:=⟨x,e,h⟩
def BK{x:α}(h:U x):Tl (.ok x) U:=⟨x,rfl,h⟩
def BL{r:Res β}{f:β->Res α}(h:Tl r λx=>Tl (f x) U):Tl (r.bind f) U:=by
 obtain ⟨x,rfl,y,e,q⟩:=h;exact ⟨y,e,q⟩
def Tl.mono{r:Res α}{Ψ:α->Prop}(h:Tl r Ψ)(k:∀x,Ψ x->U x):Tl r U:=by
 obtain ⟨x,e,q⟩:=h;exact ⟨x,e,k x q⟩
def VH{c:Bool}{A B:Res α}(hc:c=true)(h:Tl A U):Tl (if c=true then A else B) U:=by rw [iP hc];exact h
def Vb{c:Bool}{A B:Res α}(hc:c=false)(h:Tl B U):Tl (if c=true then A else B) U:=by rw [iN (by rw [hc];exact Cj)];exact h
def w_dT{P:Prop} [Decidable P] {A B:Res α} (hc:P) (h:Tl A U):Tl (if decide P=true then A else B) U:=VH (Aj hc) h
def w_dF{P:Prop} [Decidable P] {A B:Res α} (hc:¬P) (h:Tl B U):Tl (if decide P=true then A else B) U:=Vb (Al hc) h
def w_nT{P:Prop} [Decidable P] {A B:Res α} (hc:¬P) (h:Tl A U):Tl (if (!decide P)=true then A else B) U:=VH (by rw [Al hc];rfl) h
def w_nF{P:Prop} [Decidable P] {A B:Res α} (hc:P) (h:Tl B U):Tl (if (!decide P)=true then A else B) U:=Vb (by rw [Aj hc];rfl) h
def Cg{P:Prop} [Decidable P] {A B:Res α} (h1:P->Tl A U) (h2:¬P->Tl B U):Tl (if decide P=true then A else B) U:=by
 by_cases h:P
 .exact w_dT h (h1 h)
 .exact w_dF h (h2 h)
def ZvC{P:Prop} [Decidable P] {A B:Res α} (h1:¬P->Tl A U) (h2:P->Tl B U):Tl (if (!decide P)=true then A else B) U:=by
 by_cases h:P
 .exact w_nF h (h2 h)
 .exact w_nT h (h1 h)
end
section
variable{U:D->Prop} {a b d:ME} {s t:MB} {m:MA}
def w_v{x:D}(e:Z[i]?=some (.im x))(h:U x):Tl (v i Z) U:=Ad (by unfold v;rw [e];rfl) h
def w_v'(h:Tl (getC Z[i]?) U):Tl (v i Z) U:=h
def w_gC{o:Option Cl}{x:D}(e:o=some (.im x))(h:U x):Tl (getC o) U:=Ad (by rw [e];rfl) h
def w_c{x:D}(h:U x):Tl (c x Z) U:=BK h
def w_o1{f:D->Res D}(h:Tl (a Z) λx=>Tl (f x) U):Tl (o1 f a Z) U:=BL h
def w_o2{f:D->D->Res D}(h:Tl (a Z) λx=>Tl (b Z) λy=>Tl (f x y) U):Tl (o2 f a b Z) U:=BL (h.mono λ_ q=>BL q)
def w_on{f:List D->Res D}(h:Tl (m Z) λxs=>Tl (f xs) U):Tl (on f m Z) U:=BL h
def Zv4(h:Tl (m Z) λxs=>U (.tup xs)):Tl (mtp m Z) U:=BL (h.mono λ_ q=>BK q)
def Vq(h:Tl (m Z) λxs=>U (.lst xs)):Tl (mls m Z) U:=BL (h.mono λ_ q=>BK q)
def Zum(h:Tl (trb a Z) λx=>Tl (if x=true then b Z else .ok (.bl false)) U):Tl (eAnd a b Z) U:=BL h
def Zuy(h:Tl (trb a Z) λx=>U (.bl (!x))):Tl (eNot a Z) U:=BL (h.mono λ_ q=>BK q)
def Zv8(h:Tl (t Z) λx=>Tl (if x=true then a Z else b Z) U):Tl (ife t a b Z) U:=BL h
def ZsJ{f g:D->D->Res D}(h:Tl (a Z) λx=>Tl (b Z) λy=>Tl (f x y) λz=>Tl (tru z) λk=>Tl (if k=true then (d Z).bind λu=>g y u else .ok (.bl false)) U):Tl (chain f g a b d Z) U :=
 BL (h.mono λ_ q=>BL (q.mono λ_ q=>BL (q.mono λ_ q=>BL q)))
def ZwD{lo hi:Ev->Res (Option Int)}(h:Tl (a Z) λx=>Tl (lo Z) λl=>Tl (hi Z) λu=>Tl (dCut x l u) U):Tl (cut a lo hi Z) U:=BL (h.mono λ_ q=>BL (q.mono λ_ q=>BL q))
def Lw{it:MI}{own:Nat}{cap:List Nat}{g:MG}{e:ME}(h:Tl (it Z) λxs=>xs.length<=1000000/\Tl (BR g t e (noA own (Bu Z cap)) xs) λys=>U (.lst ys)):Tl (comp it own cap g t e Z) U:=by
 refine BL (h.mono λxs q=>?_);rw [iP (show xs.length<=LIM from q.1)];obtain ⟨ys,b,a⟩:=q.2;rw [b];exact BK a
def w_fn{k:MS}{ds:List D}(h:Tl (k (ev0 n ds)) λf=>Tl (endOf f) U):Tl (fn n k ds) U:=BL h
def Ztr{x y:Int}(h:U (.int (x+y))):Tl (BX (.int x) (.int y)) U:=BK h
def Jd{x y:List D}(hl:x.length+y.length<=1000000)(h:U (.lst (x++y))):Tl (BX (.lst x) (.lst y)) U:=Ad (Zov hl) h
def w_sub{x y:Int}(h:U (.int (x - y))):Tl (dSub (.int x) (.int y)) U:=BK h
def w_mul{x y:Int}(hm:Gw x y=true)(h:U (.int (x*y))):Tl (Ft (.int x) (.int y)) U:=Ad (ZsF hm) h
def w_mod{x y:Int}(hy:0<y)(h:U (.int (x%y))):Tl (Cz (.int x) (.int y)) U:=Ad (Zoy hy) h
def w_div{x y:Int}(hy:0<y)(hl:y.natAbs.log2<9000)(h:U (.int (x/y))):Tl (IW (.int x) (.int y)) U:=Ad (ZnA hy hl) h
def w_pow{x y:Int}(h0:0<=y)(h1:y<=1000000)(h2:x.natAbs<2^64)(h:U (.int (x^y.toNat))):Tl (dPow (.int x) (.int y)) U:=Ad (ZrV h0 h1 h2) h
def w_shl{x y:Int}(h0:0<=y)(h1:y<=1000000)(h2:x.natAbs<2^64)(h:U (.int (x*2^y.toNat))):Tl (dShl (.int x) (.int y)) U:=Ad (ZrJ h0 h1 h2) h
def w_shr{x y:Int}(h0:0<=y)(h:U (.int (x/2^y.toNat))):Tl (dShr (.int x) (.int y)) U:=Ad (Zqq h0) h
def Zwh{x:Int}(h:U (.int (-x))):Tl (dNeg (.int x)) U:=BK h
def w_lt{x y:Int}(h:U (.bl (decide (x<y)))):Tl (dLt (.int x) (.int y)) U:=BK h
def w_le{x y:Int}(h:U (.bl (decide (x<=y)))):Tl (dLe (.int x) (.int y)) U:=BK h
def w_gt{x y:Int}(h:U (.bl (decide (y<x)))):Tl (dGt (.int x) (.int y)) U:=BK h
def w_ge{x y:Int}(h:U (.bl (decide (y<=x)))):Tl (dGe (.int x) (.int y)) U:=BK h
def ZwB{x y:Int}(h:U (.bl (decide (x=y)))):Tl (dEq (.int x) (.int y)) U:=Ad (Zsv x y) h
def ZvM{x y:Int}(h:U (.bl (!decide (x=y)))):Tl (dNe (.int x) (.int y)) U:=Ad (ZqA x y) h
def Zwr{x:D}(h:U (.bl (Jv x))):Tl (dIsN x) U:=BK h
def Ztz{x:D}(h:U (.bl (!Jv x))):Tl (Ke x) U:=BK h
def ZuC{xs:List D}(h:U (.int xs.length)):Tl (bLen [.lst xs]) U:=BK h
def Zu9{xs:List D}(h:U (.int xs.length)):Tl (bLen [.tup xs]) U:=BK h
def Zsr{ns:List Int}(h:U (.int ns.length)):Tl (bLen [.tup (ns.map .int)]) U:=Ad (by rw [ZnQ,Ah]) h
def Zqz{ns:List Int}(h:U (.int ns.length)):Tl (bLen [.lst (ns.map .int)]) U:=Ad (by rw [Zpj,Ah]) h
def ZwQ{x:Int}(h:U (.int x.natAbs)):Tl (bAbs [.int x]) U:=Ad (ZnC x) h
def Zwp{x y:Int}(h:U (.int (max x y))):Tl (bMax [.int x,.int y]) U:=Ad (ZoZ x y) h
def Xm{xs:List D}(h:U (.tup xs)):Tl (bTup [.lst xs]) U:=BK h
def ZuF{xs:List D}(h:U (.lst xs)):Tl (bLst [.lst xs]) U:=BK h
def Zut{xs:List D}(h:U (.lst xs)):Tl (bLst [.tup xs]) U:=BK h
def ZuB{xs:List D}{lo hi:Option Int}(h:U (.lst (cutL xs lo hi))):Tl (dCut (.lst xs) lo hi) U:=BK h
def Zt3{xs:List D}{lo hi:Option Int}(h:U (.tup (cutL xs lo hi))):Tl (dCut (.tup xs) lo hi) U:=BK h
end
section
variable{U:Bool->Prop} {a:ME} {s t:MB}
def Zv2(h:Tl (a Z) λx=>Tl (tru x) U):Tl (trb a Z) U:=BL h
def Zv5{b:Bool}(h:U b):Tl (tru (.bl b)) U:=BK h
def ZtK(h:Tl (s Z) λx=>Tl (if x=true then t Z else .ok false) U):Tl (bAnd s t Z) U:=BL h
def Zwm(h:Tl (s Z) λx=>Tl (if x=true then .ok true else t Z) U):Tl (bOr s t Z) U:=BL h
def ZtE(h:Tl (s Z) λx=>U (!x)):Tl (bNot s Z) U:=BL (h.mono λ_ q=>BK q)
def ZvL(h:U true):Tl (yes Z) U:=BK h
end
section
variable{U:List D->Prop} {a:ME} {m:MA}
def Fv(h:U []):Tl (Ab Z) U:=BK h
def DR(h:Tl (a Z) λx=>Tl (m Z) λxs=>U (x::xs)):Tl (Aa a m Z) U:=BL (h.mono λ_ q=>BL (q.mono λ_ q=>BK q))
def w_iv(h:Tl (a Z) λx=>Tl (items x) U):Tl (iv a Z) U:=BL h
def ZwH{xs:List D}(h:U xs):Tl (items (.lst xs)) U:=BK h
def Zwc{xs:List D}(h:U xs):Tl (items (.tup xs)) U:=BK h
def w_r1(h:Tl (m Z) λxs=>Tl (rng1 xs) U):Tl (r1 m Z) U:=BL h
def w_r2(h:Tl (m Z) λxs=>Tl (rng2 xs) U):Tl (r2 m Z) U:=BL h
def XM{j:Int}(h0:-1000000000<=j/\j<=1000000000)(h:U (CZ 0 j.toNat)):Tl (rng1 [.int j]) U:=Ad (ZrH h0.1 h0.2) h
end
section
variable{U:Option Int->Prop} {a:ME}
def ZwR(h:U none):Tl (pno Z) U:=BK h
def ZvJ(h:Tl (a Z) λx=>Tl (optI x) U):Tl (pso a Z) U:=BL h
def ZuO{i:Int}(h:U (some i)):Tl (optI (.int i)) U:=BK h
end
section
variable{U:Ev->Prop} {x:D}
def w_gN(h:U (Z.set i (.im x))):Tl (gN i x Z) U:=BK h
def ZwP(h:U Z):Tl (gs0 [] Z) U:=BK h
def ZwE{g:MG}{r:MGs}{ds:List D}(h:Tl (g x Z) λZ'=>Tl (r ds Z') U):Tl (gs1 g r (x::ds) Z) U:=BL h
def ZwG{g:MGs}{xs:List D}(hl:xs.length=n)(h:Tl (g xs Z) U):Tl (gU n g (.tup xs) Z) U:=by
 show Tl (if xs.length=n then g xs Z else .bad) U
 rw [iP hl];exact h
end
section
variable{U:Fl->Prop} {a b:ME} {k l:MS} {t:MB}
def w_sq(h:Tl (k Z) λf=>Tl (goOn l f) U):Tl (sq k l Z) U:=BL h
def w_gx(h:Tl (l Z) U):Tl (goOn l (.nx Z)) U:=h
def w_gr{x:D}(h:U (.rt x)):Tl (goOn l (.rt x)) U:=BK h
def w_st(h:Tl (a Z) λx=>U (.nx (Z.set i (.im x)))):Tl (st i a Z) U:=BL (h.mono λ_ q=>BK q)
def J8(h:Tl (a Z) λx=>U (.rt x)):Tl (ret a Z) U:=BL (h.mono λ_ q=>BK q)
def Zuc(h:U (.nx Z)):Tl (nop Z) U:=BK h
def Nr(h:Tl (a Z) λ_=>U (.nx Z)):Tl (drp a Z) U:=BL (h.mono λ_ q=>BK q)
def Zwn{g:MG}(h:Tl (a Z) λx=>Tl (g x Z) λZ'=>U (.nx Z')):Tl (asg g a Z) U:=BL (h.mono λ_ q=>BL (q.mono λ_ q=>BK q))
def ZvT(h:Tl (a Z) λx=>Tl (b Z) λy=>U (.nx ((Z.set i (.im x)).set j (.im y)))):Tl (par i j a b Z) U:=BL (h.mono λ_ q=>BL (q.mono λ_ q=>BK q))
def ZG(h:Tl (t Z) λx=>Tl (if x=true then k Z else l Z) U):Tl (ifs t k l Z) U:=BL h
def O8{it:MI}{g:MG}(h:Tl (it Z) λxs=>Tl (CP g k xs Z) U):Tl (for_ it g k Z) U:=BL h
def ZwN{fu:Ev->Nat}(h:Tl (whGo t k (fu Z) Z) U):Tl (whl fu t k Z) U:=h
def Zwa(h:Tl (a Z) λx=>Tl (lstO x) λxs=>U (.nx (Z.set i (.ow xs)))):Tl (stO i a Z) U:=BL (h.mono λ_ q=>BL (q.mono λ_ q=>BK q))
def Zvk{Ψ:List D->Prop}{xs:List D}(h:Ψ xs):Tl (lstO (.lst xs)) Ψ:=BK h
def Zvw(h:Tl (getO Z[i]?) λxs=>Tl (k (Z.set i (.im (.lst xs)))) U):Tl (frz i k Z) U:=BL h
def Zug(h:Tl (getO Z[i]?) λxs=>Tl (a Z) λd=>xs.length<1000000/\U (.nx (Z.set i (.ow (xs++[d]))))):Tl (app i a Z) U:=by
 refine BL (h.mono λxs q=>BL (q.mono λd q=>?_));rw [iP (show xs.length<LIM from q.1)];exact BK q.2
def w_gO{Ψ:List D->Prop}{o:Option Cl}{xs:List D}(e:o=some (.ow xs))(h:Ψ xs):Tl (getO o) Ψ:=Ad (by rw [e];rfl) h
def w_eR{Ψ:D->Prop}{x:D}(h:Ψ x):Tl (endOf (.rt x)) Ψ:=BK h
def w_eN{Ψ:D->Prop}(h:Ψ .non):Tl (endOf (.nx Z)) Ψ:=BK h
def w_tx(h:Tl (k Z) U):Tl (turn k (.nx Z)) U:=h
def w_tr{x:D}(h:U (.rt x)):Tl (turn k (.rt x)) U:=BK h
def w_f0{g:MG}(h:U (.nx Z)):Tl (CP g k [] Z) U:=BK h
def w_f1{g:MG}{x:D}{r:List D}(h:Tl (g x Z) λZ1=>Tl (k Z1) λf=>Tl (turn (CP g k r) f) U):Tl (CP g k (x::r) Z) U:=BL (h.mono λ_ q=>BL q)
def ZvO{g:MG}{xs:List D}(I:Ev->Prop)(h0:I Z)(h:∀x∈xs,∀Z,I Z->Tl (g x Z) λZ1=>Tl (k Z1) λf=>∃Z2,f=.nx Z2/\I Z2)(hd:∀Z,I Z->U (.nx Z)):Tl (CP g k xs Z) U:=by
 obtain ⟨a,e,i⟩:=Zr3 (g:=g) (b:=k) I xs (λx j Z i=>by
  obtain ⟨Z1,c,f,l,Z2,rfl,d⟩:=h x j Z i
  exact ⟨Z1,Z2,c,l,d⟩) Z h0
 exact ⟨_,e,hd a i⟩
def Zql{g:MG}{xs:List D}(I:List D->Ev->Prop)(h0:I [] Z)(h:∀p x r,xs=p++x::r->∀Z,I p Z->Tl (g x Z) λZ1=>Tl (k Z1) λf=>∃Z2,f=.nx Z2/\I (p++[x]) Z2)(hd:∀Z,I xs Z->U (.nx Z)):Tl (CP g k xs Z) U:=by
 obtain ⟨a,e,i⟩:=ZfK (g:=g) (b:=k) I xs [] (λp x r j Z i=>by
  obtain ⟨Z1,c,f,l,Z2,rfl,d⟩:=h p x r j Z i
  exact ⟨Z1,Z2,c,l,d⟩) Z h0
 exact ⟨_,e,hd a i⟩
def w_wh{n:Nat}(I:Ev->Prop)(μ:Ev->Nat)(h0:I Z)(hm:μ Z<n)(h:∀Z,I Z->Tl (t Z) λb=>(b=true->Tl (k Z) λf=>∃Z2,f=.nx Z2/\I Z2/\μ Z2<μ Z)/\(b=false->U (.nx Z))):Tl (whGo t k n Z) U:=by
 induction n generalizing Z with
 | zero=>exact aB hm (Nat.not_lt_zero _)
 | succ n ih=>
  rw [ZmO];obtain ⟨b,e,q⟩:=h Z h0;rw [e];cases b with
  | true=>
   obtain ⟨f,c,Z2,rfl,a,d⟩:=q.1 rfl;show Tl ((k Z).bind (turn (whGo t k n))) U;rw [c];exact ih a (by omega)
  | false=>exact BK (q.2 rfl)
def WP:∀{ns ms:List Int},ns.map D.int=ms.map D.int->ns=ms
 | [],[],_=>rfl
 | [],_::_,h=>by cases h
 | _::_,[],h=>by cases h
 | n::r,m::s,h=>by
  have a:D.int n=D.int m/\r.map D.int=s.map D.int:=by simpa using h
  rw [WP a.2];cases a.1;rfl
end
def Dw{α:Type}{U:List D->Prop}{g:MG}{e:ME}{Z:Ev}{enc:α->D}(f:α->D):∀{l:List α},(∀a∈l,Tl (g (enc a) Z) λZ1=>Tl (e Z1) λy=>y=f a)->U (l.map f)->Tl (BR g yes e Z (l.map enc)) U:=by
 intro l h q;have c:∀l:List α,(∀a∈l,Tl (g (enc a) Z) λZ1=>Tl (e Z1) λy=>y=f a)->BR g yes e Z (l.map enc)=.ok (l.map f):=by
  intro l
  induction l with
  | nil=>exact λ_=>rfl
  | cons a r ih=>
   intro h;obtain ⟨Z1,d,y,j,rfl⟩:=h a Aw;have z:=ih λb i=>h b (Av _ i);rw [Bx,Yb,d,Ci];unfold yes at z ⊢;rw [Ci,iP rfl,j,Ci,z];rfl
 exact Ad (c l h) q
def w_all{U:List D->Prop}{g:MG}{e:ME}{Z:Ev}{xs:List D}(P:D->D->Prop)(h:∀x∈xs,Tl (g x Z) λZ1=>Tl (e Z1) λy=>P x y)(q:∀ys:List D,ys.length=xs.length->(∀(i:Nat) x y,xs[i]?=some x->ys[i]?=some y->P x y)->U ys):Tl (BR g yes e Z xs) U:=by
 obtain ⟨ys,a,l,b⟩:=W6 (g:=g) (e:=e) (Z:=Z) P xs λx c=>by
  obtain ⟨Z1,a,y,d,b⟩:=h x c;exact ⟨Z1,y,a,d,b⟩
 exact ⟨ys,a,q ys l b⟩
section
variable{U:D->Prop}
def Zwt{x y:D}(h:Tl (dIx x y) U):Tl (dIx x y) U:=h
def ZvZ{xs:List D}(h:Tl (bIsi xs) U):Tl (bIsi xs) U:=h
def Zt8{α:Type}{xs:List α}{i:Nat}:at_ xs (i:Int)=xs[i]?:=by
 unfold at_;rw [iP (Int.natCast_nonneg i),JR]
def Nb{xs:List D}{i:Int}(h:0<=i/\i<xs.length)(q:∀x∈xs,U x):Tl (dIx (.lst xs) (.int i)) U:=by
 obtain ⟨n,rfl⟩:=Int.eq_ofNat_of_zero_le h.1;have a:n<xs.length:=by omega
 rw [Wc,Zt8,Bg a];exact BK (q _ (G4 a))
def ZvX{ns:List Int}{i:Int}(h:-(ns.length:Int)<=i/\i<ns.length)(q:∀n∈ns,U (.int n)):Tl (dIx (.lst (ns.map .int)) (.int i)) U:=by
 rw [Wc];unfold at_;rw [Ah];by_cases h0:0<=i
 .have a:i.toNat<ns.length:=by omega
  rw [iP h0,DK,Bg a];exact BK (q _ (G4 a))
 .have a:(i+ns.length).toNat<ns.length:=by omega
  rw [iN h0,iP h.1,DK,Bg a];exact BK (q _ (G4 a))
end
def Hl(i:Nat)(Z:Ev):Nat:=((Z[i]?).map absC).getD 0
def Rv:∀(Z:Ev) (i:Nat),Hl i Z<fuel Z
 | [],i=>by simp [Hl,fuel]
 | c::r,0=>by simp [Hl,fuel];omega
 | c::r,i+1=>by
  have:=Rv r i;simp [Hl,fuel] at this ⊢;omega
section
variable{α β:Type}{c:Str} {k l:MS} {m:MA}
def Hs{r:Res β}{f:β->Res α}(h:Tl r λx=>f x=.ex c):r.bind f=.ex c:=by
 obtain ⟨x,rfl,e⟩:=h;exact e
def Dy{r:Res β}{f:β->Res α}(h:r=.ex c):r.bind f=.ex c:=by rw [h];rfl
def x_fn{ds:List D}(h:k (ev0 n ds)=.ex c):fn n k ds=.ex c:=Dy h
def Ca(h:k Z=.ex c):sq k l Z=.ex c:=Dy h
def By(h:Tl (k Z) λf=>goOn l f=.ex c):sq k l Z=.ex c:=Hs h
def x_gx(h:l Z=.ex c):goOn l (.nx Z)=.ex c:=h
def DQ{t:MB}(h:Tl (t Z) λx=>(if x=true then k Z else l Z)=.ex c):ifs t k l Z=.ex c:=Hs h
def N6(h:Tl (m Z) λ_=>True):rse c m Z=.ex c:=Hs (h.mono λ_ _=>rfl)
def x_T{P:Prop} [Decidable P] {A B:Res α} (hc:P) (h:A=.ex c):(if decide P=true then A else B)=.ex c:=by rw [iP (Aj hc)];exact h
def UV{it:MI}{g:MG}(h:Tl (it Z) λxs=>CP g k xs Z=.ex c):for_ it g k Z=.ex c:=Hs h
def x_f1{g:MG}{x:D}{r:List D}(h:Tl (g x Z) λZ1=>k Z1=.ex c):CP g k (x::r) Z=.ex c:=Hs (h.mono λ_ q=>Dy q)
def x_f2{g:MG}{x:D}{r:List D}(h:Tl (g x Z) λZ1=>Tl (k Z1) λf=>turn (CP g k r) f=.ex c):CP g k (x::r) Z=.ex c:=Hs (h.mono λ_ q=>Hs q)
def ZtX{U:Fl->Prop}{f:List D->Res D}{hits:List Str}{b:MS}(h:Tl (m Z) λds=>f ds=.ex c/\hits.contains (clsOf c)=true/\Tl (b (Z.set i (.im (.exc c)))) λfl=>Tl (endT i (.ok fl)) U):Tl (try_ f m hits i b Z) U:=by
 obtain ⟨ds,d,g,a,fl,e,h⟩:=h;show Tl ((noEx (m Z)).bind λds=>Km hits i b Z (f ds)) U;rw [d];show Tl (Km hits i b Z (f ds)) U;rw [g];show Tl (if hits.contains (clsOf c)=true then endT i (b (Z.set i (.im (.exc c)))) else .bad) U
 rw [iP a,e];exact h
def ZtR{U:Fl->Prop}{f:List D->Res D}{hits:List Str}{b:MS}(h:Tl (m Z) λds=>Tl (f ds) λ_=>U (.nx Z)):Tl (try_ f m hits i b Z) U:=by
 obtain ⟨ds,a,d,c,h⟩:=h;show Tl ((noEx (m Z)).bind λds=>Km hits i b Z (f ds)) U;rw [a];show Tl (Km hits i b Z (f ds)) U;rw [c];exact BK h
def Zvo{U:Fl->Prop}(h:U (.nx (Z.set i .no))):Tl (endT i (.ok (.nx Z))) U:=BK h
end
section
variable{U:D->Prop}
def ZwX{Ψ:Bool->Prop}{m:MB}(h:Tl (getO Z[i]?) λxs=>Tl (m (Z.set i (.im (.lst xs)))) Ψ):Tl (pkB i m Z) Ψ:=BL h
def ints_map:∀ns:List Int,EY (ns.map .int)=.ok ns
 | []=>rfl
 | n::r=>by show (EY (r.map .int)).bind _=_;rw [ints_map r];rfl
def Zto{n:Int}{r:List Int}(h:U (.int (r.foldl max n))):Tl (Ik [.lst ((n::r).map .int)]) U:=by
 refine Ad (x:=.int (r.foldl max n)) ?_ h;show (EY ((n::r).map .int)).bind maxI=_;rw [ints_map];rfl
def Zu0{n:Int}{r:List Int}(h:U (.int (r.foldl min n))):Tl (Im [.lst ((n::r).map .int)]) U:=by
 refine Ad (x:=.int (r.foldl min n)) ?_ h;show (EY ((n::r).map .int)).bind minI=_;rw [ints_map];rfl
def Zws{x:D}{ys:List D}(h1:plain 50 x=true)(h2:Bv 50 ys=true)(h:U (.bl (inD x ys))):Tl (dIn x (.lst ys)) U:=by
 refine Ad (x:=.bl (inD x ys)) ?_ h;show (if (plain 50 x&&Bv 50 ys)=true then Res.ok (D.bl (inD x ys)) else .bad)=_
 rw [h1,h2];rfl
end
end Dl
namespace Mt
def gcdL(g:Nat):List Int->Nat
 | []=>g
 | x::r=>gcdL (Nat.gcd g x.natAbs) r
def Zo3(a b:Nat):Nat.gcd b (a%b)=Nat.gcd a b:=by
 rw [Nat.gcd_comm a b,Nat.gcd_rec b a,Nat.gcd_comm]
def ZmX(a b:Int):Int.gcd b (a%b)=Int.gcd a b:=by
 have e:=Int.gcd_add_mul_left_left b (a%b) (a/b);rw [Int.emod_add_mul_ediv] at e;rw [Int.gcd_comm b,e]
end Mt
end
end
local macro_rules|`(tactic|ac_rfl)=>`(tactic|first|lia|omega)
local macro_rules | `(tactic| walk_at "sm")=>`(tactic| first | assumption | exact Dl.Sm.of64 (by ac_rfl) (by ac_rfl) | exact Dl.Sm.mul (by walk_at "sm") (by walk_at "sm") | exact Dl.Sm.add (by walk_at "sm") (by walk_at "sm") | exact Dl.Sm.sub (by walk_at "sm") (by walk_at "sm") | exact Dl.Sm.neg (by walk_at "sm") | exact Dl.Sm.min (by walk_at "sm") (by walk_at "sm") | exact Dl.Sm.max (by walk_at "sm") (by walk_at "sm"))
local macro_rules | `(tactic| walk_at "mo")=>`(tactic| first | assumption | exact Dl.Zsw (Dl.Sm.of64 (by ac_rfl) (by ac_rfl)) | exact Dl.ZqD (Dl.Sm.of64 (by ac_rfl) (by ac_rfl)) | exact Dl.mulOk_s (by walk_at "sm") (by walk_at "sm") (by decide))
local macro_rules | `(tactic| walk_at "lg")=>`(tactic| first | assumption | decide | exact Dl.Sm.log (by walk_at "sm") (by decide))
local macro_rules | `(tactic| walk_at "w1")=>`(tactic| first
 | ((with_reducible refine Dl.w_v' ?_);refine Dl.w_gC rfl ?_) |(with_reducible first |refine Dl.w_o2 ?_ |refine Dl.w_c ?_ |refine Dl.w_on ?_ |refine Dl.DR ?_ |refine Dl.Fv ?_ |refine Dl.w_sq ?_ |refine Dl.w_gx ?_ |refine Dl.w_st ?_ |refine Dl.ZG ?_ |refine Dl.Zv2 ?_ |refine Dl.Zv5 ?_) 
 | with_reducible refine Dl.Ztr ?_ | with_reducible refine Dl.w_sub ?_ | ((with_reducible refine Dl.w_mul ?_ ?_);walk_at "mo") | ((with_reducible refine Dl.w_mod ?_ ?_);(first | decide | ac_rfl)) | ((with_reducible refine Dl.w_div ?_ ?_ ?_);(first | decide | ac_rfl);walk_at "lg")
 |(with_reducible first |refine Dl.w_lt ?_ |refine Dl.w_le ?_ |refine Dl.w_gt ?_ |refine Dl.w_ge ?_ |refine Dl.ZwB ?_ |refine Dl.ZvM ?_ |refine Dl.ZtK ?_ |refine Dl.Zwm ?_ |refine Dl.ZtE ?_) 
 |(with_reducible first |refine Dl.J8 ?_ |refine Dl.w_gr ?_ |refine Dl.w_eR ?_ |refine Dl.Zuc ?_ |refine Dl.Zv4 ?_ |refine Dl.Vq ?_ |refine Dl.w_fn ?_ |refine Dl.w_o1 ?_ |refine Dl.Zum ?_ |refine Dl.w_eOr ?_ |refine Dl.Zuy ?_ |refine Dl.Zv8 ?_ |refine Dl.ZsJ ?_) 
 |(with_reducible first |refine Dl.Zsr ?_ |refine Dl.Zqz ?_ |refine Dl.ZuC ?_ |refine Dl.Zu9 ?_ |refine Dl.ZwQ ?_ |refine Dl.Zwp ?_ |refine Dl.w_min ?_ |refine Dl.Xm ?_ |refine Dl.w_tupT ?_ |refine Dl.ZuF ?_ |refine Dl.Zut ?_ |refine Dl.Zwh ?_) 
 |(with_reducible first |refine Dl.ZwD ?_ |refine Dl.ZwR ?_ |refine Dl.ZvJ ?_ |refine Dl.ZuO ?_ |refine Dl.ZuB ?_ |refine Dl.Zt3 ?_ |refine Dl.w_iv ?_ |refine Dl.ZwH ?_ |refine Dl.Zwc ?_ |refine Dl.w_r1 ?_) | ((with_reducible refine Dl.XM ?_ ?_);ac_rfl) |(with_reducible first |refine Dl.w_gN ?_ |refine Dl.ZwP ?_ |refine Dl.ZwE ?_) 
 | ((with_reducible refine Dl.ZwG ?_ ?_);exact rfl) | ((with_reducible refine Dl.w_gUL ?_ ?_);exact rfl) |(with_reducible first |refine Dl.Nr ?_ |refine Dl.Zwn ?_ |refine Dl.ZvT ?_ |refine Dl.O8 ?_ |refine Dl.ZwN ?_ |refine Dl.w_zip ?_ |refine Dl.w_zip2 ?_ |refine Dl.w_zipTL ?_ |refine Dl.w_zipLT ?_ |refine Dl.w_zipTT ?_ |refine Dl.w_iz3 ?_ |refine Dl.w_zip3T ?_ |refine Dl.w_lz3T ?_ |refine Dl.w_mLst ?_ |refine Dl.w_enum ?_ |refine Dl.w_enum1 ?_ |refine Dl.Lw ?_) 
 |(with_reducible first |refine Dl.w_retN ?_ |refine Dl.w_eN ?_ |refine Dl.w_brk ?_ |refine Dl.w_cnt ?_ |refine Dl.w_gb ?_ |refine Dl.w_gc ?_ |refine Dl.Zwr ?_ |refine Dl.Ztz ?_ |refine Dl.w_p6 ?_ |refine Dl.w_p8 ?_ |refine Dl.w_p20 ?_) | ((with_reducible refine Dl.w_pow ?_ ?_ ?_ ?_);decide;decide;decide) | ((with_reducible refine Dl.w_shl ?_ ?_ ?_ ?_);decide;decide;decide) | ((with_reducible refine Dl.w_shr ?_ ?_);ac_rfl) | with_reducible refine Dl.ZvL ?_
 |(with_reducible first |refine Dl.w_tx ?_ |refine Dl.w_tc ?_ |refine Dl.w_tb ?_ |refine Dl.w_tr ?_ |refine Dl.w_max3 ?_ |refine Dl.w_sum ?_ |refine Dl.w_rev ?_) | ((with_reducible refine Dl.ZwX ?_);refine Dl.w_gO rfl ?_) | ((with_reducible refine Dl.w_pk ?_);refine Dl.w_gO rfl ?_) |(with_reducible first |refine Dl.w_scI ?_ |refine Dl.w_scB ?_ |refine Dl.Zvo ?_ |refine Dl.Zwa ?_ |refine Dl.Zvk ?_) | ((with_reducible refine Dl.Zvw ?_);refine Dl.w_gO rfl ?_) | ((with_reducible refine Dl.Zug ?_);refine Dl.w_gO rfl ?_) | ((with_reducible refine Dl.Zwt ?_);refine Dl.Ad rfl ?_) | ((with_reducible refine Dl.ZvZ ?_);refine Dl.Ad rfl ?_) | ((with_reducible refine Dl.w_lenr ?_);refine Dl.Ad rfl ?_) | with_reducible refine Dl.BK ?_ | with_reducible refine Dl.BL ?_)
local macro_rules | `(tactic| walk_at "wi")=>`(tactic| first | ((with_reducible refine Dl.VH ?_ ?_);exact rfl) | ((with_reducible refine Dl.Vb ?_ ?_);exact rfl) | ((with_reducible refine Dl.w_dT ?_ ?_);first | assumption | ac_rfl) | ((with_reducible refine Dl.w_dF ?_ ?_);first | assumption | ac_rfl) | ((with_reducible refine Dl.w_nT ?_ ?_);first | assumption | ac_rfl) | ((with_reducible refine Dl.w_nF ?_ ?_);first | assumption | ac_rfl))
local macro_rules | `(tactic| walk_at "wr")=>`(tactic| (refine Dl.Ad rfl ?_))
local macro_rules | `(tactic| walk_at "w")=>`(tactic| (repeat (first | walk_at "w1" | walk_at "wi"));try dsimp only [List.set_cons_zero,List.set_cons_succ,Dl.ev0,Dl.evF,Dl.noA,Dl.Bu,Dl.imOf,List.getElem?_cons_zero,List.getElem?_cons_succ,Nat.reduceAdd,Nat.reduceSub])
local macro_rules | `(tactic| symm)=>`(tactic| walk_at "w")
namespace My
open PySem Dl
def tabC:List (Str×Str×Bool):=[("BadFloor","NoRow",false),("BadPattern","NoRow",false),("BadThing","NoRow",false),("BadTriangle","NoRow",false),("NoRow","NoRow",true)]
def tabT:List (Str×String×Bool):=[]
def objs:List Str:=["Plain","Shaded","Patterned","Glass"]
def Qh:List D->Res D:=fn 2
  (sq (ifs (trb (o2 dLt (v 1) (on bLen (Aa (v 0) Ab))))
  (ret (o2 dIx (v 0) (v 1)))
  nop)
  (ret (c (.int 0))))
def Fi:List D->Res D:=fn 3
  (sq (ifs (bAnd (trb (o2 dGe (v 0) (o2 dShl (c (.int 1)) (c (.int 90))))) (bAnd (trb (o2 dEq (o2 Cz (v 0) (c (.int 2))) (c (.int 1)))) (trb (o2 dGt (o2 dShr (v 0) (o2 BX (c (.int 1)) (o2 Ft (c (.int 31)) (v 1)))) (c (.int 0))))))
  (ret (o2 Cz (o2 dShr (v 0) (o2 BX (c (.int 1)) (o2 Ft (c (.int 31)) (v 1)))) (c (.int 2147483648))))
  nop)
  (sq (st 2 (o2 Cz (o2 Ft (o2 BX (o2 BX (v 0) (o2 Ft (c (.int 7919)) (v 1))) (c (.int 1))) (c (.int 48271))) (c (.int 2147483647))))
  (sq (st 2 (o2 Cz (o2 Ft (v 2) (o2 BX (o2 IW (v 2) (c (.int 1009))) (c (.int 69621)))) (c (.int 2147483647))))
  (ret (o2 Cz (o2 Ft (v 2) (o2 BX (o2 BX (o2 IW (v 2) (c (.int 2003))) (c (.int 39373))) (v 1))) (c (.int 2147483629)))))))
def Rc:List D->Res D:=fn 9
  (sq (st 2 (mls (Aa (c (.str " / ")) (Aa (c (.str "0 0 1 1")) (Aa (c (.str "plain")) (Aa (c (.str "glass")) (Aa (c (.str "shaded")) (Aa (c (.str "patterned")) (Aa (c (.str "floor 3 3")) (Aa (c (.str "ground 2")) (Aa (c (.str "spots 4,4")) Ab)))))))))))
  (sq (st 2 (o2 BX (v 2) (mls (Aa (c (.str "1/2")) (Aa (c (.str ",1")) (Aa (c (.str ";1,1")) (Aa (c (.str " 1")) (Aa (c (.str "-")) (Aa (c (.str "1 1 1")) Ab)))))))))
  (sq (for_ (r1 (Aa (o2 Cz (on Fi (Aa (v 1) (Aa (c (.int 20)) Ab))) (c (.int 6))) Ab)) (gN 3)
  (sq (st 4 (o2 Cz (on Fi (Aa (v 1) (Aa (o2 BX (c (.int 21)) (o2 Ft (c (.int 3)) (v 3))) Ab))) (o2 BX (on Hy (Aa (v 0) Ab)) (c (.int 1)))))
  (sq (st 5 (on Fi (Aa (v 1) (Aa (o2 BX (c (.int 22)) (o2 Ft (c (.int 3)) (v 3))) Ab))))
  (sq (st 6 (o2 dIxT (c (.str "0123456789-/,; \nplgx")) (o2 Cz (o2 IW (v 5) (c (.int 4))) (c (.int 20)))))
  (sq (asg (gU 2 (gs1 (gN 7) (gs1 (gN 8) gs0))) (o2 dIx (mls (Aa (mtp (Aa (v 6) (Aa (c (.int 0)) Ab))) (Aa (mtp (Aa (c (.str "")) (Aa (c (.int 1)) Ab))) (Aa (mtp (Aa (v 6) (Aa (c (.int 1)) Ab))) (Aa (mtp (Aa (o2 dIx (v 2) (o2 Cz (o2 IW (v 5) (c (.int 4))) (c (.int 15)))) (Aa (c (.int 0)) Ab))) Ab))))) (o2 Cz (v 5) (c (.int 4)))))
  (sq (st 8 (o2 BX (v 8) (o2 Ft (o2 IW (o2 Cz (on Fi (Aa (v 1) (Aa (o2 BX (c (.int 23)) (o2 Ft (c (.int 3)) (v 3))) Ab))) (c (.int 8))) (c (.int 7))) (c (.int 4)))))
  (st 0 (o2 BX (o2 BX (cutT (v 0) pno (pso (v 4))) (v 7)) (cutT (v 0) (pso (o2 BX (v 4) (v 8))) pno)))))))))
  (ret (v 0)))))
def Ql:List D->Res D:=fn 2
  (sq (whl fuel (trb (o2 dNe (v 1) (c (.int 0))))
  (par 0 1 (v 1) (o2 Cz (v 0) (v 1))))
  (ret (on bAbs (Aa (v 0) Ab))))
def Gz:List D->Res D:=fn 2
  (sq (st 1 (v 0))
  (sq (ifs (trb (o2 dEq (cutT (v 0) pno (pso (c (.int 1)))) (c (.str "-"))))
  (st 1 (cutT (v 0) (pso (c (.int 1))) pno))
  nop)
  (sq (ifs (bOr (trb (o2 dLt (on Hy (Aa (v 1) Ab)) (c (.int 1)))) (bOr (trb (o2 dGt (on Hy (Aa (v 1) Ab)) (c (.int 30)))) (bNot (trb (on bAll (Aa (comp (ivT (v 1)) 1 [] (gN 0) yes (o2 dInT (v 0) (c (.str "0123456789")))) Ab))))))
  (ret (c .non))
  nop)
  (sq (ifs (bAnd (trb (o2 dEq (o2 dIxT (v 1) (c (.int 0))) (c (.str "0")))) (trb (o2 dNe (v 0) (c (.str "0")))))
  (ret (c .non))
  nop)
  (ret (on JW (Aa (v 0) Ab)))))))
def G3:List D->Res D:=fn 2
  (sq (st 1 (comp (iv (sD Bh (v 0) (c (.str "/")))) 1 [] (gN 0) yes (on Gz (Aa (v 0) Ab))))
  (sq (ifs (bOr (trb (o2 dIn (c .non) (v 1))) (trb (o2 dGt (on bLen (Aa (v 1) Ab)) (c (.int 2)))))
  (ret (c .non))
  nop)
  (sq (ifs (trb (o2 dEq (on bLen (Aa (v 1) Ab)) (c (.int 1))))
  (ret (mtp (Aa (o2 dIx (v 1) (c (.int 0))) (Aa (c (.int 1)) Ab))))
  nop)
  (sq (ifs (bOr (trb (o2 dLt (o2 dIx (v 1) (c (.int 1))) (c (.int 2)))) (trb (o2 dNe (on Ql (Aa (o2 dIx (v 1) (c (.int 0))) (Aa (o2 dIx (v 1) (c (.int 1))) Ab))) (c (.int 1)))))
  (ret (c .non))
  nop)
  (ret (mtp (Aa (o2 dIx (v 1) (c (.int 0))) (Aa (o2 dIx (v 1) (c (.int 1))) Ab))))))))
def Q0:List D->Res D:=fn 4
  (sq (stO 1 (mls Ab))
  (sq (for_ (iv (v 0)) (gN 2)
  (sq (st 3 (comp (iv (sD Bh (v 2) (c (.str ",")))) 1 [] (gN 0) yes (on Gz (Aa (v 0) Ab))))
  (sq (ifs (pkB 1 (bOr (trb (o2 dIn (c .non) (v 3))) (bOr (trb (o2 dNe (on bLen (Aa (v 3) Ab)) (c (.int 2)))) (bOr (bNot (trb (H9 dLe dLe dLe (c (.int 1)) (on Im (Aa (v 3) Ab)) (on Ik (Aa (v 3) Ab)) (c (.int 7))))) (trb (o2 dIn (v 3) (v 1)))))))
  (ret (c (.bl false)))
  nop)
  (app 1 (v 3)))))
  (frz 1 (ret (chain dLe dLe (c (.int 1)) (on bLen (Aa (v 1) Ab)) (c (.int 16)))))))
def Q9:List D->Res D:=fn 4
  (sq (st 1 (on bLen (Aa (sD Bh (o2 dIx (v 0) (c (.int 0))) (c (.str " "))) Ab)))
  (sq (for_ (iv (v 0)) (gN 2)
  (sq (st 3 (comp (iv (sD Bh (v 2) (c (.str " ")))) 1 [] (gN 0) yes (on Gz (Aa (v 0) Ab))))
  (ifs (bOr (trb (o2 dIn (c .non) (v 3))) (bOr (trb (o2 dNe (on bLen (Aa (v 3) Ab)) (v 1))) (bOr (bNot (trb (chain dLe dLe (c (.int 4)) (v 1) (c (.int 7))))) (bOr (trb (o2 dLt (o2 dIx (v 3) (c (.int 2))) (c (.int 1)))) (trb (o2 dLt (o2 dIx (v 3) (c (.int 3))) (c (.int 1))))))))
  (ret (o1 dNeg (c (.int 1))))
  nop)))
  (ret (o2 dSub (v 1) (c (.int 4))))))
def Pr:List D->Res D:=fn 2
  (sq (st 1 (comp (iv (sD Bh (v 0) (c (.str ";")))) 1 [] (gN 0) yes (comp (iv (sD Bh (v 0) (c (.str ",")))) 1 [] (gN 0) yes (on G3 (Aa (v 0) Ab)))))
  (sq (ifs (bOr (trb (o2 dNin (on bLen (Aa (v 1) Ab)) (mls (Aa (c (.int 1)) (Aa (c (.int 2)) (Aa (c (.int 4)) (Aa (c (.int 8)) (Aa (c (.int 16)) Ab)))))))) (trb (o2 dNin (on bLen (Aa (o2 dIx (v 1) (c (.int 0))) Ab)) (mls (Aa (c (.int 1)) (Aa (c (.int 2)) (Aa (c (.int 4)) (Aa (c (.int 8)) (Aa (c (.int 16)) Ab)))))))))
  (ret (c (.bl false)))
  nop)
  (ret (on bAll (Aa (comp (iv (v 1)) 1 [1] (gN 0) yes (eAnd (o2 dEq (on bLen (Aa (v 0) Ab)) (on bLen (Aa (o2 dIx (v 1) (c (.int 0))) Ab))) (o2 dNin (c .non) (v 0)))) Ab)))))
def Qi:List D->Res D:=fn 5
  (sq (st 1 (sD Bh (v 0) (c (.str " / "))))
  (sq (ifs (trb (o2 dNe (on bLen (Aa (v 1) Ab)) (c (.int 4))))
  (ret (c (.bl false)))
  nop)
  (sq (st 2 (on Q9 (Aa (cut (v 1) (pso (c (.int 1))) pno) Ab)))
  (sq (st 3 (sD Bh (o2 dIx (v 1) (c (.int 0))) (c (.str " "))))
  (sq (ifs (trb (o2 dEq (o2 dIx (v 3) (c (.int 0))) (c (.str "shaded"))))
  (ret (eAnd (o2 dEq (on bLen (Aa (v 3) Ab)) (c (.int 1))) (o2 dGt (v 2) (c (.int 0)))))
  nop)
  (sq (ifs (trb (o2 dEq (o2 dIx (v 3) (c (.int 0))) (c (.str "plain"))))
  (ret (eAnd (o2 dEq (on bLen (Aa (v 3) Ab)) (c (.int 2))) (eAnd (o2 dGe (v 2) (c (.int 0))) (o1 Ke (on G3 (Aa (o2 dIx (v 3) (c (.int 1))) Ab))))))
  nop)
  (sq (ifs (trb (o2 dEq (o2 dIx (v 3) (c (.int 0))) (c (.str "patterned"))))
  (ret (eAnd (o2 dEq (on bLen (Aa (v 3) Ab)) (c (.int 2))) (eAnd (o2 dGt (v 2) (c (.int 1))) (on Pr (Aa (o2 dIx (v 3) (c (.int 1))) Ab)))))
  nop)
  (sq (ifs (bOr (trb (o2 dNe (o2 dIx (v 3) (c (.int 0))) (c (.str "glass")))) (bOr (trb (o2 dNe (on bLen (Aa (v 3) Ab)) (c (.int 3)))) (bOr (trb (o2 dLt (v 2) (c (.int 0)))) (trb (o1 dIsN (on G3 (Aa (o2 dIx (v 3) (c (.int 1))) Ab)))))))
  (ret (c (.bl false)))
  nop)
  (sq (st 4 (on G3 (Aa (o2 dIx (v 3) (c (.int 2))) Ab)))
  (ret (eAnd (o1 Ke (v 4)) (chain dLe dLe (c (.int 0)) (o2 dIx (v 4) (c (.int 0))) (o2 dIx (v 4) (c (.int 1)))))))))))))))
def Ol:List D->Res D:=fn 4
  (sq (st 2 (sD Bh (v 1) (c (.str " "))))
  (sq (ifs (trb (o2 dGt (v 0) (c (.int 2))))
  (ret (on Qi (Aa (v 1) Ab)))
  nop)
  (sq (ifs (trb (o2 dNe (o2 dIx (v 2) (c (.int 0))) (o2 dIx (mls (Aa (c (.str "floor")) (Aa (c (.str "ground")) (Aa (c (.str "spots")) Ab)))) (v 0))))
  (ret (c (.bl false)))
  nop)
  (sq (ifs (trb (o2 dEq (v 0) (c (.int 2))))
  (ret (on Q0 (Aa (cut (v 2) (pso (c (.int 1))) pno) Ab)))
  nop)
  (sq (ifs (trb (o2 dEq (v 0) (c (.int 1))))
  (ret (eAnd (o2 dEq (on bLen (Aa (v 2) Ab)) (c (.int 2))) (o1 Ke (on G3 (Aa (o2 dIx (v 2) (c (.int 1))) Ab)))))
  nop)
  (sq (st 3 (comp (iv (cut (v 2) (pso (c (.int 1))) pno)) 1 [] (gN 0) yes (on Gz (Aa (v 0) Ab))))
  (ret (eAnd (o2 dEq (on bLen (Aa (v 3) Ab)) (c (.int 2))) (eAnd (o2 dNin (c .non) (v 3)) (H9 dLe dLe dLe (c (.int 1)) (on Im (Aa (v 3) Ab)) (on Ik (Aa (v 3) Ab)) (c (.int 64))))))))))))
def S8:List D->Res D:=fn 3
  (sq (st 1 (sD Bh (v 0) (c (.str "\n"))))
  (sq (for_ (r1 (Aa (on bMax (Aa (c (.int 3)) (Aa (on bLen (Aa (v 1) Ab)) Ab))) Ab)) (gN 2)
  (ifs (bOr (trb (o2 dGe (v 2) (on bLen (Aa (v 1) Ab)))) (bNot (trb (on Ol (Aa (v 2) (Aa (o2 dIx (v 1) (v 2)) Ab))))))
  (ret (v 2))
  nop))
  (ret (c .non))))
def Ra:List D->Res D:=fn 3
  (sq (stO 1 (mls (Aa (o2 BX (o2 BX (o2 BX (c (.str "floor ")) (on bStr (Aa (o2 BX (c (.int 1)) (o2 Cz (on Fi (Aa (v 0) (Aa (c (.int 1)) Ab))) (c (.int 64)))) Ab))) (c (.str " "))) (on bStr (Aa (o2 BX (c (.int 1)) (o2 Cz (on Fi (Aa (v 0) (Aa (c (.int 2)) Ab))) (c (.int 64)))) Ab))) Ab)))
  (sq (app 1 (o2 BX (c (.str "ground ")) (o2 dIx (mls (Aa (c (.str "0")) (Aa (c (.str "-3")) (Aa (c (.str "1/2")) (Aa (c (.str "-7/9")) Ab))))) (o2 Cz (on Fi (Aa (v 0) (Aa (c (.int 3)) Ab))) (c (.int 4))))))
  (sq (app 1 (o2 BX (c (.str "spots ")) (o2 dIx (mls (Aa (c (.str "4,4")) (Aa (c (.str "1,1 7,7")) (Aa (c (.str "2,2 6,2 2,6 6,6")) Ab)))) (o2 Cz (on Fi (Aa (v 0) (Aa (c (.int 4)) Ab))) (c (.int 3))))))
  (sq (stO 2 (mls (Aa (c (.str "plain 1/2 / 0 0 4 1 / 8 0 4 1 / 0 8 4 1")) (Aa (c (.str "shaded / 0 0 4 1 5 / 8 0 4 1 -6 / 0 8 4 2 7")) Ab))))
  (sq (app 2 (c (.str "patterned 1,0;1/2,-3 / 0 0 4 1 5 6 / 8 0 4 1 -6 0 / 0 8 4 2 7 9")))
  (sq (app 2 (c (.str "glass 3 1/4 / 0 0 4 1 / 8 0 4 1 / 0 8 4 1")))
  (frz 2 (frz 1 (ret (o2 BX (v 1) (comp (r1 (Aa (o2 Cz (on Fi (Aa (v 0) (Aa (c (.int 9)) Ab))) (c (.int 5))) Ab)) 1 [2,0] (gN 0) yes (o2 dIx (v 1) (o2 Cz (on Fi (Aa (v 2) (Aa (o2 BX (c (.int 10)) (v 0)) Ab))) (c (.int 4)))))))))))))))
def Mw:List D->Res D:=fn 1
  (ifs (bNot (trb (on bIsi (Aa (v 0) (Aa (c (.ty "str")) Ab)))))
  (rsP "NoRow" (Aa (c (.int 0)) Ab))
  nop)
def JL:List D->Res D:=fn 1
  (ret (eAnd (on bIsi (Aa (v 0) (Aa (c (.ty "int")) Ab))) (eNot (on bIsi (Aa (v 0) (Aa (c (.ty "bool")) Ab))))))
def Jo:List D->Res D:=fn 3
  (ret (eAnd (on JL (Aa (v 0) Ab)) (eAnd (o2 dGe (v 0) (v 1)) (o2 dLe (v 0) (v 2)))))
def Q7:List D->Res D:=fn 2
  (ifs (bOr (bNot (trb (on Jo (Aa (v 0) (Aa (c (.int 1)) (Aa (c (.int 64)) Ab)))))) (bNot (trb (on Jo (Aa (v 1) (Aa (c (.int 1)) (Aa (c (.int 64)) Ab)))))))
  (rse "BadFloor" (Aa (c (.str "a floor has 1 to 64 cells in a row, and 1 to 64 rows")) Ab))
  nop)
def Gv:List D->Res D:=fn 3
  (sq (st 2 (sD Bh (v 1) (c (.str " "))))
  (sq (ifs (trb (o2 dNe (o2 dIx (v 2) (c (.int 0))) (v 0)))
  (rsP "NoRow" (Aa (c (.int 0)) Ab))
  nop)
  (ret (cut (v 2) (pso (c (.int 1))) pno))))
def Ih:List D->Res D:=fn 4
  (sq (st 3 (on Gv (Aa (v 0) (Aa (v 1) Ab))))
  (sq (ifs (trb (o2 dNe (on bLen (Aa (v 3) Ab)) (v 2)))
  (rsP "NoRow" (Aa (c (.int 0)) Ab))
  nop)
  (ret (v 3))))
def RT:List D->Res D:=fn 1
  (sq (ifs (bOr (trb (o2 dEq (v 0) (c (.str "")))) (trb (o2 dGt (on Hy (Aa (v 0) Ab)) (c (.int 30)))))
  (ret (c (.bl false)))
  nop)
  (sq (ifs (bAnd (trb (sD Od (v 0) (c (.str "0")))) (trb (o2 dNe (v 0) (c (.str "0")))))
  (ret (c (.bl false)))
  nop)
  (ret (on bAll (Aa (comp (ivT (v 0)) 1 [] (gN 0) yes (o2 dInT (v 0) (c (.str "0123456789")))) Ab)))))
def Eo:List D->Res D:=fn 2
  (sq (st 1 (ife (trb (sD Od (v 0) (c (.str "-")))) (cutT (v 0) (pso (c (.int 1))) pno) (v 0)))
  (sq (ifs (bOr (bNot (trb (on RT (Aa (v 1) Ab)))) (trb (o2 dEq (v 0) (c (.str "-0")))))
  (rsP "NoRow" (Aa (c (.int 0)) Ab))
  nop)
  (ret (on JW (Aa (v 0) Ab)))))
def N8:List D->Res D:=fn 3
  (ret (Cr (iv (on Ih (Aa (v 0) (Aa (v 1) (Aa (v 2) Ab))))) 1 [] (gN 0) yes (on Eo (Aa (v 0) Ab))))
def GZ:List D->Res D:=fn 2
  (sq (st 1 (on N8 (Aa (c (.str "floor")) (Aa (v 0) (Aa (c (.int 2)) Ab)))))
  (sq (drp (on Q7 (Aa (o2 dIx (v 1) (c (.int 0))) (Aa (o2 dIx (v 1) (c (.int 1))) Ab))))
  (ret (v 1))))
def QB:List D->Res D:=fn 5
  (sq (st 1 (c (.int 0)))
  (sq (for_ (iv (v 0)) (gN 2)
  (sq (st 3 (on bAbs (Aa (v 2) Ab)))
  (whl fuel (trb (o2 dNe (v 3) (c (.int 0))))
  (sq (st 4 (o2 Cz (v 1) (v 3)))
  (sq (st 1 (v 3))
  (st 3 (v 4)))))))
  (ret (v 1))))
def Ge:List D->Res D:=fn 1
  (sq (ifs (bOr (bNot (trb (on bIsi (Aa (v 0) (Aa (c (.ty "tuple")) Ab))))) (trb (o2 dNe (on bLen (Aa (v 0) Ab)) (c (.int 2)))))
  (ret (c (.bl false)))
  nop)
  (sq (ifs (bOr (bNot (trb (on JL (Aa (o2 dIx (v 0) (c (.int 0))) Ab)))) (bNot (trb (on JL (Aa (o2 dIx (v 0) (c (.int 1))) Ab)))))
  (ret (c (.bl false)))
  nop)
  (ret (eAnd (o2 dGe (o2 dIx (v 0) (c (.int 1))) (c (.int 1))) (o2 dEq (on QB (Aa (v 0) Ab)) (c (.int 1)))))))
def Er:List D->Res D:=fn 3
  (sq (ifs (trb (o2 Jw (c (.str "/")) (v 0)))
  (ret (mtp (Aa (on Eo (Aa (v 0) Ab)) (Aa (c (.int 1)) Ab))))
  nop)
  (sq (st 1 (sD Ky (v 0) (c (.str "/"))))
  (sq (st 2 (mtp (Aa (on Eo (Aa (o2 dIx (v 1) (c (.int 0))) Ab)) (Aa (on Eo (Aa (o2 dIx (v 1) (c (.int 2))) Ab)) Ab))))
  (sq (ifs (bOr (trb (o2 dEq (o2 dIx (v 2) (c (.int 1))) (c (.int 1)))) (bNot (trb (on Ge (Aa (v 2) Ab)))))
  (rsP "NoRow" (Aa (c (.int 0)) Ab))
  nop)
  (ret (v 2))))))
def Jm:List D->Res D:=fn 1
  (ret (on Er (Aa (o2 dIx (on Ih (Aa (c (.str "ground")) (Aa (v 0) (Aa (c (.int 1)) Ab)))) (c (.int 0))) Ab)))
def Nx:List D->Res D:=fn 1
  (sq (ifs (bOr (bNot (trb (on bIsi (Aa (v 0) (Aa (c (.ty "tuple")) Ab))))) (trb (o2 dNe (on bLen (Aa (v 0) Ab)) (c (.int 2)))))
  (ret (c (.bl false)))
  nop)
  (ret (eAnd (on Jo (Aa (o2 dIx (v 0) (c (.int 0))) (Aa (c (.int 1)) (Aa (c (.int 7)) Ab)))) (on Jo (Aa (o2 dIx (v 0) (c (.int 1))) (Aa (c (.int 1)) (Aa (c (.int 7)) Ab)))))))
def Q6:List D->Res D:=fn 1
  (sq (ifs (bOr (bNot (trb (on bIsi (Aa (v 0) (Aa (c (.ty "list")) Ab))))) (bOr (trb (o2 dLt (on bLen (Aa (v 0) Ab)) (c (.int 1)))) (trb (o2 dGt (on bLen (Aa (v 0) Ab)) (c (.int 16))))))
  (rse "BadFloor" (Aa (c (.str "spots are a list of 1 to 16 tuples")) Ab))
  nop)
  (sq (ifs (bNot (trb (on bAll (Aa (comp (iv (v 0)) 1 [] (gN 0) yes (on Nx (Aa (v 0) Ab))) Ab))))
  (rse "BadFloor" (Aa (c (.str "a spot is a tuple of two whole numbers from 1 to 7")) Ab))
  nop)
  (ifs (trb (o2 dNe (o1 TV (v 0)) (on bLen (Aa (v 0) Ab))))
  (rse "BadFloor" (Aa (c (.str "the spots of a list are all unlike")) Ab))
  nop)))
def Jg:List D->Res D:=fn 1
  (ret (on bTup (Aa (Cr (iv (sD Bh (v 0) (c (.str ",")))) 1 [] (gN 0) yes (on Eo (Aa (v 0) Ab))) Ab)))
def JS:List D->Res D:=fn 2
  (sq (st 1 (Cr (iv (on Gv (Aa (c (.str "spots")) (Aa (v 0) Ab)))) 1 [] (gN 0) yes (on Jg (Aa (v 0) Ab))))
  (sq (drp (on Q6 (Aa (v 1) Ab)))
  (ret (v 1))))
def Oc:List D->Res D:=fn 3
  (grp 1 2 0 (trb (o2 dEq (v 2) (c (.str "/")))))
def Js:List D->Res D:=fn 2
  (sq (ifs (trb (o2 dLt (on bLen (Aa (v 0) Ab)) (c (.int 4))))
  (rsP "NoRow" (Aa (c (.int 0)) Ab))
  nop)
  (sq (st 1 (Cr (iv (v 0)) 1 [] (gN 0) yes (on Eo (Aa (v 0) Ab))))
  (ret (mtp (Aa (o2 dIx (v 1) (c (.int 0))) (Aa (o2 dIx (v 1) (c (.int 1))) (Aa (o2 dIx (v 1) (c (.int 2))) (Aa (o2 dIx (v 1) (c (.int 3))) (Aa (on bTup (Aa (cut (v 1) (pso (c (.int 4))) pno) Ab)) Ab)))))))))
def Mx:List D->Res D:=fn 2
  (for_ (iv (v 0)) (gN 1)
  (ifs (trb (o2 dLe (o2 dIx (v 1) (c (.int 2))) (c (.int 0))))
  (rse "BadTriangle" (Aa (c (.str "only corners with w above 0 are thrown onto the floor")) Ab))
  nop))
def Qg:List D->Res D:=fn 1
  (sq (ifs (bOr (bNot (trb (on bIsi (Aa (v 0) (Aa (c (.ty "tuple")) Ab))))) (trb (o2 dGt (on bLen (Aa (v 0) Ab)) (c (.int 3)))))
  (ret (c (.bl false)))
  nop)
  (ret (on bAll (Aa (comp (iv (v 0)) 1 [] (gN 0) yes (on JL (Aa (v 0) Ab))) Ab))))
def N5:List D->Res D:=fn 1
  (sq (ifs (bOr (bNot (trb (on bIsi (Aa (v 0) (Aa (c (.ty "tuple")) Ab))))) (trb (o2 dNe (on bLen (Aa (v 0) Ab)) (c (.int 5)))))
  (ret (c (.bl false)))
  nop)
  (sq (ifs (bNot (trb (on bAll (Aa (comp (iv (cut (v 0) pno (pso (c (.int 4))))) 1 [] (gN 0) yes (on JL (Aa (v 0) Ab))) Ab))))
  (ret (c (.bl false)))
  nop)
  (ret (eAnd (o2 dGe (o2 dIx (v 0) (c (.int 3))) (c (.int 1))) (on Qg (Aa (o2 dIx (v 0) (c (.int 4))) Ab))))))
def Oj:List D->Res D:=fn 2
  (sq (ifs (bOr (bNot (trb (on bIsi (Aa (v 0) (Aa (c (.ty "tuple")) Ab))))) (trb (o2 dNe (on bLen (Aa (v 0) Ab)) (c (.int 3)))))
  (rse "BadTriangle" (Aa (c (.str "a triangle is a tuple of three corners")) Ab))
  nop)
  (for_ (iv (v 0)) (gN 1)
  (sq (ifs (bNot (trb (on N5 (Aa (v 1) Ab))))
  (rse "BadTriangle" (Aa (c (.str "a corner is a tuple (x, y, w, h, values) of whole numbers, h from 1 on")) Ab))
  nop)
  (ifs (trb (o2 dNe (on bLen (Aa (o2 dIx (v 1) (c (.int 4))) Ab)) (on bLen (Aa (o2 dIx (o2 dIx (v 0) (c (.int 0))) (c (.int 4))) Ab))))
  (rse "BadTriangle" (Aa (c (.str "the corners of a triangle have as many values each")) Ab))
  nop))))
def Fx:List D->Fs->Res Fs:=fnI 2
  (iDrp (on Oj (Aa (v 1) Ab))
  (iDrp (on Mx (Aa (v 1) Ab))
  (iSet "triangle" (v 1)
  iEnd)))
def JN:List D->Res D:=fn 1
  (ifs (bNot (trb (on Ge (Aa (v 0) Ab))))
  (rse "BadThing" (Aa (c (.str "a colour is a fraction in lowest terms")) Ab))
  nop)
def Og:List D->Res D:=fn 1
  (ifs (bOr (bNot (trb (on Ge (Aa (v 0) Ab)))) (bOr (trb (o2 dLt (o2 dIx (v 0) (c (.int 0))) (c (.int 0)))) (trb (o2 dGt (o2 dIx (v 0) (c (.int 0))) (o2 dIx (v 0) (c (.int 1)))))))
  (rse "BadThing" (Aa (c (.str "a part is a fraction in lowest terms, from 0 to 1")) Ab))
  nop)
def Ot:List D->Fs->Res Fs:=fnI 4
  (iSup Fx (Aa (v 1) Ab)
  (iDrp (on JN (Aa (v 2) Ab))
  (iDrp (on Og (Aa (v 3) Ab))
  (iSet "colour" (v 2)
  (iSet "part" (v 3)
  iEnd)))))
def Oa:List D->Res D:=fn 2
  (sq (ifs (bOr (bNot (trb (on bIsi (Aa (v 0) (Aa (c (.ty "list")) Ab))))) (trb (o2 dNin (on bLen (Aa (v 0) Ab)) (c (.tup [.int 1,.int 2,.int 4,.int 8,.int 16])))))
  (rse "BadPattern" (Aa (c (.str "a pattern is a list of 1, 2, 4, 8 or 16 rows")) Ab))
  nop)
  (for_ (iv (v 0)) (gN 1)
  (sq (ifs (bOr (bNot (trb (on bIsi (Aa (v 1) (Aa (c (.ty "list")) Ab))))) (trb (o2 dNin (on bLen (Aa (v 1) Ab)) (c (.tup [.int 1,.int 2,.int 4,.int 8,.int 16])))))
  (rse "BadPattern" (Aa (c (.str "a row of a pattern is a list of 1, 2, 4, 8 or 16 fractions")) Ab))
  nop)
  (sq (ifs (trb (o2 dNe (on bLen (Aa (v 1) Ab)) (on bLen (Aa (o2 dIx (v 0) (c (.int 0))) Ab))))
  (rse "BadPattern" (Aa (c (.str "the rows of a pattern have as many fractions each")) Ab))
  nop)
  (ifs (bNot (trb (on bAll (Aa (comp (iv (v 1)) 1 [] (gN 0) yes (on Ge (Aa (v 0) Ab))) Ab))))
  (rse "BadPattern" (Aa (c (.str "what stands in a pattern is a fraction in lowest terms")) Ab))
  nop)))))
def Jr:List D->Res D:=fn 2
  (ifs (trb (o2 dLt (on bLen (Aa (o2 dIx (o2 dIx (v 0) (c (.int 0))) (c (.int 4))) Ab)) (v 1)))
  (rse "BadThing" (Aa (fstr "the corners of such a thing have " " values or more" (v 1)) Ab))
  nop)
def M7:List D->Res D:=fn 1
  (ret (comp (iv (v 0)) 1 [] (gN 0) yes (on bLst (Aa (v 0) Ab))))
def Ly:List D->Fs->Res Fs:=fnI 3
  (iSup Fx (Aa (v 1) Ab)
  (iDrp (on Jr (Aa (v 1) (Aa (c (.int 2)) Ab)))
  (iDrp (on Oa (Aa (v 2) Ab))
  (iSet "pattern" (on M7 (Aa (v 2) Ab))
  iEnd))))
def Mq:List D->Fs->Res Fs:=fnI 3
  (iSup Fx (Aa (v 1) Ab)
  (iDrp (on JN (Aa (v 2) Ab))
  (iSet "colour" (v 2)
  iEnd)))
def Lh:List D->Fs->Res Fs:=fnI 2
  (iSup Fx (Aa (v 1) Ab)
  (iDrp (on Jr (Aa (v 1) (Aa (c (.int 1)) Ab)))
  iEnd))
def PP:List D->Res D:=fn 1
  (ret (Cr (iv (sD Bh (v 0) (c (.str ";")))) 1 [] (gN 0) yes (Cr (iv (sD Bh (v 0) (c (.str ",")))) 1 [] (gN 0) yes (on Er (Aa (v 0) Ab)))))
def Ie:List D->Res D:=fn 2
  (sq (ifs (bAnd (trb (o2 dEq (cut (v 0) pno (pso (c (.int 1)))) (mls (Aa (c (.str "plain")) Ab)))) (trb (o2 dEq (on bLen (Aa (v 0) Ab)) (c (.int 2)))))
  (ret (make "Plain" Mq (Aa (v 1) (Aa (on Er (Aa (o2 dIx (v 0) (c (.int 1))) Ab)) Ab))))
  nop)
  (sq (ifs (trb (o2 dEq (v 0) (mls (Aa (c (.str "shaded")) Ab))))
  (ret (make "Shaded" Lh (Aa (v 1) Ab)))
  nop)
  (sq (ifs (bAnd (trb (o2 dEq (cut (v 0) pno (pso (c (.int 1)))) (mls (Aa (c (.str "patterned")) Ab)))) (trb (o2 dEq (on bLen (Aa (v 0) Ab)) (c (.int 2)))))
  (ret (make "Patterned" Ly (Aa (v 1) (Aa (on PP (Aa (o2 dIx (v 0) (c (.int 1))) Ab)) Ab))))
  nop)
  (sq (ifs (bAnd (trb (o2 dEq (cut (v 0) pno (pso (c (.int 1)))) (mls (Aa (c (.str "glass")) Ab)))) (trb (o2 dEq (on bLen (Aa (v 0) Ab)) (c (.int 3)))))
  (ret (make "Glass" Ot (Aa (v 1) (Aa (on Er (Aa (o2 dIx (v 0) (c (.int 1))) Ab)) (Aa (on Er (Aa (o2 dIx (v 0) (c (.int 2))) Ab)) Ab)))))
  nop)
  (rsP "NoRow" (Aa (c (.int 0)) Ab))))))
def Ib:List D->Res D:=fn 2
  (sq (drp (on Mw (Aa (v 0) Ab)))
  (sq (st 1 (on Oc (Aa (sD Bh (v 0) (c (.str " "))) Ab)))
  (sq (ifs (trb (o2 dNe (on bLen (Aa (v 1) Ab)) (c (.int 4))))
  (rsP "NoRow" (Aa (c (.int 0)) Ab))
  nop)
  (ret (on Ie (Aa (o2 dIx (v 1) (c (.int 0))) (Aa (on bTup (Aa (Cr (iv (cut (v 1) (pso (c (.int 1))) pno)) 1 [] (gN 0) yes (on Js (Aa (v 0) Ab))) Ab)) Ab)))))))
def Gg:List D->Res D:=fn 3
  (sq (ifs (trb (o2 dGe (v 1) (on bLen (Aa (v 0) Ab))))
  (rsP "NoRow" (Aa (v 1) Ab))
  nop)
  (Mv [("read_floor",GZ),("read_ground",Jm),("read_spots",JS),("read_thing",Ib)] 2 (Aa (o2 dIx (v 0) (v 1)) Ab) ["BadFloor","BadPattern","BadThing","BadTriangle","NoRow"] "NoRow" (Aa (v 1) Ab)))
def Kq:List D->Res D:=fn 6
  (sq (drp (on Mw (Aa (v 0) Ab)))
  (sq (st 1 (sD Bh (v 0) (c (.str "\n"))))
  (sq (st 2 (on Gg (Aa (v 1) (Aa (c (.int 0)) (Aa (c (.cls "read_floor")) Ab)))))
  (sq (st 3 (on Gg (Aa (v 1) (Aa (c (.int 1)) (Aa (c (.cls "read_ground")) Ab)))))
  (sq (st 4 (on Gg (Aa (v 1) (Aa (c (.int 2)) (Aa (c (.cls "read_spots")) Ab)))))
  (sq (st 5 (Cr (r2 (Aa (c (.int 3)) (Aa (on bLen (Aa (v 1) Ab)) Ab))) 1 [1] (gN 0) yes (on Gg (Aa (v 1) (Aa (v 0) (Aa (c (.cls "read_thing")) Ab))))))
  (ret (mtp (Aa (o2 dIx (v 2) (c (.int 0))) (Aa (o2 dIx (v 2) (c (.int 1))) (Aa (v 3) (Aa (v 4) (Aa (v 5) Ab)))))))))))))
def Ew:List D->Res D:=fn 3
  (sq (stO 1 (mls Ab))
  (sq (st 2 (on bAbs (Aa (v 0) Ab)))
  (sq (whl fuel (trb (o2 dGe (v 2) (o2 dPow (c (.int 10)) (c (.int 60)))))
  badS)
  (sq (app 1 (on bStr (Aa (v 2) Ab)))
  (sq (ifs (trb (o2 dLt (v 0) (c (.int 0))))
  (app 1 (c (.str "-")))
  nop)
  (ret (joinRev "" 1)))))))
def G9:List D->Res D:=fn 1
  (sq (ifs (trb (o2 dEq (o2 dIx (v 0) (c (.int 1))) (c (.int 1))))
  (ret (on Ew (Aa (o2 dIx (v 0) (c (.int 0))) Ab)))
  nop)
  (ret (o2 BX (o2 BX (on Ew (Aa (o2 dIx (v 0) (c (.int 0))) Ab)) (c (.str "/"))) (on Ew (Aa (o2 dIx (v 0) (c (.int 1))) Ab)))))
def Nz:List D->Res D:=fn 1
  (ret (o2 BX (o2 BX (on Ew (Aa (o2 dIx (v 0) (c (.int 0))) Ab)) (c (.str ","))) (on Ew (Aa (o2 dIx (v 0) (c (.int 1))) Ab))))
def PJ:List D->Res D:=fn 1
  (ret (o2 BX (on bLst (Aa (cut (v 0) pno (pso (c (.int 4)))) Ab)) (on bLst (Aa (o2 dIx (v 0) (c (.int 4))) Ab))))
def RJ:List D->Res D:=fn 1
  (ret (sD Ep (c (.str " ")) (o2 BX (mls (Aa (c (.str "/")) Ab)) (comp (iv (on PJ (Aa (v 0) Ab))) 1 [] (gN 0) yes (on Ew (Aa (v 0) Ab))))))
def Zw:List D->Res D:=fn 1
  (ret (c (.str "glass")))
def Zg:List D->Res D:=fn 1
  (ret (c (.str "patterned")))
def Z5:List D->Res D:=fn 1
  (ret (c (.str "plain")))
def YG:List D->Res D:=fn 1
  (ret (c (.str "shaded")))
def Wh:List (Str×(List D->Res D)):=[("Plain",Z5),("Shaded",YG),("Patterned",Zg),("Glass",Zw)]
def Qk:List D->Res D:=fn 1
  (ret (sD Ep (c (.str ";")) (comp (iv (v 0)) 1 [] (gN 0) yes (sD Ep (c (.str ",")) (comp (iv (v 0)) 1 [] (gN 0) yes (on G9 (Aa (v 0) Ab)))))))
def QS:List D->Res D:=fn 2
  (sq (st 1 (meth Wh "word" (v 0) Ab))
  (sq (ifs (trb (o2 dEq (v 1) (c (.str "plain"))))
  (ret (mls (Aa (v 1) (Aa (on G9 (Aa (o1 (dFld objs "colour") (v 0)) Ab)) Ab))))
  nop)
  (sq (ifs (trb (o2 dEq (v 1) (c (.str "patterned"))))
  (ret (mls (Aa (v 1) (Aa (on Qk (Aa (o1 (dFld objs "pattern") (v 0)) Ab)) Ab))))
  nop)
  (sq (ifs (trb (o2 dEq (v 1) (c (.str "glass"))))
  (ret (mls (Aa (v 1) (Aa (on G9 (Aa (o1 (dFld objs "colour") (v 0)) Ab)) (Aa (on G9 (Aa (o1 (dFld objs "part") (v 0)) Ab)) Ab)))))
  nop)
  (ret (mls (Aa (v 1) Ab)))))))
def Oi:List D->Res D:=fn 1
  (ret (sD Ep (c (.str " ")) (o2 BX (on QS (Aa (v 0) Ab)) (comp (iv (o1 (dFld objs "triangle") (v 0))) 1 [] (gN 0) yes (on RJ (Aa (v 0) Ab))))))
def O7:List D->Res D:=fn 2
  (sq (st 1 (mls (Aa (sD Ep (c (.str " ")) (mls (Aa (c (.str "floor")) (Aa (on Ew (Aa (o2 dIx (v 0) (c (.int 0))) Ab)) (Aa (on Ew (Aa (o2 dIx (v 0) (c (.int 1))) Ab)) Ab))))) (Aa (sD Ep (c (.str " ")) (mls (Aa (c (.str "ground")) (Aa (on G9 (Aa (o2 dIx (v 0) (c (.int 2))) Ab)) Ab)))) (Aa (sD Ep (c (.str " ")) (o2 BX (mls (Aa (c (.str "spots")) Ab)) (comp (iv (o2 dIx (v 0) (c (.int 3)))) 1 [] (gN 0) yes (on Nz (Aa (v 0) Ab))))) Ab)))))
  (ret (sD Ep (c (.str "\n")) (o2 BX (v 1) (comp (iv (o2 dIx (v 0) (c (.int 4)))) 1 [] (gN 0) yes (on Oi (Aa (v 0) Ab)))))))
def Pk:List D->Res D:=fn 5
  (sq (st 1 (on Rc (Aa (sD Ep (c (.str "\n")) (on Ra (Aa (v 0) Ab))) (Aa (v 0) Ab))))
  (sq (st 2 (on S8 (Aa (v 1) Ab)))
  (sq (st 3 (c .non))
  (sq (try_ Kq (Aa (v 1) Ab) ["BadFloor","BadPattern","BadThing","BadTriangle","NoRow"] 4
  (st 3 (v 4)))
  (sq (ifs (trb (o1 dIsN (v 2)))
  (ret (eAnd (o1 dIsN (v 3)) (o2 dEq (on O7 (Aa (on Kq (Aa (v 1) Ab)) Ab)) (v 1))))
  nop)
  (ret (eAnd (on (bIsX tabC tabT) (Aa (v 3) (Aa (c (.cls "NoRow")) Ab))) (eAnd (eNot (on bIsi (Aa (o1 (dAtC ["NoRow"]) (v 3)) (Aa (c (.ty "bool")) Ab)))) (o2 dEq (o1 (dAtC ["NoRow"]) (v 3)) (v 2))))))))))
def Ua:List D->Res D:=fn 2
  (sq (for_ (r1 (Aa (c (.int 2)) Ab)) (gN 1)
  (ifs (bNot (trb (on Pk (Aa (on Qh (Aa (v 0) (Aa (v 1) Ab))) Ab))))
  (ret (c (.bl false)))
  nop))
  (ret (c (.bl true))))
variable{U:Dl.D->Prop}{Z:Dl.Ev}{t w:List Nat}{Ψ:Dl.Fl->Prop}{ns:List Int}{cs:List (List Int)}{e:Dl.ME}{k i:Nat}
def G8{k:Int}(hk:0<=k/\k<=4000)(h:∀r,0<=r/\r<2147483648->U (.int r)):Tl (Fi [.int cc,.int k]) U:=by
 unfold Fi;symm;refine Cg (λ_=>?_) (λ_=>?_)
 .symm;refine Cg (λ_=>?_) (λ_=>?_)
  .symm;refine Cg (λ_=>?_) (λ_=>?_)
   .symm;exact h _ (by ac_rfl)
   .symm;exact h _ (by ac_rfl)
  .symm;exact h _ (by ac_rfl)
 .symm;exact h _ (by ac_rfl)
end My
namespace Mt
def Zpg{x y:Int}(h:y<0):(x.fmod y).natAbs<y.natAbs:=by
 rw [Int.fmod_eq_emod];have a:=Int.emod_nonneg x (show y≠0 by ac_rfl);have b:=Int.emod_lt x (show y≠0 by ac_rfl);by_cases hd:y∣x
 .have e:x%y=0:=Int.emod_eq_zero_of_dvd hd;rw [iP (.inr hd),e];ac_rfl
 .rw [iN (by ac_rfl)];ac_rfl
def ZoQ(x y:Int):Int.gcd y (x.fmod y)=Int.gcd x y:=by
 have e:x.fmod y=x+y*(-(x.fdiv y)):=by rw [Int.fmod_def,Int.mul_neg,Int.sub_eq_add_neg]
 rw [e,Int.gcd_comm,Int.gcd_add_mul_left_left]
end Mt
namespace My
open PySem Dl
variable{U:Dl.D->Prop}{Z:Dl.Ev}{t w:List Nat}{Ψ:Dl.Fl->Prop}{ns:List Int}{cs:List (List Int)}{e:Dl.ME}{k i:Nat}
def w_modN(hy:y<0)(h:U (.int (x.fmod y))):Tl (Cz (.int x) (.int y)) U:=by
 refine Ad ?_ h;show iMod x y=_;unfold iMod;rw [iN (by ac_rfl),iN (by ac_rfl)]
def ZdQ(h:U (.int (Mt.gcdL 0 ns))):Tl (QB [.tup (ns.map .int)]) U:=by
 unfold QB;symm;refine Zql (λp Z=>∃(a:List Int) (d k b:Cl),p=a.map .int/\Z=[.im (.tup (ns.map .int)),.im (.int (Mt.gcdL 0 a)),d,k,b]) ⟨[],_,_,_,rfl,rfl⟩ ?_ ?_
 .rintro p x r q Z ⟨a,d,k,b,rfl,rfl⟩;obtain ⟨n,rfl⟩ : ∃n:Int,x=.int n:=by
   have:x∈ns.map .int:=by rw [q];simp
   obtain ⟨n,_,rfl⟩:=Bk.mp this;exact ⟨n,rfl⟩
  symm;refine w_wh (λZ=>∃(f m:Nat) (b:Cl),Z=[.im (.tup (ns.map .int)),.im (.int f),.im (.int n),.im (.int m),b]/\Nat.gcd f m=Nat.gcd (Mt.gcdL 0 a) n.natAbs) (Hl 3) ⟨_,_,_,rfl,rfl⟩ (Rv _ _) ?_;rintro Z ⟨f,m,b,rfl,e⟩;symm;refine ⟨λj=>?_,λj=>?_⟩
  .have i:m≠0:=by simpa using j
   symm;refine ⟨_,rfl,⟨m,f%m,_,rfl,?_⟩,?_⟩
   .rw [<-e,Mt.Zo3]
   .have:=Nat.mod_lt f (Nat.pos_of_ne_zero i);simp [Hl,absC];ac_rfl
  .have i:m=0:=by simpa using j
   subst i;rw [Nat.gcd_zero_right] at e;have s:Mt.gcdL 0 (a++[n])=Nat.gcd (Mt.gcdL 0 a) n.natAbs:=by
    have c:∀(l:List Int) (g:Nat),Mt.gcdL g (l++[n])=Nat.gcd (Mt.gcdL g l) n.natAbs:=by
     intro l
     induction l with
     | nil=>exact λg=>rfl
     | cons y l ih=>exact λg=>ih _
    exact c a 0
   exact ⟨_,rfl,a++[n],.im (.int n),.im (.int ((0:Nat):Int)),b,by simp,by rw [s,<-e]⟩
 .rintro Z ⟨a,d,k,b,o,rfl⟩;symm;have:ns=a:=WP o;rw [<-this];exact h
def ZmA(h:U (.int (Int.gcd a b))):Tl (Ql [.int a,.int b]) U:=by
 unfold Ql;symm;refine w_wh (λZ=>∃x y,Z=[.im (.int x),.im (.int y)]/\Int.gcd x y=Int.gcd a b) (Hl 1) ⟨a,b,rfl,rfl⟩ (Rv _ _) ?_;rintro Z ⟨x,y,rfl,e⟩;symm;refine ⟨λd=>?_,λd=>?_⟩
 .have c:y≠0:=by simpa using d
  rcases Int.lt_or_gt_of_ne c with hn | hp
  .symm;refine w_modN hn ?_;refine ⟨_,rfl,⟨y,x.fmod y,rfl,by rw [Mt.ZoQ];exact e⟩,?_⟩;have:=Mt.Zpg (x:=x) hn;simp [Hl,absC];exact this
  .symm;refine ⟨_,rfl,⟨y,x%y,rfl,by rw [Mt.ZmX];exact e⟩,?_⟩;have i:=Int.emod_nonneg x c;have g:=Int.emod_lt_of_pos x hp;simp [Hl,absC];ac_rfl
 .have c:y=0:=by simpa using d
  subst c;symm;have f:x.natAbs=Int.gcd a b:=by rw [<-e,Int.gcd_zero_right]
  rw [f];exact h
def frD(q:Rat):D:=.tup [.int q.num,.int (q.den:Int)]
def D10(m:Nat):List Nat:=(Nat.toDigits 10 m).map Char.toNat
def tI(n:Int):List Nat:=if n<0 then 45::D10 n.natAbs else D10 n.natAbs
def ZqM(a b):Str.ofString (a++b)=Str.ofString a++Str.ofString b:=by
 rw [<-Iv (Str.ofString a++Str.ofString b),Rm,<-Iv (Str.ofString (a++b))];refine Bl mkS ?_;show (Str.ofString (a++b)).cps.toList=(Str.ofString a).cps.toList++(Str.ofString b).cps.toList;rw [Uj,Uj,Uj,String.toList_append,GD]
def Ue(m:Nat):Str.ofString (toString (m:Int))=mkS (D10 m):=by
 rw [<-Iv (Str.ofString _)];exact Bl mkS (W.KIN.signs_num m)
def Zt6(n):Str.ofString (toString n)=mkS (tI n):=by
 unfold tI;split
 .next h=>
  rw [PyProof.Rows.toString_neg h,ZqM,show (0:Int) - n=(n.natAbs:Int) by ac_rfl,Ue,show Str.ofString "-"=mkS [45] by decide +kernel,Wo];rfl
 .next h=>
  have e:n=(n.natAbs:Int):=by ac_rfl
  rw [e,Ue];rfl
def WQ{m c:Nat}(h:c∈D10 m):48<=c/\c<=57:=by
 obtain ⟨b,a,e⟩:=Bk.mp h;rw [<-e];exact PyProof.Rows.digit_range (Nat.isDigit_of_mem_toDigits (by decide) (by decide) a)
def Wu(hk:0<k)(h:m<10^k):(D10 m).length<=k:=by
 have:=PyProof.Rows.toString_length_le (v:=(m:Int)) (by ac_rfl) hk (by exact_mod_cast h);rw [Ue,FP] at this;exact this
def Zoc(h:10<=m):D10 m=D10 (m/10)++D10 (m%10):=by
 unfold D10;rw [<-GD];have t:Nat.toDigits 10 (m/10)++Nat.toDigits 10 (m%10)=Nat.toDigits 10 (10*(m/10)+m%10):=Nat.toDigits_append_toDigits (by decide) (by ac_rfl) (by ac_rfl);rw [Nat.div_add_mod] at t;rw [t]
def Zt7{n:Int}{c:Nat}(h:c∈tI n):c=45\/(48<=c/\c<=57):=by
 unfold tI at h;split at h
 .rcases An.mp h with h | h
  .exact .inl h
  .exact .inr (WQ h)
 .exact .inr (WQ h)
def J7(hk:0<k)(h:n.natAbs<10^k):(tI n).length<=k+1:=by
 unfold tI;have:=Wu hk h;split
 .simpa using this
 .ac_rfl
def Asc(l:List Nat):Prop:=∀c∈l,c<128
def Asc.app(h:Asc a)(k:Asc b):Asc (a++b):=λc d=>(Dv.mp d).elim (h c) (k c)
def Asc.pl(h:Asc l):(mkS l).cps.all (·<0x110000)=true:=by
 rw [Array.all_eq_true];intro i b;have:(mkS l).cps[i]∈l:=by
  have a:i<l.length:=by simpa [mkS] using b
  have e:(mkS l).cps[i]=l[i]:=by simp [mkS]
  exact e▸G4 a
 have:=h _ this;simp only [CQ];ac_rfl
def Zua(n):Asc (tI n):=λc h=>by have:=Zt7 h;ac_rfl
def SM(a b):(mkS a==mkS b)=decide (a=b):=by
 rw [Ld,Dc,CQ];exact ⟨ZrR,λh=>by rw [h]⟩
def Dp(ha:Asc a)(hb:Asc b)(h:U (.bl (decide (a=b)))):Tl (dEq (.str (mkS a)) (.str (mkS b))) U:=by
 refine Ad (x:=.bl (decide (a=b))) ?_ h;unfold dEq;have c:plain 50 (.str (mkS a))=true:=ha.pl;have d:plain 50 (.str (mkS b))=true:=hb.pl;rw [c,d];show Res.ok (D.bl (mkS a==mkS b))=_;rw [SM]
def JG(ha:Asc a)(hb:Asc b)(h:U (.bl (!decide (a=b)))):Tl (dNe (.str (mkS a)) (.str (mkS b))) U:=by
 refine Ad (x:=.bl (!decide (a=b))) ?_ h;unfold dNe;have c:plain 50 (.str (mkS a))=true:=ha.pl;have d:plain 50 (.str (mkS b))=true:=hb.pl;rw [c,d];show Res.ok (D.bl (!(mkS a==mkS b)))=_;rw [SM]
def w_sD(h:Tl (a Z) λx=>∃z,x=.str z/\Tl (b Z) λd=>Tl (f z d) U):Tl (sD f a b Z) U:=by
 obtain ⟨x,c,z,rfl,d,e,q⟩:=h;unfold sD;rw [c];show Tl ((b Z).bind (f z)) U;rw [e];exact q
def XD(h:U (.bl (a.take b.length==b))):Tl (Od (mkS a) (.str (mkS b))) U:=by
 refine Ad (x:=.bl (a.take b.length==b)) ?_ h;show Res.ok (D.bl ((cpL (mkS a)).take (cpL (mkS b)).length==cpL (mkS b)))=_;rw [Cp,Cp]
def Xl:∀ls:List (List Nat),txts (ls.map λl=>D.str (mkS l))=some (ls.map mkS)
 | []=>rfl
 | l::r=>by
  show (txts (r.map λl=>D.str (mkS l))).map (mkS l::·)=_;rw [Xl r];rfl
def totL(s:Nat)(ls:List (List Nat)):Nat:=(ls.map List.length).sum+ls.length*s
def Zq0(s)(ls):sumL s (ls.map mkS)=totL s ls:=by
 unfold sumL totL;rw [Ck,Ah];rw [show ls.map ((λx:Str=>x.length) ∘ mkS)=ls.map List.length from Nk λl _=>FP l]
def Wd{s:List Nat}{ls:List (List Nat)}(hl:totL s.length ls<=1000000):Jh (mkS s) (ls.map λl=>D.str (mkS l))=.ok (.str (mkS (Ak s ls))):=by
 unfold Jh;rw [Xl];dsimp only;rw [FP,Zq0,iP (show _<=LIM from hl),Cp,Ck];have:(cpL ∘ mkS)=id:=funext Cp;rw [this,List.map_id]
def Wa(hl:totL s.length ls<=1000000)(h:U (.str (mkS (Ak s ls)))):Tl (Ep (mkS s) (.lst (ls.map λl=>.str (mkS l)))) U:=Ad (Wd hl) h
def Jt(hl:a.length+b.length<=1000000)(h:U (.str (mkS (a++b)))):Tl (BX (.str (mkS a)) (.str (mkS b))) U:=by
 refine Ad ?_ h;show (if (mkS a).length+(mkS b).length<=LIM then Res.ok (D.str (mkS a++mkS b)) else .bad)=_
 rw [FP,FP,iP (show _<=LIM from hl),Wo]
def PQ(hl:a.length<=1000000)(h:U (.int a.length)):Tl (Hy [.str (mkS a)]) U:=by
 refine Ad ?_ h;show (if (mkS a).length<=LIM then Res.ok (D.int (mkS a).length) else .bad)=_
 rw [FP,iP (show _<=LIM from hl)]
def w_inS{c:Nat}{b:List Nat}(h:U (.bl (b.contains c))):Tl (dInT (.str (mkS [c])) (.str (mkS b))) U:=by
 refine Ad (x:=.bl (b.contains c)) ?_ h;unfold dInT;dsimp only;rw [Cp [c]];dsimp only;rw [Cp]
def SJ{c:Nat}{b:List Nat}(h:U (.bl (!b.contains c))):Tl (Jw (.str (mkS [c])) (.str (mkS b))) U:=by
 refine Ad (x:=.bl (!b.contains c)) ?_ h;unfold Jw;dsimp only;rw [Cp [c]];dsimp only;rw [Cp]
def ZqQ{a b:List Nat}{c:Nat}(hc:c∉a)(hl:(a++c::b).length<=1000000)(h:U (.tup [.str (mkS a),.str (mkS [c]),.str (mkS b)])):Tl (Ky (mkS (a++c::b)) (.str (mkS [c]))) U:=by
 refine Ad ?_ h;have e:∀a:List Nat,c∉a->CW c (a++c::b)=some (a,b):=by
  intro a
  induction a with
  | nil=>intro _;show CW c (c::b)=_;unfold CW;rw [iP rfl]
  | cons x r ih=>
   intro h;have d:¬x=c:=λe=>h (by rw [e];exact Aw);show CW c (x::(r++c::b))=_;unfold CW;rw [iN d,ih λm=>h (Av _ m)];rfl
 unfold Ky;dsimp only;rw [Cp [c]];dsimp only;rw [FP,iP (show _<=LIM from hl),Cp,e a hc]
def Zvj{i:Int}(ha:a Z=.ok (.str (mkS l)))(hi:0<=i)(hl:l.length<=1000000)(h:U (.str (mkS (l.drop i.toNat)))):Tl (cutT a (pso (c (.int i))) pno Z) U:=by
 refine Ad ?_ h;unfold cutT;rw [ha];show cutS (mkS l) (some i) none=_;unfold cutS;rw [FP,iP (show _<=LIM from hl)];dsimp only;rw [iP hi,Cp]
def YQ(s:Sm k n)(hk:k<=1900)(h:U (.str (mkS (tI n)))):Tl (bStr [.int n]) U:=by
 refine Ad ?_ h;show (if n.natAbs.log2<1920 then Res.ok (D.str (Str.ofString (toString n))) else .bad)=_
 rw [iP (show n.natAbs.log2<1920 from Bp (Zul (s.mono (show k<=1900 from hk)) (by decide)) (by decide)),Zt6]
def Zwl{U:List D->Prop}(ha:a Z=.ok (.str (mkS l)))(hl:Asc l)(h:U (l.map λc=>.str (mkS [c]))):Tl (ivT a Z) U:=by
 refine Ad ?_ h;unfold ivT;rw [ha];show (if (cpL (mkS l)).all (·<128)=true then Res.ok ((cpL (mkS l)).map λc=>D.str (mkS [c])) else .bad)=_
 rw [Cp,iP (Ey.mpr λc b=>by simpa using hl c b)]
def lit0:Str.ofString ""=mkS []:=by decide +kernel
def litM:Str.ofString "-"=mkS [45]:=by decide +kernel
def litZ:Str.ofString "0"=mkS [48]:=by decide +kernel
def Ztl:Str.ofString "-0"=mkS [45,48]:=by decide +kernel
def litF:Str.ofString "0123456789"=mkS [48,49,50,51,52,53,54,55,56,57]:=by decide +kernel
def litS:Str.ofString "/"=mkS [47]:=by decide +kernel
def Bb(h:l.all (·<128)=true):Asc l:=λc a=>by simpa using Ey.mp h c a
def ZpW(hl:l.length<=640)(e:intL l=some n)(h:U (.int n)):Tl (JW [.str (mkS l)]) U:=by
 refine Ad ?_ h;show (if (mkS l).length<=640 then ofO ((intL (cpL (mkS l))).map D.int) else .bad)=_
 rw [FP,iP hl,Cp,e];rfl
def X7{s:List Nat}{ls:List (List Nat)}(e:Z[j]?=some (.ow (ls.map λl=>D.str (mkS l))))(hl:totL s.length ls.reverse<=1000000)(h:U (.str (mkS (Ak s ls.reverse)))):Tl (joinRev (mkS s) j Z) U:=by
 refine Ad ?_ h;unfold joinRev;rw [e];show Jh (mkS s) ((ls.map λl=>D.str (mkS l)).reverse)=_;rw [<-KZ];exact Wd hl
def M9{n:Int}(h:n.natAbs<10^60)(q:U (.str (mkS (tI n)))):Tl (Ew [.int n]) U:=by
 unfold Ew;symm;refine w_wh (λZ=>Z=[Cl.im (D.int n),Cl.ow [],Cl.im (D.int (n.natAbs:Int))]) (λ_=>0) rfl (by unfold fuel;ac_rfl) ?_;rintro Z rfl;symm;have c:((10:Int)^(60:Int).toNat<=(n.natAbs:Int))=False:=by
  rw [eq_iff_iff,iff_false,show ((10:Int)^(60:Int).toNat)=((10^60:Nat):Int) by decide];ac_rfl
 simp only [c,decide_false];refine ⟨(λz=>nomatch z),λ_=>?_⟩;have d:Sm 256 ((n.natAbs:Int)):=by
  unfold Sm;rw [JF];exact Fj h (by decide)
 symm;refine YQ d (by decide) ?_;have e:tI (n.natAbs:Int)=D10 n.natAbs:=by
  unfold tI;rw [iN (by ac_rfl),JF]
 rw [e];symm;refine ⟨by simp,?_⟩;symm;have b:=Wu (m:=n.natAbs) (by decide) h;refine Cg (λa=>?_) (λa=>?_)
 .symm;refine ⟨by simp,?_⟩;symm;rw [lit0,litM];refine X7 (ls:=[D10 n.natAbs,[45]]) rfl (by simp [totL];ac_rfl) ?_;symm;have:tI n=Ak [] [D10 n.natAbs,[45]].reverse:=by unfold tI;rw [iP a];rfl
  rw [<-this];exact q
 .symm;rw [lit0];refine X7 (ls:=[D10 n.natAbs]) rfl (by simp [totL];ac_rfl) ?_;symm;have:tI n=Ak [] [D10 n.natAbs].reverse:=by unfold tI;rw [iN a];rfl
  rw [<-this];exact q
def toX:Option α->Res α
 | some a=>.ok a
 | none=>.ex (tagX 0 "NoRow")
def BJ(h:Tl r λx=>x=a):r=.ok a:=by
 obtain ⟨x,e,rfl⟩:=h;exact e
def HS{α:Type}{c:Str}{a:MA}{Z:Ev}{k:Nat}(h:a Z=.ok [.int k]):rsP c a Z=.ex (tagX (2*k) c):=by
 unfold rsP;rw [h,Ci];unfold natD;dsimp only;rw [iP (by ac_rfl),JR];rfl
def ZhN:∀bs:List Bool,bools (bs.map .bl)=.ok bs
 | []=>rfl
 | b::r=>by
  show (bools (r.map .bl)).bind (λbs=>.ok (b::bs))=_;rw [ZhN r];rfl
def w_allB{bs:List Bool}(h:U (.bl (bs.all id))):Tl (bAll [.lst (bs.map .bl)]) U:=by
 refine Ad ?_ h;show (bools (bs.map .bl)).bind (λbs=>Res.ok (D.bl (bs.all id)))=_;rw [ZhN];rfl
def ZtD(c):[48,49,50,51,52,53,54,55,56,57].contains c=digB c:=by
 rw [Ld,List.contains_iff_mem,show [48,49,50,51,52,53,54,55,56,57]=List.range' 48 10 from rfl,List.mem_range'_1];unfold digB;rw [Bo,CQ,CQ];ac_rfl
def okF(f:List Nat):Bool:=!(decide (f=[]))&&(decide (f.length<=30)&&((!(f.take 1==[48])||decide (f=[48]))&&f.all digB))
def ZsD(l:List Nat):(l.map digB).all id=l.all digB:=by
 rw [H8];rfl
def Vf(e:a Z=.ok (.str (mkS l)))(ha:Asc l)(hl:l.length<=1000000)(q:U (.bl (l.all digB))):Tl (ivT a Z) λxs=>xs.length<=1000000/\Tl (BR (gN 0) yes (o2 dInT (v 0) (c (D.str (Str.ofString "0123456789")))) [Cl.no] xs) λys=>Tl (Ab Z) λxs=>Tl (bAll (D.lst ys::xs)) U:=by
 refine Zwl e ha ?_;refine ⟨by simp;ac_rfl,?_⟩;refine Dw (enc:=λc=>D.str (mkS [c])) (λc=>.bl (digB c)) (λc b=>?_) ?_
 .symm;rw [litF];refine w_inS ?_;rw [ZtD]
 .symm;rw [show l.map (λc=>D.bl (digB c))=(l.map digB).map .bl by rw [Ck];rfl];refine w_allB ?_;rw [ZsD];exact q
def VP(ha:Asc l)(hl:l.length<=1000000)(q:U (.bl (okF l))):Tl (RT [.str (mkS l)]) U:=by
 unfold okF at q;unfold RT;symm;rw [lit0];refine Dp ha (Bb rfl) ?_;by_cases h0:l=[]
 .rw [Aj h0] at q ⊢;symm;exact q
 rw [Al h0] at q ⊢;symm;refine PQ hl ?_;symm;refine Cg (λa=>?_) (λa=>?_)
 .rw [Al (show ¬l.length<=30 by ac_rfl)] at q;symm;exact q
 rw [Aj (show l.length<=30 by ac_rfl)] at q;symm;refine w_sD ?_;symm;refine ⟨_,rfl,?_⟩;symm;rw [litZ];refine XD ?_;have e:[48].length=1:=rfl;rw [e];cases hz:(List.take 1 l==[48]) with
 | false=>
  rw [hz] at q;symm;exact Vf (l:=l) rfl ha hl (by symm; exact q)
 | true=>
  rw [hz] at q;symm;refine JG ha (Bb rfl) ?_;by_cases h2:l=[48]
  .rw [Aj h2] at q ⊢;symm;exact Vf (l:=l) rfl ha hl (by symm; exact q)
  .rw [Al h2] at q ⊢;symm;exact q
def figs(l:List Nat):List Nat:=if (l.take 1==[45])=true then l.drop 1 else l
def numL(l:List Nat):Option Int:=if okF (figs l)=true/\l≠[45,48] then intL l else none
def Qz(h:okF f=true):f≠[]/\f.length<=30/\(f.take 1=[48]->f=[48])/\f.all digB=true:=by
 unfold okF at h;simp only [Bo,Bool.not_eq_true',decide_eq_false_iff_not,CQ,Bool.or_eq_true,Jp] at h;exact ⟨h.1,h.2.1,λe=>h.2.2.1.resolve_left λn=>n e,h.2.2.2⟩
def Xu:∀(l:List Nat) (a:Nat),l.all digB=true->l.foldl (λa c=>a*10+(c - 48)) a<(a+1)*10^l.length
 | [],a,_=>by simp
 | c::r,a,h=>by
  rw [Gy,Bo] at h;have b:48<=c/\c<=57:=by simpa [digB] using h.1
  have ih:=Xu r (a*10+(c - 48)) h.2;rw [List.foldl_cons,BP,Nat.pow_succ];refine Bp ih ?_;rw [Nat.mul_comm (10^r.length) 10,<-Nat.mul_assoc];exact Nat.mul_le_mul_right _ (by ac_rfl)
def V5{l:List Nat}(h:l.all digB=true)(hl:l.length<=30):digV l<10^30:=by
 have:=Xu l 0 h;rw [Nat.zero_add,Nat.one_mul] at this;exact Bp this (Nat.pow_le_pow_right (by decide) hl)
def T4(h:okF (figs l)=true):∃n,intL l=some n/\n.natAbs<10^30/\l.length<=31:=by
 obtain ⟨d,b,_,a⟩:=Qz h;cases l with
 | nil=>exact aB rfl d
 | cons c r=>
  by_cases hc:c=45
  .subst hc;have e:figs (45::r)=r:=rfl;rw [e] at d b a;refine ⟨-(digV r:Int),?_,?_,by simpa using b⟩
   .unfold intL;dsimp only;rw [iP rfl];unfold figL;rw [iP ⟨d,a⟩];rfl
   .have:=V5 a b;ac_rfl
  .have e:figs (c::r)=c::r:=by
    unfold figs;rw [iN];simpa using hc
   rw [e] at d b a;refine ⟨(digV (c::r):Int),?_,?_,by ac_rfl⟩
   .unfold intL;dsimp only;rw [iN hc];unfold figL;rw [iP ⟨d,a⟩];rfl
   .have:=V5 a b;ac_rfl
def ZjV(h:Asc l):Asc (figs l):=by
 unfold figs;split
 .exact λc a=>h c (List.mem_of_mem_drop a)
 .exact h
def YJ(l):(figs l).length<=l.length:=by
 unfold figs;split
 .rw [DP];ac_rfl
 .exact Ao _
def Wg(e:Z[0]?=some (.im (.str (mkS l))))(hl:l.length<=1000000)(q:U (.str (mkS (l.drop 1)))):Tl (cutT (v 0) (pso (c (.int 1))) pno Z) U:=Zvj (l:=l) (i:=1) (by unfold v;rw [e];rfl) (by decide) hl q
def Tf{l:List Nat}(ha:Asc l)(hl:l.length<=1000000):Eo [.str (mkS l)]=toX ((numL l).map .int):=by
 have b:=ZjV ha;have a:(figs l).length<=1000000:=Ar (YJ l) hl;have first:∀{Ψ:Fl->Prop},Ψ (.nx [.im (.str (mkS l)),.im (.str (mkS (figs l)))])->Tl (st 1 (ife (trb (sD Od (v 0) (c (.str "-")))) (cutT (v 0) (pso (c (.int 1))) pno) (v 0)) (ev0 2 [.str (mkS l)])) Ψ:=by
  intro Ψ q;symm;refine w_sD ?_;symm;refine ⟨_,rfl,?_⟩;symm;rw [litM];refine XD ?_;symm;have e:[45].length=1:=rfl;rw [e];unfold figs at q;cases hz:(List.take 1 l==[45]) with
  | false=>
   rw [hz,iN Cj] at q;symm;exact q
  | true=>
   rw [hz,iP rfl] at q;rw [iP rfl];exact Wg rfl hl (by symm; exact q)
 unfold Eo numL;by_cases h:okF (figs l)=true
 .by_cases h2:l=[45,48]
  .rw [iN λz=>z.2 h2];refine x_fn (By (first ?_))
   refine x_gx (Ca (DQ ?_));symm;refine VP b a ?_;rw [h];symm;rw [Ztl];refine Dp ha (Bb rfl) ?_;rw [Aj h2];symm;rw [iP rfl];exact HS (α:=Fl) (k:=0) rfl
  .rw [iP ⟨h,h2⟩];obtain ⟨n,e,f,d⟩:=T4 h;rw [e];refine BJ (w_fn (w_sq (first ?_)))
   symm;refine VP b a ?_;rw [h];symm;rw [Ztl];refine Dp ha (Bb rfl) ?_;rw [Al h2];symm;exact ZpW (by ac_rfl) e (by symm)
 .rw [iN λz=>h z.1];refine x_fn (By (first ?_))
  refine x_gx (Ca (DQ ?_));symm;refine VP b a ?_;rw [show okF (figs l)=false by simpa using h];symm;rw [iP rfl];exact HS (α:=Fl) (k:=0) rfl
def Xp(c:Nat):∀l:List Nat,sepL [c] 0 l=Ae c l
 | []=>rfl
 | x::r=>by
  have ih:=Xp c r;by_cases h:x=c
  .rw [h,Rr (w:=[c]) (Ao 1) rfl];rw [Ae,iP rfl];exact Bl _ ih
  .rw [O4 (w:=[c]) (λz=>h (Kf z).1),ih,Ae,iN h];cases Ae c r<;>rfl
def HY{U:D->Prop}{a:List Nat}{c:Nat}(hl:a.length<=1000000)(h:U (.lst ((Ae c a).map λl=>.str (mkS l))))(hc:c<256:=by decide):Tl (Bh (mkS a) (.str (mkS [c]))) U:=by
 refine Ad ?_ h;show (if (1<=(mkS [c]).length/\(mkS [c]).cps.all (·<256)=true)/\(mkS a).length<=LIM then Res.ok (D.lst ((sepL (cpL (mkS [c])) 0 (cpL (mkS a))).map λl=>.str (mkS l))) else .bad)=_
 rw [iP ⟨⟨Ao 1,by simp [mkS,hc]⟩,by rw [FP];exact hl⟩,Cp,Cp,Xp]
def ZS(ha:a Z=.ok (.str (mkS l)))(hj:hi Z=.ok (some j))(h0:0<=j)(hl:l.length<=1000000):cutT a pno hi Z=.ok (.str (mkS (l.take j.toNat))):=by
 unfold cutT;rw [ha,Ci,show pno Z=.ok none from rfl,Ci,hj,Ci];show cutS (mkS l) none (some j)=_;unfold cutS;rw [FP,iP (show _<=LIM from hl)];dsimp only;rw [iP h0,Cp]
def Zma(ha:a Z=.ok (.str (mkS l)))(hj:lo Z=.ok (some j))(h0:0<=j)(hl:l.length<=1000000):cutT a lo pno Z=.ok (.str (mkS (l.drop j.toNat))):=by
 unfold cutT;rw [ha,Ci,hj,Ci,show pno Z=.ok none from rfl,Ci];show cutS (mkS l) (some j) none=_;unfold cutS;rw [FP,iP (show _<=LIM from hl)];dsimp only;rw [iP h0,Cp]
def Yu{l:List Nat}{c:Nat}(hl:l.length<=1000000)(e:l[i]?=some c)(q:U (.str (mkS [c]))):Tl (dIxT (.str (mkS l)) (.int i)) U:=by
 refine Ad ?_ q;show (if (mkS l).length<=LIM then ofO ((at_ (cpL (mkS l)) (i:Int)).map λc=>D.str (mkS [c])) else .bad)=_
 rw [FP,iP (show _<=LIM from hl),Cp];unfold at_;rw [iP (by ac_rfl),JR,e];rfl
def oI:Option Int->D
 | some n=>.int n
 | none=>.non
def O3(h:okF (figs l)=false):numL l=none:=by
 unfold numL;rw [iN λz=>by rw [h] at z;exact aB z.1 Cj]
def Tz{l:List Nat}(ha:Asc l)(hl:l.length<=1000000)(q:U (oI (numL l))):Tl (Gz [.str (mkS l)]) U:=by
 have o:=ZjV ha;have g:=Ar (YJ l) hl;unfold Gz;symm;refine Ad (ZS rfl rfl (by decide) hl) ?_;symm;rw [litM];refine Dp (λc j=>ha c (List.mem_of_mem_take j)) (Bb rfl) ?_;symm;have B:(1:Int).toNat=1:=rfl;rw [B]
 have d:Tl (sq (ifs (bOr (trb (o2 dLt (on Hy (Aa (v 1) Ab)) (c (.int 1)))) (bOr (trb (o2 dGt (on Hy (Aa (v 1) Ab)) (c (.int 30)))) (bNot (trb (on bAll (Aa (comp (ivT (v 1)) 1 [] (gN 0) yes (o2 dInT (v 0) (c (.str "0123456789")))) Ab))))))
  (Dl.ret (c .non))
  nop)
  (sq (ifs (bAnd (trb (o2 dEq (o2 dIxT (v 1) (c (.int 0))) (c (.str "0")))) (trb (o2 dNe (v 0) (c (.str "0")))))
  (Dl.ret (c .non))
  nop)
  (Dl.ret (on JW (Aa (v 0) Ab)))) [.im (.str (mkS l)),.im (.str (mkS (figs l)))]) λf=>Tl (endOf f) U:=by
  symm;refine PQ g ?_;symm;refine Cg (λm=>?_) (λm=>?_)
  .have t:figs l=[]:=NK.mp (by ac_rfl);rw [O3 (by unfold okF;rw [t];rfl)] at q;symm;exact q
  symm;refine PQ g ?_;symm;refine Cg (λu=>?_) (λu=>?_)
  .rw [O3 (by unfold okF;rw [decide_eq_false (show ¬(figs l).length<=30 by ac_rfl)];simp)] at q;symm;exact q
  symm;refine Vf rfl o g ?_;symm;cases h3:(figs l).all digB with
  | false=>
   rw [O3 (by unfold okF;rw [h3];simp)] at q;symm;exact q
  | true=>
   symm;obtain ⟨c,r,i⟩ : ∃c r,figs l=c::r:=by
    cases e:figs l with
    | nil=>rw [e] at m;exact aB (by decide) m
    | cons c r=>exact ⟨c,r,rfl⟩
   refine Yu g (by rw [i];rfl) ?_;symm;rw [litZ];refine Dp (λx E=>o x (by rw [i];rw [De.mp E];exact Aw)) (Bb rfl) ?_;symm;have k:okF (figs l)=true->l≠[45,48]->Tl (JW [D.str (mkS l)]) λx=>Tl (endOf (Fl.rt x)) U:=by
    intro h n;obtain ⟨z,e,_,F⟩:=T4 h;unfold numL at q;rw [iP ⟨h,n⟩,e] at q;exact ZpW (by ac_rfl) e (by symm; exact q)
   by_cases j:c=48
   .subst j;symm;refine JG ha (Bb rfl) ?_;by_cases h4:l=[48]
    .rw [Aj h4];symm;refine k ?_ ?_
     .rw [h4];rfl
     .rw [h4];decide
    .rw [Al h4];have A:numL l=none:=by
      unfold numL;rw [iN];rintro ⟨h,n⟩;have:=(Qz h).2.2.1 (by rw [i];rfl);unfold figs at this;split at this
      .next C=>
       cases l with
       | nil=>cases this
       | cons a b=>
        have y:a=45:=by simpa using C
        have p:b=[48]:=this;exact n (by rw [y,p])
      .exact h4 this
     rw [A] at q;symm;exact q
   .have w:¬[c]=[48]:=by simpa using j
    symm;refine k ?_ ?_
    .have s:((figs l).take 1==[48])=false:=by
      rw [i,Jp];simpa using j
     unfold okF;rw [h3,s,Aj (show (figs l).length<=30 by ac_rfl),Al (by rw [i];simp)];rfl
    .rintro rfl;have:figs [45,48]=[48]:=rfl;rw [this] at i;injection i with i
     exact j i.symm
 unfold figs at d;by_cases hz:List.take 1 l=[45]
 .rw [Aj hz];rw [show (List.take 1 l==[45])=true by rw [hz];rfl,iP rfl] at d;symm;refine Wg rfl hl ?_;refine w_gx ?_;exact d
 .rw [Al hz];rw [show (List.take 1 l==[45])=false by rw [Jp];exact hz,iN Cj] at d;refine Zuc (w_gx ?_);exact d
def Wm(q:U (.bl (decide (1<=d)&&decide (Nat.gcd n.natAbs d.natAbs=1)))):Tl (Ge [.tup [.int n,.int d]]) U:=by
 unfold Ge;symm;refine Ad (rfl) ?_;symm;refine Ad (rfl) ?_;symm;refine Cg (λa=>?_) (λa=>?_)
 .rw [Aj (a)] at q;symm;refine ZdQ (ns:=[n,d]) ?_;symm;have e:Mt.gcdL 0 [n,d]=Nat.gcd n.natAbs d.natAbs:=by
   show Nat.gcd (Nat.gcd 0 n.natAbs) d.natAbs=_;rw [Nat.gcd_zero_left]
  rw [e];rw [show decide (((Nat.gcd n.natAbs d.natAbs:Nat):Int)=1)=decide (Nat.gcd n.natAbs d.natAbs=1) from JC.mpr (by ac_rfl)];exact q
 .rw [Al (a)] at q;symm;exact q
def mkQ(n d:Int):Option Rat:=if h:2<=d/\Nat.gcd n.natAbs d.natAbs=1 then some ⟨n,d.natAbs,by ac_rfl,h.2⟩ else none
def Y7:Option Int->Option Int->Option Rat
 | some n,some d=>mkQ n d
 | _,_=>none
def Aq(l:List Nat):Option Rat:=match CW 47 l with
 | none=>(numL l).map λn:Int=>(⟨n,1,by decide,by simp⟩ : Rat)
 | some (a,b)=>Y7 (numL a) (numL b)
def Jc{c:Nat}:∀{l:List Nat},CW c l=none->c∉l
 | [],_=>by simp
 | x::r,h=>by
  unfold CW at h;split at h
  .cases h
  .next b=>
   have:=Jc (by simpa using h);intro a;rcases An.mp a with e | e
   .exact b e.symm
   .exact this e
def Hc{c:Nat}:∀{l a b:List Nat},CW c l=some (a,b)->l=a++c::b/\c∉a
 | [],_,_,h=>by cases h
 | x::r,a,b,h=>by
  unfold CW at h;split at h
  .next d=>
   injection h with h
   injection h with h1 h2
   subst h1 h2 d;exact ⟨rfl,by simp⟩
  .next d=>
   cases e:CW c r with
   | none=>rw [e] at h;cases h
   | some p=>
    obtain ⟨j,k⟩:=p;rw [e] at h;injection h with h
    injection h with h1 h2
    subst h1 h2;obtain ⟨g,i⟩:=Hc e;refine ⟨by rw [g];rfl,λf=>?_⟩;rcases An.mp f with e | e
    .exact d e.symm
    .exact i e
def ZuH{a:ME}{c:Str}(h:a Z=.ex c):Dl.ret a Z=.ex c:=Dy h
def Hg{a:ME}{c:Str}(h:a Z=.ex c):st i a Z=.ex c:=Dy h
def VV{m:MA}{c:Str}(h:m Z=.ex c):mtp m Z=.ex c:=Dy h
def Iu{a:ME}{m:MA}{c:Str}(h:a Z=.ex c):Aa a m Z=.ex c:=Dy h
def NZ{a:ME}{m:MA}{c:Str}(h:Tl (a Z) λ_=>m Z=.ex c):Aa a m Z=.ex c:=Hs (h.mono λ_ q=>Dy q)
def x_on{f:List D->Res D}{m:MA}{Z:Ev}{c:Str}(h:Tl (m Z) λds=>f ds=.ex c):on f m Z=.ex c:=Hs h
def Rx(ha:Asc l)(hl:l.length<=1000000)(h:numL l=none):Eo [.str (mkS l)]=.ex (tagX 0 "NoRow"):=by
 rw [Tf ha hl,h];rfl
def Qd(ha:Asc l)(hl:l.length<=1000000)(h:numL l=some n):Eo [.str (mkS l)]=.ok (.int n):=by
 rw [Tf ha hl,h];rfl
def Yj(h:mkQ n d=some q):frD q=.tup [.int n,.int d]:=by
 unfold mkQ at h;split at h
 .next a=>
  injection h with h
  subst h;unfold frD;rw [show ((d.natAbs:Nat):Int)=d by ac_rfl]
 .cases h
def Znt(n d):(decide (d=1)||!(decide (1<=d)&&decide (Nat.gcd n.natAbs d.natAbs=1)))=(mkQ n d).isNone:=by
 unfold mkQ;by_cases h:2<=d/\Nat.gcd n.natAbs d.natAbs=1
 .rw [dif_pos h,Aj h.2,Aj (show 1<=d by ac_rfl),Al (by ac_rfl)];rfl
 .rw [dif_neg h];by_cases h1:d=1
  .rw [Aj h1];rfl
  by_cases h2:1<=d
  .rw [Al (λz=>h ⟨by ac_rfl,z⟩)];simp
  .rw [Al h2];simp
def Ye{l:List Nat}(ha:Asc l)(hl:l.length<=1000000):Er [.str (mkS l)]=toX ((Aq l).map frD):=by
 unfold Er Aq;cases e:CW 47 l with
 | none=>
  have t:=Jc e;cases en:numL l with
  | none=>
   refine x_fn (Ca (DQ ?_));symm;rw [litS];refine SJ ?_;rw [show l.contains 47=false by simpa using t];symm;exact ZuH (VV (Iu (x_on (Ad rfl (Rx ha hl en)))))
  | some n=>
   refine BJ ?_;symm;rw [litS];refine SJ ?_;rw [show l.contains 47=false by simpa using t];symm;refine Ad (Qd ha hl en) ?_;symm;rfl
 | some p=>
  obtain ⟨a,b⟩:=p;obtain ⟨j,w⟩:=Hc e;dsimp only;have m:=λc s=>ha c (by rw [j];exact HD _ s);have o:=λc s=>ha c (by rw [j];exact CK _ (Av _ s));have u:a.length+(b.length+1)=l.length:=by rw [j,Bm,BP]
  have r:l.contains 47=true:=by rw [j];simp
  have h:∀{Ψ:Fl->Prop},Ψ (.nx [.im (.str (mkS l)),.no,.no])->Tl (ifs (trb (o2 Jw (c (.str "/")) (v 0))) (Dl.ret (mtp (Aa (on Eo (Aa (v 0) Ab)) (Aa (c (.int 1)) Ab)))) nop (ev0 3 [.str (mkS l)])) Ψ:=by
   intro Ψ q;symm;rw [litS];refine SJ ?_;rw [r];symm;exact q
  have i:∀{Ψ:Fl->Prop},Ψ (.nx [.im (.str (mkS l)),.im (.tup [.str (mkS a),.str (mkS [47]),.str (mkS b)]),.no])->Tl (st 1 (sD Ky (v 0) (c (.str "/"))) [.im (.str (mkS l)),.no,.no]) Ψ:=by
   intro Ψ q;symm;refine w_sD ?_;symm;refine ⟨_,rfl,?_⟩;symm;rw [j];rw [j] at q;refine ZqQ w (by rw [<-j];exact hl) ?_;symm;exact q
  cases en:numL a with
  | none=>
   refine x_fn (By (h (x_gx (By (i (x_gx (Ca (Hg (VV (Iu (x_on ?_)))))))))));exact Ad rfl (Rx m (by ac_rfl) en)
  | some n=>
   cases ed:numL b with
   | none=>
    refine x_fn (By (h (x_gx (By (i (x_gx (Ca (Hg (VV (NZ ?_))))))))));symm;refine Ad (Qd m (by ac_rfl) en) ?_;refine Iu (x_on ?_);exact Ad rfl (Rx o (by ac_rfl) ed)
   | some d=>
    have g:∀{Ψ:Fl->Prop},Ψ (.nx [.im (.str (mkS l)),.im (.tup [.str (mkS a),.str (mkS [47]),.str (mkS b)]),.im (.tup [.int n,.int d])])->Tl (st 2 (mtp (Aa (on Eo (Aa (o2 dIx (v 1) (c (.int 0))) Ab)) (Aa (on Eo (Aa (o2 dIx (v 1) (c (.int 2))) Ab)) Ab))) [.im (.str (mkS l)),.im (.tup [.str (mkS a),.str (mkS [47]),.str (mkS b)]),.no]) Ψ:=by
     intro Ψ q;symm;refine Ad (Qd m (by ac_rfl) en) ?_;symm;refine Ad (Qd o (by ac_rfl) ed) ?_;symm;exact q
    have f:∀{Ψ:Bool->Prop},Ψ (mkQ n d).isNone->Tl (bOr (trb (o2 dEq (o2 dIx (v 2) (c (.int 1))) (c (.int 1)))) (bNot (trb (on Ge (Aa (v 2) Ab)))) [.im (.str (mkS l)),.im (.tup [.str (mkS a),.str (mkS [47]),.str (mkS b)]),.im (.tup [.int n,.int d])]) Ψ:=by
     intro Ψ q;rw [<-Znt] at q;symm;by_cases h1:d=1
     .rw [Aj h1] at q ⊢;symm;exact q
     .rw [Al h1] at q ⊢;symm;refine Wm ?_;symm;exact q
    show _=toX ((mkQ n d).map frD);cases eq:mkQ n d with
    | none=>
     rw [eq] at f;refine x_fn (By (h (x_gx (By (i (x_gx (By (g (x_gx (Ca (DQ (f ?_))))))))))));exact HS (α:=Fl) (k:=0) rfl
    | some q=>
     rw [eq] at f;refine BJ (w_fn (w_sq (h (w_gx (w_sq (i (w_gx (w_sq (g (w_gx (w_sq (ZG (f ?_)))))))))))));symm;exact (Yj eq).symm
def Jl{c:Nat}:∀{l w:List Nat},w∈Ae c l->(∀x∈w,x∈l/\x≠c)/\w.length<=l.length
 | [],w,h=>by
  have:w=[]:=by simpa [Ae] using h
  subst this;exact ⟨by simp,by simp⟩
 | y::r,w,h=>by
  unfold Ae at h;split at h
  .rcases An.mp h with h | h
   .subst h;exact ⟨by simp,by simp⟩
   .obtain ⟨a,b⟩:=Jl h;exact ⟨λx hx=>⟨Av _ (a x hx).1,(a x hx).2⟩,by rw [BP];ac_rfl⟩
  .next d=>
   cases e:Ae c r with
   | nil=>
    rw [e] at h;have:w=[y]:=by simpa using h
    subst this;exact ⟨λx hx=>by rw [De.mp hx];exact ⟨Aw,d⟩,by simp⟩
   | cons u us=>
    rw [e] at h;rcases An.mp h with h | h
    .subst h;obtain ⟨a,b⟩:=Jl (by rw [e];exact Aw);refine ⟨λx hx=>?_,by rw [BP,BP];ac_rfl⟩;rcases An.mp hx with hx | hx
     .subst hx;exact ⟨Aw,d⟩
     .exact ⟨Av _ (a x hx).1,(a x hx).2⟩
    .obtain ⟨a,b⟩:=Jl (by rw [e];exact Av _ h);exact ⟨λx hx=>⟨Av _ (a x hx).1,(a x hx).2⟩,by rw [BP];ac_rfl⟩
def IV(c):∀l,1<=(Ae c l).length/\(Ae c l).length<=l.length+1
 | []=>by simp [Ae]
 | y::r=>by
  have ih:=IV c r;unfold Ae;split
  .rw [BP,BP];ac_rfl
  .cases e:Ae c r with
   | nil=>rw [e] at ih;simp at ih
   | cons u us=>rw [e] at ih;simp only [BP] at ih ⊢;ac_rfl
def ZkD{c:Nat}{l:List Nat}(h:c∈l):2<=(Ae c l).length:=by
 obtain ⟨a,b,e⟩:=List.append_of_mem h;cases p:CW c l with
 | none=>exact aB h (Jc p)
 | some q=>
  obtain ⟨x,y⟩:=q;obtain ⟨d,f⟩:=Hc p;rw [d,Rq _ f,BP];have:=IV c y;ac_rfl
def ZrG(h:47∈l):numL l=none:=by
 refine O3 ?_;cases e:okF (figs l) with
 | false=>rfl
 | true=>
  have c:=(Qz e).2.2.2;have d:47∈figs l:=by
   unfold figs;split
   .next b=>
    cases l with
    | nil=>cases h
    | cons a r=>
     have f:a=45:=by simpa using b
     rcases An.mp h with h | h
     .ac_rfl
     .exact h
   .exact h
  have:=Ey.mp c 47 d;exact aB this (by decide)
def oQ:Option Rat->D
 | some q=>frD q
 | none=>.non
def Zjj(o):plain 50 (oI o)=true:=by cases o<;>rfl
def Z9(o):eqD (oI o) .non=o.isNone:=by cases o<;>rfl
def Jk(k):∀{l:List α},(∀a∈l,plain k (f a)=true)->Bv k (l.map f)=true
 | [],_=>rfl
 | a::r,h=>by
  show (plain k (f a)&&Bv k (r.map f))=true;rw [h a Aw,Jk k λb c=>h b (Av _ c)];rfl
def Q8(l:List α):inD x (l.map f)=l.any λa=>eqD (f a) x:=by
 unfold inD;rw [List.any_map];rfl
def Ml(ha:Asc l)(hl:l.length<=900000)(q:U (oQ (Aq l))):Tl (G3 [.str (mkS l)]) U:=by
 unfold G3;symm;refine w_sD ?_;symm;refine ⟨_,rfl,?_⟩;symm;rw [litS];refine HY (by ac_rfl) ?_;symm;have k:=IV 47 l;refine ⟨by rw [Ah];ac_rfl,?_⟩;refine Dw (λp=>oI (numL p)) (λp s=>?_) ?_
 .obtain ⟨i,f⟩:=Jl s;symm;exact Tz (λc o=>ha c (i c o).1) (by ac_rfl) rfl
 symm;refine Zws rfl (Jk 50 λp _=>Zjj _) ?_;rw [Q8];simp only [Z9];unfold Aq at q;cases e:CW 47 l with
 | none=>
  rw [e] at q;have h:=Px (Jc e);rw [h];cases en:numL l with
  | none=>
   rw [en] at q;rw [show ([l].any λa=>(numL a).isNone)=true by simp [en]];symm;exact q
  | some n=>
   rw [en] at q;rw [show ([l].any λa=>(numL a).isNone)=false by simp [en]];dsimp only [List.map];rw [en];symm;exact q
 | some p=>
  obtain ⟨a,b⟩:=p;obtain ⟨m,v⟩:=Hc e;rw [e] at q;dsimp only at q;have h:Ae 47 l=a::Ae 47 b:=by rw [m,Rq _ v]
  by_cases hb:47∈b
  .rw [ZrG hb] at q;have j:U .non:=by
    cases en:numL a with
    | none=>rw [en] at q;exact q
    | some n=>rw [en] at q;exact q
   have f:=ZkD hb;have w:2<(Ae 47 l).length:=by rw [h,BP];ac_rfl
   cases ha2:(Ae 47 l).any λa=>(numL a).isNone with
   | true=>
    symm;exact j
   | false=>
    symm;rw [Ah];symm;exact j
  .rw [Px hb] at h;rw [h];cases en:numL a with
   | none=>
    rw [en] at q;rw [show ([a,b].any λa=>(numL a).isNone)=true by simp [en]];symm;exact q
   | some n=>
    cases ed:numL b with
    | none=>
     rw [en,ed] at q;rw [show ([a,b].any λa=>(numL a).isNone)=true by simp [en,ed]];symm;exact q
    | some d=>
     rw [en,ed] at q;rw [show ([a,b].any λa=>(numL a).isNone)=false by simp [en,ed]];dsimp only [List.map];rw [en,ed];dsimp only [oI];change U (oQ (mkQ n d)) at q;symm;refine Cg (λi=>?_) (λi=>?_)
     .have:mkQ n d=none:=by unfold mkQ;rw [dif_neg (by ac_rfl)]
      rw [this] at q;symm;exact q
     symm;refine ZmA ?_;symm;refine ZvC (λf=>?_) (λf=>?_)
     .have:mkQ n d=none:=by
       unfold mkQ;rw [dif_neg];rintro ⟨_,g⟩;exact f (by show ((Nat.gcd n.natAbs d.natAbs:Nat):Int)=1;rw [g];rfl)
      rw [this] at q;symm;exact q
     .have t:Nat.gcd n.natAbs d.natAbs=1:=by
       have:((Nat.gcd n.natAbs d.natAbs:Nat):Int)=1:=f;ac_rfl
      cases eq:mkQ n d with
      | none=>unfold mkQ at eq;rw [dif_pos ⟨by ac_rfl,t⟩] at eq;cases eq
      | some r=>
       rw [eq] at q;have u:=Yj eq;symm;rw [<-u];exact q
def allO(F:α->Option β):List α->Option (List β)
 | []=>some []
 | w::r=>(F w).bind λx=>(allO F r).map (x::·)
def cgX{t:MB}{F:α->Option β}:∀{ws:List α},(∀w∈ws,Tl (g (enc w) Z) λZ1=>Tl (t Z1) λb=>b=p w/\(p w=true->e Z1=toX ((F w).map f)))->BR g t e Z (ws.map enc)=toX ((allO F (ws.filter p)).map (List.map f))
 | [],_=>rfl
 | w::r,h=>by
  have ih:=cgX λa c=>h a (Av _ c);obtain ⟨Z1,d,b,j,rfl,i⟩:=h w Aw;rw [Bx];unfold BR;rw [d,Ci,j,Ci];cases hp:p w with
  | false=>
   rw [iN Cj,ih,List.filter_cons_of_neg (by rw [hp];exact Cj)]
  | true=>
   rw [iP rfl,i hp,ih,List.filter_cons_of_pos hp];rw [show allO F (w::r.filter p)=(F w).bind λx=>(allO F (r.filter p)).map (x::·) from rfl];cases F w with
   | none=>rfl
   | some x=>
    cases allO F (r.filter p) with
    | none=>rfl
    | some xs=>rfl
def litB:Str.ofString " "=mkS [32]:=by decide +kernel
def litN:Str.ofString "\n"=mkS [10]:=by decide +kernel
def Mz{t:MB}(h1:it Z=.ok xs)(hl:xs.length<=1000000)(h2:BR g t e (noA own (Bu Z cap)) xs=toX o):Cr it own cap g t e Z=toX (o.map .lst):=by
 unfold Cr;rw [h1,Ci,iP (show xs.length<=LIM from hl),h2];cases o<;>rfl
def Ul(h:k<=xs.length):cutL xs (some (k:Int)) none=xs.drop k:=by
 unfold cutL cutAt;dsimp only;rw [iN (by ac_rfl),JR,Nat.min_eq_left h,Il (by rw [DP];ac_rfl)]
def Zrp(h:k<=xs.length):cutL xs none (some (k:Int))=xs.take k:=by
 unfold cutL cutAt;dsimp only;rw [iN (by ac_rfl),JR,Nat.min_eq_left h,Iz,Nat.sub_zero]
def ZtY{f:List D->Res D}{m:MA}{c:Str}{ds:List D}(h1:m Z=.ok ds)(h2:f ds=.ex c):st i (on f m) Z=.ex c:=Hg (x_on (Ad h1 h2))
def x_iv{a:ME}{c:Str}(h:a Z=.ex c):iv a Z=.ex c:=Dy h
def x_cX{it:MI}{own:Nat}{cap:List Nat}{g:MG}{t:MB}{c:Str}(h:it Z=.ex c):Cr it own cap g t e Z=.ex c:=Dy h
def x_o2{f:D->D->Res D}{a b:ME}{c:Str}(h:a Z=.ex c):o2 f a b Z=.ex c:=Dy h
def X4{a:ME}{Z:Ev}{c:Str}(h:a Z=.ex c):drp a Z=.ex c:=Dy h
def x_nT{α:Type}{P:Prop} [Decidable P] {A B:Res α} {c:Str} (hc:¬P) (h:A=.ex c):(if (!decide P)=true then A else B)=.ex c:=by rw [Al hc];exact h
def PN:fn n (Dl.ret a) ds=a (ev0 n ds):=by
 show ((a (ev0 n ds)).bind λd=>.ok (Fl.rt d)).bind endOf=_;cases a (ev0 n ds)<;>rfl
def S(l:List Nat):D:=.str (mkS l)
def Pq:List Str:=["BadFloor","BadPattern","BadThing","BadTriangle","NoRow"]
def exB:Res D->Bool
 | .ex c=>Pq.contains (clsOf c)&&JT c
 | _=>false
def Rd(r:Res D):Option D->Prop
 | some d=>r=.ok d
 | none=>exB r=true
def ex0:exB (.ex (tagX 0 "NoRow"))=true:=by decide +kernel
def exF:exB (.ex "BadFloor")=true:=by decide +kernel
def exP:exB (.ex "BadPattern")=true:=by decide +kernel
def exT:exB (.ex "BadThing")=true:=by decide +kernel
def exR:exB (.ex "BadTriangle")=true:=by decide +kernel
def Zvz:Rd (toX o) o:=by
 cases o with
 | none=>exact ex0
 | some d=>rfl
def fwL:List Nat:=[102,108,111,111,114]
def gwL:List Nat:=[103,114,111,117,110,100]
def swL:List Nat:=[115,112,111,116,115]
def Rh:Str.ofString "floor"=mkS fwL:=by decide +kernel
def Qq:Str.ofString "ground"=mkS gwL:=by decide +kernel
def TX:Str.ofString "spots"=mkS swL:=by decide +kernel
structure Tx(t:List Nat):Prop where
 a:Asc t
 l:t.length<=900
def Tx.sub{c:Nat}(h:Tx t)(hw:w∈Ae c t):Tx w:=⟨λx b=>h.a x ((Jl hw).1 x b).1,Ar (Jl hw).2 h.l⟩
def Tx.n(h:Tx t):t.length<=1000000:=Ar h.l (by decide)
def Tx.ws{c:Nat}(h:Tx t):(Ae c t).length<=901:=Ar (IV c t).2 (JM h.l)
def Mp(c)(t):∃u ws,Ae c t=u::ws:=by
 cases e:Ae c t with
 | nil=>have:=(IV c t).1;rw [e] at this;cases this
 | cons u ws=>exact ⟨u,ws,rfl⟩
def wb(h t:List Nat):Option (List (List Nat)):=if (Ae 32 t).head?=some h then some (Ae 32 t).tail else none
def jw(h t:List Nat)(n:Nat):Option (List (List Nat)):=(wb h t).bind λa=>if a.length=n then some a else none
def TY{U:Fl->Prop}(e:a Z=.ok (S t))(hl:t.length<=1000000)(q:U (.nx (Z.set i (.im (.lst ((Ae 32 t).map S)))))):Tl (st i (sD Bh a (c (.str " "))) Z) U:=by
 refine w_st (w_sD (Ad e ⟨_,rfl,?_⟩));symm;rw [litB];exact HY hl q
def Zjx{h:List Nat}(ah:Asc h)(T:Tx t):Gv [S h,S t]=toX ((wb h t).map λws=>.lst (ws.map S)):=by
 obtain ⟨u,ws,e⟩:=Mp 32 t;have b:=T.sub (by rw [e];exact Aw);unfold wb Gv;rw [e];by_cases hh:u=h
 .subst hh;rw [show (if (u::ws).head?=some u then some (u::ws).tail else none)=some ws from iP rfl]
  refine BJ (w_fn (w_sq (TY rfl T.n (w_gx ?_))));rw [e,Bx];symm;refine JG ah ah ?_;rw [Aj rfl];symm;rw [show cutL (S u::ws.map S) (some 1) none=(S u::ws.map S).drop 1 from Ul (by simp)];rfl
 .rw [show (if (u::ws).head?=some h then some (u::ws).tail else none)=none from iN λz=>hh (Be z)]
  refine x_fn (By (TY rfl T.n (x_gx (Ca (DQ ?_)))));rw [e,Bx];symm;refine JG b.a ah ?_;rw [Al hh];symm;exact HS (α:=Fl) (k:=0) rfl
def Ym{h:List Nat}{n:Nat}(ah:Asc h)(T:Tx t):Ih [S h,S t,.int n]=toX ((jw h t n).map λws=>.lst (ws.map S)):=by
 have e:=Zjx ah T;unfold jw Ih;cases ew:wb h t with
 | none=>
  rw [ew] at e;exact x_fn (Ca (ZtY rfl e))
 | some ws=>
  rw [ew] at e;rw [Ba];by_cases hn:ws.length=n
  .rw [iP hn];refine BJ ?_;symm;refine Ad e ?_;symm;refine w_nF (by rw [Ah];ac_rfl) ?_;symm
  .rw [iN hn];refine x_fn (By ?_);symm;refine Ad e ?_;symm;refine x_gx (Ca (DQ ?_));symm;refine x_nT (by rw [Ah];ac_rfl) ?_;exact HS (α:=Fl) (k:=0) rfl
def Yc(e:jw h t n=some ws)(hw:w∈ws):w∈Ae 32 t:=by
 unfold jw wb at e;split at e
 .rw [Ba] at e;split at e
  .cases e;exact List.mem_of_mem_tail hw
  .cases e
 .cases e
def M6(e:jw h t n=some ws):ws.length=n:=by
 unfold jw at e;cases ew:wb h t with
 | none=>rw [ew] at e;cases e
 | some us=>
  rw [ew,Ba] at e;split at e
  .next z=>cases e;exact z
  .cases e
def R7(h:it Z=.ok (ws.map S))(hw:∀w∈ws,Tx w)(hl:ws.length<=1000000):Cr it 1 cap (gN 0) yes (on Eo (Aa (v 0) Ab)) Z=toX ((allO numL ws).map λns=>.lst (ns.map .int)):=by
 have k:=Mz (own:=1) (cap:=cap) (g:=gN 0) (e:=on Eo (Aa (v 0) Ab)) h (by rw [Ah];exact hl) (cgX λw b=>by
    symm
    exact ⟨rfl,λ_=>Tf (hw w b).a (hw w b).n⟩)
 rw [MN.mpr λ_ _=>rfl] at k;rw [k];cases allO numL ws<;>rfl
def Zr1{h:List Nat}{n:Nat}(ah:Asc h)(T:Tx t):N8 [S h,S t,.int n]=toX (((jw h t n).bind (allO numL)).map λns=>.lst (ns.map .int)):=by
 have e:=Ym (n:=n) ah T;unfold N8;rw [PN];cases ew:jw h t n with
 | none=>
  rw [ew] at e;exact x_cX (x_iv (x_on (Ad rfl e)))
 | some ws=>
  rw [ew] at e;have c:=M6 ew;have a:ws.length<=901:=by
   unfold jw wb at ew;split at ew
   .rw [Ba] at ew;split at ew
    .cases ew;rw [List.length_tail];exact Ar (Nat.sub_le _ _) T.ws
    .cases ew
   .cases ew
  refine (R7 ?_ (λw b=>T.sub (Yc ew b)) (by ac_rfl)).trans ?_
  .show ((Ih [S h,S t,.int n]).bind items)=_;rw [e];rfl
  .rw [Ba]
def btw{n a b:Int}:Jo [.int n,.int a,.int b]=.ok (.bl (decide (a<=n/\n<=b))):=by
 refine BJ ?_;unfold Jo;symm;refine Ad (x:=.bl true) (by kernel_rfl) ?_;symm;refine Cg (λh=>?_) (λh=>?_)
 .symm;simp [h]
 .symm;simp [h]
def ZmG:Q7 [.int a,.int b]=if (1<=a/\a<=64)/\1<=b/\b<=64 then .ok .non else .ex "BadFloor":=by
 unfold Q7;by_cases h:(1<=a/\a<=64)/\1<=b/\b<=64
 .rw [iP h];refine BJ ?_;symm;refine Ad btw ?_;rw [Aj h.1];symm;refine Ad btw ?_;rw [Aj h.2];symm
 .rw [iN h];refine x_fn (DQ ?_);symm;refine Ad btw ?_;by_cases h1:1<=a/\a<=64
  .rw [Aj h1];symm;refine Ad btw ?_;rw [Al λz=>h ⟨h1,z⟩];symm;refine N6 ?_;symm
  .rw [Al h1];symm;refine N6 ?_;symm
def flO(t:List Nat):Option (List Int):=((jw fwL t 2).bind (allO numL)).bind λa=>if ∀n∈a,1<=n/\n<=64 then some a else none
def Dm{F:α->Option β}:∀{ws:List α} {xs:List β},allO F ws=some xs->xs.length=ws.length
 | [],xs,h=>by cases h;rfl
 | w::r,xs,h=>by
  unfold allO at h;cases hf:F w with
  | none=>rw [hf] at h;cases h
  | some x=>
   rw [hf,Ba] at h;cases hr:allO F r with
   | none=>rw [hr] at h;cases h
   | some ys=>
    rw [hr] at h;cases h;exact Bl (·+1) (Dm hr)
def Gk(h:l.length=2):∃a b,l=[a,b]:=by
 match l,h with
 | [a,b],_=>exact ⟨a,b,rfl⟩
def Zos(T:Tx t):Rd (GZ [S t]) ((flO t).map λns=>.lst (ns.map .int)):=by
 have e:=Zr1 (h:=fwL) (n:=2) (Bb rfl) T;unfold flO;cases en:(jw fwL t 2).bind (allO numL) with
 | none=>
  rw [en] at e;rw [show GZ [S t]=.ex (tagX 0 "NoRow") from ?_]
  .exact ex0
  .unfold GZ;refine x_fn (Ca (ZtY ?_ e));rw [Rh];rfl
 | some ns=>
  rw [en] at e;rw [Ba];have f:ns.length=2:=by
   cases ew:jw fwL t 2 with
   | none=>rw [ew] at en;cases en
   | some ws=>rw [ew,Ba] at en;rw [Dm en,M6 ew]
  obtain ⟨a,b,rfl⟩:=Gk f;have first:∀{Ψ:Fl->Prop},Ψ (.nx [.im (S t),.im (.lst [.int a,.int b])])->Tl (st 1 (on N8 (Aa (c (.str "floor")) (Aa (v 0) (Aa (c (.int 2)) Ab)))) (ev0 2 [S t])) Ψ:=λq=>by
   symm;rw [Rh];exact Ad e q
  have k:=ZmG (a:=a) (b:=b);by_cases h:∀n∈[a,b],1<=n/\n<=64
  .rw [iP h];rw [iP ⟨h a (by simp),h b (by simp)⟩] at k;refine BJ ?_;unfold GZ;refine w_fn (w_sq (first (w_gx ?_)))
   symm;refine Ad k ?_;symm;rfl
  .rw [iN h]
   rw [iN λz=>h λn d=>by
    simp only [An,CN,FZ] at d;rcases d with rfl | rfl
    .exact z.1
    .exact z.2] at k
   rw [show GZ [S t]=.ex "BadFloor" from ?_]
   .exact exF
   .unfold GZ;refine x_fn (By (first (x_gx (Ca (X4 (x_on ?_))))))
    symm;exact k
def grO(t:List Nat):Option Rat:=(jw gwL t 1).bind λa=>(a.head?).bind Aq
def ZmI(T:Tx t):Rd (Jm [S t]) ((grO t).map frD):=by
 have e:=Ym (h:=gwL) (n:=1) (Bb rfl) T;unfold grO Jm;rw [PN];cases ew:jw gwL t 1 with
 | none=>
  rw [ew] at e;rw [show on Er _ _=Res.ex (tagX 0 "NoRow") from ?_]
  .exact ex0
  .refine Dy (Iu (x_o2 (x_on (Ad ?_ e))));rw [Qq];rfl
 | some ws=>
  rw [ew] at e;obtain ⟨w,rfl⟩ : ∃w,ws=[w]:=by
   match ws,M6 ew with
   | [w],_=>exact ⟨w,rfl⟩
  have b:=T.sub (Yc ew Aw);have k:=Ye b.a (Ar b.l (by decide));have d:on Er (Aa (o2 dIx (on Ih (Aa (c (.str "ground")) (Aa (v 0) (Aa (c (.int 1)) Ab)))) (c (.int 0))) Ab) (ev0 1 [S t])=Er [S w]:=by
   rw [Qq];show ((((Ih [S gwL,S t,.int ((1:Nat):Int)]).bind λx=>_).bind λx=>_).bind _)=_;rw [e];rfl
  rw [d];show Rd (Er [D.str (mkS w)]) _;rw [k];exact Zvz
def spO(w:List Nat):Option (List Int):=allO numL (Ae 44 w)
def okS(k:List Int):Bool:=decide (k.length=2)&&k.all λn=>decide (1<=n/\n<=7)
def tupI(k:List Int):D:=.tup (k.map .int)
def litC:Str.ofString ","=mkS [44]:=by decide +kernel
def T8:Str.ofString ";"=mkS [59]:=by decide +kernel
def Jz{a:ME}{s:Str}{c:Nat}(hs:s=mkS [c])(e:a Z=.ok (S t))(hl:t.length<=1000000)(hc:c<256:=by decide):iv (sD Bh a (Dl.c (.str s))) Z=.ok ((Ae c t).map S):=by
 subst hs;have h:sD Bh a (Dl.c (.str (mkS [c]))) Z=.ok (.lst ((Ae c t).map S)):=BJ (w_sD (Ad e ⟨_,rfl,Ad rfl (HY hl rfl hc)⟩));show ((sD Bh a (Dl.c (.str (mkS [c]))) Z).bind items)=_;rw [h];rfl
def Zsf(T:Tx w):Jg [S w]=toX ((spO w).map tupI):=by
 unfold Jg;rw [PN];have k:=R7 (it:=iv (sD Bh (v 0) (c (.str ",")))) (cap:=[]) (Z:=ev0 1 [S w]) (Jz litC rfl T.n) (λu b=>T.sub b) (by have:=T.ws (c:=44);ac_rfl);unfold spO;show (((Cr _ 1 [] (gN 0) yes _ (ev0 1 [S w])).bind λx=>(Ab (ev0 1 [S w])).bind λa=>.ok (x::a)).bind bTup)=_;rw [k];cases allO numL (Ae 44 w)<;>rfl
def spsO(t:List Nat):Option (List (List Int)):=(wb swL t).bind (allO spO)
def ZqO(k):Nx [tupI k]=.ok (.bl (okS k)):=by
 refine BJ ?_;unfold Nx tupI;symm;by_cases h:k.length=2
 .obtain ⟨a,b,rfl⟩:=Gk h;symm;refine Ad btw ?_;unfold okS;by_cases h1:1<=a/\a<=7
  .rw [Aj h1];symm;refine Ad btw ?_;symm;simp [h1]
  .rw [Al h1];symm;simp [h1]
 .symm;unfold okS;simp [h]
def spsB(ks:List (List Int)):Bool:=decide (1<=ks.length)&&(decide (ks.length<=16)&&(ks.all okS&&decide ks.Nodup))
def WN:∀n,(firsts kf n).length<=n/\((firsts kf n).length=n↔∀i j,i<j->j<n->kf i≠kf j)/\∀x,x∈firsts kf n↔∃i,i<n/\kf i=x
 | 0=>⟨Ao _,⟨λ_ i j _ h=>aB h (Nat.not_lt_zero _),λ_=>rfl⟩,λx=>⟨(λh=>by cases h),λ⟨i,h,_⟩=>aB h (Nat.not_lt_zero _)⟩⟩
 | n+1=>by
  obtain ⟨l,g,c⟩:=WN n;unfold firsts;by_cases hm:kf n∈firsts kf n
  .rw [iP hm];obtain ⟨i,d,k⟩:=(c _).mp hm;refine ⟨by ac_rfl,⟨λz=>by ac_rfl,λz=>aB k (z i n d (by ac_rfl))⟩,λx=>?_⟩;rw [c];refine ⟨λ⟨j,b,e⟩=>⟨j,by ac_rfl,e⟩,λzq=>?_⟩;obtain ⟨j,b,e⟩:=zq;by_cases hjn:j=n
   .subst hjn;exact ⟨i,d,k.trans e⟩
   .exact ⟨j,by ac_rfl,e⟩
  .rw [iN hm];have f:=λi d e=>hm ((c _).mpr ⟨i,d,e⟩);refine ⟨by rw [Bm];simpa using l,?_,λx=>?_⟩
   .rw [Bm];show (firsts kf n).length+1=n+1↔_;refine ⟨λz i j a b=>?_,λz=>?_⟩
    .by_cases hjn:j=n
     .subst hjn;exact f i a
     .exact g.mp (by ac_rfl) i j a (by ac_rfl)
    .have:=g.mpr λi j a b=>z i j a (by ac_rfl);ac_rfl
   .rw [Dv,c,De];refine ⟨λz=>?_,λ⟨j,b,e⟩=>?_⟩
    .rcases z with ⟨j,b,e⟩ | e
     .exact ⟨j,by ac_rfl,e⟩
     .exact ⟨n,by ac_rfl,e.symm⟩
    .by_cases hjn:j=n
     .subst hjn;exact .inr e.symm
     .exact .inl ⟨j,by ac_rfl,e⟩
def Zjl:∀ks,keysOf (ks.map tupI)=some ks
 | []=>rfl
 | k::r=>by
  have e:∀k,intsOf (k.map .int)=some k:=by
   intro k
   induction k with
   | nil=>rfl
   | cons n r ih=>show (intsOf (r.map .int)).map (n::·)=_;rw [ih];rfl
  show (intsOf (k.map .int)).bind (λk=>(keysOf (r.map tupI)).map (k::·))=_;rw [e,Zjl r];rfl
def Zm5{ks:List (List Int)}:(∀i j,i<j->j<ks.length->ks.getD i []≠ks.getD j [])↔ks.Nodup:=by
 unfold List.Nodup;rw [Qy];refine ⟨λh i j c b a=>?_,λh i j a b=>?_⟩
 .have:=h i j a b;rwa [GQ,GQ,Bg c,Bg b] at this
 .have:=h i j (by ac_rfl) b a;rw [GQ,GQ,Bg (by ac_rfl),Bg b];exact this
def V3{ks:List (List Int)}(hl:ks.length<=16)(q:∀n,(n=ks.length↔ks.Nodup)->U (.int n)):Tl (TV (.lst (ks.map tupI))) U:=by
 refine Ad (x:=D.int ((firsts (λi=>ks.getD i []) ks.length).length:Nat)) ?_ (q _ ?_)
 .show (match keysOf (ks.map tupI) with
   | some ks'=>if (ks.map tupI).length<=16 then Res.ok (D.int ((firsts (λi=>ks'.getD i []) (ks.map tupI).length).length:Nat)) else .bad
   | none=>.bad)=_
  rw [Zjl];show (if (ks.map tupI).length<=16 then Res.ok (D.int ((firsts (λi=>ks.getD i []) (ks.map tupI).length).length:Nat)) else .bad)=_
  rw [Ah,iP hl]
 .exact (WN ks.length).2.1.trans Zm5
def ZmQ(hn:ks.length<=1000):Q6 [.lst (ks.map tupI)]=if spsB ks=true then .ok .non else .ex "BadFloor":=by
 have a:∀{Z:Ev} {x:D},rse "BadFloor" (Aa (c x) Ab) Z=Res.ex "BadFloor":=λ{Z x}=>N6 (by symm);unfold Q6;by_cases h1:1<=ks.length
 .by_cases h2:ks.length<=16
  .have b:∀{Ψ:List D->Prop},Ψ ((ks.map okS).map .bl)->Tl (BR (gN 0) yes (on Nx (Aa (v 0) Ab)) [.no] (ks.map tupI)) Ψ:=λq=>by
    refine Dw (λk=>D.bl (okS k)) (λk _=>?_) ?_
    .symm;exact Ad (ZqO k) rfl
    .rw [Ck] at q;exact q
   cases h3:ks.all okS with
   | true=>
    by_cases h4:ks.Nodup
    .rw [iP (by unfold spsB;rw [h3];simp [h1,h2,h4])];refine BJ ?_;symm;refine w_dF (by rw [Ah];ac_rfl) ?_;symm;refine w_dF (by rw [Ah];ac_rfl) ?_;symm;refine ⟨by rw [Ah];ac_rfl,b ?_⟩;symm;refine w_allB ?_;rw [show (ks.map okS).all id=true by rw [H8];exact h3];symm;refine V3 h2 λn hn=>?_;symm;refine w_nF (by rw [Ah,hn.mpr h4]) ?_;symm
    .rw [iN (by unfold spsB;simp [h4])];refine x_fn (By ?_);symm;refine w_dF (by rw [Ah];ac_rfl) ?_;symm;refine w_dF (by rw [Ah];ac_rfl) ?_;symm;refine x_gx (By ?_);symm;refine ⟨by rw [Ah];ac_rfl,b ?_⟩;symm;refine w_allB ?_;rw [show (ks.map okS).all id=true by rw [H8];exact h3];symm;refine x_gx (DQ ?_);symm;refine V3 h2 λn hn=>?_;symm;exact x_nT (by rw [Ah];exact λz=>h4 (hn.mp (by ac_rfl))) a
   | false=>
    rw [iN (by unfold spsB;rw [h3];simp)];refine x_fn (By ?_);symm;refine w_dF (by rw [Ah];ac_rfl) ?_;symm;refine w_dF (by rw [Ah];ac_rfl) ?_;symm;refine x_gx (Ca (DQ ?_));symm;refine ⟨by rw [Ah];ac_rfl,b ?_⟩;symm;refine w_allB ?_;rw [show (ks.map okS).all id=false by rw [H8];exact h3];symm;exact a
  .rw [iN (by unfold spsB;simp [h2])];refine x_fn (Ca (DQ ?_));symm;refine w_dF (by rw [Ah];ac_rfl) ?_;symm;rw [Aj (by rw [Ah];ac_rfl)];exact a
 .rw [iN (by unfold spsB;simp [h1])];refine x_fn (Ca (DQ ?_));symm;refine w_dT (by rw [Ah];ac_rfl) ?_;symm;exact a
def ZoV(T:Tx t):Rd (JS [S t]) (((spsO t).bind λks=>if spsB ks=true then some ks else none).map λks=>.lst (ks.map tupI)):=by
 have e:=Zjx (h:=swL) (Bb rfl) T;have d:Gv [.str (Str.ofString "spots"),S t]=toX ((wb swL t).map λb=>.lst (b.map S)):=by rw [TX];exact e
 have a:Cr (iv (on Gv (Aa (c (.str "spots")) (Aa (v 0) Ab)))) 1 [] (gN 0) yes (on Jg (Aa (v 0) Ab)) (ev0 2 [S t])=toX ((spsO t).map λks=>.lst (ks.map tupI)):=by
  unfold spsO;cases ew:wb swL t with
  | none=>
   rw [ew] at d;exact x_cX (x_iv (x_on (Ad rfl d)))
  | some b=>
   rw [ew] at d;have f:∀w∈b,w∈Ae 32 t:=λw f=>by
    unfold wb at ew;split at ew
    .cases ew;exact List.mem_of_mem_tail f
    .cases ew
   have l:b.length<=901:=by
    unfold wb at ew;split at ew
    .cases ew;rw [List.length_tail];exact Ar (Nat.sub_le _ _) T.ws
    .cases ew
   have k:=Mz (it:=iv (on Gv (Aa (c (.str "spots")) (Aa (v 0) Ab)))) (own:=1) (cap:=[]) (g:=gN 0) (e:=on Jg (Aa (v 0) Ab)) (Z:=ev0 2 [S t]) (by
    show ((Gv [.str (Str.ofString "spots"),S t]).bind items)=_
    rw [d];rfl) (by rw [Ah];ac_rfl) (cgX λw i=>by
    symm
    exact ⟨rfl,λ_=>Zsf (T.sub (f w i))⟩)
   rw [MN.mpr λ_ _=>rfl] at k;rw [k,Ba];cases allO spO b<;>rfl
 have j:∀ks,spsO t=some ks->ks.length<=901:=λks h=>by
  unfold spsO at h;cases ew:wb swL t with
  | none=>rw [ew] at h;cases h
  | some b=>
   rw [ew,Ba] at h;rw [Dm h];unfold wb at ew;split at ew
   .cases ew;rw [List.length_tail];exact Ar (Nat.sub_le _ _) T.ws
   .cases ew
 unfold JS;cases es:spsO t with
 | none=>
  rw [es] at a;rw [show fn 2 _ [S t]=Res.ex (tagX 0 "NoRow") from x_fn (Ca (Hg a))];exact ex0
 | some ks=>
  rw [es] at a;have k:=ZmQ (ks:=ks) (by have:=j ks es;ac_rfl);have first:∀{Ψ:Fl->Prop},Ψ (.nx [.im (S t),.im (.lst (ks.map tupI))])->Tl (st 1 (Cr (iv (on Gv (Aa (c (.str "spots")) (Aa (v 0) Ab)))) 1 [] (gN 0) yes (on Jg (Aa (v 0) Ab))) (ev0 2 [S t])) Ψ:=λq=>w_st (Ad a q)
  rw [Ba];cases hb:spsB ks with
  | true=>
   rw [hb,iP rfl] at k;rw [iP rfl];refine BJ (w_fn (w_sq (first (w_gx ?_))))
   symm;refine Ad k ?_;symm
  | false=>
   rw [hb,iN Cj] at k;rw [show fn 2 _ [S t]=Res.ex "BadFloor" from x_fn (By (first (x_gx (Ca (X4 (x_on (Ad rfl k)))))))]
   exact exF
def sg:List (List Nat)->List (List (List Nat))
 | []=>[[]]
 | w::r=>if w=[47] then []::sg r else match sg r with
  | []=>[[w]]
  | g::gs=>(w::g)::gs
def OD:∀ws,sg ws≠[]
 | []=>by simp [sg]
 | w::r=>by
  unfold sg;split
  .simp
  .split<;>simp
def glG(g:List (List Nat)):List (List (List Nat))->List (List (List Nat))
 | []=>[g]
 | h::r=>(g++h)::r
def Nq(h:w≠[47]):sg (w::r)=glG [w] (sg r):=by
 refine (iN h).trans ?_;cases sg r<;>rfl
def Qp(r):sg ([47]::r)=[]::sg r:=iP rfl
def Zqp(a b)(L):glG a (glG b L)=glG (a++b) L:=by
 cases L<;>simp [glG]
def TQ(h:∀w,Asc w->trb (o2 dEq (v 2) (c (.str "/"))) ((Z.set 1 .no).set 2 (.im (S w)))=.ok (decide (w=[47]))):∀ws gs g,(∀w∈ws,Asc w)->Eh 1 2 (trb (o2 dEq (v 2) (c (.str "/")))) Z (ws.map S) gs (g.map S)=.ok (gs++(glG g (sg ws)).map λx=>x.map S)
 | [],gs,g,_=>by
  show Res.ok (gs++[g.map S])=.ok (gs++[(g++[]).map S]);rw [Cq]
 | w::r,gs,g,ha=>by
  have a:=λx b=>ha x (Av w b);rw [Bx,Eh,h w (ha w Aw)];show (if decide (w=[47])=true then Eh 1 2 _ Z (r.map S) (gs++[g.map S]) [] else Eh 1 2 _ Z (r.map S) gs (g.map S++[S w]))=_
  by_cases hw:w=[47]
  .rw [Aj hw,iP rfl,hw,Qp];refine (TQ h r (gs++[g.map S]) [] a).trans ?_;show Res.ok ((gs++[g.map S])++(glG [] (sg r)).map λx=>x.map S)=.ok (gs++((g++[])::sg r).map λx=>x.map S);rw [Cq,Ia];cases e:sg r with
   | nil=>exact aB e (OD r)
   | cons x xs=>rfl
  .rw [Al hw,iN Cj,Nq hw,Zqp];have:=TQ h r gs (g++[w]) a;rw [GD] at this;exact this
def Zln(ha:∀w∈ws,Asc w)(hl:ws.length<1000):Oc [.lst (ws.map S)]=.ok (.lst ((sg ws).map λg=>.lst (g.map S))):=by
 have k:=TQ (Z:=ev0 3 [.lst (ws.map S)]) (λw a=>by
  refine BJ ?_;symm;rw [litS];refine Dp a (Bb rfl) ?_
  symm) ws [] [] ha
 unfold Oc;show ((grp 1 2 0 _ (ev0 3 [.lst (ws.map S)])).bind endOf)=_;rw [show grp 1 2 0 (trb (o2 dEq (v 2) (c (.str "/")))) (ev0 3 [.lst (ws.map S)])=(if (true&&true&&true&&decide ((ws.map S).length<1000))=true then (Eh 1 2 (trb (o2 dEq (v 2) (c (.str "/")))) (ev0 3 [.lst (ws.map S)]) (ws.map S) [] []).bind λb=>.ok (.rt (.lst (b.map .lst))) else .bad) from rfl,Ah,Aj hl,iP (show (true&&true&&true&&true)=true from rfl)]
 show (((Eh 1 2 _ _ _ [] (([]:List (List Nat)).map S)).bind _).bind endOf)=_;rw [k];show Res.ok (D.lst _)=_;congr 2;cases e:sg ws with
 | nil=>exact aB e (OD ws)
 | cons x xs=>simp [glG]
def coO(ws:List (List Nat)):Option (List Int):=if ws.length<4 then none else allO numL ws
def coD(ns:List Int):D:=.tup [.int (ns.getD 0 0),.int (ns.getD 1 0),.int (ns.getD 2 0),.int (ns.getD 3 0),.tup ((ns.drop 4).map .int)]
def Tp(h:4<=ns.length):∃x y w z vs,ns=x::y::w::z::vs:=by
 match ns,h with
 | x::y::w::z::vs,_=>exact ⟨x,y,w,z,vs,rfl⟩
def ZlM(hw:∀w∈ws,Tx w)(hl:ws.length<=1000):Js [.lst (ws.map S)]=toX ((coO ws).map coD):=by
 unfold Js coO;by_cases h:ws.length<4
 .rw [iP h];refine x_fn (Ca (DQ ?_));symm;rw [Aj (by rw [Ah];ac_rfl)];exact HS (α:=Fl) (k:=0) rfl
 .rw [iN h];have k:=R7 (it:=iv (v 0)) (cap:=[]) (Z:=ev0 2 [.lst (ws.map S)]) rfl hw (by ac_rfl);have first:∀{Ψ:Fl->Prop},Ψ (.nx (ev0 2 [.lst (ws.map S)]))->Tl (ifs (trb (o2 dLt (on bLen (Aa (v 0) Ab)) (c (.int 4)))) (rsP "NoRow" (Aa (c (.int 0)) Ab)) nop (ev0 2 [.lst (ws.map S)])) Ψ:=λq=>by
   symm;refine w_dF (by rw [Ah];ac_rfl) ?_;symm;exact q
  cases e:allO numL ws with
  | none=>
   rw [e] at k;exact x_fn (By (first (x_gx (Ca (Hg k)))))
  | some ns=>
   rw [e] at k;obtain ⟨x,y,w,z,a,rfl⟩:=Tp (by rw [Dm e];ac_rfl);refine BJ (w_fn (w_sq (first (w_gx (w_sq (w_st (Ad k ?_)))))))
   symm;unfold coD;rw [show cutL (List.map D.int (x::y::w::z::a)) (some 4) none=(List.map D.int (x::y::w::z::a)).drop 4 from Ul (by simp)];rfl
def cB(n:Nat)(ns:List Int):Bool:=decide (1<=ns.getD 3 0)&&(decide ((ns.drop 4).length<=3)&&decide ((ns.drop 4).length=n))
def triB(cs:List (List Int)):Bool:=cs.all (λa=>cB ((cs.getD 0 []).drop 4).length a)&&cs.all λa=>decide (1<=a.getD 2 0)
def triD(cs:List (List Int)):D:=.tup (cs.map coD)
def ZhU(ns:List Int){Ψ:List D->Prop}(q:Ψ ((ns.map λ_=>true).map .bl)):Tl (BR (gN 0) yes (on JL (Aa (v 0) Ab)) [.no] (ns.map .int)) Ψ:=by
 refine Dw (λ_=>D.bl true) (λn _=>?_) ?_
 .symm;exact Ad (by kernel_rfl) rfl
 .rw [Ck] at q;exact q
def T6(l:List α):(l.map λ_=>true).all id=true:=by rw [H8];exact Ey.mpr λ_ _=>rfl
def ZoO{vs:List Int}(hl:vs.length<=1000):Qg [.tup (vs.map .int)]=.ok (.bl (decide (vs.length<=3))):=by
 refine BJ ?_;unfold Qg;symm;by_cases h:vs.length<=3
 .rw [Aj h];symm;refine ⟨by rw [Ah];ac_rfl,ZhU vs ?_⟩;symm;refine w_allB ?_;rw [T6];symm
 .rw [Al h];symm
def Ux(hl:ns.length<=1000):N5 [coD ns]=.ok (.bl (decide (1<=ns.getD 3 0)&&decide ((ns.drop 4).length<=3))):=by
 refine BJ ?_;unfold N5 coD;symm;refine ⟨by show (4:Nat)<=1000000;decide,?_⟩;refine ZhU [ns.getD 0 0,ns.getD 1 0,ns.getD 2 0,ns.getD 3 0] ?_;symm;refine w_allB ?_;rw [T6];symm;refine Cg (λh=>?_) (λh=>?_)
 .symm;refine Ad (ZoO (by rw [DP];ac_rfl)) ?_;symm;rw [Aj h];rfl
 .symm;rw [Al h];rfl
def x_rs{k:Str}:rse k (Aa (c x) Ab) Z=.ex k:=N6 (Ad (x:=[x]) rfl trivial)
def Rn{α:Type}{enc:α->D}{body:MS}{x:Cl}{k:Str}{p:α->Bool}(hp:∀a,p a=true->body [x,.im (enc a)]=.ok (.nx [x,.im (enc a)]))(hn:∀a,p a=false->body [x,.im (enc a)]=.ex k):∀(l:List α) (y:Cl),(l.all p=true->Tl (CP (gN 1) body (l.map enc) [x,y]) λf=>∃z,f=.nx [x,z])/\(l.all p=false->CP (gN 1) body (l.map enc) [x,y]=.ex k)
 | [],y=>⟨λ_=>w_f0 ⟨y,rfl⟩,λh=>by cases h⟩
 | a::r,y=>by
  have ih:=Rn hp hn r (.im (enc a));rw [Gy,Bx];cases h:p a with
  | true=>
   rw [Bw];exact ⟨λz=>w_f1 (Ad rfl (Ad (hp a h) (ih.1 z))),λz=>x_f2 (Ad rfl (Ad (hp a h) (ih.2 z)))⟩
  | false=>
   rw [Fw];exact ⟨(λz=>by cases z),λ_=>x_f1 (Ad rfl (hn a h))⟩
def K9(h:l.length=3):∃a b c,l=[a,b,c]:=by
 match l,h with
 | [a,b,c],_=>exact ⟨a,b,c,rfl⟩
structure Cs(cs:List (List Int)):Prop where
 l:cs.length=3
 n:∀ns∈cs,ns.length<=1000
def Zrc{cs:List (List Int)}(h:Cs cs):Oj [triD cs]=if cs.all (cB ((cs.getD 0 []).drop 4).length)=true then .ok .non else .ex "BadTriangle":=by
 obtain ⟨a,b,c,rfl⟩:=K9 h.l;have m:=h.n a (by simp);obtain ⟨enc,j⟩ : ∃enc:{d:List Int // d.length<=1000}->D,enc=λd=>coD d.1:=⟨_,rfl⟩
 have k:=Rn (enc:=enc) (x:=.im (triD [a,b,c])) (p:=λd=>cB (a.drop 4).length d.1) (body:=sq (ifs (bNot (trb (on N5 (Aa (v 1) Ab)))) (rse "BadTriangle" (Aa (Dl.c (.str "a corner is a tuple (x, y, w, h, values) of whole numbers, h from 1 on")) Ab)) nop) (ifs (trb (o2 dNe (on bLen (Aa (o2 dIx (v 1) (Dl.c (.int 4))) Ab)) (on bLen (Aa (o2 dIx (o2 dIx (v 0) (Dl.c (.int 0))) (Dl.c (.int 4))) Ab)))) (rse "BadTriangle" (Aa (Dl.c (.str "the corners of a triangle have as many values each")) Ab)) nop)) (λd g=>by
   subst j;obtain ⟨d,i⟩:=d;unfold cB at g;rw [Bo,Bo,CQ,CQ,CQ] at g;refine BJ ?_;symm;refine Ad (Ux i) ?_;rw [Aj g.1,Aj g.2.1];symm
   try (unfold coD triD coD;symm)
   first | done | exact w_nF (by have:=g.2.2;dsimp only at this;ac_rfl) (Ad rfl rfl)) (λd g=>by
   subst j;obtain ⟨d,i⟩:=d;unfold cB at g;by_cases h1:1<=d.getD 3 0/\(d.drop 4).length<=3
   .have o:¬(d.drop 4).length=(a.drop 4).length:=λz=>by rw [Aj h1.1,Aj h1.2,Aj z] at g;cases g
    refine By ?_;symm;refine Ad (Ux i) ?_;rw [Aj h1.1,Aj h1.2];symm;refine x_gx (DQ ?_)
    try (unfold coD triD coD;symm)
    first | done | exact x_nT (λz=>o (by ac_rfl)) x_rs
   .refine Ca (DQ ?_);symm;refine Ad (Ux i) ?_
    rw [show (decide (1<=d.getD 3 0)&&decide ((d.drop 4).length<=3))=false by
     rw [<-Bool.decide_and];exact Al h1]
    symm
    exact x_rs) [⟨a,m⟩,⟨b,h.n b (by simp)⟩,⟨c,h.n c (by simp)⟩] .no
 subst j;have e:([⟨a,m⟩,⟨b,h.n b (by simp)⟩,⟨c,h.n c (by simp)⟩]:List {d:List Int // d.length<=1000}).all (λd=>cB (a.drop 4).length d.1)=[a,b,c].all (cB (a.drop 4).length):=rfl;rw [e] at k;have first:∀{Ψ:Fl->Prop},Ψ (.nx [.im (triD [a,b,c]),.no])->Tl (ifs (bOr (bNot (trb (on bIsi (Aa (v 0) (Aa (Dl.c (.ty "tuple")) Ab))))) (trb (o2 dNe (on bLen (Aa (v 0) Ab)) (Dl.c (.int 3))))) (rse "BadTriangle" (Aa (Dl.c (.str "a triangle is a tuple of three corners")) Ab)) nop (ev0 2 [triD [a,b,c]])) Ψ:=λq=>by
  unfold triD;symm;exact q
 unfold Oj;show _=if [a,b,c].all (cB (a.drop 4).length)=true then _ else _
 cases hb:[a,b,c].all (cB (a.drop 4).length) with
 | true=>
  rw [iP rfl];refine BJ (w_fn (w_sq (first (w_gx (O8 (Ad rfl ?_))))))
  refine (k.1 hb).mono ?_;rintro f ⟨z,rfl⟩;symm
 | false=>
  rw [iN Cj];exact x_fn (By (first (x_gx (UV (Ad rfl (k.2 hb))))))
def ZsK{cs:List (List Int)}:Mx [triD cs]=if (cs.all λns=>decide (1<=ns.getD 2 0))=true then .ok .non else .ex "BadTriangle":=by
 have k:=Rn (enc:=coD) (x:=.im (triD cs)) (k:="BadTriangle") (p:=λns=>decide (1<=ns.getD 2 0)) (body:=ifs (trb (o2 dLe (o2 dIx (v 1) (c (.int 2))) (c (.int 0)))) (rse "BadTriangle" (Aa (c (.str "only corners with w above 0 are thrown onto the floor")) Ab)) nop) (λns h=>by
   have h:=MK h;refine BJ ?_;unfold coD
   symm) (λns h=>by
   have h:=of_decide_eq_false h;refine DQ ?_;unfold coD;symm
   exact x_T (by ac_rfl) x_rs) cs .no
 unfold Mx;cases hb:(cs.all λns=>decide (1<=ns.getD 2 0)) with
 | true=>
  rw [iP rfl];refine BJ (w_fn (O8 (Ad rfl ?_)));refine (k.1 hb).mono ?_;rintro f ⟨z,rfl⟩;symm
 | false=>
  rw [iN Cj];exact x_fn (UV (Ad rfl (k.2 hb)))
def PB{cs:List (List Int)}(h:Cs cs):Fx [triD cs] []=if triB cs=true then .ok [("triangle",triD cs)] else .ex "BadTriangle":=by
 have c:=Zrc h;have d:=ZsK (cs:=cs);have e:Fx [triD cs] []=(Oj [triD cs]).bind λ_=>(Mx [triD cs]).bind λ_=>(if ([]:List Str).contains "triangle"=true\/100<=0 then Res.bad else .ok [(Str.ofString "triangle",triD cs)]):=rfl
 have b:(if ([]:List Str).contains "triangle"=true\/100<=0 then Res.bad else .ok [(Str.ofString "triangle",triD cs)])=.ok [(Str.ofString "triangle",triD cs)]:=iN (by simp)
 rw [e,c,d,b];unfold triB;cases cs.all (cB ((cs.getD 0 []).drop 4).length) with
 | false=>rfl
 | true=>
  cases cs.all λa=>decide (1<=a.getD 2 0) with
  | false=>rfl
  | true=>rfl
def rowD(r:List Rat):D:=.lst (r.map frD)
def picD(p:List (List Rat)):D:=.lst (p.map rowD)
def Oz(q):Ge [frD q]=.ok (.bl true):=by
 refine BJ ?_;unfold frD;refine Wm ?_;have b:=q.den_pos;have a:Nat.gcd q.num.natAbs ((q.den:Int)).natAbs=1:=by rw [JF];exact q.reduced
 rw [Aj (by ac_rfl),Aj a];rfl
def We(q):JN [frD q]=.ok .non:=by
 refine BJ ?_;unfold JN;symm;refine Ad (Oz q) ?_;symm
def Fq(q:Rat):Bool:=decide (0<=q.num/\q.num<=(q.den:Int))
def Zo8(q:Rat):Og [frD q]=if Fq q=true then .ok .non else .ex "BadThing":=by
 unfold Og Fq;by_cases h:0<=q.num/\q.num<=(q.den:Int)
 .rw [Aj h,iP rfl];refine BJ ?_;symm;refine Ad (Oz q) ?_;unfold frD;symm
 .rw [Al h,iN Cj];refine x_fn (DQ ?_);symm;refine Ad (Oz q) ?_;unfold frD;symm;refine Cg (λ_=>?_) (λa=>?_)
  .symm;exact x_rs
  .symm;exact x_T (by ac_rfl) x_rs
def nv(cs:List (List Int)):Nat:=((cs.getD 0 []).drop 4).length
def ZP{cs:List (List Int)}(h:Cs cs){k:Nat}(hk:k<10):Jr [triD cs,.int k]=if k<=nv cs then .ok .non else .ex "BadThing":=by
 obtain ⟨a,b,c,rfl⟩:=K9 h.l;unfold Jr;show _=if k<=(a.drop 4).length then _ else _
 by_cases hv:k<=(a.drop 4).length
 .rw [iP hv];refine BJ ?_;unfold triD coD;symm
 .rw [iN hv];refine x_fn (DQ ?_);unfold triD coD;symm;refine x_T (by ac_rfl) (N6 ?_);refine DR (Ad (x:=.str ("the corners of such a thing have "++Str.ofString (toString (k:Int)) ++ " values or more")) ?_ (Ad rfl trivial));exact iP ⟨by ac_rfl,by decide +kernel⟩
def pw(n:Nat):Bool:=[1,2,4,8,16].contains n
def Zvm(n:Nat):inD (.int n) [.int 1,.int 2,.int 4,.int 8,.int 16]=pw n:=by
 have e:∀(k:Nat) ,((k:Int)==(n:Int))=(n==k):=λk=>by
  rw [Ld,Dc,Dc];ac_rfl
 show (((1:Nat):Int)==(n:Int)||(((2:Nat):Int)==(n:Int)||(((4:Nat):Int)==(n:Int)||(((8:Nat):Int)==(n:Int)||(((16:Nat):Int)==(n:Int)||false)))))=_;rw [e,e,e,e,e];unfold pw;simp only [QG,List.contains_nil]
def Ob(n:Nat):dNin (.int n) (.tup [.int 1,.int 2,.int 4,.int 8,.int 16])=.ok (.bl (!pw n)):=by
 rw [<-Zvm];rfl
def XF(n:Nat):dNin (.int n) (.lst [.int 1,.int 2,.int 4,.int 8,.int 16])=.ok (.bl (!pw n)):=by
 rw [<-Zvm];rfl
def patB(p:List (List Rat)):Bool:=pw p.length&&p.all λr=>pw r.length&&decide (r.length=(p.getD 0 []).length)
def Zrg(hn:∀r∈p,r.length<=1000):Oa [picD p]=if patB p=true then .ok .non else .ex "BadPattern":=by
 unfold Oa patB;cases h0:pw p.length with
 | false=>
  rw [Fw,iN Cj];refine x_fn (Ca (DQ ?_));unfold picD;symm;rw [Ah];refine Ad (Ob _) ?_;rw [h0];symm;exact x_rs
 | true=>
  rw [Bw];obtain ⟨a,r,rfl⟩ : ∃a r,p=a::r:=by
   cases p with
   | nil=>cases h0
   | cons a r=>exact ⟨a,r,rfl⟩
  have h:∀(q:List Rat) {Ψ:List D->Prop},Ψ ((q.map λ_=>true).map .bl)->Tl (BR (gN 0) yes (on Ge (Aa (v 0) Ab)) [.no] (q.map frD)) Ψ:=λq Ψ z=>by
   refine Dw (λ_=>D.bl true) (λu _=>?_) ?_
   .symm;exact Ad (Oz u) rfl
   .rw [Ck] at z;exact z
  obtain ⟨enc,e⟩ : ∃enc:{r:List Rat // r.length<=1000}->D,enc=λr=>rowD r.1:=⟨_,rfl⟩
  have k:=Rn (enc:=enc) (x:=.im (picD (a::r))) (p:=λq=>pw q.1.length&&decide (q.1.length=a.length)) (body:=sq (ifs (bOr (bNot (trb (on bIsi (Aa (v 1) (Aa (c (.ty "list")) Ab))))) (trb (o2 dNin (on bLen (Aa (v 1) Ab)) (c (.tup [.int 1,.int 2,.int 4,.int 8,.int 16]))))) (rse "BadPattern" (Aa (c (.str "a row of a pattern is a list of 1, 2, 4, 8 or 16 fractions")) Ab)) nop) (sq (ifs (trb (o2 dNe (on bLen (Aa (v 1) Ab)) (on bLen (Aa (o2 dIx (v 0) (c (.int 0))) Ab)))) (rse "BadPattern" (Aa (c (.str "the rows of a pattern have as many fractions each")) Ab)) nop) (ifs (bNot (trb (on bAll (Aa (comp (iv (v 1)) 1 [] (gN 0) yes (on Ge (Aa (v 0) Ab))) Ab)))) (rse "BadPattern" (Aa (c (.str "what stands in a pattern is a fraction in lowest terms")) Ab)) nop))) (λq b=>by
    subst e;obtain ⟨q,d⟩:=q;rw [Bo,CQ] at b;refine BJ ?_;unfold picD rowD;symm;rw [Ah];refine Ad (Ob _) ?_;rw [b.1];symm;refine w_nF (by rw [Ah,Ah,b.2]) ?_;symm;refine ⟨by rw [Ah];ac_rfl,h q ?_⟩;symm;refine w_allB ?_;rw [T6]
    symm) (λq b=>by
    subst e;obtain ⟨q,d⟩:=q;dsimp only at b;cases h1:pw q.length with
    | false=>
     refine Ca (DQ ?_);unfold picD rowD;symm;rw [Ah];refine Ad (Ob _) ?_;rw [h1];symm;exact x_rs
    | true=>
     rw [h1,Bw] at b;have i:=of_decide_eq_false b;refine By ?_;unfold picD rowD;symm;rw [Ah];refine Ad (Ob _) ?_;rw [h1];symm;refine x_gx (Ca (DQ ?_));symm
     exact x_nT (λz=>i (by rw [Ah,Ah] at z;ac_rfl)) x_rs)
  have g:=k ((a::r).attach.map λz=>⟨z.1,hn z.1 z.2⟩) .no;subst e;have j:(((a::r).attach.map λz=>(⟨z.1,hn z.1 z.2⟩ : {r:List Rat // r.length<=1000})).map λq=>rowD q.1)=(a::r).map rowD:=by
   rw [Ck]
   conv=>rhs;rw [<-List.attach_map_subtype_val (a::r),Ck]
   rfl
  have l:((a::r).attach.map λz=>(⟨z.1,hn z.1 z.2⟩ : {r:List Rat // r.length<=1000})).all (λq=>pw q.1.length&&decide (q.1.length=a.length))=(a::r).all λq=>pw q.length&&decide (q.length=a.length):=by
   rw [H8]
   conv=>rhs;rw [<-List.attach_map_subtype_val (a::r),H8]
   rfl
  rw [j,l] at g;have first:∀{Ψ:Fl->Prop},Ψ (.nx [.im (picD (a::r)),.no])->Tl (ifs (bOr (bNot (trb (on bIsi (Aa (v 0) (Aa (c (.ty "list")) Ab))))) (trb (o2 dNin (on bLen (Aa (v 0) Ab)) (c (.tup [.int 1,.int 2,.int 4,.int 8,.int 16]))))) (rse "BadPattern" (Aa (c (.str "a pattern is a list of 1, 2, 4, 8 or 16 rows")) Ab)) nop (ev0 2 [picD (a::r)])) Ψ:=λq=>by
   unfold picD;symm;rw [Ah];refine Ad (Ob _) ?_;rw [h0];symm;exact q
  show _=if ((a::r).all λq=>pw q.length&&decide (q.length=a.length))=true then _ else _
  cases hb:(a::r).all λq=>pw q.length&&decide (q.length=a.length) with
  | true=>
   rw [iP rfl];refine BJ (w_fn (w_sq (first (w_gx (O8 (Ad rfl ?_))))))
   refine (g.1 hb).mono ?_;rintro f ⟨z,rfl⟩;symm
  | false=>
   rw [iN Cj];exact x_fn (By (first (x_gx (UV (Ad rfl (g.2 hb))))))
def ZkM(hl:p.length<=1000):M7 [picD p]=.ok (picD p):=by
 refine BJ ?_;unfold M7 picD;symm;refine ⟨by rw [Ah];ac_rfl,?_⟩;refine Dw (λr=>rowD r) (λr _=>?_) ?_
 .unfold rowD;symm
 .symm
def QC(T:Tx w):Er [S w]=toX ((Aq w).map frD):=Ye T.a (Ar T.l (by decide))
def ptO(w:List Nat):Option (List (List Rat)):=allO (λr=>allO Aq (Ae 44 r)) (Ae 59 w)
def Zth(T:Tx w):PP [S w]=toX ((ptO w).map picD):=by
 unfold PP;rw [PN];have a:∀r,Tx r->Cr (iv (sD Bh (v 0) (c (.str ",")))) 1 [] (gN 0) yes (on Er (Aa (v 0) Ab)) [.im (S r)]=toX ((allO Aq (Ae 44 r)).map rowD):=λr R=>by
  have k:=Mz (it:=iv (sD Bh (v 0) (c (.str ",")))) (own:=1) (cap:=[]) (g:=gN 0) (e:=on Er (Aa (v 0) Ab)) (Z:=[.im (S r)]) (Jz litC rfl R.n) (by rw [Ah];have:=R.ws (c:=44);ac_rfl) (cgX λw b=>by
   symm
   exact ⟨rfl,λ_=>QC (R.sub b)⟩)
  rw [MN.mpr λ_ _=>rfl] at k;rw [k];cases allO Aq (Ae 44 r)<;>rfl
 have k:=Mz (it:=iv (sD Bh (v 0) (c (.str ";")))) (own:=1) (cap:=[]) (g:=gN 0) (Z:=ev0 1 [S w]) (Jz T8 rfl T.n) (by rw [Ah];have:=T.ws (c:=59);ac_rfl) (cgX λr d=>by
  symm
  exact ⟨rfl,λ_=>a r (T.sub d)⟩)
 rw [MN.mpr λ_ _=>rfl] at k;rw [k];unfold ptO;cases allO (λr=>allO Aq (Ae 44 r)) (Ae 59 w)<;>rfl
inductive Th
 | pl (q:Rat)
 | sh
 | pt (p:List (List Rat))
 | gl (q r:Rat)
def thD(cs:List (List Int)):Th->D
 | .pl q=>.ins "Plain" ["triangle","colour"] [triD cs,frD q]
 | .sh=>.ins "Shaded" ["triangle"] [triD cs]
 | .pt p=>.ins "Patterned" ["triangle","pattern"] [triD cs,picD p]
 | .gl q r=>.ins "Glass" ["triangle","colour","part"] [triD cs,frD q,frD r]
def plW:List Nat:=[112,108,97,105,110]
def shW:List Nat:=[115,104,97,100,101,100]
def paW:List Nat:=[112,97,116,116,101,114,110,101,100]
def gsW:List Nat:=[103,108,97,115,115]
def K4:Str.ofString "plain"=mkS plW:=by decide +kernel
def TJ:Str.ofString "shaded"=mkS shW:=by decide +kernel
def N7:Str.ofString "patterned"=mkS paW:=by decide +kernel
def QM:Str.ofString "glass"=mkS gsW:=by decide +kernel
def hdO(h:List (List Nat))(n:Nat):Option Th :=
 if h.take 1=[plW]/\h.length=2 then (Aq (h.getD 1 [])).map .pl
 else if h=[shW] then (if 1<=n then some .sh else none)
 else if h.take 1=[paW]/\h.length=2 then (ptO (h.getD 1 [])).bind λp=>if 2<=n/\patB p=true then some (.pt p) else none
 else if h.take 1=[gsW]/\h.length=3 then (Aq (h.getD 1 [])).bind λq=>(Aq (h.getD 2 [])).bind λr=>if Fq r=true then some (.gl q r) else none
 else none
def QW{t:MB}(h:t Z=.ok true):(sq (ifs t (Dl.ret a) nop) r Z).bind endOf=a Z:=by
 show (((t Z).bind λx=>if x=true then Dl.ret a Z else nop Z).bind (goOn r)).bind endOf=_
 rw [h];show (((a Z).bind λd=>.ok (Fl.rt d)).bind (goOn r)).bind endOf=_;cases a Z<;>rfl
def Nh{t:MB}{k:MS}(h:t Z=.ok false):(sq (ifs t k nop) r Z).bind endOf=(r Z).bind endOf:=by
 show (((t Z).bind λx=>if x=true then k Z else nop Z).bind (goOn r)).bind endOf=_
 rw [h];rfl
def Zgw{l:List (List Nat)}(h:∀w∈l,Asc w):plain 50 (.lst (l.map S))=true:=Jk 49 λw a=>(h w a).pl
def Y9:∀xs ys:List (List Nat),eqDs (xs.map S) (ys.map S)=decide (xs=ys)
 | [],[]=>rfl
 | [],_::_=>rfl
 | _::_,[]=>rfl
 | x::xs,y::ys=>by
  show ((mkS x==mkS y)&&eqDs (xs.map S) (ys.map S))=_;rw [SM,Y9 xs ys,<-Bool.decide_and];exact JC.mpr (by rw [List.cons.injEq])
def Xc{xs ys:List (List Nat)}(hx:∀w∈xs,Asc w)(hy:∀w∈ys,Asc w):dEq (.lst (xs.map S)) (.lst (ys.map S))=.ok (.bl (decide (xs=ys))):=by
 unfold dEq;rw [Zgw hx,Zgw hy];show Res.ok (D.bl (eqDs (xs.map S) (ys.map S)))=_;rw [Y9]
def cut1(h:List (List Nat)):cutL (h.map S) none (some 1)=(h.take 1).map S:=by
 by_cases hl:1<=h.length
 .rw [show cutL (h.map S) none (some 1)=(h.map S).take 1 from Zrp (by rw [Ah];exact hl),List.map_take]
 .rw [NK.mp (show h.length=0 by ac_rfl)];rfl
def Tg{h:List (List Nat)}{x:D}{W:List Nat}{s:Str}{n:Nat}{m:Int}(hm:m=(n:Int))(hh:∀w∈h,Asc w)(aW:Asc W)(es:s=mkS W):bAnd (trb (o2 dEq (cut (v 0) pno (pso (c (.int 1)))) (mls (Aa (c (.str s)) Ab)))) (trb (o2 dEq (on bLen (Aa (v 0) Ab)) (c (.int m)))) [.im (.lst (h.map S)),.im x]=.ok (decide (h.take 1=[W]/\h.length=n)):=by
 subst es;subst hm;refine BJ ?_;symm;rw [cut1];refine Ad (Xc (λw a=>hh w (List.mem_of_mem_take a)) λw a=>by rw [De.mp a];exact aW) ?_;by_cases h1:h.take 1=[W]
 .rw [Aj h1];symm;rw [Ah];exact JC.mpr ⟨λz=>⟨h1,by ac_rfl⟩,λz=>by have:=z.2;ac_rfl⟩
 .rw [Al h1];symm;exact (Al λz=>h1 z.1).symm
def ZvW{h:List (List Nat)}(hh:∀w∈h,Asc w):trb (o2 dEq (v 0) (mls (Aa (c (.str "shaded")) Ab))) [.im (.lst (h.map S)),.im x]=.ok (decide (h=[shW])):=by
 refine BJ ?_;symm;rw [TJ];refine Ad (Xc (ys:=[shW]) hh λw a=>by rw [De.mp a];exact Bb rfl) ?_;symm
def ix_S{h:List (List Nat)}(hk:k<h.length):dIx (.lst (h.map S)) (.int k)=.ok (S (h.getD k [])):=by
 obtain ⟨w,e⟩ : ∃w,h[k]?=some w:=⟨_,Bg hk⟩;have a:(h.map S)[k]?=some (S w):=by rw [DK,e];rfl
 show (ofO (at_ (h.map S) (k:Int)))=_;unfold at_;rw [iP (by ac_rfl),JR,a,GQ,e];rfl
def ZsG{cs:List (List Int)}(h:Cs cs)(q:Rat):((Mq [triD cs,frD q] []).bind λfl=>Res.ok (D.ins "Plain" (fl.map (·.1)) (fl.map (·.2))))=if triB cs=true then .ok (thD cs (.pl q)) else .ex "BadTriangle":=by
 have e:Mq [triD cs,frD q] []=(Fx [triD cs] []).bind λfl=>(JN [frD q]).bind λ_=>(if (fl.map (·.1)).contains (Str.ofString "colour")=true\/100<=fl.length then Res.bad else .ok (fl++[(Str.ofString "colour",frD q)])):=rfl
 rw [e,PB h,We];cases triB cs with
 | false=>rfl
 | true=>
  rw [iP rfl,iP rfl]
  kernel_rfl
def ZoF{cs:List (List Int)}(h:Cs cs):((Lh [triD cs] []).bind λfl=>Res.ok (D.ins "Shaded" (fl.map (·.1)) (fl.map (·.2))))=if triB cs=true then (if 1<=nv cs then .ok (thD cs .sh) else .ex "BadThing") else .ex "BadTriangle":=by
 have e:Lh [triD cs] []=(Fx [triD cs] []).bind λfl=>(Jr [triD cs,.int ((1:Nat):Int)]).bind λ_=>.ok fl:=rfl;rw [e,PB h,ZP h (by decide)];cases triB cs with
 | false=>rfl
 | true=>
  by_cases hv:1<=nv cs
  .rw [iP hv,iP hv];rfl
  .rw [iN hv,iN hv];rfl
def Zwq(h:Cs cs)(hp:∀r∈p,r.length<=1000)(hl:p.length<=1000):((Ly [triD cs,picD p] []).bind λfl=>Res.ok (D.ins "Patterned" (fl.map (·.1)) (fl.map (·.2))))=if triB cs=true then (if 2<=nv cs then (if patB p=true then .ok (thD cs (.pt p)) else .ex "BadPattern") else .ex "BadThing") else .ex "BadTriangle":=by
 have e:Ly [triD cs,picD p] []=(Fx [triD cs] []).bind λfl=>(Jr [triD cs,.int ((2:Nat):Int)]).bind λ_=>(Oa [picD p]).bind λ_=>(M7 [picD p]).bind λd=>(if (fl.map (·.1)).contains (Str.ofString "pattern")=true\/100<=fl.length then Res.bad else .ok (fl++[(Str.ofString "pattern",d)])):=rfl
 rw [e,PB h,ZP h (by decide),Zrg hp,ZkM hl];cases triB cs with
 | false=>rfl
 | true=>
  by_cases hv:2<=nv cs
  .rw [iP hv,iP hv];cases patB p with
   | false=>rfl
   | true=>
    rw [iP rfl,iP rfl,iP rfl,iP rfl]
    kernel_rfl
  .rw [iN hv,iN hv];rfl
def Zri{cs:List (List Int)}(h:Cs cs)(q r:Rat):((Ot [triD cs,frD q,frD r] []).bind λfl=>Res.ok (D.ins "Glass" (fl.map (·.1)) (fl.map (·.2))))=if triB cs=true then (if Fq r=true then .ok (thD cs (.gl q r)) else .ex "BadThing") else .ex "BadTriangle":=by
 have e:Ot [triD cs,frD q,frD r] []=(Fx [triD cs] []).bind λfl=>(JN [frD q]).bind λ_=>(Og [frD r]).bind λ_=>(if (fl.map (·.1)).contains (Str.ofString "colour")=true\/100<=fl.length then Res.bad else (if ((fl++[(Str.ofString "colour",frD q)]).map (·.1)).contains (Str.ofString "part")=true\/100<=(fl++[(Str.ofString "colour",frD q)]).length then Res.bad else .ok ((fl++[(Str.ofString "colour",frD q)])++[(Str.ofString "part",frD r)]))):=rfl
 rw [e,PB h,We,Zo8];cases triB cs with
 | false=>rfl
 | true=>
  cases Fq r with
  | false=>rfl
  | true=>
   rw [iP rfl,iP rfl,iP rfl,iP rfl]
   kernel_rfl
def Iw{α β:Type}{F:α->Option β}{P:β->Prop}:∀{ws:List α} {xs:List β},allO F ws=some xs->(∀w∈ws,∀x,F w=some x->P x)->∀x∈xs,P x
 | [],xs,h,_=>by cases h;exact λx hx=>(CN hx).elim
 | w::r,xs,h,hp=>by
  unfold allO at h;cases hf:F w with
  | none=>rw [hf] at h;cases h
  | some y=>
   rw [hf,Ba] at h;cases hr:allO F r with
   | none=>rw [hr] at h;cases h
   | some ys=>
    rw [hr] at h;cases h;intro x hx;rcases An.mp hx with rfl | hx
    .exact hp w Aw _ hf
    .exact Iw hr (λb a=>hp b (Av _ a)) x hx
def Wi(T:Tx w){p:List (List Rat)}(h:ptO w=some p):p.length<=1000/\∀r∈p,r.length<=1000:=by
 unfold ptO at h;refine ⟨by rw [Dm h];have:=T.ws (c:=59);ac_rfl,Iw h λr a x b=>?_⟩;rw [Dm b];have:=(T.sub a).ws (c:=44);ac_rfl
def thX(cs:List (List Int))(h:List (List Nat)):Option D:=if triB cs=true then (hdO h (nv cs)).map (thD cs) else none
def QJ{h:List (List Nat)}(hm:m=(k:Int))(hk:k<h.length):on f (Aa (o2 dIx (v 0) (c (.int m))) Ab) [.im (.lst (h.map S)),.im x]=f [S (h.getD k [])]:=by
 subst hm;show (((dIx (.lst (h.map S)) (.int k)).bind λx=>Res.ok [x]).bind f)=_;rw [ix_S hk];rfl
def YW(h:e [a,.im x]=.ok d):make n g (Aa (v 1) (Aa e Ab)) [a,.im x]=(g [x,d] []).bind λfl=>.ok (.ins n (fl.map (·.1)) (fl.map (·.2))):=by
 unfold make;rw [show Aa (v 1) (Aa e Ab) [a,.im x]=.ok [x,d] from BJ (DR (Ad rfl (DR (Ad h (Fv rfl)))))];rfl
def Tj{k:Str}(h:e [a,.im x]=.ex k):make n g (Aa (v 1) (Aa e m)) [a,.im x]=.ex k:=Dy (NZ (Ad (x:=x) rfl (Iu h)))
def ZuP{k:Str}(h:e [a,.im x]=.ok d)(h':e' [a,.im x]=.ex k):make n g (Aa (v 1) (Aa e (Aa e' m))) [a,.im x]=.ex k:=Dy (NZ (Ad (x:=x) rfl (NZ (Ad h (Iu h')))))
def Zu7(h:e [a,.im x]=.ok d)(h':e' [a,.im x]=.ok d'):make n g (Aa (v 1) (Aa e (Aa e' Ab))) [a,.im x]=(g [x,d,d'] []).bind λfl=>.ok (.ins n (fl.map (·.1)) (fl.map (·.2))):=by
 unfold make;rw [show Aa (v 1) (Aa e (Aa e' Ab)) [a,.im x]=.ok [x,d,d'] from BJ (DR (Ad rfl (DR (Ad h (DR (Ad h' (Fv rfl)))))))];rfl
def Zwj(hh:∀w∈h,Tx w)(C:Cs cs):Rd (Ie [.lst (h.map S),triD cs]) (thX cs h):=by
 have b:=λw s=>(hh w s).a;have i:∀k,k<h.length->Tx (h.getD k []):=λk n=>by
  rw [GQ,Bg n];exact hh _ (G4 n)
 have d:=Tg (x:=triD cs) (m:=2) rfl b (Bb rfl) K4;have e:=ZvW (x:=triD cs) b;have j:=Tg (x:=triD cs) (m:=2) rfl b (Bb rfl) N7;have g:=Tg (x:=triD cs) (m:=3) rfl b (Bb rfl) QM;unfold Ie thX hdO;show Rd ((sq _ _ [.im (.lst (h.map S)),.im (triD cs)]).bind endOf) _;by_cases c1:h.take 1=[plW]/\h.length=2
 .rw [Aj c1] at d;rw [QW d,iP c1];have o:=(QJ (x:=triD cs) (m:=1) (k:=1) rfl (by ac_rfl)).trans (QC (i 1 (by ac_rfl)));cases ef:Aq (h.getD 1 []) with
  | none=>
   rw [ef] at o;rw [Tj o];show Rd (Res.ex _) (if _ then none else none)
   rw [ite_self];exact ex0
  | some q=>
   rw [ef] at o;rw [YW o,ZsG C];cases triB cs with
   | true=>rfl
   | false=>exact exR
 rw [Al c1] at d;rw [Nh d,iN c1];by_cases c2:h=[shW]
 .rw [Aj c2] at e;rw [QW e,iP c2];show Rd ((Lh [triD cs] []).bind _) _;rw [ZoF C];cases triB cs with
  | false=>exact exR
  | true=>
   by_cases hv:1<=nv cs
   .rw [iP hv,iP hv];rfl
   .rw [iN hv,iN hv];exact exT
 rw [Al c2] at e;rw [Nh e,iN c2];by_cases c3:h.take 1=[paW]/\h.length=2
 .rw [Aj c3] at j;rw [QW j,iP c3];have T:=i 1 (by ac_rfl);have o:=(QJ (x:=triD cs) (m:=1) (k:=1) rfl (by ac_rfl)).trans (Zth T);cases ep:ptO (h.getD 1 []) with
  | none=>
   rw [ep] at o;rw [Tj o];show Rd (Res.ex _) (if _ then none else none)
   rw [ite_self];exact ex0
  | some p=>
   rw [ep] at o;have l:=Wi T ep;rw [YW o,Zwq C l.2 l.1,Ba];cases triB cs with
   | false=>exact exR
   | true=>
    by_cases hv:2<=nv cs
    .cases hb:patB p with
     | true=>rw [iP rfl,iP rfl,iP hv,iP rfl,iP ⟨hv,rfl⟩];rfl
     | false=>rw [iP rfl,iP rfl,iP hv,iN Cj,iN λz=>aB z.2 Cj];exact exP
    .rw [iP rfl,iP rfl,iN hv,iN λz=>hv z.1];exact exT
 rw [Al c3] at j;rw [Nh j,iN c3];by_cases c4:h.take 1=[gsW]/\h.length=3
 .rw [Aj c4] at g;rw [QW g,iP c4];have o:=(QJ (x:=triD cs) (m:=1) (k:=1) rfl (by ac_rfl)).trans (QC (i 1 (by ac_rfl)));have f:=(QJ (x:=triD cs) (m:=2) (k:=2) rfl (by ac_rfl)).trans (QC (i 2 (by ac_rfl)));cases ef:Aq (h.getD 1 []) with
  | none=>
   rw [ef] at o;rw [Tj o];show Rd (Res.ex _) (if _ then none else none)
   rw [ite_self];exact ex0
  | some q=>
   rw [ef] at o;rw [Ba];cases eg:Aq (h.getD 2 []) with
   | none=>
    rw [eg] at f;rw [ZuP o f];show Rd (Res.ex _) (if _ then none else none)
    rw [ite_self];exact ex0
   | some r=>
    rw [eg] at f;rw [Zu7 o f,Zri C,Ba];cases triB cs with
    | false=>exact exR
    | true=>
     cases Fq r with
     | true=>rfl
     | false=>exact exT
 rw [Al c4] at g;rw [Nh g,iN c4];show Rd _ (if _ then none else none)
 rw [ite_self];rw [show (rsP "NoRow" (Aa (c (.int 0)) Ab) [.im (.lst (h.map S)),.im (triD cs)]).bind endOf=Res.ex (tagX 0 "NoRow") from by rw [HS (α:=Fl) rfl];rfl];exact ex0
def Ni:∀{ws:List (List Nat)} {g:List (List Nat)},g∈sg ws->(∀w∈g,w∈ws/\w≠[47])/\g.length<=ws.length
 | [],g,h=>by
  rw [De.mp h];exact ⟨λw hw=>(CN hw).elim,Ao _⟩
 | u::r,g,h=>by
  by_cases hu:u=[47]
  .rw [hu,Qp] at h;rcases An.mp h with rfl | h
   .exact ⟨λw hw=>(CN hw).elim,DX _⟩
   .obtain ⟨a,b⟩:=Ni h;exact ⟨λw hw=>⟨Av _ (a w hw).1,(a w hw).2⟩,Ar b (Nat.le_succ _)⟩
  .rw [Nq hu] at h;cases e:sg r with
   | nil=>exact aB e (OD r)
   | cons x xs=>
    rw [e] at h;rcases An.mp h with rfl | h
    .obtain ⟨a,b⟩:=Ni (by rw [e];exact Aw);refine ⟨λw hw=>?_,by simpa using b⟩;rcases An.mp hw with rfl | hw
     .exact ⟨Aw,hu⟩
     .exact ⟨Av _ (a w hw).1,(a w hw).2⟩
    .obtain ⟨a,b⟩:=Ni (by rw [e];exact Av _ h);exact ⟨λw hw=>⟨Av _ (a w hw).1,(a w hw).2⟩,Ar b (Nat.le_succ _)⟩
def ZsX{k:MS}(h:k Z=.ok (.nx Z')):(sq k r Z).bind endOf=(r Z').bind endOf:=by
 show ((k Z).bind (goOn r)).bind endOf=_;rw [h];rfl
def ZrS:(Dl.ret a Z).bind endOf=a Z:=by
 show ((a Z).bind λd=>.ok (Fl.rt d)).bind endOf=_;cases a Z<;>rfl
def thO(t:List Nat):Option D:=if (sg (Ae 32 t)).length=4 then (allO coO (sg (Ae 32 t)).tail).bind λa=>thX a ((sg (Ae 32 t)).getD 0 []) else none
def J0(h:coO ws=some ns):ns.length=ws.length/\4<=ns.length:=by
 unfold coO at h;split at h
 .cases h
 .next a=>have:=Dm h;ac_rfl
def Qu(h:l.length=4):∃a b c d,l=[a,b,c,d]:=by
 match l,h with
 | [a,b,c,d],_=>exact ⟨a,b,c,d,rfl⟩
def Zoe(T:Tx t):Rd (Ib [S t]) (thO t):=by
 have W:=T.ws (c:=32);have f:∀w∈Ae 32 t,Tx w:=λw f=>T.sub f;have u:=Zln (λw h=>(f w h).a) (by ac_rfl);have first:∀{Ψ:Fl->Prop},Ψ (.nx [.im (S t),.im (.lst ((sg (Ae 32 t)).map λg=>.lst (g.map S)))])->Tl (st 1 (on Oc (Aa (sD Bh (v 0) (c (.str " "))) Ab)) (ev0 2 [S t])) Ψ:=λq=>by
  refine w_st (w_on (DR (w_sD (Ad rfl ⟨_,rfl,?_⟩))));symm;rw [litB];refine HY T.n ?_;symm;exact Ad u q
 have p:Mw [S t]=.ok .non:=rfl;unfold Ib thO;generalize hG:sg (Ae 32 t)=G at *;have j:∀g∈G,(∀w∈g,Tx w)/\g.length<=901:=λg i=>by
  rw [<-hG] at i;obtain ⟨s,o⟩:=Ni i;exact ⟨λw l=>f w (s w l).1,Ar o W⟩
 by_cases h4:G.length=4
 .rw [iP h4];obtain ⟨h,a,b,c,rfl⟩:=Qu h4
  have k:=Mz (it:=iv (cut (v 1) (pso (Dl.c (.int 1))) pno)) (own:=1) (cap:=[]) (g:=gN 0) (e:=on Js (Aa (v 0) Ab)) (Z:=[.im (S t),.im (.lst ([h,a,b,c].map λg=>.lst (g.map S)))]) (xs:=[a,b,c].map λg=>.lst (g.map S)) (by kernel_rfl) (show (3:Nat)<=1000000 by decide) (cgX λg i=>by
   symm;have:=j g (Av _ i)
   exact ⟨rfl,λ_=>ZlM this.1 (by ac_rfl)⟩)
  rw [MN.mpr λ_ _=>rfl] at k;have o:=BJ (first rfl)
  show Rd ((sq _ _ (ev0 2 [S t])).bind endOf) _;rw [ZsX (BJ (Nr (w_on (DR (Ad rfl (Fv (Ad p rfl))))))),ZsX o,Nh (rfl),ZrS];show Rd _ ((allO coO [a,b,c]).bind λd=>thX d h);cases ec:allO coO [a,b,c] with
  | none=>
   rw [ec] at k;rw [show on Ie _ _=Res.ex (tagX 0 "NoRow") from Dy (NZ (Ad rfl (Iu (Dy (Iu k)))))];exact ex0
  | some d=>
   rw [ec] at k;rw [Ba]
   have C:Cs d:=⟨Dm ec,Iw ec λr m y x=>by
    have:=(J0 x).1;have:=(j r (Av _ m)).2
    ac_rfl⟩
   have e:on Ie (Aa (o2 dIx (v 1) (Dl.c (.int 0))) (Aa (on bTup (Aa (Cr (iv (cut (v 1) (pso (Dl.c (.int 1))) pno)) 1 [] (gN 0) yes (on Js (Aa (v 0) Ab))) Ab)) Ab)) [.im (S t),.im (.lst ([h,a,b,c].map λg=>.lst (g.map S)))]=Ie [.lst (h.map S),triD d]:=by
    show (Aa _ _ _).bind Ie=_;rw [show Aa (o2 dIx (v 1) (Dl.c (.int 0))) (Aa (on bTup (Aa (Cr (iv (cut (v 1) (pso (Dl.c (.int 1))) pno)) 1 [] (gN 0) yes (on Js (Aa (v 0) Ab))) Ab)) Ab) [.im (S t),.im (.lst ([h,a,b,c].map λg=>.lst (g.map S)))]=.ok [.lst (h.map S),triD d] from BJ (DR (Ad rfl (DR (w_on (DR (Ad k (Fv (Xm (Fv rfl))))))))) ];rfl
   rw [e];exact Zwj (j h Aw).1 C
 .rw [iN h4];rw [show fn 2 _ [S t]=Res.ex (tagX 0 "NoRow") from x_fn (By (Nr (w_on (DR (Ad rfl (Fv (Ad p (x_gx (By (first (x_gx (Ca (DQ ?_)))))))))))))]
  .exact ex0
  .symm;refine x_nT (by rw [Ah];ac_rfl) ?_;exact HS (α:=Fl) (k:=0) rfl
def Lq{F:α->Option β}:∀{ws:List α} {xs:List β},allO F ws=some xs->ws.map F=xs.map some
 | [],xs,h=>by
  injection h with h
  subst h;rfl
 | w::r,xs,h=>by
  unfold allO at h;cases e:F w with
  | none=>rw [e] at h;cases h
  | some x=>
   rw [e] at h;cases e2:allO F r with
   | none=>rw [e2] at h;cases h
   | some ys=>
    rw [e2] at h;injection h with h
    subst h;rw [Bx,Bx,e,Lq e2]
def P0{F:α->Option β}:∀{ws:List α},allO F ws=none->(ws.any λw=>(F w).isNone)=true
 | [],h=>by cases h
 | w::r,h=>by
  unfold allO at h;rw [List.any_cons];cases e:F w with
  | none=>rfl
  | some x=>
   rw [e] at h;cases e2:allO F r with
   | none=>rw [P0 e2];simp
   | some ys=>rw [e2] at h;cases h
def ch3{w:Int}(ha:a Z=.ok (.int x))(hb:b Z=.ok (.int y))(hd:d Z=.ok (.int u))(he:e Z=.ok (.int w)):H9 dLe dLe dLe a b d e Z=.ok (.bl (decide (x<=y/\y<=u/\u<=w))):=by
 unfold H9;rw [ha,Ci,hb,Ci];show (if decide (x<=y)=true then _ else _)=_
 by_cases h1:x<=y
 .rw [iP (Aj h1),hd,Ci];show (if decide (y<=u)=true then _ else _)=_
  by_cases h2:y<=u
  .rw [iP (Aj h2),he,Ci];show Res.ok (D.bl (decide (u<=w)))=_;simp [h1,h2]
  .rw [iN (by simp [h2])];simp [h2]
 .rw [iN (by simp [h1])];simp [h1]
def W7{ws:List (List Nat)}(h:it Z=.ok (ws.map S))(hw:∀w∈ws,Tx w)(hl:ws.length<=1000):comp it 1 cap (gN 0) yes (on Gz (Aa (v 0) Ab)) Z=.ok (.lst (ws.map λw=>oI (numL w))):=by
 refine BJ (Lw (Ad h ⟨by rw [Ah];ac_rfl,?_⟩));refine Dw (λw=>oI (numL w)) (λw b=>?_) rfl;symm;exact Tz (hw w b).a (hw w b).n rfl
def anyN(ws:List (List Nat)):Bool:=ws.any λw=>(numL w).isNone
def Yh(ws):inD .non (ws.map λw=>oI (numL w))=anyN ws:=by
 rw [Q8];unfold anyN;congr 1;funext w;exact Z9 _
def ZW(k:Nat)(ws:List (List Nat)):Bv 50 (ws.map λw=>oI (numL w))=true:=Jk 50 λw _=>Zjj _
def Zlq(ws:List (List Nat)):dNin .non (.lst (ws.map λw=>oI (numL w)))=.ok (.bl (!anyN ws)):=by
 show (if (true&&Bv 50 (ws.map λw=>oI (numL w)))=true then _ else _)=_
 rw [ZW 0,iP (show (true&&true)=true from rfl),Yh]
def Zlt(ws:List (List Nat)):dIn .non (.lst (ws.map λw=>oI (numL w)))=.ok (.bl (anyN ws)):=by
 show (if (true&&Bv 50 (ws.map λw=>oI (numL w)))=true then _ else _)=_
 rw [ZW 0,iP (show (true&&true)=true from rfl),Yh]
def T5(h:allO numL ws=none):anyN ws=true:=P0 h
def any_some(h:allO numL ws=some ns):anyN ws=false/\(ws.map λw=>oI (numL w))=ns.map .int:=by
 have e:=Lq h;have d:(ws.map λw=>oI (numL w))=(ws.map numL).map oI:=by rw [Ck];rfl
 refine ⟨?_,by rw [d,e,Ck];rfl⟩;unfold anyN;rw [KC];intro z;obtain ⟨w,c,b⟩:=List.any_eq_true.mp z;have a:numL w∈ws.map numL:=K3 c;rw [e] at a;obtain ⟨x,_,ex⟩:=Bk.mp a;rw [<-ex] at b;cases b
def S6{a b lo hi:Int}:(lo<=min a b/\min a b<=max a b/\max a b<=hi)↔∀n∈[a,b],lo<=n/\n<=hi:=by
 simp only [An,CN,FZ];constructor
 .rintro h n (rfl | rfl)<;>ac_rfl
 .intro h;have:=h a (.inl rfl);have:=h b (.inr rfl);ac_rfl
def W9(h:Z[i]?=some (.im (.lst [.int a,.int b]))):on Im (Aa (v i) Ab) Z=.ok (.int (min a b))/\on Ik (Aa (v i) Ab) Z=.ok (.int (max a b)):=by
 constructor
 .exact BJ (w_on (DR (w_v h (Fv (Zu0 (r:=[b]) rfl)))))
 .exact BJ (w_on (DR (w_v h (Fv (Zto (r:=[b]) rfl)))))
def rngB(ws:List (List Nat)):Bool:=match allO numL ws with
 | some ns=>decide (ns.length=2)&&decide (∀n∈ns,1<=n/\n<=64)
 | none=>false
def Zpd(t):(flO t).isSome=((wb fwL t).any rngB):=by
 unfold flO jw;cases wb fwL t with
 | none=>rfl
 | some ws=>
  rw [Ba];show _=rngB ws;unfold rngB;by_cases h2:ws.length=2
  .rw [iP h2,Ba];cases e:allO numL ws with
   | none=>rfl
   | some ns=>
    rw [Ba];show _=(decide (ns.length=2)&&_);rw [Dm e,Aj h2,Bw];by_cases h:∀n∈ns,1<=n/\n<=64
    .rw [iP h,Aj h];rfl
    .rw [iN h,Al h];rfl
  .rw [iN h2];cases e:allO numL ws with
   | none=>rfl
   | some ns=>
    show false=(decide (ns.length=2)&&_);rw [Dm e,Al h2];rfl
def ZnF(t):(grO t).isSome=((wb gwL t).any λws=>decide (ws.length=1)&&(Aq (ws.getD 0 [])).isSome):=by
 unfold grO jw;cases wb gwL t with
 | none=>rfl
 | some ws=>
  rw [Ba];show _=(decide (ws.length=1)&&_);by_cases h1:ws.length=1
  .rw [iP h1,Aj h1,Bw,Ba]
   match ws,h1 with
   | [w],_=>rfl
  .rw [iN h1,Al h1];rfl
def Ro(e:Ae 32 t=u::ws):wb h t=if u=h then some ws else none:=by
 unfold wb;rw [e];by_cases hu:u=h
 .rw [iP hu];exact iP (Bl some hu)
 .rw [iN hu];exact iN λz=>hu (Be z)
def ZoP(q:U (.bl (rngB ws))):Tl (eAnd (o2 dEq (on bLen (Aa (v 3) Ab)) (c (.int 2))) (eAnd (o2 dNin (c .non) (v 3)) (H9 dLe dLe dLe (c (.int 1)) (on Im (Aa (v 3) Ab)) (on Ik (Aa (v 3) Ab)) (c (.int 64)))) [a0,a1,a2,.im (.lst (ws.map λw=>oI (numL w)))]) U:=by
 symm;rw [Ah];unfold rngB at q;cases e:allO numL ws with
 | none=>
  rw [e] at q;refine Cg (λh=>?_) (λh=>?_)
  .symm;refine Ad (Zlq ws) ?_;rw [T5 e];symm;exact q
  .symm;exact q
 | some ns=>
  obtain ⟨g,f⟩:=any_some e;rw [e] at q;have q:U (.bl (decide (ns.length=2)&&decide (∀n∈ns,1<=n/\n<=64))):=q;have j:=Dm e;refine Cg (λh=>?_) (λh=>?_)
  .have d:ns.length=2:=by ac_rfl
   rw [Aj d,Bw] at q;obtain ⟨a,b,rfl⟩:=Gk d;symm;refine Ad (Zlq ws) ?_;rw [g];symm;have m:=W9 (Z:=[a0,a1,a2,.im (.lst (ws.map λw=>oI (numL w)))]) (i:=3) (by rw [f];rfl);refine Ad (ch3 rfl m.1 m.2 rfl) ?_;rw [JC.mpr S6];exact q
  .rw [Al (by ac_rfl)] at q;symm;exact q
def swB(ws:List (List Nat)):Bool:=match allO spO ws with
 | some ks=>spsB ks
 | none=>false
def ZnS(t):((spsO t).bind λks=>if spsB ks=true then some ks else none).isSome=((wb swL t).any swB):=by
 unfold spsO;cases wb swL t with
 | none=>rfl
 | some ws=>
  rw [Ba];show _=swB ws;unfold swB;cases allO spO ws with
  | none=>rfl
  | some ks=>
   rw [Ba];show _=spsB ks;cases spsB ks<;>rfl
def lstI(k:List Int):D:=.lst (k.map .int)
def WK:∀a b:List Int,eqDs (a.map .int) (b.map .int)=decide (a=b)
 | [],[]=>rfl
 | [],_::_=>rfl
 | _::_,[]=>rfl
 | x::a,y::b=>by
  show ((x==y)&&eqDs (a.map .int) (b.map .int))=_;rw [WK a b,show (x==y)=decide (x=y) from rfl,<-Bool.decide_and];exact JC.mpr (by rw [List.cons.injEq])
def Zvf(k:List Int)(ks:List (List Int)):dIn (lstI k) (.lst (ks.map lstI))=.ok (.bl (decide (k∈ks))):=by
 have b:∀(n:Nat) (l:List Int),Bv n (l.map .int)=true:=λn l=>Jk n λ_ _=>by cases n<;>rfl
 have e:plain 50 (lstI k)=true:=b 49 k;have f:Bv 50 (ks.map lstI)=true:=Jk 50 λa _=>b 49 a;show (if (plain 50 (lstI k)&&Bv 50 (ks.map lstI))=true then _ else _)=_
 rw [e,f,iP (show (true&&true)=true from rfl),Q8];congr 2;rw [Ld,List.any_eq_true,CQ];have c:∀a,eqD (lstI a) (lstI k)=decide (a=k):=λa=>WK a k;constructor
 .rintro ⟨a,d,h⟩;rw [c] at h;exact MK h▸d
 .exact λh=>⟨k,h,by rw [c];exact Aj rfl⟩
def Uz:MS:=sq (st 3 (comp (iv (sD Bh (v 2) (c (.str ",")))) 1 [] (gN 0) yes (on Gz (Aa (v 0) Ab))))
  (sq (ifs (pkB 1 (bOr (trb (o2 dIn (c .non) (v 3))) (bOr (trb (o2 dNe (on bLen (Aa (v 3) Ab)) (c (.int 2)))) (bOr (bNot (trb (H9 dLe dLe dLe (c (.int 1)) (on Im (Aa (v 3) Ab)) (on Ik (Aa (v 3) Ab)) (c (.int 7))))) (trb (o2 dIn (v 3) (v 1)))))))
  (Dl.ret (c (.bl false)))
  nop)
  (app 1 (v 3)))
def ZrA(T:Tx w)(hl:ks.length<=1000)(hn:(∀k,spO w=some k->okS k=true->k∈ks)->Ψ (.rt (.bl false)))(hy:∀k,spO w=some k->okS k=true->k∉ks->Ψ (.nx [a0,.ow ((ks++[k]).map lstI),.im (S w),.im (lstI k)])):Tl (Uz [a0,.ow (ks.map lstI),.im (S w),v3]) Ψ:=by
 unfold Uz;refine w_sq (w_st (Ad (W7 (Jz litC rfl T.n) (λu p=>T.sub p) (by have:=T.ws (c:=44);ac_rfl)) (w_gx ?_)));symm;refine Ad (Zlt _) ?_;symm;cases e:allO numL (Ae 44 w) with
 | none=>
  rw [T5 e];symm;exact hn λk h _=>by unfold spO at h;rw [e] at h;cases h
 | some k=>
  obtain ⟨l,o⟩:=any_some e;have h:spO w=some k:=e;have g:∀{j:List Int},spO w=some j->j=k:=λz=>by rw [h] at z;exact (Be z).symm
  rw [l,o];symm;by_cases hk2:k.length=2
  .obtain ⟨a,b,rfl⟩:=Gk hk2;symm;have m:=W9 (Z:=[a0,.im (.lst (ks.map lstI)),.im (S w),.im (.lst ([a,b].map .int))]) (i:=3) rfl;refine Ad (ch3 rfl m.1 m.2 rfl) ?_;by_cases hr:∀n∈[a,b],1<=n/\n<=7
   .have ok:okS [a,b]=true:=by
     unfold okS;rw [show decide ([a,b].length=2)=true from rfl,Bw,Ey];exact λn hn=>Aj (hr n hn)
    rw [Aj (S6.mpr hr)];symm;refine Ad (Zvf [a,b] ks) ?_;by_cases hm:[a,b]∈ks
    .rw [Aj hm];symm;exact hn λk f _=>by rw [g f];exact hm
    .rw [Al hm];symm;refine ⟨by rw [Ah];ac_rfl,?_⟩;have:=hy [a,b] h ok hm;rw [GD] at this;exact this
   .rw [Al λz=>hr (S6.mp z)];symm;refine hn λk f d=>?_;rw [g f] at d;unfold okS at d;rw [Bo,Ey] at d;exact aB (λn hn=>MK (d.2 n hn)) hr
  .symm;refine hn λq f d=>?_;rw [g f] at d;unfold okS at d;rw [Al hk2] at d;cases d
def QH(a0:Cl)(ks:List (List Int))(rest:List (List Nat))(f:Fl):Prop:=match allO spO rest with
 | some k'=>if (k'.all okS&&decide (ks++k').Nodup)=true then ∃b a,f=.nx [a0,.ow ((ks++k').map lstI),b,a] else f=.rt (.bl false)
 | none=>f=.rt (.bl false)
def XJ:∀{rest:List (List Nat)} {ks:List (List Int)} {v2 v3:Cl},(∀w∈rest,Tx w)->ks.Nodup->ks.length+rest.length<=1000->Tl (CP (gN 2) Uz (rest.map S) [a0,.ow (ks.map lstI),v2,v3]) (QH a0 ks rest)
 | [],ks,v2,v3,_,hd,_=>by
  refine w_f0 ?_;show (if (true&&decide (ks++[]).Nodup)=true then _ else _)
  rw [Cq,Aj hd,iP (show (true&&true)=true from rfl)];exact ⟨v2,v3,rfl⟩
 | w::r,ks,v2,v3,hw,hd,d=>by
  have d:ks.length+r.length+1<=1000:=d;rw [Bx];refine w_f1 (Ad rfl ?_);refine ZrA (hw w Aw) (by ac_rfl) (λh=>?_) (λk c b l=>?_)
  .refine w_tr ?_;unfold QH;have e:allO spO (w::r)=(spO w).bind λx=>(allO spO r).map (x::·):=rfl;rw [e];cases c:spO w with
   | none=>rfl
   | some k=>
    rw [Ba];cases allO spO r with
    | none=>rfl
    | some k'=>
     show (if ((k::k').all okS&&decide (ks++k::k').Nodup)=true then _ else _)
     rw [iN];intro z;rw [Bo,Gy,Bo,CQ,List.nodup_append] at z;exact z.2.2.2 k (h k c z.1.1) k Aw rfl
  .refine w_tx ?_;refine (XJ (λu g=>hw u (Av _ g)) ?_ (by rw [Bm];show ks.length+1+r.length<=1000;ac_rfl)).mono λf a=>?_
   .rw [List.nodup_append];exact ⟨hd,by simp,λx j y i e=>by rw [De.mp i] at e;exact l (e▸j)⟩
   .unfold QH at a ⊢;have e:allO spO (w::r)=(spO w).bind λx=>(allO spO r).map (x::·):=rfl;rw [e,c,Ba];cases hr:allO spO r with
    | none=>rw [hr] at a;exact a
    | some k'=>
     rw [hr] at a;have a:(if (k'.all okS&&decide ((ks++[k])++k').Nodup)=true then ∃v2 v3,f=.nx [a0,.ow (((ks++[k])++k').map lstI),v2,v3] else f=.rt (.bl false)):=a
     show (if ((k::k').all okS&&decide (ks++k::k').Nodup)=true then ∃v2 v3,f=.nx [a0,.ow ((ks++k::k').map lstI),v2,v3] else f=.rt (.bl false))
     rw [Gy,b,Bw];rw [Ia] at a;exact a
def ZlA(hw:∀w∈ws,Tx w)(hl:ws.length<=1000)(q:U (.bl (swB ws))):Tl (Q0 [.lst (ws.map S)]) U:=by
 unfold Q0;symm;refine Tl.mono (XJ hw List.nodup_nil (by simpa using hl)) λf a=>?_;unfold QH at a;unfold swB at q;cases e:allO spO ws with
 | none=>
  rw [e] at a q;have a:=a;subst a;symm;exact q
 | some ks=>
  rw [e] at a q;have q:U (.bl (spsB ks)):=q;unfold spsB at q;have a:(if (ks.all okS&&decide (ks).Nodup)=true then ∃b c,f=.nx [.im (.lst (ws.map S)),.ow (ks.map lstI),b,c] else f=.rt (.bl false)):=a
  cases hb:(ks.all okS&&decide ks.Nodup) with
  | false=>
   rw [hb] at a q;rw [iN Cj] at a;subst a;symm;rw [Ez,Ez] at q;exact q
  | true=>
   rw [hb] at a q;rw [iP rfl] at a;obtain ⟨b,c,rfl⟩:=a;rw [K1] at q;symm;rw [Ah];refine Cg (λh=>?_) (λh=>?_)
   .rw [Aj (by ac_rfl),Bw] at q;symm;rw [show decide ((ks.length:Int)<=16)=decide (ks.length<=16) from JC.mpr (by ac_rfl)];exact q
   .rw [Al (by ac_rfl),Fw] at q;symm;exact q
def R3:MS:=sq (st 3 (comp (iv (sD Bh (v 2) (c (.str " ")))) 1 [] (gN 0) yes (on Gz (Aa (v 0) Ab))))
  (ifs (bOr (trb (o2 dIn (c .non) (v 3))) (bOr (trb (o2 dNe (on bLen (Aa (v 3) Ab)) (v 1))) (bOr (bNot (trb (chain dLe dLe (c (.int 4)) (v 1) (c (.int 7))))) (bOr (trb (o2 dLt (o2 dIx (v 3) (c (.int 2))) (c (.int 1)))) (trb (o2 dLt (o2 dIx (v 3) (c (.int 3))) (c (.int 1))))))))
  (Dl.ret (o1 dNeg (c (.int 1))))
  nop)
def lcB(m:Nat)(g:List (List Nat)):Bool:=match allO numL g with
 | some ns=>decide (ns.length=m)&&(decide (4<=m/\m<=7)&&(decide (1<=ns.getD 2 0)&&decide (1<=ns.getD 3 0)))
 | none=>false
def Zr0(T:Tx p)(hy:lcB m (Ae 32 p)=true->∀z,Ψ (.nx [a0,.im (.int m),.im (S p),z]))(hn:lcB m (Ae 32 p)=false->Ψ (.rt (.int (-1)))):Tl (R3 [a0,.im (.int m),.im (S p),v3]) Ψ:=by
 unfold R3;refine w_sq (w_st (Ad (W7 (Jz litB rfl T.n) (λu d=>T.sub d) (by have:=T.ws (c:=32);ac_rfl)) (w_gx ?_)));symm;refine Ad (Zlt _) ?_;cases e:allO numL (Ae 32 p) with
 | none=>
  rw [T5 e];symm;exact hn (by unfold lcB;rw [e])
 | some ns=>
  obtain ⟨b,a⟩:=any_some e;have i:lcB m (Ae 32 p)=(decide (ns.length=m)&&(decide (4<=m/\m<=7)&&(decide (1<=ns.getD 2 0)&&decide (1<=ns.getD 3 0)))):=by unfold lcB;rw [e]
  rw [i] at hy hn;rw [b,a];symm;by_cases hm:ns.length=m
  .rw [Aj hm,Bw] at hy hn;symm;by_cases h47:4<=m/\m<=7
   .rw [Aj h47,Bw] at hy hn;symm;obtain ⟨x,y,w,h,k,rfl⟩:=Tp (ns:=ns) (by ac_rfl);symm;have hy:(decide (1<=w)&&decide (1<=h))=true->_:=hy;have hn:(decide (1<=w)&&decide (1<=h))=false->_:=hn;refine Cg (λf=>?_) (λf=>?_)
    .symm;exact hn (by rw [Al (by ac_rfl)];rfl)
    .symm;refine Cg (λj=>?_) (λj=>?_)
     .symm;exact hn (by rw [Al (show ¬1<=h by ac_rfl),Ez])
     .symm;exact hy (by rw [Aj (by ac_rfl),Aj (by ac_rfl)];rfl) _
   .rw [Al h47,Fw] at hn;refine Cg (λg=>?_) (λg=>?_)
    .symm;exact hn rfl
    .symm;exact hn rfl
  .rw [Al hm,Fw] at hn;refine w_nT (by ac_rfl) ?_;symm;exact hn rfl
def Zs1{a0:Cl}{m:Nat}:∀{ps:List (List Nat)} {v2 v3:Cl},(∀p∈ps,Tx p)->Tl (CP (gN 2) R3 (ps.map S) [a0,.im (.int m),v2,v3]) λf=>((ps.all λp=>lcB m (Ae 32 p))=true/\∃y z,f=.nx [a0,.im (.int m),y,z])\/((ps.all λp=>lcB m (Ae 32 p))=false/\f=.rt (.int (-1)))
 | [],v2,v3,_=>w_f0 (.inl ⟨rfl,v2,v3,rfl⟩)
 | p::r,v2,v3,hp=>by
  rw [Bx];refine w_f1 (Ad (x:=[a0,.im (.int m),.im (S p),v3]) rfl ?_);refine Zr0 (hp p Aw) (λh z=>?_) (λh=>?_)
  .rw [Gy,h,Bw];exact w_tx (Zs1 λq a=>hp q (Av _ a))
  .exact w_tr (.inr ⟨by rw [Gy,h];rfl,rfl⟩)
def Lk:lcB m g=true↔∃ns,coO g=some ns/\ns.length=m/\(4<=m/\m<=7)/\1<=ns.getD 2 0/\1<=ns.getD 3 0:=by
 unfold lcB coO;cases e:allO numL g with
 | none=>
  refine ⟨(λh=>by cases h),λzq=>?_⟩;obtain ⟨ns,h,_⟩:=zq;split at h<;>cases h
 | some ns=>
  have j:=Dm e;rw [Bo,Bo,Bo,CQ,CQ,CQ,CQ];refine ⟨λ⟨c,b,a,f⟩=>⟨ns,iN (by ac_rfl),c,b,a,f⟩,λzq=>?_⟩;obtain ⟨i,d,c,b,a,f⟩:=zq;split at d
  .cases d
  .cases d;exact ⟨c,b,a,f⟩
def Ztx{a b c:List (List Nat)}:([a,b,c].all (lcB a.length))=true↔∃cs,allO coO [a,b,c]=some cs/\triB cs=true:=by
 constructor
 .intro h;rw [Ey] at h;obtain ⟨x,ex,x1,x2,x3,x4⟩:=Lk.mp (h a (by simp));obtain ⟨y,B,F,D,C,A⟩:=Lk.mp (h b (by simp));obtain ⟨z,d,I,G,w,v⟩:=Lk.mp (h c (by simp));refine ⟨[x,y,z],?_,?_⟩
  .show (coO a).bind (λx=>((coO b).bind λy=>((coO c).bind λz=>some [z]).map (y::·)).map (x::·))=_;rw [ex,B,d];rfl
  .unfold triB cB;simp only [Gy,List.all_nil,List.getD_cons_zero,K1,DP];simp only [Bo,CQ];exact ⟨⟨⟨x4,by ac_rfl,trivial⟩,⟨A,by ac_rfl,by ac_rfl⟩,v,by ac_rfl,by ac_rfl⟩,x3,C,w⟩
 .rintro ⟨cs,q,f⟩;obtain ⟨x,y,z,rfl⟩:=K9 (Dm q:cs.length=3);have e:(coO a).bind (λx=>((coO b).bind λy=>((coO c).bind λz=>some [z]).map (y::·)).map (x::·))=some [x,y,z]:=q;cases ea:coO a with
  | none=>rw [ea] at e;cases e
  | some x'=>
   cases eb:coO b with
   | none=>rw [ea,eb] at e;cases e
   | some y'=>
    cases d:coO c with
    | none=>rw [ea,eb,d] at e;cases e
    | some z'=>
     rw [ea,eb,d] at e;cases e;have J:=J0 ea;have u:=J0 eb;have i:=J0 d;unfold triB cB at f;simp only [Gy,List.all_nil,List.getD_cons_zero,K1,DP] at f;simp only [Bo,CQ] at f;rw [Ey];intro g s;simp only [An,CN,FZ] at s;obtain ⟨⟨⟨E,H,_⟩,⟨n,o,l⟩,k,j,p⟩,t,m,r⟩:=f;rcases s with rfl | rfl | rfl
     .clear n o l k j p m r u i;exact Lk.mpr ⟨_,ea,by ac_rfl,by ac_rfl,by ac_rfl,by ac_rfl⟩
     .clear k j p t r i;exact Lk.mpr ⟨_,eb,by ac_rfl,by ac_rfl,by ac_rfl,by ac_rfl⟩
     .clear n o l t m u;exact Lk.mpr ⟨_,d,by ac_rfl,by ac_rfl,by ac_rfl,by ac_rfl⟩
def Znu{a b c:List Nat}(ha:Tx a)(hb:Tx b)(hc:Tx c)(hn:(∀cs,allO coO [Ae 32 a,Ae 32 b,Ae 32 c]=some cs->triB cs=false)->U (.int (-1)))(hy:∀cs,allO coO [Ae 32 a,Ae 32 b,Ae 32 c]=some cs->triB cs=true->U (.int ((nv cs:Nat):Int))):Tl (Q9 [.lst ([a,b,c].map S)]) U:=by
 unfold Q9;symm;refine w_sD (Ad rfl ⟨_,rfl,?_⟩);symm;rw [litB];refine HY ha.n ?_;symm;rw [Ah]
 refine Tl.mono (Zs1 λp k=>by
  simp only [An,CN,FZ] at k;rcases k with rfl | rfl | rfl
  .exact ha
  .exact hb
  .exact hc) λf j=>?_
 have d:=Ztx (a:=Ae 32 a) (b:=Ae 32 b) (c:=Ae 32 c);have e:([a,b,c].all λp=>lcB (Ae 32 a).length (Ae 32 p))=[Ae 32 a,Ae 32 b,Ae 32 c].all (lcB (Ae 32 a).length):=rfl;rw [e] at j;rcases j with ⟨h,y,z,rfl⟩ | ⟨h,rfl⟩
 .obtain ⟨cs,g,i⟩:=d.mp h;symm;have:=hy cs g i;have l:=Dm g;obtain ⟨x,y,z,rfl⟩:=K9 (l:cs.length=3);have ex:coO (Ae 32 a)=some x:=by
   have e:(coO (Ae 32 a)).bind (λx=>(allO coO [Ae 32 b,Ae 32 c]).map (x::·))=some [x,y,z]:=g;cases ea:coO (Ae 32 a) with
   | none=>rw [ea] at e;cases e
   | some x'=>
    rw [ea,Ba] at e;cases eb:allO coO [Ae 32 b,Ae 32 c] with
    | none=>rw [eb] at e;cases e
    | some ys=>rw [eb] at e;cases e;rfl
  have m:=J0 ex
  rw [show ((Ae 32 a).length:Int) - 4=((nv [x,y,z]:Nat):Int) by
   show _=(((x.drop 4).length:Nat):Int)
   rw [DP];ac_rfl]
  exact this
 .symm;refine hn λcs g=>?_;cases i:triB cs with
  | false=>rfl
  | true=>rw [d.mpr ⟨cs,g,i⟩] at h;cases h
def ZnD(k:Nat)(q:Rat):plain (k+1) (frD q)=true:=by
 cases k<;>rfl
def Zop(k)(o):plain (k+1) (oQ o)=true:=by
 cases o with
 | none=>rfl
 | some q=>exact ZnD k q
def Zvi(o):eqD (oQ o) .non=o.isNone:=by cases o<;>rfl
def anyQ(ws:List (List Nat)):Bool:=ws.any λw=>(Aq w).isNone
def ZwU(ws):dNin .non (.lst (ws.map λw=>oQ (Aq w)))=.ok (.bl (!anyQ ws)):=by
 show (if (true&&Bv 50 (ws.map λw=>oQ (Aq w)))=true then _ else _)=_
 rw [Jk 50 λw _=>Zop 49 _,iP (show (true&&true)=true from rfl),Q8];unfold anyQ;congr 4;funext w;exact Zvi _
def WM(ws):anyQ ws=(allO Aq ws).isNone:=by
 cases e:allO Aq ws with
 | none=>exact P0 e
 | some xs=>
  have h:=Lq e;unfold anyQ;rw [show (some xs).isNone=false from rfl,KC];intro z;obtain ⟨w,c,b⟩:=List.any_eq_true.mp z;have a:Aq w∈ws.map Aq:=K3 c;rw [h] at a;obtain ⟨x,_,ex⟩:=Bk.mp a;rw [<-ex] at b;cases b
def KQ(l:List Nat):D:=.lst ((Ae 44 l).map λw=>oQ (Aq w))
def lpB(w:List Nat):Bool:=match ptO w with
 | some p=>patB p
 | none=>false
def ZvU(e:ls=a::r):(match allO (λr=>allO Aq (Ae 44 r)) ls with
 | some p=>patB p
 | none=>false)=(pw ls.length&&(pw (Ae 44 a).length&&ls.all λl=>decide ((Ae 44 l).length=(Ae 44 a).length)&&!anyQ (Ae 44 l))):=by
 cases h:allO (λr=>allO Aq (Ae 44 r)) ls with
 | none=>
  have w:=P0 h;obtain ⟨l,c,A⟩:=List.any_eq_true.mp w;have:(ls.all λl=>decide ((Ae 44 l).length=(Ae 44 a).length)&&!anyQ (Ae 44 l))=false:=by
   rw [List.all_eq_false];exact ⟨l,c,by rw [WM,A];simp⟩
  rw [this,Ez,Ez]
 | some p=>
  show patB p=_;have k:=Lq h;have o:=Dm h;have j:∀l∈ls,∃q∈p,allO Aq (Ae 44 l)=some q:=λl c=>by
   have f:allO Aq (Ae 44 l)∈ls.map λr=>allO Aq (Ae 44 r):=K3 c;rw [k] at f;obtain ⟨q,d,i⟩:=Bk.mp f;exact ⟨q,d,i.symm⟩
  have g:∀q∈p,∃l∈ls,allO Aq (Ae 44 l)=some q:=λq d=>by
   have f:some q∈p.map some:=K3 d;rw [<-k] at f;obtain ⟨l,c,m⟩:=Bk.mp f;exact ⟨l,c,m⟩
  subst e;obtain ⟨b,s,rfl⟩ : ∃b s,p=b::s:=by
   cases p with
   | nil=>cases o
   | cons b s=>exact ⟨b,s,rfl⟩
  have x:allO Aq (Ae 44 a)=some b:=by
   have:=Bl List.head? k;exact Be this
  have n:=Dm x;unfold patB;rw [o,show ((b::s).getD 0 []).length=b.length from rfl];cases pw (a::r).length with
  | false=>rfl
  | true=>
   rw [Bw,Bw,Ld,Bo,Ey,Ey];constructor
   .intro z;have t:=z b Aw;rw [Bo] at t;refine ⟨n▸t.1,λl c=>?_⟩;obtain ⟨q,d,i⟩:=j l c;have v:=z q d;rw [Bo,CQ] at v;rw [WM,i,<-Dm i,v.2,<-n];simp
   .rintro ⟨B,y⟩ q d;obtain ⟨l,c,m⟩:=g q d;have u:=y l c;rw [Bo,CQ] at u;rw [Bo,CQ,Dm m,u.1,n];exact ⟨B,rfl⟩
def ZqW(T:Tx w)(q:U (.bl (lpB w))):Tl (Pr [S w]) U:=by
 unfold Pr;obtain ⟨a,r,e⟩:=Mp 59 w;have b:∀l,Tx l->comp (iv (sD Bh (v 0) (c (.str ",")))) 1 [] (gN 0) yes (on G3 (Aa (v 0) Ab)) [.im (S l)]=.ok (KQ l):=λl L=>by
  refine BJ (Lw (Ad (Jz litC rfl L.n) ⟨by rw [Ah];have:=L.ws (c:=44);ac_rfl,?_⟩));refine Dw (λw=>oQ (Aq w)) (λu d=>?_) rfl;symm;exact Ml (L.sub d).a (Ar (L.sub d).l (by decide)) rfl
 have f:comp (iv (sD Bh (v 0) (c (.str ";")))) 1 [] (gN 0) yes (comp (iv (sD Bh (v 0) (c (.str ",")))) 1 [] (gN 0) yes (on G3 (Aa (v 0) Ab))) (ev0 2 [S w])=.ok (.lst ((Ae 59 w).map KQ)):=by
  refine BJ (Lw (Ad (Jz T8 rfl T.n) ⟨by rw [Ah];have:=T.ws (c:=59);ac_rfl,?_⟩));refine Dw KQ (λu d=>?_) rfl;exact w_gN (Ad (b u (T.sub d)) rfl)
 have g:=T.ws (c:=59);unfold lpB ptO at q;rw [ZvU e] at q;refine w_fn (w_sq (w_st (Ad f (w_gx ?_))));symm;rw [Ah];refine Ad (XF _) ?_;symm;cases hp:pw (Ae 59 w).length with
 | false=>
  rw [hp] at q;symm;exact q
 | true=>
  rw [hp,Bw] at q;symm;refine Ad (by rw [e];rfl) ?_;unfold KQ;symm;rw [Ah];refine Ad (XF _) ?_;cases hq:pw (Ae 44 a).length with
  | false=>
   rw [hq] at q;symm;exact q
  | true=>
   rw [hq,Bw] at q;symm;refine ⟨by rw [Ah];ac_rfl,?_⟩;refine Dw (λl=>D.bl (decide ((Ae 44 l).length=(Ae 44 a).length)&&!anyQ (Ae 44 l))) (λl i=>?_) ?_
   .symm;refine Ad (x:=KQ a) (by rw [e];rfl) ?_;unfold KQ;symm;rw [Ah,Ah];refine Cg (λh=>?_) (λh=>?_)
    .rw [Aj (by ac_rfl),Bw];symm;exact Ad (ZwU _) rfl
    .rw [Al (by ac_rfl)];symm;rfl
   .rw [show ((Ae 59 w).map λl=>D.bl (decide ((Ae 44 l).length=(Ae 44 a).length)&&!anyQ (Ae 44 l)))=((Ae 59 w).map λl=>(decide ((Ae 44 l).length=(Ae 44 a).length)&&!anyQ (Ae 44 l))).map .bl by rw [Ck];rfl];symm;refine w_allB ?_;rw [H8];symm;exact q
def Gs{c:Nat}(b):∀a:List Nat,Ae c (a++c::b)=Ae c a++Ae c b
 | []=>by
  have:Ae c (c::b)=[]::Ae c b:=by rw [Ae,iP rfl]
  exact this
 | x::r=>by
  have ih:=Gs (c:=c) b r;have d:=(IV c r).1
  have s:∀l,Ae c (x::l)=(if x=c then []::Ae c l else match Ae c l with
   | []=>[[x]]
   | w::ws=>(x::w)::ws):=λl=>by rw [Ae];try (cases Ae c l<;>rfl)
  show Ae c (x::(r++c::b))=_;rw [s,s,ih];split
  .rfl
  .cases e:Ae c r with
   | nil=>rw [e] at d;simp at d
   | cons u us=>rfl
def spW:List Nat:=[32,47,32]
def ZwZ:Str.ofString " / "=mkS spW:=by decide +kernel
def pB(h a b c:List (List Nat)):Bool:=match allO coO [a,b,c] with
 | some cs=>triB cs&&(hdO h (nv cs)).isSome
 | none=>false
def Zo5(t):(thO t).isSome=(match sg (Ae 32 t) with
 | [h,a,b,c]=>pB h a b c
 | _=>false):=by
 unfold thO;by_cases h4:(sg (Ae 32 t)).length=4
 .rw [iP h4];obtain ⟨h,a,b,c,e⟩:=Qu h4;rw [e];show ((allO coO [a,b,c]).bind λd=>thX d h).isSome=pB h a b c;unfold pB thX;cases allO coO [a,b,c] with
  | none=>rfl
  | some d=>
   rw [Ba];show _=(triB d&&(hdO h (nv d)).isSome);cases triB d with
   | false=>rfl
   | true=>
    rw [iP rfl,Bw];cases hdO h (nv d)<;>rfl
 .rw [iN h4];split
  .next h a b c e=>rw [e] at h4;exact aB rfl h4
  .rfl
def RL(hw:1<=w.length):∀n l,l.length<=n->Ak w (sepL w 0 l)=l
 | 0,l,h=>by
  rw [NK.mp (Nat.le_zero.mp h)];rfl
 | n+1,[],h=>rfl
 | n+1,x::r,h=>by
  have a:r.length<=n:=Nat.le_of_succ_le_succ h;by_cases hp:(x::r).take w.length=w
  .rw [Rr hw hp];have ih:=RL hw n ((x::r).drop w.length) (by rw [DP];simp only [BP] at h ⊢;ac_rfl);cases e:sepL w 0 ((x::r).drop w.length) with
   | nil=>exact aB e (Up w _)
   | cons u us=>
    rw [e] at ih;show []++w++Ak w (u::us)=x::r;rw [ih,List.nil_append]
    conv=>rhs;rw [<-JB w.length (x::r),hp]
  .rw [O4 hp];have ih:=RL hw n r a;cases e:sepL w 0 r with
   | nil=>exact aB e (Up w r)
   | cons u us=>
    rw [e] at ih;cases us with
    | nil=>exact Bl (x::·) ih
    | cons y ys=>exact Bl (x::·) ih
def ZkE(h:sepL spW 0 t=[p0,p1,p2,p3]):Ae 32 t=Ae 32 p0++[47]::(Ae 32 p1++[47]::(Ae 32 p2++[47]::Ae 32 p3)):=by
 have e:=RL (w:=spW) (by decide) t.length t (Ao _);rw [h] at e;have e:p0++spW++(p1++spW++(p2++spW++p3))=t:=e;have g:∀a b:List Nat,Ae 32 (a++spW++b)=Ae 32 a++[47]::Ae 32 b:=λa b=>by
  rw [show a++spW++b=a++32::([47]++32::b) by simp [spW],Gs,Gs];rfl
 rw [<-e,g,g,g]
def RW:∀{g:List (List Nat)} {r:List (List Nat)},(∀w∈g,w≠[47])->sg (g++[47]::r)=g::sg r
 | [],r,_=>Qp r
 | w::g,r,h=>by
  rw [List.cons_append,Nq (h w Aw),RW λu a=>h u (Av _ a)];rfl
def X3:∀{g:List (List Nat)},(∀w∈g,w≠[47])->sg g=[g]
 | [],_=>rfl
 | w::g,h=>by
  rw [Nq (h w Aw),X3 λu a=>h u (Av _ a)];rfl
def ZvI:numL [47]=none:=by decide +kernel
def Ut:Aq [47]=none:=by decide +kernel
def Zrj(h:coO g=some ns):∀w∈g,w≠[47]:=by
 unfold coO at h;split at h
 .cases h
 .intro w b e;have:=Lq h;have a:numL w∈g.map numL:=K3 b;rw [this,e,ZvI] at a;obtain ⟨x,_,ex⟩:=Bk.mp a;cases ex
def Zrz{F:α->Option β}(h:allO F ws=some xs){w:α}(hw:w∈ws):∃x∈xs,F w=some x:=by
 have e:=Lq h;have a:F w∈ws.map F:=K3 hw;rw [e] at a;obtain ⟨x,hx,ex⟩:=Bk.mp a;exact ⟨x,hx,ex.symm⟩
def Zrs(hs:(hdO h n).isSome=true):h≠[]/\∀w∈h,w≠[47]:=by
 have i:ptO [47]=none:=by decide +kernel
 unfold hdO at hs;split at hs
 .next c=>
  obtain ⟨a,b,rfl⟩:=Gk c.2;have g:a=plW:=by have:=c.1;simpa using this
  refine ⟨by simp,λw f e=>?_⟩;simp only [An,CN,FZ] at f;rcases f with rfl | rfl
  .rw [g] at e;exact aB e (by decide)
  .rw [e] at hs;rw [show ([a,[47]]:List (List Nat)).getD 1 []=[47] from rfl,Ut] at hs;cases hs
 split at hs
 .next c=>rw [c];exact ⟨by simp,λw f e=>by rw [De.mp f] at e;exact aB e (by decide)⟩
 split at hs
 .next c=>
  obtain ⟨a,b,rfl⟩:=Gk c.2;have g:a=paW:=by have:=c.1;simpa using this
  refine ⟨by simp,λw f e=>?_⟩;simp only [An,CN,FZ] at f;rcases f with rfl | rfl
  .rw [g] at e;exact aB e (by decide)
  .rw [e] at hs;rw [show ([a,[47]]:List (List Nat)).getD 1 []=[47] from rfl,i] at hs;cases hs
 split at hs
 .next c=>
  obtain ⟨a,b,d,rfl⟩:=K9 c.2;have g:a=gsW:=by have:=c.1;simpa using this
  refine ⟨by simp,λw f e=>?_⟩;simp only [An,CN,FZ] at f;rcases f with rfl | rfl | rfl
  .rw [g] at e;exact aB e (by decide)
  .rw [e] at hs;rw [show ([a,[47],d]:List (List Nat)).getD 1 []=[47] from rfl,Ut] at hs;cases hs
  .rw [e] at hs;rw [show ([a,b,[47]]:List (List Nat)).getD 2 []=[47] from rfl,Ut] at hs;rw [show ([a,b,[47]]:List (List Nat)).getD 1 []=b from rfl] at hs;cases hq:Aq b with
   | none=>rw [hq] at hs;cases hs
   | some q=>rw [hq] at hs;cases hs
 .cases hs
def ZR{h a b c:List (List Nat)}(hp:pB h a b c=true):(h≠[]/\a≠[]/\b≠[]/\c≠[])/\∀g∈[h,a,b,c],∀w∈g,w≠[47]:=by
 unfold pB at hp;cases e:allO coO [a,b,c] with
 | none=>rw [e] at hp;cases hp
 | some cs=>
  rw [e] at hp;have hp:=hp;rw [Bo] at hp;have f:=Zrs hp.2;have k:∀g∈[a,b,c],g≠[]/\∀w∈g,w≠[47]:=λg hg=>by
   obtain ⟨j,_,d⟩:=Zrz e hg;have:=J0 d;refine ⟨λz=>by have i:g.length=0:=(by rw [z];rfl);ac_rfl,Zrj d⟩
  refine ⟨⟨f.1,(k a (by simp)).1,(k b (by simp)).1,(k c (by simp)).1⟩,λg hg=>?_⟩;rcases An.mp hg with rfl | hg
  .exact f.2
  .exact (k g hg).2
def unsg:List (List (List Nat))->List (List Nat)
 | []=>[]
 | [g]=>g
 | g::h::r=>g++[47]::unsg (h::r)
def VJ:∀ws,unsg (sg ws)=ws
 | []=>rfl
 | w::r=>by
  have ih:=VJ r;by_cases hw:w=[47]
  .rw [hw,Qp];cases e:sg r with
   | nil=>exact aB e (OD r)
   | cons g gs=>
    rw [e] at ih;show []++[47]::unsg (g::gs)=_;rw [ih];rfl
  .rw [Nq hw];cases e:sg r with
   | nil=>exact aB e (OD r)
   | cons g gs=>
    rw [e] at ih;cases gs with
    | nil=>exact Bl (w::·) ih
    | cons x xs=>exact Bl (w::·) ih
def Hu(c):∀l,Ak [c] (Ae c l)=l
 | []=>rfl
 | x::r=>by
  have ih:=Hu c r
  have s:Ae c (x::r)=(if x=c then []::Ae c r else match Ae c r with
   | []=>[[x]]
   | w::ws=>(x::w)::ws):=by rw [Ae];try (cases Ae c r<;>rfl)
  rw [s];cases e:Ae c r with
  | nil=>have:=(IV c r).1;rw [e] at this;cases this
  | cons w ws=>
   rw [e] at ih;by_cases hx:x=c
   .rw [iP hx,hx];show []++[c]++Ak [c] (w::ws)=_;rw [ih];rfl
   .rw [iN hx];cases ws with
    | nil=>exact Bl (x::·) ih
    | cons y ys=>exact Bl (x::·) ih
def Hr(s):∀{a b:List (List Nat)},a≠[]->b≠[]->Ak s (a++b)=Ak s a++s++Ak s b
 | [],b,h,_=>aB rfl h
 | [x],b,_,hb=>by
  cases b with
  | nil=>exact aB rfl hb
  | cons y r=>rfl
 | x::y::r,b,_,hb=>by
  have ih:=Hr s (a:=y::r) (by simp) hb;show x++s++Ak s ((y::r)++b)=(x++s++Ak s (y::r))++s++Ak s b;rw [ih];simp only [Ia]
def SQ(ha:a≠[])(hb:b≠[]):Ak [32] (a++[47]::b)=Ak [32] a++spW++Ak [32] b:=by
 rw [Hr [32] ha (by simp),show ([47]::b)=[[47]]++b from rfl,Hr [32] (by simp) hb];simp [spW,Ak]
def ZoC(h:[47]∉Ae 32 p):∀k,k<p.length->((p++(spW++rest)).drop k).take spW.length≠spW:=by
 intro k o z;have e:p++(spW++rest)=p.take k++(p.drop k++(spW++rest)):=by rw [<-Ia (p.take k),JB]
 have m:(p++(spW++rest)).drop k=p.drop k++(spW++rest):=List.drop_append_of_le_length (by ac_rfl);rw [m] at z
 obtain ⟨b,c⟩ : ∃b,p.drop k++(spW++rest)=spW++b:=⟨_,by
  conv=>lhs;rw [<-JB spW.length (p.drop k++(spW++rest)),z]⟩
 have f:∃a,p=p.take k++32::a:=by
  cases ed:p.drop k with
  | nil=>have:=Bl List.length ed;rw [DP] at this;simp at this;ac_rfl
  | cons x a=>
   rw [ed] at c;have:x=32:=by
    have:=Bl List.head? c;exact Be this
   refine ⟨a,?_⟩;rw [<-this,<-ed,JB]
 obtain ⟨a,g⟩:=f;have j:Ae 32 (p++(spW++rest))=Ae 32 p++[47]::Ae 32 rest:=by
  rw [show p++(spW++rest)=p++32::([47]++32::rest) by simp [spW],Gs,Gs];rfl
 have l:Ae 32 (p++(spW++rest))=Ae 32 (p.take k)++[47]::Ae 32 b:=by
  rw [e,c,show p.take k++(spW++b)=p.take k++32::([47]++32::b) by simp [spW],Gs,Gs];rfl
 have i:Ae 32 p=Ae 32 (p.take k)++Ae 32 a:=by
  conv=>lhs;rw [g]
  exact Gs a _
 have n:=(IV 32 a).1;have d:(Ae 32 (p++(spW++rest)))[(Ae 32 (p.take k)).length]?=some [47]:=by
  rw [l,Ff (Ao _),Nat.sub_self];rfl
 rw [j,Dn (by rw [i,Bm];ac_rfl)] at d;exact h (Ef d)
def VL(h:[47]∉Ae 32 p):sepL spW 0 (p++spW++rest)=p::sepL spW 0 rest:=by
 rw [Ia,Nm p (spW++rest) (ZoC h),Rr (by decide) (by simp [spW])];show (p++[])::_=_;rw [Cq];rfl
def Zq4(h:[47]∉Ae 32 p):sepL spW 0 p=[p]:=by
 have e:=Nm p [] λk c z=>by
  rw [Cq] at z;have b:p=p.take k++p.drop k:=(JB _ _).symm;have a:p.drop k=spW++(p.drop k).drop spW.length:=by
   conv=>lhs;rw [<-JB spW.length (p.drop k),z]
  refine h ?_;rw [b,a,show p.take k++(spW++(p.drop k).drop spW.length)=p.take k++32::([47]++32::(p.drop k).drop spW.length) by simp [spW],Gs,Gs];exact CK _ (HD _ Aw)
 rw [Cq] at e;rw [e];show [p++[]]=_;rw [Cq]
def ZoI{h a b c:List (List Nat)}(e:sg (Ae 32 t)=[h,a,b,c])(hp:pB h a b c=true):∃p0 p1 p2 p3,sepL spW 0 t=[p0,p1,p2,p3]/\Ae 32 p0=h/\Ae 32 p1=a/\Ae 32 p2=b/\Ae 32 p3=c:=by
 obtain ⟨⟨s,n,m,p⟩,d⟩:=ZR hp;have l:Ae 32 t=h++[47]::(a++[47]::(b++[47]::c)):=by
  have:=VJ (Ae 32 t);rw [e] at this;exact this.symm
 have v:t=Ak [32] h++spW++(Ak [32] a++spW++(Ak [32] b++spW++Ak [32] c)):=by
  have:=Hu 32 t;rw [l,SQ s (by simp),SQ n (by simp),SQ m p] at this;exact this.symm
 have i:∀g∈[h,a,b,c],g≠[]->Ae 32 (Ak [32] g)=g:=λg r u=>by
  refine ZL u λw f=>?_;have:w∈Ae 32 t:=by
   rw [l];simp only [An,CN,FZ] at r;simp only [Dv,An];rcases r with rfl | rfl | rfl | rfl
   .exact .inl f
   .exact .inr (.inr (.inl f))
   .exact .inr (.inr (.inr (.inr (.inl f))))
   .exact .inr (.inr (.inr (.inr (.inr (.inr f)))))
  exact λz=>((Jl this).1 32 z).2 rfl
 have k:=i h (by simp) s;have o:=i a (by simp) n;have j:=i b (by simp) m;have q:=i c (by simp) p;refine ⟨_,_,_,_,?_,k,o,j,q⟩;rw [v,VL (by rw [k];exact λz=>d h (by simp) _ z rfl),VL (by rw [o];exact λz=>d a (by simp) _ z rfl),VL (by rw [j];exact λz=>d b (by simp) _ z rfl),Zq4 (by rw [q];exact λz=>d c (by simp) _ z rfl)]
def ZlO(t):(thO t).isSome=(match sepL spW 0 t with
 | [p0,p1,p2,p3]=>pB (Ae 32 p0) (Ae 32 p1) (Ae 32 p2) (Ae 32 p3)
 | _=>false):=by
 rw [Zo5,Ld];constructor
 .intro z;split at z
  .next h a b c e=>
   obtain ⟨p0,p1,p2,p3,f,rfl,rfl,rfl,rfl⟩:=ZoI e z;rw [f];exact z
  .cases z
 .intro z;split at z
  .next p0 p1 p2 p3 e=>
   have d:=(ZR z).2;rw [ZkE e,RW (d _ (by simp)),RW (d _ (by simp)),RW (d _ (by simp)),X3 (d _ (by simp))];exact z
  .cases z
def ZuD(hl:t.length<=1000000)(q:U (.lst ((sepL spW 0 t).map S))):Tl (Bh (mkS t) (.str (mkS spW))) U:=by
 refine Ad ?_ q;show (if (1<=(mkS spW).length/\(mkS spW).cps.all (·<256)=true)/\(mkS t).length<=LIM then Res.ok (D.lst ((sepL (cpL (mkS spW)) 0 (cpL (mkS t))).map λl=>.str (mkS l))) else .bad)=_
 rw [iP ⟨by decide +kernel,by rw [FP];exact hl⟩,Cp,Cp];rfl
def ZoA(T:Tx t)(h:sepL spW 0 t=[p0,p1,p2,p3]):Tx p0/\Tx p1/\Tx p2/\Tx p3:=by
 have e:=RL (w:=spW) (by decide) t.length t (Ao _);rw [h] at e;have e:p0++spW++(p1++spW++(p2++spW++p3))=t:=e;have d:=T.l;have b:=T.a;rw [<-e] at d b;simp only [Bm] at d;refine ⟨⟨λx c=>b x ?_,by ac_rfl⟩,⟨λx c=>b x ?_,by ac_rfl⟩,⟨λx c=>b x ?_,by ac_rfl⟩,⟨λx c=>b x ?_,by ac_rfl⟩⟩<;>simp [c]
def Eu:(u::ws).take 1=[W]↔u=W:=by simp
def ZwJ:(hdO (plW::ws) n).isSome=(decide (ws.length=1)&&(Aq (ws.getD 0 [])).isSome):=by
 unfold hdO;by_cases h:ws.length=1
 .rw [iP ⟨Eu.mpr rfl,by simpa using h⟩,Aj h,Bw];show ((Aq (ws.getD 0 [])).map Th.pl).isSome=_;cases Aq (ws.getD 0 [])<;>rfl
 .rw [iN λz=>h (by simpa using z.2),iN λz=>aB (Kf z).1 (by decide),iN λz=>aB (Eu.mp z.1) (by decide),iN λz=>aB (Eu.mp z.1) (by decide),Al h];rfl
def ZwK:(hdO (shW::ws) n).isSome=(decide (ws.length=0)&&decide (1<=n)):=by
 unfold hdO;rw [iN λz=>aB (Eu.mp z.1) (by decide)];by_cases h:ws.length=0
 .rw [iP (by rw [NK.mp h]),Aj h,Bw];by_cases hn:1<=n
  .rw [iP hn,Aj hn];rfl
  .rw [iN hn,Al hn];rfl
 .rw [iN λz=>h (by rw [(Kf z).2];rfl),iN λz=>aB (Eu.mp z.1) (by decide),iN λz=>aB (Eu.mp z.1) (by decide),Al h];rfl
def ZvH:(hdO (paW::ws) n).isSome=(decide (ws.length=1)&&(decide (2<=n)&&lpB (ws.getD 0 []))):=by
 unfold hdO;rw [iN λz=>aB (Eu.mp z.1) (by decide),iN λz=>aB (Kf z).1 (by decide)];by_cases h:ws.length=1
 .rw [iP ⟨Eu.mpr rfl,by simpa using h⟩,Aj h,Bw];show ((ptO (ws.getD 0 [])).bind _).isSome=_;unfold lpB;cases ptO (ws.getD 0 []) with
  | none=>rw [Ez];rfl
  | some p=>
   rw [Ba];show _=(decide (2<=n)&&patB p);by_cases hn:2<=n
   .rw [Aj hn,Bw];cases patB p with
    | true=>rw [iP ⟨hn,rfl⟩];rfl
    | false=>rw [iN λz=>aB z.2 Cj];rfl
   .rw [Al hn,iN λz=>hn z.1];rfl
 .rw [iN λz=>h (by simpa using z.2),iN λz=>aB (Eu.mp z.1) (by decide),Al h];rfl
def ZwW:(hdO (gsW::ws) n).isSome=(decide (ws.length=2)&&((Aq (ws.getD 0 [])).isSome&&(Aq (ws.getD 1 [])).any Fq)):=by
 unfold hdO;rw [iN λz=>aB (Eu.mp z.1) (by decide),iN λz=>aB (Kf z).1 (by decide),iN λz=>aB (Eu.mp z.1) (by decide)];by_cases h:ws.length=2
 .rw [iP ⟨Eu.mpr rfl,by simpa using h⟩,Aj h,Bw];show ((Aq (ws.getD 0 [])).bind λq=>(Aq (ws.getD 1 [])).bind _).isSome=_;cases Aq (ws.getD 0 []) with
  | none=>rfl
  | some q=>
   rw [Ba];cases Aq (ws.getD 1 []) with
   | none=>rfl
   | some r=>
    rw [Ba];show _=Fq r;cases Fq r<;>rfl
 .rw [iN λz=>h (by simpa using z.2),Al h];rfl
def ZwY(h1:u≠shW)(h2:u≠plW)(h3:u≠paW)(h4:u≠gsW):(hdO (u::ws) n).isSome=false:=by
 unfold hdO;rw [iN λz=>h2 (Eu.mp z.1),iN λz=>h1 (Kf z).1,iN λz=>h3 (Eu.mp z.1),iN λz=>h4 (Eu.mp z.1)];rfl
def Ox(o):Jv (oQ o)=o.isNone:=by cases o<;>rfl
def Zla(T:Tx t)(q:U (.bl (thO t).isSome)):Tl (Qi [S t]) U:=by
 rw [ZlO] at q;have first:∀{Ψ:Fl->Prop},Ψ (.nx [.im (S t),.im (.lst ((sepL spW 0 t).map S)),.no,.no,.no])->Tl (st 1 (sD Bh (v 0) (c (.str " / "))) (ev0 5 [S t])) Ψ:=λz=>by
  refine w_st (w_sD (Ad (x:=S t) rfl ⟨_,rfl,?_⟩));symm;rw [ZwZ];exact ZuD T.n z
 unfold Qi;refine w_fn (w_sq (first (w_gx ?_)))
 by_cases h4:(sepL spW 0 t).length=4
 .obtain ⟨o,J,G,F,e⟩:=Qu h4;obtain ⟨H,L,N,M⟩:=ZoA T e;rw [e] at q ⊢;have q:U (.bl (pB (Ae 32 o) (Ae 32 J) (Ae 32 G) (Ae 32 F))):=q;unfold pB at q;symm;obtain ⟨u,f,E⟩:=Mp 32 o;have I:∀w∈u::f,Tx w:=λw K=>H.sub (c:=32) (by rw [E];exact K);refine Tl.mono (Ψ:=λd=>∃(m:Int) (n:Nat) (ok:Bool),d=.int m/\(ok=true->m=(n:Int))/\(ok=false->m=-1)/\U (.bl (ok&&(hdO (u::f) n).isSome))) (Znu L N M (λO=>⟨-1,0,false,rfl,(λz=>by cases z),λ_=>rfl,?_⟩) λj p D=>⟨_,nv j,true,rfl,λ_=>rfl,(λz=>by cases z),?_⟩) ?_
  .cases p:allO coO [Ae 32 J,Ae 32 G,Ae 32 F] with
   | none=>rw [p] at q;exact q
   | some j=>
    rw [p] at q;have q:U (.bl (triB j&&(hdO (Ae 32 o) (nv j)).isSome)):=q;rw [O j p] at q;exact q
  .rw [p] at q;have q:U (.bl (triB j&&(hdO (Ae 32 o) (nv j)).isSome)):=q;rw [D,E] at q;exact q
  clear q;rintro _ ⟨m,n,ok,rfl,hok,hno,q⟩;refine w_gx ?_;have y:Asc u:=(I u Aw).a;refine w_sq (w_st (w_sD (Ad (x:=S o) rfl ⟨_,rfl,?_⟩)));symm;rw [litB];refine HY H.n (w_gx ?_);rw [E];have A:∀k,k<(u::f).length->dIx (.lst ((u::f).map S)) (.int k)=.ok (S ((u::f).getD k [])):=λk s=>ix_S s;have i:∀k,k<(u::f).length->Tx ((u::f).getD k []):=λk s=>by
   rw [GQ,Bg s];exact I _ (G4 s)
  symm;rw [TJ];refine Dp (b:=shW) y (Bb rfl) ?_;by_cases c1:u=shW
  .subst c1;rw [Aj rfl];rw [ZwK] at q;symm;rw [Ah];refine Cg (λh=>?_) (λh=>?_)
   .rw [Aj (show f.length=0 by simp at h;ac_rfl),Bw] at q;symm
    rw [show decide (0<m)=(ok&&decide (1<=n)) by
     cases ok with
     | true=>rw [hok rfl,Bw];exact JC.mpr (by ac_rfl)
     | false=>rw [hno rfl];rfl]
    exact q
   .rw [Al (show ¬f.length=0 from λz=>h (by simp [z])),Fw,Ez] at q;symm;exact q
  rw [Al c1];symm;rw [K4];refine Dp (b:=plW) y (Bb rfl) ?_;by_cases c2:u=plW
  .subst c2;rw [Aj rfl];rw [ZwJ] at q;symm;rw [Ah];refine Cg (λh=>?_) (λh=>?_)
   .have B:f.length=1:=by simp at h;ac_rfl
    rw [Aj B,Bw] at q;symm;refine Cg (λg=>?_) (λg=>?_)
    .symm;refine Ad (A 1 (by simp;ac_rfl)) ?_;symm;refine Ml (i 1 (by simp;ac_rfl)).a (Ar (i 1 (by simp;ac_rfl)).l (by decide)) ?_;symm;rw [Ox,show ((plW::f).getD 1 [])=f.getD 0 [] from rfl];cases ok with
     | true=>rw [Bw] at q;cases hf:Aq (f.getD 0 [])<;>rw [hf] at q<;>exact q
     | false=>rw [hno rfl] at g;exact aB g (by decide)
    .symm;cases ok with
     | true=>rw [hok rfl] at g;ac_rfl
     | false=>exact q
   .rw [Al (show ¬f.length=1 from λz=>h (by simp [z])),Fw,Ez] at q;symm;exact q
  rw [Al c2];symm;rw [N7];refine Dp (b:=paW) y (Bb rfl) ?_;by_cases c3:u=paW
  .subst c3;rw [Aj rfl];rw [ZvH] at q;symm;rw [Ah];refine Cg (λh=>?_) (λh=>?_)
   .have B:f.length=1:=by simp at h;ac_rfl
    rw [Aj B,Bw] at q;symm;refine Cg (λg=>?_) (λg=>?_)
    .symm;refine Ad (A 1 (by simp;ac_rfl)) ?_;symm;refine ZqW (i 1 (by simp;ac_rfl)) ?_;symm;cases ok with
     | true=>rw [Bw,Aj (show 2<=n by have:=hok rfl;ac_rfl),Bw] at q;exact q
     | false=>rw [hno rfl] at g;exact aB g (by decide)
    .symm;cases ok with
     | true=>rw [Bw,Al (show ¬2<=n by have:=hok rfl;ac_rfl),Fw] at q;exact q
     | false=>exact q
   .rw [Al (show ¬f.length=1 from λz=>h (by simp [z])),Fw,Ez] at q;symm;exact q
  rw [Al c3];symm;rw [QM];refine JG (b:=gsW) y (Bb rfl) ?_;by_cases c4:u=gsW
  .subst c4;rw [Aj rfl];rw [ZwW] at q;symm;rw [Ah];by_cases h2:f.length=2
   .rw [Aj h2,Bw] at q;refine w_nF (by simp;ac_rfl) ?_;symm;refine Cg (λg=>?_) (λg=>?_)
    .symm;cases ok with
     | true=>have:=hok rfl;ac_rfl
     | false=>exact q
    .have D:ok=true:=by
      cases ok with
      | true=>rfl
      | false=>rw [hno rfl] at g;exact aB (by decide) g
     rw [D,Bw] at q;symm;refine Ad (A 1 (by simp;ac_rfl)) ?_;symm;refine Ml (i 1 (by simp;ac_rfl)).a (Ar (i 1 (by simp;ac_rfl)).l (by decide)) ?_;symm;rw [Ox,show ((gsW::f).getD 1 [])=f.getD 0 [] from rfl];cases hf:Aq (f.getD 0 []) with
     | none=>rw [hf] at q;symm; exact q
     | some q0=>
      rw [hf] at q;have q:U (.bl ((Aq (f.getD 1 [])).any Fq)):=q;symm;refine Ad (A 2 (by simp;ac_rfl)) ?_;symm;refine Ml (i 2 (by simp;ac_rfl)).a (Ar (i 2 (by simp;ac_rfl)).l (by decide)) ?_;symm;rw [Ox,show ((gsW::f).getD 2 [])=f.getD 1 [] from rfl];cases hg:Aq (f.getD 1 []) with
      | none=>rw [hg] at q;symm; exact q
      | some r=>
       rw [hg] at q;have q:U (.bl (Fq r)):=q;unfold Fq at q;symm;unfold oQ frD;symm;refine Cg (λC=>?_) (λC=>?_)
       .symm;rw [show decide (r.num<=(r.den:Int))=decide (0<=r.num/\r.num<=(r.den:Int)) from JC.mpr ⟨λz=>⟨C,z⟩,λz=>z.2⟩];exact q
       .symm;rw [Al λz=>C z.1] at q;exact q
   .rw [Al h2,Fw,Ez] at q;refine w_nT (by simp;ac_rfl) ?_;symm;exact q
  rw [Al c4];rw [ZwY c1 c2 c3 c4,Ez] at q;symm;exact q
 .have q:U (.bl false):=by
   split at q
   .next e=>rw [e] at h4;exact aB rfl h4
   .exact q
  symm;refine w_nT (by rw [Ah];ac_rfl) ?_;symm;exact q
def rd:Nat->List D->Res D
 | 0=>GZ
 | 1=>Jm
 | 2=>JS
 | _=>Ib
def okB:Res D->Bool
 | .ok _=>true
 | _=>false
def ZF(h:okB r=true):∃d,r=.ok d:=by
 cases r with
 | ok d=>exact ⟨d,rfl⟩
 | ex c=>cases h
 | bad=>cases h
def nmR:Nat->Str
 | 0=>"read_floor"
 | 1=>"read_ground"
 | 2=>"read_spots"
 | _=>"read_thing"
def tabR:List (Str×(List D->Res D)):=[("read_floor",GZ),("read_ground",Jm),("read_spots",JS),("read_thing",Ib)]
def Zu6(hi:i<=3):tabR.lookup (nmR i)=some (rd i):=by
 have:i=0\/i=1\/i=2\/i=3:=by ac_rfl
 rcases this with rfl | rfl | rfl | rfl<;>kernel_rfl
def Zuv(h:exB r=true):∃c,r=.ex c/\(Pq.contains (clsOf c)&&JT c)=true:=by
 cases r with
 | ok d=>cases h
 | ex c=>exact ⟨c,rfl,h⟩
 | bad=>cases h
section
variable{rows:List (List Nat)}{k i:Nat}{t:List Nat}{d:D}
def Yl(h:rows[k]?=some t):dIx (.lst (rows.map S)) (.int k)=.ok (S t):=by
 show ofO (at_ (rows.map S) (k:Int))=_;unfold at_;rw [iP (by ac_rfl),JR,DK,h];rfl
def V4(hk:k<rows.length)(q:Ψ (.nx [.im (.lst (rows.map S)),.im (.int k),.im (.cls (nmR i))])):Tl (ifs (trb (o2 dGe (v 1) (on bLen (Aa (v 0) Ab)))) (rsP "NoRow" (Aa (v 1) Ab)) nop (ev0 3 [.lst (rows.map S),.int k,.cls (nmR i)])) Ψ:=by
 symm;rw [Ah,Al (by ac_rfl)];symm;exact q
def XR(hi:i<=3)(h:rows[k]?=some t):Mv tabR 2 (Aa (o2 dIx (v 0) (v 1)) Ab) Pq "NoRow" (Aa (v 1) Ab) [.im (.lst (rows.map S)),.im (.int k),.im (.cls (nmR i))]=(match rd i [S t] with
  | .ok d=>.ok (.rt d)
  | .ex x=>if (Pq.contains (clsOf x)&&JT x)=true then .ex (tagX (2*k+1) "NoRow") else .bad
  | .bad=>.bad):=by
 unfold Mv;dsimp only [List.getElem?_cons_succ,List.getElem?_cons_zero];rw [Zu6 hi];have a:Aa (o2 dIx (v 0) (v 1)) Ab [.im (.lst (rows.map S)),.im (.int k),.im (.cls (nmR i))]=.ok [S t]:=by
  refine BJ ?_;symm;refine Ad (Yl h) ?_;symm
 have b:Aa (v 1) Ab [.im (.lst (rows.map S)),.im (.int k),.im (.cls (nmR i))]=.ok [.int k]:=rfl;rw [a,b];unfold noEx;dsimp only;rw [Ci];cases rd i [S t] with
 | ok d=>rfl
 | bad=>rfl
 | ex x=>
  rfl
def K6(hi:i<=3)(h:rows[k]?=some t)(e:rd i [S t]=.ok d):Gg [.lst (rows.map S),.int k,.cls (nmR i)]=.ok d:=by
 have:=XR hi h;rw [e] at this;refine BJ (w_fn (w_sq (V4 (Dd.mp h).1 (w_gx ?_))));refine Ad this ?_;symm
def Zj(hi:i<=3)(h:rows[k]?=some t)(e:exB (rd i [S t])=true):Gg [.lst (rows.map S),.int k,.cls (nmR i)]=.ex (tagX (2*k+1) "NoRow"):=by
 have:=XR hi h;obtain ⟨c,a,b⟩:=Zuv e;rw [a] at this;dsimp only at this;rw [iP b] at this;exact x_fn (By (V4 (Dd.mp h).1 (x_gx this)))
def Ztm(hk:rows.length<=k):Gg [.lst (rows.map S),.int k,.cls (nmR i)]=.ex (tagX (2*k) "NoRow"):=by
 refine x_fn (Ca (DQ ?_));symm;rw [Ah,Aj (by ac_rfl),iP rfl];exact HS (α:=Fl) rfl
end
structure RK(ts:List (List Nat))(k:Nat):Prop where
 ok:∀i,i<k->∃t,ts[i]?=some t/\okB (rd (min i 3) [S t])=true
 ex:∀t,ts[k]?=some t->exB (rd (min k 3) [S t])=true
 no:ts[k]?=none->k<3
def Zy{U:List D->Prop}{i:Int}(h0:(-1000000000<=i/\i<=1000000000)/\(-1000000000<=j/\j<=1000000000))(h:U (CZ i (j - i).toNat)):Tl (rng2 [.int i,.int j]) U:=by
 refine Ad ?_ h;show (if (-1000000000<=i/\i<=1000000000)/\(-1000000000<=j/\j<=1000000000) then Res.ok (CZ i (j - i).toNat) else .bad)=_
 rw [iP h0]
def Zvc{g:MG}{c:Str}:∀{l:List D} {d:D} {r:List D},(∀x∈l,Tl (g x Z) λZ1=>Tl (e Z1) λ_=>True)->(Tl (g d Z) λZ1=>e Z1=.ex c)->BR g yes e Z (l++d::r)=.ex c
 | [],d,r,_,h=>by
  obtain ⟨Z1,a,b⟩:=h;show BR g yes e Z (d::r)=_;unfold BR yes;rw [a,Ci,Ci,iP rfl,b];rfl
 | x::l,d,r,hl,h=>by
  have ih:=Zvc (r:=r) (λy f=>hl y (Av _ f)) h;obtain ⟨Z1,a,y,b,_⟩:=hl x Aw;show BR g yes e Z (x::(l++d::r))=_;unfold BR;unfold yes at ih ⊢;rw [a,Ci,Ci,iP rfl,b,Ci,ih];rfl
def ZrM{it:MI}{own:Nat}{cap:List Nat}{g:MG}{t:MB}{c:Str}(h:Tl (it Z) λxs=>xs.length<=1000000/\BR g t e (noA own (Bu Z cap)) xs=.ex c):Cr it own cap g t e Z=.ex c:=by
 obtain ⟨xs,a,d,b⟩:=h;unfold Cr;rw [a,Ci,iP (show xs.length<=LIM from d),b];rfl
def ZmC(lo)(m n):CZ lo (m+(n+1))=CZ lo m++.int (lo+m)::CZ (lo+m+1) n:=by
 unfold CZ;rw [List.range_add,GD,List.range_succ_eq_map,Bx,Bx,Ck,Ck];congr 2;refine Nk λk _=>?_;show D.int (lo+((m+(k+1):Nat):Int))=D.int (lo+m+1+(k:Int));congr 1;ac_rfl
section
variable{ts:List (List Nat)}
def Qj{l:List Nat}(h:Tx l)(hts:Ae 10 l=ts){R:MS}{c:Str}(q:R [.im (S l),.im (.lst (ts.map S)),.no,.no,.no,.no]=.ex c):fn 6 (sq (drp (on Mw (Aa (v 0) Ab))) (sq (st 1 (sD Bh (v 0) (Dl.c (.str "\n")))) R)) [S l]=.ex c:=by
 have a:=h.l;refine x_fn (By (Nr (w_on (DR (w_v rfl (Fv ?_))))));refine Ad (rfl) (x_gx (By ?_));symm;refine w_sD ?_;symm;refine ⟨_,rfl,?_⟩;symm;rw [litN];refine HY (by ac_rfl) ?_;rw [hts];exact x_gx q
def Vh(h:RK ts k)(hk:k<=2):∃j,j/2=k/\Gg [.lst (ts.map S),.int k,.cls (nmR k)]=.ex (tagX j "NoRow"):=by
 cases e:ts[k]? with
 | none=>exact ⟨2*k,by ac_rfl,Ztm (S9.mp e)⟩
 | some t=>
  have:=h.ex t e;rw [show min k 3=k by ac_rfl] at this;exact ⟨2*k+1,by ac_rfl,Zj (by ac_rfl) e this⟩
def K8(h:RK ts k)(hk:i<k)(h3:i<=2):∃d,Gg [.lst (ts.map S),.int i,.cls (nmR i)]=.ok d:=by
 obtain ⟨t,e,q⟩:=h.ok i hk;rw [show min i 3=i by ac_rfl] at q;obtain ⟨d,a⟩:=ZF q;exact ⟨d,K6 (by ac_rfl) e a⟩
def Zm7(h:Tx l)(hts:Ae 10 l=ts)(hb:RK ts k):∃j,j/2=k/\Kq [S l]=.ex (tagX j "NoRow"):=by
 have hk:k=0\/k=1\/k=2\/3<=k:=by ac_rfl
 rcases hk with rfl | rfl | rfl | hk
 .obtain ⟨j,b,e⟩:=Vh hb (by decide);exact ⟨j,b,Qj h hts (Ca (Hg (x_on (Ad rfl e))))⟩
 .obtain ⟨o,a⟩:=K8 (i:=0) hb (by decide) (by decide);obtain ⟨j,b,e⟩:=Vh hb (by decide);refine ⟨j,b,Qj h hts (By (w_st (w_on (Ad rfl (Ad a (x_gx ?_))))))⟩;exact Ca (Hg (x_on (Ad rfl e)))
 .obtain ⟨o,a⟩:=K8 (i:=0) hb (by decide) (by decide);obtain ⟨r,g⟩:=K8 (i:=1) hb (by decide) (by decide);obtain ⟨j,b,e⟩:=Vh hb (by decide);refine ⟨j,b,Qj h hts (By (w_st (w_on (Ad rfl (Ad a (x_gx ?_))))))⟩;refine By (w_st (w_on (Ad rfl (Ad g (x_gx ?_)))));exact Ca (Hg (x_on (Ad rfl e)))
 .obtain ⟨o,a⟩:=K8 (i:=0) hb (by ac_rfl) (by decide);obtain ⟨r,g⟩:=K8 (i:=1) hb (by ac_rfl) (by decide);obtain ⟨w,u⟩:=K8 (i:=2) hb (by ac_rfl) (by decide);obtain ⟨m,rfl⟩ : ∃m,k=3+m:=⟨k - 3,by ac_rfl⟩;have f:3+m<ts.length:=by
   cases e:ts[3+m]? with
   | none=>have:=hb.no e;ac_rfl
   | some t=>exact (Dd.mp e).1
  have v:=hts▸h.ws;refine ⟨2*(3+m)+1,by ac_rfl,Qj h hts (By (w_st (w_on (Ad rfl (Ad a (x_gx ?_))))))⟩;refine By (w_st (w_on (Ad rfl (Ad g (x_gx ?_)))));refine By (w_st (w_on (Ad rfl (Ad u (x_gx ?_)))));refine Ca (Hg (ZrM ?_));refine w_r2 ?_;symm;rw [Ah];refine Zy (by ac_rfl) ?_;refine ⟨by unfold CZ;rw [List.length_map,List.length_range];ac_rfl,?_⟩;rw [show ((ts.length:Int) - 3).toNat=m+((ts.length - 3 - m - 1)+1) by ac_rfl,ZmC];refine Zvc (λx s=>?_) ?_
  .obtain ⟨i,n,rfl⟩ : ∃i,i<m/\x=.int ((3+i:Nat):Int):=by
    obtain ⟨i,n,rfl⟩:=Bk.mp s;exact ⟨i,GJ.mp n,by congr 1⟩
   obtain ⟨t,c,q⟩:=hb.ok (3+i) (by ac_rfl);rw [show min (3+i) 3=3 by ac_rfl] at q;obtain ⟨d,p⟩:=ZF q;symm;exact Ad (K6 (by decide) c p) trivial
  .obtain ⟨t,c⟩ : ∃t,ts[3+m]?=some t:=⟨_,Bg f⟩;have q:=hb.ex t c;rw [show min (3+m) 3=3 by ac_rfl] at q;have:=Zj (by decide) c q;refine w_gN (x_on ?_);symm;exact this
end
def Zo0(lo)(n):CZ lo (n+1)=.int lo::CZ (lo+1) n:=by
 unfold CZ;rw [List.range_succ_eq_map,Bx,Ck];congr 1
 .simp
 .refine Nk λk _=>?_;show D.int (lo+((k+1:Nat):Int))=D.int (lo+1+(k:Int));congr 1;ac_rfl
def spX(t:List Nat):Option (List (List Int)):=(spsO t).bind λa=>if spsB a=true then some a else none
def rdO:Nat->List Nat->Option D
 | 0,t=>(flO t).map λa=>.lst (a.map .int)
 | 1,t=>(grO t).map frD
 | 2,t=>(spX t).map λb=>.lst (b.map tupI)
 | _,t=>thO t
def stB(k:Nat)(t:List Nat):Bool:=(rdO k t).isSome
def Vu(T:Tx t):∀k,Rd (rd (min k 3) [S t]) (rdO k t)
 | 0=>Zos T
 | 1=>ZmI T
 | 2=>ZoV T
 | n+3=>by rw [show min (n+3) 3=3 by ac_rfl];exact Zoe T
def V9(T:Tx t)(h:stB k t=true):∃d,rdO k t=some d/\rd (min k 3) [S t]=.ok d:=by
 have r:=Vu T k;unfold stB at h;cases e:rdO k t with
 | none=>rw [e] at h;cases h
 | some d=>rw [e] at r;exact ⟨d,rfl,r⟩
def Znv(T:Tx t)(h:stB k t=false):exB (rd (min k 3) [S t])=true:=by
 have r:=Vu T k;unfold stB at h;cases e:rdO k t with
 | none=>rw [e] at r;exact r
 | some d=>rw [e] at h;cases h
def UG{o:Option α}:(o.map f).isSome=o.isSome:=by cases o<;>rfl
def Zn0(T:Tx t)(q:U (.bl (stB k t))):Tl (Ol [.int k,S t]) U:=by
 obtain ⟨u,d,e⟩:=Mp 32 t;have g:∀w∈u::d,Tx w:=λw b=>T.sub (by rw [e];exact b);have h:=(g u Aw).a;have m:d.length<=901:=by have:=T.ws (c:=32);rw [e] at this;simp only [BP] at this;ac_rfl
 have f:cutL ((u::d).map S) (some 1) none=d.map S:=(Ul (by simp)).trans rfl;have first:∀{Ψ:Fl->Prop},Ψ (.nx [.im (.int k),.im (S t),.im (.lst ((u::d).map S)),.no])->Tl (st 2 (sD Bh (v 1) (c (.str " "))) (ev0 4 [.int k,S t])) Ψ:=λz=>by
  refine TY rfl T.n ?_;rw [e];exact z
 unfold Ol;refine w_fn (w_sq (first (w_gx ?_)))
 have hk:k=0\/k=1\/k=2\/3<=k:=by ac_rfl
 rcases hk with rfl | rfl | rfl | hk
 .have q:U (.bl (((flO t).map λj=>D.lst (j.map .int)).isSome)):=q;rw [UG,Zpd,Ro e] at q;symm;rw [Rh];refine JG h (Bb rfl) ?_;by_cases hh:u=fwL
  .rw [Aj hh];rw [iP hh] at q;symm;rw [f];refine ⟨by rw [Ah];ac_rfl,?_⟩;refine Dw (λw=>oI (numL w)) (λw b=>?_) ?_
   .have b:=g w (Av _ b);symm;exact Tz b.a b.n rfl
   refine w_gx (J8 ?_);exact ZoP (by symm; exact q)
  .rw [Al hh];rw [iN hh] at q;symm;exact q
 .have q:U (.bl (((grO t).map frD).isSome)):=q;rw [UG,ZnF,Ro e] at q;symm;rw [Qq];refine JG h (Bb rfl) ?_;by_cases hh:u=gwL
  .rw [Aj hh];rw [iP hh] at q;have q:U (.bl (decide (d.length=1)&&(Aq (d.getD 0 [])).isSome)):=q;symm;by_cases h1:d.length=1
   .obtain ⟨w,rfl⟩ : ∃w,d=[w]:=by
     match d,h1 with
     | [w],_=>exact ⟨w,rfl⟩
    have b:=g w (by simp);symm;refine Ml b.a (Ar b.l (by decide)) ?_;symm;rw [Ox];have q:U (.bl (Aq w).isSome):=q;cases hf:Aq w<;>rw [hf] at q<;>exact q
   .rw [Al h1,Fw] at q;refine w_dF (by simp;ac_rfl) ?_;symm;exact q
  .rw [Al hh];rw [iN hh] at q;symm;exact q
 .have q:U (.bl (((spX t).map λi=>D.lst (i.map tupI)).isSome)):=q;unfold spX at q;rw [UG,ZnS,Ro e] at q;symm;rw [TX];refine JG h (Bb rfl) ?_;by_cases hh:u=swL
  .rw [Aj hh];rw [iP hh] at q;symm;rw [f];refine ZlA (λw b=>g w (Av _ b)) (by ac_rfl) ?_;symm;exact q
  .rw [Al hh];rw [iN hh] at q;symm;exact q
 .have q:U (.bl (thO t).isSome):=by
   match k,hk with
   | n+3,_=>exact q
  symm;refine Zla T ?_;symm;exact q
def badR(rows:List (List Nat))(j:Nat):Bool:=match rows[j]? with
 | some t=>!stB j t
 | none=>true
def dueF(rows:List (List Nat)):Nat->Nat->Option Nat
 | _,0=>none
 | j,m+1=>if badR rows j=true then some j else dueF rows (j+1) m
def dueE(a0:Cl)(rows:List (List Nat))(f:Fl):Option Nat->Prop
 | some k=>f=.rt (.int k)
 | none=>∃z,f=.nx [a0,.im (.lst (rows.map S)),z]
def Zd{rows:List (List Nat)}(hr:∀t∈rows,Tx t):∀(m j:Nat) (v2:Cl),Tl (CP (gN 2) (ifs (bOr (trb (o2 dGe (v 2) (on bLen (Aa (v 1) Ab)))) (bNot (trb (on Ol (Aa (v 2) (Aa (o2 dIx (v 1) (v 2)) Ab)))))) (Dl.ret (v 2)) nop) (CZ (j:Int) m) [a0,.im (.lst (rows.map S)),v2]) λf=>dueE a0 rows f (dueF rows j m)
 | 0,j,v2=>w_f0 ⟨v2,rfl⟩
 | m+1,j,v2=>by
  rw [Zo0];refine w_f1 (Ad (x:=[a0,.im (.lst (rows.map S)),.im (.int j)]) rfl ?_);have a:∀b,badR rows j=b->dueF rows j (m+1)=if b=true then some j else dueF rows (j+1) m:=λb h=>by rw [<-h];rfl
  cases e:rows[j]? with
  | none=>
   rw [a true (by unfold badR;rw [e]),iP rfl];symm;refine w_dT (by rw [Ah];have:=S9.mp e;ac_rfl) ?_;symm;rfl
  | some t=>
   have c:=(Dd.mp e).1;symm;refine w_dF (by rw [Ah];ac_rfl) ?_;symm;refine Ad (Yl e) ?_;symm;refine Zn0 (hr t (Ef e)) ?_;cases hs:stB j t with
   | false=>
    rw [a true (by unfold badR;rw [e];show (!stB j t)=true;rw [hs];rfl),iP rfl];symm;rfl
   | true=>
    rw [a false (by unfold badR;rw [e];show (!stB j t)=false;rw [hs];rfl),iN Bool.false_ne_true];symm;exact Zd hr m (j+1) _
def ZwL(T:Tx l) (q:U (match dueF (Ae 10 l) 0 (max 3 (Ae 10 l).length) with
  | some k=>.int k
  | none=>.non)):Tl (S8 [S l]) U:=by
 have d:=T.ws (c:=10);refine w_fn (w_sq (w_st (w_sD (Ad rfl ⟨_,rfl,?_⟩))));symm;rw [litN];refine HY T.n (w_gx ?_);symm;rw [show max (3:Int) ((((Ae 10 l).map λl=>D.str (mkS l)).length:Nat):Int)=((max 3 (Ae 10 l).length:Nat):Int) by rw [Ah];ac_rfl];refine XM (by ac_rfl) ?_;refine Tl.mono (Zd (λt b=>T.sub b) (max 3 (Ae 10 l).length) 0 .no) λf a=>?_;cases e:dueF (Ae 10 l) 0 (max 3 (Ae 10 l).length) with
 | none=>
  rw [e] at a q;obtain ⟨z,rfl⟩:=a;symm;exact q
 | some k=>
  rw [e] at a q;have a:=a;subst a;symm;exact q
def Zjv:∀{m j k:Nat},dueF rows j m=some k->j<=k/\k<j+m/\badR rows k=true/\∀i,j<=i->i<k->badR rows i=false
 | 0,j,k,h=>by cases h
 | m+1,j,k,h=>by
  unfold dueF at h;cases hb:badR rows j with
  | true=>
   rw [hb,iP rfl] at h;cases h;exact ⟨Ao _,by ac_rfl,hb,λi c a=>aB a (by ac_rfl)⟩
  | false=>
   rw [hb,iN Cj] at h;obtain ⟨c,a,b,d⟩:=Zjv h;refine ⟨by ac_rfl,by ac_rfl,b,λi f e=>?_⟩;by_cases hij:i=j
   .rw [hij];exact hb
   .exact d i (by ac_rfl) e
def Zj3:∀{m j:Nat},dueF rows j m=none->∀i,j<=i->i<j+m->badR rows i=false
 | 0,j,h=>λi c a=>aB a (by ac_rfl)
 | m+1,j,h=>by
  unfold dueF at h;cases hb:badR rows j with
  | true=>rw [hb,iP rfl] at h;cases h
  | false=>
   rw [hb,iN Cj] at h;intro i b d;by_cases hij:i=j
   .rw [hij];exact hb
   .exact Zj3 h i (by ac_rfl) (by ac_rfl)
def ZX(h:badR rows i=false):∃t,rows[i]?=some t/\stB i t=true:=by
 unfold badR at h;cases e:rows[i]? with
 | none=>rw [e] at h;cases h
 | some t=>
  rw [e] at h;refine ⟨t,rfl,?_⟩;have h:(!stB i t)=false:=h;cases hs:stB i t with
  | true=>rfl
  | false=>rw [hs] at h;cases h
def Zrb(T:Tx l)(h:dueF (Ae 10 l) 0 (max 3 (Ae 10 l).length)=some k):RK (Ae 10 l) k:=by
 obtain ⟨_,m,a,j⟩:=Zjv h;refine ⟨λi f=>?_,λt b=>?_,λg=>?_⟩
 .obtain ⟨t,b,c⟩:=ZX (j i (DX _) f);obtain ⟨d,_,e⟩:=V9 (T.sub (Ef b)) c;exact ⟨t,b,by rw [e];rfl⟩
 .unfold badR at a;rw [b] at a;refine Znv (T.sub (Ef b)) ?_;have a:(!stB k t)=true:=a;cases c:stB k t with
  | false=>rfl
  | true=>rw [c] at a;cases a
 .have:=S9.mp g;ac_rfl
def fT(q:Rat):List Nat:=if q.den=1 then tI q.num else tI q.num++47::tI (q.den:Int)
structure B30(q:Rat):Prop where
 n:q.num.natAbs<10^30
 d:q.den<10^30
def ZpA(h:B30 q):(fT q).length<=63:=by
 have b:=J7 (by decide) h.n;have a:=J7 (k:=30) (by decide) (by rw [JF];exact h.d);unfold fT;split
 .ac_rfl
 .rw [Bm,BP];ac_rfl
def Zkj(h:B30 q)(k:U (.str (mkS (fT q)))):Tl (G9 [frD q]) U:=by
 have c:=J7 (by decide) h.n;have b:=J7 (k:=30) (by decide) (by rw [JF];exact h.d);unfold G9 frD;symm;refine Cg (λa=>?_) (λa=>?_)
 .symm;refine M9 (Fj h.n (by decide)) ?_;symm;have e:fT q=tI q.num:=by unfold fT;rw [iP (by ac_rfl)]
  rw [<-e];exact k
 .symm;refine M9 (Fj h.n (by decide)) ?_;symm;rw [litS];refine Jt (by simp;ac_rfl) ?_;symm;refine M9 (by rw [JF];exact Fj h.d (by decide)) ?_;refine Jt (by simp;ac_rfl) ?_;symm;have e:fT q=tI q.num++[47]++tI (q.den:Int):=by unfold fT;rw [iN (by ac_rfl)];simp
  rw [<-e];exact k
def Pa(h:numL l=some n):n.natAbs<10^30:=by
 unfold numL at h;split at h
 .next b=>
  obtain ⟨m,e,a,_⟩:=T4 b.1;rw [e] at h;injection h with h
  subst h;exact a
 .cases h
def Mh(h:Aq l=some q):B30 q:=by
 unfold Aq at h;split at h
 .cases e:numL l with
  | none=>rw [e] at h;cases h
  | some n=>
   rw [e] at h;injection h with h
   subst h;exact ⟨Pa e,by show 1<10^30;decide⟩
 .next a b _=>
  cases e1:numL a with
  | none=>rw [e1] at h;cases h
  | some n=>
   cases e2:numL b with
   | none=>rw [e1,e2] at h;cases h
   | some d=>
    rw [e1,e2] at h;change mkQ n d=some q at h;unfold mkQ at h;split at h
    .injection h with h
     subst h;exact ⟨Pa e1,Pa e2⟩
    .cases h
def ZQ:∀c,48<=c->c<=57->D10 (c - 48)=[c]:=by
 intro c b a;have:∀k:Fin 10,D10 (k:Nat)=[(k:Nat)+48]:=by decide +kernel
 have e:=this ⟨c - 48,by ac_rfl⟩;rw [show c - 48+48=c by ac_rfl] at e;exact e
def Tc:∀n f,f.length=n->f≠[]->(f.take 1=[48]->f=[48])->f.all digB=true->D10 (digV f)=f
 | 0,f,hl,hn,_,_=>aB (NK.mp hl) hn
 | n+1,f,hl,hn,hz,hd=>by
  obtain ⟨g,c,rfl⟩ : ∃g c,f=g++[c]:=⟨f.dropLast,f.getLast hn,(List.dropLast_concat_getLast hn).symm⟩;rw [List.all_append,Bo] at hd;have a:digB c=true:=by simpa using hd.2
  unfold digB at a;rw [Bo,CQ,CQ] at a;have i:digV (g++[c])=digV g*10+(c - 48):=by unfold digV;rw [List.foldl_append];rfl
  rw [i];cases hg:g with
  | nil=>
   show D10 (0*10+(c - 48))=[c];rw [Nat.zero_mul,Nat.zero_add];exact ZQ c a.1 a.2
  | cons x r=>
   rw [<-hg];have h:g≠[]:=by rw [hg];simp
   have b:g.take 1≠[48]:=λz=>by
    have:(g++[c]).take 1=[48]:=by rw [hg] at z ⊢;exact z
    have:=Bl List.length (hz this);rw [hg] at this;simp at this
   have ih:=Tc n g (by rw [Bm] at hl;simpa using hl) h (λz=>aB z b) hd.1;have d:1<=digV g:=by
    cases e:digV g with
    | zero=>
     rw [e] at ih;exact aB (by rw [<-ih];decide +kernel) b
    | succ k=>ac_rfl
   rw [Zoc (by ac_rfl),show (digV g*10+(c - 48))/10=digV g by ac_rfl,show (digV g*10+(c - 48))%10=c - 48 by ac_rfl,ih,ZQ c a.1 a.2]
def J5(h:numL l=some n):tI n=l:=by
 unfold numL at h;split at h
 .next c=>
  obtain ⟨d,i,f,b⟩:=Qz c.1;cases l with
  | nil=>cases h
  | cons x r=>
   have h:(if x=45 then (figL r).map (λn:Nat=>-(n:Int)) else (figL (x::r)).map λn:Nat=>(n:Int))=some n:=h
   by_cases hx:x=45
   .subst hx;have g:figs (45::r)=r:=rfl;rw [g] at d i f b;rw [iP rfl] at h;unfold figL at h;rw [iP ⟨d,b⟩] at h;have h:-(digV r:Int)=n:=Be h;have a:=Tc r.length r rfl d f b;have j:1<=digV r:=by
     cases e:digV r with
     | zero=>
      rw [e] at a;exact aB (by rw [<-a];decide +kernel) c.2
     | succ k=>ac_rfl
    unfold tI;rw [<-h,iP (by ac_rfl),Int.natAbs_neg,JF,a]
   .have g:figs (x::r)=x::r:=by
     unfold figs;rw [iN];intro z;exact hx (by simpa using z)
    rw [g] at d i f b;rw [iN hx] at h;unfold figL at h;rw [iP ⟨d,b⟩] at h;have h:(digV (x::r):Int)=n:=Be h;unfold tI;rw [<-h,iN (by ac_rfl),JF,Tc (x::r).length (x::r) rfl d f b]
 .cases h
def NP(h:Aq l=some q):fT q=l:=by
 unfold Aq at h;cases e:CW 47 l with
 | none=>
  rw [e] at h;have h:=h;cases en:numL l with
  | none=>rw [en] at h;cases h
  | some n=>
   rw [en] at h;cases h;unfold fT;rw [iP rfl];exact J5 en
 | some p=>
  obtain ⟨a,b⟩:=p;rw [e] at h;have h:Y7 (numL a) (numL b)=some q:=h;obtain ⟨g,_⟩:=Hc e;cases ea:numL a with
  | none=>rw [ea] at h;cases h
  | some n=>
   cases eb:numL b with
   | none=>rw [ea,eb] at h;cases h
   | some d=>
    rw [ea,eb] at h;have h:mkQ n d=some q:=h;unfold mkQ at h;split at h
    .next c=>
     cases h;unfold fT;have f:((d.natAbs:Nat):Int)=d:=by ac_rfl
     rw [iN (show ¬d.natAbs=1 by ac_rfl)];rw [f,J5 ea,J5 eb,g]
    .cases h
def Jb{F:List Nat->Option β}(hb:∀w x,F w=some x->G x=w):∀{ws:List (List Nat)} {xs:List β},allO F ws=some xs->xs.map G=ws
 | [],xs,h=>by cases h;rfl
 | w::r,xs,h=>by
  unfold allO at h;cases hf:F w with
  | none=>rw [hf] at h;cases h
  | some x=>
   rw [hf,Ba] at h;cases hr:allO F r with
   | none=>rw [hr] at h;cases h
   | some ys=>
    rw [hr] at h;cases h;rw [Bx,hb w x hf,Jb hb hr]
def N30(ns:List Int):Prop:=∀n∈ns,n.natAbs<10^30
def Vg(h:allO numL ws=some ns):N30 ns:=Iw h λ_ _ _ a=>Pa a
def Ij(hs:str=mkS s)(h:Tl (a Z) λx=>x=.lst (ws.map S))(hl:totL s.length ws<=1000000)(q:U (S (Ak s ws))):Tl (sD Ep (c (.str str)) a Z) U:=by
 subst hs;exact w_sD (Ad rfl ⟨_,rfl,h.mono λx e=>by rw [e];exact Wa hl q⟩)
def Gx(h:∀w∈ws,w.length<=b):totL s ws<=ws.length*(b+s):=by
 unfold totL
 induction ws with
 | nil=>simp
 | cons w r ih=>
  have d:=h w Aw;have c:=ih λu a=>h u (Av _ a);rw [Bx,List.sum_cons,BP,Nat.add_mul,Nat.add_mul];ac_rfl
def Hq(h:n.natAbs<10^30):(tI n).length<=31:=J7 (k:=30) (by decide) h
def Zob(h:N30 ns){Ψ:List D->Prop}(q:Ψ ((ns.map tI).map S)):Tl (BR (gN 0) yes (on Ew (Aa (v 0) Ab)) (.no::Z) (ns.map .int)) Ψ:=by
 refine Dw (λn=>S (tI n)) (λn a=>?_) (by rw [Ck] at q;exact q);symm;exact M9 (Fj (h n a) (by decide)) rfl
def ZqS(h:4<=ns.length)(hl:ns.length<=1000):PJ [coD ns]=.ok (.lst (ns.map .int)):=by
 obtain ⟨x,y,w,z,a,rfl⟩:=Tp h;refine BJ ?_;unfold PJ coD;symm;refine Jd ?_ ?_
 .show 4+(a.map D.int).length<=1000000;rw [Ah];simp only [BP] at hl;ac_rfl
 .symm;rfl
def Zoh(h4:4<=ns.length)(hl:ns.length<=1000)(h:N30 ns):RJ [coD ns]=.ok (S (Ak [32] ([47]::ns.map tI))):=by
 refine BJ ?_;unfold RJ;refine w_fn (J8 (Ij (ws:=[47]::ns.map tI) litB ?_ ?_ ?_))
 .symm;refine Ad (ZqS h4 hl) ?_;symm;refine ⟨by rw [Ah];ac_rfl,Zob h ?_⟩;rw [litS];exact Jd (by simp;ac_rfl) rfl
 .refine Ar (Gx (b:=31) λw hw=>?_) (by simp;ac_rfl);rcases An.mp hw with rfl | hw
  .decide
  .obtain ⟨n,a,rfl⟩:=Bk.mp hw;exact Hq (h n a)
 .symm
def kdT:Th->List (List Nat)
 | .pl q=>[plW,fT q]
 | .sh=>[shW]
 | .pt p=>[paW,Ak [59] (p.map λr=>Ak [44] (r.map fT))]
 | .gl q r=>[gsW,fT q,fT r]
structure ThOk(k:Th):Prop where
 pl:∀q,k=.pl q->B30 q
 pt:∀p,k=.pt p->(∀r∈p,∀q∈r,B30 q)/\p.length<=1000/\∀r∈p,r.length<=1000
 gl:∀q r,k=.gl q r->B30 q/\B30 r
def fw(h:B30 q):G9 [frD q]=.ok (S (fT q)):=BJ (Zkj h rfl)
def Znw(h:∀r∈p,∀q∈r,B30 q)(hl:p.length<=1000)(hr:∀r∈p,r.length<=1000)(tot:(Ak [59] (p.map λr=>Ak [44] (r.map fT))).length<=900)(htot:totL 1 (p.map λr=>Ak [44] (r.map fT))<=1000000):Qk [picD p]=.ok (S (Ak [59] (p.map λr=>Ak [44] (r.map fT)))):=by
 refine BJ ?_;unfold Qk;refine w_fn (J8 (Ij T8 ?_ htot ?_))
 .unfold picD;symm;refine ⟨by rw [Ah];ac_rfl,?_⟩;refine Dw (λr=>S (Ak [44] (r.map fT))) (λr a=>?_) (by rw [Ck];rfl);have d:=hr r a;refine w_gN (Ij litC ?_ ?_ rfl)
  .unfold rowD;symm;refine ⟨by rw [Ah];ac_rfl,?_⟩;refine Dw (λq=>S (fT q)) (λq c=>?_) (by rw [Ck];rfl);symm;exact Ad (fw (h r a q c)) rfl
  .refine Ar (Gx (b:=63) λw e=>?_) (by rw [Ah];simp only [BP,Fo];ac_rfl);obtain ⟨q,c,rfl⟩:=Bk.mp e;exact ZpA (h r a q c)
 .symm
def ZnN{k:Th}(h:ThOk k)(ht:∀p,k=.pt p->(Ak [59] (p.map λr=>Ak [44] (r.map fT))).length<=900/\totL 1 (p.map λr=>Ak [44] (r.map fT))<=1000000):QS [thD cs k]=.ok (.lst ((kdT k).map S)):=by
 refine BJ ?_;unfold QS;cases k with
 | pl q=>
  refine w_fn (w_sq (w_st (Ad (x:=.str "plain") (by kernel_rfl) (w_gx ?_))));symm;rw [K4];refine Dp (Bb rfl) (Bb rfl) ?_;rw [Aj rfl];symm;refine Ad rfl ?_;symm;refine Ad (fw (h.pl q rfl)) ?_;symm;rfl
 | sh=>
  refine w_fn (w_sq (w_st (Ad (x:=.str "shaded") (by kernel_rfl) (w_gx ?_))));symm;rw [K4,TJ];refine Dp (Bb rfl) (Bb rfl) ?_;rw [Al (by decide)];symm;rw [N7];refine Dp (Bb rfl) (Bb rfl) ?_;rw [Al (by decide)];symm;rw [QM];refine Dp (Bb rfl) (Bb rfl) ?_;rw [Al (by decide)];symm;rfl
 | pt p=>
  obtain ⟨b,a,c⟩:=h.pt p rfl;obtain ⟨e,d⟩:=ht p rfl;refine w_fn (w_sq (w_st (Ad (x:=.str "patterned") (by kernel_rfl) (w_gx ?_))));symm;rw [K4,N7];refine Dp (Bb rfl) (Bb rfl) ?_;rw [Al (by decide)];symm;refine Dp (Bb rfl) (Bb rfl) ?_;rw [Aj rfl];symm;refine Ad rfl ?_;symm;refine Ad (Znw b a c e d) ?_;symm;rfl
 | gl q r=>
  obtain ⟨b,a⟩:=h.gl q r rfl;refine w_fn (w_sq (w_st (Ad (x:=.str "glass") (by kernel_rfl) (w_gx ?_))));symm;rw [K4,QM];refine Dp (Bb rfl) (Bb rfl) ?_;rw [Al (by decide)];symm;rw [N7];refine Dp (Bb rfl) (Bb rfl) ?_;rw [Al (by decide)];symm;refine Dp (Bb rfl) (Bb rfl) ?_;rw [Aj rfl];symm;refine Ad rfl ?_;symm;refine Ad (fw b) ?_;symm;refine Ad rfl ?_;symm;refine Ad (fw a) ?_;symm;rfl
def R8:∀{ws:List (List Nat)},(Ak s ws).length<=totL s.length ws
 | []=>by simp [Ak,totL]
 | [w]=>by simp [Ak,totL]
 | w::x::r=>by
  have ih:=R8 (s:=s) (ws:=x::r);show (w++s++Ak s (x::r)).length<=_;rw [Bm,Bm];unfold totL at ih ⊢;rw [Bx,List.sum_cons,BP,Nat.add_mul];ac_rfl
def cT(ns:List Int):List Nat:=Ak [32] ([47]::ns.map tI)
def Zrm{k:Th}(hw:∀w∈h,Tx w)(e:hdO h n=some k):kdT k=h/\ThOk k/\∀p,k=.pt p->(Ak [59] (p.map λr=>Ak [44] (r.map fT))).length<=900/\totL 1 (p.map λr=>Ak [44] (r.map fT))<=1000000:=by
 unfold hdO at e;split at e
 .next c=>
  obtain ⟨a,b,rfl⟩:=Gk c.2;have i:a=plW:=by have:=c.1;simpa using this
  have e:(Aq b).map Th.pl=some k:=e;cases hf:Aq b with
  | none=>rw [hf] at e;cases e
  | some q=>
   rw [hf] at e;cases e;refine ⟨by rw [i];show [plW,fT q]=_;rw [NP hf],⟨(λ_ z=>by cases z;exact Mh hf),(λ_ z=>by cases z),(λ_ _ z=>by cases z)⟩,(λ_ z=>by cases z)⟩
 split at e
 .next c=>
  split at e
  .cases e;exact ⟨c.symm,⟨(λ_ z=>by cases z),(λ_ z=>by cases z),(λ_ _ z=>by cases z)⟩,(λ_ z=>by cases z)⟩
  .cases e
 split at e
 .next c=>
  obtain ⟨a,b,rfl⟩:=Gk c.2;have i:a=paW:=by have:=c.1;simpa using this
  have j:=hw b (by simp);have e:((ptO b).bind λp=>if 2<=n/\patB p=true then some (Th.pt p) else none)=some k:=e
  cases hp:ptO b with
  | none=>rw [hp] at e;cases e
  | some p=>
   rw [hp,Ba] at e;split at e
   .cases e;have o:=Wi j hp;unfold ptO at hp;have s:∀w r,allO Aq (Ae 44 w)=some r->Ak [44] (r.map fT)=w:=λw r t=>by
     rw [Jb (λ_ _ z=>NP z) t,Hu]
    have f:=Jb s hp;have g:Ak [59] (p.map λr=>Ak [44] (r.map fT))=b:=by rw [f,Hu]
    refine ⟨by rw [i];show [paW,_]=_;rw [g],⟨(λ_ z=>by cases z),(λ_ z=>by
     cases z
     exact ⟨Iw hp λr _ x v=>Iw v λ_ _ _ u=>Mh u,o⟩),(λ_ _ z=>by cases z)⟩,λ_ z=>?_⟩
    cases z;rw [g,f];refine ⟨j.l,Ar (Gx λw m=>(j.sub m).l) ?_⟩;have:=j.ws (c:=59);ac_rfl
   .cases e
 split at e
 .next c=>
  obtain ⟨a,b,d,rfl⟩:=K9 c.2;have i:a=gsW:=by have:=c.1;simpa using this
  have e:((Aq b).bind λq=>(Aq d).bind λr=>if Fq r=true then some (Th.gl q r) else none)=some k:=e
  cases hf:Aq b with
  | none=>rw [hf] at e;cases e
  | some q=>
   cases hg:Aq d with
   | none=>rw [hf,hg] at e;cases e
   | some r=>
    rw [hf,hg,Ba,Ba] at e;split at e
    .cases e;exact ⟨by rw [i];show [gsW,fT q,fT r]=_;rw [NP hf,NP hg],⟨(λ_ z=>by cases z),(λ_ z=>by cases z),(λ_ _ z=>by cases z;exact ⟨Mh hf,Mh hg⟩)⟩,(λ_ z=>by cases z)⟩
    .cases e
 .cases e
def ZZ:∀{gs:List (List (List Nat))} {ws:List (List Nat)},ws≠[]->(∀g∈gs,g≠[])->Ak [32] (ws++gs.map (Ak [32]))=Ak [32] (ws++gs.flatten)
 | [],ws,_,_=>rfl
 | g::r,ws,hw,hg=>by
  have a:=hg g Aw;have ih:=ZZ (ws:=ws++g) (by simp [hw]) λx b=>hg x (Av _ b);rw [List.flatten_cons,<-Ia,<-ih,Bx];cases hr:r.map (Ak [32]) with
  | nil=>rw [Cq,Hr [32] hw (by simp),Hr [32] hw a];rfl
  | cons y ys=>rw [Hr [32] hw (by simp),Hr [32] (by simp [hw]) (by simp),Hr [32] hw a,show (Ak [32] g::y::ys)=[Ak [32] g]++y::ys from rfl,Hr [32] (by simp) (by simp)];simp [Ak]
def Zr9{k:Th}(hk:ThOk k)(ht:∀p,k=.pt p->(Ak [59] (p.map λr=>Ak [44] (r.map fT))).length<=900/\totL 1 (p.map λr=>Ak [44] (r.map fT))<=1000000)(hw:∀w∈kdT k,w.length<=900)(hl:(kdT k).length<=3)(hc:cs.length=3)(h4:∀ns∈cs,4<=ns.length/\ns.length<=1000/\N30 ns):Oi [thD cs k]=.ok (S (Ak [32] (kdT k++cs.map cT))):=by
 refine BJ ?_;unfold Oi;refine w_fn (J8 (Ij (ws:=kdT k++cs.map cT) litB ?_ ?_ ?_))
 .refine w_o2 (w_on (DR (w_v rfl (Fv (Ad (ZnN hk ht) ?_)))));refine Lw (w_iv (w_o1 (w_v rfl (Ad (x:=triD cs) (by cases k<;>kernel_rfl) (Ad rfl ⟨by rw [Ah];ac_rfl,?_⟩)))));refine Dw (λns=>S (cT ns)) (λns a=>?_) ?_
  .have:=h4 ns a;symm;exact Ad (Zoh this.1 this.2.1 this.2.2) rfl
  .refine Jd (by rw [Ah,Ah];ac_rfl) ?_;rw [GD,Ck];rfl
 .refine Ar (Gx (b:=40000) λw hw'=>?_) (by rw [Bm,Ah];simp only [BP,Fo];ac_rfl);rcases Dv.mp hw' with hw' | hw'
  .exact Ar (hw w hw') (by decide)
  .obtain ⟨ns,a,rfl⟩:=Bk.mp hw';have:=h4 ns a;refine Ar R8 (Ar (Gx (b:=31) λw hw=>?_) (by simp only [BP,Ah,Fo];ac_rfl));rcases An.mp hw with rfl | hw
   .decide
   .obtain ⟨n,a,rfl⟩:=Bk.mp hw;exact Hq (this.2.2 n a)
 .symm
def Zq3(T:Tx t)(h:thO t=some d):Oi [d]=.ok (S t):=by
 unfold thO at h;split at h
 .next H=>
  obtain ⟨g,a,b,c,e⟩:=Qu H;rw [e] at h;have h:((allO coO [a,b,c]).bind λp=>thX p g)=some d:=h;cases ec:allO coO [a,b,c] with
  | none=>rw [ec] at h;cases h
  | some p=>
   rw [ec,Ba] at h;unfold thX at h;split at h
   .cases ek:hdO g (nv p) with
    | none=>rw [ek] at h;cases h
    | some k=>
     rw [ek] at h;have h:=Be h;have j:∀x∈[g,a,b,c],(∀w∈x,Tx w)/\x.length<=901:=λx I=>by
      obtain ⟨B,G⟩:=Ni (by rw [e];exact I);exact ⟨λw o=>T.sub (B w o).1,Ar G T.ws⟩
     obtain ⟨q,F,D⟩:=Zrm (j g (by simp)).1 ek;have s:p.map (λi:List Int=>i.map tI)=[a,b,c]:=by
      have:∀n v,allO coO n=some v->v.map (λi:List Int=>i.map tI)=n:=by
       intro n
       induction n with
       | nil=>intro v h;cases h;rfl
       | cons w r ih=>
        intro v h;unfold allO at h;cases hf:coO w with
        | none=>rw [hf] at h;cases h
        | some x=>
         rw [hf,Ba] at h;cases hr:allO coO r with
         | none=>rw [hr] at h;cases h
         | some ys=>
          rw [hr] at h;cases h;rw [Bx,ih ys hr];unfold coO at hf;split at hf
          .cases hf
          .rw [Jb (λ_ _ z=>J5 z) hf]
      exact this _ _ ec
     have m:∀i∈p,4<=i.length/\i.length<=1000/\N30 i:=Iw ec λn A i u=>by
      have f:=J0 u;have l:=(j n (Av _ A)).2;refine ⟨f.2,by ac_rfl,?_⟩;unfold coO at u;split at u
      .cases u
      .exact Vg u
     have E:g.length<=3:=by rw [<-q];cases k<;>simp [kdT]
     have C:g≠[]:=by rw [<-q];cases k<;>simp [kdT]
     rw [<-h,Zr9 F D (λw o=>by rw [q] at o;exact ((j g (by simp)).1 w o).l) (by rw [q];exact E) (Dm ec) m,q];have y:p.map cT=([a,b,c].map λx=>[47]::x).map (Ak [32]):=by
      rw [<-s,Ck,Ck];rfl
     rw [y,ZZ C (by simp)];have o:Ae 32 t=g++[47]::(a++[47]::(b++[47]::c)):=by
      have:=VJ (Ae 32 t);rw [e] at this;exact this.symm
     have:=Hu 32 t;rw [o] at this;rw [<-this];simp
   .cases h
 .cases h
def ZtH(f:α->β)(d:α)(l:List α):l.map f=(List.range l.length).map λk=>f (l.getD k d):=by
 apply List.ext_getElem?;intro i;by_cases h:i<l.length
 .simp [h]
 .simp [h]
def WL(e:wb h t=some ws):Ae 32 t=h::ws:=by
 obtain ⟨u,c,a⟩:=Mp 32 t;rw [Ro a] at e;split at e
 .next b=>cases e;rw [a,b]
 .cases e
def Zm0(e:jw h t n=some ws):Ak [32] (h::ws)=t:=by
 unfold jw at e;cases ew:wb h t with
 | none=>rw [ew] at e;cases e
 | some us=>
  rw [ew,Ba] at e;split at e
  .cases e;rw [<-WL ew,Hu]
  .cases e
def Zsa(h:flO t=some ns):∃a b,ns=[a,b]/\(a.natAbs<10^30/\b.natAbs<10^30)/\Ak [32] [fwL,tI a,tI b]=t:=by
 unfold flO at h;cases ej:jw fwL t 2 with
 | none=>rw [ej] at h;cases h
 | some ws=>
  rw [ej,Ba] at h;cases en:allO numL ws with
  | none=>rw [en] at h;cases h
  | some ms=>
   rw [en,Ba] at h;split at h
   .cases h;obtain ⟨a,b,rfl⟩:=Gk (by rw [Dm en,M6 ej]);have c:=Vg en;refine ⟨a,b,rfl,⟨c a (by simp),c b (by simp)⟩,?_⟩;have:=Jb (λ_ _ z=>J5 z) en;rw [<-Zm0 ej,<-this];rfl
   .cases h
def Zrl(h:grO t=some q):B30 q/\Ak [32] [gwL,fT q]=t:=by
 unfold grO at h;cases ej:jw gwL t 1 with
 | none=>rw [ej] at h;cases h
 | some ws=>
  rw [ej,Ba] at h;obtain ⟨w,rfl⟩ : ∃w,ws=[w]:=by
   match ws,M6 ej with
   | [w],_=>exact ⟨w,rfl⟩
  have h:=h;exact ⟨Mh h,by rw [NP h];exact Zm0 ej⟩
def J1(k:List Int):List Nat:=Ak [44] (k.map tI)
def Zq2(h:spX t=some ks):Ak [32] (swL::ks.map J1)=t/\ks.length<=16/\∀k∈ks,k.length=2/\N30 k:=by
 unfold spX spsO at h;cases ew:wb swL t with
 | none=>rw [ew] at h;cases h
 | some ws=>
  rw [ew,Ba] at h;cases ea:allO spO ws with
  | none=>rw [ea] at h;cases h
  | some js=>
   rw [ea,Ba] at h;split at h
   .next a=>
    cases h;unfold spsB at a;rw [Bo,Bo,Bo,CQ,Ey] at a;refine ⟨?_,MK a.2.1,λk b=>⟨?_,Iw ea (λw _ x c=>Vg c) k b⟩⟩
    .rw [Jb (λw k z=>by
      unfold J1
      rw [Jb (λ_ _ y=>J5 y) (z),Hu]) ea,<-WL ew,Hu]
    .have:=a.2.2.1 k b;unfold okS at this;rw [Bo,CQ] at this;exact this.1
   .cases h
def nw(h:n.natAbs<10^30):Ew [.int n]=.ok (S (tI n)):=BJ (M9 (Fj h (by decide)) rfl)
def ZlJ{k:List Int}(h2:k.length=2)(h:N30 k):Nz [tupI k]=.ok (S (J1 k)):=by
 obtain ⟨a,b,rfl⟩:=Gk h2;have c:=h a (by simp);have d:=h b (by simp);refine BJ ?_;unfold Nz tupI;symm;refine Ad (nw c) ?_;symm;rw [litC];refine Jt (by have:=Hq c;simp only [BP,Fo];ac_rfl) ?_;symm;refine Ad (nw d) ?_;refine Jt (by have:=Hq c;have:=Hq d;simp only [Bm,BP,Fo];ac_rfl) ?_;symm;rfl
def Znz{k:List Int}(h2:k.length=2)(h:N30 k):(J1 k).length<=63:=by
 obtain ⟨a,b,rfl⟩:=Gk h2;have:=Hq (h a (by simp));have:=Hq (h b (by simp));show (tI a++[44]++tI b).length<=63;simp only [Bm,BP,Fo];ac_rfl
def td(t:List Nat):D:=(thO t).getD .non
def ZrX{t:MB}(h:Tl (it Z) λxs=>xs.length<=1000000/\Tl (BR g t e (noA own (Bu Z cap)) xs) λys=>U (.lst ys)):Tl (Cr it own cap g t e Z) U:=by
 obtain ⟨xs,c,a,ys,b,q⟩:=h;refine Ad ?_ q;unfold Cr;rw [c];show (if xs.length<=LIM then (BR g t e (noA own (Bu Z cap)) xs).bind (λys=>Res.ok (D.lst ys)) else .bad)=_
 rw [iP (show xs.length<=LIM from a),b];rfl
def Znq(T:Tx l)(h:dueF (Ae 10 l) 0 (max 3 (Ae 10 l).length)=none):∃d,Kq [S l]=.ok d/\O7 [d]=.ok (S l):=by
 have I:=Zj3 h;obtain ⟨f,m⟩ : ∃f,Ae 10 l=f:=⟨_,rfl⟩;rw [m] at I;have hl:=m▸T.ws;have u:∀i,i<max 3 f.length->∃t d,f[i]?=some t/\Tx t/\rdO i t=some d/\rd (min i 3) [S t]=.ok d:=λi hi=>by
  obtain ⟨t,s,hs⟩:=ZX (I i (DX _) (by ac_rfl));have B:=T.sub (by rw [m];exact Ef s);obtain ⟨d,Q,N⟩:=V9 B hs;exact ⟨t,d,s,B,Q,N⟩
 obtain ⟨E,Y,X,T0,H,s0⟩:=u 0 (by ac_rfl);obtain ⟨C,V,Q,T1,F,s1⟩:=u 1 (by ac_rfl);obtain ⟨A,W,N,T2,G,s2⟩:=u 2 (by ac_rfl);have n3:=(Dd.mp N).1;obtain ⟨a,b,J,P,bf⟩ : ∃a b,Y=.lst [.int a,.int b]/\(a.natAbs<10^30/\b.natAbs<10^30)/\Ak [32] [fwL,tI a,tI b]=E:=by
  have H:(flO E).map (λns=>D.lst (ns.map .int))=some Y:=H;cases J:flO E with
  | none=>rw [J] at H;cases H
  | some ns=>
   rw [J] at H;obtain ⟨a,b,rfl,R,U⟩:=Zsa J;exact ⟨a,b,(Be H).symm,R,U⟩
 obtain ⟨q,K,Z,bg⟩ : ∃q,V=frD q/\B30 q/\Ak [32] [gwL,fT q]=C:=by
  have F:(grO C).map frD=some V:=F;cases K:grO C with
  | none=>rw [K] at F;cases F
  | some q=>
   rw [K] at F;exact ⟨q,(Be F).symm,Zrl K⟩
 obtain ⟨j,L,bs,kl,O⟩ : ∃j:List (List Int),W=.lst (j.map tupI)/\Ak [32] (swL::j.map J1)=A/\j.length<=16/\∀k∈j,k.length=2/\N30 k:=by
  have G:(spX A).map (λj=>D.lst (j.map tupI))=some W:=G;cases L:spX A with
  | none=>rw [L] at G;cases G
  | some j=>
   rw [L] at G;exact ⟨j,(Be G).symm,Zq2 L⟩
 subst J K L;have p:∀k,k<f.length - 3->∃t,f[3+k]?=some t/\Tx t/\thO t=some (td t)/\Ib [S t]=.ok (td t):=λk g=>by
  obtain ⟨t,d,s,B,o,r⟩:=u (3+k) (by ac_rfl);have o:thO t=some d:=by rw [show 3+k=k+3 by ac_rfl] at o;exact o
  have ed:td t=d:=by unfold td;rw [o];rfl
  rw [show min (3+k) 3=3 by ac_rfl] at r;rw [<-ed] at o r;exact ⟨t,s,B,o,r⟩
 have M:∀k,k<f.length - 3->(f.drop 3).getD k []=f.getD (3+k) []:=λk g=>by
  rw [GQ,GQ,List.getElem?_drop]
 have split:f=E::C::A::f.drop 3:=by
  match f,n3,X,Q,N with
  | x::y::z::r,_,h0,R,U=>
   cases h0;cases R;cases U;rfl
 refine ⟨.tup [.int a,.int b,frD q,.lst (j.map tupI),.lst ((f.drop 3).map td)],?_,?_⟩
 .refine BJ ?_;unfold Kq;refine w_fn (w_sq (Nr (w_on (DR (Ad rfl (Fv (Ad rfl (w_gx ?_))))))));refine w_sq (w_st (w_sD (Ad rfl ⟨_,rfl,?_⟩)));symm;rw [litN];refine HY T.n (w_gx ?_);rw [m];refine w_sq (w_st (w_on (Ad rfl (Ad (K6 (by decide) X s0) (w_gx ?_)))));refine w_sq (w_st (w_on (Ad rfl (Ad (K6 (by decide) Q s1) (w_gx ?_)))));refine w_sq (w_st (w_on (Ad rfl (Ad (K6 (by decide) N s2) (w_gx ?_)))));refine w_sq (w_st (ZrX (w_r2 ?_)));symm;rw [Ah];refine Zy (by ac_rfl) ?_;refine ⟨by unfold CZ;rw [List.length_map,List.length_range];ac_rfl,?_⟩;unfold CZ;refine Dw (λk:Nat=>td (f.getD (3+k) [])) (λk g=>?_) ?_
  .have g:k<f.length - 3:=by have:=GJ.mp g;ac_rfl
   obtain ⟨t,s,B,o,r⟩:=p k g;have:Gg [.lst (f.map S),.int ((3+k:Nat):Int),.cls (nmR 3)]=.ok (td t):=K6 (by decide) s r;refine w_gN (w_on (Ad (by rfl) (Ad this ?_)));rw [GQ,s];rfl
  .have em:((List.range ((f.length:Int) - 3).toNat).map λk:Nat=>td (f.getD (3+k) []))=(f.drop 3).map td:=by
    rw [ZtH td [] (f.drop 3),DP,show ((f.length:Int) - 3).toNat=f.length - 3 by ac_rfl];exact Nk λk g=>by rw [M k (GJ.mp g)]
   rw [em];symm
 .refine BJ ?_;unfold O7;have f1:sD Ep (c (.str " ")) (mls (Aa (c (.str "floor")) (Aa (on Ew (Aa (o2 dIx (v 0) (c (.int 0))) Ab)) (Aa (on Ew (Aa (o2 dIx (v 0) (c (.int 1))) Ab)) Ab)))) (ev0 2 [.tup [.int a,.int b,frD q,.lst (j.map tupI),.lst ((f.drop 3).map td)]])=.ok (S E):=by
   refine BJ (Ij (ws:=[fwL,tI a,tI b]) litB ?_ ?_ ?_)
   .symm;refine Ad (nw P.1) ?_;symm;refine Ad (nw P.2) ?_;symm;rw [Rh];rfl
   .refine Ar (Gx (b:=31) λw hw=>?_) (by simp);simp only [An,CN,FZ] at hw;rcases hw with rfl | rfl | rfl
    .decide
    .exact Hq P.1
    .exact Hq P.2
   .rw [bf]
  have f2:sD Ep (c (.str " ")) (mls (Aa (c (.str "ground")) (Aa (on G9 (Aa (o2 dIx (v 0) (c (.int 2))) Ab)) Ab))) (ev0 2 [.tup [.int a,.int b,frD q,.lst (j.map tupI),.lst ((f.drop 3).map td)]])=.ok (S C):=by
   refine BJ (Ij (ws:=[gwL,fT q]) litB ?_ ?_ ?_)
   .symm;refine Ad (fw Z) ?_;symm;rw [Qq];rfl
   .refine Ar (Gx (b:=63) λw hw=>?_) (by simp);simp only [An,CN,FZ] at hw;rcases hw with rfl | rfl
    .decide
    .exact ZpA Z
   .rw [bg]
  have f3:sD Ep (c (.str " ")) (o2 BX (mls (Aa (c (.str "spots")) Ab)) (comp (iv (o2 dIx (v 0) (c (.int 3)))) 1 [] (gN 0) yes (on Nz (Aa (v 0) Ab)))) (ev0 2 [.tup [.int a,.int b,frD q,.lst (j.map tupI),.lst ((f.drop 3).map td)]])=.ok (S A):=by
   refine BJ (Ij (ws:=swL::j.map J1) litB ?_ ?_ ?_)
   .symm;refine ⟨by rw [Ah];ac_rfl,?_⟩;refine Dw (λk=>S (J1 k)) (λk g=>?_) ?_
    .symm;exact Ad (ZlJ (O k g).1 (O k g).2) rfl
    .rw [TX];refine Jd (by rw [Ah];simp only [BP,Fo];ac_rfl) ?_;rw [Bx,Ck];rfl
   .refine Ar (Gx (b:=63) λw hw=>?_) (by simp only [BP,Ah,Fo];ac_rfl);rcases An.mp hw with rfl | hw
    .decide
    .obtain ⟨k,g,rfl⟩:=Bk.mp hw;exact Znz (O k g).1 (O k g).2
   .rw [bs]
  refine w_fn (w_sq (w_st (Vq (DR (Ad f1 (DR (Ad f2 (DR (Ad f3 (Fv (w_gx ?_)))))))))));refine J8 (Ij (ws:=[E,C,A]++f.drop 3) litN ?_ ?_ ?_)
  .symm;refine ⟨by rw [Ah,DP];ac_rfl,?_⟩;refine Dw (λt=>S t) (λt ht=>?_) ?_
   .obtain ⟨k,g,ek⟩:=List.getElem_of_mem ht;rw [DP] at g;obtain ⟨t',s,B,o,r⟩:=p k g;have:t'=t:=by
     have e:=Bg (by rw [DP];exact g);rw [List.getElem?_drop,s,ek] at e;exact Be e
    subst this;symm;exact Ad (Zq3 B o) rfl
   .refine Jd (by rw [Ah,DP];simp only [BP,Fo];ac_rfl) ?_;rw [GD];rfl
  .refine Ar (Gx (b:=900) λw hw=>?_) (by rw [Bm,DP];simp only [BP,Fo];ac_rfl);have hm:w∈f:=by rw [split];exact hw
   exact (T.sub (by rw [m];exact hm)).l
  .have:[E,C,A]++f.drop 3=f:=split.symm;rw [this,<-m,Hu];symm
def Sx(n:Nat)(d:D):Prop:=∃l,d=S l/\Asc l/\l.length<=n
def Nf(h:((cpL s).all (·<128)&&decide ((cpL s).length<=n))=true):Sx n (.str s):=by
 rw [Bo,CQ] at h;exact ⟨cpL s,by unfold S;rw [Iv],Bb h.1,h.2⟩
def QT{ss:List Str}(h:(ss.all λs=>(cpL s).all (·<128)&&decide ((cpL s).length<=n))=true)(hd:d∈ss.map .str):Sx n d:=by
 obtain ⟨s,a,rfl⟩:=Bk.mp hd;exact Nf (Ey.mp h s a)
def MJ(hx:Sx m x)(hy:Sx n y)(hl:m+n<=1000000)(q:∀d,Sx (m+n) d->U d):Tl (BX x y) U:=by
 obtain ⟨a,rfl,c,f⟩:=hx;obtain ⟨b,rfl,e,g⟩:=hy;exact Jt (by ac_rfl) (q _ ⟨a++b,rfl,c.app e,by rw [Bm];ac_rfl⟩)
def ZpY(h:0<=n/\n<=99)(q:∀d,Sx 3 d->U d):Tl (bStr [.int n]) U :=
 YQ (Dl.Sm.of64 (by ac_rfl) (by ac_rfl)) (by decide) (q _ ⟨tI n,rfl,Zua n,J7 (by decide) (by ac_rfl)⟩)
def Xh:∀{ds:List D},(∀d∈ds,Sx n d)->∃ts:List (List Nat),ds=ts.map S/\∀t∈ts,Asc t/\t.length<=n
 | [],_=>⟨[],rfl,λt a=>(CN a).elim⟩
 | d::r,h=>by
  obtain ⟨l,rfl,b,c⟩:=h d Aw;obtain ⟨ts,rfl,a⟩:=Xh λx e=>h x (Av _ e);refine ⟨l::ts,rfl,λt hm=>?_⟩;rcases An.mp hm with rfl | hm
  .exact ⟨b,c⟩
  .exact a t hm
def Zs7(q:∀ts:List (List Nat),(∀t∈ts,Asc t/\t.length<=80)->ts.length<=7->U (.lst (ts.map S))):Tl (Ra [.int cc]) U:=by
 unfold Ra;symm;refine G8 (by decide) λr1 Q=>?_;symm;refine ZpY (by ac_rfl) λx1 m=>?_;refine MJ (Nf (n:=6) (by decide +kernel)) m (by decide) λT h=>?_;symm;refine MJ h (Nf (n:=1) (by decide +kernel)) (by decide) λZ j=>?_;symm;refine G8 (by decide) λY h2=>?_;symm;refine ZpY (by ac_rfl) λW o=>?_;refine MJ j o (by decide) λP b=>?_;symm;refine G8 (by decide) λE h3=>?_;symm;refine Nb ⟨by ac_rfl,by show E%4<((4:Nat):Int);ac_rfl⟩ λg O=>?_;refine MJ (Nf (n:=7) (by decide +kernel)) (QT (n:=4) (ss:=["0","-3","1/2","-7/9"]) (by decide +kernel) O) (by decide) λI c=>?_;refine ⟨by simp,?_⟩;symm;refine G8 (by decide) λJ X=>?_;symm;refine Nb ⟨by ac_rfl,by show J%3<((3:Nat):Int);ac_rfl⟩ λs N=>?_;refine MJ (Nf (n:=6) (by decide +kernel)) (QT (n:=15) (ss:=["4,4","1,1 7,7","2,2 6,2 2,6 6,6"]) (by decide +kernel) N) (by decide) λH f=>?_;refine ⟨by simp,?_⟩;symm;refine ⟨by decide,?_⟩;symm;refine ⟨by decide,?_⟩;symm;refine G8 (by decide) λR h5=>?_;symm;refine ⟨by unfold CZ;rw [List.length_map,List.length_range];ac_rfl,?_⟩;refine w_all (λ_ y=>Sx 80 y) (λx z=>?_) λr p M=>?_
 .unfold CZ at z;obtain ⟨k,v,rfl⟩:=Bk.mp z;have v:=GJ.mp v;symm;refine G8 (by ac_rfl) λF h6=>?_;symm;refine Nb ⟨by ac_rfl,by show F%4<((4:Nat):Int);ac_rfl⟩ λu L=>?_;exact QT (ss:=["plain 1/2 / 0 0 4 1 / 8 0 4 1 / 0 8 4 1","shaded / 0 0 4 1 5 / 8 0 4 1 -6 / 0 8 4 2 7","patterned 1,0;1/2,-3 / 0 0 4 1 5 6 / 8 0 4 1 -6 0 / 0 8 4 2 7 9","glass 3 1/4 / 0 0 4 1 / 8 0 4 1 / 0 8 4 1"]) (by decide +kernel) L
 .have K:r.length<=4:=by unfold CZ at p;rw [p,List.length_map,List.length_range];ac_rfl
  have a:∀{n:Nat} {d:D},n<=80->Sx n d->Sx 80 d:=λV ⟨l,e,C,w⟩=>⟨l,e,C,by ac_rfl⟩;obtain ⟨ts,e,B⟩:=Xh (ds:=[P,I,H]++r) λd hd=>by
   rcases Dv.mp hd with hd | hd
   .simp only [An,CN,FZ] at hd;rcases hd with rfl | rfl | rfl
    .exact a (by decide) b
    .exact a (by decide) c
    .exact a (by decide) f
   .obtain ⟨i,G,rfl⟩:=Gp.mp hd;exact M i _ _ (Bg (by ac_rfl)) (Bg G)
  refine Jd (by simp;ac_rfl) ?_;symm;have A:=e;have w:ts.length<=7:=by have:=Bl List.length A;rw [Ah,Bm] at this;simp only [BP,Fo] at this;ac_rfl
  have:=q ts B w;rw [<-A] at this;exact this
def Zm6{k:Int}(hk:0<=k)(h:∀n,U (.int n)):Tl (Qh [.lst (ns.map .int),.int k]) U:=by
 unfold Qh;symm;refine Cg (λa=>?_) (λ_=>?_)
 .symm;refine ZvX (by ac_rfl) λn _=>?_;symm;exact h n
 .symm;exact h 0
def litG:Str.ofString "0123456789-/,; \nplgx"=mkS [48,49,50,51,52,53,54,55,56,57,45,47,44,59,32,10,112,108,103,120]:=by decide +kernel
def Zl4(ha:Asc l)(hl:l.length<=800)(q:∀l',Tx l'->U (S l')):Tl (Rc [S l,.int cc]) U:=by
 unfold Rc;symm;refine Jd (by simp) ?_;symm;refine G8 (by ac_rfl) λR K=>?_;symm;have n:(CZ 0 (R%6).toNat).length<=5:=by unfold CZ;rw [List.length_map,List.length_range];ac_rfl
 obtain ⟨m,I⟩ : ∃m:List Str,m=([" / ","0 0 1 1","plain","glass","shaded","patterned","floor 3 3","ground 2","spots 4,4","1/2",",1",";1,1"," 1","-","1 1 1"]:List Str):=⟨_,rfl⟩;have wl:m.length=15:=by rw [I];rfl
 have wx:(m.all λs=>(cpL s).all (·<128)&&decide ((cpL s).length<=9))=true:=by rw [I];decide +kernel
 refine Zql (λF Z=>∃(l':List Nat) (p H J A r D:Cl),Asc l'/\l'.length<=800+9*F.length/\Z=[.im (.str (mkS l')),.im (.int cc),.im (.lst (m.map .str)),p,H,J,A,r,D]) ⟨l,_,_,_,_,_,_,ha,by simpa using hl,by rw [I];rfl⟩ ?_ ?_
 .rintro F x L z Z ⟨l',p,H,J,A,r,D,f,o,rfl⟩;have X:F.length<=4:=by
   have:=Bl List.length z;rw [Bm,BP] at this;ac_rfl
  obtain ⟨k,rfl,u⟩ : ∃k:Int,x=.int k/\0<=k/\k<6:=by
   have:x∈CZ 0 (R%6).toNat:=by rw [z];simp
   unfold CZ at this;obtain ⟨k,u,rfl⟩:=Bk.mp this;have:=GJ.mp u;exact ⟨_,rfl,by ac_rfl,by ac_rfl⟩
  clear z n K;symm;refine G8 (by ac_rfl) λB t=>?_;clear t;symm;refine PQ (by ac_rfl) ?_;symm;obtain ⟨a,O⟩ : ∃a:Int,B%((l'.length:Int)+1)=a:=⟨_,rfl⟩;have C:0<=a/\a<=l'.length:=by
   have h1:=Int.emod_nonneg B (show (l'.length:Int)+1≠0 by ac_rfl);have h2:=Int.emod_lt_of_pos B (show 0<(l'.length:Int)+1 by ac_rfl);ac_rfl
  rw [O];clear O;refine G8 (by ac_rfl) λE v=>?_;clear v;symm;rw [litG];obtain ⟨i,P⟩ : ∃i:Nat,E/4%20=(i:Int):=⟨(E/4%20).toNat,by ac_rfl⟩;have N:i<20:=by ac_rfl
  rw [P];have G:=N;obtain ⟨g,Q,Y⟩ : ∃g,[48,49,50,51,52,53,54,55,56,57,45,47,44,59,32,10,112,108,103,120][i]?=some g/\g<128 :=
   ⟨_,Bg G,(by decide:∀x∈[48,49,50,51,52,53,54,55,56,57,45,47,44,59,32,10,112,108,103,120],x<128) _ (G4 G)⟩
  refine Yu (by decide) Q ?_;clear Q P G N;symm;refine Nb ⟨by ac_rfl,by rw [Ah,wl];ac_rfl⟩ λw hw=>?_;obtain ⟨wd,rfl,V,wn⟩:=QT wx hw;symm;refine Nb ⟨by ac_rfl,by show E%4<((4:Nat):Int);ac_rfl⟩ λd M=>?_;obtain ⟨e,b,rfl,T,hpl,W⟩ : ∃(e:List Nat) (b:Int),d=.tup [.str (mkS e),.int b]/\Asc e/\e.length<=9/\0<=b/\b<=1:=by
   have j:Asc [g]:=λc h=>by rw [De.mp h];exact Y
   simp only [An,CN,FZ] at M;rcases M with rfl | rfl | rfl | rfl
   .exact ⟨[g],0,rfl,j,by simp,by decide,by decide⟩
   .exact ⟨[],1,by rw [lit0],λc h=>(by cases h),by simp,by decide,by decide⟩
   .exact ⟨[g],1,rfl,j,by simp,by decide,by decide⟩
   .exact ⟨wd,0,rfl,V,wn,by decide,by decide⟩
  symm;refine G8 (by ac_rfl) λr3 y=>?_;clear y u;symm;refine Ad (ZS rfl rfl C.1 (by ac_rfl)) ?_;symm;refine Jt (by rw [Hj];ac_rfl) ?_;refine Ad (Zma rfl rfl (by ac_rfl) (by ac_rfl)) ?_;refine Jt (by rw [Bm,Hj,DP];ac_rfl) ?_;symm;refine ⟨_,rfl,_,_,_,_,_,_,_,?_,?_,rfl⟩
  .exact Asc.app (Asc.app (λc h=>f c (List.mem_of_mem_take h)) T) λc h=>f c (List.mem_of_mem_drop h)
  .rw [Bm,Bm,Hj,DP,Bm];simp only [BP,Fo];ac_rfl
 .rintro Z ⟨l',p,H,J,A,r,D,f,o,rfl⟩;symm;exact q l' ⟨f,by ac_rfl⟩
def ZjY(hs:Asc s):∀{ws:List (List Nat)},(∀w∈ws,Asc w)->Asc (Ak s ws)
 | [],_=>λc a=>by cases a
 | [w],h=>h w Aw
 | w::y::r,h=>Asc.app (Asc.app (h w Aw) hs) (ZjY hs λx b=>h x (Av _ b))
def ZsA(q:U (.bl true)):Tl (Pk [.int cc]) U:=by
 unfold Pk;symm;refine w_sD (Ad (x:=.str (mkS [10])) (by rw [<-litN];rfl) ⟨_,rfl,?_⟩);symm;refine Zs7 λn m p=>?_;have b:totL 1 n<=567:=Ar (Gx λw g=>(m w g).2) (by ac_rfl);refine Wa (Ar b (by decide)) ?_;symm;refine Zl4 (ZjY (Bb rfl) λw g=>(m w g).1) (Ar R8 (Ar b (by decide))) λl T=>?_;symm;refine ZwL T ?_;cases e:dueF (Ae 10 l) 0 (max 3 (Ae 10 l).length) with
 | none=>
  obtain ⟨d,i,o⟩:=Znq T e;symm;refine ZtR ?_;symm;refine Ad i ?_;symm;refine Ad i ?_;symm;refine Ad o ?_;symm;refine Dp T.a T.a ?_;rw [Aj rfl];symm;exact q
 | some k=>
  obtain ⟨j,hj,ex⟩:=Zm7 T rfl (Zrb T e);symm;refine ZtX (c:=tagX j "NoRow") ?_;symm;refine ⟨ex,by rw [Nj];decide +kernel,?_⟩;symm;have h:∀d,bIsX tabC tabT [.exc (tagX j "NoRow"),d]=askX tabC tabT "NoRow" d:=by
   intro d;show askX tabC tabT (clsOf (tagX j "NoRow")) d=_;rw [Nj]
  have f:dAtC ["NoRow"] (.exc (tagX j "NoRow"))=.ok (.int k):=by
   show (if [Str.ofString "NoRow"].contains (clsOf (tagX j "NoRow"))=true then dAt (.exc (tagX j "NoRow")) else .bad)=_
   rw [Nj,iP (by simp)];unfold dAt;dsimp only;rw [R6];dsimp only;rw [show (j/2:Nat)=k from hj]
  refine Ad (x:=.bl true) ((h _).trans (by kernel_rfl)) ?_;symm;refine Ad f ?_;symm;refine Ad f ?_;symm;rw [Aj rfl];exact q
def Zn2(ns:List Int)(h63:ns.length<=63):Ua [.lst (ns.map .int)]=.ok (.bl true):=by
 refine BJ ?_;unfold Ua;symm;refine ZvO (λZ=>∃a:Cl,Z=[.im (.lst (ns.map .int)),a]) ⟨_,rfl⟩ ?_ ?_
 .rintro x b Z ⟨a,rfl⟩;unfold CZ at b;obtain ⟨k,_,rfl⟩:=Bk.mp b;symm;refine Zm6 (by ac_rfl) λc=>?_;symm;refine ZsA ?_;symm;exact ⟨_,rfl,_,rfl⟩
 .rintro Z ⟨a,rfl⟩;symm
end My
namespace My
open PySem L2 Ds Dl
def top(i:Nat):Stmt:=PySem.Challenge.pw_sampleyard_k85_whole_texts_by_signs.main.body.getD i (.Pass ⟨0,0,0,0⟩)
abbrev ZcQ:Stmt:=(inClass (top 33) 0)
abbrev Xd:Stmt:=(inClass (top 37) 0)
abbrev ZbT:Stmt:=(inClass (top 36) 0)
abbrev Zf:Stmt:=(inClass (top 34) 0)
abbrev Zcp:Stmt:=(inClass (top 35) 0)
abbrev V1:Stmt:=(inClass (top 37) 1)
abbrev W5:Stmt:=(inClass (top 36) 1)
abbrev ZdZ:Stmt:=(inClass (top 34) 1)
abbrev YH:Stmt:=(inClass (top 35) 1)
abbrev Kl:Stmt:=top 85
local macro_rules | `(tactic| walk_at "sc")=>`(tactic| exact ⟨rfl,rfl,rfl,by decide +kernel,rfl,by decide +kernel,by decide +kernel⟩)
abbrev W4:Stmt:=(inClass (top 7) 0)
def G5{P:Program}{w:World}{K:W.Frag}{mg:Str->Option Value}{base:Heap}{C:Addr}(h:Mm K C "NoRow.__init__" W4):MkX P w K mg base 1 C:=h.mk' (by walk_at "sc") rfl (Or.inl rfl) (Or.inl rfl) (λ_ _ _=>rfl)
def Zco:Df ["self","triangle"] ["self","triangle"] (Bd ZcQ):=by walk_at "sc"
def Vp:Df ["self","triangle","colour","part"] ["self","triangle","colour","part"] (Bd Xd):=by walk_at "sc"
def Zbz:Df ["self","triangle","pattern"] ["self","triangle","pattern"] (Bd ZbT):=by walk_at "sc"
def Zcs:Df ["self","triangle","colour"] ["self","triangle","colour"] (Bd Zf):=by walk_at "sc"
def Vt:Df ["self","triangle"] ["self","triangle"] (Bd Zcp):=by walk_at "sc"
def ZdH:Df ["self"] ["self"] (Bd V1):=by walk_at "sc"
def Zct:Df ["self"] ["self"] (Bd W5):=by walk_at "sc"
def Xz:Df ["self"] ["self"] (Bd ZdZ):=by walk_at "sc"
def Xw:Df ["self"] ["self"] (Bd YH):=by walk_at "sc"
def W8:Df ["_law_script","_law_k"] ["_law_script"] (Bd Kl):=by walk_at "sc"
def fil:∀p,Hd.heap p=Hd.heap p/\PySem.Challenge.rw_sampleyard_k85_whole_texts_by_signs=PySem.Challenge.rw_sampleyard_k85_whole_texts_by_signs:=by
 k_fill;exact λ_=>⟨rfl,rfl⟩
def YY(P:Program)(w:World)(K:W.Frag)(mg:Str->Option Value)(base:Heap):Prop:=K=Hd.heap w.params/\∀{x:Str} {v:Option Value},W.nsIn K mainGlobals x=some v->mg x=v
abbrev BtT(x q:Str)(st:Stmt)(ps:List Str):Prop:=∀(kV doc pm:Value) (an:Option Addr) (cdv ct:Value) (us:List Value),us.length=ps.length->bindArgs (W.fnOf x q (Ja st) (FN st) (Bd st) .none kV doc pm an cdv ct) ⟨us,[]⟩=pure (ps.zip us)
section
variable{P:Program}{w:World}{K:W.Frag}{mg:Str->Option Value}{base:Heap}{c x q m:Str}{st:Stmt}{ps:List Str}{f C:Addr}{fd:FuncData}{n j l:Nat}
def ln1{P:List Value->Prop}(q:∀a,P [a]):∀us,us.length=1->P us:=by intro us h;rcases us with _|⟨a,_|_⟩<;>first | exact q _ | cases h
def ln2{P:List Value->Prop}(q:∀a b,P [a,b]):∀us,us.length=2->P us:=by intro us h;rcases us with _|⟨a,_|⟨b,_|_⟩⟩<;>first | exact q _ _ | cases h
def ln3{P:List Value->Prop}(q:∀a b c,P [a,b,c]):∀us,us.length=3->P us:=by intro us h;rcases us with _|⟨a,_|⟨b,_|⟨c,_|_⟩⟩⟩<;>first | exact q _ _ _ | cases h
def ln4{P:List Value->Prop}(q:∀a b c d,P [a,b,c,d]):∀us,us.length=4->P us:=by intro us h;rcases us with _|⟨a,_|⟨b,_|⟨c,_|⟨d,_|_⟩⟩⟩⟩<;>first | exact q _ _ _ _ | cases h
def exI{α:Type}{φ:α->Prop}{a:α}(h:φ a):∃a,φ a:=⟨a,h⟩
def Um{φ:Addr->Prop}(a:mg c=some (.ref C))(h:φ C):∀C,mg c=some (.ref C)->φ C:=by
 intro C e;cases a.symm.trans e;exact h
def Xq(T:YY P w K mg base)(a:W.nsIn (Hd.heap w.params) mainGlobals x=some (some (.ref f)))(F:Fun (Hd.heap w.params) x x st f fd)(b:BtT x x st ps):Def K mg x st ps:=by
 obtain ⟨rfl,g⟩:=T;exact ⟨f,fd,F,F.binds b,g a⟩
def QR{cs:List Str}{i:List D->Fs->Res Fs}(a:mg c=some (.ref C))(h1:W.makesIn K C=true)(h2:W.findIn K (.ref C) "__init__"=some (some (.ref f)))(h3:W.isFn K (.ref f)=true)(h4:W.keepIn K (.ref C)=true)(F:Fun K x q st f fd)(o:Fun K x q st f fd->FnOk P w K mg base (CXR P w) j f fd ps (spI K mg n cs i))(b:BtT x q st ps)(e:cs.contains c=true):CalI P w K mg base j c n cs i:=⟨_,_,_,_,a,⟨h1,h2,h3,h4⟩,o F,F.binds b,e⟩
def Zv9{cs:List Str}{i:List D->Fs->Res Fs}(a:mg c=some (.ref C))(h1:W.specialIn K (.ref C) "__getattribute__"=some (some (.builtin "type.__getattribute__")))(h2:W.readsIn K C (.type "type")=true)(h3:W.findCls K (.ref C) (.type "type") "__init__"=some (.val (.ref f)))(h4:W.handedIn (.ref f)=true)(F:Fun K x q st f fd)(o:Fun K x q st f fd->FnOk P w K mg base (CXR P w) j f fd ps (spI K mg n cs i))(b:BtT x q st ps):CalS P w K mg base j c "__init__" n cs i:=⟨_,_,_,_,a,⟨h1,⟨_,h2,h3⟩,h4,F.kp⟩,o F,F.binds b⟩
def RQ{i:List D->Res D}(a:mg c=some (.ref C))(p:Cls K C)(h1:W.findIn K (.ref C) m=some (some (.ref f)))(h2:W.isFn K (.ref f)=true)(F:Fun K x q st f fd)(o:Fun K x q st f fd->FnOk P w K mg base (CXR P w) j f fd ps (spD K mg ps.length i))(b:BtT x q st ps)(hj:j<=l)(e:ps.length=n+1):∀C,mg c=some (.ref C)->Cls K C/\∃g fd ps,Meth K C m g/\FnOk P w K mg base (CXR P w) l g fd ps (spD K mg ps.length i)/\Binds K fd ps []/\ps.length=n+1:=Um a ⟨p,_,_,_,⟨h1,h2,F.kp⟩,(o F).mono hj,F.binds b,e⟩
def lawK{oc kV dc pm cd ct:Value}{od an:Option Addr}{sl:Array (Option Value)}{fa:Addr}{sp:Sp}(a:mg "law"=some (.ref f))(hfa:mg "law"=some (.ref fa))(l:K.lookup f=some ⟨oc,od,.func (W.fnOf "law" "law" (Ja Kl) (FN Kl) (Bd Kl) .none kV dc pm an cd ct),sl⟩)(h1:W.codeIn K cd "law"=true)(h2:W.keepIn K (.ref f)=true)(o:∀base fd,Fun K "law" "law" Kl f fd->FnOk P w K mg base (CXR P w) n f fd ["_law_script"] sp):∃fd:FuncData,(∀(s:Shared) (v:Value),BindsTo s fd ⟨[v],[]⟩ [("_law_script",v)])/\∀base:Heap,K.In base->base.Ns mainGlobals mg->FnOk P w K mg base (CXR P w) n fa fd ["_law_script"] sp:=by
 cases a.symm.trans hfa;exact ⟨_,λs v=>.of_eq rfl,λbase _ _=>o base _ (Fp l h1 h2)⟩
def cal1{mb:MS}(st:Stmt)(N:List Str)(D:Def K mg x st ps/\Df N ps (Bd st))(h:N.Nodup->∀(f:Addr) (cdv:Value) (A:Around) (outer:List Env) (s:Shared) (H:Hp) (E:XK),Room n (A.deeper (PyProof.Rows.envOfC x (Bd st) s.heap.objs.size f cdv))->∃t,DSs (cxOf (CXR P w) P w K mg base N x (Bd st) f cdv A outer s H E) E (FN st) t mb):Cal P w K mg base (n+1) x ps (fn N.length mb):=D.1.cal D.2 (h D.2.nd)
end
local macro_rules | `(tactic| walk_at "b")=>`(tactic| first | (exact λ_ _ _ _ _ _=>My.ln1 λ_=>rfl) | (exact λ_ _ _ _ _ _=>My.ln2 λ_ _=>rfl) | (exact λ_ _ _ _ _ _=>My.ln3 λ_ _ _=>rfl) | (exact λ_ _ _ _ _ _=>My.ln4 λ_ _ _ _=>rfl))
set_option hygiene false
local macro_rules | `(tactic| walk_at "y")=>`(tactic| obtain ⟨rfl,g⟩:=id T)
local macro_rules | `(tactic| walk_at "q")=>`(tactic| all_goals first | k_is | k_exc | kit_is | kts_exm | kernel_rfl | rfl | skip)
local macro_rules | `(tactic| walk_at "z")=>`(tactic| (walk_at "y"; refine' g ?_;k_is))
local macro_rules | `(tactic| walk_at "z1")=>`(tactic| (walk_at "y"; refine' My.exI (g ?_);walk_at "q"))
local macro_rules | `(tactic| walk_at "z2")=>`(tactic| (walk_at "y"; refine' My.exI ⟨g ?_,?_⟩;walk_at "q"))
local macro_rules | `(tactic| walk_at "fl")=>`(tactic| (walk_at "y"; (repeat' first | exact FJ.nil | refine' FJ.cons (My.Um (g ?_) ⟨⟨?_,?_,?_,?_⟩,?_⟩) ?_);walk_at "q"))
local macro_rules | `(tactic| walk_at "d")=>`(tactic| (refine' My.Xq T ?_ (L2.Fp ?_ ?_ ?_) (by walk_at "b");walk_at "q"))
local macro_rules | `(tactic| walk_at "D")=>`(tactic| (refine' ⟨My.Xq T ?_ (L2.Fp ?_ ?_ ?_) (by walk_at "b"),by walk_at "sc"⟩;walk_at "q"))
set_option hygiene true
def ZvF{K:W.Frag}{mg:Str->Option Value}{c q:Str}{st:Stmt}{f C:Addr}{fd:FuncData}(a:mg c=some (.ref C))(xf_:W.findIn K (.ref C) "__init__"=some (some (.ref f)))(F:Fun K "__init__" q st f fd)(xe_:Kc K C f=true)(xk_:W.keepIn K (.ref C)=true)(xr_:W.mroIn K C (.type "BaseException")=some true)(xt_:W.typeIn K (.ref C)=some (.type "type"))(xo_:W.mroIn K C (.type "object")=some true)(xv_:((W.clsIn K C).any λcd=>PK cd.mro)=true)(xh_:W.hasDictIn K C=true)(xs_:W.findIn K (.ref C) "__setattr__"=some (some (.builtin "object.__setattr__")))(xn_:W.findIn K (.ref C) "at"=some none)(b:BtT "__init__" q st ["self","at"]):∃C,mg c=some (.ref C)/\Mm K C q st:=⟨_,a,⟨⟨_,_,xe_,F,F.binds (ps:=["self","at"]) b⟩,xk_,⟨xr_,xt_⟩,⟨xo_,xv_,xh_,xs_⟩,xn_⟩⟩
section
variable{P:Program}{w:World}{K:W.Frag}{mg:Str->Option Value}{base:Heap}(T:YY P w K mg base)
include T
def Zwi:mg "abs"=none:=by walk_at "z"
def J2:mg "all"=none:=by walk_at "z"
def Zuj:mg "bool"=none:=by walk_at "z"
def Zx:mg "int"=none:=by walk_at "z"
def Ru:mg "isinstance"=none:=by walk_at "z"
def Q3:mg "len"=none:=by walk_at "z"
def Xn:mg "list"=none:=by walk_at "z"
def Vv:mg "max"=none:=by walk_at "z"
def ZvG:mg "min"=none:=by walk_at "z"
def Zl9:mg "range"=none:=by walk_at "z"
def Zkq:mg "reversed"=none:=by walk_at "z"
def ZwT:mg "set"=none:=by walk_at "z"
def V0:mg "str"=none:=by walk_at "z"
def Ou:mg "tuple"=none:=by walk_at "z"
def Ub:∃tk,mg "FIGURES"=some (.str "0123456789" tk):=by walk_at "z1"
def Qs:∃tk,mg "MOST_CELLS"=some (.int 64 tk):=by walk_at "z1"
def R1:∃tk,mg "MOST_FIGURES"=some (.int 30 tk):=by walk_at "z1"
def T9:∃tk,mg "MOST_SPOTS"=some (.int 16 tk):=by walk_at "z1"
def U6:∃tk,mg "MOST_VALUES"=some (.int 3 tk):=by walk_at "z1"
def ZmT{gtk0_0:Tok}{gtk0_1:Tok}{gtk0_2:Tok}{gtk0_3:Tok}{gtk0_4:Tok}{GA0:Addr}{godt0:Option Addr}{gnn0:Nat}{gsl0:Array (Option Value)}(gta0:W.nsIn K mainGlobals "COUNTS"=some (some (.ref GA0)))(gtl0:K.lookup GA0=some ⟨.type "tuple",godt0,.seq #[.int 1 gtk0_0,.int 2 gtk0_1,.int 4 gtk0_2,.int 8 gtk0_3,.int 16 gtk0_4] gnn0,gsl0⟩):GTup K mg "COUNTS" [1,2,4,8,16]:=⟨_,_,_,_,T.2 gta0,gtl0,rfl,rfl,show (5:Nat)<=sizeLine by decide,(.cons ⟨_,rfl⟩ (.cons ⟨_,rfl⟩ (.cons ⟨_,rfl⟩ (.cons ⟨_,rfl⟩ (.cons ⟨_,rfl⟩ .nil)))))⟩
def ZnL:GTup K mg "COUNTS" [1,2,4,8,16]:=by walk_at "y"; refine' ZmT T ?_ ?_;walk_at "q"
def ZrZ:∃C,mg "NoRow"=some (.ref C):=by walk_at "z1"
def Yp:∃C,mg "YardError"=some (.ref C):=by walk_at "z1"
def Z4:∃C,mg "BadFloor"=some (.ref C)/\W.excIn K C G7 "ValueError.__new__"=true:=by walk_at "z2"
def Zh2:∃C,mg "BadPattern"=some (.ref C)/\W.excIn K C G7 "ValueError.__new__"=true:=by walk_at "z2"
def Uh:∃C,mg "BadThing"=some (.ref C)/\W.excIn K C G7 "ValueError.__new__"=true:=by walk_at "z2"
def Zn:∃C,mg "BadTriangle"=some (.ref C)/\W.excIn K C G7 "ValueError.__new__"=true:=by walk_at "z2"
def Hv:∃C,mg "NoRow"=some (.ref C)/\Mm K C "NoRow.__init__" W4:=by walk_at "y"; refine' ZvF (g ?_) ?_ (Fp ?_ ?_ ?_) ?_ ?_ ?_ ?_ ?_ ?_ ?_ ?_ ?_ (by walk_at "b");walk_at "q"
def Zfj:∀C,mg "YardError"=some (.ref C)->∀c∈(["BadFloor","BadPattern","BadThing","BadTriangle","NoRow"]:List Str),∃D,mg c=some (.ref D)/\W.exmOne K (.ref D) (.ref C)=some true:=by walk_at "y"; refine' (Um (g ?_) (Gn.mpr ⟨(exI ⟨g ?_,?_⟩),(Gn.mpr ⟨(exI ⟨g ?_,?_⟩),(Gn.mpr ⟨(exI ⟨g ?_,?_⟩),(Gn.mpr ⟨(exI ⟨g ?_,?_⟩),(Gn.mpr ⟨(exI ⟨g ?_,?_⟩),(λ_ h=>aB h CN)⟩)⟩)⟩)⟩)⟩));walk_at "q"
def tab:TabOk K mg tabC tabT:=by walk_at "y"; refine' ⟨(Gn.mpr ⟨(exI (exI ⟨g ?_,g ?_,⟨?_,?_,?_,?_,?_,?_,?_,?_⟩,?_⟩)),(Gn.mpr ⟨(exI (exI ⟨g ?_,g ?_,⟨?_,?_,?_,?_,?_,?_,?_,?_⟩,?_⟩)),(Gn.mpr ⟨(exI (exI ⟨g ?_,g ?_,⟨?_,?_,?_,?_,?_,?_,?_,?_⟩,?_⟩)),(Gn.mpr ⟨(exI (exI ⟨g ?_,g ?_,⟨?_,?_,?_,?_,?_,?_,?_,?_⟩,?_⟩)),(Gn.mpr ⟨(exI (exI ⟨g ?_,g ?_,⟨?_,?_,?_,?_,?_,?_,?_,?_⟩,?_⟩)),(λ_ h=>aB h CN)⟩)⟩)⟩)⟩)⟩),(λ_ h=>aB h CN)⟩;walk_at "q"
def at_:AtOk K mg ["NoRow"]:=by walk_at "y"; refine' (Gn.mpr ⟨(exI ⟨g ?_,⟨?_,?_,?_,?_,?_,?_,?_,?_⟩,?_⟩),(λ_ h=>aB h CN)⟩);walk_at "q"
def SN:FJ K mg objs "colour":=by walk_at "fl"
def Zk:FJ K mg objs "part":=by walk_at "fl"
def V8:FJ K mg objs "pattern":=by walk_at "fl"
def YT:FJ K mg objs "triangle":=by walk_at "fl"
set_option hygiene false in
local macro_rules | `(tactic| walk_at "e")=>`(tactic| repeat' first
 | exact Br
 | exact Lp
 | exact LQ
 | exact BZ
 | exact Bf
 | exact Kd
 | exact d_v _
 | refine' Ay ?_ ?_
 | refine' Kz ?_ ?_
 | refine' GP (by first | assumption | exact CalO.cal (by assumption) | exact CalN.cal (by assumption)) hr (by decide) rfl Dr ?_
 | refine' Zsp (by first | assumption | exact CalO.cal (by assumption) | exact CalN.cal (by assumption)) hr (by decide) rfl ?_
 | refine' ZlH (by first | assumption | exact CalO.cal (by assumption) | exact CalN.cal (by assumption)) hr (by decide) rfl ?_
 | refine' Ii ?_ ?_
 | refine' Zwz ?_ ?_
 | refine' Zwu ?_ ?_
 | refine' Zm ?_ ?_
 | refine' ZwA ?_ ?_
 | refine' ZwS ?_ ?_
 | refine' ZwM ?_ ?_
 | refine' ZwC ?_ ?_
 | refine' O5 ?_ ?_
 | refine' ZvN ?_ ?_
 | refine' Zv1 ?_ ?_
 | refine' Zwo ?_ ?_
 | refine' d_lt ?_ ?_
 | refine' ya9 ?_ ?_
 | refine' yba ?_ ?_
 | refine' ybb ?_ ?_
 | refine' Ek ?_ ?_
 | refine' Uq ?_ ?_
 | refine' J3 ?_ ?_
 | refine' d_or ?_ ?_
 | refine' Qe hr ?_ ?_
 | refine' M4 hr ?_ ?_
 | refine' T3 hr ?_ ?_
 | refine' T7 hr ?_ ?_
 | refine' ya7 hr ?_ ?_
 | refine' d_ne hr ?_ ?_
 | refine' d_in hr ?_ ?_
 | refine' Zu8 hr ?_ ?_
 | exact M8 rfl (Zuj T) ZqR
 | exact M8 rfl (Zx T) Zz
 | exact M8 rfl (Xn T) ZmD
 | exact M8 rfl (V0 T) Zpw
 | exact M8 rfl (Ou T) Qn
 | refine' Ea (Zm1 rfl) Znb rfl (Vv T) Z7 ?_
 | refine' Ea (Zm4 rfl) ZkL rfl (Vv T) Z7 ?_
 | refine' Ea (Zmt rfl) ZkS rfl (ZvG T) ZvD ?_
 | refine' Ea Zom ZmW rfl (Zwi T) ZtB ?_
 | refine' Ea ZhO Ws rfl (Ru T) Vd ?_
 | refine' Ea Zpc Zk2 rfl (Q3 T) RX ?_
 | refine' Ea Zv ZhP rfl (Q3 T) RX ?_
 | refine' Lg ZlN Zkt rfl (Zx T) Zz ?_
 | refine' Lg ZhS ZkZ rfl (Xn T) ZmD ?_
 | refine' Lg ZhF Zmm rfl (V0 T) Zpw ?_
 | refine' Lg VF VD rfl (Ou T) Qn ?_
 | refine' O1 (SN T) ?_
 | refine' O1 (Zk T) ?_
 | refine' O1 (V8 T) ?_
 | refine' O1 (YT T) ?_
 | refine' Zwf ?_ ?_
 | refine' WW ?_ ?_
 | refine' Zwd ?_ ?_ ?_
 | refine' YL ?_ ?_ ?_
 | refine' Zwk ?_
 | refine' HR ?_
 | refine' Zs9 ?_
 | refine' Zur ?_
 | refine' dt_notN ?_
 | refine' Zv0 ?_
 | refine' Zpn ?_
 | refine' Ny ?_
 | refine' QK ?_
 | refine' Ir ?_
 | refine' Zqr ?_
 | refine' Hf ?_
 | refine' DW.dt ?_
 | exact CG
 | exact Zqs
 | exact ds_retN
 | exact ds_cnt
 | exact ds_brk
 | exact ds_pass
 | refine' Az ?_
 | refine' Ai ?_ ?_
 | refine' Bt ?_
 | refine' CJ ?_ ?_ ?_
 | refine' Dg hN rfl (by first | exact Or.inl rfl | exact Or.inr rfl) ?_
 | refine' ZqH hN rfl (by first | exact Or.inl rfl | exact Or.inr rfl) ?_ ?_
 | refine' Sq _ ?_
 | refine' Zue ?_
 | refine' Zus ?_ ?_
 | refine' LR PassesOwn.leaving rfl ?_ ?_ ?_
 | exact YZ hN rfl (by first | exact Or.inl rfl | exact Or.inr rfl) (by decide)
 | refine' ZtI rfl ?_
 | refine' Zpi ?_ ?_
 | refine' Zww rfl (Zl9 T) ?_
 | refine' DN ?_
 | refine' Q5 ?_
 | refine' Ms rfl yaG yaH ?_ ?_
 | refine' Ms rfl yaL yaM ?_ ?_
 | refine' Ms rfl yas yat ?_ ?_
 | refine' Ms rfl yaw yax ?_ ?_
 | decide
 | fail)
local macro_rules | `(tactic| walk_at "co")=>`(tactic| exact FT.of rfl rfl (by kernel_rfl) rfl (by repeat' (first | exact trivial | refine ⟨rfl,?_⟩)) (by repeat' (first | exact trivial | refine ⟨rfl,?_⟩)))
local macro_rules | `(tactic| walk_at "cg")=>`(tactic| exact λ_ _ _ _ _=>YZ (by show List.Nodup ((_:List Str) ++ (_:List Str));decide +kernel) rfl (by first | exact Or.inl rfl | exact Or.inr rfl) (by decide))
local macro_rules | `(tactic| walk_at "ct")=>`(tactic| exact λ_ _ _ _ _=>ZrQ)
local macro_rules | `(tactic| walk_at "ce")=>`(tactic| (intro _ _ _ _ _;walk_at "e"))
def Zfa:Cal P w K mg base 1 "_law_cell_at" ["_law_script","_law_k"] Qh:=by
 exact cal1 (top 71) ["_law_script","_law_k"] (by walk_at "D") (λhN f cdv A outer s H E hr=>⟨_,(by walk_at "e")⟩)
def XH:Cal P w K mg base 1 "_law_mixed" ["_law_cell","_law_k"] Fi:=by
 exact cal1 (top 73) ["_law_cell","_law_k","_law_number_here"] (by walk_at "D") (λhN f cdv A outer s H E hr=>⟨_,(by walk_at "e")⟩)
def Zfp:Cal P w K mg base 2 "_law_changed" ["_law_text","_law_cell"] Rc:=by
 have yaN:=XH T
 exact cal1 (top 75) ["_law_text","_law_cell","_law_words","_law_k","_law_at","_law_way","_law_sign","_law_put","_law_gone"] (by walk_at "D") (λhN f cdv A outer s H E hr=>⟨_,(Ai (by walk_at "e")
  (Ai (by walk_at "e")
  (Ai (LR PassesOwn.leaving rfl (by walk_at "e") (by walk_at "e")
  (Ai (by walk_at "e")
  (Ai (by walk_at "e")
  (Ai (Dg (i:=6) hN rfl (Or.inl rfl) (Zuz BZ (by walk_at "e")))
  (Ai (by walk_at "e")
  (Ai (by walk_at "e")
  (Az (Dg (i:=0) hN rfl (Or.inl rfl) (Ii (Ii (MP (d_v 0) Kd (Ny (d_v 4))) (d_v 7)) (MP (d_v 0) (by walk_at "e") Kd))))))))))
  (by walk_at "e"))))⟩)
def QD:Cal P w K mg base 1 "_law_number" ["_law_word"] Gz:=by
 exact cal1 (top 76) ["_law_word","_law_figures"] (by walk_at "D") (λhN f cdv A outer s H E hr=>⟨_,(Ai (by walk_at "e")
  (Ai (CJ (M4 hr (MP (d_v 0) Kd (Ny Br)) BZ)
  (Az (Dg (i:=1) hN rfl (Or.inl rfl) (MP (d_v 0) (Ny Br) Kd)))
  CG)
  (Ai (CJ (DW.dt (Ek (by walk_at "e") (Ek (by walk_at "e") (Ir (HR (Hf (Ea (Jq rfl) Ji rfl (J2 T) Jy (Ay (Dz (own:=["_law_sign"]) (cap:=[]) (ZpG (d_v 1)) (by walk_at "co") rfl (by walk_at "cg") (by walk_at "ct") (λ_ _ _ _ _=>(Zu1 (d_v 0) BZ))) Bf))))))))
  (Az (Bt Lp))
  CG)
  (Ai (CJ (DW.dt (Uq (M4 hr (Zuz (d_v 1) Br) BZ) (by walk_at "e")))
  (Az (Bt Lp))
  CG)
  (by walk_at "e")))))⟩)
def Zfl:Cal P w K mg base 1 "_law_divisor" ["_law_one","_law_other"] Ql:=by
 exact cal1 (top 72) ["_law_one","_law_other"] (by walk_at "D") (λhN f cdv A outer s H E hr=>⟨_,(Ai (Ug PassesOwn.leaving (Qe hr (d_v 1) Br)
  (Az (ZtN (i:=0) (j:=1) rfl hN rfl rfl (by decide) rfl rfl (d_v 1) (Zm (d_v 0) (d_v 1)))))
  (by walk_at "e"))⟩)
def Vc:Cal P w K mg base 2 "_law_fraction" ["_law_word"] G3:=by
 have c__law_divisor:=Zfl T;have yae:=QD T
 exact cal1 (top 77) ["_law_word","_law_parts"] (by walk_at "D") (λhN f cdv A outer s H E hr=>⟨_,(Ai (Q4 (i:=1) hN rfl (Or.inl rfl) (own:=["_law_part"]) (cap:=[]) (DN (CV PySem.F.slot_str_split PySem.F.type_str_split Ej Em (d_v 0) BZ)) (by walk_at "co") rfl (by walk_at "cg") (by walk_at "ct") (by walk_at "ce"))
  (by walk_at "e"))⟩)
def ZeO:Cal P w K mg base 2 "_law_is_spots" ["_law_words"] Q0:=by
 have yae:=QD T
 exact cal1 (top 81) ["_law_words","_law_spots","_law_word","_law_numbers"] (by walk_at "D") (λhN f cdv A outer s H E hr=>⟨_,(Ai (by walk_at "e")
  (Ai (LR PassesOwn.leaving rfl (DN (d_v 0)) (by walk_at "e")
  (Ai (Q4 (i:=3) hN rfl (Or.inl rfl) (own:=["_law_part"]) (cap:=[]) (DN (CV PySem.F.slot_str_split PySem.F.type_str_split Ej Em (d_v 2) BZ)) (by walk_at "co") rfl (by walk_at "cg") (by walk_at "ct") (by walk_at "ce"))
  (Ai (CJ (ZvQ 1 (DW.dt (Ek (T3 hr Lp (d_v 3)) (Ek (by walk_at "e") (Ek (HR (Zmb FW Ex FW Ex FW Ex Br (by walk_at "e") (by walk_at "e") Br)) (by walk_at "e"))))))
  (Az (Bt LQ))
  CG)
  (by walk_at "e"))))
  (Az (Q5 (Bt (ZmU FW Ex FW Ex Br (by walk_at "e") Br))))))⟩)
def Zfx:Cal P w K mg base 2 "_law_corners" ["_law_parts"] Q9:=by
 have yae:=QD T
 exact cal1 (top 79) ["_law_parts","_law_many","_law_part","_law_numbers"] (by walk_at "D") (λhN f cdv A outer s H E hr=>⟨_,(Ai (Dg (i:=1) hN rfl (Or.inl rfl) (Ea Zv ZhP rfl (Q3 T) RX (Ay (CV PySem.F.slot_str_split PySem.F.type_str_split Ej Em (Kz (d_v 0) Br) BZ) Bf)))
  (Ai (LR PassesOwn.leaving rfl (DN (d_v 0)) (by walk_at "e")
  (Ai (Q4 (i:=3) hN rfl (Or.inl rfl) (own:=["_law_word"]) (cap:=[]) (DN (CV PySem.F.slot_str_split PySem.F.type_str_split Ej Em (d_v 2) BZ)) (by walk_at "co") rfl (by walk_at "cg") (by walk_at "ct") (by walk_at "ce"))
  (Az (CJ (DW.dt (Ek (T3 hr Lp (d_v 3)) (Ek (by walk_at "e") (Ek (HR (Zn1 FW Ex FW Ex Br (d_v 1) Br)) (by walk_at "e")))))
  (by walk_at "e")
  CG))))
  (by walk_at "e")))⟩)
def Zef:Cal P w K mg base 3 "_law_is_pattern" ["_law_word"] Pr:=by
 have yak:=Vc T
 exact cal1 (top 78) ["_law_word","_law_lines"] (by walk_at "D") (λhN f cdv A outer s H E hr=>⟨_,(Ai (Dg (i:=1) hN rfl (Or.inr rfl) (Dz (own:=["_law_line"]) (cap:=[]) (DN (CV PySem.F.slot_str_split PySem.F.type_str_split Ej Em (d_v 0) BZ)) (by walk_at "co") rfl (by walk_at "cg") (by walk_at "ct") (λ_ _ _ _ _=>(Dz (own:=["_law_one"]) (cap:=[]) (DN (CV PySem.F.slot_str_split PySem.F.type_str_split Ej Em (d_v 0) BZ)) (by walk_at "co") rfl (by walk_at "cg") (by walk_at "ct") (by walk_at "ce")))))
  (Ai (by walk_at "e")
  (Az (Bt (Ea (Jq rfl) Ji rfl (J2 T) Jy (Ay (Dz (own:=["_law_line"]) (cap:=[("_law_lines",1)]) (DN (d_v 1)) (by walk_at "co") rfl (by walk_at "cg") (by walk_at "ct") (by walk_at "ce")) Bf))))))⟩)
def ZeS:Cal P w K mg base 4 "_law_is_thing" ["_law_row"] Qi:=by
 have yak:=Vc T;have c__law_corners:=Zfx T;have c__law_is_pattern:=Zef T
 exact cal1 (top 80) ["_law_row","_law_parts","_law_many","_law_head","_law_part"] (by walk_at "D") (λhN f cdv A outer s H E hr=>⟨_,(Ai (Dg (i:=1) hN rfl (Or.inl rfl) (CV PySem.F.slot_str_split PySem.F.type_str_split Ej Em (d_v 0) BZ))
  (Ai (by walk_at "e")
  (Ai (by walk_at "e")
  (Ai (Dg (i:=3) hN rfl (Or.inl rfl) (CV PySem.F.slot_str_split PySem.F.type_str_split Ej Em (Kz (d_v 1) Br) BZ))
  (Ai (by walk_at "e")
  (Ai (by walk_at "e")
  (Ai (by walk_at "e")
  (Ai (by walk_at "e")
  (Ai (by walk_at "e")
  (Az (Bt (J3 (Zpn (d_v 4)) (QK (ZmU FW Ex FW Ex Br (Kz (d_v 4) Br) (Kz (d_v 4) Br)))))))))))))))⟩)
def Zf6:Cal P w K mg base 5 "_law_stands" ["_law_at","_law_row"] Ol:=by
 have yae:=QD T;have yak:=Vc T;have c__law_is_spots:=ZeO T;have c__law_is_thing:=ZeS T
 exact cal1 (top 82) ["_law_at","_law_row","_law_words","_law_numbers"] (by walk_at "D") (λhN f cdv A outer s H E hr=>⟨_,(Ai (Dg (i:=2) hN rfl (Or.inl rfl) (CV PySem.F.slot_str_split PySem.F.type_str_split Ej Em (d_v 1) BZ))
  (Ai (by walk_at "e")
  (Ai (by walk_at "e")
  (Ai (by walk_at "e")
  (Ai (by walk_at "e")
  (Ai (Q4 (i:=3) hN rfl (Or.inl rfl) (own:=["_law_word"]) (cap:=[]) (by walk_at "e") (by walk_at "co") rfl (by walk_at "cg") (by walk_at "ct") (by walk_at "ce"))
  (Az (Bt (J3 (by walk_at "e") (J3 (Zu8 hr Lp (d_v 3)) (QK (ZoK FW Ex FW Ex FW Ex Br (by walk_at "e") (by walk_at "e") Br))))))))))))⟩)
def ZiI:Cal P w K mg base 6 "_law_due" ["_law_text"] S8:=by
 have c__law_stands:=Zf6 T
 exact cal1 (top 83) ["_law_text","_law_rows_here","_law_at"] (by walk_at "D") (λhN f cdv A outer s H E hr=>⟨_,(Ai (Dg (i:=1) hN rfl (Or.inl rfl) (CV PySem.F.slot_str_split PySem.F.type_str_split Ej Em (d_v 0) BZ))
  (by walk_at "e"))⟩)
def Zit:Cal P w K mg base 2 "_law_rows" ["_law_cell"] Ra:=by
 have yaN:=XH T
 exact cal1 (top 74) ["_law_cell","_law_rows_here","_law_some"] (by walk_at "D") (λhN f cdv A outer s H E hr=>⟨_,(Ai (by walk_at "e")
  (Ai (by walk_at "e")
  (Ai (by walk_at "e")
  (Ai (by walk_at "e")
  (Ai (Sq 2 BZ)
  (Ai (Sq 2 BZ)
  (Az (Q5 (Q5 (Bt (Ii (d_v 1) (Dz (own:=["_law_k"]) (cap:=[("_law_some",2),("_law_cell",0)]) (by walk_at "e") (by walk_at "co") rfl (by walk_at "cg") (by walk_at "ct") (by walk_at "ce")))))))))))))⟩)
def YB:Cal P w K mg base 3 "check_text" ["text"] Mw:=by
 obtain ⟨yal,yab,yac⟩:=(Hv T)
 exact cal1 (top 57) ["text"] (by walk_at "D") (λhN f cdv A outer s H E hr=>⟨_,(Az (CJ (by walk_at "e")
  (Az (Ht (G5 yac) hr (by decide) rfl yab (Ay Br Bf)))
  CG))⟩)
def Rj:Cal P w K mg base 1 "is_whole" ["thing"] JL:=by
 exact cal1 (top 9) ["thing"] (by walk_at "D") (λhN f cdv A outer s H E hr=>⟨_,(by walk_at "e")⟩)
def ZdY:Cal P w K mg base 2 "is_between" ["thing","least","most"] Jo:=by
 have yaA:=Rj T;exact cal1 (top 10) ["thing","least","most"] (by walk_at "D") (λhN f cdv A outer s H E hr=>⟨_,(by walk_at "e")⟩)
def ZfZ:Cal P w K mg base 3 "check_floor" ["width","height"] Q7:=by
 have yam:=ZdY T;obtain ⟨yaX,yaG,yaH⟩:=(Z4 T);obtain ⟨tk_MOST_CELLS,Qs⟩:=(Qs T)
 exact cal1 (top 25) ["width","height"] (by walk_at "D") (λhN f cdv A outer s H E hr=>⟨_,(Az (CJ (DW.dt (Ek (HR (Hf (GP yam hr (by decide) rfl Dr (Ay (d_v 0) (Ay Br (Ay (Ls rfl Qs) Bf)))))) (Ir (HR (Hf (GP yam hr (by decide) rfl Dr (Ay (d_v 1) (Ay Br (Ay (Ls rfl Qs) Bf)))))))))
  (by walk_at "e")
  CG))⟩)
def Xv:Cal P w K mg base 3 "words_behind" ["head","row"] Gv:=by
 obtain ⟨yal,yab,yac⟩:=(Hv T)
 exact cal1 (top 49) ["head","row","words"] (by walk_at "D") (λhN f cdv A outer s H E hr=>⟨_,(Ai (Dg (i:=2) hN rfl (Or.inl rfl) (CV PySem.F.slot_str_split PySem.F.type_str_split Ej Em (d_v 1) BZ))
  (Ai (CJ (by walk_at "e")
  (Az (Ht (G5 yac) hr (by decide) rfl yab (Ay Br Bf)))
  CG)
  (by walk_at "e")))⟩)
def Z8:Cal P w K mg base 4 "just_words_behind" ["head","row","count"] Ih:=by
 have yaC:=Xv T;obtain ⟨yal,yab,yac⟩:=(Hv T)
 exact cal1 (top 50) ["head","row","count","words"] (by walk_at "D") (λhN f cdv A outer s H E hr=>⟨_,(Ai (by walk_at "e")
  (Ai (CJ (by walk_at "e")
  (Az (Ht (G5 yac) hr (by decide) rfl yab (Ay Br Bf)))
  CG)
  (by walk_at "e")))⟩)
def Zf0:Cal P w K mg base 1 "are_figures" ["word"] RT:=by
 obtain ⟨tk_FIGURES,Ub⟩:=(Ub T);obtain ⟨tk_MOST_FIGURES,R1⟩:=(R1 T)
 exact cal1 (top 47) ["word"] (by walk_at "D") (λhN f cdv A outer s H E hr=>⟨_,(Ai (CJ (DW.dt (Ek (M4 hr (d_v 0) BZ) (Ir (O5 (by walk_at "e") (Ls rfl R1)))))
  (Az (Bt LQ))
  CG)
  (Ai (CJ (DW.dt (Uq (Hf (CV PySem.F.slot_str_startswith PySem.F.type_str_startswith YD Zgb (d_v 0) BZ)) (by walk_at "e")))
  (Az (Bt LQ))
  CG)
  (Az (Bt (Ea (Jq rfl) Ji rfl (J2 T) Jy (Ay (Dz (own:=["sign"]) (cap:=[]) (ZpG (d_v 0)) (by walk_at "co") rfl (by walk_at "cg") (by walk_at "ct") (λ_ _ _ _ _=>(Zu1 (d_v 0) (ybc rfl Ub)))) Bf))))))⟩)
def O6:Cal P w K mg base 3 "read_number" ["word"] Eo:=by
 have c_are_figures:=Zf0 T;obtain ⟨yal,yab,yac⟩:=(Hv T)
 exact cal1 (top 46) ["word","figures"] (by walk_at "D") (λhN f cdv A outer s H E hr=>⟨_,(Ai (Dg (i:=1) hN rfl (Or.inl rfl) (YL (Hf (CV PySem.F.slot_str_startswith PySem.F.type_str_startswith YD Zgb (d_v 0) BZ)) (MP (d_v 0) (Ny Br) Kd) (d_v 0)))
  (Ai (CJ (by walk_at "e")
  (Az (Ht (G5 yac) hr (by decide) rfl yab (Ay Br Bf)))
  CG)
  (by walk_at "e")))⟩)
def ZeJ:Cal P w K mg base 5 "numbers_behind" ["head","row","count"] N8:=by
 have yav:=Z8 T;have yaf:=O6 T;exact cal1 (top 51) ["head","row","count"] (by walk_at "D") (λhN f cdv A outer s H E hr=>⟨_,(Az (Bt (Np (Gf.blk ⟨rfl,rfl,rfl,rfl⟩) (own:=["word"]) (cap:=[]) (by walk_at "e") (by walk_at "co") rfl (by walk_at "cg") (by walk_at "ct") (by walk_at "ce"))))⟩)
def Zb:Cal P w K mg base 6 "read_floor" ["row"] GZ:=by
 have c_check_floor:=ZfZ T;have c_numbers_behind:=ZeJ T;exact cal1 (top 66) ["row","size"] (by walk_at "D") (λhN f cdv A outer s H E hr=>⟨_,(by walk_at "e")⟩)
def ZdR:Cal P w K mg base 1 "greatest_divisor" ["numbers"] QB:=by
 exact cal1 (top 11) ["numbers","found","number","rest","left"] (by walk_at "D") (λhN f cdv A outer s H E hr=>⟨_,(Ai (by walk_at "e")
  (Ai (LR PassesOwn.leaving rfl (DN (d_v 0)) (by walk_at "e")
  (Ai (by walk_at "e")
  (Az (Ug PassesOwn.leaving (Qe hr (d_v 3) Br)
  (by walk_at "e")))))
  (by walk_at "e")))⟩)
def O2:Cal P w K mg base 2 "is_fraction" ["thing"] Ge:=by
 have yaA:=Rj T;have c_greatest_divisor:=ZdR T;exact cal1 (top 13) ["thing"] (by walk_at "D") (λhN f cdv A outer s H E hr=>⟨_,(by walk_at "e")⟩)
def VB:Cal P w K mg base 4 "read_fraction" ["word"] Er:=by
 have yaf:=O6 T;have yag:=O2 T;obtain ⟨yal,yab,yac⟩:=(Hv T)
 exact cal1 (top 48) ["word","pieces","fraction"] (by walk_at "D") (λhN f cdv A outer s H E hr=>⟨_,(Ai (CJ (ZrP BZ (d_v 0))
  (by walk_at "e")
  CG)
  (Ai (Dg (i:=1) hN rfl (Or.inl rfl) (CV PySem.F.slot_str_partition PySem.F.type_str_partition ZrK Zpf (d_v 0) BZ))
  (Ai (by walk_at "e")
  (Ai (CJ (by walk_at "e")
  (Az (Ht (G5 yac) hr (by decide) rfl yab (Ay Br Bf)))
  CG)
  (by walk_at "e")))))⟩)
def Vi:Cal P w K mg base 5 "read_ground" ["row"] Jm:=by
 have yav:=Z8 T;have yan:=VB T;exact cal1 (top 67) ["row"] (by walk_at "D") (λhN f cdv A outer s H E hr=>⟨_,(by walk_at "e")⟩)
def ZkN:Cal P w K mg base 3 "is_spot" ["thing"] Nx:=by
 have yam:=ZdY T;exact cal1 (top 27) ["thing"] (by walk_at "D") (λhN f cdv A outer s H E hr=>⟨_,(by walk_at "e")⟩)
def Zf2:Cal P w K mg base 4 "check_spots" ["spots"] Q6:=by
 have c_is_spot:=ZkN T;obtain ⟨yaX,yaG,yaH⟩:=(Z4 T);obtain ⟨tk_MOST_SPOTS,T9⟩:=(T9 T)
 exact cal1 (top 26) ["spots"] (by walk_at "D") (λhN f cdv A outer s H E hr=>⟨_,(Ai (CJ (DW.dt (Ek (by walk_at "e") (Ek (by walk_at "e") (Ir (O5 (by walk_at "e") (Ls rfl T9))))))
  (by walk_at "e")
  CG)
  (Ai (CJ (HR (Hf (Ea (Jq rfl) Ji rfl (J2 T) Jy (Ay (Dz (own:=["spot"]) (cap:=[]) (DN (d_v 0)) (by walk_at "co") rfl (by walk_at "cg") (by walk_at "ct") (by walk_at "ce")) Bf))))
  (by walk_at "e")
  CG)
  (Az (CJ (Qe hr (ZoW hr rfl (Q3 T) rfl (ZwT T) (d_v 0)) (by walk_at "e"))
  (by walk_at "e")
  CG))))⟩)
def Zhu:Cal P w K mg base 4 "read_spot" ["word"] Jg:=by
 have yaf:=O6 T;exact cal1 (top 69) ["word"] (by walk_at "D") (λhN f cdv A outer s H E hr=>⟨_,(Az (Bt (Lg VF VD rfl (Ou T) Qn (Ay (Np (Gf.blk ⟨rfl,rfl,rfl,rfl⟩) (own:=["number"]) (cap:=[]) (DN (CV PySem.F.slot_str_split PySem.F.type_str_split Ej Em (d_v 0) BZ)) (by walk_at "co") rfl (by walk_at "cg") (by walk_at "ct") (by walk_at "ce")) Bf))))⟩)
def Zed:Cal P w K mg base 5 "read_spots" ["row"] JS:=by
 have yaC:=Xv T;have c_check_spots:=Zf2 T;have c_read_spot:=Zhu T
 exact cal1 (top 68) ["row","spots"] (by walk_at "D") (λhN f cdv A outer s H E hr=>⟨_,(Ai (R9 (i:=1) hN rfl (Or.inl rfl) ⟨rfl,rfl,rfl,rfl⟩ (own:=["word"]) (cap:=[]) (by walk_at "e") (by walk_at "co") rfl (by walk_at "cg") (by walk_at "ct") (by walk_at "ce"))
  (by walk_at "e"))⟩)
def Zic:Cal P w K mg base 1 "groups_of" ["words"] Oc:=by
 exact cal1 (top 58) ["words","groups","word"] (by walk_at "D") (λhN f cdv A outer s H E hr=>⟨_,(ZsE (i:=1) (j:=2) (k:=0) hN PassesOwn.leaving rfl (by decide) (by decide) rfl (Or.inl rfl) rfl (Or.inl rfl) rfl (M4 hr (d_v 2) BZ))⟩)
def Zf8:Cal P w K mg base 4 "read_corner" ["words"] Js:=by
 have yaf:=O6 T;obtain ⟨yal,yab,yac⟩:=(Hv T)
 exact cal1 (top 59) ["words","numbers"] (by walk_at "D") (λhN f cdv A outer s H E hr=>⟨_,(Ai (CJ (by walk_at "e")
  (Az (Ht (G5 yac) hr (by decide) rfl yab (Ay Br Bf)))
  CG)
  (Ai (R9 (i:=1) hN rfl (Or.inl rfl) ⟨rfl,rfl,rfl,rfl⟩ (own:=["word"]) (cap:=[]) (DN (d_v 0)) (by walk_at "co") rfl (by walk_at "cg") (by walk_at "ct") (by walk_at "ce"))
  (by walk_at "e")))⟩)
def ZdL:Cal P w K mg base 1 "check_before_eye" ["corners"] Mx:=by
 obtain ⟨yaJ,yaw,yax⟩:=(Zn T);exact cal1 (top 21) ["corners","corner"] (by walk_at "D") (λhN f cdv A outer s H E hr=>⟨_,(by walk_at "e")⟩)
def Zhd:Cal P w K mg base 2 "are_values" ["thing"] Qg:=by
 have yaA:=Rj T;obtain ⟨tk_MOST_VALUES,U6⟩:=(U6 T)
 exact cal1 (top 18) ["thing"] (by walk_at "D") (λhN f cdv A outer s H E hr=>⟨_,(Ai (CJ (DW.dt (Ek (by walk_at "e") (Ir (O5 (by walk_at "e") (Ls rfl U6)))))
  (Az (Bt LQ))
  CG)
  (Az (Bt (Ea (Jq rfl) Ji rfl (J2 T) Jy (Ay (Dz (own:=["number"]) (cap:=[]) (DN (d_v 0)) (by walk_at "co") rfl (by walk_at "cg") (by walk_at "ct") (by walk_at "ce")) Bf)))))⟩)
def Zh7:Cal P w K mg base 3 "is_corner" ["thing"] N5:=by
 have yaA:=Rj T;have c_are_values:=Zhd T
 exact cal1 (top 17) ["thing"] (by walk_at "D") (λhN f cdv A outer s H E hr=>⟨_,(Ai (by walk_at "e")
  (Ai (CJ (HR (Hf (Ea (Jq rfl) Ji rfl (J2 T) Jy (Ay (Dz (own:=["number"]) (cap:=[]) (by walk_at "e") (by walk_at "co") rfl (by walk_at "cg") (by walk_at "ct") (by walk_at "ce")) Bf))))
  (Az (Bt LQ))
  CG)
  (by walk_at "e")))⟩)
def Zew:Cal P w K mg base 4 "check_triangle" ["triangle"] Oj:=by
 have c_is_corner:=Zh7 T;obtain ⟨yaJ,yaw,yax⟩:=(Zn T);exact cal1 (top 16) ["triangle","corner"] (by walk_at "D") (λhN f cdv A outer s H E hr=>⟨_,(by walk_at "e")⟩)
theorem ZnM{f:Addr}{fd:FuncData}(F:Fun K "__init__" "Thing.__init__" ZcQ f fd):FnOk P w K mg base (CXR P w) 5 f fd ["self","triangle"] (spI K mg 1 objs Fx):=by
 have c_check_before_eye:=ZdL T;have c_check_triangle:=Zew T
 exact okI F Zco (by decide) rfl (λcdv A outer s H E hr=>have hN:=Zco.nd;⟨_,(JD (by walk_at "e")
  (JD (by walk_at "e")
  (Mi (YT T) (d_v 1)
  OJ)))⟩)
def Rf:CalS P w K mg base 5 "Thing" "__init__" 1 objs Fx:=by
 walk_at "y"; refine' Zv9 (g ?_) ?_ ?_ ?_ ?_ (Fp ?_ ?_ ?_) (ZnM T) (by walk_at "b");walk_at "q"
def Zdb:Cal P w K mg base 3 "check_colour" ["colour"] JN:=by
 have yag:=O2 T;obtain ⟨yaI,yas,yat⟩:=(Uh T);exact cal1 (top 39) ["colour"] (by walk_at "D") (λhN f cdv A outer s H E hr=>⟨_,(by walk_at "e")⟩)
def ZgN:Cal P w K mg base 3 "check_part" ["part"] Og:=by
 have yag:=O2 T;obtain ⟨yaI,yas,yat⟩:=(Uh T);exact cal1 (top 40) ["part"] (by walk_at "D") (λhN f cdv A outer s H E hr=>⟨_,(by walk_at "e")⟩)
theorem ZnZ{f:Addr}{fd:FuncData}(F:Fun K "__init__" "Glass.__init__" Xd f fd):FnOk P w K mg base (CXR P w) 7 f fd ["self","triangle","colour","part"] (spI K mg 3 objs Ot):=by
 have yah:=Rf T;have yaD:=Zdb T;have c_check_part:=ZgN T
 exact okI F Vp (by decide) rfl (λcdv A outer s H E hr=>have hN:=Vp.nd;⟨_,(RG yah hr (by decide) rfl Dr (λ_ h=>h) (Ay (d_v 1) Bf)
  (JD (by walk_at "e")
  (JD (by walk_at "e")
  (Mi (SN T) (d_v 2)
  (Mi (Zk T) (d_v 3)
  OJ)))))⟩)
def ZoN:CalI P w K mg base 7 "Glass" 3 objs Ot:=by
 walk_at "y"; refine' QR (g ?_) ?_ ?_ ?_ ?_ (Fp ?_ ?_ ?_) (ZnZ T) (by walk_at "b") rfl;walk_at "q"
def ZeP:Cal P w K mg base 3 "check_pattern" ["pattern"] Oa:=by
 have yag:=O2 T;obtain ⟨C_BadPattern,yaL,yaM⟩:=(Zh2 T);obtain ⟨ga_COUNTS,go_COUNTS,gi_COUNTS,gn_COUNTS,yaO,yaP,yaQ,yaR,yaS,yaT⟩:=(ZnL T)
 exact cal1 (top 30) ["pattern","row"] (by walk_at "D") (λhN f cdv A outer s H E hr=>⟨_,(Ai (CJ (DW.dt (Ek (by walk_at "e") (Ir (T7 hr (by walk_at "e") (Zqf (ns:=[1,2,4,8,16]) rfl yaO yaP yaQ yaR yaS yaT)))))
  (by walk_at "e")
  CG)
  (Az (LR PassesOwn.leaving rfl (DN (d_v 0)) (by walk_at "e")
  (Ai (CJ (DW.dt (Ek (by walk_at "e") (Ir (T7 hr (by walk_at "e") (Zqf (ns:=[1,2,4,8,16]) rfl yaO yaP yaQ yaR yaS yaT)))))
  (by walk_at "e")
  CG)
  (Ai (by walk_at "e")
  (Az (CJ (HR (Hf (Ea (Jq rfl) Ji rfl (J2 T) Jy (Ay (Dz (own:=["entry"]) (cap:=[]) (DN (d_v 1)) (by walk_at "co") rfl (by walk_at "cg") (by walk_at "ct") (by walk_at "ce")) Bf))))
  (by walk_at "e")
  CG)))))))⟩)
def Xr:Cal P w K mg base 1 "check_values" ["triangle","least"] Jr:=by
 obtain ⟨yaI,yas,yat⟩:=(Uh T)
 exact cal1 (top 38) ["triangle","least"] (by walk_at "D") (λhN f cdv A outer s H E hr=>⟨_,(Az (CJ (by walk_at "e")
  (Az (Ms rfl yas yat (Ay (Zu5 (d_v 1)) Bf)))
  CG))⟩)
def Zm3:Cal P w K mg base 1 "copied" ["pattern"] M7:=by
 exact cal1 (top 31) ["pattern"] (by walk_at "D") (λhN f cdv A outer s H E hr=>⟨_,(Az (Bt (Dz (own:=["row"]) (cap:=[]) (DN (d_v 0)) (by walk_at "co") rfl (by walk_at "cg") (by walk_at "ct") (by walk_at "ce"))))⟩)
theorem Zig{f:Addr}{fd:FuncData}(F:Fun K "__init__" "Patterned.__init__" ZbT f fd):FnOk P w K mg base (CXR P w) 7 f fd ["self","triangle","pattern"] (spI K mg 2 objs Ly):=by
 have yah:=Rf T;have c_check_pattern:=ZeP T;have yaE:=Xr T;have c_copied:=Zm3 T
 exact okI F Zbz (by decide) rfl (λcdv A outer s H E hr=>have hN:=Zbz.nd;⟨_,(RG yah hr (by decide) rfl Dr (λ_ h=>h) (Ay (d_v 1) Bf)
  (JD (by walk_at "e")
  (JD (by walk_at "e")
  (Mi (V8 T) (by walk_at "e")
  OJ))))⟩)
def ZhW:CalI P w K mg base 7 "Patterned" 2 objs Ly:=by
 walk_at "y"; refine' QR (g ?_) ?_ ?_ ?_ ?_ (Fp ?_ ?_ ?_) (Zig T) (by walk_at "b") rfl;walk_at "q"
theorem Zow{f:Addr}{fd:FuncData}(F:Fun K "__init__" "Plain.__init__" Zf f fd):FnOk P w K mg base (CXR P w) 7 f fd ["self","triangle","colour"] (spI K mg 2 objs Mq):=by
 have yah:=Rf T;have yaD:=Zdb T
 exact okI F Zcs (by decide) rfl (λcdv A outer s H E hr=>have hN:=Zcs.nd;⟨_,(RG yah hr (by decide) rfl Dr (λ_ h=>h) (Ay (d_v 1) Bf)
  (JD (by walk_at "e")
  (Mi (SN T) (d_v 2)
  OJ)))⟩)
def Znx:CalI P w K mg base 7 "Plain" 2 objs Mq:=by
 walk_at "y"; refine' QR (g ?_) ?_ ?_ ?_ ?_ (Fp ?_ ?_ ?_) (Zow T) (by walk_at "b") rfl;walk_at "q"
theorem ZlE{f:Addr}{fd:FuncData}(F:Fun K "__init__" "Shaded.__init__" Zcp f fd):FnOk P w K mg base (CXR P w) 7 f fd ["self","triangle"] (spI K mg 1 objs Lh):=by
 have yah:=Rf T;have yaE:=Xr T
 exact okI F Vt (by decide) rfl (λcdv A outer s H E hr=>have hN:=Vt.nd;⟨_,(RG yah hr (by decide) rfl Dr (λ_ h=>h) (Ay (d_v 1) Bf)
  (JD (by walk_at "e")
  OJ))⟩)
def Zms:CalI P w K mg base 7 "Shaded" 1 objs Lh:=by
 walk_at "y"; refine' QR (g ?_) ?_ ?_ ?_ ?_ (Fp ?_ ?_ ?_) (ZlE T) (by walk_at "b") rfl;walk_at "q"
def Zfm:Cal P w K mg base 5 "read_pattern" ["word"] PP:=by
 have yan:=VB T;exact cal1 (top 61) ["word"] (by walk_at "D") (λhN f cdv A outer s H E hr=>⟨_,(Az (Bt (Np (Gf.blk ⟨rfl,rfl,rfl,rfl⟩) (own:=["row"]) (cap:=[]) (DN (CV PySem.F.slot_str_split PySem.F.type_str_split Ej Em (d_v 0) BZ)) (by walk_at "co") rfl (by walk_at "cg") (by walk_at "ct") (λ_ _ _ _ _=>(Np (ZnY ⟨rfl,rfl,rfl,rfl⟩) (own:=["entry"]) (cap:=[]) (DN (CV PySem.F.slot_str_split PySem.F.type_str_split Ej Em (d_v 0) BZ)) (by walk_at "co") rfl (by walk_at "cg") (by walk_at "ct") (by walk_at "ce"))))))⟩)
def ZiD:Cal P w K mg base 9 "thing_of" ["head","triangle"] Ie:=by
 have yan:=VB T;have ci_Glass:=ZoN T;have ci_Patterned:=ZhW T;have ci_Plain:=Znx T;have ci_Shaded:=Zms T;have c_read_pattern:=Zfm T;obtain ⟨yal,yab,yac⟩:=(Hv T)
 exact cal1 (top 60) ["head","triangle"] (by walk_at "D") (λhN f cdv A outer s H E hr=>⟨_,(Ai (CJ (by walk_at "e")
  (Az (Bt (Qo ci_Plain hr (by decide) rfl Dr (by walk_at "e"))))
  CG)
  (Ai (CJ (by walk_at "e")
  (Az (Bt (Qo ci_Shaded hr (by decide) rfl Dr (Ay (d_v 1) Bf))))
  CG)
  (Ai (CJ (by walk_at "e")
  (Az (Bt (Qo ci_Patterned hr (by decide) rfl Dr (by walk_at "e"))))
  CG)
  (Ai (CJ (by walk_at "e")
  (Az (Bt (Qo ci_Glass hr (by decide) rfl Dr (by walk_at "e"))))
  CG)
  (Az (Ht (G5 yac) hr (by decide) rfl yab (Ay Br Bf)))))))⟩)
def ZdV:Cal P w K mg base 10 "read_thing" ["row"] Ib:=by
 have yaU:=YB T;have yaW:=Zic T;have c_read_corner:=Zf8 T;have yaY:=ZiD T;obtain ⟨yal,yab,yac⟩:=(Hv T)
 exact cal1 (top 56) ["row","groups"] (by walk_at "D") (λhN f cdv A outer s H E hr=>⟨_,(Ai (by walk_at "e")
  (Ai (Dg (i:=1) hN rfl (Or.inl rfl) (GP yaW hr (by decide) rfl Dr (Ay (CV PySem.F.slot_str_split PySem.F.type_str_split Ej Em (d_v 0) BZ) Bf)))
  (Ai (CJ (by walk_at "e")
  (Az (Ht (G5 yac) hr (by decide) rfl yab (Ay Br Bf)))
  CG)
  (Az (Bt (GP yaY hr (by decide) rfl Dr (Ay (Kz (d_v 1) Br) (Ay (Lg VF VD rfl (Ou T) Qn (Ay (Np (Gf.blk ⟨rfl,rfl,rfl,rfl⟩) (own:=["words"]) (cap:=[]) (by walk_at "e") (by walk_at "co") rfl (by walk_at "cg") (by walk_at "ct") (by walk_at "ce")) Bf)) Bf))))))))⟩)
def Zkm:Cal P w K mg base 11 "read_at" ["rows","number","read"] Gg:=by
 have yao:=Zb T;have yai:=Vi T;have yap:=Zed T;have yaq:=ZdV T;obtain ⟨yal,yab,yac⟩:=(Hv T);obtain ⟨K_YardError,k_YardError⟩:=(Yp T)
 exact cal1 (top 65) ["rows","number","read"] (by walk_at "D") (λhN f cdv A outer s H E hr=>⟨_,(Ai (CJ (by walk_at "e")
  (Az (Ht (G5 yac) hr (by decide) rfl yab (Ay (d_v 1) Bf)))
  CG)
  (Az (ZoL (hits:=["BadFloor","BadPattern","BadThing","BadTriangle","NoRow"]) (tab:=[("read_floor",GZ),("read_ground",Jm),("read_spots",JS),("read_thing",Ib)]) (i:=2) ⟨rfl,rfl,rfl,rfl⟩ rfl (Or.inl rfl) (List.forall_mem_cons.mpr ⟨yao.mono (by decide),(List.forall_mem_cons.mpr ⟨yai.mono (by decide),(List.forall_mem_cons.mpr ⟨yap.mono (by decide),(List.forall_mem_cons.mpr ⟨yaq.mono (by decide),(λ_ h=>aB h List.not_mem_nil)⟩)⟩)⟩)⟩) hr (Nat.le_refl _) (by walk_at "e") rfl k_YardError ((Zfj T) _ k_YardError) (G5 yac) (by decide) rfl yab (λ_=>(Ay (d_v 1) Bf)))))⟩)
def Zhe:Cal P w K mg base 12 "read_scene" ["text"] Kq:=by
 have yaU:=YB T;have yao:=Zb T;have yai:=Vi T;have yap:=Zed T;have yaq:=ZdV T;have yay:=Zkm T
 exact cal1 (top 64) ["text","rows","size","ground","spots","things"] (by walk_at "D") (λhN f cdv A outer s H E hr=>⟨_,(Ai (by walk_at "e")
  (Ai (Dg (i:=1) hN rfl (Or.inr rfl) (CV PySem.F.slot_str_split PySem.F.type_str_split Ej Em (d_v 0) BZ))
  (Ai (Dg (i:=2) hN rfl (Or.inl rfl) (GP yay hr (by decide) rfl Dr (Ay (d_v 1) (Ay Br (Ay (QX yao rfl) Bf)))))
  (Ai (Dg (i:=3) hN rfl (Or.inl rfl) (GP yay hr (by decide) rfl Dr (Ay (d_v 1) (Ay Br (Ay (QX yai rfl) Bf)))))
  (Ai (Dg (i:=4) hN rfl (Or.inl rfl) (GP yay hr (by decide) rfl Dr (Ay (d_v 1) (Ay Br (Ay (QX yap rfl) Bf)))))
  (Ai (R9 (i:=5) hN rfl (Or.inl rfl) ⟨rfl,rfl,rfl,rfl⟩ (own:=["number"]) (cap:=[("rows",1)]) (Zv6 rfl (Zl9 T) (by walk_at "e")) (by walk_at "co") rfl (by walk_at "cg") (by walk_at "ct") (λ_ _ _ _ _=>(ZlH yay hr (by decide) rfl (Ay (d_v 1) (Ay (d_v 0) (Ay (QX yaq rfl) Bf))))))
  (by walk_at "e")))))))⟩)
def RN:Cal P w K mg base 1 "number_word" ["number"] Ew:=by
 exact cal1 (top 44) ["number","pieces","rest"] (by walk_at "D") (λhN f cdv A outer s H E hr=>⟨_,(Ai (by walk_at "e")
  (Ai (by walk_at "e")
  (Ai (Ug PassesOwn.leaving (by walk_at "e")
  Zqo)
  (Ai (by walk_at "e")
  (Ai (by walk_at "e")
  (Az (Bt (ZlI 1 rfl rfl (Zkq T)))))))))⟩)
def Uo:Cal P w K mg base 2 "fraction_word" ["fraction"] G9:=by
 have yaj:=RN T;exact cal1 (top 45) ["fraction"] (by walk_at "D") (λhN f cdv A outer s H E hr=>⟨_,(by walk_at "e")⟩)
def ZhJ:Cal P w K mg base 2 "pair_word" ["pair"] Nz:=by
 have yaj:=RN T;exact cal1 (top 63) ["pair"] (by walk_at "D") (λhN f cdv A outer s H E hr=>⟨_,(by walk_at "e")⟩)
def Zhg:Cal P w K mg base 1 "numbers_of" ["corner"] PJ:=by
 exact cal1 (top 19) ["corner"] (by walk_at "D") (λhN f cdv A outer s H E hr=>⟨_,(by walk_at "e")⟩)
def Zf3:Cal P w K mg base 2 "corner_text" ["corner"] RJ:=by
 have yaj:=RN T;have c_numbers_of:=Zhg T;exact cal1 (top 55) ["corner"] (by walk_at "D") (λhN f cdv A outer s H E hr=>⟨_,(Az (Bt (CV PySem.F.slot_str_join PySem.F.type_str_join Hm Ho BZ (Ii (by walk_at "e") (Dz (own:=["number"]) (cap:=[]) (by walk_at "e") (by walk_at "co") rfl (by walk_at "cg") (by walk_at "ct") (by walk_at "ce"))))))⟩)
theorem ZfW{f:Addr}{fd:FuncData}(F:Fun K "word" "Plain.word" ZdZ f fd):FnOk P w K mg base (CXR P w) 1 f fd ["self"] (spD K mg 1 Z5):=by
 exact okM F Xz (λb A a s H E d=>have c:=Xz.nd;⟨_,(Az (Bt BZ))⟩)
theorem ZfN{f:Addr}{fd:FuncData}(F:Fun K "word" "Shaded.word" YH f fd):FnOk P w K mg base (CXR P w) 1 f fd ["self"] (spD K mg 1 YG):=by
 exact okM F Xw (λb A a s H E d=>have c:=Xw.nd;⟨_,(Az (Bt BZ))⟩)
theorem ZdU{f:Addr}{fd:FuncData}(F:Fun K "word" "Patterned.word" W5 f fd):FnOk P w K mg base (CXR P w) 1 f fd ["self"] (spD K mg 1 Zg):=by
 exact okM F Zct (λb A a s H E d=>have c:=Zct.nd;⟨_,(Az (Bt BZ))⟩)
theorem Zf4{f:Addr}{fd:FuncData}(F:Fun K "word" "Glass.word" V1 f fd):FnOk P w K mg base (CXR P w) 1 f fd ["self"] (spD K mg 1 Zw):=by
 exact okM F ZdH (λb A a s H E d=>have c:=ZdH.nd;⟨_,(Az (Bt BZ))⟩)
def Zsl:Hn P w K mg base 1 0 "word" Wh:=by
 walk_at "y"; refine' Hn.cons (RQ (g ?_) ⟨?_,?_,?_,?_⟩ ?_ ?_ (Fp ?_ ?_ ?_) (ZfW T) (by walk_at "b") (by decide) rfl) (.cons (RQ (g ?_) ⟨?_,?_,?_,?_⟩ ?_ ?_ (Fp ?_ ?_ ?_) (ZfN T) (by walk_at "b") (by decide) rfl) (.cons (RQ (g ?_) ⟨?_,?_,?_,?_⟩ ?_ ?_ (Fp ?_ ?_ ?_) (ZdU T) (by walk_at "b") (by decide) rfl) (.cons (RQ (g ?_) ⟨?_,?_,?_,?_⟩ ?_ ?_ (Fp ?_ ?_ ?_) (Zf4 T) (by walk_at "b") (by decide) rfl) .nil)));walk_at "q"
def ZfC:Cal P w K mg base 3 "pattern_word" ["pattern"] Qk:=by
 have yar:=Uo T;exact cal1 (top 54) ["pattern"] (by walk_at "D") (λhN f cdv A outer s H E hr=>⟨_,(Az (Bt (CV PySem.F.slot_str_join PySem.F.type_str_join Hm Ho BZ (Dz (own:=["row"]) (cap:=[]) (DN (d_v 0)) (by walk_at "co") rfl (by walk_at "cg") (by walk_at "ct") (λ_ _ _ _ _=>(CV PySem.F.slot_str_join PySem.F.type_str_join Hm Ho BZ (Dz (own:=["entry"]) (cap:=[]) (DN (d_v 0)) (by walk_at "co") rfl (by walk_at "cg") (by walk_at "ct") (by walk_at "ce"))))))))⟩)
def ZgY:Cal P w K mg base 4 "head_words" ["thing"] QS:=by
 have yar:=Uo T;have cm_word:=Zsl T;have c_pattern_word:=ZfC T
 exact cal1 (top 53) ["thing","word"] (by walk_at "D") (λhN f cdv A outer s H E hr=>⟨_,(Ai (Dg (i:=1) hN rfl (Or.inl rfl) (ZqY cm_word hr (by decide) Dr (d_v 0)))
  (by walk_at "e"))⟩)
def Zg2:Cal P w K mg base 5 "thing_text" ["thing"] Oi:=by
 have c_corner_text:=Zf3 T;have c_head_words:=ZgY T;exact cal1 (top 52) ["thing"] (by walk_at "D") (λhN f cdv A outer s H E hr=>⟨_,(Az (Bt (CV PySem.F.slot_str_join PySem.F.type_str_join Hm Ho BZ (Ii (by walk_at "e") (Dz (own:=["corner"]) (cap:=[]) (by walk_at "e") (by walk_at "co") rfl (by walk_at "cg") (by walk_at "ct") (by walk_at "ce"))))))⟩)
def ZgI:Cal P w K mg base 6 "scene_text" ["scene"] O7:=by
 have yaj:=RN T;have yar:=Uo T;have c_pair_word:=ZhJ T;have c_thing_text:=Zg2 T
 exact cal1 (top 62) ["scene","rows"] (by walk_at "D") (λhN f cdv A outer s H E hr=>⟨_,(Ai (Dg (i:=1) hN rfl (Or.inl rfl) (WW (Ay (CV PySem.F.slot_str_join PySem.F.type_str_join Hm Ho BZ (by walk_at "e")) (Ay (CV PySem.F.slot_str_join PySem.F.type_str_join Hm Ho BZ (by walk_at "e")) (Ay (CV PySem.F.slot_str_join PySem.F.type_str_join Hm Ho BZ (Ii (by walk_at "e") (Dz (own:=["spot"]) (cap:=[]) (by walk_at "e") (by walk_at "co") rfl (by walk_at "cg") (by walk_at "ct") (by walk_at "ce")))) Bf)))))
  (Az (Bt (CV PySem.F.slot_str_join PySem.F.type_str_join Hm Ho BZ (Ii (d_v 1) (Dz (own:=["thing"]) (cap:=[]) (by walk_at "e") (by walk_at "co") rfl (by walk_at "cg") (by walk_at "ct") (by walk_at "ce")))))))⟩)
def ZgK:Cal P w K mg base 13 "_law_right" ["_law_cell"] Pk:=by
 have yaF:=Zfp T;have c__law_due:=ZiI T;have c__law_rows:=Zit T;have yaV:=Zhe T;have c_scene_text:=ZgI T;obtain ⟨K_NoRow,k_NoRow⟩:=(ZrZ T);obtain ⟨K_YardError,k_YardError⟩:=(Yp T)
 exact cal1 (top 84) ["_law_cell","_law_text","_law_due_here","_law_error","e"] (by walk_at "D") (λhN f cdv A outer s H E hr=>⟨_,(Ai (Dg (i:=1) hN rfl (Or.inl rfl) (GP yaF hr (by decide) rfl Dr (Ay (CV PySem.F.slot_str_join PySem.F.type_str_join Hm Ho BZ (by walk_at "e")) (Ay (d_v 0) Bf))))
  (Ai (by walk_at "e")
  (Ai (by walk_at "e")
  (Ai (ZtJ (hits:=["BadFloor","BadPattern","BadThing","BadTriangle","NoRow"]) (i:=4) rfl rfl yaV hr (by decide) rfl (Ay (d_v 1) Bf) rfl k_YardError ((Zfj T) _ k_YardError) hN rfl rfl rfl (λ_=>
  (by walk_at "e")))
  (Ai (by walk_at "e")
  (Az (Bt (J3 (Ea Zok (Zmx (tab T)) rfl (Ru T) Vd (Ay (d_v 3) (Ay (Zwg rfl k_NoRow) Bf))) (J3 (Zs9 (Ea ZhO Ws rfl (Ru T) Vd (Ay (WT (at_ T) (d_v 3)) (by walk_at "e")))) (QK (ya7 hr (WT (at_ T) (d_v 3)) (d_v 2))))))))))))⟩)
theorem Ztw{f:Addr}{fd:FuncData}(F:Fun K "law" "law" Kl f fd):FnOk P w K mg base (CXR P w) 14 f fd ["_law_script"] (spD K mg 1 Ua):=by
 have c__law_cell_at:=Zfa T;have c__law_right:=ZgK T;exact okD F W8 (λcdv A outer s H E hr=>have hN:=W8.nd;⟨_,(by walk_at "e")⟩)
end
def ZqP{w:World}{h:Heap}{mg:Str->Option Value}{fa:Addr}(X:(Hd.heap w.params).In h)(G:h.Ns mainGlobals mg)(hfa:mg "law"=some (.ref fa)):∃fd:FuncData,(∀(s:Shared) (v:Value),BindsTo s fd ⟨[v],[]⟩ [("_law_script",v)])/\∀base:Heap,(Hd.heap w.params).In base->base.Ns mainGlobals mg->FnOk PySem.Challenge.rw_sampleyard_k85_whole_texts_by_signs.prog w (Hd.heap w.params) mg base (CXR PySem.Challenge.rw_sampleyard_k85_whole_texts_by_signs.prog w) 14 fa fd ["_law_script"] (Pg (Hd.heap w.params)):=by
 have g:∀{x:Str} {v:Option Value},W.nsIn (Hd.heap w.params) mainGlobals x=some v->mg x=v:=λ{x v} e=>by
  cases v with
  | none=>exact W.mg_none_of X G e
  | some u=>exact W.mg_of X G e
 refine' lawK (g ?_) hfa ?_ ?_ ?_ λbase fd F=>(Ztw ⟨rfl,g⟩ F).imp (Zs3 Zn2);walk_at "q"
def walk{l:W.OpenLaw}{q:Program}{loose:List Str}{XP:(Str->Option Value)->Heap->Prop}{YP:World->Heap->Prop}{d:DefRec}{K:Params->W.Frag}(hn:l.most=some 63)(hdf:d.params.defaults=[])
  (hY:∀(w:World) (h:Heap),YP w h->(K w.params).In h)
  (F:∀(w:World) (mg:Str->Option Value) (fa:Addr) (h:Heap),(K w.params).In h->h.Ns mainGlobals mg->mg d.name=some (.ref fa) ->
   ∃fd:FuncData,(∀(s:Shared) (u:Value),BindsTo s fd ⟨[u],[]⟩ [("_law_script",u)])/\∀base:Heap,(K w.params).In base->base.Ns mainGlobals mg->FnOk l.prog w (K w.params) mg base (CXR l.prog w) 14 fa fd ["_law_script"] (Pg (K w.params))) :
  W.WalkO q loose XP YP l.row.toRowW d [] (λf vs=>PySem.call f vs) :=
 L2.Zrw (n:=63) (k:=14) (x:="_law_script") (CX:=λw=>CXR l.prog w) (sp:=λw=>Pg (K w.params)) hn (by decide) hdf ⟨rfl,by decide,by decide⟩ hY F (λ_ _ a b c _ e=>⟨a,b,rfl,e,c,λ_=>rfl⟩) λ_ _ _ _ _ z=>Ztp z
end My
open PySem PySem.W PyProof.Rows
set_option maxRecDepth 100000 in
set_option maxHeartbeats 0 in
theorem PySem.Challenge.cw_sampleyard_k85_whole_texts_by_signs_holds : PySem.Challenge.rw_sampleyard_k85_whole_texts_by_signs.Holds := by
 w_on;refine holds_law Hd.said λsaid=>?_
 refine holds_open (r:=PySem.Challenge.rw_sampleyard_k85_whole_texts_by_signs.row) (q:=Hd.view) (loose:=[]) (Xt:=(λs=>xlAt Hd.view [] s&&recOk (RowW.records PySem.Challenge.rw_sampleyard_k85_whole_texts_by_signs.row.toRowW) s)) (XP:=XL Hd.view []) (Yf:=Hook.obs (kHook Hd.heap Hd.addrs Hd.Ks)) (Ya:=Hook.val (kHook Hd.heap Hd.addrs Hd.Ks)) (YP:=Hook.says (kHook Hd.heap Hd.addrs Hd.Ks)) (N:=Hd.most) Hd.left (Hook.of (kHook Hd.heap Hd.addrs Hd.Ks)) (Hook.keeps (kHook Hd.heap Hd.addrs Hd.Ks)) (λs e=>xl_of s (Bool.and_eq_true_iff.mp e).1) XL.keeps (by rfl) (by rfl) (by rfl) (λs e=>recFacts_of (Bool.and_eq_true_iff.mp e).2) (by rfl) (by assumption) Hd.okO Hd.bar ?hw ?hc
 case hw=>w_witness2
 exact My.walk (l:=PySem.Challenge.rw_sampleyard_k85_whole_texts_by_signs) rfl rfl (λw h Y0=>W.kIn_of Y0) λw mg fa h KX G hmg=>My.ZqP KX G hmg
